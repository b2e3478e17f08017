import Derived.Test.YtkenknfgeoecbaaGreatDoorJ31
import Derived.Laws.AppendOwnNone
namespace Go.Proofs.YtkenknfgeoecbaaGreatDoor
open Go.RowKit
set_option maxHeartbeats 4000000
set_option maxRecDepth 100000
theorem Ybp (ns:List Int)(x:Int)(v:Value)(w:World)(h:Rs w v ns)(hn:ns.length≤1000000):Calls Tryz.prog 9 #[v,.int .i64 x] w fun e w'=>e=.returned (.bool (decide (x ∈ ns)))∧w'=w:=by
 by_cases hne:ns=[]
 ·obtain⟨p,cap,rfl⟩:∃ p cap,v=.slice p 0 cap:=by
   rcases h with⟨_,p,cap,e⟩ | ⟨sb,so,cap,e,_⟩
   ·exact⟨p,cap,e⟩
   ·rw [hne] at e; exact⟨_,_,e⟩
  subst hne;clear h;go_enter Tryz.func9,Tryz.ntmps9
  go_wp2_with fail
  refine wp_loop_rounds 1 ?_;rw [rounds_succ];go_wp2;go_ret;exact⟨by simp,rfl⟩
 ·obtain⟨sb,so,cap,rfl,hc⟩:=h.get hne;have HC:=Ze hc;clear h hc;go_enter Tryz.func9,Tryz.ntmps9
  go_wp2_with fail
  go_loopw [9] (fun j w'=>∃ k:Nat,j=.int .i64 k∧k≤ns.length∧w'=w∧¬ x ∈ ns.take k) (fun j _=>ns.length-(intOf j).toNat)
  case atStart=>exact⟨0,rfl,by omega,rfl,by simp⟩
  case round =>
   obtain⟨k,rfl,hk,rfl,hno⟩:=hrel;have HN:=Ze hno;clear hno;by_cases hlt:k<ns.length
   ·have c:=Zb HC k hlt;by_cases hx:ns.getD k 0=x
    ·rw [hx] at c;have hm:=Ze (Zkh hlt hx);clear hx;go_wp2;go_ret;exact⟨by simp [Zb hm],rfl⟩
    ·have HT:=Ze (Zhe hlt (Zb HN) hx);generalize hy:ns.getD k 0=y at c hx;have z:(y==x)=false:=by simpa using hx
     clear hy;go_wp2;go_roundw
     case rel=>exact⟨k+1,by go_num,by omega,trivial,Zb HT⟩
     case measure=>simp [intOf]; omega
   ·obtain rfl:k=ns.length:=by omega
    have HT:=Ze (show ¬ x ∈ ns by have:=Zb HN; rwa [List.take_length] at this);go_wp2;go_ret;exact⟨by simp [Zb HT],rfl⟩
def SpO (w:World)(B:Nat)(v:Value)(xs:List (Int×Int)):Prop:=w.ownsRow B 54 2 v xs.length (Rr xs)
theorem Zbo {w:World}{B e:Nat}{v:Value}{xs:List (Int×Int)}(h:w.ownsRow B e 2 v xs.length (Rr xs)){k:Nat}(hk:k<xs.length):∃ g c,v=.slice (some ⟨g,0,none⟩) xs.length c∧xs.length≤c∧B≤g∧g<w.heap.size∧w.cell? ⟨g,k*2,none⟩=some (.int .i64 (xs.getD k (0,0)).1)∧w.cell? ⟨g,k*2+1,none⟩=some (.int .i64 (xs.getD k (0,0)).2):=by
 obtain⟨g,c,e,hB,hl,hc⟩:=Ry h (by omega);refine⟨g,c,e,?_,hB,hl,(hc _ (by omega)).trans (Zbi xs k hk).1,(hc _ (by omega)).trans (Zbi xs k hk).2⟩;rcases h.2 with⟨-,e0⟩ | ⟨g',cap,cur,e',-,-,h1,-⟩
 ·omega
 ·rw [e] at e';injection e' with _ _ e3;omega
theorem Yge {xs:List (Int×Int)}(h:ApS xs){k:Nat}(hk:k<xs.length):0≤(xs.getD k (0,0)).1∧(xs.getD k (0,0)).1≤(xs.getD k (0,0)).2∧(xs.getD k (0,0)).1 % 8=0:=h.one _ (by rw [List.getD_eq_getElem?_getD,List.getElem?_eq_getElem hk]; exact List.getElem_mem hk)
theorem Ydu {xs:List (Int×Int)}(h:ApS xs){j k:Nat}(hj:j<k)(hk:k<xs.length):(xs.getD j (0,0)).2≤(xs.getD k (0,0)).1:=by have:=List.pairwise_iff_getElem.1 h.two j k (by omega) hk hj;rw [List.getD_eq_getElem?_getD,List.getElem?_eq_getElem (by omega),List.getD_eq_getElem?_getD,List.getElem?_eq_getElem hk];exact this
theorem Zon (xs:List (Int×Int))(v:Value)(B:Nat)(w:World)(h:SpO w B v xs)(ha:ApS xs):Calls Tryz.prog 13 #[v] w fun e w'=>e=.returned (.bool true)∧Below w.heap.size w w':=by
 obtain⟨pv,cv,hv⟩:=Zr h;subst hv;have hn':=Zxz h;have HS:=Za h;have HA:=Za ha;clear h ha;go_enter Tryz.func13,Tryz.ntmps13
 go_wp2_with fail
 go_loopw [9] (fun j w'=>∃ k:Nat,j=.int .i64 k∧k≤xs.length∧Below w.heap.size w w') (fun j _=>xs.length-(intOf j).toNat)
 case atStart=>exact⟨0,rfl,by omega,Below.refl _ _⟩
 case round =>
  obtain⟨k,rfl,hk,hb⟩:=hrel;by_cases hlt:k<xs.length
  ·obtain⟨g,c,e1,hc,hB,hg,c1,c2⟩:=Zbo (J HS) hlt;injection e1 with e1 _ e3;subst e1 e3;have a3:=Yge (J HA) hlt;have A2:=Za (fun j (hj:j<k)=>Ydu (J HA) hj hlt);have C:=Za (fun j (hj:j<xs.length)=>Zbo (J HS) hj);have c1':=(hb.cell (p:=⟨g,k*2,none⟩) hg).trans c1;have c2':=(hb.cell (p:=⟨g,k*2+1,none⟩) hg).trans c2;generalize xs.getD k (0,0)=y at a3 A2 c1' c2';obtain⟨y1,y2⟩:=y;simp only at a3 A2 c1' c2';obtain⟨q1,q2,q3⟩:=a3;have q4:(y1 % 8 != 0)=false:=by simp [q3]
   clear q3;have HB:=Za hb;have hx:=al0 wr (.cells #[.int .i64 y1,.int .i64 y2] 54 (0,0));have HX:=Za hx;have hzr:=hb.size;clear c1 c2 hb hx;go_wp2_with fail
   clear c1' c2';have HX2:=Za (J HX).1;have HX3:=Za (show Below w.heap.size w _ from Zd (J HB) (J HX).2.1 hzr);have HX4:=Za (Zi (J HX).1);clear HX HB;generalize World.alloc wr _=W1 at HX2 HX3 HX4 ⊢;generalize wr.heap.size=za at HX2 HX4 hzr ⊢;go_loopw [34] (fun j w'=>∃ i:Nat,j=.int .i64 i∧i≤k∧Below W1.heap.size W1 w') (fun j _=>k-(intOf j).toNat)
   case atStart=>exact⟨0,rfl,by omega,Below.refl _ _⟩
   case round =>
    obtain⟨i,rfl,hi,hbi⟩:=hrel;have HBI:=Za (Zd (J HX3) hbi (by have:=(J HX3).size; omega));by_cases hik:i<k
    ·obtain⟨g',c',e1',-,-,hg',d1,d2⟩:=J C i (by omega);injection e1' with e1' _ e3';injection e1' with e1';injection e1' with e1' _ _;subst e1' e3';have a2:=J A2 i hik;have d1':=((J HBI).cell (p:=⟨g,i*2,none⟩) hg').trans d1;have d2':=((J HBI).cell (p:=⟨g,i*2+1,none⟩) hg').trans d2;have ra:=(hbi.block za (J HX4)).trans (J HX2);have r1:=cR ra 0;have r2:=cR ra 1;generalize xs.getD i (0,0)=z at a2 d1' d2';obtain⟨z1,z2⟩:=z;simp only at a2 d1' d2';have hal:=al0 wr (.cells #[.int .i64 z1,.int .i64 z2] 54 (0,0));have HAL:=Za (Zd hbi hal.2.1 hbi.size);have r1':(wr.alloc (.cells #[.int .i64 z1,.int .i64 z2] 54 (0,0))).cell? ⟨za,0,none⟩=some (.int .i64 y1):=(hal.2.1.cell (p:=⟨za,0,none⟩) (Zi ra)).trans r1;have r2':(wr.alloc (.cells #[.int .i64 z1,.int .i64 z2] 54 (0,0))).cell? ⟨za,1,none⟩=some (.int .i64 y2):=(hal.2.1.cell (p:=⟨za,1,none⟩) (Zi ra)).trans r2;clear d1 d2 ra hal hbi;go_wp2;go_roundw
     case rel=>exact⟨i+1,by go_num,by omega,J HAL⟩
     case measure=>simp [intOf]; omega
    ·obtain rfl:i=k:=by omega
     clear hbi;go_wp2;go_roundw
     case rel=>exact⟨i+1,by go_num,by omega,J HBI⟩
     case measure=>simp [intOf]; omega
  ·obtain rfl:k=xs.length:=by omega
   go_wp2;go_ret;exact⟨rfl,hb⟩
theorem Zdf (l:List (Int×Int))(p:Int×Int):Kq (l++[p])=Kq l++(if p.1<0 then [] else [p.1]):=by
 rw [Cx];congr 1
 unfold Kq;by_cases h:p.1<0 <;> simp [h] <;> omega
theorem Ziz (l:List (Int×Int))(p:Int×Int):Di (l++[p])=Di l++(if p.1<0 then [(p.2,p.2+8)] else []):=by
 rw [Zbr];congr 1
 unfold Di;by_cases h:p.1<0 <;> simp [h] <;> omega
theorem Zfh {xs:List (Int×Int)}{k:Nat}(h:k<xs.length):xs.take (k+1)=xs.take k++[xs.getD k (0,0)]:=by rw [List.take_add_one,List.getElem?_eq_getElem h,List.getD_eq_getElem?_getD,List.getElem?_eq_getElem h];rfl
theorem Zzp (l:List (Int×Int)):(Kq l).length≤l.length:=by unfold Kq;rw [List.length_map];exact List.length_filter_le _ _
theorem Zgo (l:List (Int×Int)):(Di l).length≤l.length:=by unfold Di;rw [List.length_map];exact List.length_filter_le _ _
theorem Zzq {list:List Int}{xs:List (Int×Int)}(h:Zmn list xs){k:Nat}(hk:k<xs.length)(hn:¬ (xs.getD k (0,0)).1<0):((xs.getD k (0,0)).1 ∈ list∧(xs.getD k (0,0)).2=0)∧(xs.getD k (0,0)).1 ∉ Kq (xs.take k):=by
 have hm:xs.getD k (0,0) ∈ xs:=by rw [List.getD_eq_getElem?_getD,List.getElem?_eq_getElem hk]; exact List.getElem_mem hk
 refine⟨h.reg _ hm hn,fun hc=>?_⟩;have hs:=h.nd;rw [← List.take_append_drop (k+1) xs,Cx,Zfh hk,Zdf,if_neg hn] at hs;have h1:=(List.nodup_append.1 hs).1;have:=(List.nodup_append.1 h1).2.2 _ hc _ (List.mem_singleton.2 rfl);exact this rfl
theorem Tryz.infoSpan:(Tryz.prog.info? 54).map (fun i=>(i.zero,i.size,i.bytes))=some (some (.agg #[.int .i64 0,.int .i64 0]),2,16):=by kernel_rfl
theorem Ybq {V:World}{g:Nat}{cs:Array Value}{t:TypeId}{fr:Nat×Nat}(h:V.heap[g]?=some (.cells cs t fr)):∀ j u,cs.toList[j]?=some u→V.cell? (Addr.add ⟨g,0,none⟩ j)=some u:=fun j u hj=>by
 rw [Addr.add_lit,Nat.zero_add,Zh h j,← Array.getElem?_toList];exact hj
theorem Zoo (xs:List (Int×Int))(list:List Int)(v lv:Value)(B:Nat)(w:World)(h:Uu w B v xs)(hl:Rs w lv list)(hn:list.length≤1000000)(hx:xs.length≤100000)(hok:Zmn list xs)(hbd:∀ k,k<xs.length→0≤(xs.getD k (0,0)).2∧(xs.getD k (0,0)).2≤1000000) :
 Calls Tryz.prog 12 #[v,lv] w fun e w'=>∃ ov,e=.returned (.tuple #[ov,.bool true])∧SpO w' w.heap.size ov (Di xs)∧Below w.heap.size w w':=by
 obtain⟨ti,hti,hty0,hty1,hty2⟩:=Js Tryz.infoInt;obtain⟨ts,hts,hsy0,hsy1,hsy2⟩:=Js Tryz.infoSpan;obtain⟨pv,cv,hv⟩:=Zr h;subst hv;obtain⟨lp,lc,hlv⟩:=hl.shape;subst hlv;have HS:=Za h;have HL:=Za hl;have HO:=Za hok;have HD:=Za hbd;clear h hl hok hbd;go_enter Tryz.func12,Tryz.ntmps12
 go_wp2_with fail
 go_loopw [12,6,7] (fun j ov rv w'=>∃(k:Nat) (o r:Value),j=.int .i64 k∧ov=o∧rv=r∧k≤xs.length∧SpO w' w.heap.size o (Di (xs.take k))∧w'.ownsRow w.heap.size 3 1 r (Kq (xs.take k)).length (iC (Kq (xs.take k)))∧Below w.heap.size w w') (fun j _ _ _=>xs.length-(intOf j).toNat)
 case atStart=>exact⟨0,_,_,rfl,rfl,rfl,by omega,World.ownsRow_nil _ _ _ _,World.ownsRow_nil _ _ _ _,Below.refl _ _⟩
 case round =>
  obtain⟨k,o0,r0,rfl,rfl,rfl,hk,ho,hr,hb⟩:=hrel;obtain⟨op,oc,rfl⟩:=Zr ho;obtain⟨rp,rc,rfl⟩:=Zr hr;have hz:=hb.size;have HOW:=Za ho;have HRW:=Za hr;have HB:=Za hb;by_cases hlt:k<xs.length
  ·obtain⟨g,c,e1,hc,hB,hg,c1,c2⟩:=Zbo (J HS) hlt;injection e1 with e1 _ e3;subst e1 e3;have hbd:=J HD k hlt;have HNW:=Za (fun hn=>Zzq (J HO) hlt hn);have HT:=Za (Zfh hlt);have c1':=(hb.cell (p:=⟨g,k*2,none⟩) hg).trans c1;have c2':=(hb.cell (p:=⟨g,k*2+1,none⟩) hg).trans c2;have hsl:=Nat.le_trans (Zgo (xs.take k)) (List.length_take_le _ _);have hrl:=Nat.le_trans (Zzp (xs.take k)) (List.length_take_le _ _);generalize xs.getD k (0,0)=y at hbd HNW HT c1' c2';obtain⟨y1,y2⟩:=y;simp only at hbd HNW c1' c2';clear c1 c2 hb ho hr;have hal:=al0 wr (.cells #[.int .i64 y1,.int .i64 y2] 34 (0,0));have HAL:=Za hal;clear hal;by_cases hneg:y1<0
   ·have HSX:=Za (Ziz (xs.take k) (y1,y2));have HRX:=Za (Zdf (xs.take k) (y1,y2));have HXY:=Za (show Di (xs.take (k+1))=Di (xs.take k)++[(y2,y2+8)]∧Kq (xs.take (k+1))=Kq (xs.take k) by rw [J HT,J HSX,J HRX,if_pos hneg,if_pos hneg,List.append_nil]; exact⟨rfl,rfl⟩);go_wp2_with (at_builtin; refine wpList_append_own _ rfl _ _ 50 rfl w.heap.size 54 ts _ 2 16 Tryz.underlying50 hts hsy0 hsy1 hsy2 rfl (by decide) _ _ _ rfl (World.ownsRow.alloc (World.ownsRow.alloc (J HOW) _) _) ⟨wr.heap.size+1,0,none⟩ 1 1 [.int .i64 y2,.int .i64 (y2+8)] rfl rfl ?s2 (by intro u hu; simp at hu; rcases hu with rfl | rfl <;> rfl) ?s3 ?s4 ?s5 ?_)
    case s3=>unfold maxLen; omega
    case s4=>omega
    case s5=>first | omega | (simp; omega)
    intro v7 w7 hown7 hgr7 _;obtain⟨p7,q7,rfl⟩:=Zr hown7;have h2:=Mi wr (.cells #[.int .i64 y1,.int .i64 y2] 34 (0,0)) (.cells #[.int .i64 y2,.int .i64 (y2+8)] 54 (0,0));have HOX:=Za (show SpO w7 w.heap.size (.slice p7 ((Di (xs.take k)).length+1) q7) (Di (xs.take (k+1))) by unfold SpO; rw [(J HXY).1,Zcf,List.length_append]; exact hown7);have HRX2:=Za (show w7.ownsRow w.heap.size 3 1 (.slice rp (Kq (xs.take k)).length rc) (Kq (xs.take (k+1))).length (iC (Kq (xs.take (k+1)))) by rw [(J HXY).2]; exact Yd (World.ownsRow.alloc (World.ownsRow.alloc (J HRW) _) _) hgr7 (fun g hv hv'=>Lw (J HRW) (J HOW) (by decide) g hv hv'));have HBX:=Za (show Below w.heap.size w w7 from⟨hgr7.os.trans (h2.2.2.1.os.trans (J HB).os),hgr7.tape.trans (h2.2.2.1.tape.trans (J HB).tape),hgr7.output.trans (h2.2.2.1.output.trans (J HB).output),by have:=hgr7.size; have:=h2.2.2.1.size; omega,fun q hq=>(hgr7.block q (by have:=h2.2.2.2; omega) (fun e=>by have:=((J HOW).lt q e.symm).1; omega)).trans ((h2.2.2.1.block q (by omega)).trans ((J HB).block q hq))⟩);clear hown7 hgr7 h2;go_wp2;go_roundw
    case rel=>exact⟨k+1,_,_,by go_num,rfl,rfl,by omega,J HOX,J HRX2,J HBX⟩
    case measure=>simp [intOf]; omega
   ·obtain⟨⟨m1,m2⟩,m3⟩:=J HNW hneg;have HXY:=Za (show Di (xs.take (k+1))=Di (xs.take k)∧Kq (xs.take (k+1))=Kq (xs.take k)++[y1] by rw [J HT,Ziz,Zdf]; simp only; rw [if_neg hneg,if_neg hneg,List.append_nil]; exact⟨rfl,rfl⟩);have HH1:=Za (Ybp list y1 (.slice lp list.length lc) (wr.alloc (.cells #[.int .i64 y1,.int .i64 y2] 34 (0,0))) ((J HL).below (Zd (J HB) (J HAL).2.1 hz)) hn);have HH2:=Za (Ybp (Kq (xs.take k)) y1 (.slice rp (Kq (xs.take k)).length rc) (wr.alloc (.cells #[.int .i64 y1,.int .i64 y2] 34 (0,0))) (Of (World.ownsRow.alloc (J HRW) _)) (by omega));rw [decide_eq_true m1] at HH1;rw [decide_eq_false m3] at HH2;subst m2;clear m1 m3 HNW;go_wp2_with fail
    refine(J HH1).mono ?_;rintro e w1 ⟨rfl,hw1⟩;subst hw1;clear HH1;go_wp2_with fail
    refine(J HH2).mono ?_;rintro e w2 ⟨rfl,hw2⟩;subst hw2;clear HH2;go_wp2_with (at_builtin; refine wpList_append_own _ rfl _ _ 23 rfl w.heap.size 3 ti _ 1 8 Tryz.underlying23 hti hty0 hty1 hty2 rfl (by decide) _ _ _ rfl (World.ownsRow.alloc (World.ownsRow.alloc (J HRW) _) _) ⟨wr.heap.size+1,0,none⟩ 1 1 [.int .i64 y1] rfl rfl ?r2 (by intro u hu; simp at hu; subst hu; rfl) ?r3 ?r4 ?r5 ?_)
    case r2=>exact Ybq (heap_alloc2_new _ _ _)
    case r3=>unfold maxLen; omega
    case r4=>omega
    case r5=>first | omega | (simp; omega)
    intro v7 w7 hown7 hgr7 _;obtain⟨p7,q7,rfl⟩:=Zr hown7;have h2:=Mi wr (.cells #[.int .i64 y1,.int .i64 0] 34 (0,0)) (.cells #[.int .i64 y1] 3 (0,0));have HRX2:=Za (show w7.ownsRow w.heap.size 3 1 (.slice p7 ((Kq (xs.take k)).length+1) q7) (Kq (xs.take (k+1))).length (iC (Kq (xs.take (k+1)))) by rw [(J HXY).2,Zoa,List.length_append]; exact hown7);have HOX:=Za (show SpO w7 w.heap.size (.slice op (Di (xs.take k)).length oc) (Di (xs.take (k+1))) by unfold SpO; rw [(J HXY).1]; exact Yd (World.ownsRow.alloc (World.ownsRow.alloc (J HOW) _) _) hgr7 (fun g hv hv'=>Lw (J HOW) (J HRW) (by decide) g hv hv'));have HBX:=Za (show Below w.heap.size w w7 from⟨hgr7.os.trans (h2.2.2.1.os.trans (J HB).os),hgr7.tape.trans (h2.2.2.1.tape.trans (J HB).tape),hgr7.output.trans (h2.2.2.1.output.trans (J HB).output),by have:=hgr7.size; have:=h2.2.2.1.size; omega,fun q hq=>(hgr7.block q (by have:=h2.2.2.2; omega) (fun e=>by have:=((J HRW).lt q e.symm).1; omega)).trans ((h2.2.2.1.block q (by omega)).trans ((J HB).block q hq))⟩);clear hown7 hgr7 h2;go_wp2;go_roundw
    case rel=>exact⟨k+1,_,_,by go_num,rfl,rfl,by omega,J HOX,J HRX2,J HBX⟩
    case measure=>simp [intOf]; omega
  ·obtain rfl:k=xs.length:=by omega
   clear ho hr hb;go_wp2;go_returns;exact⟨_,rfl,by have h:=J HOW; rw [List.take_length] at h ⊢; exact h,J HB⟩
theorem Zse {T:Yh}(h:Ro T=true):Jp T.ag T.r=true∧Jp T.rs T.r=true∧0≤T.sh∧T.sh % 8=0∧T.sh≤32∧0≤T.br∧T.br≤4∧T.ag.length≤8∧T.rs.length≤4:=by unfold Ro Jn at h;simp only [Bool.and_eq_true] at h;obtain⟨⟨h1,h2⟩,h3⟩:=h;unfold Ig at h1;have h1:=of_decide_eq_true h1;unfold Zea at h2;have h2:=of_decide_eq_true h2;unfold Ge at h3;simp only [Bool.and_eq_true] at h3;obtain⟨⟨⟨⟨⟨-,k2,-⟩,k4,-⟩,-⟩,-⟩,-⟩:=h3;exact⟨k2,k4,h1.2.2.2.1,h1.2.2.2.2.2.1,h1.2.2.2.2.1,h1.2.2.2.2.2.2.1,h1.2.2.2.2.2.2.2,h2.1,h2.2.1⟩
theorem Zbs (a b:List (Int×Int)):Rr (a++b)=Rr a++Rr b:=by simp [Rr]
theorem Zbt (xs:List (Int×Int)):∀ u ∈ Rr xs,u.oneCell'=true:=fun u hu=>by
 unfold Rr at hu;rw [List.mem_flatMap] at hu;obtain⟨x,-,h⟩:=hu;simp at h;rcases h with rfl | rfl <;> rfl
theorem Zgr {V U:World}{gp:Nat}{pl:List (Int×Int)}(h:∀ j,j<pl.length*2→V.cell? ⟨gp,j,none⟩=(Rr pl)[j]?)(hg:gp<V.heap.size)(hb:Below V.heap.size V U):∀ j u,(Rr pl)[j]?=some u→U.cell? ⟨gp,j,none⟩=some u:=fun j u hj=>by
 obtain⟨hl,-⟩:=List.getElem?_eq_some_iff.1 hj;rw [Dm] at hl;rw [hb.cell (p:=⟨gp,j,none⟩) hg,h j hl];exact hj
theorem Sq {V W U:World}{o:Option Nat}(hb:Below V.heap.size V W)(hg:W.grownBy U o)(ho:∀ g,o=some g→V.heap.size≤g):Below V.heap.size V U :=
 ⟨hg.os.trans hb.os,hg.tape.trans hb.tape,hg.output.trans hb.output,by have:=hg.size; have:=hb.size; omega,fun q hq=>(hg.block q (by have:=hb.size; omega) (fun e=>by have:=ho q e.symm; omega)).trans (hb.block q hq)⟩
theorem Zmo {w:World}{ops:Array Oper}{rest:List Oper}{o:Oper}{a:Act}{Q:Exit→Act→World→Prop}(hgd:o.guard=none)(s x:Operand)(t:TypeId)
 (ho:o.op=.call { callee:=.builtin .append,args:=#[s,x],argTypes:=#[t,t] })
 (base base':Nat) (e:TypeId) (i:TypeInfo) (z:Value) (size bytes:Nat) (ht:Tryz.prog.underlying t=some (.slice e)) (hi:Tryz.prog.info? e=some i) (hz:i.zero=some z)
 (hsize:i.size=size) (hby:i.bytes=bytes) (hzs:z.cells.size=size) (hsz:0<size)
 (v v0:Value) (n m:Nat) (xs ys:List Value) (hs:a.eval s=v) (hown:w.ownsRow base e size v n xs) (hx:a.eval x=v0) (hown0:w.ownsRow base' e size v0 m ys) (h1:∀ u ∈ ys,u.oneCell'=true)
 (h63:n+m≤maxLen) (hbytes:(n+m)*bytes≤140737488355328) (hbase:base≤w.heap.size)
 (h:∀ v' w',w'.ownsRow base e size v' (n+m) (xs++ys)→w.grownBy w' v.ownBlock→wpList Tryz.prog ops Q rest (a.put o.dst v') w'):wpList Tryz.prog ops Q (o :: rest) a w:=by
 rcases hown0.2 with⟨e1,e2⟩ | ⟨g,cap,cur,e1,-⟩
 ·subst e2;have hl:=hown0.1;rw [Nat.zero_mul] at hl;obtain rfl:=List.eq_nil_of_length_eq_zero hl;refine wpList_append_own_none hgd s x t ho base e i size ht hi v n xs hs hown (hx.trans e1) (h v w ?_ ⟨rfl,rfl,rfl,Nat.le_refl _,fun _ _ _=>rfl⟩);rw [List.append_nil];exact hown
 ·subst e1;exact wpList_append_own w hgd s x t ho base e i z size bytes ht hi hz hsize hby hzs hsz v n xs hs hown ⟨g,0,none⟩ m cap ys hx hown0.1 (hown0.cells rfl) h1 h63 hbytes hbase (fun v' w' h2 h3 _=>h v' w' h2 h3)
theorem Yeg {T:Yh}{ps:List Int}{n:Int}(h:Ut T ps n=0):Ro T=true∧Zgi (ps,n):=by
 unfold Ut at h;by_cases h1:Ro T=false
 ·rw [if_pos h1] at h; exact absurd h (by decide)
 ·rw [if_neg h1] at h;by_cases h2:Nl (ps,n)=false
  ·rw [if_pos h2] at h; exact absurd h (by decide)
  ·exact⟨by simpa using h1,Zog (by simpa using h2)⟩
theorem Zvx {ag rs:List Int}{br:Int}{pr:Bool}{sh:Int}{ps:List Int}{n:Int}{k:Nat}(hk:k<ps.length):(Nf ag rs br pr sh ps n).args.getD k Ci=Gb ag br pr ps sh k:=by show((List.range ps.length).map (Gb ag br pr ps sh)).getD k Ci=_;rw [List.getD_eq_getElem?_getD,List.getElem?_map,List.getElem?_range hk];rfl
theorem Zbu (ag:List Int)(br:Int)(pr:Bool)(ps:List Int)(sh:Int)(k:Nat):(Gb ag br pr ps sh k).pl.length=Oj br (ps.getD k 0):=by show((List.range _).map _).length=_;simp
theorem Ybt {ps:List Int}(h:Xc ps 0 8=true){k:Nat}(hk:k<ps.length):0≤ps.getD k 0∧ps.getD k 0≤8:=by have h:=Ga h hk;unfold Gq at h;exact of_decide_eq_true h
theorem Zgs (ag:List Int){br:Int}{pr:Bool}{ps:List Int}{sh:Int}(h:Xc ps 0 8=true):∀ k,k≤ps.length→(Cy ag br pr ps sh k).length≤8*k
 | 0,_=>by simp [Cy]
 | k+1,hk=>by
  have ih:=Zgs (br:=br) (pr:=pr) (sh:=sh) ag h k (by omega);have:=Zku br (ps.getD k 0) (Ybt h (by omega)).2;rw [Zdm,List.length_append,Zbu];omega
theorem Yeh {ag:List Int}{br:Int}{pr:Bool}{ps:List Int}{sh:Int}{k:Nat}(h:Xc ps 0 8=true)(hk:k<ps.length):0≤(Gb ag br pr ps sh k).at_∧(Gb ag br pr ps sh k).at_≤64*k:=by have:=Kv (L:=ag.length) (br:=br) (pr:=pr) (sh:=sh) h k (by omega);have h0:=this.p0;have h1:=this.p1;show 0≤(if br<ps.getD k 0 then _ else _)∧(if br<ps.getD k 0 then _ else _)≤_;split <;> omega
theorem Ygj {ag:List Int}{br:Int}{pr:Bool}{ps:List Int}{sh c:Int}{k:Nat}(hag:Jp ag c=true)(h:Xc ps 0 8=true)(hk:k<ps.length)(hb:br<ps.getD k 0):(Gb ag br pr ps sh k).at_+8*ps.getD k 0≤(Ml ag.length br pr ps sh ps.length).p:=by refine(Zdn (ag:=ag) (br:=br) (pr:=pr) (sh:=sh) hag h ps.length (Nat.le_refl _)).in_ ((Gb ag br pr ps sh k).at_,(Gb ag br pr ps sh k).at_+8*ps.getD k 0) ?_;unfold Rq;rw [List.mem_filterMap];exact⟨k,List.mem_range.2 hk,if_pos hb⟩
theorem Ygk {l:List (Int×Int)}{p:Int×Int}(hp:p ∈ l)(h:p.1<0):(p.2,p.2+8) ∈ Di l:=by unfold Di;rw [List.mem_map];exact⟨p,List.mem_filter.2 ⟨hp,by simpa using h⟩,rfl⟩
theorem Ybu {l:List (Int×Int)}{list:List Int}{c:Int}{m:Nat}(hc:Zmn list l)(hs:Di l=upS c m)(h0:0≤c)(h1:c+8*m≤100000):∀ k,k<l.length→0≤(l.getD k (0,0)).2∧(l.getD k (0,0)).2≤1000000:=fun k hk=>by
 have hm:l.getD k (0,0) ∈ l:=by rw [List.getD_eq_getElem?_getD,List.getElem?_eq_getElem hk]; exact List.getElem_mem hk
 by_cases hn:(l.getD k (0,0)).1<0
 ·have:=Yed c m _ (hs ▸ Ygk hm hn);simp only at this;omega
 ·have:=(hc.reg _ hm hn).2;omega
theorem Yei (c:Int){m k:Nat}(hk:k<m):(upS c m).getD k (0,0)=(c+8*(k:Int),c+8*(k:Int)+8):=by unfold upS;rw [List.getD_eq_getElem?_getD,List.getElem?_map,List.getElem?_range hk];rfl
structure LyQ (T:Yh)(ps:List Int)(n:Int)(m:Nat):Prop where
 ca:Zmn T.ag (Cy T.ag T.br T.pairs ps T.sh ps.length)
 ba:∀ k,k<(Cy T.ag T.br T.pairs ps T.sh ps.length).length→0≤((Cy T.ag T.br T.pairs ps T.sh ps.length).getD k (0,0)).2∧((Cy T.ag T.br T.pairs ps T.sh ps.length).getD k (0,0)).2≤1000000
 cr:Zmn T.rs (Nf T.ag T.rs T.br T.pairs T.sh ps n).res
 br:∀ k,k<(Nf T.ag T.rs T.br T.pairs T.sh ps n).res.length→0≤((Nf T.ag T.rs T.br T.pairs T.sh ps n).res.getD k (0,0)).2∧((Nf T.ag T.rs T.br T.pairs T.sh ps n).res.getD k (0,0)).2≤1000000
 all:Di (Cy T.ag T.br T.pairs ps T.sh ps.length)++Di (Nf T.ag T.rs T.br T.pairs T.sh ps n).res=upS T.sh m
 sz:(Nf T.ag T.rs T.br T.pairs T.sh ps n).size=T.sh+8*m
 m:m≤100
 cp:ApS (Rq T.ag T.br T.pairs ps T.sh ps.length)
 rl:(Nf T.ag T.rs T.br T.pairs T.sh ps n).res.length=n.toNat
theorem lyQ {T:Yh}{ps:List Int}{n:Int}(hag:Jp T.ag T.r=true)(hrs:Jp T.rs T.r=true)(hsg:Zgi (ps,n))(h0:0≤T.sh)(h32:T.sh≤32):∃ m,LyQ T ps n m:=by
 have hn:Xc ps 0 8=true:=hsg.n;have hl:ps.length≤8:=hsg.l;have hn4:n≤4:=hsg.r4;have hn0:0≤n:=hsg.r0;obtain⟨m,h1,h2⟩:=Zvw (br:=T.br) (pr:=T.pairs) (sh:=T.sh) (n:=n) hag hrs hn;have hA:=Zdn (ag:=T.ag) (br:=T.br) (pr:=T.pairs) (sh:=T.sh) hag hn ps.length (Nat.le_refl _);have hS:=Kv (L:=T.ag.length) (br:=T.br) (pr:=T.pairs) (sh:=T.sh) hn ps.length (Nat.le_refl _);obtain⟨ma,a1,a2⟩:=hA.cells;have c0:=hS.c0;have c1:=hS.c1;have hr:=Zfm (n:=n.toNat) (c:=(Ml T.ag.length T.br T.pairs ps T.sh ps.length).c) hrs;have hrl:(Nf T.ag T.rs T.br T.pairs T.sh ps n).res.length=n.toNat:=by show((List.range n.toNat).map _).length=_; simp
 have hlen:=congrArg List.length h1;rw [List.length_append,Rh,a1,Rh] at hlen;have hr1:(Di (Nf T.ag T.rs T.br T.pairs T.sh ps n).res).length=n.toNat-T.rs.length:=by show(Di ((List.range n.toNat).map _)).length=_; rw [hr.1,Rh]
 rw [hr1] at hlen;exact⟨m,Zpb hag hn,Ybu (Zpb hag hn) a1 h0 (by omega),hr.2,Ybu hr.2 hr.1 (by omega) (by omega),h1,h2,by omega,hA.cp,hrl⟩
end Go.Proofs.YtkenknfgeoecbaaGreatDoor
namespace Go.Proofs.YtkenknfgeoecbaaGreatDoor
open Go.ChangeShapes Go.WideShapes Go.ChangeAt Go.RowKit Go.Deep
set_option maxRecDepth 100000
section
variable {H:Type} {enc:TypeId×Value→H} {w:World} {held:Bool}
theorem Dl {n:Nat}{v:Value}{y:DataW H×List MemPlace}(h:TrE enc w held n 23 [v] y)(hw:Zhr 23 y.1):∃ ns:List Int,Li w v ns∧ns.length*8≤140737488351232:=by
 obtain⟨ps,h1,h2,h3⟩:=Zkq (One:=fun q:Array Value×Int=>q.1=#[.int .i64 q.2]) Tryz.underlying23 Tryz.cellsIntE (by decide) (show Tryz.prog.bytesOf 3=8 by kernel_rfl) (fun n cs y hl hy _=>by
  match cs,hl with
  | [v],_=>obtain⟨x,rfl,hx⟩:=Zqm hy;exact⟨x,rfl⟩) h hw
 have hl:(ps.map (·.2)).length=ps.length:=by simp
 obtain⟨p,cap,g1,g2,g3,g4⟩:=(h1.congr (B:=fun k=>#[.int .i64 ((ps.map (·.2)).getD k default)]) (fun i hi=>by rw [Zpt ps #[]]; exact h2 _ (Zpu _ _ _ hi))).ones;exact⟨ps.map (·.2),⟨p,cap,by rw [hl]; exact g1,by rw [hl]; exact g2,by rw [hl]; exact g3,fun h0=>by rw [hl] at h0 ⊢; exact g4 h0⟩,by rw [hl]; exact h3⟩
theorem Zhz {b0:Nat}{r:Reach}{v:Value}{d:DataW H}{p:List MemPlace}(hv:Value.okWide Tryz.prog w r b0 25 v)(h:DataW.Trod enc Tryz.prog w 0 (fun _=>true) held 25 v d p)(hw:Zhr 25 d) :
 ∃ T:Yh,v=.agg T.box∧TbO w T∧Yfh T:=by
 obtain⟨cs,rfl,hsz⟩:=okWide_struct Tryz.underlying25 hv;obtain⟨l⟩:=cs;obtain⟨c0,c1,c2,c3,c4,c5,c6,c7,c8,c9,c10,c11,rfl⟩:=Yba (l:=l) (hsz.trans (by kernel_rfl));obtain⟨fuel,hf⟩:=h;obtain⟨xs,n,-,hx,-,hxl,hall⟩:=DataW.trod_struct Tryz.underlying25 hf;obtain⟨y0,y1,y2,y3,y4,y5,y6,y7,y8,y9,y10,rfl⟩:=Ybb hxl;have f0:TrE enc w held n 3 [c0] y0:=Yr hall (i:=0) rfl Tryz.cellsIntQ rfl;have f1:TrE enc w held n 3 [c1] y1:=Yr hall (i:=1) rfl Tryz.cellsIntQ rfl;have f2:TrE enc w held n 3 [c2] y2:=Yr hall (i:=2) rfl Tryz.cellsIntQ rfl;have f3:TrE enc w held n 22 [c3,c4] y3:=Yr hall (i:=3) rfl Tryz.cells2iQ rfl;have f4:TrE enc w held n 23 [c5] y4:=Yr hall (i:=4) rfl Tryz.cellsIntsQ rfl;have f5:TrE enc w held n 23 [c6] y5:=Yr hall (i:=5) rfl Tryz.cellsIntsQ rfl;have f6:TrE enc w held n 23 [c7] y6:=Yr hall (i:=6) rfl Tryz.cellsIntsQ rfl;have f7:TrE enc w held n 3 [c8] y7:=Yr hall (i:=7) rfl Tryz.cellsIntQ rfl;have f8:TrE enc w held n 3 [c9] y8:=Yr hall (i:=8) rfl Tryz.cellsIntQ rfl;have f9:TrE enc w held n 3 [c10] y9:=Yr hall (i:=9) rfl Tryz.cellsIntQ rfl;have f10:TrE enc w held n 4 [c11] y10:=Yr hall (i:=10) rfl Tryz.cellsBoolQ rfl;clear hall;rw [show d=_ from congrArg Prod.fst hx] at hw;unfold Zhr at hw;simp only [DataW.weights,Tryz.underlying25,List.map_cons,List.map_nil,DataW.weightsEach,List.mem_append] at hw;obtain⟨i0,rfl⟩:=Lb (v:=c0) (y:=y0) f0;obtain⟨i1,rfl⟩:=Lb (v:=c1) (y:=y1) f1
 obtain⟨i2,rfl⟩:=Lb (v:=c2) (y:=y2) f2;obtain⟨i3,i4,rfl,rfl⟩:=Zss (v0:=c3) (v1:=c4) (y:=y3) f3;obtain⟨ag,l5,k5⟩:=Dl f4 (fun z hz=>hw z (by simp only [hz,true_or,or_true]));obtain⟨rs,l6,k6⟩:=Dl f5 (fun z hz=>hw z (by simp only [hz,true_or,or_true]));obtain⟨ss,l7,k7⟩:=Dl f6 (fun z hz=>hw z (by simp only [hz,true_or,or_true]));obtain⟨i8,rfl⟩:=Lb (v:=c8) (y:=y7) f7;obtain⟨i9,rfl⟩:=Lb (v:=c9) (y:=y8) f8;obtain⟨i10,rfl⟩:=Lb (v:=c10) (y:=y9) f9;obtain⟨pr,hpr,-⟩:=DataW.trod_bool Tryz.underlying4 (cs:=[c11]) (x:=y10) f10;obtain rfl:=List.head_eq_of_cons_eq hpr;have m5:=l5;have m6:=l6;have m7:=l7;obtain⟨pa,ca,rfl,-⟩:=l5;obtain⟨pb,cb,rfl,-⟩:=l6;obtain⟨pc,cc,rfl,-⟩:=l7;exact⟨⟨i0,i1,i2,i3,i4,pa,ag,ca,pb,rs,cb,pc,ss,cc,i8,i9,i10,pr⟩,rfl,⟨m5,m6,m7⟩,⟨k5,k6,k7⟩⟩
theorem Zpw {b0:Nat}{r:Reach}{v:Value}{d:DataW H}{p:List MemPlace}(hv:Value.okWide Tryz.prog w r b0 43 v)(h:DataW.Trod enc Tryz.prog w 0 (fun _=>true) held 43 v d p)(hw:Zhr 43 d) :
 ∃(ps:List Int) (pq:Option Addr) (cq:Nat) (n:Int),v=.agg #[.slice pq ps.length cq,.int .i64 n]∧Li w (.slice pq ps.length cq) ps∧ps.length*8≤140737488351232:=by
 obtain⟨cs,rfl,hsz⟩:=okWide_struct Tryz.underlying43 hv;obtain⟨l⟩:=cs;obtain⟨c0,c1,rfl⟩:=Zuf (l:=l) (hsz.trans (by kernel_rfl));obtain⟨fuel,hf⟩:=h;obtain⟨xs,n,-,hx,-,hxl,hall⟩:=DataW.trod_struct Tryz.underlying43 hf;obtain⟨y0,y1,rfl⟩:=Zuf hxl;have f0:TrE enc w held n 23 [c0] y0:=Yr hall (i:=0) rfl Tryz.cellsIntsQ rfl;have f1:TrE enc w held n 3 [c1] y1:=Yr hall (i:=1) rfl Tryz.cellsIntQ rfl;clear hall;rw [show d=_ from congrArg Prod.fst hx] at hw;unfold Zhr at hw;simp only [DataW.weights,Tryz.underlying43,List.map_cons,List.map_nil,DataW.weightsEach,List.mem_append] at hw;obtain⟨ns,l0,k0⟩:=Dl f0 (fun z hz=>hw z (by first | exact Or.inl hz | simp only [hz,true_or,or_true]));obtain⟨i1,rfl⟩:=Lb (v:=c1) (y:=y1) f1;have m0:=l0;obtain⟨pa,ca,rfl,-⟩:=l0;exact⟨ns,pa,ca,i1,rfl,m0,k0⟩
end
end Go.Proofs.YtkenknfgeoecbaaGreatDoor
