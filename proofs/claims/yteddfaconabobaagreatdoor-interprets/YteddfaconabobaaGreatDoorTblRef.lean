import Derived.Test.YteddfaconabobaaGreatDoorJ3
import Derived.Deep.CutRange
namespace Go.Proofs.YteddfaconabobaaGreatDoor
open Go.RowKit
structure TF (w u:World)(bx:Array Value)(vo va vr vs:Value)(ol ag rs ss:List Int):Prop where
 box:∀ j,u.cell? ⟨w.heap.size,j,none⟩=bx[j]?
 o:Rs u vo ol
 a:Rs u va ag
 r:Rs u vr rs
 s:Rs u vs ss
 low:Below w.heap.size w u
 lt:w.heap.size<u.heap.size
theorem TF.below {w u u':World}{bx:Array Value}{vo va vr vs:Value}{ol ag rs ss:List Int}(h:TF w u bx vo va vr vs ol ag rs ss)(hb:Below u.heap.size u u'):TF w u' bx vo va vr vs ol ag rs ss :=
 ⟨fun j=>(hb.cell (p:=⟨w.heap.size,j,none⟩) h.lt).trans (h.box j),h.o.below hb,h.a.below hb,h.r.below hb,h.s.below hb,h.low.trans (hb.mono (Nat.le_of_lt h.lt)),Nat.lt_of_lt_of_le h.lt hb.size⟩
def Zhk (vo va vr vs:Value)(k:Nat):Value:=match k with
 | 0=>vo
 | 1=>va
 | 2=>vr
 | _=>vs
def Oy (ol ag rs ss:List Int)(k:Nat):List Int:=match k with
 | 0=>ol
 | 1=>ag
 | 2=>rs
 | _=>ss
theorem TF.row {w u:World}{bx:Array Value}{vo va vr vs:Value}{ol ag rs ss:List Int}(h:TF w u bx vo va vr vs ol ag rs ss)(k:Nat):Rs u (Zhk vo va vr vs k) (Oy ol ag rs ss k):=by
 unfold Zhk Oy;split
 ·
  exact h.o
 ·
  exact h.a
 ·
  exact h.r
 ·
  exact h.s
theorem Zkb {r sp lk t0 t1:Int}{ag rs ss:List Int}{al sh by_:Int}{k:Nat}(h:Lj (Oy (Zt sp lk t0 t1) ag rs ss k) r=false):Ja r sp lk t0 t1 ag rs ss al sh by_=false:=by
 unfold Oy at h;split at h <;> simp [Ja,Xv,h]
theorem Zkc {r sp lk t0 t1:Int}{ag rs ss:List Int}{al sh by_:Int}{k:Nat}(h:Xz (Oy (Zt sp lk t0 t1) ag rs ss (k+1)) (Zt sp lk t0 t1)=true):Ja r sp lk t0 t1 ag rs ss al sh by_=false:=by
 unfold Oy at h;split at h
 ·
  rename_i e; omega
 all_goals simp [Ja,Xv,h]
theorem Zeq {l:List Int}{c:Int}{k:Nat}(hk:k<l.length)(h:Sj l c k=false):Lj l c=false:=by
 unfold Lj;rw [List.all_eq_false];exact⟨k,List.mem_range.2 hk,by simp [h]⟩
theorem Cy {l m:List Int}{k:Nat}(hk:k<l.length)(h:l.getD k 0 ∈ m):Xz l m=true:=by
 unfold Xz;rw [List.any_eq_true];have hg:l.getD k 0=l[k]:=by simp [List.getD,hk]
 exact⟨l[k],List.getElem_mem hk,by rw [← hg]; simpa using h⟩
theorem Sk {l m:List Int}(h:∀ q,q<l.length→¬ l.getD q 0 ∈ m):Xz l m=false:=by
 unfold Xz;rw [List.any_eq_false];intro x hx;obtain⟨q,hq,rfl⟩:=List.getElem_of_mem hx;have hg:l.getD q 0=l[q]:=by simp [List.getD,hq]
 have:=h q hq;rw [hg] at this;simpa using this
theorem Zok (n:Int):(n ∈ ([8,16,32]:List Int))↔(n=8∨n=16∨n=32):=by simp
theorem Zol (n:Int):(n ∈ ([0,8,16,24,32]:List Int))↔(0≤n∧n≤32∧n % 8=0):=by
 simp only [List.mem_cons,List.not_mem_nil,or_false];omega
theorem Zfw (w:World)(a b c:Int):Rs (w.alloc (.cells #[.int .i64 a,.int .i64 b,.int .i64 c] 3)) (.slice (some ⟨w.heap.size,0,none⟩) 3 3) [a,b,c] :=
 Or.inr ⟨w.heap.size,0,3,rfl,fun i hi=>by
  rw [World.cell?_alloc_at _ _ _ _ rfl];match i,hi with
  | 0,_ | 1,_ | 2,_=>rfl⟩
theorem Zfx (w:World)(a b c d e:Int):Rs (w.alloc (.cells #[.int .i64 a,.int .i64 b,.int .i64 c,.int .i64 d,.int .i64 e] 3)) (.slice (some ⟨w.heap.size,0,none⟩) 5 5) [a,b,c,d,e] :=
 Or.inr ⟨w.heap.size,0,5,rfl,fun i hi=>by
  rw [World.cell?_alloc_at _ _ _ _ rfl];match i,hi with
  | 0,_ | 1,_ | 2,_ | 3,_ | 4,_=>rfl⟩
theorem Zfy {r sp lk t0 t1:Int}{ag rs ss:List Int}{al sh by_:Int}(hr:4≤r∧r≤16)(hl:St ag rs ss=true)(hg:Xv r sp lk t0 t1 ag rs ss=true):Ja r sp lk t0 t1 ag rs ss al sh by_=(decide (al ∈ ([8,16,32]:List Int))&&(decide (sh ∈ ([0,8,16,24,32]:List Int))&&decide (0≤by_∧by_≤4))):=by
 simp only [Ja,hl,hg,Bool.and_true];unfold Ss;rw [← Bool.decide_and,← Bool.decide_and];exact decide_eq_decide.2 (by rw [Zok,Zol]; constructor <;> intro h <;> omega)
set_option maxHeartbeats 8000000 in
set_option maxRecDepth 100000 in
theorem Zkd (r sp lk t0 t1:Int)(va vr vs:Value)(al sh by_:Int)(pr:Bool)(ag rs ss:List Int)(w:World)(ha:Rs w va ag)(hr:Rs w vr rs)(hs:Rs w vs ss)(ca:∀ a n cap,va=.slice a n cap→n≤cap)(cr:∀ a n cap,vr=.slice a n cap→n≤cap)(cs:∀ a n cap,vs=.slice a n cap→n≤cap):Calls Tryz.prog 32 #[.agg (Yv r sp lk t0 t1 va vr vs al sh by_ pr)] w fun e w'=>e=.returned (.bool (Ja r sp lk t0 t1 ag rs ss al sh by_))∧Below w.heap.size w w':=by
 obtain⟨ti,hti,hz0,hz1,hz2⟩:=Sp Tryz.infoI;obtain⟨pa,xa,rfl⟩:=ha.shape;obtain⟨pq,xr,rfl⟩:=hr.shape;obtain⟨ps,xs,rfl⟩:=hs.shape;have HA0:=Zj ha;have HR0:=Zj hr;have HS0:=Zj hs;have HAC:=Zj ca;have HRC:=Zj cr;have HSC:=Zj cs;have HBX:=Zj ((Below.refl w.heap.size w).alloc (Nat.le_refl _) (.cells (Yv r sp lk t0 t1 (.slice pa ag.length xa) (.slice pq rs.length xr) (.slice ps ss.length xs) al sh by_ pr) 25));clear ha hr hs ca cr cs;unfold Yv at HBX ⊢;go_enter Tryz.func32,Tryz.ntmps32
 go_wp2_with fail
 refine(Zfv r 4 16 _).mono ?_;rintro e w2 ⟨rfl,h2⟩;subst w2;by_cases hr:4≤r∧r≤16
 ·
  rw [decide_eq_true hr];by_cases hl:ag.length≤8∧rs.length≤4∧ss.length≤12
  ·
   obtain⟨la,lr,ls⟩:=hl;have hr1:=hr.1;have hr2:=hr.2;go_upto_if 47 with fail
   go_cut [3] from 45 to 52 (fun vo wc=>∃ po no xo,vo=.slice po no xo∧no=(Zt sp lk t0 t1).length∧no≤xo∧TF w wc (Yv r sp lk t0 t1 (.slice pa ag.length xa) (.slice pq rs.length xr) (.slice ps ss.length xs) al sh by_ pr) vo (.slice pa ag.length xa) (.slice pq rs.length xr) (.slice ps ss.length xs) (Zt sp lk t0 t1) ag rs ss)
   case first =>
    have HTF:=Zj (fun(u:World) (vo:Value) (ho:Rs u vo (Zt sp lk t0 t1)) (hb:Below (w.alloc (.cells (Yv r sp lk t0 t1 (.slice pa ag.length xa) (.slice pq rs.length xr) (.slice ps ss.length xs) al sh by_ pr) 25)).heap.size (w.alloc (.cells (Yv r sp lk t0 t1 (.slice pa ag.length xa) (.slice pq rs.length xr) (.slice ps ss.length xs) al sh by_ pr) 25)) u)=>show TF w u (Yv r sp lk t0 t1 (.slice pa ag.length xa) (.slice pq rs.length xr) (.slice ps ss.length xs) al sh by_ pr) vo (.slice pa ag.length xa) (.slice pq rs.length xr) (.slice ps ss.length xs) (Zt sp lk t0 t1) ag rs ss from
     have hb':Below w.heap.size w u:=((Below.refl w.heap.size w).alloc (Nat.le_refl _) _).trans (hb.mono (by simp));⟨(Xh ((hb.block w.heap.size (by simp)).trans (heap_alloc_new w _))).1,ho,(Zc HA0).below hb',(Zc HR0).below hb',(Zc HS0).below hb',hb',by have:=hb.size; simp at this; omega⟩)
    have HOW:=Zj (fun X:Obj=>show((w.alloc X).alloc (.cells #[.int .i64 sp,.int .i64 t0,.int .i64 t1] 3)).ownsRow (w.heap.size+1) 3 1 (.slice (some ⟨w.heap.size+1,0,none⟩) 3 3) ([sp,t0,t1]:List Int).length (Se [sp,t0,t1]) from
     ⟨rfl,Or.inr ⟨w.heap.size+1,3,#[.int .i64 sp,.int .i64 t0,.int .i64 t1],rfl,by omega,by have:=heap_alloc_new (w.alloc X) (.cells #[.int .i64 sp,.int .i64 t0,.int .i64 t1] 3); simpa using this,by simp,by unfold maxLen; omega,rfl,rfl⟩⟩)
    unfold Yv at HTF;by_cases hk:lk=-1
    ·
     have hO:Zt sp lk t0 t1=[sp,t0,t1]:=by unfold Zt; rw [if_pos hk]
     have HOO:=Zj hO;clear hO;subst hk;go_wp2;go_meet
     case rel=>exact⟨some ⟨w.heap.size+1,0,none⟩,3,3,rfl,by rw [Zc HOO]; rfl,by omega,Zc HTF _ _ (by rw [Zc HOO]; exact Da (Zc HOW _)) ((Below.refl _ _).alloc (Nat.le_refl _) _)⟩
    ·
     have hO:Zt sp lk t0 t1=[sp,t0,t1]++[lk]:=by unfold Zt; rw [if_neg hk]; rfl
     have HOO:=Zj hO;clear hO;have zk:(lk==-1)=false:=by simpa using hk
     go_wp2_with (at_builtin; refine wpList_append_own _ rfl _ _ 23 rfl (w.heap.size+1) 3 ti _ 1 8 Tryz.underlying23 hti hz0 hz1 hz2 rfl (by decide) _ _ _ rfl ((Zc HOW _).alloc _) ⟨w.heap.size+2,0,none⟩ 1 1 [.int .i64 lk] rfl rfl (by intro j u hj; match j,hj with | 0,hj=>(simp at hj; subst hj; exact(World.cell?_alloc_at _ _ _ _ (by simp)).trans rfl)) (by intro u hu; simp at hu; subst hu; rfl) ?c3 ?c4 ?c5 ?_)
     case c3=>unfold maxLen; simp
     case c4=>simp
     case c5=>simp
     intro v' w7 hown hgr _;have h1:w7.ownsRow (w.heap.size+1) 3 1 v' ([sp,t0,t1]++[lk]:List Int).length (Se ([sp,t0,t1]++[lk])):=hown;obtain⟨g2,cap2,rfl⟩:=Zhb hown;have HRO:=Zj (Da h1);have HCO:=Zj (Dv h1 _ _ _ rfl);have HB:=Zj (show Below (w.heap.size+1) _ w7 from(((Below.refl (w.heap.size+1) _).alloc (by simp) _).alloc (by simp) _).trans ⟨hgr.os,hgr.tape,hgr.output,hgr.size,fun q hq=>hgr.block q (by simp; omega) (fun e=>by simp [Value.ownBlock] at e; omega)⟩);clear hown hgr h1;go_wp2;go_meet
     case rel=>exact⟨some ⟨g2,0,none⟩,4,cap2,rfl,by rw [Zc HOO]; rfl,Zc HCO,Zc HTF _ _ (by rw [Zc HOO]; exact Zc HRO) ((Zc HB).mono (by simp))⟩
   case rest =>
    obtain⟨po,no,xo,rfl,rfl,hxo,hTF⟩:=hcut;have hol:=Zdi sp lk t0 t1;have c5:=hTF.box 5;have c6:=hTF.box 6;have c7:=hTF.box 7;simp [Yv] at c5 c6 c7;have HT1:=Zj (fun X:Obj=>hTF.below ((Below.refl wc.heap.size wc).alloc (Nat.le_refl _) X));have HCP:=Zj (show ∀ k,∃ p xc,Zhk (.slice po (Zt sp lk t0 t1).length xo) (.slice pa ag.length xa) (.slice pq rs.length xr) (.slice ps ss.length xs) k=.slice p (Oy (Zt sp lk t0 t1) ag rs ss k).length xc∧(Oy (Zt sp lk t0 t1) ag rs ss k).length≤xc∧(Oy (Zt sp lk t0 t1) ag rs ss k).length≤12 from fun k=>by
     unfold Zhk Oy;split
     ·
      exact⟨_,_,rfl,hxo,by omega⟩
     ·
      exact⟨_,_,rfl,Zc HAC _ _ _ rfl,by omega⟩
     ·
      exact⟨_,_,rfl,Zc HRC _ _ _ rfl,by omega⟩
     ·
      exact⟨_,_,rfl,Zc HSC _ _ _ rfl,by omega⟩)
    have HRW:=Zj (show ∀ k,k<4→(wc.alloc (.cells #[(.slice po (Zt sp lk t0 t1).length xo),.slice pa ag.length xa,.slice pq rs.length xr,.slice ps ss.length xs] 23)).cell? ⟨wc.heap.size,k,none⟩=some (Zhk (.slice po (Zt sp lk t0 t1).length xo) (.slice pa ag.length xa) (.slice pq rs.length xr) (.slice ps ss.length xs) k) from fun k hk=>by
     rw [World.cell?_alloc_at _ _ _ _ rfl];match k,hk with
     | 0,_ | 1,_ | 2,_ | 3,_=>rfl)
    clear hTF;go_wp2_with fail
    have HT2:=Zj (Zc HT1 (.cells #[(.slice po (Zt sp lk t0 t1).length xo),.slice pa ag.length xa,.slice pq rs.length xr,.slice ps ss.length xs] 23));clear c5 c6 c7 HT1;generalize wc.alloc (.cells #[(.slice po (Zt sp lk t0 t1).length xo),.slice pa ag.length xa,.slice pq rs.length xr,.slice ps ss.length xs] 23)=W at HRW HT2 ⊢;go_loopw [62] (fun j w'=>∃ k:Nat,j=.int .i64 k∧k≤4∧w'=W∧∀ q,q<k→Lj (Oy (Zt sp lk t0 t1) ag rs ss q) r=true) (fun j _=>4-(intOf j).toNat)
    case atStart=>exact⟨0,rfl,by omega,rfl,fun q hq=>by omega⟩
    case round =>
     obtain⟨k,rfl,hk,hwr,hno⟩:=hrel;subst wr;have HN:=Zj hno;clear hno;by_cases hlt:k<4
     ·
      have cc:=Zc HRW k hlt;obtain⟨p,xc,hv,hxc,h12⟩:=Zc HCP k;rw [hv] at cc;have hRk:=(Zc HT2).row k;rw [hv] at hRk;have HBAD:=Zj (fun h=>Zkb (r:=r) (sp:=sp) (lk:=lk) (t0:=t0) (t1:=t1) (ag:=ag) (rs:=rs) (ss:=ss) (al:=al) (sh:=sh) (by_:=by_) (k:=k) h);have HNX:=Zj (fun(h:Lj (Oy (Zt sp lk t0 t1) ag rs ss k) r=true) q (hq:q<k+1)=>show Lj (Oy (Zt sp lk t0 t1) ag rs ss q) r=true from by
       rcases Nat.lt_succ_iff_lt_or_eq.1 hq with h' | h'
       ·
        exact Zc HN q h'
       ·
        subst h'; exact h)
      clear hv;generalize hL:Oy (Zt sp lk t0 t1) ag rs ss k=L at HBAD HNX hRk cc hxc h12;clear hL;by_cases hne:L=[]
      ·
       subst hne;have HND:=Zj (Zc HNX rfl);clear hRk;go_wp2_with fail
       refine wp_loop_rounds 1 ?_;rw [rounds_succ];go_wp2_with fail
       go_roundw
       case rel=>exact⟨k+1,by go_num,by omega,trivial,Zc HND⟩
       case measure=>simp [intOf]; omega
      ·
       obtain⟨sb,so,cap,hv2,hc⟩:=hRk.get hne;injection hv2 with e1 e2 e3;subst e1;subst e3;have HC:=Zj hc;have HRK:=Zj hRk;clear hc hRk e2;have c0:=(Zc HT2).box 0;simp [Yv] at c0;have z4:decide ((k:Int)<4)=true:=decide_eq_true (by omega);go_wp2_with fail
       go_loopw [68] (fun j w'=>∃ m:Nat,j=.int .i64 m∧m≤L.length∧w'=W∧∀ q,q<m→Sj L r q=true) (fun j _=>L.length-(intOf j).toNat)
       case atStart=>exact⟨0,rfl,by omega,rfl,fun q hq=>by omega⟩
       case round =>
        obtain⟨m,rfl,hm,hwr,hno⟩:=hrel;subst wr;have HM:=Zj hno;clear hno;by_cases hml:m<L.length
        ·
         have cm:=Zc HC m hml;have hrd:Sj L r m=decide (0≤L.getD m 0∧L.getD m 0<r∧¬ L.getD m 0 ∈ L.take m):=rfl;have HRD:=Zj hrd;have HHS:=Zj (fun cap'=>Nr (L.take m) (L.getD m 0) _ W (Rs.take (Zc HC) m cap' (by omega)) (by simp; omega));have HBD:=Zj (fun h=>Zc HBAD (Zeq hml h));have HGO:=Zj (fun(h:Sj L r m=true) q (hq:q<m+1)=>show Sj L r q=true from by
          rcases Nat.lt_succ_iff_lt_or_eq.1 hq with h' | h'
          ·
           exact Zc HM q h'
          ·
           subst h'; exact h)
         clear hrd;generalize hy:L.getD m 0=y at cm HRD HHS;clear hy;go_wp2_with fail
         refine(Zfv y 0 (r-1) _).mono ?_;rintro e w2 ⟨rfl,h2⟩;subst w2;by_cases hin:0≤y∧y≤r-1
         ·
          rw [decide_eq_true hin];generalize hmm:decide (y ∈ L.take m)=yes at HHS;have HRR:=Zj (show Sj L r m=!yes from by
           have h3:y<r:=by omega
           rw [Zc HRD,← hmm];simp [hin.1,h3])
          clear hmm;go_wp2_with fail
          refine(Zc HHS _).mono ?_;rintro e w2 ⟨rfl,h2⟩;subst w2;cases yes with
          | true =>
           have HNO:=Zj (Zc HBD (Zc HRR));go_wp2;go_ret;exact⟨by rw [Zc HNO]; rfl,(Zc HT2).low⟩
          | false =>
           have HND:=Zj (Zc HGO (Zc HRR));go_wp2;go_roundw
           case rel=>exact⟨m+1,by go_num,by omega,trivial,Zc HND⟩
           case measure=>simp [intOf]; omega
         ·
          rw [decide_eq_false hin];have HNO:=Zj (Zc HBD (by rw [Zc HRD]; simp; omega));go_wp2;go_ret;exact⟨by rw [Zc HNO]; rfl,(Zc HT2).low⟩
        ·
         obtain rfl:m=L.length:=by omega
         have HND:=Zj (Zc HNX (by unfold Lj; rw [List.all_eq_true]; exact fun q hq=>Zc HM q (List.mem_range.1 hq)));go_wp2_with fail
         go_roundw
         case rel=>exact⟨k+1,by go_num,by omega,trivial,Zc HND⟩
         case measure=>simp [intOf]; omega
     ·
      obtain rfl:k=4:=by omega
      have HREG:=Zj (Zc HN);have c5:=(Zc HT2).box 5;have c6:=(Zc HT2).box 6;have c7:=(Zc HT2).box 7;simp [Yv] at c5 c6 c7;have HRX:=Zj (show ∀ k,k<3→(W.alloc (.cells #[.slice pa ag.length xa,.slice pq rs.length xr,.slice ps ss.length xs] 23)).cell? ⟨W.heap.size,k,none⟩=some (Zhk (.slice po (Zt sp lk t0 t1).length xo) (.slice pa ag.length xa) (.slice pq rs.length xr) (.slice ps ss.length xs) (k+1)) from fun k hk=>by
       rw [World.cell?_alloc_at _ _ _ _ rfl];match k,hk with
       | 0,_ | 1,_ | 2,_=>rfl)
      have HT3:=Zj ((Zc HT2).below ((Below.refl W.heap.size W).alloc (Nat.le_refl _) (.cells #[.slice pa ag.length xa,.slice pq rs.length xr,.slice ps ss.length xs] 23)));clear HN HRW;go_wp2_with fail
      clear c5 c6 c7 HT2;generalize hX:W.alloc (.cells #[.slice pa ag.length xa,.slice pq rs.length xr,.slice ps ss.length xs] 23)=X at HRX HT3 ⊢;clear hX;go_loopw [96] (fun j w'=>∃ k:Nat,j=.int .i64 k∧k≤3∧w'=X∧∀ q,q<k→Xz (Oy (Zt sp lk t0 t1) ag rs ss (q+1)) (Zt sp lk t0 t1)=false) (fun j _=>3-(intOf j).toNat)
      case atStart=>exact⟨0,rfl,by omega,rfl,fun q hq=>by omega⟩
      case round =>
       obtain⟨k,rfl,hk,hwr,hno⟩:=hrel;subst wr;have HN:=Zj hno;clear hno;by_cases hlt:k<3
       ·
        have cc:=Zc HRX k hlt;obtain⟨p,xc,hv,hxc,h12⟩:=Zc HCP (k+1);rw [hv] at cc;have hRk:=(Zc HT3).row (k+1);rw [hv] at hRk;have HBAD:=Zj (fun h=>Zkc (r:=r) (sp:=sp) (lk:=lk) (t0:=t0) (t1:=t1) (ag:=ag) (rs:=rs) (ss:=ss) (al:=al) (sh:=sh) (by_:=by_) (k:=k) h);have HNX:=Zj (fun(h:Xz (Oy (Zt sp lk t0 t1) ag rs ss (k+1)) (Zt sp lk t0 t1)=false) q (hq:q<k+1)=>show Xz (Oy (Zt sp lk t0 t1) ag rs ss (q+1)) (Zt sp lk t0 t1)=false from by
         rcases Nat.lt_succ_iff_lt_or_eq.1 hq with h' | h'
         ·
          exact Zc HN q h'
         ·
          subst h'; exact h)
        clear hv;generalize hL:Oy (Zt sp lk t0 t1) ag rs ss (k+1)=L at HBAD HNX hRk cc hxc h12;clear hL;have z3:decide ((k:Int)<3)=true:=decide_eq_true (by omega);by_cases hne:L=[]
        ·
         subst hne;have HND:=Zj (Zc HNX rfl);clear hRk;go_wp2_with fail
         refine wp_loop_rounds 1 ?_;rw [rounds_succ];go_wp2_with fail
         go_roundw
         case rel=>exact⟨k+1,by go_num,by omega,trivial,Zc HND⟩
         case measure=>simp [intOf]; omega
        ·
         obtain⟨sb,so,cap,hv2,hc⟩:=hRk.get hne;injection hv2 with e1 e2 e3;subst e1;subst e3;have HC:=Zj hc;clear hc hRk e2;go_wp2_with fail
         go_loopw [102] (fun j w'=>∃ m:Nat,j=.int .i64 m∧m≤L.length∧w'=X∧∀ q,q<m→¬ L.getD q 0 ∈ Zt sp lk t0 t1) (fun j _=>L.length-(intOf j).toNat)
         case atStart=>exact⟨0,rfl,by omega,rfl,fun q hq=>by omega⟩
         case round =>
          obtain⟨m,rfl,hm,hwr,hno⟩:=hrel;subst wr;have HM:=Zj hno;clear hno;by_cases hml:m<L.length
          ·
           have cm:=Zc HC m hml;have HHS:=Zj (Nr (Zt sp lk t0 t1) (L.getD m 0) _ X (Zc HT3).o (by omega));have HBD:=Zj (fun h=>Zc HBAD (Cy hml h));have HGO:=Zj (fun(h:¬ L.getD m 0 ∈ Zt sp lk t0 t1) q (hq:q<m+1)=>show ¬ L.getD q 0 ∈ Zt sp lk t0 t1 from by
            rcases Nat.lt_succ_iff_lt_or_eq.1 hq with h' | h'
            ·
             exact Zc HM q h'
            ·
             subst h'; exact h)
           by_cases hin:L.getD m 0 ∈ Zt sp lk t0 t1
           ·
            have HNO:=Zj (Zc HBD hin);have hyy:=decide_eq_true hin;rw [hyy] at HHS;clear hin hyy HGO;generalize hy:L.getD m 0=y at cm HHS;clear hy;go_wp2_with fail
            refine(Zc HHS).mono ?_;rintro e w2 ⟨rfl,h2⟩;subst w2;go_wp2;go_ret;exact⟨by rw [Zc HNO]; rfl,(Zc HT3).low⟩
           ·
            have HND:=Zj (Zc HGO hin);have hyy:=decide_eq_false hin;rw [hyy] at HHS;clear hin hyy HGO;generalize hy:L.getD m 0=y at cm HHS;clear hy;go_wp2_with fail
            refine(Zc HHS).mono ?_;rintro e w2 ⟨rfl,h2⟩;subst w2;go_wp2;go_roundw
            case rel =>
             (repeat apply Exists.intro)
             refine⟨?RELA,?FRM⟩;case FRM=>(simp; (repeat refine⟨rfl,?_⟩); exact rfl)
             case RELA=>exact⟨m+1,by go_num,by omega,trivial,Zc HND⟩
            case measure=>simp [intOf]; omega
          ·
           obtain rfl:m=L.length:=by omega
           have HND:=Zj (Zc HNX (Sk (Zc HM)));go_wp2_with fail
           go_roundw
           case rel=>exact⟨k+1,by go_num,by omega,trivial,Zc HND⟩
           case measure=>simp [intOf]; omega
       ·
        obtain rfl:k=3:=by omega
        have HMEET:=Zj (Zc HN);clear HN HRX HCP;have c7:=(Zc HT3).box 7;simp [Yv] at c7;have HT4:=Zj (Zc HT3);have HSX:=Zj (fun h=>show Ja r sp lk t0 t1 ag rs ss al sh by_=false from by
         have h':Xz ss ag=true∨Xz ss rs=true:=h;rcases h' with h' | h' <;> simp [Ja,Xv,h'])
        have HEND:=Zj (fun(h1:Xz ss ag=false) (h2:Xz ss rs=false)=>show Xv r sp lk t0 t1 ag rs ss=true from by
         have a0:=Zc HREG 0 (by omega);have a1:=Zc HREG 1 (by omega);have a2:=Zc HREG 2 (by omega);have a3:=Zc HREG 3 (by omega);have b0:=Zc HMEET 0 (by omega);have b1:=Zc HMEET 1 (by omega);have b2:=Zc HMEET 2 (by omega);simp only [Oy] at a0 a1 a2 a3 b0 b1 b2;simp [Xv,a0,a1,a2,a3,b0,b1,b2,h1,h2])
        clear HREG HMEET;by_cases hne:ss=[]
        ·
         subst hne;have HRG:=Zj (Zc HEND rfl rfl);go_wp2_with fail
         refine wp_loop_rounds 1 ?_;rw [rounds_succ];have HFIN:=Zj (Zfy (sp:=sp) (lk:=lk) (t0:=t0) (t1:=t1) (al:=al) (sh:=sh) (by_:=by_) hr (show St ag rs []=true from decide_eq_true ⟨la,lr,ls⟩) (Zc HRG));have HTA:=Zj ((Zc HT3).below ((Below.refl X.heap.size X).alloc (Nat.le_refl _) (.cells #[.int .i64 8,.int .i64 16,.int .i64 32] 3)));have HTB:=Zj ((Zc HTA).below ((Below.refl _ _).alloc (Nat.le_refl _) (.cells #[.int .i64 0,.int .i64 8,.int .i64 16,.int .i64 24,.int .i64 32] 3)));have d8:=(Zc HTA).box 8;have d9:=(Zc HTB).box 9;have d10:=(Zc HTB).box 10;simp [Yv] at d8 d9 d10;have HH3:=Zj (Nr [8,16,32] al _ _ (Zfw X 8 16 32) (by simp));have hR5:=Zfx (X.alloc (.cells #[.int .i64 8,.int .i64 16,.int .i64 32] 3)) 0 8 16 24 32;rw [World.size_alloc] at hR5;have HH5:=Zj (Nr [0,8,16,24,32] sh _ _ hR5 (by simp));clear hR5;go_wp2_with fail
         refine(Zc HH3).mono ?_;rintro e w2 ⟨rfl,h2⟩;subst w2;by_cases hA:al ∈ ([8,16,32]:List Int)
         ·
          have hA':=decide_eq_true hA;rw [hA'] at HFIN ⊢;clear hA hA';go_wp2_with fail
          refine(Zc HH5).mono ?_;rintro e w2 ⟨rfl,h2⟩;subst w2;by_cases hS:sh ∈ ([0,8,16,24,32]:List Int)
          ·
           have hS':=decide_eq_true hS;rw [hS'] at HFIN ⊢;clear hS hS';go_wp2_with fail
           refine(Zfv by_ 0 4 _).mono ?_;rintro e w2 ⟨rfl,h2⟩;subst w2;generalize decide (0≤by_∧by_≤4)=yes at HFIN ⊢;cases yes with
           | true =>
            go_wp2;go_ret;exact⟨by rw [Zc HFIN]; rfl,(Zc HTB).low⟩
           | false =>
            go_wp2;go_ret;exact⟨by rw [Zc HFIN]; rfl,(Zc HTB).low⟩
          ·
           have hS':=decide_eq_false hS;rw [hS'] at HFIN ⊢;clear hS hS';go_wp2;go_ret;exact⟨by rw [Zc HFIN]; rfl,(Zc HTB).low⟩
         ·
          have hA':=decide_eq_false hA;rw [hA'] at HFIN ⊢;clear hA hA';go_wp2;go_ret;exact⟨by rw [Zc HFIN]; rfl,(Zc HTA).low⟩
        ·
         obtain⟨sb,so,cap,hv2,hc⟩:=(Zc HT3).s.get hne;injection hv2 with e1 e2 e3;subst e1;subst e3;have HC:=Zj hc;clear hc e2;go_wp2_with fail
         clear c7;go_loopw [114] (fun j w'=>∃ m:Nat,j=.int .i64 m∧m≤ss.length∧w'=X∧∀ q,q<m→¬ ss.getD q 0 ∈ ag∧¬ ss.getD q 0 ∈ rs) (fun j _=>ss.length-(intOf j).toNat)
         case atStart=>exact⟨0,rfl,by omega,rfl,fun q hq=>by omega⟩
         case round =>
          obtain⟨m,rfl,hm,hwr,hno⟩:=hrel;subst wr;have HM:=Zj hno;clear hno;by_cases hml:m<ss.length
          ·
           have cm:=Zc HC m hml;have c5:=(Zc HT3).box 5;have c6:=(Zc HT3).box 6;simp [Yv] at c5 c6;have HH1:=Zj (Nr ag (ss.getD m 0) _ X (Zc HT3).a (by omega));have HH2:=Zj (Nr rs (ss.getD m 0) _ X (Zc HT3).r (by omega));by_cases hi1:ss.getD m 0 ∈ ag
           ·
            have HNO:=Zj (Zc HSX (Or.inl (Cy hml hi1)));have hyy:=decide_eq_true hi1;rw [hyy] at HH1;clear hi1 hyy HH2;generalize hy:ss.getD m 0=y at cm HH1;clear hy;go_wp2_with fail
            refine(Zc HH1).mono ?_;rintro e w2 ⟨rfl,h2⟩;subst w2;go_wp2;go_ret;exact⟨by rw [Zc HNO]; rfl,(Zc HT3).low⟩
           ·
            have hyy:=decide_eq_false hi1;rw [hyy] at HH1;by_cases hi2:ss.getD m 0 ∈ rs
            ·
             have HNO:=Zj (Zc HSX (Or.inr (Cy hml hi2)));have hyz:=decide_eq_true hi2;rw [hyz] at HH2;clear hi1 hyy hi2 hyz;generalize hy:ss.getD m 0=y at cm HH1 HH2;clear hy;go_wp2_with fail
             refine(Zc HH1).mono ?_;rintro e w2 ⟨rfl,h2⟩;subst w2;go_wp2_with fail
             refine(Zc HH2).mono ?_;rintro e w2 ⟨rfl,h2⟩;subst w2;go_wp2;go_ret;exact⟨by rw [Zc HNO]; rfl,(Zc HT3).low⟩
            ·
             have hyz:=decide_eq_false hi2;rw [hyz] at HH2;have HND:=Zj (fun q (hq:q<m+1)=>show ¬ ss.getD q 0 ∈ ag∧¬ ss.getD q 0 ∈ rs from by
              rcases Nat.lt_succ_iff_lt_or_eq.1 hq with h' | h'
              ·
               exact Zc HM q h'
              ·
               subst h'; exact⟨hi1,hi2⟩)
             clear hi1 hyy hi2 hyz;generalize hy:ss.getD m 0=y at cm HH1 HH2;clear hy;go_wp2_with fail
             refine(Zc HH1).mono ?_;rintro e w2 ⟨rfl,h2⟩;subst w2;go_wp2_with fail
             refine(Zc HH2).mono ?_;rintro e w2 ⟨rfl,h2⟩;subst w2;go_wp2;go_roundw
             case rel =>
              (repeat apply Exists.intro)
              refine⟨?RELA,?FRM⟩;case FRM=>(simp; (repeat refine⟨rfl,?_⟩); exact rfl)
              case RELA=>exact⟨m+1,by go_num,by omega,trivial,Zc HND⟩
             case measure=>simp [intOf]; omega
          ·
           obtain rfl:m=ss.length:=by omega
           have HRG:=Zj (Zc HEND (Sk fun q hq=>(Zc HM q hq).1) (Sk fun q hq=>(Zc HM q hq).2));have HFIN:=Zj (Zfy (sp:=sp) (lk:=lk) (t0:=t0) (t1:=t1) (al:=al) (sh:=sh) (by_:=by_) hr (show St ag rs ss=true from decide_eq_true ⟨la,lr,ls⟩) (Zc HRG));have HTA:=Zj ((Zc HT3).below ((Below.refl X.heap.size X).alloc (Nat.le_refl _) (.cells #[.int .i64 8,.int .i64 16,.int .i64 32] 3)));have HTB:=Zj ((Zc HTA).below ((Below.refl _ _).alloc (Nat.le_refl _) (.cells #[.int .i64 0,.int .i64 8,.int .i64 16,.int .i64 24,.int .i64 32] 3)));have d8:=(Zc HTA).box 8;have d9:=(Zc HTB).box 9;have d10:=(Zc HTB).box 10;simp [Yv] at d8 d9 d10;have HH3:=Zj (Nr [8,16,32] al _ _ (Zfw X 8 16 32) (by simp));have hR5:=Zfx (X.alloc (.cells #[.int .i64 8,.int .i64 16,.int .i64 32] 3)) 0 8 16 24 32;rw [World.size_alloc] at hR5;have HH5:=Zj (Nr [0,8,16,24,32] sh _ _ hR5 (by simp));clear hR5;go_wp2_with fail
           refine(Zc HH3).mono ?_;rintro e w2 ⟨rfl,h2⟩;subst w2;by_cases hA:al ∈ ([8,16,32]:List Int)
           ·
            have hA':=decide_eq_true hA;rw [hA'] at HFIN ⊢;clear hA hA';go_wp2_with fail
            refine(Zc HH5).mono ?_;rintro e w2 ⟨rfl,h2⟩;subst w2;by_cases hS:sh ∈ ([0,8,16,24,32]:List Int)
            ·
             have hS':=decide_eq_true hS;rw [hS'] at HFIN ⊢;clear hS hS';go_wp2_with fail
             refine(Zfv by_ 0 4 _).mono ?_;rintro e w2 ⟨rfl,h2⟩;subst w2;generalize decide (0≤by_∧by_≤4)=yes at HFIN ⊢;cases yes with
             | true =>
              go_wp2;go_ret;exact⟨by rw [Zc HFIN]; rfl,(Zc HTB).low⟩
             | false =>
              go_wp2;go_ret;exact⟨by rw [Zc HFIN]; rfl,(Zc HTB).low⟩
            ·
             have hS':=decide_eq_false hS;rw [hS'] at HFIN ⊢;clear hS hS';go_wp2;go_ret;exact⟨by rw [Zc HFIN]; rfl,(Zc HTB).low⟩
           ·
            have hA':=decide_eq_false hA;rw [hA'] at HFIN ⊢;clear hA hA';go_wp2;go_ret;exact⟨by rw [Zc HFIN]; rfl,(Zc HTA).low⟩
  ·
   have hno:Ja r sp lk t0 t1 ag rs ss al sh by_=false:=by simp [Ja,St,hl]
   have HNO:=Zj hno;clear hno;by_cases la:ag.length≤8
   ·
    by_cases lr:rs.length≤4
    ·
     have ls:¬ ss.length≤12:=fun h=>hl ⟨la,lr,h⟩;clear hl;go_wp2;go_ret;exact⟨by rw [Zc HNO]; rfl,Zc HBX⟩
    ·
     clear hl;go_wp2;go_ret;exact⟨by rw [Zc HNO]; rfl,Zc HBX⟩
   ·
    clear hl;go_wp2;go_ret;exact⟨by rw [Zc HNO]; rfl,Zc HBX⟩
 ·
  rw [decide_eq_false hr];have hno:Ja r sp lk t0 t1 ag rs ss al sh by_=false:=by
   have:Ss r al sh by_=false:=decide_eq_false (fun h=>hr ⟨h.1,h.2.1⟩);simp [Ja,this]
  have HNO:=Zj hno;clear hno;go_wp2;go_ret;exact⟨by rw [Zc HNO]; rfl,Zc HBX⟩
end Go.Proofs.YteddfaconabobaaGreatDoor
