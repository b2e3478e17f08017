import Derived.Test.YtkenknfgeoecbaaGreatDoorInG
namespace Go.Proofs.YtkenknfgeoecbaaGreatDoor
open Go.RowKit
set_option maxHeartbeats 4000000
set_option maxRecDepth 100000
theorem Tryz.infoU64:(Tryz.prog.info? 90).map (fun i=>(i.zero,i.size,i.bytes))=some (some (.int .u64 0),1,8):=by kernel_rfl
theorem Zzb (l:List Int)(n:Int):uC (l++[n])=uC l++[.int .u64 n]:=by simp [uC]
theorem Jh {w:World}{B e size n:Nat}{v:Value}{xs:List Value}(h:w.ownsRow B e size v n xs):∃ p c,v=.slice p n c:=by
 rcases h.2 with⟨e,e0⟩ | ⟨g,cap,cur,e,-⟩
 ·exact⟨none,0,by rw [e0]; exact e⟩
 ·exact⟨_,_,e⟩
theorem Zlm (v ls:List Int)(k:Nat)(h:k<ls.length):Jm v (ls.take (k+1))=Jm v (ls.take k)++[v.getD (ls.getD k 0).toNat 0]:=by unfold Jm;rw [List.take_add_one,List.getElem?_eq_getElem h,List.map_append,Gm ls 0 k h];rfl
theorem Zqw (v ds vs:List Int)(k:Nat)(h1:k<ds.length)(h2:k<vs.length):Nt v (ds.take (k+1)) (vs.take (k+1))=(Nt v (ds.take k) (vs.take k)).set (ds.getD k 0).toNat (vs.getD k 0):=by
 unfold Nt;have hz:∀ n,(ds.take n).zip (vs.take n)=(ds.zip vs).take n:=fun n=>by rw [List.zip_eq_zipWith,List.zip_eq_zipWith,List.take_zipWith]
 rw [hz,hz,List.take_add_one,List.foldl_append,List.getElem?_eq_getElem (by simp; omega),Gm ds 0 k h1,Gm vs 0 k h2];simp
theorem Zip (v ds vs:List Int):(Nt v ds vs).length=v.length:=by
 unfold Nt;generalize ds.zip vs=l;induction l generalizing v with
 | nil=>rfl
 | cons a l ih=>rw [List.foldl_cons,ih]; simp
theorem Cm {w:World}{B e n k:Nat}{p:Option Addr}{c:Nat}{xs:List Value}(h:w.ownsRow B e 1 (.slice p n c) n xs)(hk:k<n):∃ g,p=some ⟨g,0,none⟩∧B≤g∧w.cell? ⟨g,k,none⟩=xs[k]?:=by
 rcases h.2 with⟨-,e0⟩ | ⟨g,cap,cur,e1,h2,h3,h4,-,h6,h7⟩
 ·omega
 ·injection e1 with e1 _ _;refine⟨g,e1,h2,(Zh h3 k).trans ?_⟩;rw [← h7,List.getElem?_take,if_pos (by omega)];simp
theorem Zuw {w:World}{B e n:Nat}{v:Value}{xs:List Value}(h:w.ownsRow B e 1 v n xs):n≤maxLen:=by
 rcases h.2 with⟨-,e0⟩ | ⟨g,cap,cur,e1,h2,h3,h4,h5,h6,h7⟩
 ·omega
 ·omega
theorem Zqx {v ds vs:List Int}{k:Nat}(h:ds.length≤k):Nt v ds (vs.take k)=Nt v ds vs:=by
 unfold Nt;have:ds.zip (vs.take k)=ds.zip vs:=by rw [show ds.zip (vs.take k)=(ds.take k).zip (vs.take k) by rw [List.take_of_length_le h],List.zip_eq_zipWith,List.zip_eq_zipWith,← List.take_zipWith,List.take_of_length_le (by simp; omega)]
 rw [this]
theorem Ziq (w0:World)(x:Ms)(q lo hi lg:Nat)(bp sp op:Option Addr)(bc sc oc:Nat)(gs:List Nat)(B:Nat→Value)(ls:List Int)(lp:Option Addr)(lc:Nat)(w:World)(h:Uo w0 w x q lo hi lg bp sp op bc sc oc gs B)(hl:Li w (.slice lp ls.length lc) ls)(hln:ls.length≤1000)(hin:∀ k,k<ls.length→0≤ls.getD k 0∧ls.getD k 0<x.v.length) :
 Calls Tryz.prog 192 #[.pointer (some ⟨q,0,none⟩),.slice lp ls.length lc] w fun e w'=>∃ v,e=.returned v∧w'.ownsRow w.heap.size 90 1 v ls.length (uC (Jm x.v ls))∧Below w.heap.size w w':=by
 obtain⟨ti,hti,hty0,hty1,hty2⟩:=Js Tryz.infoU64;have H:=Za h;have HL:=Za hl;have HIN:=Za hin;clear h hl hin;go_enter Tryz.func192,Tryz.ntmps192
 go_wp2;go_loopw [10,5] (fun sk sv w'=>∃(k:Nat) (v:Value),sk=.int .i64 k∧sv=v∧k≤ls.length∧w'.ownsRow w.heap.size 90 1 v k (uC (Jm x.v (ls.take k)))∧Below w.heap.size w w') (fun sk _ _=>ls.length-(intOf sk).toNat)
 case atStart=>exact⟨0,_,rfl,rfl,by omega,World.ownsRow_nil _ _ _ _,Below.refl _ _⟩
 case round =>
  obtain⟨k,v0,rfl,rfl,hk,how,hbw⟩:=hrel;obtain⟨vp,vc,rfl⟩:=Jh how;by_cases hk2:k<ls.length
  ·obtain⟨p',c',e1,-,-,hcc⟩:=(J HL).below hbw;injection e1 with f1 f2 f3;obtain⟨sb,so,hsp,hcell⟩:=hcc (by omega);rw [← f1] at hsp;subst hsp;have d:=hcell k hk2;obtain⟨hx0,hx1⟩:=J HIN k hk2;obtain⟨m,hm⟩:∃ m:Nat,ls.getD k 0=m:=⟨(ls.getD k 0).toNat,by omega⟩;have HNX:=Za (show Jm x.v (ls.take (k+1))=Jm x.v (ls.take k)++[x.v.getD m 0] by rw [Zlm _ _ _ hk2,hm,Int.toNat_natCast]);rw [hm] at d hx1;have hF:=Jg (J H) hbw;have c3:=cR hF.row 3;have hml:m<x.v.length:=by omega
   have v0:wr.cell? ⟨lg,m,none⟩=some (.int .u64 (x.v.getD m 0)):=(Zh hF.loc m).trans (by simp [uC,List.getD,hml]);have hwz:=hbw.size;have HOW:=Za how;have HBW:=Za hbw;clear f1 f2 f3 hcc hcell hx0 hx1 hm hF how hbw;obtain⟨y,hy⟩:∃ y,y=x.v.getD m 0:=⟨_,rfl⟩;rw [← hy] at v0 HNX;clear hy;go_wp2_with (at_builtin; refine wpList_append_own _ rfl _ _ 84 rfl w.heap.size 90 ti _ 1 8 Tryz.underlying84 hti hty0 hty1 hty2 rfl (by decide) _ _ _ rfl (World.ownsRow.alloc (J HOW) _) ⟨wr.heap.size,0,none⟩ 1 1 [.int .u64 y] rfl rfl (by intro j u hj; match j,hj with | 0,hj=>(simp at hj; subst hj; simp [Addr.add])) (by intro u hu; simp at hu; subst hu; rfl) ?c3 ?c4 ?c5 ?_)
   case c3=>unfold maxLen; omega
   case c4=>omega
   case c5=>first | omega | (simp; omega)
   intro v7 w7 hown7 hgr7 _;have hb7:Below w.heap.size w w7:=by have ha:=(al0 wr (.cells #[.int .u64 y] 90 (0,0)));have hzz:=(J HBW).size;refine⟨hgr7.os.trans (ha.2.1.os.trans (J HBW).os),hgr7.tape.trans (ha.2.1.tape.trans (J HBW).tape),hgr7.output.trans (ha.2.1.output.trans (J HBW).output),by have:=hgr7.size; rw [ha.2.2] at this; omega,fun q hq=>?_⟩;exact(hgr7.block q (by rw [ha.2.2]; omega) (fun e=>by have:=(World.ownsRow.lt (J HOW) q e.symm).1; omega)).trans ((ha.2.1.block q (by omega)).trans ((J HBW).block q hq))
   have HX:=Za (show w7.ownsRow w.heap.size 90 1 v7 (k+1) (uC (Jm x.v (ls.take (k+1)))) by rw [J HNX,Zzb]; exact hown7);have HB7:=Za hb7;clear hown7 hgr7 hb7 d c3 v0 HOW HBW HNX;go_wp2;go_roundw
   case rel=>exact⟨k+1,_,by go_num,rfl,by omega,J HX,J HB7⟩
   case measure=>simp [intOf]; omega
  ·have hkn:k=ls.length:=by omega
   subst hkn;rw [List.take_length] at how;have HOW:=Za how;have HBW:=Za hbw;clear how hbw;go_wp2;go_ret;exact⟨_,rfl,J HOW,J HBW⟩
theorem Yfu (w0:World)(x:Ms)(q lo hi lg:Nat)(bp sp op:Option Addr)(bc sc oc:Nat)(gs:List Nat)(B:Nat→Value)(ls vals:List Int)(lp vp:Option Addr)(lc vc hv:Nat)(w:World)(h:Uo w0 w x q lo hi lg bp sp op bc sc oc gs B)(hbw0:Below w0.heap.size w0 w)(hw0:w0.heap.size≤lo)(hl:Li w0 (.slice lp ls.length lc) ls)(hln:ls.length≤1000)(hin:∀ k,k<ls.length→0≤ls.getD k 0∧ls.getD k 0<x.v.length)(hvo:w.ownsRow hv 90 1 (.slice vp vals.length vc) vals.length (uC vals))(hhv:hi≤hv)(hle:ls.length≤vals.length) :
 Calls Tryz.prog 237 #[.pointer (some ⟨q,0,none⟩),.slice lp ls.length lc,.slice vp vals.length vc] w fun e w'=>(∃ v,e=.returned v)∧Uo w0 w' { x with v:=Nt x.v ls vals } q lo hi lg bp sp op bc sc oc gs B∧OnB lo hi w w':=by
 have H:=Za h;have HL:=Za hl;have HIN:=Za hin;have HVO:=Za hvo;have HBW:=Za hbw0;have hvlen:vals.length<9223372036854775808:=by have:=Zuw hvo; unfold maxLen at this; omega
 clear h hl hin hvo hbw0;go_enter Tryz.func237,Tryz.ntmps237
 go_wp2;go_loopw [10] (fun sk w'=>∃(k:Nat),sk=.int .i64 k∧k≤ls.length∧Uo w0 w' { x with v:=Nt x.v (ls.take k) (vals.take k) } q lo hi lg bp sp op bc sc oc gs B∧OnB lo hi w w') (fun sk _=>ls.length-(intOf sk).toNat)
 case atStart=>exact⟨0,rfl,by omega,J H,Zcx _ _ _⟩
 case round =>
  obtain⟨k,rfl,hk,hF,hO⟩:=hrel;by_cases hk2:k<ls.length
  ·obtain⟨p',c',e1,-,-,hcc⟩:=J HL;injection e1 with f1 f2 f3;obtain⟨sb,so,hsp,hcell⟩:=hcc (by omega);rw [← f1] at hsp;subst hsp;have hd0:=hcell k hk2;have hsb:sb<w0.heap.size:=World.block_lt_of_cell? _ _ hd0;have d:wr.cell? ⟨sb,so+k,none⟩=some (.int .i64 (ls.getD k 0)):=(World.cell?_of_block (hO.oth sb (Nat.lt_of_lt_of_le hsb (J HBW).size) (Or.inl (by omega)))).trans (((J HBW).cell (p:=⟨sb,so+k,none⟩) hsb).trans hd0);obtain⟨hx0,hx1⟩:=J HIN k hk2;obtain⟨m,hm⟩:∃ m:Nat,ls.getD k 0=m:=⟨(ls.getD k 0).toNat,by omega⟩;have HNX:=Za (show Nt x.v (ls.take (k+1)) (vals.take (k+1))=(Nt x.v (ls.take k) (vals.take k)).set m (vals.getD k 0) by rw [Zqw _ _ _ _ hk2 (by omega),hm,Int.toNat_natCast]);rw [hm] at d hx1;have hml:m<(Nt x.v (ls.take k) (vals.take k)).length:=by rw [Zip]; omega
   obtain⟨gv,hvp,hgv,hvc⟩:=Cm (J HVO) (show k<vals.length by omega);subst hvp;have hv9:w.cell? ⟨gv,k,none⟩=some (.int .u64 (vals.getD k 0)):=hvc.trans (by simp [uC,List.getD,show k<vals.length by omega]);have hg9:gv<w.heap.size:=World.block_lt_of_cell? w _ hv9;have e9:wr.cell? ⟨gv,k,none⟩=some (.int .u64 (vals.getD k 0)):=(World.cell?_of_block (hO.oth gv hg9 (Or.inr (by omega)))).trans hv9;obtain⟨y,hy⟩:∃ y,y=vals.getD k 0:=⟨_,rfl⟩;rw [← hy] at e9 HNX;clear hy hv9 hg9 hd0 hsb f1 f2 f3 hcc hcell hx0 hx1 hm hvc;generalize hxs:Nt x.v (ls.take k) (vals.take k)=xs at hF HNX hml;clear hxs;obtain⟨old,hold⟩:∃ o,wr.drew.cell? ⟨lg,m,none⟩=some o:=⟨.int .u64 (xs.getD m 0),(Zh hF.loc m).trans (by simp [uC,List.getD,hml])⟩;have zl:=frozen_of_row _ _ m _ _ hF.loc;have HX:=Za (Zuu (Jg hF (Below.refl wr.heap.size wr).drew) m y);have HOX:=Za (Mr hO (Mr (Sw (lo:=lo) (hi:=hi) (Below.refl wr.heap.size wr).drew) (Zgj wr.drew m (.int .u64 y) hF.gl hF.gh)));have HS:=Za (show wr.drew.heap[q]?=some (.cells #[.slice bp x.fn.blocks.length bc,.int .i64 x.b,.int .i64 x.i,.slice (some ⟨lg,0,none⟩) xs.length xs.length,.slice sp x.s.length sc,.slice op x.o.length oc] 328 (0,0))∧wr.drew.cell? ⟨gv,k,none⟩=some (.int .u64 y) from⟨hF.row,e9⟩);have hkv:k<vals.length:=by omega
   have hqg:=hF.gq;have hgl:=hF.gh;clear hF hO;go_upto_region 3 with fail
   refine wp_region_held_drew (S:=fun V=>V.heap[q]?=some (.cells #[.slice bp x.fn.blocks.length bc,.int .i64 x.b,.int .i64 x.i,.slice (some ⟨lg,0,none⟩) xs.length xs.length,.slice sp x.s.length sc,.slice op x.o.length oc] 328 (0,0))∧V.cell? ⟨gv,k,none⟩=some (.int .u64 y)) (by kernel_rfl) (J HS) (fun hHeld=>?_);refine wpAnyH_take (i:=0) (v:=?v0) rfl (by kernel_rfl) (by kernel_rfl) (by kernel_rfl) (fun _ _ _ h=>h) (Or.inl ⟨by rfl,?hy0⟩) (by assumption) ?_;case hy0=>intro V hV;obtain⟨g0,g1⟩:=hV;clear g0;go_simp;all_goals (with_reducible rfl)
   simp only [Act.put,zA,zB,zC,zD,zE];refine wpAnyH_take (i:=1) (v:=?v1) rfl (by kernel_rfl) (by kernel_rfl) (by kernel_rfl) (fun _ _ _ h=>h) (Or.inl ⟨by rfl,?hy1⟩) (by assumption) ?_;case hy1=>intro V hV;obtain⟨g0,g1⟩:=hV;clear g0;go_simp;all_goals (with_reducible rfl)
   simp only [Act.put,zA,zB,zC,zD,zE,zF];refine wpAnyH_take (i:=2) (v:=?v2) rfl (by kernel_rfl) (by kernel_rfl) (by kernel_rfl) (fun _ _ _ h=>h) (Or.inl ⟨by rfl,?hy2⟩) (by assumption) ?_;case hy2=>intro V hV;obtain⟨g0,g1⟩:=hV;clear g0;go_simp;all_goals (with_reducible rfl)
   simp only [Act.put,zA,zB,zC,zD,zE,zF];refine wpAnyH_take (i:=3) (v:=?v3) rfl (by kernel_rfl) (by kernel_rfl) (by kernel_rfl) (fun _ _ _ h=>h) (Or.inl ⟨by rfl,?hy3⟩) (by assumption) ?_;case hy3=>intro V hV;obtain⟨g0,g1⟩:=hV;have c:=cR g0 3;clear g0;go_simp;all_goals (with_reducible rfl)
   simp only [Act.put,zA,zB,zC,zD,zE,zF];refine wpAnyH_take (i:=4) (v:=?v4) rfl (by kernel_rfl) (by kernel_rfl) (by kernel_rfl) (fun _ _ _ h=>h) (Or.inl ⟨by rfl,?hy4⟩) (by assumption) ?_;case hy4=>intro V hV;obtain⟨g0,g1⟩:=hV;clear g0;go_simp;all_goals (with_reducible rfl)
   simp only [Act.put,zA,zB,zC,zD,zE,zF];refine wpAnyH_take (i:=5) (v:=?v5) rfl (by kernel_rfl) (by kernel_rfl) (by kernel_rfl) (fun _ _ _ h=>h) (Or.inl ⟨by rfl,?hy5⟩) (by assumption) ?_;case hy5=>intro V hV;obtain⟨g0,g1⟩:=hV;clear g0;go_simp;all_goals (with_reducible rfl)
   simp only [Act.put,zA,zB,zC,zD,zE,zF];refine wpAnyH_take (i:=6) (v:=?v6) rfl (by kernel_rfl) (by kernel_rfl) (by kernel_rfl) (fun _ _ _ h=>h) (Or.inl ⟨by rfl,?hy6⟩) (by assumption) ?_;case hy6=>intro V hV;obtain⟨g0,g1⟩:=hV;clear g0;go_simp;all_goals (with_reducible rfl)
   simp only [Act.put,zA,zB,zC,zD,zE,zF];refine wpAnyH_take (i:=7) (v:=?v7) rfl (by kernel_rfl) (by kernel_rfl) (by kernel_rfl) (fun _ _ _ h=>h) (Or.inl ⟨by rfl,?hy7⟩) (by assumption) ?_;case hy7=>intro V hV;obtain⟨g0,g1⟩:=hV;clear g0;go_simp;all_goals (with_reducible rfl)
   simp only [Act.put,zA,zB,zC,zD,zE,zF];refine wpAnyH_take (i:=8) (v:=?v8) rfl (by kernel_rfl) (by kernel_rfl) (by kernel_rfl) (fun _ _ _ h=>h) (Or.inl ⟨by rfl,?hy8⟩) (by assumption) ?_;case hy8=>intro V hV;obtain⟨g0,g1⟩:=hV;clear g0;go_simp;all_goals (with_reducible rfl)
   simp only [Act.put,zA,zB,zC,zD,zE,zF];refine wpAnyH_take (i:=9) (v:=?v9) rfl (by kernel_rfl) (by kernel_rfl) (by kernel_rfl) (fun _ _ _ h=>h) (Or.inl ⟨by rfl,?hy9⟩) (by assumption) ?_;case hy9=>intro V hV;obtain⟨g0,g1⟩:=hV;clear g0;go_simp;all_goals (with_reducible rfl)
   simp only [Act.put,zA,zB,zC,zD,zE,zF];refine tO 10 fun K hK=>?_;go_simp;refine hK.out _ _ ⟨(heap_setCell_other _ _ _ _ (Ne.symm hqg)).trans (J HS).1,(World.cell?_of_block (heap_setCell_other _ _ _ _ (by show gv≠lg; omega))).trans (J HS).2⟩ (fun hHeld2=>?_);clear hK K hHeld hHeld2;try simp only [Act.put]
   refine wpAnyH_done (by kernel_rfl) ?_ _;go_wp2;go_roundw
   case rel=>exact⟨k+1,by go_num,by omega,by rw [J HNX]; exact J HX,J HOX⟩
   case measure=>simp [intOf]; omega
  ·have hkn:k=ls.length:=by omega
   subst hkn;have HF:=Za (show Uo w0 wr { x with v:=Nt x.v ls vals } q lo hi lg bp sp op bc sc oc gs B by rw [List.take_length,Zqx (Nat.le_refl _)] at hF; exact hF);have HO:=Za hO;clear hF hO;go_wp2;go_returns;exact⟨⟨_,rfl⟩,J HF,J HO⟩
end Go.Proofs.YtkenknfgeoecbaaGreatDoor
