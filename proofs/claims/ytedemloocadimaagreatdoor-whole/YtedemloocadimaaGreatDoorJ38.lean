import Derived.Test.YtedemloocadimaaGreatDoorJ24
import Derived.Test.YtedemloocadimaaGreatDoorInG
import Derived.Test.YtedemloocadimaaGreatDoorJ9
namespace Go.Proofs.YtedemloocadimaaGreatDoor
open Go.RowKit
set_option maxHeartbeats 4000000
set_option maxRecDepth 100000
theorem Tryz.infoU64:(Tryz.prog.info? 50).map (fun i=>(i.zero,i.size,i.bytes))=some (some (.int .u64 0),1,8):=by kernel_rfl
theorem Zgs (l:List Int)(n:Int):uC (l++[n])=uC l++[.int .u64 n]:=by simp [uC]
theorem Zgt (l:List Int):(uC l).length=l.length:=by simp [uC]
theorem Xk {w:World}{B e size n:Nat}{v:Value}{xs:List Value}(h:w.ownsRow B e size v n xs):∃ p c,v=.slice p n c:=by
 rcases h.2 with⟨e,e0⟩ | ⟨g,cap,cur,e,-⟩
 ·
  exact⟨none,0,by rw [e0]; exact e⟩
 ·
  exact⟨_,_,e⟩
theorem Zmw (v ls:List Int)(k:Nat)(h:k<ls.length):Ll v (ls.take (k+1))=Ll v (ls.take k)++[v.getD (ls.getD k 0).toNat 0]:=by
 unfold Ll;rw [List.take_add_one,List.getElem?_eq_getElem h,List.map_append,Gt ls 0 k h];rfl
theorem Zrj (v ds vs:List Int)(k:Nat)(h1:k<ds.length)(h2:k<vs.length):Ot v (ds.take (k+1)) (vs.take (k+1))=(Ot v (ds.take k) (vs.take k)).set (ds.getD k 0).toNat (vs.getD k 0):=by
 unfold Ot;have hz:∀ n,(ds.take n).zip (vs.take n)=(ds.zip vs).take n:=fun n=>by rw [List.zip_eq_zipWith,List.zip_eq_zipWith,List.take_zipWith]
 rw [hz,hz,List.take_add_one,List.foldl_append,List.getElem?_eq_getElem (by simp; omega),Gt ds 0 k h1,Gt vs 0 k h2];simp
theorem Zjk (v ds vs:List Int):(Ot v ds vs).length=v.length:=by
 unfold Ot;generalize ds.zip vs=l;induction l generalizing v with
 | nil=>rfl
 | cons a l ih=>rw [List.foldl_cons,ih]; simp
theorem Rz {w:World}{B e n k:Nat}{p:Option Addr}{c:Nat}{xs:List Value}(h:w.ownsRow B e 1 (.slice p n c) n xs)(hk:k<n):∃ g,p=some ⟨g,0,none⟩∧B≤g∧w.cell? ⟨g,k,none⟩=xs[k]?:=by
 rcases h.2 with⟨-,e0⟩ | ⟨g,cap,cur,e1,h2,h3,h4,-,h6,h7⟩
 ·
  omega
 ·
  injection e1 with e1 _ _;refine⟨g,e1,h2,(Zr h3 k).trans ?_⟩;rw [← h7,List.getElem?_take,if_pos (by omega)];simp
theorem Zux {w:World}{B e n:Nat}{v:Value}{xs:List Value}(h:w.ownsRow B e 1 v n xs):n≤maxLen:=by
 rcases h.2 with⟨-,e0⟩ | ⟨g,cap,cur,e1,h2,h3,h4,h5,h6,h7⟩
 ·
  omega
 ·
  omega
theorem Zrk {v ds vs:List Int}{k:Nat}(h:ds.length≤k):Ot v ds (vs.take k)=Ot v ds vs:=by
 unfold Ot;have:ds.zip (vs.take k)=ds.zip vs:=by
  rw [show ds.zip (vs.take k)=(ds.take k).zip (vs.take k) by rw [List.take_of_length_le h],List.zip_eq_zipWith,List.zip_eq_zipWith,← List.take_zipWith,List.take_of_length_le (by simp; omega)]
 rw [this]
theorem Zjl (w0:World)(x:Nl)(q lo hi lg:Nat)(bp sp op:Option Addr)(bc sc oc:Nat)(gs:List Nat)(B:Nat→Value)(ls:List Int)(lp:Option Addr)(lc:Nat)(w:World)(h:Na w0 w x q lo hi lg bp sp op bc sc oc gs B)(hl:Li w (.slice lp ls.length lc) ls)(hln:ls.length≤1000)(hin:∀ k,k<ls.length→0≤ls.getD k 0∧ls.getD k 0<x.v.length) :
 Calls Tryz.prog 173 #[.pointer (some ⟨q,0,none⟩),.slice lp ls.length lc] w fun e w'=>∃ v,e=.returned v∧w'.ownsRow w.heap.size 50 1 v ls.length (uC (Ll x.v ls))∧Below w.heap.size w w':=by
 obtain⟨ti,hti,hty0,hty1,hty2⟩:=Sh Tryz.infoU64;have H:=Za h;have HL:=Za hl;have HIN:=Za hin;clear h hl hin;go_enter Tryz.func173,Tryz.ntmps173
 go_wp2;go_loopw [10,5] (fun sk sv w'=>∃(k:Nat) (v:Value),sk=.int .i64 k∧sv=v∧k≤ls.length∧w'.ownsRow w.heap.size 50 1 v k (uC (Ll x.v (ls.take k)))∧Below w.heap.size w w') (fun sk _ _=>ls.length-(intOf sk).toNat)
 case atStart=>exact⟨0,_,rfl,rfl,by omega,World.ownsRow_nil _ _ _ _,Below.refl _ _⟩
 case round =>
  obtain⟨k,v0,rfl,rfl,hk,how,hbw⟩:=hrel;obtain⟨vp,vc,rfl⟩:=Xk how;by_cases hk2:k<ls.length
  ·
   obtain⟨p',c',e1,-,-,hcc⟩:=(J HL).below hbw;injection e1 with f1 f2 f3;obtain⟨sb,so,hsp,hcell⟩:=hcc (by omega);rw [← f1] at hsp;subst hsp;have d:=hcell k hk2;obtain⟨hx0,hx1⟩:=J HIN k hk2;obtain⟨m,hm⟩:∃ m:Nat,ls.getD k 0=m:=⟨(ls.getD k 0).toNat,by omega⟩;have HNX:=Za (show Ll x.v (ls.take (k+1))=Ll x.v (ls.take k)++[x.v.getD m 0] by rw [Zmw _ _ _ hk2,hm,Int.toNat_natCast]);rw [hm] at d hx1;have hF:=Yv (J H) hbw;have c3:=cR hF.row 3;have hml:m<x.v.length:=by omega
   have v0:wr.cell? ⟨lg,m,none⟩=some (.int .u64 (x.v.getD m 0)):=(Zr hF.loc m).trans (by simp [uC,List.getD,hml]);have hwz:=hbw.size;have HOW:=Za how;have HBW:=Za hbw;clear f1 f2 f3 hcc hcell hx0 hx1 hm hF how hbw;obtain⟨y,hy⟩:∃ y,y=x.v.getD m 0:=⟨_,rfl⟩;rw [← hy] at v0 HNX;clear hy;go_wp2_with (at_builtin; refine wpList_append_own _ rfl _ _ 44 rfl w.heap.size 50 ti _ 1 8 Tryz.underlying44 hti hty0 hty1 hty2 rfl (by decide) _ _ _ rfl (World.ownsRow.alloc (J HOW) _) ⟨wr.heap.size,0,none⟩ 1 1 [.int .u64 y] rfl rfl (by intro j u hj; match j,hj with | 0,hj=>(simp at hj; subst hj; simp [Addr.add])) (by intro u hu; simp at hu; subst hu; rfl) ?c3 ?c4 ?c5 ?_)
   case c3=>unfold maxLen; omega
   case c4=>omega
   case c5=>first | omega | (simp; omega)
   intro v7 w7 hown7 hgr7 _;have hb7:Below w.heap.size w w7:=by
    have ha:=(Gk wr (.cells #[.int .u64 y] 50 (0,0)));have hzz:=(J HBW).size;refine⟨hgr7.os.trans (ha.2.1.os.trans (J HBW).os),hgr7.tape.trans (ha.2.1.tape.trans (J HBW).tape),hgr7.output.trans (ha.2.1.output.trans (J HBW).output),by have:=hgr7.size; rw [ha.2.2] at this; omega,fun q hq=>?_⟩;exact(hgr7.block q (by rw [ha.2.2]; omega) (fun e=>by have:=(World.ownsRow.lt (J HOW) q e.symm).1; omega)).trans ((ha.2.1.block q (by omega)).trans ((J HBW).block q hq))
   have HX:=Za (show w7.ownsRow w.heap.size 50 1 v7 (k+1) (uC (Ll x.v (ls.take (k+1)))) by rw [J HNX,Zgs]; exact hown7);have HB7:=Za hb7;clear hown7 hgr7 hb7 d c3 v0 HOW HBW HNX;go_wp2;go_roundw
   case rel=>exact⟨k+1,_,by go_num,rfl,by omega,J HX,J HB7⟩
   case measure=>simp [intOf]; omega
  ·
   have hkn:k=ls.length:=by omega
   subst hkn;rw [List.take_length] at how;have HOW:=Za how;have HBW:=Za hbw;clear how hbw;go_wp2;go_ret;exact⟨_,rfl,J HOW,J HBW⟩
theorem Zuy (w0:World)(x:Nl)(q lo hi lg:Nat)(bp sp op:Option Addr)(bc sc oc:Nat)(gs:List Nat)(B:Nat→Value)(ls vals:List Int)(lp vp:Option Addr)(lc vc hv:Nat)(w:World)(h:Na w0 w x q lo hi lg bp sp op bc sc oc gs B)(hbw0:Below w0.heap.size w0 w)(hw0:w0.heap.size≤lo)(hl:Li w0 (.slice lp ls.length lc) ls)(hln:ls.length≤1000)(hin:∀ k,k<ls.length→0≤ls.getD k 0∧ls.getD k 0<x.v.length)(hvo:w.ownsRow hv 50 1 (.slice vp vals.length vc) vals.length (uC vals))(hhv:hi≤hv)(hle:ls.length≤vals.length) :
 Calls Tryz.prog 229 #[.pointer (some ⟨q,0,none⟩),.slice lp ls.length lc,.slice vp vals.length vc] w fun e w'=>(∃ v,e=.returned v)∧Na w0 w' { x with v:=Ot x.v ls vals } q lo hi lg bp sp op bc sc oc gs B∧OnB lo hi w w':=by
 have H:=Za h;have HL:=Za hl;have HIN:=Za hin;have HVO:=Za hvo;have HBW:=Za hbw0;have hvlen:vals.length<9223372036854775808:=by have:=Zux hvo; unfold maxLen at this; omega
 clear h hl hin hvo hbw0;go_enter Tryz.func229,Tryz.ntmps229
 go_wp2;go_loopw [10] (fun sk w'=>∃(k:Nat),sk=.int .i64 k∧k≤ls.length∧Na w0 w' { x with v:=Ot x.v (ls.take k) (vals.take k) } q lo hi lg bp sp op bc sc oc gs B∧OnB lo hi w w') (fun sk _=>ls.length-(intOf sk).toNat)
 case atStart=>exact⟨0,rfl,by omega,J H,Zde _ _ _⟩
 case round =>
  obtain⟨k,rfl,hk,hF,hO⟩:=hrel;by_cases hk2:k<ls.length
  ·
   obtain⟨p',c',e1,-,-,hcc⟩:=J HL;injection e1 with f1 f2 f3;obtain⟨sb,so,hsp,hcell⟩:=hcc (by omega);rw [← f1] at hsp;subst hsp;have hd0:=hcell k hk2;have hsb:sb<w0.heap.size:=World.block_lt_of_cell? _ _ hd0;have d:wr.cell? ⟨sb,so+k,none⟩=some (.int .i64 (ls.getD k 0)):=(World.cell?_of_block (hO.oth sb (Nat.lt_of_lt_of_le hsb (J HBW).size) (Or.inl (by omega)))).trans (((J HBW).cell (p:=⟨sb,so+k,none⟩) hsb).trans hd0);obtain⟨hx0,hx1⟩:=J HIN k hk2;obtain⟨m,hm⟩:∃ m:Nat,ls.getD k 0=m:=⟨(ls.getD k 0).toNat,by omega⟩;have HNX:=Za (show Ot x.v (ls.take (k+1)) (vals.take (k+1))=(Ot x.v (ls.take k) (vals.take k)).set m (vals.getD k 0) by rw [Zrj _ _ _ _ hk2 (by omega),hm,Int.toNat_natCast]);rw [hm] at d hx1;have hml:m<(Ot x.v (ls.take k) (vals.take k)).length:=by rw [Zjk]; omega
   obtain⟨gv,hvp,hgv,hvc⟩:=Rz (J HVO) (show k<vals.length by omega);subst hvp;have hv9:w.cell? ⟨gv,k,none⟩=some (.int .u64 (vals.getD k 0)):=hvc.trans (by simp [uC,List.getD,show k<vals.length by omega]);have hg9:gv<w.heap.size:=World.block_lt_of_cell? w _ hv9;have e9:wr.cell? ⟨gv,k,none⟩=some (.int .u64 (vals.getD k 0)):=(World.cell?_of_block (hO.oth gv hg9 (Or.inr (by omega)))).trans hv9;obtain⟨y,hy⟩:∃ y,y=vals.getD k 0:=⟨_,rfl⟩;rw [← hy] at e9 HNX;clear hy hv9 hg9 hd0 hsb f1 f2 f3 hcc hcell hx0 hx1 hm hvc;generalize hxs:Ot x.v (ls.take k) (vals.take k)=xs at hF HNX hml;clear hxs;obtain⟨old,hold⟩:∃ o,wr.drew.cell? ⟨lg,m,none⟩=some o:=⟨.int .u64 (xs.getD m 0),(Zr hF.loc m).trans (by simp [uC,List.getD,hml])⟩;have zl:=frozen_of_row _ _ m _ _ hF.loc;have HX:=Za (Zfm (Yv hF (Below.refl wr.heap.size wr).drew) m y);have HOX:=Za (Jq hO (Jq (Lv (lo:=lo) (hi:=hi) (Below.refl wr.heap.size wr).drew) (Cf wr.drew m (.int .u64 y) hF.gl hF.gh)));have HS:=Za (show wr.drew.heap[q]?=some (.cells #[.slice bp x.fn.blocks.length bc,.int .i64 x.b,.int .i64 x.i,.slice (some ⟨lg,0,none⟩) xs.length xs.length,.slice sp x.s.length sc,.slice op x.o.length oc] 309 (0,0))∧wr.drew.cell? ⟨gv,k,none⟩=some (.int .u64 y) from⟨hF.row,e9⟩);have hkv:k<vals.length:=by omega
   have hqg:=hF.gq;have hgl:=hF.gh;clear hF hO;go_upto_region 3 with fail
   refine wp_region_held_drew (S:=fun V=>V.heap[q]?=some (.cells #[.slice bp x.fn.blocks.length bc,.int .i64 x.b,.int .i64 x.i,.slice (some ⟨lg,0,none⟩) xs.length xs.length,.slice sp x.s.length sc,.slice op x.o.length oc] 309 (0,0))∧V.cell? ⟨gv,k,none⟩=some (.int .u64 y)) (by kernel_rfl) (J HS) (fun hHeld=>?_);refine wpAnyH_take (i:=0) (v:=?v0) rfl (by kernel_rfl) (by kernel_rfl) (by kernel_rfl) (fun _ _ _ h=>h) (Or.inl ⟨by rfl,?hy0⟩) (by assumption) ?_;case hy0 =>
    intro V hV;obtain⟨g0,g1⟩:=hV;clear g0;go_simp;all_goals (with_reducible rfl)
   simp only [Act.put,zA,zB,zC,zD,zE];refine wpAnyH_take (i:=1) (v:=?v1) rfl (by kernel_rfl) (by kernel_rfl) (by kernel_rfl) (fun _ _ _ h=>h) (Or.inl ⟨by rfl,?hy1⟩) (by assumption) ?_;case hy1 =>
    intro V hV;obtain⟨g0,g1⟩:=hV;clear g0;go_simp;all_goals (with_reducible rfl)
   simp only [Act.put,zA,zB,zC,zD,zE,zF];refine wpAnyH_take (i:=2) (v:=?v2) rfl (by kernel_rfl) (by kernel_rfl) (by kernel_rfl) (fun _ _ _ h=>h) (Or.inl ⟨by rfl,?hy2⟩) (by assumption) ?_;case hy2 =>
    intro V hV;obtain⟨g0,g1⟩:=hV;clear g0;go_simp;all_goals (with_reducible rfl)
   simp only [Act.put,zA,zB,zC,zD,zE,zF];refine wpAnyH_take (i:=3) (v:=?v3) rfl (by kernel_rfl) (by kernel_rfl) (by kernel_rfl) (fun _ _ _ h=>h) (Or.inl ⟨by rfl,?hy3⟩) (by assumption) ?_;case hy3 =>
    intro V hV;obtain⟨g0,g1⟩:=hV;have c:=cR g0 3;clear g0;go_simp;all_goals (with_reducible rfl)
   simp only [Act.put,zA,zB,zC,zD,zE,zF];refine wpAnyH_take (i:=4) (v:=?v4) rfl (by kernel_rfl) (by kernel_rfl) (by kernel_rfl) (fun _ _ _ h=>h) (Or.inl ⟨by rfl,?hy4⟩) (by assumption) ?_;case hy4 =>
    intro V hV;obtain⟨g0,g1⟩:=hV;clear g0;go_simp;all_goals (with_reducible rfl)
   simp only [Act.put,zA,zB,zC,zD,zE,zF];refine wpAnyH_take (i:=5) (v:=?v5) rfl (by kernel_rfl) (by kernel_rfl) (by kernel_rfl) (fun _ _ _ h=>h) (Or.inl ⟨by rfl,?hy5⟩) (by assumption) ?_;case hy5 =>
    intro V hV;obtain⟨g0,g1⟩:=hV;clear g0;go_simp;all_goals (with_reducible rfl)
   simp only [Act.put,zA,zB,zC,zD,zE,zF];refine wpAnyH_take (i:=6) (v:=?v6) rfl (by kernel_rfl) (by kernel_rfl) (by kernel_rfl) (fun _ _ _ h=>h) (Or.inl ⟨by rfl,?hy6⟩) (by assumption) ?_;case hy6 =>
    intro V hV;obtain⟨g0,g1⟩:=hV;clear g0;go_simp;all_goals (with_reducible rfl)
   simp only [Act.put,zA,zB,zC,zD,zE,zF];refine wpAnyH_take (i:=7) (v:=?v7) rfl (by kernel_rfl) (by kernel_rfl) (by kernel_rfl) (fun _ _ _ h=>h) (Or.inl ⟨by rfl,?hy7⟩) (by assumption) ?_;case hy7 =>
    intro V hV;obtain⟨g0,g1⟩:=hV;clear g0;go_simp;all_goals (with_reducible rfl)
   simp only [Act.put,zA,zB,zC,zD,zE,zF];refine wpAnyH_take (i:=8) (v:=?v8) rfl (by kernel_rfl) (by kernel_rfl) (by kernel_rfl) (fun _ _ _ h=>h) (Or.inl ⟨by rfl,?hy8⟩) (by assumption) ?_;case hy8 =>
    intro V hV;obtain⟨g0,g1⟩:=hV;clear g0;go_simp;all_goals (with_reducible rfl)
   simp only [Act.put,zA,zB,zC,zD,zE,zF];refine wpAnyH_take (i:=9) (v:=?v9) rfl (by kernel_rfl) (by kernel_rfl) (by kernel_rfl) (fun _ _ _ h=>h) (Or.inl ⟨by rfl,?hy9⟩) (by assumption) ?_;case hy9 =>
    intro V hV;obtain⟨g0,g1⟩:=hV;clear g0;go_simp;all_goals (with_reducible rfl)
   simp only [Act.put,zA,zB,zC,zD,zE,zF];refine tO 10 fun K hK=>?_;go_simp;refine hK.out _ _ ⟨(heap_setCell_other _ _ _ _ (Ne.symm hqg)).trans (J HS).1,(World.cell?_of_block (heap_setCell_other _ _ _ _ (by show gv≠lg; omega))).trans (J HS).2⟩ (fun hHeld2=>?_);clear hK K hHeld hHeld2;try simp only [Act.put]
   refine wpAnyH_done (by kernel_rfl) ?_ _;go_wp2;go_roundw
   case rel=>exact⟨k+1,by go_num,by omega,by rw [J HNX]; exact J HX,J HOX⟩
   case measure=>simp [intOf]; omega
  ·
   have hkn:k=ls.length:=by omega
   subst hkn;have HF:=Za (show Na w0 wr { x with v:=Ot x.v ls vals } q lo hi lg bp sp op bc sc oc gs B by rw [List.take_length,Zrk (Nat.le_refl _)] at hF; exact hF);have HO:=Za hO;clear hF hO;go_wp2;go_returns;exact⟨⟨_,rfl⟩,J HF,J HO⟩
set_option maxHeartbeats 8000000
set_option maxRecDepth 100000
theorem Zow {w wr w7:World}{n size:Nat}{e:TypeId}{v:Value}{xs:List Value}{X:Obj}(hb:Below w.heap.size w wr)(ho:wr.ownsRow w.heap.size e size v n xs)(hg:(wr.alloc X).grownBy w7 v.ownBlock):Below w.heap.size w w7:=by
 have ha:=Gk wr X;have hzz:=hb.size;refine⟨hg.os.trans (ha.2.1.os.trans hb.os),hg.tape.trans (ha.2.1.tape.trans hb.tape),hg.output.trans (ha.2.1.output.trans hb.output),by have:=hg.size; rw [ha.2.2] at this; omega,fun q hq=>?_⟩;exact(hg.block q (by rw [ha.2.2]; omega) (fun e=>by have:=(World.ownsRow.lt ho q e.symm).1; omega)).trans ((ha.2.1.block q (by omega)).trans (hb.block q hq))
theorem Zdg (x:Nl)(l:List (Int×Int))(k:Nat)(h:k<l.length):Xw x (l.take (k+1))=Xw x (l.take k)++Zgv x (l.getD k (0,0)):=by
 unfold Xw;rw [List.take_add_one,List.getElem?_eq_getElem h,List.flatMap_append,Gt l (0,0) k h];simp
structure Zbx (x:Nl)(a:Int×Int):Prop where
 w0:0≤a.1
 w8:a.1≤8
 f0:0≤a.2
 v:a.1=0→a.2<x.v.length
 s:a.1≠0→a.2<x.s.length∧8*a.1≤(x.s.getD a.2.toNat []).length
theorem Zfp (x:Nl)(l:List (Int×Int))(h:∀ k,k<l.length→Zbx x (l.getD k (0,0))):∀ k,k≤l.length→(Xw x (l.take k)).length≤8*k
 | 0,_=>by simp [Xw]
 | k+1,hk=>by
  have ih:=Zfp x l h k (by omega);rw [Zdg x l k (by omega),List.length_append];have ho:=h k (by omega);have h1:=ho.w0;have h2:=ho.w8;generalize l.getD k (0,0)=a at ho h1 h2 ⊢;have:(Zgv x a).length≤8:=by
   unfold Zgv;split
   ·
    simp
   ·
    simp; omega
  omega
theorem Zgu (w0:World)(x:Nl)(q lo hi lg:Nat)(bp sp op:Option Addr)(bc sc oc:Nat)(gs:List Nat)(B:Nat→Value)(args:List (Int×Int))(ap:Option Addr)(ac:Nat)(w:World)(h:Na w0 w x q lo hi lg bp sp op bc sc oc gs B)(hok:IOk x)(hbw0:Below w0.heap.size w0 w)(hl:LS 2 w0 (.slice ap args.length ac) args.length (fun k=>Me (args.getD k (0,0))))(han:args.length≤100)(hA:∀ k,k<args.length→Zbx x (args.getD k (0,0)))(hsl:∀ l ∈ x.s,l.length≤65536) :
 Calls Tryz.prog 168 #[.pointer (some ⟨q,0,none⟩),.slice ap args.length ac] w fun e w'=>∃ v,e=.returned v∧w'.ownsRow w.heap.size 50 1 v (Xw x args).length (uC (Xw x args))∧Below w.heap.size w w':=by
 obtain⟨ti,hti,hty0,hty1,hty2⟩:=Sh Tryz.infoU64;have H:=Za h;have HL:=Za (hl.below hbw0);have HA:=Za hA;have HOK:=Za hok;have HSL:=Za hsl;have HLEN:=Za (Zfp x args hA);clear h hl hA hok hsl hbw0;go_enter Tryz.func168,Tryz.ntmps168
 go_wp2;go_loopw [13,5] (fun sk sv w'=>∃(k:Nat) (v:Value),sk=.int .i64 k∧sv=v∧k≤args.length∧w'.ownsRow w.heap.size 50 1 v (Xw x (args.take k)).length (uC (Xw x (args.take k)))∧Below w.heap.size w w') (fun sk _ _=>args.length-(intOf sk).toNat)
 case atStart=>exact⟨0,_,rfl,rfl,by omega,World.ownsRow_nil _ _ _ _,Below.refl _ _⟩
 case round =>
  obtain⟨k,v0,rfl,rfl,hk,how,hbw⟩:=hrel;obtain⟨vp,vc,rfl⟩:=Xk how;by_cases hk2:k<args.length
  ·
   obtain⟨p',c',e1,-,-,hcc⟩:=(J HL).below hbw;injection e1 with f1 f2 f3;obtain⟨sb,so,hsp,hsb,hcell⟩:=hcc (by omega);rw [← f1] at hsp;subst hsp;have hrg:=hcell k hk2;dsimp only at hrg;have ho:=J HA k hk2;have HNX:=Za (Zdg x args k hk2);have hln:=J HLEN k hk;generalize args.getD k (0,0)=a at hrg ho HNX;obtain⟨a1,a2⟩:=a;obtain⟨hw0,hw8,hf0,hov,hos⟩:=ho;simp only at hw0 hw8 hf0 hov hos;obtain⟨nw,rfl⟩:=Int.eq_ofNat_of_zero_le hw0;obtain⟨m,rfl⟩:=Int.eq_ofNat_of_zero_le hf0;have d0:=hrg 0 _ rfl;have d1:=hrg 1 _ rfl;rw [Nat.add_zero] at d0;obtain⟨acc,hacc⟩:∃ l,l=Xw x (args.take k):=⟨_,rfl⟩;rw [← hacc] at how HNX hln ⊢;have HOWR:=Za how;have HBR:=Za hbw;have hzr:=hbw.size;clear how hbw hcc hcell hrg f1 f2 f3 hacc;obtain⟨hra,hba,-⟩:=Gk wr (.cells #[.int .i64 (nw:Int),.int .i64 (m:Int)] 361 (0,0));go_upto_region 5 with fail
   clear d0 d1;generalize World.alloc wr _=V1 at hra hba ⊢;have HOW:=Za (Lb (J HOWR) (fun g e=>hba.block g (World.ownsRow.lt (J HOWR) g e).2));have HBV:=Za (Zd (J HBR) hba hzr);have HFV:=Za (Yv (J H) (J HBV));have HRA:=Za hra;generalize wr.heap.size=ba at hra HRA hzr ⊢;clear hba HOWR HBR;by_cases hz:nw=0
   ·
    subst hz;have hml:m<x.v.length:=by have:=hov rfl; omega
    obtain⟨y,hy⟩:∃ y,y=x.v.getD m 0:=⟨_,rfl⟩;have HNX:=Za (show Xw x (args.take (k+1))=acc++[y] by rw [J HNX,hy]; rfl);have a0:=cR hra 0;have HSA:=Za (show(fun V=>V.heap[q]?=some (.cells #[.slice bp x.fn.blocks.length bc,.int .i64 x.b,.int .i64 x.i,.slice (some ⟨lg,0,none⟩) x.v.length x.v.length,.slice sp x.s.length sc,.slice op x.o.length oc] 309 (0,0))∧V.heap[ba]?=some (.cells #[.int .i64 0,.int .i64 (m:Int)] 361 (0,0))∧V.cell? ⟨lg,m,none⟩=some (.int .u64 y)) V1.drew from⟨(J HFV).row,hra,(Zr (J HFV).loc m).trans (by rw [hy]; simp [uC,List.getD,hml])⟩);clear hra hov hos hy;go_upto_region 6 with fail
    clear a0;refine wp_region_held_drew (S:=fun V=>V.heap[q]?=some (.cells #[.slice bp x.fn.blocks.length bc,.int .i64 x.b,.int .i64 x.i,.slice (some ⟨lg,0,none⟩) x.v.length x.v.length,.slice sp x.s.length sc,.slice op x.o.length oc] 309 (0,0))∧V.heap[ba]?=some (.cells #[.int .i64 0,.int .i64 (m:Int)] 361 (0,0))∧V.cell? ⟨lg,m,none⟩=some (.int .u64 y)) (by kernel_rfl) (J HSA) (fun hHeld=>?_);refine tX 0 ?_;refine tX 1 ?_;refine tX 2 ?_;refine tX 3 ?_;refine wpAnyH_take (i:=4) (v:=?va4) rfl (by kernel_rfl) (by kernel_rfl) (by kernel_rfl) (fun _ _ _ h=>h) (Or.inl ⟨by rfl,?hya4⟩) (by assumption) ?_;case hya4 =>
     intro V hV;obtain⟨g0,g1,g2⟩:=hV;have c:=cR g0 3;clear g0 g1;go_simp;all_goals (with_reducible rfl)
    simp only [Act.put,zA,zB,zC,zD,zE,zF];refine tX 5 ?_;refine wpAnyH_take (i:=6) (v:=?va6) rfl (by kernel_rfl) (by kernel_rfl) (by kernel_rfl) (fun _ _ _ h=>h) (Or.inl ⟨by rfl,?hya6⟩) (by assumption) ?_;case hya6 =>
     intro V hV;obtain⟨g0,g1,g2⟩:=hV;have c:=cR g1 1;clear g0 g1;go_simp;all_goals (with_reducible rfl)
    simp only [Act.put,zA,zB,zC,zD,zE,zF];refine tX 7 ?_;refine tX 8 ?_;refine tO 9 fun K hK=>?_;go_simp;obtain⟨r1,hb1,hz1⟩:=Gk V1.drew (.cells #[.int .u64 y] 50 (0,0));have HB1:=Za hb1;have HOW1:=Za (World.ownsRow.alloc (w:=V1.drew) (J HOW) (.cells #[.int .u64 y] 50 (0,0)));have c9:=cR r1 0;clear r1 hb1 hz1;refine kO hK (show _ from⟨((J HB1).block _ (Zk (J HSA).1)).trans (J HSA).1,((J HB1).block _ (Zk (J HSA).2.1)).trans (J HSA).2.1,((J HB1).cell (World.block_lt_of_cell? _ _ (J HSA).2.2)).trans (J HSA).2.2⟩) (fun hHeld2=>?_);clear hK K;refine tO 10 fun K hK=>?_;refine Xf rfl (.tmp 20) (.tmp 29) 44 rfl w.heap.size 50 ti _ 1 8 Tryz.underlying44 hti hty0 hty1 hty2 rfl (by decide) (.slice vp acc.length vc) acc.length (uC acc) rfl (J HOW1) ⟨V1.heap.size,0,none⟩ 1 1 [.int .u64 y] rfl rfl (by intro j u hj; match j,hj with | 0,hj=>(simp at hj; subst hj; exact c9)) (by intro u hu; simp at hu; subst hu; rfl) (by unfold maxLen; omega) (by omega) (by have:=(J HBV).size; simp; omega) ?_;intro v7 w7 hown7 hgr7;have hFd:=J HFV;have hH1:=(J H).hs;have hH2:=(J H).qh;have hH3:=(J H).gh;have hS7:(fun V=>V.heap[q]?=some (.cells #[.slice bp x.fn.blocks.length bc,.int .i64 x.b,.int .i64 x.i,.slice (some ⟨lg,0,none⟩) x.v.length x.v.length,.slice sp x.s.length sc,.slice op x.o.length oc] 309 (0,0))∧V.heap[ba]?=some (.cells #[.int .i64 0,.int .i64 (m:Int)] 361 (0,0))∧V.cell? ⟨lg,m,none⟩=some (.int .u64 y)) w7:=⟨(hgr7.block q (by have:=Zk (J HSA).1; simp; exact Nat.lt_succ_of_lt this) (fun e=>by have:=(World.ownsRow.lt (J HOW) q e.symm).1; omega)).trans (((J HB1).block _ (Zk (J HSA).1)).trans (J HSA).1),(hgr7.block ba (by have:=Zk (J HSA).2.1; simp; exact Nat.lt_succ_of_lt this) (fun e=>Ub (J HOW) (show V1.heap[ba]?=_ from(J HSA).2.1) (by decide) e.symm)).trans (((J HB1).block _ (Zk (J HSA).2.1)).trans (J HSA).2.1),(World.cell?_of_block (hgr7.block lg (by have:=Zk hFd.loc; simp; exact Nat.lt_succ_of_lt this) (fun e=>by have:=(World.ownsRow.lt (J HOW) lg e.symm).1; omega))).trans (((J HB1).cell (World.block_lt_of_cell? _ _ (J HSA).2.2)).trans (J HSA).2.2)⟩
    have HX:=Za (show w7.ownsRow w.heap.size 50 1 v7 (acc++[y]).length (uC (acc++[y])) by rw [Zgs,List.length_append]; exact hown7);have HB7:=Za (Zow (J HBV).drew (J HOW) hgr7);clear hown7 hgr7 hFd hH1 hH2 hH3 c9;refine kO hK hS7 (fun hHeld3=>?_);clear hK K hS7;refine tX 11 ?_;refine wpAnyH_done (by kernel_rfl) ?_ _;clear hHeld hHeld2 hHeld3 HSA HB1 HOW1 HOW;go_wp2;go_roundw
    case rel=>exact⟨k+1,_,by go_num,rfl,by omega,by rw [J HNX]; exact J HX,J HB7⟩
    case measure=>simp [intOf]; omega
   ·
    have hzz:¬ ((nw:Int)=0):=by omega
    obtain⟨hsl,hs8⟩:=hos hzz;have hml:m<x.s.length:=by omega
    have zz:((nw:Int)==0)=false:=by simp; omega
    obtain⟨s0,hsp,hsc⟩:=Uz (J HFV) hml;subst hsp;obtain⟨ga,hga⟩:∃ g,g=gs.getD m 0:=⟨_,rfl⟩;obtain⟨bs,hbs⟩:∃ l,l=x.s.getD m []:=⟨_,rfl⟩;have hgr:=((J HFV).each m hml).1;have hmem:bs ∈ x.s:=by rw [hbs]; simp [List.getD,hml]
    have HBL:=Za (J HSL bs hmem);have HBY:=Za (fun n hn=>(J HOK).s bs hmem n hn);rw [← hga,← hbs] at hsc hgr;rw [Int.toNat_natCast,← hbs] at hs8;have HNX:=Za (show Xw x (args.take (k+1))=acc++(List.range nw).map (fun j=>ldB bs (8*j) 8) by rw [J HNX,hbs]; unfold Zgv; rw [if_neg hzz]; rfl);have a0:=cR hra 0;have HGA:=Za hga;have HBS:=Za hbs;have HSC:=Za hsc;clear hra hov hos hgr hsc hga hbs hmem hsl;have hnw8:nw≤8:=by omega
    go_wp2;clear a0;go_loopw [33,5] (fun sj sv w'=>∃(j:Nat) (v:Value),sj=.int .i64 j∧sv=v∧j≤nw∧w'.ownsRow w.heap.size 50 1 v (acc++(List.range j).map (fun j=>ldB bs (8*j) 8)).length (uC (acc++(List.range j).map (fun j=>ldB bs (8*j) 8)))∧Below w.heap.size w w'∧w'.heap[ba]?=some (.cells #[.int .i64 (nw:Int),.int .i64 (m:Int)] 361 (0,0))) (fun sj _ _=>nw-(intOf sj).toNat)
    case atStart=>exact⟨0,_,rfl,rfl,by omega,by simpa using J HOW,J HBV,J HRA⟩
    case round =>
     obtain⟨j,vj,rfl,rfl,hj,how,hbw,hbar⟩:=hrel;by_cases hj2:j<nw
     ·
      have HNJ:=Za (show acc++(List.range (j+1)).map (fun j=>ldB bs (8*j) 8)=(acc++(List.range j).map (fun j=>ldB bs (8*j) 8))++[ldB bs (8*j) 8] by rw [List.range_succ,List.map_append,← List.append_assoc]; rfl);have hlj:(acc++(List.range j).map (fun j=>ldB bs (8*j) 8)).length≤8*k+8:=by simp; omega
      generalize acc++(List.range j).map (fun j=>ldB bs (8*j) 8)=acc at how HNJ hlj ⊢;obtain⟨vp,vc,rfl⟩:=Xk how;have hF:=Yv (J H) hbw;have hsc2:wr.cell? ⟨s0,m,none⟩=some (.slice (some ⟨ga,0,none⟩) bs.length bs.length):=by
       obtain⟨s1,e1,hc⟩:=Uz hF hml;injection e1 with e1;injection e1 with e1;subst e1;obtain⟨s2,e2,hc2⟩:=Uz (J HFV) hml;injection e2 with e2;injection e2 with e2;subst e2;exact hc.trans (hc2.symm.trans (J HSC))
      have hgr2:wr.heap[ga]?=some (.cells (yC bs).toArray 5 (0,0)):=by rw [J HGA,J HBS]; exact(hF.each m hml).1
      have HSB:=Za (show(fun V=>V.heap[q]?=some (.cells #[.slice bp x.fn.blocks.length bc,.int .i64 x.b,.int .i64 x.i,.slice (some ⟨lg,0,none⟩) x.v.length x.v.length,.slice (some ⟨s0,0,none⟩) x.s.length sc,.slice op x.o.length oc] 309 (0,0))∧V.heap[ba]?=some (.cells #[.int .i64 (nw:Int),.int .i64 (m:Int)] 361 (0,0))∧V.cell? ⟨s0,m,none⟩=some (.slice (some ⟨ga,0,none⟩) bs.length bs.length)) wr.drew from⟨hF.row,hbar,hsc2⟩);have HLC:=Za (show Calls Tryz.prog 228 #[.slice (some ⟨ga,0,none⟩) bs.length bs.length,.int .i64 (8*(j:Int)),.int .i64 8] wr.drew (fun e w'=>e=.returned (.tuple #[.int .u64 (ldB bs (8*j) 8),.nilIface])∧w'=wr.drew) from Zov bs ga (8*j) 8 wr.drew hgr2 (J HBY) rfl (by omega) (J HBL));have hwj:IntKind.i64.wrap (8*(j:Int))=8*(j:Int):=by rw [IntKind.wrap_i64]; omega
      obtain⟨y,hy⟩:∃ y,y=ldB bs (8*j) 8:=⟨_,rfl⟩;rw [← hy] at HLC HNJ;clear hy;have HOW:=Za how;have HBV:=Za hbw;clear how hbw hbar hF hsc2 hgr2;go_upto_region 10 with fail
      refine wp_region_held_drew (S:=fun V=>V.heap[q]?=some (.cells #[.slice bp x.fn.blocks.length bc,.int .i64 x.b,.int .i64 x.i,.slice (some ⟨lg,0,none⟩) x.v.length x.v.length,.slice (some ⟨s0,0,none⟩) x.s.length sc,.slice op x.o.length oc] 309 (0,0))∧V.heap[ba]?=some (.cells #[.int .i64 (nw:Int),.int .i64 (m:Int)] 361 (0,0))∧V.cell? ⟨s0,m,none⟩=some (.slice (some ⟨ga,0,none⟩) bs.length bs.length)) (by kernel_rfl) (J HSB) (fun hHeld=>?_);refine tX 0 ?_;refine tX 1 ?_;refine tX 2 ?_;refine wpAnyH_take (i:=3) (v:=?vb3) rfl (by kernel_rfl) (by kernel_rfl) (by kernel_rfl) (fun _ _ _ h=>h) (Or.inl ⟨by rfl,?hyb3⟩) (by assumption) ?_;case hyb3 =>
       intro V hV;obtain⟨g0,g1,g2⟩:=hV;have c:=cR g0 4;clear g0 g1;go_simp;all_goals (with_reducible rfl)
      simp only [Act.put,zA,zB,zC,zD,zE,zF];refine tX 4 ?_;refine wpAnyH_take (i:=5) (v:=?vb5) rfl (by kernel_rfl) (by kernel_rfl) (by kernel_rfl) (fun _ _ _ h=>h) (Or.inl ⟨by rfl,?hyb5⟩) (by assumption) ?_;case hyb5 =>
       intro V hV;obtain⟨g0,g1,g2⟩:=hV;have c:=cR g1 1;clear g0 g1;go_simp;all_goals (with_reducible rfl)
      simp only [Act.put,zA,zB,zC,zD,zE,zF];refine tX 6 ?_;refine tX 7 ?_;refine tX 8 ?_;refine tX 9 ?_;refine tO 10 fun K hK=>?_;go_simp;refine(J HLC).mono ?_;rintro e w5 ⟨rfl,hw5⟩;subst w5;refine kO hK (J HSB) (fun hHeld2=>?_);clear hK K;refine tX 11 ?_;refine tX 12 ?_;refine tX 13 ?_;refine tX 14 ?_;refine tX 15 ?_;refine wpAnyH_done (by kernel_rfl) ?_ _;clear hHeld hHeld2;go_wp2_with (at_builtin; refine wpList_append_own _ rfl _ _ 44 rfl w.heap.size 50 ti _ 1 8 Tryz.underlying44 hti hty0 hty1 hty2 rfl (by decide) _ _ _ rfl (World.ownsRow.alloc (w:=wr.drew) (J HOW) _) ⟨wr.heap.size,0,none⟩ 1 1 [.int .u64 y] rfl rfl (by intro j u hj; match j,hj with | 0,hj=>(simp at hj; subst hj; simp [Addr.add])) (by intro u hu; simp at hu; subst hu; rfl) ?c3 ?c4 ?c5 ?_)
      case c3=>unfold maxLen; omega
      case c4=>omega
      case c5=>have:=(J HBV).size; first | omega | (simp; omega)
      intro v7 w7 hown7 hgr7 _;have HX:=Za (show w7.ownsRow w.heap.size 50 1 v7 (acc++[y]).length (uC (acc++[y])) by rw [Zgs,List.length_append]; exact hown7);have HB7:=Za (Zow (J HBV).drew (J HOW) hgr7);have hba:=hgr7.block ba (by have:=Zk (J HSB).2.1; simp; exact Nat.lt_succ_of_lt this) (fun e=>Ub (J HOW) (show wr.heap[ba]?=_ from(J HSB).2.1) (by decide) e.symm);have HBA:=Za (show w7.heap[ba]?=some (.cells #[.int .i64 (nw:Int),.int .i64 (m:Int)] 361 (0,0)) from hba.trans (((Gk wr.drew (.cells #[.int .u64 y] 50 (0,0))).2.1.block ba (Zk (J HSB).2.1)).trans (J HSB).2.1));clear hown7 hgr7 hba HOW HSB HLC;go_wp2;go_roundw
      case rel=>exact⟨j+1,_,by go_num,rfl,by omega,by rw [J HNJ]; exact J HX,J HB7,J HBA⟩
      case measure=>simp [intOf]; omega
     ·
      have hjn:j=nw:=by omega
      subst hjn;rw [← J HNX] at how;have HOX:=Za how;have HBX:=Za hbw;clear how hbw hbar;go_wp2;go_roundw
      case rel=>exact⟨k+1,_,by go_num,rfl,by omega,J HOX,J HBX⟩
      case measure=>simp [intOf]; omega
  ·
   have hkn:k=args.length:=by omega
   subst hkn;rw [List.take_length] at how ⊢;have HOW:=Za how;have HBW:=Za hbw;clear how hbw;go_wp2;go_ret;exact⟨_,rfl,J HOW,J HBW⟩
end Go.Proofs.YtedemloocadimaaGreatDoor
