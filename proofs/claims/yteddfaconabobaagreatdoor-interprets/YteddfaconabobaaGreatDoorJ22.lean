import Derived.Test.YteddfaconabobaaGreatDoorPk
import Derived.Test.YteddfaconabobaaGreatDoorJ21
import Derived.Test.YteddfaconabobaaGreatDoorJ7
import Derived.Test.YteddfaconabobaaGreatDoorJ0
import Derived.Laws.MakeOwn
namespace Go.Proofs.YteddfaconabobaaGreatDoor
open Go.RowKit
theorem Mm {w0 V:World}{x:Xl}{q lo hi lg bc sc oc:Nat}{bp sp op:Option Addr}{gs:List Nat}{B:Nat→Value}(h:Gn w0 V x q lo hi lg bp sp op bc sc oc gs B){k:Nat}(hk:k<x.s.length):∃ s0,sp=some ⟨s0,0,none⟩∧V.cell? ⟨s0,k,none⟩=some (.slice (some ⟨gs.getD k 0,0,none⟩) (x.s.getD k []).length (x.s.getD k []).length):=by
 rcases h.slo.2 with⟨-,e0⟩ | ⟨g,cap,cur,e1,h2,h3,h4,-,h6,h7⟩
 ·
  omega
 ·
  injection e1 with e1 _ _;refine⟨g,e1,(Zi h3 k).trans ?_⟩;have h8:(cur.toList.take (x.s.length*1))[k]?=(Ib gs (x.s.map List.length))[k]?:=by rw [h7]
  rw [List.getElem?_take,if_pos (by omega)] at h8;rw [show cur[k]?=cur.toList[k]? by simp,h8];simp [Ib,hk,List.getD]
def LdS (q ib s0 a:Nat)(R I:Array Value)(sv:Value)(V:World):Prop :=
 V.heap[q]?=some (.cells R 177 (0,0))∧V.heap[ib]?=some (.cells I 65 (0,0))∧V.cell? ⟨s0,a,none⟩=some sv
theorem Zad {q ib s0 a:Nat}{R I:Array Value}{sv:Value}{V V':World}(h:LdS q ib s0 a R I sv V)(hb:Below V.heap.size V V'):LdS q ib s0 a R I sv V':=by
 obtain⟨h0,h1,h2⟩:=h;exact⟨(hb.block _ (Zd h0)).trans h0,(hb.block _ (Zd h1)).trans h1,(hb.cell (World.block_lt_of_cell? V _ h2)).trans h2⟩
theorem Zae {q ib s0 a:Nat}{R I:Array Value}{sv:Value}{V V':World}(h:LdS q ib s0 a R I sv V)(h0:V'.heap[q]?=V.heap[q]?)(h1:V'.heap[ib]?=V.heap[ib]?)(h2:V'.heap[s0]?=V.heap[s0]?):LdS q ib s0 a R I sv V':=⟨h0.trans h.1,h1.trans h.2.1,(World.cell?_of_block h2).trans h.2.2⟩
set_option maxHeartbeats 4000000 in
set_option maxRecDepth 100000 in
theorem Zno (w0:World)(x:Xl)(q lo hi lg:Nat)(bp sp op:Option Addr)(bc sc oc:Nat)(gs:List Nat)(B:Nat→Value)(op_ f_:Int)(d a b n:Nat)(xap xop:Option Addr)(xan xac xon xoc:Nat)(w:World)(h:Gn w0 w x q lo hi lg bp sp op bc sc oc gs B)(hok:IOk x)(hd:d<x.v.length)(ha:a<x.s.length)(hw:isW n=true)(hbn:b+n≤(x.s.getD a []).length)(hsl:(x.s.getD a []).length≤65536) :
 Calls Tryz.prog 83 #[.pointer (some ⟨q,0,none⟩),.agg #[.int .i64 (op_:Int),.int .i64 (d:Int),.int .i64 (a:Int),.int .i64 (b:Int),.int .u64 (n:Int),.int .i64 (f_:Int),.slice xap xan xac,.slice xop xon xoc]] w fun e w'=>(∃ v,e=.returned v)∧Gn w0 w' { x with v:=x.v.set d (Ns (x.s.getD a []) b n) } q lo hi lg bp sp op bc sc oc gs B∧Sv lo hi w w':=by
 obtain⟨s0,hsp,hsc⟩:=Mm h ha;subst hsp;obtain⟨r0,hb0,hz⟩:=Yj w (.cells #[.int .i64 (op_:Int),.int .i64 (d:Int),.int .i64 (a:Int),.int .i64 (b:Int),.int .u64 (n:Int),.int .i64 (f_:Int),.slice xap xan xac,.slice xop xon xoc] 65 (0,0));have v0:w.cell? ⟨lg,d,none⟩=some (.int .u64 (x.v.getD d 0)):=(Zi h.loc d).trans (by simp [uC,List.getD,hd]);obtain⟨ga,hga⟩:∃ g,g=gs.getD a 0:=⟨_,rfl⟩;obtain⟨bs,hbs⟩:∃ l,l=x.s.getD a []:=⟨_,rfl⟩;obtain⟨vd,hvd⟩:∃ v,v=x.v.getD d 0:=⟨_,rfl⟩;have hgr:=(h.each a ha).1;rw [← hga,← hbs] at hsc hgr;rw [← hbs] at hbn hsl;rw [← hvd] at v0;have HGA:=J hga;have HBS:=J hbs;have HVD:=J hvd;have hn8:=(Rp n).1 hw;have hwn:IntKind.i64.wrap (n:Int)=(n:Int):=by rw [IntKind.wrap_i64]; omega
 have HS:=J (show LdS q w.heap.size s0 a #[.slice bp x.fn.blocks.length bc,.int .i64 x.b,.int .i64 x.i,.slice (some ⟨lg,0,none⟩) x.v.length x.v.length,.slice (some ⟨s0,0,none⟩) x.s.length sc,.slice op x.o.length oc] #[.int .i64 (op_:Int),.int .i64 (d:Int),.int .i64 (a:Int),.int .i64 (b:Int),.int .u64 (n:Int),.int .i64 (f_:Int),.slice xap xan xac,.slice xop xon xoc] (.slice (some ⟨ga,0,none⟩) bs.length bs.length) (w.alloc (.cells #[.int .i64 (op_:Int),.int .i64 (d:Int),.int .i64 (a:Int),.int .i64 (b:Int),.int .u64 (n:Int),.int .i64 (f_:Int),.slice xap xan xac,.slice xop xon xoc] 65 (0,0))) from⟨(hb0.block _ (Zd h.row)).trans h.row,r0,(hb0.cell (World.block_lt_of_cell? _ _ hsc)).trans hsc⟩);have HF:=J (Yk h hb0);have HO:=J (Jr (lo:=lo) (hi:=hi) hb0);have HBY:=J (fun n hn=>hok.s bs (by rw [hbs]; simp [List.getD,ha]) n hn);have HVV:=J (hok.v vd (by rw [hvd]; simp [List.getD,hd]));have HWI:=J hw;have HL:=J (show lo≤ga∧ga<hi by rw [hga]; exact(h.each a ha).2);have HGL:=J (show lo≤lg∧lg<hi∧lg≠q∧hi≤w.heap.size from⟨h.gl,h.gh,h.gq,h.hs⟩);have HNE:=J (show s0≠lg∧s0≠ga∧q≠ga∧lg≠ga from⟨Ji h h.loc (by decide) s0 rfl,Ji h hgr (by decide) s0 rfl,Zs h.row hgr (by decide),Zs h.loc hgr (by decide)⟩);have HGR:=J ((hb0.block _ (Zd hgr)).trans hgr);clear h hok hsc r0 hb0 v0 hn8 hw hga hbs hvd hgr;go_enter Tryz.func83,Tryz.ntmps83
 go_upto_region 1 with fail
 generalize World.alloc w _=W at HS HF HO HGR hz ⊢;have HSD:=J (Zad (G HS) (Below.refl W.heap.size W).drew);have HFD:=J (Yk (G HF) (Below.refl W.heap.size W).drew);have HOD:=J (Xi (G HO) (Jr (lo:=lo) (hi:=hi) (Below.refl W.heap.size W).drew));clear hz;have HC:=J (Zfi bs ga b n W.drew (G HGR) (G HBY) (G HWI) hbn hsl);refine wp_region_held_drew (S:=LdS q w.heap.size s0 a #[.slice bp x.fn.blocks.length bc,.int .i64 x.b,.int .i64 x.i,.slice (some ⟨lg,0,none⟩) x.v.length x.v.length,.slice (some ⟨s0,0,none⟩) x.s.length sc,.slice op x.o.length oc] #[.int .i64 (op_:Int),.int .i64 (d:Int),.int .i64 (a:Int),.int .i64 (b:Int),.int .u64 (n:Int),.int .i64 (f_:Int),.slice xap xan xac,.slice xop xon xoc] (.slice (some ⟨ga,0,none⟩) bs.length bs.length)) (by kernel_rfl) (G HSD) (fun hHeld=>?_);refine tX 0 ?_;simp only [Act.put,zA,zB,zC,zD,zE];refine tX 1 ?_;simp only [Act.put,zA,zB,zC,zD,zE,zF];refine tX 2 ?_;simp only [Act.put,zA,zB,zC,zD,zE,zF];refine wpAnyH_take (i:=3) (v:=?v3) rfl (by kernel_rfl) (by kernel_rfl) (by kernel_rfl) (fun _ _ _ h=>h) (Or.inl ⟨by rfl,?hy3⟩) (by assumption) ?_;case hy3 =>
  intro V hV;obtain⟨g0,g1,g2⟩:=hV;have c:=cR g0 3;clear g0 g1;go_simp;all_goals (with_reducible rfl)
 simp only [Act.put,zA,zB,zC,zD,zE,zF];refine tX 4 ?_;simp only [Act.put,zA,zB,zC,zD,zE,zF];refine wpAnyH_take (i:=5) (v:=?v5) rfl (by kernel_rfl) (by kernel_rfl) (by kernel_rfl) (fun _ _ _ h=>h) (Or.inl ⟨by rfl,?hy5⟩) (by assumption) ?_;case hy5 =>
  intro V hV;obtain⟨g0,g1,g2⟩:=hV;have c:=cR g1 1;clear g0 g1;go_simp;all_goals (with_reducible rfl)
 simp only [Act.put,zA,zB,zC,zD,zE,zF];refine tX 6 ?_;simp only [Act.put,zA,zB,zC,zD,zE,zF];refine tX 7 ?_;simp only [Act.put,zA,zB,zC,zD,zE,zF];refine tX 8 ?_;simp only [Act.put,zA,zB,zC,zD,zE,zF];refine wpAnyH_take (i:=9) (v:=?v9) rfl (by kernel_rfl) (by kernel_rfl) (by kernel_rfl) (fun _ _ _ h=>h) (Or.inl ⟨by rfl,?hy9⟩) (by assumption) ?_;case hy9 =>
  intro V hV;obtain⟨g0,g1,g2⟩:=hV;have c:=cR g0 4;clear g0 g1;go_simp;all_goals (with_reducible rfl)
 simp only [Act.put,zA,zB,zC,zD,zE,zF];refine tX 10 ?_;simp only [Act.put,zA,zB,zC,zD,zE,zF];refine wpAnyH_take (i:=11) (v:=?v11) rfl (by kernel_rfl) (by kernel_rfl) (by kernel_rfl) (fun _ _ _ h=>h) (Or.inl ⟨by rfl,?hy11⟩) (by assumption) ?_;case hy11 =>
  intro V hV;obtain⟨g0,g1,g2⟩:=hV;have c:=cR g1 2;clear g0 g1;go_simp;all_goals (with_reducible rfl)
 simp only [Act.put,zA,zB,zC,zD,zE,zF];refine tX 12 ?_;simp only [Act.put,zA,zB,zC,zD,zE,zF];refine tX 13 ?_;simp only [Act.put,zA,zB,zC,zD,zE,zF];refine tX 14 ?_;simp only [Act.put,zA,zB,zC,zD,zE,zF];refine wpAnyH_take (i:=15) (v:=?v15) rfl (by kernel_rfl) (by kernel_rfl) (by kernel_rfl) (fun _ _ _ h=>h) (Or.inl ⟨by rfl,?hy15⟩) (by assumption) ?_;case hy15 =>
  intro V hV;obtain⟨g0,g1,g2⟩:=hV;have c:=cR g1 3;clear g0 g1;go_simp;all_goals (with_reducible rfl)
 simp only [Act.put,zA,zB,zC,zD,zE,zF];refine tX 16 ?_;simp only [Act.put,zA,zB,zC,zD,zE,zF];refine wpAnyH_take (i:=17) (v:=?v17) rfl (by kernel_rfl) (by kernel_rfl) (by kernel_rfl) (fun _ _ _ h=>h) (Or.inl ⟨by rfl,?hy17⟩) (by assumption) ?_;case hy17 =>
  intro V hV;obtain⟨g0,g1,g2⟩:=hV;have c:=cR g1 4;clear g0 g1;go_simp;all_goals (with_reducible rfl)
 simp only [Act.put,zA,zB,zC,zD,zE,zF];refine tX 18 ?_;simp only [Act.put,zA,zB,zC,zD,zE,zF];refine tO 19 fun K hK=>?_;go_simp;refine(G HC).mono ?_;rintro e w5 ⟨rfl,hw5⟩;subst w5;refine hK.out _ _ (G HSD) (fun hHeld2=>?_);clear hK K;try simp only [Act.put,zA,zB,zC,zD,zE,zF]
 refine tX 20 ?_;simp only [Act.put,zA,zB,zC,zD,zE,zF];refine tX 21 ?_;simp only [Act.put,zA,zB,zC,zD,zE,zF];refine tX 22 ?_;simp only [Act.put,zA,zB,zC,zD,zE,zF];refine tX 23 ?_;simp only [Act.put,zA,zB,zC,zD,zE,zF];have hF:=G HFD;have c9:W.drew.cell? ⟨lg,d,none⟩=some (.int .u64 vd):=(Zi hF.loc d).trans (by rw [G HVD]; simp [uC,List.getD,hd]);have z9:=frozen_of_row _ _ d _ _ hF.loc;have HX:=J (Zac hF d (Ns bs b n));have HO9:=J (Xi (G HOD) (Ur W.drew d (.int .u64 (Ns bs b n)) (G HGL).1 (G HGL).2.1));clear hF;refine tO 24 fun K hK=>?_;go_simp;refine hK.out _ _ (Zae (G HSD) (heap_setCell_other _ _ _ _ (Ne.symm (G HGL).2.2.1)) (heap_setCell_other _ _ _ _ (by have:=G HGL; show w.heap.size≠lg; omega)) (heap_setCell_other _ _ _ _ (G HNE).1)) (fun hHeld3=>?_);clear hK K;try simp only [Act.put]
 refine wpAnyH_done (by kernel_rfl) ?_ _;go_wp2;go_returns;exact⟨⟨_,rfl⟩,by rw [← G HBS]; exact G HX,G HO9⟩
set_option maxHeartbeats 4000000 in
set_option maxRecDepth 100000 in
theorem Zle (w0:World)(x:Xl)(q lo hi lg:Nat)(bp sp op:Option Addr)(bc sc oc:Nat)(gs:List Nat)(B:Nat→Value)(op_ f_:Int)(d a b n:Nat)(xap xop:Option Addr)(xan xac xon xoc:Nat)(w:World)(h:Gn w0 w x q lo hi lg bp sp op bc sc oc gs B)(hok:IOk x)(hd:d<x.v.length)(ha:a<x.s.length)(hw:isW n=true)(hbn:b+n≤(x.s.getD a []).length)(hsl:(x.s.getD a []).length≤65536) :
 Calls Tryz.prog 84 #[.pointer (some ⟨q,0,none⟩),.agg #[.int .i64 (op_:Int),.int .i64 (d:Int),.int .i64 (a:Int),.int .i64 (b:Int),.int .u64 (n:Int),.int .i64 (f_:Int),.slice xap xan xac,.slice xop xon xoc]] w fun e w'=>(∃ v,e=.returned v)∧Gn w0 w' { x with s:=x.s.set a (Sb (x.s.getD a []) b n (x.v.getD d 0)) } q lo hi lg bp sp op bc sc oc gs B∧Sv lo hi w w':=by
 obtain⟨s0,hsp,hsc⟩:=Mm h ha;subst hsp;obtain⟨r0,hb0,hz⟩:=Yj w (.cells #[.int .i64 (op_:Int),.int .i64 (d:Int),.int .i64 (a:Int),.int .i64 (b:Int),.int .u64 (n:Int),.int .i64 (f_:Int),.slice xap xan xac,.slice xop xon xoc] 65 (0,0));have v0:w.cell? ⟨lg,d,none⟩=some (.int .u64 (x.v.getD d 0)):=(Zi h.loc d).trans (by simp [uC,List.getD,hd]);obtain⟨ga,hga⟩:∃ g,g=gs.getD a 0:=⟨_,rfl⟩;obtain⟨bs,hbs⟩:∃ l,l=x.s.getD a []:=⟨_,rfl⟩;obtain⟨vd,hvd⟩:∃ v,v=x.v.getD d 0:=⟨_,rfl⟩;have hgr:=(h.each a ha).1;rw [← hga,← hbs] at hsc hgr;rw [← hbs] at hbn hsl;rw [← hvd] at v0;have HGA:=J hga;have HBS:=J hbs;have HVD:=J hvd;have hn8:=(Rp n).1 hw;have hwn:IntKind.i64.wrap (n:Int)=(n:Int):=by rw [IntKind.wrap_i64]; omega
 have HS:=J (show LdS q w.heap.size s0 a #[.slice bp x.fn.blocks.length bc,.int .i64 x.b,.int .i64 x.i,.slice (some ⟨lg,0,none⟩) x.v.length x.v.length,.slice (some ⟨s0,0,none⟩) x.s.length sc,.slice op x.o.length oc] #[.int .i64 (op_:Int),.int .i64 (d:Int),.int .i64 (a:Int),.int .i64 (b:Int),.int .u64 (n:Int),.int .i64 (f_:Int),.slice xap xan xac,.slice xop xon xoc] (.slice (some ⟨ga,0,none⟩) bs.length bs.length) (w.alloc (.cells #[.int .i64 (op_:Int),.int .i64 (d:Int),.int .i64 (a:Int),.int .i64 (b:Int),.int .u64 (n:Int),.int .i64 (f_:Int),.slice xap xan xac,.slice xop xon xoc] 65 (0,0))) from⟨(hb0.block _ (Zd h.row)).trans h.row,r0,(hb0.cell (World.block_lt_of_cell? _ _ hsc)).trans hsc⟩);have HF:=J (Yk h hb0);have HO:=J (Jr (lo:=lo) (hi:=hi) hb0);have HBY:=J (fun n hn=>hok.s bs (by rw [hbs]; simp [List.getD,ha]) n hn);have HVV:=J (hok.v vd (by rw [hvd]; simp [List.getD,hd]));have HWI:=J hw;have HL:=J (show lo≤ga∧ga<hi by rw [hga]; exact(h.each a ha).2);have HGL:=J (show lo≤lg∧lg<hi∧lg≠q∧hi≤w.heap.size from⟨h.gl,h.gh,h.gq,h.hs⟩);have HNE:=J (show s0≠lg∧s0≠ga∧q≠ga∧lg≠ga from⟨Ji h h.loc (by decide) s0 rfl,Ji h hgr (by decide) s0 rfl,Zs h.row hgr (by decide),Zs h.loc hgr (by decide)⟩);have HGR:=J ((hb0.block _ (Zd hgr)).trans hgr);clear h hok hsc r0 hb0 v0 hn8 hw hga hbs hvd hgr;go_enter Tryz.func84,Tryz.ntmps84
 go_upto_region 1 with fail
 generalize World.alloc w _=W at HS HF HO HGR hz ⊢;have HSD:=J (Zad (G HS) (Below.refl W.heap.size W).drew);have HFD:=J (Yk (G HF) (Below.refl W.heap.size W).drew);have HOD:=J (Xi (G HO) (Jr (lo:=lo) (hi:=hi) (Below.refl W.heap.size W).drew));have HV0:=J (show W.drew.cell? ⟨lg,d,none⟩=some (.int .u64 vd) from(Zi (G HFD).loc d).trans (by rw [G HVD]; simp [uC,List.getD,hd]));clear hz;have HC:=J (Zcm bs ga b n vd W.drew (G HGR) (G HWI) hbn hsl);refine wp_region_held_drew (S:=fun V=>LdS q w.heap.size s0 a #[.slice bp x.fn.blocks.length bc,.int .i64 x.b,.int .i64 x.i,.slice (some ⟨lg,0,none⟩) x.v.length x.v.length,.slice (some ⟨s0,0,none⟩) x.s.length sc,.slice op x.o.length oc] #[.int .i64 (op_:Int),.int .i64 (d:Int),.int .i64 (a:Int),.int .i64 (b:Int),.int .u64 (n:Int),.int .i64 (f_:Int),.slice xap xan xac,.slice xop xon xoc] (.slice (some ⟨ga,0,none⟩) bs.length bs.length) V∧V.cell? ⟨lg,d,none⟩=some (.int .u64 vd)) (by kernel_rfl) (⟨G HSD,G HV0⟩) (fun hHeld=>?_);refine wpAnyH_take (i:=0) (v:=?v0) rfl (by kernel_rfl) (by kernel_rfl) (by kernel_rfl) (fun _ _ _ h=>h) (Or.inl ⟨by rfl,?hy0⟩) (by assumption) ?_;case hy0 =>
  intro V hV;obtain⟨⟨g0,g1,g2⟩,g3⟩:=hV;clear g0 g1;go_simp;all_goals (with_reducible rfl)
 simp only [Act.put,zA,zB,zC,zD,zE];refine wpAnyH_take (i:=1) (v:=?v1) rfl (by kernel_rfl) (by kernel_rfl) (by kernel_rfl) (fun _ _ _ h=>h) (Or.inl ⟨by rfl,?hy1⟩) (by assumption) ?_;case hy1 =>
  intro V hV;obtain⟨⟨g0,g1,g2⟩,g3⟩:=hV;clear g0 g1;go_simp;all_goals (with_reducible rfl)
 simp only [Act.put,zA,zB,zC,zD,zE,zF];refine wpAnyH_take (i:=2) (v:=?v2) rfl (by kernel_rfl) (by kernel_rfl) (by kernel_rfl) (fun _ _ _ h=>h) (Or.inl ⟨by rfl,?hy2⟩) (by assumption) ?_;case hy2 =>
  intro V hV;obtain⟨⟨g0,g1,g2⟩,g3⟩:=hV;clear g0 g1;go_simp;all_goals (with_reducible rfl)
 simp only [Act.put,zA,zB,zC,zD,zE,zF];refine wpAnyH_take (i:=3) (v:=?v3) rfl (by kernel_rfl) (by kernel_rfl) (by kernel_rfl) (fun _ _ _ h=>h) (Or.inl ⟨by rfl,?hy3⟩) (by assumption) ?_;case hy3 =>
  intro V hV;obtain⟨⟨g0,g1,g2⟩,g3⟩:=hV;have c:=cR g0 4;clear g0 g1;go_simp;all_goals (with_reducible rfl)
 simp only [Act.put,zA,zB,zC,zD,zE,zF];refine wpAnyH_take (i:=4) (v:=?v4) rfl (by kernel_rfl) (by kernel_rfl) (by kernel_rfl) (fun _ _ _ h=>h) (Or.inl ⟨by rfl,?hy4⟩) (by assumption) ?_;case hy4 =>
  intro V hV;obtain⟨⟨g0,g1,g2⟩,g3⟩:=hV;clear g0 g1;go_simp;all_goals (with_reducible rfl)
 simp only [Act.put,zA,zB,zC,zD,zE,zF];refine wpAnyH_take (i:=5) (v:=?v5) rfl (by kernel_rfl) (by kernel_rfl) (by kernel_rfl) (fun _ _ _ h=>h) (Or.inl ⟨by rfl,?hy5⟩) (by assumption) ?_;case hy5 =>
  intro V hV;obtain⟨⟨g0,g1,g2⟩,g3⟩:=hV;have c:=cR g1 2;clear g0 g1;go_simp;all_goals (with_reducible rfl)
 simp only [Act.put,zA,zB,zC,zD,zE,zF];refine wpAnyH_take (i:=6) (v:=?v6) rfl (by kernel_rfl) (by kernel_rfl) (by kernel_rfl) (fun _ _ _ h=>h) (Or.inl ⟨by rfl,?hy6⟩) (by assumption) ?_;case hy6 =>
  intro V hV;obtain⟨⟨g0,g1,g2⟩,g3⟩:=hV;clear g0 g1;go_simp;all_goals (with_reducible rfl)
 simp only [Act.put,zA,zB,zC,zD,zE,zF];refine wpAnyH_take (i:=7) (v:=?v7) rfl (by kernel_rfl) (by kernel_rfl) (by kernel_rfl) (fun _ _ _ h=>h) (Or.inl ⟨by rfl,?hy7⟩) (by assumption) ?_;case hy7 =>
  intro V hV;obtain⟨⟨g0,g1,g2⟩,g3⟩:=hV;clear g0 g1;go_simp;all_goals (with_reducible rfl)
 simp only [Act.put,zA,zB,zC,zD,zE,zF];refine wpAnyH_take (i:=8) (v:=?v8) rfl (by kernel_rfl) (by kernel_rfl) (by kernel_rfl) (fun _ _ _ h=>h) (Or.inl ⟨by rfl,?hy8⟩) (by assumption) ?_;case hy8 =>
  intro V hV;obtain⟨⟨g0,g1,g2⟩,g3⟩:=hV;clear g0 g1;go_simp;all_goals (with_reducible rfl)
 simp only [Act.put,zA,zB,zC,zD,zE,zF];refine wpAnyH_take (i:=9) (v:=?v9) rfl (by kernel_rfl) (by kernel_rfl) (by kernel_rfl) (fun _ _ _ h=>h) (Or.inl ⟨by rfl,?hy9⟩) (by assumption) ?_;case hy9 =>
  intro V hV;obtain⟨⟨g0,g1,g2⟩,g3⟩:=hV;have c:=cR g1 3;clear g0 g1;go_simp;all_goals (with_reducible rfl)
 simp only [Act.put,zA,zB,zC,zD,zE,zF];refine wpAnyH_take (i:=10) (v:=?v10) rfl (by kernel_rfl) (by kernel_rfl) (by kernel_rfl) (fun _ _ _ h=>h) (Or.inl ⟨by rfl,?hy10⟩) (by assumption) ?_;case hy10 =>
  intro V hV;obtain⟨⟨g0,g1,g2⟩,g3⟩:=hV;clear g0 g1;go_simp;all_goals (with_reducible rfl)
 simp only [Act.put,zA,zB,zC,zD,zE,zF];refine wpAnyH_take (i:=11) (v:=?v11) rfl (by kernel_rfl) (by kernel_rfl) (by kernel_rfl) (fun _ _ _ h=>h) (Or.inl ⟨by rfl,?hy11⟩) (by assumption) ?_;case hy11 =>
  intro V hV;obtain⟨⟨g0,g1,g2⟩,g3⟩:=hV;have c:=cR g1 4;clear g0 g1;go_simp;all_goals (with_reducible rfl)
 simp only [Act.put,zA,zB,zC,zD,zE,zF];refine wpAnyH_take (i:=12) (v:=?v12) rfl (by kernel_rfl) (by kernel_rfl) (by kernel_rfl) (fun _ _ _ h=>h) (Or.inl ⟨by rfl,?hy12⟩) (by assumption) ?_;case hy12 =>
  intro V hV;obtain⟨⟨g0,g1,g2⟩,g3⟩:=hV;clear g0 g1;go_simp;all_goals (with_reducible rfl)
 simp only [Act.put,zA,zB,zC,zD,zE,zF];refine wpAnyH_take (i:=13) (v:=?v13) rfl (by kernel_rfl) (by kernel_rfl) (by kernel_rfl) (fun _ _ _ h=>h) (Or.inl ⟨by rfl,?hy13⟩) (by assumption) ?_;case hy13 =>
  intro V hV;obtain⟨⟨g0,g1,g2⟩,g3⟩:=hV;clear g0 g1;go_simp;all_goals (with_reducible rfl)
 simp only [Act.put,zA,zB,zC,zD,zE,zF];refine wpAnyH_take (i:=14) (v:=?v14) rfl (by kernel_rfl) (by kernel_rfl) (by kernel_rfl) (fun _ _ _ h=>h) (Or.inl ⟨by rfl,?hy14⟩) (by assumption) ?_;case hy14 =>
  intro V hV;obtain⟨⟨g0,g1,g2⟩,g3⟩:=hV;clear g0 g1;go_simp;all_goals (with_reducible rfl)
 simp only [Act.put,zA,zB,zC,zD,zE,zF];refine wpAnyH_take (i:=15) (v:=?v15) rfl (by kernel_rfl) (by kernel_rfl) (by kernel_rfl) (fun _ _ _ h=>h) (Or.inl ⟨by rfl,?hy15⟩) (by assumption) ?_;case hy15 =>
  intro V hV;obtain⟨⟨g0,g1,g2⟩,g3⟩:=hV;clear g0 g1;go_simp;all_goals (with_reducible rfl)
 simp only [Act.put,zA,zB,zC,zD,zE,zF];refine wpAnyH_take (i:=16) (v:=?v16) rfl (by kernel_rfl) (by kernel_rfl) (by kernel_rfl) (fun _ _ _ h=>h) (Or.inl ⟨by rfl,?hy16⟩) (by assumption) ?_;case hy16 =>
  intro V hV;obtain⟨⟨g0,g1,g2⟩,g3⟩:=hV;have c:=cR g0 3;clear g0 g1;go_simp;all_goals (with_reducible rfl)
 simp only [Act.put,zA,zB,zC,zD,zE,zF];refine wpAnyH_take (i:=17) (v:=?v17) rfl (by kernel_rfl) (by kernel_rfl) (by kernel_rfl) (fun _ _ _ h=>h) (Or.inl ⟨by rfl,?hy17⟩) (by assumption) ?_;case hy17 =>
  intro V hV;obtain⟨⟨g0,g1,g2⟩,g3⟩:=hV;clear g0 g1;go_simp;all_goals (with_reducible rfl)
 simp only [Act.put,zA,zB,zC,zD,zE,zF];refine wpAnyH_take (i:=18) (v:=?v18) rfl (by kernel_rfl) (by kernel_rfl) (by kernel_rfl) (fun _ _ _ h=>h) (Or.inl ⟨by rfl,?hy18⟩) (by assumption) ?_;case hy18 =>
  intro V hV;obtain⟨⟨g0,g1,g2⟩,g3⟩:=hV;have c:=cR g1 1;clear g0 g1;go_simp;all_goals (with_reducible rfl)
 simp only [Act.put,zA,zB,zC,zD,zE,zF];refine wpAnyH_take (i:=19) (v:=?v19) rfl (by kernel_rfl) (by kernel_rfl) (by kernel_rfl) (fun _ _ _ h=>h) (Or.inl ⟨by rfl,?hy19⟩) (by assumption) ?_;case hy19 =>
  intro V hV;obtain⟨⟨g0,g1,g2⟩,g3⟩:=hV;clear g0 g1;go_simp;all_goals (with_reducible rfl)
 simp only [Act.put,zA,zB,zC,zD,zE,zF];refine wpAnyH_take (i:=20) (v:=?v20) rfl (by kernel_rfl) (by kernel_rfl) (by kernel_rfl) (fun _ _ _ h=>h) (Or.inl ⟨by rfl,?hy20⟩) (by assumption) ?_;case hy20 =>
  intro V hV;obtain⟨⟨g0,g1,g2⟩,g3⟩:=hV;clear g0 g1;go_simp;all_goals (with_reducible rfl)
 simp only [Act.put,zA,zB,zC,zD,zE,zF];refine tO 21 fun K hK=>?_;go_simp;refine(G HC).mono ?_;rintro e w5 ⟨rfl,hw5⟩;have hne:=G HNE;have hgl:=G HGL;have hLL:=G HL;have hst:=fun g (hg:g≠ga)=>Jc W.drew ga b vd g hg n;have HX:=J (show Gn w0 w5 { x with s:=x.s.set a (Sb (x.s.getD a []) b n (x.v.getD d 0)) } q lo hi lg bp (some ⟨s0,0,none⟩) op bc sc oc gs B by rw [hw5,G HGA,G HVD]; exact Znm (G HFD) a ha b n (x.v.getD d 0));have HO9:=J (show Sv lo hi w w5 by rw [hw5]; exact Xi (G HOD) (Zlb W.drew b n vd hLL.1 hLL.2));have hS5:LdS q w.heap.size s0 a #[.slice bp x.fn.blocks.length bc,.int .i64 x.b,.int .i64 x.i,.slice (some ⟨lg,0,none⟩) x.v.length x.v.length,.slice (some ⟨s0,0,none⟩) x.s.length sc,.slice op x.o.length oc] #[.int .i64 (op_:Int),.int .i64 (d:Int),.int .i64 (a:Int),.int .i64 (b:Int),.int .u64 (n:Int),.int .i64 (f_:Int),.slice xap xan xac,.slice xop xon xoc] (.slice (some ⟨ga,0,none⟩) bs.length bs.length) w5:=by rw [hw5]; exact Zae (G HSD) (hst q hne.2.2.1) (hst w.heap.size (by omega)) (hst s0 hne.2.1)
 have hV5:w5.cell? ⟨lg,d,none⟩=some (.int .u64 vd):=by rw [hw5]; exact(World.cell?_of_block (hst lg hne.2.2.2)).trans (G HV0)
 clear hw5 hne hgl hLL hst;refine hK.out _ _ ⟨hS5,hV5⟩ (fun hHeld2=>?_);clear hK K hS5 hV5;try simp only [Act.put,zA,zB,zC,zD,zE,zF]
 refine wpAnyH_done (by kernel_rfl) ?_ _;go_wp2;go_returns;exact⟨⟨_,rfl⟩,G HX,G HO9⟩
theorem Tryz.infoU64:(Tryz.prog.info? 62).map (fun i=>(i.zero,i.size,i.bytes))=some (some (.int .u64 0),1,8):=by kernel_rfl
theorem Us (l:List Int)(n:Int):uC (l++[n])=uC l++[.int .u64 n]:=by simp [uC]
theorem Zax (l:List Int):(uC l).length=l.length:=by simp [uC]
theorem Zm {w:World}{B e size n:Nat}{v:Value}{xs:List Value}(h:w.ownsRow B e size v n xs):∃ p c,v=.slice p n c:=by
 rcases h.2 with⟨e,e0⟩ | ⟨g,cap,cur,e,-⟩
 ·
  exact⟨none,0,by rw [e0]; exact e⟩
 ·
  exact⟨_,_,e⟩
theorem Kw (v ls:List Int)(k:Nat)(h:k<ls.length):Xf v (ls.take (k+1))=Xf v (ls.take k)++[v.getD (ls.getD k 0).toNat 0]:=by
 unfold Xf;rw [List.take_add_one,List.getElem?_eq_getElem h,List.map_append,Yu ls 0 k h];rfl
theorem Rz (v ds vs:List Int)(k:Nat)(h1:k<ds.length)(h2:k<vs.length):Xp v (ds.take (k+1)) (vs.take (k+1))=(Xp v (ds.take k) (vs.take k)).set (ds.getD k 0).toNat (vs.getD k 0):=by
 unfold Xp;have hz:∀ n,(ds.take n).zip (vs.take n)=(ds.zip vs).take n:=fun n=>by rw [List.zip_eq_zipWith,List.zip_eq_zipWith,List.take_zipWith]
 rw [hz,hz,List.take_add_one,List.foldl_append,List.getElem?_eq_getElem (by simp; omega),Yu ds 0 k h1,Yu vs 0 k h2];simp
theorem Rd (v ds vs:List Int):(Xp v ds vs).length=v.length:=by
 unfold Xp;generalize ds.zip vs=l;induction l generalizing v with
 | nil=>rfl
 | cons a l ih=>rw [List.foldl_cons,ih]; simp
theorem Nz {w:World}{B e n k:Nat}{p:Option Addr}{c:Nat}{xs:List Value}(h:w.ownsRow B e 1 (.slice p n c) n xs)(hk:k<n):∃ g,p=some ⟨g,0,none⟩∧B≤g∧w.cell? ⟨g,k,none⟩=xs[k]?:=by
 rcases h.2 with⟨-,e0⟩ | ⟨g,cap,cur,e1,h2,h3,h4,-,h6,h7⟩
 ·
  omega
 ·
  injection e1 with e1 _ _;refine⟨g,e1,h2,(Zi h3 k).trans ?_⟩;rw [← h7,List.getElem?_take,if_pos (by omega)];simp
theorem Zis {w:World}{B e n:Nat}{v:Value}{xs:List Value}(h:w.ownsRow B e 1 v n xs):n≤maxLen:=by
 rcases h.2 with⟨-,e0⟩ | ⟨g,cap,cur,e1,h2,h3,h4,h5,h6,h7⟩
 ·
  omega
 ·
  omega
theorem Zgn {v ds vs:List Int}{k:Nat}(h:ds.length≤k):Xp v ds (vs.take k)=Xp v ds vs:=by
 unfold Xp;have:ds.zip (vs.take k)=ds.zip vs:=by
  rw [show ds.zip (vs.take k)=(ds.take k).zip (vs.take k) by rw [List.take_of_length_le h],List.zip_eq_zipWith,List.zip_eq_zipWith,← List.take_zipWith,List.take_of_length_le (by simp; omega)]
 rw [this]
set_option maxHeartbeats 4000000 in
set_option maxRecDepth 100000 in
theorem Zco (w0:World)(x:Xl)(q lo hi lg:Nat)(bp sp op:Option Addr)(bc sc oc:Nat)(gs:List Nat)(B:Nat→Value)(ls:List Int)(lp:Option Addr)(lc:Nat)(w:World)(h:Gn w0 w x q lo hi lg bp sp op bc sc oc gs B)(hl:Li w (.slice lp ls.length lc) ls)(hln:ls.length≤1000)(hin:∀ k,k<ls.length→0≤ls.getD k 0∧ls.getD k 0<x.v.length) :
 Calls Tryz.prog 90 #[.pointer (some ⟨q,0,none⟩),.slice lp ls.length lc] w fun e w'=>∃ v,e=.returned v∧w'.ownsRow w.heap.size 62 1 v ls.length (uC (Xf x.v ls))∧Below w.heap.size w w':=by
 obtain⟨ti,hti,hty0,hty1,hty2⟩:=Xs Tryz.infoU64;have H:=J h;have HL:=J hl;have HIN:=J hin;clear h hl hin;go_enter Tryz.func90,Tryz.ntmps90
 go_wp2;go_loopw [10,5] (fun sk sv w'=>∃(k:Nat) (v:Value),sk=.int .i64 k∧sv=v∧k≤ls.length∧w'.ownsRow w.heap.size 62 1 v k (uC (Xf x.v (ls.take k)))∧Below w.heap.size w w') (fun sk _ _=>ls.length-(intOf sk).toNat)
 case atStart=>exact⟨0,_,rfl,rfl,by omega,World.ownsRow_nil _ _ _ _,Below.refl _ _⟩
 case round =>
  obtain⟨k,v0,rfl,rfl,hk,how,hbw⟩:=hrel;obtain⟨vp,vc,rfl⟩:=Zm how;by_cases hk2:k<ls.length
  ·
   obtain⟨p',c',e1,-,-,hcc⟩:=(G HL).below hbw;injection e1 with f1 f2 f3;obtain⟨sb,so,hsp,hcell⟩:=hcc (by omega);rw [← f1] at hsp;subst hsp;have d:=hcell k hk2;obtain⟨hx0,hx1⟩:=G HIN k hk2;obtain⟨m,hm⟩:∃ m:Nat,ls.getD k 0=m:=⟨(ls.getD k 0).toNat,by omega⟩;have HNX:=J (show Xf x.v (ls.take (k+1))=Xf x.v (ls.take k)++[x.v.getD m 0] by rw [Kw _ _ _ hk2,hm,Int.toNat_natCast]);rw [hm] at d hx1;have hF:=Yk (G H) hbw;have c3:=cR hF.row 3;have hml:m<x.v.length:=by omega
   have v0:wr.cell? ⟨lg,m,none⟩=some (.int .u64 (x.v.getD m 0)):=(Zi hF.loc m).trans (by simp [uC,List.getD,hml]);have hwz:=hbw.size;have HOW:=J how;have HBW:=J hbw;clear f1 f2 f3 hcc hcell hx0 hx1 hm hF how hbw;obtain⟨y,hy⟩:∃ y,y=x.v.getD m 0:=⟨_,rfl⟩;rw [← hy] at v0 HNX;clear hy;go_wp2_with (at_builtin; refine wpList_append_own _ rfl _ _ 30 rfl w.heap.size 62 ti _ 1 8 Tryz.underlying30 hti hty0 hty1 hty2 rfl (by decide) _ _ _ rfl (World.ownsRow.alloc (G HOW) _) ⟨wr.heap.size,0,none⟩ 1 1 [.int .u64 y] rfl rfl (by intro j u hj; match j,hj with | 0,hj=>(simp at hj; subst hj; simp [Addr.add])) (by intro u hu; simp at hu; subst hu; rfl) ?c3 ?c4 ?c5 ?_)
   case c3=>unfold maxLen; omega
   case c4=>omega
   case c5=>first | omega | (simp; omega)
   intro v7 w7 hown7 hgr7 _;have hb7:Below w.heap.size w w7:=by
    have ha:=(Yj wr (.cells #[.int .u64 y] 62 (0,0)));have hzz:=(G HBW).size;refine⟨hgr7.os.trans (ha.2.1.os.trans (G HBW).os),hgr7.tape.trans (ha.2.1.tape.trans (G HBW).tape),hgr7.output.trans (ha.2.1.output.trans (G HBW).output),by have:=hgr7.size; rw [ha.2.2] at this; omega,fun q hq=>?_⟩;exact(hgr7.block q (by rw [ha.2.2]; omega) (fun e=>by have:=(World.ownsRow.lt (G HOW) q e.symm).1; omega)).trans ((ha.2.1.block q (by omega)).trans ((G HBW).block q hq))
   have HX:=J (show w7.ownsRow w.heap.size 62 1 v7 (k+1) (uC (Xf x.v (ls.take (k+1)))) by rw [G HNX,Us]; exact hown7);have HB7:=J hb7;clear hown7 hgr7 hb7 d c3 v0 HOW HBW HNX;go_wp2;go_roundw
   case rel=>exact⟨k+1,_,by go_num,rfl,by omega,G HX,G HB7⟩
   case measure=>simp [intOf]; omega
  ·
   have hkn:k=ls.length:=by omega
   subst hkn;rw [List.take_length] at how;have HOW:=J how;have HBW:=J hbw;clear how hbw;go_wp2;go_ret;exact⟨_,rfl,G HOW,G HBW⟩
set_option maxHeartbeats 4000000 in
set_option maxRecDepth 100000 in
theorem Zit (w0:World)(x:Xl)(q lo hi lg:Nat)(bp sp op:Option Addr)(bc sc oc:Nat)(gs:List Nat)(B:Nat→Value)(ls vals:List Int)(lp vp:Option Addr)(lc vc hv:Nat)(w:World)(h:Gn w0 w x q lo hi lg bp sp op bc sc oc gs B)(hbw0:Below w0.heap.size w0 w)(hw0:w0.heap.size≤lo)(hl:Li w0 (.slice lp ls.length lc) ls)(hln:ls.length≤1000)(hin:∀ k,k<ls.length→0≤ls.getD k 0∧ls.getD k 0<x.v.length)(hvo:w.ownsRow hv 62 1 (.slice vp vals.length vc) vals.length (uC vals))(hhv:hi≤hv)(hle:ls.length≤vals.length) :
 Calls Tryz.prog 105 #[.pointer (some ⟨q,0,none⟩),.slice lp ls.length lc,.slice vp vals.length vc] w fun e w'=>(∃ v,e=.returned v)∧Gn w0 w' { x with v:=Xp x.v ls vals } q lo hi lg bp sp op bc sc oc gs B∧Sv lo hi w w':=by
 have H:=J h;have HL:=J hl;have HIN:=J hin;have HVO:=J hvo;have HBW:=J hbw0;have hvlen:vals.length<9223372036854775808:=by have:=Zis hvo; unfold maxLen at this; omega
 clear h hl hin hvo hbw0;go_enter Tryz.func105,Tryz.ntmps105
 go_wp2;go_loopw [10] (fun sk w'=>∃(k:Nat),sk=.int .i64 k∧k≤ls.length∧Gn w0 w' { x with v:=Xp x.v (ls.take k) (vals.take k) } q lo hi lg bp sp op bc sc oc gs B∧Sv lo hi w w') (fun sk _=>ls.length-(intOf sk).toNat)
 case atStart=>exact⟨0,rfl,by omega,G H,Kv _ _ _⟩
 case round =>
  obtain⟨k,rfl,hk,hF,hO⟩:=hrel;by_cases hk2:k<ls.length
  ·
   obtain⟨p',c',e1,-,-,hcc⟩:=G HL;injection e1 with f1 f2 f3;obtain⟨sb,so,hsp,hcell⟩:=hcc (by omega);rw [← f1] at hsp;subst hsp;have hd0:=hcell k hk2;have hsb:sb<w0.heap.size:=World.block_lt_of_cell? _ _ hd0;have d:wr.cell? ⟨sb,so+k,none⟩=some (.int .i64 (ls.getD k 0)):=(World.cell?_of_block (hO.oth sb (Nat.lt_of_lt_of_le hsb (G HBW).size) (Or.inl (by omega)))).trans (((G HBW).cell (p:=⟨sb,so+k,none⟩) hsb).trans hd0);obtain⟨hx0,hx1⟩:=G HIN k hk2;obtain⟨m,hm⟩:∃ m:Nat,ls.getD k 0=m:=⟨(ls.getD k 0).toNat,by omega⟩;have HNX:=J (show Xp x.v (ls.take (k+1)) (vals.take (k+1))=(Xp x.v (ls.take k) (vals.take k)).set m (vals.getD k 0) by rw [Rz _ _ _ _ hk2 (by omega),hm,Int.toNat_natCast]);rw [hm] at d hx1;have hml:m<(Xp x.v (ls.take k) (vals.take k)).length:=by rw [Rd]; omega
   obtain⟨gv,hvp,hgv,hvc⟩:=Nz (G HVO) (show k<vals.length by omega);subst hvp;have hv9:w.cell? ⟨gv,k,none⟩=some (.int .u64 (vals.getD k 0)):=hvc.trans (by simp [uC,List.getD,show k<vals.length by omega]);have hg9:gv<w.heap.size:=World.block_lt_of_cell? w _ hv9;have e9:wr.cell? ⟨gv,k,none⟩=some (.int .u64 (vals.getD k 0)):=(World.cell?_of_block (hO.oth gv hg9 (Or.inr (by omega)))).trans hv9;obtain⟨y,hy⟩:∃ y,y=vals.getD k 0:=⟨_,rfl⟩;rw [← hy] at e9 HNX;clear hy hv9 hg9 hd0 hsb f1 f2 f3 hcc hcell hx0 hx1 hm hvc;generalize hxs:Xp x.v (ls.take k) (vals.take k)=xs at hF HNX hml;clear hxs;obtain⟨old,hold⟩:∃ o,wr.drew.cell? ⟨lg,m,none⟩=some o:=⟨.int .u64 (xs.getD m 0),(Zi hF.loc m).trans (by simp [uC,List.getD,hml])⟩;have zl:=frozen_of_row _ _ m _ _ hF.loc;have HX:=J (Zac (Yk hF (Below.refl wr.heap.size wr).drew) m y);have HOX:=J (Xi hO (Xi (Jr (lo:=lo) (hi:=hi) (Below.refl wr.heap.size wr).drew) (Ur wr.drew m (.int .u64 y) hF.gl hF.gh)));have HS:=J (show wr.drew.heap[q]?=some (.cells #[.slice bp x.fn.blocks.length bc,.int .i64 x.b,.int .i64 x.i,.slice (some ⟨lg,0,none⟩) xs.length xs.length,.slice sp x.s.length sc,.slice op x.o.length oc] 177 (0,0))∧wr.drew.cell? ⟨gv,k,none⟩=some (.int .u64 y) from⟨hF.row,e9⟩);have hkv:k<vals.length:=by omega
   have hqg:=hF.gq;have hgl:=hF.gh;clear hF hO;go_upto_region 3 with fail
   refine wp_region_held_drew (S:=fun V=>V.heap[q]?=some (.cells #[.slice bp x.fn.blocks.length bc,.int .i64 x.b,.int .i64 x.i,.slice (some ⟨lg,0,none⟩) xs.length xs.length,.slice sp x.s.length sc,.slice op x.o.length oc] 177 (0,0))∧V.cell? ⟨gv,k,none⟩=some (.int .u64 y)) (by kernel_rfl) (G HS) (fun hHeld=>?_);refine wpAnyH_take (i:=0) (v:=?v0) rfl (by kernel_rfl) (by kernel_rfl) (by kernel_rfl) (fun _ _ _ h=>h) (Or.inl ⟨by rfl,?hy0⟩) (by assumption) ?_;case hy0 =>
    intro V hV;obtain⟨g0,g1⟩:=hV;clear g0;go_simp;all_goals (with_reducible rfl)
   simp only [Act.put,zA,zB,zC,zD,zE];refine wpAnyH_take (i:=1) (v:=?v1) rfl (by kernel_rfl) (by kernel_rfl) (by kernel_rfl) (fun _ _ _ h=>h) (Or.inl ⟨by rfl,?hy1⟩) (by assumption) ?_;case hy1 =>
    intro V hV;obtain⟨g0,g1⟩:=hV;clear g0;go_simp;all_goals (with_reducible rfl)
   simp only [Act.put,zA,zB,zC,zD,zE,zF];refine wpAnyH_take (i:=2) (v:=?v2) rfl (by kernel_rfl) (by kernel_rfl) (by kernel_rfl) (fun _ _ _ h=>h) (Or.inl ⟨by rfl,?hy2⟩) (by assumption) ?_;case hy2 =>
    intro V hV;obtain⟨g0,g1⟩:=hV;clear g0;go_simp;all_goals (with_reducible rfl)
   simp only [Act.put,zA,zB,zC,zD,zE,zF];refine wpAnyH_take (i:=3) (v:=?v3) rfl (by kernel_rfl) (by kernel_rfl) (by kernel_rfl) (fun _ _ _ h=>h) (Or.inl ⟨by rfl,?hy3⟩) (by assumption) ?_;case hy3 =>
    intro V hV;obtain⟨g0,g1⟩:=hV;have c:=cR g0 3;clear g0;go_simp;all_goals (with_reducible rfl)
   simp only [Act.put,zA,zB,zC,zD,zE,zF];refine wpAnyH_take (i:=4) (v:=?v4) rfl (by kernel_rfl) (by kernel_rfl) (by kernel_rfl) (fun _ _ _ h=>h) (Or.inl ⟨by rfl,?hy4⟩) (by assumption) ?_;case hy4 =>
    intro V hV;obtain⟨g0,g1⟩:=hV;clear g0;go_simp;all_goals (with_reducible rfl)
   simp only [Act.put,zA,zB,zC,zD,zE,zF];refine wpAnyH_take (i:=5) (v:=?v5) rfl (by kernel_rfl) (by kernel_rfl) (by kernel_rfl) (fun _ _ _ h=>h) (Or.inl ⟨by rfl,?hy5⟩) (by assumption) ?_;case hy5 =>
    intro V hV;obtain⟨g0,g1⟩:=hV;clear g0;go_simp;all_goals (with_reducible rfl)
   simp only [Act.put,zA,zB,zC,zD,zE,zF];refine wpAnyH_take (i:=6) (v:=?v6) rfl (by kernel_rfl) (by kernel_rfl) (by kernel_rfl) (fun _ _ _ h=>h) (Or.inl ⟨by rfl,?hy6⟩) (by assumption) ?_;case hy6 =>
    intro V hV;obtain⟨g0,g1⟩:=hV;clear g0;go_simp;all_goals (with_reducible rfl)
   simp only [Act.put,zA,zB,zC,zD,zE,zF];refine wpAnyH_take (i:=7) (v:=?v7) rfl (by kernel_rfl) (by kernel_rfl) (by kernel_rfl) (fun _ _ _ h=>h) (Or.inl ⟨by rfl,?hy7⟩) (by assumption) ?_;case hy7 =>
    intro V hV;obtain⟨g0,g1⟩:=hV;clear g0;go_simp;all_goals (with_reducible rfl)
   simp only [Act.put,zA,zB,zC,zD,zE,zF];refine wpAnyH_take (i:=8) (v:=?v8) rfl (by kernel_rfl) (by kernel_rfl) (by kernel_rfl) (fun _ _ _ h=>h) (Or.inl ⟨by rfl,?hy8⟩) (by assumption) ?_;case hy8 =>
    intro V hV;obtain⟨g0,g1⟩:=hV;clear g0;go_simp;all_goals (with_reducible rfl)
   simp only [Act.put,zA,zB,zC,zD,zE,zF];refine wpAnyH_take (i:=9) (v:=?v9) rfl (by kernel_rfl) (by kernel_rfl) (by kernel_rfl) (fun _ _ _ h=>h) (Or.inl ⟨by rfl,?hy9⟩) (by assumption) ?_;case hy9 =>
    intro V hV;obtain⟨g0,g1⟩:=hV;clear g0;go_simp;all_goals (with_reducible rfl)
   simp only [Act.put,zA,zB,zC,zD,zE,zF];refine tO 10 fun K hK=>?_;go_simp;refine hK.out _ _ ⟨(heap_setCell_other _ _ _ _ (Ne.symm hqg)).trans (G HS).1,(World.cell?_of_block (heap_setCell_other _ _ _ _ (by show gv≠lg; omega))).trans (G HS).2⟩ (fun hHeld2=>?_);clear hK K hHeld hHeld2;try simp only [Act.put]
   refine wpAnyH_done (by kernel_rfl) ?_ _;go_wp2;go_roundw
   case rel=>exact⟨k+1,by go_num,by omega,by rw [G HNX]; exact G HX,G HOX⟩
   case measure=>simp [intOf]; omega
  ·
   have hkn:k=ls.length:=by omega
   subst hkn;have HF:=J (show Gn w0 wr { x with v:=Xp x.v ls vals } q lo hi lg bp sp op bc sc oc gs B by rw [List.take_length,Zgn (Nat.le_refl _)] at hF; exact hF);have HO:=J hO;clear hF hO;go_wp2;go_returns;exact⟨⟨_,rfl⟩,G HF,G HO⟩
theorem Re {w wr w7:World}{n size:Nat}{e:TypeId}{v:Value}{xs:List Value}{X:Obj}(hb:Below w.heap.size w wr)(ho:wr.ownsRow w.heap.size e size v n xs)(hg:(wr.alloc X).grownBy w7 v.ownBlock):Below w.heap.size w w7:=by
 have ha:=Yj wr X;have hzz:=hb.size;refine⟨hg.os.trans (ha.2.1.os.trans hb.os),hg.tape.trans (ha.2.1.tape.trans hb.tape),hg.output.trans (ha.2.1.output.trans hb.output),by have:=hg.size; rw [ha.2.2] at this; omega,fun q hq=>?_⟩;exact(hg.block q (by rw [ha.2.2]; omega) (fun e=>by have:=(World.ownsRow.lt ho q e.symm).1; omega)).trans ((ha.2.1.block q (by omega)).trans (hb.block q hq))
theorem Dn (x:Xl)(l:List (Int×Int))(k:Nat)(h:k<l.length):Zv x (l.take (k+1))=Zv x (l.take k)++Ia x (l.getD k (0,0)):=by
 unfold Zv;rw [List.take_add_one,List.getElem?_eq_getElem h,List.flatMap_append,Yu l (0,0) k h];simp
structure Rf (x:Xl)(a:Int×Int):Prop where
 w0:0≤a.1
 w8:a.1≤8
 f0:0≤a.2
 v:a.1=0→a.2<x.v.length
 s:a.1≠0→a.2<x.s.length∧8*a.1≤(x.s.getD a.2.toNat []).length
theorem Ut (x:Xl)(l:List (Int×Int))(h:∀ k,k<l.length→Rf x (l.getD k (0,0))):∀ k,k≤l.length→(Zv x (l.take k)).length≤8*k
 | 0,_=>by simp [Zv]
 | k+1,hk=>by
  have ih:=Ut x l h k (by omega);rw [Dn x l k (by omega),List.length_append];have ho:=h k (by omega);have h1:=ho.w0;have h2:=ho.w8;generalize l.getD k (0,0)=a at ho h1 h2 ⊢;have:(Ia x a).length≤8:=by
   unfold Ia;split
   ·
    simp
   ·
    simp; omega
  omega
set_option maxHeartbeats 8000000 in
set_option maxRecDepth 100000 in
theorem Zay (w0:World)(x:Xl)(q lo hi lg:Nat)(bp sp op:Option Addr)(bc sc oc:Nat)(gs:List Nat)(B:Nat→Value)(args:List (Int×Int))(ap:Option Addr)(ac:Nat)(w:World)(h:Gn w0 w x q lo hi lg bp sp op bc sc oc gs B)(hok:IOk x)(hbw0:Below w0.heap.size w0 w)(hl:LS 2 w0 (.slice ap args.length ac) args.length (fun k=>Yz (args.getD k (0,0))))(han:args.length≤100)(hA:∀ k,k<args.length→Rf x (args.getD k (0,0)))(hsl:∀ l ∈ x.s,l.length≤65536) :
 Calls Tryz.prog 85 #[.pointer (some ⟨q,0,none⟩),.slice ap args.length ac] w fun e w'=>∃ v,e=.returned v∧w'.ownsRow w.heap.size 62 1 v (Zv x args).length (uC (Zv x args))∧Below w.heap.size w w':=by
 obtain⟨ti,hti,hty0,hty1,hty2⟩:=Xs Tryz.infoU64;have H:=J h;have HL:=J (hl.below hbw0);have HA:=J hA;have HOK:=J hok;have HSL:=J hsl;have HLEN:=J (Ut x args hA);clear h hl hA hok hsl hbw0;go_enter Tryz.func85,Tryz.ntmps85
 go_wp2;go_loopw [13,5] (fun sk sv w'=>∃(k:Nat) (v:Value),sk=.int .i64 k∧sv=v∧k≤args.length∧w'.ownsRow w.heap.size 62 1 v (Zv x (args.take k)).length (uC (Zv x (args.take k)))∧Below w.heap.size w w') (fun sk _ _=>args.length-(intOf sk).toNat)
 case atStart=>exact⟨0,_,rfl,rfl,by omega,World.ownsRow_nil _ _ _ _,Below.refl _ _⟩
 case round =>
  obtain⟨k,v0,rfl,rfl,hk,how,hbw⟩:=hrel;obtain⟨vp,vc,rfl⟩:=Zm how;by_cases hk2:k<args.length
  ·
   obtain⟨p',c',e1,-,-,hcc⟩:=(G HL).below hbw;injection e1 with f1 f2 f3;obtain⟨sb,so,hsp,hsb,hcell⟩:=hcc (by omega);rw [← f1] at hsp;subst hsp;have hrg:=hcell k hk2;dsimp only at hrg;have ho:=G HA k hk2;have HNX:=J (Dn x args k hk2);have hln:=G HLEN k hk;generalize args.getD k (0,0)=a at hrg ho HNX;obtain⟨a1,a2⟩:=a;obtain⟨hw0,hw8,hf0,hov,hos⟩:=ho;simp only at hw0 hw8 hf0 hov hos;obtain⟨nw,rfl⟩:=Int.eq_ofNat_of_zero_le hw0;obtain⟨m,rfl⟩:=Int.eq_ofNat_of_zero_le hf0;have d0:=hrg 0 _ rfl;have d1:=hrg 1 _ rfl;rw [Nat.add_zero] at d0;obtain⟨acc,hacc⟩:∃ l,l=Zv x (args.take k):=⟨_,rfl⟩;rw [← hacc] at how HNX hln ⊢;have HOWR:=J how;have HBR:=J hbw;have hzr:=hbw.size;clear how hbw hcc hcell hrg f1 f2 f3 hacc;obtain⟨hra,hba,-⟩:=Yj wr (.cells #[.int .i64 (nw:Int),.int .i64 (m:Int)] 139 (0,0));go_upto_region 5 with fail
   clear d0 d1;generalize World.alloc wr _=V1 at hra hba ⊢;have HOW:=J (Yq (G HOWR) (fun g e=>hba.block g (World.ownsRow.lt (G HOWR) g e).2));have HBV:=J (Za (G HBR) hba hzr);have HFV:=J (Yk (G H) (G HBV));have HRA:=J hra;generalize wr.heap.size=ba at hra HRA hzr ⊢;clear hba HOWR HBR;by_cases hz:nw=0
   ·
    subst hz;have hml:m<x.v.length:=by have:=hov rfl; omega
    obtain⟨y,hy⟩:∃ y,y=x.v.getD m 0:=⟨_,rfl⟩;have HNX:=J (show Zv x (args.take (k+1))=acc++[y] by rw [G HNX,hy]; rfl);have a0:=cR hra 0;have HSA:=J (show(fun V=>V.heap[q]?=some (.cells #[.slice bp x.fn.blocks.length bc,.int .i64 x.b,.int .i64 x.i,.slice (some ⟨lg,0,none⟩) x.v.length x.v.length,.slice sp x.s.length sc,.slice op x.o.length oc] 177 (0,0))∧V.heap[ba]?=some (.cells #[.int .i64 0,.int .i64 (m:Int)] 139 (0,0))∧V.cell? ⟨lg,m,none⟩=some (.int .u64 y)) V1.drew from⟨(G HFV).row,hra,(Zi (G HFV).loc m).trans (by rw [hy]; simp [uC,List.getD,hml])⟩);clear hra hov hos hy;go_upto_region 6 with fail
    clear a0;refine wp_region_held_drew (S:=fun V=>V.heap[q]?=some (.cells #[.slice bp x.fn.blocks.length bc,.int .i64 x.b,.int .i64 x.i,.slice (some ⟨lg,0,none⟩) x.v.length x.v.length,.slice sp x.s.length sc,.slice op x.o.length oc] 177 (0,0))∧V.heap[ba]?=some (.cells #[.int .i64 0,.int .i64 (m:Int)] 139 (0,0))∧V.cell? ⟨lg,m,none⟩=some (.int .u64 y)) (by kernel_rfl) (G HSA) (fun hHeld=>?_);refine tX 0 ?_;simp only [Act.put,zA,zB,zC,zD,zE];refine tX 1 ?_;simp only [Act.put,zA,zB,zC,zD,zE,zF];refine tX 2 ?_;simp only [Act.put,zA,zB,zC,zD,zE,zF];refine tX 3 ?_;simp only [Act.put,zA,zB,zC,zD,zE,zF];refine wpAnyH_take (i:=4) (v:=?va4) rfl (by kernel_rfl) (by kernel_rfl) (by kernel_rfl) (fun _ _ _ h=>h) (Or.inl ⟨by rfl,?hya4⟩) (by assumption) ?_;case hya4 =>
     intro V hV;obtain⟨g0,g1,g2⟩:=hV;have c:=cR g0 3;clear g0 g1;go_simp;all_goals (with_reducible rfl)
    simp only [Act.put,zA,zB,zC,zD,zE,zF];refine tX 5 ?_;simp only [Act.put,zA,zB,zC,zD,zE,zF];refine wpAnyH_take (i:=6) (v:=?va6) rfl (by kernel_rfl) (by kernel_rfl) (by kernel_rfl) (fun _ _ _ h=>h) (Or.inl ⟨by rfl,?hya6⟩) (by assumption) ?_;case hya6 =>
     intro V hV;obtain⟨g0,g1,g2⟩:=hV;have c:=cR g1 1;clear g0 g1;go_simp;all_goals (with_reducible rfl)
    simp only [Act.put,zA,zB,zC,zD,zE,zF];refine tX 7 ?_;simp only [Act.put,zA,zB,zC,zD,zE,zF];refine tX 8 ?_;simp only [Act.put,zA,zB,zC,zD,zE,zF];refine tO 9 fun K hK=>?_;go_simp;obtain⟨r1,hb1,hz1⟩:=Yj V1.drew (.cells #[.int .u64 y] 62 (0,0));have HB1:=J hb1;have HOW1:=J (World.ownsRow.alloc (w:=V1.drew) (G HOW) (.cells #[.int .u64 y] 62 (0,0)));have c9:=cR r1 0;clear r1 hb1 hz1;refine hK.out _ _ (show _ from⟨((G HB1).block _ (Zd (G HSA).1)).trans (G HSA).1,((G HB1).block _ (Zd (G HSA).2.1)).trans (G HSA).2.1,((G HB1).cell (World.block_lt_of_cell? _ _ (G HSA).2.2)).trans (G HSA).2.2⟩) (fun hHeld2=>?_);clear hK K;try simp only [Act.put,zA,zB,zC,zD,zE,zF]
    refine tO 10 fun K hK=>?_;refine Oz rfl (.tmp 20) (.tmp 29) 30 rfl w.heap.size 62 ti _ 1 8 Tryz.underlying30 hti hty0 hty1 hty2 rfl (by decide) (.slice vp acc.length vc) acc.length (uC acc) rfl (G HOW1) ⟨V1.heap.size,0,none⟩ 1 1 [.int .u64 y] rfl rfl (by intro j u hj; match j,hj with | 0,hj=>(simp at hj; subst hj; exact c9)) (by intro u hu; simp at hu; subst hu; rfl) (by unfold maxLen; omega) (by omega) (by have:=(G HBV).size; simp; omega) ?_;intro v7 w7 hown7 hgr7;have hFd:=G HFV;have hH1:=(G H).hs;have hH2:=(G H).qh;have hH3:=(G H).gh;have hS7:(fun V=>V.heap[q]?=some (.cells #[.slice bp x.fn.blocks.length bc,.int .i64 x.b,.int .i64 x.i,.slice (some ⟨lg,0,none⟩) x.v.length x.v.length,.slice sp x.s.length sc,.slice op x.o.length oc] 177 (0,0))∧V.heap[ba]?=some (.cells #[.int .i64 0,.int .i64 (m:Int)] 139 (0,0))∧V.cell? ⟨lg,m,none⟩=some (.int .u64 y)) w7:=⟨(hgr7.block q (by have:=Zd (G HSA).1; simp; exact Nat.lt_succ_of_lt this) (fun e=>by have:=(World.ownsRow.lt (G HOW) q e.symm).1; omega)).trans (((G HB1).block _ (Zd (G HSA).1)).trans (G HSA).1),(hgr7.block ba (by have:=Zd (G HSA).2.1; simp; exact Nat.lt_succ_of_lt this) (fun e=>Xu (G HOW) (show V1.heap[ba]?=_ from(G HSA).2.1) (by decide) e.symm)).trans (((G HB1).block _ (Zd (G HSA).2.1)).trans (G HSA).2.1),(World.cell?_of_block (hgr7.block lg (by have:=Zd hFd.loc; simp; exact Nat.lt_succ_of_lt this) (fun e=>by have:=(World.ownsRow.lt (G HOW) lg e.symm).1; omega))).trans (((G HB1).cell (World.block_lt_of_cell? _ _ (G HSA).2.2)).trans (G HSA).2.2)⟩
    have HX:=J (show w7.ownsRow w.heap.size 62 1 v7 (acc++[y]).length (uC (acc++[y])) by rw [Us,List.length_append]; exact hown7);have HB7:=J (Re (G HBV).drew (G HOW) hgr7);clear hown7 hgr7 hFd hH1 hH2 hH3 c9;refine hK.out _ _ hS7 (fun hHeld3=>?_);clear hK K hS7;try simp only [Act.put,zA,zB,zC,zD,zE,zF]
    refine tX 11 ?_;simp only [Act.put,zA,zB,zC,zD,zE,zF];refine wpAnyH_done (by kernel_rfl) ?_ _;clear hHeld hHeld2 hHeld3 HSA HB1 HOW1 HOW;go_wp2;go_roundw
    case rel=>exact⟨k+1,_,by go_num,rfl,by omega,by rw [G HNX]; exact G HX,G HB7⟩
    case measure=>simp [intOf]; omega
   ·
    have hzz:¬ ((nw:Int)=0):=by omega
    obtain⟨hsl,hs8⟩:=hos hzz;have hml:m<x.s.length:=by omega
    have zz:((nw:Int)==0)=false:=by simp; omega
    obtain⟨s0,hsp,hsc⟩:=Mm (G HFV) hml;subst hsp;obtain⟨ga,hga⟩:∃ g,g=gs.getD m 0:=⟨_,rfl⟩;obtain⟨bs,hbs⟩:∃ l,l=x.s.getD m []:=⟨_,rfl⟩;have hgr:=((G HFV).each m hml).1;have hmem:bs ∈ x.s:=by rw [hbs]; simp [List.getD,hml]
    have HBL:=J (G HSL bs hmem);have HBY:=J (fun n hn=>(G HOK).s bs hmem n hn);rw [← hga,← hbs] at hsc hgr;rw [Int.toNat_natCast,← hbs] at hs8;have HNX:=J (show Zv x (args.take (k+1))=acc++(List.range nw).map (fun j=>Ns bs (8*j) 8) by rw [G HNX,hbs]; unfold Ia; rw [if_neg hzz]; rfl);have a0:=cR hra 0;have HGA:=J hga;have HBS:=J hbs;have HSC:=J hsc;clear hra hov hos hgr hsc hga hbs hmem hsl;have hnw8:nw≤8:=by omega
    go_wp2;clear a0;go_loopw [33,5] (fun sj sv w'=>∃(j:Nat) (v:Value),sj=.int .i64 j∧sv=v∧j≤nw∧w'.ownsRow w.heap.size 62 1 v (acc++(List.range j).map (fun j=>Ns bs (8*j) 8)).length (uC (acc++(List.range j).map (fun j=>Ns bs (8*j) 8)))∧Below w.heap.size w w'∧w'.heap[ba]?=some (.cells #[.int .i64 (nw:Int),.int .i64 (m:Int)] 139 (0,0))) (fun sj _ _=>nw-(intOf sj).toNat)
    case atStart=>exact⟨0,_,rfl,rfl,by omega,by simpa using G HOW,G HBV,G HRA⟩
    case round =>
     obtain⟨j,vj,rfl,rfl,hj,how,hbw,hbar⟩:=hrel;by_cases hj2:j<nw
     ·
      have HNJ:=J (show acc++(List.range (j+1)).map (fun j=>Ns bs (8*j) 8)=(acc++(List.range j).map (fun j=>Ns bs (8*j) 8))++[Ns bs (8*j) 8] by rw [List.range_succ,List.map_append,← List.append_assoc]; rfl);have hlj:(acc++(List.range j).map (fun j=>Ns bs (8*j) 8)).length≤8*k+8:=by simp; omega
      generalize acc++(List.range j).map (fun j=>Ns bs (8*j) 8)=acc at how HNJ hlj ⊢;obtain⟨vp,vc,rfl⟩:=Zm how;have hF:=Yk (G H) hbw;have hsc2:wr.cell? ⟨s0,m,none⟩=some (.slice (some ⟨ga,0,none⟩) bs.length bs.length):=by
       obtain⟨s1,e1,hc⟩:=Mm hF hml;injection e1 with e1;injection e1 with e1;subst e1;obtain⟨s2,e2,hc2⟩:=Mm (G HFV) hml;injection e2 with e2;injection e2 with e2;subst e2;exact hc.trans (hc2.symm.trans (G HSC))
      have hgr2:wr.heap[ga]?=some (.cells (yC bs).toArray 5 (0,0)):=by rw [G HGA,G HBS]; exact(hF.each m hml).1
      have HSB:=J (show(fun V=>V.heap[q]?=some (.cells #[.slice bp x.fn.blocks.length bc,.int .i64 x.b,.int .i64 x.i,.slice (some ⟨lg,0,none⟩) x.v.length x.v.length,.slice (some ⟨s0,0,none⟩) x.s.length sc,.slice op x.o.length oc] 177 (0,0))∧V.heap[ba]?=some (.cells #[.int .i64 (nw:Int),.int .i64 (m:Int)] 139 (0,0))∧V.cell? ⟨s0,m,none⟩=some (.slice (some ⟨ga,0,none⟩) bs.length bs.length)) wr.drew from⟨hF.row,hbar,hsc2⟩);have HLC:=J (show Calls Tryz.prog 104 #[.slice (some ⟨ga,0,none⟩) bs.length bs.length,.int .i64 (8*(j:Int)),.int .i64 8] wr.drew (fun e w'=>e=.returned (.tuple #[.int .u64 (Ns bs (8*j) 8),.nilIface])∧w'=wr.drew) from Zfi bs ga (8*j) 8 wr.drew hgr2 (G HBY) rfl (by omega) (G HBL));have hwj:IntKind.i64.wrap (8*(j:Int))=8*(j:Int):=by rw [IntKind.wrap_i64]; omega
      obtain⟨y,hy⟩:∃ y,y=Ns bs (8*j) 8:=⟨_,rfl⟩;rw [← hy] at HLC HNJ;clear hy;have HOW:=J how;have HBV:=J hbw;clear how hbw hbar hF hsc2 hgr2;go_upto_region 10 with fail
      refine wp_region_held_drew (S:=fun V=>V.heap[q]?=some (.cells #[.slice bp x.fn.blocks.length bc,.int .i64 x.b,.int .i64 x.i,.slice (some ⟨lg,0,none⟩) x.v.length x.v.length,.slice (some ⟨s0,0,none⟩) x.s.length sc,.slice op x.o.length oc] 177 (0,0))∧V.heap[ba]?=some (.cells #[.int .i64 (nw:Int),.int .i64 (m:Int)] 139 (0,0))∧V.cell? ⟨s0,m,none⟩=some (.slice (some ⟨ga,0,none⟩) bs.length bs.length)) (by kernel_rfl) (G HSB) (fun hHeld=>?_);refine tX 0 ?_;simp only [Act.put,zA,zB,zC,zD,zE];refine tX 1 ?_;simp only [Act.put,zA,zB,zC,zD,zE,zF];refine tX 2 ?_;simp only [Act.put,zA,zB,zC,zD,zE,zF];refine wpAnyH_take (i:=3) (v:=?vb3) rfl (by kernel_rfl) (by kernel_rfl) (by kernel_rfl) (fun _ _ _ h=>h) (Or.inl ⟨by rfl,?hyb3⟩) (by assumption) ?_;case hyb3 =>
       intro V hV;obtain⟨g0,g1,g2⟩:=hV;have c:=cR g0 4;clear g0 g1;go_simp;all_goals (with_reducible rfl)
      simp only [Act.put,zA,zB,zC,zD,zE,zF];refine tX 4 ?_;simp only [Act.put,zA,zB,zC,zD,zE,zF];refine wpAnyH_take (i:=5) (v:=?vb5) rfl (by kernel_rfl) (by kernel_rfl) (by kernel_rfl) (fun _ _ _ h=>h) (Or.inl ⟨by rfl,?hyb5⟩) (by assumption) ?_;case hyb5 =>
       intro V hV;obtain⟨g0,g1,g2⟩:=hV;have c:=cR g1 1;clear g0 g1;go_simp;all_goals (with_reducible rfl)
      simp only [Act.put,zA,zB,zC,zD,zE,zF];refine tX 6 ?_;simp only [Act.put,zA,zB,zC,zD,zE,zF];refine tX 7 ?_;simp only [Act.put,zA,zB,zC,zD,zE,zF];refine tX 8 ?_;simp only [Act.put,zA,zB,zC,zD,zE,zF];refine tX 9 ?_;simp only [Act.put,zA,zB,zC,zD,zE,zF];refine tO 10 fun K hK=>?_;go_simp;refine(G HLC).mono ?_;rintro e w5 ⟨rfl,hw5⟩;subst w5;refine hK.out _ _ (G HSB) (fun hHeld2=>?_);clear hK K;try simp only [Act.put,zA,zB,zC,zD,zE,zF]
      refine tX 11 ?_;simp only [Act.put,zA,zB,zC,zD,zE,zF];refine tX 12 ?_;simp only [Act.put,zA,zB,zC,zD,zE,zF];refine tX 13 ?_;simp only [Act.put,zA,zB,zC,zD,zE,zF];refine tX 14 ?_;simp only [Act.put,zA,zB,zC,zD,zE,zF];refine tX 15 ?_;simp only [Act.put,zA,zB,zC,zD,zE,zF];refine wpAnyH_done (by kernel_rfl) ?_ _;clear hHeld hHeld2;go_wp2_with (at_builtin; refine wpList_append_own _ rfl _ _ 30 rfl w.heap.size 62 ti _ 1 8 Tryz.underlying30 hti hty0 hty1 hty2 rfl (by decide) _ _ _ rfl (World.ownsRow.alloc (w:=wr.drew) (G HOW) _) ⟨wr.heap.size,0,none⟩ 1 1 [.int .u64 y] rfl rfl (by intro j u hj; match j,hj with | 0,hj=>(simp at hj; subst hj; simp [Addr.add])) (by intro u hu; simp at hu; subst hu; rfl) ?c3 ?c4 ?c5 ?_)
      case c3=>unfold maxLen; omega
      case c4=>omega
      case c5=>have:=(G HBV).size; first | omega | (simp; omega)
      intro v7 w7 hown7 hgr7 _;have HX:=J (show w7.ownsRow w.heap.size 62 1 v7 (acc++[y]).length (uC (acc++[y])) by rw [Us,List.length_append]; exact hown7);have HB7:=J (Re (G HBV).drew (G HOW) hgr7);have hba:=hgr7.block ba (by have:=Zd (G HSB).2.1; simp; exact Nat.lt_succ_of_lt this) (fun e=>Xu (G HOW) (show wr.heap[ba]?=_ from(G HSB).2.1) (by decide) e.symm);have HBA:=J (show w7.heap[ba]?=some (.cells #[.int .i64 (nw:Int),.int .i64 (m:Int)] 139 (0,0)) from hba.trans (((Yj wr.drew (.cells #[.int .u64 y] 62 (0,0))).2.1.block ba (Zd (G HSB).2.1)).trans (G HSB).2.1));clear hown7 hgr7 hba HOW HSB HLC;go_wp2;go_roundw
      case rel=>exact⟨j+1,_,by go_num,rfl,by omega,by rw [G HNJ]; exact G HX,G HB7,G HBA⟩
      case measure=>simp [intOf]; omega
     ·
      have hjn:j=nw:=by omega
      subst hjn;rw [← G HNX] at how;have HOX:=J how;have HBX:=J hbw;clear how hbw hbar;go_wp2;go_roundw
      case rel=>exact⟨k+1,_,by go_num,rfl,by omega,G HOX,G HBX⟩
      case measure=>simp [intOf]; omega
  ·
   have hkn:k=args.length:=by omega
   subst hkn;rw [List.take_length] at how ⊢;have HOW:=J how;have HBW:=J hbw;clear how hbw;go_wp2;go_ret;exact⟨_,rfl,G HOW,G HBW⟩
def Lv (w:World)(v:Value)(ws:List Int):Prop:=∃ p cap,v=.slice p ws.length cap∧ws.length≤cap∧ws.length<4611686018427387904∧(0<ws.length→∃ sb so,p=some ⟨sb,so,none⟩∧∀ i,i<ws.length→w.cell? ⟨sb,so+i,none⟩=some (.int .u64 (ws.getD i 0)))
theorem Yx {w w':World}{v:Value}{ws:List Int}(h:Lv w v ws)(hb:Below w.heap.size w w'):Lv w' v ws:=by
 obtain⟨p,cap,h1,h2,h3,h4⟩:=h;refine⟨p,cap,h1,h2,h3,fun h0=>?_⟩;obtain⟨sb,so,e,hc⟩:=h4 h0;exact⟨sb,so,e,fun i hi=>(hb.cell (p:=⟨sb,so+i,none⟩) (World.block_lt_of_cell? w _ (hc i hi))).trans (hc i hi)⟩
def Jz (bs ws:List Int)(k:Nat):List Int:=(List.range k).foldl (fun b k=>Sb b (8*k) 8 (ws.getD k 0)) bs
theorem Ly (bs ws:List Int)(k:Nat):Jz bs ws (k+1)=Sb (Jz bs ws k) (8*k) 8 (ws.getD k 0):=by
 unfold Jz;rw [List.range_succ,List.foldl_append];rfl
theorem Oa (bs ws:List Int):∀ k,(Jz bs ws k).length=bs.length
 | 0=>rfl
 | k+1=>by rw [Ly,Ra,Oa bs ws k]
structure Oj (g:Nat)(w w':World):Prop where
 os:w'.os=w.os
 tape:w'.tape=w.tape
 output:w'.output=w.output
 size:w'.heap.size=w.heap.size
 oth:∀ q:Nat,q≠g→w'.heap[q]?=w.heap[q]?
set_option maxHeartbeats 4000000 in
set_option maxRecDepth 100000 in
theorem Znp (q g:Nat)(bs ws:List Int)(wp:Option Addr)(wc:Nat)(w:World)(hr:w.heap[g]?=some (.cells (yC bs).toArray 5 (0,0)))(hw:Lv w (.slice wp ws.length wc) ws)(hle:8*ws.length≤bs.length)(hbl:bs.length≤65536) :
 Calls Tryz.prog 81 #[.pointer (some ⟨q,0,none⟩),.slice (some ⟨g,0,none⟩) bs.length bs.length,.slice wp ws.length wc] w fun e w'=>(∃ v,e=.returned v)∧w'.heap[g]?=some (.cells (yC (Rh bs ws)).toArray 5 (0,0))∧Oj g w w':=by
 have HR:=J hr;have HW:=J hw;clear hr hw;go_enter Tryz.func81,Tryz.ntmps81
 go_wp2;go_loopw [10] (fun sk w'=>∃(k:Nat),sk=.int .i64 k∧k≤ws.length∧w'.heap[g]?=some (.cells (yC (Jz bs ws k)).toArray 5 (0,0))∧Oj g w w') (fun sk _=>ws.length-(intOf sk).toNat)
 case atStart=>exact⟨0,rfl,by omega,G HR,⟨rfl,rfl,rfl,rfl,fun _ _=>rfl⟩⟩
 case round =>
  obtain⟨k,rfl,hk,hg,hO⟩:=hrel;by_cases hk2:k<ws.length
  ·
   obtain⟨p',c',e1,-,-,hcc⟩:=G HW;injection e1 with f1 f2 f3;obtain⟨sb,so,hsp,hcell⟩:=hcc (by omega);rw [← f1] at hsp;subst hsp;have hd:=hcell k hk2;have hsg:sb≠g:=fun e=>by
    subst e;have h0:=(Zi (G HR) (so+k)).symm.trans hd;simp [yC] at h0
   have d:wr.cell? ⟨sb,so+k,none⟩=some (.int .u64 (ws.getD k 0)):=(World.cell?_of_block (hO.oth sb hsg)).trans hd;obtain⟨y,hy⟩:∃ y,y=ws.getD k 0:=⟨_,rfl⟩;have hl:=Oa bs ws k;have HNX:=J (show Jz bs ws (k+1)=Sb (Jz bs ws k) (8*k) 8 y by rw [Ly,hy]);rw [← hy] at d;clear hy hd f1 f2 f3 hcc hcell hsg;generalize Jz bs ws k=cs at hg hl HNX;have HC:=J (show Calls Tryz.prog 103 #[.slice (some ⟨g,0,none⟩) bs.length bs.length,.int .i64 (8*(k:Int)),.int .i64 8,.int .u64 y] wr (fun e w'=>e=.returned .nilIface∧w'=Ux wr g (8*k) y 8) from by rw [← hl]; exact Zcm cs g (8*k) 8 y wr hg rfl (by omega) (by omega));have hwk:IntKind.i64.wrap (8*(k:Int))=8*(k:Int):=by rw [IntKind.wrap_i64]; omega
   have HG:=J hg;have HO:=J hO;clear hg hO hl;go_wp2_with fail
   refine(G HC).mono ?_;rintro e w5 ⟨rfl,hw5⟩;have HX:=J (show w5.heap[g]?=some (.cells (yC (Jz bs ws (k+1))).toArray 5 (0,0)) by rw [hw5,G HNX]; exact Rb wr g (8*k) y cs (G HG) 8);have HO5:=J (show Oj g w w5 by
    have h:=G HO;have hs:=Mt wr g (8*k) y 8;rw [hw5];exact⟨hs.1.trans h.os,hs.2.1.trans h.tape,hs.2.2.trans h.output,(Oi wr g (8*k) y 8).trans h.size,fun b hb=>(Jc wr g (8*k) y b hb 8).trans (h.oth b hb)⟩)
   clear hw5 HC HG HO d;go_wp2;go_roundw
   case rel=>exact⟨k+1,by go_num,by omega,G HX,G HO5⟩
   case measure=>simp [intOf]; omega
  ·
   have hkn:k=ws.length:=by omega
   subst hkn;have HG:=J hg;have HO:=J hO;clear hg hO;go_wp2;go_returns;exact⟨⟨_,rfl⟩,G HG,G HO⟩
theorem Tryz.infoU8:(Tryz.prog.info? 5).map (fun i=>(i.zero,i.size,i.bytes))=some (some (.int .u8 0),1,1):=by kernel_rfl
theorem Rg (z:Value)(n:Nat):madeCells #[z] n=(List.replicate n z).toArray:=by
 apply Array.ext'
 apply List.ext_getElem?
 intro i;by_cases h:i<n
 ·
  simp [madeCells,h,Nat.mod_one]
 ·
  simp [madeCells,h]
theorem mkU (n:Nat)(hn:n≤1000000)(w:World):(Instr.makeSlice 30 (.int .i64 (n:Int)) (.int .i64 (n:Int))).run Tryz.prog w=.ok (.slice (some ⟨w.heap.size,0,none⟩) n n) (w.alloc (.cells (uC (List.replicate n 0)).toArray 62)):=by
 obtain⟨ti,hti,hz0,hz1,hz2⟩:=Xs Tryz.infoU64;have h:=run_make (P:=Tryz.prog) w 30 62 ti _ Tryz.underlying30 hti hz0 .i64 .i64 (n:Int) (n:Int) (by omega) (Int.le_refl _) (by rw [hz2]; omega) (by omega);rw [hz1,Int.toNat_natCast,Nat.mul_one,show(Value.int IntKind.u64 0).cells=#[.int .u64 0] from rfl,Rg,show List.replicate n (Value.int IntKind.u64 0)=uC (List.replicate n 0) by simp [uC]] at h;exact h
theorem mkY (n:Nat)(hn:n≤1000000)(w:World):(Instr.makeSlice 178 (.int .i64 (n:Int)) (.int .i64 (n:Int))).run Tryz.prog w=.ok (.slice (some ⟨w.heap.size,0,none⟩) n n) (w.alloc (.cells (yC (List.replicate n 0)).toArray 5)):=by
 obtain⟨ti,hti,hz0,hz1,hz2⟩:=Xs Tryz.infoU8;have h:=run_make (P:=Tryz.prog) w 178 5 ti _ Tryz.underlying178 hti hz0 .i64 .i64 (n:Int) (n:Int) (by omega) (Int.le_refl _) (by rw [hz2]; omega) (by omega);rw [hz1,Int.toNat_natCast,Nat.mul_one,show(Value.int IntKind.u8 0).cells=#[.int .u8 0] from rfl,Rg,show List.replicate n (Value.int IntKind.u8 0)=yC (List.replicate n 0) by simp [yC]] at h;exact h
end Go.Proofs.YteddfaconabobaaGreatDoor
