import Derived.Test.YtnlcfnjeagmemaaGreatDoorJ3
import Derived.Test.YtnlcfnjeagmemaaGreatDoorJ20
namespace Go.Proofs.YtnlcfnjeagmemaaGreatDoor
open Go.RowKit
set_option maxHeartbeats 4000000
set_option maxRecDepth 100000
section
variable {w:World} {A B N:Nat} {G:Xn} {mb sb:Nat} {m:Zf}
theorem MR.next (h:MR w A B N G mb sb m)(v:Int):MR (w.setCell ⟨mb,41,none⟩ (.int .i64 v)) A B N G mb sb { m with at_:=v }:=by
 obtain⟨P,es,k⟩:=h;exact k.lf (P':=P) (Zl mb 41 w (.int .i64 v)) (Yg k.mm.mi rfl) ⟨rfl,rfl,rfl,rfl,.inl ⟨rfl,rfl⟩⟩ rfl k.rb
theorem MR.bel {w':World}(h:MR w A B N G mb sb m)(hb:Below w.heap.size w w'):MR w' A B N G mb sb m:=by
 have hbd:=h.bd;exact h.kx (Gh hb) (hb.block mb (by omega)) (hb.block sb (by omega))
theorem Xp (q:Nat)(h:MR w A B N G mb sb m)(C:Zk)(hc:Gi w A G.cf C.funcs)(f at_ k nk:Nat)(r a b n wd f9:Int)(hf:m.f=f)(ha:m.at_=at_)(hfl2:f<C.funcs.length)(hat:at_<4611686018427387904)(hi:Zv C m=⟨k,r,a,b,n,wd,f9⟩)(hk:k<22)(hD:G.D k=.func (.func q) #[] #[])(hg:w.cell? ⟨1,k,none⟩=some (.int .i64 (nk:Int)))(hnk:nk≤3)(hkn:(([r,a,b].take nk).all fun x=>Gr x G.T.r)=true)(R:World→Prop)
 (hd:∀ V,MR V A B N G mb sb { m with at_:=m.at_+1 }→Kx w.heap.size mb sb w V→Calls Tryz.prog q #[.pointer (some ⟨mb,0,none⟩),.agg #[.int .i64 (k:Int),.int .i64 r,.int .i64 a,.int .i64 b,.int .i64 n,.int .i64 wd,.int .i64 f9]] V fun e w'=>(∃ v,e=.returned v)∧R w') (hq:q=91∨q=92∨q=93∨q=94∨q=95∨q=96∨q=97∨q=98∨q=99∨q=100∨q=101∨q=102∨q=103∨q=104∨q=105:=by decide) :
 Calls Tryz.prog 82 #[.pointer (some ⟨mb,0,none⟩)] w fun e w'=>(∃ v,e=.returned v)∧R w':=by
 have hbd:=h.bd;have HM:=Y h;have HF:=Y (Zfc h C hc f at_ hf ha hfl2);rw [hi] at HF;have HF2:Hid (Calls Tryz.prog 113 #[.pointer (some ⟨mb,0,none⟩)] w fun e w'=>e=.returned (.agg #[.int .i64 (k:Int),.int .i64 r,.int .i64 a,.int .i64 b,.int .i64 n,.int .i64 wd,.int .i64 f9])∧Below w.heap.size w w'):=HF;have HD:=Y hd;have HG:=Y hg;have HA:=Y ha;have HDk:=Y hD;have HQ:=Y hq;clear hq h hc HF hd hg hf ha hi hD;go_enter Tryz.func82,Tryz.ntmps82
 go_wp2_with fail
 refine(O HF2).mono ?_;rintro e w1 ⟨rfl,hb1⟩;obtain⟨r2,hb2,hz2⟩:=Zs w1 (.cells #[.int .i64 (k:Int),.int .i64 r,.int .i64 a,.int .i64 b,.int .i64 n,.int .i64 wd,.int .i64 f9] 103 (0,0));have hb12:=Zb hb1 hb2 hb1.size;have hwl:w.heap.size≤w1.heap.size:=hb1.size;have HM2:=Y ((O HM).bel hb12);have HB2:=Y hb12;have HR2:=Y r2;have hg2:=(World.cell?_of_block (hb12.block 1 (World.block_lt_of_cell? w _ (O HG)))).trans (O HG);have HKN:=Y (Zfd (O HM2) k nk r a b n wd f9 hk (by rw [O HDk]; exact Zua q) (by rw [O HDk]; exact Zyd q) hg2 hnk);rw [hkn] at HKN;have HZ2:=Y hz2;clear hb1 r2 hb2 hz2 hb12 hg2 HF2 HM HG;go_wp2_with fail
 generalize hba:w1.heap.size=ba at HR2 HZ2 hwl ⊢;clear hba;generalize World.alloc w1 _=W2 at HM2 HB2 HR2 HKN HZ2 ⊢;refine(O HKN).mono ?_;rintro e w3 ⟨rfl,hb3⟩;have hM3:=(O HM2).bel hb3;have HR3:=Y ((hb3.block ba (by have:=O HZ2; omega)).trans (O HR2));have HB3:=Y (Zb (O HB2) hb3 (O HB2).size);obtain⟨P,hmi⟩:=hM3.row;have c41:w3.cell? ⟨mb,41,none⟩=some (.int .i64 (at_:Int)):=by rw [← O HA]; exact(cR hmi 41)
 have z41:=frozen_of_row _ _ 41 _ _ hmi;have HM4:=Y (hM3.next ((at_:Int)+1));have HR4:=Y (show(w3.setCell ⟨mb,41,none⟩ (.int .i64 ((at_:Int)+1))).heap[ba]?=_ from(heap_setCell_other _ _ _ _ (show ba≠mb by omega)).trans (O HR3));have HK4:=Y (show Kx w.heap.size mb sb w (w3.setCell ⟨mb,41,none⟩ (.int .i64 ((at_:Int)+1))) from(Gh (O HB3)).tr (Mc.kx (Zl mb 41 w3 _)));clear hb3 hM3 hmi HKN;go_upto_region 4 with fail
 clear c41 z41;generalize World.setCell w3 _ _=W4 at HM4 HR4 HK4 ⊢;obtain⟨P4,hmi4⟩:=(O HM4).row;have cd:W4.cell? ⟨mb,15+k,none⟩=some (.func (.func q) #[] #[]):=by rw [← O HDk]; exact(Zd hmi4 (15+k)).trans (Zoo _ k hk)
 have hk1:(k:Int)<22:=by omega
 have x0:=((cR (O HR4) 0):_=some (Value.int .i64 (k:Int)));have x1:=((cR (O HR4) 1):_=some (Value.int .i64 r));have x2:=((cR (O HR4) 2):_=some (Value.int .i64 a));have x3:=((cR (O HR4) 3):_=some (Value.int .i64 b));have x4:=((cR (O HR4) 4):_=some (Value.int .i64 n));have x5:=((cR (O HR4) 5):_=some (Value.int .i64 wd));have x6:=((cR (O HR4) 6):_=some (Value.int .i64 f9));have HDD:=Y (O HD (W4.drewN 1) (by rw [O HA]; exact(O HM4).dr 1) ((O HK4).dr 1));clear hmi4;refine Zh (C:=fun V=>∃ k,V=W4.drewN k) (d:=9) (by kernel_rfl) ?_;change Ye _ _ _ _ _ _ _ _ _ (W4.drewN 1)
 refine vE 0 ?_;refine vE 1 ?_;refine vE 2 ?_;refine vE 3 ?_;refine vE 4 ?_;refine vE 5 ?_;refine vE 6 ?_;refine vE 7 ?_;refine vE 8 ?_;refine vO 9 fun K hK=>?_;rcases O HQ with rfl | rfl | rfl | rfl | rfl | rfl | rfl | rfl | rfl | rfl | rfl | rfl | rfl | rfl | rfl;all_goals
  go_simp;refine(O HDD).mono ?_;rintro e w5 ⟨⟨v5,rfl⟩,h5⟩;have H5:=Y h5;clear h5;refine kO hK (fun hx=>by cases hx) ?_;clear hK K;refine Zi (by kernel_rfl) ?_ _;go_returns;exact⟨⟨_,rfl⟩,O H5⟩
end
end Go.Proofs.YtnlcfnjeagmemaaGreatDoor
