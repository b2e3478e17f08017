import Derived.Test.YtkenknfgeoecbaaGreatDoorJ4
import Derived.Test.YtkenknfgeoecbaaGreatDoorJ14
import Derived.Deep.CutRange
import Derived.Test.YtkenknfgeoecbaaGreatDoorCards
import Derived.Test.YtkenknfgeoecbaaGreatDoorTie
import Derived.Lib.LaidU8
import Derived.Lay
namespace Go.Proofs.YtkenknfgeoecbaaGreatDoor
open Go.RowKit
set_option maxHeartbeats 4000000
set_option maxRecDepth 100000
theorem Zol (w:World)(r:Option Nat):w.grownBy w.drew r:=⟨rfl,rfl,rfl,Nat.le_refl _,fun _ _ _=>rfl⟩
theorem GT.mono {S:Um}{B B0:Nat}{arr:Array Value}{u:World}(h:GT S B arr u)(hB:B0<=B):GT S B0 arr u:=by obtain⟨v4,v5,v6,h1,h2,h3,h4,h5⟩:=h;exact⟨v4,v5,v6,h1,Xw h2 hB,Xw h3 hB,Xw h4 hB,h5⟩
structure Raw (w:World)(b:Nat)(s:ByteArray):Prop where
 c0:w.cell? ⟨b,0,none⟩=some (.string s)
 c1:w.cell? ⟨b,1,none⟩=some (.int .u32 0)
 c2:w.cell? ⟨b,2,none⟩=some (.int .i32 0)
 th:w.there b 4 12
 fz:∀ j,w.frozen? ⟨b,j,none⟩=false
theorem Raw.lt {w:World}{b:Nat}{s:ByteArray}(h:Raw w b s):b<w.heap.size:=World.block_lt_of_cell? w _ h.c0
theorem Raw.below {w w':World}{b:Nat}{s:ByteArray}(h:Raw w b s)(hb:Below w.heap.size w w'):Raw w' b s :=
 have e:∀ j,w'.cell? ⟨b,j,none⟩=w.cell? ⟨b,j,none⟩:=fun j=>hb.cell (p:=⟨b,j,none⟩) h.lt;have f:∀ j,w'.frozen? ⟨b,j,none⟩=w.frozen? ⟨b,j,none⟩:=fun j=>World.frozen?_of_block (a:=⟨b,j,none⟩) (hb.block b h.lt);⟨(e 0).trans h.c0,(e 1).trans h.c1,(e 2).trans h.c2,fun j hj=>⟨by rw [e]; exact(h.th j hj).1,by rw [f]; exact(h.th j hj).2⟩,fun j=>(f j).trans (h.fz j)⟩
structure Ygj (w:World)(b:Nat)(S:Um)(u:World):Prop where
 grow:w.grownBy u (some b)
 r:∃ arr,arr.size=12∧arr.all (·.oneCell')=true∧u.rangeAt b 4 arr.toList∧GT S w.heap.size arr u
theorem Ygk (s:ByteArray)(S:Um)(hS:Xk s=.inr S)(b:Nat)(pl:Addr)(w:World)(hR:Raw w b s)(hpb:pl.block≠b)(hU:U8 w)(hI:Ck w)(hg1:1≠b)(hg2:3<b∧4<b)(hp:w.cell? pl=some (.pointer (some ⟨b,0,none⟩))) :
 Calls Tryz.prog 105 #[.pointer (some ⟨b,1,none⟩),.func (.func 106) #[] #[.pointer (some pl)]] w fun e w'=>e=.returned (.tuple #[])∧Ygj w b S w':=by
 have hlt:=hR.lt;have hgs:=Nn w b 2 (.int .i32 1);have ho:∀ j,j≠2->(w.setCell ⟨b,2,none⟩ (.int .i32 1)).cell? ⟨b,j,none⟩=w.cell? ⟨b,j,none⟩:=fun j hj=>World.cell?_setCell_other _ _ _ _ (by first | (simp; done) | (simp; omega));have hfr:∀ j,(w.setCell ⟨b,2,none⟩ (.int .i32 1)).frozen? ⟨b,j,none⟩=false:=fun j=>by rw [World.frozen?_setCell]; exact hR.fz j
 have hlow:Below b w (w.setCell ⟨b,2,none⟩ (.int .i32 1)):=⟨hgs.os,hgs.tape,hgs.output,hgs.size,fun q hq=>hgs.block q (by omega) (by first | (simp; done) | (simp; omega))⟩;have hsz:(w.setCell ⟨b,2,none⟩ (.int .i32 1)).heap.size=w.heap.size:=by simp
 have key:=Zzc s S hS b pl (w.setCell ⟨b,2,none⟩ (.int .i32 1)) (by rw [hsz]; exact hlt) hpb (hU.below hlow hg2) (hI.grown hgs hg1) hg1 hg2
  ((World.cell?_setCell_other _ _ _ _ (fun e=>hpb (by first | exact(congrArg Addr.block e) | exact(congrArg Addr.block e).symm))).trans hp) ((ho 0 (by omega)).trans hR.c0) (fun j hj=>⟨by rw [ho _ (by omega)]; exact(hR.th j hj).1,hfr _⟩) hfr
 refine(Ydh b pl w (fun u=>Rd1 (w.setCell ⟨b,2,none⟩ (.int .i32 1)) b S u) hR.c1 hR.c2 (hR.fz 2) (key.mono ?_)).mono ?_
 ·rintro e u ⟨rfl,h⟩;exact⟨rfl,(h.s.hd 1 (by omega)).trans ((ho 1 (by omega)).trans hR.c1),(h.s.hd 2 (by omega)).trans (World.cell?_setCell_same _ _ _ hR.c2),h.s.fz 1,h.s.fz 2,h⟩
 ·rintro e w' ⟨rfl,u,h,rfl⟩;refine⟨rfl,?_,?_⟩
  ·exact Yg (Yg (Yg hgs h.s.grow) (Yg (Zol u _) (Nn u.drew b 1 _))) (Nn _ b 2 _)
  ·obtain⟨arr,a1,a2,a3,a4⟩:=h.r;refine⟨arr,a1,a2,fun j v hv=>?_,?_⟩
   ·rw [World.cell?_setCell_other _ _ _ _ (by simp),World.cell?_setCell_other _ _ _ _ (by simp),World.cell?_drew];exact a3 j v hv
   ·rw [hsz] at a4;exact(a4.kept (Yg (Zol u _) (Nn u.drew b 1 (.int .u32 1))) hlt).kept (Nn _ b 2 _) hlt
theorem Zug (s:ByteArray)(S:Um)(hS:Xk s=.inr S)(b:Nat)(w:World)(hR:Raw w b s)(hU:U8 w)(hI:Ck w)(hg1:1≠b)(hg2:3<b∧4<b) :
 Calls Tryz.prog 65 #[.pointer (some ⟨b,0,none⟩)] w fun e w'=>∃ arr,e=.returned (.agg arr)∧arr.size=12∧arr.all (·.oneCell')=true∧GT S w.heap.size arr w'∧w.grownBy w' (some b):=by
 have hlt:=hR.lt;have HDO:=Ze (fun(X Y:Obj) (hp:((w.alloc X).alloc Y).cell? ⟨w.heap.size,0,none⟩=some (.pointer (some ⟨b,0,none⟩)))=>have hb:Below w.heap.size w ((w.alloc X).alloc Y):=((Below.refl w.heap.size w).alloc (Nat.le_refl _) X).alloc (by simp) Y;Ygk s S hS b ⟨w.heap.size,0,none⟩ ((w.alloc X).alloc Y) (hR.below hb) (Nat.ne_of_gt hlt) (hU.below hb hU.lt) (hI.grown (Zn (row:=some b) hb) hg1) hg1 hg2 hp)
 have HLW:=Ze (fun(X Y:Obj)=>((Below.refl w.heap.size w).alloc (Nat.le_refl _) X).alloc (by simp) Y);clear hR hU hI hS;go_enter Tryz.func65,Tryz.ntmps65
 go_wp2_with fail
 refine(Zb HDO _ _ (by rw [World.cell?_alloc_lt _ _ ⟨w.heap.size,0,none⟩ (by simp),World.cell?_alloc_at _ _ _ _ rfl]; rfl)).mono ?_;rintro e w1 ⟨rfl,hO⟩;obtain⟨arr,a1,a2,a3,a4⟩:=hO.r;have hz:=hO.grow.size;simp only [World.size_alloc] at hz;have cp:w1.cell? ⟨w.heap.size,0,none⟩=some (.pointer (some ⟨b,0,none⟩)):=(World.cell?_of_block (hO.grow.block w.heap.size (by simp; omega) (by simp; omega))).trans (by rw [World.cell?_alloc_lt _ _ ⟨w.heap.size,0,none⟩ (by simp),World.cell?_alloc_at _ _ _ _ rfl]; rfl);have HRow:=Ze ((hO.grow.block (w.heap.size+1) (by simp) (by simp; omega)).trans (heap_alloc2_new w _ _));have HG:=Ze ((a4.kept (Gx w1 (w.heap.size+1) arr) (by simp)).mono (B0:=w.heap.size) (by simp; omega));have HGB:=Ze (Zpf (Yg (Zn (Zb HLW _ _)) hO.grow) (Gx w1 (w.heap.size+1) arr) (fun q hq=>by injection hq with hq; omega));have HA3:=Ze a3;clear hO a3 a4;go_wp2_with (first | (refine wpList_load_mid rfl 25 (.tmp 10) rfl b 4 rfl arr.toList _ (Zb HA3) Tryz.underlying25 rfl (Tryz.infTab.trans (congrArg some (by simp [a1]))) ?_; simp only [Array.toArray_toList]) | refine wpList_store_row rfl 25 (.tmp 2) (.tmp 11) rfl (w.heap.size+1) arr rfl rfl 25 _ (Zb HRow) (Tryz.infTab.trans (congrArg some a1.symm)) a1.symm a2 ?_)
 refine bodyPost_ret (results_cell_row (fn:=Tryz.f65) (p:=2) (ty:=25) rfl _ _ (w.heap.size+1) 25 arr (0,0) _ rfl (setRow_heap _ _ _ _ _ _ (Zb HRow)) Tryz.underlying25 rfl (Tryz.infTab.trans (congrArg some a1.symm))) rfl ?_;exact⟨arr,rfl,a1,a2,Zb HG,Zb HGB⟩
set_option maxHeartbeats 4000000
set_option maxRecDepth 100000
theorem Zon (w:World)(s:ByteArray):Raw (w.alloc (.cells #[.string s,.int .u32 0,.int .i32 0,.int .u32 0,.int .i64 0,.int .i64 0,.int .i64 0,.int .i64 0,.int .i64 0,.slice none 0 0,.slice none 0 0,.slice none 0 0,.int .i64 0,.int .i64 0,.int .i64 0,.bool false] 170)) w.heap.size s :=
 have h:=Yk (heap_alloc_new w (.cells #[.string s,.int .u32 0,.int .i32 0,.int .u32 0,.int .i64 0,.int .i64 0,.int .i64 0,.int .i64 0,.int .i64 0,.slice none 0 0,.slice none 0 0,.slice none 0 0,.int .i64 0,.int .i64 0,.int .i64 0,.bool false] 170));⟨h.1 0,h.1 1,h.1 2,fun j hj=>⟨by
  rw [h.1];match j,hj with
  | 0,_ | 1,_ | 2,_ | 3,_ | 4,_ | 5,_ | 6,_ | 7,_ | 8,_ | 9,_ | 10,_ | 11,_=>rfl,h.2 _⟩,h.2⟩
def Zoo (S:Um)(w:World)(e:Ending)(w':World):Prop :=
 Below w.heap.size w w'∧∃ arr,e=.returned (.tuple #[.agg arr,.nilIface])∧arr.size=12∧arr.all (·.oneCell')=true∧GT S w.heap.size arr w'
theorem Zrc (S:Um)(hS:Xk Znf=.inr S)(w:World)(hU:U8 w)(hI:Ck w):Calls Tryz.prog 44 #[.int .i64 0] w (Zoo S w):=by
 have hit:=hI.lt;have hut:=hU.lt;have HRD:=Ze (fun(X:Obj) =>
  have hb1:Below w.heap.size w (w.alloc X):=(Below.refl w.heap.size w).alloc (Nat.le_refl _) X;have hb:Below w.heap.size w ((w.alloc X).alloc (.cells #[.string Znf,.int .u32 0,.int .i32 0,.int .u32 0,.int .i64 0,.int .i64 0,.int .i64 0,.int .i64 0,.int .i64 0,.slice none 0 0,.slice none 0 0,.slice none 0 0,.int .i64 0,.int .i64 0,.int .i64 0,.bool false] 170)):=hb1.alloc (by simp) _;have hR:=Zon (w.alloc X) Znf;have hsz:(w.alloc X).heap.size=w.heap.size+1:=by simp
  Zug Znf S hS (w.heap.size+1) ((w.alloc X).alloc (.cells #[.string Znf,.int .u32 0,.int .i32 0,.int .u32 0,.int .i64 0,.int .i64 0,.int .i64 0,.int .i64 0,.int .i64 0,.slice none 0 0,.slice none 0 0,.slice none 0 0,.int .i64 0,.int .i64 0,.int .i64 0,.bool false] 170)) (by rw [hsz] at hR; exact hR) (hU.below hb hU.lt) (hI.grown (Zn (row:=some (w.heap.size+1)) hb) (by omega)) (by omega) (by omega))
 have HBB:=Ze (fun(X Y:Obj)=>((Below.refl w.heap.size w).alloc (Nat.le_refl _) X).alloc (by simp) Y);clear hU hI hS;go_enter Tryz.func44,Tryz.ntmps44
 go_wp2_with fail
 refine(Zb HRD _).mono ?_;rintro e w1 ⟨arr,rfl,a1,a2,hG,hgb⟩;have hz:=hgb.size;simp only [World.size_alloc] at hz;have HR:=Ze ((hgb.block w.heap.size (by simp; omega) (by simp)).trans ((Gi _ _ _ (by simp)).trans (heap_alloc_new w _)));have HG:=Ze ((hG.kept (Gx w1 w.heap.size arr) (by simp; omega)).mono (B0:=w.heap.size) (by simp; omega));have HB:=Ze (show Below w.heap.size w w1 from(Zb HBB _ _).trans ⟨hgb.os,hgb.tape,hgb.output,hgb.size,fun q hq=>hgb.block q (by simp; omega) (by simp; omega)⟩);clear hG hgb;go_wp2_with (refine wpList_store_row rfl 25 (.tmp 2) (.tmp 9) rfl w.heap.size arr rfl rfl 25 _ (Zb HR) (Tryz.infTab.trans (congrArg some a1.symm)) a1.symm a2 ?_)
 refine bodyPost_ret (Ym (fn:=Tryz.f44) (p:=2) (u:=3) (ty:=25) rfl _ _ w.heap.size 25 arr (0,0) _ rfl (setRow_heap _ _ _ _ _ _ (Zb HR)) Tryz.underlying25 rfl (Tryz.infTab.trans (congrArg some a1.symm))) rfl ?_;exact⟨below_setRow (Zb HB) (Nat.le_refl _) _,arr,rfl,a1,a2,Zb HG⟩
theorem Zrd (S:Um)(hS:Xk Zng=.inr S)(w:World)(hU:U8 w)(hI:Ck w):Calls Tryz.prog 44 #[.int .i64 1] w (Zoo S w):=by
 have hit:=hI.lt;have hut:=hU.lt;have HRD:=Ze (fun(X:Obj) =>
  have hb1:Below w.heap.size w (w.alloc X):=(Below.refl w.heap.size w).alloc (Nat.le_refl _) X;have hb:Below w.heap.size w ((w.alloc X).alloc (.cells #[.string Zng,.int .u32 0,.int .i32 0,.int .u32 0,.int .i64 0,.int .i64 0,.int .i64 0,.int .i64 0,.int .i64 0,.slice none 0 0,.slice none 0 0,.slice none 0 0,.int .i64 0,.int .i64 0,.int .i64 0,.bool false] 170)):=hb1.alloc (by simp) _;have hR:=Zon (w.alloc X) Zng;have hsz:(w.alloc X).heap.size=w.heap.size+1:=by simp
  Zug Zng S hS (w.heap.size+1) ((w.alloc X).alloc (.cells #[.string Zng,.int .u32 0,.int .i32 0,.int .u32 0,.int .i64 0,.int .i64 0,.int .i64 0,.int .i64 0,.int .i64 0,.slice none 0 0,.slice none 0 0,.slice none 0 0,.int .i64 0,.int .i64 0,.int .i64 0,.bool false] 170)) (by rw [hsz] at hR; exact hR) (hU.below hb hU.lt) (hI.grown (Zn (row:=some (w.heap.size+1)) hb) (by omega)) (by omega) (by omega))
 have HBB:=Ze (fun(X Y:Obj)=>((Below.refl w.heap.size w).alloc (Nat.le_refl _) X).alloc (by simp) Y);clear hU hI hS;go_enter Tryz.func44,Tryz.ntmps44
 go_wp2_with fail
 refine(Zb HRD _).mono ?_;rintro e w1 ⟨arr,rfl,a1,a2,hG,hgb⟩;have hz:=hgb.size;simp only [World.size_alloc] at hz;have HR:=Ze ((hgb.block w.heap.size (by simp; omega) (by simp)).trans ((Gi _ _ _ (by simp)).trans (heap_alloc_new w _)));have HG:=Ze ((hG.kept (Gx w1 w.heap.size arr) (by simp; omega)).mono (B0:=w.heap.size) (by simp; omega));have HB:=Ze (show Below w.heap.size w w1 from(Zb HBB _ _).trans ⟨hgb.os,hgb.tape,hgb.output,hgb.size,fun q hq=>hgb.block q (by simp; omega) (by simp; omega)⟩);clear hG hgb;go_wp2_with (refine wpList_store_row rfl 25 (.tmp 2) (.tmp 14) rfl w.heap.size arr rfl rfl 25 _ (Zb HR) (Tryz.infTab.trans (congrArg some a1.symm)) a1.symm a2 ?_)
 refine bodyPost_ret (Ym (fn:=Tryz.f44) (p:=2) (u:=3) (ty:=25) rfl _ _ w.heap.size 25 arr (0,0) _ rfl (setRow_heap _ _ _ _ _ _ (Zb HR)) Tryz.underlying25 rfl (Tryz.infTab.trans (congrArg some a1.symm))) rfl ?_;exact⟨below_setRow (Zb HB) (Nat.le_refl _) _,arr,rfl,a1,a2,Zb HG⟩
theorem Zmf (k:Int)(hk:k≠0∧k≠1)(w:World):Calls Tryz.prog 44 #[.int .i64 k] w fun e w'=>e=.returned (.tuple #[Cn,.iface 127 (.int .i64 6)])∧Below w.heap.size w w':=by
 have k0:(k==0)=false:=by simpa using hk.1
 have k1:(k==1)=false:=by simpa using hk.2
 have HR:=Ze (heap_alloc_new w (.cells #[.int .i64 0,.int .i64 0,.int .i64 0,.int .i64 0,.int .i64 0,.slice none 0 0,.slice none 0 0,.slice none 0 0,.int .i64 0,.int .i64 0,.int .i64 0,.bool false] 25));have HBL:=Ze ((Below.refl w.heap.size w).alloc (Nat.le_refl _) (.cells #[.int .i64 0,.int .i64 0,.int .i64 0,.int .i64 0,.int .i64 0,.slice none 0 0,.slice none 0 0,.slice none 0 0,.int .i64 0,.int .i64 0,.int .i64 0,.bool false] 25));go_enter Tryz.func44,Tryz.ntmps44
 go_wp2_with (refine wpList_store_row rfl 25 (.tmp 2) (.tmp 15) rfl w.heap.size #[.int .i64 0,.int .i64 0,.int .i64 0,.int .i64 0,.int .i64 0,.slice none 0 0,.slice none 0 0,.slice none 0 0,.int .i64 0,.int .i64 0,.int .i64 0,.bool false] rfl rfl 25 _ (Zb HR) Tryz.infTab rfl (by simp [Value.oneCell']) ?_)
 refine bodyPost_ret (Ym (fn:=Tryz.f44) (p:=2) (u:=3) (ty:=25) rfl _ _ w.heap.size 25 #[.int .i64 0,.int .i64 0,.int .i64 0,.int .i64 0,.int .i64 0,.slice none 0 0,.slice none 0 0,.slice none 0 0,.int .i64 0,.int .i64 0,.int .i64 0,.bool false] (0,0) _ rfl (setRow_heap _ _ _ _ _ _ (Zb HR)) Tryz.underlying25 rfl Tryz.infTab) rfl ?_;exact⟨rfl,below_setRow (Zb HBL) (Nat.le_refl _) _⟩
set_option maxHeartbeats 8000000
set_option maxRecDepth 100000
def Zjy (o:Option Um)(B:Nat)(arr:Array Value)(ev:Value)(u:World):Prop:=match o with
 | some S=>GT S B arr u∧ev=.nilIface
 | none=>.agg arr=Cn∧ev=.iface 127 (.int .i64 6)
theorem Zjy.setRow {o:Option Um}{B T:Nat}{arr:Array Value}{ev:Value}{u:World}(h:Zjy o B arr ev u)(hT:T<B)(cs:Array Value):Zjy o B arr ev (u.setRow T cs):=by
 cases o with
 | none=>exact h
 | some S=>exact⟨h.1.kept (Gx u T cs) hT,h.2⟩
theorem Zjy.mono {o:Option Um}{B B0:Nat}{arr:Array Value}{ev:Value}{u:World}(h:Zjy o B arr ev u)(hB:B0<=B):Zjy o B0 arr ev u:=by
 cases o with
 | none=>exact h
 | some S=>exact⟨h.1.mono hB,h.2⟩
def Ydx (k:Int)(o:Option Um):Prop:=(k=0∧∃ S,o=some S∧Xk Znf=.inr S)∨(k=1∧∃ S,o=some S∧Xk Zng=.inr S)∨(k≠0∧k≠1∧o=none)
def Yfx (o:Option Um)(w:World)(e:Ending)(w':World):Prop :=
 Below w.heap.size w w'∧∃ arr ev,e=.returned (.tuple #[.agg arr,ev])∧arr.size=12∧arr.all (·.oneCell')=true∧Zjy o w.heap.size arr ev w'
theorem Zrq (k:Int)(o:Option Um)(hk:Ydx k o)(w:World)(hU:U8 w)(hI:Ck w):Calls Tryz.prog 44 #[.int .i64 k] w (Yfx o w):=by
 rcases hk with⟨rfl,S,rfl,hS⟩ | ⟨rfl,S,rfl,hS⟩ | ⟨h0,h1,rfl⟩
 ·refine(Zrc S hS w hU hI).mono ?_;rintro e w' ⟨hb,arr,rfl,a1,a2,a3⟩;exact⟨hb,arr,_,rfl,a1,a2,a3,rfl⟩
 ·refine(Zrd S hS w hU hI).mono ?_;rintro e w' ⟨hb,arr,rfl,a1,a2,a3⟩;exact⟨hb,arr,_,rfl,a1,a2,a3,rfl⟩
 ·refine(Zmf k ⟨h0,h1⟩ w).mono ?_;rintro e w' ⟨rfl,hb⟩;exact⟨hb,_,_,rfl,rfl,by simp [Zt,Value.oneCell'],rfl,rfl⟩
theorem Zrr (k:Int)(o:Option Um)(hk:Ydx k o)(w:World)(hU:U8 w)(hI:Ck w):Calls Tryz.prog 29 #[.int .i64 k] w (Yfx o w):=by
 have hit:=hI.lt;have HU:=Ze hU;have HI:=Ze hI;have HK:=Ze hk;clear hU hI hk;go_enter Tryz.func29,Tryz.ntmps29
 go_wp2_with fail
 have hlow:=fun X=>(Below.refl w.heap.size w).alloc (Nat.le_refl _) X;refine(Zrq k o (Zb HK) _ ((Zb HU).below (hlow _) (Zb HU).lt) ((Zb HI).grown (Zn (row:=some w.heap.size) (hlow _)) (Nat.ne_of_lt hit))).mono ?_;rintro e w1 ⟨hb1,arr,ev,rfl,hA1,hA2,hM⟩;have HBL:=Ze ((hlow _).trans (hb1.mono (by simp)));have HR:=Ze ((hb1.block w.heap.size (by simp)).trans (heap_alloc_new w _));have HM:=Ze hM;clear hb1 hM hlow;go_wp2_with (refine wpList_store_row rfl 25 (.tmp 2) (.tmp 6) rfl w.heap.size arr rfl rfl 25 _ (Zb HR) (Tryz.infTab.trans (congrArg some hA1.symm)) hA1.symm hA2 ?_)
 refine bodyPost_ret (Ym (fn:=Tryz.f29) (p:=2) (u:=3) (ty:=25) rfl _ _ w.heap.size 25 arr (0,0) _ rfl (setRow_heap _ _ _ _ _ _ (Zb HR)) Tryz.underlying25 rfl (Tryz.infTab.trans (congrArg some hA1.symm))) rfl ?_;exact⟨below_setRow (Zb HBL) (Nat.le_refl _) _,arr,ev,rfl,hA1,hA2,((Zb HM).setRow (by simp) _).mono (by simp)⟩
theorem Zeb (k:Int)(w:World)(hU:U8 w)(hI:Ck w)(Post:Array Value->Array Value->World->Prop)(G:Array Value->Value->Array Value->World->Prop)
 (hcall:∀ w0,U8 w0->Ck w0->Below w.heap.size w w0->w0.heap.size=w.heap.size+2->Calls Tryz.prog 29 #[.int .i64 k] w0 fun e w1=>Below w0.heap.size w0 w1∧∃ arr ev fv,e=.returned (.tuple #[.agg arr,ev])∧(arr.size=12∧arr.all (·.oneCell')=true)∧(fv.size=4∧fv.all (·.oneCell')=true)∧G arr ev fv w1)
 (hfault:∀ arr ev fv w1 u,G arr ev fv w1->Below w.heap.size w w1->(∀ q,q<w1.heap.size->q≠w.heap.size->q≠w.heap.size+1->u.heap[q]?=w1.heap[q]?)->Calls Tryz.prog 26 #[ev] u fun e u'=>e=.returned (.agg fv)∧Below u.heap.size u u')
 (hpost:∀ arr ev fv w1 u,G arr ev fv w1->Below w.heap.size w u->(∀ q,q<w1.heap.size->q≠w.heap.size->q≠w.heap.size+1->u.heap[q]?=w1.heap[q]?)->u.os=w1.os->u.tape=w1.tape->u.output=w1.output->w1.heap.size<=u.heap.size->Post arr fv u) :
 Calls Tryz.prog 15 #[.int .i64 k] w fun e w'=>∃ arr fv,e=.returned (.tuple #[.agg arr,.agg fv])∧Below w.heap.size w w'∧Post arr fv w':=by
 have hit:=hI.lt;have HU:=Ze hU;have HI:=Ze hI;have HC:=Ze hcall;have HFa:=Ze hfault;have HPo:=Ze hpost;clear hU hI hcall hfault hpost;go_enter Tryz.func15,Tryz.ntmps15
 go_wp2_with fail
 have hlow:∀ X Y,Below w.heap.size w ((w.alloc X).alloc Y):=fun X Y=>((Below.refl w.heap.size w).alloc (Nat.le_refl _) X).alloc (by simp) Y;refine(Zb HC _ ((Zb HU).below (hlow _ _) (Zb HU).lt) ((Zb HI).grown (Zn (row:=some w.heap.size) (hlow _ _)) (Nat.ne_of_lt hit)) (hlow _ _) (by simp)).mono ?_;rintro e w1 ⟨hb1,arr,ev,fv,rfl,⟨hA1,hA2⟩,⟨hf1,hf2⟩,hG⟩;have hz1:=hb1.size;simp only [World.size_alloc] at hz1;have HBL:=Ze ((hlow _ _).trans (hb1.mono (by simp; try omega)));have HR0:=Ze ((hb1.block w.heap.size (by simp; try omega)).trans ((Gi _ _ _ (by simp)).trans (heap_alloc_new w _)));have HR1:=Ze ((hb1.block (w.heap.size+1) (by simp)).trans (heap_alloc2_new w _ _));have HG:=Ze hG;clear hb1 hG hlow;go_wp2_with (refine wpList_store_row rfl 25 (.tmp 4) (.tmp 9) rfl w1.heap.size arr rfl rfl 25 _ (heap_alloc_new _ _) (Tryz.infTab.trans (congrArg some hA1.symm)) hA1.symm hA2 ?_; rw [Rc])
 have hS0:PlS (w1.alloc (.cells arr 25)) w.heap.size (w1.heap.size+1) (w1.alloc (.cells arr 25)).drew:=⟨by simp,fun _ _ _ _=>rfl,⟨_,rfl,(Gi _ _ _ (by omega)).trans (Zb HR0)⟩,⟨_,rfl,(Gi _ _ _ (by omega)).trans (Zb HR1)⟩,rfl,rfl,rfl⟩;have hX:(w1.alloc (.cells arr 25)).heap[w1.heap.size]?=some (.cells arr 25 (0,0)):=heap_alloc_new _ _;have hk1:∀ q,q<w1.heap.size->(w1.alloc (.cells arr 25)).heap[q]?=w1.heap[q]?:=fun q hq=>Gi _ _ _ hq;refine Zvi (by kernel_rfl) 11 _ (OkL arr fv ev w.heap.size) (PlS (w1.alloc (.cells arr 25)) w.heap.size (w1.heap.size+1)) (PlR (w1.alloc (.cells arr 25)) w.heap.size (w1.heap.size+1) arr fv) ?hd ?hsz ?hle (fun i v u u' h hr=>OkL.stab arr fv ev w.heap.size i v u u' h hr) (fun u u' _ hr=>hr.s) ?step ?fin hS0;case hd =>
  intro i o ho;have hi:i<5:=(Array.getElem?_eq_some_iff.1 ho).1;match i,hi with
  | 0,_=>obtain rfl:=oR ho; exact⟨Or.inl rfl,rfl⟩
  | 1,_=>obtain rfl:=oR ho; exact⟨Or.inl rfl,rfl⟩
  | 2,_=>obtain rfl:=oR ho; exact⟨Or.inl rfl,rfl⟩
  | 3,_=>obtain rfl:=oR ho; exact⟨Or.inr rfl,rfl⟩
  | 4,_=>obtain rfl:=oR ho; exact⟨Or.inr rfl,rfl⟩
 case hsz =>
  intro i o ho hdo;have hi:i<5:=(Array.getElem?_eq_some_iff.1 ho).1;match i,hi with
  | 0,_=>show 11<14; decide
  | 1,_=>show 12<14; decide
  | 2,_=>show 13<14; decide
  | 3,_=>obtain rfl:=oR ho; cases hdo
  | 4,_=>obtain rfl:=oR ho; cases hdo
 case hle =>
  intro i o ho;have hi:i<5:=(Array.getElem?_eq_some_iff.1 ho).1;match i,hi with
  | 0,_=>obtain rfl:=oR ho; simp
  | 1,_=>obtain rfl:=oR ho; simp
  | 2,_=>obtain rfl:=oR ho; simp
  | 3,_=>obtain rfl:=oR ho; simp
  | 4,_=>obtain rfl:=oR ho; simp
 case step =>
  intro i o ho a u hS hfr hdp;have hi:i<5:=(Array.getElem?_eq_some_iff.1 ho).1;match i,hi with
  | 0,_=>obtain rfl:=oR ho;have f0:a.eval (.tmp 4)=.pointer (some ⟨w1.heap.size,0,none⟩):=hfr 4 (by omega);exact wp_load_row 25 (.tmp 4) rfl w1.heap.size f0 25 arr (0,0) _ ((hS.same w1.heap.size (by omega) (by omega) (by omega)).trans hX) Tryz.underlying25 rfl (Tryz.infTab.trans (congrArg some hA1.symm)) ⟨_,rfl,hS.same_refl,rfl⟩
  | 1,_=>obtain rfl:=oR ho;have f0:a.eval (.tmp 5)=ev:=hfr 5 (by omega);refine Zy (F:=fun v w'=>_∧_) (v:=ev) (w':=u) ?_ ⟨hS.same_refl,rfl⟩;rw [← f0];rfl
  | 2,_ =>
   obtain rfl:=oR ho;have f0:a.eval (.tmp 12)=ev:=hdp ⟨1,.data⟩ (by simp) rfl ⟨_,rfl,rfl⟩;refine Zgn (F:=fun v w'=>_∧_) (f:=26) (args:=#[ev]) (w1:=u) ?_ ((Zb HFa arr ev fv w1 u (Zb HG) (Zb HBL) (fun q hq h1 h2=>(hS.same q (by omega) h1 h2).trans (hk1 q hq))).mono ?_)
   ·clear hdp hfr ho;simp [execOp,go_sem];simpa [Act.eval] using f0
   ·rintro e u' ⟨rfl,hb⟩;obtain⟨c0,k0,l0⟩:=hS.b0;obtain⟨c1,k1,l1⟩:=hS.b1;have hz:=hS.size;exact⟨_,rfl,⟨⟨Nat.le_trans hz hb.size,fun q hq h1 h2=>(hb.block q (by omega)).trans (hS.same q hq h1 h2),⟨c0,k0,(hb.block _ (by omega)).trans l0⟩,⟨c1,k1,(hb.block _ (by omega)).trans l1⟩,hb.os.trans hS.os,hb.tape.trans hS.tape,hb.output.trans hS.output⟩,Or.inl (hb.block _ (by omega)),Or.inl (hb.block _ (by omega))⟩,rfl⟩
  | 3,_=>obtain rfl:=oR ho;have f0:a.eval (.tmp 2)=.pointer (some ⟨w.heap.size,0,none⟩):=hfr 2 (by omega);have f1:a.eval (.tmp 11)=.agg arr:=hdp ⟨0,.data⟩ (by simp) rfl ⟨_,rfl,rfl⟩;obtain⟨c0,k0,l0⟩:=hS.b0;obtain⟨c1,k1,l1⟩:=hS.b1;exact wp_store_row 25 (.tmp 2) (.tmp 11) rfl w.heap.size arr f0 f1 25 c0 l0 (Tryz.infTab.trans (congrArg some hA1.symm)) (k0.trans hA1.symm) hA2 ⟨_,rfl,⟨⟨by simpa using hS.size,fun q hq h1 h2=>(setRow_other _ _ _ _ h1).trans (hS.same q hq h1 h2),⟨arr,hA1,setRow_heap _ _ _ _ _ _ l0⟩,⟨c1,k1,(setRow_other _ _ _ _ (by omega)).trans l1⟩,hS.os,hS.tape,hS.output⟩,Or.inr (setRow_heap _ _ _ _ _ _ l0),Or.inl (setRow_other _ _ _ _ (by omega))⟩,setRow_heap _ _ _ _ _ _ l0⟩
  | 4,_=>obtain rfl:=oR ho;have f0:a.eval (.tmp 3)=.pointer (some ⟨w.heap.size+1,0,none⟩):=hfr 3 (by omega);have f1:a.eval (.tmp 13)=.agg fv:=hdp ⟨2,.data⟩ (by simp) rfl ⟨_,rfl,rfl⟩;obtain⟨c0,k0,l0⟩:=hS.b0;obtain⟨c1,k1,l1⟩:=hS.b1;exact wp_store_row 29 (.tmp 3) (.tmp 13) rfl (w.heap.size+1) fv f0 f1 29 c1 l1 (Tryz.infFlt.trans (congrArg some hf1.symm)) (k1.trans hf1.symm) hf2 ⟨_,rfl,⟨⟨by simpa using hS.size,fun q hq h1 h2=>(setRow_other _ _ _ _ h2).trans (hS.same q hq h1 h2),⟨c0,k0,(setRow_other _ _ _ _ (by omega)).trans l0⟩,⟨fv,hf1,setRow_heap _ _ _ _ _ _ l1⟩,hS.os,hS.tape,hS.output⟩,Or.inl (setRow_other _ _ _ _ (by omega)),Or.inr (setRow_heap _ _ _ _ _ _ l1)⟩,setRow_heap _ _ _ _ _ _ l1⟩
 case fin =>
  intro a u hS hdf hts hout hok hno;have h0:u.heap[w.heap.size]?=some (.cells arr 25 (0,0)):=(hno 3 _ rfl rfl).2.elim fun _ h=>h;have h1:u.heap[w.heap.size+1]?=some (.cells fv 29 (0,0)):=(hno 4 _ rfl rfl).2.elim fun _ h=>h;have e2:a.eval (.tmp 2)=.pointer (some ⟨w.heap.size,0,none⟩):=hout 2 (Or.inl (by omega));have e3:a.eval (.tmp 3)=.pointer (some ⟨w.heap.size+1,0,none⟩):=hout 3 (Or.inl (by omega));have hbu:Below w.heap.size w u:=((Zb HBL).trans (((Below.refl w1.heap.size w1).alloc (Nat.le_refl _) _).mono (by omega))).trans ⟨hS.os,hS.tape,hS.output,by have:=hS.size; simp; omega,fun q hq=>hS.same q (by omega) (by omega) (by omega)⟩;have hpo:=Zb HPo arr ev fv w1 u (Zb HG) hbu (fun q hq k1 k2=>(hS.same q (by omega) k1 k2).trans (hk1 q hq)) hS.os hS.tape hS.output (by have:=hS.size; omega);clear hok hno hout;go_wp2;refine bodyPost_ret (Rg (fn:=Tryz.f15) (p:=2) (q:=3) (ty:=25) (uy:=29) rfl _ _ w.heap.size 25 arr (0,0) _ ?g0 h0 Tryz.underlying25 rfl (Tryz.infTab.trans (congrArg some hA1.symm)) (w.heap.size+1) 29 fv (0,0) _ ?g1 h1 Tryz.underlying29 rfl (Tryz.infFlt.trans (congrArg some hf1.symm))) hdf ?_;case g0=>simpa [Act.eval] using e2
  case g1=>simpa [Act.eval] using e3
  exact⟨arr,fv,rfl,hbu,hpo⟩
def Ygr (o:Option Um)(w:World)(e:Ending)(w':World):Prop :=
 Below w.heap.size w w'∧∃ arr fv,e=.returned (.tuple #[.agg arr,.agg fv])∧match o with
  | some S=>GT S w.heap.size arr w'∧.agg fv=Dt 0 (-1) (-1) (-1)
  | none=>.agg arr=Cn∧.agg fv=Dt 6 (-1) (-1) (-1)
theorem Zgu (n f b a:Int):∃ fv,.agg fv=Dt n f b a∧fv.size=4∧fv.all (·.oneCell')=true:=⟨_,rfl,rfl,by simp [Value.oneCell']⟩
theorem Zdh (k:Int)(o:Option Um)(hk:Ydx k o)(w:World)(hU:U8 w)(hI:Ck w)(hE:Zz w):Calls Tryz.prog 15 #[.int .i64 k] w (Ygr o w):=by
 have h0:=Xe hE;have key:=Zeb k w hU hI
  (fun arr fv u=>match o with
   | some S=>GT S w.heap.size arr u∧.agg fv=Dt 0 (-1) (-1) (-1)
   | none=>.agg arr=Cn∧.agg fv=Dt 6 (-1) (-1) (-1))
  (fun arr ev fv w1=>Zjy o (w.heap.size+2) arr ev w1∧match o with
   | some S=>.agg fv=Dt 0 (-1) (-1) (-1)
   | none=>.agg fv=Dt 6 (-1) (-1) (-1))
  ?c1 ?c2 ?c3
 ·refine key.mono ?_;rintro e w' ⟨arr,fv,rfl,hb,hp⟩;refine⟨hb,arr,fv,rfl,?_⟩;cases o with
  | none=>exact hp
  | some S=>exact hp
 case c1 =>
  intro w0 hU0 hI0 hb0 hs0;refine(Zrr k o hk w0 hU0 hI0).mono ?_;rintro e w1 ⟨hb1,arr,ev,rfl,a1,a2,hM⟩;rw [hs0] at hM;cases o with
  | none=>obtain⟨fv,f1,f2,f3⟩:=Zgu 6 (-1) (-1) (-1);exact⟨hb1,arr,ev,fv,rfl,⟨a1,a2⟩,⟨f2,f3⟩,hM,f1⟩
  | some S=>obtain⟨fv,f1,f2,f3⟩:=Zgu 0 (-1) (-1) (-1);exact⟨hb1,arr,ev,fv,rfl,⟨a1,a2⟩,⟨f2,f3⟩,hM,f1⟩
 case c2 =>
  rintro arr ev fv w1 u ⟨hM,hf⟩ hb hs;have hEu:Zz u:=by have e1:u.heap[0]?=w1.heap[0]?:=hs 0 (Nat.lt_of_lt_of_le h0 hb.size) (by omega) (by omega);exact(World.cell?_of_block e1).trans ((hb.cell (p:=⟨0,0,none⟩) h0).trans hE)
  cases o with
  | none=>rw [hM.2];refine(Lo 6 u hEu).mono ?_;rintro e u' ⟨rfl,hb'⟩;exact⟨by rw [hf],hb'⟩
  | some S=>rw [hM.2];refine(Ln u).mono ?_;rintro e u' ⟨rfl,hb'⟩;exact⟨by rw [hf],hb'⟩
 case c3 =>
  rintro arr ev fv w1 u ⟨hM,hf⟩ hb hs ho ht hu hz;cases o with
  | none=>exact⟨hM.1,hf⟩
  | some S=>refine⟨?_,hf⟩;obtain⟨v4,v5,v6,h1,h2,h3,h4,h5⟩:=hM.1;have hk:∀ q,w.heap.size+2<=q->q<w1.heap.size->u.heap[q]?=w1.heap[q]?:=fun q hq hq2=>hs q hq2 (by omega) (by omega);exact⟨v4,v5,v6,h1,Xw (Cl h2 hk) (by omega),Xw (Cl h3 hk) (by omega),Xw (Cl h4 hk) (by omega),h5⟩
set_option maxHeartbeats 2000000
set_option maxRecDepth 100000
structure TD where
 r:Int
 sp:Int
 lk:Int
 t0:Int
 t1:Int
 al:Int
 sh:Int
 by_:Int
 pr:Bool
 l4:List Int
 l5:List Int
 l6:List Int
def td (k:Nat):TD:=if k=0 then ⟨12,11,-1,9,10,16,0,2,false,[0,1,2,3],[0,1],[5,6,7]⟩ else ⟨14,13,12,10,11,16,16,2,true,[0,1,2,3],[0,1],[6,7,8,9]⟩
def TD.box (d:TD)(v4 v5 v6:Value):Array Value:=Zt d.r d.sp d.lk d.t0 d.t1 v4 v5 v6 d.al d.sh d.by_ d.pr
def Zwa (b:Bool):Int:=match b with
 | true=>0
 | false=>2
theorem Zwb (r sp lk t0 t1:Int)(va vr vs:Value)(al sh by_:Int)(pr:Bool)(ag rs ss:List Int)(w:World)(ha:Rs w va ag)(hr:Rs w vr rs)(hs:Rs w vs ss)(ca:∀ a n cap,va=.slice a n cap->n<=cap)(cr:∀ a n cap,vr=.slice a n cap->n<=cap)(cs:∀ a n cap,vs=.slice a n cap->n<=cap):Calls Tryz.prog 32 #[.agg (Zt r sp lk t0 t1 va vr vs al sh by_ pr)] w fun e w'=>e=.returned (Zgw (Jj r sp lk t0 t1 ag rs ss al sh by_))∧Below w.heap.size w w':=by
 have hb:∀ X,Below w.heap.size w (w.alloc X):=fun X=>(Below.refl w.heap.size w).alloc (Nat.le_refl _) X;have HC:=Ze (fun X:Obj=>Zbh r sp lk t0 t1 va vr vs al sh by_ pr ag rs ss (w.alloc X) (ha.below (hb X)) (hr.below (hb X)) (hs.below (hb X)) ca cr cs);have HB:=Ze hb;clear hb ha hr hs ca cr cs;unfold Zt at HC ⊢;go_enter Tryz.func32,Tryz.ntmps32
 go_wp2_with fail
 refine(Zb HC _).mono ?_;rintro e w1 ⟨rfl,hb1⟩;have HB1:=Ze ((Zb HB _).trans (hb1.mono (by simp)));clear hb1;go_wp2;go_ret;exact⟨rfl,Zb HB1⟩
theorem Zrt (r sp lk t0 t1:Int)(va vr vs:Value)(al sh by_:Int)(pr:Bool)(ag rs ss:List Int)(w:World)(hE:Zz w)(ha:Rs w va ag)(hr:Rs w vr rs)(hs:Rs w vs ss)(ca:∀ a n cap,va=.slice a n cap->n<=cap)(cr:∀ a n cap,vr=.slice a n cap->n<=cap)(cs:∀ a n cap,vs=.slice a n cap->n<=cap):Calls Tryz.prog 18 #[.agg (Zt r sp lk t0 t1 va vr vs al sh by_ pr)] w fun e w'=>e=.returned (Dt (Zwa (Jj r sp lk t0 t1 ag rs ss al sh by_)) (-1) (-1) (-1))∧Below w.heap.size w w':=by
 have h0:=Xe hE;have hb:∀ X Y,Below w.heap.size w ((w.alloc X).alloc Y):=fun X Y=>((Below.refl w.heap.size w).alloc (Nat.le_refl _) X).alloc (by simp) Y;have HC:=Ze (fun X Y:Obj=>Zwb r sp lk t0 t1 va vr vs al sh by_ pr ag rs ss ((w.alloc X).alloc Y) (ha.below (hb X Y)) (hr.below (hb X Y)) (hs.below (hb X Y)) ca cr cs);have HB:=Ze hb;have HE:=Ze hE;clear hb ha hr hs ca cr cs hE;unfold Zt at HC ⊢;go_enter Tryz.func18,Tryz.ntmps18
 go_wp2_with fail
 refine(Zb HC _ _).mono ?_;rintro e w1 ⟨rfl,hb1⟩;have hz1:=hb1.size;simp only [World.size_alloc] at hz1;have HB1:=Ze ((Zb HB _ _).trans (hb1.mono (by simp; omega)));have HR:=Ze ((hb1.block (w.heap.size+1) (by simp)).trans (heap_alloc2_new w _ _));have hf:Calls Tryz.prog 26 #[Zgw (Jj r sp lk t0 t1 ag rs ss al sh by_)] w1 fun e w'=>e=.returned (Dt (Zwa (Jj r sp lk t0 t1 ag rs ss al sh by_)) (-1) (-1) (-1))∧Below w1.heap.size w1 w':=by
  have hE1:Zz w1:=(Zb HE).below (Zb HB1) h0;cases Jj r sp lk t0 t1 ag rs ss al sh by_ with
  | true=>exact Ln w1
  | false=>exact Lo 2 w1 hE1
 have HF:=Ze hf;clear hb1 hf;go_wp2_with fail
 refine(Zb HF).mono ?_;rintro e w2 ⟨rfl,hb2⟩;have HB2:=Ze ((Zb HB1).trans (hb2.mono (by omega)));have HR2:=Ze ((hb2.block (w.heap.size+1) (by omega)).trans (Zb HR));clear hb2;obtain⟨fv,f1,f2,f3⟩:=Zgu (Zwa (Jj r sp lk t0 t1 ag rs ss al sh by_)) (-1) (-1) (-1);have HF1:=Ze f1;rw [← f1];clear f1;go_wp2_with (refine wpList_store_row rfl 29 (.tmp 2) (.tmp 5) rfl (w.heap.size+1) fv rfl rfl 29 _ (Zb HR2) (Tryz.infFlt.trans (congrArg some f2.symm)) f2.symm f3 ?_)
 refine bodyPost_ret (results_cell_row (fn:=Tryz.f18) (p:=2) (ty:=29) rfl _ _ (w.heap.size+1) 29 fv (0,0) _ rfl (setRow_heap _ _ _ _ _ _ (Zb HR2)) Tryz.underlying29 rfl (Tryz.infFlt.trans (congrArg some f2.symm))) rfl ?_;exact⟨by rw [Zb HF1],below_setRow (Zb HB2) (by omega) _⟩
theorem Zrp (kk:Nat)(hk:kk<2)(w:World)(hU:U8 w)(hI:Ck w)(hE:Zz w):Calls Tryz.prog 15 #[.int .i64 kk] w fun e w'=>Below w.heap.size w w'∧∃ v4 v5 v6,e=.returned (.tuple #[.agg ((td kk).box v4 v5 v6),Dt 0 (-1) (-1) (-1)])∧w'.ownsRow w.heap.size 3 1 v4 (td kk).l4.length (Yz (td kk).l4)∧w'.ownsRow w.heap.size 3 1 v5 (td kk).l5.length (Yz (td kk).l5)∧w'.ownsRow w.heap.size 3 1 v6 (td kk).l6.length (Yz (td kk).l6)∧Zaa v4 v5 v6:=by
 match kk,hk with
 | 0,_=>obtain⟨S,hS,hv,hp⟩:=Znh Zwc;refine(Zdh 0 (some S) (Or.inl ⟨rfl,S,rfl,hS⟩) w hU hI hE).mono ?_;rintro e w' ⟨hb,arr,fv,rfl,⟨v4,v5,v6,h1,h2,h3,h4,h5⟩,hf⟩;rw [hv 4 (by omega)] at h2;rw [hv 5 (by omega)] at h3;rw [hv 6 (by omega)] at h4;refine⟨hb,v4,v5,v6,?_,h2,h3,h4,h5⟩;rw [h1,hf];unfold Zdz;rw [hv 0 (by omega),hv 1 (by omega),hv 2 (by omega),hv 3 (by omega),hv 7 (by omega),hv 8 (by omega),hv 9 (by omega),hp];rfl
 | 1,_=>obtain⟨S,hS,hv,hp⟩:=Znh Zwd;refine(Zdh 1 (some S) (Or.inr (Or.inl ⟨rfl,S,rfl,hS⟩)) w hU hI hE).mono ?_;rintro e w' ⟨hb,arr,fv,rfl,⟨v4,v5,v6,h1,h2,h3,h4,h5⟩,hf⟩;rw [hv 4 (by omega)] at h2;rw [hv 5 (by omega)] at h3;rw [hv 6 (by omega)] at h4;refine⟨hb,v4,v5,v6,?_,h2,h3,h4,h5⟩;rw [h1,hf];unfold Zdz;rw [hv 0 (by omega),hv 1 (by omega),hv 2 (by omega),hv 3 (by omega),hv 7 (by omega),hv 8 (by omega),hv 9 (by omega),hp];rfl
theorem Rs.slice {w:World}{v:Value}{ns:List Int}(h:Rs w v ns):∃ a n p,v=.slice a n p:=by obtain⟨p,cap,e⟩:=h.shape;exact⟨_,_,_,e⟩
theorem Ob {w:World}{B n:Nat}{v:Value}{xs:List Value}(h:w.ownsRow B 3 1 v n xs):∃ a k p,v=.slice a k p:=by
 rcases h.2 with⟨e,_⟩ | ⟨g,cap,cur,e,-⟩
 ·exact⟨_,_,_,e⟩
 ·exact⟨_,_,_,e⟩
theorem Np (w:World)(X Y:Obj):((w.alloc X).alloc Y).heap[w.heap.size]?=some X∧((w.alloc X).alloc Y).heap[w.heap.size+1]?=some Y∧Below w.heap.size w ((w.alloc X).alloc Y)∧((w.alloc X).alloc Y).heap.size=w.heap.size+2 :=
 ⟨(Gi _ _ _ (by simp)).trans (heap_alloc_new w _),heap_alloc2_new w _ _,((Below.refl w.heap.size w).alloc (Nat.le_refl _) _).alloc (by simp) _,by simp⟩
end Go.Proofs.YtkenknfgeoecbaaGreatDoor
namespace Go.Proofs.YtkenknfgeoecbaaGreatDoor
open Go.ChangeShapes Go.WideShapes Go.ChangeAt Go.RowKit
set_option maxRecDepth 100000
theorem Tryz.gItemsQ : Tryz.prog.globalNamed "prologue/table.items" = some 1 := by kernel_rfl
theorem Tryz.gItemsTQ:(Tryz.prog.globals[1]?).map (·.type)=some 244:=by kernel_rfl
theorem Tryz.cellsItemQ:Tryz.prog.cellsOf 243=5:=by kernel_rfl
theorem Tryz.cellsStrQ:Tryz.prog.cellsOf 9=1:=by kernel_rfl
theorem Tryz.cellsBoolQ:Tryz.prog.cellsOf 4=1:=by kernel_rfl
theorem Tryz.cellsIntQ:Tryz.prog.cellsOf 3=1:=by kernel_rfl
theorem Xa {α:Type}{tr:TypeId->List Value->Option α}{fs:Array Field}{cs:List Value}{xs:List α}{c:Nat}{i:Nat}{f:Field}{y:α}
 (hf:∀(i:Nat) (f:Field),fs[i]?=some f->tr f.type ((cs.drop f.offset).take (Tryz.prog.cellsOf f.type))=xs[i]?) (hi:fs[i]?=some f) (hc:Tryz.prog.cellsOf f.type=c) (hy:xs[i]?=some y):tr f.type ((cs.drop f.offset).take c)=some y:=by
 rw [← hy,← hf i f hi,hc]
theorem Ydy {α:Type}{l:List α}(h:l.length=5):∃ a0 a1 a2 a3 a4,l=[a0,a1,a2,a3,a4]:=by
 match l,h with
 | [a0,a1,a2,a3,a4],_=>exact⟨_,_,_,_,_,rfl⟩
theorem Zne (k:Nat)(hk:k<11):∃ l:List (DataW Unit),(Rows.laid_prologue_table_items:DataW Unit)=.agg l∧l[k]?=some (.agg [.lit (.string (nm k)),.lit (.int .i64 (loK k)),.lit (.int .i64 (hiK k)),.lit (.bool (decide (k=2))),.lit (.bool (decide (k=10)))]):=by
 refine⟨_,rfl,?_⟩;match k,hk with
 | 0,_ | 1,_ | 2,_ | 3,_ | 4,_ | 5,_ | 6,_ | 7,_ | 8,_ | 9,_ | 10,_=>rfl
theorem Zgv {W : World} (h : Lib.VarReads Tryz.prog W "prologue/table.items" Rows.laid_prologue_table_items) : Ck W := by
 obtain⟨g,t,cs,fuel,p,hg,ht,hv,hd⟩:=h;obtain rfl:=Option.some.inj (Tryz.gItemsQ.symm.trans hg);obtain rfl:=Option.some.inj (Tryz.gItemsTQ.symm.trans ht);obtain⟨xs,m,-,hx,hl,hxl,hall⟩:=DataW.trod_array Tryz.underlying244 hd;have key:∀ k,k<11->W.cell? ⟨1,k*5,none⟩=some (.string ⟨(nm k).toArray⟩)∧W.cell? ⟨1,k*5+1,none⟩=some (.int .i64 (loK k))∧W.cell? ⟨1,k*5+2,none⟩=some (.int .i64 (hiK k))∧W.cell? ⟨1,k*5+3,none⟩=some (.bool (decide (k=2)))∧W.cell? ⟨1,k*5+4,none⟩=some (.bool (decide (k=10))):=by
  intro k hk;obtain⟨l,hl1,hl2⟩:=Zne k hk;rw [hl1] at hx;have hx1:l=xs.map (·.1):=by simpa using congrArg Prod.fst hx
  rw [hx1,List.getElem?_map,Option.map_eq_some_iff] at hl2;obtain⟨⟨y,py⟩,hy,rfl⟩:=hl2;have h1:=(hall k hk).trans hy;rw [Tryz.cellsItemQ] at h1;obtain⟨ys,n,-,hz,-,hyl,hf⟩:=DataW.trod_struct Tryz.underlying243 h1;obtain⟨y0,y1,y2,y3,y4,rfl⟩:=Ydy hyl;have hz1:[.lit (.string (nm k)),.lit (.int .i64 (loK k)),.lit (.int .i64 (hiK k)),.lit (.bool (decide (k=2))),.lit (.bool (decide (k=10)))]=[y0,y1,y2,y3,y4].map (·.1):=by simpa using congrArg Prod.fst hz
  simp only [List.map_cons,List.map_nil,List.cons.injEq,and_true] at hz1;obtain⟨e0,e1,e2,e3,e4⟩:=hz1;have f0:DataW.trod (fun _=>()) Tryz.prog W 0 (fun _=>true) false n 9 ((((cs.toList.drop (k*5)).take 5).drop 0).take 1)=some y0:=Xa hf (i:=0) rfl Tryz.cellsStrQ rfl;have f1:DataW.trod (fun _=>()) Tryz.prog W 0 (fun _=>true) false n 3 ((((cs.toList.drop (k*5)).take 5).drop 1).take 1)=some y1:=Xa hf (i:=1) rfl Tryz.cellsIntQ rfl;have f2:DataW.trod (fun _=>()) Tryz.prog W 0 (fun _=>true) false n 3 ((((cs.toList.drop (k*5)).take 5).drop 2).take 1)=some y2:=Xa hf (i:=2) rfl Tryz.cellsIntQ rfl;have f3:DataW.trod (fun _=>()) Tryz.prog W 0 (fun _=>true) false n 4 ((((cs.toList.drop (k*5)).take 5).drop 3).take 1)=some y3:=Xa hf (i:=3) rfl Tryz.cellsBoolQ rfl;have f4:DataW.trod (fun _=>()) Tryz.prog W 0 (fun _=>true) false n 4 ((((cs.toList.drop (k*5)).take 5).drop 4).take 1)=some y4:=Xa hf (i:=4) rfl Tryz.cellsBoolQ rfl;clear hf hz;obtain⟨s,c0,x0,-⟩:=DataW.trod_string Tryz.underlying9 f0;obtain⟨n1,c1,x1,-⟩:=DataW.trod_int Tryz.underlying3 f1;obtain⟨n2,c2,x2,-⟩:=DataW.trod_int Tryz.underlying3 f2;obtain⟨b3,c3,x3⟩:=DataW.trod_bool Tryz.underlying4 f3;obtain⟨b4,c4,x4⟩:=DataW.trod_bool Tryz.underlying4 f4;subst x0 x1 x2 x3 x4;have hs:s=⟨(nm k).toArray⟩:=by simp only [DataW.lit.injEq,Lit.string.injEq] at e0;obtain⟨⟨sl⟩⟩:=s;simp at e0;rw [e0]
  have h1':n1=(loK k:Int):=by simpa using e1.symm
  have h2':n2=(hiK k:Int):=by simpa using e2.symm
  have h3':b3=decide (k=2):=by simpa using e3.symm
  have h4':b4=decide (k=10):=by simpa using e4.symm
  subst hs;rw [h1'] at c1;rw [h2'] at c2;rw [h3'] at c3;rw [h4'] at c4;have g0:=congrArg (·[0]?) c0;have g1:=congrArg (·[0]?) c1;have g2:=congrArg (·[0]?) c2;have g3:=congrArg (·[0]?) c3;have g4:=congrArg (·[0]?) c4;simp [List.getElem?_drop] at g0 g1 g2 g3 g4;refine⟨?_,?_,?_,?_,?_⟩
  ·rw [World.var?_cell Tryz.gItemsQ hv (k*5)]; exact g0
  ·rw [World.var?_cell Tryz.gItemsQ hv (k*5+1)]; exact g1
  ·rw [World.var?_cell Tryz.gItemsQ hv (k*5+2)]; exact g2
  ·rw [World.var?_cell Tryz.gItemsQ hv (k*5+3)]; exact g3
  ·rw [World.var?_cell Tryz.gItemsQ hv (k*5+4)]; exact g4
 exact⟨fun k hk=>⟨(key k hk).1,(key k hk).2.2.2.1⟩,fun k hk=>(key k hk).2.1,fun k hk=>(key k hk).2.2.1,fun k hk=>(key k hk).2.2.2.2⟩
theorem Tryz.u8X:U8Extra Tryz.prog Tryz.lays260_ren:=by constructor <;> kernel_rfl
theorem Ydz:Rows.laid_unicode_utf8_first=Lib.firstData:=by kernel_rfl
theorem Yai:(Rows.laid_unicode_utf8_acceptRanges:DataW Unit)=Lib.acceptData:=by kernel_rfl
theorem Yaj {α:Type}{l:List α}(h:l.length=12):∃ a0 a1 a2 a3 a4 a5 a6 a7 a8 a9 a10 a11,l=[a0,a1,a2,a3,a4,a5,a6,a7,a8,a9,a10,a11]:=by
 match l,h with
 | [a0,a1,a2,a3,a4,a5,a6,a7,a8,a9,a10,a11],_=>exact⟨_,_,_,_,_,_,_,_,_,_,_,_,rfl⟩
theorem Yak {α:Type}{l:List α}(h:l.length=11):∃ a0 a1 a2 a3 a4 a5 a6 a7 a8 a9 a10,l=[a0,a1,a2,a3,a4,a5,a6,a7,a8,a9,a10]:=by
 match l,h with
 | [a0,a1,a2,a3,a4,a5,a6,a7,a8,a9,a10],_=>exact⟨_,_,_,_,_,_,_,_,_,_,_,rfl⟩
theorem Yea {α:Type}{l:List α}(h:l.length=2):∃ a0 a1,l=[a0,a1]:=by
 match l,h with
 | [a0,a1],_=>exact⟨_,_,rfl⟩
theorem Tryz.cells2iQ:Tryz.prog.cellsOf 22=2:=by kernel_rfl
theorem Tryz.cellsIntsQ:Tryz.prog.cellsOf 23=1:=by kernel_rfl
section
variable {H:Type} {enc:TypeId×Value->H} {w:World} {fuel:Nat} {held:Bool}
theorem Lv {v:Value}{y:DataW H×List MemPlace}(h:DataW.trod enc Tryz.prog w 0 (fun _=>true) held fuel 3 [v]=some y):∃ n:Int,v=.int .i64 n:=by obtain⟨n,e,-,hw⟩:=DataW.trod_int Tryz.underlying3 h;exact⟨n,List.head_eq_of_cons_eq e⟩
theorem Zrs {v0 v1:Value}{y:DataW H×List MemPlace}(h:DataW.trod enc Tryz.prog w 0 (fun _=>true) held fuel 22 [v0,v1]=some y):∃ n m:Int,v0=.int .i64 n∧v1=.int .i64 m:=by
 obtain⟨xs,m,-,-,-,hxl,hall⟩:=DataW.trod_array Tryz.underlying22 h;obtain⟨x0,x1,rfl⟩:=Yea hxl;have h0:DataW.trod enc Tryz.prog w 0 (fun _=>true) held m 3 [v0]=some x0:=by have:=hall 0 (by decide);rw [Tryz.cellsIntQ] at this;exact this
 have h1:DataW.trod enc Tryz.prog w 0 (fun _=>true) held m 3 [v1]=some x1:=by have:=hall 1 (by decide);rw [Tryz.cellsIntQ] at this;exact this
 obtain⟨n,e0⟩:=Lv h0;obtain⟨k,e1⟩:=Lv h1;exact⟨n,k,e0,e1⟩
end
end Go.Proofs.YtkenknfgeoecbaaGreatDoor
