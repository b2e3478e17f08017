import Derived.Test.YtnlcfnjeagmemaaGreatDoorJ3
import Derived.Test.YtnlcfnjeagmemaaGreatDoorJ11
import Derived.Test.YtnlcfnjeagmemaaGreatDoorJ10
import Derived.Test.YtnlcfnjeagmemaaGreatDoorJ4
import Derived.Deep.QuietTactic
import Derived.BigQuiet
import Derived.OrdersHeld
import Derived.Test.YtnlcfnjeagmemaaGreatDoorJ31
import Derived.Test.YtnlcfnjeagmemaaGreatDoorJ13
namespace Go.Proofs.YtnlcfnjeagmemaaGreatDoor
open Go.RowKit
set_option maxHeartbeats 2000000
set_option maxRecDepth 100000
structure Xn where
 T:Zm
 cs:Value
 cf:Value
 ce:Value
 D:Nat→Value
 be:Value
 nu:Value
 f:Int
 bk:Int
 at_:Int
 R:Nat→Int
 stk:Value
 oa:Value
 or_:Value
 os:Int
 oc:Int
 Z:Nat→Int
 oth:Value
 scr:Value
 kind:Int
 vv:Value
 code:Int
 tv:Value
 steps:Int
 pk:Int
def Xn.row (m:Xn):Array Value:=#[.int .i64 m.T.r,.int .i64 m.T.sp,.int .i64 m.T.lk,.int .i64 m.T.t0,.int .i64 m.T.t1,.slice m.T.pa m.T.ag.length m.T.ca,.slice m.T.pr m.T.rs.length m.T.cr,.slice m.T.ps m.T.ss.length m.T.cs,.int .i64 m.T.al,.int .i64 m.T.sh,.int .i64 m.T.br,.bool m.T.pairs,m.cs,m.cf,m.ce,m.D 0,m.D 1,m.D 2,m.D 3,m.D 4,m.D 5,m.D 6,m.D 7,m.D 8,m.D 9,m.D 10,m.D 11,m.D 12,m.D 13,m.D 14,m.D 15,m.D 16,m.D 17,m.D 18,m.D 19,m.D 20,m.D 21,m.be,m.nu,.int .i64 m.f,.int .i64 m.bk,.int .i64 m.at_,.int .u64 (m.R 0),.int .u64 (m.R 1),.int .u64 (m.R 2),.int .u64 (m.R 3),.int .u64 (m.R 4),.int .u64 (m.R 5),.int .u64 (m.R 6),.int .u64 (m.R 7),.int .u64 (m.R 8),.int .u64 (m.R 9),.int .u64 (m.R 10),.int .u64 (m.R 11),.int .u64 (m.R 12),.int .u64 (m.R 13),.int .u64 (m.R 14),.int .u64 (m.R 15),m.stk,m.oa,m.or_,.int .i64 m.os,.int .i64 m.oc,.int .u64 (m.Z 0),.int .u64 (m.Z 1),.int .u64 (m.Z 2),.int .u64 (m.Z 3),.int .u64 (m.Z 4),.int .u64 (m.Z 5),.int .u64 (m.Z 6),.int .u64 (m.Z 7),.int .u64 (m.Z 8),.int .u64 (m.Z 9),.int .u64 (m.Z 10),.int .u64 (m.Z 11),.int .u64 (m.Z 12),.int .u64 (m.Z 13),.int .u64 (m.Z 14),.int .u64 (m.Z 15),m.oth,m.scr,.int .i64 m.kind,m.vv,.int .i64 m.code,m.tv,.int .i64 m.steps,.int .i64 m.pk]
def MI (w:World)(mb:Nat)(m:Xn):Prop:=w.heap[mb]?=some (.cells m.row 143 (0,0))
theorem Js (m:Xn):∀ i,i<16→m.row[42+i]?=some (.int .u64 (m.R i))
 | 0,_=>rfl
 | 1,_=>rfl
 | 2,_=>rfl
 | 3,_=>rfl
 | 4,_=>rfl
 | 5,_=>rfl
 | 6,_=>rfl
 | 7,_=>rfl
 | 8,_=>rfl
 | 9,_=>rfl
 | 10,_=>rfl
 | 11,_=>rfl
 | 12,_=>rfl
 | 13,_=>rfl
 | 14,_=>rfl
 | 15,_=>rfl
 | n+16,h=>absurd h (by omega)
theorem Cj (m:Xn)(v:Int):∀ i,i<16→m.row.setIfInBounds (42+i) (.int .u64 v)={ m with R:=Yy m.R i v }.row
 | 0,_=>rfl
 | 1,_=>rfl
 | 2,_=>rfl
 | 3,_=>rfl
 | 4,_=>rfl
 | 5,_=>rfl
 | 6,_=>rfl
 | 7,_=>rfl
 | 8,_=>rfl
 | 9,_=>rfl
 | 10,_=>rfl
 | 11,_=>rfl
 | 12,_=>rfl
 | 13,_=>rfl
 | 14,_=>rfl
 | 15,_=>rfl
 | n+16,h=>absurd h (by omega)
theorem Ztx (m:Xn)(mb s:Nat)(w:World)(h:MI w mb m)(hs:m.T.sp=(s:Int))(hs16:s<16) :
 Calls Tryz.prog 109 #[.pointer (some ⟨mb,0,none⟩)] w fun e w'=>e=.returned (.int .u64 (m.R s))∧∃ k,w'=w.drewN k:=by
 have c1:w.cell? ⟨mb,1,none⟩=some (.int .i64 (s:Int)):=by rw [← hs]; exact(cR h 1)
 have c2:w.cell? ⟨mb,42+s,none⟩=some (.int .u64 (m.R s)):=(Zd h (42+s)).trans (Js m s hs16);have hs1:(s:Int)<16:=by omega
 clear h hs;go_enter Tryz.func109,Tryz.ntmps109
 go_wp2;go_quiet (fail)
 go_wp2;go_ret;exact⟨rfl,_,rfl⟩
theorem Zut (m:Xn)(mb:Nat)(k:Int)(p:Option Addr)(n c:Nat)(w:World)(h:MI w mb m) :
 Calls Tryz.prog 83 #[.pointer (some ⟨mb,0,none⟩),.int .i64 k,.slice p n c] w fun e w'=>(∃ v,e=.returned v)∧w'=(w.setCell ⟨mb,81,none⟩ (.int .i64 k)).setCell ⟨mb,82,none⟩ (.slice p n c):=by
 have c81:w.cell? ⟨mb,81,none⟩=some (.int .i64 m.kind):=(cR h 81);have c82:w.cell? ⟨mb,82,none⟩=some (m.vv):=(cR h 82);have z1:=frozen_of_row _ _ 81 _ _ h;have z2:=frozen_of_row _ _ 82 _ _ h;clear h;generalize m.vv=vv at c82;go_enter Tryz.func83,Tryz.ntmps83
 go_wp2;go_returns;exact⟨⟨_,rfl⟩,rfl⟩
set_option maxHeartbeats 4000000
set_option maxRecDepth 100000
theorem Yg {w:World}{mb k:Nat}{m m':Xn}{v:Value}(h:MI w mb m)(e:m.row.setIfInBounds k v=m'.row):MI (w.setCell ⟨mb,k,none⟩ v) mb m':=by
 have:=heap_setCell_same _ _ k _ _ v h;rw [e] at this;exact this
theorem Zl (g j:Nat)(w:World)(v:Value):Mc g w (w.setCell ⟨g,j,none⟩ v):=⟨rfl,rfl,rfl,by simp,fun _ hq=>heap_setCell_other _ _ _ _ hq⟩
theorem Zx {g:Nat}{a b c:World}(h:Mc g a b)(k:Mc g b c):Mc g a c:=⟨k.os.trans h.os,k.tape.trans h.tape,k.output.trans h.output,k.size.trans h.size,fun q hq=>(k.oth q hq).trans (h.oth q hq)⟩
theorem Ub (g k:Nat)(w:World):Mc g w (w.drewN k):=⟨rfl,rfl,rfl,rfl,fun _ _=>rfl⟩
theorem Rg (m:Xn)(mb:Nat)(k:Int)(p:Option Addr)(n c:Nat)(w:World)(h:MI w mb m) :
 Calls Tryz.prog 83 #[.pointer (some ⟨mb,0,none⟩),.int .i64 k,.slice p n c] w fun e w'=>(∃ v,e=.returned v)∧MI w' mb { m with kind:=k,vv:=.slice p n c }∧Mc mb w w' :=
 (Zut m mb k p n c w h).mono fun e w' hh=>⟨hh.1,by
  rw [hh.2];exact⟨Yg (m:={ m with kind:=k }) (Yg h rfl) rfl,Zx (Zl _ _ _ _) (Zl _ _ _ _)⟩⟩
theorem Nr (m:Xn)(mb:Nat)(c:Int)(w:World)(h:MI w mb m) :
 Calls Tryz.prog 108 #[.pointer (some ⟨mb,0,none⟩),.int .i64 c] w fun e w'=>(∃ v,e=.returned v)∧MI w' mb { m with kind:=5,vv:=.slice none 0 0,code:=c }∧Mc mb w w':=by
 have HE:=Y (Rg m mb 5 none 0 0 w h);clear h;go_enter Tryz.func108,Tryz.ntmps108
 go_wp2_with fail
 refine(O HE).mono ?_;rintro e w1 ⟨⟨v1,rfl⟩,h1,o1⟩;have c83:w1.cell? ⟨mb,83,none⟩=some (.int .i64 m.code):=(cR h1 83);have z1:=frozen_of_row _ _ 83 _ _ h1;have HM:=Y (Yg (v:=.int .i64 c) (k:=83) (m':={ m with kind:=5,vv:=.slice none 0 0,code:=c }) h1 rfl);have HO:=Y (Zx o1 (Zl mb 83 w1 (.int .i64 c)));clear h1 o1 HE;go_wp2;go_returns;exact⟨⟨_,rfl⟩,O HM,O HO⟩
def spC (m:Xn)(s L:Nat)(v:Int):Xn×Bool:=if wrap64 v<0 then ({ m with kind:=4,vv:=.slice none 0 0 },false) else if (L:Int)<wrap64 v then ({ m with kind:=5,vv:=.slice none 0 0,code:=2 },false) else ({ m with R:=Yy m.R s v,pk:=max m.pk (L-wrap64 v) },true)
theorem Zeu (m:Xn)(mb s L cc:Nat)(p:Option Addr)(v:Int)(w:World)(h:MI w mb m)(hs:m.T.sp=(s:Int))(hs16:s<16)(hst:m.stk=.slice p L cc)(hL:L≤1048576) :
 Calls Tryz.prog 77 #[.pointer (some ⟨mb,0,none⟩),.int .u64 v] w fun e w'=>e=.returned (.bool (spC m s L v).2)∧MI w' mb (spC m s L v).1∧Mc mb w w':=by
 have c58:w.cell? ⟨mb,58,none⟩=some (.slice p L cc):=by rw [← hst]; exact(cR h 58)
 have hL1:L<9223372036854775808:=by omega
 have HI:=Y h;have HS:=Y hs;clear h hs hst;by_cases h0:wrap64 v<0
 ·
  have HQ:=Y (show spC m s L v=({ m with kind:=4,vv:=.slice none 0 0 },false) by unfold spC; rw [if_pos h0]);go_enter Tryz.func77,Tryz.ntmps77
  go_wp2;go_quiet (fail)
  go_wp2_with fail
  refine(Rg m mb 4 none 0 0 (w.drewN nq) (O HI)).mono ?_;rintro e w1 ⟨⟨v1,rfl⟩,h1,o1⟩;have HM:=Y h1;have HO:=Y (Zx (Ub mb nq w) o1);clear h1 o1;go_wp2;go_ret;rw [O HQ];exact⟨rfl,O HM,O HO⟩
 ·
  by_cases h1:(L:Int)<wrap64 v
  ·
   have HQ:=Y (show spC m s L v=({ m with kind:=5,vv:=.slice none 0 0,code:=2 },false) by unfold spC; rw [if_neg h0,if_pos h1]);go_enter Tryz.func77,Tryz.ntmps77
   go_wp2;go_quiet (fail)
   go_wp2_with fail
   refine(Nr m mb 2 (w.drewN nq) (O HI)).mono ?_;rintro e w1 ⟨⟨v1,rfl⟩,h1,o1⟩;have HM:=Y h1;have HO:=Y (Zx (Ub mb nq w) o1);clear h1 o1;go_wp2;go_ret;rw [O HQ];exact⟨rfl,O HM,O HO⟩
  ·
   have HQ:=Y (show spC m s L v=({ m with R:=Yy m.R s v,pk:=max m.pk (L-wrap64 v) },true) by unfold spC; rw [if_neg h0,if_neg h1]);have HC0:=Y (show w.cell? ⟨mb,1,none⟩=some (.int .i64 (s:Int)) by rw [← O HS]; exact(cR (O HI) 1));have hs1:(s:Int)<16:=by omega
   have r1:w.cell? ⟨mb,42+s,none⟩=some (.int .u64 (m.R s)):=(Zd (O HI) (42+s)).trans (Js m s hs16);have z1:=frozen_of_row _ _ (42+s) _ _ (O HI);go_enter Tryz.func77,Tryz.ntmps77
   go_wp2;go_quiet (fail)
   go_upto_region 8 with fail
   clear c58;have HM1:=Y (Yg (w:=w.drewN (nq+1)) (O HI) (Cj m v s hs16));have HO1:=Y (Zx (Ub mb (nq+1) w) (Zl mb (42+s) (w.drewN (nq+1)) (.int .u64 v)));refine wp_region_held_drew (S:=fun V=>V.cell? ⟨mb,1,none⟩=some (.int .i64 (s:Int))) (by kernel_rfl) (O HC0) (fun hHeld=>?_);refine tT 0 ?_;refine tT 1 ?_;refine tT 2 ?_;refine tT 3 ?_;refine tT 4 ?_;refine tT 5 ?_;refine tT 6 ?_;refine tT 7 ?_;refine tT 8 ?_;refine tT 9 ?_;refine tO 10 fun K hK=>?_;go_simp;refine kO hK (show _ from(Zd (O HM1) 1).trans (by rw [← O HS]; rfl)) (fun hHeld2=>?_);clear hK K;refine wpAnyH_done (by kernel_rfl) ?_ _;clear r1 z1;generalize World.setCell _ _ _=U at HM1 HO1 ⊢;have p1:U.cell? ⟨mb,86,none⟩=some (.int .i64 m.pk):=(cR (O HM1) 86);have z2:=frozen_of_row _ _ 86 _ _ (O HM1);have hw2:wrap64 ((L:Int)-wrap64 v)=L-wrap64 v:=by
    unfold wrap64 at h0 h1 ⊢;omega
   have HM2:=Y (Yg (v:=.int .i64 (max m.pk (L-wrap64 v))) (k:=86) (m':={ m with R:=Yy m.R s v,pk:=max m.pk (L-wrap64 v) }) (O HM1) rfl);have HO2:=Y (Zx (O HO1) (Zl mb 86 U (.int .i64 (max m.pk (L-wrap64 v)))));go_wp2;go_ret;rw [O HQ];exact⟨rfl,O HM2,O HO2⟩
def Zhr (m:Xn)(s L r:Nat)(v:Int):Xn×Bool:=if r=s then spC m s L v else ({ m with R:=Yy m.R r v },true)
theorem Zvf (m:Xn)(mb s L cc r:Nat)(p:Option Addr)(v:Int)(w:World)(h:MI w mb m)(hs:m.T.sp=(s:Int))(hs16:s<16)(hr:r<16)(hst:m.stk=.slice p L cc)(hL:L≤1048576) :
 Calls Tryz.prog 112 #[.pointer (some ⟨mb,0,none⟩),.int .i64 (r:Int),.int .u64 v] w fun e w'=>e=.returned (.bool (Zhr m s L r v).2)∧MI w' mb (Zhr m s L r v).1∧Mc mb w w':=by
 have c1:w.cell? ⟨mb,1,none⟩=some (.int .i64 (s:Int)):=by rw [← hs]; exact(cR h 1)
 have hr1:(r:Int)<16:=by omega
 by_cases hrs:r=s
 ·
  have HQ:=Y (show Zhr m s L r v=spC m s L v by unfold Zhr; rw [if_pos hrs]);have HS:=Y (Zeu m mb s L cc p v w h hs hs16 hst hL);have hb:((r:Int)==(s:Int))=true:=by rw [hrs]; simp
  clear h hs hst hrs;go_enter Tryz.func112,Tryz.ntmps112
  go_wp2_with fail
  refine(O HS).mono ?_;rintro e w1 ⟨rfl,h1⟩;have H1:=Y h1;clear h1;go_wp2;go_ret;rw [O HQ];exact⟨rfl,O H1⟩
 ·
  have HQ:=Y (show Zhr m s L r v=({ m with R:=Yy m.R r v },true) by unfold Zhr; rw [if_neg hrs]);have hb:((r:Int)==(s:Int))=false:=by simp; omega
  have r1:w.cell? ⟨mb,42+r,none⟩=some (.int .u64 (m.R r)):=(Zd h (42+r)).trans (Js m r hr);have z1:=frozen_of_row _ _ (42+r) _ _ h;have HM:=Y (Yg h (Cj m v r hr));clear h hs hst hrs;go_enter Tryz.func112,Tryz.ntmps112
  go_wp2;go_ret;rw [O HQ];exact⟨rfl,O HM,Zl _ _ _ _⟩
set_option maxHeartbeats 4000000
set_option maxRecDepth 100000
def Le (m:Xn)(L:Nat)(a k:Int):Xn×Bool:=if Cb k=false then ({ m with kind:=5,vv:=.slice none 0 0,code:=2 },false) else if wrap64 a<0 then ({ m with kind:=4,vv:=.slice none 0 0 },false) else if (L:Int)-k<wrap64 a then ({ m with kind:=5,vv:=.slice none 0 0,code:=2 },false) else (m,true)
theorem Zvg (g:Nat)(w:World):Mc g w w:=⟨rfl,rfl,rfl,rfl,fun _ _=>rfl⟩
theorem Il (m:Xn)(mb L cc:Nat)(p:Option Addr)(a k:Int)(w:World)(h:MI w mb m)(hst:m.stk=.slice p L cc)(hL:L≤65536) :
 Calls Tryz.prog 129 #[.pointer (some ⟨mb,0,none⟩),.int .u64 a,.int .i64 k] w fun e w'=>e=.returned (.bool (Le m L a k).2)∧MI w' mb (Le m L a k).1∧Mc mb w w'∧((Le m L a k).2=true→w'=w):=by
 have c58:w.cell? ⟨mb,58,none⟩=some (.slice p L cc):=by rw [← hst]; exact(cR h 58)
 have hL1:L<9223372036854775808:=by omega
 have HI:=Y h;clear h hst;cases hw:Cb k with
 | false =>
  have HQ:=Y (show Le m L a k=({ m with kind:=5,vv:=.slice none 0 0,code:=2 },false) by unfold Le; rw [if_pos hw]);go_enter Tryz.func129,Tryz.ntmps129
  go_wp2_with fail
  refine(Nv k _).mono ?_;rintro e w1 ⟨rfl,hw1⟩;subst w1;rw [hw];clear hw;go_wp2_with fail
  refine(Nr m mb 2 w (O HI)).mono ?_;rintro e w1 ⟨⟨v1,rfl⟩,h1,o1⟩;have HM:=Y h1;have HO:=Y o1;clear h1 o1;go_wp2;go_ret;rw [O HQ];exact⟨rfl,O HM,O HO,fun h=>by cases h⟩
 | true =>
  have hk:0<k∧k≤8:=by unfold Cb at hw; simp at hw; omega
  by_cases h0:wrap64 a<0
  ·
   have HQ:=Y (show Le m L a k=({ m with kind:=4,vv:=.slice none 0 0 },false) by unfold Le; rw [if_neg (by rw [hw]; decide),if_pos h0]);go_enter Tryz.func129,Tryz.ntmps129
   go_wp2_with fail
   refine(Nv k _).mono ?_;rintro e w1 ⟨rfl,hw1⟩;subst w1;rw [hw];clear hw;go_wp2_with fail
   refine(Rg m mb 4 none 0 0 w (O HI)).mono ?_;rintro e w1 ⟨⟨v1,rfl⟩,h1,o1⟩;have HM:=Y h1;have HO:=Y o1;clear h1 o1;go_wp2;go_ret;rw [O HQ];exact⟨rfl,O HM,O HO,fun h=>by cases h⟩
  ·
   have hw2:wrap64 ((L:Int)-k)=L-k:=by
    unfold wrap64;omega
   by_cases h1:(L:Int)-k<wrap64 a
   ·
    have HQ:=Y (show Le m L a k=({ m with kind:=5,vv:=.slice none 0 0,code:=2 },false) by unfold Le; rw [if_neg (by rw [hw]; decide),if_neg h0,if_pos h1]);go_enter Tryz.func129,Tryz.ntmps129
    go_wp2_with fail
    refine(Nv k _).mono ?_;rintro e w1 ⟨rfl,hw1⟩;subst w1;rw [hw];clear hw;go_wp2_with fail
    refine(Nr m mb 2 w (O HI)).mono ?_;rintro e w1 ⟨⟨v1,rfl⟩,h1,o1⟩;have HM:=Y h1;have HO:=Y o1;clear h1 o1;go_wp2;go_ret;rw [O HQ];exact⟨rfl,O HM,O HO,fun h=>by cases h⟩
   ·
    have HQ:=Y (show Le m L a k=(m,true) by unfold Le; rw [if_neg (by rw [hw]; decide),if_neg h0,if_neg h1]);go_enter Tryz.func129,Tryz.ntmps129
    go_wp2_with fail
    refine(Nv k _).mono ?_;rintro e w1 ⟨rfl,hw1⟩;subst w1;rw [hw];clear hw;go_wp2;go_ret;rw [O HQ];exact⟨rfl,O HI,Zvg _ _,fun _=>rfl⟩
set_option maxHeartbeats 4000000
set_option maxRecDepth 100000
theorem Zhs (w:World)(d a:Nat)(v:Int):∀ k,(stw w d a v k).os=w.os∧(stw w d a v k).tape=w.tape∧(stw w d a v k).output=w.output
 | 0=>⟨rfl,rfl,rfl⟩
 | k+1=>Zhs w d a v k
theorem Zxv {bs:List Int}(h:∀ n ∈ bs,0≤n∧n<256)(a k:Nat)(v:Int):∀ n ∈ stB bs a k v,0≤n∧n<256:=fun n hn=>by
 unfold stB at hn;obtain⟨i,-,rfl⟩:=List.mem_map.1 hn;unfold upd;split
 ·
  unfold byt; omega
 ·
  exact Rw h i
structure MM (w:World)(mb sb:Nat)(m:Xn)(bs:List Int):Prop where
 mi:MI w mb m
 mem:w.heap[sb]?=some (.cells (yC bs).toArray 5 (0,0))
 stk:m.stk=.slice (some ⟨sb,0,none⟩) bs.length bs.length
 len:bs.length≤65536
 byt:∀ n ∈ bs,0≤n∧n<256
theorem MM.ne {w:World}{mb sb:Nat}{m:Xn}{bs:List Int}(h:MM w mb sb m bs):sb≠mb:=fun e=>by
 have h1:=h.mem;rw [e,h.mi] at h1;injection h1 with h1;injection h1 with _ h1 _;exact absurd h1 (by decide)
structure Two (a b:Nat)(w w':World):Prop where
 os:w'.os=w.os
 tape:w'.tape=w.tape
 output:w'.output=w.output
 size:w'.heap.size=w.heap.size
 oth:∀ q:Nat,q≠a→q≠b→w'.heap[q]?=w.heap[q]?
theorem Mc.two {a b:Nat}{w w':World}(h:Mc a w w'):Two a b w w':=⟨h.os,h.tape,h.output,h.size,fun q h1 _=>h.oth q h1⟩
theorem MM.one {w w':World}{mb sb:Nat}{m m':Xn}{bs:List Int}(h:MM w mb sb m bs)(hm:MI w' mb m')(ho:Mc mb w w')(hs:m'.stk=m.stk):MM w' mb sb m' bs:=⟨hm,(ho.oth sb h.ne).trans h.mem,hs.trans h.stk,h.len,h.byt⟩
theorem Zjj (m:Xn)(L:Nat)(a k:Int):(Le m L a k).1.stk=m.stk:=by
 unfold Le;split
 ·
  rfl
 ·
  split
  ·
   rfl
  ·
   split <;> rfl
theorem Zoa {m:Xn}{L:Nat}{a k:Int}(h:(Le m L a k).2=true):(Le m L a k).1=m∧Cb k=true∧∃ a' k':Nat,wrap64 a=a'∧k=k'∧a'+k'≤L:=by
 unfold Le at h ⊢;split at h
 ·
  cases h
 ·
  rename_i hw;split at h
  ·
   cases h
  ·
   rename_i h0;split at h
   ·
    cases h
   ·
    rename_i h1;have hw':Cb k=true:=by simpa using hw
    have hk:=(Ry k).1 hw';rw [if_neg hw,if_neg h0,if_neg h1];exact⟨rfl,hw',(wrap64 a).toNat,k.toNat,by omega,by omega,by omega⟩
def ldC (m:Xn)(bs:List Int)(a k:Int):Xn×Option Int:=if (Le m bs.length a k).2=true then (m,some (ldB bs (wrap64 a).toNat k.toNat)) else ((Le m bs.length a k).1,none)
def Ly (o:Option Int):Value:=.tuple #[.int .u64 (o.getD 0),.bool o.isSome]
theorem Zrs (m:Xn)(mb sb:Nat)(bs:List Int)(a k:Int)(w:World)(h:MM w mb sb m bs) :
 Calls Tryz.prog 133 #[.pointer (some ⟨mb,0,none⟩),.int .u64 a,.int .i64 k] w fun e w'=>e=.returned (Ly (ldC m bs a k).2)∧MM w' mb sb (ldC m bs a k).1 bs∧Mc mb w w':=by
 have HR:=Y (Il m mb bs.length bs.length (some ⟨sb,0,none⟩) a k w h.mi h.stk h.len);have HI:=Y h;have hst:=h.stk;clear h;cases hr:(Le m bs.length a k).2 with
 | false =>
  have HQ:=Y (show ldC m bs a k=((Le m bs.length a k).1,none) by unfold ldC; rw [if_neg (by rw [hr]; decide)]);go_enter Tryz.func133,Tryz.ntmps133
  go_wp2_with fail
  refine(O HR).mono ?_;rintro e w1 ⟨rfl,h1,o1,-⟩;have HM:=Y ((O HI).one h1 o1 (Zjj _ _ _ _));have HO:=Y o1;rw [hr];clear h1 o1 hr;go_wp2;go_ret2;rw [O HQ];exact⟨rfl,O HM,O HO⟩
 | true =>
  obtain⟨e1,hw,a',k',ea,ek,hak⟩:=Zoa hr;subst ek;have HQ:=Y (show ldC m bs a k'=(m,some (ldB bs a' k')) by unfold ldC; rw [if_pos hr,ea]; rfl);have HL:=Y (Zrz bs sb a' k' w (O HI).mem (O HI).byt hw hak (O HI).len);have c58:w.cell? ⟨mb,58,none⟩=some (.slice (some ⟨sb,0,none⟩) bs.length bs.length):=by rw [← hst]; exact(cR (O HI).mi 58)
  go_enter Tryz.func133,Tryz.ntmps133
  go_wp2_with fail
  refine(O HR).mono ?_;rintro e w1 ⟨rfl,-,-,h1⟩;obtain rfl:=h1 hr;rw [hr];clear h1 hr hst e1 hw;go_wp2_with fail
  rw [ea];refine(O HL).mono ?_;rintro e w2 ⟨rfl,hw2⟩;subst w2;clear c58;go_wp2;go_quiet (fail)
  go_wp2;go_ret2;rw [O HQ];exact⟨rfl,(O HI).one (O HI).mi (Ub _ _ _) rfl,Ub _ _ _⟩
def stC (m:Xn)(bs:List Int)(a k v:Int):Xn×List Int×Bool:=if (Le m bs.length a k).2=true then (m,stB bs (wrap64 a).toNat k.toNat v,true) else ((Le m bs.length a k).1,bs,false)
theorem Zob (m:Xn)(mb sb:Nat)(bs:List Int)(a k v:Int)(w:World)(h:MM w mb sb m bs) :
 Calls Tryz.prog 110 #[.pointer (some ⟨mb,0,none⟩),.int .u64 a,.int .i64 k,.int .u64 v] w fun e w'=>e=.returned (.bool (stC m bs a k v).2.2)∧MM w' mb sb (stC m bs a k v).1 (stC m bs a k v).2.1∧Two mb sb w w':=by
 have HR:=Y (Il m mb bs.length bs.length (some ⟨sb,0,none⟩) a k w h.mi h.stk h.len);have HI:=Y h;have hst:=h.stk;clear h;cases hr:(Le m bs.length a k).2 with
 | false =>
  have HQ:=Y (show stC m bs a k v=((Le m bs.length a k).1,bs,false) by unfold stC; rw [if_neg (by rw [hr]; decide)]);go_enter Tryz.func110,Tryz.ntmps110
  go_wp2_with fail
  refine(O HR).mono ?_;rintro e w1 ⟨rfl,h1,o1,-⟩;have HM:=Y ((O HI).one h1 o1 (Zjj _ _ _ _));have HO:=Y (o1.two (b:=sb));rw [hr];clear h1 o1 hr;go_wp2;go_ret;rw [O HQ];exact⟨rfl,O HM,O HO⟩
 | true =>
  obtain⟨e1,hw,a',k',ea,ek,hak⟩:=Zoa hr;subst ek;have HQ:=Y (show stC m bs a k' v=(m,stB bs a' k' v,true) by unfold stC; rw [if_pos hr,ea]; rfl);have HL:=Y (Zov bs sb a' k' v w (O HI).mem hw hak (O HI).len);have c58:w.cell? ⟨mb,58,none⟩=some (.slice (some ⟨sb,0,none⟩) bs.length bs.length):=by rw [← hst]; exact(cR (O HI).mi 58)
  go_enter Tryz.func110,Tryz.ntmps110
  go_wp2_with fail
  refine(O HR).mono ?_;rintro e w1 ⟨rfl,-,-,h1⟩;obtain rfl:=h1 hr;rw [hr];clear h1 hr hst e1 hw;go_wp2_with fail
  rw [ea];refine(O HL).mono ?_;rintro e w2 ⟨rfl,hw2⟩;have hM:=O HI;have HM:=Y (show MM w2 mb sb m (stB bs a' k' v) from by
   rw [hw2];exact⟨(Co w1 sb a' v mb (Ne.symm hM.ne) k').trans hM.mi,Cn w1 sb a' v bs hM.mem k',by rw [Ux]; exact hM.stk,by rw [Ux]; exact hM.len,Zxv hM.byt a' k' v⟩)
  have HO:=Y (show Two mb sb w1 w2 from by
   rw [hw2];exact⟨(Zhs w1 sb a' v k').1,(Zhs w1 sb a' v k').2.1,(Zhs w1 sb a' v k').2.2,Iy w1 sb a' v k',fun q _ h2=>Co w1 sb a' v q h2 k'⟩)
  clear c58 hw2 hM;go_wp2;go_ret;rw [O HQ];exact⟨rfl,O HM,O HO⟩
set_option maxHeartbeats 4000000
set_option maxRecDepth 100000
def Gr (k n:Int):Bool:=decide (0≤k∧k<n)
theorem Xh (k n:Int)(w:World):Calls Tryz.prog 55 #[.int .i64 k,.int .i64 n] w fun e w'=>e=.returned (.bool (Gr k n))∧w'=w:=by
 by_cases h0:0≤k
 ·
  by_cases h1:k<n
  ·
   have HQ:=Y (show Gr k n=true from decide_eq_true ⟨h0,h1⟩);go_enter Tryz.func55,Tryz.ntmps55
   go_wp2;go_ret;rw [O HQ];exact⟨rfl,rfl⟩
  ·
   have HQ:=Y (show Gr k n=false from decide_eq_false (by omega));go_enter Tryz.func55,Tryz.ntmps55
   go_wp2;go_ret;rw [O HQ];exact⟨rfl,rfl⟩
 ·
  have HQ:=Y (show Gr k n=false from decide_eq_false (by omega));go_enter Tryz.func55,Tryz.ntmps55
  go_wp2;go_ret;rw [O HQ];exact⟨rfl,rfl⟩
def Zht (m:Xn)(F:Nat)(f:Int):Xn×Bool:=if Gr f F=true then ({ m with f:=f,bk:=0,at_:=0 },true) else ({ m with kind:=5,vv:=.slice none 0 0,code:=1 },false)
theorem Zoc (m:Xn)(mb F fc:Nat)(fp:Option Addr)(f:Int)(w:World)(h:MI w mb m)(hf:m.cf=.slice fp F fc) :
 Calls Tryz.prog 81 #[.pointer (some ⟨mb,0,none⟩),.int .i64 f] w fun e w'=>e=.returned (.bool (Zht m F f).2)∧MI w' mb (Zht m F f).1∧Mc mb w w':=by
 have c13:w.cell? ⟨mb,13,none⟩=some (.slice fp F fc):=by rw [← hf]; exact(cR h 13)
 have HI:=Y h;cases hx:Gr f F with
 | false =>
  have HQ:=Y (show Zht m F f=({ m with kind:=5,vv:=.slice none 0 0,code:=1 },false) by unfold Zht; rw [if_neg (by rw [hx]; decide)]);clear h hf;go_enter Tryz.func81,Tryz.ntmps81
  go_wp2_with fail
  refine(Xh f F _).mono ?_;rintro e w1 ⟨rfl,hw1⟩;subst w1;rw [hx];clear hx;go_wp2_with fail
  refine(Nr m mb 1 w (O HI)).mono ?_;rintro e w1 ⟨⟨v1,rfl⟩,h1,o1⟩;have HM:=Y h1;have HO:=Y o1;clear h1 o1;go_wp2;go_ret;rw [O HQ];exact⟨rfl,O HM,O HO⟩
 | true =>
  have HQ:=Y (show Zht m F f=({ m with f:=f,bk:=0,at_:=0 },true) by unfold Zht; rw [if_pos hx]);have d0:w.cell? ⟨mb,39,none⟩=some (.int .i64 m.f):=(cR h 39);have d1:w.cell? ⟨mb,40,none⟩=some (.int .i64 m.bk):=(cR h 40);have d2:w.cell? ⟨mb,41,none⟩=some (.int .i64 m.at_):=(cR h 41);have z0:=frozen_of_row _ _ 39 _ _ h;have z1:=frozen_of_row _ _ 40 _ _ h;have z2:=frozen_of_row _ _ 41 _ _ h;have HM:=Y (Yg (k:=41) (v:=.int .i64 0) (m':={ m with f:=f,bk:=0,at_:=0 }) (Yg (k:=40) (v:=.int .i64 0) (m':={ m with f:=f,bk:=0 }) (Yg (k:=39) (v:=.int .i64 f) (m':={ m with f:=f }) h rfl) rfl) rfl);have HO:=Y (Zx (Zx (Zl mb 39 w (.int .i64 f)) (Zl mb 40 _ (.int .i64 0))) (Zl mb 41 _ (.int .i64 0)));clear h hf;go_enter Tryz.func81,Tryz.ntmps81
  go_wp2_with fail
  refine(Xh f F _).mono ?_;rintro e w1 ⟨rfl,hw1⟩;subst w1;rw [hx];clear hx;go_wp2;go_ret;rw [O HQ];exact⟨rfl,O HM,O HO⟩
def Zhu (m:Xn)(s:Nat):Xn×Bool:=if m.R s % m.T.al=0 then (m,true) else ({ m with kind:=5,vv:=.slice none 0 0,code:=3 },false)
theorem Zhv (m:Xn)(mb s:Nat)(w:World)(h:MI w mb m)(hs:m.T.sp=(s:Int))(hs16:s<16)(hal:m.T.al=8∨m.T.al=16∨m.T.al=32)(hv:0≤m.R s∧m.R s<18446744073709551616) :
 Calls Tryz.prog 79 #[.pointer (some ⟨mb,0,none⟩)] w fun e w'=>e=.returned (.bool (Zhu m s).2)∧MI w' mb (Zhu m s).1∧Mc mb w w':=by
 have c8:w.cell? ⟨mb,8,none⟩=some (.int .i64 m.T.al):=(cR h 8);have HI:=Y h;have HS:=Y hs;have hw:IntKind.u64.wrap m.T.al=m.T.al:=by
  rcases hal with e | e | e <;> rw [e] <;> decide
 have hz:m.T.al≠0:=by omega
 clear h hs;go_enter Tryz.func79,Tryz.ntmps79
 go_upto_region 1 with fail
 refine wp_region_held_drew (S:=fun V=>V.cell? ⟨mb,8,none⟩=some (.int .i64 m.T.al)) (by kernel_rfl) c8 (fun hHeld=>?_);refine tT 0 ?_;refine tT 2 ?_;refine tT 3 ?_;refine tT 4 ?_;refine tT 5 ?_;refine tT 6 ?_;refine tT 7 ?_;refine tO 1 fun K hK=>?_;go_simp;refine(Ztx m mb s w.drew (O HI) (O HS) hs16).mono ?_;rintro e w1 ⟨rfl,k1,hw1⟩;subst w1;refine kO hK (show _ from c8) (fun hHeld2=>?_);clear hK K;refine tT 8 ?_;refine tT 9 ?_;refine wpAnyH_done (by kernel_rfl) ?_ _;have ht:(m.R s).tmod m.T.al=m.R s % m.T.al:=Int.tmod_eq_emod_of_nonneg hv.1;by_cases hx:m.R s % m.T.al=0
 ·
  have HQ:=Y (show Zhu m s=(m,true) by unfold Zhu; rw [if_pos hx]);have hb:((m.R s).tmod m.T.al != 0)=false:=by rw [ht,hx]; rfl
  rw [hb];clear hx ht hb;go_wp2;go_ret;rw [O HQ];exact⟨rfl,O HI,⟨rfl,rfl,rfl,rfl,fun _ _=>rfl⟩⟩
 ·
  have HQ:=Y (show Zhu m s=({ m with kind:=5,vv:=.slice none 0 0,code:=3 },false) by unfold Zhu; rw [if_neg hx]);have hb:((m.R s).tmod m.T.al != 0)=true:=by rw [ht]; simpa using hx
  rw [hb];clear hx ht hb;go_wp2_with fail
  refine(Nr m mb 3 (w.drewN (1+k1)) (O HI)).mono ?_;rintro e w2 ⟨⟨v1,rfl⟩,h1,o1⟩;have HM:=Y h1;have HO:=Y (Zx (Ub mb (1+k1) w) o1);clear h1 o1;go_wp2;go_ret;rw [O HQ];exact⟨rfl,O HM,O HO⟩
theorem Yn {V V':World}{B n size:Nat}{e:TypeId}{v:Value}{xs:List Value}(h:V.ownsRow B e size v n xs)(hk:∀ g,v.ownBlock=some g→V'.heap[g]?=V.heap[g]?):V'.ownsRow B e size v n xs:=by
 obtain⟨h1,h2 | ⟨g,cap,cur,e1,e2,e3,e4⟩⟩:=h
 ·
  exact⟨h1,Or.inl h2⟩
 ·
  exact⟨h1,Or.inr ⟨g,cap,cur,e1,e2,(hk g (by rw [e1]; rfl)).trans e3,e4⟩⟩
theorem Jf {V:World}{a b:Nat}{s t:TypeId}{c d:Array Value}(h:V.heap[a]?=some (.cells c s (0,0)))(k:V.heap[b]?=some (.cells d t (0,0)))(hne:s≠t):a≠b:=fun e=>by
 subst e;rw [h] at k;injection k with k;injection k with _ k _;exact hne k
theorem Jg {w:World}{B e size n g:Nat}{v:Value}{xs:List Value}(h:w.ownsRow B e size v n xs)(hg:v.ownBlock=some g):∃ cs,w.heap[g]?=some (.cells cs e (0,0)):=by
 rcases h.2 with⟨rfl,-⟩ | ⟨g',cap,cur,rfl,-,hr,-⟩
 ·
  cases hg
 ·
  injection hg with hg;subst hg;exact⟨cur,hr⟩
theorem Mi (n:Int):0≤IntKind.u64.wrap n∧IntKind.u64.wrap n<18446744073709551616:=by
 have:IntKind.u64.wrap n=n % 18446744073709551616:=by simp [IntKind.wrap,IntKind.bits,IntKind.signed]
 omega
theorem Zxw (op a b:Int):0≤Lr op a b∧Lr op a b<18446744073709551616:=by
 unfold Lr;repeat' split
 all_goals first | exact Mi _ | omega
theorem ldX {bs:List Int}(h:∀ n ∈ bs,0≤n∧n<256)(a k:Nat)(hk:k≤8):0≤ldB bs a k∧ldB bs a k<18446744073709551616:=by
 have h1:=Zcy (m:=fun i=>bs.getD i 0) (Rw h) k a;have h2:=Sx k hk;unfold ldB;omega
structure Kx (N a b:Nat)(w w':World):Prop where
 os:w'.os=w.os
 tape:w'.tape=w.tape
 output:w'.output=w.output
 size:w.heap.size≤w'.heap.size
 oth:∀ q:Nat,q<N→q≠a→q≠b→w'.heap[q]?=w.heap[q]?
theorem Kx.rf (N a b:Nat)(w:World):Kx N a b w w:=⟨rfl,rfl,rfl,Nat.le_refl _,fun _ _ _ _=>rfl⟩
theorem Kx.tr {N a b:Nat}{u v w:World}(h:Kx N a b u v)(k:Kx N a b v w):Kx N a b u w:=⟨k.os.trans h.os,k.tape.trans h.tape,k.output.trans h.output,Nat.le_trans h.size k.size,fun q h1 h2 h3=>(k.oth q h1 h2 h3).trans (h.oth q h1 h2 h3)⟩
theorem Kx.low {N M a b:Nat}{u v:World}(h:Kx N a b u v)(hM:M≤N):Kx M a b u v:=⟨h.os,h.tape,h.output,h.size,fun q h1 h2 h3=>h.oth q (Nat.lt_of_lt_of_le h1 hM) h2 h3⟩
theorem Kx.tw {a b:Nat}{u v w:World}(h:Kx u.heap.size a b u v)(k:Kx v.heap.size a b v w):Kx u.heap.size a b u w:=h.tr (k.low h.size)
theorem Two.kx {a b N:Nat}{w w':World}(h:Two a b w w'):Kx N a b w w':=⟨h.os,h.tape,h.output,Nat.le_of_eq h.size.symm,fun q _ h1 h2=>h.oth q h1 h2⟩
theorem Mc.kx {a b N:Nat}{w w':World}(h:Mc a w w'):Kx N a b w w':=h.two.kx
theorem Gh {N a b:Nat}{w w':World}(h:Below N w w'):Kx N a b w w':=⟨h.os,h.tape,h.output,h.size,fun q h1 _ _=>h.block q h1⟩
theorem Kx.dr {N a b:Nat}{u v:World}(h:Kx N a b u v)(k:Nat):Kx N a b u (v.drewN k):=⟨h.os,h.tape,h.output,h.size,h.oth⟩
structure PV where
 vv:Value
 tv:Value
 scr:Value
def toC (G:Xn)(P:PV)(m:Zf):Xn:={ G with f:=m.f,bk:=m.bk,at_:=m.at_,R:=m.rg,kind:=m.kind,code:=m.code,pk:=m.pk,steps:=m.steps,vv:=P.vv,tv:=P.tv,scr:=P.scr }
def evL (fs:List Int)(es:List Value):List Value:=(fs.zip es).flatMap fun e=>[.int .i64 e.1,e.2]
structure TrM (V:World)(b:Nat)(tv:Value)(tr:List (Int×List Int))(es:List Value):Prop where
 len:es.length=tr.length
 row:V.ownsRow b 99 2 tv tr.length (evL (tr.map (·.1)) es)
 each:∀ k,k<tr.length→V.ownsRow b 62 1 (es.getD k .nilIface) (tr.getD k (0,[])).2.length (uC (tr.getD k (0,[])).2)
def Lz (w:World)(A:Nat)(v:Value)(ws:List Int):Prop:=∃ p cap,v=.slice p ws.length cap∧ws.length≤cap∧ws.length<4611686018427387904∧(0<ws.length→∃ sb so,p=some ⟨sb,so,none⟩∧sb<A∧∀ i,i<ws.length→w.cell? ⟨sb,so+i,none⟩=some (.int .u64 (ws.getD i 0)))
theorem Yp {w w':World}{g j:Nat}(h:w'.heap[g]?=w.heap[g]?):w'.cell? ⟨g,j,none⟩=w.cell? ⟨g,j,none⟩:=by
 simp only [World.cell?,h]
theorem Lz.kx {w w':World}{A N a b:Nat}{v:Value}{ws:List Int}(h:Lz w A v ws)(k:Kx N a b w w')(hN:A≤N)(ha:A≤a)(hb:A≤b):Lz w' A v ws:=by
 obtain⟨p,cap,h1,h2,h3,h4⟩:=h;refine⟨p,cap,h1,h2,h3,fun h0=>?_⟩;obtain⟨sb,so,e,hl,hc⟩:=h4 h0;exact⟨sb,so,e,hl,fun i hi=>(Yp (k.oth sb (by omega) (by omega) (by omega))).trans (hc i hi)⟩
structure MP (w:World)(A B N:Nat)(G:Xn)(mb sb:Nat)(P:PV)(es:List Value)(m:Zf):Prop where
 mm:MM w mb sb (toC G P m) m.me
 vv:w.ownsRow B 62 1 P.vv m.vals.length (uC m.vals)
 sc:Lz w A P.scr m.sc
 tr:TrM w B P.tv m.tr es
 rb:∀ r,0≤m.rg r∧m.rg r<18446744073709551616
 am:A≤mb
 as_:A≤sb
 bm:mb<B
 bs:sb<B
 bn:B≤N
 nw:N≤w.heap.size
 vn:∀ g,P.vv.ownBlock=some g→g<N
 tn:∀ g,P.tv.ownBlock=some g→g<N
 en:∀ k,k<m.tr.length→∀ g,(es.getD k .nilIface).ownBlock=some g→g<N
def MR (w:World)(A B N:Nat)(G:Xn)(mb sb:Nat)(m:Zf):Prop:=∃ P es,MP w A B N G mb sb P es m
theorem Xi {w w':World}{B N a b e size n:Nat}{v:Value}{xs:List Value}(h:w.ownsRow B e size v n xs)(k:Kx N a b w w')(hn:∀ g,v.ownBlock=some g→g<N)(ha:a<B)(hb:b<B):w'.ownsRow B e size v n xs :=
 Yn h fun g hg=>k.oth g (hn g hg) (by have:=(h.lt g hg).1; omega) (by have:=(h.lt g hg).1; omega)
theorem TrM.kx {w w':World}{B N a b:Nat}{tv:Value}{tr:List (Int×List Int)}{es:List Value}(h:TrM w B tv tr es)(k:Kx N a b w w')(hn:∀ g,tv.ownBlock=some g→g<N)(he:∀ k,k<tr.length→∀ g,(es.getD k .nilIface).ownBlock=some g→g<N)(ha:a<B)(hb:b<B):TrM w' B tv tr es :=
 ⟨h.len,Xi h.row k hn ha hb,fun i hi=>Xi (h.each i hi) k (he i hi) ha hb⟩
structure Lf (P P':PV)(m m':Zf):Prop where
 tr:m'.tr=m.tr
 sc:m'.sc=m.sc
 tv:P'.tv=P.tv
 scr:P'.scr=P.scr
 vv:P'.vv=P.vv∧m'.vals=m.vals∨P'.vv=.slice none 0 0∧m'.vals=[]
theorem MP.lef {w w':World}{A B N:Nat}{G:Xn}{mb sb:Nat}{P P':PV}{es:List Value}{m m':Zf}(h:MP w A B N G mb sb P es m)(hk:Kx N mb sb w w')(hm:MM w' mb sb (toC G P' m') m'.me)(hl:Lf P P' m m')(hr:∀ r,0≤m'.rg r∧m'.rg r<18446744073709551616):MR w' A B N G mb sb m':=by
 refine⟨P',es,hm,?_,?_,?_,hr,h.am,h.as_,h.bm,h.bs,h.bn,Nat.le_trans h.nw hk.size,?_,?_,?_⟩
 ·
  rcases hl.vv with⟨e1,e2⟩ | ⟨e1,e2⟩
  ·
   rw [e1,e2];exact Xi h.vv hk h.vn h.bm h.bs
  ·
   rw [e1,e2];exact World.ownsRow_nil _ _ _ _
 ·
  rw [hl.scr,hl.sc];exact h.sc.kx hk (by have:=h.bn; have:=h.am; have:=h.bm; omega) h.am h.as_
 ·
  rw [hl.tv,hl.tr];exact h.tr.kx hk h.tn h.en h.bm h.bs
 ·
  intro g hg;rcases hl.vv with⟨e1,-⟩ | ⟨e1,-⟩
  ·
   rw [e1] at hg; exact h.vn g hg
  ·
   rw [e1] at hg; cases hg
 ·
  rw [hl.tv]; exact h.tn
 ·
  rw [hl.tr]; exact h.en
theorem MP.leaf {w w':World}{A B N:Nat}{G:Xn}{mb sb:Nat}{P P':PV}{es:List Value}{m m':Zf}(h:MP w A B N G mb sb P es m)(hk:Kx w.heap.size mb sb w w')(hm:MM w' mb sb (toC G P' m') m'.me)(hl:Lf P P' m m')(hr:∀ r,0≤m'.rg r∧m'.rg r<18446744073709551616):MR w' A B N G mb sb m':=h.lef (hk.low h.nw) hm hl hr
theorem MR.kn {w w':World}{A B N:Nat}{G:Xn}{mb sb:Nat}{m:Zf}(h:MR w A B N G mb sb m)(hk:Kx N mb sb w w')(h1:w'.heap[mb]?=w.heap[mb]?)(h2:w'.heap[sb]?=w.heap[sb]?):MR w' A B N G mb sb m:=by
 obtain⟨P,es,h⟩:=h;exact h.lef hk ⟨h1.trans h.mm.mi,h2.trans h.mm.mem,h.mm.stk,h.mm.len,h.mm.byt⟩ ⟨rfl,rfl,rfl,rfl,.inl ⟨rfl,rfl⟩⟩ h.rb
theorem MR.kx {w w':World}{A B N:Nat}{G:Xn}{mb sb:Nat}{m:Zf}(h:MR w A B N G mb sb m)(hk:Kx w.heap.size mb sb w w')(h1:w'.heap[mb]?=w.heap[mb]?)(h2:w'.heap[sb]?=w.heap[sb]?):MR w' A B N G mb sb m:=by
 obtain⟨P,es,h⟩:=h;exact h.leaf hk ⟨h1.trans h.mm.mi,h2.trans h.mm.mem,h.mm.stk,h.mm.len,h.mm.byt⟩ ⟨rfl,rfl,rfl,rfl,.inl ⟨rfl,rfl⟩⟩ h.rb
theorem MR.up {w:World}{A B N M:Nat}{G:Xn}{mb sb:Nat}{m:Zf}(h:MR w A B N G mb sb m)(h1:N≤M)(h2:M≤w.heap.size):MR w A B M G mb sb m:=by
 obtain⟨P,es,h⟩:=h;exact⟨P,es,h.mm,h.vv,h.sc,h.tr,h.rb,h.am,h.as_,h.bm,h.bs,Nat.le_trans h.bn h1,h2,fun g hg=>Nat.lt_of_lt_of_le (h.vn g hg) h1,fun g hg=>Nat.lt_of_lt_of_le (h.tn g hg) h1,fun k hk g hg=>Nat.lt_of_lt_of_le (h.en k hk g hg) h1⟩
theorem MP.lf {w w':World}{A B N:Nat}{G:Xn}{mb sb:Nat}{P P':PV}{es:List Value}{m m':Zf}(h:MP w A B N G mb sb P es m)(ho:Mc mb w w')(hm:MI w' mb (toC G P' m'))(hl:Lf P P' m m')(he:m'.me=m.me)(hr:∀ r,0≤m'.rg r∧m'.rg r<18446744073709551616):MR w' A B N G mb sb m' :=
 h.leaf ho.kx (by rw [he]; exact h.mm.one hm ho rfl) hl hr
theorem Rh {R:Nat→Int}{i:Nat}{v:Int}(h:∀ r,0≤R r∧R r<18446744073709551616)(hv:0≤v∧v<18446744073709551616):∀ r,0≤Yy R i v r∧Yy R i v r<18446744073709551616:=fun r=>by
 unfold Yy;split
 ·
  exact hv
 ·
  exact h r
structure TK (T:Zm):Prop where
 sp:T.sp=(T.spN:Int)
 s16:T.spN<16
 r16:T.r≤16
 spr:T.sp<T.r
 al:T.al=8∨T.al=16∨T.al=32
 lk:T.lk=-1∨0≤T.lk∧T.lk<T.r∧T.lk≠T.sp
 ss:∀ x ∈ T.ss,0≤x∧x<T.r
 ag:∀ x ∈ T.ag,0≤x∧x<T.r∧x≠T.sp
 rs:∀ x ∈ T.rs,0≤x∧x<T.r∧x≠T.sp
 sh:0≤T.sh∧T.sh≤32∧T.sh % 8=0
 br:0≤T.br∧T.br≤4
 r4:4≤T.r
 ls:T.ss.length≤12
section
variable {w:World} {A B N:Nat} {G:Xn} {mb sb:Nat} {m:Zf}
theorem Ri (h:MR w A B N G mb sb m)(c:Int) :
 Calls Tryz.prog 108 #[.pointer (some ⟨mb,0,none⟩),.int .i64 c] w fun e w'=>(∃ v,e=.returned v)∧MR w' A B N G mb sb (m.fault c)∧Kx w.heap.size mb sb w w':=by
 obtain⟨P,es,h⟩:=h;refine(Nr _ mb c w h.mm.mi).mono ?_;rintro e w' ⟨he,h1,ho⟩;exact⟨he,h.lf (m':=m.fault c) (P':={ P with vv:=.slice none 0 0 }) ho h1 ⟨rfl,rfl,rfl,rfl,.inr ⟨rfl,rfl⟩⟩ rfl h.rb,ho.kx⟩
theorem Zvh (h:MR w A B N G mb sb m)(k:Int) :
 Calls Tryz.prog 83 #[.pointer (some ⟨mb,0,none⟩),.int .i64 k,.slice none 0 0] w fun e w'=>(∃ v,e=.returned v)∧MR w' A B N G mb sb (m.endK k [])∧Kx w.heap.size mb sb w w':=by
 obtain⟨P,es,h⟩:=h;refine(Rg _ mb k none 0 0 w h.mm.mi).mono ?_;rintro e w' ⟨he,h1,ho⟩;exact⟨he,h.lf (m':=m.endK k []) (P':={ P with vv:=.slice none 0 0 }) ho h1 ⟨rfl,rfl,rfl,rfl,.inr ⟨rfl,rfl⟩⟩ rfl h.rb,ho.kx⟩
theorem Zjk (h:MR w A B N G mb sb m)(k:Int)(p:Option Addr)(c:Nat)(vs:List Int)(hv:w.ownsRow B 62 1 (.slice p vs.length c) vs.length (uC vs)) :
 Calls Tryz.prog 83 #[.pointer (some ⟨mb,0,none⟩),.int .i64 k,.slice p vs.length c] w fun e w'=>(∃ v,e=.returned v)∧MR w' A B w.heap.size G mb sb (m.endK k vs)∧Kx w.heap.size mb sb w w':=by
 obtain⟨P,es,h⟩:=h;refine(Rg _ mb k p vs.length c w h.mm.mi).mono ?_;rintro e w' ⟨he,h1,ho⟩;have hk:Kx w.heap.size mb sb w w':=ho.kx;have hn:=h.nw;exact⟨he,⟨{ P with vv:=.slice p vs.length c },es,h.mm.one h1 ho rfl,Xi hv hk (fun g hg=>(hv.lt g hg).2) h.bm h.bs,h.sc.kx hk (Nat.le_trans (Nat.le_trans h.am (Nat.le_of_lt h.bm)) (Nat.le_trans h.bn hn)) h.am h.as_,h.tr.kx hk (fun g hg=>Nat.lt_of_lt_of_le (h.tn g hg) hn) (fun k hk g hg=>Nat.lt_of_lt_of_le (h.en k hk g hg) hn) h.bm h.bs,h.rb,h.am,h.as_,h.bm,h.bs,Nat.le_trans h.bn hn,hk.size,fun g hg=>(hv.lt g hg).2,fun g hg=>Nat.lt_of_lt_of_le (h.tn g hg) hn,fun k hk g hg=>Nat.lt_of_lt_of_le (h.en k hk g hg) hn⟩,hk⟩
theorem Ns (h:MR w A B N G mb sb m)(hT:TK G.T) :
 Calls Tryz.prog 109 #[.pointer (some ⟨mb,0,none⟩)] w fun e w'=>e=.returned (.int .u64 (m.sp G.T))∧∃ k,w'=w.drewN k:=by
 obtain⟨P,es,h⟩:=h;exact Ztx _ mb G.T.spN w h.mm.mi hT.sp hT.s16
theorem MR.len (h:MR w A B N G mb sb m):m.me.length≤65536:=by
 obtain⟨P,es,h⟩:=h;exact h.mm.len
theorem MR.byt (h:MR w A B N G mb sb m):∀ n ∈ m.me,0≤n∧n<256:=by
 obtain⟨P,es,h⟩:=h;exact h.mm.byt
theorem MR.rb (h:MR w A B N G mb sb m):∀ r,0≤m.rg r∧m.rg r<18446744073709551616:=by
 obtain⟨P,es,h⟩:=h;exact h.rb
theorem MR.row (h:MR w A B N G mb sb m):∃ P,MI w mb (toC G P m):=by
 obtain⟨P,es,h⟩:=h;exact⟨P,h.mm.mi⟩
theorem MR.dr (h:MR w A B N G mb sb m)(k:Nat):MR (w.drewN k) A B N G mb sb m:=h.kx ((Kx.rf _ _ _ _).dr k) rfl rfl
theorem Rj (h:MR w A B N G mb sb m)(hT:TK G.T)(v:Int)(hv:0≤v∧v<18446744073709551616) :
 Calls Tryz.prog 77 #[.pointer (some ⟨mb,0,none⟩),.int .u64 v] w fun e w'=>e=.returned (.bool (m.setSP G.T v).2)∧MR w' A B N G mb sb (m.setSP G.T v).1∧Kx w.heap.size mb sb w w':=by
 obtain⟨P,es,h⟩:=h;refine(Zeu _ mb G.T.spN m.me.length _ _ v w h.mm.mi hT.sp hT.s16 h.mm.stk (by have:=h.mm.len; omega)).mono ?_;rintro e w' ⟨he,h1,ho⟩;unfold spC at he h1;unfold Zf.setSP;split at he
 ·
  rename_i h0;rw [if_pos h0] at h1 ⊢;exact⟨he,h.lf (m':=m.endK 4 []) (P':={ P with vv:=.slice none 0 0 }) ho h1 ⟨rfl,rfl,rfl,rfl,.inr ⟨rfl,rfl⟩⟩ rfl h.rb,ho.kx⟩
 ·
  rename_i h0;rw [if_neg h0] at h1 ⊢;split at he
  ·
   rename_i h2;rw [if_pos h2] at h1 ⊢;exact⟨he,h.lf (m':=m.fault 2) (P':={ P with vv:=.slice none 0 0 }) ho h1 ⟨rfl,rfl,rfl,rfl,.inr ⟨rfl,rfl⟩⟩ rfl h.rb,ho.kx⟩
  ·
   rename_i h2;rw [if_neg h2] at h1 ⊢;exact⟨he,h.lf (P':=P) ho h1 ⟨rfl,rfl,rfl,rfl,.inl ⟨rfl,rfl⟩⟩ rfl (Rh h.rb hv),ho.kx⟩
theorem Dr (h:MR w A B N G mb sb m)(hT:TK G.T)(r:Nat)(hr:r<16)(v:Int)(hv:0≤v∧v<18446744073709551616) :
 Calls Tryz.prog 112 #[.pointer (some ⟨mb,0,none⟩),.int .i64 (r:Int),.int .u64 v] w fun e w'=>e=.returned (.bool (m.setR G.T r v).2)∧MR w' A B N G mb sb (m.setR G.T r v).1∧Kx w.heap.size mb sb w w':=by
 obtain⟨P,es,h⟩:=h;refine(Zvf _ mb G.T.spN m.me.length _ r _ v w h.mm.mi hT.sp hT.s16 hr h.mm.stk (by have:=h.mm.len; omega)).mono ?_;rintro e w' ⟨he,h1,ho⟩;unfold Zhr at he h1;unfold Zf.setR;split at he
 ·
  rename_i h0;rw [if_pos h0] at h1 ⊢;unfold spC at he h1;unfold Zf.setSP;split at he
  ·
   rename_i h0;rw [if_pos h0] at h1 ⊢;exact⟨he,h.lf (m':=m.endK 4 []) (P':={ P with vv:=.slice none 0 0 }) ho h1 ⟨rfl,rfl,rfl,rfl,.inr ⟨rfl,rfl⟩⟩ rfl h.rb,ho.kx⟩
  ·
   rename_i h0;rw [if_neg h0] at h1 ⊢;split at he
   ·
    rename_i h2;rw [if_pos h2] at h1 ⊢;exact⟨he,h.lf (m':=m.fault 2) (P':={ P with vv:=.slice none 0 0 }) ho h1 ⟨rfl,rfl,rfl,rfl,.inr ⟨rfl,rfl⟩⟩ rfl h.rb,ho.kx⟩
   ·
    rename_i h2;rw [if_neg h2] at h1 ⊢;exact⟨he,h.lf (P':=P) ho h1 ⟨rfl,rfl,rfl,rfl,.inl ⟨rfl,rfl⟩⟩ rfl (Rh h.rb hv),ho.kx⟩
 ·
  rename_i h0;rw [if_neg h0] at h1 ⊢;exact⟨he,h.lf (P':=P) ho h1 ⟨rfl,rfl,rfl,rfl,.inl ⟨rfl,rfl⟩⟩ rfl (Rh h.rb hv),ho.kx⟩
theorem Zod (P:PV)(a k:Int):(Le (toC G P m) m.me.length a k).2=(m.reach a k).2∧((m.reach a k).2=true∧(m.reach a k).1=m∧(Le (toC G P m) m.me.length a k).1=toC G P m∨(Le (toC G P m) m.me.length a k).1=toC G { P with vv:=.slice none 0 0 } (m.reach a k).1∧(m.reach a k).1.vals=[]∧(m.reach a k).1.tr=m.tr∧(m.reach a k).1.sc=m.sc∧(m.reach a k).1.me=m.me∧(m.reach a k).1.rg=m.rg):=by
 unfold Le Zf.reach;split
 ·
  exact⟨rfl,.inr ⟨rfl,rfl,rfl,rfl,rfl,rfl⟩⟩
 ·
  split
  ·
   exact⟨rfl,.inr ⟨rfl,rfl,rfl,rfl,rfl,rfl⟩⟩
  ·
   split
   ·
    exact⟨rfl,.inr ⟨rfl,rfl,rfl,rfl,rfl,rfl⟩⟩
   ·
    exact⟨rfl,.inl ⟨rfl,rfl,rfl⟩⟩
theorem Cl (h:MR w A B N G mb sb m)(a k:Int) :
 Calls Tryz.prog 133 #[.pointer (some ⟨mb,0,none⟩),.int .u64 a,.int .i64 k] w fun e w'=>e=.returned (Ly (m.load a k).2)∧MR w' A B N G mb sb (m.load a k).1∧Kx w.heap.size mb sb w w':=by
 obtain⟨P,es,h⟩:=h;refine(Zrs _ mb sb m.me a k w h.mm).mono ?_;rintro e w' ⟨he,h1,ho⟩;obtain⟨r1,r2⟩:=Zod (G:=G) (m:=m) P a k;unfold ldC at he h1;unfold Zf.load;rw [r1] at he h1;by_cases h0:(m.reach a k).2=true
 ·
  rw [if_pos h0] at he h1 ⊢;exact⟨he,h.leaf ho.kx h1 ⟨rfl,rfl,rfl,rfl,.inl ⟨rfl,rfl⟩⟩ h.rb,ho.kx⟩
 ·
  rw [if_neg h0] at he h1 ⊢;rcases r2 with⟨e0,-⟩ | ⟨e1,e2,e3,e4,e5,e6⟩
  ·
   exact absurd e0 h0
  ·
   simp only [e1] at h1;exact⟨he,h.leaf (P':={ P with vv:=.slice none 0 0 }) ho.kx (by simp only [e5]; exact h1) ⟨e3,e4,rfl,rfl,.inr ⟨rfl,e2⟩⟩ (by simp only [e6]; exact h.rb),ho.kx⟩
theorem Uc (h:MR w A B N G mb sb m)(a k v:Int) :
 Calls Tryz.prog 110 #[.pointer (some ⟨mb,0,none⟩),.int .u64 a,.int .i64 k,.int .u64 v] w fun e w'=>e=.returned (.bool (m.store a k v).2)∧MR w' A B N G mb sb (m.store a k v).1∧Kx w.heap.size mb sb w w':=by
 obtain⟨P,es,h⟩:=h;refine(Zob _ mb sb m.me a k v w h.mm).mono ?_;rintro e w' ⟨he,h1,ho⟩;obtain⟨r1,r2⟩:=Zod (G:=G) (m:=m) P a k;unfold stC at he h1;unfold Zf.store;rw [r1] at he h1;by_cases h0:(m.reach a k).2=true
 ·
  rw [if_pos h0] at he h1 ⊢;exact⟨he,h.leaf (P':=P) ho.kx h1 ⟨rfl,rfl,rfl,rfl,.inl ⟨rfl,rfl⟩⟩ h.rb,ho.kx⟩
 ·
  rw [if_neg h0] at he h1 ⊢;rcases r2 with⟨e0,-⟩ | ⟨e1,e2,e3,e4,e5,e6⟩
  ·
   exact absurd e0 h0
  ·
   simp only [e1] at h1;exact⟨he,h.leaf (P':={ P with vv:=.slice none 0 0 }) ho.kx (by simp only [e5]; exact h1) ⟨e3,e4,rfl,rfl,.inr ⟨rfl,e2⟩⟩ (by simp only [e6]; exact h.rb),ho.kx⟩
theorem Im (h:MR w A B N G mb sb m)(hT:TK G.T) :
 Calls Tryz.prog 79 #[.pointer (some ⟨mb,0,none⟩)] w fun e w'=>e=.returned (.bool (m.aligned G.T).2)∧MR w' A B N G mb sb (m.aligned G.T).1∧Kx w.heap.size mb sb w w':=by
 obtain⟨P,es,h⟩:=h;refine(Zhv _ mb G.T.spN w h.mm.mi hT.sp hT.s16 hT.al (h.rb _)).mono ?_;rintro e w' ⟨he,h1,ho⟩;unfold Zhu at he h1;unfold Zf.aligned;by_cases h0:m.sp G.T % G.T.al=0
 ·
  have h0':(toC G P m).R G.T.spN % (toC G P m).T.al=0:=h0;rw [if_pos h0'] at he h1;rw [if_pos h0];exact⟨he,h.lf ho h1 ⟨rfl,rfl,rfl,rfl,.inl ⟨rfl,rfl⟩⟩ rfl h.rb,ho.kx⟩
 ·
  have h0':¬ (toC G P m).R G.T.spN % (toC G P m).T.al=0:=h0;rw [if_neg h0'] at he h1;rw [if_neg h0];exact⟨he,h.lf (m':=m.fault 3) (P':={ P with vv:=.slice none 0 0 }) ho h1 ⟨rfl,rfl,rfl,rfl,.inr ⟨rfl,rfl⟩⟩ rfl h.rb,ho.kx⟩
theorem Zev (h:MR w A B N G mb sb m)(F fc:Nat)(fp:Option Addr)(hf:G.cf=.slice fp F fc)(f:Int) :
 Calls Tryz.prog 81 #[.pointer (some ⟨mb,0,none⟩),.int .i64 f] w fun e w'=>e=.returned (.bool (m.enter F f).2)∧MR w' A B N G mb sb (m.enter F f).1∧Kx w.heap.size mb sb w w':=by
 obtain⟨P,es,h⟩:=h;refine(Zoc _ mb F fc fp f w h.mm.mi hf).mono ?_;rintro e w' ⟨he,h1,ho⟩;unfold Zht Gr at he h1;unfold Zf.enter;by_cases h0:0≤f∧f<(F:Int)
 ·
  rw [if_pos (decide_eq_true h0)] at he h1;rw [if_pos h0];exact⟨he,h.lf (P':=P) ho h1 ⟨rfl,rfl,rfl,rfl,.inl ⟨rfl,rfl⟩⟩ rfl h.rb,ho.kx⟩
 ·
  rw [if_neg (by simpa using h0)] at he h1;rw [if_neg h0];exact⟨he,h.lf (m':=m.fault 1) (P':={ P with vv:=.slice none 0 0 }) ho h1 ⟨rfl,rfl,rfl,rfl,.inr ⟨rfl,rfl⟩⟩ rfl h.rb,ho.kx⟩
end
set_option maxHeartbeats 4000000
set_option maxRecDepth 100000
section
variable {w:World} {A B N:Nat} {G:Xn} {mb sb:Nat} {m:Zf}
theorem MR.al (h:MR w A B N G mb sb m)(X:Obj):MR (w.alloc X) A B N G mb sb m:=by
 obtain⟨P,es,k⟩:=h;have h1:=k.bm;have h2:=k.bs;have h3:=k.nw;have h4:=k.bn;obtain⟨-,hb,-⟩:=Zs w X;exact MR.kx ⟨P,es,k⟩ (Gh hb) (hb.block mb (by omega)) (hb.block sb (by omega))
theorem MR.bd (h:MR w A B N G mb sb m):A≤mb∧A≤sb∧mb<B∧sb<B∧B≤w.heap.size:=by
 obtain⟨P,es,k⟩:=h;exact⟨k.am,k.as_,k.bm,k.bs,Nat.le_trans k.bn k.nw⟩
theorem MR.nb (h:MR w A B N G mb sb m):B≤N∧N≤w.heap.size:=by
 obtain⟨P,es,k⟩:=h;exact⟨k.bn,k.nw⟩
theorem Zct (h:MR w A B N G mb sb m)(hT:TK G.T)(a b:Int)(ha:a=-1∨0≤a∧a<16) :
 Calls Tryz.prog 136 #[.pointer (some ⟨mb,0,none⟩),.agg #[.int .i64 a,.int .i64 b]] w fun e w'=>e=.returned (Ly (m.read G.T (a,b)).2)∧MR w' A B N G mb sb ((m.read G.T (a,b)).1)∧Kx w.heap.size mb sb w w':=by
 have hbd:=h.bd;obtain⟨r0,hb0,hz0⟩:=Zs w (.cells #[.int .i64 a,.int .i64 b] 91 (0,0));have HM:=Y (h.al (.cells #[.int .i64 a,.int .i64 b] 91 (0,0)));have HR:=Y r0;have HK:=Y (Gh (a:=mb) (b:=sb) hb0);clear r0 hb0 h;by_cases ha1:a=-1
 ·
  have HQ:=Y (show m.read G.T (a,b)=m.load (IntKind.u64.wrap (m.sp G.T+IntKind.u64.wrap b)) 8 by unfold Zf.read; rw [if_pos ha1]);subst ha1;go_enter Tryz.func136,Tryz.ntmps136
  go_upto_region 2 with fail
  generalize World.alloc w _=W at HM HR HK hz0 ⊢;refine wp_region_held_drew (S:=fun V=>V.cell? ⟨w.heap.size,1,none⟩=some (.int .i64 b)) (by kernel_rfl) (Zd (O HR) 1) (fun hHeld=>?_);refine tT 0 ?_;refine tT 1 ?_;refine tT 3 ?_;refine tT 4 ?_;refine tT 5 ?_;refine tO 2 fun K hK=>?_;go_simp;refine(Ns ((O HM).dr 1) hT).mono ?_;rintro e w1 ⟨rfl,k1,hw1⟩;subst w1;refine kO hK (show _ from(cR (O HR) 1)) (fun hHeld2=>?_);clear hK K;refine tT 6 ?_;refine tO 7 fun K hK=>?_;go_simp;refine(Cl ((O HM).dr (1+k1)) _ 8).mono ?_;rintro e w2 ⟨rfl,h2,x2⟩;have H2:=Y h2;have X2:=Y x2;unfold Ly;refine kO hK (show _ from(cR ((x2.oth w.heap.size (by show _<W.heap.size; omega) (by omega) (by omega)).trans (O HR)) 1)) (fun hHeld2=>?_);clear hK K;refine tT 8 ?_;refine tT 9 ?_;refine tT 10 ?_;refine tT 11 ?_;refine wpAnyH_done (by kernel_rfl) ?_ _;go_wp2;go_ret2;rw [O HQ];exact⟨rfl,O H2,((O HK).dr _).tr ((O X2).low (show w.heap.size≤W.heap.size by omega))⟩
 ·
  obtain⟨r,hr⟩:∃ r:Nat,a=r:=⟨a.toNat,by omega⟩;subst hr;have hr16:r<16:=by omega
  have hr1:(r:Int)<16:=by omega
  have HQ:=Y (show m.read G.T ((r:Int),b)=(m,some (m.rg r)) by unfold Zf.read; rw [if_neg ha1]; rfl);have hb:((r:Int)==(-1:Int))=false:=by simp
  obtain⟨P,hmi⟩:=(O HM).row;have c2:=(Zd hmi (42+r)).trans (Js _ r hr16);clear ha1 ha hmi;go_enter Tryz.func136,Tryz.ntmps136
  go_upto_region 3 with fail
  generalize World.alloc w _=W at HM HR HK hz0 c2 ⊢;have c0:W.cell? ⟨w.heap.size,0,none⟩=some (.int .i64 (r:Int)):=(cR (O HR) 0);go_quiet (fail)
  go_wp2;go_ret2;rw [O HQ];exact⟨rfl,(O HM).dr _,(O HK).dr _⟩
theorem Rk (h:MR w A B N G mb sb m)(hT:TK G.T)(a b v:Int)(ha:a=-1∨0≤a∧a<16)(hv:0≤v∧v<18446744073709551616) :
 Calls Tryz.prog 111 #[.pointer (some ⟨mb,0,none⟩),.agg #[.int .i64 a,.int .i64 b],.int .u64 v] w fun e w'=>e=.returned (.bool (m.write G.T (a,b) v).2)∧MR w' A B N G mb sb ((m.write G.T (a,b) v).1)∧Kx w.heap.size mb sb w w':=by
 have hbd:=h.bd;obtain⟨r0,hb0,hz0⟩:=Zs w (.cells #[.int .i64 a,.int .i64 b] 91 (0,0));have HM:=Y (h.al (.cells #[.int .i64 a,.int .i64 b] 91 (0,0)));have HR:=Y r0;have HK:=Y (Gh (a:=mb) (b:=sb) hb0);clear r0 hb0 h;by_cases ha1:a=-1
 ·
  have HQ:=Y (show m.write G.T (a,b) v=m.store (IntKind.u64.wrap (m.sp G.T+IntKind.u64.wrap b)) 8 v by unfold Zf.write; rw [if_pos ha1]);subst ha1;go_enter Tryz.func111,Tryz.ntmps111
  go_upto_region 2 with fail
  generalize World.alloc w _=W at HM HR HK hz0 ⊢;refine wp_region_held_drew (S:=fun V=>V.cell? ⟨w.heap.size,1,none⟩=some (.int .i64 b)) (by kernel_rfl) (Zd (O HR) 1) (fun hHeld=>?_);refine tT 0 ?_;refine tT 1 ?_;refine tT 3 ?_;refine tT 4 ?_;refine tT 5 ?_;refine tT 7 ?_;refine tO 2 fun K hK=>?_;go_simp;refine(Ns ((O HM).dr 1) hT).mono ?_;rintro e w1 ⟨rfl,k1,hw1⟩;subst w1;refine kO hK (show _ from(cR (O HR) 1)) (fun hHeld2=>?_);clear hK K;refine tT 6 ?_;refine tO 8 fun K hK=>?_;go_simp;refine(Uc ((O HM).dr (1+k1)) _ 8 v).mono ?_;rintro e w2 ⟨rfl,h2,x2⟩;have H2:=Y h2;have X2:=Y x2;refine kO hK (show _ from(cR ((x2.oth w.heap.size (by show _<W.heap.size; omega) (by omega) (by omega)).trans (O HR)) 1)) (fun hHeld2=>?_);clear hK K;refine tT 9 ?_;refine wpAnyH_done (by kernel_rfl) ?_ _;go_wp2;go_ret;rw [O HQ];exact⟨rfl,O H2,((O HK).dr _).tr ((O X2).low (show w.heap.size≤W.heap.size by omega))⟩
 ·
  obtain⟨r,hr⟩:∃ r:Nat,a=r:=⟨a.toNat,by omega⟩;subst hr;have HQ:=Y (show m.write G.T ((r:Int),b) v=m.setR G.T r v by unfold Zf.write; rw [if_neg ha1]; rfl);have hb:((r:Int)==(-1:Int))=false:=by simp
  have HS:=Y (Dr (O HM) hT r (by omega) v hv);clear ha1 ha;go_enter Tryz.func111,Tryz.ntmps111
  go_wp2_with fail
  generalize World.alloc w _=W at HM HR HK HS hz0 ⊢;refine(O HS).mono ?_;rintro e w2 ⟨rfl,h2,x2⟩;have H2:=Y h2;have X2:=Y x2;clear h2 x2;go_wp2;go_ret;rw [O HQ];exact⟨rfl,O H2,(O HK).tr ((O X2).low (show w.heap.size≤W.heap.size by omega))⟩
theorem Zrt (h:MR w A B N G mb sb m)(hT:TK G.T)(n:Int)(hn:0≤n∧n<18446744073709551616) :
 Calls Tryz.prog 80 #[.pointer (some ⟨mb,0,none⟩),.int .u64 n] w fun e w'=>e=.returned (.bool (m.putN G.T n).2)∧MR w' A B N G mb sb ((m.putN G.T n).1)∧Kx w.heap.size mb sb w w':=by
 obtain⟨P,hmi⟩:=h.row;have c2:w.cell? ⟨mb,2,none⟩=some (.int .i64 G.T.lk):=(cR hmi 2);have HM:=Y h;have r16:=hT.r16;clear h hmi;rcases hT.lk with hl | ⟨hl0,hl1,hl2⟩
 ·
  rw [hl] at c2;go_enter Tryz.func80,Tryz.ntmps80
  go_wp2_with fail
  refine(Ns (O HM) hT).mono ?_;rintro e w1 ⟨rfl,k1,hw1⟩;subst w1;clear c2;go_wp2_with fail
  refine(Rj ((O HM).dr k1) hT _ (Mi _)).mono ?_;rintro e w2 ⟨rfl,h2,x2⟩;have HM2:=Y h2;have X2:=Y x2;clear h2 x2;cases hz:(m.setSP G.T (IntKind.u64.wrap (m.sp G.T-8))).2 with
  | false =>
   have HQ:=Y (show m.putN G.T n=((m.setSP G.T (IntKind.u64.wrap (m.sp G.T-8))).1,false) by unfold Zf.putN; rw [if_pos hl,if_neg (by rw [hz]; decide)]);go_wp2;go_ret;rw [O HQ];exact⟨rfl,O HM2,((Kx.rf _ _ _ w).dr k1).tr (O X2)⟩
  | true =>
   have HQ:=Y (show m.putN G.T n=(m.setSP G.T (IntKind.u64.wrap (m.sp G.T-8))).1.store ((m.setSP G.T (IntKind.u64.wrap (m.sp G.T-8))).1.sp G.T) 8 n by unfold Zf.putN; rw [if_pos hl,if_pos hz]);go_wp2_with fail
   refine(Ns (O HM2) hT).mono ?_;rintro e w3 ⟨rfl,k3,hw3⟩;subst w3;go_wp2_with fail
   refine(Uc ((O HM2).dr k3) _ 8 n).mono ?_;rintro e w4 ⟨rfl,h4,x4⟩;have HM4:=Y h4;have X4:=Y x4;clear h4 x4;go_wp2;go_ret;rw [O HQ];exact⟨rfl,O HM4,(((Kx.rf _ _ _ w).dr k1).tr (O X2)).tr (((Kx.rf _ _ _ w2).dr k3).tr ((O X4).low (O X2).size))⟩
 ·
  obtain⟨r,hr⟩:∃ r:Nat,G.T.lk=r:=⟨G.T.lk.toNat,by omega⟩;rw [hr] at c2;have HQ:=Y (show m.putN G.T n=m.setR G.T r n by unfold Zf.putN; rw [if_neg (by omega),hr]; rfl);have hb:((r:Int) != (-1:Int))=true:=by simp
  have HS:=Y (Dr (O HM) hT r (by omega) n hn);go_enter Tryz.func80,Tryz.ntmps80
  go_wp2_with fail
  refine(O HS).mono ?_;rintro e w2 ⟨rfl,h2,x2⟩;have H2:=Y h2;have X2:=Y x2;clear h2 x2;go_wp2;go_ret;rw [O HQ];exact⟨rfl,O H2,O X2⟩
def Zzw (o:Option Int)(v:Value):Prop:=∃ n:Int,v=.tuple #[.int .u64 n,.bool o.isSome]∧∀ k,o=some k→n=k
theorem Zoe (h:MR w A B N G mb sb m)(hT:TK G.T) :
 Calls Tryz.prog 123 #[.pointer (some ⟨mb,0,none⟩)] w fun e w'=>(∃ v,e=.returned v∧Zzw (m.takeN G.T).2 v)∧MR w' A B N G mb sb (m.takeN G.T).1∧Kx w.heap.size mb sb w w':=by
 obtain⟨P,hmi⟩:=h.row;have c2:w.cell? ⟨mb,2,none⟩=some (.int .i64 G.T.lk):=(cR hmi 2);have HM:=Y h;have r16:=hT.r16;clear h;rcases hT.lk with hl | ⟨hl0,hl1,hl2⟩
 ·
  rw [hl] at c2;clear hmi;go_enter Tryz.func123,Tryz.ntmps123
  go_wp2_with fail
  refine(Ns (O HM) hT).mono ?_;rintro e w1 ⟨rfl,k1,hw1⟩;subst w1;clear c2;go_wp2_with fail
  refine(Cl ((O HM).dr k1) _ 8).mono ?_;rintro e w2 ⟨rfl,h2,x2⟩;have HM2:=Y h2;have X2:=Y x2;clear h2 x2;cases hz:(m.load (m.sp G.T) 8).2 with
  | none =>
   have HQ:=Y (show m.takeN G.T=((m.load (m.sp G.T) 8).1,none) by unfold Zf.takeN; rw [if_pos hl,if_neg (by rw [hz]; decide)]);unfold Ly;simp only [Option.isSome_none,Option.getD_none];go_wp2;go_ret2;rw [O HQ];exact⟨⟨_,rfl,0,rfl,fun k hk=>by cases hk⟩,O HM2,((Kx.rf _ _ _ w).dr k1).tr (O X2)⟩
  | some x =>
   unfold Ly;simp only [Option.isSome_some,Option.getD_some];go_wp2_with fail
   refine(Ns (O HM2) hT).mono ?_;rintro e w3 ⟨rfl,k3,hw3⟩;subst w3;go_wp2_with fail
   refine(Rj ((O HM2).dr k3) hT _ (Mi _)).mono ?_;rintro e w4 ⟨rfl,h4,x4⟩;have HM4:=Y h4;have X4:=Y x4;clear h4 x4;cases hy:((m.load (m.sp G.T) 8).1.setSP G.T (IntKind.u64.wrap ((m.load (m.sp G.T) 8).1.sp G.T+8))).2 with
   | false =>
    have HQ:=Y (show m.takeN G.T=(((m.load (m.sp G.T) 8).1.setSP G.T (IntKind.u64.wrap ((m.load (m.sp G.T) 8).1.sp G.T+8))).1,none) by unfold Zf.takeN; rw [if_pos hl,if_pos (by rw [hz]; rfl),if_neg (by rw [hy]; decide)]);go_wp2;go_ret2;rw [O HQ];exact⟨⟨_,rfl,x,rfl,fun k hk=>by cases hk⟩,O HM4,(((Kx.rf _ _ _ w).dr k1).tr (O X2)).tr (((Kx.rf _ _ _ w2).dr k3).tr ((O X4).low (O X2).size))⟩
   | true =>
    have HQ:=Y (show m.takeN G.T=(((m.load (m.sp G.T) 8).1.setSP G.T (IntKind.u64.wrap ((m.load (m.sp G.T) 8).1.sp G.T+8))).1,some x) by unfold Zf.takeN; rw [if_pos hl,if_pos (by rw [hz]; rfl),if_pos hy,hz]);go_wp2;go_ret2;rw [O HQ];exact⟨⟨_,rfl,x,rfl,fun k hk=>by injection hk⟩,O HM4,(((Kx.rf _ _ _ w).dr k1).tr (O X2)).tr (((Kx.rf _ _ _ w2).dr k3).tr ((O X4).low (O X2).size))⟩
 ·
  obtain⟨r,hr⟩:∃ r:Nat,G.T.lk=r:=⟨G.T.lk.toNat,by omega⟩;rw [hr] at c2;have hr16:r<16:=by omega
  have hr1:(r:Int)<16:=by omega
  have HQ:=Y (show m.takeN G.T=(m,some (m.rg r)) by unfold Zf.takeN; rw [if_neg (by omega),hr]; rfl);have hb:((r:Int) != (-1:Int))=true:=by simp
  have c3:=(Zd hmi (42+r)).trans (Js _ r hr16);clear hmi hr;go_enter Tryz.func123,Tryz.ntmps123
  go_upto_region 2 with fail
  go_quiet (fail)
  go_wp2;go_ret2;rw [O HQ];exact⟨⟨_,rfl,m.rg r,rfl,fun k hk=>by injection hk⟩,(O HM).dr _,(Kx.rf _ _ _ w).dr _⟩
theorem Zjl (h:MR w A B N G mb sb m)(hT:TK G.T)(F fc:Nat)(fp:Option Addr)(hf:G.cf=.slice fp F fc)(f n:Int)(hn:0≤n∧n<18446744073709551616) :
 Calls Tryz.prog 60 #[.pointer (some ⟨mb,0,none⟩),.int .i64 f,.int .u64 n] w fun e w'=>e=.returned (.bool (m.call G.T F f n).2)∧MR w' A B N G mb sb ((m.call G.T F f n).1)∧Kx w.heap.size mb sb w w':=by
 have HA:=Y (Im h hT);go_enter Tryz.func60,Tryz.ntmps60
 go_wp2_with fail
 refine(O HA).mono ?_;rintro e w1 ⟨rfl,h1,x1⟩;have HM1:=Y h1;have X1:=Y x1;clear h1 x1 HA;cases ha:(m.aligned G.T).2 with
 | false =>
  have HQ:=Y (show m.call G.T F f n=((m.aligned G.T).1,false) by unfold Zf.call; rw [if_neg (by rw [ha]; decide)]);go_wp2;go_ret;rw [O HQ];exact⟨rfl,O HM1,O X1⟩
 | true =>
  have ha1:(m.aligned G.T).1=m:=by
   unfold Zf.aligned at ha ⊢;split
   ·
    rfl
   ·
    rename_i hx;rw [if_neg hx] at ha;cases ha
  rw [ha1] at HM1;go_wp2_with fail
  refine(Zrt (O HM1) hT n hn).mono ?_;rintro e w2 ⟨rfl,h2,x2⟩;have HM2:=Y h2;have X2:=Y ((O X1).tw x2);clear h2 x2;cases hz:(m.putN G.T n).2 with
  | false =>
   have HQ:=Y (show m.call G.T F f n=((m.putN G.T n).1,false) by unfold Zf.call; rw [if_pos ha,if_neg (by rw [hz]; decide)]);go_wp2;go_ret;rw [O HQ];exact⟨rfl,O HM2,O X2⟩
  | true =>
   have HQ:=Y (show m.call G.T F f n=(m.putN G.T n).1.enter F f by unfold Zf.call; rw [if_pos ha,if_pos hz]);go_wp2_with fail
   refine(Zev (O HM2) F fc fp hf f).mono ?_;rintro e w3 ⟨rfl,h3,x3⟩;have HM3:=Y h3;have X3:=Y ((O X2).tw x3);clear h3 x3;go_wp2;go_ret;rw [O HQ];exact⟨rfl,O HM3,O X3⟩
end
section
variable {P:Program} {ops:Array Oper} {Q:Exit→Act→World→Prop} {md:Region.Mode} {C:World→Prop} {d:Nat}
theorem Iu {i:Nat}{oi:Oper}{v:Value}(hi:ops[i]?=some oi)(B:Nat→Bool)(hB:∀ j oj,ops[j]?=some oj→B j=true→∃ e ∈ oj.after,Region.binds md e=true∧(e.on=i∨B e.on=true))(hBi:B i=false)(hBd:B d=true)
 (hsel:∀(j:Nat) (o:Oper) cs b,ops[j]?=some o→o.op≠.select cs b) (hQ:∀ c a w,Q (.panic c) (a.put oi.dst v) w→Q (.panic c) a w) :
 ∀(n:Nat) (L:Array Bool) (a:Act) (w:World),(∀ j oj,ops[j]?=some oj→j≠i→L.getD j true=false→(∀ e ∈ oj.after,Region.binds md e=true→e.on≠i)→oi.apart ops oj=true) →
  i ∈ Region.ready md ops L→YieldsIf P ops C oi v a→(∀ j,B j=true→L.getD j true=false)→C w→Ye P md ops Q C d n (L.setIfInBounds i true) (a.put oi.dst v) w→Ye P md ops Q C d (n+1) L a w:=by
 intro n;have hid:i≠d:=fun e=>by rw [e,hBd] at hBi; cases hBi
 induction n with
 | zero =>
  intro L a w _ hr hy _ hC H;refine⟨fun h=>(by rw [h] at hr; cases hr),fun j hj=>?_⟩;by_cases hji:j=i
  ·
   subst hji;exact hy.wpOp hi hC ⟨fun _=>hC,H⟩
  ·
   have hx:=ready_mono hj hji;rw [H.1] at hx;cases hx
 | succ n ih =>
  intro L a w hfree hr hy hL hC H;refine⟨fun h=>(by rw [h] at hr; cases hr),fun j hj=>?_⟩;by_cases hji:j=i
  ·
   subst hji;exact hy.wpOp hi hC ⟨fun _=>hC,H⟩
  ·
   have h1:=H.2 j (ready_mono hj hji);obtain⟨hun,oj,hoj,hall⟩:=mem_ready.1 hj;have hiu:=(mem_ready.1 hr).1;have hno:∀ e ∈ oj.after,Region.binds md e=true→∀ x,L.getD x true=false→e.on≠x:=fun e he hb x hx hq=>by
    have k1:=hall e he hb;rw [hq] at k1;rcases Nat.lt_or_ge x L.size with h' | h'
    ·
     simp [h'] at hx k1;rw [hx] at k1;cases k1
    ·
     simp [Array.getElem?_eq_none h'] at k1
   have hnot:∀ e ∈ oj.after,Region.binds md e=true→e.on≠i:=fun e he hb=>hno e he hb i hiu;have hjB:B j=false:=by
    cases hb:B j with
    | false=>rfl
    | true =>
     obtain⟨e,he,hb1,hq⟩:=hB j oj hoj hb;rcases hq with hq | hq
     ·
      exact absurd hq (hnot e he hb1)
     ·
      exact absurd rfl (hno e he hb1 e.on (hL _ hq))
   have hjd:j≠d:=fun e=>by rw [e,hBd] at hjB; cases hjB
   have h2:=wpOp_putIf hoj (hfree j oj hoj hji hun hnot) (fun cs b=>hsel i oi cs b hi) (fun cs b=>hsel j oj cs b hoj) hQ hy h1;refine wpOp_mono (fun a' w' h3=>?_) h2;have hLj:∀ k,B k=true→(L.setIfInBounds j true).getD k true=false:=fun k hk=>by
    have hjk:j≠k:=fun e=>by rw [e,hk] at hjB; cases hjB
    rw [getD_set_ne true hjk]; exact hL k hk
   have hC':C w':=h3.2.1 (by rw [getD_set_ne true hjd,getD_set_ne true hid]; exact hL d hBd);refine⟨fun _=>hC',ih (L.setIfInBounds j true) a' w' (fun k ok hk hki hku hno=>?_) (ready_mono hr (Ne.symm hji)) h3.1 hLj hC' ?_⟩
   ·
    refine hfree k ok hk hki ?_ hno;by_cases hjk:j=k
    ·
     subst hjk; exact hun
    ·
     rw [getD_set_ne true hjk] at hku; exact hku
   ·
    rw [Array.setIfInBounds_comm _ _ hji];exact h3.2.2
def upV (md:Region.Mode)(ops:Array Oper)(i:Nat):List Nat:=(List.range ops.size).foldl (fun acc j=>match ops[j]? with
 | some oj=>if (oj.after.any fun e=>Region.binds md e&&(e.on==i||acc.contains e.on))=true then acc++[j] else acc
 | none=>acc) []
def okV (md:Region.Mode)(ops:Array Oper)(L:Array Bool)(d i:Nat)(B:List Nat):Bool :=
 B.contains d&&(!(B.contains i)&&B.all fun j=>!(L.getD j true)&&(match ops[j]? with
  | some oj=>oj.after.any fun e=>Region.binds md e&&(e.on==i||B.contains e.on)
  | none=>false))
theorem vT (i:Nat){oi:Oper}{v:Value}{n:Nat}{L:Array Bool}{a a':Act}{w:World}(hC:C w)(h:Ye P md ops Q C d n (L.setIfInBounds i true) a' w)(hi:ops[i]?=some oi:=by rfl)
 (hk:(okV md ops L d i (upV md ops i)&&(Region.noSelect ops&&(Region.free md ops L i&&(Region.ready md ops L).contains i)))=true:=by kernel_rfl) (hg:Region.wanted oi (yielded ops a.tmps)=true:=by rfl)
 (hy:∀(w:World),C w→Sem.run P (execOp a.eval oi) w=Result.ok (Next.value v) w:=by intro V hV; (try dsimp only at hV); go_simp; all_goals (with_reducible rfl)) (hQ:∀ c a w,Q (.panic c) (a.put oi.dst v) w→Q (.panic c) a w:=by exact fun _ _ _ h=>h) (ha:a.put oi.dst v=a':=by(try simp only [Act.put,zA,zB,zC,zD,zE,zF]); with_reducible rfl):Ye P md ops Q C d (n+1) L a w:=by
 subst ha;simp only [Bool.and_eq_true] at hk;obtain⟨h1,h2,h3,h4⟩:=hk;unfold okV at h1;simp only [Bool.and_eq_true] at h1;obtain⟨b1,b2,b3⟩:=h1;have b2:(upV md ops i).contains i=false:=by simpa using b2
 rw [List.all_eq_true] at b3;refine Iu hi (fun j=>(upV md ops i).contains j) (fun j oj hoj hj=>?_) b2 b1 (Region.noSelect_spec h2) hQ n L a w (Region.free_spec hi h3) (by simpa using h4) (Or.inl ⟨hg,hy⟩) (fun j hj=>?_) hC h
 ·
  have h5:=b3 j (by simpa using hj);rw [hoj] at h5;simp only [Bool.and_eq_true] at h5;obtain⟨k,hk,hq⟩:=Array.any_eq_true.1 h5.2;simp only [Bool.and_eq_true,Bool.or_eq_true,beq_iff_eq] at hq;exact⟨_,Array.getElem_mem hk,hq.1,hq.2⟩
 ·
  have h5:=b3 j (by simpa using hj);simp only [Bool.and_eq_true] at h5;simpa using h5.1
theorem vD (i:Nat){oi:Oper}{v:Value}{n:Nat}{L:Array Bool}{a a':Act}{w:World}(hC:C w)(h:Ye P md ops Q C d n (L.setIfInBounds i true) a' w)(hi:ops[i]?=some oi:=by rfl)
 (hk:(okV md ops L d i (upV md ops i)&&(Region.noSelect ops&&(Region.free md ops L i&&(Region.ready md ops L).contains i)))=true:=by kernel_rfl) (hg:Region.wanted oi (yielded ops a.tmps)=true:=by rfl)
 (hy:∀(w:World),C w→Sem.run P (execOp a.eval oi) w=Result.ok (Next.value v) w:=by intro V hV; (repeat obtain⟨_,hV⟩:=hV); go_simp; all_goals (with_reducible rfl)) (hQ:∀ c a w,Q (.panic c) (a.put oi.dst v) w→Q (.panic c) a w:=by exact fun _ _ _ h=>h) (ha:a.put oi.dst v=a':=by(try simp only [Act.put,zA,zB,zC,zD,zE,zF]); with_reducible rfl):Ye P md ops Q C d (n+1) L a w :=
 vT i hC h hi hk hg hy hQ ha
theorem vO (i:Nat){oi:Oper}{n:Nat}{L:Array Bool}{a:Act}{w:World}(h:∀ K':Act→World→Prop,_root_.Go.Shut (∀ a w,((L.setIfInBounds i true).getD d true=false→C w)→Ye P md ops Q C d n (L.setIfInBounds i true) a w→K' a w)→if Region.wanted oi (yielded ops a.tmps)=true then Oper.wp P oi a w K' Q else K' (a.put oi.dst undef) w)(hr:Region.ready md ops L=[i]:=by kernel_rfl)(ho:ops[i]?=some oi:=by rfl):Ye P md ops Q C d (n+1) L a w:=Gw hr ho h
theorem vE (i:Nat){W:World}{oi:Oper}{v:Value}{n:Nat}{L:Array Bool}{a a':Act}{j:Nat}(h:Ye P md ops Q (fun V=>∃ k,V=W.drewN k) d n (L.setIfInBounds i true) a' (W.drewN j))(hi:ops[i]?=some oi:=by rfl)
 (hk:(okV md ops L d i (upV md ops i)&&(Region.noSelect ops&&(Region.free md ops L i&&(Region.ready md ops L).contains i)))=true:=by kernel_rfl) (hg:Region.wanted oi (yielded ops a.tmps)=true:=by rfl)
 (hy:∀ k,Sem.run P (execOp a.eval oi) (W.drewN k)=Result.ok (Next.value v) (W.drewN k):=by intro k; go_simp; all_goals (with_reducible rfl)) (hQ:∀ c a w,Q (.panic c) (a.put oi.dst v) w→Q (.panic c) a w:=by exact fun _ _ _ h=>h) (ha:a.put oi.dst v=a':=by(try simp only [Act.put,zA,zB,zC,zD,zE,zF]); with_reducible rfl):Ye P md ops Q (fun V=>∃ k,V=W.drewN k) d (n+1) L a (W.drewN j) :=
 vT i ⟨j,rfl⟩ h hi hk hg (fun V hV=>by obtain⟨k,rfl⟩:=hV; exact hy k) hQ ha
theorem tE (i:Nat){W:World}{oi:Oper}{v:Value}{n:Nat}{L:Array Bool}{a a':Act}{j:Nat}(h:wpAnyH P md ops Q (fun V=>∃ k,V=W.drewN k) n (L.setIfInBounds i true) a' (W.drewN j))(h0:ops[i]?=some oi:=by rfl)(h1:(Region.noSelect ops&&(Region.free md ops L i&&(Region.ready md ops L).contains i))=true:=by kernel_rfl)(hg:Region.wanted oi (yielded ops a.tmps)=true:=by rfl)
 (hy:∀ k,Sem.run P (execOp a.eval oi) (W.drewN k)=Result.ok (Next.value v) (W.drewN k):=by intro k; go_simp; all_goals (with_reducible rfl)) (hq:∀(c:List PanicEntry) (a:Act) (w:World),Q (Exit.panic c) (a.put oi.dst v) w→Q (Exit.panic c) a w:=by exact fun _ _ _ h=>h) (ha:a.put oi.dst v=a':=by(try simp only [Act.put,zA,zB,zC,zD,zE,zF]); with_reducible rfl):wpAnyH P md ops Q (fun V=>∃ k,V=W.drewN k) (n+1) L a (W.drewN j):=by
 subst ha;simp only [Bool.and_eq_true] at h1;exact wpAnyH_take h0 h1.1 h1.2.1 h1.2.2 hq (Or.inl ⟨hg,fun V hV=>by obtain⟨k,rfl⟩:=hV; exact hy k⟩) ⟨j,rfl⟩ h
end
end Go.Proofs.YtnlcfnjeagmemaaGreatDoor
