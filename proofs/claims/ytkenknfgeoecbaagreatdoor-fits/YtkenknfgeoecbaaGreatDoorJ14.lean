import Derived.Test.YtkenknfgeoecbaaGreatDoorJ13
import Derived.Test.YtkenknfgeoecbaaGreatDoorShelf
import Derived.BigQuiet
namespace Go.Proofs.YtkenknfgeoecbaaGreatDoor
open Go.RowKit
set_option maxHeartbeats 8000000
set_option maxRecDepth 100000
structure Yb where
 op:Int
 d:Int
 a:Int
 bb:Int
 n:Int
 f:Int
 args:List (Int×Int)
 outs:List Int
def Yb.spare (i:Yb):Bool:=Ri i.op i.d i.a i.bb i.n i.f i.args.length i.outs.length
def Ca (c:Bool)(x:Option (List UInt8)):Option (List UInt8):=if c then x else some []
def Lw (op m:Int):Bool:=bits .and .u8 (Nt op) m != 0
def Jb (i:Yb):Option (List UInt8):=Xv (Zm 1 18 i.op) (if i.spare then none else
 Xv (Ca (Lw i.op 1) (Zm 0 255 i.d)) (Xv (Ca (Lw i.op 2) (Zm 0 255 i.a)) (Xv (Ca (Lw i.op 4) (Zm 0 255 i.bb)) (Xv (Ca (Lw i.op 8) (Zto i.op i.n)) (Xv (Ca (Lw i.op 16) (Zm 0 255 i.f)) (Xv (Ca (Lw i.op 32) (Jh 0 8 Zlt i.args)) (Ca (Lw i.op 64) (Jh 0 4 (Zm 0 255) i.outs))))))))
theorem Wt.below {w w':World}{b:Nat}{v:Value}{l:List UInt8}(h:Wt w b v l)(hb:Below w.heap.size w w'):Wt w' b v l :=
 have e:=hb.block b h.lt;⟨(World.cell?_of_block e).trans h.cell,(World.frozen?_of_block (a:=⟨b,0,none⟩) e).trans h.fz,World.ownsRow.kept h.row (⟨hb.os,hb.tape,hb.output,hb.size,fun q hq _=>hb.block q hq⟩:w.grownBy w' none) (by cases v.ownBlock <;> simp)⟩
theorem Sl {w w':World}{b:Nat}(hb:Below w.heap.size w w')(h:b<=w.heap.size):Ws w w' b :=
 ⟨⟨hb.os,hb.tape,hb.output,hb.size,fun q hq=>hb.block q (by omega)⟩,fun k o hk _ _=>by
  have hlt:k<w.heap.size:=by
   rcases Nat.lt_or_ge k w.heap.size with y | y
   ·exact y
   ·simp [Array.getElem?_eq_none y] at hk
  exact(hb.block k hlt).trans hk⟩
structure Ij (w wk:World)(b T:Nat)(arr:Array Value)(v:Value)(l:List UInt8):Prop where
 ws:Ws w wk b
 wt:Wt wk b v l
 row:wk.heap[T]?=some (.cells arr 110 (0,0))
theorem Ij.step {w wk wn:World}{b T:Nat}{arr:Array Value}{v v':Value}{l l':List UInt8}(h:Ij w wk b T arr v l)(hb:b<T)(hws:Ws wk wn b)(hwt:Wt wn b v' l'):Ij w wn b T arr v' l' :=
 ⟨h.ws.trans hws,hwt,hws.oth T _ h.row (by intro e; injection e with e; omega) (by intro c fz e; injection e with e1 e2 e3; exact absurd e2 (by decide))⟩
theorem Ij.cells {w wk:World}{b T:Nat}{arr:Array Value}{v:Value}{l:List UInt8}(h:Ij w wk b T arr v l)(j:Nat)(x:Value)(hx:arr[j]?=some x):wk.cell? ⟨T,j,none⟩=some x:=(Zl h.row j).trans hx
theorem Zlv (x:Int×Int)(bs:List UInt8)(h:Zlt x=some bs):bs.length<=2:=by have:=Mr (A:=1) (C:=1) (fun x hx=>Nat.le_of_eq (Zq hx)) (fun x hx=>Nat.le_of_eq (Zq hx)) h;omega
theorem Zqn {op n:Int}{bs:List UInt8}(h:Zto op n=some bs):bs.length<=8:=by
 unfold Zto at h;split at h
 ·cases h
 ·injection h with h;subst h;rw [Zog];unfold Lc;split <;> omega
theorem Ztp (x:Option (List UInt8)):Xv x (some [])=x:=by cases x <;> simp [Xv]
theorem Ztq (x:Option (List UInt8)):Xv (some []) x=x:=by cases x <;> simp [Xv]
theorem Ydv (b:Nat)(hb1:2<b)(v:Value)(l:List UInt8)(i:Yb)(av ov:Value)(w:World)(h:Wt w b v l)(hl:l.length<=88000000000)(hg:Zp w)(h1:1<=i.op)(h18:i.op<=18)(hneed:Nt i.op=7)(pa:List (Array Value×(Int×Int)))(hpa:pa.map (·.2)=i.args)(hpv:∀ p ∈ pa,p.1=#[.int .i64 p.2.1,.int .i64 p.2.2])(hargs:LsB 2 w b av pa)(houts:Kl w b ov i.outs)(hal:i.args.length<9223372036854775808)(hol:i.outs.length<9223372036854775808) :
 Calls Tryz.prog 231 #[.pointer (some ⟨b,0,none⟩),.agg #[.int .i64 i.op,.int .i64 i.d,.int .i64 i.a,.int .i64 i.bb,.int .u64 i.n,.int .i64 i.f,av,ov]] w (Nv b l (Jb i) w):=by
 have hform:Jb i=Xv (some [Xw i.op]) (if i.spare then none else Xv (Zm 0 255 i.d) (Xv (Zm 0 255 i.a) (Zm 0 255 i.bb))):=by unfold Jb Lw;rw [hneed,show Zm 1 18 i.op=some [Xw i.op] from if_pos ⟨h1,h18⟩];simp only [show(bits .and .u8 7 1 != 0)=true by decide,show(bits .and .u8 7 2 != 0)=true by decide,show(bits .and .u8 7 4 != 0)=true by decide,show(bits .and .u8 7 8 != 0)=false by decide,show(bits .and .u8 7 16 != 0)=false by decide,show(bits .and .u8 7 32 != 0)=false by decide,show(bits .and .u8 7 64 != 0)=false by decide,Ca,if_true,Bool.false_eq_true,if_false,Ztp]
 have HF:=Zd hform;obtain⟨ap,ac,hav⟩:=hargs.shape;obtain⟨op',oc,hov⟩:=houts.shape;have hpl:pa.length=i.args.length:=by rw [← hpa]; simp
 rw [hpl] at hav;subst hav hov;have hbl:=h.lt;have HA:=Zd hargs;have HO:=Zd houts;have HAL:=Zd (show pa.length<9223372036854775808 by omega);have HPA:=Zd hpa;have HOL:=Zd hol;have HPV:=Zd hpv;have HPS:=Zd (show ∀ p ∈ pa,p.1.size=2∧p.1.all (·.oneCell')=true from fun p hp=>by rw [hpv p hp]; exact⟨rfl,by simp [Value.oneCell']⟩);have HG:=Zd hg;have HNUM:=Zd (show Zm 1 18 i.op=some [Xw i.op] from if_pos ⟨h1,h18⟩);have HN:=Zd (fun X:Obj=>Jt b v l i.op 1 18 (w.alloc X) (h.alloc X) (by omega));have HWA:=Zd (fun X:Obj=>Xu w X b (by omega));clear hargs houts hg h hform hpa hpv hpl;go_enter Tryz.func231,Tryz.ntmps231
 go_wp2_with fail
 refine(Za HN _).mono ?_;rintro e w1 ⟨hws,hm⟩;rw [Za HNUM] at hm;obtain⟨rfl,v1,hw1⟩:=hm;have st:Ij w w1 b w.heap.size #[.int .i64 i.op,.int .i64 i.d,.int .i64 i.a,.int .i64 i.bb,.int .u64 i.n,.int .i64 i.f,.slice ap i.args.length ac,.slice op' i.outs.length oc] v1 (l++[Xw i.op]):=⟨(Za HWA _).trans hws,hw1,Zlu hbl (by decide) hws⟩;have ST:=Zd st;have hb1w:=hw1.lt;have HROW:=Zd st.row;have HS:=Zd (Cs i.op i.d i.a i.bb i.n i.f ap op' i.args.length i.outs.length ac oc w1 h1 h18 ((Za HG).ws hb1 st.ws) (by omega));clear hws hw1 HN st;go_wp2_with (refine wpList_load_row rfl 110 (.tmp 3) rfl w.heap.size rfl 110 _ (0,0) _ (Za HROW) Tryz.underlying110 rfl (Tryz.infInss.trans rfl) ?_)
 refine(Za HS).mono ?_;rintro e w2 ⟨rfl,hbel⟩;have st:Ij w w2 b w.heap.size #[.int .i64 i.op,.int .i64 i.d,.int .i64 i.a,.int .i64 i.bb,.int .u64 i.n,.int .i64 i.f,.slice ap i.args.length ac,.slice op' i.outs.length oc] v1 (l++[Xw i.op]):=(Za ST).step hbl (Sl hbel (by omega)) ((Za ST).wt.below hbel);clear hbel HS ST HROW;cases hsp:Ri i.op i.d i.a i.bb i.n i.f i.args.length i.outs.length with
 | true =>
  have HR:=Zd (show Jb i=none by rw [Za HF,show i.spare=true from hsp]; rfl);have ST:=Zd st;clear st;go_wp2_with fail
  refine(Sq _ _).mono ?_;rintro e w3 ⟨rfl,hw⟩;subst w3;exact⟨rfl,(Za ST).ws,by rw [Za HR]⟩
 | false =>
  have HF2:=Zd (show Jb i=Xv (some [Xw i.op]) (Xv (Zm 0 255 i.d) (Xv (Zm 0 255 i.a) (Zm 0 255 i.bb))) by rw [Za HF,show i.spare=false from hsp]; rfl);clear HF;obtain⟨l2,hl2⟩:∃ x,x=l++[Xw i.op]:=⟨_,rfl⟩;have hn2:l2.length<=l.length+1:=by rw [hl2]; simp
  rw [← hl2] at st;have c0:=st.cells 0 _ rfl;have HND:=Zd (Ut i.op h1 h18 w2 ((Za HG).ws hb1 st.ws));have ST:=Zd st;have HL2:=Zd hl2;clear st hl2 hsp;go_wp2_with fail
  refine(Za HND).mono ?_;rintro e wx ⟨rfl,hwx⟩;subst wx;rw [hneed];clear HND;go_wp2_with fail
  refine(Yw 7 1 _).mono ?_;rintro e wx ⟨rfl,hwx⟩;subst wx;rw [show(bits .and .u8 7 1 != 0)=true by decide];have st:=Za ST;have c1:=st.cells 1 (.int .i64 i.d) rfl;have HM:=Zd (Dn b v1 l2 i.d w2 st.wt (by omega));clear st;go_wp2_with fail
  refine(Za HM).mono ?_;rintro e w3 ⟨hws,hm⟩;cases hr:Zm 0 255 i.d with
  | none=>rw [hr] at hm;subst hm;refine⟨rfl,(Za ST).ws.trans hws,?_⟩;have hx:=Za HF2;rw [hr] at hx;have hx2:Jb i=none:=hx.trans rfl;rw [hx2]
  | some bs3 =>
   rw [hr] at hm;obtain⟨rfl,v3,hw⟩:=hm;have hbs:bs3.length<=1:=Nat.le_of_eq (Zq hr);have st:=(Za ST).step hbl hws hw;have HR3:=Zd hr;obtain⟨l3,hlk⟩:∃ x,x=l2++bs3:=⟨_,rfl⟩;have hn3:l3.length<=l2.length+1:=by rw [hlk]; simp; omega
   rw [← hlk] at st;have HL3:=Zd hlk;clear hws hw hr hlk hbs ST HM c1;have ST:=Zd st;clear st;go_wp2_with fail
   refine(Yw 7 2 _).mono ?_;rintro e wx ⟨rfl,hwx⟩;subst wx;rw [show(bits .and .u8 7 2 != 0)=true by decide];have st:=Za ST;have c2:=st.cells 2 (.int .i64 i.a) rfl;have HM:=Zd (Dn b v3 l3 i.a w3 st.wt (by omega));clear st;go_wp2_with fail
   refine(Za HM).mono ?_;rintro e w4 ⟨hws,hm⟩;cases hr:Zm 0 255 i.a with
   | none=>rw [hr] at hm;subst hm;refine⟨rfl,(Za ST).ws.trans hws,?_⟩;have hx:=Za HF2;rw [Za HR3,hr] at hx;have hx2:Jb i=none:=hx.trans rfl;rw [hx2]
   | some bs4 =>
    rw [hr] at hm;obtain⟨rfl,v4,hw⟩:=hm;have hbs:bs4.length<=1:=Nat.le_of_eq (Zq hr);have st:=(Za ST).step hbl hws hw;have HR4:=Zd hr;obtain⟨l4,hlk⟩:∃ x,x=l3++bs4:=⟨_,rfl⟩;have hn4:l4.length<=l3.length+1:=by rw [hlk]; simp; omega
    rw [← hlk] at st;have HL4:=Zd hlk;clear hws hw hr hlk hbs ST HM c2;have ST:=Zd st;clear st;go_wp2_with fail
    refine(Yw 7 4 _).mono ?_;rintro e wx ⟨rfl,hwx⟩;subst wx;rw [show(bits .and .u8 7 4 != 0)=true by decide];have st:=Za ST;have c3:=st.cells 3 (.int .i64 i.bb) rfl;have HM:=Zd (Dn b v4 l4 i.bb w4 st.wt (by omega));clear st;go_wp2_with fail
    refine(Za HM).mono ?_;rintro e w5 ⟨hws,hm⟩;cases hr:Zm 0 255 i.bb with
    | none=>rw [hr] at hm;subst hm;refine⟨rfl,(Za ST).ws.trans hws,?_⟩;have hx:=Za HF2;rw [Za HR3,Za HR4,hr] at hx;have hx2:Jb i=none:=hx.trans rfl;rw [hx2]
    | some bs5 =>
     rw [hr] at hm;obtain⟨rfl,v5,hw⟩:=hm;have hbs:bs5.length<=1:=Nat.le_of_eq (Zq hr);have st:=(Za ST).step hbl hws hw;have HR5:=Zd hr;obtain⟨l5,hlk⟩:∃ x,x=l4++bs5:=⟨_,rfl⟩;have hn5:l5.length<=l4.length+1:=by rw [hlk]; simp; omega
     rw [← hlk] at st;have HL5:=Zd hlk;clear hws hw hr hlk hbs ST HM c3;have ST:=Zd st;clear st;go_wp2_with fail
     refine(Yw 7 8 _).mono ?_;rintro e wx ⟨rfl,hwx⟩;subst wx;rw [show(bits .and .u8 7 8 != 0)=false by decide];go_wp2_with fail
     refine(Yw 7 16 _).mono ?_;rintro e wx ⟨rfl,hwx⟩;subst wx;rw [show(bits .and .u8 7 16 != 0)=false by decide];go_wp2_with fail
     refine(Yw 7 32 _).mono ?_;rintro e wx ⟨rfl,hwx⟩;subst wx;rw [show(bits .and .u8 7 32 != 0)=false by decide];go_wp2_with fail
     refine(Yw 7 64 _).mono ?_;rintro e wx ⟨rfl,hwx⟩;subst wx;rw [show(bits .and .u8 7 64 != 0)=false by decide];go_wp2;refine bodyPost_end (results_none (fn:=Tryz.f231) rfl _ _ _) rfl ?_;refine⟨(Za ST).ws,?_⟩;have hx:=Za HF2;rw [Za HR3,Za HR4,Za HR5] at hx;have hx2:Jb i=some ([Xw i.op]++(bs3++(bs4++bs5))):=hx.trans rfl;rw [hx2];refine⟨rfl,v5,?_⟩;have hw:=(Za ST).wt;rw [Za HL5,Za HL4,Za HL3,Za HL2] at hw;simpa using hw
theorem Zyv (b:Nat)(hb1:2<b)(v:Value)(l:List UInt8)(i:Yb)(av ov:Value)(w:World)(h:Wt w b v l)(hl:l.length<=88000000000)(hg:Zp w)(h1:1<=i.op)(h18:i.op<=18)(hneed:Nt i.op=64)(pa:List (Array Value×(Int×Int)))(hpa:pa.map (·.2)=i.args)(hpv:∀ p ∈ pa,p.1=#[.int .i64 p.2.1,.int .i64 p.2.2])(hargs:LsB 2 w b av pa)(houts:Kl w b ov i.outs)(hal:i.args.length<9223372036854775808)(hol:i.outs.length<9223372036854775808) :
 Calls Tryz.prog 231 #[.pointer (some ⟨b,0,none⟩),.agg #[.int .i64 i.op,.int .i64 i.d,.int .i64 i.a,.int .i64 i.bb,.int .u64 i.n,.int .i64 i.f,av,ov]] w (Nv b l (Jb i) w):=by
 have hform:Jb i=Xv (some [Xw i.op]) (if i.spare then none else Jh 0 4 (Zm 0 255) i.outs):=by unfold Jb Lw;rw [hneed,show Zm 1 18 i.op=some [Xw i.op] from if_pos ⟨h1,h18⟩];simp only [show(bits .and .u8 64 1 != 0)=false by decide,show(bits .and .u8 64 2 != 0)=false by decide,show(bits .and .u8 64 4 != 0)=false by decide,show(bits .and .u8 64 8 != 0)=false by decide,show(bits .and .u8 64 16 != 0)=false by decide,show(bits .and .u8 64 32 != 0)=false by decide,show(bits .and .u8 64 64 != 0)=true by decide,Ca,if_true,Bool.false_eq_true,if_false,Ztq]
 have HF:=Zd hform;obtain⟨ap,ac,hav⟩:=hargs.shape;obtain⟨op',oc,hov⟩:=houts.shape;have hpl:pa.length=i.args.length:=by rw [← hpa]; simp
 rw [hpl] at hav;subst hav hov;have hbl:=h.lt;have HA:=Zd hargs;have HO:=Zd houts;have HAL:=Zd (show pa.length<9223372036854775808 by omega);have HPA:=Zd hpa;have HOL:=Zd hol;have HPV:=Zd hpv;have HPS:=Zd (show ∀ p ∈ pa,p.1.size=2∧p.1.all (·.oneCell')=true from fun p hp=>by rw [hpv p hp]; exact⟨rfl,by simp [Value.oneCell']⟩);have HG:=Zd hg;have HNUM:=Zd (show Zm 1 18 i.op=some [Xw i.op] from if_pos ⟨h1,h18⟩);have HN:=Zd (fun X:Obj=>Jt b v l i.op 1 18 (w.alloc X) (h.alloc X) (by omega));have HWA:=Zd (fun X:Obj=>Xu w X b (by omega));clear hargs houts hg h hform hpa hpv hpl;go_enter Tryz.func231,Tryz.ntmps231
 go_wp2_with fail
 refine(Za HN _).mono ?_;rintro e w1 ⟨hws,hm⟩;rw [Za HNUM] at hm;obtain⟨rfl,v1,hw1⟩:=hm;have st:Ij w w1 b w.heap.size #[.int .i64 i.op,.int .i64 i.d,.int .i64 i.a,.int .i64 i.bb,.int .u64 i.n,.int .i64 i.f,.slice ap i.args.length ac,.slice op' i.outs.length oc] v1 (l++[Xw i.op]):=⟨(Za HWA _).trans hws,hw1,Zlu hbl (by decide) hws⟩;have ST:=Zd st;have hb1w:=hw1.lt;have HROW:=Zd st.row;have HS:=Zd (Cs i.op i.d i.a i.bb i.n i.f ap op' i.args.length i.outs.length ac oc w1 h1 h18 ((Za HG).ws hb1 st.ws) (by omega));clear hws hw1 HN st;go_wp2_with (refine wpList_load_row rfl 110 (.tmp 3) rfl w.heap.size rfl 110 _ (0,0) _ (Za HROW) Tryz.underlying110 rfl (Tryz.infInss.trans rfl) ?_)
 refine(Za HS).mono ?_;rintro e w2 ⟨rfl,hbel⟩;have st:Ij w w2 b w.heap.size #[.int .i64 i.op,.int .i64 i.d,.int .i64 i.a,.int .i64 i.bb,.int .u64 i.n,.int .i64 i.f,.slice ap i.args.length ac,.slice op' i.outs.length oc] v1 (l++[Xw i.op]):=(Za ST).step hbl (Sl hbel (by omega)) ((Za ST).wt.below hbel);clear hbel HS ST HROW;cases hsp:Ri i.op i.d i.a i.bb i.n i.f i.args.length i.outs.length with
 | true =>
  have HR:=Zd (show Jb i=none by rw [Za HF,show i.spare=true from hsp]; rfl);have ST:=Zd st;clear st;go_wp2_with fail
  refine(Sq _ _).mono ?_;rintro e w3 ⟨rfl,hw⟩;subst w3;exact⟨rfl,(Za ST).ws,by rw [Za HR]⟩
 | false =>
  have HF2:=Zd (show Jb i=Xv (some [Xw i.op]) (Jh 0 4 (Zm 0 255) i.outs) by rw [Za HF,show i.spare=false from hsp]; rfl);clear HF;obtain⟨l2,hl2⟩:∃ x,x=l++[Xw i.op]:=⟨_,rfl⟩;have hn2:l2.length<=l.length+1:=by rw [hl2]; simp
  rw [← hl2] at st;have c0:=st.cells 0 _ rfl;have HND:=Zd (Ut i.op h1 h18 w2 ((Za HG).ws hb1 st.ws));have ST:=Zd st;have HL2:=Zd hl2;clear st hl2 hsp;go_wp2_with fail
  refine(Za HND).mono ?_;rintro e wx ⟨rfl,hwx⟩;subst wx;rw [hneed];clear HND;go_wp2_with fail
  refine(Yw 64 1 _).mono ?_;rintro e wx ⟨rfl,hwx⟩;subst wx;rw [show(bits .and .u8 64 1 != 0)=false by decide];go_wp2_with fail
  refine(Yw 64 2 _).mono ?_;rintro e wx ⟨rfl,hwx⟩;subst wx;rw [show(bits .and .u8 64 2 != 0)=false by decide];go_wp2_with fail
  refine(Yw 64 4 _).mono ?_;rintro e wx ⟨rfl,hwx⟩;subst wx;rw [show(bits .and .u8 64 4 != 0)=false by decide];go_wp2_with fail
  refine(Yw 64 8 _).mono ?_;rintro e wx ⟨rfl,hwx⟩;subst wx;rw [show(bits .and .u8 64 8 != 0)=false by decide];go_wp2_with fail
  refine(Yw 64 16 _).mono ?_;rintro e wx ⟨rfl,hwx⟩;subst wx;rw [show(bits .and .u8 64 16 != 0)=false by decide];go_wp2_with fail
  refine(Yw 64 32 _).mono ?_;rintro e wx ⟨rfl,hwx⟩;subst wx;rw [show(bits .and .u8 64 32 != 0)=false by decide];go_wp2_with fail
  refine(Yw 64 64 _).mono ?_;rintro e wx ⟨rfl,hwx⟩;subst wx;rw [show(bits .and .u8 64 64 != 0)=true by decide];have st:=Za ST;have c7:=st.cells 7 (.slice op' i.outs.length oc) rfl;have HM:=Zd (Uv 229 (fun _ _=>rfl) (Zm 0 255) 1 (fun _ _ h=>Nat.le_of_eq (Zq h)) (by omega) b 89000000000 (by omega) (fun x v l w hw hl=>Dn b v l x w hw (by omega)) 0 4 (by omega) v1 l2 _ i.outs w2 st.wt (by omega) ((Za HO).ws st.ws) (Za HOL));clear st;go_wp2_with fail
  refine(Za HM).mono ?_;rintro e w3 ⟨hws,hm⟩;cases hr:Jh 0 4 (Zm 0 255) i.outs with
  | none=>rw [hr] at hm;subst hm;refine⟨rfl,(Za ST).ws.trans hws,?_⟩;have hx:=Za HF2;rw [hr] at hx;have hx2:Jb i=none:=hx.trans rfl;rw [hx2]
  | some bs3 =>
   rw [hr] at hm;obtain⟨rfl,v3,hw⟩:=hm;have hbs:bs3.length<=5:=Xf (Zm 0 255) 1 (fun _ _ h=>Nat.le_of_eq (Zq h)) 0 4 _ _ hr;have st:=(Za ST).step hbl hws hw;have HR3:=Zd hr;obtain⟨l3,hlk⟩:∃ x,x=l2++bs3:=⟨_,rfl⟩;have hn3:l3.length<=l2.length+5:=by rw [hlk]; simp; omega
   rw [← hlk] at st;have HL3:=Zd hlk;clear hws hw hr hlk hbs ST HM c7;have ST:=Zd st;clear st;go_wp2;refine bodyPost_end (results_none (fn:=Tryz.f231) rfl _ _ _) rfl ?_;refine⟨(Za ST).ws,?_⟩;have hx:=Za HF2;rw [Za HR3] at hx;have hx2:Jb i=some ([Xw i.op]++bs3):=hx.trans rfl;rw [hx2];refine⟨rfl,v3,?_⟩;have hw:=(Za ST).wt;rw [Za HL3,Za HL2] at hw;simpa using hw
set_option maxHeartbeats 4000000
set_option maxRecDepth 100000
theorem Zep (b:Nat)(hb1:2<b)(v:Value)(l:List UInt8)(i:Yb)(av ov:Value)(w:World)(h:Wt w b v l)(hl:l.length<=88000000000)(hg:Zp w)(pa:List (Array Value×(Int×Int)))(hpa:pa.map (·.2)=i.args)(hpv:∀ p ∈ pa,p.1=#[.int .i64 p.2.1,.int .i64 p.2.2])(hargs:LsB 2 w b av pa)(houts:Kl w b ov i.outs)(hal:i.args.length<9223372036854775808)(hol:i.outs.length<9223372036854775808)(hon:i.op=3∨i.op=16) :
 Calls Tryz.prog 231 #[.pointer (some ⟨b,0,none⟩),.agg #[.int .i64 i.op,.int .i64 i.d,.int .i64 i.a,.int .i64 i.bb,.int .u64 i.n,.int .i64 i.f,av,ov]] w (Nv b l (Jb i) w):=by
 rcases hon with hs | hs
 ·exact Ydv b hb1 v l i av ov w h hl hg (by omega) (by omega) (by rw [hs]; rfl) pa hpa hpv hargs houts hal hol
 ·exact Zyv b hb1 v l i av ov w h hl hg (by omega) (by omega) (by rw [hs]; rfl) pa hpa hpv hargs houts hal hol
theorem Zcu (i:Yb)(bs:List UInt8)(h:Jb i=some bs):bs.length<=40:=by
 have c1:∀ c x (bs:List UInt8),Ca c (Zm 0 255 x)=some bs->bs.length<=1:=by
  intro c x bs h;cases c with
  | true=>exact Nat.le_of_eq (Zq h)
  | false=>cases h; simp
 unfold Jb at h;obtain⟨x0,y0,e0,f0,rfl⟩:=Gp h;have g0:=Zq e0;split at f0
 ·cases f0
 ·obtain⟨x1,y1,e1,f1,rfl⟩:=Gp f0;obtain⟨x2,y2,e2,f2,rfl⟩:=Gp f1;obtain⟨x3,y3,e3,f3,rfl⟩:=Gp f2;obtain⟨x4,y4,e4,f4,rfl⟩:=Gp f3;obtain⟨x5,y5,e5,f5,rfl⟩:=Gp f4;obtain⟨x6,y6,e6,f6,rfl⟩:=Gp f5;have g1:=c1 _ _ _ e1;have g2:=c1 _ _ _ e2;have g3:=c1 _ _ _ e3;have g4:x4.length<=8:=by
   revert e4
   cases Lw i.op 8 with
   | true=>intro e; exact Zqn e
   | false=>intro e; cases e; simp
  have g5:=c1 _ _ _ e5;have g6:x6.length<=17:=by
   revert e6
   cases Lw i.op 32 with
   | true=>intro e; exact Xf Zlt 2 Zlv 0 8 _ _ e
   | false=>intro e; cases e; simp
  have g7:y6.length<=5:=by
   revert f6
   cases Lw i.op 64 with
   | true=>intro e; exact Xf (Zm 0 255) 1 (fun _ _ h=>Nat.le_of_eq (Zq h)) 0 4 _ _ e
   | false=>intro e; cases e; simp
  simp only [List.length_append];omega
def VsB {α:Type}(w:World)(b:Nat)(v:Value)(ps:List (Value×α)):Prop:=(ps=[]∧∃ p cap,v=.slice p 0 cap)∨∃ sb so cap,v=.slice (some ⟨sb,so,none⟩) ps.length cap∧sb<b∧∀ i (hi:i<ps.length),w.cell? ⟨sb,so+i,none⟩=some ps[i].1
theorem VsB.ws {α:Type}{w w':World}{b:Nat}{v:Value}{ps:List (Value×α)}(h:VsB w b v ps)(hw:Ws w w' b):VsB w' b v ps:=by
 rcases h with h | ⟨sb,so,cap,h1,h2,h3⟩
 ·exact Or.inl h
 ·exact Or.inr ⟨sb,so,cap,h1,h2,fun i hi=>(hw.low.cell (p:=⟨sb,so+i,none⟩) h2).trans (h3 i hi)⟩
theorem VsB.shape {α:Type}{w:World}{b:Nat}{v:Value}{ps:List (Value×α)}(h:VsB w b v ps):∃ p cap,v=.slice p ps.length cap:=by
 rcases h with⟨rfl,p,cap,e⟩ | ⟨sb,so,cap,e,_⟩
 ·exact⟨p,cap,e⟩
 ·exact⟨_,_,e⟩
theorem Zeq {α:Type}(F:Nat)(hcf:∀ args w,(callFunc F args).run Tryz.prog w=.ok (.enter F args) w)(one:α->Option (List UInt8))(K:Nat)(hK:∀ x bs,one x=some bs->bs.length<=K)(hK2:K<=1000000)(b:Nat)(M:Nat)(hM:M<=90000000000)(ps:List (Value×α))(w:World)
 (hsh:∀ p ∈ ps,∃ q n cap,p.1=.slice q n cap)
 (hone:∀ p ∈ ps,∀ v l w',Ws w w' b->Wt w' b v l->l.length<=M+1000000001->Calls Tryz.prog F #[.pointer (some ⟨b,0,none⟩),p.1] w' (Nv b l (one p.2) w'))
 (lo hi:Int) (hhi:hi<=1000) (v:Value) (l:List UInt8) (lv:Value) (h:Wt w b v l) (hl:l.length<=M) (hns:VsB w b lv ps) (hlen:ps.length<9223372036854775808) :
 Calls Tryz.prog 171 #[.pointer (some ⟨b,0,none⟩),lv,.int .i64 lo,.int .i64 hi,.func (.func F) #[.pointer (some ⟨b,0,none⟩)] #[]] w (Nv b l (Jh lo hi one (ps.map (·.2))) w):=by
 obtain⟨pp,cap,hlv⟩:=hns.shape;have HN:=Zd hns;subst hlv;have HNC:=Zd (Jt b v l ps.length lo hi w h (by omega));have HONE:=Zd hone;have HSH:=Zd hsh;have HK:=Zd hK;clear hone hK h hns hsh;go_enter Tryz.func171,Tryz.ntmps171
 go_wp2_with fail
 refine(Za HNC).mono ?_;rintro e w1 ⟨hws,hm⟩;cases hr:Zm lo hi ps.length with
 | none=>rw [hr] at hm;subst hm;refine⟨rfl,hws,?_⟩;unfold Jh;rw [List.length_map,hr];rfl
 | some bs =>
  rw [hr] at hm;obtain⟨rfl,v1,hw1⟩:=hm;have hb1:=Zq hr;have hle:lo<=ps.length∧(ps.length:Int)<=hi:=by
   unfold Zm at hr;split at hr
   ·assumption
   ·cases hr
  have HWS:=Zd hws;have HW1:=Zd hw1;have HR:=Zd hr;clear hws hw1 hr HNC;go_wp2_with fail
  go_loopw [20] (fun j w'=>∃(k:Nat) (v':Value) (cs:List UInt8),j=.int .i64 k∧k<=ps.length∧Ws w w' b∧Xn one ((ps.take k).map (·.2))=some cs∧Wt w' b v' (l++bs++cs)) (fun j _=>ps.length-(intOf j).toNat)
  case atStart=>exact⟨0,v1,[],rfl,by omega,Za HWS,by simp [Xn],by simpa using Za HW1⟩
  case round =>
   obtain⟨k,v',cs,rfl,hk,hws',hcs,hwt⟩:=hrel;have hcl:=Lf one K (Za HK) _ _ hcs;have HWS':=Zd hws';have HCS:=Zd hcs;have HWT:=Zd hwt;clear hws' hcs hwt;by_cases hlt:k<ps.length
   ·obtain⟨sb,so,cap',hv,hsb,hc⟩:=((Za HN).ws (Za HWS')).resolve_left (fun c=>by rw [c.1] at hlt; simp at hlt);injection hv with e1 e2 e3;subst e1;have cc:=hc k hlt;have hkl:K*(ps.take k).length<=1000000*1000:=Nat.mul_le_mul hK2 (by simp; omega);simp only [List.length_map] at hcl;have hmem:ps[k] ∈ ps:=List.getElem_mem hlt;obtain⟨q,qn,qc,hq⟩:=Za HSH ps[k] hmem;have HCALL:=Zd (Za HONE ps[k] hmem v' (l++bs++cs) wr (Za HWS') (Za HWT) (by simp [hb1]; omega));have hsn:=Ld one ((ps.take k).map (·.2)) ps[k].2;rw [show(ps.take k).map (·.2)++[ps[k].2]=(ps.take (k+1)).map (·.2) by rw [So hlt,List.map_append]; rfl,Za HCS] at hsn;have HSN:=Zd hsn;have HAN:=Zd (fun hn=>Le one ((ps.take (k+1)).map (·.2)) ((ps.drop (k+1)).map (·.2)) hn);clear hc hsn e2 e3 hmem;generalize ps[k]=y at cc HCALL HSN hq;obtain⟨yv,y⟩:=y;simp only at cc HCALL HSN hq;subst hq;go_wp2_with fail
    refine(Za HCALL).mono ?_;rintro e w2 ⟨hws2,hm⟩;have HWS2:=Zd ((Za HWS').trans hws2);clear hws2;cases hy:one y with
    | none=>rw [hy] at hm;subst hm;refine⟨rfl,Za HWS2,?_⟩;have h1:=Za HSN;rw [hy] at h1;have h2:=Za HAN h1;rw [← List.map_append,List.take_append_drop] at h2;unfold Jh;rw [List.length_map,Za HR,h2];rfl
    | some ys =>
     rw [hy] at hm;obtain⟨rfl,v2,hw2⟩:=hm;have h1:=Za HSN;rw [hy] at h1;have HS2:=Zd h1;have HW2:=Zd hw2;clear hw2 h1 hy;go_wp2;go_roundw
     case rel=>exact⟨k+1,v2,cs++ys,by go_num,by omega,Za HWS2,Za HS2,by rw [← List.append_assoc]; exact Za HW2⟩
     case measure=>simp [intOf]; omega
   ·obtain rfl:k=ps.length:=by omega
    have h1:=Za HCS;rw [List.take_length] at h1;have HC1:=Zd h1;clear h1;go_wp2;refine bodyPost_end (results_none (fn:=Tryz.f171) rfl _ _ _) rfl ?_;refine⟨Za HWS',?_⟩;unfold Jh;rw [List.length_map,Za HR,Za HC1];simp only [Xv];exact⟨trivial,v',by rw [← List.append_assoc]; exact Za HWT⟩
set_option maxHeartbeats 8000000
set_option maxRecDepth 100000
structure Zcv (t:TypeId)(w wk:World)(b T:Nat)(arr:Array Value)(v:Value)(l:List UInt8):Prop where
 ws:Ws w wk b
 wt:Wt wk b v l
 row:wk.heap[T]?=some (.cells arr t (0,0))
theorem Zcv.step {t:TypeId}{w wk wn:World}{b T:Nat}{arr:Array Value}{v v':Value}{l l':List UInt8}(h:Zcv t w wk b T arr v l)(ht:t≠5)(hb:b<T)(hws:Ws wk wn b)(hwt:Wt wn b v' l'):Zcv t w wn b T arr v' l' :=
 ⟨h.ws.trans hws,hwt,hws.oth T _ h.row (by intro e; injection e with e; omega) (by intro c fz e; injection e with e1 e2 e3; exact absurd e2 ht)⟩
theorem Zcv.cells {t:TypeId}{w wk:World}{b T:Nat}{arr:Array Value}{v:Value}{l:List UInt8}(h:Zcv t w wk b T arr v l)(j:Nat)(x:Value)(hx:arr[j]?=some x):wk.cell? ⟨T,j,none⟩=some x:=(Zl h.row j).trans hx
abbrev Xe:Nat:=9223372036854775808
def Dp (w:World)(b:Nat)(p:Array Value×Yb):Prop:=∃(av ov:Value) (pa:List (Array Value×(Int×Int))),p.1=#[.int .i64 p.2.op,.int .i64 p.2.d,.int .i64 p.2.a,.int .i64 p.2.bb,.int .u64 p.2.n,.int .i64 p.2.f,av,ov]∧pa.map (·.2)=p.2.args∧(∀ q ∈ pa,q.1=#[.int .i64 q.2.1,.int .i64 q.2.2])∧LsB 2 w b av pa∧Kl w b ov p.2.outs∧p.2.args.length<Xe∧p.2.outs.length<Xe∧(p.2.op=3∨p.2.op=16)
theorem Dp.ws {w w':World}{b:Nat}{p:Array Value×Yb}(h:Dp w b p)(hw:Ws w w' b):Dp w' b p:=by obtain⟨av,ov,pa,h1,h2,h3,h4,h5,h6⟩:=h;exact⟨av,ov,pa,h1,h2,h3,h4.ws hw,h5.ws hw,h6⟩
theorem Dp.size {w:World}{b:Nat}{p:Array Value×Yb}(h:Dp w b p):p.1.size=8∧p.1.all (·.oneCell')=true:=by obtain⟨av,ov,pa,h1,h2,h3,h4,h5,h6⟩:=h;obtain⟨q,c,e⟩:=h4.shape;obtain⟨q',c',e'⟩:=h5.shape;rw [h1,e,e'];exact⟨rfl,by simp [Value.oneCell']⟩
def Uu (w:World)(b:Nat)(p:Value×List Yb):Prop:=∃ ps:List (Array Value×Yb),ps.map (·.2)=p.2∧LsB 8 w b p.1 ps∧(∀ q ∈ ps,Dp w b q)∧ps.length<Xe
theorem Uu.ws {w w':World}{b:Nat}{p:Value×List Yb}(h:Uu w b p)(hw:Ws w w' b):Uu w' b p:=by obtain⟨ps,h1,h2,h3,h4⟩:=h;exact⟨ps,h1,h2.ws hw,fun q hq=>(h3 q hq).ws hw,h4⟩
theorem Uu.shape {w:World}{b:Nat}{p:Value×List Yb}(h:Uu w b p):∃ q n cap,p.1=.slice q n cap:=by obtain⟨ps,h1,h2,h3,h4⟩:=h;obtain⟨q,c,e⟩:=h2.shape;exact⟨q,_,c,e⟩
def Mq (l:List Yb):Option (List UInt8):=Jh 1 24 Jb l
theorem Rj (l:List Yb)(bs:List UInt8)(h:Mq l=some bs):bs.length<=1000:=by have:=Xf Jb 40 Zcu 1 24 _ _ h;omega
theorem Zyw (b:Nat)(hb1:2<b)(v:Value)(l:List UInt8)(lv:Value)(is:List Yb)(w:World)(h:Wt w b v l)(hl:l.length<=86000000000)(hg:Zp w)(hbk:Uu w b (lv,is)) :
 Calls Tryz.prog 172 #[.pointer (some ⟨b,0,none⟩),lv] w (Nv b l (Mq is) w):=by
 obtain⟨ps,hps,hls,hins,hlen⟩:=hbk;simp only at hps hls;have HN:=Zd (Zje 231 (fun _ _=>rfl) Jb 40 Zcu (by omega) b 86000000000 (by omega) ps w (fun p hp=>(hins p hp).size) (fun p hp v l w' hws hw hl=>by
  obtain⟨av,ov,pa,h1,h2,h3,h4,h5,h6,h7,h8⟩:=(hins p hp).ws hws;rw [h1];exact Zep b hb1 v l p.2 av ov w' hw (by omega) (hg.ws hb1 hws) pa h2 h3 h4 h5 h6 h7 h8) 1 24 (by omega) v l lv h hl hls hlen)
 rw [hps] at HN;obtain⟨q,c,e⟩:=hls.shape;subst e;clear h hg hins hls;go_enter Tryz.func172,Tryz.ntmps172
 go_wp2_with fail
 refine(Za HN).mono ?_;rintro e w1 ⟨hws,hm⟩;cases hr:Jh 1 24 Jb is with
 | none=>rw [hr] at hm;subst hm;exact⟨rfl,hws,by unfold Mq; rw [hr]⟩
 | some bs=>rw [hr] at hm;obtain⟨rfl,v1,hw1⟩:=hm;have HR:=Zd hr;clear hr;go_wp2;refine bodyPost_end (results_none (fn:=Tryz.f172) rfl _ _ _) rfl ?_;exact⟨hws,by unfold Mq; rw [Za HR]; exact⟨rfl,v1,hw1⟩⟩
structure Zj where
 params:List (Int×Int)
 results:Int
 homes:List Int
 slots:List Int
 blocks:List (List Yb)
def Gk (f:Zj):Option (List UInt8):=Xv (Jh 0 8 Lr f.params) (Xv (Zm 0 4 f.results) (Xv (Jh 0 12 (Zm (-1) 15) f.homes) (Xv (Jh 0 6 (Zm 1 8) f.slots) (Jh 1 12 Mq f.blocks))))
theorem Rk (x:Int×Int)(bs:List UInt8)(h:Lr x=some bs):bs.length<=2:=by have:=Mr (A:=1) (C:=1) (fun x hx=>Nat.le_of_eq (Zq hx)) (fun x hx=>Nat.le_of_eq (Zq hx)) h;omega
structure Sm (w:World)(b:Nat)(f:Zj)(pv hv sv bv:Value)(pp:List (Array Value×(Int×Int)))(pb:List (Value×List Yb)):Prop where
 params:pp.map (·.2)=f.params
 vals:∀ q ∈ pp,q.1=#[.int .i64 q.2.1,.int .i64 q.2.2]
 pls:LsB 2 w b pv pp
 hls:Kl w b hv f.homes
 sls:Kl w b sv f.slots
 bls:VsB w b bv pb
 blocks:pb.map (·.2)=f.blocks
 each:∀ q ∈ pb,Uu w b q
 lens:pp.length<Xe∧f.homes.length<Xe∧f.slots.length<Xe∧pb.length<Xe
theorem Sm.ws {w w':World}{b:Nat}{f:Zj}{pv hv sv bv:Value}{pp:List (Array Value×(Int×Int))}{pb:List (Value×List Yb)}(h:Sm w b f pv hv sv bv pp pb)(hw:Ws w w' b):Sm w' b f pv hv sv bv pp pb :=
 ⟨h.params,h.vals,h.pls.ws hw,h.hls.ws hw,h.sls.ws hw,h.bls.ws hw,h.blocks,fun q hq=>(h.each q hq).ws hw,h.lens⟩
theorem Sn (f:Zj)(bs:List UInt8)(h:Gk f=some bs):bs.length<=20000:=by unfold Gk at h;have:=Mr (fun x hr=>Xf Lr 2 Rk 0 8 _ _ hr) (fun x h=>Mr (fun x hr=>Nat.le_of_eq (Zq hr)) (fun x h=>Mr (fun x hr=>Xf (Zm (-1) 15) 1 (fun _ _ h=>Nat.le_of_eq (Zq h)) 0 12 _ _ hr) (fun x h=>Mr (fun x hr=>Xf (Zm 1 8) 1 (fun _ _ h=>Nat.le_of_eq (Zq h)) 0 6 _ _ hr) (fun x hr=>Xf Mq 1000 Rj 1 12 _ _ hr) h) h) h) h;omega
theorem Zlw (b:Nat)(hb1:2<b)(v0:Value)(l0:List UInt8)(f:Zj)(pv hv sv bv:Value)(pp:List (Array Value×(Int×Int)))(pb:List (Value×List Yb))(w:World)(h:Wt w b v0 l0)(hl:l0.length<=83000000000)(hg:Zp w)(hF:Sm w b f pv hv sv bv pp pb) :
 Calls Tryz.prog 120 #[.pointer (some ⟨b,0,none⟩),.agg #[pv,.int .i64 f.results,hv,sv,bv]] w (Nv b l0 (Gk f) w):=by
 have HV:=Zd hF;have HG:=Zd hg;obtain⟨p0,c0',e0⟩:=hF.pls.shape;obtain⟨p2,c2',e2⟩:=hF.hls.shape;obtain⟨p3,c3',e3⟩:=hF.sls.shape;obtain⟨p4,c4',e4⟩:=hF.bls.shape;generalize hn0:pp.length=n0 at e0;generalize hn2:f.homes.length=n2 at e2;generalize hn3:f.slots.length=n3 at e3;generalize hn4:pb.length=n4 at e4;subst e0 e2 e3 e4;clear hn0 hn2 hn3 hn4;have hbl:=h.lt;have HST:=Zd (show Zcv 71 w (w.alloc (.cells #[.slice p0 n0 c0',.int .i64 f.results,.slice p2 n2 c2',.slice p3 n3 c3',.slice p4 n4 c4'] 71)) b w.heap.size _ v0 l0 from⟨Xu w _ b (by omega),h.alloc _,heap_alloc_new w _⟩);clear hF hg h;go_enter Tryz.func120,Tryz.ntmps120
 go_wp2_with fail
 generalize w.alloc _=w0 at HST ⊢;have ST:=HST;clear HST;have st:=Za ST;have HM:=Zd (Zer 168 (fun _ _=>rfl) Lr 2 Rk (by omega) b 84000000000 (by omega) pp w0 (fun p hp=>by rw [(Za HV).vals p hp]; exact⟨rfl,by simp [Value.oneCell']⟩) (fun p hp v l w' _ hw hl=>by rw [(Za HV).vals p hp]; exact Zyu b v l p.2.1 p.2.2 w' hw (by omega)) 0 8 (by omega) v0 l0 _ st.wt (by omega) ((Za HV).ws st.ws).pls (Za HV).lens.1);rw [(Za HV).params] at HM;clear st;refine(Za HM).mono ?_;rintro e w1 ⟨hws,hm⟩;cases hr:Jh 0 8 Lr f.params with
 | none=>rw [hr] at hm;subst hm;refine⟨rfl,(Za ST).ws.trans hws,?_⟩;unfold Gk;rw [hr];rfl
 | some bs1 =>
  rw [hr] at hm;obtain⟨rfl,v1,hw⟩:=hm;have hbs:bs1.length<=17:=Xf Lr 2 Rk 0 8 _ _ hr;have st:=(Za ST).step (by decide) hbl hws hw;have HR1:=Zd hr;obtain⟨l1,hlk⟩:∃ x,x=l0++bs1:=⟨_,rfl⟩;have hn1:l1.length<=l0.length+17:=by rw [hlk]; simp; omega
  rw [← hlk] at st;have HL1:=Zd hlk;clear hws hw hr hlk hbs ST HM;have ST:=Zd st;clear st;have st:=Za ST;have c1:=st.cells 1 (.int .i64 f.results) rfl;have HM:=Zd (Jt b v1 l1 f.results 0 4 w1 st.wt (by omega));clear st;go_wp2_with fail
  refine(Za HM).mono ?_;rintro e w2 ⟨hws,hm⟩;cases hr:Zm 0 4 f.results with
  | none=>rw [hr] at hm;subst hm;refine⟨rfl,(Za ST).ws.trans hws,?_⟩;unfold Gk;rw [Za HR1,hr];rfl
  | some bs2 =>
   rw [hr] at hm;obtain⟨rfl,v2,hw⟩:=hm;have hbs:bs2.length<=1:=Nat.le_of_eq (Zq hr);have st:=(Za ST).step (by decide) hbl hws hw;have HR2:=Zd hr;obtain⟨l2,hlk⟩:∃ x,x=l1++bs2:=⟨_,rfl⟩;have hn2:l2.length<=l1.length+1:=by rw [hlk]; simp; omega
   rw [← hlk] at st;have HL2:=Zd hlk;clear hws hw hr hlk hbs ST HM c1;have ST:=Zd st;clear st;have st:=Za ST;have c2:=st.cells 2 (.slice p2 n2 c2') rfl;have HM:=Zd (Uv 169 (fun _ _=>rfl) (Zm (-1) 15) 1 (fun _ _ h=>Nat.le_of_eq (Zq h)) (by omega) b 84000000000 (by omega) (fun x v l w hw hl=>Ydt b v l x w hw (by omega)) 0 12 (by omega) v2 l2 _ f.homes w2 st.wt (by omega) ((Za HV).ws st.ws).hls (Za HV).lens.2.1);clear st;go_wp2_with fail
   refine(Za HM).mono ?_;rintro e w3 ⟨hws,hm⟩;cases hr:Jh 0 12 (Zm (-1) 15) f.homes with
   | none=>rw [hr] at hm;subst hm;refine⟨rfl,(Za ST).ws.trans hws,?_⟩;unfold Gk;rw [Za HR1,Za HR2,hr];rfl
   | some bs3 =>
    rw [hr] at hm;obtain⟨rfl,v3,hw⟩:=hm;have hbs:bs3.length<=13:=Xf (Zm (-1) 15) 1 (fun _ _ h=>Nat.le_of_eq (Zq h)) 0 12 _ _ hr;have st:=(Za ST).step (by decide) hbl hws hw;have HR3:=Zd hr;obtain⟨l3,hlk⟩:∃ x,x=l2++bs3:=⟨_,rfl⟩;have hn3:l3.length<=l2.length+13:=by rw [hlk]; simp; omega
    rw [← hlk] at st;have HL3:=Zd hlk;clear hws hw hr hlk hbs ST HM c2;have ST:=Zd st;clear st;have st:=Za ST;have c3:=st.cells 3 (.slice p3 n3 c3') rfl;have HM:=Zd (Uv 170 (fun _ _=>rfl) (Zm 1 8) 1 (fun _ _ h=>Nat.le_of_eq (Zq h)) (by omega) b 84000000000 (by omega) (fun x v l w hw hl=>Ydu b v l x w hw (by omega)) 0 6 (by omega) v3 l3 _ f.slots w3 st.wt (by omega) ((Za HV).ws st.ws).sls (Za HV).lens.2.2.1);clear st;go_wp2_with fail
    refine(Za HM).mono ?_;rintro e w4 ⟨hws,hm⟩;cases hr:Jh 0 6 (Zm 1 8) f.slots with
    | none=>rw [hr] at hm;subst hm;refine⟨rfl,(Za ST).ws.trans hws,?_⟩;unfold Gk;rw [Za HR1,Za HR2,Za HR3,hr];rfl
    | some bs4 =>
     rw [hr] at hm;obtain⟨rfl,v4,hw⟩:=hm;have hbs:bs4.length<=7:=Xf (Zm 1 8) 1 (fun _ _ h=>Nat.le_of_eq (Zq h)) 0 6 _ _ hr;have st:=(Za ST).step (by decide) hbl hws hw;have HR4:=Zd hr;obtain⟨l4,hlk⟩:∃ x,x=l3++bs4:=⟨_,rfl⟩;have hn4:l4.length<=l3.length+7:=by rw [hlk]; simp; omega
     rw [← hlk] at st;have HL4:=Zd hlk;clear hws hw hr hlk hbs ST HM c3;have ST:=Zd st;clear st;have st:=Za ST;have c4:=st.cells 4 (.slice p4 n4 c4') rfl;have HM:=Zd (Zeq 172 (fun _ _=>rfl) Mq 1000 Rj (by omega) b 84000000000 (by omega) pb w4 (fun p hp=>((Za HV).each p hp).shape) (fun p hp v l w' hws hw hl=>Zyw b hb1 v l p.1 p.2 w' hw (by omega) (((Za HG).ws hb1 st.ws).ws hb1 hws) ((((Za HV).each p hp).ws st.ws).ws hws)) 1 12 (by omega) v4 l4 _ st.wt (by omega) ((Za HV).ws st.ws).bls (Za HV).lens.2.2.2);rw [(Za HV).blocks] at HM;clear st;go_wp2_with fail
     refine(Za HM).mono ?_;rintro e w5 ⟨hws,hm⟩;cases hr:Jh 1 12 Mq f.blocks with
     | none=>rw [hr] at hm;subst hm;refine⟨rfl,(Za ST).ws.trans hws,?_⟩;unfold Gk;rw [Za HR1,Za HR2,Za HR3,Za HR4,hr];rfl
     | some bs5 =>
      rw [hr] at hm;obtain⟨rfl,v5,hw⟩:=hm;have hbs:bs5.length<=12001:=Xf Mq 1000 Rj 1 12 _ _ hr;have st:=(Za ST).step (by decide) hbl hws hw;have HR5:=Zd hr;obtain⟨l5,hlk⟩:∃ x,x=l4++bs5:=⟨_,rfl⟩;have hn5:l5.length<=l4.length+12001:=by rw [hlk]; simp; omega
      rw [← hlk] at st;have HL5:=Zd hlk;clear hws hw hr hlk hbs ST HM c4;have ST:=Zd st;clear st;go_wp2;refine bodyPost_end (results_none (fn:=Tryz.f120) rfl _ _ _) rfl ?_;refine⟨(Za ST).ws,?_⟩;have hx2:Gk f=some (bs1++(bs2++(bs3++(bs4++bs5)))):=by unfold Gk; rw [Za HR1,Za HR2,Za HR3,Za HR4,Za HR5]; rfl
      rw [hx2];refine⟨rfl,v5,?_⟩;have hw:=(Za ST).wt;rw [Za HL5,Za HL4,Za HL3,Za HL2,Za HL1] at hw;simpa using hw
set_option maxHeartbeats 8000000
set_option maxRecDepth 100000
def Rz (w:World)(b:Nat)(p:Array Value×(List Int×Int)):Prop:=∃ lv,p.1=#[lv,.int .i64 p.2.2]∧Kl w b lv p.2.1∧p.2.1.length<Xe
theorem Rz.ws {w w':World}{b:Nat}{p:Array Value×(List Int×Int)}(h:Rz w b p)(hw:Ws w w' b):Rz w' b p:=by obtain⟨lv,h1,h2,h3⟩:=h;exact⟨lv,h1,h2.ws hw,h3⟩
theorem Rz.size {w:World}{b:Nat}{p:Array Value×(List Int×Int)}(h:Rz w b p):p.1.size=2∧p.1.all (·.oneCell')=true:=by obtain⟨lv,h1,h2,h3⟩:=h;obtain⟨q,c,e⟩:=h2.shape;rw [h1,e];exact⟨rfl,by simp [Value.oneCell']⟩
def Nc (w:World)(b:Nat)(p:Array Value×Zj):Prop:=∃ pv hv sv bv pp pb,p.1=#[pv,.int .i64 p.2.results,hv,sv,bv]∧Sm w b p.2 pv hv sv bv pp pb
theorem Nc.ws {w w':World}{b:Nat}{p:Array Value×Zj}(h:Nc w b p)(hw:Ws w w' b):Nc w' b p:=by obtain⟨pv,hv,sv,bv,pp,pb,h1,h2⟩:=h;exact⟨pv,hv,sv,bv,pp,pb,h1,h2.ws hw⟩
theorem Nc.size {w:World}{b:Nat}{p:Array Value×Zj}(h:Nc w b p):p.1.size=5∧p.1.all (·.oneCell')=true:=by obtain⟨pv,hv,sv,bv,pp,pb,h1,h2⟩:=h;obtain⟨q,c,e⟩:=h2.pls.shape;obtain⟨q2,c2,e2⟩:=h2.hls.shape;obtain⟨q3,c3,e3⟩:=h2.sls.shape;obtain⟨q4,c4,e4⟩:=h2.bls.shape;rw [h1,e,e2,e3,e4];exact⟨rfl,by simp [Value.oneCell']⟩
structure Zk where
 funcs:List Zj
 externs:List (List Int×Int)
def Nk (p:Zk):Option (List UInt8):=Xv (some [70,49]) (Xv (Jh 0 4 Uz p.externs) (Jh 1 8 Gk p.funcs))
theorem Zjc (p:Zk)(bs:List UInt8)(h:Nk p=some bs):bs.length<=200000:=by unfold Nk at h;have:=Mr (A:=2) (fun x hx=>by cases hx; simp) (fun x h=>Mr (fun x hr=>Xf Uz 1000 Cr 0 4 _ _ hr) (fun x hr=>Xf Gk 20000 Sn 1 8 _ _ hr) h) h;omega
structure Ow (w:World)(b:Nat)(p:Zk)(fv ev:Value)(pf:List (Array Value×Zj))(pe:List (Array Value×(List Int×Int))):Prop where
 fls:LsB 5 w b fv pf
 els:LsB 2 w b ev pe
 funcs:pf.map (·.2)=p.funcs
 externs:pe.map (·.2)=p.externs
 feach:∀ q ∈ pf,Nc w b q
 eeach:∀ q ∈ pe,Rz w b q
 lens:pf.length<Xe∧pe.length<Xe
theorem Ow.ws {w w':World}{b:Nat}{p:Zk}{fv ev:Value}{pf:List (Array Value×Zj)}{pe:List (Array Value×(List Int×Int))}(h:Ow w b p fv ev pf pe)(hw:Ws w w' b):Ow w' b p fv ev pf pe :=
 ⟨h.fls.ws hw,h.els.ws hw,h.funcs,h.externs,fun q hq=>(h.feach q hq).ws hw,fun q hq=>(h.eeach q hq).ws hw,h.lens⟩
theorem Ydw {wY w2:World}{b n:Nat}{v':Value}{xs:List Value}(hr:wY.ownsRow (b+1) 5 1 v' n xs)(hg:wY.grownBy w2 v'.ownBlock)(hb:b<wY.heap.size)(u:Value):Ws wY (w2.setCell ⟨b,0,none⟩ u) b :=
 ⟨(⟨hg.os,hg.tape,hg.output,hg.size,fun q hq=>hg.block q (by omega) (by intro e; have:=(hr.lt q e.symm).1; omega)⟩:Below b wY w2).trans (Zfp w2 b 0 u),(Zcx hr hg).trans (Zoj w2 b 0 u)⟩
theorem Zqo {wY w2:World}{b n:Nat}{v':Value}{xs:List Value}(hr:wY.ownsRow (b+1) 5 1 v' n xs)(hg:wY.grownBy w2 v'.ownBlock)(hb:b<wY.heap.size):w2.heap[b]?=wY.heap[b]? :=
 hg.block b hb (by intro e; have:=(hr.lt b e.symm).1; omega)
theorem Ydx {w2:World}{b n:Nat}{v' u:Value}{l ys:List UInt8}(hc:w2.cell? ⟨b,0,none⟩=some v')(hf:w2.frozen? ⟨b,0,none⟩=false)(hown:w2.ownsRow (b+1) 5 1 u n (Ox l++Ox ys))(hn:n=(l++ys).length):Wt (w2.setCell ⟨b,0,none⟩ u) b u (l++ys):=by refine⟨World.cell?_setCell_same _ _ _ hc,by rw [World.frozen?_setCell]; exact hf,?_⟩;have h1:=ownsRow_setCell_below hown (a:=⟨b,0,none⟩) (show b<b+1 by omega) u;rw [show Ox (l++ys)=Ox l++Ox ys by simp [Ox],← hn];exact h1
theorem Zqp (b:Nat)(hb1:2<b)(v0:Value)(l0:List UInt8)(p:Zk)(fv ev:Value)(pf:List (Array Value×Zj))(pe:List (Array Value×(List Int×Int)))(w:World)(h:Wt w b v0 l0)(hl:l0.length<=80000000000)(hg:Zp w)(hP:Ow w b p fv ev pf pe) :
 Calls Tryz.prog 78 #[.pointer (some ⟨b,0,none⟩),.agg #[fv,ev]] w (Nv b l0 (Nk p) w):=by
 obtain⟨ti,hti,hz0,hz1,hz2⟩:=Gi Tryz.infoU;have HV:=Zd hP;have HG:=Zd hg;obtain⟨p0,c0',e0⟩:=hP.fls.shape;obtain⟨p2,c2',e2⟩:=hP.els.shape;generalize hn0:pf.length=n0 at e0;generalize hn2:pe.length=n2 at e2;subst e0 e2;clear hn0 hn2;have hbl:=h.lt;have HST:=Zd (show Zcv 62 w (w.alloc (.cells #[.slice p0 n0 c0',.slice p2 n2 c2'] 62)) b w.heap.size _ v0 l0 from⟨Xu w _ b (by omega),h.alloc _,heap_alloc_new w _⟩);have cc:=(Za HST).wt.cell;have cf:=(Za HST).wt.fz;clear hP hg h;go_enter Tryz.func78,Tryz.ntmps78
 go_wp2_with (at_builtin; refine wpList_append_own _ rfl _ _ 182 rfl (b+1) 5 ti _ 1 1 Tryz.underlying182 hti hz0 hz1 hz2 rfl (by decide) _ _ _ rfl ((Za HST).wt.row.alloc _) ⟨w.heap.size+1,0,none⟩ 2 2 [.int .u8 70,.int .u8 49] rfl rfl (by intro j u hj; match j,hj with | 0,hj=>(simp at hj; subst hj; exact(World.cell?_alloc_at _ _ _ _ (by simp)).trans rfl) | 1,hj=>(simp at hj; subst hj; exact(World.cell?_alloc_at _ _ _ _ (by simp)).trans rfl)) (by intro u hu; simp at hu; rcases hu with rfl | rfl <;> rfl) ?c3 ?c4 ?c5 ?_)
 case c3=>unfold maxLen; omega
 case c4=>omega
 case c5=>first | omega | (simp; omega)
 intro v' w7 hown hgr _;obtain⟨g2,cap2,rfl⟩:=Zfo (n:=l0.length+1) hown;have st1:=(Za HST).step (by decide) hbl (Xu _ (.cells #[.int .u8 70,.int .u8 49] 5) b (Nat.le_of_lt (Za HST).wt.lt)) ((Za HST).wt.alloc _);have hblk:=Zqo st1.wt.row hgr st1.wt.lt;have cu:w7.cell? ⟨b,0,none⟩=some v0:=(World.cell?_of_block hblk).trans st1.wt.cell;have cg:w7.frozen? ⟨b,0,none⟩=false:=(World.frozen?_of_block (a:=⟨b,0,none⟩) hblk).trans st1.wt.fz;have st:=st1.step (by decide) hbl (Ydw st1.wt.row hgr st1.wt.lt (.slice (some ⟨g2,0,none⟩) (l0.length+2) cap2)) (Ydx (ys:=[70,49]) cu cg hown (by simp));have c1:=st.cells 1 (.slice p2 n2 c2') rfl;obtain⟨l1,hl1⟩:∃ x,x=l0++[70,49]:=⟨_,rfl⟩;have hn1:l1.length<=l0.length+2:=by rw [hl1]; simp
 rw [← hl1] at st;have HL1:=Zd hl1;have ST:=Zd st;clear st st1 hblk hown hgr HST hl1 cc cf;go_wp2_with fail
 generalize w7.setCell _ _=w1 at ST c1 ⊢;generalize Value.slice (some ⟨g2,0,none⟩) (l0.length+2) cap2=v1 at ST ⊢;have st:=Za ST;have HM:=Zd (Zjd 118 (fun _ _=>rfl) Uz 1000 Cr (by omega) b 81000000000 (by omega) pe w1 (fun p hp=>((Za HV).eeach p hp).size) (fun p hp v l w' hws hw hl=>by obtain⟨lv,h1,h2,h3⟩:=(((Za HV).eeach p hp).ws st.ws).ws hws; rw [h1]; exact Ygk b v l lv p.2.1 p.2.2 w' hw (by omega) h2 h3) 0 4 (by omega) v1 l1 _ st.wt (by omega) ((Za HV).ws st.ws).els (Za HV).lens.2);rw [(Za HV).externs] at HM;clear st;refine(Za HM).mono ?_;rintro e w2 ⟨hws,hm⟩;cases hr:Jh 0 4 Uz p.externs with
 | none=>rw [hr] at hm;subst hm;refine⟨rfl,(Za ST).ws.trans hws,?_⟩;unfold Nk;rw [hr];rfl
 | some bs2 =>
  rw [hr] at hm;obtain⟨rfl,v2,hw⟩:=hm;have hbs:bs2.length<=4001:=Xf Uz 1000 Cr 0 4 _ _ hr;have st:=(Za ST).step (by decide) hbl hws hw;have HR2:=Zd hr;obtain⟨l2,hlk⟩:∃ x,x=l1++bs2:=⟨_,rfl⟩;have hn2:l2.length<=l1.length+4001:=by rw [hlk]; simp; omega
  rw [← hlk] at st;have HL2:=Zd hlk;clear hws hw hr hlk hbs ST HM c1;have ST:=Zd st;clear st;have st:=Za ST;have c0:=st.cells 0 (.slice p0 n0 c0') rfl;have HM:=Zd (Zgu 120 (fun _ _=>rfl) Gk 20000 Sn (by omega) b 81000000000 (by omega) pf w2 (fun p hp=>((Za HV).feach p hp).size) (fun p hp v l w' hws hw hl=>by obtain⟨pv,hv,sv,bv,pp,pb,h1,h2⟩:=(((Za HV).feach p hp).ws st.ws).ws hws; rw [h1]; exact Zlw b hb1 v l p.2 pv hv sv bv pp pb w' hw (by omega) (((Za HG).ws hb1 st.ws).ws hb1 hws) h2) 1 8 (by omega) v2 l2 _ st.wt (by omega) ((Za HV).ws st.ws).fls (Za HV).lens.1);rw [(Za HV).funcs] at HM;clear st;go_wp2_with fail
  refine(Za HM).mono ?_;rintro e w3 ⟨hws,hm⟩;cases hr:Jh 1 8 Gk p.funcs with
  | none=>rw [hr] at hm;subst hm;refine⟨rfl,(Za ST).ws.trans hws,?_⟩;unfold Nk;rw [Za HR2,hr];rfl
  | some bs3 =>
   rw [hr] at hm;obtain⟨rfl,v3,hw⟩:=hm;have hbs:bs3.length<=160001:=Xf Gk 20000 Sn 1 8 _ _ hr;have st:=(Za ST).step (by decide) hbl hws hw;have HR3:=Zd hr;obtain⟨l3,hlk⟩:∃ x,x=l2++bs3:=⟨_,rfl⟩;have hn3:l3.length<=l2.length+160001:=by rw [hlk]; simp; omega
   rw [← hlk] at st;have HL3:=Zd hlk;clear hws hw hr hlk hbs ST HM c0;have ST:=Zd st;clear st;go_wp2;refine bodyPost_end (results_none (fn:=Tryz.f78) rfl _ _ _) rfl ?_;refine⟨(Za ST).ws,?_⟩;have hx2:Nk p=some ([70,49]++(bs2++bs3)):=by unfold Nk; rw [Za HR2,Za HR3]; rfl
   rw [hx2];refine⟨rfl,v3,?_⟩;have hw:=(Za ST).wt;rw [Za HL3,Za HL2,Za HL1] at hw;simpa using hw
def Li (w:World)(v:Value)(ns:List Int):Prop:=∃ p cap,v=.slice p ns.length cap∧ns.length<=cap∧ns.length<Xe∧(0<ns.length->∃ sb so,p=some ⟨sb,so,none⟩∧∀ i,i<ns.length->w.cell? ⟨sb,so+i,none⟩=some (.int .i64 (ns.getD i 0)))
def LS (size:Nat)(w:World)(v:Value)(n:Nat)(A:Nat->Array Value):Prop:=∃ p cap,v=.slice p n cap∧n<=cap∧n<Xe∧(0<n->∃ sb so,p=some ⟨sb,so,none⟩∧sb<w.heap.size∧∀ i,i<n->w.rangeAt sb (so+i*size) (A i).toList)
theorem Li.below {w w':World}{v:Value}{ns:List Int}(h:Li w v ns)(hb:Below w.heap.size w w'):Li w' v ns:=by obtain⟨p,cap,h1,h2,h3,h4⟩:=h;refine⟨p,cap,h1,h2,h3,fun h0=>?_⟩;obtain⟨sb,so,e,hc⟩:=h4 h0;exact⟨sb,so,e,fun i hi=>(hb.cell (p:=⟨sb,so+i,none⟩) (World.block_lt_of_cell? w _ (hc i hi))).trans (hc i hi)⟩
theorem LS.below {size:Nat}{w w':World}{v:Value}{n:Nat}{A:Nat->Array Value}(h:LS size w v n A)(hb:Below w.heap.size w w'):LS size w' v n A:=by obtain⟨p,cap,h1,h2,h3,h4⟩:=h;refine⟨p,cap,h1,h2,h3,fun h0=>?_⟩;obtain⟨sb,so,e,hlt,hc⟩:=h4 h0;exact⟨sb,so,e,Nat.lt_of_lt_of_le hlt hb.size,fun i hi j x hx=>(hb.cell (p:=⟨sb,so+i*size+j,none⟩) hlt).trans (hc i hi j x hx)⟩
def La (x:Int×Int):Array Value:=#[.int .i64 x.1,.int .i64 x.2]
def Zle (w:World)(A:Array Value)(i:Yb):Prop:=∃ av ov,A=#[.int .i64 i.op,.int .i64 i.d,.int .i64 i.a,.int .i64 i.bb,.int .u64 i.n,.int .i64 i.f,av,ov]∧LS 2 w av i.args.length (fun k=>La (i.args.getD k (0,0)))∧Li w ov i.outs
def Zaj (w:World)(v:Value)(l:List Yb):Prop:=∃ A:Nat->Array Value,LS 8 w v l.length A∧∀ k (h:k<l.length),Zle w (A k) l[k]
structure Id (w:World)(f:Zj)(pv hv sv bv:Value)(B:Nat->Value):Prop where
 ps:LS 2 w pv f.params.length (fun k=>La (f.params.getD k (0,0)))
 hs:Li w hv f.homes
 ss:Li w sv f.slots
 bs:LS 1 w bv f.blocks.length (fun k=>#[B k])
 each:∀ k (h:k<f.blocks.length),Zaj w (B k) f.blocks[k]
def Sd (w:World)(A:Array Value)(f:Zj):Prop:=∃ pv hv sv bv B,A=#[pv,.int .i64 f.results,hv,sv,bv]∧Id w f pv hv sv bv B
def Zlf (w:World)(A:Array Value)(s:List Int×Int):Prop:=∃ lv,A=#[lv,.int .i64 s.2]∧Li w lv s.1
structure Mo (w:World)(fv ev:Value)(p:Zk)(A E:Nat->Array Value):Prop where
 fs:LS 5 w fv p.funcs.length A
 feach:∀ k (h:k<p.funcs.length),Sd w (A k) p.funcs[k]
 es:LS 2 w ev p.externs.length E
 eeach:∀ k (h:k<p.externs.length),Zlf w (E k) p.externs[k]
theorem Zle.below {w w':World}{A:Array Value}{i:Yb}(h:Zle w A i)(hb:Below w.heap.size w w'):Zle w' A i:=by obtain⟨av,ov,h1,h2,h3⟩:=h;exact⟨av,ov,h1,h2.below hb,h3.below hb⟩
theorem Zaj.below {w w':World}{v:Value}{l:List Yb}(h:Zaj w v l)(hb:Below w.heap.size w w'):Zaj w' v l:=by obtain⟨A,h1,h2⟩:=h;exact⟨A,h1.below hb,fun k hk=>(h2 k hk).below hb⟩
theorem Id.below {w w':World}{f:Zj}{pv hv sv bv:Value}{B:Nat->Value}(h:Id w f pv hv sv bv B)(hb:Below w.heap.size w w'):Id w' f pv hv sv bv B :=
 ⟨h.ps.below hb,h.hs.below hb,h.ss.below hb,h.bs.below hb,fun k hk=>(h.each k hk).below hb⟩
theorem Sd.below {w w':World}{A:Array Value}{f:Zj}(h:Sd w A f)(hb:Below w.heap.size w w'):Sd w' A f:=by obtain⟨pv,hv,sv,bv,B,h1,h2⟩:=h;exact⟨pv,hv,sv,bv,B,h1,h2.below hb⟩
theorem Zlf.below {w w':World}{A:Array Value}{s:List Int×Int}(h:Zlf w A s)(hb:Below w.heap.size w w'):Zlf w' A s:=by obtain⟨lv,h1,h2⟩:=h;exact⟨lv,h1,h2.below hb⟩
theorem Mo.below {w w':World}{fv ev:Value}{p:Zk}{A E:Nat->Array Value}(h:Mo w fv ev p A E)(hb:Below w.heap.size w w'):Mo w' fv ev p A E :=
 ⟨h.fs.below hb,fun k hk=>(h.feach k hk).below hb,h.es.below hb,fun k hk=>(h.eeach k hk).below hb⟩
theorem Li.nil (w:World):Li w (.slice none 0 0) []:=⟨none,0,rfl,Nat.le_refl _,by decide,fun h=>absurd h (by decide)⟩
theorem Li.take {w:World}{p:Option Addr}{cap:Nat}{ns:List Int}(h:Li w (.slice p ns.length cap) ns)(k:Nat)(hk:k<=ns.length):Li w (.slice p k cap) (ns.take k):=by
 obtain⟨p',cap',h1,h2,h3,h4⟩:=h;injection h1 with e1 e2 e3;subst e1 e3;have hl:(ns.take k).length=k:=by simp; omega
 refine⟨p,cap,by rw [hl],by omega,by omega,fun h0=>?_⟩;obtain⟨sb,so,e,hc⟩:=h4 (by omega);refine⟨sb,so,e,fun i hi=>?_⟩;rw [hl] at hi;rw [hc i (by omega)];simp [List.getD,hi]
theorem Li.new {w:World}{g:Nat}{ns:List Int}{t:TypeId}{fr:Nat×Nat}(h:w.heap[g]?=some (.cells (ns.map fun n=>Value.int .i64 n).toArray t fr))(hs:ns.length<Xe):Li w (.slice (some ⟨g,0,none⟩) ns.length ns.length) ns :=
 ⟨_,_,rfl,Nat.le_refl _,hs,fun _=>⟨g,0,rfl,fun i hi=>by
  rw [Nat.zero_add,Zl h i];simp [List.getD,hi]⟩⟩
theorem Li.shape {w:World}{v:Value}{ns:List Int}(h:Li w v ns):∃ p cap,v=.slice p ns.length cap:=by obtain⟨p,cap,h1,-⟩:=h;exact⟨p,cap,h1⟩
theorem LS.shape {size:Nat}{w:World}{v:Value}{n:Nat}{A:Nat->Array Value}(h:LS size w v n A):∃ p cap,v=.slice p n cap:=by obtain⟨p,cap,h1,-⟩:=h;exact⟨p,cap,h1⟩
theorem Li.lt {w:World}{v:Value}{ns:List Int}(h:Li w v ns):ns.length<Xe:=by obtain⟨p,cap,-,-,h,-⟩:=h;exact h
def Zh:Zj:=⟨[],0,[],[],[]⟩
def Jo:Yb:=⟨0,0,0,0,0,0,[],[]⟩
def Xl (n lo hi:Int):Bool:=decide (lo<=n∧n<=hi)
def upB (n:Nat)(q:Nat->Bool):Bool:=(List.range n).all q
theorem Gl {n:Nat}{q:Nat->Bool}(h:∀ k,k<n->q k=true):upB n q=true:=by unfold upB;rw [List.all_eq_true];exact fun k hk=>h k (List.mem_range.1 hk)
theorem Jm {n:Nat}{q:Nat->Bool}{k:Nat}(hk:k<n)(h:q k=false):upB n q=false:=by unfold upB;rw [List.all_eq_false];exact⟨k,List.mem_range.2 hk,by simp [h]⟩
theorem Je {n:Nat}{q:Nat->Bool}(h:upB n q=true){k:Nat}(hk:k<n):q k=true:=by unfold upB at h;rw [List.all_eq_true] at h;exact h k (List.mem_range.2 hk)
theorem Xp {q:Nat->Bool}{k:Nat}(h:∀ j,j<k->q j=true)(hk:q k=true):∀ j,j<k+1->q j=true:=fun j hj=>by
 rcases Nat.lt_succ_iff_lt_or_eq.1 hj with h' | h'
 ·exact h j h'
 ·subst h'; exact hk
def Jv (ns:List Int)(lo hi:Int):Bool:=upB ns.length fun k=>Xl (ns.getD k 0) lo hi
def Od (s:List Int×Int):Bool:=decide (s.1.length<=8)&&(Xl s.2 0 4&&Jv s.1 0 8)
def Jw (f:Zj):List Int×Int:=(f.params.map (·.1),f.results)
def Zfg (regs:Int)(own hs:List Int)(k:Nat):Bool:=decide (hs.getD k 0=-1)||(Xl (hs.getD k 0) 0 (regs-1)&&(!decide (hs.getD k 0 ∈ own)&&!decide (hs.getD k 0 ∈ hs.take k)))
def Cj (regs:Int)(own hs:List Int):Bool:=upB hs.length (Zfg regs own hs)
def Ul (bs:List (List Yb)):Bool:=upB bs.length fun k=>Xl ((bs.getD k []).length) 1 24
def Ll (f:Zj)(x:Int×Int):Bool:=if x.1=0 then Xl x.2 0 (f.homes.length-1) else Xl x.2 0 (f.slots.length-1)&&decide (f.slots.getD x.2.toNat 0=x.1)
def Zcm (x y:Int×Int):Bool:=decide (x.2=y.2)&&(decide (x.1=0)==decide (y.1=0))
def Ck (f:Zj)(k:Nat):Bool:=Ll f (f.params.getD k (0,0))&&upB k fun j=>!Zcm (f.params.getD k (0,0)) (f.params.getD j (0,0))
def Um (f:Zj):Bool:=upB f.params.length (Ck f)
def Yv (regs:Int)(own:List Int)(f:Zj):Bool :=
 decide (f.params.length<=8)&&(Od (Jw f)&&(decide (f.homes.length<=12)&&(Cj regs own f.homes&&(decide (f.slots.length<=6)&&(Jv f.slots 1 8&&(Xl f.blocks.length 1 12&&(Ul f.blocks&&Um f)))))))
def Jf (p:Zk):Bool:=Xl p.funcs.length 1 8&&(decide (p.externs.length<=4)&&upB p.externs.length fun k=>Od (p.externs.getD k ([],0)))
def Zw (f:Zj)(n:Int):Bool:=Xl n 0 (f.homes.length-1)
def Jp (f:Zj)(l:List Int):Bool:=upB l.length fun k=>Zw f (l.getD k 0)
def Sc (f:Zj)(gs:List (Int×Int))(ps:List Int):Bool:=decide (gs.length=ps.length)&&upB gs.length fun k=>decide ((gs.getD k (0,0)).1=ps.getD k 0)&&Ll f (gs.getD k (0,0))
def Zcn (l:List Int):Bool:=upB l.length fun k=>!decide (l.getD k 0 ∈ l.take k)
def De (f:Zj)(i:Yb)(s:List Int×Int):Bool:=Sc f i.args s.1&&(decide ((i.outs.length:Int)=s.2)&&(Jp f i.outs&&Zcn i.outs))
def Ic (f:Zj)(i:Yb)(s:List Int×Int):Bool:=Sc f i.args s.1&&decide (s.2=f.results)
def Cl (n:Int):Bool:=decide (n=1∨n=2∨n=4∨n=8)
def Kw (f:Zj)(i:Yb):Bool:=Xl i.a 0 (f.slots.length-1)&&(Cl i.n&&(Xl i.bb 0 (8*f.slots.getD i.a.toNat 0-i.n)&&decide (i.bb % i.n=0)))
def Zn (p:Zk)(f:Zj)(i:Yb):Bool :=
 if i.op=1 then Zw f i.d
 else if i.op=2 then Zw f i.d&&Zw f i.a
 else if i.op=10∨i.op=11 then Zw f i.d&&Kw f i
 else if i.op=12 then Xl i.f 0 (p.funcs.length-1)&&De f i (Jw (p.funcs.getD i.f.toNat Zh))
 else if i.op=13 then Xl i.f 0 (p.externs.length-1)&&De f i (p.externs.getD i.f.toNat ([],0))
 else if i.op=14 then Xl i.a 0 (f.blocks.length-1)
 else if i.op=15 then Zw f i.d&&(Xl i.a 0 (f.blocks.length-1)&&Xl i.bb 0 (f.blocks.length-1))
 else if i.op=16 then decide ((i.outs.length:Int)=f.results)&&Jp f i.outs
 else if i.op=17 then Xl i.f 0 (p.funcs.length-1)&&Ic f i (Jw (p.funcs.getD i.f.toNat Zh))
 else if i.op=18 then true
 else Zw f i.d&&(Zw f i.a&&Zw f i.bb)
def Zai (p:Zk)(f:Zj)(i:Yb)(last:Bool):Bool:=Xl i.op 1 18&&((decide (14<=i.op)==last)&&(!i.spare&&Zn p f i))
def Lo (n:Nat)(ok:Nat->Bool):Option Nat:=(List.range n).find? fun k=>!ok k
theorem Un {n:Nat}{ok:Nat->Bool}{k:Nat}(h:∀ j,j<k->ok j=true)(hk:k<n)(hb:ok k=false):Lo n ok=some k:=by unfold Lo;rw [List.find?_range_eq_some];exact⟨by simp [hb],List.mem_range.2 hk,fun j hj=>by simp [h j hj]⟩
theorem Nl {n:Nat}{ok:Nat->Bool}(h:∀ j,j<n->ok j=true):Lo n ok=none:=by unfold Lo;rw [List.find?_eq_none];intro j hj;simp [h j (List.mem_range.1 hj)]
def Zif (p:Zk)(f:Zj)(k j:Nat):Bool:=Zai p f ((f.blocks.getD k []).getD j Jo) (decide (j+1=(f.blocks.getD k []).length))
def Zig (p:Zk)(f:Zj)(k:Nat):Bool:=upB (f.blocks.getD k []).length (Zif p f k)
def Oc (p:Zk)(f:Zj):Bool:=upB f.blocks.length (Zig p f)
def Gr (p:Zk)(f:Zj):Int×Int:=match Lo f.blocks.length (Zig p f) with
 | none=>(-1,-1)
 | some k=>(k,((Lo (f.blocks.getD k []).length (Zif p f k)).getD 0:Nat))
structure Zbt where
 e:Int
 f:Int
 b:Int
 a:Int
def Oe (tab:Bool)(regs:Int)(own:List Int)(p:Zk):Zbt :=
 if tab=false then ⟨2,-1,-1,-1⟩ else if Jf p=false then ⟨5,-1,-1,-1⟩ else match Lo p.funcs.length (fun k=>Yv regs own (p.funcs.getD k Zh)) with
  | some k=>⟨5,k,-1,-1⟩
  | none=>match Lo p.funcs.length (fun k=>Oc p (p.funcs.getD k Zh)) with
   | some k=>⟨5,k,(Gr p (p.funcs.getD k Zh)).1,(Gr p (p.funcs.getD k Zh)).2⟩
   | none=>⟨0,-1,-1,-1⟩
set_option maxHeartbeats 1000000
set_option maxRecDepth 100000
theorem Yo (n lo hi:Int)(w:World):Calls Tryz.prog 100 #[.int .i64 n,.int .i64 lo,.int .i64 hi] w fun e w'=>e=.returned (.bool (Xl n lo hi))∧w'=w:=by
 unfold Xl;by_cases h1:lo<=n
 ·by_cases h2:n<=hi
  ·have hd:decide (lo<=n∧n<=hi)=true:=by simp; omega
   rw [hd];clear hd;go_enter Tryz.func100,Tryz.ntmps100
   go_wp2;go_ret;exact⟨rfl,rfl⟩
  ·have hd:decide (lo<=n∧n<=hi)=false:=by simp; omega
   rw [hd];clear hd;go_enter Tryz.func100,Tryz.ntmps100
   go_wp2;go_ret;exact⟨rfl,rfl⟩
 ·have hd:decide (lo<=n∧n<=hi)=false:=by simp; omega
  rw [hd];clear hd;go_enter Tryz.func100,Tryz.ntmps100
  go_wp2;go_ret;exact⟨rfl,rfl⟩
theorem Zkx (v:Value)(ns:List Int)(w:World)(h:Li w v ns):Calls Tryz.prog 129 #[v] w fun e w'=>e=.returned (.bool (Jv ns 1 8))∧w'=w:=by
 obtain⟨p,cap,rfl,hcap,hlt,hc⟩:=h;have hlt:ns.length<9223372036854775808:=hlt;have HC:=O hc;clear hc;go_enter Tryz.func129,Tryz.ntmps129
 go_wp2_with fail
 go_loopw [7] (fun j w'=>∃ k:Nat,j=.int .i64 k∧k<=ns.length∧w'=w∧∀ q,q<k->Xl (ns.getD q 0) 1 8=true) (fun j _=>ns.length-(intOf j).toNat)
 case atStart=>exact⟨0,rfl,by omega,rfl,fun q hq=>by omega⟩
 case round =>
  obtain⟨k,rfl,hk,rfl,hno⟩:=hrel;have HN:=O hno;clear hno;by_cases hk2:k<ns.length
  ·obtain⟨sb,so,rfl,hcc⟩:=J HC (by omega);have c:=hcc k hk2;have HW:=O (Yo (ns.getD k 0) 1 8 wr);have HBAD:=O (fun hb:Xl (ns.getD k 0) 1 8=false=>show Jv ns 1 8=false from Jm hk2 hb);have HNX:=O (fun hb:Xl (ns.getD k 0) 1 8=true=>Xp (q:=fun q=>Xl (ns.getD q 0) 1 8) (J HN) hb);clear hcc HC;generalize Xl (ns.getD k 0) 1 8=yes at HW HBAD HNX;generalize ns.getD k 0=y at c HW;go_wp2_with fail
   refine(J HW).mono ?_;rintro e w2 ⟨rfl,h2⟩;subst w2;cases yes with
   | false=>have hx:=O (J HBAD rfl);go_wp2;go_ret;exact⟨by rw [J hx]; rfl,rfl⟩
   | true =>
    have hx:=O (J HNX rfl);go_wp2;go_roundw
    case rel=>exact⟨k+1,by go_num,by omega,trivial,J hx⟩
    case measure=>simp [intOf]; omega
  ·have HT:=O (show Jv ns 1 8=true from Gl (fun q hq=>J HN q (by omega)));obtain rfl:k=ns.length:=by omega
   go_wp2;go_ret;exact⟨by rw [J HT]; rfl,rfl⟩
theorem al0 (w:World)(X:Obj):(w.alloc X).heap[w.heap.size]?=some X∧Below w.heap.size w (w.alloc X)∧(w.alloc X).heap.size=w.heap.size+1 :=
 ⟨heap_alloc_new w _,(Below.refl w.heap.size w).alloc (Nat.le_refl _) _,by simp⟩
theorem Ge {a w:World}{n:Nat}(h:Below n a w)(m:Nat):Below n a (w.drewN m):=⟨h.os,h.tape,h.output,h.size,h.block⟩
theorem Zc {a c d:World}{n:Nat}(h:Below n a c)(k:Below c.heap.size c d)(hn:n<=c.heap.size):Below n a d:=h.trans (k.mono hn)
theorem LS.pairs {w:World}{v:Value}{xs:List (Int×Int)}(h:LS 2 w v xs.length (fun k=>La (xs.getD k (0,0)))):∃ p cap,v=.slice p xs.length cap∧xs.length<=cap∧xs.length<9223372036854775808∧(0<xs.length->∃ sb so,p=some ⟨sb,so,none⟩∧∀ k,k<xs.length->w.cell? ⟨sb,so+k*2,none⟩=some (.int .i64 (xs.getD k (0,0)).1)∧w.cell? ⟨sb,so+k*2+1,none⟩=some (.int .i64 (xs.getD k (0,0)).2)):=by obtain⟨p,cap,h1,h2,h3,h4⟩:=h;refine⟨p,cap,h1,h2,h3,fun h0=>?_⟩;obtain⟨sb,so,e,-,hc⟩:=h4 h0;exact⟨sb,so,e,fun k hk=>⟨hc k hk 0 _ rfl,hc k hk 1 _ rfl⟩⟩
theorem Zah (v:Value)(ns:List Int)(r:Int)(w:World)(h:Li w v ns):Calls Tryz.prog 62 #[.agg #[v,.int .i64 r]] w fun e w'=>e=.returned (.bool (Od (ns,r)))∧Below w.heap.size w w':=by
 have hx:=al0 w (.cells #[v,.int .i64 r] 43 (0,0));have h':=h.below hx.2.1;obtain⟨p,cap,rfl,hcap,hlt,hc⟩:=h';have hlt:ns.length<9223372036854775808:=hlt;have HC:=O hc;have HX:=O hx;clear hc hx h;by_cases h8:ns.length<=8
 ·have HS:=O (show Od (ns,r)=(Xl r 0 4&&Jv ns 0 8) by unfold Od; simp [h8]);go_enter Tryz.func62,Tryz.ntmps62
  go_wp2_with fail
  refine(Yo r 0 4 _).mono ?_;rintro e w2 ⟨rfl,h2⟩;subst w2;cases hr:Xl r 0 4 with
  | false=>have HR:=O hr;clear hr;go_wp2;go_ret;exact⟨by rw [J HS,J HR]; rfl,(J HX).2.1⟩
  | true =>
   have HR:=O hr;clear hr;go_wp2_with fail
   generalize World.alloc w _=W at HC HX ⊢;go_loopw [18] (fun j w'=>∃ k:Nat,j=.int .i64 k∧k<=ns.length∧w'=W∧∀ q,q<k->Xl (ns.getD q 0) 0 8=true) (fun j _=>ns.length-(intOf j).toNat)
   case atStart=>exact⟨0,rfl,by omega,rfl,fun q hq=>by omega⟩
   case round =>
    obtain⟨k,rfl,hk,rfl,hno⟩:=hrel;have HN:=O hno;clear hno;by_cases hk2:k<ns.length
    ·obtain⟨sb,so,rfl,hcc⟩:=J HC (by omega);have c:=hcc k hk2;have HW:=O (Yo (ns.getD k 0) 0 8 wr);have HBAD:=O (fun hb:Xl (ns.getD k 0) 0 8=false=>show Jv ns 0 8=false from Jm hk2 hb);have HNX:=O (fun hb:Xl (ns.getD k 0) 0 8=true=>Xp (q:=fun q=>Xl (ns.getD q 0) 0 8) (J HN) hb);clear hcc HC;generalize Xl (ns.getD k 0) 0 8=yes at HW HBAD HNX;generalize ns.getD k 0=y at c HW;go_wp2_with fail
     refine(J HW).mono ?_;rintro e w2 ⟨rfl,h2⟩;subst w2;cases yes with
     | false=>have hx:=O (J HBAD rfl);go_wp2;go_ret;exact⟨by rw [J HS,J HR,J hx]; rfl,(J HX).2.1⟩
     | true =>
      have hx:=O (J HNX rfl);go_wp2;go_roundw
      case rel=>exact⟨k+1,by go_num,by omega,trivial,J hx⟩
      case measure=>simp [intOf]; omega
    ·have HT:=O (show Jv ns 0 8=true from Gl (fun q hq=>J HN q (by omega)));obtain rfl:k=ns.length:=by omega
     go_wp2;go_ret;exact⟨by rw [J HS,J HR,J HT]; rfl,(J HX).2.1⟩
 ·have HS:=O (show Od (ns,r)=false by unfold Od; simp [h8]);go_enter Tryz.func62,Tryz.ntmps62
  go_wp2;go_ret;exact⟨by rw [J HS]; rfl,(J HX).2.1⟩
theorem Zia (f:Zj)(a v u c:Value)(r:Int)(x:Int×Int)(w:World)(hh:Li w v f.homes)(hs:Li w u f.slots):Calls Tryz.prog 196 #[.agg #[a,.int .i64 r,v,u,c],.agg #[.int .i64 x.1,.int .i64 x.2]] w fun e w'=>e=.returned (.bool (Ll f x))∧Below w.heap.size w w':=by
 obtain⟨x,y⟩:=x;obtain⟨p,cap,rfl,hcap,hlt,hc⟩:=hh;have hlt:f.homes.length<9223372036854775808:=hlt;have hx:=al0 w (.cells #[a,.int .i64 r,.slice p f.homes.length cap,u,c] 71 (0,0));have hs':=hs.below hx.2.1;have hs1:=hx.2.2;have HX:=O hx.2.1;generalize hW:World.alloc w (.cells #[a,.int .i64 r,.slice p f.homes.length cap,u,c] 71 (0,0))=W at hs' HX hs1;have hy:=al0 W (.cells #[.int .i64 x,.int .i64 y] 107 (0,0));have hs'':=hs'.below hy.2.1;have HB:=O (Zc (J HX) hy.2.1 (by omega));obtain⟨p2,cap2,rfl,hcap2,hlt2,hc2⟩:=hs'';have hlt2:f.slots.length<9223372036854775808:=hlt2;have HC2:=O hc2;clear hc hc2 hs hs' hx hy;subst hW;by_cases h0:x=0
 ·have HS:=O (show Ll f (x,y)=Xl y 0 (f.homes.length-1) by unfold Ll; simp [h0]);have HW:=O (fun V=>Yo y 0 (f.homes.length-1) V);generalize Xl y 0 (f.homes.length-1)=yes at HS HW;subst h0;go_enter Tryz.func196,Tryz.ntmps196
  go_wp2_with fail
  refine(J HW _).mono ?_;rintro e w2 ⟨rfl,h2⟩;subst w2;go_wp2;go_ret;exact⟨by rw [J HS]; rfl,J HB⟩
 ·have hz:(x==0)=false:=by simpa using h0
  have HS:=O (show Ll f (x,y)=(Xl y 0 (f.slots.length-1)&&decide (f.slots.getD y.toNat 0=x)) by unfold Ll; simp [h0]);have HW:=O (fun V=>Yo y 0 (f.slots.length-1) V);go_enter Tryz.func196,Tryz.ntmps196
  go_wp2_with fail
  cases hr:Xl y 0 (f.slots.length-1) with
  | false =>
   rw [hr] at HW HS;go_quiet ((go_at_call 100; exact Calls.quiet_of_same (J HW _)))
   go_wp2;go_ret;exact⟨by rw [J HS]; rfl,Ge (J HB) _⟩
  | true =>
   rw [hr] at HW HS;have hr2:=hr;unfold Xl at hr2;have hr3:=of_decide_eq_true hr2;obtain⟨g0,g1⟩:=hr3;obtain⟨sb,so,rfl,hcc⟩:=J HC2 (by omega);obtain⟨n,rfl⟩:∃ n:Nat,y=n:=⟨y.toNat,by omega⟩;have hn:n<f.slots.length:=by omega
   have cc:=hcc n hn;rw [Int.toNat_natCast] at HS;clear hr hr2 hcc HC2 g0 g1;generalize f.slots.getD n 0=z at cc HS;go_quiet ((go_at_call 100; exact Calls.quiet_of_same (J HW _)))
   go_wp2;go_ret;exact⟨by rw [J HS]; rfl,Ge (J HB) _⟩
end Go.Proofs.YtkenknfgeoecbaaGreatDoor
