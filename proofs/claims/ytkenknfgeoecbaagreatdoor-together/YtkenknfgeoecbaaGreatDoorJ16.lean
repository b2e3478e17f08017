import Derived.Test.YtkenknfgeoecbaaGreatDoorJ15
namespace Go.Proofs.YtkenknfgeoecbaaGreatDoor
open Go.RowKit
set_option maxHeartbeats 8000000
set_option maxRecDepth 100000
structure Yj where
 op:Int
 d:Int
 a:Int
 bb:Int
 n:Int
 f:Int
 args:List (Int×Int)
 outs:List Int
def Yj.spare (i:Yj):Bool:=Dp i.op i.d i.a i.bb i.n i.f i.args.length i.outs.length
def Sz (c:Bool)(x:Option (List UInt8)):Option (List UInt8):=if c then x else some []
def Lk (op m:Int):Bool:=bits .and .u8 (Nh op) m != 0
def Xv (i:Yj):Option (List UInt8):=Xr (Zl 1 18 i.op) (if i.spare then none else
 Xr (Sz (Lk i.op 1) (Zl 0 255 i.d)) (Xr (Sz (Lk i.op 2) (Zl 0 255 i.a)) (Xr (Sz (Lk i.op 4) (Zl 0 255 i.bb)) (Xr (Sz (Lk i.op 8) (Zte i.op i.n)) (Xr (Sz (Lk i.op 16) (Zl 0 255 i.f)) (Xr (Sz (Lk i.op 32) (Xz 0 8 Zlm i.args)) (Sz (Lk i.op 64) (Xz 0 4 (Zl 0 255) i.outs))))))))
theorem Wt.below {w w':World}{b:Nat}{v:Value}{l:List UInt8}(h:Wt w b v l)(hb:Below w.heap.size w w'):Wt w' b v l :=
 have e:=hb.block b h.lt;⟨(World.cell?_of_block e).trans h.cell,(World.frozen?_of_block (a:=⟨b,0,none⟩) e).trans h.fz,World.ownsRow.kept h.row (⟨hb.os,hb.tape,hb.output,hb.size,fun q hq _=>hb.block q hq⟩:w.grownBy w' none) (by cases v.ownBlock <;> simp)⟩
theorem Ru {w w':World}{b:Nat}(hb:Below w.heap.size w w')(h:b<=w.heap.size):Ws w w' b :=
 ⟨⟨hb.os,hb.tape,hb.output,hb.size,fun q hq=>hb.block q (by omega)⟩,fun k o hk _ _=>by
  have hlt:k<w.heap.size:=by
   rcases Nat.lt_or_ge k w.heap.size with y | y
   ·exact y
   ·simp [Array.getElem?_eq_none y] at hk
  exact(hb.block k hlt).trans hk⟩
structure Ku (w wk:World)(b T:Nat)(arr:Array Value)(v:Value)(l:List UInt8):Prop where
 ws:Ws w wk b
 wt:Wt wk b v l
 row:wk.heap[T]?=some (.cells arr 110 (0,0))
theorem Ku.step {w wk wn:World}{b T:Nat}{arr:Array Value}{v v':Value}{l l':List UInt8}(h:Ku w wk b T arr v l)(hb:b<T)(hws:Ws wk wn b)(hwt:Wt wn b v' l'):Ku w wn b T arr v' l' :=
 ⟨h.ws.trans hws,hwt,hws.oth T _ h.row (by intro e; injection e with e; omega) (by intro c fz e; injection e with e1 e2 e3; exact absurd e2 (by decide))⟩
theorem Ku.cells {w wk:World}{b T:Nat}{arr:Array Value}{v:Value}{l:List UInt8}(h:Ku w wk b T arr v l)(j:Nat)(x:Value)(hx:arr[j]?=some x):wk.cell? ⟨T,j,none⟩=some x:=(Zi h.row j).trans hx
theorem Zlo (x:Int×Int)(bs:List UInt8)(h:Zlm x=some bs):bs.length<=2:=by have:=Ma (A:=1) (C:=1) (fun x hx=>Nat.le_of_eq (Zp hx)) (fun x hx=>Nat.le_of_eq (Zp hx)) h;omega
theorem Zqi {op n:Int}{bs:List UInt8}(h:Zte op n=some bs):bs.length<=8:=by
 unfold Zte at h;split at h
 ·cases h
 ·injection h with h;subst h;rw [Znw];unfold Gq;split <;> omega
theorem Ztf (x:Option (List UInt8)):Xr x (some [])=x:=by cases x <;> simp [Xr]
theorem Ztg (x:Option (List UInt8)):Xr (some []) x=x:=by cases x <;> simp [Xr]
theorem Yci (b:Nat)(hb1:2<b)(v:Value)(l:List UInt8)(i:Yj)(av ov:Value)(w:World)(h:Wt w b v l)(hl:l.length<=88000000000)(hg:Zo w)(h1:1<=i.op)(h18:i.op<=18)(hneed:Nh i.op=7)(pa:List (Array Value×(Int×Int)))(hpa:pa.map (·.2)=i.args)(hpv:∀ p ∈ pa,p.1=#[.int .i64 p.2.1,.int .i64 p.2.2])(hargs:Cz 2 w b av pa)(houts:Sk w b ov i.outs)(hal:i.args.length<9223372036854775808)(hol:i.outs.length<9223372036854775808) :
 Calls Tryz.prog 231 #[.pointer (some ⟨b,0,none⟩),.agg #[.int .i64 i.op,.int .i64 i.d,.int .i64 i.a,.int .i64 i.bb,.int .u64 i.n,.int .i64 i.f,av,ov]] w (Nj b l (Xv i) w):=by
 have hform:Xv i=Xr (some [Xs i.op]) (if i.spare then none else Xr (Zl 0 255 i.d) (Xr (Zl 0 255 i.a) (Zl 0 255 i.bb))):=by unfold Xv Lk;rw [hneed,show Zl 1 18 i.op=some [Xs i.op] from if_pos ⟨h1,h18⟩];simp only [show(bits .and .u8 7 1 != 0)=true by decide,show(bits .and .u8 7 2 != 0)=true by decide,show(bits .and .u8 7 4 != 0)=true by decide,show(bits .and .u8 7 8 != 0)=false by decide,show(bits .and .u8 7 16 != 0)=false by decide,show(bits .and .u8 7 32 != 0)=false by decide,show(bits .and .u8 7 64 != 0)=false by decide,Sz,if_true,Bool.false_eq_true,if_false,Ztf]
 have HF:=Zc hform;obtain⟨ap,ac,hav⟩:=hargs.shape;obtain⟨op',oc,hov⟩:=houts.shape;have hpl:pa.length=i.args.length:=by rw [← hpa]; simp
 rw [hpl] at hav;subst hav hov;have hbl:=h.lt;have HA:=Zc hargs;have HO:=Zc houts;have HAL:=Zc (show pa.length<9223372036854775808 by omega);have HPA:=Zc hpa;have HOL:=Zc hol;have HPV:=Zc hpv;have HPS:=Zc (show ∀ p ∈ pa,p.1.size=2∧p.1.all (·.oneCell')=true from fun p hp=>by rw [hpv p hp]; exact⟨rfl,by simp [Value.oneCell']⟩);have HG:=Zc hg;have HNUM:=Zc (show Zl 1 18 i.op=some [Xs i.op] from if_pos ⟨h1,h18⟩);have HN:=Zc (fun X:Obj=>Jg b v l i.op 1 18 (w.alloc X) (h.alloc X) (by omega));have HWA:=Zc (fun X:Obj=>Xp w X b (by omega));clear hargs houts hg h hform hpa hpv hpl;go_enter Tryz.func231,Tryz.ntmps231
 go_wp2_with fail
 refine(O HN _).mono ?_;rintro e w1 ⟨hws,hm⟩;rw [O HNUM] at hm;obtain⟨rfl,v1,hw1⟩:=hm;have st:Ku w w1 b w.heap.size #[.int .i64 i.op,.int .i64 i.d,.int .i64 i.a,.int .i64 i.bb,.int .u64 i.n,.int .i64 i.f,.slice ap i.args.length ac,.slice op' i.outs.length oc] v1 (l++[Xs i.op]):=⟨(O HWA _).trans hws,hw1,Zln hbl (by decide) hws⟩;have ST:=Zc st;have hb1w:=hw1.lt;have HROW:=Zc st.row;have HS:=Zc (Kk i.op i.d i.a i.bb i.n i.f ap op' i.args.length i.outs.length ac oc w1 h1 h18 ((O HG).ws hb1 st.ws) (by omega));clear hws hw1 HN st;go_wp2_with (refine wpList_load_row rfl 110 (.tmp 3) rfl w.heap.size rfl 110 _ (0,0) _ (O HROW) Tryz.underlying110 rfl (Tryz.infInss.trans rfl) ?_)
 refine(O HS).mono ?_;rintro e w2 ⟨rfl,hbel⟩;have st:Ku w w2 b w.heap.size #[.int .i64 i.op,.int .i64 i.d,.int .i64 i.a,.int .i64 i.bb,.int .u64 i.n,.int .i64 i.f,.slice ap i.args.length ac,.slice op' i.outs.length oc] v1 (l++[Xs i.op]):=(O ST).step hbl (Ru hbel (by omega)) ((O ST).wt.below hbel);clear hbel HS ST HROW;cases hsp:Dp i.op i.d i.a i.bb i.n i.f i.args.length i.outs.length with
 | true =>
  have HR:=Zc (show Xv i=none by rw [O HF,show i.spare=true from hsp]; rfl);have ST:=Zc st;clear st;go_wp2_with fail
  refine(Rz _ _).mono ?_;rintro e w3 ⟨rfl,hw⟩;subst w3;exact⟨rfl,(O ST).ws,by rw [O HR]⟩
 | false =>
  have HF2:=Zc (show Xv i=Xr (some [Xs i.op]) (Xr (Zl 0 255 i.d) (Xr (Zl 0 255 i.a) (Zl 0 255 i.bb))) by rw [O HF,show i.spare=false from hsp]; rfl);clear HF;obtain⟨l2,hl2⟩:∃ x,x=l++[Xs i.op]:=⟨_,rfl⟩;have hn2:l2.length<=l.length+1:=by rw [hl2]; simp
  rw [← hl2] at st;have c0:=st.cells 0 _ rfl;have HND:=Zc (Ui i.op h1 h18 w2 ((O HG).ws hb1 st.ws));have ST:=Zc st;have HL2:=Zc hl2;clear st hl2 hsp;go_wp2_with fail
  refine(O HND).mono ?_;rintro e wx ⟨rfl,hwx⟩;subst wx;rw [hneed];clear HND;go_wp2_with fail
  refine(Yv 7 1 _).mono ?_;rintro e wx ⟨rfl,hwx⟩;subst wx;rw [show(bits .and .u8 7 1 != 0)=true by decide];have st:=O ST;have c1:=st.cells 1 (.int .i64 i.d) rfl;have HM:=Zc (Uz b v1 l2 i.d w2 st.wt (by omega));clear st;go_wp2_with fail
  refine(O HM).mono ?_;rintro e w3 ⟨hws,hm⟩;cases hr:Zl 0 255 i.d with
  | none=>rw [hr] at hm;subst hm;refine⟨rfl,(O ST).ws.trans hws,?_⟩;have hx:=O HF2;rw [hr] at hx;have hx2:Xv i=none:=hx.trans rfl;rw [hx2]
  | some bs3 =>
   rw [hr] at hm;obtain⟨rfl,v3,hw⟩:=hm;have hbs:bs3.length<=1:=Nat.le_of_eq (Zp hr);have st:=(O ST).step hbl hws hw;have HR3:=Zc hr;obtain⟨l3,hlk⟩:∃ x,x=l2++bs3:=⟨_,rfl⟩;have hn3:l3.length<=l2.length+1:=by rw [hlk]; simp; omega
   rw [← hlk] at st;have HL3:=Zc hlk;clear hws hw hr hlk hbs ST HM c1;have ST:=Zc st;clear st;go_wp2_with fail
   refine(Yv 7 2 _).mono ?_;rintro e wx ⟨rfl,hwx⟩;subst wx;rw [show(bits .and .u8 7 2 != 0)=true by decide];have st:=O ST;have c2:=st.cells 2 (.int .i64 i.a) rfl;have HM:=Zc (Uz b v3 l3 i.a w3 st.wt (by omega));clear st;go_wp2_with fail
   refine(O HM).mono ?_;rintro e w4 ⟨hws,hm⟩;cases hr:Zl 0 255 i.a with
   | none=>rw [hr] at hm;subst hm;refine⟨rfl,(O ST).ws.trans hws,?_⟩;have hx:=O HF2;rw [O HR3,hr] at hx;have hx2:Xv i=none:=hx.trans rfl;rw [hx2]
   | some bs4 =>
    rw [hr] at hm;obtain⟨rfl,v4,hw⟩:=hm;have hbs:bs4.length<=1:=Nat.le_of_eq (Zp hr);have st:=(O ST).step hbl hws hw;have HR4:=Zc hr;obtain⟨l4,hlk⟩:∃ x,x=l3++bs4:=⟨_,rfl⟩;have hn4:l4.length<=l3.length+1:=by rw [hlk]; simp; omega
    rw [← hlk] at st;have HL4:=Zc hlk;clear hws hw hr hlk hbs ST HM c2;have ST:=Zc st;clear st;go_wp2_with fail
    refine(Yv 7 4 _).mono ?_;rintro e wx ⟨rfl,hwx⟩;subst wx;rw [show(bits .and .u8 7 4 != 0)=true by decide];have st:=O ST;have c3:=st.cells 3 (.int .i64 i.bb) rfl;have HM:=Zc (Uz b v4 l4 i.bb w4 st.wt (by omega));clear st;go_wp2_with fail
    refine(O HM).mono ?_;rintro e w5 ⟨hws,hm⟩;cases hr:Zl 0 255 i.bb with
    | none=>rw [hr] at hm;subst hm;refine⟨rfl,(O ST).ws.trans hws,?_⟩;have hx:=O HF2;rw [O HR3,O HR4,hr] at hx;have hx2:Xv i=none:=hx.trans rfl;rw [hx2]
    | some bs5 =>
     rw [hr] at hm;obtain⟨rfl,v5,hw⟩:=hm;have hbs:bs5.length<=1:=Nat.le_of_eq (Zp hr);have st:=(O ST).step hbl hws hw;have HR5:=Zc hr;obtain⟨l5,hlk⟩:∃ x,x=l4++bs5:=⟨_,rfl⟩;have hn5:l5.length<=l4.length+1:=by rw [hlk]; simp; omega
     rw [← hlk] at st;have HL5:=Zc hlk;clear hws hw hr hlk hbs ST HM c3;have ST:=Zc st;clear st;go_wp2_with fail
     refine(Yv 7 8 _).mono ?_;rintro e wx ⟨rfl,hwx⟩;subst wx;rw [show(bits .and .u8 7 8 != 0)=false by decide];go_wp2_with fail
     refine(Yv 7 16 _).mono ?_;rintro e wx ⟨rfl,hwx⟩;subst wx;rw [show(bits .and .u8 7 16 != 0)=false by decide];go_wp2_with fail
     refine(Yv 7 32 _).mono ?_;rintro e wx ⟨rfl,hwx⟩;subst wx;rw [show(bits .and .u8 7 32 != 0)=false by decide];go_wp2_with fail
     refine(Yv 7 64 _).mono ?_;rintro e wx ⟨rfl,hwx⟩;subst wx;rw [show(bits .and .u8 7 64 != 0)=false by decide];go_wp2;refine bodyPost_end (results_none (fn:=Tryz.f231) rfl _ _ _) rfl ?_;refine⟨(O ST).ws,?_⟩;have hx:=O HF2;rw [O HR3,O HR4,O HR5] at hx;have hx2:Xv i=some ([Xs i.op]++(bs3++(bs4++bs5))):=hx.trans rfl;rw [hx2];refine⟨rfl,v5,?_⟩;have hw:=(O ST).wt;rw [O HL5,O HL4,O HL3,O HL2] at hw;simpa using hw
theorem Zxx (b:Nat)(hb1:2<b)(v:Value)(l:List UInt8)(i:Yj)(av ov:Value)(w:World)(h:Wt w b v l)(hl:l.length<=88000000000)(hg:Zo w)(h1:1<=i.op)(h18:i.op<=18)(hneed:Nh i.op=64)(pa:List (Array Value×(Int×Int)))(hpa:pa.map (·.2)=i.args)(hpv:∀ p ∈ pa,p.1=#[.int .i64 p.2.1,.int .i64 p.2.2])(hargs:Cz 2 w b av pa)(houts:Sk w b ov i.outs)(hal:i.args.length<9223372036854775808)(hol:i.outs.length<9223372036854775808) :
 Calls Tryz.prog 231 #[.pointer (some ⟨b,0,none⟩),.agg #[.int .i64 i.op,.int .i64 i.d,.int .i64 i.a,.int .i64 i.bb,.int .u64 i.n,.int .i64 i.f,av,ov]] w (Nj b l (Xv i) w):=by
 have hform:Xv i=Xr (some [Xs i.op]) (if i.spare then none else Xz 0 4 (Zl 0 255) i.outs):=by unfold Xv Lk;rw [hneed,show Zl 1 18 i.op=some [Xs i.op] from if_pos ⟨h1,h18⟩];simp only [show(bits .and .u8 64 1 != 0)=false by decide,show(bits .and .u8 64 2 != 0)=false by decide,show(bits .and .u8 64 4 != 0)=false by decide,show(bits .and .u8 64 8 != 0)=false by decide,show(bits .and .u8 64 16 != 0)=false by decide,show(bits .and .u8 64 32 != 0)=false by decide,show(bits .and .u8 64 64 != 0)=true by decide,Sz,if_true,Bool.false_eq_true,if_false,Ztg]
 have HF:=Zc hform;obtain⟨ap,ac,hav⟩:=hargs.shape;obtain⟨op',oc,hov⟩:=houts.shape;have hpl:pa.length=i.args.length:=by rw [← hpa]; simp
 rw [hpl] at hav;subst hav hov;have hbl:=h.lt;have HA:=Zc hargs;have HO:=Zc houts;have HAL:=Zc (show pa.length<9223372036854775808 by omega);have HPA:=Zc hpa;have HOL:=Zc hol;have HPV:=Zc hpv;have HPS:=Zc (show ∀ p ∈ pa,p.1.size=2∧p.1.all (·.oneCell')=true from fun p hp=>by rw [hpv p hp]; exact⟨rfl,by simp [Value.oneCell']⟩);have HG:=Zc hg;have HNUM:=Zc (show Zl 1 18 i.op=some [Xs i.op] from if_pos ⟨h1,h18⟩);have HN:=Zc (fun X:Obj=>Jg b v l i.op 1 18 (w.alloc X) (h.alloc X) (by omega));have HWA:=Zc (fun X:Obj=>Xp w X b (by omega));clear hargs houts hg h hform hpa hpv hpl;go_enter Tryz.func231,Tryz.ntmps231
 go_wp2_with fail
 refine(O HN _).mono ?_;rintro e w1 ⟨hws,hm⟩;rw [O HNUM] at hm;obtain⟨rfl,v1,hw1⟩:=hm;have st:Ku w w1 b w.heap.size #[.int .i64 i.op,.int .i64 i.d,.int .i64 i.a,.int .i64 i.bb,.int .u64 i.n,.int .i64 i.f,.slice ap i.args.length ac,.slice op' i.outs.length oc] v1 (l++[Xs i.op]):=⟨(O HWA _).trans hws,hw1,Zln hbl (by decide) hws⟩;have ST:=Zc st;have hb1w:=hw1.lt;have HROW:=Zc st.row;have HS:=Zc (Kk i.op i.d i.a i.bb i.n i.f ap op' i.args.length i.outs.length ac oc w1 h1 h18 ((O HG).ws hb1 st.ws) (by omega));clear hws hw1 HN st;go_wp2_with (refine wpList_load_row rfl 110 (.tmp 3) rfl w.heap.size rfl 110 _ (0,0) _ (O HROW) Tryz.underlying110 rfl (Tryz.infInss.trans rfl) ?_)
 refine(O HS).mono ?_;rintro e w2 ⟨rfl,hbel⟩;have st:Ku w w2 b w.heap.size #[.int .i64 i.op,.int .i64 i.d,.int .i64 i.a,.int .i64 i.bb,.int .u64 i.n,.int .i64 i.f,.slice ap i.args.length ac,.slice op' i.outs.length oc] v1 (l++[Xs i.op]):=(O ST).step hbl (Ru hbel (by omega)) ((O ST).wt.below hbel);clear hbel HS ST HROW;cases hsp:Dp i.op i.d i.a i.bb i.n i.f i.args.length i.outs.length with
 | true =>
  have HR:=Zc (show Xv i=none by rw [O HF,show i.spare=true from hsp]; rfl);have ST:=Zc st;clear st;go_wp2_with fail
  refine(Rz _ _).mono ?_;rintro e w3 ⟨rfl,hw⟩;subst w3;exact⟨rfl,(O ST).ws,by rw [O HR]⟩
 | false =>
  have HF2:=Zc (show Xv i=Xr (some [Xs i.op]) (Xz 0 4 (Zl 0 255) i.outs) by rw [O HF,show i.spare=false from hsp]; rfl);clear HF;obtain⟨l2,hl2⟩:∃ x,x=l++[Xs i.op]:=⟨_,rfl⟩;have hn2:l2.length<=l.length+1:=by rw [hl2]; simp
  rw [← hl2] at st;have c0:=st.cells 0 _ rfl;have HND:=Zc (Ui i.op h1 h18 w2 ((O HG).ws hb1 st.ws));have ST:=Zc st;have HL2:=Zc hl2;clear st hl2 hsp;go_wp2_with fail
  refine(O HND).mono ?_;rintro e wx ⟨rfl,hwx⟩;subst wx;rw [hneed];clear HND;go_wp2_with fail
  refine(Yv 64 1 _).mono ?_;rintro e wx ⟨rfl,hwx⟩;subst wx;rw [show(bits .and .u8 64 1 != 0)=false by decide];go_wp2_with fail
  refine(Yv 64 2 _).mono ?_;rintro e wx ⟨rfl,hwx⟩;subst wx;rw [show(bits .and .u8 64 2 != 0)=false by decide];go_wp2_with fail
  refine(Yv 64 4 _).mono ?_;rintro e wx ⟨rfl,hwx⟩;subst wx;rw [show(bits .and .u8 64 4 != 0)=false by decide];go_wp2_with fail
  refine(Yv 64 8 _).mono ?_;rintro e wx ⟨rfl,hwx⟩;subst wx;rw [show(bits .and .u8 64 8 != 0)=false by decide];go_wp2_with fail
  refine(Yv 64 16 _).mono ?_;rintro e wx ⟨rfl,hwx⟩;subst wx;rw [show(bits .and .u8 64 16 != 0)=false by decide];go_wp2_with fail
  refine(Yv 64 32 _).mono ?_;rintro e wx ⟨rfl,hwx⟩;subst wx;rw [show(bits .and .u8 64 32 != 0)=false by decide];go_wp2_with fail
  refine(Yv 64 64 _).mono ?_;rintro e wx ⟨rfl,hwx⟩;subst wx;rw [show(bits .and .u8 64 64 != 0)=true by decide];have st:=O ST;have c7:=st.cells 7 (.slice op' i.outs.length oc) rfl;have HM:=Zc (Uk 229 (fun _ _=>rfl) (Zl 0 255) 1 (fun _ _ h=>Nat.le_of_eq (Zp h)) (by omega) b 89000000000 (by omega) (fun x v l w hw hl=>Uz b v l x w hw (by omega)) 0 4 (by omega) v1 l2 _ i.outs w2 st.wt (by omega) ((O HO).ws st.ws) (O HOL));clear st;go_wp2_with fail
  refine(O HM).mono ?_;rintro e w3 ⟨hws,hm⟩;cases hr:Xz 0 4 (Zl 0 255) i.outs with
  | none=>rw [hr] at hm;subst hm;refine⟨rfl,(O ST).ws.trans hws,?_⟩;have hx:=O HF2;rw [hr] at hx;have hx2:Xv i=none:=hx.trans rfl;rw [hx2]
  | some bs3 =>
   rw [hr] at hm;obtain⟨rfl,v3,hw⟩:=hm;have hbs:bs3.length<=5:=Xc (Zl 0 255) 1 (fun _ _ h=>Nat.le_of_eq (Zp h)) 0 4 _ _ hr;have st:=(O ST).step hbl hws hw;have HR3:=Zc hr;obtain⟨l3,hlk⟩:∃ x,x=l2++bs3:=⟨_,rfl⟩;have hn3:l3.length<=l2.length+5:=by rw [hlk]; simp; omega
   rw [← hlk] at st;have HL3:=Zc hlk;clear hws hw hr hlk hbs ST HM c7;have ST:=Zc st;clear st;go_wp2;refine bodyPost_end (results_none (fn:=Tryz.f231) rfl _ _ _) rfl ?_;refine⟨(O ST).ws,?_⟩;have hx:=O HF2;rw [O HR3] at hx;have hx2:Xv i=some ([Xs i.op]++bs3):=hx.trans rfl;rw [hx2];refine⟨rfl,v3,?_⟩;have hw:=(O ST).wt;rw [O HL3,O HL2] at hw;simpa using hw
set_option maxHeartbeats 4000000
set_option maxRecDepth 100000
theorem Zdr (b:Nat)(hb1:2<b)(v:Value)(l:List UInt8)(i:Yj)(av ov:Value)(w:World)(h:Wt w b v l)(hl:l.length<=88000000000)(hg:Zo w)(pa:List (Array Value×(Int×Int)))(hpa:pa.map (·.2)=i.args)(hpv:∀ p ∈ pa,p.1=#[.int .i64 p.2.1,.int .i64 p.2.2])(hargs:Cz 2 w b av pa)(houts:Sk w b ov i.outs)(hal:i.args.length<9223372036854775808)(hol:i.outs.length<9223372036854775808)(hon:i.op=3∨i.op=16) :
 Calls Tryz.prog 231 #[.pointer (some ⟨b,0,none⟩),.agg #[.int .i64 i.op,.int .i64 i.d,.int .i64 i.a,.int .i64 i.bb,.int .u64 i.n,.int .i64 i.f,av,ov]] w (Nj b l (Xv i) w):=by
 rcases hon with hs | hs
 ·exact Yci b hb1 v l i av ov w h hl hg (by omega) (by omega) (by rw [hs]; rfl) pa hpa hpv hargs houts hal hol
 ·exact Zxx b hb1 v l i av ov w h hl hg (by omega) (by omega) (by rw [hs]; rfl) pa hpa hpv hargs houts hal hol
theorem Zbt (i:Yj)(bs:List UInt8)(h:Xv i=some bs):bs.length<=40:=by
 have c1:∀ c x (bs:List UInt8),Sz c (Zl 0 255 x)=some bs->bs.length<=1:=by
  intro c x bs h;cases c with
  | true=>exact Nat.le_of_eq (Zp h)
  | false=>cases h; simp
 unfold Xv at h;obtain⟨x0,y0,e0,f0,rfl⟩:=Gf h;have g0:=Zp e0;split at f0
 ·cases f0
 ·obtain⟨x1,y1,e1,f1,rfl⟩:=Gf f0;obtain⟨x2,y2,e2,f2,rfl⟩:=Gf f1;obtain⟨x3,y3,e3,f3,rfl⟩:=Gf f2;obtain⟨x4,y4,e4,f4,rfl⟩:=Gf f3;obtain⟨x5,y5,e5,f5,rfl⟩:=Gf f4;obtain⟨x6,y6,e6,f6,rfl⟩:=Gf f5;have g1:=c1 _ _ _ e1;have g2:=c1 _ _ _ e2;have g3:=c1 _ _ _ e3;have g4:x4.length<=8:=by
   revert e4
   cases Lk i.op 8 with
   | true=>intro e; exact Zqi e
   | false=>intro e; cases e; simp
  have g5:=c1 _ _ _ e5;have g6:x6.length<=17:=by
   revert e6
   cases Lk i.op 32 with
   | true=>intro e; exact Xc Zlm 2 Zlo 0 8 _ _ e
   | false=>intro e; cases e; simp
  have g7:y6.length<=5:=by
   revert f6
   cases Lk i.op 64 with
   | true=>intro e; exact Xc (Zl 0 255) 1 (fun _ _ h=>Nat.le_of_eq (Zp h)) 0 4 _ _ e
   | false=>intro e; cases e; simp
  simp only [List.length_append];omega
def VsB {α:Type}(w:World)(b:Nat)(v:Value)(ps:List (Value×α)):Prop:=(ps=[]∧∃ p cap,v=.slice p 0 cap)∨∃ sb so cap,v=.slice (some ⟨sb,so,none⟩) ps.length cap∧sb<b∧∀ i (hi:i<ps.length),w.cell? ⟨sb,so+i,none⟩=some ps[i].1
theorem VsB.ws {α:Type}{w w':World}{b:Nat}{v:Value}{ps:List (Value×α)}(h:VsB w b v ps)(hw:Ws w w' b):VsB w' b v ps:=by
 rcases h with h | ⟨sb,so,cap,h1,h2,h3⟩
 ·exact Or.inl h
 ·exact Or.inr ⟨sb,so,cap,h1,h2,fun i hi=>(hw.low.cell (p:=⟨sb,so+i,none⟩) h2).trans (h3 i hi)⟩
theorem VsB.shape {α:Type}{w:World}{b:Nat}{v:Value}{ps:List (Value×α)}(h:VsB w b v ps):∃ p cap,v=.slice p ps.length cap:=by
 rcases h with⟨rfl,p,cap,e⟩ | ⟨sb,so,cap,e,_⟩
 ·exact⟨p,cap,e⟩
 ·exact⟨_,_,e⟩
theorem Zds {α:Type}(F:Nat)(hcf:∀ args w,(callFunc F args).run Tryz.prog w=.ok (.enter F args) w)(one:α->Option (List UInt8))(K:Nat)(hK:∀ x bs,one x=some bs->bs.length<=K)(hK2:K<=1000000)(b:Nat)(M:Nat)(hM:M<=90000000000)(ps:List (Value×α))(w:World)
 (hsh:∀ p ∈ ps,∃ q n cap,p.1=.slice q n cap)
 (hone:∀ p ∈ ps,∀ v l w',Ws w w' b->Wt w' b v l->l.length<=M+1000000001->Calls Tryz.prog F #[.pointer (some ⟨b,0,none⟩),p.1] w' (Nj b l (one p.2) w'))
 (lo hi:Int) (hhi:hi<=1000) (v:Value) (l:List UInt8) (lv:Value) (h:Wt w b v l) (hl:l.length<=M) (hns:VsB w b lv ps) (hlen:ps.length<9223372036854775808) :
 Calls Tryz.prog 171 #[.pointer (some ⟨b,0,none⟩),lv,.int .i64 lo,.int .i64 hi,.func (.func F) #[.pointer (some ⟨b,0,none⟩)] #[]] w (Nj b l (Xz lo hi one (ps.map (·.2))) w):=by
 obtain⟨pp,cap,hlv⟩:=hns.shape;have HN:=Zc hns;subst hlv;have HNC:=Zc (Jg b v l ps.length lo hi w h (by omega));have HONE:=Zc hone;have HSH:=Zc hsh;have HK:=Zc hK;clear hone hK h hns hsh;go_enter Tryz.func171,Tryz.ntmps171
 go_wp2_with fail
 refine(O HNC).mono ?_;rintro e w1 ⟨hws,hm⟩;cases hr:Zl lo hi ps.length with
 | none=>rw [hr] at hm;subst hm;refine⟨rfl,hws,?_⟩;unfold Xz;rw [List.length_map,hr];rfl
 | some bs =>
  rw [hr] at hm;obtain⟨rfl,v1,hw1⟩:=hm;have hb1:=Zp hr;have hle:lo<=ps.length∧(ps.length:Int)<=hi:=by
   unfold Zl at hr;split at hr
   ·assumption
   ·cases hr
  have HWS:=Zc hws;have HW1:=Zc hw1;have HR:=Zc hr;clear hws hw1 hr HNC;go_wp2_with fail
  go_loopw [20] (fun j w'=>∃(k:Nat) (v':Value) (cs:List UInt8),j=.int .i64 k∧k<=ps.length∧Ws w w' b∧Xj one ((ps.take k).map (·.2))=some cs∧Wt w' b v' (l++bs++cs)) (fun j _=>ps.length-(intOf j).toNat)
  case atStart=>exact⟨0,v1,[],rfl,by omega,O HWS,by simp [Xj],by simpa using O HW1⟩
  case round =>
   obtain⟨k,v',cs,rfl,hk,hws',hcs,hwt⟩:=hrel;have hcl:=Gt one K (O HK) _ _ hcs;have HWS':=Zc hws';have HCS:=Zc hcs;have HWT:=Zc hwt;clear hws' hcs hwt;by_cases hlt:k<ps.length
   ·obtain⟨sb,so,cap',hv,hsb,hc⟩:=((O HN).ws (O HWS')).resolve_left (fun c=>by rw [c.1] at hlt; simp at hlt);injection hv with e1 e2 e3;subst e1;have cc:=hc k hlt;have hkl:K*(ps.take k).length<=1000000*1000:=Nat.mul_le_mul hK2 (by simp; omega);simp only [List.length_map] at hcl;have hmem:ps[k] ∈ ps:=List.getElem_mem hlt;obtain⟨q,qn,qc,hq⟩:=O HSH ps[k] hmem;have HCALL:=Zc (O HONE ps[k] hmem v' (l++bs++cs) wr (O HWS') (O HWT) (by simp [hb1]; omega));have hsn:=Gr one ((ps.take k).map (·.2)) ps[k].2;rw [show(ps.take k).map (·.2)++[ps[k].2]=(ps.take (k+1)).map (·.2) by rw [Rx hlt,List.map_append]; rfl,O HCS] at hsn;have HSN:=Zc hsn;have HAN:=Zc (fun hn=>Gs one ((ps.take (k+1)).map (·.2)) ((ps.drop (k+1)).map (·.2)) hn);clear hc hsn e2 e3 hmem;generalize ps[k]=y at cc HCALL HSN hq;obtain⟨yv,y⟩:=y;simp only at cc HCALL HSN hq;subst hq;go_wp2_with fail
    refine(O HCALL).mono ?_;rintro e w2 ⟨hws2,hm⟩;have HWS2:=Zc ((O HWS').trans hws2);clear hws2;cases hy:one y with
    | none=>rw [hy] at hm;subst hm;refine⟨rfl,O HWS2,?_⟩;have h1:=O HSN;rw [hy] at h1;have h2:=O HAN h1;rw [← List.map_append,List.take_append_drop] at h2;unfold Xz;rw [List.length_map,O HR,h2];rfl
    | some ys =>
     rw [hy] at hm;obtain⟨rfl,v2,hw2⟩:=hm;have h1:=O HSN;rw [hy] at h1;have HS2:=Zc h1;have HW2:=Zc hw2;clear hw2 h1 hy;go_wp2;go_roundw
     case rel=>exact⟨k+1,v2,cs++ys,by go_num,by omega,O HWS2,O HS2,by rw [← List.append_assoc]; exact O HW2⟩
     case measure=>simp [intOf]; omega
   ·obtain rfl:k=ps.length:=by omega
    have h1:=O HCS;rw [List.take_length] at h1;have HC1:=Zc h1;clear h1;go_wp2;refine bodyPost_end (results_none (fn:=Tryz.f171) rfl _ _ _) rfl ?_;refine⟨O HWS',?_⟩;unfold Xz;rw [List.length_map,O HR,O HC1];simp only [Xr];exact⟨trivial,v',by rw [← List.append_assoc]; exact O HWT⟩
set_option maxHeartbeats 8000000
set_option maxRecDepth 100000
structure Zbu (t:TypeId)(w wk:World)(b T:Nat)(arr:Array Value)(v:Value)(l:List UInt8):Prop where
 ws:Ws w wk b
 wt:Wt wk b v l
 row:wk.heap[T]?=some (.cells arr t (0,0))
theorem Zbu.step {t:TypeId}{w wk wn:World}{b T:Nat}{arr:Array Value}{v v':Value}{l l':List UInt8}(h:Zbu t w wk b T arr v l)(ht:t≠5)(hb:b<T)(hws:Ws wk wn b)(hwt:Wt wn b v' l'):Zbu t w wn b T arr v' l' :=
 ⟨h.ws.trans hws,hwt,hws.oth T _ h.row (by intro e; injection e with e; omega) (by intro c fz e; injection e with e1 e2 e3; exact absurd e2 ht)⟩
theorem Zbu.cells {t:TypeId}{w wk:World}{b T:Nat}{arr:Array Value}{v:Value}{l:List UInt8}(h:Zbu t w wk b T arr v l)(j:Nat)(x:Value)(hx:arr[j]?=some x):wk.cell? ⟨T,j,none⟩=some x:=(Zi h.row j).trans hx
abbrev Jw:Nat:=9223372036854775808
def Da (w:World)(b:Nat)(p:Array Value×Yj):Prop:=∃(av ov:Value) (pa:List (Array Value×(Int×Int))),p.1=#[.int .i64 p.2.op,.int .i64 p.2.d,.int .i64 p.2.a,.int .i64 p.2.bb,.int .u64 p.2.n,.int .i64 p.2.f,av,ov]∧pa.map (·.2)=p.2.args∧(∀ q ∈ pa,q.1=#[.int .i64 q.2.1,.int .i64 q.2.2])∧Cz 2 w b av pa∧Sk w b ov p.2.outs∧p.2.args.length<Jw∧p.2.outs.length<Jw∧(p.2.op=3∨p.2.op=16)
theorem Da.ws {w w':World}{b:Nat}{p:Array Value×Yj}(h:Da w b p)(hw:Ws w w' b):Da w' b p:=by obtain⟨av,ov,pa,h1,h2,h3,h4,h5,h6⟩:=h;exact⟨av,ov,pa,h1,h2,h3,h4.ws hw,h5.ws hw,h6⟩
theorem Da.size {w:World}{b:Nat}{p:Array Value×Yj}(h:Da w b p):p.1.size=8∧p.1.all (·.oneCell')=true:=by obtain⟨av,ov,pa,h1,h2,h3,h4,h5,h6⟩:=h;obtain⟨q,c,e⟩:=h4.shape;obtain⟨q',c',e'⟩:=h5.shape;rw [h1,e,e'];exact⟨rfl,by simp [Value.oneCell']⟩
def Uj (w:World)(b:Nat)(p:Value×List Yj):Prop:=∃ ps:List (Array Value×Yj),ps.map (·.2)=p.2∧Cz 8 w b p.1 ps∧(∀ q ∈ ps,Da w b q)∧ps.length<Jw
theorem Uj.ws {w w':World}{b:Nat}{p:Value×List Yj}(h:Uj w b p)(hw:Ws w w' b):Uj w' b p:=by obtain⟨ps,h1,h2,h3,h4⟩:=h;exact⟨ps,h1,h2.ws hw,fun q hq=>(h3 q hq).ws hw,h4⟩
theorem Uj.shape {w:World}{b:Nat}{p:Value×List Yj}(h:Uj w b p):∃ q n cap,p.1=.slice q n cap:=by obtain⟨ps,h1,h2,h3,h4⟩:=h;obtain⟨q,c,e⟩:=h2.shape;exact⟨q,_,c,e⟩
def Lz (l:List Yj):Option (List UInt8):=Xz 1 24 Xv l
theorem Dq (l:List Yj)(bs:List UInt8)(h:Lz l=some bs):bs.length<=1000:=by have:=Xc Xv 40 Zbt 1 24 _ _ h;omega
theorem Zxy (b:Nat)(hb1:2<b)(v:Value)(l:List UInt8)(lv:Value)(is:List Yj)(w:World)(h:Wt w b v l)(hl:l.length<=86000000000)(hg:Zo w)(hbk:Uj w b (lv,is)) :
 Calls Tryz.prog 172 #[.pointer (some ⟨b,0,none⟩),lv] w (Nj b l (Lz is) w):=by
 obtain⟨ps,hps,hls,hins,hlen⟩:=hbk;simp only at hps hls;have HN:=Zc (Zio 231 (fun _ _=>rfl) Xv 40 Zbt (by omega) b 86000000000 (by omega) ps w (fun p hp=>(hins p hp).size) (fun p hp v l w' hws hw hl=>by
  obtain⟨av,ov,pa,h1,h2,h3,h4,h5,h6,h7,h8⟩:=(hins p hp).ws hws;rw [h1];exact Zdr b hb1 v l p.2 av ov w' hw (by omega) (hg.ws hb1 hws) pa h2 h3 h4 h5 h6 h7 h8) 1 24 (by omega) v l lv h hl hls hlen)
 rw [hps] at HN;obtain⟨q,c,e⟩:=hls.shape;subst e;clear h hg hins hls;go_enter Tryz.func172,Tryz.ntmps172
 go_wp2_with fail
 refine(O HN).mono ?_;rintro e w1 ⟨hws,hm⟩;cases hr:Xz 1 24 Xv is with
 | none=>rw [hr] at hm;subst hm;exact⟨rfl,hws,by unfold Lz; rw [hr]⟩
 | some bs=>rw [hr] at hm;obtain⟨rfl,v1,hw1⟩:=hm;have HR:=Zc hr;clear hr;go_wp2;refine bodyPost_end (results_none (fn:=Tryz.f172) rfl _ _ _) rfl ?_;exact⟨hws,by unfold Lz; rw [O HR]; exact⟨rfl,v1,hw1⟩⟩
structure Zm where
 params:List (Int×Int)
 results:Int
 homes:List Int
 slots:List Int
 blocks:List (List Yj)
def Jz (f:Zm):Option (List UInt8):=Xr (Xz 0 8 Lf f.params) (Xr (Zl 0 4 f.results) (Xr (Xz 0 12 (Zl (-1) 15) f.homes) (Xr (Xz 0 6 (Zl 1 8) f.slots) (Xz 1 12 Lz f.blocks))))
theorem Dr (x:Int×Int)(bs:List UInt8)(h:Lf x=some bs):bs.length<=2:=by have:=Ma (A:=1) (C:=1) (fun x hx=>Nat.le_of_eq (Zp hx)) (fun x hx=>Nat.le_of_eq (Zp hx)) h;omega
structure Rv (w:World)(b:Nat)(f:Zm)(pv hv sv bv:Value)(pp:List (Array Value×(Int×Int)))(pb:List (Value×List Yj)):Prop where
 params:pp.map (·.2)=f.params
 vals:∀ q ∈ pp,q.1=#[.int .i64 q.2.1,.int .i64 q.2.2]
 pls:Cz 2 w b pv pp
 hls:Sk w b hv f.homes
 sls:Sk w b sv f.slots
 bls:VsB w b bv pb
 blocks:pb.map (·.2)=f.blocks
 each:∀ q ∈ pb,Uj w b q
 lens:pp.length<Jw∧f.homes.length<Jw∧f.slots.length<Jw∧pb.length<Jw
theorem Rv.ws {w w':World}{b:Nat}{f:Zm}{pv hv sv bv:Value}{pp:List (Array Value×(Int×Int))}{pb:List (Value×List Yj)}(h:Rv w b f pv hv sv bv pp pb)(hw:Ws w w' b):Rv w' b f pv hv sv bv pp pb :=
 ⟨h.params,h.vals,h.pls.ws hw,h.hls.ws hw,h.sls.ws hw,h.bls.ws hw,h.blocks,fun q hq=>(h.each q hq).ws hw,h.lens⟩
theorem Rw (f:Zm)(bs:List UInt8)(h:Jz f=some bs):bs.length<=20000:=by unfold Jz at h;have:=Ma (fun x hr=>Xc Lf 2 Dr 0 8 _ _ hr) (fun x h=>Ma (fun x hr=>Nat.le_of_eq (Zp hr)) (fun x h=>Ma (fun x hr=>Xc (Zl (-1) 15) 1 (fun _ _ h=>Nat.le_of_eq (Zp h)) 0 12 _ _ hr) (fun x h=>Ma (fun x hr=>Xc (Zl 1 8) 1 (fun _ _ h=>Nat.le_of_eq (Zp h)) 0 6 _ _ hr) (fun x hr=>Xc Lz 1000 Dq 1 12 _ _ hr) h) h) h) h;omega
theorem Zlp (b:Nat)(hb1:2<b)(v0:Value)(l0:List UInt8)(f:Zm)(pv hv sv bv:Value)(pp:List (Array Value×(Int×Int)))(pb:List (Value×List Yj))(w:World)(h:Wt w b v0 l0)(hl:l0.length<=83000000000)(hg:Zo w)(hF:Rv w b f pv hv sv bv pp pb) :
 Calls Tryz.prog 120 #[.pointer (some ⟨b,0,none⟩),.agg #[pv,.int .i64 f.results,hv,sv,bv]] w (Nj b l0 (Jz f) w):=by
 have HV:=Zc hF;have HG:=Zc hg;obtain⟨p0,c0',e0⟩:=hF.pls.shape;obtain⟨p2,c2',e2⟩:=hF.hls.shape;obtain⟨p3,c3',e3⟩:=hF.sls.shape;obtain⟨p4,c4',e4⟩:=hF.bls.shape;generalize hn0:pp.length=n0 at e0;generalize hn2:f.homes.length=n2 at e2;generalize hn3:f.slots.length=n3 at e3;generalize hn4:pb.length=n4 at e4;subst e0 e2 e3 e4;clear hn0 hn2 hn3 hn4;have hbl:=h.lt;have HST:=Zc (show Zbu 71 w (w.alloc (.cells #[.slice p0 n0 c0',.int .i64 f.results,.slice p2 n2 c2',.slice p3 n3 c3',.slice p4 n4 c4'] 71)) b w.heap.size _ v0 l0 from⟨Xp w _ b (by omega),h.alloc _,heap_alloc_new w _⟩);clear hF hg h;go_enter Tryz.func120,Tryz.ntmps120
 go_wp2_with fail
 generalize w.alloc _=w0 at HST ⊢;have ST:=HST;clear HST;have st:=O ST;have HM:=Zc (Zdt 168 (fun _ _=>rfl) Lf 2 Dr (by omega) b 84000000000 (by omega) pp w0 (fun p hp=>by rw [(O HV).vals p hp]; exact⟨rfl,by simp [Value.oneCell']⟩) (fun p hp v l w' _ hw hl=>by rw [(O HV).vals p hp]; exact Zxw b v l p.2.1 p.2.2 w' hw (by omega)) 0 8 (by omega) v0 l0 _ st.wt (by omega) ((O HV).ws st.ws).pls (O HV).lens.1);rw [(O HV).params] at HM;clear st;refine(O HM).mono ?_;rintro e w1 ⟨hws,hm⟩;cases hr:Xz 0 8 Lf f.params with
 | none=>rw [hr] at hm;subst hm;refine⟨rfl,(O ST).ws.trans hws,?_⟩;unfold Jz;rw [hr];rfl
 | some bs1 =>
  rw [hr] at hm;obtain⟨rfl,v1,hw⟩:=hm;have hbs:bs1.length<=17:=Xc Lf 2 Dr 0 8 _ _ hr;have st:=(O ST).step (by decide) hbl hws hw;have HR1:=Zc hr;obtain⟨l1,hlk⟩:∃ x,x=l0++bs1:=⟨_,rfl⟩;have hn1:l1.length<=l0.length+17:=by rw [hlk]; simp; omega
  rw [← hlk] at st;have HL1:=Zc hlk;clear hws hw hr hlk hbs ST HM;have ST:=Zc st;clear st;have st:=O ST;have c1:=st.cells 1 (.int .i64 f.results) rfl;have HM:=Zc (Jg b v1 l1 f.results 0 4 w1 st.wt (by omega));clear st;go_wp2_with fail
  refine(O HM).mono ?_;rintro e w2 ⟨hws,hm⟩;cases hr:Zl 0 4 f.results with
  | none=>rw [hr] at hm;subst hm;refine⟨rfl,(O ST).ws.trans hws,?_⟩;unfold Jz;rw [O HR1,hr];rfl
  | some bs2 =>
   rw [hr] at hm;obtain⟨rfl,v2,hw⟩:=hm;have hbs:bs2.length<=1:=Nat.le_of_eq (Zp hr);have st:=(O ST).step (by decide) hbl hws hw;have HR2:=Zc hr;obtain⟨l2,hlk⟩:∃ x,x=l1++bs2:=⟨_,rfl⟩;have hn2:l2.length<=l1.length+1:=by rw [hlk]; simp; omega
   rw [← hlk] at st;have HL2:=Zc hlk;clear hws hw hr hlk hbs ST HM c1;have ST:=Zc st;clear st;have st:=O ST;have c2:=st.cells 2 (.slice p2 n2 c2') rfl;have HM:=Zc (Uk 169 (fun _ _=>rfl) (Zl (-1) 15) 1 (fun _ _ h=>Nat.le_of_eq (Zp h)) (by omega) b 84000000000 (by omega) (fun x v l w hw hl=>Ycg b v l x w hw (by omega)) 0 12 (by omega) v2 l2 _ f.homes w2 st.wt (by omega) ((O HV).ws st.ws).hls (O HV).lens.2.1);clear st;go_wp2_with fail
   refine(O HM).mono ?_;rintro e w3 ⟨hws,hm⟩;cases hr:Xz 0 12 (Zl (-1) 15) f.homes with
   | none=>rw [hr] at hm;subst hm;refine⟨rfl,(O ST).ws.trans hws,?_⟩;unfold Jz;rw [O HR1,O HR2,hr];rfl
   | some bs3 =>
    rw [hr] at hm;obtain⟨rfl,v3,hw⟩:=hm;have hbs:bs3.length<=13:=Xc (Zl (-1) 15) 1 (fun _ _ h=>Nat.le_of_eq (Zp h)) 0 12 _ _ hr;have st:=(O ST).step (by decide) hbl hws hw;have HR3:=Zc hr;obtain⟨l3,hlk⟩:∃ x,x=l2++bs3:=⟨_,rfl⟩;have hn3:l3.length<=l2.length+13:=by rw [hlk]; simp; omega
    rw [← hlk] at st;have HL3:=Zc hlk;clear hws hw hr hlk hbs ST HM c2;have ST:=Zc st;clear st;have st:=O ST;have c3:=st.cells 3 (.slice p3 n3 c3') rfl;have HM:=Zc (Uk 170 (fun _ _=>rfl) (Zl 1 8) 1 (fun _ _ h=>Nat.le_of_eq (Zp h)) (by omega) b 84000000000 (by omega) (fun x v l w hw hl=>Ych b v l x w hw (by omega)) 0 6 (by omega) v3 l3 _ f.slots w3 st.wt (by omega) ((O HV).ws st.ws).sls (O HV).lens.2.2.1);clear st;go_wp2_with fail
    refine(O HM).mono ?_;rintro e w4 ⟨hws,hm⟩;cases hr:Xz 0 6 (Zl 1 8) f.slots with
    | none=>rw [hr] at hm;subst hm;refine⟨rfl,(O ST).ws.trans hws,?_⟩;unfold Jz;rw [O HR1,O HR2,O HR3,hr];rfl
    | some bs4 =>
     rw [hr] at hm;obtain⟨rfl,v4,hw⟩:=hm;have hbs:bs4.length<=7:=Xc (Zl 1 8) 1 (fun _ _ h=>Nat.le_of_eq (Zp h)) 0 6 _ _ hr;have st:=(O ST).step (by decide) hbl hws hw;have HR4:=Zc hr;obtain⟨l4,hlk⟩:∃ x,x=l3++bs4:=⟨_,rfl⟩;have hn4:l4.length<=l3.length+7:=by rw [hlk]; simp; omega
     rw [← hlk] at st;have HL4:=Zc hlk;clear hws hw hr hlk hbs ST HM c3;have ST:=Zc st;clear st;have st:=O ST;have c4:=st.cells 4 (.slice p4 n4 c4') rfl;have HM:=Zc (Zds 172 (fun _ _=>rfl) Lz 1000 Dq (by omega) b 84000000000 (by omega) pb w4 (fun p hp=>((O HV).each p hp).shape) (fun p hp v l w' hws hw hl=>Zxy b hb1 v l p.1 p.2 w' hw (by omega) (((O HG).ws hb1 st.ws).ws hb1 hws) ((((O HV).each p hp).ws st.ws).ws hws)) 1 12 (by omega) v4 l4 _ st.wt (by omega) ((O HV).ws st.ws).bls (O HV).lens.2.2.2);rw [(O HV).blocks] at HM;clear st;go_wp2_with fail
     refine(O HM).mono ?_;rintro e w5 ⟨hws,hm⟩;cases hr:Xz 1 12 Lz f.blocks with
     | none=>rw [hr] at hm;subst hm;refine⟨rfl,(O ST).ws.trans hws,?_⟩;unfold Jz;rw [O HR1,O HR2,O HR3,O HR4,hr];rfl
     | some bs5 =>
      rw [hr] at hm;obtain⟨rfl,v5,hw⟩:=hm;have hbs:bs5.length<=12001:=Xc Lz 1000 Dq 1 12 _ _ hr;have st:=(O ST).step (by decide) hbl hws hw;have HR5:=Zc hr;obtain⟨l5,hlk⟩:∃ x,x=l4++bs5:=⟨_,rfl⟩;have hn5:l5.length<=l4.length+12001:=by rw [hlk]; simp; omega
      rw [← hlk] at st;have HL5:=Zc hlk;clear hws hw hr hlk hbs ST HM c4;have ST:=Zc st;clear st;go_wp2;refine bodyPost_end (results_none (fn:=Tryz.f120) rfl _ _ _) rfl ?_;refine⟨(O ST).ws,?_⟩;have hx2:Jz f=some (bs1++(bs2++(bs3++(bs4++bs5)))):=by unfold Jz; rw [O HR1,O HR2,O HR3,O HR4,O HR5]; rfl
      rw [hx2];refine⟨rfl,v5,?_⟩;have hw:=(O ST).wt;rw [O HL5,O HL4,O HL3,O HL2,O HL1] at hw;simpa using hw
set_option maxHeartbeats 8000000
set_option maxRecDepth 100000
def Rf (w:World)(b:Nat)(p:Array Value×(List Int×Int)):Prop:=∃ lv,p.1=#[lv,.int .i64 p.2.2]∧Sk w b lv p.2.1∧p.2.1.length<Jw
theorem Rf.ws {w w':World}{b:Nat}{p:Array Value×(List Int×Int)}(h:Rf w b p)(hw:Ws w w' b):Rf w' b p:=by obtain⟨lv,h1,h2,h3⟩:=h;exact⟨lv,h1,h2.ws hw,h3⟩
theorem Rf.size {w:World}{b:Nat}{p:Array Value×(List Int×Int)}(h:Rf w b p):p.1.size=2∧p.1.all (·.oneCell')=true:=by obtain⟨lv,h1,h2,h3⟩:=h;obtain⟨q,c,e⟩:=h2.shape;rw [h1,e];exact⟨rfl,by simp [Value.oneCell']⟩
def Mn (w:World)(b:Nat)(p:Array Value×Zm):Prop:=∃ pv hv sv bv pp pb,p.1=#[pv,.int .i64 p.2.results,hv,sv,bv]∧Rv w b p.2 pv hv sv bv pp pb
theorem Mn.ws {w w':World}{b:Nat}{p:Array Value×Zm}(h:Mn w b p)(hw:Ws w w' b):Mn w' b p:=by obtain⟨pv,hv,sv,bv,pp,pb,h1,h2⟩:=h;exact⟨pv,hv,sv,bv,pp,pb,h1,h2.ws hw⟩
theorem Mn.size {w:World}{b:Nat}{p:Array Value×Zm}(h:Mn w b p):p.1.size=5∧p.1.all (·.oneCell')=true:=by obtain⟨pv,hv,sv,bv,pp,pb,h1,h2⟩:=h;obtain⟨q,c,e⟩:=h2.pls.shape;obtain⟨q2,c2,e2⟩:=h2.hls.shape;obtain⟨q3,c3,e3⟩:=h2.sls.shape;obtain⟨q4,c4,e4⟩:=h2.bls.shape;rw [h1,e,e2,e3,e4];exact⟨rfl,by simp [Value.oneCell']⟩
structure Zj where
 funcs:List Zm
 externs:List (List Int×Int)
def Mv (p:Zj):Option (List UInt8):=Xr (some [70,49]) (Xr (Xz 0 4 Un p.externs) (Xz 1 8 Jz p.funcs))
theorem Zim (p:Zj)(bs:List UInt8)(h:Mv p=some bs):bs.length<=200000:=by unfold Mv at h;have:=Ma (A:=2) (fun x hx=>by cases hx; simp) (fun x h=>Ma (fun x hr=>Xc Un 1000 Kj 0 4 _ _ hr) (fun x hr=>Xc Jz 20000 Rw 1 8 _ _ hr) h) h;omega
structure Oi (w:World)(b:Nat)(p:Zj)(fv ev:Value)(pf:List (Array Value×Zm))(pe:List (Array Value×(List Int×Int))):Prop where
 fls:Cz 5 w b fv pf
 els:Cz 2 w b ev pe
 funcs:pf.map (·.2)=p.funcs
 externs:pe.map (·.2)=p.externs
 feach:∀ q ∈ pf,Mn w b q
 eeach:∀ q ∈ pe,Rf w b q
 lens:pf.length<Jw∧pe.length<Jw
theorem Oi.ws {w w':World}{b:Nat}{p:Zj}{fv ev:Value}{pf:List (Array Value×Zm)}{pe:List (Array Value×(List Int×Int))}(h:Oi w b p fv ev pf pe)(hw:Ws w w' b):Oi w' b p fv ev pf pe :=
 ⟨h.fls.ws hw,h.els.ws hw,h.funcs,h.externs,fun q hq=>(h.feach q hq).ws hw,fun q hq=>(h.eeach q hq).ws hw,h.lens⟩
theorem Ycj {wY w2:World}{b n:Nat}{v':Value}{xs:List Value}(hr:wY.ownsRow (b+1) 5 1 v' n xs)(hg:wY.grownBy w2 v'.ownBlock)(hb:b<wY.heap.size)(u:Value):Ws wY (w2.setCell ⟨b,0,none⟩ u) b :=
 ⟨(⟨hg.os,hg.tape,hg.output,hg.size,fun q hq=>hg.block q (by omega) (by intro e; have:=(hr.lt q e.symm).1; omega)⟩:Below b wY w2).trans (Zep w2 b 0 u),(Zbw hr hg).trans (Znz w2 b 0 u)⟩
theorem Zqj {wY w2:World}{b n:Nat}{v':Value}{xs:List Value}(hr:wY.ownsRow (b+1) 5 1 v' n xs)(hg:wY.grownBy w2 v'.ownBlock)(hb:b<wY.heap.size):w2.heap[b]?=wY.heap[b]? :=
 hg.block b hb (by intro e; have:=(hr.lt b e.symm).1; omega)
theorem Yck {w2:World}{b n:Nat}{v' u:Value}{l ys:List UInt8}(hc:w2.cell? ⟨b,0,none⟩=some v')(hf:w2.frozen? ⟨b,0,none⟩=false)(hown:w2.ownsRow (b+1) 5 1 u n (Oj l++Oj ys))(hn:n=(l++ys).length):Wt (w2.setCell ⟨b,0,none⟩ u) b u (l++ys):=by refine⟨World.cell?_setCell_same _ _ _ hc,by rw [World.frozen?_setCell]; exact hf,?_⟩;have h1:=ownsRow_setCell_below hown (a:=⟨b,0,none⟩) (show b<b+1 by omega) u;rw [show Oj (l++ys)=Oj l++Oj ys by simp [Oj],← hn];exact h1
theorem Zqk (b:Nat)(hb1:2<b)(v0:Value)(l0:List UInt8)(p:Zj)(fv ev:Value)(pf:List (Array Value×Zm))(pe:List (Array Value×(List Int×Int)))(w:World)(h:Wt w b v0 l0)(hl:l0.length<=80000000000)(hg:Zo w)(hP:Oi w b p fv ev pf pe) :
 Calls Tryz.prog 78 #[.pointer (some ⟨b,0,none⟩),.agg #[fv,ev]] w (Nj b l0 (Mv p) w):=by
 obtain⟨ti,hti,hz0,hz1,hz2⟩:=Jx Tryz.infoU;have HV:=Zc hP;have HG:=Zc hg;obtain⟨p0,c0',e0⟩:=hP.fls.shape;obtain⟨p2,c2',e2⟩:=hP.els.shape;generalize hn0:pf.length=n0 at e0;generalize hn2:pe.length=n2 at e2;subst e0 e2;clear hn0 hn2;have hbl:=h.lt;have HST:=Zc (show Zbu 62 w (w.alloc (.cells #[.slice p0 n0 c0',.slice p2 n2 c2'] 62)) b w.heap.size _ v0 l0 from⟨Xp w _ b (by omega),h.alloc _,heap_alloc_new w _⟩);have cc:=(O HST).wt.cell;have cf:=(O HST).wt.fz;clear hP hg h;go_enter Tryz.func78,Tryz.ntmps78
 go_wp2_with (at_builtin; refine wpList_append_own _ rfl _ _ 182 rfl (b+1) 5 ti _ 1 1 Tryz.underlying182 hti hz0 hz1 hz2 rfl (by decide) _ _ _ rfl ((O HST).wt.row.alloc _) ⟨w.heap.size+1,0,none⟩ 2 2 [.int .u8 70,.int .u8 49] rfl rfl (by intro j u hj; match j,hj with | 0,hj=>(simp at hj; subst hj; exact(World.cell?_alloc_at _ _ _ _ (by simp)).trans rfl) | 1,hj=>(simp at hj; subst hj; exact(World.cell?_alloc_at _ _ _ _ (by simp)).trans rfl)) (by intro u hu; simp at hu; rcases hu with rfl | rfl <;> rfl) ?c3 ?c4 ?c5 ?_)
 case c3=>unfold maxLen; omega
 case c4=>omega
 case c5=>first | omega | (simp; omega)
 intro v' w7 hown hgr _;obtain⟨g2,cap2,rfl⟩:=Zeo (n:=l0.length+1) hown;have st1:=(O HST).step (by decide) hbl (Xp _ (.cells #[.int .u8 70,.int .u8 49] 5) b (Nat.le_of_lt (O HST).wt.lt)) ((O HST).wt.alloc _);have hblk:=Zqj st1.wt.row hgr st1.wt.lt;have cu:w7.cell? ⟨b,0,none⟩=some v0:=(World.cell?_of_block hblk).trans st1.wt.cell;have cg:w7.frozen? ⟨b,0,none⟩=false:=(World.frozen?_of_block (a:=⟨b,0,none⟩) hblk).trans st1.wt.fz;have st:=st1.step (by decide) hbl (Ycj st1.wt.row hgr st1.wt.lt (.slice (some ⟨g2,0,none⟩) (l0.length+2) cap2)) (Yck (ys:=[70,49]) cu cg hown (by simp));have c1:=st.cells 1 (.slice p2 n2 c2') rfl;obtain⟨l1,hl1⟩:∃ x,x=l0++[70,49]:=⟨_,rfl⟩;have hn1:l1.length<=l0.length+2:=by rw [hl1]; simp
 rw [← hl1] at st;have HL1:=Zc hl1;have ST:=Zc st;clear st st1 hblk hown hgr HST hl1 cc cf;go_wp2_with fail
 generalize w7.setCell _ _=w1 at ST c1 ⊢;generalize Value.slice (some ⟨g2,0,none⟩) (l0.length+2) cap2=v1 at ST ⊢;have st:=O ST;have HM:=Zc (Zin 118 (fun _ _=>rfl) Un 1000 Kj (by omega) b 81000000000 (by omega) pe w1 (fun p hp=>((O HV).eeach p hp).size) (fun p hp v l w' hws hw hl=>by obtain⟨lv,h1,h2,h3⟩:=(((O HV).eeach p hp).ws st.ws).ws hws; rw [h1]; exact Yes b v l lv p.2.1 p.2.2 w' hw (by omega) h2 h3) 0 4 (by omega) v1 l1 _ st.wt (by omega) ((O HV).ws st.ws).els (O HV).lens.2);rw [(O HV).externs] at HM;clear st;refine(O HM).mono ?_;rintro e w2 ⟨hws,hm⟩;cases hr:Xz 0 4 Un p.externs with
 | none=>rw [hr] at hm;subst hm;refine⟨rfl,(O ST).ws.trans hws,?_⟩;unfold Mv;rw [hr];rfl
 | some bs2 =>
  rw [hr] at hm;obtain⟨rfl,v2,hw⟩:=hm;have hbs:bs2.length<=4001:=Xc Un 1000 Kj 0 4 _ _ hr;have st:=(O ST).step (by decide) hbl hws hw;have HR2:=Zc hr;obtain⟨l2,hlk⟩:∃ x,x=l1++bs2:=⟨_,rfl⟩;have hn2:l2.length<=l1.length+4001:=by rw [hlk]; simp; omega
  rw [← hlk] at st;have HL2:=Zc hlk;clear hws hw hr hlk hbs ST HM c1;have ST:=Zc st;clear st;have st:=O ST;have c0:=st.cells 0 (.slice p0 n0 c0') rfl;have HM:=Zc (Zfv 120 (fun _ _=>rfl) Jz 20000 Rw (by omega) b 81000000000 (by omega) pf w2 (fun p hp=>((O HV).feach p hp).size) (fun p hp v l w' hws hw hl=>by obtain⟨pv,hv,sv,bv,pp,pb,h1,h2⟩:=(((O HV).feach p hp).ws st.ws).ws hws; rw [h1]; exact Zlp b hb1 v l p.2 pv hv sv bv pp pb w' hw (by omega) (((O HG).ws hb1 st.ws).ws hb1 hws) h2) 1 8 (by omega) v2 l2 _ st.wt (by omega) ((O HV).ws st.ws).fls (O HV).lens.1);rw [(O HV).funcs] at HM;clear st;go_wp2_with fail
  refine(O HM).mono ?_;rintro e w3 ⟨hws,hm⟩;cases hr:Xz 1 8 Jz p.funcs with
  | none=>rw [hr] at hm;subst hm;refine⟨rfl,(O ST).ws.trans hws,?_⟩;unfold Mv;rw [O HR2,hr];rfl
  | some bs3 =>
   rw [hr] at hm;obtain⟨rfl,v3,hw⟩:=hm;have hbs:bs3.length<=160001:=Xc Jz 20000 Rw 1 8 _ _ hr;have st:=(O ST).step (by decide) hbl hws hw;have HR3:=Zc hr;obtain⟨l3,hlk⟩:∃ x,x=l2++bs3:=⟨_,rfl⟩;have hn3:l3.length<=l2.length+160001:=by rw [hlk]; simp; omega
   rw [← hlk] at st;have HL3:=Zc hlk;clear hws hw hr hlk hbs ST HM c0;have ST:=Zc st;clear st;go_wp2;refine bodyPost_end (results_none (fn:=Tryz.f78) rfl _ _ _) rfl ?_;refine⟨(O ST).ws,?_⟩;have hx2:Mv p=some ([70,49]++(bs2++bs3)):=by unfold Mv; rw [O HR2,O HR3]; rfl
   rw [hx2];refine⟨rfl,v3,?_⟩;have hw:=(O ST).wt;rw [O HL3,O HL2,O HL1] at hw;simpa using hw
def Li (w:World)(v:Value)(ns:List Int):Prop:=∃ p cap,v=.slice p ns.length cap∧ns.length<=cap∧ns.length<Jw∧(0<ns.length->∃ sb so,p=some ⟨sb,so,none⟩∧∀ i,i<ns.length->w.cell? ⟨sb,so+i,none⟩=some (.int .i64 (ns.getD i 0)))
def LS (size:Nat)(w:World)(v:Value)(n:Nat)(A:Nat->Array Value):Prop:=∃ p cap,v=.slice p n cap∧n<=cap∧n<Jw∧(0<n->∃ sb so,p=some ⟨sb,so,none⟩∧sb<w.heap.size∧∀ i,i<n->w.rangeAt sb (so+i*size) (A i).toList)
theorem Li.below {w w':World}{v:Value}{ns:List Int}(h:Li w v ns)(hb:Below w.heap.size w w'):Li w' v ns:=by obtain⟨p,cap,h1,h2,h3,h4⟩:=h;refine⟨p,cap,h1,h2,h3,fun h0=>?_⟩;obtain⟨sb,so,e,hc⟩:=h4 h0;exact⟨sb,so,e,fun i hi=>(hb.cell (p:=⟨sb,so+i,none⟩) (World.block_lt_of_cell? w _ (hc i hi))).trans (hc i hi)⟩
theorem LS.below {size:Nat}{w w':World}{v:Value}{n:Nat}{A:Nat->Array Value}(h:LS size w v n A)(hb:Below w.heap.size w w'):LS size w' v n A:=by obtain⟨p,cap,h1,h2,h3,h4⟩:=h;refine⟨p,cap,h1,h2,h3,fun h0=>?_⟩;obtain⟨sb,so,e,hlt,hc⟩:=h4 h0;exact⟨sb,so,e,Nat.lt_of_lt_of_le hlt hb.size,fun i hi j x hx=>(hb.cell (p:=⟨sb,so+i*size+j,none⟩) hlt).trans (hc i hi j x hx)⟩
def Nq (x:Int×Int):Array Value:=#[.int .i64 x.1,.int .i64 x.2]
def Zsj (w:World)(A:Array Value)(i:Yj):Prop:=∃ av ov,A=#[.int .i64 i.op,.int .i64 i.d,.int .i64 i.a,.int .i64 i.bb,.int .u64 i.n,.int .i64 i.f,av,ov]∧LS 2 w av i.args.length (fun k=>Nq (i.args.getD k (0,0)))∧Li w ov i.outs
def Zfn (w:World)(v:Value)(l:List Yj):Prop:=∃ A:Nat->Array Value,LS 8 w v l.length A∧∀ k (h:k<l.length),Zsj w (A k) l[k]
structure Kq (w:World)(f:Zm)(pv hv sv bv:Value)(B:Nat->Value):Prop where
 ps:LS 2 w pv f.params.length (fun k=>Nq (f.params.getD k (0,0)))
 hs:Li w hv f.homes
 ss:Li w sv f.slots
 bs:LS 1 w bv f.blocks.length (fun k=>#[B k])
 each:∀ k (h:k<f.blocks.length),Zfn w (B k) f.blocks[k]
def Zae (w:World)(A:Array Value)(f:Zm):Prop:=∃ pv hv sv bv B,A=#[pv,.int .i64 f.results,hv,sv,bv]∧Kq w f pv hv sv bv B
def Zxc (w:World)(A:Array Value)(s:List Int×Int):Prop:=∃ lv,A=#[lv,.int .i64 s.2]∧Li w lv s.1
structure Mk (w:World)(fv ev:Value)(p:Zj)(A E:Nat->Array Value):Prop where
 fs:LS 5 w fv p.funcs.length A
 feach:∀ k (h:k<p.funcs.length),Zae w (A k) p.funcs[k]
 es:LS 2 w ev p.externs.length E
 eeach:∀ k (h:k<p.externs.length),Zxc w (E k) p.externs[k]
theorem Zsj.below {w w':World}{A:Array Value}{i:Yj}(h:Zsj w A i)(hb:Below w.heap.size w w'):Zsj w' A i:=by obtain⟨av,ov,h1,h2,h3⟩:=h;exact⟨av,ov,h1,h2.below hb,h3.below hb⟩
theorem Zfn.below {w w':World}{v:Value}{l:List Yj}(h:Zfn w v l)(hb:Below w.heap.size w w'):Zfn w' v l:=by obtain⟨A,h1,h2⟩:=h;exact⟨A,h1.below hb,fun k hk=>(h2 k hk).below hb⟩
theorem Kq.below {w w':World}{f:Zm}{pv hv sv bv:Value}{B:Nat->Value}(h:Kq w f pv hv sv bv B)(hb:Below w.heap.size w w'):Kq w' f pv hv sv bv B :=
 ⟨h.ps.below hb,h.hs.below hb,h.ss.below hb,h.bs.below hb,fun k hk=>(h.each k hk).below hb⟩
theorem Zae.below {w w':World}{A:Array Value}{f:Zm}(h:Zae w A f)(hb:Below w.heap.size w w'):Zae w' A f:=by obtain⟨pv,hv,sv,bv,B,h1,h2⟩:=h;exact⟨pv,hv,sv,bv,B,h1,h2.below hb⟩
theorem Zxc.below {w w':World}{A:Array Value}{s:List Int×Int}(h:Zxc w A s)(hb:Below w.heap.size w w'):Zxc w' A s:=by obtain⟨lv,h1,h2⟩:=h;exact⟨lv,h1,h2.below hb⟩
theorem Mk.below {w w':World}{fv ev:Value}{p:Zj}{A E:Nat->Array Value}(h:Mk w fv ev p A E)(hb:Below w.heap.size w w'):Mk w' fv ev p A E :=
 ⟨h.fs.below hb,fun k hk=>(h.feach k hk).below hb,h.es.below hb,fun k hk=>(h.eeach k hk).below hb⟩
theorem Li.nil (w:World):Li w (.slice none 0 0) []:=⟨none,0,rfl,Nat.le_refl _,by decide,fun h=>absurd h (by decide)⟩
theorem Li.take {w:World}{p:Option Addr}{cap:Nat}{ns:List Int}(h:Li w (.slice p ns.length cap) ns)(k:Nat)(hk:k<=ns.length):Li w (.slice p k cap) (ns.take k):=by
 obtain⟨p',cap',h1,h2,h3,h4⟩:=h;injection h1 with e1 e2 e3;subst e1 e3;have hl:(ns.take k).length=k:=by simp; omega
 refine⟨p,cap,by rw [hl],by omega,by omega,fun h0=>?_⟩;obtain⟨sb,so,e,hc⟩:=h4 (by omega);refine⟨sb,so,e,fun i hi=>?_⟩;rw [hl] at hi;rw [hc i (by omega)];simp [List.getD,hi]
theorem Li.new {w:World}{g:Nat}{ns:List Int}{t:TypeId}{fr:Nat×Nat}(h:w.heap[g]?=some (.cells (ns.map fun n=>Value.int .i64 n).toArray t fr))(hs:ns.length<Jw):Li w (.slice (some ⟨g,0,none⟩) ns.length ns.length) ns :=
 ⟨_,_,rfl,Nat.le_refl _,hs,fun _=>⟨g,0,rfl,fun i hi=>by
  rw [Nat.zero_add,Zi h i];simp [List.getD,hi]⟩⟩
theorem Li.shape {w:World}{v:Value}{ns:List Int}(h:Li w v ns):∃ p cap,v=.slice p ns.length cap:=by obtain⟨p,cap,h1,-⟩:=h;exact⟨p,cap,h1⟩
theorem LS.shape {size:Nat}{w:World}{v:Value}{n:Nat}{A:Nat->Array Value}(h:LS size w v n A):∃ p cap,v=.slice p n cap:=by obtain⟨p,cap,h1,-⟩:=h;exact⟨p,cap,h1⟩
theorem Li.lt {w:World}{v:Value}{ns:List Int}(h:Li w v ns):ns.length<Jw:=by obtain⟨p,cap,-,-,h,-⟩:=h;exact h
def Zk:Zm:=⟨[],0,[],[],[]⟩
def Lc:Yj:=⟨0,0,0,0,0,0,[],[]⟩
def Gn (n lo hi:Int):Bool:=decide (lo<=n∧n<=hi)
def upB (n:Nat)(q:Nat->Bool):Bool:=(List.range n).all q
theorem Ld {n:Nat}{q:Nat->Bool}(h:∀ k,k<n->q k=true):upB n q=true:=by unfold upB;rw [List.all_eq_true];exact fun k hk=>h k (List.mem_range.1 hk)
theorem Gd {n:Nat}{q:Nat->Bool}{k:Nat}(hk:k<n)(h:q k=false):upB n q=false:=by unfold upB;rw [List.all_eq_false];exact⟨k,List.mem_range.2 hk,by simp [h]⟩
theorem Gv {n:Nat}{q:Nat->Bool}(h:upB n q=true){k:Nat}(hk:k<n):q k=true:=by unfold upB at h;rw [List.all_eq_true] at h;exact h k (List.mem_range.2 hk)
theorem Jc {q:Nat->Bool}{k:Nat}(h:∀ j,j<k->q j=true)(hk:q k=true):∀ j,j<k+1->q j=true:=fun j hj=>by
 rcases Nat.lt_succ_iff_lt_or_eq.1 hj with h' | h'
 ·exact h j h'
 ·subst h'; exact hk
def Gg (ns:List Int)(lo hi:Int):Bool:=upB ns.length fun k=>Gn (ns.getD k 0) lo hi
def Ns (s:List Int×Int):Bool:=decide (s.1.length<=8)&&(Gn s.2 0 4&&Gg s.1 0 8)
def Le (f:Zm):List Int×Int:=(f.params.map (·.1),f.results)
def Zee (regs:Int)(own hs:List Int)(k:Nat):Bool:=decide (hs.getD k 0=-1)||(Gn (hs.getD k 0) 0 (regs-1)&&(!decide (hs.getD k 0 ∈ own)&&!decide (hs.getD k 0 ∈ hs.take k)))
def Kd (regs:Int)(own hs:List Int):Bool:=upB hs.length (Zee regs own hs)
def Ua (bs:List (List Yj)):Bool:=upB bs.length fun k=>Gn ((bs.getD k []).length) 1 24
def Rl (f:Zm)(x:Int×Int):Bool:=if x.1=0 then Gn x.2 0 (f.homes.length-1) else Gn x.2 0 (f.slots.length-1)&&decide (f.slots.getD x.2.toNat 0=x.1)
def Zbj (x y:Int×Int):Bool:=decide (x.2=y.2)&&(decide (x.1=0)==decide (y.1=0))
def Ke (f:Zm)(k:Nat):Bool:=Rl f (f.params.getD k (0,0))&&upB k fun j=>!Zbj (f.params.getD k (0,0)) (f.params.getD j (0,0))
def Ub (f:Zm):Bool:=upB f.params.length (Ke f)
def Yu (regs:Int)(own:List Int)(f:Zm):Bool :=
 decide (f.params.length<=8)&&(Ns (Le f)&&(decide (f.homes.length<=12)&&(Kd regs own f.homes&&(decide (f.slots.length<=6)&&(Gg f.slots 1 8&&(Gn f.blocks.length 1 12&&(Ua f.blocks&&Ub f)))))))
def Jn (p:Zj):Bool:=Gn p.funcs.length 1 8&&(decide (p.externs.length<=4)&&upB p.externs.length fun k=>Ns (p.externs.getD k ([],0)))
def Jp (f:Zm)(n:Int):Bool:=Gn n 0 (f.homes.length-1)
def Mt (f:Zm)(l:List Int):Bool:=upB l.length fun k=>Jp f (l.getD k 0)
def Yay (f:Zm)(gs:List (Int×Int))(ps:List Int):Bool:=decide (gs.length=ps.length)&&upB gs.length fun k=>decide ((gs.getD k (0,0)).1=ps.getD k 0)&&Rl f (gs.getD k (0,0))
def Ybn (l:List Int):Bool:=upB l.length fun k=>!decide (l.getD k 0 ∈ l.take k)
def Yaz (f:Zm)(i:Yj)(s:List Int×Int):Bool:=Yay f i.args s.1&&(decide ((i.outs.length:Int)=s.2)&&(Mt f i.outs&&Ybn i.outs))
def Yef (f:Zm)(i:Yj)(s:List Int×Int):Bool:=Yay f i.args s.1&&decide (s.2=f.results)
def Ybo (n:Int):Bool:=decide (n=1∨n=2∨n=4∨n=8)
def Yeg (f:Zm)(i:Yj):Bool:=Gn i.a 0 (f.slots.length-1)&&(Ybo i.n&&(Gn i.bb 0 (8*f.slots.getD i.a.toNat 0-i.n)&&decide (i.bb % i.n=0)))
def Xq (p:Zj)(f:Zm)(i:Yj):Bool :=
 if i.op=1 then Jp f i.d
 else if i.op=2 then Jp f i.d&&Jp f i.a
 else if i.op=10∨i.op=11 then Jp f i.d&&Yeg f i
 else if i.op=12 then Gn i.f 0 (p.funcs.length-1)&&Yaz f i (Le (p.funcs.getD i.f.toNat Zk))
 else if i.op=13 then Gn i.f 0 (p.externs.length-1)&&Yaz f i (p.externs.getD i.f.toNat ([],0))
 else if i.op=14 then Gn i.a 0 (f.blocks.length-1)
 else if i.op=15 then Jp f i.d&&(Gn i.a 0 (f.blocks.length-1)&&Gn i.bb 0 (f.blocks.length-1))
 else if i.op=16 then decide ((i.outs.length:Int)=f.results)&&Mt f i.outs
 else if i.op=17 then Gn i.f 0 (p.funcs.length-1)&&Yef f i (Le (p.funcs.getD i.f.toNat Zk))
 else if i.op=18 then true
 else Jp f i.d&&(Jp f i.a&&Jp f i.bb)
def Zat (p:Zj)(f:Zm)(i:Yj)(last:Bool):Bool:=Gn i.op 1 18&&((decide (14<=i.op)==last)&&(!i.spare&&Xq p f i))
def La (n:Nat)(ok:Nat->Bool):Option Nat:=(List.range n).find? fun k=>!ok k
theorem Uc {n:Nat}{ok:Nat->Bool}{k:Nat}(h:∀ j,j<k->ok j=true)(hk:k<n)(hb:ok k=false):La n ok=some k:=by unfold La;rw [List.find?_range_eq_some];exact⟨by simp [hb],List.mem_range.2 hk,fun j hj=>by simp [h j hj]⟩
theorem Mx {n:Nat}{ok:Nat->Bool}(h:∀ j,j<n->ok j=true):La n ok=none:=by unfold La;rw [List.find?_eq_none];intro j hj;simp [h j (List.mem_range.1 hj)]
def Zky (p:Zj)(f:Zm)(k j:Nat):Bool:=Zat p f ((f.blocks.getD k []).getD j Lc) (decide (j+1=(f.blocks.getD k []).length))
def Zhp (p:Zj)(f:Zm)(k:Nat):Bool:=upB (f.blocks.getD k []).length (Zky p f k)
def Oc (p:Zj)(f:Zm):Bool:=upB f.blocks.length (Zhp p f)
def Gh (p:Zj)(f:Zm):Int×Int:=match La f.blocks.length (Zhp p f) with
 | none=>(-1,-1)
 | some k=>(k,((La (f.blocks.getD k []).length (Zky p f k)).getD 0:Nat))
structure Zbk where
 e:Int
 f:Int
 b:Int
 a:Int
def Od (tab:Bool)(regs:Int)(own:List Int)(p:Zj):Zbk :=
 if tab=false then ⟨2,-1,-1,-1⟩ else if Jn p=false then ⟨5,-1,-1,-1⟩ else match La p.funcs.length (fun k=>Yu regs own (p.funcs.getD k Zk)) with
  | some k=>⟨5,k,-1,-1⟩
  | none=>match La p.funcs.length (fun k=>Oc p (p.funcs.getD k Zk)) with
   | some k=>⟨5,k,(Gh p (p.funcs.getD k Zk)).1,(Gh p (p.funcs.getD k Zk)).2⟩
   | none=>⟨0,-1,-1,-1⟩
end Go.Proofs.YtkenknfgeoecbaaGreatDoor
