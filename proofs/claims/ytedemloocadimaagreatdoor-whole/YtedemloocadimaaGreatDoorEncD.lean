import Derived.Test.YtedemloocadimaaGreatDoorEncC
namespace Go.Proofs.YtedemloocadimaaGreatDoor
open Go.RowKit
set_option maxHeartbeats 8000000
set_option maxRecDepth 100000
structure Zq where
 op:Int
 d:Int
 a:Int
 bb:Int
 n:Int
 f:Int
 args:List (Int×Int)
 outs:List Int
def Zq.spare (i:Zq):Bool:=Xc i.op i.d i.a i.bb i.n i.f i.args.length i.outs.length
def Gc (c:Bool)(x:Option (List UInt8)):Option (List UInt8):=if c then x else some []
def Yu (op m:Int):Bool:=bits .and .u8 (Xa op) m != 0
def Zi (i:Zq):Option (List UInt8):=Zz (Zf 1 18 i.op) (if i.spare then none else
 Zz (Gc (Yu i.op 1) (Zf 0 255 i.d)) (Zz (Gc (Yu i.op 2) (Zf 0 255 i.a)) (Zz (Gc (Yu i.op 4) (Zf 0 255 i.bb)) (Zz (Gc (Yu i.op 8) (Mf i.op i.n)) (Zz (Gc (Yu i.op 16) (Zf 0 255 i.f)) (Zz (Gc (Yu i.op 32) (Xh 0 8 Jl i.args)) (Gc (Yu i.op 64) (Xh 0 4 (Zf 0 255) i.outs))))))))
theorem Wt.below {w w':World}{b:Nat}{v:Value}{l:List UInt8}(h:Wt w b v l)(hb:Below w.heap.size w w'):Wt w' b v l :=
 have e:=hb.block b h.lt;⟨(World.cell?_of_block e).trans h.cell,(World.frozen?_of_block (a:=⟨b,0,none⟩) e).trans h.fz,World.ownsRow.kept h.row (⟨hb.os,hb.tape,hb.output,hb.size,fun q hq _=>hb.block q hq⟩:w.grownBy w' none) (by cases v.ownBlock <;> simp)⟩
theorem Mg {w w':World}{b:Nat}(hb:Below w.heap.size w w')(h:b≤w.heap.size):Ws w w' b :=
 ⟨⟨hb.os,hb.tape,hb.output,hb.size,fun q hq=>hb.block q (by omega)⟩,fun k o hk _ _=>by
  have hlt:k<w.heap.size:=by
   rcases Nat.lt_or_ge k w.heap.size with y | y
   ·
    exact y
   ·
    simp [Array.getElem?_eq_none y] at hk
  exact(hb.block k hlt).trans hk⟩
structure My (w wk:World)(b T:Nat)(arr:Array Value)(v:Value)(l:List UInt8):Prop where
 ws:Ws w wk b
 wt:Wt wk b v l
 row:wk.heap[T]?=some (.cells arr 89 (0,0))
theorem My.step {w wk wn:World}{b T:Nat}{arr:Array Value}{v v':Value}{l l':List UInt8}(h:My w wk b T arr v l)(hb:b<T)(hws:Ws wk wn b)(hwt:Wt wn b v' l'):My w wn b T arr v' l' :=
 ⟨h.ws.trans hws,hwt,hws.oth T _ h.row (by intro e; injection e with e; omega) (by intro c fz e; injection e with e1 e2 e3; exact absurd e2 (by decide))⟩
theorem My.cells {w wk:World}{b T:Nat}{arr:Array Value}{v:Value}{l:List UInt8}(h:My w wk b T arr v l)(j:Nat)(x:Value)(hx:arr[j]?=some x):wk.cell? ⟨T,j,none⟩=some x:=(Zr h.row j).trans hx
theorem Dk (x:Int×Int)(bs:List UInt8)(h:Jl x=some bs):bs.length≤2:=by
 have:=Oi (A:=1) (C:=1) (fun x hx=>Nat.le_of_eq (Zo hx)) (fun x hx=>Nat.le_of_eq (Zo hx)) h;omega
theorem Ce {op n:Int}{bs:List UInt8}(h:Mf op n=some bs):bs.length≤8:=by
 unfold Mf at h;split at h
 ·
  cases h
 ·
  injection h with h;subst h;rw [Zci];unfold Xp;split <;> omega
theorem Xg (x:Option (List UInt8)):Zz x (some [])=x:=by cases x <;> simp [Zz]
theorem Xq (x:Option (List UInt8)):Zz (some []) x=x:=by cases x <;> simp [Zz]
theorem Kn (b:Nat)(hb1:2<b)(v:Value)(l:List UInt8)(i:Zq)(av ov:Value)(w:World)(h:Wt w b v l)(hl:l.length≤88000000000)(hg:Zs w)(h1:1≤i.op)(h18:i.op≤18)(hneed:Xa i.op=7)(pa:List (Array Value×(Int×Int)))(hpa:pa.map (·.2)=i.args)(hpv:∀ p ∈ pa,p.1=#[.int .i64 p.2.1,.int .i64 p.2.2])(hargs:Kd 2 w b av pa)(houts:Rv w b ov i.outs)(hal:i.args.length<9223372036854775808)(hol:i.outs.length<9223372036854775808) :
 Calls Tryz.prog 212 #[.pointer (some ⟨b,0,none⟩),.agg #[.int .i64 i.op,.int .i64 i.d,.int .i64 i.a,.int .i64 i.bb,.int .u64 i.n,.int .i64 i.f,av,ov]] w (Mh b l (Zi i) w):=by
 have hform:Zi i=Zz (some [Zj i.op]) (if i.spare then none else Zz (Zf 0 255 i.d) (Zz (Zf 0 255 i.a) (Zf 0 255 i.bb))):=by
  unfold Zi Yu;rw [hneed,show Zf 1 18 i.op=some [Zj i.op] from if_pos ⟨h1,h18⟩];simp only [show(bits .and .u8 7 1 != 0)=true by decide,show(bits .and .u8 7 2 != 0)=true by decide,show(bits .and .u8 7 4 != 0)=true by decide,show(bits .and .u8 7 8 != 0)=false by decide,show(bits .and .u8 7 16 != 0)=false by decide,show(bits .and .u8 7 32 != 0)=false by decide,show(bits .and .u8 7 64 != 0)=false by decide,Gc,if_true,Bool.false_eq_true,if_false,Xg]
 have HF:=Zc hform;obtain⟨ap,ac,hav⟩:=hargs.shape;obtain⟨op',oc,hov⟩:=houts.shape;have hpl:pa.length=i.args.length:=by rw [← hpa]; simp
 rw [hpl] at hav;subst hav hov;have hbl:=h.lt;have HA:=Zc hargs;have HO:=Zc houts;have HAL:=Zc (show pa.length<9223372036854775808 by omega);have HPA:=Zc hpa;have HOL:=Zc hol;have HPV:=Zc hpv;have HPS:=Zc (show ∀ p ∈ pa,p.1.size=2∧p.1.all (·.oneCell')=true from fun p hp=>by rw [hpv p hp]; exact⟨rfl,by simp [Value.oneCell']⟩);have HG:=Zc hg;have HNUM:=Zc (show Zf 1 18 i.op=some [Zj i.op] from if_pos ⟨h1,h18⟩);have HN:=Zc (fun X:Obj=>Xu b v l i.op 1 18 (w.alloc X) (h.alloc X) (by omega));have HWA:=Zc (fun X:Obj=>Yy w X b (by omega));clear hargs houts hg h hform hpa hpv hpl;go_enter Tryz.func212,Tryz.ntmps212
 go_wp2_with fail
 refine(O HN _).mono ?_;rintro e w1 ⟨hws,hm⟩;rw [O HNUM] at hm;obtain⟨rfl,v1,hw1⟩:=hm;have st:My w w1 b w.heap.size #[.int .i64 i.op,.int .i64 i.d,.int .i64 i.a,.int .i64 i.bb,.int .u64 i.n,.int .i64 i.f,.slice ap i.args.length ac,.slice op' i.outs.length oc] v1 (l++[Zj i.op]):=⟨(O HWA _).trans hws,hw1,Rj hbl (by decide) hws⟩;have ST:=Zc st;have hb1w:=hw1.lt;have HROW:=Zc st.row;have HS:=Zc (Lp i.op i.d i.a i.bb i.n i.f ap op' i.args.length i.outs.length ac oc w1 h1 h18 ((O HG).ws hb1 st.ws) (by omega));clear hws hw1 HN st;go_wp2_with (refine wpList_load_row rfl 89 (.tmp 3) rfl w.heap.size rfl 89 _ (0,0) _ (O HROW) Tryz.underlying89 rfl (Tryz.infInss.trans rfl) ?_)
 refine(O HS).mono ?_;rintro e w2 ⟨rfl,hbel⟩;have st:My w w2 b w.heap.size #[.int .i64 i.op,.int .i64 i.d,.int .i64 i.a,.int .i64 i.bb,.int .u64 i.n,.int .i64 i.f,.slice ap i.args.length ac,.slice op' i.outs.length oc] v1 (l++[Zj i.op]):=(O ST).step hbl (Mg hbel (by omega)) ((O ST).wt.below hbel);clear hbel HS ST HROW;cases hsp:Xc i.op i.d i.a i.bb i.n i.f i.args.length i.outs.length with
 | true =>
  have HR:=Zc (show Zi i=none by rw [O HF,show i.spare=true from hsp]; rfl);have ST:=Zc st;clear st;go_wp2_with fail
  refine(Lt _ _).mono ?_;rintro e w3 ⟨rfl,hw⟩;subst w3;exact⟨rfl,(O ST).ws,by rw [O HR]⟩
 | false =>
  have HF2:=Zc (show Zi i=Zz (some [Zj i.op]) (Zz (Zf 0 255 i.d) (Zz (Zf 0 255 i.a) (Zf 0 255 i.bb))) by rw [O HF,show i.spare=false from hsp]; rfl);clear HF;obtain⟨l2,hl2⟩:∃ x,x=l++[Zj i.op]:=⟨_,rfl⟩;have hn2:l2.length≤l.length+1:=by rw [hl2]; simp
  rw [← hl2] at st;have c0:=st.cells 0 _ rfl;have HND:=Zc (Gj i.op h1 h18 w2 ((O HG).ws hb1 st.ws));have ST:=Zc st;have HL2:=Zc hl2;clear st hl2 hsp;go_wp2_with fail
  refine(O HND).mono ?_;rintro e wx ⟨rfl,hwx⟩;subst wx;rw [hneed];clear HND;go_wp2_with fail
  refine(Zn 7 1 _).mono ?_;rintro e wx ⟨rfl,hwx⟩;subst wx;rw [show(bits .and .u8 7 1 != 0)=true by decide];have st:=O ST;have c1:=st.cells 1 (.int .i64 i.d) rfl;have HM:=Zc (Jp b v1 l2 i.d w2 st.wt (by omega));clear st;go_wp2_with fail
  refine(O HM).mono ?_;rintro e w3 ⟨hws,hm⟩;cases hr:Zf 0 255 i.d with
  | none =>
   rw [hr] at hm;subst hm;refine⟨rfl,(O ST).ws.trans hws,?_⟩;have hx:=O HF2;rw [hr] at hx;have hx2:Zi i=none:=hx.trans rfl;rw [hx2]
  | some bs3 =>
   rw [hr] at hm;obtain⟨rfl,v3,hw⟩:=hm;have hbs:bs3.length≤1:=Nat.le_of_eq (Zo hr);have st:=(O ST).step hbl hws hw;have HR3:=Zc hr;obtain⟨l3,hlk⟩:∃ x,x=l2++bs3:=⟨_,rfl⟩;have hn3:l3.length≤l2.length+1:=by rw [hlk]; simp; omega
   rw [← hlk] at st;have HL3:=Zc hlk;clear hws hw hr hlk hbs ST HM c1;have ST:=Zc st;clear st;go_wp2_with fail
   refine(Zn 7 2 _).mono ?_;rintro e wx ⟨rfl,hwx⟩;subst wx;rw [show(bits .and .u8 7 2 != 0)=true by decide];have st:=O ST;have c2:=st.cells 2 (.int .i64 i.a) rfl;have HM:=Zc (Jp b v3 l3 i.a w3 st.wt (by omega));clear st;go_wp2_with fail
   refine(O HM).mono ?_;rintro e w4 ⟨hws,hm⟩;cases hr:Zf 0 255 i.a with
   | none =>
    rw [hr] at hm;subst hm;refine⟨rfl,(O ST).ws.trans hws,?_⟩;have hx:=O HF2;rw [O HR3,hr] at hx;have hx2:Zi i=none:=hx.trans rfl;rw [hx2]
   | some bs4 =>
    rw [hr] at hm;obtain⟨rfl,v4,hw⟩:=hm;have hbs:bs4.length≤1:=Nat.le_of_eq (Zo hr);have st:=(O ST).step hbl hws hw;have HR4:=Zc hr;obtain⟨l4,hlk⟩:∃ x,x=l3++bs4:=⟨_,rfl⟩;have hn4:l4.length≤l3.length+1:=by rw [hlk]; simp; omega
    rw [← hlk] at st;have HL4:=Zc hlk;clear hws hw hr hlk hbs ST HM c2;have ST:=Zc st;clear st;go_wp2_with fail
    refine(Zn 7 4 _).mono ?_;rintro e wx ⟨rfl,hwx⟩;subst wx;rw [show(bits .and .u8 7 4 != 0)=true by decide];have st:=O ST;have c3:=st.cells 3 (.int .i64 i.bb) rfl;have HM:=Zc (Jp b v4 l4 i.bb w4 st.wt (by omega));clear st;go_wp2_with fail
    refine(O HM).mono ?_;rintro e w5 ⟨hws,hm⟩;cases hr:Zf 0 255 i.bb with
    | none =>
     rw [hr] at hm;subst hm;refine⟨rfl,(O ST).ws.trans hws,?_⟩;have hx:=O HF2;rw [O HR3,O HR4,hr] at hx;have hx2:Zi i=none:=hx.trans rfl;rw [hx2]
    | some bs5 =>
     rw [hr] at hm;obtain⟨rfl,v5,hw⟩:=hm;have hbs:bs5.length≤1:=Nat.le_of_eq (Zo hr);have st:=(O ST).step hbl hws hw;have HR5:=Zc hr;obtain⟨l5,hlk⟩:∃ x,x=l4++bs5:=⟨_,rfl⟩;have hn5:l5.length≤l4.length+1:=by rw [hlk]; simp; omega
     rw [← hlk] at st;have HL5:=Zc hlk;clear hws hw hr hlk hbs ST HM c3;have ST:=Zc st;clear st;go_wp2_with fail
     refine(Zn 7 8 _).mono ?_;rintro e wx ⟨rfl,hwx⟩;subst wx;rw [show(bits .and .u8 7 8 != 0)=false by decide];go_wp2_with fail
     refine(Zn 7 16 _).mono ?_;rintro e wx ⟨rfl,hwx⟩;subst wx;rw [show(bits .and .u8 7 16 != 0)=false by decide];go_wp2_with fail
     refine(Zn 7 32 _).mono ?_;rintro e wx ⟨rfl,hwx⟩;subst wx;rw [show(bits .and .u8 7 32 != 0)=false by decide];go_wp2_with fail
     refine(Zn 7 64 _).mono ?_;rintro e wx ⟨rfl,hwx⟩;subst wx;rw [show(bits .and .u8 7 64 != 0)=false by decide];go_wp2;refine bodyPost_end (results_none (fn:=Tryz.f212) rfl _ _ _) rfl ?_;refine⟨(O ST).ws,?_⟩;have hx:=O HF2;rw [O HR3,O HR4,O HR5] at hx;have hx2:Zi i=some ([Zj i.op]++(bs3++(bs4++bs5))):=hx.trans rfl;rw [hx2];refine⟨rfl,v5,?_⟩;have hw:=(O ST).wt;rw [O HL5,O HL4,O HL3,O HL2] at hw;simpa using hw
theorem Ydd (b:Nat)(hb1:2<b)(v:Value)(l:List UInt8)(i:Zq)(av ov:Value)(w:World)(h:Wt w b v l)(hl:l.length≤88000000000)(hg:Zs w)(h1:1≤i.op)(h18:i.op≤18)(hneed:Xa i.op=9)(pa:List (Array Value×(Int×Int)))(hpa:pa.map (·.2)=i.args)(hpv:∀ p ∈ pa,p.1=#[.int .i64 p.2.1,.int .i64 p.2.2])(hargs:Kd 2 w b av pa)(houts:Rv w b ov i.outs)(hal:i.args.length<9223372036854775808)(hol:i.outs.length<9223372036854775808) :
 Calls Tryz.prog 212 #[.pointer (some ⟨b,0,none⟩),.agg #[.int .i64 i.op,.int .i64 i.d,.int .i64 i.a,.int .i64 i.bb,.int .u64 i.n,.int .i64 i.f,av,ov]] w (Mh b l (Zi i) w):=by
 have hform:Zi i=Zz (some [Zj i.op]) (if i.spare then none else Zz (Zf 0 255 i.d) (Mf i.op i.n)):=by
  unfold Zi Yu;rw [hneed,show Zf 1 18 i.op=some [Zj i.op] from if_pos ⟨h1,h18⟩];simp only [show(bits .and .u8 9 1 != 0)=true by decide,show(bits .and .u8 9 2 != 0)=false by decide,show(bits .and .u8 9 4 != 0)=false by decide,show(bits .and .u8 9 8 != 0)=true by decide,show(bits .and .u8 9 16 != 0)=false by decide,show(bits .and .u8 9 32 != 0)=false by decide,show(bits .and .u8 9 64 != 0)=false by decide,Gc,if_true,Bool.false_eq_true,if_false,Xq,Xg]
 have HF:=Zc hform;obtain⟨ap,ac,hav⟩:=hargs.shape;obtain⟨op',oc,hov⟩:=houts.shape;have hpl:pa.length=i.args.length:=by rw [← hpa]; simp
 rw [hpl] at hav;subst hav hov;have hbl:=h.lt;have HA:=Zc hargs;have HO:=Zc houts;have HAL:=Zc (show pa.length<9223372036854775808 by omega);have HPA:=Zc hpa;have HOL:=Zc hol;have HPV:=Zc hpv;have HPS:=Zc (show ∀ p ∈ pa,p.1.size=2∧p.1.all (·.oneCell')=true from fun p hp=>by rw [hpv p hp]; exact⟨rfl,by simp [Value.oneCell']⟩);have HG:=Zc hg;have HNUM:=Zc (show Zf 1 18 i.op=some [Zj i.op] from if_pos ⟨h1,h18⟩);have HN:=Zc (fun X:Obj=>Xu b v l i.op 1 18 (w.alloc X) (h.alloc X) (by omega));have HWA:=Zc (fun X:Obj=>Yy w X b (by omega));clear hargs houts hg h hform hpa hpv hpl;go_enter Tryz.func212,Tryz.ntmps212
 go_wp2_with fail
 refine(O HN _).mono ?_;rintro e w1 ⟨hws,hm⟩;rw [O HNUM] at hm;obtain⟨rfl,v1,hw1⟩:=hm;have st:My w w1 b w.heap.size #[.int .i64 i.op,.int .i64 i.d,.int .i64 i.a,.int .i64 i.bb,.int .u64 i.n,.int .i64 i.f,.slice ap i.args.length ac,.slice op' i.outs.length oc] v1 (l++[Zj i.op]):=⟨(O HWA _).trans hws,hw1,Rj hbl (by decide) hws⟩;have ST:=Zc st;have hb1w:=hw1.lt;have HROW:=Zc st.row;have HS:=Zc (Lp i.op i.d i.a i.bb i.n i.f ap op' i.args.length i.outs.length ac oc w1 h1 h18 ((O HG).ws hb1 st.ws) (by omega));clear hws hw1 HN st;go_wp2_with (refine wpList_load_row rfl 89 (.tmp 3) rfl w.heap.size rfl 89 _ (0,0) _ (O HROW) Tryz.underlying89 rfl (Tryz.infInss.trans rfl) ?_)
 refine(O HS).mono ?_;rintro e w2 ⟨rfl,hbel⟩;have st:My w w2 b w.heap.size #[.int .i64 i.op,.int .i64 i.d,.int .i64 i.a,.int .i64 i.bb,.int .u64 i.n,.int .i64 i.f,.slice ap i.args.length ac,.slice op' i.outs.length oc] v1 (l++[Zj i.op]):=(O ST).step hbl (Mg hbel (by omega)) ((O ST).wt.below hbel);clear hbel HS ST HROW;cases hsp:Xc i.op i.d i.a i.bb i.n i.f i.args.length i.outs.length with
 | true =>
  have HR:=Zc (show Zi i=none by rw [O HF,show i.spare=true from hsp]; rfl);have ST:=Zc st;clear st;go_wp2_with fail
  refine(Lt _ _).mono ?_;rintro e w3 ⟨rfl,hw⟩;subst w3;exact⟨rfl,(O ST).ws,by rw [O HR]⟩
 | false =>
  have HF2:=Zc (show Zi i=Zz (some [Zj i.op]) (Zz (Zf 0 255 i.d) (Mf i.op i.n)) by rw [O HF,show i.spare=false from hsp]; rfl);clear HF;obtain⟨l2,hl2⟩:∃ x,x=l++[Zj i.op]:=⟨_,rfl⟩;have hn2:l2.length≤l.length+1:=by rw [hl2]; simp
  rw [← hl2] at st;have c0:=st.cells 0 _ rfl;have HND:=Zc (Gj i.op h1 h18 w2 ((O HG).ws hb1 st.ws));have ST:=Zc st;have HL2:=Zc hl2;clear st hl2 hsp;go_wp2_with fail
  refine(O HND).mono ?_;rintro e wx ⟨rfl,hwx⟩;subst wx;rw [hneed];clear HND;go_wp2_with fail
  refine(Zn 9 1 _).mono ?_;rintro e wx ⟨rfl,hwx⟩;subst wx;rw [show(bits .and .u8 9 1 != 0)=true by decide];have st:=O ST;have c1:=st.cells 1 (.int .i64 i.d) rfl;have HM:=Zc (Jp b v1 l2 i.d w2 st.wt (by omega));clear st;go_wp2_with fail
  refine(O HM).mono ?_;rintro e w3 ⟨hws,hm⟩;cases hr:Zf 0 255 i.d with
  | none =>
   rw [hr] at hm;subst hm;refine⟨rfl,(O ST).ws.trans hws,?_⟩;have hx:=O HF2;rw [hr] at hx;have hx2:Zi i=none:=hx.trans rfl;rw [hx2]
  | some bs3 =>
   rw [hr] at hm;obtain⟨rfl,v3,hw⟩:=hm;have hbs:bs3.length≤1:=Nat.le_of_eq (Zo hr);have st:=(O ST).step hbl hws hw;have HR3:=Zc hr;obtain⟨l3,hlk⟩:∃ x,x=l2++bs3:=⟨_,rfl⟩;have hn3:l3.length≤l2.length+1:=by rw [hlk]; simp; omega
   rw [← hlk] at st;have HL3:=Zc hlk;clear hws hw hr hlk hbs ST HM c1;have ST:=Zc st;clear st;go_wp2_with fail
   refine(Zn 9 2 _).mono ?_;rintro e wx ⟨rfl,hwx⟩;subst wx;rw [show(bits .and .u8 9 2 != 0)=false by decide];go_wp2_with fail
   refine(Zn 9 4 _).mono ?_;rintro e wx ⟨rfl,hwx⟩;subst wx;rw [show(bits .and .u8 9 4 != 0)=false by decide];go_wp2_with fail
   refine(Zn 9 8 _).mono ?_;rintro e wx ⟨rfl,hwx⟩;subst wx;rw [show(bits .and .u8 9 8 != 0)=true by decide];have st:=O ST;have c0:=st.cells 0 (.int .i64 i.op) rfl;have c4:=st.cells 4 (.int .u64 i.n) rfl;have HM:=Zc (Zax b v3 l3 i.op i.n w3 st.wt (by omega));clear st;go_wp2_with fail
   refine(O HM).mono ?_;rintro e w4 ⟨hws,hm⟩;cases hr:Mf i.op i.n with
   | none =>
    rw [hr] at hm;subst hm;refine⟨rfl,(O ST).ws.trans hws,?_⟩;have hx:=O HF2;rw [O HR3,hr] at hx;have hx2:Zi i=none:=hx.trans rfl;rw [hx2]
   | some bs4 =>
    rw [hr] at hm;obtain⟨rfl,v4,hw⟩:=hm;have hbs:bs4.length≤8:=Ce hr;have st:=(O ST).step hbl hws hw;have HR4:=Zc hr;obtain⟨l4,hlk⟩:∃ x,x=l3++bs4:=⟨_,rfl⟩;have hn4:l4.length≤l3.length+8:=by rw [hlk]; simp; omega
    rw [← hlk] at st;have HL4:=Zc hlk;clear hws hw hr hlk hbs ST HM c0 c4;have ST:=Zc st;clear st;go_wp2_with fail
    refine(Zn 9 16 _).mono ?_;rintro e wx ⟨rfl,hwx⟩;subst wx;rw [show(bits .and .u8 9 16 != 0)=false by decide];go_wp2_with fail
    refine(Zn 9 32 _).mono ?_;rintro e wx ⟨rfl,hwx⟩;subst wx;rw [show(bits .and .u8 9 32 != 0)=false by decide];go_wp2_with fail
    refine(Zn 9 64 _).mono ?_;rintro e wx ⟨rfl,hwx⟩;subst wx;rw [show(bits .and .u8 9 64 != 0)=false by decide];go_wp2;refine bodyPost_end (results_none (fn:=Tryz.f212) rfl _ _ _) rfl ?_;refine⟨(O ST).ws,?_⟩;have hx:=O HF2;rw [O HR3,O HR4] at hx;have hx2:Zi i=some ([Zj i.op]++(bs3++bs4)):=hx.trans rfl;rw [hx2];refine⟨rfl,v4,?_⟩;have hw:=(O ST).wt;rw [O HL4,O HL3,O HL2] at hw;simpa using hw
theorem Yde (b:Nat)(hb1:2<b)(v:Value)(l:List UInt8)(i:Zq)(av ov:Value)(w:World)(h:Wt w b v l)(hl:l.length≤88000000000)(hg:Zs w)(h1:1≤i.op)(h18:i.op≤18)(hneed:Xa i.op=3)(pa:List (Array Value×(Int×Int)))(hpa:pa.map (·.2)=i.args)(hpv:∀ p ∈ pa,p.1=#[.int .i64 p.2.1,.int .i64 p.2.2])(hargs:Kd 2 w b av pa)(houts:Rv w b ov i.outs)(hal:i.args.length<9223372036854775808)(hol:i.outs.length<9223372036854775808) :
 Calls Tryz.prog 212 #[.pointer (some ⟨b,0,none⟩),.agg #[.int .i64 i.op,.int .i64 i.d,.int .i64 i.a,.int .i64 i.bb,.int .u64 i.n,.int .i64 i.f,av,ov]] w (Mh b l (Zi i) w):=by
 have hform:Zi i=Zz (some [Zj i.op]) (if i.spare then none else Zz (Zf 0 255 i.d) (Zf 0 255 i.a)):=by
  unfold Zi Yu;rw [hneed,show Zf 1 18 i.op=some [Zj i.op] from if_pos ⟨h1,h18⟩];simp only [show(bits .and .u8 3 1 != 0)=true by decide,show(bits .and .u8 3 2 != 0)=true by decide,show(bits .and .u8 3 4 != 0)=false by decide,show(bits .and .u8 3 8 != 0)=false by decide,show(bits .and .u8 3 16 != 0)=false by decide,show(bits .and .u8 3 32 != 0)=false by decide,show(bits .and .u8 3 64 != 0)=false by decide,Gc,if_true,Bool.false_eq_true,if_false,Xg]
 have HF:=Zc hform;obtain⟨ap,ac,hav⟩:=hargs.shape;obtain⟨op',oc,hov⟩:=houts.shape;have hpl:pa.length=i.args.length:=by rw [← hpa]; simp
 rw [hpl] at hav;subst hav hov;have hbl:=h.lt;have HA:=Zc hargs;have HO:=Zc houts;have HAL:=Zc (show pa.length<9223372036854775808 by omega);have HPA:=Zc hpa;have HOL:=Zc hol;have HPV:=Zc hpv;have HPS:=Zc (show ∀ p ∈ pa,p.1.size=2∧p.1.all (·.oneCell')=true from fun p hp=>by rw [hpv p hp]; exact⟨rfl,by simp [Value.oneCell']⟩);have HG:=Zc hg;have HNUM:=Zc (show Zf 1 18 i.op=some [Zj i.op] from if_pos ⟨h1,h18⟩);have HN:=Zc (fun X:Obj=>Xu b v l i.op 1 18 (w.alloc X) (h.alloc X) (by omega));have HWA:=Zc (fun X:Obj=>Yy w X b (by omega));clear hargs houts hg h hform hpa hpv hpl;go_enter Tryz.func212,Tryz.ntmps212
 go_wp2_with fail
 refine(O HN _).mono ?_;rintro e w1 ⟨hws,hm⟩;rw [O HNUM] at hm;obtain⟨rfl,v1,hw1⟩:=hm;have st:My w w1 b w.heap.size #[.int .i64 i.op,.int .i64 i.d,.int .i64 i.a,.int .i64 i.bb,.int .u64 i.n,.int .i64 i.f,.slice ap i.args.length ac,.slice op' i.outs.length oc] v1 (l++[Zj i.op]):=⟨(O HWA _).trans hws,hw1,Rj hbl (by decide) hws⟩;have ST:=Zc st;have hb1w:=hw1.lt;have HROW:=Zc st.row;have HS:=Zc (Lp i.op i.d i.a i.bb i.n i.f ap op' i.args.length i.outs.length ac oc w1 h1 h18 ((O HG).ws hb1 st.ws) (by omega));clear hws hw1 HN st;go_wp2_with (refine wpList_load_row rfl 89 (.tmp 3) rfl w.heap.size rfl 89 _ (0,0) _ (O HROW) Tryz.underlying89 rfl (Tryz.infInss.trans rfl) ?_)
 refine(O HS).mono ?_;rintro e w2 ⟨rfl,hbel⟩;have st:My w w2 b w.heap.size #[.int .i64 i.op,.int .i64 i.d,.int .i64 i.a,.int .i64 i.bb,.int .u64 i.n,.int .i64 i.f,.slice ap i.args.length ac,.slice op' i.outs.length oc] v1 (l++[Zj i.op]):=(O ST).step hbl (Mg hbel (by omega)) ((O ST).wt.below hbel);clear hbel HS ST HROW;cases hsp:Xc i.op i.d i.a i.bb i.n i.f i.args.length i.outs.length with
 | true =>
  have HR:=Zc (show Zi i=none by rw [O HF,show i.spare=true from hsp]; rfl);have ST:=Zc st;clear st;go_wp2_with fail
  refine(Lt _ _).mono ?_;rintro e w3 ⟨rfl,hw⟩;subst w3;exact⟨rfl,(O ST).ws,by rw [O HR]⟩
 | false =>
  have HF2:=Zc (show Zi i=Zz (some [Zj i.op]) (Zz (Zf 0 255 i.d) (Zf 0 255 i.a)) by rw [O HF,show i.spare=false from hsp]; rfl);clear HF;obtain⟨l2,hl2⟩:∃ x,x=l++[Zj i.op]:=⟨_,rfl⟩;have hn2:l2.length≤l.length+1:=by rw [hl2]; simp
  rw [← hl2] at st;have c0:=st.cells 0 _ rfl;have HND:=Zc (Gj i.op h1 h18 w2 ((O HG).ws hb1 st.ws));have ST:=Zc st;have HL2:=Zc hl2;clear st hl2 hsp;go_wp2_with fail
  refine(O HND).mono ?_;rintro e wx ⟨rfl,hwx⟩;subst wx;rw [hneed];clear HND;go_wp2_with fail
  refine(Zn 3 1 _).mono ?_;rintro e wx ⟨rfl,hwx⟩;subst wx;rw [show(bits .and .u8 3 1 != 0)=true by decide];have st:=O ST;have c1:=st.cells 1 (.int .i64 i.d) rfl;have HM:=Zc (Jp b v1 l2 i.d w2 st.wt (by omega));clear st;go_wp2_with fail
  refine(O HM).mono ?_;rintro e w3 ⟨hws,hm⟩;cases hr:Zf 0 255 i.d with
  | none =>
   rw [hr] at hm;subst hm;refine⟨rfl,(O ST).ws.trans hws,?_⟩;have hx:=O HF2;rw [hr] at hx;have hx2:Zi i=none:=hx.trans rfl;rw [hx2]
  | some bs3 =>
   rw [hr] at hm;obtain⟨rfl,v3,hw⟩:=hm;have hbs:bs3.length≤1:=Nat.le_of_eq (Zo hr);have st:=(O ST).step hbl hws hw;have HR3:=Zc hr;obtain⟨l3,hlk⟩:∃ x,x=l2++bs3:=⟨_,rfl⟩;have hn3:l3.length≤l2.length+1:=by rw [hlk]; simp; omega
   rw [← hlk] at st;have HL3:=Zc hlk;clear hws hw hr hlk hbs ST HM c1;have ST:=Zc st;clear st;go_wp2_with fail
   refine(Zn 3 2 _).mono ?_;rintro e wx ⟨rfl,hwx⟩;subst wx;rw [show(bits .and .u8 3 2 != 0)=true by decide];have st:=O ST;have c2:=st.cells 2 (.int .i64 i.a) rfl;have HM:=Zc (Jp b v3 l3 i.a w3 st.wt (by omega));clear st;go_wp2_with fail
   refine(O HM).mono ?_;rintro e w4 ⟨hws,hm⟩;cases hr:Zf 0 255 i.a with
   | none =>
    rw [hr] at hm;subst hm;refine⟨rfl,(O ST).ws.trans hws,?_⟩;have hx:=O HF2;rw [O HR3,hr] at hx;have hx2:Zi i=none:=hx.trans rfl;rw [hx2]
   | some bs4 =>
    rw [hr] at hm;obtain⟨rfl,v4,hw⟩:=hm;have hbs:bs4.length≤1:=Nat.le_of_eq (Zo hr);have st:=(O ST).step hbl hws hw;have HR4:=Zc hr;obtain⟨l4,hlk⟩:∃ x,x=l3++bs4:=⟨_,rfl⟩;have hn4:l4.length≤l3.length+1:=by rw [hlk]; simp; omega
    rw [← hlk] at st;have HL4:=Zc hlk;clear hws hw hr hlk hbs ST HM c2;have ST:=Zc st;clear st;go_wp2_with fail
    refine(Zn 3 4 _).mono ?_;rintro e wx ⟨rfl,hwx⟩;subst wx;rw [show(bits .and .u8 3 4 != 0)=false by decide];go_wp2_with fail
    refine(Zn 3 8 _).mono ?_;rintro e wx ⟨rfl,hwx⟩;subst wx;rw [show(bits .and .u8 3 8 != 0)=false by decide];go_wp2_with fail
    refine(Zn 3 16 _).mono ?_;rintro e wx ⟨rfl,hwx⟩;subst wx;rw [show(bits .and .u8 3 16 != 0)=false by decide];go_wp2_with fail
    refine(Zn 3 32 _).mono ?_;rintro e wx ⟨rfl,hwx⟩;subst wx;rw [show(bits .and .u8 3 32 != 0)=false by decide];go_wp2_with fail
    refine(Zn 3 64 _).mono ?_;rintro e wx ⟨rfl,hwx⟩;subst wx;rw [show(bits .and .u8 3 64 != 0)=false by decide];go_wp2;refine bodyPost_end (results_none (fn:=Tryz.f212) rfl _ _ _) rfl ?_;refine⟨(O ST).ws,?_⟩;have hx:=O HF2;rw [O HR3,O HR4] at hx;have hx2:Zi i=some ([Zj i.op]++(bs3++bs4)):=hx.trans rfl;rw [hx2];refine⟨rfl,v4,?_⟩;have hw:=(O ST).wt;rw [O HL4,O HL3,O HL2] at hw;simpa using hw
theorem Zop (b:Nat)(hb1:2<b)(v:Value)(l:List UInt8)(i:Zq)(av ov:Value)(w:World)(h:Wt w b v l)(hl:l.length≤88000000000)(hg:Zs w)(h1:1≤i.op)(h18:i.op≤18)(hneed:Xa i.op=15)(pa:List (Array Value×(Int×Int)))(hpa:pa.map (·.2)=i.args)(hpv:∀ p ∈ pa,p.1=#[.int .i64 p.2.1,.int .i64 p.2.2])(hargs:Kd 2 w b av pa)(houts:Rv w b ov i.outs)(hal:i.args.length<9223372036854775808)(hol:i.outs.length<9223372036854775808) :
 Calls Tryz.prog 212 #[.pointer (some ⟨b,0,none⟩),.agg #[.int .i64 i.op,.int .i64 i.d,.int .i64 i.a,.int .i64 i.bb,.int .u64 i.n,.int .i64 i.f,av,ov]] w (Mh b l (Zi i) w):=by
 have hform:Zi i=Zz (some [Zj i.op]) (if i.spare then none else Zz (Zf 0 255 i.d) (Zz (Zf 0 255 i.a) (Zz (Zf 0 255 i.bb) (Mf i.op i.n)))):=by
  unfold Zi Yu;rw [hneed,show Zf 1 18 i.op=some [Zj i.op] from if_pos ⟨h1,h18⟩];simp only [show(bits .and .u8 15 1 != 0)=true by decide,show(bits .and .u8 15 2 != 0)=true by decide,show(bits .and .u8 15 4 != 0)=true by decide,show(bits .and .u8 15 8 != 0)=true by decide,show(bits .and .u8 15 16 != 0)=false by decide,show(bits .and .u8 15 32 != 0)=false by decide,show(bits .and .u8 15 64 != 0)=false by decide,Gc,if_true,Bool.false_eq_true,if_false,Xg]
 have HF:=Zc hform;obtain⟨ap,ac,hav⟩:=hargs.shape;obtain⟨op',oc,hov⟩:=houts.shape;have hpl:pa.length=i.args.length:=by rw [← hpa]; simp
 rw [hpl] at hav;subst hav hov;have hbl:=h.lt;have HA:=Zc hargs;have HO:=Zc houts;have HAL:=Zc (show pa.length<9223372036854775808 by omega);have HPA:=Zc hpa;have HOL:=Zc hol;have HPV:=Zc hpv;have HPS:=Zc (show ∀ p ∈ pa,p.1.size=2∧p.1.all (·.oneCell')=true from fun p hp=>by rw [hpv p hp]; exact⟨rfl,by simp [Value.oneCell']⟩);have HG:=Zc hg;have HNUM:=Zc (show Zf 1 18 i.op=some [Zj i.op] from if_pos ⟨h1,h18⟩);have HN:=Zc (fun X:Obj=>Xu b v l i.op 1 18 (w.alloc X) (h.alloc X) (by omega));have HWA:=Zc (fun X:Obj=>Yy w X b (by omega));clear hargs houts hg h hform hpa hpv hpl;go_enter Tryz.func212,Tryz.ntmps212
 go_wp2_with fail
 refine(O HN _).mono ?_;rintro e w1 ⟨hws,hm⟩;rw [O HNUM] at hm;obtain⟨rfl,v1,hw1⟩:=hm;have st:My w w1 b w.heap.size #[.int .i64 i.op,.int .i64 i.d,.int .i64 i.a,.int .i64 i.bb,.int .u64 i.n,.int .i64 i.f,.slice ap i.args.length ac,.slice op' i.outs.length oc] v1 (l++[Zj i.op]):=⟨(O HWA _).trans hws,hw1,Rj hbl (by decide) hws⟩;have ST:=Zc st;have hb1w:=hw1.lt;have HROW:=Zc st.row;have HS:=Zc (Lp i.op i.d i.a i.bb i.n i.f ap op' i.args.length i.outs.length ac oc w1 h1 h18 ((O HG).ws hb1 st.ws) (by omega));clear hws hw1 HN st;go_wp2_with (refine wpList_load_row rfl 89 (.tmp 3) rfl w.heap.size rfl 89 _ (0,0) _ (O HROW) Tryz.underlying89 rfl (Tryz.infInss.trans rfl) ?_)
 refine(O HS).mono ?_;rintro e w2 ⟨rfl,hbel⟩;have st:My w w2 b w.heap.size #[.int .i64 i.op,.int .i64 i.d,.int .i64 i.a,.int .i64 i.bb,.int .u64 i.n,.int .i64 i.f,.slice ap i.args.length ac,.slice op' i.outs.length oc] v1 (l++[Zj i.op]):=(O ST).step hbl (Mg hbel (by omega)) ((O ST).wt.below hbel);clear hbel HS ST HROW;cases hsp:Xc i.op i.d i.a i.bb i.n i.f i.args.length i.outs.length with
 | true =>
  have HR:=Zc (show Zi i=none by rw [O HF,show i.spare=true from hsp]; rfl);have ST:=Zc st;clear st;go_wp2_with fail
  refine(Lt _ _).mono ?_;rintro e w3 ⟨rfl,hw⟩;subst w3;exact⟨rfl,(O ST).ws,by rw [O HR]⟩
 | false =>
  have HF2:=Zc (show Zi i=Zz (some [Zj i.op]) (Zz (Zf 0 255 i.d) (Zz (Zf 0 255 i.a) (Zz (Zf 0 255 i.bb) (Mf i.op i.n)))) by rw [O HF,show i.spare=false from hsp]; rfl);clear HF;obtain⟨l2,hl2⟩:∃ x,x=l++[Zj i.op]:=⟨_,rfl⟩;have hn2:l2.length≤l.length+1:=by rw [hl2]; simp
  rw [← hl2] at st;have c0:=st.cells 0 _ rfl;have HND:=Zc (Gj i.op h1 h18 w2 ((O HG).ws hb1 st.ws));have ST:=Zc st;have HL2:=Zc hl2;clear st hl2 hsp;go_wp2_with fail
  refine(O HND).mono ?_;rintro e wx ⟨rfl,hwx⟩;subst wx;rw [hneed];clear HND;go_wp2_with fail
  refine(Zn 15 1 _).mono ?_;rintro e wx ⟨rfl,hwx⟩;subst wx;rw [show(bits .and .u8 15 1 != 0)=true by decide];have st:=O ST;have c1:=st.cells 1 (.int .i64 i.d) rfl;have HM:=Zc (Jp b v1 l2 i.d w2 st.wt (by omega));clear st;go_wp2_with fail
  refine(O HM).mono ?_;rintro e w3 ⟨hws,hm⟩;cases hr:Zf 0 255 i.d with
  | none =>
   rw [hr] at hm;subst hm;refine⟨rfl,(O ST).ws.trans hws,?_⟩;have hx:=O HF2;rw [hr] at hx;have hx2:Zi i=none:=hx.trans rfl;rw [hx2]
  | some bs3 =>
   rw [hr] at hm;obtain⟨rfl,v3,hw⟩:=hm;have hbs:bs3.length≤1:=Nat.le_of_eq (Zo hr);have st:=(O ST).step hbl hws hw;have HR3:=Zc hr;obtain⟨l3,hlk⟩:∃ x,x=l2++bs3:=⟨_,rfl⟩;have hn3:l3.length≤l2.length+1:=by rw [hlk]; simp; omega
   rw [← hlk] at st;have HL3:=Zc hlk;clear hws hw hr hlk hbs ST HM c1;have ST:=Zc st;clear st;go_wp2_with fail
   refine(Zn 15 2 _).mono ?_;rintro e wx ⟨rfl,hwx⟩;subst wx;rw [show(bits .and .u8 15 2 != 0)=true by decide];have st:=O ST;have c2:=st.cells 2 (.int .i64 i.a) rfl;have HM:=Zc (Jp b v3 l3 i.a w3 st.wt (by omega));clear st;go_wp2_with fail
   refine(O HM).mono ?_;rintro e w4 ⟨hws,hm⟩;cases hr:Zf 0 255 i.a with
   | none =>
    rw [hr] at hm;subst hm;refine⟨rfl,(O ST).ws.trans hws,?_⟩;have hx:=O HF2;rw [O HR3,hr] at hx;have hx2:Zi i=none:=hx.trans rfl;rw [hx2]
   | some bs4 =>
    rw [hr] at hm;obtain⟨rfl,v4,hw⟩:=hm;have hbs:bs4.length≤1:=Nat.le_of_eq (Zo hr);have st:=(O ST).step hbl hws hw;have HR4:=Zc hr;obtain⟨l4,hlk⟩:∃ x,x=l3++bs4:=⟨_,rfl⟩;have hn4:l4.length≤l3.length+1:=by rw [hlk]; simp; omega
    rw [← hlk] at st;have HL4:=Zc hlk;clear hws hw hr hlk hbs ST HM c2;have ST:=Zc st;clear st;go_wp2_with fail
    refine(Zn 15 4 _).mono ?_;rintro e wx ⟨rfl,hwx⟩;subst wx;rw [show(bits .and .u8 15 4 != 0)=true by decide];have st:=O ST;have c3:=st.cells 3 (.int .i64 i.bb) rfl;have HM:=Zc (Jp b v4 l4 i.bb w4 st.wt (by omega));clear st;go_wp2_with fail
    refine(O HM).mono ?_;rintro e w5 ⟨hws,hm⟩;cases hr:Zf 0 255 i.bb with
    | none =>
     rw [hr] at hm;subst hm;refine⟨rfl,(O ST).ws.trans hws,?_⟩;have hx:=O HF2;rw [O HR3,O HR4,hr] at hx;have hx2:Zi i=none:=hx.trans rfl;rw [hx2]
    | some bs5 =>
     rw [hr] at hm;obtain⟨rfl,v5,hw⟩:=hm;have hbs:bs5.length≤1:=Nat.le_of_eq (Zo hr);have st:=(O ST).step hbl hws hw;have HR5:=Zc hr;obtain⟨l5,hlk⟩:∃ x,x=l4++bs5:=⟨_,rfl⟩;have hn5:l5.length≤l4.length+1:=by rw [hlk]; simp; omega
     rw [← hlk] at st;have HL5:=Zc hlk;clear hws hw hr hlk hbs ST HM c3;have ST:=Zc st;clear st;go_wp2_with fail
     refine(Zn 15 8 _).mono ?_;rintro e wx ⟨rfl,hwx⟩;subst wx;rw [show(bits .and .u8 15 8 != 0)=true by decide];have st:=O ST;have c0:=st.cells 0 (.int .i64 i.op) rfl;have c4:=st.cells 4 (.int .u64 i.n) rfl;have HM:=Zc (Zax b v5 l5 i.op i.n w5 st.wt (by omega));clear st;go_wp2_with fail
     refine(O HM).mono ?_;rintro e w6 ⟨hws,hm⟩;cases hr:Mf i.op i.n with
     | none =>
      rw [hr] at hm;subst hm;refine⟨rfl,(O ST).ws.trans hws,?_⟩;have hx:=O HF2;rw [O HR3,O HR4,O HR5,hr] at hx;have hx2:Zi i=none:=hx.trans rfl;rw [hx2]
     | some bs6 =>
      rw [hr] at hm;obtain⟨rfl,v6,hw⟩:=hm;have hbs:bs6.length≤8:=Ce hr;have st:=(O ST).step hbl hws hw;have HR6:=Zc hr;obtain⟨l6,hlk⟩:∃ x,x=l5++bs6:=⟨_,rfl⟩;have hn6:l6.length≤l5.length+8:=by rw [hlk]; simp; omega
      rw [← hlk] at st;have HL6:=Zc hlk;clear hws hw hr hlk hbs ST HM c0 c4;have ST:=Zc st;clear st;go_wp2_with fail
      refine(Zn 15 16 _).mono ?_;rintro e wx ⟨rfl,hwx⟩;subst wx;rw [show(bits .and .u8 15 16 != 0)=false by decide];go_wp2_with fail
      refine(Zn 15 32 _).mono ?_;rintro e wx ⟨rfl,hwx⟩;subst wx;rw [show(bits .and .u8 15 32 != 0)=false by decide];go_wp2_with fail
      refine(Zn 15 64 _).mono ?_;rintro e wx ⟨rfl,hwx⟩;subst wx;rw [show(bits .and .u8 15 64 != 0)=false by decide];go_wp2;refine bodyPost_end (results_none (fn:=Tryz.f212) rfl _ _ _) rfl ?_;refine⟨(O ST).ws,?_⟩;have hx:=O HF2;rw [O HR3,O HR4,O HR5,O HR6] at hx;have hx2:Zi i=some ([Zj i.op]++(bs3++(bs4++(bs5++bs6)))):=hx.trans rfl;rw [hx2];refine⟨rfl,v6,?_⟩;have hw:=(O ST).wt;rw [O HL6,O HL5,O HL4,O HL3,O HL2] at hw;simpa using hw
theorem Zir (b:Nat)(hb1:2<b)(v:Value)(l:List UInt8)(i:Zq)(av ov:Value)(w:World)(h:Wt w b v l)(hl:l.length≤88000000000)(hg:Zs w)(h1:1≤i.op)(h18:i.op≤18)(hneed:Xa i.op=112)(pa:List (Array Value×(Int×Int)))(hpa:pa.map (·.2)=i.args)(hpv:∀ p ∈ pa,p.1=#[.int .i64 p.2.1,.int .i64 p.2.2])(hargs:Kd 2 w b av pa)(houts:Rv w b ov i.outs)(hal:i.args.length<9223372036854775808)(hol:i.outs.length<9223372036854775808) :
 Calls Tryz.prog 212 #[.pointer (some ⟨b,0,none⟩),.agg #[.int .i64 i.op,.int .i64 i.d,.int .i64 i.a,.int .i64 i.bb,.int .u64 i.n,.int .i64 i.f,av,ov]] w (Mh b l (Zi i) w):=by
 have hform:Zi i=Zz (some [Zj i.op]) (if i.spare then none else Zz (Zf 0 255 i.f) (Zz (Xh 0 8 Jl i.args) (Xh 0 4 (Zf 0 255) i.outs))):=by
  unfold Zi Yu;rw [hneed,show Zf 1 18 i.op=some [Zj i.op] from if_pos ⟨h1,h18⟩];simp only [show(bits .and .u8 112 1 != 0)=false by decide,show(bits .and .u8 112 2 != 0)=false by decide,show(bits .and .u8 112 4 != 0)=false by decide,show(bits .and .u8 112 8 != 0)=false by decide,show(bits .and .u8 112 16 != 0)=true by decide,show(bits .and .u8 112 32 != 0)=true by decide,show(bits .and .u8 112 64 != 0)=true by decide,Gc,if_true,Bool.false_eq_true,if_false,Xq]
 have HF:=Zc hform;obtain⟨ap,ac,hav⟩:=hargs.shape;obtain⟨op',oc,hov⟩:=houts.shape;have hpl:pa.length=i.args.length:=by rw [← hpa]; simp
 rw [hpl] at hav;subst hav hov;have hbl:=h.lt;have HA:=Zc hargs;have HO:=Zc houts;have HAL:=Zc (show pa.length<9223372036854775808 by omega);have HPA:=Zc hpa;have HOL:=Zc hol;have HPV:=Zc hpv;have HPS:=Zc (show ∀ p ∈ pa,p.1.size=2∧p.1.all (·.oneCell')=true from fun p hp=>by rw [hpv p hp]; exact⟨rfl,by simp [Value.oneCell']⟩);have HG:=Zc hg;have HNUM:=Zc (show Zf 1 18 i.op=some [Zj i.op] from if_pos ⟨h1,h18⟩);have HN:=Zc (fun X:Obj=>Xu b v l i.op 1 18 (w.alloc X) (h.alloc X) (by omega));have HWA:=Zc (fun X:Obj=>Yy w X b (by omega));clear hargs houts hg h hform hpa hpv hpl;go_enter Tryz.func212,Tryz.ntmps212
 go_wp2_with fail
 refine(O HN _).mono ?_;rintro e w1 ⟨hws,hm⟩;rw [O HNUM] at hm;obtain⟨rfl,v1,hw1⟩:=hm;have st:My w w1 b w.heap.size #[.int .i64 i.op,.int .i64 i.d,.int .i64 i.a,.int .i64 i.bb,.int .u64 i.n,.int .i64 i.f,.slice ap i.args.length ac,.slice op' i.outs.length oc] v1 (l++[Zj i.op]):=⟨(O HWA _).trans hws,hw1,Rj hbl (by decide) hws⟩;have ST:=Zc st;have hb1w:=hw1.lt;have HROW:=Zc st.row;have HS:=Zc (Lp i.op i.d i.a i.bb i.n i.f ap op' i.args.length i.outs.length ac oc w1 h1 h18 ((O HG).ws hb1 st.ws) (by omega));clear hws hw1 HN st;go_wp2_with (refine wpList_load_row rfl 89 (.tmp 3) rfl w.heap.size rfl 89 _ (0,0) _ (O HROW) Tryz.underlying89 rfl (Tryz.infInss.trans rfl) ?_)
 refine(O HS).mono ?_;rintro e w2 ⟨rfl,hbel⟩;have st:My w w2 b w.heap.size #[.int .i64 i.op,.int .i64 i.d,.int .i64 i.a,.int .i64 i.bb,.int .u64 i.n,.int .i64 i.f,.slice ap i.args.length ac,.slice op' i.outs.length oc] v1 (l++[Zj i.op]):=(O ST).step hbl (Mg hbel (by omega)) ((O ST).wt.below hbel);clear hbel HS ST HROW;cases hsp:Xc i.op i.d i.a i.bb i.n i.f i.args.length i.outs.length with
 | true =>
  have HR:=Zc (show Zi i=none by rw [O HF,show i.spare=true from hsp]; rfl);have ST:=Zc st;clear st;go_wp2_with fail
  refine(Lt _ _).mono ?_;rintro e w3 ⟨rfl,hw⟩;subst w3;exact⟨rfl,(O ST).ws,by rw [O HR]⟩
 | false =>
  have HF2:=Zc (show Zi i=Zz (some [Zj i.op]) (Zz (Zf 0 255 i.f) (Zz (Xh 0 8 Jl i.args) (Xh 0 4 (Zf 0 255) i.outs))) by rw [O HF,show i.spare=false from hsp]; rfl);clear HF;obtain⟨l2,hl2⟩:∃ x,x=l++[Zj i.op]:=⟨_,rfl⟩;have hn2:l2.length≤l.length+1:=by rw [hl2]; simp
  rw [← hl2] at st;have c0:=st.cells 0 _ rfl;have HND:=Zc (Gj i.op h1 h18 w2 ((O HG).ws hb1 st.ws));have ST:=Zc st;have HL2:=Zc hl2;clear st hl2 hsp;go_wp2_with fail
  refine(O HND).mono ?_;rintro e wx ⟨rfl,hwx⟩;subst wx;rw [hneed];clear HND;go_wp2_with fail
  refine(Zn 112 1 _).mono ?_;rintro e wx ⟨rfl,hwx⟩;subst wx;rw [show(bits .and .u8 112 1 != 0)=false by decide];go_wp2_with fail
  refine(Zn 112 2 _).mono ?_;rintro e wx ⟨rfl,hwx⟩;subst wx;rw [show(bits .and .u8 112 2 != 0)=false by decide];go_wp2_with fail
  refine(Zn 112 4 _).mono ?_;rintro e wx ⟨rfl,hwx⟩;subst wx;rw [show(bits .and .u8 112 4 != 0)=false by decide];go_wp2_with fail
  refine(Zn 112 8 _).mono ?_;rintro e wx ⟨rfl,hwx⟩;subst wx;rw [show(bits .and .u8 112 8 != 0)=false by decide];go_wp2_with fail
  refine(Zn 112 16 _).mono ?_;rintro e wx ⟨rfl,hwx⟩;subst wx;rw [show(bits .and .u8 112 16 != 0)=true by decide];have st:=O ST;have c5:=st.cells 5 (.int .i64 i.f) rfl;have HM:=Zc (Jp b v1 l2 i.f w2 st.wt (by omega));clear st;go_wp2_with fail
  refine(O HM).mono ?_;rintro e w3 ⟨hws,hm⟩;cases hr:Zf 0 255 i.f with
  | none =>
   rw [hr] at hm;subst hm;refine⟨rfl,(O ST).ws.trans hws,?_⟩;have hx:=O HF2;rw [hr] at hx;have hx2:Zi i=none:=hx.trans rfl;rw [hx2]
  | some bs3 =>
   rw [hr] at hm;obtain⟨rfl,v3,hw⟩:=hm;have hbs:bs3.length≤1:=Nat.le_of_eq (Zo hr);have st:=(O ST).step hbl hws hw;have HR3:=Zc hr;obtain⟨l3,hlk⟩:∃ x,x=l2++bs3:=⟨_,rfl⟩;have hn3:l3.length≤l2.length+1:=by rw [hlk]; simp; omega
   rw [← hlk] at st;have HL3:=Zc hlk;clear hws hw hr hlk hbs ST HM c5;have ST:=Zc st;clear st;go_wp2_with fail
   refine(Zn 112 32 _).mono ?_;rintro e wx ⟨rfl,hwx⟩;subst wx;rw [show(bits .and .u8 112 32 != 0)=true by decide];have st:=O ST;have c6:=st.cells 6 (.slice ap i.args.length ac) rfl;have HM:=Zc (Zbv 283 (fun _ _=>rfl) Jl 2 Dk (by omega) b 89000000000 (by omega) pa w3 (O HPS) (fun p hp v l w' _ hw hl=>by rw [O HPV p hp]; exact Ybm b v l p.2.1 p.2.2 w' hw (by omega)) 0 8 (by omega) v3 l3 _ st.wt (by omega) ((O HA).ws st.ws) (O HAL));rw [O HPA] at HM;clear st;go_wp2_with fail
   refine(O HM).mono ?_;rintro e w4 ⟨hws,hm⟩;cases hr:Xh 0 8 Jl i.args with
   | none =>
    rw [hr] at hm;subst hm;refine⟨rfl,(O ST).ws.trans hws,?_⟩;have hx:=O HF2;rw [O HR3,hr] at hx;have hx2:Zi i=none:=hx.trans rfl;rw [hx2]
   | some bs4 =>
    rw [hr] at hm;obtain⟨rfl,v4,hw⟩:=hm;have hbs:bs4.length≤17:=Je Jl 2 Dk 0 8 _ _ hr;have st:=(O ST).step hbl hws hw;have HR4:=Zc hr;obtain⟨l4,hlk⟩:∃ x,x=l3++bs4:=⟨_,rfl⟩;have hn4:l4.length≤l3.length+17:=by rw [hlk]; simp; omega
    rw [← hlk] at st;have HL4:=Zc hlk;clear hws hw hr hlk hbs ST HM c6;have ST:=Zc st;clear st;go_wp2_with fail
    refine(Zn 112 64 _).mono ?_;rintro e wx ⟨rfl,hwx⟩;subst wx;rw [show(bits .and .u8 112 64 != 0)=true by decide];have st:=O ST;have c7:=st.cells 7 (.slice op' i.outs.length oc) rfl;have HM:=Zc (Ui 210 (fun _ _=>rfl) (Zf 0 255) 1 (fun _ _ h=>Nat.le_of_eq (Zo h)) (by omega) b 89000000000 (by omega) (fun x v l w hw hl=>Jp b v l x w hw (by omega)) 0 4 (by omega) v4 l4 _ i.outs w4 st.wt (by omega) ((O HO).ws st.ws) (O HOL));clear st;go_wp2_with fail
    refine(O HM).mono ?_;rintro e w5 ⟨hws,hm⟩;cases hr:Xh 0 4 (Zf 0 255) i.outs with
    | none =>
     rw [hr] at hm;subst hm;refine⟨rfl,(O ST).ws.trans hws,?_⟩;have hx:=O HF2;rw [O HR3,O HR4,hr] at hx;have hx2:Zi i=none:=hx.trans rfl;rw [hx2]
    | some bs5 =>
     rw [hr] at hm;obtain⟨rfl,v5,hw⟩:=hm;have hbs:bs5.length≤5:=Je (Zf 0 255) 1 (fun _ _ h=>Nat.le_of_eq (Zo h)) 0 4 _ _ hr;have st:=(O ST).step hbl hws hw;have HR5:=Zc hr;obtain⟨l5,hlk⟩:∃ x,x=l4++bs5:=⟨_,rfl⟩;have hn5:l5.length≤l4.length+5:=by rw [hlk]; simp; omega
     rw [← hlk] at st;have HL5:=Zc hlk;clear hws hw hr hlk hbs ST HM c7;have ST:=Zc st;clear st;go_wp2;refine bodyPost_end (results_none (fn:=Tryz.f212) rfl _ _ _) rfl ?_;refine⟨(O ST).ws,?_⟩;have hx:=O HF2;rw [O HR3,O HR4,O HR5] at hx;have hx2:Zi i=some ([Zj i.op]++(bs3++(bs4++bs5))):=hx.trans rfl;rw [hx2];refine⟨rfl,v5,?_⟩;have hw:=(O ST).wt;rw [O HL5,O HL4,O HL3,O HL2] at hw;simpa using hw
theorem Ydf (b:Nat)(hb1:2<b)(v:Value)(l:List UInt8)(i:Zq)(av ov:Value)(w:World)(h:Wt w b v l)(hl:l.length≤88000000000)(hg:Zs w)(h1:1≤i.op)(h18:i.op≤18)(hneed:Xa i.op=2)(pa:List (Array Value×(Int×Int)))(hpa:pa.map (·.2)=i.args)(hpv:∀ p ∈ pa,p.1=#[.int .i64 p.2.1,.int .i64 p.2.2])(hargs:Kd 2 w b av pa)(houts:Rv w b ov i.outs)(hal:i.args.length<9223372036854775808)(hol:i.outs.length<9223372036854775808) :
 Calls Tryz.prog 212 #[.pointer (some ⟨b,0,none⟩),.agg #[.int .i64 i.op,.int .i64 i.d,.int .i64 i.a,.int .i64 i.bb,.int .u64 i.n,.int .i64 i.f,av,ov]] w (Mh b l (Zi i) w):=by
 have hform:Zi i=Zz (some [Zj i.op]) (if i.spare then none else Zf 0 255 i.a):=by
  unfold Zi Yu;rw [hneed,show Zf 1 18 i.op=some [Zj i.op] from if_pos ⟨h1,h18⟩];simp only [show(bits .and .u8 2 1 != 0)=false by decide,show(bits .and .u8 2 2 != 0)=true by decide,show(bits .and .u8 2 4 != 0)=false by decide,show(bits .and .u8 2 8 != 0)=false by decide,show(bits .and .u8 2 16 != 0)=false by decide,show(bits .and .u8 2 32 != 0)=false by decide,show(bits .and .u8 2 64 != 0)=false by decide,Gc,if_true,Bool.false_eq_true,if_false,Xq,Xg]
 have HF:=Zc hform;obtain⟨ap,ac,hav⟩:=hargs.shape;obtain⟨op',oc,hov⟩:=houts.shape;have hpl:pa.length=i.args.length:=by rw [← hpa]; simp
 rw [hpl] at hav;subst hav hov;have hbl:=h.lt;have HA:=Zc hargs;have HO:=Zc houts;have HAL:=Zc (show pa.length<9223372036854775808 by omega);have HPA:=Zc hpa;have HOL:=Zc hol;have HPV:=Zc hpv;have HPS:=Zc (show ∀ p ∈ pa,p.1.size=2∧p.1.all (·.oneCell')=true from fun p hp=>by rw [hpv p hp]; exact⟨rfl,by simp [Value.oneCell']⟩);have HG:=Zc hg;have HNUM:=Zc (show Zf 1 18 i.op=some [Zj i.op] from if_pos ⟨h1,h18⟩);have HN:=Zc (fun X:Obj=>Xu b v l i.op 1 18 (w.alloc X) (h.alloc X) (by omega));have HWA:=Zc (fun X:Obj=>Yy w X b (by omega));clear hargs houts hg h hform hpa hpv hpl;go_enter Tryz.func212,Tryz.ntmps212
 go_wp2_with fail
 refine(O HN _).mono ?_;rintro e w1 ⟨hws,hm⟩;rw [O HNUM] at hm;obtain⟨rfl,v1,hw1⟩:=hm;have st:My w w1 b w.heap.size #[.int .i64 i.op,.int .i64 i.d,.int .i64 i.a,.int .i64 i.bb,.int .u64 i.n,.int .i64 i.f,.slice ap i.args.length ac,.slice op' i.outs.length oc] v1 (l++[Zj i.op]):=⟨(O HWA _).trans hws,hw1,Rj hbl (by decide) hws⟩;have ST:=Zc st;have hb1w:=hw1.lt;have HROW:=Zc st.row;have HS:=Zc (Lp i.op i.d i.a i.bb i.n i.f ap op' i.args.length i.outs.length ac oc w1 h1 h18 ((O HG).ws hb1 st.ws) (by omega));clear hws hw1 HN st;go_wp2_with (refine wpList_load_row rfl 89 (.tmp 3) rfl w.heap.size rfl 89 _ (0,0) _ (O HROW) Tryz.underlying89 rfl (Tryz.infInss.trans rfl) ?_)
 refine(O HS).mono ?_;rintro e w2 ⟨rfl,hbel⟩;have st:My w w2 b w.heap.size #[.int .i64 i.op,.int .i64 i.d,.int .i64 i.a,.int .i64 i.bb,.int .u64 i.n,.int .i64 i.f,.slice ap i.args.length ac,.slice op' i.outs.length oc] v1 (l++[Zj i.op]):=(O ST).step hbl (Mg hbel (by omega)) ((O ST).wt.below hbel);clear hbel HS ST HROW;cases hsp:Xc i.op i.d i.a i.bb i.n i.f i.args.length i.outs.length with
 | true =>
  have HR:=Zc (show Zi i=none by rw [O HF,show i.spare=true from hsp]; rfl);have ST:=Zc st;clear st;go_wp2_with fail
  refine(Lt _ _).mono ?_;rintro e w3 ⟨rfl,hw⟩;subst w3;exact⟨rfl,(O ST).ws,by rw [O HR]⟩
 | false =>
  have HF2:=Zc (show Zi i=Zz (some [Zj i.op]) (Zf 0 255 i.a) by rw [O HF,show i.spare=false from hsp]; rfl);clear HF;obtain⟨l2,hl2⟩:∃ x,x=l++[Zj i.op]:=⟨_,rfl⟩;have hn2:l2.length≤l.length+1:=by rw [hl2]; simp
  rw [← hl2] at st;have c0:=st.cells 0 _ rfl;have HND:=Zc (Gj i.op h1 h18 w2 ((O HG).ws hb1 st.ws));have ST:=Zc st;have HL2:=Zc hl2;clear st hl2 hsp;go_wp2_with fail
  refine(O HND).mono ?_;rintro e wx ⟨rfl,hwx⟩;subst wx;rw [hneed];clear HND;go_wp2_with fail
  refine(Zn 2 1 _).mono ?_;rintro e wx ⟨rfl,hwx⟩;subst wx;rw [show(bits .and .u8 2 1 != 0)=false by decide];go_wp2_with fail
  refine(Zn 2 2 _).mono ?_;rintro e wx ⟨rfl,hwx⟩;subst wx;rw [show(bits .and .u8 2 2 != 0)=true by decide];have st:=O ST;have c2:=st.cells 2 (.int .i64 i.a) rfl;have HM:=Zc (Jp b v1 l2 i.a w2 st.wt (by omega));clear st;go_wp2_with fail
  refine(O HM).mono ?_;rintro e w3 ⟨hws,hm⟩;cases hr:Zf 0 255 i.a with
  | none =>
   rw [hr] at hm;subst hm;refine⟨rfl,(O ST).ws.trans hws,?_⟩;have hx:=O HF2;rw [hr] at hx;have hx2:Zi i=none:=hx.trans rfl;rw [hx2]
  | some bs3 =>
   rw [hr] at hm;obtain⟨rfl,v3,hw⟩:=hm;have hbs:bs3.length≤1:=Nat.le_of_eq (Zo hr);have st:=(O ST).step hbl hws hw;have HR3:=Zc hr;obtain⟨l3,hlk⟩:∃ x,x=l2++bs3:=⟨_,rfl⟩;have hn3:l3.length≤l2.length+1:=by rw [hlk]; simp; omega
   rw [← hlk] at st;have HL3:=Zc hlk;clear hws hw hr hlk hbs ST HM c2;have ST:=Zc st;clear st;go_wp2_with fail
   refine(Zn 2 4 _).mono ?_;rintro e wx ⟨rfl,hwx⟩;subst wx;rw [show(bits .and .u8 2 4 != 0)=false by decide];go_wp2_with fail
   refine(Zn 2 8 _).mono ?_;rintro e wx ⟨rfl,hwx⟩;subst wx;rw [show(bits .and .u8 2 8 != 0)=false by decide];go_wp2_with fail
   refine(Zn 2 16 _).mono ?_;rintro e wx ⟨rfl,hwx⟩;subst wx;rw [show(bits .and .u8 2 16 != 0)=false by decide];go_wp2_with fail
   refine(Zn 2 32 _).mono ?_;rintro e wx ⟨rfl,hwx⟩;subst wx;rw [show(bits .and .u8 2 32 != 0)=false by decide];go_wp2_with fail
   refine(Zn 2 64 _).mono ?_;rintro e wx ⟨rfl,hwx⟩;subst wx;rw [show(bits .and .u8 2 64 != 0)=false by decide];go_wp2;refine bodyPost_end (results_none (fn:=Tryz.f212) rfl _ _ _) rfl ?_;refine⟨(O ST).ws,?_⟩;have hx:=O HF2;rw [O HR3] at hx;have hx2:Zi i=some ([Zj i.op]++bs3):=hx.trans rfl;rw [hx2];refine⟨rfl,v3,?_⟩;have hw:=(O ST).wt;rw [O HL3,O HL2] at hw;simpa using hw
theorem Zze (b:Nat)(hb1:2<b)(v:Value)(l:List UInt8)(i:Zq)(av ov:Value)(w:World)(h:Wt w b v l)(hl:l.length≤88000000000)(hg:Zs w)(h1:1≤i.op)(h18:i.op≤18)(hneed:Xa i.op=64)(pa:List (Array Value×(Int×Int)))(hpa:pa.map (·.2)=i.args)(hpv:∀ p ∈ pa,p.1=#[.int .i64 p.2.1,.int .i64 p.2.2])(hargs:Kd 2 w b av pa)(houts:Rv w b ov i.outs)(hal:i.args.length<9223372036854775808)(hol:i.outs.length<9223372036854775808) :
 Calls Tryz.prog 212 #[.pointer (some ⟨b,0,none⟩),.agg #[.int .i64 i.op,.int .i64 i.d,.int .i64 i.a,.int .i64 i.bb,.int .u64 i.n,.int .i64 i.f,av,ov]] w (Mh b l (Zi i) w):=by
 have hform:Zi i=Zz (some [Zj i.op]) (if i.spare then none else Xh 0 4 (Zf 0 255) i.outs):=by
  unfold Zi Yu;rw [hneed,show Zf 1 18 i.op=some [Zj i.op] from if_pos ⟨h1,h18⟩];simp only [show(bits .and .u8 64 1 != 0)=false by decide,show(bits .and .u8 64 2 != 0)=false by decide,show(bits .and .u8 64 4 != 0)=false by decide,show(bits .and .u8 64 8 != 0)=false by decide,show(bits .and .u8 64 16 != 0)=false by decide,show(bits .and .u8 64 32 != 0)=false by decide,show(bits .and .u8 64 64 != 0)=true by decide,Gc,if_true,Bool.false_eq_true,if_false,Xq]
 have HF:=Zc hform;obtain⟨ap,ac,hav⟩:=hargs.shape;obtain⟨op',oc,hov⟩:=houts.shape;have hpl:pa.length=i.args.length:=by rw [← hpa]; simp
 rw [hpl] at hav;subst hav hov;have hbl:=h.lt;have HA:=Zc hargs;have HO:=Zc houts;have HAL:=Zc (show pa.length<9223372036854775808 by omega);have HPA:=Zc hpa;have HOL:=Zc hol;have HPV:=Zc hpv;have HPS:=Zc (show ∀ p ∈ pa,p.1.size=2∧p.1.all (·.oneCell')=true from fun p hp=>by rw [hpv p hp]; exact⟨rfl,by simp [Value.oneCell']⟩);have HG:=Zc hg;have HNUM:=Zc (show Zf 1 18 i.op=some [Zj i.op] from if_pos ⟨h1,h18⟩);have HN:=Zc (fun X:Obj=>Xu b v l i.op 1 18 (w.alloc X) (h.alloc X) (by omega));have HWA:=Zc (fun X:Obj=>Yy w X b (by omega));clear hargs houts hg h hform hpa hpv hpl;go_enter Tryz.func212,Tryz.ntmps212
 go_wp2_with fail
 refine(O HN _).mono ?_;rintro e w1 ⟨hws,hm⟩;rw [O HNUM] at hm;obtain⟨rfl,v1,hw1⟩:=hm;have st:My w w1 b w.heap.size #[.int .i64 i.op,.int .i64 i.d,.int .i64 i.a,.int .i64 i.bb,.int .u64 i.n,.int .i64 i.f,.slice ap i.args.length ac,.slice op' i.outs.length oc] v1 (l++[Zj i.op]):=⟨(O HWA _).trans hws,hw1,Rj hbl (by decide) hws⟩;have ST:=Zc st;have hb1w:=hw1.lt;have HROW:=Zc st.row;have HS:=Zc (Lp i.op i.d i.a i.bb i.n i.f ap op' i.args.length i.outs.length ac oc w1 h1 h18 ((O HG).ws hb1 st.ws) (by omega));clear hws hw1 HN st;go_wp2_with (refine wpList_load_row rfl 89 (.tmp 3) rfl w.heap.size rfl 89 _ (0,0) _ (O HROW) Tryz.underlying89 rfl (Tryz.infInss.trans rfl) ?_)
 refine(O HS).mono ?_;rintro e w2 ⟨rfl,hbel⟩;have st:My w w2 b w.heap.size #[.int .i64 i.op,.int .i64 i.d,.int .i64 i.a,.int .i64 i.bb,.int .u64 i.n,.int .i64 i.f,.slice ap i.args.length ac,.slice op' i.outs.length oc] v1 (l++[Zj i.op]):=(O ST).step hbl (Mg hbel (by omega)) ((O ST).wt.below hbel);clear hbel HS ST HROW;cases hsp:Xc i.op i.d i.a i.bb i.n i.f i.args.length i.outs.length with
 | true =>
  have HR:=Zc (show Zi i=none by rw [O HF,show i.spare=true from hsp]; rfl);have ST:=Zc st;clear st;go_wp2_with fail
  refine(Lt _ _).mono ?_;rintro e w3 ⟨rfl,hw⟩;subst w3;exact⟨rfl,(O ST).ws,by rw [O HR]⟩
 | false =>
  have HF2:=Zc (show Zi i=Zz (some [Zj i.op]) (Xh 0 4 (Zf 0 255) i.outs) by rw [O HF,show i.spare=false from hsp]; rfl);clear HF;obtain⟨l2,hl2⟩:∃ x,x=l++[Zj i.op]:=⟨_,rfl⟩;have hn2:l2.length≤l.length+1:=by rw [hl2]; simp
  rw [← hl2] at st;have c0:=st.cells 0 _ rfl;have HND:=Zc (Gj i.op h1 h18 w2 ((O HG).ws hb1 st.ws));have ST:=Zc st;have HL2:=Zc hl2;clear st hl2 hsp;go_wp2_with fail
  refine(O HND).mono ?_;rintro e wx ⟨rfl,hwx⟩;subst wx;rw [hneed];clear HND;go_wp2_with fail
  refine(Zn 64 1 _).mono ?_;rintro e wx ⟨rfl,hwx⟩;subst wx;rw [show(bits .and .u8 64 1 != 0)=false by decide];go_wp2_with fail
  refine(Zn 64 2 _).mono ?_;rintro e wx ⟨rfl,hwx⟩;subst wx;rw [show(bits .and .u8 64 2 != 0)=false by decide];go_wp2_with fail
  refine(Zn 64 4 _).mono ?_;rintro e wx ⟨rfl,hwx⟩;subst wx;rw [show(bits .and .u8 64 4 != 0)=false by decide];go_wp2_with fail
  refine(Zn 64 8 _).mono ?_;rintro e wx ⟨rfl,hwx⟩;subst wx;rw [show(bits .and .u8 64 8 != 0)=false by decide];go_wp2_with fail
  refine(Zn 64 16 _).mono ?_;rintro e wx ⟨rfl,hwx⟩;subst wx;rw [show(bits .and .u8 64 16 != 0)=false by decide];go_wp2_with fail
  refine(Zn 64 32 _).mono ?_;rintro e wx ⟨rfl,hwx⟩;subst wx;rw [show(bits .and .u8 64 32 != 0)=false by decide];go_wp2_with fail
  refine(Zn 64 64 _).mono ?_;rintro e wx ⟨rfl,hwx⟩;subst wx;rw [show(bits .and .u8 64 64 != 0)=true by decide];have st:=O ST;have c7:=st.cells 7 (.slice op' i.outs.length oc) rfl;have HM:=Zc (Ui 210 (fun _ _=>rfl) (Zf 0 255) 1 (fun _ _ h=>Nat.le_of_eq (Zo h)) (by omega) b 89000000000 (by omega) (fun x v l w hw hl=>Jp b v l x w hw (by omega)) 0 4 (by omega) v1 l2 _ i.outs w2 st.wt (by omega) ((O HO).ws st.ws) (O HOL));clear st;go_wp2_with fail
  refine(O HM).mono ?_;rintro e w3 ⟨hws,hm⟩;cases hr:Xh 0 4 (Zf 0 255) i.outs with
  | none =>
   rw [hr] at hm;subst hm;refine⟨rfl,(O ST).ws.trans hws,?_⟩;have hx:=O HF2;rw [hr] at hx;have hx2:Zi i=none:=hx.trans rfl;rw [hx2]
  | some bs3 =>
   rw [hr] at hm;obtain⟨rfl,v3,hw⟩:=hm;have hbs:bs3.length≤5:=Je (Zf 0 255) 1 (fun _ _ h=>Nat.le_of_eq (Zo h)) 0 4 _ _ hr;have st:=(O ST).step hbl hws hw;have HR3:=Zc hr;obtain⟨l3,hlk⟩:∃ x,x=l2++bs3:=⟨_,rfl⟩;have hn3:l3.length≤l2.length+5:=by rw [hlk]; simp; omega
   rw [← hlk] at st;have HL3:=Zc hlk;clear hws hw hr hlk hbs ST HM c7;have ST:=Zc st;clear st;go_wp2;refine bodyPost_end (results_none (fn:=Tryz.f212) rfl _ _ _) rfl ?_;refine⟨(O ST).ws,?_⟩;have hx:=O HF2;rw [O HR3] at hx;have hx2:Zi i=some ([Zj i.op]++bs3):=hx.trans rfl;rw [hx2];refine⟨rfl,v3,?_⟩;have hw:=(O ST).wt;rw [O HL3,O HL2] at hw;simpa using hw
theorem Zzf (b:Nat)(hb1:2<b)(v:Value)(l:List UInt8)(i:Zq)(av ov:Value)(w:World)(h:Wt w b v l)(hl:l.length≤88000000000)(hg:Zs w)(h1:1≤i.op)(h18:i.op≤18)(hneed:Xa i.op=48)(pa:List (Array Value×(Int×Int)))(hpa:pa.map (·.2)=i.args)(hpv:∀ p ∈ pa,p.1=#[.int .i64 p.2.1,.int .i64 p.2.2])(hargs:Kd 2 w b av pa)(houts:Rv w b ov i.outs)(hal:i.args.length<9223372036854775808)(hol:i.outs.length<9223372036854775808) :
 Calls Tryz.prog 212 #[.pointer (some ⟨b,0,none⟩),.agg #[.int .i64 i.op,.int .i64 i.d,.int .i64 i.a,.int .i64 i.bb,.int .u64 i.n,.int .i64 i.f,av,ov]] w (Mh b l (Zi i) w):=by
 have hform:Zi i=Zz (some [Zj i.op]) (if i.spare then none else Zz (Zf 0 255 i.f) (Xh 0 8 Jl i.args)):=by
  unfold Zi Yu;rw [hneed,show Zf 1 18 i.op=some [Zj i.op] from if_pos ⟨h1,h18⟩];simp only [show(bits .and .u8 48 1 != 0)=false by decide,show(bits .and .u8 48 2 != 0)=false by decide,show(bits .and .u8 48 4 != 0)=false by decide,show(bits .and .u8 48 8 != 0)=false by decide,show(bits .and .u8 48 16 != 0)=true by decide,show(bits .and .u8 48 32 != 0)=true by decide,show(bits .and .u8 48 64 != 0)=false by decide,Gc,if_true,Bool.false_eq_true,if_false,Xq,Xg]
 have HF:=Zc hform;obtain⟨ap,ac,hav⟩:=hargs.shape;obtain⟨op',oc,hov⟩:=houts.shape;have hpl:pa.length=i.args.length:=by rw [← hpa]; simp
 rw [hpl] at hav;subst hav hov;have hbl:=h.lt;have HA:=Zc hargs;have HO:=Zc houts;have HAL:=Zc (show pa.length<9223372036854775808 by omega);have HPA:=Zc hpa;have HOL:=Zc hol;have HPV:=Zc hpv;have HPS:=Zc (show ∀ p ∈ pa,p.1.size=2∧p.1.all (·.oneCell')=true from fun p hp=>by rw [hpv p hp]; exact⟨rfl,by simp [Value.oneCell']⟩);have HG:=Zc hg;have HNUM:=Zc (show Zf 1 18 i.op=some [Zj i.op] from if_pos ⟨h1,h18⟩);have HN:=Zc (fun X:Obj=>Xu b v l i.op 1 18 (w.alloc X) (h.alloc X) (by omega));have HWA:=Zc (fun X:Obj=>Yy w X b (by omega));clear hargs houts hg h hform hpa hpv hpl;go_enter Tryz.func212,Tryz.ntmps212
 go_wp2_with fail
 refine(O HN _).mono ?_;rintro e w1 ⟨hws,hm⟩;rw [O HNUM] at hm;obtain⟨rfl,v1,hw1⟩:=hm;have st:My w w1 b w.heap.size #[.int .i64 i.op,.int .i64 i.d,.int .i64 i.a,.int .i64 i.bb,.int .u64 i.n,.int .i64 i.f,.slice ap i.args.length ac,.slice op' i.outs.length oc] v1 (l++[Zj i.op]):=⟨(O HWA _).trans hws,hw1,Rj hbl (by decide) hws⟩;have ST:=Zc st;have hb1w:=hw1.lt;have HROW:=Zc st.row;have HS:=Zc (Lp i.op i.d i.a i.bb i.n i.f ap op' i.args.length i.outs.length ac oc w1 h1 h18 ((O HG).ws hb1 st.ws) (by omega));clear hws hw1 HN st;go_wp2_with (refine wpList_load_row rfl 89 (.tmp 3) rfl w.heap.size rfl 89 _ (0,0) _ (O HROW) Tryz.underlying89 rfl (Tryz.infInss.trans rfl) ?_)
 refine(O HS).mono ?_;rintro e w2 ⟨rfl,hbel⟩;have st:My w w2 b w.heap.size #[.int .i64 i.op,.int .i64 i.d,.int .i64 i.a,.int .i64 i.bb,.int .u64 i.n,.int .i64 i.f,.slice ap i.args.length ac,.slice op' i.outs.length oc] v1 (l++[Zj i.op]):=(O ST).step hbl (Mg hbel (by omega)) ((O ST).wt.below hbel);clear hbel HS ST HROW;cases hsp:Xc i.op i.d i.a i.bb i.n i.f i.args.length i.outs.length with
 | true =>
  have HR:=Zc (show Zi i=none by rw [O HF,show i.spare=true from hsp]; rfl);have ST:=Zc st;clear st;go_wp2_with fail
  refine(Lt _ _).mono ?_;rintro e w3 ⟨rfl,hw⟩;subst w3;exact⟨rfl,(O ST).ws,by rw [O HR]⟩
 | false =>
  have HF2:=Zc (show Zi i=Zz (some [Zj i.op]) (Zz (Zf 0 255 i.f) (Xh 0 8 Jl i.args)) by rw [O HF,show i.spare=false from hsp]; rfl);clear HF;obtain⟨l2,hl2⟩:∃ x,x=l++[Zj i.op]:=⟨_,rfl⟩;have hn2:l2.length≤l.length+1:=by rw [hl2]; simp
  rw [← hl2] at st;have c0:=st.cells 0 _ rfl;have HND:=Zc (Gj i.op h1 h18 w2 ((O HG).ws hb1 st.ws));have ST:=Zc st;have HL2:=Zc hl2;clear st hl2 hsp;go_wp2_with fail
  refine(O HND).mono ?_;rintro e wx ⟨rfl,hwx⟩;subst wx;rw [hneed];clear HND;go_wp2_with fail
  refine(Zn 48 1 _).mono ?_;rintro e wx ⟨rfl,hwx⟩;subst wx;rw [show(bits .and .u8 48 1 != 0)=false by decide];go_wp2_with fail
  refine(Zn 48 2 _).mono ?_;rintro e wx ⟨rfl,hwx⟩;subst wx;rw [show(bits .and .u8 48 2 != 0)=false by decide];go_wp2_with fail
  refine(Zn 48 4 _).mono ?_;rintro e wx ⟨rfl,hwx⟩;subst wx;rw [show(bits .and .u8 48 4 != 0)=false by decide];go_wp2_with fail
  refine(Zn 48 8 _).mono ?_;rintro e wx ⟨rfl,hwx⟩;subst wx;rw [show(bits .and .u8 48 8 != 0)=false by decide];go_wp2_with fail
  refine(Zn 48 16 _).mono ?_;rintro e wx ⟨rfl,hwx⟩;subst wx;rw [show(bits .and .u8 48 16 != 0)=true by decide];have st:=O ST;have c5:=st.cells 5 (.int .i64 i.f) rfl;have HM:=Zc (Jp b v1 l2 i.f w2 st.wt (by omega));clear st;go_wp2_with fail
  refine(O HM).mono ?_;rintro e w3 ⟨hws,hm⟩;cases hr:Zf 0 255 i.f with
  | none =>
   rw [hr] at hm;subst hm;refine⟨rfl,(O ST).ws.trans hws,?_⟩;have hx:=O HF2;rw [hr] at hx;have hx2:Zi i=none:=hx.trans rfl;rw [hx2]
  | some bs3 =>
   rw [hr] at hm;obtain⟨rfl,v3,hw⟩:=hm;have hbs:bs3.length≤1:=Nat.le_of_eq (Zo hr);have st:=(O ST).step hbl hws hw;have HR3:=Zc hr;obtain⟨l3,hlk⟩:∃ x,x=l2++bs3:=⟨_,rfl⟩;have hn3:l3.length≤l2.length+1:=by rw [hlk]; simp; omega
   rw [← hlk] at st;have HL3:=Zc hlk;clear hws hw hr hlk hbs ST HM c5;have ST:=Zc st;clear st;go_wp2_with fail
   refine(Zn 48 32 _).mono ?_;rintro e wx ⟨rfl,hwx⟩;subst wx;rw [show(bits .and .u8 48 32 != 0)=true by decide];have st:=O ST;have c6:=st.cells 6 (.slice ap i.args.length ac) rfl;have HM:=Zc (Zbv 283 (fun _ _=>rfl) Jl 2 Dk (by omega) b 89000000000 (by omega) pa w3 (O HPS) (fun p hp v l w' _ hw hl=>by rw [O HPV p hp]; exact Ybm b v l p.2.1 p.2.2 w' hw (by omega)) 0 8 (by omega) v3 l3 _ st.wt (by omega) ((O HA).ws st.ws) (O HAL));rw [O HPA] at HM;clear st;go_wp2_with fail
   refine(O HM).mono ?_;rintro e w4 ⟨hws,hm⟩;cases hr:Xh 0 8 Jl i.args with
   | none =>
    rw [hr] at hm;subst hm;refine⟨rfl,(O ST).ws.trans hws,?_⟩;have hx:=O HF2;rw [O HR3,hr] at hx;have hx2:Zi i=none:=hx.trans rfl;rw [hx2]
   | some bs4 =>
    rw [hr] at hm;obtain⟨rfl,v4,hw⟩:=hm;have hbs:bs4.length≤17:=Je Jl 2 Dk 0 8 _ _ hr;have st:=(O ST).step hbl hws hw;have HR4:=Zc hr;obtain⟨l4,hlk⟩:∃ x,x=l3++bs4:=⟨_,rfl⟩;have hn4:l4.length≤l3.length+17:=by rw [hlk]; simp; omega
    rw [← hlk] at st;have HL4:=Zc hlk;clear hws hw hr hlk hbs ST HM c6;have ST:=Zc st;clear st;go_wp2_with fail
    refine(Zn 48 64 _).mono ?_;rintro e wx ⟨rfl,hwx⟩;subst wx;rw [show(bits .and .u8 48 64 != 0)=false by decide];go_wp2;refine bodyPost_end (results_none (fn:=Tryz.f212) rfl _ _ _) rfl ?_;refine⟨(O ST).ws,?_⟩;have hx:=O HF2;rw [O HR3,O HR4] at hx;have hx2:Zi i=some ([Zj i.op]++(bs3++bs4)):=hx.trans rfl;rw [hx2];refine⟨rfl,v4,?_⟩;have hw:=(O ST).wt;rw [O HL4,O HL3,O HL2] at hw;simpa using hw
theorem Ydg (b:Nat)(hb1:2<b)(v:Value)(l:List UInt8)(i:Zq)(av ov:Value)(w:World)(h:Wt w b v l)(hl:l.length≤88000000000)(hg:Zs w)(h1:1≤i.op)(h18:i.op≤18)(hneed:Xa i.op=8)(pa:List (Array Value×(Int×Int)))(hpa:pa.map (·.2)=i.args)(hpv:∀ p ∈ pa,p.1=#[.int .i64 p.2.1,.int .i64 p.2.2])(hargs:Kd 2 w b av pa)(houts:Rv w b ov i.outs)(hal:i.args.length<9223372036854775808)(hol:i.outs.length<9223372036854775808) :
 Calls Tryz.prog 212 #[.pointer (some ⟨b,0,none⟩),.agg #[.int .i64 i.op,.int .i64 i.d,.int .i64 i.a,.int .i64 i.bb,.int .u64 i.n,.int .i64 i.f,av,ov]] w (Mh b l (Zi i) w):=by
 have hform:Zi i=Zz (some [Zj i.op]) (if i.spare then none else Mf i.op i.n):=by
  unfold Zi Yu;rw [hneed,show Zf 1 18 i.op=some [Zj i.op] from if_pos ⟨h1,h18⟩];simp only [show(bits .and .u8 8 1 != 0)=false by decide,show(bits .and .u8 8 2 != 0)=false by decide,show(bits .and .u8 8 4 != 0)=false by decide,show(bits .and .u8 8 8 != 0)=true by decide,show(bits .and .u8 8 16 != 0)=false by decide,show(bits .and .u8 8 32 != 0)=false by decide,show(bits .and .u8 8 64 != 0)=false by decide,Gc,if_true,Bool.false_eq_true,if_false,Xq,Xg]
 have HF:=Zc hform;obtain⟨ap,ac,hav⟩:=hargs.shape;obtain⟨op',oc,hov⟩:=houts.shape;have hpl:pa.length=i.args.length:=by rw [← hpa]; simp
 rw [hpl] at hav;subst hav hov;have hbl:=h.lt;have HA:=Zc hargs;have HO:=Zc houts;have HAL:=Zc (show pa.length<9223372036854775808 by omega);have HPA:=Zc hpa;have HOL:=Zc hol;have HPV:=Zc hpv;have HPS:=Zc (show ∀ p ∈ pa,p.1.size=2∧p.1.all (·.oneCell')=true from fun p hp=>by rw [hpv p hp]; exact⟨rfl,by simp [Value.oneCell']⟩);have HG:=Zc hg;have HNUM:=Zc (show Zf 1 18 i.op=some [Zj i.op] from if_pos ⟨h1,h18⟩);have HN:=Zc (fun X:Obj=>Xu b v l i.op 1 18 (w.alloc X) (h.alloc X) (by omega));have HWA:=Zc (fun X:Obj=>Yy w X b (by omega));clear hargs houts hg h hform hpa hpv hpl;go_enter Tryz.func212,Tryz.ntmps212
 go_wp2_with fail
 refine(O HN _).mono ?_;rintro e w1 ⟨hws,hm⟩;rw [O HNUM] at hm;obtain⟨rfl,v1,hw1⟩:=hm;have st:My w w1 b w.heap.size #[.int .i64 i.op,.int .i64 i.d,.int .i64 i.a,.int .i64 i.bb,.int .u64 i.n,.int .i64 i.f,.slice ap i.args.length ac,.slice op' i.outs.length oc] v1 (l++[Zj i.op]):=⟨(O HWA _).trans hws,hw1,Rj hbl (by decide) hws⟩;have ST:=Zc st;have hb1w:=hw1.lt;have HROW:=Zc st.row;have HS:=Zc (Lp i.op i.d i.a i.bb i.n i.f ap op' i.args.length i.outs.length ac oc w1 h1 h18 ((O HG).ws hb1 st.ws) (by omega));clear hws hw1 HN st;go_wp2_with (refine wpList_load_row rfl 89 (.tmp 3) rfl w.heap.size rfl 89 _ (0,0) _ (O HROW) Tryz.underlying89 rfl (Tryz.infInss.trans rfl) ?_)
 refine(O HS).mono ?_;rintro e w2 ⟨rfl,hbel⟩;have st:My w w2 b w.heap.size #[.int .i64 i.op,.int .i64 i.d,.int .i64 i.a,.int .i64 i.bb,.int .u64 i.n,.int .i64 i.f,.slice ap i.args.length ac,.slice op' i.outs.length oc] v1 (l++[Zj i.op]):=(O ST).step hbl (Mg hbel (by omega)) ((O ST).wt.below hbel);clear hbel HS ST HROW;cases hsp:Xc i.op i.d i.a i.bb i.n i.f i.args.length i.outs.length with
 | true =>
  have HR:=Zc (show Zi i=none by rw [O HF,show i.spare=true from hsp]; rfl);have ST:=Zc st;clear st;go_wp2_with fail
  refine(Lt _ _).mono ?_;rintro e w3 ⟨rfl,hw⟩;subst w3;exact⟨rfl,(O ST).ws,by rw [O HR]⟩
 | false =>
  have HF2:=Zc (show Zi i=Zz (some [Zj i.op]) (Mf i.op i.n) by rw [O HF,show i.spare=false from hsp]; rfl);clear HF;obtain⟨l2,hl2⟩:∃ x,x=l++[Zj i.op]:=⟨_,rfl⟩;have hn2:l2.length≤l.length+1:=by rw [hl2]; simp
  rw [← hl2] at st;have c0:=st.cells 0 _ rfl;have HND:=Zc (Gj i.op h1 h18 w2 ((O HG).ws hb1 st.ws));have ST:=Zc st;have HL2:=Zc hl2;clear st hl2 hsp;go_wp2_with fail
  refine(O HND).mono ?_;rintro e wx ⟨rfl,hwx⟩;subst wx;rw [hneed];clear HND;go_wp2_with fail
  refine(Zn 8 1 _).mono ?_;rintro e wx ⟨rfl,hwx⟩;subst wx;rw [show(bits .and .u8 8 1 != 0)=false by decide];go_wp2_with fail
  refine(Zn 8 2 _).mono ?_;rintro e wx ⟨rfl,hwx⟩;subst wx;rw [show(bits .and .u8 8 2 != 0)=false by decide];go_wp2_with fail
  refine(Zn 8 4 _).mono ?_;rintro e wx ⟨rfl,hwx⟩;subst wx;rw [show(bits .and .u8 8 4 != 0)=false by decide];go_wp2_with fail
  refine(Zn 8 8 _).mono ?_;rintro e wx ⟨rfl,hwx⟩;subst wx;rw [show(bits .and .u8 8 8 != 0)=true by decide];have st:=O ST;have c0:=st.cells 0 (.int .i64 i.op) rfl;have c4:=st.cells 4 (.int .u64 i.n) rfl;have HM:=Zc (Zax b v1 l2 i.op i.n w2 st.wt (by omega));clear st;go_wp2_with fail
  refine(O HM).mono ?_;rintro e w3 ⟨hws,hm⟩;cases hr:Mf i.op i.n with
  | none =>
   rw [hr] at hm;subst hm;refine⟨rfl,(O ST).ws.trans hws,?_⟩;have hx:=O HF2;rw [hr] at hx;have hx2:Zi i=none:=hx.trans rfl;rw [hx2]
  | some bs3 =>
   rw [hr] at hm;obtain⟨rfl,v3,hw⟩:=hm;have hbs:bs3.length≤8:=Ce hr;have st:=(O ST).step hbl hws hw;have HR3:=Zc hr;obtain⟨l3,hlk⟩:∃ x,x=l2++bs3:=⟨_,rfl⟩;have hn3:l3.length≤l2.length+8:=by rw [hlk]; simp; omega
   rw [← hlk] at st;have HL3:=Zc hlk;clear hws hw hr hlk hbs ST HM c0 c4;have ST:=Zc st;clear st;go_wp2_with fail
   refine(Zn 8 16 _).mono ?_;rintro e wx ⟨rfl,hwx⟩;subst wx;rw [show(bits .and .u8 8 16 != 0)=false by decide];go_wp2_with fail
   refine(Zn 8 32 _).mono ?_;rintro e wx ⟨rfl,hwx⟩;subst wx;rw [show(bits .and .u8 8 32 != 0)=false by decide];go_wp2_with fail
   refine(Zn 8 64 _).mono ?_;rintro e wx ⟨rfl,hwx⟩;subst wx;rw [show(bits .and .u8 8 64 != 0)=false by decide];go_wp2;refine bodyPost_end (results_none (fn:=Tryz.f212) rfl _ _ _) rfl ?_;refine⟨(O ST).ws,?_⟩;have hx:=O HF2;rw [O HR3] at hx;have hx2:Zi i=some ([Zj i.op]++bs3):=hx.trans rfl;rw [hx2];refine⟨rfl,v3,?_⟩;have hw:=(O ST).wt;rw [O HL3,O HL2] at hw;simpa using hw
end Go.Proofs.YtedemloocadimaaGreatDoor
