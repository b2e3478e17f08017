import Derived.Test.YtkenknfgeoecbaaGreatDoorEncC
namespace Go.Proofs.YtkenknfgeoecbaaGreatDoor
open Go.RowKit
set_option maxHeartbeats 8000000
set_option maxRecDepth 100000
structure Yj where
 op:Int
 d:Int
 a:Int
 bb:Int
 n:Int
 f:Int
 args:List (Int×Int)
 outs:List Int
def Yj.spare (i:Yj):Bool:=Ds i.op i.d i.a i.bb i.n i.f i.args.length i.outs.length
def Kl (c:Bool)(x:Option (List UInt8)):Option (List UInt8):=if c then x else some []
def Lp (op m:Int):Bool:=bits .and .u8 (Nn op) m != 0
def Xy (i:Yj):Option (List UInt8):=Xs (Zk 1 18 i.op) (if i.spare then none else
 Xs (Kl (Lp i.op 1) (Zk 0 255 i.d)) (Xs (Kl (Lp i.op 2) (Zk 0 255 i.a)) (Xs (Kl (Lp i.op 4) (Zk 0 255 i.bb)) (Xs (Kl (Lp i.op 8) (Ztz i.op i.n)) (Xs (Kl (Lp i.op 16) (Zk 0 255 i.f)) (Xs (Kl (Lp i.op 32) (Jc 0 8 Zlc i.args)) (Kl (Lp i.op 64) (Jc 0 4 (Zk 0 255) i.outs))))))))
theorem Wt.below {w w':World}{b:Nat}{v:Value}{l:List UInt8}(h:Wt w b v l)(hb:Below w.heap.size w w'):Wt w' b v l :=
 have e:=hb.block b h.lt;⟨(World.cell?_of_block e).trans h.cell,(World.frozen?_of_block (a:=⟨b,0,none⟩) e).trans h.fz,World.ownsRow.kept h.row (⟨hb.os,hb.tape,hb.output,hb.size,fun q hq _=>hb.block q hq⟩:w.grownBy w' none) (by cases v.ownBlock <;> simp)⟩
theorem Se {w w':World}{b:Nat}(hb:Below w.heap.size w w')(h:b≤w.heap.size):Ws w w' b :=
 ⟨⟨hb.os,hb.tape,hb.output,hb.size,fun q hq=>hb.block q (by omega)⟩,fun k o hk _ _=>by
  have hlt:k<w.heap.size:=by
   rcases Nat.lt_or_ge k w.heap.size with y | y
   ·exact y
   ·simp [Array.getElem?_eq_none y] at hk
  exact(hb.block k hlt).trans hk⟩
structure Ck (w wk:World)(b T:Nat)(arr:Array Value)(v:Value)(l:List UInt8):Prop where
 ws:Ws w wk b
 wt:Wt wk b v l
 row:wk.heap[T]?=some (.cells arr 110 (0,0))
theorem Ck.step {w wk wn:World}{b T:Nat}{arr:Array Value}{v v':Value}{l l':List UInt8}(h:Ck w wk b T arr v l)(hb:b<T)(hws:Ws wk wn b)(hwt:Wt wn b v' l'):Ck w wn b T arr v' l' :=
 ⟨h.ws.trans hws,hwt,hws.oth T _ h.row (by intro e; injection e with e; omega) (by intro c fz e; injection e with e1 e2 e3; exact absurd e2 (by decide))⟩
theorem Ck.cells {w wk:World}{b T:Nat}{arr:Array Value}{v:Value}{l:List UInt8}(h:Ck w wk b T arr v l)(j:Nat)(x:Value)(hx:arr[j]?=some x):wk.cell? ⟨T,j,none⟩=some x:=(Zh h.row j).trans hx
theorem Zle (x:Int×Int)(bs:List UInt8)(h:Zlc x=some bs):bs.length≤2:=by have:=Mf (A:=1) (C:=1) (fun x hx=>Nat.le_of_eq (Zp hx)) (fun x hx=>Nat.le_of_eq (Zp hx)) h;omega
theorem Zqi {op n:Int}{bs:List UInt8}(h:Ztz op n=some bs):bs.length≤8:=by
 unfold Ztz at h;split at h
 ·cases h
 ·injection h with h;subst h;rw [Znx];unfold Gu;split <;> omega
theorem Zua (x:Option (List UInt8)):Xs x (some [])=x:=by cases x <;> simp [Xs]
theorem Zub (x:Option (List UInt8)):Xs (some []) x=x:=by cases x <;> simp [Xs]
theorem Ycu (b:Nat)(hb1:2<b)(v:Value)(l:List UInt8)(i:Yj)(av ov:Value)(w:World)(h:Wt w b v l)(hl:l.length≤88000000000)(hg:Zo w)(h1:1≤i.op)(h18:i.op≤18)(hneed:Nn i.op=7)(pa:List (Array Value×(Int×Int)))(hpa:pa.map (·.2)=i.args)(hpv:∀ p ∈ pa,p.1=#[.int .i64 p.2.1,.int .i64 p.2.2])(hargs:Iu 2 w b av pa)(houts:Sv w b ov i.outs)(hal:i.args.length<9223372036854775808)(hol:i.outs.length<9223372036854775808) :
 Calls Tryz.prog 231 #[.pointer (some ⟨b,0,none⟩),.agg #[.int .i64 i.op,.int .i64 i.d,.int .i64 i.a,.int .i64 i.bb,.int .u64 i.n,.int .i64 i.f,av,ov]] w (Nq b l (Xy i) w):=by
 have hform:Xy i=Xs (some [Xt i.op]) (if i.spare then none else Xs (Zk 0 255 i.d) (Xs (Zk 0 255 i.a) (Zk 0 255 i.bb))):=by unfold Xy Lp;rw [hneed,show Zk 1 18 i.op=some [Xt i.op] from if_pos ⟨h1,h18⟩];simp only [show(bits .and .u8 7 1 != 0)=true by decide,show(bits .and .u8 7 2 != 0)=true by decide,show(bits .and .u8 7 4 != 0)=true by decide,show(bits .and .u8 7 8 != 0)=false by decide,show(bits .and .u8 7 16 != 0)=false by decide,show(bits .and .u8 7 32 != 0)=false by decide,show(bits .and .u8 7 64 != 0)=false by decide,Kl,if_true,Bool.false_eq_true,if_false,Zua]
 have HF:=Zc hform;obtain⟨ap,ac,hav⟩:=hargs.shape;obtain⟨op',oc,hov⟩:=houts.shape;have hpl:pa.length=i.args.length:=by rw [← hpa]; simp
 rw [hpl] at hav;subst hav hov;have hbl:=h.lt;have HA:=Zc hargs;have HO:=Zc houts;have HAL:=Zc (show pa.length<9223372036854775808 by omega);have HPA:=Zc hpa;have HOL:=Zc hol;have HPV:=Zc hpv;have HPS:=Zc (show ∀ p ∈ pa,p.1.size=2∧p.1.all (·.oneCell')=true from fun p hp=>by rw [hpv p hp]; exact⟨rfl,by simp [Value.oneCell']⟩);have HG:=Zc hg;have HNUM:=Zc (show Zk 1 18 i.op=some [Xt i.op] from if_pos ⟨h1,h18⟩);have HN:=Zc (fun X:Obj=>Jl b v l i.op 1 18 (w.alloc X) (h.alloc X) (by omega));have HWA:=Zc (fun X:Obj=>Xp w X b (by omega));clear hargs houts hg h hform hpa hpv hpl;go_enter Tryz.func231,Tryz.ntmps231
 go_wp2_with fail
 refine(O HN _).mono ?_;rintro e w1 ⟨hws,hm⟩;rw [O HNUM] at hm;obtain⟨rfl,v1,hw1⟩:=hm;have st:Ck w w1 b w.heap.size #[.int .i64 i.op,.int .i64 i.d,.int .i64 i.a,.int .i64 i.bb,.int .u64 i.n,.int .i64 i.f,.slice ap i.args.length ac,.slice op' i.outs.length oc] v1 (l++[Xt i.op]):=⟨(O HWA _).trans hws,hw1,Zld hbl (by decide) hws⟩;have ST:=Zc st;have hb1w:=hw1.lt;have HROW:=Zc st.row;have HS:=Zc (Kx i.op i.d i.a i.bb i.n i.f ap op' i.args.length i.outs.length ac oc w1 h1 h18 ((O HG).ws hb1 st.ws) (by omega));clear hws hw1 HN st;go_wp2_with (refine wpList_load_row rfl 110 (.tmp 3) rfl w.heap.size rfl 110 _ (0,0) _ (O HROW) Tryz.underlying110 rfl (Tryz.infInss.trans rfl) ?_)
 refine(O HS).mono ?_;rintro e w2 ⟨rfl,hbel⟩;have st:Ck w w2 b w.heap.size #[.int .i64 i.op,.int .i64 i.d,.int .i64 i.a,.int .i64 i.bb,.int .u64 i.n,.int .i64 i.f,.slice ap i.args.length ac,.slice op' i.outs.length oc] v1 (l++[Xt i.op]):=(O ST).step hbl (Se hbel (by omega)) ((O ST).wt.below hbel);clear hbel HS ST HROW;cases hsp:Ds i.op i.d i.a i.bb i.n i.f i.args.length i.outs.length with
 | true =>
  have HR:=Zc (show Xy i=none by rw [O HF,show i.spare=true from hsp]; rfl);have ST:=Zc st;clear st;go_wp2_with fail
  refine(Sj _ _).mono ?_;rintro e w3 ⟨rfl,hw⟩;subst w3;exact⟨rfl,(O ST).ws,by rw [O HR]⟩
 | false =>
  have HF2:=Zc (show Xy i=Xs (some [Xt i.op]) (Xs (Zk 0 255 i.d) (Xs (Zk 0 255 i.a) (Zk 0 255 i.bb))) by rw [O HF,show i.spare=false from hsp]; rfl);clear HF;obtain⟨l2,hl2⟩:∃ x,x=l++[Xt i.op]:=⟨_,rfl⟩;have hn2:l2.length≤l.length+1:=by rw [hl2]; simp
  rw [← hl2] at st;have c0:=st.cells 0 _ rfl;have HND:=Zc (Uh i.op h1 h18 w2 ((O HG).ws hb1 st.ws));have ST:=Zc st;have HL2:=Zc hl2;clear st hl2 hsp;go_wp2_with fail
  refine(O HND).mono ?_;rintro e wx ⟨rfl,hwx⟩;subst wx;rw [hneed];clear HND;go_wp2_with fail
  refine(Yw 7 1 _).mono ?_;rintro e wx ⟨rfl,hwx⟩;subst wx;rw [show(bits .and .u8 7 1 != 0)=true by decide];have st:=O ST;have c1:=st.cells 1 (.int .i64 i.d) rfl;have HM:=Zc (Db b v1 l2 i.d w2 st.wt (by omega));clear st;go_wp2_with fail
  refine(O HM).mono ?_;rintro e w3 ⟨hws,hm⟩;cases hr:Zk 0 255 i.d with
  | none=>rw [hr] at hm;subst hm;refine⟨rfl,(O ST).ws.trans hws,?_⟩;have hx:=O HF2;rw [hr] at hx;have hx2:Xy i=none:=hx.trans rfl;rw [hx2]
  | some bs3 =>
   rw [hr] at hm;obtain⟨rfl,v3,hw⟩:=hm;have hbs:bs3.length≤1:=Nat.le_of_eq (Zp hr);have st:=(O ST).step hbl hws hw;have HR3:=Zc hr;obtain⟨l3,hlk⟩:∃ x,x=l2++bs3:=⟨_,rfl⟩;have hn3:l3.length≤l2.length+1:=by rw [hlk]; simp; omega
   rw [← hlk] at st;have HL3:=Zc hlk;clear hws hw hr hlk hbs ST HM c1;have ST:=Zc st;clear st;go_wp2_with fail
   refine(Yw 7 2 _).mono ?_;rintro e wx ⟨rfl,hwx⟩;subst wx;rw [show(bits .and .u8 7 2 != 0)=true by decide];have st:=O ST;have c2:=st.cells 2 (.int .i64 i.a) rfl;have HM:=Zc (Db b v3 l3 i.a w3 st.wt (by omega));clear st;go_wp2_with fail
   refine(O HM).mono ?_;rintro e w4 ⟨hws,hm⟩;cases hr:Zk 0 255 i.a with
   | none=>rw [hr] at hm;subst hm;refine⟨rfl,(O ST).ws.trans hws,?_⟩;have hx:=O HF2;rw [O HR3,hr] at hx;have hx2:Xy i=none:=hx.trans rfl;rw [hx2]
   | some bs4 =>
    rw [hr] at hm;obtain⟨rfl,v4,hw⟩:=hm;have hbs:bs4.length≤1:=Nat.le_of_eq (Zp hr);have st:=(O ST).step hbl hws hw;have HR4:=Zc hr;obtain⟨l4,hlk⟩:∃ x,x=l3++bs4:=⟨_,rfl⟩;have hn4:l4.length≤l3.length+1:=by rw [hlk]; simp; omega
    rw [← hlk] at st;have HL4:=Zc hlk;clear hws hw hr hlk hbs ST HM c2;have ST:=Zc st;clear st;go_wp2_with fail
    refine(Yw 7 4 _).mono ?_;rintro e wx ⟨rfl,hwx⟩;subst wx;rw [show(bits .and .u8 7 4 != 0)=true by decide];have st:=O ST;have c3:=st.cells 3 (.int .i64 i.bb) rfl;have HM:=Zc (Db b v4 l4 i.bb w4 st.wt (by omega));clear st;go_wp2_with fail
    refine(O HM).mono ?_;rintro e w5 ⟨hws,hm⟩;cases hr:Zk 0 255 i.bb with
    | none=>rw [hr] at hm;subst hm;refine⟨rfl,(O ST).ws.trans hws,?_⟩;have hx:=O HF2;rw [O HR3,O HR4,hr] at hx;have hx2:Xy i=none:=hx.trans rfl;rw [hx2]
    | some bs5 =>
     rw [hr] at hm;obtain⟨rfl,v5,hw⟩:=hm;have hbs:bs5.length≤1:=Nat.le_of_eq (Zp hr);have st:=(O ST).step hbl hws hw;have HR5:=Zc hr;obtain⟨l5,hlk⟩:∃ x,x=l4++bs5:=⟨_,rfl⟩;have hn5:l5.length≤l4.length+1:=by rw [hlk]; simp; omega
     rw [← hlk] at st;have HL5:=Zc hlk;clear hws hw hr hlk hbs ST HM c3;have ST:=Zc st;clear st;go_wp2_with fail
     refine(Yw 7 8 _).mono ?_;rintro e wx ⟨rfl,hwx⟩;subst wx;rw [show(bits .and .u8 7 8 != 0)=false by decide];go_wp2_with fail
     refine(Yw 7 16 _).mono ?_;rintro e wx ⟨rfl,hwx⟩;subst wx;rw [show(bits .and .u8 7 16 != 0)=false by decide];go_wp2_with fail
     refine(Yw 7 32 _).mono ?_;rintro e wx ⟨rfl,hwx⟩;subst wx;rw [show(bits .and .u8 7 32 != 0)=false by decide];go_wp2_with fail
     refine(Yw 7 64 _).mono ?_;rintro e wx ⟨rfl,hwx⟩;subst wx;rw [show(bits .and .u8 7 64 != 0)=false by decide];go_wp2;refine bodyPost_end (results_none (fn:=Tryz.f231) rfl _ _ _) rfl ?_;refine⟨(O ST).ws,?_⟩;have hx:=O HF2;rw [O HR3,O HR4,O HR5] at hx;have hx2:Xy i=some ([Xt i.op]++(bs3++(bs4++bs5))):=hx.trans rfl;rw [hx2];refine⟨rfl,v5,?_⟩;have hw:=(O ST).wt;rw [O HL5,O HL4,O HL3,O HL2] at hw;simpa using hw
theorem Zyo (b:Nat)(hb1:2<b)(v:Value)(l:List UInt8)(i:Yj)(av ov:Value)(w:World)(h:Wt w b v l)(hl:l.length≤88000000000)(hg:Zo w)(h1:1≤i.op)(h18:i.op≤18)(hneed:Nn i.op=64)(pa:List (Array Value×(Int×Int)))(hpa:pa.map (·.2)=i.args)(hpv:∀ p ∈ pa,p.1=#[.int .i64 p.2.1,.int .i64 p.2.2])(hargs:Iu 2 w b av pa)(houts:Sv w b ov i.outs)(hal:i.args.length<9223372036854775808)(hol:i.outs.length<9223372036854775808) :
 Calls Tryz.prog 231 #[.pointer (some ⟨b,0,none⟩),.agg #[.int .i64 i.op,.int .i64 i.d,.int .i64 i.a,.int .i64 i.bb,.int .u64 i.n,.int .i64 i.f,av,ov]] w (Nq b l (Xy i) w):=by
 have hform:Xy i=Xs (some [Xt i.op]) (if i.spare then none else Jc 0 4 (Zk 0 255) i.outs):=by unfold Xy Lp;rw [hneed,show Zk 1 18 i.op=some [Xt i.op] from if_pos ⟨h1,h18⟩];simp only [show(bits .and .u8 64 1 != 0)=false by decide,show(bits .and .u8 64 2 != 0)=false by decide,show(bits .and .u8 64 4 != 0)=false by decide,show(bits .and .u8 64 8 != 0)=false by decide,show(bits .and .u8 64 16 != 0)=false by decide,show(bits .and .u8 64 32 != 0)=false by decide,show(bits .and .u8 64 64 != 0)=true by decide,Kl,if_true,Bool.false_eq_true,if_false,Zub]
 have HF:=Zc hform;obtain⟨ap,ac,hav⟩:=hargs.shape;obtain⟨op',oc,hov⟩:=houts.shape;have hpl:pa.length=i.args.length:=by rw [← hpa]; simp
 rw [hpl] at hav;subst hav hov;have hbl:=h.lt;have HA:=Zc hargs;have HO:=Zc houts;have HAL:=Zc (show pa.length<9223372036854775808 by omega);have HPA:=Zc hpa;have HOL:=Zc hol;have HPV:=Zc hpv;have HPS:=Zc (show ∀ p ∈ pa,p.1.size=2∧p.1.all (·.oneCell')=true from fun p hp=>by rw [hpv p hp]; exact⟨rfl,by simp [Value.oneCell']⟩);have HG:=Zc hg;have HNUM:=Zc (show Zk 1 18 i.op=some [Xt i.op] from if_pos ⟨h1,h18⟩);have HN:=Zc (fun X:Obj=>Jl b v l i.op 1 18 (w.alloc X) (h.alloc X) (by omega));have HWA:=Zc (fun X:Obj=>Xp w X b (by omega));clear hargs houts hg h hform hpa hpv hpl;go_enter Tryz.func231,Tryz.ntmps231
 go_wp2_with fail
 refine(O HN _).mono ?_;rintro e w1 ⟨hws,hm⟩;rw [O HNUM] at hm;obtain⟨rfl,v1,hw1⟩:=hm;have st:Ck w w1 b w.heap.size #[.int .i64 i.op,.int .i64 i.d,.int .i64 i.a,.int .i64 i.bb,.int .u64 i.n,.int .i64 i.f,.slice ap i.args.length ac,.slice op' i.outs.length oc] v1 (l++[Xt i.op]):=⟨(O HWA _).trans hws,hw1,Zld hbl (by decide) hws⟩;have ST:=Zc st;have hb1w:=hw1.lt;have HROW:=Zc st.row;have HS:=Zc (Kx i.op i.d i.a i.bb i.n i.f ap op' i.args.length i.outs.length ac oc w1 h1 h18 ((O HG).ws hb1 st.ws) (by omega));clear hws hw1 HN st;go_wp2_with (refine wpList_load_row rfl 110 (.tmp 3) rfl w.heap.size rfl 110 _ (0,0) _ (O HROW) Tryz.underlying110 rfl (Tryz.infInss.trans rfl) ?_)
 refine(O HS).mono ?_;rintro e w2 ⟨rfl,hbel⟩;have st:Ck w w2 b w.heap.size #[.int .i64 i.op,.int .i64 i.d,.int .i64 i.a,.int .i64 i.bb,.int .u64 i.n,.int .i64 i.f,.slice ap i.args.length ac,.slice op' i.outs.length oc] v1 (l++[Xt i.op]):=(O ST).step hbl (Se hbel (by omega)) ((O ST).wt.below hbel);clear hbel HS ST HROW;cases hsp:Ds i.op i.d i.a i.bb i.n i.f i.args.length i.outs.length with
 | true =>
  have HR:=Zc (show Xy i=none by rw [O HF,show i.spare=true from hsp]; rfl);have ST:=Zc st;clear st;go_wp2_with fail
  refine(Sj _ _).mono ?_;rintro e w3 ⟨rfl,hw⟩;subst w3;exact⟨rfl,(O ST).ws,by rw [O HR]⟩
 | false =>
  have HF2:=Zc (show Xy i=Xs (some [Xt i.op]) (Jc 0 4 (Zk 0 255) i.outs) by rw [O HF,show i.spare=false from hsp]; rfl);clear HF;obtain⟨l2,hl2⟩:∃ x,x=l++[Xt i.op]:=⟨_,rfl⟩;have hn2:l2.length≤l.length+1:=by rw [hl2]; simp
  rw [← hl2] at st;have c0:=st.cells 0 _ rfl;have HND:=Zc (Uh i.op h1 h18 w2 ((O HG).ws hb1 st.ws));have ST:=Zc st;have HL2:=Zc hl2;clear st hl2 hsp;go_wp2_with fail
  refine(O HND).mono ?_;rintro e wx ⟨rfl,hwx⟩;subst wx;rw [hneed];clear HND;go_wp2_with fail
  refine(Yw 64 1 _).mono ?_;rintro e wx ⟨rfl,hwx⟩;subst wx;rw [show(bits .and .u8 64 1 != 0)=false by decide];go_wp2_with fail
  refine(Yw 64 2 _).mono ?_;rintro e wx ⟨rfl,hwx⟩;subst wx;rw [show(bits .and .u8 64 2 != 0)=false by decide];go_wp2_with fail
  refine(Yw 64 4 _).mono ?_;rintro e wx ⟨rfl,hwx⟩;subst wx;rw [show(bits .and .u8 64 4 != 0)=false by decide];go_wp2_with fail
  refine(Yw 64 8 _).mono ?_;rintro e wx ⟨rfl,hwx⟩;subst wx;rw [show(bits .and .u8 64 8 != 0)=false by decide];go_wp2_with fail
  refine(Yw 64 16 _).mono ?_;rintro e wx ⟨rfl,hwx⟩;subst wx;rw [show(bits .and .u8 64 16 != 0)=false by decide];go_wp2_with fail
  refine(Yw 64 32 _).mono ?_;rintro e wx ⟨rfl,hwx⟩;subst wx;rw [show(bits .and .u8 64 32 != 0)=false by decide];go_wp2_with fail
  refine(Yw 64 64 _).mono ?_;rintro e wx ⟨rfl,hwx⟩;subst wx;rw [show(bits .and .u8 64 64 != 0)=true by decide];have st:=O ST;have c7:=st.cells 7 (.slice op' i.outs.length oc) rfl;have HM:=Zc (Uj 229 (fun _ _=>rfl) (Zk 0 255) 1 (fun _ _ h=>Nat.le_of_eq (Zp h)) (by omega) b 89000000000 (by omega) (fun x v l w hw hl=>Db b v l x w hw (by omega)) 0 4 (by omega) v1 l2 _ i.outs w2 st.wt (by omega) ((O HO).ws st.ws) (O HOL));clear st;go_wp2_with fail
  refine(O HM).mono ?_;rintro e w3 ⟨hws,hm⟩;cases hr:Jc 0 4 (Zk 0 255) i.outs with
  | none=>rw [hr] at hm;subst hm;refine⟨rfl,(O ST).ws.trans hws,?_⟩;have hx:=O HF2;rw [hr] at hx;have hx2:Xy i=none:=hx.trans rfl;rw [hx2]
  | some bs3 =>
   rw [hr] at hm;obtain⟨rfl,v3,hw⟩:=hm;have hbs:bs3.length≤5:=Xb (Zk 0 255) 1 (fun _ _ h=>Nat.le_of_eq (Zp h)) 0 4 _ _ hr;have st:=(O ST).step hbl hws hw;have HR3:=Zc hr;obtain⟨l3,hlk⟩:∃ x,x=l2++bs3:=⟨_,rfl⟩;have hn3:l3.length≤l2.length+5:=by rw [hlk]; simp; omega
   rw [← hlk] at st;have HL3:=Zc hlk;clear hws hw hr hlk hbs ST HM c7;have ST:=Zc st;clear st;go_wp2;refine bodyPost_end (results_none (fn:=Tryz.f231) rfl _ _ _) rfl ?_;refine⟨(O ST).ws,?_⟩;have hx:=O HF2;rw [O HR3] at hx;have hx2:Xy i=some ([Xt i.op]++bs3):=hx.trans rfl;rw [hx2];refine⟨rfl,v3,?_⟩;have hw:=(O ST).wt;rw [O HL3,O HL2] at hw;simpa using hw
end Go.Proofs.YtkenknfgeoecbaaGreatDoor
