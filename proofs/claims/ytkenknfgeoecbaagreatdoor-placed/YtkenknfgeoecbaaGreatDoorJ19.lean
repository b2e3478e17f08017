import Derived.Test.YtkenknfgeoecbaaGreatDoorEncD
namespace Go.Proofs.YtkenknfgeoecbaaGreatDoor
open Go.RowKit
set_option maxHeartbeats 4000000
set_option maxRecDepth 100000
theorem Zeh (b:Nat)(hb1:2<b)(v:Value)(l:List UInt8)(i:Yj)(av ov:Value)(w:World)(h:Wt w b v l)(hl:l.length≤88000000000)(hg:Zo w)(pa:List (Array Value×(Int×Int)))(hpa:pa.map (·.2)=i.args)(hpv:∀ p ∈ pa,p.1=#[.int .i64 p.2.1,.int .i64 p.2.2])(hargs:Iu 2 w b av pa)(houts:Sv w b ov i.outs)(hal:i.args.length<9223372036854775808)(hol:i.outs.length<9223372036854775808)(hon:i.op=3∨i.op=16) :
 Calls Tryz.prog 231 #[.pointer (some ⟨b,0,none⟩),.agg #[.int .i64 i.op,.int .i64 i.d,.int .i64 i.a,.int .i64 i.bb,.int .u64 i.n,.int .i64 i.f,av,ov]] w (Nq b l (Xy i) w):=by
 rcases hon with hs | hs
 ·exact Ycu b hb1 v l i av ov w h hl hg (by omega) (by omega) (by rw [hs]; rfl) pa hpa hpv hargs houts hal hol
 ·exact Zyo b hb1 v l i av ov w h hl hg (by omega) (by omega) (by rw [hs]; rfl) pa hpa hpv hargs houts hal hol
theorem Zck (i:Yj)(bs:List UInt8)(h:Xy i=some bs):bs.length≤40:=by
 have c1:∀ c x (bs:List UInt8),Kl c (Zk 0 255 x)=some bs→bs.length≤1:=by
  intro c x bs h;cases c with
  | true=>exact Nat.le_of_eq (Zp h)
  | false=>cases h; simp
 unfold Xy at h;obtain⟨x0,y0,e0,f0,rfl⟩:=Gi h;have g0:=Zp e0;split at f0
 ·cases f0
 ·obtain⟨x1,y1,e1,f1,rfl⟩:=Gi f0;obtain⟨x2,y2,e2,f2,rfl⟩:=Gi f1;obtain⟨x3,y3,e3,f3,rfl⟩:=Gi f2;obtain⟨x4,y4,e4,f4,rfl⟩:=Gi f3;obtain⟨x5,y5,e5,f5,rfl⟩:=Gi f4;obtain⟨x6,y6,e6,f6,rfl⟩:=Gi f5;have g1:=c1 _ _ _ e1;have g2:=c1 _ _ _ e2;have g3:=c1 _ _ _ e3;have g4:x4.length≤8:=by
   revert e4
   cases Lp i.op 8 with
   | true=>intro e; exact Zqi e
   | false=>intro e; cases e; simp
  have g5:=c1 _ _ _ e5;have g6:x6.length≤17:=by
   revert e6
   cases Lp i.op 32 with
   | true=>intro e; exact Xb Zlc 2 Zle 0 8 _ _ e
   | false=>intro e; cases e; simp
  have g7:y6.length≤5:=by
   revert f6
   cases Lp i.op 64 with
   | true=>intro e; exact Xb (Zk 0 255) 1 (fun _ _ h=>Nat.le_of_eq (Zp h)) 0 4 _ _ e
   | false=>intro e; cases e; simp
  simp only [List.length_append];omega
def VsB {α:Type}(w:World)(b:Nat)(v:Value)(ps:List (Value×α)):Prop:=(ps=[]∧∃ p cap,v=.slice p 0 cap)∨∃ sb so cap,v=.slice (some ⟨sb,so,none⟩) ps.length cap∧sb<b∧∀ i (hi:i<ps.length),w.cell? ⟨sb,so+i,none⟩=some ps[i].1
theorem VsB.ws {α:Type}{w w':World}{b:Nat}{v:Value}{ps:List (Value×α)}(h:VsB w b v ps)(hw:Ws w w' b):VsB w' b v ps:=by
 rcases h with h | ⟨sb,so,cap,h1,h2,h3⟩
 ·exact Or.inl h
 ·exact Or.inr ⟨sb,so,cap,h1,h2,fun i hi=>(hw.low.cell (p:=⟨sb,so+i,none⟩) h2).trans (h3 i hi)⟩
theorem VsB.shape {α:Type}{w:World}{b:Nat}{v:Value}{ps:List (Value×α)}(h:VsB w b v ps):∃ p cap,v=.slice p ps.length cap:=by
 rcases h with⟨rfl,p,cap,e⟩ | ⟨sb,so,cap,e,_⟩
 ·exact⟨p,cap,e⟩
 ·exact⟨_,_,e⟩
theorem Zei {α:Type}(F:Nat)(hcf:∀ args w,(callFunc F args).run Tryz.prog w=.ok (.enter F args) w)(one:α→Option (List UInt8))(K:Nat)(hK:∀ x bs,one x=some bs→bs.length≤K)(hK2:K≤1000000)(b:Nat)(M:Nat)(hM:M≤90000000000)(ps:List (Value×α))(w:World)
 (hsh:∀ p ∈ ps,∃ q n cap,p.1=.slice q n cap)
 (hone:∀ p ∈ ps,∀ v l w',Ws w w' b→Wt w' b v l→l.length≤M+1000000001→Calls Tryz.prog F #[.pointer (some ⟨b,0,none⟩),p.1] w' (Nq b l (one p.2) w'))
 (lo hi:Int) (hhi:hi≤1000) (v:Value) (l:List UInt8) (lv:Value) (h:Wt w b v l) (hl:l.length≤M) (hns:VsB w b lv ps) (hlen:ps.length<9223372036854775808) :
 Calls Tryz.prog 171 #[.pointer (some ⟨b,0,none⟩),lv,.int .i64 lo,.int .i64 hi,.func (.func F) #[.pointer (some ⟨b,0,none⟩)] #[]] w (Nq b l (Jc lo hi one (ps.map (·.2))) w):=by
 obtain⟨pp,cap,hlv⟩:=hns.shape;have HN:=Zc hns;subst hlv;have HNC:=Zc (Jl b v l ps.length lo hi w h (by omega));have HONE:=Zc hone;have HSH:=Zc hsh;have HK:=Zc hK;clear hone hK h hns hsh;go_enter Tryz.func171,Tryz.ntmps171
 go_wp2_with fail
 refine(O HNC).mono ?_;rintro e w1 ⟨hws,hm⟩;cases hr:Zk lo hi ps.length with
 | none=>rw [hr] at hm;subst hm;refine⟨rfl,hws,?_⟩;unfold Jc;rw [List.length_map,hr];rfl
 | some bs =>
  rw [hr] at hm;obtain⟨rfl,v1,hw1⟩:=hm;have hb1:=Zp hr;have hle:lo≤ps.length∧(ps.length:Int)≤hi:=by
   unfold Zk at hr;split at hr
   ·assumption
   ·cases hr
  have HWS:=Zc hws;have HW1:=Zc hw1;have HR:=Zc hr;clear hws hw1 hr HNC;go_wp2_with fail
  go_loopw [20] (fun j w'=>∃(k:Nat) (v':Value) (cs:List UInt8),j=.int .i64 k∧k≤ps.length∧Ws w w' b∧Xj one ((ps.take k).map (·.2))=some cs∧Wt w' b v' (l++bs++cs)) (fun j _=>ps.length-(intOf j).toNat)
  case atStart=>exact⟨0,v1,[],rfl,by omega,O HWS,by simp [Xj],by simpa using O HW1⟩
  case round =>
   obtain⟨k,v',cs,rfl,hk,hws',hcs,hwt⟩:=hrel;have hcl:=Gx one K (O HK) _ _ hcs;have HWS':=Zc hws';have HCS:=Zc hcs;have HWT:=Zc hwt;clear hws' hcs hwt;by_cases hlt:k<ps.length
   ·obtain⟨sb,so,cap',hv,hsb,hc⟩:=((O HN).ws (O HWS')).resolve_left (fun c=>by rw [c.1] at hlt; simp at hlt);injection hv with e1 e2 e3;subst e1;have cc:=hc k hlt;have hkl:K*(ps.take k).length≤1000000*1000:=Nat.mul_le_mul hK2 (by simp; omega);simp only [List.length_map] at hcl;have hmem:ps[k] ∈ ps:=List.getElem_mem hlt;obtain⟨q,qn,qc,hq⟩:=O HSH ps[k] hmem;have HCALL:=Zc (O HONE ps[k] hmem v' (l++bs++cs) wr (O HWS') (O HWT) (by simp [hb1]; omega));have hsn:=Gv one ((ps.take k).map (·.2)) ps[k].2;rw [show(ps.take k).map (·.2)++[ps[k].2]=(ps.take (k+1)).map (·.2) by rw [Sh hlt,List.map_append]; rfl,O HCS] at hsn;have HSN:=Zc hsn;have HAN:=Zc (fun hn=>Gw one ((ps.take (k+1)).map (·.2)) ((ps.drop (k+1)).map (·.2)) hn);clear hc hsn e2 e3 hmem;generalize ps[k]=y at cc HCALL HSN hq;obtain⟨yv,y⟩:=y;simp only at cc HCALL HSN hq;subst hq;go_wp2_with fail
    refine(O HCALL).mono ?_;rintro e w2 ⟨hws2,hm⟩;have HWS2:=Zc ((O HWS').trans hws2);clear hws2;cases hy:one y with
    | none=>rw [hy] at hm;subst hm;refine⟨rfl,O HWS2,?_⟩;have h1:=O HSN;rw [hy] at h1;have h2:=O HAN h1;rw [← List.map_append,List.take_append_drop] at h2;unfold Jc;rw [List.length_map,O HR,h2];rfl
    | some ys =>
     rw [hy] at hm;obtain⟨rfl,v2,hw2⟩:=hm;have h1:=O HSN;rw [hy] at h1;have HS2:=Zc h1;have HW2:=Zc hw2;clear hw2 h1 hy;go_wp2;go_roundw
     case rel=>exact⟨k+1,v2,cs++ys,by go_num,by omega,O HWS2,O HS2,by rw [← List.append_assoc]; exact O HW2⟩
     case measure=>simp [intOf]; omega
   ·obtain rfl:k=ps.length:=by omega
    have h1:=O HCS;rw [List.take_length] at h1;have HC1:=Zc h1;clear h1;go_wp2;refine bodyPost_end (results_none (fn:=Tryz.f171) rfl _ _ _) rfl ?_;refine⟨O HWS',?_⟩;unfold Jc;rw [List.length_map,O HR,O HC1];simp only [Xs];exact⟨trivial,v',by rw [← List.append_assoc]; exact O HWT⟩
set_option maxHeartbeats 8000000
set_option maxRecDepth 100000
structure Zcl (t:TypeId)(w wk:World)(b T:Nat)(arr:Array Value)(v:Value)(l:List UInt8):Prop where
 ws:Ws w wk b
 wt:Wt wk b v l
 row:wk.heap[T]?=some (.cells arr t (0,0))
theorem Zcl.step {t:TypeId}{w wk wn:World}{b T:Nat}{arr:Array Value}{v v':Value}{l l':List UInt8}(h:Zcl t w wk b T arr v l)(ht:t≠5)(hb:b<T)(hws:Ws wk wn b)(hwt:Wt wn b v' l'):Zcl t w wn b T arr v' l' :=
 ⟨h.ws.trans hws,hwt,hws.oth T _ h.row (by intro e; injection e with e; omega) (by intro c fz e; injection e with e1 e2 e3; exact absurd e2 ht)⟩
theorem Zcl.cells {t:TypeId}{w wk:World}{b T:Nat}{arr:Array Value}{v:Value}{l:List UInt8}(h:Zcl t w wk b T arr v l)(j:Nat)(x:Value)(hx:arr[j]?=some x):wk.cell? ⟨T,j,none⟩=some x:=(Zh h.row j).trans hx
abbrev Jy:Nat:=9223372036854775808
def Dc (w:World)(b:Nat)(p:Array Value×Yj):Prop:=∃(av ov:Value) (pa:List (Array Value×(Int×Int))),p.1=#[.int .i64 p.2.op,.int .i64 p.2.d,.int .i64 p.2.a,.int .i64 p.2.bb,.int .u64 p.2.n,.int .i64 p.2.f,av,ov]∧pa.map (·.2)=p.2.args∧(∀ q ∈ pa,q.1=#[.int .i64 q.2.1,.int .i64 q.2.2])∧Iu 2 w b av pa∧Sv w b ov p.2.outs∧p.2.args.length<Jy∧p.2.outs.length<Jy∧(p.2.op=3∨p.2.op=16)
theorem Dc.ws {w w':World}{b:Nat}{p:Array Value×Yj}(h:Dc w b p)(hw:Ws w w' b):Dc w' b p:=by obtain⟨av,ov,pa,h1,h2,h3,h4,h5,h6⟩:=h;exact⟨av,ov,pa,h1,h2,h3,h4.ws hw,h5.ws hw,h6⟩
theorem Dc.size {w:World}{b:Nat}{p:Array Value×Yj}(h:Dc w b p):p.1.size=8∧p.1.all (·.oneCell')=true:=by obtain⟨av,ov,pa,h1,h2,h3,h4,h5,h6⟩:=h;obtain⟨q,c,e⟩:=h4.shape;obtain⟨q',c',e'⟩:=h5.shape;rw [h1,e,e'];exact⟨rfl,by simp [Value.oneCell']⟩
def Ui (w:World)(b:Nat)(p:Value×List Yj):Prop:=∃ ps:List (Array Value×Yj),ps.map (·.2)=p.2∧Iu 8 w b p.1 ps∧(∀ q ∈ ps,Dc w b q)∧ps.length<Jy
theorem Ui.ws {w w':World}{b:Nat}{p:Value×List Yj}(h:Ui w b p)(hw:Ws w w' b):Ui w' b p:=by obtain⟨ps,h1,h2,h3,h4⟩:=h;exact⟨ps,h1,h2.ws hw,fun q hq=>(h3 q hq).ws hw,h4⟩
theorem Ui.shape {w:World}{b:Nat}{p:Value×List Yj}(h:Ui w b p):∃ q n cap,p.1=.slice q n cap:=by obtain⟨ps,h1,h2,h3,h4⟩:=h;obtain⟨q,c,e⟩:=h2.shape;exact⟨q,_,c,e⟩
def Me (l:List Yj):Option (List UInt8):=Jc 1 24 Xy l
theorem Dt (l:List Yj)(bs:List UInt8)(h:Me l=some bs):bs.length≤1000:=by have:=Xb Xy 40 Zck 1 24 _ _ h;omega
theorem Zyp (b:Nat)(hb1:2<b)(v:Value)(l:List UInt8)(lv:Value)(is:List Yj)(w:World)(h:Wt w b v l)(hl:l.length≤86000000000)(hg:Zo w)(hbk:Ui w b (lv,is)) :
 Calls Tryz.prog 172 #[.pointer (some ⟨b,0,none⟩),lv] w (Nq b l (Me is) w):=by
 obtain⟨ps,hps,hls,hins,hlen⟩:=hbk;simp only at hps hls;have HN:=Zc (Zil 231 (fun _ _=>rfl) Xy 40 Zck (by omega) b 86000000000 (by omega) ps w (fun p hp=>(hins p hp).size) (fun p hp v l w' hws hw hl=>by
  obtain⟨av,ov,pa,h1,h2,h3,h4,h5,h6,h7,h8⟩:=(hins p hp).ws hws;rw [h1];exact Zeh b hb1 v l p.2 av ov w' hw (by omega) (hg.ws hb1 hws) pa h2 h3 h4 h5 h6 h7 h8) 1 24 (by omega) v l lv h hl hls hlen)
 rw [hps] at HN;obtain⟨q,c,e⟩:=hls.shape;subst e;clear h hg hins hls;go_enter Tryz.func172,Tryz.ntmps172
 go_wp2_with fail
 refine(O HN).mono ?_;rintro e w1 ⟨hws,hm⟩;cases hr:Jc 1 24 Xy is with
 | none=>rw [hr] at hm;subst hm;exact⟨rfl,hws,by unfold Me; rw [hr]⟩
 | some bs=>rw [hr] at hm;obtain⟨rfl,v1,hw1⟩:=hm;have HR:=Zc hr;clear hr;go_wp2;refine bodyPost_end (results_none (fn:=Tryz.f172) rfl _ _ _) rfl ?_;exact⟨hws,by unfold Me; rw [O HR]; exact⟨rfl,v1,hw1⟩⟩
structure Zm where
 params:List (Int×Int)
 results:Int
 homes:List Int
 slots:List Int
 blocks:List (List Yj)
def Gd (f:Zm):Option (List UInt8):=Xs (Jc 0 8 Lm f.params) (Xs (Zk 0 4 f.results) (Xs (Jc 0 12 (Zk (-1) 15) f.homes) (Xs (Jc 0 6 (Zk 1 8) f.slots) (Jc 1 12 Me f.blocks))))
theorem Du (x:Int×Int)(bs:List UInt8)(h:Lm x=some bs):bs.length≤2:=by have:=Mf (A:=1) (C:=1) (fun x hx=>Nat.le_of_eq (Zp hx)) (fun x hx=>Nat.le_of_eq (Zp hx)) h;omega
structure Sf (w:World)(b:Nat)(f:Zm)(pv hv sv bv:Value)(pp:List (Array Value×(Int×Int)))(pb:List (Value×List Yj)):Prop where
 params:pp.map (·.2)=f.params
 vals:∀ q ∈ pp,q.1=#[.int .i64 q.2.1,.int .i64 q.2.2]
 pls:Iu 2 w b pv pp
 hls:Sv w b hv f.homes
 sls:Sv w b sv f.slots
 bls:VsB w b bv pb
 blocks:pb.map (·.2)=f.blocks
 each:∀ q ∈ pb,Ui w b q
 lens:pp.length<Jy∧f.homes.length<Jy∧f.slots.length<Jy∧pb.length<Jy
theorem Sf.ws {w w':World}{b:Nat}{f:Zm}{pv hv sv bv:Value}{pp:List (Array Value×(Int×Int))}{pb:List (Value×List Yj)}(h:Sf w b f pv hv sv bv pp pb)(hw:Ws w w' b):Sf w' b f pv hv sv bv pp pb :=
 ⟨h.params,h.vals,h.pls.ws hw,h.hls.ws hw,h.sls.ws hw,h.bls.ws hw,h.blocks,fun q hq=>(h.each q hq).ws hw,h.lens⟩
theorem Sg (f:Zm)(bs:List UInt8)(h:Gd f=some bs):bs.length≤20000:=by unfold Gd at h;have:=Mf (fun x hr=>Xb Lm 2 Du 0 8 _ _ hr) (fun x h=>Mf (fun x hr=>Nat.le_of_eq (Zp hr)) (fun x h=>Mf (fun x hr=>Xb (Zk (-1) 15) 1 (fun _ _ h=>Nat.le_of_eq (Zp h)) 0 12 _ _ hr) (fun x h=>Mf (fun x hr=>Xb (Zk 1 8) 1 (fun _ _ h=>Nat.le_of_eq (Zp h)) 0 6 _ _ hr) (fun x hr=>Xb Me 1000 Dt 1 12 _ _ hr) h) h) h) h;omega
theorem Zlf (b:Nat)(hb1:2<b)(v0:Value)(l0:List UInt8)(f:Zm)(pv hv sv bv:Value)(pp:List (Array Value×(Int×Int)))(pb:List (Value×List Yj))(w:World)(h:Wt w b v0 l0)(hl:l0.length≤83000000000)(hg:Zo w)(hF:Sf w b f pv hv sv bv pp pb) :
 Calls Tryz.prog 120 #[.pointer (some ⟨b,0,none⟩),.agg #[pv,.int .i64 f.results,hv,sv,bv]] w (Nq b l0 (Gd f) w):=by
 have HV:=Zc hF;have HG:=Zc hg;obtain⟨p0,c0',e0⟩:=hF.pls.shape;obtain⟨p2,c2',e2⟩:=hF.hls.shape;obtain⟨p3,c3',e3⟩:=hF.sls.shape;obtain⟨p4,c4',e4⟩:=hF.bls.shape;generalize hn0:pp.length=n0 at e0;generalize hn2:f.homes.length=n2 at e2;generalize hn3:f.slots.length=n3 at e3;generalize hn4:pb.length=n4 at e4;subst e0 e2 e3 e4;clear hn0 hn2 hn3 hn4;have hbl:=h.lt;have HST:=Zc (show Zcl 71 w (w.alloc (.cells #[.slice p0 n0 c0',.int .i64 f.results,.slice p2 n2 c2',.slice p3 n3 c3',.slice p4 n4 c4'] 71)) b w.heap.size _ v0 l0 from⟨Xp w _ b (by omega),h.alloc _,heap_alloc_new w _⟩);clear hF hg h;go_enter Tryz.func120,Tryz.ntmps120
 go_wp2_with fail
 generalize w.alloc _=w0 at HST ⊢;have ST:=HST;clear HST;have st:=O ST;have HM:=Zc (Zej 168 (fun _ _=>rfl) Lm 2 Du (by omega) b 84000000000 (by omega) pp w0 (fun p hp=>by rw [(O HV).vals p hp]; exact⟨rfl,by simp [Value.oneCell']⟩) (fun p hp v l w' _ hw hl=>by rw [(O HV).vals p hp]; exact Zyn b v l p.2.1 p.2.2 w' hw (by omega)) 0 8 (by omega) v0 l0 _ st.wt (by omega) ((O HV).ws st.ws).pls (O HV).lens.1);rw [(O HV).params] at HM;clear st;refine(O HM).mono ?_;rintro e w1 ⟨hws,hm⟩;cases hr:Jc 0 8 Lm f.params with
 | none=>rw [hr] at hm;subst hm;refine⟨rfl,(O ST).ws.trans hws,?_⟩;unfold Gd;rw [hr];rfl
 | some bs1 =>
  rw [hr] at hm;obtain⟨rfl,v1,hw⟩:=hm;have hbs:bs1.length≤17:=Xb Lm 2 Du 0 8 _ _ hr;have st:=(O ST).step (by decide) hbl hws hw;have HR1:=Zc hr;obtain⟨l1,hlk⟩:∃ x,x=l0++bs1:=⟨_,rfl⟩;have hn1:l1.length≤l0.length+17:=by rw [hlk]; simp; omega
  rw [← hlk] at st;have HL1:=Zc hlk;clear hws hw hr hlk hbs ST HM;have ST:=Zc st;clear st;have st:=O ST;have c1:=st.cells 1 (.int .i64 f.results) rfl;have HM:=Zc (Jl b v1 l1 f.results 0 4 w1 st.wt (by omega));clear st;go_wp2_with fail
  refine(O HM).mono ?_;rintro e w2 ⟨hws,hm⟩;cases hr:Zk 0 4 f.results with
  | none=>rw [hr] at hm;subst hm;refine⟨rfl,(O ST).ws.trans hws,?_⟩;unfold Gd;rw [O HR1,hr];rfl
  | some bs2 =>
   rw [hr] at hm;obtain⟨rfl,v2,hw⟩:=hm;have hbs:bs2.length≤1:=Nat.le_of_eq (Zp hr);have st:=(O ST).step (by decide) hbl hws hw;have HR2:=Zc hr;obtain⟨l2,hlk⟩:∃ x,x=l1++bs2:=⟨_,rfl⟩;have hn2:l2.length≤l1.length+1:=by rw [hlk]; simp; omega
   rw [← hlk] at st;have HL2:=Zc hlk;clear hws hw hr hlk hbs ST HM c1;have ST:=Zc st;clear st;have st:=O ST;have c2:=st.cells 2 (.slice p2 n2 c2') rfl;have HM:=Zc (Uj 169 (fun _ _=>rfl) (Zk (-1) 15) 1 (fun _ _ h=>Nat.le_of_eq (Zp h)) (by omega) b 84000000000 (by omega) (fun x v l w hw hl=>Ycs b v l x w hw (by omega)) 0 12 (by omega) v2 l2 _ f.homes w2 st.wt (by omega) ((O HV).ws st.ws).hls (O HV).lens.2.1);clear st;go_wp2_with fail
   refine(O HM).mono ?_;rintro e w3 ⟨hws,hm⟩;cases hr:Jc 0 12 (Zk (-1) 15) f.homes with
   | none=>rw [hr] at hm;subst hm;refine⟨rfl,(O ST).ws.trans hws,?_⟩;unfold Gd;rw [O HR1,O HR2,hr];rfl
   | some bs3 =>
    rw [hr] at hm;obtain⟨rfl,v3,hw⟩:=hm;have hbs:bs3.length≤13:=Xb (Zk (-1) 15) 1 (fun _ _ h=>Nat.le_of_eq (Zp h)) 0 12 _ _ hr;have st:=(O ST).step (by decide) hbl hws hw;have HR3:=Zc hr;obtain⟨l3,hlk⟩:∃ x,x=l2++bs3:=⟨_,rfl⟩;have hn3:l3.length≤l2.length+13:=by rw [hlk]; simp; omega
    rw [← hlk] at st;have HL3:=Zc hlk;clear hws hw hr hlk hbs ST HM c2;have ST:=Zc st;clear st;have st:=O ST;have c3:=st.cells 3 (.slice p3 n3 c3') rfl;have HM:=Zc (Uj 170 (fun _ _=>rfl) (Zk 1 8) 1 (fun _ _ h=>Nat.le_of_eq (Zp h)) (by omega) b 84000000000 (by omega) (fun x v l w hw hl=>Yct b v l x w hw (by omega)) 0 6 (by omega) v3 l3 _ f.slots w3 st.wt (by omega) ((O HV).ws st.ws).sls (O HV).lens.2.2.1);clear st;go_wp2_with fail
    refine(O HM).mono ?_;rintro e w4 ⟨hws,hm⟩;cases hr:Jc 0 6 (Zk 1 8) f.slots with
    | none=>rw [hr] at hm;subst hm;refine⟨rfl,(O ST).ws.trans hws,?_⟩;unfold Gd;rw [O HR1,O HR2,O HR3,hr];rfl
    | some bs4 =>
     rw [hr] at hm;obtain⟨rfl,v4,hw⟩:=hm;have hbs:bs4.length≤7:=Xb (Zk 1 8) 1 (fun _ _ h=>Nat.le_of_eq (Zp h)) 0 6 _ _ hr;have st:=(O ST).step (by decide) hbl hws hw;have HR4:=Zc hr;obtain⟨l4,hlk⟩:∃ x,x=l3++bs4:=⟨_,rfl⟩;have hn4:l4.length≤l3.length+7:=by rw [hlk]; simp; omega
     rw [← hlk] at st;have HL4:=Zc hlk;clear hws hw hr hlk hbs ST HM c3;have ST:=Zc st;clear st;have st:=O ST;have c4:=st.cells 4 (.slice p4 n4 c4') rfl;have HM:=Zc (Zei 172 (fun _ _=>rfl) Me 1000 Dt (by omega) b 84000000000 (by omega) pb w4 (fun p hp=>((O HV).each p hp).shape) (fun p hp v l w' hws hw hl=>Zyp b hb1 v l p.1 p.2 w' hw (by omega) (((O HG).ws hb1 st.ws).ws hb1 hws) ((((O HV).each p hp).ws st.ws).ws hws)) 1 12 (by omega) v4 l4 _ st.wt (by omega) ((O HV).ws st.ws).bls (O HV).lens.2.2.2);rw [(O HV).blocks] at HM;clear st;go_wp2_with fail
     refine(O HM).mono ?_;rintro e w5 ⟨hws,hm⟩;cases hr:Jc 1 12 Me f.blocks with
     | none=>rw [hr] at hm;subst hm;refine⟨rfl,(O ST).ws.trans hws,?_⟩;unfold Gd;rw [O HR1,O HR2,O HR3,O HR4,hr];rfl
     | some bs5 =>
      rw [hr] at hm;obtain⟨rfl,v5,hw⟩:=hm;have hbs:bs5.length≤12001:=Xb Me 1000 Dt 1 12 _ _ hr;have st:=(O ST).step (by decide) hbl hws hw;have HR5:=Zc hr;obtain⟨l5,hlk⟩:∃ x,x=l4++bs5:=⟨_,rfl⟩;have hn5:l5.length≤l4.length+12001:=by rw [hlk]; simp; omega
      rw [← hlk] at st;have HL5:=Zc hlk;clear hws hw hr hlk hbs ST HM c4;have ST:=Zc st;clear st;go_wp2;refine bodyPost_end (results_none (fn:=Tryz.f120) rfl _ _ _) rfl ?_;refine⟨(O ST).ws,?_⟩;have hx2:Gd f=some (bs1++(bs2++(bs3++(bs4++bs5)))):=by unfold Gd; rw [O HR1,O HR2,O HR3,O HR4,O HR5]; rfl
      rw [hx2];refine⟨rfl,v5,?_⟩;have hw:=(O ST).wt;rw [O HL5,O HL4,O HL3,O HL2,O HL1] at hw;simpa using hw
set_option maxHeartbeats 8000000
set_option maxRecDepth 100000
def Rm (w:World)(b:Nat)(p:Array Value×(List Int×Int)):Prop:=∃ lv,p.1=#[lv,.int .i64 p.2.2]∧Sv w b lv p.2.1∧p.2.1.length<Jy
theorem Rm.ws {w w':World}{b:Nat}{p:Array Value×(List Int×Int)}(h:Rm w b p)(hw:Ws w w' b):Rm w' b p:=by obtain⟨lv,h1,h2,h3⟩:=h;exact⟨lv,h1,h2.ws hw,h3⟩
theorem Rm.size {w:World}{b:Nat}{p:Array Value×(List Int×Int)}(h:Rm w b p):p.1.size=2∧p.1.all (·.oneCell')=true:=by obtain⟨lv,h1,h2,h3⟩:=h;obtain⟨q,c,e⟩:=h2.shape;rw [h1,e];exact⟨rfl,by simp [Value.oneCell']⟩
def Mo (w:World)(b:Nat)(p:Array Value×Zm):Prop:=∃ pv hv sv bv pp pb,p.1=#[pv,.int .i64 p.2.results,hv,sv,bv]∧Sf w b p.2 pv hv sv bv pp pb
theorem Mo.ws {w w':World}{b:Nat}{p:Array Value×Zm}(h:Mo w b p)(hw:Ws w w' b):Mo w' b p:=by obtain⟨pv,hv,sv,bv,pp,pb,h1,h2⟩:=h;exact⟨pv,hv,sv,bv,pp,pb,h1,h2.ws hw⟩
theorem Mo.size {w:World}{b:Nat}{p:Array Value×Zm}(h:Mo w b p):p.1.size=5∧p.1.all (·.oneCell')=true:=by obtain⟨pv,hv,sv,bv,pp,pb,h1,h2⟩:=h;obtain⟨q,c,e⟩:=h2.pls.shape;obtain⟨q2,c2,e2⟩:=h2.hls.shape;obtain⟨q3,c3,e3⟩:=h2.sls.shape;obtain⟨q4,c4,e4⟩:=h2.bls.shape;rw [h1,e,e2,e3,e4];exact⟨rfl,by simp [Value.oneCell']⟩
structure Zj where
 funcs:List Zm
 externs:List (List Int×Int)
def Na (p:Zj):Option (List UInt8):=Xs (some [70,49]) (Xs (Jc 0 4 Un p.externs) (Jc 1 8 Gd p.funcs))
theorem Zij (p:Zj)(bs:List UInt8)(h:Na p=some bs):bs.length≤200000:=by unfold Na at h;have:=Mf (A:=2) (fun x hx=>by cases hx; simp) (fun x h=>Mf (fun x hr=>Xb Un 1000 Kw 0 4 _ _ hr) (fun x hr=>Xb Gd 20000 Sg 1 8 _ _ hr) h) h;omega
structure Oo (w:World)(b:Nat)(p:Zj)(fv ev:Value)(pf:List (Array Value×Zm))(pe:List (Array Value×(List Int×Int))):Prop where
 fls:Iu 5 w b fv pf
 els:Iu 2 w b ev pe
 funcs:pf.map (·.2)=p.funcs
 externs:pe.map (·.2)=p.externs
 feach:∀ q ∈ pf,Mo w b q
 eeach:∀ q ∈ pe,Rm w b q
 lens:pf.length<Jy∧pe.length<Jy
theorem Oo.ws {w w':World}{b:Nat}{p:Zj}{fv ev:Value}{pf:List (Array Value×Zm)}{pe:List (Array Value×(List Int×Int))}(h:Oo w b p fv ev pf pe)(hw:Ws w w' b):Oo w' b p fv ev pf pe :=
 ⟨h.fls.ws hw,h.els.ws hw,h.funcs,h.externs,fun q hq=>(h.feach q hq).ws hw,fun q hq=>(h.eeach q hq).ws hw,h.lens⟩
theorem Ycv {wY w2:World}{b n:Nat}{v':Value}{xs:List Value}(hr:wY.ownsRow (b+1) 5 1 v' n xs)(hg:wY.grownBy w2 v'.ownBlock)(hb:b<wY.heap.size)(u:Value):Ws wY (w2.setCell ⟨b,0,none⟩ u) b :=
 ⟨(⟨hg.os,hg.tape,hg.output,hg.size,fun q hq=>hg.block q (by omega) (by intro e; have:=(hr.lt q e.symm).1; omega)⟩:Below b wY w2).trans (Zfa w2 b 0 u),(Zcn hr hg).trans (Znz w2 b 0 u)⟩
theorem Zqj {wY w2:World}{b n:Nat}{v':Value}{xs:List Value}(hr:wY.ownsRow (b+1) 5 1 v' n xs)(hg:wY.grownBy w2 v'.ownBlock)(hb:b<wY.heap.size):w2.heap[b]?=wY.heap[b]? :=
 hg.block b hb (by intro e; have:=(hr.lt b e.symm).1; omega)
theorem Ycw {w2:World}{b n:Nat}{v' u:Value}{l ys:List UInt8}(hc:w2.cell? ⟨b,0,none⟩=some v')(hf:w2.frozen? ⟨b,0,none⟩=false)(hown:w2.ownsRow (b+1) 5 1 u n (Oq l++Oq ys))(hn:n=(l++ys).length):Wt (w2.setCell ⟨b,0,none⟩ u) b u (l++ys):=by refine⟨World.cell?_setCell_same _ _ _ hc,by rw [World.frozen?_setCell]; exact hf,?_⟩;have h1:=ownsRow_setCell_below hown (a:=⟨b,0,none⟩) (show b<b+1 by omega) u;rw [show Oq (l++ys)=Oq l++Oq ys by simp [Oq],← hn];exact h1
theorem Zqk (b:Nat)(hb1:2<b)(v0:Value)(l0:List UInt8)(p:Zj)(fv ev:Value)(pf:List (Array Value×Zm))(pe:List (Array Value×(List Int×Int)))(w:World)(h:Wt w b v0 l0)(hl:l0.length≤80000000000)(hg:Zo w)(hP:Oo w b p fv ev pf pe) :
 Calls Tryz.prog 78 #[.pointer (some ⟨b,0,none⟩),.agg #[fv,ev]] w (Nq b l0 (Na p) w):=by
 obtain⟨ti,hti,hz0,hz1,hz2⟩:=Jz Tryz.infoU;have HV:=Zc hP;have HG:=Zc hg;obtain⟨p0,c0',e0⟩:=hP.fls.shape;obtain⟨p2,c2',e2⟩:=hP.els.shape;generalize hn0:pf.length=n0 at e0;generalize hn2:pe.length=n2 at e2;subst e0 e2;clear hn0 hn2;have hbl:=h.lt;have HST:=Zc (show Zcl 62 w (w.alloc (.cells #[.slice p0 n0 c0',.slice p2 n2 c2'] 62)) b w.heap.size _ v0 l0 from⟨Xp w _ b (by omega),h.alloc _,heap_alloc_new w _⟩);have cc:=(O HST).wt.cell;have cf:=(O HST).wt.fz;clear hP hg h;go_enter Tryz.func78,Tryz.ntmps78
 go_wp2_with (at_builtin; refine wpList_append_own _ rfl _ _ 182 rfl (b+1) 5 ti _ 1 1 Tryz.underlying182 hti hz0 hz1 hz2 rfl (by decide) _ _ _ rfl ((O HST).wt.row.alloc _) ⟨w.heap.size+1,0,none⟩ 2 2 [.int .u8 70,.int .u8 49] rfl rfl (by intro j u hj; match j,hj with | 0,hj=>(simp at hj; subst hj; exact(World.cell?_alloc_at _ _ _ _ (by simp)).trans rfl) | 1,hj=>(simp at hj; subst hj; exact(World.cell?_alloc_at _ _ _ _ (by simp)).trans rfl)) (by intro u hu; simp at hu; rcases hu with rfl | rfl <;> rfl) ?c3 ?c4 ?c5 ?_)
 case c3=>unfold maxLen; omega
 case c4=>omega
 case c5=>first | omega | (simp; omega)
 intro v' w7 hown hgr _;obtain⟨g2,cap2,rfl⟩:=Zez (n:=l0.length+1) hown;have st1:=(O HST).step (by decide) hbl (Xp _ (.cells #[.int .u8 70,.int .u8 49] 5) b (Nat.le_of_lt (O HST).wt.lt)) ((O HST).wt.alloc _);have hblk:=Zqj st1.wt.row hgr st1.wt.lt;have cu:w7.cell? ⟨b,0,none⟩=some v0:=(World.cell?_of_block hblk).trans st1.wt.cell;have cg:w7.frozen? ⟨b,0,none⟩=false:=(World.frozen?_of_block (a:=⟨b,0,none⟩) hblk).trans st1.wt.fz;have st:=st1.step (by decide) hbl (Ycv st1.wt.row hgr st1.wt.lt (.slice (some ⟨g2,0,none⟩) (l0.length+2) cap2)) (Ycw (ys:=[70,49]) cu cg hown (by simp));have c1:=st.cells 1 (.slice p2 n2 c2') rfl;obtain⟨l1,hl1⟩:∃ x,x=l0++[70,49]:=⟨_,rfl⟩;have hn1:l1.length≤l0.length+2:=by rw [hl1]; simp
 rw [← hl1] at st;have HL1:=Zc hl1;have ST:=Zc st;clear st st1 hblk hown hgr HST hl1 cc cf;go_wp2_with fail
 generalize w7.setCell _ _=w1 at ST c1 ⊢;generalize Value.slice (some ⟨g2,0,none⟩) (l0.length+2) cap2=v1 at ST ⊢;have st:=O ST;have HM:=Zc (Zik 118 (fun _ _=>rfl) Un 1000 Kw (by omega) b 81000000000 (by omega) pe w1 (fun p hp=>((O HV).eeach p hp).size) (fun p hp v l w' hws hw hl=>by obtain⟨lv,h1,h2,h3⟩:=(((O HV).eeach p hp).ws st.ws).ws hws; rw [h1]; exact Yfn b v l lv p.2.1 p.2.2 w' hw (by omega) h2 h3) 0 4 (by omega) v1 l1 _ st.wt (by omega) ((O HV).ws st.ws).els (O HV).lens.2);rw [(O HV).externs] at HM;clear st;refine(O HM).mono ?_;rintro e w2 ⟨hws,hm⟩;cases hr:Jc 0 4 Un p.externs with
 | none=>rw [hr] at hm;subst hm;refine⟨rfl,(O ST).ws.trans hws,?_⟩;unfold Na;rw [hr];rfl
 | some bs2 =>
  rw [hr] at hm;obtain⟨rfl,v2,hw⟩:=hm;have hbs:bs2.length≤4001:=Xb Un 1000 Kw 0 4 _ _ hr;have st:=(O ST).step (by decide) hbl hws hw;have HR2:=Zc hr;obtain⟨l2,hlk⟩:∃ x,x=l1++bs2:=⟨_,rfl⟩;have hn2:l2.length≤l1.length+4001:=by rw [hlk]; simp; omega
  rw [← hlk] at st;have HL2:=Zc hlk;clear hws hw hr hlk hbs ST HM c1;have ST:=Zc st;clear st;have st:=O ST;have c0:=st.cells 0 (.slice p0 n0 c0') rfl;have HM:=Zc (Zge 120 (fun _ _=>rfl) Gd 20000 Sg (by omega) b 81000000000 (by omega) pf w2 (fun p hp=>((O HV).feach p hp).size) (fun p hp v l w' hws hw hl=>by obtain⟨pv,hv,sv,bv,pp,pb,h1,h2⟩:=(((O HV).feach p hp).ws st.ws).ws hws; rw [h1]; exact Zlf b hb1 v l p.2 pv hv sv bv pp pb w' hw (by omega) (((O HG).ws hb1 st.ws).ws hb1 hws) h2) 1 8 (by omega) v2 l2 _ st.wt (by omega) ((O HV).ws st.ws).fls (O HV).lens.1);rw [(O HV).funcs] at HM;clear st;go_wp2_with fail
  refine(O HM).mono ?_;rintro e w3 ⟨hws,hm⟩;cases hr:Jc 1 8 Gd p.funcs with
  | none=>rw [hr] at hm;subst hm;refine⟨rfl,(O ST).ws.trans hws,?_⟩;unfold Na;rw [O HR2,hr];rfl
  | some bs3 =>
   rw [hr] at hm;obtain⟨rfl,v3,hw⟩:=hm;have hbs:bs3.length≤160001:=Xb Gd 20000 Sg 1 8 _ _ hr;have st:=(O ST).step (by decide) hbl hws hw;have HR3:=Zc hr;obtain⟨l3,hlk⟩:∃ x,x=l2++bs3:=⟨_,rfl⟩;have hn3:l3.length≤l2.length+160001:=by rw [hlk]; simp; omega
   rw [← hlk] at st;have HL3:=Zc hlk;clear hws hw hr hlk hbs ST HM c0;have ST:=Zc st;clear st;go_wp2;refine bodyPost_end (results_none (fn:=Tryz.f78) rfl _ _ _) rfl ?_;refine⟨(O ST).ws,?_⟩;have hx2:Na p=some ([70,49]++(bs2++bs3)):=by unfold Na; rw [O HR2,O HR3]; rfl
   rw [hx2];refine⟨rfl,v3,?_⟩;have hw:=(O ST).wt;rw [O HL3,O HL2,O HL1] at hw;simpa using hw
end Go.Proofs.YtkenknfgeoecbaaGreatDoor
