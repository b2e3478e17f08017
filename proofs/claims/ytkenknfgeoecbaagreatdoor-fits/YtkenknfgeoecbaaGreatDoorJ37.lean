import Derived.Test.YtkenknfgeoecbaaGreatDoorJ36
namespace Go.Proofs.YtkenknfgeoecbaaGreatDoor
open Go.RowKit
theorem Ip {w:World}{B B' e size n:Nat}{v:Value}{xs:List Value}(h:w.ownsRow B e size v n xs)(hB:B'<=B):w.ownsRow B' e size v n xs:=by
 refine⟨h.1,?_⟩;rcases h.2 with hn | ⟨g,cap,cur,hv,hb,rest⟩
 ·exact .inl hn
 ·exact .inr ⟨g,cap,cur,hv,Nat.le_trans hB hb,rest⟩
theorem Zdn {P:Program}(w:World)(base:Nat)(t ty e:TypeId)(i:TypeInfo)(z:Value)(size bytes:Nat)(ht:P.underlying t=some (.slice e))(hi:P.info? e=some i)(hz:i.zero=some z)
 (hsize:i.size=size) (hby:i.bytes=bytes) (hzs:z.cells.size=size) (hsz:0<size)
 (v:Value) (n:Nat) (xs:List Value) (hown:w.ownsRow base e size v n xs)
 (a:Addr) (m c:Nat) (news:List Value) (hl:news.length=m*size) (hnews:∀ j u,news[j]?=some u->w.cell? (a.add j)=some u) (h1:∀ u ∈ news,u.oneCell'=true)
 (h63:n+m<=maxLen) (hbytes:(n+m)*bytes<=140737488355328) (hbase:base<=w.heap.size) :
 ∃ v' w',(Builtin.append_ #[t,t] ty #[v,.slice (some a) m c]).run P w=.ok v' w'∧w'.ownsRow base e size v' (n+m) (xs++news)∧w.grownBy w' v.ownBlock∧∀ g,v'.ownBlock=some g->v.ownBlock=some g∨w.heap.size<=g:=by
 obtain⟨v',w',hr,h2,h3,-⟩:=run_append_own (P:=P) w base t ty e i z size bytes ht hi hz hsize hby hzs hsz v n xs hown a m c news hl hnews h1 h63 hbytes hbase;refine⟨v',w',hr,h2,h3,fun g hg=>?_⟩;rcases hown.2 with⟨rfl,rfl⟩ | ⟨g0,cap,cur,rfl,hbg,hg0,hnc,hcm,hcs,htake⟩
 ·have hx:xs=[]:=List.eq_nil_of_length_eq_zero (by simpa using hown.1);subst hx;obtain⟨v2,w2,hr2,o2,-,-⟩:=run_append_own (P:=P) w w.heap.size t ty e i z size bytes ht hi hz hsize hby hzs hsz _ 0 [] (World.ownsRow_nil _ _ _ _) a m c news hl hnews h1 h63 hbytes (Nat.le_refl _);rw [hr] at hr2;injection hr2 with e1 e2;subst e1 e2;exact Or.inr (o2.lt g hg).1
 ·subst hsize;subst hby;by_cases hroom:n+m<=cap
  ·have hfit:n*i.size+news.length<=cur.size:=by rw [hl,hcs,← Nat.add_mul]; exact Nat.mul_le_mul_right _ hroom
   have hr2:=run_append_room (P:=P) w t ty e i ht hi g0 n cap cur hg0 a m c news hl hnews h1 hroom hfit;rw [hr] at hr2;injection hr2 with e1 e2;subst e1;exact Or.inl hg
  ·have holds:∀ j u,xs[j]?=some u->w.cell? ((⟨g0,0,none⟩:Addr).add j)=some u:=hown.cells (g:=g0) rfl;have hr2:=run_append_grow (P:=P) w t ty e i z ht hi hz ⟨g0,0,none⟩ n cap xs hown.1 holds a m c news hl hnews (by omega) (by simp only [maxLen] at h63; omega) (growslice_fits (by omega) hbytes);rw [hr] at hr2;injection hr2 with e1 e2;subst e1;injection hg with hg;exact Or.inr (Nat.le_of_eq hg)
theorem Iq {P:Program}{ops:Array Oper}{o:Oper}{a:Act}{w:World}{K:Act->World->Prop}{Q:Exit->Act->World->Prop}{E:Prop}
 (hg:o.guard=none) (s x:Operand) (t:TypeId) (ho:o.op=.call { callee:=.builtin .append,args:=#[s,x],argTypes:=#[t,t] })
 (base:Nat) (e:TypeId) (i:TypeInfo) (z:Value) (size bytes:Nat) (ht:P.underlying t=some (.slice e)) (hi:P.info? e=some i) (hz:i.zero=some z)
 (hsize:i.size=size) (hby:i.bytes=bytes) (hzs:z.cells.size=size) (hsz:0<size)
 (v:Value) (n:Nat) (xs:List Value) (hs:a.eval s=v) (hown:w.ownsRow base e size v n xs)
 (ad:Addr) (m c:Nat) (news:List Value) (hx:a.eval x=.slice (some ad) m c) (hl:news.length=m*size) (hnews:∀ j u,news[j]?=some u->w.cell? (ad.add j)=some u) (h1:∀ u ∈ news,u.oneCell'=true)
 (h63:n+m<=maxLen) (hbytes:(n+m)*bytes<=140737488355328) (hbase:base<=w.heap.size)
 (h:∀ v' w',w'.ownsRow base e size v' (n+m) (xs++news)->w.grownBy w' v.ownBlock->(∀ g,v'.ownBlock=some g->v.ownBlock=some g∨w.heap.size<=g)->K (a.put o.dst v') w') :
 if Region.wanted o (yielded ops a.tmps)=true then Oper.wp P o a w K Q else E:=by
 have hw:Region.wanted o (yielded ops a.tmps)=true:=by simp [Region.wanted,hg]
 rw [if_pos hw];obtain⟨v',w',hr,h2,h3,h4⟩:=Zdn (P:=P) w base t o.type e i z size bytes ht hi hz hsize hby hzs hsz v n xs hown ad m c news hl hnews h1 h63 hbytes hbase;unfold Oper.wp execOp;simp only [ho,resolve,invoke,builtin,Sem.run_bind,Sem.run_pure,Result.andThen_ok,List.map_toArray,List.map_cons,List.map_nil,hs,hx,hr];exact h v' w' h2 h3 h4
theorem Yak {P:Program}{ops:Array Oper}{Q:Exit->Act->World->Prop}{md:Region.Mode}{C:World->Prop}{d:Nat}{i:Nat}{oi od:Oper}{v:Value}{n:Nat}{L:Array Bool}{a:Act}{w:World}(hi:ops[i]?=some oi)(hd:ops[d]?=some od)
 (hk:((od.after.any fun e=>Region.binds md e&&e.on==i)&&(Region.noSelect ops&&(Region.free md ops L i&&((Region.ready md ops L).contains i&&!(L.getD d true)))))=true)
 (hQ:∀ c a w,Q (.panic c) (a.put oi.dst v) w->Q (.panic c) a w) (hy:YieldsIf P ops C oi v a) (hC:C w)
 (h:Nb P md ops Q C d n (L.setIfInBounds i true) (a.put oi.dst v) w):Nb P md ops Q C d (n+1) L a w:=by
 simp only [Bool.and_eq_true,Bool.not_eq_true'] at hk;exact Zqb hi hd hk.1 hk.2.1 hk.2.2.1 hk.2.2.2.1 hk.2.2.2.2 hQ hy hC h
structure FrR where
 x:Ud
 q:Nat
 lo:Nat
 hi:Nat
 lg:Nat
 bp:Option Addr
 sp:Option Addr
 op:Option Addr
 bc:Nat
 sc:Nat
 oc:Nat
 gs:List Nat
 B:Nat->Value
def FrR.At (w0 V:World)(f:FrR):Prop:=Ia w0 V f.x f.q f.lo f.hi f.lg f.bp f.sp f.op f.bc f.sc f.oc f.gs f.B
def Zmk (st:List FrR)(g:Nat):Prop:=∀ f ∈ st,g<f.lo∨f.hi<=g
def Cu (st:List FrR):List Value:=st.reverse.map fun f=>.pointer (some ⟨f.q,0,none⟩)
def evC (fs:List Int)(es:List Value):List Value:=(fs.zip es).flatMap fun e=>[.int .i64 e.1,e.2]
structure TrI (V:World)(b:Nat)(N:Nat->Prop)(tv:Value)(tr:List (Int×List Int))(es:List Value):Prop where
 len:es.length=tr.length
 row:V.ownsRow b 374 2 tv tr.length (evC (tr.map (·.1)) es)
 out:∀ g,tv.ownBlock=some g->N g
 each:∀ k,k<tr.length->V.ownsRow b 90 1 (es.getD k .nilIface) (tr.getD k (0,[])).2.length (uC (tr.getD k (0,[])).2)∧∀ g,(es.getD k .nilIface).ownBlock=some g->N g
theorem Ir {w:World}{B e size n g:Nat}{v:Value}{xs:List Value}(h:w.ownsRow B e size v n xs)(hg:v.ownBlock=some g):∃ cs,w.heap[g]?=some (.cells cs e (0,0)):=by
 rcases h.2 with⟨rfl,-⟩ | ⟨g',cap,cur,rfl,-,hr,-⟩
 ·cases hg
 ·injection hg with hg;subst hg;exact⟨cur,hr⟩
theorem TrI.keep {V V':World}{b:Nat}{N N':Nat->Prop}{tv:Value}{tr:List (Int×List Int)}{es:List Value}(h:TrI V b N tv tr es)(hk:∀ g cs t,V.heap[g]?=some (.cells cs t (0,0))->t=374∨t=90->b<=g->N g->V'.heap[g]?=V.heap[g]?)(hN:∀ g,b<=g->g<V.heap.size->N g->N' g):TrI V' b N' tv tr es:=by
 refine⟨h.len,Nx h.row fun g hg=>?_,fun g hg=>hN g (h.row.lt g hg).1 (h.row.lt g hg).2 (h.out g hg),fun k hkk=>⟨Nx (h.each k hkk).1 fun g hg=>?_,fun g hg=>hN g ((h.each k hkk).1.lt g hg).1 ((h.each k hkk).1.lt g hg).2 ((h.each k hkk).2 g hg)⟩⟩
 ·obtain⟨cs,hr⟩:=Ir h.row hg;exact hk g cs _ hr (Or.inl rfl) (h.row.lt g hg).1 (h.out g hg)
 ·obtain⟨cs,hr⟩:=Ir (h.each k hkk).1 hg;exact hk g cs _ hr (Or.inr rfl) ((h.each k hkk).1.lt g hg).1 ((h.each k hkk).2 g hg)
def Ycl (rb:Nat)(t0:TypeId)(w w':World):Prop:=∀ g cs t,w.heap[g]?=some (.cells cs t (0,0))->t≠t0->g≠rb->w'.heap[g]?=w.heap[g]?
def RnR (V:World)(rb:Nat)(fv scv frv:Value)(kind:Int)(vv tv:Value)(steps:Int):Prop:=V.heap[rb]?=some (.cells #[fv,scv,frv,.int .i64 kind,vv,.int .i64 0,tv,.int .i64 steps,.int .i64 0] 202 (0,0))
structure Gu (w0 V:World)(rb b:Nat)(st:List FrR)(frv tv:Value)(tr:List (Int×List Int))(es:List Value):Prop where
 low:Below w0.heap.size w0 V
 w0b:w0.heap.size<=b
 rbb:b<=rb
 stk:∀ f ∈ st,f.At w0 V∧rb<f.lo
 ord:st.Pairwise fun u l=>l.hi<=u.lo
 fr:V.ownsRow b 264 1 frv st.length (Cu st)
 fro:∀ g,frv.ownBlock=some g->Zmk st g
 tr:TrI V b (fun g=>Zmk st g∧g≠rb) tv tr es
section
variable {w0 V V':World} {rb b:Nat} {st R:List FrR} {f:FrR} {frv tv:Value} {tr:List (Int×List Int)} {es:List Value}
theorem Gu.grow (h:Gu w0 V rb b st frv tv tr es)(hb:Below V.heap.size V V'):Gu w0 V' rb b st frv tv tr es :=
 ⟨Zc h.low hb h.low.size,h.w0b,h.rbb,fun f hf=>⟨Mf (h.stk f hf).1 hb,(h.stk f hf).2⟩,h.ord,Nx h.fr fun g hg=>hb.block g (h.fr.lt g hg).2,h.fro,h.tr.keep (fun g _ _ hr _ _ _=>hb.block g (Zi hr)) (fun _ _ _ h=>h)⟩
theorem Gu.pair (h:Gu w0 V rb b (f :: R) frv tv tr es):∀ u ∈ R,u.hi<=f.lo:=(List.pairwise_cons.1 h.ord).1
theorem Gu.top (h:Gu w0 V rb b (f :: R) frv tv tr es){x:Ud}(hF:Ia w0 V' x f.q f.lo f.hi f.lg f.bp f.sp f.op f.bc f.sc f.oc f.gs f.B)(hO:OnB f.lo f.hi V V'):Gu w0 V' rb b ({ f with x:=x } :: R) frv tv tr es:=by
 have hz:=h.low.size;have hw:=h.w0b;have hr:=h.rbb;have hrl:=(h.stk f List.mem_cons_self).2;have hout:∀ g,Zmk (f :: R) g↔Zmk ({ f with x:=x } :: R) g:=fun g=>by
  unfold Zmk;simp only [List.forall_mem_cons]
 refine⟨⟨hO.os.trans h.low.os,hO.tape.trans h.low.tape,hO.output.trans h.low.output,Nat.le_trans hz hO.size,fun k hk=>(hO.oth k (by omega) (Or.inl (by omega))).trans (h.low.block k hk)⟩,hw,hr,fun u hu=>?_,List.pairwise_cons.2 ⟨h.pair,(List.pairwise_cons.1 h.ord).2⟩,Nx (by simpa [Cu] using h.fr) fun g hg=>hO.oth g (h.fr.lt g hg).2 (h.fro g hg f List.mem_cons_self),fun g hg=>(hout g).1 (h.fro g hg),h.tr.keep (fun g _ _ hr _ _ hN=>hO.oth g (Zi hr) (hN.1 f List.mem_cons_self)) (fun g _ _ hN=>⟨(hout g).1 hN.1,hN.2⟩)⟩;rcases List.mem_cons.1 hu with rfl | hu
 ·exact⟨hF,hrl⟩
 ·have h1:=h.stk u (List.mem_cons_of_mem _ hu);have h2:=h.pair u hu;exact⟨Sw h1.1 (fun g g1 g2=>hO.oth g (Nat.lt_of_lt_of_le g2 h1.1.hs) (Or.inl (by omega))) hO.size,h1.2⟩
theorem Gu.own (h:Gu w0 V rb b st frv tv tr es)(hrow:∃ cs,V.heap[rb]?=some (.cells cs 202 (0,0)))(hO:One rb V V'):Gu w0 V' rb b st frv tv tr es:=by have hw:=h.w0b;have hr:=h.rbb;obtain⟨cs,hrow⟩:=hrow;have hne:∀ g,frv.ownBlock=some g->g≠rb:=fun g hg e=>Zhc h.fr hrow (by decide) (by rw [hg,e]);refine⟨⟨hO.os.trans h.low.os,hO.tape.trans h.low.tape,hO.output.trans h.low.output,by rw [hO.size]; exact h.low.size,fun k hk=>(hO.oth k (by omega)).trans (h.low.block k hk)⟩,hw,hr,fun u hu=>⟨Sw (h.stk u hu).1 (fun g g1 _=>hO.oth g (by have:=(h.stk u hu).2; omega)) (Nat.le_of_eq hO.size.symm),(h.stk u hu).2⟩,h.ord,Nx h.fr fun g hg=>hO.oth g (hne g hg),h.fro,h.tr.keep (fun g _ _ _ _ _ hN=>hO.oth g hN.2) (fun _ _ _ h=>h)⟩
theorem Gu.drop (h:Gu w0 V rb b (f :: R) frv tv tr es){p:Option Addr}{c:Nat}(hv:frv=.slice p (R.length+1) c):Gu w0 V rb b R (.slice p R.length c) tv tr es:=by
 subst hv;have hsub:∀ g,Zmk (f :: R) g->Zmk R g:=fun g hg u hu=>hg u (List.mem_cons_of_mem _ hu);refine⟨h.low,h.w0b,h.rbb,fun u hu=>h.stk u (List.mem_cons_of_mem _ hu),(List.pairwise_cons.1 h.ord).2,?_,fun g hg=>hsub g (h.fro g (by cases p <;> exact hg)),h.tr.keep (fun _ _ _ _ _ _ _=>rfl) (fun g _ _ hN=>⟨hsub g hN.1,hN.2⟩)⟩;rcases h.fr.2 with⟨e,hn⟩ | ⟨g,cap,cur,e,hb,hg,hnc,hcm,hcs,ht⟩
 ·simp at hn
 ·injection e with e1 e2 e3;subst e1 e3;refine⟨by simp [Cu],.inr ⟨g,_,cur,rfl,hb,hg,by simp at hnc; omega,hcm,hcs,?_⟩⟩;have h2:Cu (f :: R)=Cu R++[.pointer (some ⟨f.q,0,none⟩)]:=by simp [Cu]
  rw [h2] at ht;have h3:=congrArg (List.take R.length) ht;rw [List.take_take] at h3;simp only [List.length_cons,Nat.mul_one] at h3 ⊢;rw [Nat.min_eq_left (by omega),List.take_left' (by simp [Cu])] at h3;exact h3
theorem Gu.push {V2 V3:World}{frv':Value}(h:Gu w0 V rb b st frv tv tr es)(hrow:∃ cs,V.heap[rb]?=some (.cells cs 202 (0,0)))(hb:Below V.heap.size V V2)(hf:f.At w0 V2)(hlo:V.heap.size<=f.lo)(hg:V2.grownBy V3 frv.ownBlock)
 (ho:V3.ownsRow b 264 1 frv' (st.length+1) (Cu st++[.pointer (some ⟨f.q,0,none⟩)])) (hblk:∀ g,frv'.ownBlock=some g->frv.ownBlock=some g∨V2.heap.size<=g) (j:Nat) (u:Value) :
 Gu w0 (V3.setCell ⟨rb,j,none⟩ u) rb b (f :: st) frv' tv tr es∧Below b V (V3.setCell ⟨rb,j,none⟩ u)∧Ycl rb 264 V (V3.setCell ⟨rb,j,none⟩ u):=by
 obtain⟨cs,hrow⟩:=hrow;have hw:=h.w0b;have hr:=h.rbb;have hrl:=Zi hrow;have hz:=hb.size;have hgz:=hg.size;have hfb:∀ g,frv.ownBlock=some g->b<=g∧g<V.heap.size:=h.fr.lt;have hne:∀ g,frv.ownBlock=some g->g≠rb:=fun g hg e=>Zhc h.fr hrow (by decide) (by rw [hg,e]);have hsame:∀ g,g<V2.heap.size->frv.ownBlock≠some g->g≠rb->(V3.setCell ⟨rb,j,none⟩ u).heap[g]?=V2.heap[g]?:=fun g h1 h2 h3=>(heap_setCell_other _ _ _ _ h3).trans (hg.block g h1 (fun e=>h2 e.symm));have hsame0:∀ g,g<V.heap.size->frv.ownBlock≠some g->g≠rb->(V3.setCell ⟨rb,j,none⟩ u).heap[g]?=V.heap[g]?:=fun g h1 h2 h3=>(hsame g (by omega) h2 h3).trans (hb.block g h1);have hsz:(V3.setCell ⟨rb,j,none⟩ u).heap.size=V3.heap.size:=by simp
 have hB:Below b V (V3.setCell ⟨rb,j,none⟩ u):=⟨hg.os.trans hb.os,hg.tape.trans hb.tape,hg.output.trans hb.output,by rw [hsz]; omega,fun g hg'=>hsame0 g (by omega) (fun e=>by have:=(hfb g e).1; omega) (by omega)⟩;refine⟨⟨⟨hB.os.trans h.low.os,hB.tape.trans h.low.tape,hB.output.trans h.low.output,Nat.le_trans h.low.size hB.size,fun g hg'=>(hB.block g (by omega)).trans (h.low.block g hg')⟩,hw,hr,fun v hv=>?_,List.pairwise_cons.2 ⟨fun v hv=>Nat.le_trans (h.stk v hv).1.hs hlo,h.ord⟩,?_,fun g hg' v hv=>?_,h.tr.keep (fun g cs' t hr' ht hb' hN=>hsame0 g (Zi hr') (fun e=>?_) hN.2) (fun g _ hlt hN=>⟨fun v hv=>?_,hN.2⟩)⟩,hB,fun g cs' t hr' ht hne'=>hsame0 g (Zi hr') (fun e=>?_) hne'⟩
 ·rcases List.mem_cons.1 hv with rfl | hv
  ·exact⟨Sw hf (fun g g1 g2=>hsame g (Nat.lt_of_lt_of_le g2 hf.hs) (fun e=>by have:=(hfb g e).2; omega) (by omega)) (by rw [hsz]; omega),by omega⟩
  ·have k:=h.stk v hv;exact⟨Sw k.1 (fun g g1 g2=>hsame0 g (Nat.lt_of_lt_of_le g2 k.1.hs) (fun e=>by rcases h.fro g e v hv with h' | h' <;> omega) (by omega)) (by rw [hsz]; omega),k.2⟩
 ·have ho2:=Nx (V':=V3.setCell ⟨rb,j,none⟩ u) ho fun g hg'=>heap_setCell_other _ _ _ _ (by
   rcases hblk g hg' with e | e
   ·exact hne g e
   ·show g≠rb; omega)
  simpa [Cu] using ho2
 ·have:=hf.hs;rcases List.mem_cons.1 hv with rfl | hv
  ·rcases hblk g hg' with e | e
   ·have:=(hfb g e).2; omega
   ·omega
  ·rcases hblk g hg' with e | e
   ·exact h.fro g e v hv
   ·have:=(h.stk v hv).1.hs; omega
 ·obtain⟨cs2,hr2⟩:=Ir h.fr e;rcases ht with rfl | rfl
  ·exact Zat hr2 hr' (by decide) rfl
  ·exact Zat hr2 hr' (by decide) rfl
 ·rcases List.mem_cons.1 hv with rfl | hv
  ·omega
  ·exact hN.1 v hv
 ·obtain⟨cs2,hr2⟩:=Ir h.fr e;exact Zat hr2 hr' (fun e=>ht e.symm) rfl
end
set_option maxHeartbeats 4000000
set_option maxRecDepth 100000
def Zgr (s:ByteArray):Int:=match Ns s with
 | .ok _=>0
 | .error (n,_)=>n
def dAt (s:ByteArray):Int:=match Ns s with
 | .ok _=>-1
 | .error (_,q)=>q
def Zam (s:ByteArray):Zk:=match Ns s with
 | .ok p=>p
 | .error _=>⟨[],[]⟩
def Zqj (w:World)(v:Value)(n a:Int):Prop:=(v=.nilIface∧n=0∧a=-1)∨∃ g,v=.iface 130 (.pointer (some ⟨g,0,none⟩))∧w.heap[g]?=some (.cells #[.iface 127 (.int .i64 n),.int .i64 (-1),.int .i64 (-1),.int .i64 a] 133 (0,0))
theorem Zqj.keep {w w':World}{v:Value}{n a:Int}(h:Zqj w v n a)(hk:∀ k,k<w.heap.size->w'.heap[k]?=w.heap[k]?):Zqj w' v n a:=by
 rcases h with h | ⟨g,h1,h2⟩
 ·exact Or.inl h
 ·exact Or.inr ⟨g,h1,(hk g (Zi h2)).trans h2⟩
def Ygj (s:ByteArray)(w:World)(e:Ending)(w':World):Prop :=
 Below w.heap.size w w'∧∃ fv ev x,e=.returned (.tuple #[.agg #[fv,ev],x])∧Ov w' w.heap.size (.agg #[fv,ev]) (Zam s)∧Zqj w' x (Zgr s) (dAt s)∧∀ g,x=.iface 130 (.pointer (some ⟨g,0,none⟩))->w.heap.size<=g
theorem Zqk (s:ByteArray)(hs:s.size<=4000)(hon:OnD s)(w:World)(hN:Zp w)(h1:2<w.heap.size):Calls Tryz.prog 49 #[.string s] w (Ygj s w):=by
 refine(Zqi s hs hon w hN h1).mono ?_;rintro e w' ⟨hb,hm⟩;refine⟨hb,?_⟩;unfold Zam Zgr dAt;cases ho:Ns s with
 | ok p=>rw [ho] at hm;obtain⟨v,rfl,fv,ev,rfl,h2,h3⟩:=hm;exact⟨fv,ev,_,rfl,⟨fv,ev,rfl,h2,h3⟩,Or.inl ⟨rfl,rfl,rfl⟩,fun g h=>by cases h⟩
 | error r=>obtain⟨n,q⟩:=r;rw [ho] at hm;obtain⟨g,rfl,h2,h3⟩:=hm;exact⟨_,_,_,rfl,⟨_,_,rfl,Xh.nil _ _ _ _ _,Xh.nil _ _ _ _ _⟩,Or.inr ⟨g,rfl,h2⟩,fun g' h=>by injection h with _ h; injection h with h; injection h with h; injection h with h; omega⟩
theorem Dm {P:Program}{fn:Func}{u q:Tmp}{uy:TypeId}(h:fn.results=#[.cell q uy,.tmp u])(tmps:Array Value)(w:World)(g':Nat)(t':TypeId)(cs':Array Value)(fr':Nat×Nat)(d':TypeDesc)
 (hp':tmps.getD q undef=.pointer (some ⟨g',0,none⟩)) (hg':w.heap[g']?=some (.cells cs' t' fr')) (hu':P.underlying uy=some d') (hd':(match d' with | .struct _ | .array _ _=>true | _=>false)=true) (hi':(P.info? uy).map (·.size)=some cs'.size) :
 (results fn tmps).run P w=.ok (.tuple #[.agg cs',tmps.getD u undef]) w:=by
 have e2:tmps[q]?.getD undef=.pointer (some ⟨g',0,none⟩):=by simpa using hp'
 simp [results,h,e2,asAddr,run_loadVar_row w g' t' uy cs' fr' d' hg' hu' hd' hi']
theorem Zeo {P:Program}{fn:Func}{p q:Tmp}{px uy:TypeId}(h:fn.results=#[.cell p px,.cell q uy])(tmps:Array Value)(w:World)(g:Nat)(t:TypeId)(cs:Array Value)(fr:Nat×Nat)(d:TypeDesc)(g':Nat)(t':TypeId)(cs':Array Value)(fr':Nat×Nat)(d':TypeDesc)
 (hp:tmps.getD p undef=.pointer (some ⟨g,0,none⟩)) (hg:w.heap[g]?=some (.cells cs t fr)) (hu:P.underlying px=some d) (hd:(match d with | .struct _ | .array _ _=>true | _=>false)=true) (hi:(P.info? px).map (·.size)=some cs.size)
 (hp':tmps.getD q undef=.pointer (some ⟨g',0,none⟩)) (hg':w.heap[g']?=some (.cells cs' t' fr')) (hu':P.underlying uy=some d') (hd':(match d' with | .struct _ | .array _ _=>true | _=>false)=true) (hi':(P.info? uy).map (·.size)=some cs'.size) :
 (results fn tmps).run P w=.ok (.tuple #[.agg cs,.agg cs']) w:=by
 have e1:tmps[p]?.getD undef=.pointer (some ⟨g,0,none⟩):=by simpa using hp
 have e2:tmps[q]?.getD undef=.pointer (some ⟨g',0,none⟩):=by simpa using hp'
 simp [results,h,e1,e2,asAddr,run_loadVar_row w g t px cs fr d hg hu hd hi,run_loadVar_row w g' t' uy cs' fr' d' hg' hu' hd' hi']
theorem Zql (s:ByteArray)(hs:s.size<=4000)(hon:OnD s)(w:World)(hN:Zp w)(h1:2<w.heap.size):Calls Tryz.prog 34 #[.string s] w (Ygj s w):=by
 have HN:=Zd hN;clear hN;go_enter Tryz.func34,Tryz.ntmps34
 go_wp2_with fail
 have hbl:Below w.heap.size w (w.alloc (.cells #[.slice none 0 0,.slice none 0 0] 62)):=by go_grown
 have hr:(w.alloc (.cells #[.slice none 0 0,.slice none 0 0] 62)).heap[w.heap.size]?=some (.cells #[.slice none 0 0,.slice none 0 0] 62 (0,0)):=heap_alloc_new _ _;have hsz:(w.alloc (.cells #[.slice none 0 0,.slice none 0 0] 62)).heap.size=w.heap.size+1:=by simp
 generalize w.alloc _=W at hbl hr hsz ⊢;refine(Zqk s hs hon W ((Za HN).below h1 hbl) (by omega)).mono ?_;rintro e w1 ⟨hb1,fv,ev,x,rfl,hP,hE,hx⟩;have hz:=hb1.size;have HROW:=Zd ((hb1.block _ (by omega)).trans hr);have HB:=Zd (hbl.trans (⟨hb1.os,hb1.tape,hb1.output,hb1.size,fun q hq=>hb1.block q (by omega)⟩:Below w.heap.size W w1));obtain⟨fv',ev',e0,hf,he⟩:=hP;injection e0 with e0;injection e0 with e0;injection e0 with e1 e2;injection e2 with e2;subst e1 e2;have HP:=Zd (show Ov w1 W.heap.size (.agg #[fv,ev]) (Zam s) from⟨fv,ev,rfl,hf,he⟩);have HE:=Zd hE;have HX:=Zd hx;obtain⟨p1,c1,s1⟩:=hf.shape;obtain⟨p2,c2,s2⟩:=he.shape;generalize (Zam s).funcs.length=n1 at s1;generalize (Zam s).externs.length=n2 at s2;subst s1 s2;clear hE hx hf he hr hbl hb1;go_wp2_with (refine wpList_store_row rfl 62 (.tmp 2) (.tmp 6) rfl w.heap.size #[.slice p1 n1 c1,.slice p2 n2 c2] rfl rfl 62 _ (Za HROW) (Tryz.infProgD.trans rfl) rfl (by simp [Value.oneCell']) ?_)
 refine bodyPost_ret (Dm (fn:=Tryz.f34) (u:=3) (q:=2) (uy:=62) rfl _ _ w.heap.size 62 #[.slice p1 n1 c1,.slice p2 n2 c2] (0,0) _ rfl (setRow_heap _ _ _ _ _ _ (Za HROW)) Tryz.underlying62 rfl (Tryz.infProgD.trans rfl)) rfl ?_;refine⟨below_setRow (Za HB) (Nat.le_refl _) _,_,_,_,rfl,(Za HP).keep (by omega) (Js _ _ _ _ (by omega)),?_,fun g hg=>by have:=Za HX g hg; omega⟩;rcases Za HE with h | ⟨g,h2,h3⟩
 ·exact Or.inl h
 ·have:=Za HX g h2;exact Or.inr ⟨g,h2,(setRow_other _ _ _ _ (by omega)).trans h3⟩
theorem Zyt (x:Value)(n a:Int)(w:World)(hE:Yd w)(h:Zqj w x n a):Calls Tryz.prog 26 #[x] w fun e w'=>e=.returned (.agg #[.int .i64 n,.int .i64 (-1),.int .i64 (-1),.int .i64 a])∧Below w.heap.size w w':=by
 rcases h with⟨rfl,rfl,rfl⟩ | ⟨g,rfl,h2⟩
 ·exact Md w
 ·exact Zao n (-1) (-1) a g w hE ⟨(cR h2 0),(cR h2 1),(cR h2 2),(cR h2 3)⟩
def Yds (s:ByteArray)(w:World)(e:Ending)(w':World):Prop :=
 Below w.heap.size w w'∧∃ fv ev,e=.returned (.tuple #[.agg #[fv,ev],.agg #[.int .i64 (Zgr s),.int .i64 (-1),.int .i64 (-1),.int .i64 (dAt s)]])∧Ov w' w.heap.size (.agg #[fv,ev]) (Zam s)
theorem Zls (s:ByteArray)(hs:s.size<=4000)(hon:OnD s)(w:World)(hE:Yd w)(hN:Zp w)(h1:2<w.heap.size):Calls Tryz.prog 21 #[.string s] w (Yds s w):=by
 have HN:=Zd hN;have HET:=Zd hE;clear hN hE;go_enter Tryz.func21,Tryz.ntmps21
 go_wp2_with fail
 have hbl:Below w.heap.size w ((w.alloc (.cells #[.slice none 0 0,.slice none 0 0] 62)).alloc (.cells #[.int .i64 0,.int .i64 0,.int .i64 0,.int .i64 0] 29)):=by go_grown
 have hr0:((w.alloc (.cells #[.slice none 0 0,.slice none 0 0] 62)).alloc (.cells #[.int .i64 0,.int .i64 0,.int .i64 0,.int .i64 0] 29)).heap[w.heap.size]?=some (.cells #[.slice none 0 0,.slice none 0 0] 62 (0,0)):=heap_alloc2_old _ _ _;have hr1:((w.alloc (.cells #[.slice none 0 0,.slice none 0 0] 62)).alloc (.cells #[.int .i64 0,.int .i64 0,.int .i64 0,.int .i64 0] 29)).heap[w.heap.size+1]?=some (.cells #[.int .i64 0,.int .i64 0,.int .i64 0,.int .i64 0] 29 (0,0)):=heap_alloc2_new _ _ _;have hsz:((w.alloc (.cells #[.slice none 0 0,.slice none 0 0] 62)).alloc (.cells #[.int .i64 0,.int .i64 0,.int .i64 0,.int .i64 0] 29)).heap.size=w.heap.size+1+1:=by simp
 generalize (w.alloc _).alloc _=W at hbl hr0 hr1 hsz ⊢;refine(Zql s hs hon W ((Za HN).below h1 hbl) (by omega)).mono ?_;rintro e w1 ⟨hb1,fv,ev,x,rfl,hP,hE,hx⟩;have hz:=hb1.size;obtain⟨fv',ev',e0,hf,he⟩:=hP;injection e0 with e0;injection e0 with e0;injection e0 with e1 e2;injection e2 with e2;subst e1 e2;have HP:=Zd (show Ov w1 W.heap.size (.agg #[fv,ev]) (Zam s) from⟨fv,ev,rfl,hf,he⟩);obtain⟨p1,c1,s1⟩:=hf.shape;obtain⟨p2,c2,s2⟩:=he.shape;generalize (Zam s).funcs.length=n1 at s1;generalize (Zam s).externs.length=n2 at s2;subst s1 s2;have HBW:=Zd (hbl.trans (⟨hb1.os,hb1.tape,hb1.output,hb1.size,fun q hq=>hb1.block q (by omega)⟩:Below w.heap.size W w1));have HQ0:=Zd ((hb1.block _ (by omega)).trans hr0);have HQ1:=Zd ((hb1.block _ (by omega)).trans hr1);have HEV:=Zd hE;clear hE hx hf he hr0 hr1 hbl hb1;go_wp2_with fail
 have hal:=(Below.refl w1.heap.size w1).alloc (Nat.le_refl _) (.cells #[.slice p1 n1 c1,.slice p2 n2 c2] 62 (0,0));have h4:(w1.alloc (.cells #[.slice p1 n1 c1,.slice p2 n2 c2] 62 (0,0))).heap[w1.heap.size]?=_:=heap_alloc_new _ _;have hz4:(w1.alloc (.cells #[.slice p1 n1 c1,.slice p2 n2 c2] 62 (0,0))).heap.size=w1.heap.size+1:=by simp
 generalize w1.alloc _=V at hal h4 hz4 ⊢;have d0:=(cR h4 0);have d1:=(cR h4 1);have hbV:Below w.heap.size w V:=(Za HBW).trans ⟨hal.os,hal.tape,hal.output,hal.size,fun q hq=>hal.block q (by omega)⟩;have hET:Yd V.drew:=((Za HET).below hbV (show 0<w.heap.size by omega)).drew;have hEV:Zqj V.drew x (Zgr s) (dAt s):=(Za HEV).keep (fun k hk=>hal.block k hk);have HF:=Zd (show Calls Tryz.prog 26 #[x] V.drew (fun e w5=>e=.returned (.agg #[.int .i64 (Zgr s),.int .i64 (-1),.int .i64 (-1),.int .i64 (dAt s)])∧w5.heap[w1.heap.size]?=some (.cells #[.slice p1 n1 c1,.slice p2 n2 c2] 62 (0,0))∧w5.heap[w.heap.size]?=some (.cells #[.slice none 0 0,.slice none 0 0] 62 (0,0))∧w5.heap[w.heap.size+1]?=some (.cells #[.int .i64 0,.int .i64 0,.int .i64 0,.int .i64 0] 29 (0,0))∧Below w.heap.size w w5∧Ja W.heap.size w1 w5) from(Zyt x _ _ V.drew hET hEV).mono (by
  rintro e w5 ⟨rfl,hb5⟩;have hk:∀ k,k<V.heap.size->w5.heap[k]?=V.heap[k]?:=fun k hk=>hb5.block k hk;refine⟨rfl,(hk w1.heap.size (by omega)).trans h4,(hk w.heap.size (by omega)).trans ((hal.block w.heap.size (by omega)).trans (Za HQ0)),(hk (w.heap.size+1) (by omega)).trans ((hal.block (w.heap.size+1) (by omega)).trans (Za HQ1)),hbV.trans ⟨hb5.os,hb5.tape,hb5.output,hb5.size,fun q hq=>hk q (by omega)⟩,fun k h1 h2=>(hk k (by omega)).trans (hal.block k h2)⟩))
 clear hET hEV HEV HQ0 HQ1 hbV hal;have HDV:=Zd (show Yds s w=Yds s w from rfl);generalize hen:Zgr s=en at HF;generalize hea:dAt s=ea at HF;have HEN:=Zd hen;have HEA:=Zd hea;clear hen hea;go_region_with (go_at_call 26; refine(Za HF).mono ?_; rintro e w5 ⟨rfl,q4,q2,q3,hB5,hK5⟩; have b0:=(cR q4 0); have b1:=(cR q4 1); have b2:=(cR q2 0); have b3:=(cR q2 1); have b4:∀ j,w5.frozen? ⟨w.heap.size,j,none⟩=false:=fun j=>frozen_of_row _ _ _ _ _ q2; have r0:=(cR q3 0); have r1:=(cR q3 1); have r2:=(cR q3 2); have r3:=(cR q3 3); have r4:∀ j,w5.frozen? ⟨w.heap.size+1,j,none⟩=false:=fun j=>frozen_of_row _ _ _ _ _ q3; have HQ2:=Zd q2; have HQ3:=Zd q3; have HB5:=Zd hB5; have HK5:=Zd hK5; clear q4 q2 q3 hB5 hK5)
 all_goals
  have hx0:((((((w5.setCell ⟨w.heap.size,0,none⟩ (.slice p1 n1 c1)).setCell ⟨w.heap.size,1,none⟩ (.slice p2 n2 c2)).setCell ⟨w.heap.size+1,0,none⟩ (.int .i64 en)).setCell ⟨w.heap.size+1,1,none⟩ (.int .i64 (-1))).setCell ⟨w.heap.size+1,2,none⟩ (.int .i64 (-1))).setCell ⟨w.heap.size+1,3,none⟩ (.int .i64 ea)).heap[w.heap.size]?=some (.cells #[.slice p1 n1 c1,.slice p2 n2 c2] 62 (0,0)):=(heap_setCell_other _ _ _ _ (by show w.heap.size≠w.heap.size+1; omega)).trans ((heap_setCell_other _ _ _ _ (by show w.heap.size≠w.heap.size+1; omega)).trans ((heap_setCell_other _ _ _ _ (by show w.heap.size≠w.heap.size+1; omega)).trans ((heap_setCell_other _ _ _ _ (by show w.heap.size≠w.heap.size+1; omega)).trans (heap_setCell_same _ _ 1 _ _ (.slice p2 n2 c2) (heap_setCell_same _ _ 0 _ _ (.slice p1 n1 c1) (Za HQ2))))));have hx1:((((((w5.setCell ⟨w.heap.size,0,none⟩ (.slice p1 n1 c1)).setCell ⟨w.heap.size,1,none⟩ (.slice p2 n2 c2)).setCell ⟨w.heap.size+1,0,none⟩ (.int .i64 en)).setCell ⟨w.heap.size+1,1,none⟩ (.int .i64 (-1))).setCell ⟨w.heap.size+1,2,none⟩ (.int .i64 (-1))).setCell ⟨w.heap.size+1,3,none⟩ (.int .i64 ea)).heap[w.heap.size+1]?=some (.cells #[.int .i64 en,.int .i64 (-1),.int .i64 (-1),.int .i64 ea] 29 (0,0)):=heap_setCell_same _ _ 3 _ _ (.int .i64 ea) (heap_setCell_same _ _ 2 _ _ (.int .i64 (-1)) (heap_setCell_same _ _ 1 _ _ (.int .i64 (-1)) (heap_setCell_same _ _ 0 _ _ (.int .i64 en) ((heap_setCell_other _ _ _ _ (by show w.heap.size+1≠w.heap.size; omega)).trans ((heap_setCell_other _ _ _ _ (by show w.heap.size+1≠w.heap.size; omega)).trans (Za HQ3))))))
  have hbX:Below w.heap.size w ((((((w5.setCell ⟨w.heap.size,0,none⟩ (.slice p1 n1 c1)).setCell ⟨w.heap.size,1,none⟩ (.slice p2 n2 c2)).setCell ⟨w.heap.size+1,0,none⟩ (.int .i64 en)).setCell ⟨w.heap.size+1,1,none⟩ (.int .i64 (-1))).setCell ⟨w.heap.size+1,2,none⟩ (.int .i64 (-1))).setCell ⟨w.heap.size+1,3,none⟩ (.int .i64 ea)):=Zy (Zy (Zy (Zy (Zy (Zy (Za HB5) (Nat.le_refl _) _) (Nat.le_refl _) _) (by omega) _) (by omega) _) (by omega) _) (by omega) _;have hkX:Ja W.heap.size w1 ((((((w5.setCell ⟨w.heap.size,0,none⟩ (.slice p1 n1 c1)).setCell ⟨w.heap.size,1,none⟩ (.slice p2 n2 c2)).setCell ⟨w.heap.size+1,0,none⟩ (.int .i64 en)).setCell ⟨w.heap.size+1,1,none⟩ (.int .i64 (-1))).setCell ⟨w.heap.size+1,2,none⟩ (.int .i64 (-1))).setCell ⟨w.heap.size+1,3,none⟩ (.int .i64 ea)):=Lb (Lb (Lb (Lb (Lb (Lb (Za HK5) (by omega) _) (by omega) _) (by omega) _) (by omega) _) (by omega) _) (by omega) _;clear b0 b1 b2 b3 b4 r0 r1 r2 r3 r4 HQ2 HQ3 HF HB5 HK5 d0 d1 h4;generalize (((((w5.setCell ⟨w.heap.size,0,none⟩ (.slice p1 n1 c1)).setCell ⟨w.heap.size,1,none⟩ (.slice p2 n2 c2)).setCell ⟨w.heap.size+1,0,none⟩ (.int .i64 en)).setCell ⟨w.heap.size+1,1,none⟩ (.int .i64 (-1))).setCell ⟨w.heap.size+1,2,none⟩ (.int .i64 (-1))).setCell ⟨w.heap.size+1,3,none⟩ (.int .i64 ea)=X at hx0 hx1 hbX hkX ⊢;have HX0:=Zd hx0;have HX1:=Zd hx1;clear hx0 hx1;go_wp2;refine bodyPost_ret (Zeo (fn:=Tryz.f21) (p:=2) (q:=3) (px:=62) (uy:=29) rfl _ _ w.heap.size 62 #[.slice p1 n1 c1,.slice p2 n2 c2] (0,0) _ (w.heap.size+1) 29 #[.int .i64 en,.int .i64 (-1),.int .i64 (-1),.int .i64 ea] (0,0) _ rfl (Za HX0) Tryz.underlying62 rfl (Tryz.infProgD.trans rfl) rfl (Za HX1) Tryz.underlying29 rfl (Tryz.infFltE.trans rfl)) rfl ?_
  exact⟨hbX,_,_,by rw [Za HEN,Za HEA],(Za HP).keep (by omega) hkX⟩
def prL (x:Gq):List Value:=[.int .i64 x.1.1,.int .i64 x.1.2,.int .i64 x.2.1,.int .i64 x.2.2]
def Kq (xs:List Gq):List Value:=xs.flatMap prL
theorem Zds (xs:List Gq)(x:Gq):Kq (xs++[x])=Kq xs++prL x:=by simp [Kq]
theorem Iy:∀(xs:List Gq) (k j:Nat),k<xs.length->j<4->(Kq xs)[k*4+j]?=(prL (xs.getD k Ru))[j]?
 | a :: r,0,j,_,hj=>by
  have e:Kq (a :: r)=prL a++Kq r:=rfl;rw [e,Nat.zero_mul,Nat.zero_add,List.getElem?_append_left (by simp [prL]; omega)];rfl
 | a :: r,k+1,j,h,hj=>by
  have e:Kq (a :: r)=prL a++Kq r:=rfl;have ih:=Iy r k j (by simpa using h) hj;rw [e,List.getElem?_append_right (by simp [prL]; omega),show(k+1)*4+j-(prL a).length=k*4+j by simp [prL]; omega,ih];simp [List.getD]
theorem Zcg {w:World}{B e:Nat}{v:Value}{xs:List Gq}(h:w.ownsRow B e 4 v xs.length (Kq xs)){k:Nat}(hk:k<xs.length):∃ g c,v=.slice (some ⟨g,0,none⟩) xs.length c∧v.ownBlock=some g∧B<=g∧g<w.heap.size∧w.cell? ⟨g,k*4,none⟩=some (.int .i64 (xs.getD k Ru).1.1)∧w.cell? ⟨g,k*4+1,none⟩=some (.int .i64 (xs.getD k Ru).1.2)∧w.cell? ⟨g,k*4+2,none⟩=some (.int .i64 (xs.getD k Ru).2.1)∧w.cell? ⟨g,k*4+3,none⟩=some (.int .i64 (xs.getD k Ru).2.2):=by
 obtain⟨g,c,e,hB,hl,hc⟩:=Sg h (by omega);refine⟨g,c,e,by rw [e]; rfl,hB,hl,?_,?_,?_,?_⟩
 ·exact(hc _ (by omega)).trans (Iy xs k 0 hk (by omega))
 ·exact(hc _ (by omega)).trans (Iy xs k 1 hk (by omega))
 ·exact(hc _ (by omega)).trans (Iy xs k 2 hk (by omega))
 ·exact(hc _ (by omega)).trans (Iy xs k 3 hk (by omega))
def wkA (T:Yc)(lv:Value)(mr:Nat)(mv:Value):Array Value:=#[.int .i64 T.r,.int .i64 T.sp,.int .i64 T.lk,.int .i64 T.t0,.int .i64 T.t1,.slice T.pa T.ag.length T.ca,.slice T.pr T.rs.length T.cr,.slice T.ps T.ss.length T.cs,.int .i64 T.al,.int .i64 T.sh,.int .i64 T.br,.bool T.pairs,lv,.map (some mr),mv]
structure Uk (w:World)(B b mr:Nat)(T:Yc)(lv mv:Value)(x:Ce)(N:Nat):Prop where
 row:w.heap[b]?=some (.cells (wkA T lv mr mv) 213 (0,0))
 lo:w.ownsRow B 36 4 lv x.left.length (Kq x.left)
 mo:w.ownsRow B 36 4 mv x.made.length (Kq x.made)
 ne:∀ g,lv.ownBlock=some g->mv.ownBlock≠some g
 mp:∃ o m,w.heap[mr]?=some o∧MpO o m∧∀ q,Kc m q=x.rd q
 bd:∀ q,-(N:Int)<=x.rd q∧x.rd q<=N
 ll:x.left.length<=64
 ml:x.made.length<=N
 hb:B<=b
 hm:B<=mr
section
variable {w w':World} {B b mr:Nat} {T:Yc} {lv mv:Value} {x:Ce} {N:Nat}
theorem Uk.lt (h:Uk w B b mr T lv mv x N):b<w.heap.size∧mr<w.heap.size:=by
 obtain⟨o,m,h1,-⟩:=h.mp;exact⟨Zi h.row,by
  rcases Nat.lt_or_ge mr w.heap.size with h' | h'
  ·exact h'
  ·rw [Array.getElem?_eq_none h'] at h1; cases h1⟩
theorem Uk.below (h:Uk w B b mr T lv mv x N)(hb:Below w.heap.size w w'):Uk w' B b mr T lv mv x N:=by obtain⟨o,m,h1,h2,h3⟩:=h.mp;exact⟨(hb.block b h.lt.1).trans h.row,Xc h.lo (Jj (o:=none) hb) (fun g _ e=>by cases e),Xc h.mo (Jj (o:=none) hb) (fun g _ e=>by cases e),h.ne,⟨o,m,(hb.block mr h.lt.2).trans h1,h2,h3⟩,h.bd,h.ll,h.ml,h.hb,h.hm⟩
theorem Uk.more (h:Uk w B b mr T lv mv x N){N':Nat}(hN:N<=N'):Uk w B b mr T lv mv x N':=⟨h.row,h.lo,h.mo,h.ne,h.mp,fun q=>by have:=h.bd q; omega,h.ll,Nat.le_trans h.ml hN,h.hb,h.hm⟩
theorem Zch {V:World}{A n size:Nat}{e:TypeId}{v:Value}{xs:List Value}(h:V.ownsRow A e size v n xs){g:Nat}(hg:v.ownBlock=some g):∃ cs,V.heap[g]?=some (.cells cs e (0,0)):=by
 rcases h.2 with⟨rfl,-⟩ | ⟨g',cap,cur,rfl,-,h3,-⟩
 ·cases hg
 ·injection hg with hg;subst hg;exact⟨cur,h3⟩
theorem Uk.nob (h:Uk w B b mr T lv mv x N){A n:Nat}{v:Value}{xs:List Value}(ho:w.ownsRow A 36 4 v n xs):v.ownBlock≠some b∧v.ownBlock≠some mr:=by
 refine⟨fun e=>?_,fun e=>?_⟩
 ·obtain⟨cs,h2⟩:=Zch ho e;rw [h.row] at h2;injection h2 with h2;injection h2 with _ h2;exact absurd h2 (by decide)
 ·obtain⟨cs,h2⟩:=Zch ho e;obtain⟨o,m,h1,⟨es,ck,rfl,-⟩,-⟩:=h.mp;rw [h1] at h2;injection h2 with h2;cases h2
theorem Uk.made (h:Uk w B b mr T lv mv x N){w7:World}{v7:Value}{p:Gq}(hg:w.grownBy w7 mv.ownBlock)(ho:w7.ownsRow B 36 4 v7 (x.made.length+1) (Kq x.made++prL p))(hk:∀ g,v7.ownBlock=some g->mv.ownBlock=some g∨w.heap.size<=g) :
 w7.heap[b]?=some (.cells (wkA T lv mr mv) 213 (0,0))∧Uk (w7.setCell ⟨b,14,none⟩ v7) B b mr T lv v7 { x with made:=x.made++[p] } (N+1):=by
 have hlt:=h.lt;obtain⟨n1,n2⟩:=h.nob h.mo;obtain⟨n3,n4⟩:=h.nob h.lo;have hr7:=(hg.block b hlt.1 (fun e=>n1 e.symm)).trans h.row;obtain⟨o,m,h1,h2,h3⟩:=h.mp;have hm7:=(hg.block mr hlt.2 (fun e=>n2 e.symm)).trans h1;have hbm:mr≠b:=fun e=>by
  obtain⟨es,ck,rfl,-⟩:=h2;rw [e,h.row] at h1;injection h1 with h1;cases h1
 have hl7:w7.ownsRow B 36 4 lv x.left.length (Kq x.left):=Xc h.lo hg (fun g hv e=>h.ne g hv e);have keep:∀{v:Value} {n:Nat} {xs:List Value},w7.ownsRow B 36 4 v n xs->(w7.setCell ⟨b,14,none⟩ v7).ownsRow B 36 4 v n xs:=fun{v n xs} hv=>by
  refine Xc hv (o:=some b) (Uo (Ot w7 _)) (fun g hg' e=>?_);injection e with e;subst e;obtain⟨cs,h2⟩:=Zch hv hg';rw [hr7] at h2;injection h2 with h2;injection h2 with _ h2;exact absurd h2 (by decide)
 refine⟨hr7,heap_setCell_same _ _ 14 _ _ _ hr7,keep hl7,?_,fun g hg' e=>?_,⟨o,m,(heap_setCell_other _ _ _ _ hbm).trans hm7,h2,h3⟩,fun q=>?_,h.ll,?_,h.hb,h.hm⟩
 ·show(w7.setCell ⟨b,14,none⟩ v7).ownsRow B _ 4 v7 (x.made++[p]).length (Kq (x.made++[p]));rw [Zds,List.length_append];exact keep ho
 ·rcases hk g e with e2 | e2
  ·exact h.ne g hg' e2
  ·have:=(h.lo.lt g hg').2; omega
 ·have:=h.bd q;show -((N+1:Nat):Int)<=x.rd q∧x.rd q<=((N+1:Nat):Int);omega
 ·show(x.made++[p]).length<=N+1;have:=h.ml;simp
  omega
theorem Uk.lefA (h:Uk w B b mr T lv mv x N){w7:World}{v7:Value}{p:Gq}(hg:w.grownBy w7 lv.ownBlock)(ho:w7.ownsRow B 36 4 v7 (x.left.length+1) (Kq x.left++prL p))(hk:∀ g,v7.ownBlock=some g->lv.ownBlock=some g∨w.heap.size<=g)(hl:x.left.length<64) :
 w7.heap[b]?=some (.cells (wkA T lv mr mv) 213 (0,0))∧Uk (w7.setCell ⟨b,12,none⟩ v7) B b mr T v7 mv { x with left:=x.left++[p] } N:=by
 have hlt:=h.lt;obtain⟨n1,n2⟩:=h.nob h.lo;have hr7:=(hg.block b hlt.1 (fun e=>n1 e.symm)).trans h.row;obtain⟨o,m,h1,h2,h3⟩:=h.mp;have hm7:=(hg.block mr hlt.2 (fun e=>n2 e.symm)).trans h1;have hbm:mr≠b:=fun e=>by
  obtain⟨es,ck,rfl,-⟩:=h2;rw [e,h.row] at h1;injection h1 with h1;cases h1
 have hl7:w7.ownsRow B 36 4 mv x.made.length (Kq x.made):=Xc h.mo hg (fun g hv e=>h.ne g e hv);have keep:∀{v:Value} {n:Nat} {xs:List Value},w7.ownsRow B 36 4 v n xs->(w7.setCell ⟨b,12,none⟩ v7).ownsRow B 36 4 v n xs:=fun{v n xs} hv=>by
  refine Xc hv (o:=some b) (Uo (Ot w7 _)) (fun g hg' e=>?_);injection e with e;subst e;obtain⟨cs,h2⟩:=Zch hv hg';rw [hr7] at h2;injection h2 with h2;injection h2 with _ h2;exact absurd h2 (by decide)
 refine⟨hr7,heap_setCell_same _ _ 12 _ _ _ hr7,?_,keep hl7,fun g hg' e=>?_,⟨o,m,(heap_setCell_other _ _ _ _ hbm).trans hm7,h2,h3⟩,h.bd,?_,h.ml,h.hb,h.hm⟩
 ·show(w7.setCell ⟨b,12,none⟩ v7).ownsRow B _ 4 v7 (x.left++[p]).length (Kq (x.left++[p]));rw [Zds,List.length_append];exact keep ho
 ·rcases hk g hg' with e2 | e2
  ·exact h.ne g e2 e
  ·have:=(h.mo.lt g e).2; omega
 ·show(x.left++[p]).length<=64;simp
  omega
theorem Uk.map (h:Uk w B b mr T lv mv x N){V:World}(hV:∀ g,g≠mr->V.heap[g]?=w.heap[g]?){o2:Obj}{m2:List (Lq×Int)}(ho:V.heap[mr]?=some o2)(hm:MpO o2 m2){rd:Lq->Int}(hr:∀ q,Kc m2 q=rd q)(hb:∀ q,rd q<=x.rd q+1∧x.rd q-1<=rd q):Uk V B b mr T lv mv { x with rd:=rd } (N+1):=by
 have hbm:b≠mr:=fun e=>by
  obtain⟨o,m,h1,⟨es,ck,rfl,-⟩,-⟩:=h.mp;rw [← e,h.row] at h1;injection h1 with h1;cases h1
 have keep:∀{v:Value} {n:Nat} {xs:List Value},w.ownsRow B 36 4 v n xs->V.ownsRow B 36 4 v n xs:=fun{v n xs} hv=>by
  have hnm:=(h.nob hv).2;rcases hv.2 with⟨e,e0⟩ | ⟨g,cap,cur,e,a1,a2,a3⟩
  ·exact⟨hv.1,Or.inl ⟨e,e0⟩⟩
  ·refine⟨hv.1,Or.inr ⟨g,cap,cur,e,a1,(hV g (fun e2=>hnm (by rw [e,e2]; rfl))).trans a2,a3⟩⟩
 refine⟨(hV b hbm).trans h.row,keep h.lo,keep h.mo,h.ne,⟨o2,m2,ho,hm,hr⟩,fun q=>?_,h.ll,Nat.le_trans h.ml (Nat.le_succ _),h.hb,h.hm⟩;have h1:=h.bd q;have h2:=hb q;show -((N+1:Nat):Int)<=rd q∧rd q<=((N+1:Nat):Int);omega
theorem Uk.lefS (h:Uk w B b mr T lv mv x N){tv:Value}{l:List Gq}(ho:w.ownsRow B 36 4 tv l.length (Kq l))(hn:∀ g,tv.ownBlock=some g->mv.ownBlock≠some g)(hl:l.length<=64):Uk (w.setCell ⟨b,12,none⟩ tv) B b mr T tv mv { x with left:=l } N:=by
 obtain⟨o,m,h1,h2,h3⟩:=h.mp;have hbm:mr≠b:=fun e=>by
  obtain⟨es,ck,rfl,-⟩:=h2;rw [e,h.row] at h1;injection h1 with h1;cases h1
 have keep:∀{v:Value} {n:Nat} {xs:List Value},w.ownsRow B 36 4 v n xs->(w.setCell ⟨b,12,none⟩ tv).ownsRow B 36 4 v n xs:=fun{v n xs} hv=>by
  refine Xc hv (o:=some b) (Uo (Ot w _)) (fun g hg' e=>?_);injection e with e;subst e;exact(h.nob hv).1 hg'
 exact⟨heap_setCell_same _ _ 12 _ _ _ h.row,keep ho,keep h.mo,hn,⟨o,m,(heap_setCell_other _ _ _ _ hbm).trans h1,h2,h3⟩,h.bd,hl,h.ml,h.hb,h.hm⟩
theorem Uk.other (h:Uk w B b mr T lv mv x N){V:World}{g:Nat}(hV:∀ q,q≠g->V.heap[q]?=w.heap[q]?)(h1:g≠b)(h2:g≠mr)(h3:lv.ownBlock≠some g)(h4:mv.ownBlock≠some g):Uk V B b mr T lv mv x N:=by
 have keep:∀{v:Value} {n:Nat} {xs:List Value},v.ownBlock≠some g->w.ownsRow B 36 4 v n xs->V.ownsRow B 36 4 v n xs:=fun{v n xs} hg hv=>by
  rcases hv.2 with⟨e,e0⟩ | ⟨g',cap,cur,e,a1,a2,a3⟩
  ·exact⟨hv.1,Or.inl ⟨e,e0⟩⟩
  ·exact⟨hv.1,Or.inr ⟨g',cap,cur,e,a1,(hV g' (fun e2=>hg (by rw [e,e2]; rfl))).trans a2,a3⟩⟩
 obtain⟨o,m,k1,k2,k3⟩:=h.mp;exact⟨(hV b (fun e=>h1 e.symm)).trans h.row,keep h3 h.lo,keep h4 h.mo,h.ne,⟨o,m,(hV mr (fun e=>h2 e.symm)).trans k1,k2,k3⟩,h.bd,h.ll,h.ml,h.hb,h.hm⟩
end
theorem Tryz.infoPr:(Tryz.prog.info? 36).map (fun i=>(i.zero,i.size,i.bytes))=some (some (.agg #[.int .i64 0,.int .i64 0,.int .i64 0,.int .i64 0]),4,32):=by kernel_rfl
set_option maxHeartbeats 8000000
set_option maxRecDepth 100000
theorem Zvs {V:World}{g:Nat}{cs:Array Value}{t:TypeId}{fr:Nat×Nat}(h:V.heap[g]?=some (.cells cs t fr)):∀ j u,cs.toList[j]?=some u->V.cell? (Addr.add ⟨g,0,none⟩ j)=some u:=fun j u hj=>by
 rw [Addr.add_lit,Nat.zero_add,Zl h j,← Array.getElem?_toList];exact hj
structure Kp2 (w w':World)(b:Nat)(o:Option Nat):Prop where
 os:w'.os=w.os
 tape:w'.tape=w.tape
 output:w'.output=w.output
 size:w.heap.size<=w'.heap.size
 blk:∀ g,g<w.heap.size->g≠b->o≠some g->w'.heap[g]?=w.heap[g]?
theorem Zdt {w w':World}{b:Nat}{o:Option Nat}(h:Below w.heap.size w w'):Kp2 w w' b o:=⟨h.os,h.tape,h.output,h.size,fun g hg _ _=>h.block g hg⟩
theorem Yau {w w' w2:World}{b:Nat}{o:Option Nat}(h:Kp2 w w' b o)(k:Below w'.heap.size w' w2):Kp2 w w2 b o:=⟨k.os.trans h.os,k.tape.trans h.tape,k.output.trans h.output,Nat.le_trans h.size k.size,fun g hg h1 h2=>(k.block g (Nat.lt_of_lt_of_le hg h.size)).trans (h.blk g hg h1 h2)⟩
def ApK (W w7:World)(o:Option Nat)(v7:Value):Prop:=(∀ g,g<W.heap.size->o≠some g->w7.heap[g]?=W.heap[g]?)∧w7.os=W.os∧w7.tape=W.tape∧w7.output=W.output∧W.heap.size<=w7.heap.size∧∀ g,v7.ownBlock=some g->o=some g∨W.heap.size<=g
theorem Zmq {w W w7:World}{b j:Nat}{o o':Option Nat}{v7 u:Value}(h:Kp2 w W b o)(k:ApK W w7 o' v7)(ho:∀ g,o'=some g->o=some g∨w.heap.size<=g):Kp2 w (w7.setCell ⟨b,j,none⟩ u) b o∧∀ g,v7.ownBlock=some g->o=some g∨w.heap.size<=g:=by
 obtain⟨k1,k2,k3,k4,k5,k6⟩:=k;refine⟨⟨k2.trans h.os,k3.trans h.tape,k4.trans h.output,by have:=h.size; simpa using Nat.le_trans this k5,fun g hg h1 h2=>?_⟩,fun g hg=>?_⟩
 ·refine(heap_setCell_other _ _ _ _ h1).trans ((k1 g (Nat.lt_of_lt_of_le hg h.size) (fun e=>?_)).trans (h.blk g hg h1 h2));rcases ho g e with e2 | e2
  ·exact h2 e2
  ·omega
 ·rcases k6 g hg with e | e
  ·exact ho g e
  ·exact Or.inr (Nat.le_trans h.size e)
def MvP (w:World)(B b mr:Nat)(T:Yc)(lv mv:Value)(x:Ce)(N:Nat)(w':World):Prop:=∃ mv',Uk w' B b mr T lv mv' x N∧Kp2 w w' b mv.ownBlock∧∀ g,mv'.ownBlock=some g->mv.ownBlock=some g∨w.heap.size<=g
theorem Yev (p:Gq)(w:World)(B b mr:Nat)(T:Yc)(lv mv:Value)(x:Ce)(N:Nat)(hS:Uk w B b mr T lv mv x N)(hN:N<=1000000)(hc1:Cx p.1=false) :
 Calls Tryz.prog 217 #[.pointer (some ⟨b,0,none⟩),.agg #[.int .i64 p.1.1,.int .i64 p.1.2,.int .i64 p.2.1,.int .i64 p.2.2]] w fun e w'=>(∃ v,e=.returned v)∧MvP w B b mr T lv mv { x with made:=x.made++mvL T.t0 p } (N+2) w':=by
 obtain⟨ti,hti,hty0,hty1,hty2⟩:=Gy Tryz.infoPr;obtain⟨mp,mc,rfl⟩:=Zv hS.mo;obtain⟨lp,lc,rfl⟩:=Zv hS.lo;obtain⟨r0,hb0,hz0⟩:=al0 w (.cells #[.int .i64 p.1.1,.int .i64 p.1.2,.int .i64 p.2.1,.int .i64 p.2.2] 36 (0,0));have HP:=O r0;have HK:=O (Zdt (b:=b) (o:=Value.ownBlock (Value.slice mp x.made.length mc)) hb0);have HO:=O (show ∀ g,Value.ownBlock (Value.slice mp x.made.length mc)=some g->Value.ownBlock (Value.slice mp x.made.length mc)=some g∨w.heap.size<=g from fun g h=>Or.inl h);have HNP:=O (show Value.ownBlock (Value.slice mp x.made.length mc)≠some w.heap.size from fun e=>by have:=(hS.mo.lt _ e).2; omega);have HS:=O (hS.below hb0);have HS0:=O hS;clear r0 hb0 hz0 hS;have HML:=O (show(Cx p.1&&Cx p.2)=false->mvL T.t0 p=[p] from fun h=>by unfold mvL; rw [h]; rfl);have HC1:=O hc1;clear hc1;go_enter Tryz.func217,Tryz.ntmps217
 go_wp2_with fail
 generalize World.alloc w _=W at HP HK HS ⊢;refine(Zju p.1 W).mono ?_;rintro e w1 ⟨rfl,hb1⟩;have HP1:=O ((hb1.block w.heap.size (Zi (J HP))).trans (J HP));have HK1:=O (Yau (J HK) hb1);have HS1:=O ((J HS).below hb1);clear hb1 HP HK HS;rw [J HC1];obtain⟨c0,c1,c2,c3⟩:=cT4 (J HP1);go_wp2_with fail
 clear c0 c1 c2 c3;have HC:=O (show(fun V:World=>V.cell? ⟨b,14,none⟩=some (Value.slice mp x.made.length mc)∧V.cell? ⟨w.heap.size,0,none⟩=some (.int .i64 p.1.1)∧V.cell? ⟨w.heap.size,1,none⟩=some (.int .i64 p.1.2)∧V.cell? ⟨w.heap.size,2,none⟩=some (.int .i64 p.2.1)∧V.cell? ⟨w.heap.size,3,none⟩=some (.int .i64 p.2.2)) w1.drew from⟨(cR (J HS1).row 14),(cR (J HP1) 0),(cR (J HP1) 1),(cR (J HP1) 2),(cR (J HP1) 3)⟩);have HCN:=O (show ∀ V:World,(∀ g,g<w1.heap.size->g≠b->(Value.slice mp x.made.length mc).ownBlock≠some g->V.heap[g]?=w1.heap[g]?)->V.cell? ⟨b,14,none⟩=some (Value.slice mp x.made.length mc)->(fun V:World=>V.cell? ⟨b,14,none⟩=some (Value.slice mp x.made.length mc)∧V.cell? ⟨w.heap.size,0,none⟩=some (.int .i64 p.1.1)∧V.cell? ⟨w.heap.size,1,none⟩=some (.int .i64 p.1.2)∧V.cell? ⟨w.heap.size,2,none⟩=some (.int .i64 p.2.1)∧V.cell? ⟨w.heap.size,3,none⟩=some (.int .i64 p.2.2)) V from fun V hk hc=>⟨hc,(cR ((hk w.heap.size (Zi (J HP1)) (fun e=>by have:=(J HS0).lt.1; omega) (J HNP)).trans (J HP1)) 0),(cR ((hk w.heap.size (Zi (J HP1)) (fun e=>by have:=(J HS0).lt.1; omega) (J HNP)).trans (J HP1)) 1),(cR ((hk w.heap.size (Zi (J HP1)) (fun e=>by have:=(J HS0).lt.1; omega) (J HNP)).trans (J HP1)) 2),(cR ((hk w.heap.size (Zi (J HP1)) (fun e=>by have:=(J HS0).lt.1; omega) (J HNP)).trans (J HP1)) 3)⟩);refine Xb (C:=fun V:World=>V.cell? ⟨b,14,none⟩=some (Value.slice mp x.made.length mc)∧V.cell? ⟨w.heap.size,0,none⟩=some (.int .i64 p.1.1)∧V.cell? ⟨w.heap.size,1,none⟩=some (.int .i64 p.1.2)∧V.cell? ⟨w.heap.size,2,none⟩=some (.int .i64 p.2.1)∧V.cell? ⟨w.heap.size,3,none⟩=some (.int .i64 p.2.2)) (d:=10) (by kernel_rfl) ?_
 refine vD 0 (J HC) ?_;refine vD 1 (J HC) ?_;refine vD 2 (J HC) ?_;refine vD 3 (J HC) ?_;refine vD 4 (J HC) ?_;refine vD 5 (J HC) ?_;refine vO 6 fun K hK=>?_;go_simp;obtain⟨r2,hb2,hz2⟩:=al0 w1 (.cells #[.int .i64 p.1.1,.int .i64 p.1.2,.int .i64 p.2.1,.int .i64 p.2.2] 36 (0,0));have HB2:=O (show Below w1.heap.size w1 (w1.alloc (.cells #[.int .i64 p.1.1,.int .i64 p.1.2,.int .i64 p.2.1,.int .i64 p.2.2] 36 (0,0))).drew from⟨hb2.os,hb2.tape,hb2.output,hb2.size,hb2.block⟩);have HS2:=O ((J HS1).below (J HB2));have HR2:=O (show(w1.alloc (.cells #[.int .i64 p.1.1,.int .i64 p.1.2,.int .i64 p.2.1,.int .i64 p.2.2] 36 (0,0))).drew.heap[w1.heap.size]?=_ from r2);clear r2 hb2 hz2;generalize World.drew (World.alloc w1 _)=V2 at HB2 HS2 HR2 ⊢;refine kO hK (fun _=>J HCN V2 (fun g hg _ _=>(J HB2).block g hg) (Zl (J HS2).row 14)) ?_;clear hK K;refine vO 7 fun K hK=>?_;refine Iq rfl (.tmp 39) (.tmp 41) 26 rfl B 36 ti _ 4 32 Tryz.underlying26 hti hty0 hty1 hty2 rfl (by decide) (Value.slice mp x.made.length mc) x.made.length (Kq x.made) (by simp [Act.eval]) (J HS2).mo ⟨w1.heap.size,0,none⟩ 1 1 (prL p) (by simp [Act.eval]) rfl (Zvs (J HR2)) (by intro u hu; simp [prL] at hu; rcases hu with rfl | rfl | rfl | rfl <;> rfl) (by unfold maxLen; have:=(J HS2).ml; have:=(J HS2).ll; omega) (by have:=(J HS2).ml; have:=(J HS2).ll; omega) (by have:=(J HB2).size; have:=(J HS1).hb; have:=(J HS1).lt.1; omega) ?_;intro v7 w7 hown7 hgr7 hblk7;obtain⟨hr7,hS7⟩:=(J HS2).made hgr7 hown7 hblk7
 obtain⟨p7,q7,rfl⟩:=Zv hown7;have HK7:=O (show(∀ g,g<w1.heap.size->(Value.slice mp x.made.length mc).ownBlock≠some g->w7.heap[g]?=w1.heap[g]?)∧w7.os=w1.os∧w7.tape=w1.tape∧w7.output=w1.output∧w1.heap.size<=w7.heap.size∧(∀ g,Value.ownBlock (.slice p7 (x.made.length+1) q7)=some g->(Value.slice mp x.made.length mc).ownBlock=some g∨w1.heap.size<=g) from⟨fun g hg hn=>(hgr7.block g (by have:=(J HB2).size; omega) (fun e=>hn e.symm)).trans ((J HB2).block g hg),hgr7.os.trans (J HB2).os,hgr7.tape.trans (J HB2).tape,hgr7.output.trans (J HB2).output,by have:=hgr7.size; have:=(J HB2).size; omega,fun g hg=>(hblk7 g hg).imp id (fun h=>by have:=(J HB2).size; omega)⟩);have c14:=cR hr7 14;have z14:w7.frozen? ⟨b,14,none⟩=false:=frozen_of_row _ _ 14 _ _ hr7;have HS7:=O hS7;clear hown7 hgr7 hblk7 hr7 hS7;refine kO hK (fun _=>J HCN w7 (fun g hg _ hn=>(J HK7).1 g hg hn) c14) ?_;clear hK K;refine vO 8 fun K hK=>?_;go_simp;refine kO hK (fun _=>J HCN w7 (fun g hg _ hn=>(J HK7).1 g hg hn) c14) ?_;clear hK K;refine vO 9 fun K hK=>?_;go_simp;refine kO hK (fun _=>J HCN w7 (fun g hg _ hn=>(J HK7).1 g hg hn) c14) ?_;clear hK K;refine vO 10 fun K hK=>?_;go_simp;refine kO hK (fun h=>(by cases h)) ?_;clear hK K;refine Jn (by kernel_rfl) ?_ _;go_wp2;refine bodyPost_end (results_none (fn:=Tryz.f217) rfl _ _ _) rfl ?_;have hkk:=Zmq (j:=14) (u:=.slice p7 (x.made.length+1) q7) (J HK1) (show ApK w1 w7 _ (.slice p7 (x.made.length+1) q7) from J HK7) (J HO)
 rw [J HML (by rw [J HC1]; rfl)];exact⟨⟨_,rfl⟩,_,(J HS7).more (by omega),hkk.1,hkk.2⟩
set_option maxHeartbeats 8000000
set_option maxRecDepth 100000
theorem Zvt (t0:Int)(x:Ce)(k:Nat)(h:k<x.left.length):Ux t0 x (k+1)=mfS t0 (Ux t0 x k) (x.left.getD k Ru):=by unfold Ux;rw [List.take_add_one,List.getElem?_eq_getElem h,List.foldl_append,Kr _ h];rfl
theorem Zmr {P:Program}{w:World}{ops:Array Oper}{rest:List Oper}{o:Oper}{a:Act}{Q:Exit->Act->World->Prop}(hgd:o.guard=none)(s x:Operand)(t:TypeId)
 (ho:o.op=.call { callee:=.builtin .append,args:=#[s,x],argTypes:=#[t,t] })
 (base:Nat) (e:TypeId) (i:TypeInfo) (z:Value) (size bytes:Nat) (ht:P.underlying t=some (.slice e)) (hi:P.info? e=some i) (hz:i.zero=some z)
 (hsize:i.size=size) (hby:i.bytes=bytes) (hzs:z.cells.size=size) (hsz:0<size)
 (v:Value) (n:Nat) (xs:List Value) (hs:a.eval s=v) (hown:w.ownsRow base e size v n xs)
 (ad:Addr) (m c:Nat) (news:List Value) (hx:a.eval x=.slice (some ad) m c) (hl:news.length=m*size) (hnews:∀ j u,news[j]?=some u->w.cell? (ad.add j)=some u) (h1:∀ u ∈ news,u.oneCell'=true)
 (h63:n+m<=maxLen) (hbytes:(n+m)*bytes<=140737488355328) (hbase:base<=w.heap.size)
 (h:∀ v' w',w'.ownsRow base e size v' (n+m) (xs++news)->w.grownBy w' v.ownBlock->(∀ g,v'.ownBlock=some g->v.ownBlock=some g∨w.heap.size<=g)->wpList P ops Q rest (a.put o.dst v') w'):wpList P ops Q (o :: rest) a w:=by
 obtain⟨v',w',hr,h2,h3,h4⟩:=Zdn (P:=P) w base t o.type e i z size bytes ht hi hz hsize hby hzs hsz v n xs hown ad m c news hl hnews h1 h63 hbytes hbase;refine wpList_plain hgd fun _ hK=>?_;unfold Oper.wp execOp;simp only [ho,resolve,invoke,builtin,Sem.run_bind,Sem.run_pure,Result.andThen_ok,List.map_toArray,List.map_cons,List.map_nil,hs,hx,hr];exact hK _ _ (h v' w' h2 h3 h4)
structure MfI (w V:World)(B b mr:Nat)(T:Yc)(lv mv tv:Value)(x:Ce)(N k:Nat):Prop where
 wk:Uk V B b mr T lv mv ⟨x.left,(Ux T.t0 x k).2.1,(Ux T.t0 x k).2.2⟩ (N+3*k)
 la:V.ownsRow B 36 4 tv (Ux T.t0 x k).1.length (Kq (Ux T.t0 x k).1)
 n1:∀ g,tv.ownBlock=some g->mv.ownBlock≠some g
 n2:∀ g,tv.ownBlock=some g->lv.ownBlock≠some g
 ll:(Ux T.t0 x k).1.length<=k
 low:Below B w V
theorem Zms {w V V':World}{B b:Nat}{o:Option Nat}(h:Below B w V)(k:Kp2 V V' b o)(hb:B<=b)(ho:∀ g,o=some g->B<=g)(hB:B<=V.heap.size):Below B w V' :=
 ⟨k.os.trans h.os,k.tape.trans h.tape,k.output.trans h.output,Nat.le_trans h.size k.size,fun g hg=>(k.blk g (by omega) (by omega) (fun e=>by have:=ho g e; omega)).trans (h.block g hg)⟩
theorem Zmt (w:World)(B b mr:Nat)(T:Yc)(lv mv:Value)(x:Ce)(N:Nat)(hS:Uk w B b mr T lv mv x N)(hN:N<=900000)(hnc:∀ p ∈ x.left,Cx p.1=false) :
 Calls Tryz.prog 144 #[.pointer (some ⟨b,0,none⟩)] w fun e w'=>e=.returned (.bool (decide ((mfF T.t0 x).left.length<x.left.length)))∧(∃ lv' mv',Uk w' B b mr T lv' mv' (mfF T.t0 x) (N+200))∧Below B w w':=by
 obtain⟨ti,hti,hty0,hty1,hty2⟩:=Gy Tryz.infoPr;obtain⟨mp,mc,rfl⟩:=Zv hS.mo;obtain⟨lp,lc,rfl⟩:=Zv hS.lo;have hll:=hS.ll;have k12:=cR hS.row 12;have HS:=O hS;have HNC:=O hnc;clear hS hnc;go_enter Tryz.func144,Tryz.ntmps144
 go_wp2_with fail
 clear k12;go_loopw [12,3] (fun j tv w'=>∃(k:Nat) (t m:Value),j=.int .i64 k∧tv=t∧k<=x.left.length∧MfI w w' B b mr T (.slice lp x.left.length lc) m t x N k) (fun j _ _=>x.left.length-(intOf j).toNat)
 case atStart=>exact⟨0,_,_,rfl,rfl,by omega,⟨(J HS),World.ownsRow_nil _ _ _ _,fun g h=>(by cases h),fun g h=>(by cases h),Nat.le_refl _,Below.refl _ _⟩⟩
 case round =>
  obtain⟨k0,t0,m0,rfl,rfl,hk,hI⟩:=hrel;obtain⟨tp,tc,rfl⟩:=Zv hI.la;obtain⟨mp',mc',rfl⟩:=Zv hI.wk.mo;have HI:=O hI;clear hI;by_cases hlt:k0<x.left.length
  ·obtain⟨g,c,e1,eb,hB,hg,c1,c2,c3,c4⟩:=Zcg (J HI).wk.lo hlt;injection e1 with e1 _ e3;subst e1 e3;have HNX:=O (Zvt T.t0 x k0 hlt);simp only at c1 c2 c3 c4;have HNP:=O (J HNC _ (Zpf Ru hlt));generalize hp:x.left.getD k0 Ru=p at c1 c2 c3 c4 HNX HNP;have hal:=al0 wr (.cells #[.int .i64 p.1.1,.int .i64 p.1.2,.int .i64 p.2.1,.int .i64 p.2.2] 36 (0,0));have HAL:=O hal;clear hal hp;go_upto_region 5 with fail
   clear c1 c2 c3 c4;have HR1:=O (J HAL).1;have HB1:=O (J HAL).2.1;have HW1:=O ((J HI).wk.below (J HB1));clear HAL;generalize World.alloc wr _=W1 at HR1 HB1 HW1 ⊢;obtain⟨om0,mm0,ho1,ho2,ho3⟩:=(J HW1).mp;have hlk:∀ k,(Instr.lookup 38 (.map (some mr)) (.agg #[.int .i64 p.1.1,.int .i64 p.1.2]) false).run Tryz.prog (W1.drewN k)=.ok (.int .i64 ((Ux T.t0 x k0).2.1 p.1)) (W1.drewN k):=fun k=>by have:=Ly (w:=W1.drewN k) (show W1.heap[mr]?=some om0 from ho1) ho2 p.1; rw [ho3] at this; exact this
   have c13:=cR (J HW1).row 13;have d0:=cR (J HR1) 0;have d1:=cR (J HR1) 1;clear ho1 ho2 ho3;refine wp_region_held_drew (S:=fun V=>∃ k,V=W1.drewN k) (by kernel_rfl) ⟨1,rfl⟩ (fun _=>?_);change wpAnyH _ _ _ _ _ _ _ _ (W1.drewN 1)
   refine tE 0 ?_;refine tE 1 ?_;refine tE 2 ?_;refine tE 3 ?_;refine tE 4 ?_;refine tE 5 ?_;refine tE 6 ?_;refine tE 7 ?_;refine wpAnyH_done (by kernel_rfl) ?_ _;clear hlk c13 d0 d1;have hd:Below W1.heap.size W1 (W1.drewN 1):=⟨rfl,rfl,rfl,Nat.le_refl _,fun _ _=>rfl⟩;have HB2:=O (show Below wr.heap.size wr (W1.drewN 1) from Zc (J HB1) hd (J HB1).size);have HR2:=O ((hd.block wr.heap.size (Zi (J HR1))).trans (J HR1));have HW2:=O ((J HW1).below hd);have HLA:=O (Xc (J HI).la (Jj (o:=none) (J HB2)) (fun g _ e=>by cases e));clear hd HB1 HR1 HW1;generalize W1.drewN 1=W2 at HB2 HR2 HW2 HLA ⊢;obtain⟨e0,e1,e2,e3⟩:=cT4 (J HR2);have hlk2:=(J HI).ll;have hBw:B<=W2.heap.size:=by have:=(J HW2).hb; have:=(J HW2).lt.1; omega
   by_cases hf:0<(Ux T.t0 x k0).2.1 p.1
   ·have HN2:=O (show Ux T.t0 x (k0+1)=((Ux T.t0 x k0).1++[p],(Ux T.t0 x k0).2.1,(Ux T.t0 x k0).2.2) by rw [J HNX]; unfold mfS; rw [if_pos hf]);clear HNX;go_wp2_with (at_builtin; refine Zmr rfl _ _ 26 rfl B 36 ti _ 4 32 Tryz.underlying26 hti hty0 hty1 hty2 rfl (by decide) _ _ _ rfl (World.ownsRow.alloc (J HLA) _) ⟨W2.heap.size,0,none⟩ 1 1 (prL p) rfl rfl ?s2 (by intro u hu; simp [prL] at hu; rcases hu with rfl | rfl | rfl | rfl <;> rfl) ?s3 ?s4 ?s5 ?_)
    case s2=>exact fun j u h=>h
    case s3=>unfold maxLen; omega
    case s4=>omega
    case s5=>first | omega | (simp; omega)
    intro v7 w7 hown7 hgr7 hblk7;obtain⟨p7,q7,rfl⟩:=Zv hown7;have hal:=al0 W2 (.cells #[.int .i64 p.1.1,.int .i64 p.1.2,.int .i64 p.2.1,.int .i64 p.2.2] 36 (0,0));have hI:=J HI;have hW3:=(J HW2).below hal.2.1;have hnb:=(J HW2).nob (J HLA);have hW7:Uk w7 B b mr T (.slice (some ⟨g,0,none⟩) x.left.length lc) (.slice mp' (Ux T.t0 x k0).2.2.length mc') ⟨x.left,(Ux T.t0 x k0).2.1,(Ux T.t0 x k0).2.2⟩ (N+3*k0):=by have keep:∀ q,q<(W2.alloc (.cells #[.int .i64 p.1.1,.int .i64 p.1.2,.int .i64 p.2.1,.int .i64 p.2.2] 36 (0,0))).heap.size->Value.ownBlock (.slice tp (Ux T.t0 x k0).1.length tc)≠some q->w7.heap[q]?=(W2.alloc (.cells #[.int .i64 p.1.1,.int .i64 p.1.2,.int .i64 p.2.1,.int .i64 p.2.2] 36 (0,0))).heap[q]?:=fun q hq hn=>hgr7.block q hq (fun e=>hn e.symm);obtain⟨o,m,k1,k2,k3⟩:=hW3.mp;exact⟨(keep b hW3.lt.1 hnb.1).trans hW3.row,Xc hW3.lo hgr7 (fun q hv e=>hI.n2 q e hv),Xc hW3.mo hgr7 (fun q hv e=>hI.n1 q e hv),hW3.ne,⟨o,m,(keep mr hW3.lt.2 hnb.2).trans k1,k2,k3⟩,hW3.bd,hW3.ll,hW3.ml,hW3.hb,hW3.hm⟩
    have HX:=O (show MfI w w7 B b mr T (.slice (some ⟨g,0,none⟩) x.left.length lc) (.slice mp' (Ux T.t0 x k0).2.2.length mc') (.slice p7 ((Ux T.t0 x k0).1.length+1) q7) x N (k0+1) from by
     refine⟨?_,?_,fun q hq e=>?_,fun q hq e=>?_,?_,?_⟩
     ·rw [J HN2]; exact hW7.more (by omega)
     ·rw [J HN2]; simp only; rw [Zds,List.length_append]; exact hown7
     ·rcases hblk7 q hq with h | h
      ·exact hI.n1 q h e
      ·have:=(hW3.mo.lt q e).2; omega
     ·rcases hblk7 q hq with h | h
      ·exact hI.n2 q h e
      ·have:=(hW3.lo.lt q e).2; omega
     ·rw [J HN2]; simp; omega
     ·have hz:=hal.2.1.size;exact⟨hgr7.os.trans (hal.2.1.os.trans ((J HB2).os.trans hI.low.os)),hgr7.tape.trans (hal.2.1.tape.trans ((J HB2).tape.trans hI.low.tape)),hgr7.output.trans (hal.2.1.output.trans ((J HB2).output.trans hI.low.output)),by have:=hgr7.size; have:=(J HB2).size; have:=hI.low.size; omega,fun q hq=>(hgr7.block q (by omega) (fun e=>by have:=((J HLA).lt q e.symm).1; omega)).trans ((hal.2.1.block q (by omega)).trans (((J HB2).block q (by have:=hI.wk.hb; have:=hI.wk.lt.1; omega)).trans (hI.low.block q hq)))⟩)
    clear hown7 hgr7 hblk7 hal hI hW3 hnb hW7;go_wp2;go_roundw
    case rel=>exact⟨k0+1,_,_,by go_num,rfl,by omega,J HX⟩
    case measure=>simp [intOf]; omega
   ·have HN2:=O (show Ux T.t0 x (k0+1)=((Ux T.t0 x k0).1,Ng (Ux T.t0 x k0).2.1 p.2 (-1),(Ux T.t0 x k0).2.2++mvL T.t0 p) by rw [J HNX]; unfold mfS; rw [if_neg hf]);clear HNX;have HMV:=O (Yev p W2 B b mr T (.slice (some ⟨g,0,none⟩) x.left.length lc) (.slice mp' (Ux T.t0 x k0).2.2.length mc') ⟨x.left,(Ux T.t0 x k0).2.1,(Ux T.t0 x k0).2.2⟩ (N+3*k0) (J HW2) (by omega) (J HNP));go_wp2_with fail
    refine(J HMV).mono ?_;rintro e w3 ⟨⟨v3,rfl⟩,mv3,hW3,hk3,hb3⟩;have HR3:=O ((hk3.blk wr.heap.size (Zi (J HR2)) (fun e=>by have:=(J HI).wk.lt.1; omega) (fun e=>by have:=((J HI).wk.mo.lt _ e).2; omega)).trans (J HR2));have HW3:=O hW3;have HK3:=O hk3;have HO3:=O hb3;clear hW3 hk3 hb3 HMV e0 e1 e2 e3;go_upto_region 8 with fail
    obtain⟨om,mm,hm1,hm2,hm3⟩:=(J HW3).mp;have hmr:=(J HW3).lt.2;have hlk:∀ V:World,V.heap[mr]?=some om->(Instr.lookup 38 (.map (some mr)) (.agg #[.int .i64 p.2.1,.int .i64 p.2.2]) false).run Tryz.prog V=.ok (.int .i64 ((Ux T.t0 x k0).2.1 p.2)) V:=fun V hV=>by have:=Ly hV hm2 (p.2.1,p.2.2); rw [hm3] at this; exact this
    obtain⟨ve,sn,V4,o1,he1,hs4,⟨m1,hm4,hm5⟩,he2⟩:=Iz (w:=w3.drew) (show w3.heap[mr]?=some om from hm1) hm2 (p.2.1,p.2.2);have hlk2:∀ V:World,V.heap[mr]?=some o1->(Instr.lookup 38 (.map (some mr)) (.agg #[.int .i64 p.2.1,.int .i64 p.2.2]) false).run Tryz.prog V=.ok (.int .i64 ((Ux T.t0 x k0).2.1 p.2)) V:=fun V hV=>by have:=Ly hV hm4 (p.2.1,p.2.2); rw [hm5,hm3] at this; exact this
    have hbm:b≠mr:=fun e=>by
     obtain⟨es,ck,rfl,-⟩:=hm2;rw [← e,(J HW3).row] at hm1;injection hm1 with hm1;cases hm1
    have hqm:wr.heap.size≠mr:=fun e=>by
     obtain⟨es,ck,rfl,-⟩:=hm2;rw [← e,J HR3] at hm1;injection hm1 with hm1;cases hm1
    have hbd:=(J HW3).bd p.2;simp only at hbd;have HWR:=O (show IntKind.i64.wrap ((Ux T.t0 x k0).2.1 p.2-1)=(Ux T.t0 x k0).2.1 p.2-1 from IntKind.wrap_of_boundsK (by omega) (by omega));have HC:=O (show(fun V:World=>V.cell? ⟨b,13,none⟩=some (.map (some mr))∧V.cell? ⟨wr.heap.size,2,none⟩=some (.int .i64 p.2.1)∧V.cell? ⟨wr.heap.size,3,none⟩=some (.int .i64 p.2.2)∧(Instr.lookup 38 (.map (some mr)) (.agg #[.int .i64 p.2.1,.int .i64 p.2.2]) false).run Tryz.prog V=.ok (.int .i64 ((Ux T.t0 x k0).2.1 p.2)) V) w3.drew from⟨(cR (J HW3).row 13),(cR (J HR3) 2),(cR (J HR3) 3),hlk _ hm1⟩);have HC2:=O (show ∀ V:World,(∀ g,g≠mr->V.heap[g]?=w3.heap[g]?)->V.heap[mr]?=some o1->(fun V:World=>V.cell? ⟨b,13,none⟩=some (.map (some mr))∧V.cell? ⟨wr.heap.size,2,none⟩=some (.int .i64 p.2.1)∧V.cell? ⟨wr.heap.size,3,none⟩=some (.int .i64 p.2.2)∧(Instr.lookup 38 (.map (some mr)) (.agg #[.int .i64 p.2.1,.int .i64 p.2.2]) false).run Tryz.prog V=.ok (.int .i64 ((Ux T.t0 x k0).2.1 p.2)) V) V from fun V h1 h2=>⟨(cR ((h1 b hbm).trans (J HW3).row) 13),(cR ((h1 _ hqm).trans (J HR3)) 2),(cR ((h1 _ hqm).trans (J HR3)) 3),hlk2 V h2⟩);have HA4:=O (show(∀ g,g≠mr->V4.heap[g]?=w3.heap[g]?)∧V4.heap[mr]?=some o1∧V4.os=w3.os∧V4.tape=w3.tape∧V4.output=w3.output∧V4.heap.size=w3.heap.size from⟨hs4.2.1,hs4.1,hs4.2.2.1,hs4.2.2.2.1,hs4.2.2.2.2.1,hs4.2.2.2.2.2⟩);have HE2:=O he2;have HM3:=O hm3;clear hlk hlk2 hs4 hm1 hm2 hm3 hm4 hm5 he2 hbm hqm
    refine Xb (C:=fun V:World=>V.cell? ⟨b,13,none⟩=some (.map (some mr))∧V.cell? ⟨wr.heap.size,2,none⟩=some (.int .i64 p.2.1)∧V.cell? ⟨wr.heap.size,3,none⟩=some (.int .i64 p.2.2)∧(Instr.lookup 38 (.map (some mr)) (.agg #[.int .i64 p.2.1,.int .i64 p.2.2]) false).run Tryz.prog V=.ok (.int .i64 ((Ux T.t0 x k0).2.1 p.2)) V) (d:=10) (by kernel_rfl) ?_;refine vD 0 (J HC) ?_;refine vD 1 (J HC) ?_;refine vD 2 (J HC) ?_;refine vD 3 (J HC) ?_;refine vD 4 (J HC) ?_;refine vD 5 (J HC) ?_;refine vD 6 (J HC) ?_;refine vD 7 (J HC) ?_;refine vO 8 fun K hK=>?_;go_simp;clear he1;refine kO hK (fun _=>J HC2 V4 (J HA4).1 (J HA4).2.1) ?_;clear hK K;refine vO 9 fun K hK=>?_;go_simp;refine kO hK (fun _=>J HC2 V4 (J HA4).1 (J HA4).2.1) ?_;clear hK K;obtain⟨V5,o2,he3,hs5,hm6⟩:=J HE2 V4 (IntKind.i64.wrap ((Ux T.t0 x k0).2.1 p.2-1)) (J HA4).2.1;rw [J HWR] at hm6;have HM6:=O hm6;have HS5:=O hs5;clear hm6 hs5;refine vO 10 fun K hK=>?_;go_simp;clear he3;have HA5:=O (show(∀ g,g≠mr->V5.heap[g]?=w3.heap[g]?)∧V5.heap[mr]?=some o2∧V5.os=w3.os∧V5.tape=w3.tape∧V5.output=w3.output∧V5.heap.size=w3.heap.size by have hs:=J HS5;exact⟨fun g hg=>(hs.2.1 g hg).trans ((J HA4).1 g hg),hs.1,hs.2.2.1.trans (J HA4).2.2.1,hs.2.2.2.1.trans (J HA4).2.2.2.1,hs.2.2.2.2.1.trans (J HA4).2.2.2.2.1,hs.2.2.2.2.2.trans (J HA4).2.2.2.2.2⟩)
    refine kO hK (fun h=>(by cases h)) ?_;clear hK K;refine Jn (by kernel_rfl) ?_ _;clear HC HC2 HE2 HA4 HS5;have HX:=O (show MfI w V5 B b mr T (.slice (some ⟨g,0,none⟩) x.left.length lc) mv3 (.slice tp (Ux T.t0 x k0).1.length tc) x N (k0+1) from by
     have hI:=J HI;have hA:=J HA5;have hnb:=(J HW2).nob (J HLA);have hmo:=(J HW2).mo;have hl3:w3.ownsRow B 36 4 (.slice tp (Ux T.t0 x k0).1.length tc) (Ux T.t0 x k0).1.length (Kq (Ux T.t0 x k0).1):=by
      have hla:=J HLA;rcases hla.2 with⟨e,e0⟩ | ⟨q,cap,cur,e,a1,a2,a3⟩
      ·exact⟨hla.1,Or.inl ⟨e,e0⟩⟩
      ·exact⟨hla.1,Or.inr ⟨q,cap,cur,e,a1,((J HK3).blk q (Zi a2) (fun e2=>hnb.1 (by rw [e,e2]; rfl)) (fun e2=>hI.n1 q (by rw [e]; rfl) e2)).trans a2,a3⟩⟩
     have hW:=(J HW3).map (V:=V5) hA.1 hA.2.1 (J HM6) (rd:=Ng (Ux T.t0 x k0).2.1 p.2 (-1)) (fun q=>by
      rw [Np];unfold Ng;by_cases hq:q=p.2
      ·rw [if_pos hq,if_pos hq,hq]; rfl
      ·rw [if_neg hq,if_neg hq]; exact J HM3 q) (fun q=>by simp only; unfold Ng; split <;> omega)
     refine⟨?_,?_,fun q hq e=>?_,hI.n2,?_,?_⟩
     ·rw [J HN2]; exact hW.more (by omega)
     ·rw [J HN2];have hm:=((J HW3).nob hl3).2;rcases hl3.2 with⟨e,e0⟩ | ⟨q,cap,cur,e,a1,a2,a3⟩
      ·exact⟨hl3.1,Or.inl ⟨e,e0⟩⟩
      ·exact⟨hl3.1,Or.inr ⟨q,cap,cur,e,a1,(hA.1 q (fun e2=>hm (by rw [e,e2]; rfl))).trans a2,a3⟩⟩
     ·rcases J HO3 q e with h | h
      ·exact hI.n1 q hq h
      ·have:=((J HLA).lt q hq).2; omega
     ·rw [J HN2]; simp only; omega
     ·have hlow:Below B w W2:=Zc hI.low (J HB2) (by have:=hI.wk.hb; have:=hI.wk.lt.1; omega);have h3:=Zms hlow (J HK3) hI.wk.hb (fun q e=>(hmo.lt q e).1) hBw;exact⟨hA.2.2.1.trans h3.os,hA.2.2.2.1.trans h3.tape,hA.2.2.2.2.1.trans h3.output,by have:=h3.size; rw [hA.2.2.2.2.2]; exact this,fun q hq=>(hA.1 q (fun e=>by have:=hI.wk.hm; omega)).trans (h3.block q hq)⟩)
    clear HA5 HM6 HM3;go_wp2;go_roundw
    case rel=>exact⟨k0+1,_,_,by go_num,rfl,by omega,J HX⟩
    case measure=>simp [intOf]; omega
  ·obtain rfl:k0=x.left.length:=by omega
   have k12:=cR (J HI).wk.row 12;have z12:wr.frozen? ⟨b,12,none⟩=false:=frozen_of_row _ _ 12 _ _ (J HI).wk.row;have HEN:=O ((J HI).wk.lefS (J HI).la (J HI).n1 (Nat.le_trans (J HI).ll hll));have HBE:=O (show Below B w (wr.setCell ⟨b,12,none⟩ (.slice tp (Ux T.t0 x x.left.length).1.length tc)) from by have h:=(J HI).low;exact⟨h.os,h.tape,h.output,by simpa using h.size,fun q hq=>(heap_setCell_other _ _ _ _ (show q≠b by have:=(J HI).wk.hb; omega)).trans (h.block q hq)⟩)
   go_wp2;go_returns;exact⟨rfl,⟨_,_,(J HEN).more (by omega)⟩,J HBE⟩
end Go.Proofs.YtkenknfgeoecbaaGreatDoor
