import Derived.Test.YtnlcfnjeagmemaaGreatDoorJ12
import Derived.Test.YtnlcfnjeagmemaaGreatDoorJ15
import Derived.Laws.Entries
import Derived.Laws.Sem
import Derived.MapKept
import Derived.Test.YtnlcfnjeagmemaaGreatDoorJ22
import Derived.Test.YtnlcfnjeagmemaaGreatDoorExAe
namespace Go.Proofs.YtnlcfnjeagmemaaGreatDoor
open Go.RowKit
structure Ji where
 T:Zm
 cs:Value
 cf:Value
 ce:Value
 li:Value
 bg:Value
 bk:Value
 nt:Value
 rv:Value
 mv:Value
 scr:Value
 at_:Int
 outs:Int
 low:Int
 kind:Int
 vv:Value
 code:Int
 tv:Value
 steps:Int
 pk:Int
def Ji.row (m:Ji):Array Value:=#[.int .i64 m.T.r,.int .i64 m.T.sp,.int .i64 m.T.lk,.int .i64 m.T.t0,.int .i64 m.T.t1,.slice m.T.pa m.T.ag.length m.T.ca,.slice m.T.pr m.T.rs.length m.T.cr,.slice m.T.ps m.T.ss.length m.T.cs,.int .i64 m.T.al,.int .i64 m.T.sh,.int .i64 m.T.br,.bool m.T.pairs,m.cs,m.cf,m.ce,m.li,m.bg,m.bk,m.nt,m.rv,m.mv,m.scr,.int .i64 m.at_,.int .i64 m.outs,.int .i64 m.low,.int .i64 m.kind,m.vv,.int .i64 m.code,m.tv,.int .i64 m.steps,.int .i64 m.pk]
def EI (w:World)(eb:Nat)(m:Ji):Prop:=w.heap[eb]?=some (.cells m.row 85 (0,0))
theorem Uf {w:World}{eb k:Nat}{m m':Ji}{v:Value}(h:EI w eb m)(e:m.row.setIfInBounds k v=m'.row):EI (w.setCell ⟨eb,k,none⟩ v) eb m':=by
 have:=heap_setCell_same _ _ k _ _ v h;rw [e] at this;exact this
structure Ke (N a b c:Nat)(w w':World):Prop where
 os:w'.os=w.os
 tape:w'.tape=w.tape
 output:w'.output=w.output
 size:w.heap.size≤w'.heap.size
 oth:∀ q:Nat,q<N→q≠a→q≠b→q≠c→w'.heap[q]?=w.heap[q]?
theorem Ke.rf (N a b c:Nat)(w:World):Ke N a b c w w:=⟨rfl,rfl,rfl,Nat.le_refl _,fun _ _ _ _ _=>rfl⟩
theorem Ke.tr {N a b c:Nat}{u v w:World}(h:Ke N a b c u v)(k:Ke N a b c v w):Ke N a b c u w:=⟨k.os.trans h.os,k.tape.trans h.tape,k.output.trans h.output,Nat.le_trans h.size k.size,fun q h1 h2 h3 h4=>(k.oth q h1 h2 h3 h4).trans (h.oth q h1 h2 h3 h4)⟩
theorem Ke.low {N M a b c:Nat}{u v:World}(h:Ke N a b c u v)(hM:M≤N):Ke M a b c u v:=⟨h.os,h.tape,h.output,h.size,fun q h1 h2 h3 h4=>h.oth q (Nat.lt_of_lt_of_le h1 hM) h2 h3 h4⟩
theorem Dm {N a b c:Nat}{w w':World}(h:Below N w w'):Ke N a b c w w':=⟨h.os,h.tape,h.output,h.size,fun q h1 _ _ _=>h.block q h1⟩
theorem Ke.dr {N a b c:Nat}{u v:World}(h:Ke N a b c u v)(k:Nat):Ke N a b c u (v.drewN k):=⟨h.os,h.tape,h.output,h.size,h.oth⟩
theorem Sa {N a b c:Nat}{w w':World}(h:Mc a w w'):Ke N a b c w w':=⟨h.os,h.tape,h.output,Nat.le_of_eq h.size.symm,fun q _ h1 _ _=>h.oth q h1⟩
theorem Zax {N a b c:Nat}{w w':World}(h:Mc b w w'):Ke N a b c w w':=⟨h.os,h.tape,h.output,Nat.le_of_eq h.size.symm,fun q _ _ h1 _=>h.oth q h1⟩
theorem Zmk {N a b c:Nat}{w w':World}(h:Mc c w w'):Ke N a b c w w':=⟨h.os,h.tape,h.output,Nat.le_of_eq h.size.symm,fun q _ _ _ h1=>h.oth q h1⟩
def toE (G:Ji)(P:PV)(a:Int)(m:Zf):Ji:={ G with at_:=a,outs:=m.tr.length,low:=m.me.length-m.pk,kind:=m.kind,vv:=P.vv,code:=m.code,tv:=P.tv,steps:=m.steps,scr:=P.scr }
def rgV (n:Nat)(R:Nat→Int):List Value:=(List.range n).map fun i=>.int .u64 (R i)
theorem Kb (n:Nat)(R:Nat→Int)(i:Nat)(h:i<n):(rgV n R).toArray[i]?=some (.int .u64 (R i)):=by
 simp [rgV,h]
theorem Zse (n:Nat)(R:Nat→Int)(i:Nat)(v:Int):(rgV n R).toArray.setIfInBounds i (.int .u64 v)=(rgV n (Yy R i v)).toArray:=by
 unfold rgV;simp only [List.setIfInBounds_toArray];congr 1
 refine List.ext_getElem (by simp) fun k h1 h2=>?_;simp only [List.length_set,List.length_map,List.length_range] at h1;simp only [List.getElem_set,List.getElem_map,List.getElem_range,Yy];by_cases hk:k=i
 ·
  subst hk; simp
 ·
  rw [if_neg (fun e=>hk e.symm),if_neg hk]
structure EP (w:World)(A B N:Nat)(G:Ji)(eb rb sb:Nat)(P:PV)(es:List Value)(a:Int)(m:Zf):Prop where
 ei:EI w eb (toE G P a m)
 rg:w.heap[rb]?=some (.cells (rgV G.T.r.toNat m.rg).toArray 62 (0,0))
 mem:w.heap[sb]?=some (.cells (yC m.me).toArray 5 (0,0))
 rv:G.rv=.slice (some ⟨rb,0,none⟩) G.T.r.toNat G.T.r.toNat
 mv:G.mv=.slice (some ⟨sb,0,none⟩) m.me.length m.me.length
 len:m.me.length≤65536
 byt:∀ n ∈ m.me,0≤n∧n<256
 vv:w.ownsRow B 62 1 P.vv m.vals.length (uC m.vals)
 sc:Lz w A P.scr m.sc
 tr:TrM w B P.tv m.tr es
 rbd:∀ r,0≤m.rg r∧m.rg r<18446744073709551616
 pk:0≤m.pk∧m.pk≤m.me.length
 ae:A≤eb
 ar:A≤rb
 as_:A≤sb
 be:eb<B
 br:rb<B
 bs:sb<B
 bn:B≤N
 nw:N≤w.heap.size
 vn:∀ g,P.vv.ownBlock=some g→g<N
 tn:∀ g,P.tv.ownBlock=some g→g<N
 en:∀ k,k<m.tr.length→∀ g,(es.getD k .nilIface).ownBlock=some g→g<N
 vz:m.vals=[]→P.vv=.slice none 0 0
 tz:m.tr=[]→P.tv=.slice none 0 0
def ER (w:World)(A B N:Nat)(G:Ji)(eb rb sb:Nat)(a:Int)(m:Zf):Prop:=∃ P es,EP w A B N G eb rb sb P es a m
structure Q0 (m:Zf):Prop where
 kind:m.kind=0
 code:m.code=0
 vals:m.vals=[]
theorem EP.er {w:World}{A B N:Nat}{G:Ji}{eb rb sb:Nat}{P:PV}{es:List Value}{a:Int}{m:Zf}(h:EP w A B N G eb rb sb P es a m):eb≠rb∧eb≠sb∧rb≠sb:=⟨Jf h.ei h.rg (by decide),Jf h.ei h.mem (by decide),Jf h.rg h.mem (by decide)⟩
theorem Gp {w w':World}{B N a b c e size n:Nat}{v:Value}{xs:List Value}(h:w.ownsRow B e size v n xs)(k:Ke N a b c w w')(hn:∀ g,v.ownBlock=some g→g<N)(ha:a<B)(hb:b<B)(hc:c<B):w'.ownsRow B e size v n xs :=
 Yn h fun g hg=>k.oth g (hn g hg) (by have:=(h.lt g hg).1; omega) (by have:=(h.lt g hg).1; omega) (by have:=(h.lt g hg).1; omega)
theorem Lz.ke {w w':World}{A N a b c:Nat}{v:Value}{ws:List Int}(h:Lz w A v ws)(k:Ke N a b c w w')(hN:A≤N)(ha:A≤a)(hb:A≤b)(hc:A≤c):Lz w' A v ws:=by
 obtain⟨p,cap,h1,h2,h3,h4⟩:=h;refine⟨p,cap,h1,h2,h3,fun h0=>?_⟩;obtain⟨g,so,e,hl,hcc⟩:=h4 h0;exact⟨g,so,e,hl,fun i hi=>(Yp (k.oth g (by omega) (by omega) (by omega) (by omega))).trans (hcc i hi)⟩
theorem TrM.ke {w w':World}{B N a b c:Nat}{tv:Value}{tr:List (Int×List Int)}{es:List Value}(h:TrM w B tv tr es)(k:Ke N a b c w w')(hn:∀ g,tv.ownBlock=some g→g<N)(he:∀ k,k<tr.length→∀ g,(es.getD k .nilIface).ownBlock=some g→g<N)(ha:a<B)(hb:b<B)(hc:c<B):TrM w' B tv tr es :=
 ⟨h.len,Gp h.row k hn ha hb hc,fun i hi=>Gp (h.each i hi) k (he i hi) ha hb hc⟩
section
variable {w w':World} {A B N:Nat} {G:Ji} {eb rb sb:Nat} {P P':PV} {es:List Value} {a a':Int} {m m':Zf}
theorem EP.lef (h:EP w A B N G eb rb sb P es a m)(hk:Ke N eb rb sb w w')(h1:EI w' eb (toE G P' a' m'))(h2:w'.heap[rb]?=some (.cells (rgV G.T.r.toNat m'.rg).toArray 62 (0,0)))(h3:w'.heap[sb]?=some (.cells (yC m'.me).toArray 5 (0,0)))(hl:m'.me.length=m.me.length)(hb:∀ n ∈ m'.me,0≤n∧n<256)(hr:∀ r,0≤m'.rg r∧m'.rg r<18446744073709551616)(hf:Lf P P' m m')(hp:0≤m'.pk∧m'.pk≤m.me.length):ER w' A B N G eb rb sb a' m':=by
 refine⟨P',es,h1,h2,h3,h.rv,by rw [hl]; exact h.mv,by rw [hl]; exact h.len,hb,?_,?_,?_,hr,by rw [hl]; exact hp,h.ae,h.ar,h.as_,h.be,h.br,h.bs,h.bn,Nat.le_trans h.nw hk.size,?_,?_,?_,?_,?_⟩
 ·
  rcases hf.vv with⟨e1,e2⟩ | ⟨e1,e2⟩
  ·
   rw [e1,e2];exact Gp h.vv hk h.vn h.be h.br h.bs
  ·
   rw [e1,e2];exact World.ownsRow_nil _ _ _ _
 ·
  rw [hf.scr,hf.sc];exact h.sc.ke hk (by have:=h.bn; have:=h.ae; have:=h.be; omega) h.ae h.ar h.as_
 ·
  rw [hf.tv,hf.tr];exact h.tr.ke hk h.tn h.en h.be h.br h.bs
 ·
  intro g hg;rcases hf.vv with⟨e1,-⟩ | ⟨e1,-⟩
  ·
   rw [e1] at hg; exact h.vn g hg
  ·
   rw [e1] at hg; cases hg
 ·
  rw [hf.tv]; exact h.tn
 ·
  rw [hf.tr]; exact h.en
 ·
  rcases hf.vv with⟨e1,e2⟩ | ⟨e1,e2⟩
  ·
   rw [e1,e2]; exact h.vz
  ·
   exact fun _=>e1
 ·
  rw [hf.tv,hf.tr]; exact h.tz
theorem EP.own (h:EP w A B N G eb rb sb P es a m)(ho:Mc eb w w')(h1:EI w' eb (toE G P' a' m'))(hf:Lf P P' m m')(hm:m'.me=m.me)(hg:m'.rg=m.rg)(hp:m'.pk=m.pk):ER w' A B N G eb rb sb a' m' :=
 h.lef (Sa ho) h1 (by rw [hg]; exact(ho.oth rb h.er.1.symm).trans h.rg) (by rw [hm]; exact(ho.oth sb h.er.2.1.symm).trans h.mem) (by rw [hm]) (by rw [hm]; exact h.byt) (by rw [hg]; exact h.rbd) hf (by rw [hp]; exact h.pk)
theorem ER.ke (h:ER w A B N G eb rb sb a m)(hk:Ke w.heap.size eb rb sb w w')(h1:w'.heap[eb]?=w.heap[eb]?)(h2:w'.heap[rb]?=w.heap[rb]?)(h3:w'.heap[sb]?=w.heap[sb]?):ER w' A B N G eb rb sb a m:=by
 obtain⟨P,es,h⟩:=h;exact h.lef (hk.low h.nw) (h1.trans h.ei) (h2.trans h.rg) (h3.trans h.mem) rfl h.byt h.rbd ⟨rfl,rfl,rfl,rfl,.inl ⟨rfl,rfl⟩⟩ h.pk
theorem ER.bd (h:ER w A B N G eb rb sb a m):A≤eb∧A≤rb∧A≤sb∧eb<B∧rb<B∧sb<B∧B≤w.heap.size:=by
 obtain⟨P,es,h⟩:=h;exact⟨h.ae,h.ar,h.as_,h.be,h.br,h.bs,Nat.le_trans h.bn h.nw⟩
theorem ER.nb (h:ER w A B N G eb rb sb a m):B≤N∧N≤w.heap.size:=by
 obtain⟨P,es,h⟩:=h;exact⟨h.bn,h.nw⟩
theorem ER.bel (h:ER w A B N G eb rb sb a m)(hb:Below w.heap.size w w'):ER w' A B N G eb rb sb a m:=by
 have hbd:=h.bd;exact h.ke (Dm hb) (hb.block eb (by omega)) (hb.block rb (by omega)) (hb.block sb (by omega))
theorem ER.dr (h:ER w A B N G eb rb sb a m)(k:Nat):ER (w.drewN k) A B N G eb rb sb a m:=h.ke ((Ke.rf _ _ _ _ _).dr k) rfl rfl rfl
theorem ER.al (h:ER w A B N G eb rb sb a m)(X:Obj):ER (w.alloc X) A B N G eb rb sb a m:=h.bel (Zs w X).2.1
theorem ER.kn (h:ER w A B N G eb rb sb a m)(hb:Below N w w'):ER w' A B N G eb rb sb a m:=by
 obtain⟨P,es,h⟩:=h;have hn:=h.bn;exact h.lef (Dm hb) ((hb.block eb (by have:=h.be; omega)).trans h.ei) ((hb.block rb (by have:=h.br; omega)).trans h.rg) ((hb.block sb (by have:=h.bs; omega)).trans h.mem) rfl h.byt h.rbd ⟨rfl,rfl,rfl,rfl,.inl ⟨rfl,rfl⟩⟩ h.pk
theorem ER.up {M:Nat}(h:ER w A B N G eb rb sb a m)(h1:N≤M)(h2:M≤w.heap.size):ER w A B M G eb rb sb a m:=by
 obtain⟨P,es,h⟩:=h;exact⟨P,es,h.ei,h.rg,h.mem,h.rv,h.mv,h.len,h.byt,h.vv,h.sc,h.tr,h.rbd,h.pk,h.ae,h.ar,h.as_,h.be,h.br,h.bs,Nat.le_trans h.bn h1,h2,fun g hg=>Nat.lt_of_lt_of_le (h.vn g hg) h1,fun g hg=>Nat.lt_of_lt_of_le (h.tn g hg) h1,fun k hk g hg=>Nat.lt_of_lt_of_le (h.en k hk g hg) h1,h.vz,h.tz⟩
theorem ER.rgb (h:ER w A B N G eb rb sb a m):∀ r,0≤m.rg r∧m.rg r<18446744073709551616:=by
 obtain⟨P,es,h⟩:=h;exact h.rbd
theorem ER.len (h:ER w A B N G eb rb sb a m):m.me.length≤65536:=by
 obtain⟨P,es,h⟩:=h;exact h.len
theorem EP.dr (h:EP w A B N G eb rb sb P es a m)(k:Nat):EP (w.drewN k) A B N G eb rb sb P es a m:=⟨h.ei,h.rg,h.mem,h.rv,h.mv,h.len,h.byt,h.vv,h.sc,⟨h.tr.len,h.tr.row,h.tr.each⟩,h.rbd,h.pk,h.ae,h.ar,h.as_,h.be,h.br,h.bs,h.bn,h.nw,h.vn,h.tn,h.en,h.vz,h.tz⟩
theorem EP.reg (h:EP w A B N G eb rb sb P es a m)(i:Nat)(v:Int)(hv:0≤v∧v<18446744073709551616):EP (w.setCell ⟨rb,i,none⟩ (.int .u64 v)) A B N G eb rb sb P es a { m with rg:=Yy m.rg i v }:=by
 have ho:=Zl rb i w (.int .u64 v);have hn:=h.er;refine⟨(ho.oth eb hn.1).trans h.ei,?_,(ho.oth sb hn.2.2.symm).trans h.mem,h.rv,h.mv,h.len,h.byt,Gp h.vv (Zax (N:=N) ho) h.vn h.be h.br h.bs,h.sc.ke (Zax (N:=N) ho) (by have:=h.bn; have:=h.ae; have:=h.be; omega) h.ae h.ar h.as_,h.tr.ke (Zax (N:=N) ho) h.tn h.en h.be h.br h.bs,Rh h.rbd hv,h.pk,h.ae,h.ar,h.as_,h.be,h.br,h.bs,h.bn,by have:=h.nw; simpa using this,h.vn,h.tn,h.en,h.vz,h.tz⟩;have:=heap_setCell_same _ _ i _ _ (.int .u64 v) h.rg;rw [Zse] at this;exact this
end
def Nn:Zt:=⟨-1,0,0,0,0,0,0⟩
def Zba (f:Nat)(l:List Zt):List (Zt×Nat):=l.map (fun x=>(x,f))++[(Nn,f)]
def Jr (f:Nat)(bs:List (List Zt)):List (Zt×Nat):=bs.flatMap (Zba f)
def Xl:Nat→List (List (List Zt))→List (Zt×Nat)
 | _,[]=>[]
 | f,bs :: r=>Jr f bs++Xl (f+1) r
theorem La (f:Nat)(l:List Zt):(Zba f l).length=l.length+1:=by simp [Zba]
def Oh (bs:List (List Zt))(b:Nat):Nat:=(Jr 0 (bs.take b)).length
def Sj (fs:List (List (List Zt)))(f:Nat):Nat:=(Xl 0 (fs.take f)).length
theorem Ny (f:Nat)(bs:List (List Zt)):(Jr f bs).length=(Jr 0 bs).length:=by
 induction bs with
 | nil=>rfl
 | cons b r ih =>
  unfold Jr at ih ⊢;simp only [List.flatMap_cons,List.length_append,ih,La]
theorem Zpz (f:Nat):∀(fs:List (List (List Zt))) (g:Nat),(Xl f fs).length=(Xl g fs).length
 | [],g=>rfl
 | bs :: r,g=>by
  simp only [Xl,List.length_append];rw [Ny f,Ny g];have:∀(r:List (List (List Zt))) (a b:Nat),(Xl a r).length=(Xl b r).length:=by
   intro r;induction r with
   | nil=>intros; rfl
   | cons x y ih =>
    intro a b;simp only [Xl,List.length_append];rw [Ny a,Ny b,ih (a+1) (b+1)]
  rw [this r (f+1) (g+1)]
theorem Zmx (x:List Zt)(r:List (List Zt))(b:Nat):Oh (x :: r) (b+1)=x.length+1+Oh r b:=by
 unfold Oh Jr;simp only [List.take_succ_cons,List.flatMap_cons,List.length_append,La]
theorem Kg (x:List (List Zt))(r:List (List (List Zt)))(f:Nat):Sj (x :: r) (f+1)=(Jr 0 x).length+Sj r f:=by
 unfold Sj;simp only [List.take_succ_cons,Xl,List.length_append];rw [Zpz 1 _ 0]
theorem Zss (f:Nat)(l:List Zt)(a:Nat)(h:a≤l.length):(Zba f l)[a]?=some (if a<l.length then l.getD a Yz else Nn,f):=by
 unfold Zba;by_cases ha:a<l.length
 ·
  rw [List.getElem?_append_left (by simpa using ha),if_pos ha];simp [List.getD,ha]
 ·
  have:a=l.length:=by omega
  subst this;rw [if_neg (by omega),List.getElem?_append_right (by simp)];simp
theorem Zdj (f:Nat):∀(bs:List (List Zt)) (b a:Nat),b<bs.length→a≤(bs.getD b []).length→(Jr f bs)[Oh bs b+a]?=some (if a<(bs.getD b []).length then (bs.getD b []).getD a Yz else Nn,f)∧Oh bs b+a<(Jr f bs).length
 | [],b,a,h,_=>absurd h (by simp)
 | x :: r,0,a,_,ha=>by
  have e:Jr f (x :: r)=Zba f x++Jr f r:=rfl;have o:Oh (x :: r) 0=0:=rfl;rw [e,o,Nat.zero_add];have hl:a<(Zba f x).length:=by rw [La]; simp [List.getD] at ha; omega
  refine⟨?_,by rw [List.length_append]; omega⟩;rw [List.getElem?_append_left hl,Zss f x a (by simpa [List.getD] using ha)];simp [List.getD]
 | x :: r,b+1,a,h,ha=>by
  have e:Jr f (x :: r)=Zba f x++Jr f r:=rfl;have ih:=Zdj f r b a (by simpa using h) (by simpa [List.getD] using ha);rw [e,Zmx];refine⟨?_,by rw [List.length_append,La]; omega⟩;rw [List.getElem?_append_right (by rw [La]; omega),La,show x.length+1+Oh r b+a-(x.length+1)=Oh r b+a by omega,ih.1];rfl
theorem Zko:∀(fs:List (List (List Zt))) (g f b a:Nat),f<fs.length→b<(fs.getD f []).length→a≤((fs.getD f []).getD b []).length→(Xl g fs)[Sj fs f+(Oh (fs.getD f []) b+a)]?=some (if a<((fs.getD f []).getD b []).length then ((fs.getD f []).getD b []).getD a Yz else Nn,g+f)∧Sj fs f+(Oh (fs.getD f []) b+a)<(Xl g fs).length
 | [],g,f,b,a,h,_,_=>absurd h (by simp)
 | x :: r,g,0,b,a,_,hb,ha=>by
  have o:Sj (x :: r) 0=0:=rfl;have ih:=Zdj g x b a (by simpa [List.getD] using hb) (by simpa [List.getD] using ha);have e1:(x :: r).getD 0 []=x:=rfl;rw [o,Nat.zero_add,Xl,e1];refine⟨?_,by rw [List.length_append]; omega⟩;rw [List.getElem?_append_left ih.2,ih.1];rfl
 | x :: r,g,f+1,b,a,h,hb,ha=>by
  have e1:(x :: r).getD (f+1) []=r.getD f []:=by simp [List.getD]
  rw [e1] at hb ha ⊢;have ih:=Zko r (g+1) f b a (by simpa using h) hb ha;rw [Kg,Xl,← Ny g x];refine⟨?_,by rw [List.length_append]; omega⟩;rw [List.getElem?_append_right (by omega),show(Jr g x).length+Sj r f+(Oh (r.getD f []) b+a)-(Jr g x).length=Sj r f+(Oh (r.getD f []) b+a) by omega,ih.1,show g+1+f=g+(f+1) by omega]
def Ja (C:Zk)(f b a:Int):Int:=if 0≤b∧b<((C.funcs.getD f.toNat []).length:Int) then ((Sj C.funcs f.toNat+(Oh (C.funcs.getD f.toNat []) b.toNat+a.toNat):Nat):Int) else -1
def Yx (C:Zk)(m:Zf):Int:=Ja C m.f m.bk m.at_
theorem Zdk (C:Zk)(f b a:Int)(h:¬ (0≤b∧b<((C.funcs.getD f.toNat []).length:Int))):Ja C f b a=-1:=by
 unfold Ja;rw [if_neg h]
theorem Oi (C:Zk)(f b a:Nat)(h:b<(C.funcs.getD f []).length):Ja C f b a=((Sj C.funcs f+(Oh (C.funcs.getD f []) b+a):Nat):Int):=by
 unfold Ja;rw [if_pos ⟨Int.natCast_nonneg _,by simpa using h⟩];simp
theorem Zst (C:Zk)(f b a:Nat)(hf:f<C.funcs.length)(hb:b<(C.funcs.getD f []).length)(ha:a≤((C.funcs.getD f []).getD b []).length):(Xl 0 C.funcs)[(Ja C f b a).toNat]?=some (if a<((C.funcs.getD f []).getD b []).length then ((C.funcs.getD f []).getD b []).getD a Yz else Nn,f)∧(Ja C f b a).toNat<(Xl 0 C.funcs).length:=by
 have:=Zko C.funcs 0 f b a hf hb ha;rw [Oi C f b a hb,Int.toNat_natCast];rw [Nat.zero_add] at this;exact this
def Zmy (C:Zk)(f:Nat):List Int:=(List.range (C.funcs.getD f []).length).map fun b:Nat=>Ja C (f:Int) (b:Int) 0
def Lg (C:Zk):List Int:=(Zg C).map fun p=>Ja C p.1 p.2.1 p.2.2
theorem Zbz (bs:List (List Zt))(b c:Nat)(h:b<c)(hc:c<bs.length):Oh bs b+(bs.getD b []).length<Oh bs c:=by
 have e:bs.take c=bs.take b++(bs.getD b []) :: (bs.take c).drop (b+1):=by
  have h1:bs.take c=(bs.take c).take b++(bs.take c).drop b:=(List.take_append_drop b _).symm;rw [List.take_take,Nat.min_eq_left (by omega)] at h1;have hl:b<(bs.take c).length:=by simp; omega
  rw [List.drop_eq_getElem_cons hl] at h1;rw [h1];congr 2
  ·
   simp [List.getD,show b<bs.length by omega]
  ·
   rw [← h1]
 unfold Oh;rw [e];unfold Jr;simp only [List.flatMap_append,List.flatMap_cons,List.length_append,La];omega
theorem Zgf (bs:List (List Zt))(b:Nat)(h:b<bs.length):Oh bs b+(bs.getD b []).length<(Jr 0 bs).length:=by
 have:=(Zdj 0 bs b (bs.getD b []).length h (Nat.le_refl _)).2;exact this
theorem Zca (fs:List (List (List Zt)))(f g:Nat)(h:f<g)(hg:g<fs.length):Sj fs f+(Jr 0 (fs.getD f [])).length≤Sj fs g:=by
 induction fs generalizing f g with
 | nil=>exact absurd hg (by simp)
 | cons x r ih =>
  cases g with
  | zero=>omega
  | succ g =>
   rw [Kg];cases f with
   | zero =>
    have o:Sj (x :: r) 0=0:=rfl;have e:(x :: r).getD 0 []=x:=rfl;rw [o,e];omega
   | succ f =>
    have e:(x :: r).getD (f+1) []=r.getD f []:=by simp [List.getD]
    rw [Kg,e];have:=ih f g (by omega) (by simpa using hg);omega
theorem Zgg (C:Zk)(f b a f' b' a':Nat)(hf:f<C.funcs.length)(hb:b<(C.funcs.getD f []).length)(ha:a≤((C.funcs.getD f []).getD b []).length)(hf':f'<C.funcs.length)(hb':b'<(C.funcs.getD f' []).length)(ha':a'≤((C.funcs.getD f' []).getD b' []).length)(h:Ja C f b a=Ja C f' b' a'):f=f'∧b=b'∧a=a':=by
 rw [Oi C f b a hb,Oi C f' b' a' hb'] at h;have h:=Int.ofNat_inj.1 h;have t1:=Zgf _ b hb;have t2:=Zgf _ b' hb';have hff:f=f':=by
  rcases Nat.lt_trichotomy f f' with hl | hl | hl
  ·
   have:=Zca C.funcs f f' hl hf';omega
  ·
   exact hl
  ·
   have:=Zca C.funcs f' f hl hf;omega
 subst hff;have hbb:b=b':=by
  rcases Nat.lt_trichotomy b b' with hl | hl | hl
  ·
   have:=Zbz _ b b' hl hb';omega
  ·
   exact hl
  ·
   have:=Zbz _ b' b hl hb;omega
 subst hbb;exact⟨rfl,rfl,by omega⟩
def Lh (x:Int):List Int→Int→Int
 | [],_=>0
 | q :: r,k=>if q=x then k else Lh x r (k+1)
theorem Zqa {g:Int×Int×Int→Int}(p:Int×Int×Int):∀(l:List (Int×Int×Int)) (k:Int),(∀ q ∈ l,g q=g p→q=p)→Lh (g p) (l.map g) k=Jh p l k
 | [],k,h=>rfl
 | q :: r,k,h=>by
  rw [List.map_cons,Lh,Jh];by_cases hq:q=p
  ·
   rw [if_pos hq,if_pos (by rw [hq])]
  ·
   rw [if_neg hq,if_neg (fun e=>hq (h q List.mem_cons_self e)),Zqa p r (k+1) (fun q hq=>h q (List.mem_cons_of_mem _ hq))]
theorem Zsu (C:Zk)(f b a:Nat)(hf:f<C.funcs.length)(hb:b<(C.funcs.getD f []).length)(ha:a≤((C.funcs.getD f []).getD b []).length):Lh (Ja C f b a) (Lg C) 1=Jh ((f:Int),(b:Int),(a:Int)) (Zg C) 1:=by
 unfold Lg;refine Zqa (g:=fun p=>Ja C p.1 p.2.1 p.2.2) ((f:Int),(b:Int),(a:Int)) (Zg C) 1 fun q hq he=>?_;obtain⟨i,hi,e⟩:=List.getElem_of_mem hq;obtain⟨f',b',k,e2,h1,h2,h3⟩:=Si C i hi;rw [List.getD_eq_getElem?_getD,List.getElem?_eq_getElem hi,Option.getD_some,e] at e2;subst e2;have:=Zgg C f' b' (k+1) f b a h1 h2 (by omega) hf hb ha he;obtain⟨rfl,rfl,rfl⟩:=this;rfl
theorem Lb {x:Int}(h:0≤x)(h2:x<18446744073709551616):IntKind.u64.wrap x=x:=by
 rw [show IntKind.u64.wrap x=x % 18446744073709551616 by simp [IntKind.wrap,IntKind.bits,IntKind.signed]];omega
theorem Zcb {x:Int}(h:0≤x)(h2:x<9223372036854775808):wrap64 x=x:=by
 simp only [wrap64];omega
def Gk (T:Zm)(C:Zk)(m:Zf):Zf :=
 match m.takeN T with
 | (m',none)=>m'
 | (m',some n)=>if n=0 then m'.endK 1 [] else if ((Zg C).length:Int)<n then m'.fault 4 else { m' with f:=((Zg C).getD (n.toNat-1) (0,0,0)).1,bk:=((Zg C).getD (n.toNat-1) (0,0,0)).2.1,at_:=((Zg C).getD (n.toNat-1) (0,0,0)).2.2 }
def Yv (T:Zm)(C:Zk)(own:Yc)(was:Nat→Int)(m:Zf)(i:Zt):Zf:=if i.op=19 then Gk T C m else Xo T C own was m i
def Xg (T:Zm)(C:Zk)(own:Yc)(was:Nat→Int)(m:Zf):Zf :=
 if Jq T (Zv C m)=true then Yv T C own was { m with at_:=m.at_+1 } (Zv C m) else m.fault 1
def evR (T:Zm)(C:Zk)(own:Yc)(was:Nat→Int):Nat→Zf→Zf
 | 0,m=>if m.kind=0 then m.endK 3 [] else m
 | n+1,m=>if m.kind=0 then evR T C own was n (Xg T C own was { m with steps:=m.steps+1 }) else m
def Jm (T:Zm)(own:Yc)(was:Nat→Int)(m:Zf):Zf:=if m.kind=1 then Yw T own was m else m
def K1 (m m':Zf):Prop:=m'.kind=m.kind∨m'.kind=4∨m'.kind=5
theorem K1.rf (m:Zf):K1 m m:=.inl rfl
theorem K1.tn {a b c:Zf}(h:K1 a b)(k:K1 b c):K1 a c:=by
 unfold K1 at *;rcases k with k | k | k
 ·
  rw [k]; exact h
 ·
  exact .inr (.inl k)
 ·
  exact .inr (.inr k)
theorem Zal (m:Zf)(c:Int):K1 m (m.fault c):=.inr (.inr rfl)
theorem Up (T:Zm)(m:Zf)(v:Int):K1 m (m.setSP T v).1:=by
 unfold Zf.setSP;split
 ·
  exact .inr (.inl rfl)
 split
 ·
  exact .inr (.inr rfl)
 ·
  exact .inl rfl
theorem Cs (T:Zm)(m:Zf)(r:Nat)(v:Int):K1 m (m.setR T r v).1:=by
 unfold Zf.setR;split
 ·
  exact Up T m v
 ·
  exact .inl rfl
theorem Zgh (m:Zf)(a k:Int):K1 m (m.reach a k).1:=by
 unfold Zf.reach;split
 ·
  exact .inr (.inr rfl)
 split
 ·
  exact .inr (.inl rfl)
 split
 ·
  exact .inr (.inr rfl)
 ·
  exact .inl rfl
theorem Db (m:Zf)(a k:Int):K1 m (m.load a k).1:=by
 unfold Zf.load;split
 ·
  exact K1.rf m
 ·
  exact Zgh m a k
theorem Uq (m:Zf)(a k v:Int):K1 m (m.store a k v).1:=by
 unfold Zf.store;split
 ·
  exact .inl rfl
 ·
  exact Zgh m a k
theorem Zdl (T:Zm)(m:Zf)(p:Int×Int):K1 m (m.read T p).1:=by
 unfold Zf.read;split
 ·
  exact Db _ _ _
 ·
  exact K1.rf m
theorem Zqb (T:Zm)(m:Zf)(p:Int×Int)(v:Int):K1 m (m.write T p v).1:=by
 unfold Zf.write;split
 ·
  exact Uq _ _ _ _
 ·
  exact Cs _ _ _ _
theorem Zui (T:Zm)(m:Zf):K1 m (m.aligned T).1:=by
 unfold Zf.aligned;split
 ·
  exact K1.rf m
 ·
  exact Zal m 3
theorem Zkp (T:Zm)(m:Zf)(n:Int):K1 m (m.putN T n).1:=by
 unfold Zf.putN;split
 ·
  split
  ·
   exact(Up T m _).tn (Uq _ _ _ _)
  ·
   exact Up T m _
 ·
  exact Cs _ _ _ _
theorem Zgi (T:Zm)(m:Zf):K1 m (m.takeN T).1:=by
 unfold Zf.takeN;split
 ·
  split
  ·
   exact(Db m _ _).tn (Up T _ _)
  ·
   exact Db m _ _
 ·
  exact K1.rf m
theorem Zkq (T:Zm)(m:Zf)(x:Xm)(n:Nat):K1 m (m.wordOf T x n).1:=by
 unfold Zf.wordOf;split
 ·
  exact Zdl _ _ _
 ·
  split
  ·
   exact(Zdl T m _).tn (Db _ _ _)
  ·
   exact Zdl _ _ _
theorem Zgj (T:Zm):∀(l:List (Xm×Nat)) (m:Zf) (acc:List Int),K1 m (Zo T m l acc).1
 | [],m,acc=>K1.rf m
 | x :: r,m,acc=>by
  rw [Zo];split
  ·
   exact(Zkq T m _ _).tn (Zgj T r _ _)
  ·
   exact Zkq T m _ _
theorem Zkr (T:Zm)(base:Int):∀(n k:Nat) (m:Zf),K1 m (Ys T base n k m).1
 | 0,k,m=>K1.rf m
 | n+1,k,m=>by
  rw [Ys];split
  ·
   exact(Uq m _ _ _).tn (Zkr T base n (k+1) _)
  ·
   exact Uq m _ _ _
theorem Zks (T:Zm):∀(r:List (Int×Int)) (m:Zf) (sc:List Int),K1 m (Xa T m r sc)
 | [],m,sc=>K1.rf m
 | p :: r,m,sc=>by
  rw [Xa];exact(Zqb T m _ _).tn (Zks T r _ _)
theorem Zqc (T:Zm)(m:Zf)(r a k:Int):K1 m (Jb T m r a k):=by
 unfold Jb;split
 ·
  exact(Db m _ _).tn (Cs _ _ _ _)
 ·
  exact Db m _ _
theorem Zgk (T:Zm)(m:Zf)(z:Int):K1 m (Zz T m z).1:=by
 unfold Zz;exact(show K1 m { m with rg:=Lk T m.rg (IntKind.u64.wrap (65536*m.tr.length)) } from .inl rfl).tn (Zkr T _ _ _ _)
theorem Zgl (F:Nat)(m:Zf)(f:Int):K1 m (m.enter F f).1:=by
 unfold Zf.enter;split
 ·
  exact .inl rfl
 ·
  exact Zal m 1
theorem Zkt (T:Zm)(F:Nat)(m:Zf)(f k:Int):K1 m (m.call T F f k).1:=by
 unfold Zf.call;split
 ·
  split
  ·
   exact(Zkp T m k).tn (Zgl _ _ _)
  ·
   exact Zkp T m k
 ·
  exact Zui T m
theorem Zwn (T:Zm)(C:Zk)(m:Zf)(f:Int):K1 m (Xk T C m f):=by
 unfold Xk;split
 ·
  exact Zui T m
 ·
  split
  ·
   generalize Ng _ _=L;have hs:=Zgj T L m [];split
   ·
    rename_i m' he;rw [he] at hs;exact hs
   ·
    rename_i m' ws he;rw [he] at hs;have h1:K1 m { m' with tr:=m'.tr++[(f,ws)] }:=hs;split
    ·
     unfold Xw;exact(h1.tn (Zgk T _ _)).tn (K1.tn (.inl rfl) (Zks T _ _ _))
    ·
     exact h1.tn (Zgk T _ _)
  ·
   exact Zal m 1
theorem Zku (T:Zm)(C:Zk)(own:Yc)(was:Nat→Int)(m:Zf)(i:Zt)(hi:i.op≠19):(Xo T C own was m i).kind≠1∨(Xo T C own was m i).kind=m.kind:=by
 have fin:∀ m',K1 m m'→m'.kind≠1∨m'.kind=m.kind:=fun m' h=>by
  rcases h with h | h | h
  ·
   exact .inr h
  ·
   left; rw [h]; decide
  ·
   left; rw [h]; decide
 exact Uo (Q:=fun x=>x.kind≠1∨x.kind=m.kind) T C own was m i (fun _ _=>fin _ (Cs _ _ _ _)) (fun _ _ _=>fin _ (Zqc _ _ _ _ _)) (fun _ _ _=>fin _ (Uq _ _ _ _)) (fun _=>fin _ (Up _ _ _)) (fun _ _=>fin _ (Zkt _ _ _ _ _)) (fun _=>fin _ (Zwn _ _ _ _)) (fun _=>.inr rfl) (fun h=>absurd h hi) (fun _=>fin _ (Zgl _ _ _)) (fun _=>.inl (by show(2:Int)≠1; decide))
theorem Zkv (T:Zm)(m:Zf)(size:Int)(p:Int×Int)(hp:PlK T size p)(h0:0≤m.sp T)(h1:m.sp T+size≤m.me.length)(hl:m.me.length≤65536):∃ v,m.read T p=(m,some v)∧∀ k vs,(m.endK k vs).read T p=(m.endK k vs,some v):=by
 unfold Zf.read;rcases hp with⟨e,h2,h3,-⟩ | ⟨h2,h3,-⟩
 ·
  have ea:IntKind.u64.wrap p.2=p.2:=Lb (by omega) (by omega);have eb:IntKind.u64.wrap (m.sp T+p.2)=m.sp T+p.2:=Lb (by omega) (by omega);have ew:wrap64 (m.sp T+p.2)=m.sp T+p.2:=Zcb (by omega) (by omega);rw [if_pos e,ea,eb];have hr:∀ m':Zf,m'.me=m.me→m'.load (m.sp T+p.2) 8=(m',some (ldB m.me (m.sp T+p.2).toNat 8)):=fun m' hm=>by
   have:m'.reach (m.sp T+p.2) 8=(m',true):=by
    unfold Zf.reach;rw [if_neg (by decide),ew,hm,if_neg (by omega),if_neg (by omega)]
   unfold Zf.load;rw [this,if_pos rfl,ew,hm];rfl
  refine⟨_,hr m rfl,fun k vs=>?_⟩;rw [if_pos e];have:(m.endK k vs).sp T=m.sp T:=rfl;rw [this,eb,hr (m.endK k vs) rfl]
 ·
  rw [if_neg (by omega)];refine⟨_,rfl,fun k vs=>?_⟩;rw [if_neg (by omega)];rfl
theorem Zgm (T:Zm)(size:Int)(m:Zf)(h0:0≤m.sp T)(h1:m.sp T+size≤m.me.length)(hl:m.me.length≤65536):∀(r:List (Int×Int)) (acc:List Int),(∀ p ∈ r,PlK T size p)→∃ vs,Ya T m r acc=(m,vs)∧∀ k us,Ya T (m.endK k us) r acc=(m.endK k us,vs)
 | [],acc,_=>⟨acc,rfl,fun _ _=>rfl⟩
 | p :: r,acc,hp=>by
  obtain⟨v,e1,e2⟩:=Zkv T m size p (hp p List.mem_cons_self) h0 h1 hl;obtain⟨vs,e3,e4⟩:=Zgm T size m h0 h1 hl r (acc++[v]) (fun q hq=>hp q (List.mem_cons_of_mem _ hq));refine⟨vs,?_,fun k us=>?_⟩
  ·
   rw [Ya,e1]; exact e3
  ·
   rw [Ya,e2]; exact e4 k us
structure Zam (T:Zm)(own:Yc)(was:Nat→Int)(L:Nat):Prop where
 s0:0≤was T.spN
 s1:was T.spN+own.size≤L
 l:L≤65536
 rs:∀ p ∈ own.res,PlK T own.size p
theorem Zgn (T:Zm)(own:Yc)(was:Nat→Int)(m:Zf)(h:Zam T own was m.me.length):Yw T own was (m.endK 1 [])=Yw T own was m:=by
 unfold Yw;have hk:Ma T was (m.endK 1 [])=Ma T was m:=rfl;rw [hk];by_cases hc:Ma T was m=true
 ·
  rw [if_pos hc,if_pos hc];have hs:m.sp T=was T.spN:=by
   unfold Ma at hc;simp at hc;exact hc.2
  obtain⟨vs,e1,e2⟩:=Zgm T own.size m (by rw [hs]; exact h.s0) (by rw [hs]; exact h.s1) h.l own.res [] h.rs;rw [e1,e2];rfl
 ·
  rw [if_neg hc,if_neg hc];rfl
theorem Zmz (T:Zm)(C:Zk)(own:Yc)(was:Nat→Int)(m:Zf)(h:Zam T own was m.me.length)(hz:m.kind=0):Yb T C own was m=Jm T own was (Xg T C own was m):=by
 unfold Yb Xg;by_cases hk:Jq T (Zv C m)=true
 ·
  rw [if_pos hk,if_pos hk];unfold Yv;by_cases ho:(Zv C m).op=19
  ·
   rw [if_pos ho];have e:Xo T C own was { m with at_:=m.at_+1 } (Zv C m)=Mz T C own was { m with at_:=m.at_+1 }:=by
    unfold Xo;simp [ho]
   rw [e];have hs:=Mu T { m with at_:=m.at_+1 };have hk1:=Zgi T { m with at_:=m.at_+1 };unfold Mz Gk;generalize Zf.takeN T { m with at_:=m.at_+1 }=y at hs hk1 ⊢;have hz2:y.1.kind≠1:=by
    rcases hk1 with h1 | h1 | h1
    ·
     rw [h1]; show m.kind≠1; rw [hz]; decide
    ·
     rw [h1]; decide
    ·
     rw [h1]; decide
   have hl:y.1.me.length=m.me.length:=hs.len;obtain⟨m',_ | k⟩:=y
   ·
    show m'=Jm T own was m';unfold Jm;rw [if_neg hz2]
   ·
    show(if k=0 then Yw T own was m' else if ((Zg C).length:Int)<k then m'.fault 4 else _)=Jm T own was (if k=0 then m'.endK 1 [] else if ((Zg C).length:Int)<k then m'.fault 4 else _);by_cases hk0:k=0
    ·
     rw [if_pos hk0,if_pos hk0];unfold Jm;rw [if_pos (show(m'.endK 1 []).kind=1 from rfl),Zgn T own was m' (by rw [show m'.me.length=m.me.length from hl]; exact h)]
    ·
     rw [if_neg hk0,if_neg hk0];by_cases hk2:((Zg C).length:Int)<k
     ·
      rw [if_pos hk2];unfold Jm;rw [if_neg (by show(5:Int)≠1; decide)]
     ·
      rw [if_neg hk2];unfold Jm;rw [if_neg hz2]
  ·
   rw [if_neg ho];unfold Jm;rw [if_neg];rcases Zku T C own was { m with at_:=m.at_+1 } (Zv C m) ho with h1 | h1
   ·
    exact h1
   ·
    rw [h1,show({ m with at_:=m.at_+1 }:Zf).kind=m.kind from rfl,hz];decide
 ·
  rw [if_neg hk,if_neg hk];unfold Jm;rw [if_neg (by show(5:Int)≠1; decide)]
theorem Sk (T:Zm)(F:Nat)(m:Zf)(f k:Int):(m.call T F f k).1.me.length=m.me.length:=by
 unfold Zf.call;split
 ·
  split
  ·
   unfold Zf.enter;split
   ·
    exact(Mn T m k).len
   ·
    exact(Mn T m k).len
  ·
   exact(Mn T m k).len
 ·
  exact(Sh T m).len
theorem Zsv (T:Zm)(C:Zk)(m:Zf)(f:Int):(Xk T C m f).me.length=m.me.length:=by
 unfold Xk;split
 ·
  exact(Sh T m).len
 ·
  split
  ·
   generalize Ng _ _=L;have hs:=Mv T L m [];split
   ·
    rename_i m' he;rw [he] at hs;exact hs.len
   ·
    rename_i m' ws he;rw [he] at hs;split
    ·
     unfold Xw;rw [(Nk T _ _ _).len];exact(Md T _ _).len.trans hs.len
    ·
     exact(Md T _ _).len.trans hs.len
  ·
   rfl
theorem Zgo (T:Zm)(C:Zk)(own:Yc)(was:Nat→Int)(m:Zf):(Xg T C own was m).me.length=m.me.length:=by
 unfold Xg;split
 ·
  unfold Yv;split
  ·
   have hs:=Mu T { m with at_:=m.at_+1 };unfold Gk;generalize Zf.takeN T { m with at_:=m.at_+1 }=y at hs ⊢;obtain⟨m',_ | k⟩:=y
   ·
    exact hs.len
   ·
    show(Zf.me (if k=0 then _ else if ((Zg C).length:Int)<k then _ else _)).length=_;by_cases hk0:k=0
    ·
     rw [if_pos hk0]; exact hs.len
    ·
     rw [if_neg hk0];by_cases hk2:((Zg C).length:Int)<k
     ·
      rw [if_pos hk2]; exact hs.len
     ·
      rw [if_neg hk2]; exact hs.len
  ·
   rename_i h19;exact Uo (Q:=fun x=>x.me.length=m.me.length) T C own was { m with at_:=m.at_+1 } _ (fun _ _=>(Jc _ _ _ _).len) (fun _ _ _=>(Un _ _ _ _ _).len) (fun _ _ _=>(Xx _ _ _ _).len) (fun _=>(Gb _ _ _).len) (fun _ _=>Sk _ _ _ _ _) (fun _=>Zsv _ _ _ _) (fun _=>rfl) (fun h=>absurd h h19) (fun f=>by
    show(Zf.enter _ _ f).1.me.length=_;unfold Zf.enter;split <;> rfl) (fun _=>rfl)
 ·
  rfl
theorem Zkw (T:Zm)(C:Zk)(own:Yc)(was:Nat→Int):∀(n:Nat) (m:Zf),Zam T own was m.me.length→m.kind=0→On T C own was n m=Jm T own was (evR T C own was n m)
 | 0,m,_,hz=>by
  rw [On,evR,if_pos hz];unfold Jm;rw [if_neg (by show(3:Int)≠1; decide)]
 | n+1,m,h,hz=>by
  rw [On,evR,if_pos hz,if_pos hz,Zmz T C own was { m with steps:=m.steps+1 } h hz];generalize hs:Xg T C own was { m with steps:=m.steps+1 }=x;have hl:x.me.length=m.me.length:=by rw [← hs]; exact Zgo T C own was _
  by_cases hx:x.kind=0
  ·
   have:Jm T own was x=x:=by unfold Jm; rw [if_neg (by omega)]
   rw [this,Zkw T C own was n x (by rw [hl]; exact h) hx]
  ·
   have e1:evR T C own was n x=x:=by
    cases n <;> rw [evR,if_neg hx]
   rw [e1];have hk:(Jm T own was x).kind≠0:=by
    unfold Jm;split
    ·
     unfold Yw;split
     ·
      show(1:Int)≠0; decide
     ·
      show(5:Int)≠0; decide
    ·
     exact hx
   cases n <;> rw [On,if_neg hk]
def R0 (m m':Zf):Prop:=(m'.kind=m.kind∧m'.code=m.code∧m'.vals=m.vals)∨m'.kind=4∨m'.kind=5
theorem R0.rf (m:Zf):R0 m m:=.inl ⟨rfl,rfl,rfl⟩
theorem R0.tn {a b c:Zf}(h:R0 a b)(k:R0 b c):R0 a c:=by
 unfold R0 at *;rcases k with k | k | k
 ·
  rcases h with h | h | h
  ·
   exact .inl ⟨k.1.trans h.1,k.2.1.trans h.2.1,k.2.2.trans h.2.2⟩
  ·
   exact .inr (.inl (k.1.trans h))
  ·
   exact .inr (.inr (k.1.trans h))
 ·
  exact .inr (.inl k)
 ·
  exact .inr (.inr k)
theorem Sl (m:Zf)(c:Int):R0 m (m.fault c):=.inr (.inr rfl)
theorem Ur (T:Zm)(m:Zf)(v:Int):R0 m (m.setSP T v).1:=by
 unfold Zf.setSP;split
 ·
  exact .inr (.inl rfl)
 split
 ·
  exact .inr (.inr rfl)
 ·
  exact .inl ⟨rfl,rfl,rfl⟩
theorem Ct (T:Zm)(m:Zf)(r:Nat)(v:Int):R0 m (m.setR T r v).1:=by
 unfold Zf.setR;split
 ·
  exact Ur T m v
 ·
  exact .inl ⟨rfl,rfl,rfl⟩
theorem Zgp (m:Zf)(a k:Int):R0 m (m.reach a k).1:=by
 unfold Zf.reach;split
 ·
  exact .inr (.inr rfl)
 split
 ·
  exact .inr (.inl rfl)
 split
 ·
  exact .inr (.inr rfl)
 ·
  exact .inl ⟨rfl,rfl,rfl⟩
theorem Dc (m:Zf)(a k:Int):R0 m (m.load a k).1:=by
 unfold Zf.load;split
 ·
  exact R0.rf m
 ·
  exact Zgp m a k
theorem Us (m:Zf)(a k v:Int):R0 m (m.store a k v).1:=by
 unfold Zf.store;split
 ·
  exact .inl ⟨rfl,rfl,rfl⟩
 ·
  exact Zgp m a k
theorem Zdn (T:Zm)(m:Zf)(p:Int×Int):R0 m (m.read T p).1:=by
 unfold Zf.read;split
 ·
  exact Dc _ _ _
 ·
  exact R0.rf m
theorem Zqf (T:Zm)(m:Zf)(p:Int×Int)(v:Int):R0 m (m.write T p v).1:=by
 unfold Zf.write;split
 ·
  exact Us _ _ _ _
 ·
  exact Ct _ _ _ _
theorem Zuj (T:Zm)(m:Zf):R0 m (m.aligned T).1:=by
 unfold Zf.aligned;split
 ·
  exact R0.rf m
 ·
  exact Sl m 3
theorem Zkz (T:Zm)(m:Zf)(n:Int):R0 m (m.putN T n).1:=by
 unfold Zf.putN;split
 ·
  split
  ·
   exact(Ur T m _).tn (Us _ _ _ _)
  ·
   exact Ur T m _
 ·
  exact Ct _ _ _ _
theorem Zqg (T:Zm)(m:Zf):R0 m (m.takeN T).1:=by
 unfold Zf.takeN;split
 ·
  split
  ·
   exact(Dc m _ _).tn (Ur T _ _)
  ·
   exact Dc m _ _
 ·
  exact R0.rf m
theorem Zla (T:Zm)(m:Zf)(x:Xm)(n:Nat):R0 m (m.wordOf T x n).1:=by
 unfold Zf.wordOf;split
 ·
  exact Zdn _ _ _
 ·
  split
  ·
   exact(Zdn T m _).tn (Dc _ _ _)
  ·
   exact Zdn _ _ _
theorem Zgq (T:Zm):∀(l:List (Xm×Nat)) (m:Zf) (acc:List Int),R0 m (Zo T m l acc).1
 | [],m,acc=>R0.rf m
 | x :: r,m,acc=>by
  rw [Zo];split
  ·
   exact(Zla T m _ _).tn (Zgq T r _ _)
  ·
   exact Zla T m _ _
theorem Zlb (T:Zm)(base:Int):∀(n k:Nat) (m:Zf),R0 m (Ys T base n k m).1
 | 0,k,m=>R0.rf m
 | n+1,k,m=>by
  rw [Ys];split
  ·
   exact(Us m _ _ _).tn (Zlb T base n (k+1) _)
  ·
   exact Us m _ _ _
theorem Zlc (T:Zm):∀(r:List (Int×Int)) (m:Zf) (sc:List Int),R0 m (Xa T m r sc)
 | [],m,sc=>R0.rf m
 | p :: r,m,sc=>by
  rw [Xa];exact(Zqf T m _ _).tn (Zlc T r _ _)
theorem Zqh (T:Zm)(m:Zf)(r a k:Int):R0 m (Jb T m r a k):=by
 unfold Jb;split
 ·
  exact(Dc m _ _).tn (Ct _ _ _ _)
 ·
  exact Dc m _ _
theorem Zgr (T:Zm)(m:Zf)(z:Int):R0 m (Zz T m z).1:=by
 unfold Zz;exact(show R0 m { m with rg:=Lk T m.rg (IntKind.u64.wrap (65536*m.tr.length)) } from .inl ⟨rfl,rfl,rfl⟩).tn (Zlb T _ _ _ _)
theorem Zgs (F:Nat)(m:Zf)(f:Int):R0 m (m.enter F f).1:=by
 unfold Zf.enter;split
 ·
  exact .inl ⟨rfl,rfl,rfl⟩
 ·
  exact Sl m 1
theorem Zld (T:Zm)(F:Nat)(m:Zf)(f k:Int):R0 m (m.call T F f k).1:=by
 unfold Zf.call;split
 ·
  split
  ·
   exact(Zkz T m k).tn (Zgs _ _ _)
  ·
   exact Zkz T m k
 ·
  exact Zuj T m
theorem Zwo (T:Zm)(C:Zk)(m:Zf)(f:Int):R0 m (Xk T C m f):=by
 unfold Xk;split
 ·
  exact Zuj T m
 ·
  split
  ·
   generalize Ng _ _=L;have hs:=Zgq T L m [];split
   ·
    rename_i m' he;rw [he] at hs;exact hs
   ·
    rename_i m' ws he;rw [he] at hs;have h1:R0 m { m' with tr:=m'.tr++[(f,ws)] }:=hs;split
    ·
     unfold Xw;exact(h1.tn (Zgr T _ _)).tn (R0.tn (.inl ⟨rfl,rfl,rfl⟩) (Zlc T _ _ _))
    ·
     exact h1.tn (Zgr T _ _)
  ·
   exact Sl m 1
theorem Zwp (T:Zm)(C:Zk)(m:Zf):R0 m (Gk T C m)∨(Gk T C m).kind=1:=by
 have hs:=Zqg T m;unfold Gk;split
 ·
  rename_i m' he;rw [he] at hs;exact .inl hs
 ·
  rename_i m' k he;rw [he] at hs;have hs:R0 m m':=hs;split
  ·
   exact .inr rfl
  ·
   split
   ·
    exact .inl (hs.tn (Sl m' 4))
   ·
    exact .inl (hs.tn (.inl ⟨rfl,rfl,rfl⟩))
theorem Dn {m m':Zf}(h:Q0 m)(k:R0 m m')(h0:m'.kind=0):Q0 m':=by
 rcases k with k | k | k
 ·
  exact⟨h0,k.2.1.trans h.code,k.2.2.trans h.vals⟩
 ·
  rw [h0] at k; cases k
 ·
  rw [h0] at k; cases k
theorem Zsw (T:Zm)(C:Zk)(own:Yc)(was:Nat→Int)(m:Zf)(i:Zt)(h:Q0 m)(h0:(Yv T C own was m i).kind=0):Q0 (Yv T C own was m i):=by
 unfold Yv at h0 ⊢;by_cases hi:i.op=19
 ·
  rw [if_pos hi] at h0 ⊢;rcases Zwp T C m with k | k
  ·
   exact Dn h k h0
  ·
   rw [h0] at k; cases k
 ·
  rw [if_neg hi] at h0 ⊢;exact Uo (Q:=fun x=>x.kind=0→Q0 x) T C own was m i (fun _ _=>Dn h (Ct _ _ _ _)) (fun _ _ _=>Dn h (Zqh _ _ _ _ _)) (fun _ _ _=>Dn h (Us _ _ _ _)) (fun _=>Dn h (Ur _ _ _)) (fun _ _=>Dn h (Zld _ _ _ _ _)) (fun _=>Dn h (Zwo _ _ _ _)) (fun _=>Dn h (.inl ⟨rfl,rfl,rfl⟩)) (fun e=>absurd e hi) (fun _=>Dn h (Zgs _ _ _)) (fun _ e=>absurd e (by show ¬ (2:Int)=0; decide)) h0
theorem Zsx (T:Zm)(C:Zk)(own:Yc)(was:Nat→Int)(m:Zf)(h:Q0 m)(h0:(Xg T C own was m).kind=0):Q0 (Xg T C own was m):=by
 unfold Xg at h0 ⊢;by_cases hk:Jq T (Zv C m)=true
 ·
  rw [if_pos hk] at h0 ⊢;exact Zsw T C own was _ _ ⟨h.kind,h.code,h.vals⟩ h0
 ·
  rw [if_neg hk] at h0;cases h0
section
variable {T:Zm} {C:Zk} {own:Yc} {was:Nat→Int} {n:Nat}
theorem Zsy {m:Zf}{q:Nat}(h:Nm C n q m):Nm C n q (Gk T C m):=by
 have hs:=Mu T m;unfold Gk;split
 ·
  rename_i m' he;rw [he] at hs;exact hs.iv h
 ·
  rename_i m' k he;rw [he] at hs;have h':=hs.iv h;split
  ·
   exact(Zii m' 1 []).iv h'
  ·
   split
   ·
    exact(Ga m' 4).iv h'
   ·
    rename_i h0 h1;by_cases hk:k.toNat-1<(Zg C).length
    ·
     obtain⟨f,b,i,e,hf,hb,hi⟩:=Si C _ hk;rw [e];refine⟨⟨Int.natCast_nonneg _,by simpa using hf⟩,⟨by simp only; omega,?_⟩,h'.tr,h'.st,h'.sc⟩;show(i:Int)+1≤((Di C _).length:Int);unfold Di;simp only [Int.natCast_nonneg,if_true,Int.toNat_natCast];omega
    ·
     have e:(Zg C).getD (k.toNat-1) (0,0,0)=(0,0,0):=by
      rw [List.getD_eq_getElem?_getD,List.getElem?_eq_none (by omega)];rfl
     rw [e];refine⟨⟨Int.le_refl _,show(0:Int)<_ by have:=h.f; omega⟩,⟨Int.le_refl _,Int.natCast_nonneg _⟩,h'.tr,h'.st,h'.sc⟩
theorem Zqi {m:Zf}(h:Nm C n 1 m):Nm C n 0 (Xg T C own was m):=by
 unfold Xg;by_cases hk:Jq T (Zv C m)=true
 ·
  rw [if_pos hk];have h1:Nm C n 1 { m with at_:=m.at_+1 }:=by
   have hl:=Zge h hk;exact⟨h.f,⟨by show(0:Int)≤m.at_+1; have:=h.a; omega,by show m.at_+1≤_; exact hl⟩,h.tr,h.st,h.sc⟩
  unfold Yv;split
  ·
   exact(Zsy h1).low
  ·
   exact Zkm h1 _
 ·
  rw [if_neg hk];exact((Ga m 1).iv h).low
end
theorem Zij (T:Zm)(C:Zk)(m:Zf):(Gk T C m).steps=m.steps:=by
 have hs:=Mu T m;unfold Gk;split
 ·
  rename_i m' he;rw [he] at hs;exact hs.steps
 ·
  rename_i m' k he;rw [he] at hs;split
  ·
   exact hs.steps
  ·
   split
   ·
    exact hs.steps
   ·
    exact hs.steps
theorem Zgt (T:Zm)(C:Zk)(own:Yc)(was:Nat→Int)(m:Zf):(Xg T C own was m).steps=m.steps:=by
 by_cases hi:(Zv C m).op=19
 ·
  unfold Xg Yv;rw [if_pos hi];split
  ·
   exact Zij T C _
  ·
   rfl
 ·
  have:Xg T C own was m=Yb T C own was m:=by
   unfold Xg Yb Yv;rw [if_neg hi]
  rw [this];exact Zak T C own was m
end Go.Proofs.YtnlcfnjeagmemaaGreatDoor
namespace Go.Proofs.YtnlcfnjeagmemaaGreatDoor
open Go.RowKit Go.MapKept
def MpI (bs:List Int)(l:List MapEntry)(k:Nat):Prop:=l.length=bs.length∧∀ i (h:i<l.length),l[i].key=.int .i64 (bs.getD i 0)∧l[i].val=.int .i64 ((k+i:Nat):Int)
theorem Zkj {d:TypeDesc}(hs:∀ a b:Int,Instr.sameNow d (.int .i64 a) (.int .i64 b)=some (decide (a=b)))(p:Int):∀(bs:List Int) (l:List MapEntry) (k i:Nat),MpI bs l k→∃ o,Instr.findNow d (.int .i64 p) l i=some o∧(o=none∧Lh p bs k=0∧p ∉ bs∨∃ j,o=some (j,.int .i64 (Lh p bs k))∧p ∈ bs)
 | [],[],k,i,_=>⟨none,by simp [Instr.findNow],.inl ⟨rfl,rfl,by simp⟩⟩
 | [],e :: l,k,i,h=>absurd h.1 (by simp)
 | q :: bs,[],k,i,h=>absurd h.1 (by simp)
 | q :: bs,e :: l,k,i,h=>by
  obtain⟨h1,h2⟩:=h;have h0:=h2 0 (by simp);simp only [List.getElem_cons_zero,List.getD_cons_zero,Nat.add_zero] at h0;by_cases hq:q=p
  ·
   refine⟨some (i,e.val),?_,.inr ⟨i,?_,by simp [hq]⟩⟩
   ·
    rw [Instr.findNow,h0.1,hs,decide_eq_true hq.symm]
   ·
    rw [h0.2];unfold Lh;rw [if_pos hq]
  ·
   have ih:=Zkj hs p bs l (k+1) (i+1) ⟨by simpa using h1,fun j hj=>by
    have:=h2 (j+1) (by simp; omega);simp only [List.getElem_cons_succ,List.getD_cons_succ] at this;rw [show k+1+j=k+(j+1) by omega];exact this⟩
   obtain⟨o,r1,r2⟩:=ih;refine⟨o,?_,?_⟩
   ·
    rw [Instr.findNow,h0.1,hs,decide_eq_false (fun e=>hq e.symm)];exact r1
   ·
    have e1:Lh p (q :: bs) k=Lh p bs (k+1):=by rw [Lh,if_neg hq]
    rw [e1,show((k:Int)+1)=((k+1:Nat):Int) by omega];rcases r2 with⟨a,b,c⟩ | ⟨j,a,b⟩
    ·
     exact .inl ⟨a,b,by simp; exact⟨fun e=>hq e.symm,c⟩⟩
    ·
     exact .inr ⟨j,a,by simp [b]⟩
theorem Zpx (k:TypeDesc)(hk:Tryz.prog.underlying 3=some k)(a b:Int):Instr.sameNow k (.int .i64 a) (.int .i64 b)=some (decide (a=b)):=by
 rw [Tryz.underlying3] at hk;injection hk with hk;subst hk;first
  | rfl
  | (simp only [Instr.sameNow]; congr 1)
  | (simp [Instr.sameNow])
theorem Zkk (p:Int)(e:Bool)(w:World):(Instr.checkKey e 10000 3 (.int .i64 p)).run Tryz.prog w=.ok () w:=by
 have u3:=Tryz.underlying3;rw [show(10000:Nat)=9999+1 from rfl,Instr.checkKey];simp only [Sem.run_bind,run_underlying u3,Result.andThen];rfl
theorem Zga (p:Int)(w:World)(bs:List Int)(l:List MapEntry)(h:MpI bs l 1):∃ o,(Instr.findKey 3 (.int .i64 p) l).run Tryz.prog w=.ok o w∧(o=none∧Lh p bs 1=0∧p ∉ bs∨∃ j,o=some (j,.int .i64 (Lh p bs 1))∧p ∈ bs):=by
 obtain⟨o,h1,h2⟩:=Zkj (Zpx _ Tryz.underlying3) p bs l 1 0 h;exact⟨o,run_findKey Tryz.underlying3 h1,h2⟩
theorem Zpy (p:Int)(w:World)(r ck:Nat)(es:Array MapEntry)(bs:List Int)(hb:w.heap[r]?=some (.map es ck))(h:MpI bs es.toList 1) :
 (Instr.lookup 83 (.map (some r)) (.int .i64 p) false).run Tryz.prog w=.ok (.int .i64 (Lh p bs 1)) w:=by
 obtain⟨o,h1,h2⟩:=Zga p w bs es.toList h;have hz:(zeroValue 3).run Tryz.prog w=.ok (.int .i64 0) w:=by kernel_rfl
 unfold Instr.lookup;simp only [Sem.run_bind,run_underlying Tryz.underlying83,Result.andThen_ok,Go.MapKept.run_getObj_map hb,Sem.run_pure,Zkk,h1];rcases h2 with⟨rfl,e,-⟩ | ⟨j,rfl,-⟩
 ·
  simp only [Sem.run_bind,hz,Result.andThen_ok];rw [e];rfl
 ·
  rfl
theorem Zsq (p:Int)(w:World)(r ck:Nat)(es:Array MapEntry)(bs:List Int)(hb:w.heap[r]?=some (.map es ck))(h:MpI bs es.toList 1)(hp:p ∉ bs)(v:Value) :
 (Instr.mapUpdate 83 (.map (some r)) (.int .i64 p) v).run Tryz.prog w=.ok () { w with heap:=w.heap.setIfInBounds r (.map (es.push { key:=.int .i64 p,val:=v,born:=ck }) (ck+1)) }:=by
 obtain⟨o,h1,h2⟩:=Zga p w bs es.toList h;rcases h2 with⟨rfl,e,-⟩ | ⟨j,rfl,hh⟩
 ·
  unfold Instr.mapUpdate;simp only [Sem.run_bind,run_underlying Tryz.underlying83,Result.andThen_ok,Go.MapKept.run_getObj_map hb,Zkk,h1,Go.MapKept.run_setObj_map _ hb]
 ·
  exact absurd hh hp
theorem MpI.snoc {bs:List Int}{es:Array MapEntry}(h:MpI bs es.toList 1)(p:Int)(ck:Nat):MpI (bs++[p]) (es.push { key:=.int .i64 p,val:=.int .i64 ((bs.length+1:Nat):Int),born:=ck }).toList 1:=by
 obtain⟨h1,h2⟩:=h;refine⟨by simp at h1 ⊢; omega,fun i hi=>?_⟩;have h1':es.size=bs.length:=by simpa using h1
 by_cases hk:i<es.size
 ·
  have h3:=h2 i (by simpa using hk);have e1:(es.push { key:=.int .i64 p,val:=.int .i64 ((bs.length+1:Nat):Int),born:=ck }).toList[i]=es.toList[i]'(by simpa using hk):=by
   simp [hk]
  rw [e1];have e2:(bs++[p]).getD i 0=bs.getD i 0:=by
   simp [List.getD,List.getElem?_append_left (show i<bs.length by omega)]
  rw [e2];exact h3
 ·
  have hi':i=es.size:=by simp at hi; omega
  subst hi';have e1:(es.push { key:=.int .i64 p,val:=.int .i64 ((bs.length+1:Nat):Int),born:=ck }).toList[es.size]={ key:=.int .i64 p,val:=.int .i64 ((bs.length+1:Nat):Int),born:=ck }:=by simp
  rw [e1];refine⟨?_,?_⟩
  ·
   rw [h1']; simp [List.getD]
  ·
   rw [h1',Nat.add_comm]
end Go.Proofs.YtnlcfnjeagmemaaGreatDoor
namespace Go.Proofs.YtnlcfnjeagmemaaGreatDoor
open Go.RowKit
def Dd (C:Zk)(f b k:Nat):List (Zt×Nat):=Xl 0 (C.funcs.take f)++(Jr f ((C.funcs.getD f []).take b)++(((C.funcs.getD f []).getD b []).take k).map (fun x=>(x,f)))
theorem Zgu (x:List (List Zt)):∀(fs:List (List (List Zt))) (g:Nat),Xl g (fs++[x])=Xl g fs++Jr (g+fs.length) x
 | [],g=>by simp [Xl]
 | y :: r,g=>by
  rw [List.cons_append,Xl,Xl,Zgu x r (g+1),List.append_assoc];simp only [List.length_cons];rw [show g+1+r.length=g+(r.length+1) by omega]
theorem Kj {α:Type}(d:α)(l:List α)(k:Nat)(h:k<l.length):l.take (k+1)=l.take k++[l.getD k d]:=by
 rw [List.take_succ_eq_append_getElem h];congr 2
 simp [List.getD,h]
theorem Zqj (C:Zk):Dd C 0 0 0=[]:=by
 simp [Dd,Xl,Jr]
theorem Zqk (C:Zk)(f b k:Nat)(h:k<((C.funcs.getD f []).getD b []).length):Dd C f b (k+1)=Dd C f b k++[(((C.funcs.getD f []).getD b []).getD k Yz,f)]:=by
 unfold Dd;rw [Kj Yz _ _ h,List.map_append];simp [List.append_assoc]
theorem Zle (C:Zk)(f b:Nat)(h:b<(C.funcs.getD f []).length):Dd C f b ((C.funcs.getD f []).getD b []).length++[(Nn,f)]=Dd C f (b+1) 0:=by
 unfold Dd;rw [Kj [] _ _ h,List.take_length];simp [Jr,Zba,List.append_assoc]
theorem Zik (C:Zk)(f:Nat)(h:f<C.funcs.length):Dd C f (C.funcs.getD f []).length 0=Dd C (f+1) 0 0:=by
 unfold Dd;rw [Kj [] C.funcs f h,Zgu,List.take_length,List.length_take,Nat.min_eq_left (Nat.le_of_lt h),Nat.zero_add];simp [Jr]
theorem Zsz (C:Zk):Dd C C.funcs.length 0 0=Xl 0 C.funcs:=by
 unfold Dd;simp [Jr]
theorem Zta (C:Zk)(f b k:Nat)(hb:b<(C.funcs.getD f []).length)(hk:k≤((C.funcs.getD f []).getD b []).length):Ja C f b k=((Dd C f b k).length:Int):=by
 rw [Oi C f b k hb];unfold Dd Sj Oh;rw [List.length_append,List.length_append,List.length_map,List.length_take,Nat.min_eq_left hk,Ny f]
theorem Zql (fs:List (List (List Zt))):∀(gs:List (List (List Zt))) (g:Nat),(Xl g fs).length≤(Xl g (fs++gs)).length:=by
 induction fs with
 | nil=>intro gs g; simp [Xl]
 | cons x r ih =>
  intro gs g;rw [List.cons_append,Xl,Xl,List.length_append,List.length_append];have:=ih gs (g+1);omega
theorem Zlf (C:Zk)(f:Nat):(Dd C f 0 0).length≤(Xl 0 C.funcs).length:=by
 have e:Dd C f 0 0=Xl 0 (C.funcs.take f):=by simp [Dd,Jr]
 rw [e];have:=Zql (C.funcs.take f) (C.funcs.drop f) 0;rwa [List.take_append_drop] at this
theorem Zqm (f:Nat)(bs:List (List Zt))(b:Nat):(Jr f (bs.take b)).length≤(Jr f bs).length:=by
 have:Jr f bs=Jr f (bs.take b)++Jr f (bs.drop b):=by
  unfold Jr;rw [← List.flatMap_append,List.take_append_drop]
 rw [this,List.length_append];omega
theorem Zwq (C:Zk)(f b k:Nat)(hf:f<C.funcs.length)(hb:b<(C.funcs.getD f []).length)(hk:k≤((C.funcs.getD f []).getD b []).length):(Dd C f b k).length+1≤(Xl 0 C.funcs).length:=by
 have h1:=Zlf C (f+1);rw [← Zik C f hf] at h1;have h2:(Dd C f (b+1) 0).length≤(Dd C f (C.funcs.getD f []).length 0).length:=by
  unfold Dd;simp only [List.take_zero,List.map_nil,List.append_nil,List.length_append,List.take_length];have:=Zqm f (C.funcs.getD f []) (b+1);omega
 have h3:=congrArg List.length (Zle C f b hb);have h4:(Dd C f b k).length≤(Dd C f b ((C.funcs.getD f []).getD b []).length).length:=by
  unfold Dd;simp only [List.length_append,List.length_map,List.length_take];omega
 simp only [List.length_append,List.length_cons,List.length_nil] at h3;omega
theorem Zlg (f:Nat):∀ bs:List (List Zt),bs.length≤(Jr f bs).length
 | []=>Nat.le_refl _
 | x :: r=>by
  have h:=Zlg f r;have e:Jr f (x :: r)=Zba f x++Jr f r:=by simp [Jr]
  rw [e,List.length_append,La,List.length_cons];omega
theorem Zuk (C:Zk)(f b:Nat)(h:b≤(C.funcs.getD f []).length):b≤(Dd C f b 0).length:=by
 unfold Dd;have h1:=Zlg f ((C.funcs.getD f []).take b);rw [List.length_take,Nat.min_eq_left h] at h1;simp only [List.length_append];omega
def Cu (C:Zk)(f b k:Nat):List Int:=(Kz C f b k).map fun p=>Ja C p.1 p.2.1 p.2.2
theorem Ztb (C:Zk)(f b k:Nat)(ho:(((C.funcs.getD f []).getD b []).getD k Yz).op=15):Cu C f b (k+1)=Cu C f b k++[Ja C (f:Int) (b:Int) ((k+1:Nat):Int)]:=by
 unfold Cu;rw [Ih,if_pos ho,List.map_append];simp
theorem Zwr (C:Zk)(f b k:Nat)(ho:(((C.funcs.getD f []).getD b []).getD k Yz).op≠15):Cu C f b (k+1)=Cu C f b k:=by
 unfold Cu;rw [Ih,if_neg ho,List.append_nil]
theorem Ztc (C:Zk)(f b:Nat):Cu C f b ((C.funcs.getD f []).getD b []).length=Cu C f (b+1) 0:=by
 unfold Cu;rw [Zjd]
theorem Zws (C:Zk)(f:Nat):Cu C f (C.funcs.getD f []).length 0=Cu C (f+1) 0 0:=by
 unfold Cu;rw [Zns]
theorem Ztd (C:Zk):Cu C C.funcs.length 0 0=Lg C:=by
 unfold Cu Lg;rw [Zje]
theorem Zqn (C:Zk):Cu C 0 0 0=[]:=by
 unfold Cu;rw [Zeq];rfl
theorem Zte (C:Zk)(f b k:Nat)(hf:f<C.funcs.length)(hb:b<(C.funcs.getD f []).length)(hk:k<((C.funcs.getD f []).getD b []).length):Ja C (f:Int) (b:Int) ((k+1:Nat):Int) ∉ Cu C f b k:=fun h=>by
 unfold Cu at h;obtain⟨q,hq,he⟩:=List.mem_map.1 h;obtain⟨t,ht⟩:=Zcp C f b k hf hb (Nat.le_of_lt hk);have hm:q ∈ Zg C:=by rw [ht]; exact List.mem_append_left _ hq
 obtain⟨j,hj,ej⟩:=List.getElem_of_mem hm;obtain⟨f',b',k',e,hf',hb',hk'⟩:=Si C j hj;have eq:q=((f':Int),(b':Int),(k':Int)+1):=by
  rw [← e,← ej];simp [List.getD,hj]
 rw [eq] at he hq;simp only at he;rw [show(k':Int)+1=((k'+1:Nat):Int) by omega] at he;obtain⟨e1,e2,e3⟩:=Zgg C f' b' (k'+1) f b (k+1) hf' hb' hk' hf hb hk he;have e4:k'=k:=by omega
 subst e1 e2 e4;exact Zjf C f' b' k' hq
theorem Zwt (C:Zk)(f b k:Nat)(hf:f<C.funcs.length)(hb:b<(C.funcs.getD f []).length)(hk:k≤((C.funcs.getD f []).getD b []).length):(Cu C f b k).length≤(Zg C).length:=by
 obtain⟨t,ht⟩:=Zcp C f b k hf hb hk;unfold Cu;rw [List.length_map,ht,List.length_append];omega
theorem Zmp {P:Program}(w:World)(base:Nat)(t ty e:TypeId)(i:TypeInfo)(z:Value)(size bytes:Nat)(ht:P.underlying t=some (.slice e))(hi:P.info? e=some i)(hz:i.zero=some z)
 (hsize:i.size=size) (hby:i.bytes=bytes) (hzs:z.cells.size=size) (hsz:0<size)
 (v:Value) (n:Nat) (xs:List Value) (hown:w.ownsRow base e size v n xs)
 (a:Addr) (m c:Nat) (news:List Value) (hl:news.length=m*size) (hnews:∀ j u,news[j]?=some u→w.cell? (a.add j)=some u) (h1:∀ u ∈ news,u.oneCell'=true)
 (h63:n+m≤maxLen) (hbytes:(n+m)*bytes≤140737488355328) (hbase:base≤w.heap.size) :
 ∃ v' w',(Builtin.append_ #[t,t] ty #[v,.slice (some a) m c]).run P w=.ok v' w'∧w'.ownsRow base e size v' (n+m) (xs++news)∧w.grownBy w' v.ownBlock∧∀ g,v'.ownBlock=some g→v.ownBlock=some g∨w.heap.size≤g:=by
 obtain⟨v',w',hr,h2,h3,-⟩:=run_append_own (P:=P) w base t ty e i z size bytes ht hi hz hsize hby hzs hsz v n xs hown a m c news hl hnews h1 h63 hbytes hbase;refine⟨v',w',hr,h2,h3,fun g hg=>?_⟩;rcases hown.2 with⟨rfl,rfl⟩ | ⟨g0,cap,cur,rfl,hbg,hg0,hnc,hcm,hcs,htake⟩
 ·
  have hx:xs=[]:=List.eq_nil_of_length_eq_zero (by simpa using hown.1);subst hx;obtain⟨v2,w2,hr2,o2,-,-⟩:=run_append_own (P:=P) w w.heap.size t ty e i z size bytes ht hi hz hsize hby hzs hsz _ 0 [] (World.ownsRow_nil _ _ _ _) a m c news hl hnews h1 h63 hbytes (Nat.le_refl _);rw [hr] at hr2;injection hr2 with e1 e2;subst e1 e2;exact Or.inr (o2.lt g hg).1
 ·
  subst hsize;subst hby;by_cases hroom:n+m≤cap
  ·
   have hfit:n*i.size+news.length≤cur.size:=by rw [hl,hcs,← Nat.add_mul]; exact Nat.mul_le_mul_right _ hroom
   have hr2:=run_append_room (P:=P) w t ty e i ht hi g0 n cap cur hg0 a m c news hl hnews h1 hroom hfit;rw [hr] at hr2;injection hr2 with e1 e2;subst e1;exact Or.inl hg
  ·
   have holds:∀ j u,xs[j]?=some u→w.cell? ((⟨g0,0,none⟩:Addr).add j)=some u:=hown.cells (g:=g0) rfl;have hr2:=run_append_grow (P:=P) w t ty e i z ht hi hz ⟨g0,0,none⟩ n cap xs hown.1 holds a m c news hl hnews (by omega) (by simp only [maxLen] at h63; omega) (growslice_fits (by omega) hbytes);rw [hr] at hr2;injection hr2 with e1 e2;subst e1;injection hg with hg;exact Or.inr (Nat.le_of_eq hg)
theorem Zud {P:Program}{o:Oper}{a:Act}{w:World}{K:Act→World→Prop}{Q:Exit→Act→World→Prop}
 (s x:Operand) (t:TypeId) (ho:o.op=.call { callee:=.builtin .append,args:=#[s,x],argTypes:=#[t,t] })
 (base:Nat) (e:TypeId) (i:TypeInfo) (z:Value) (size bytes:Nat) (ht:P.underlying t=some (.slice e)) (hi:P.info? e=some i) (hz:i.zero=some z)
 (hsize:i.size=size) (hby:i.bytes=bytes) (hzs:z.cells.size=size) (hsz:0<size)
 (v:Value) (n:Nat) (xs:List Value) (hs:a.eval s=v) (hown:w.ownsRow base e size v n xs)
 (ad:Addr) (m c:Nat) (news:List Value) (hx:a.eval x=.slice (some ad) m c) (hl:news.length=m*size) (hnews:∀ j u,news[j]?=some u→w.cell? (ad.add j)=some u) (h1:∀ u ∈ news,u.oneCell'=true)
 (h63:n+m≤maxLen) (hbytes:(n+m)*bytes≤140737488355328) (hbase:base≤w.heap.size)
 (h:∀ v' w',w'.ownsRow base e size v' (n+m) (xs++news)→w.grownBy w' v.ownBlock→(∀ g,v'.ownBlock=some g→v.ownBlock=some g∨w.heap.size≤g)→K (a.put o.dst v') w'):o.wp P a w K Q:=by
 obtain⟨v',w',hr,h2,h3,h4⟩:=Zmp (P:=P) w base t o.type e i z size bytes ht hi hz hsize hby hzs hsz v n xs hown ad m c news hl hnews h1 h63 hbytes hbase;unfold Oper.wp execOp;simp only [ho,resolve,invoke,builtin,Sem.run_bind,Sem.run_pure,Result.andThen_ok,List.map_toArray,List.map_cons,List.map_nil,hs,hx,hr];exact h v' w' h2 h3 h4
theorem Cq {P:Program}{ops:Array Oper}{o:Oper}{a:Act}{w:World}{K:Act→World→Prop}{Q:Exit→Act→World→Prop}{E:Prop}
 (hg:o.guard=none) (s x:Operand) (t:TypeId) (ho:o.op=.call { callee:=.builtin .append,args:=#[s,x],argTypes:=#[t,t] })
 (base:Nat) (e:TypeId) (i:TypeInfo) (z:Value) (size bytes:Nat) (ht:P.underlying t=some (.slice e)) (hi:P.info? e=some i) (hz:i.zero=some z)
 (hsize:i.size=size) (hby:i.bytes=bytes) (hzs:z.cells.size=size) (hsz:0<size)
 (v:Value) (n:Nat) (xs:List Value) (hs:a.eval s=v) (hown:w.ownsRow base e size v n xs)
 (ad:Addr) (m c:Nat) (news:List Value) (hx:a.eval x=.slice (some ad) m c) (hl:news.length=m*size) (hnews:∀ j u,news[j]?=some u→w.cell? (ad.add j)=some u) (h1:∀ u ∈ news,u.oneCell'=true)
 (h63:n+m≤maxLen) (hbytes:(n+m)*bytes≤140737488355328) (hbase:base≤w.heap.size)
 (h:∀ v' w',w'.ownsRow base e size v' (n+m) (xs++news)→w.grownBy w' v.ownBlock→(∀ g,v'.ownBlock=some g→v.ownBlock=some g∨w.heap.size≤g)→K (a.put o.dst v') w') :
 if Region.wanted o (yielded ops a.tmps)=true then Oper.wp P o a w K Q else E:=by
 have hw:Region.wanted o (yielded ops a.tmps)=true:=by simp [Region.wanted,hg]
 rw [if_pos hw];exact Zud s x t ho base e i z size bytes ht hi hz hsize hby hzs hsz v n xs hs hown ad m c news hx hl hnews h1 h63 hbytes hbase h
theorem Zdc {P:Program}{ops:Array Oper}{rest:List Oper}{o:Oper}{a:Act}{w:World}{Q:Exit→Act→World→Prop}(hgd:o.guard=none)
 (s x:Operand) (t:TypeId) (ho:o.op=.call { callee:=.builtin .append,args:=#[s,x],argTypes:=#[t,t] })
 (base:Nat) (e:TypeId) (i:TypeInfo) (z:Value) (size bytes:Nat) (ht:P.underlying t=some (.slice e)) (hi:P.info? e=some i) (hz:i.zero=some z)
 (hsize:i.size=size) (hby:i.bytes=bytes) (hzs:z.cells.size=size) (hsz:0<size)
 (v:Value) (n:Nat) (xs:List Value) (hs:a.eval s=v) (hown:w.ownsRow base e size v n xs)
 (ad:Addr) (m c:Nat) (news:List Value) (hx:a.eval x=.slice (some ad) m c) (hl:news.length=m*size) (hnews:∀ j u,news[j]?=some u→w.cell? (ad.add j)=some u) (h1:∀ u ∈ news,u.oneCell'=true)
 (h63:n+m≤maxLen) (hbytes:(n+m)*bytes≤140737488355328) (hbase:base≤w.heap.size)
 (h:∀ v' w',w'.ownsRow base e size v' (n+m) (xs++news)→w.grownBy w' v.ownBlock→(∀ g,v'.ownBlock=some g→v.ownBlock=some g∨w.heap.size≤g)→wpList P ops Q rest (a.put o.dst v') w'):wpList P ops Q (o :: rest) a w :=
 wpList_plain hgd fun _ hK=>Zud s x t ho base e i z size bytes ht hi hz hsize hby hzs hsz v n xs hs hown ad m c news hx hl hnews h1 h63 hbytes hbase fun v' w' h2 h3 h4=>hK _ _ (h v' w' h2 h3 h4)
theorem Tryz.infoLn:(Tryz.prog.info? 114).map (fun i=>(i.zero,i.size,i.bytes))=some (some (.agg #[.int .i64 0,.int .i64 0,.int .i64 0,.int .i64 0,.int .i64 0,.int .i64 0,.int .i64 0,.int .i64 0]),8,64):=by kernel_rfl
theorem Tryz.infoLI:(Tryz.prog.info? 23).map (fun i=>(i.zero,i.size,i.bytes))=some (some (.slice none 0 0),1,24):=by kernel_rfl
theorem Tryz.infoII:(Tryz.prog.info? 3).map (fun i=>(i.zero,i.size,i.bytes))=some (some (.int .i64 0),1,8):=by kernel_rfl
def lnV (x:Zt×Nat):List Value:=[.int .i64 x.1.op,.int .i64 x.1.r,.int .i64 x.1.a,.int .i64 x.1.b,.int .i64 x.1.n,.int .i64 x.1.w,.int .i64 x.1.f,.int .i64 (x.2:Int)]
def lnC (l:List (Zt×Nat)):List Value:=l.flatMap lnV
theorem Zpp (l:List (Zt×Nat))(x:Zt×Nat):lnC (l++[x])=lnC l++lnV x:=by simp [lnC]
def iX (ns:List Int):List Value:=ns.map fun n=>.int .i64 n
theorem Zke (l:List Int)(x:Int):iX (l++[x])=iX l++[.int .i64 x]:=by simp [iX]
def Dj (v u:Value):Prop:=∀ g,v.ownBlock=some g→u.ownBlock≠some g
theorem Dj.sy {v u:Value}(h:Dj v u):Dj u v:=fun g h1 h2=>h g h2 h1
theorem Zdd (u:Value):Dj (.slice none 0 0) u:=fun g h=>by cases h
theorem Ol {V:World}{L e1 e2 s1 s2 n1 n2:Nat}{v u:Value}{xs ys:List Value}(h:V.ownsRow L e1 s1 v n1 xs)(k:V.ownsRow L e2 s2 u n2 ys)(hne:e1≠e2):Dj v u:=fun g h1 h2=>by
 obtain⟨c1,r1⟩:=Jg h h1;obtain⟨c2,r2⟩:=Jg k h2;exact Jf r1 r2 hne rfl
theorem Dj.new {V:World}{L e s n:Nat}{v v' u:Value}{ys:List Value}(h:Dj v u)(k:V.ownsRow L e s u n ys)(hn:∀ g,v'.ownBlock=some g→v.ownBlock=some g∨V.heap.size≤g):Dj v' u:=fun g h1 h2=>by
 rcases hn g h1 with h3 | h3
 ·
  exact h g h3 h2
 ·
  have:=(k.lt g h2).2;omega
structure Kp (V V':World)(eb:Nat)(o:Option Nat):Prop where
 os:V'.os=V.os
 tape:V'.tape=V.tape
 output:V'.output=V.output
 size:V.heap.size≤V'.heap.size
 oth:∀ g:Nat,g<V.heap.size→o≠some g→g≠eb→V'.heap[g]?=V.heap[g]?
theorem Zwc {V V3:World}{o:Option Nat}(eb k:Nat)(v:Value)(h:V.grownBy V3 o):Kp V (V3.setCell ⟨eb,k,none⟩ v) eb o:=by
 have ho:=Zl eb k V3 v;exact⟨ho.os.trans h.os,ho.tape.trans h.tape,ho.output.trans h.output,by have:=h.size; have:=ho.size; omega,fun g h1 h2 h3=>(ho.oth g h3).trans (h.block g h1 (fun e=>h2 e.symm))⟩
theorem Yao {V V3:World}{o:Option Nat}(eb:Nat)(h:V.grownBy V3 o):Kp V V3 eb o:=⟨h.os,h.tape,h.output,h.size,fun g h1 h2 _=>h.block g h1 (fun e=>h2 e.symm)⟩
theorem Gg {V V':World}{L e s n eb:Nat}{o:Option Nat}{u:Value}{xs:List Value}(h:V.ownsRow L e s u n xs)(k:Kp V V' eb o)(hL:eb<L)(hd:∀ g,u.ownBlock=some g→o≠some g):V'.ownsRow L e s u n xs :=
 Yn h fun g hg=>k.oth g (h.lt g hg).2 (hd g hg) (by have:=(h.lt g hg).1; omega)
structure Cd (w V:World)(eb:Nat)(E:Ji)(ls:List (Zt×Nat))(bs ps:List Int)(li bk bg:Value)(rr ck:Nat)(es:Array MapEntry)(vs:List Value)(bw:List (List Int))(lv:Value)(lw:List Int):Prop where
 ew:eb<w.heap.size
 low:Ke w.heap.size eb eb eb w V
 ei:EI V eb { E with li:=li,bg:=bg,bk:=bk,nt:=.map (some rr) }
 mp:V.heap[rr]?=some (.map es ck)
 pe:MpI ps es.toList 1
 rw_:w.heap.size≤rr
 oli:V.ownsRow w.heap.size 114 8 li ls.length (lnC ls)
 obk:V.ownsRow w.heap.size 3 1 bk bs.length (iX bs)
 obg:V.ownsRow w.heap.size 23 1 bg vs.length vs
 ol:V.ownsRow w.heap.size 3 1 lv lw.length (iX lw)
 len:vs.length=bw.length
 each:∀ j,j<bw.length→V.ownsRow w.heap.size 3 1 (vs.getD j .nilIface) (bw.getD j []).length (iX (bw.getD j []))
 d1:Dj lv bk
 d2:∀ j,j<bw.length→Dj lv (vs.getD j .nilIface)
 d3:∀ j,j<bw.length→Dj bk (vs.getD j .nilIface)
section
variable {w V:World} {eb:Nat} {E:Ji} {ls:List (Zt×Nat)} {bs ps:List Int} {li bk bg:Value} {rr ck:Nat} {es:Array MapEntry} {vs:List Value} {bw:List (List Int)} {lv:Value} {lw:List Int}
theorem Cd.sz (h:Cd w V eb E ls bs ps li bk bg rr ck es vs bw lv lw):eb<w.heap.size∧w.heap.size≤V.heap.size∧rr<V.heap.size:=⟨h.ew,h.low.size,Su h.mp⟩
theorem Zag {V:World}{L e s n rr ck:Nat}{es:Array MapEntry}{u:Value}{xs:List Value}(h:V.ownsRow L e s u n xs)(hm:V.heap[rr]?=some (.map es ck)):u.ownBlock≠some rr:=fun hg=>by
 obtain⟨c,r⟩:=Jg h hg;rw [hm] at r;cases r
theorem Zde {w V V':World}{eb:Nat}{o:Option Nat}(h:Ke w.heap.size eb eb eb w V)(k:Kp V V' eb o)(ho:∀ g,o=some g→w.heap.size≤g):Ke w.heap.size eb eb eb w V' :=
 ⟨k.os.trans h.os,k.tape.trans h.tape,k.output.trans h.output,Nat.le_trans h.size k.size,fun q h1 h2 h3 h4=>(k.oth q (Nat.lt_of_lt_of_le h1 h.size) (fun e=>by have:=ho q e; omega) h2).trans (h.oth q h1 h2 h3 h4)⟩
theorem Cd.bel {V':World}(h:Cd w V eb E ls bs ps li bk bg rr ck es vs bw lv lw)(hb:Below V.heap.size V V'):Cd w V' eb E ls bs ps li bk bg rr ck es vs bw lv lw:=by
 have hz:=h.sz;have k:Ke w.heap.size eb eb eb w V':=h.low.tr ((Dm hb).low hz.2.1);have ow:∀{e s n:Nat} {u:Value} {xs:List Value},V.ownsRow w.heap.size e s u n xs→V'.ownsRow w.heap.size e s u n xs:=fun ho=>Yn ho fun g hg=>hb.block g (ho.lt g hg).2;exact⟨h.ew,k,(hb.block eb (by omega)).trans h.ei,(hb.block rr hz.2.2).trans h.mp,h.pe,h.rw_,ow h.oli,ow h.obk,ow h.obg,ow h.ol,h.len,fun j hj=>ow (h.each j hj),h.d1,h.d2,h.d3⟩
theorem Cd.line {V3:World}{li':Value}{x:Zt×Nat}(h:Cd w V eb E ls bs ps li bk bg rr ck es vs bw lv lw)(hg:V.grownBy V3 li.ownBlock)(ho:V3.ownsRow w.heap.size 114 8 li' (ls.length+1) (lnC ls++lnV x)) :
 V3.heap[eb]?=V.heap[eb]?∧Cd w (V3.setCell ⟨eb,15,none⟩ li') eb E (ls++[x]) bs ps li' bk bg rr ck es vs bw lv lw:=by
 have hz:=h.sz;have k:=Zwc eb 15 li' hg;have hlo:∀ g,li.ownBlock=some g→w.heap.size≤g:=fun g e=>(h.oli.lt g e).1;have he:V3.heap[eb]?=V.heap[eb]?:=hg.block eb (by omega) (fun e=>by have:=hlo eb e.symm; omega);refine⟨he,h.ew,Zde h.low k hlo,?_,(k.oth rr hz.2.2 (Zag h.oli h.mp) (by have:=h.rw_; omega)).trans h.mp,h.pe,h.rw_,?_,Gg h.obk k h.ew (fun g e=>fun e2=>Ol h.oli h.obk (by decide) g e2 e),Gg h.obg k h.ew (fun g e=>fun e2=>Ol h.oli h.obg (by decide) g e2 e),Gg h.ol k h.ew (fun g e=>fun e2=>Ol h.oli h.ol (by decide) g e2 e),h.len,fun j hj=>Gg (h.each j hj) k h.ew (fun g e=>fun e2=>Ol h.oli (h.each j hj) (by decide) g e2 e),h.d1,h.d2,h.d3⟩
 ·
  exact heap_setCell_same _ _ 15 _ _ li' (he.trans h.ei)
 ·
  rw [Zpp,List.length_append];exact Yn ho fun g hg2=>heap_setCell_other _ _ _ _ (by have:=(ho.lt g hg2).1; show g≠eb; omega)
theorem Cd.back {V3:World}{bk':Value}{x:Int}(h:Cd w V eb E ls bs ps li bk bg rr ck es vs bw lv lw)(hg:V.grownBy V3 bk.ownBlock)(ho:V3.ownsRow w.heap.size 3 1 bk' (bs.length+1) (iX bs++[.int .i64 x]))(hn:∀ g,bk'.ownBlock=some g→bk.ownBlock=some g∨V.heap.size≤g) :
 V3.heap[eb]?=V.heap[eb]?∧Cd w (V3.setCell ⟨eb,17,none⟩ bk') eb E ls (bs++[x]) ps li bk' bg rr ck es vs bw lv lw:=by
 have hz:=h.sz;have k:=Zwc eb 17 bk' hg;have hlo:∀ g,bk.ownBlock=some g→w.heap.size≤g:=fun g e=>(h.obk.lt g e).1;have he:V3.heap[eb]?=V.heap[eb]?:=hg.block eb (by omega) (fun e=>by have:=hlo eb e.symm; omega);refine⟨he,h.ew,Zde h.low k hlo,?_,(k.oth rr hz.2.2 (Zag h.obk h.mp) (by have:=h.rw_; omega)).trans h.mp,h.pe,h.rw_,Gg h.oli k h.ew (fun g e=>fun e2=>Ol h.oli h.obk (by decide) g e e2),?_,Gg h.obg k h.ew (fun g e=>fun e2=>Ol h.obk h.obg (by decide) g e2 e),Gg h.ol k h.ew (fun g e=>fun e2=>h.d1 g e e2),h.len,fun j hj=>Gg (h.each j hj) k h.ew (fun g e=>fun e2=>h.d3 j hj g e2 e),(h.d1.sy.new h.ol hn).sy,h.d2,fun j hj=>(h.d3 j hj).new (h.each j hj) hn⟩
 ·
  exact heap_setCell_same _ _ 17 _ _ bk' (he.trans h.ei)
 ·
  rw [Zke,List.length_append];exact Yn ho fun g hg2=>heap_setCell_other _ _ _ _ (by have:=(ho.lt g hg2).1; show g≠eb; omega)
theorem Cd.num (h:Cd w V eb E ls bs ps li bk bg rr ck es vs bw lv lw)(x:Int):Cd w { V with heap:=V.heap.setIfInBounds rr (.map (es.push { key:=.int .i64 x,val:=.int .i64 ((ps.length+1:Nat):Int),born:=ck }) (ck+1)) } eb E ls bs (ps++[x]) li bk bg rr (ck+1) (es.push { key:=.int .i64 x,val:=.int .i64 ((ps.length+1:Nat):Int),born:=ck }) vs bw lv lw:=by
 have hz:=h.sz;have hh:=Go.MapKept.heap_set (o':=.map (es.push { key:=.int .i64 x,val:=.int .i64 ((ps.length+1:Nat):Int),born:=ck }) (ck+1)) h.mp;have hr:=h.rw_;have ow:∀{e s n:Nat} {u:Value} {xs:List Value},V.ownsRow w.heap.size e s u n xs→World.ownsRow { V with heap:=V.heap.setIfInBounds rr (.map (es.push { key:=.int .i64 x,val:=.int .i64 ((ps.length+1:Nat):Int),born:=ck }) (ck+1)) } w.heap.size e s u n xs:=fun ho=>Yn ho fun g hg=>hh.2 g (fun e=>Zag ho h.mp (by rw [hg,e]));refine⟨h.ew,⟨h.low.os,h.low.tape,h.low.output,?_,fun q h1 h2 h3 h4=>(hh.2 q (by omega)).trans (h.low.oth q h1 h2 h3 h4)⟩,(hh.2 eb (by omega)).trans h.ei,hh.1,h.pe.snoc x ck,hr,ow h.oli,ow h.obk,ow h.obg,ow h.ol,h.len,fun j hj=>ow (h.each j hj),h.d1,h.d2,h.d3⟩;show _≤(Array.setIfInBounds _ _ _).size;simp
 omega
theorem Cd.beg {V3:World}{lv':Value}{x:Int}(h:Cd w V eb E ls bs ps li bk bg rr ck es vs bw lv lw)(hg:V.grownBy V3 lv.ownBlock)(ho:V3.ownsRow w.heap.size 3 1 lv' (lw.length+1) (iX lw++[.int .i64 x]))(hn:∀ g,lv'.ownBlock=some g→lv.ownBlock=some g∨V.heap.size≤g) :
 Cd w V3 eb E ls bs ps li bk bg rr ck es vs bw lv' (lw++[x]):=by
 have hz:=h.sz;have k:=Yao eb hg;have hlo:∀ g,lv.ownBlock=some g→w.heap.size≤g:=fun g e=>(h.ol.lt g e).1;have he:V3.heap[eb]?=V.heap[eb]?:=hg.block eb (by omega) (fun e=>by have:=hlo eb e.symm; omega);refine⟨h.ew,Zde h.low k hlo,he.trans h.ei,(k.oth rr hz.2.2 (Zag h.ol h.mp) (by have:=h.rw_; omega)).trans h.mp,h.pe,h.rw_,Gg h.oli k h.ew (fun g e=>fun e2=>Ol h.oli h.ol (by decide) g e e2),Gg h.obk k h.ew (fun g e=>fun e2=>h.d1 g e2 e),Gg h.obg k h.ew (fun g e=>fun e2=>Ol h.ol h.obg (by decide) g e2 e),?_,h.len,fun j hj=>Gg (h.each j hj) k h.ew (fun g e=>fun e2=>h.d2 j hj g e2 e),h.d1.new h.obk hn,fun j hj=>(h.d2 j hj).new (h.each j hj) hn,h.d3⟩;rw [Zke,List.length_append];exact ho
theorem Zie {α:Type}(l:List α)(x d:α)(j:Nat)(h:j<l.length):(l++[x]).getD j d=l.getD j d:=by simp [List.getD,List.getElem?_append_left h]
theorem Zif {α:Type}(l:List α)(x d:α):(l++[x]).getD l.length d=x:=by simp [List.getD]
theorem Cd.fin {V3:World}{bg':Value}(h:Cd w V eb E ls bs ps li bk bg rr ck es vs bw lv lw)(hg:V.grownBy V3 bg.ownBlock)(ho:V3.ownsRow w.heap.size 23 1 bg' (vs.length+1) (vs++[lv])) :
 V3.heap[eb]?=V.heap[eb]?∧Cd w (V3.setCell ⟨eb,16,none⟩ bg') eb E ls bs ps li bk bg' rr ck es (vs++[lv]) (bw++[lw]) (.slice none 0 0) []:=by
 have hz:=h.sz;have k:=Zwc eb 16 bg' hg;have hlo:∀ g,bg.ownBlock=some g→w.heap.size≤g:=fun g e=>(h.obg.lt g e).1;have he:V3.heap[eb]?=V.heap[eb]?:=hg.block eb (by omega) (fun e=>by have:=hlo eb e.symm; omega);have ol':=Gg h.ol k h.ew (fun g e=>fun e2=>Ol h.obg h.ol (by decide) g e2 e);have hl:=h.len;refine⟨he,h.ew,Zde h.low k hlo,?_,(k.oth rr hz.2.2 (Zag h.obg h.mp) (by have:=h.rw_; omega)).trans h.mp,h.pe,h.rw_,Gg h.oli k h.ew (fun g e=>fun e2=>Ol h.oli h.obg (by decide) g e e2),Gg h.obk k h.ew (fun g e=>fun e2=>Ol h.obk h.obg (by decide) g e e2),?_,World.ownsRow_nil _ _ _ _,by simp [hl],fun j hj=>?_,Zdd _,fun j hj=>Zdd _,fun j hj=>?_⟩
 ·
  exact heap_setCell_same _ _ 16 _ _ bg' (he.trans h.ei)
 ·
  rw [List.length_append];exact Yn ho fun g hg2=>heap_setCell_other _ _ _ _ (by have:=(ho.lt g hg2).1; show g≠eb; omega)
 ·
  by_cases hj2:j<bw.length
  ·
   rw [Zie _ _ _ _ hj2,Zie _ _ _ _ (by omega)];exact Gg (h.each j hj2) k h.ew (fun g e=>fun e2=>Ol h.obg (h.each j hj2) (by decide) g e2 e)
  ·
   have e:j=bw.length:=by simp at hj; omega
   subst e;rw [Zif,← hl,Zif];exact ol'
 ·
  by_cases hj2:j<bw.length
  ·
   rw [Zie _ _ _ _ (by omega)];exact h.d3 j hj2
  ·
   have e:j=bw.length:=by simp at hj; omega
   subst e;rw [← hl,Zif];exact h.d1.sy
end
end Go.Proofs.YtnlcfnjeagmemaaGreatDoor
