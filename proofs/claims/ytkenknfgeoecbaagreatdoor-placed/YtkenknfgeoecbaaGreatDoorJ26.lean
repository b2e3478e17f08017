import Derived.Test.YtkenknfgeoecbaaGreatDoorJ27
import Derived.Test.YtkenknfgeoecbaaGreatDoorJ20
namespace Go.Proofs.YtkenknfgeoecbaaGreatDoor
open Go.RowKit
theorem Sv.gb {w w':World}{b:Nat}{v:Value}{ns:List Int}(h:Sv w b v ns)(hw:w.grownBy w' (some b))(hb:b<w.heap.size):Sv w' b v ns:=by
 rcases h with h | ⟨sb,so,cap,h1,h2,h3⟩
 ·exact Or.inl h
 ·exact Or.inr ⟨sb,so,cap,h1,h2,fun i hi=>(World.cell?_of_block (hw.block sb (by omega) (by intro e; injection e with e; omega))).trans (h3 i hi)⟩
theorem Xq {a c d:World}{row:Option Nat}(h:a.grownBy c row)(k:c.grownBy d row):a.grownBy d row :=
 ⟨k.os.trans h.os,k.tape.trans h.tape,k.output.trans h.output,Nat.le_trans h.size k.size,fun q hq hr=>(k.block q (Nat.lt_of_lt_of_le hq h.size) hr).trans (h.block q hq hr)⟩
theorem Yc (w:World)(o:Obj)(row:Option Nat):w.grownBy (w.alloc o) row :=
 have q:=(Below.refl w.heap.size w).alloc (Nat.le_refl _) o;⟨q.os,q.tape,q.output,q.size,fun k hk _=>q.block k hk⟩
def Ycy:List (Array UInt8):=[#[63],#[68,78],#[68,65],#[68,65,66],#[68,65,66],#[68,65,66],#[68,65,66],#[68,65,66],#[68,65,66],#[68,65,66],#[68,65,66,110],#[68,65,66,110],#[70,82,79],#[70,82,79],#[65],#[68,65,66],#[79],#[70,82],#[78]]
def Ycz (op:Int):ByteArray:=if 0≤op then ⟨Ycy.getD op.toNat #[63]⟩ else ⟨#[63]⟩
def Nz (op:Int):List UInt8:=(Ycz op).data.toList
theorem Iu.gb {α:Type}{size:Nat}{w w':World}{b:Nat}{v:Value}{ps:List (Array Value×α)}(h:Iu size w b v ps)(hw:w.grownBy w' (some b))(hb:b<w.heap.size):Iu size w' b v ps:=by
 rcases h with h | ⟨sb,so,cap,h1,h2,h3⟩
 ·exact Or.inl h
 ·exact Or.inr ⟨sb,so,cap,h1,h2,fun i hi j x hx=>(World.cell?_of_block (a:=⟨sb,so+i*size+j,none⟩) (hw.block sb (by omega) (by intro e; injection e with e; omega))).trans (h3 i hi j x hx)⟩
theorem Zi {w:World}{T:Nat}{o:Obj}(h:w.heap[T]?=some o):T<w.heap.size:=(Array.getElem?_eq_some_iff.1 h).1
theorem Zco {w u:World}{b k j:Nat}{v:Value}(h:w.grownBy u (some b))(hk:w.heap.size≤k∨k=b):w.grownBy (u.setCell ⟨k,j,none⟩ v) (some b) :=
 ⟨h.os,h.tape,h.output,by simp; exact h.size,fun q hq hr=>(heap_setCell_other u ⟨k,j,none⟩ q v (by show q≠k; rintro rfl; exact hk.elim (fun x=>by omega) (fun x=>hr (by rw [x])))).trans (h.block q hq hr)⟩
section
variable {w u:World} {b T1 T2:Nat} {A1 A2:Array Value} {s:ByteArray} {q:Nat} {l:List UInt8} {bad:Bool}
end
section
variable {w w':World} {b:Nat}
abbrev Oa (b:Nat)(w w':World):Prop:=∀ k,k<b→w'.heap[k]?=w.heap[k]?
theorem Sv.same {v:Value}{ns:List Int}(h:Sv w b v ns)(hw:Oa b w w'):Sv w' b v ns:=by
 rcases h with h | ⟨sb,so,cap,h1,h2,h3⟩
 ·exact Or.inl h
 ·exact Or.inr ⟨sb,so,cap,h1,h2,fun i hi=>(World.cell?_of_block (a:=⟨sb,so+i,none⟩) (hw sb h2)).trans (h3 i hi)⟩
theorem Iu.same {α:Type}{size:Nat}{v:Value}{ps:List (Array Value×α)}(h:Iu size w b v ps)(hw:Oa b w w'):Iu size w' b v ps:=by
 rcases h with h | ⟨sb,so,cap,h1,h2,h3⟩
 ·exact Or.inl h
 ·exact Or.inr ⟨sb,so,cap,h1,h2,fun i hi j x hx=>(World.cell?_of_block (a:=⟨sb,so+i*size+j,none⟩) (hw sb h2)).trans (h3 i hi j x hx)⟩
theorem VsB.same {α:Type}{v:Value}{ps:List (Value×α)}(h:VsB w b v ps)(hw:Oa b w w'):VsB w' b v ps:=by
 rcases h with h | ⟨sb,so,cap,h1,h2,h3⟩
 ·exact Or.inl h
 ·exact Or.inr ⟨sb,so,cap,h1,h2,fun i hi=>(World.cell?_of_block (a:=⟨sb,so+i,none⟩) (hw sb h2)).trans (h3 i hi)⟩
theorem Dc.same {p:Array Value×Yj}(h:Dc w b p)(hw:Oa b w w'):Dc w' b p:=by obtain⟨av,ov,pa,h1,h2,h3,h4,h5,h6⟩:=h;exact⟨av,ov,pa,h1,h2,h3,h4.same hw,h5.same hw,h6⟩
theorem Ui.same {p:Value×List Yj}(h:Ui w b p)(hw:Oa b w w'):Ui w' b p:=by obtain⟨ps,h1,h2,h3,h4⟩:=h;exact⟨ps,h1,h2.same hw,fun q hq=>(h3 q hq).same hw,h4⟩
theorem Sf.same {f:Zm}{pv hv sv bv:Value}{pp:List (Array Value×(Int×Int))}{pb:List (Value×List Yj)}(h:Sf w b f pv hv sv bv pp pb)(hw:Oa b w w'):Sf w' b f pv hv sv bv pp pb :=
 ⟨h.params,h.vals,h.pls.same hw,h.hls.same hw,h.sls.same hw,h.bls.same hw,h.blocks,fun q hq=>(h.each q hq).same hw,h.lens⟩
theorem Rm.same {p:Array Value×(List Int×Int)}(h:Rm w b p)(hw:Oa b w w'):Rm w' b p:=by obtain⟨lv,h1,h2,h3⟩:=h;exact⟨lv,h1,h2.same hw,h3⟩
theorem Mo.same {p:Array Value×Zm}(h:Mo w b p)(hw:Oa b w w'):Mo w' b p:=by obtain⟨pv,hv,sv,bv,pp,pb,h1,h2⟩:=h;exact⟨pv,hv,sv,bv,pp,pb,h1,h2.same hw⟩
theorem Oo.same {p:Zj}{fv ev:Value}{pf:List (Array Value×Zm)}{pe:List (Array Value×(List Int×Int))}(h:Oo w b p fv ev pf pe)(hw:Oa b w w'):Oo w' b p fv ev pf pe :=
 ⟨h.fls.same hw,h.els.same hw,h.funcs,h.externs,fun q hq=>(h.feach q hq).same hw,fun q hq=>(h.eeach q hq).same hw,h.lens⟩
end
theorem Zhc {w:World}{v:Value}{ns:List Int}(h:Li w v ns):Sv w w.heap.size v ns:=by
 obtain⟨p,cap,e,h2,h3,h4⟩:=h;rcases Nat.eq_zero_or_pos ns.length with h0 | h0
 ·have:ns=[]:=List.eq_nil_of_length_eq_zero h0;subst this;exact Or.inl ⟨rfl,p,cap,e⟩
 ·obtain⟨sb,so,e1,hc⟩:=h4 h0;subst e1;refine Or.inr ⟨sb,so,cap,e,World.block_lt_of_cell? w _ (hc 0 h0),fun i hi=>?_⟩;exact hc i hi
theorem Zdw {α:Type}{size:Nat}{w:World}{v:Value}{xs:List α}{A:Nat→Array Value}(h:LS size w v xs.length A):Iu size w w.heap.size v (xs.mapIdx fun k x=>(A k,x)):=by
 obtain⟨p,cap,e,h2,h3,h4⟩:=h;rcases Nat.eq_zero_or_pos xs.length with h0 | h0
 ·have:xs=[]:=List.eq_nil_of_length_eq_zero h0;subst this;exact Or.inl ⟨rfl,p,cap,e⟩
 ·obtain⟨sb,so,e1,hl,hc⟩:=h4 h0;subst e1;refine Or.inr ⟨sb,so,cap,by rw [List.length_mapIdx]; exact e,hl,fun i hi=>?_⟩;rw [List.length_mapIdx] at hi;rw [List.getElem_mapIdx];exact hc i hi
theorem Yer {α:Type}{w:World}{v:Value}{xs:List α}{B:Nat→Value}(h:LS 1 w v xs.length (fun k=>#[B k])):VsB w w.heap.size v (xs.mapIdx fun k x=>(B k,x)):=by
 obtain⟨p,cap,e,h2,h3,h4⟩:=h;rcases Nat.eq_zero_or_pos xs.length with h0 | h0
 ·have:xs=[]:=List.eq_nil_of_length_eq_zero h0;subst this;exact Or.inl ⟨rfl,p,cap,e⟩
 ·obtain⟨sb,so,e1,hl,hc⟩:=h4 h0;subst e1;refine Or.inr ⟨sb,so,cap,by rw [List.length_mapIdx]; exact e,hl,fun i hi=>?_⟩;rw [List.length_mapIdx] at hi;rw [List.getElem_mapIdx];have:=hc i hi 0 _ rfl;simpa using this
theorem Mw {α β:Type}(xs:List α)(f:Nat→β):(xs.mapIdx fun k x=>(f k,x)).map (·.2)=xs:=List.ext_getElem (by simp) (by intro i h1 h2; simp)
theorem Df {size:Nat}{w:World}{v:Value}{n:Nat}{A:Nat→Array Value}(h:LS size w v n A):n<Jy:=by obtain⟨_,_,_,_,h,_⟩:=h;exact h
theorem Zww {w:World}{A:Array Value}{i:Yj}(hon:i.op=3∨i.op=16)(h:Ztg w A i):Dc w w.heap.size (A,i):=by
 obtain⟨av,ov,e,hl,ho⟩:=h;exact⟨av,ov,_,e,Mw _ _,fun q hq=>by
  obtain⟨k,hk,rfl⟩:=List.mem_mapIdx.1 hq;simp [Nx,List.getD,hk],Zdw hl,Zhc ho,Df hl,ho.lt,hon⟩
theorem Zwx {w:World}{v:Value}{l:List Yj}(hon:∀ i ∈ l,i.op=3∨i.op=16)(h:Zfw w v l):Ui w w.heap.size (v,l):=by
 obtain⟨A,hl,he⟩:=h;exact⟨_,Mw _ _,Zdw hl,fun q hq=>by
  obtain⟨k,hk,rfl⟩:=List.mem_mapIdx.1 hq;exact Zww (hon _ (List.getElem_mem hk)) (he k hk),by rw [List.length_mapIdx]; exact Df hl⟩
theorem Zsn {w:World}{A:Array Value}{f:Zm}(hon:∀ l ∈ f.blocks,∀ i ∈ l,i.op=3∨i.op=16)(h:Zaq w A f):Mo w w.heap.size (A,f):=by
 obtain⟨pv,hv,sv,bv,B,e,h⟩:=h;exact⟨pv,hv,sv,bv,_,_,e,⟨Mw _ _,fun q hq=>by
  obtain⟨k,hk,rfl⟩:=List.mem_mapIdx.1 hq;simp [Nx,List.getD,hk],Zdw h.ps,Zhc h.hs,Zhc h.ss,Yer h.bs,Mw _ _,fun q hq=>by
  obtain⟨k,hk,rfl⟩:=List.mem_mapIdx.1 hq;exact Zwx (hon _ (List.getElem_mem hk)) (h.each k hk),⟨by rw [List.length_mapIdx]; exact Df h.ps,h.hs.lt,h.ss.lt,by rw [List.length_mapIdx]; exact Df h.bs⟩⟩⟩
theorem Zwy {w:World}{fv ev:Value}{P:Zj}{A E:Nat→Array Value}(hon:∀ f ∈ P.funcs,∀ l ∈ f.blocks,∀ i ∈ l,i.op=3∨i.op=16)(h:Mm w fv ev P A E):Oo w w.heap.size P fv ev (P.funcs.mapIdx fun k x=>(A k,x)) (P.externs.mapIdx fun k x=>(E k,x)) :=
 ⟨Zdw h.fs,Zdw h.es,Mw _ _,Mw _ _,fun q hq=>by
  obtain⟨k,hk,rfl⟩:=List.mem_mapIdx.1 hq;exact Zsn (hon _ (List.getElem_mem hk)) (h.feach k hk),fun q hq=>by
  obtain⟨k,hk,rfl⟩:=List.mem_mapIdx.1 hq;obtain⟨lv,e1,e2⟩:=h.eeach k hk;exact⟨lv,e1,Zhc e2,e2.lt⟩,⟨by rw [List.length_mapIdx]; exact Df h.fs,by rw [List.length_mapIdx]; exact Df h.es⟩⟩
set_option maxHeartbeats 2000000
set_option maxRecDepth 100000
abbrev Dec (α:Type):=Nat→Except Nat (α×Nat)
def Yi {α β:Type}(m:Except Nat (α×Nat))(k:α→Nat→Except Nat (β×Nat)):Except Nat (β×Nat):=match m with
 | .ok (x,a)=>k x a
 | .error q=>.error q
def bAt (s:ByteArray)(a:Nat):Int:=((s.data[a]?.getD 0).toNat:Int)
theorem Ztl (s:ByteArray)(a:Nat):0≤bAt s a∧bAt s a≤255:=by unfold bAt;have:=(s.data[a]?.getD 0).toNat_lt;omega
def signed (lo n:Int):Int:=if lo=-1∧n=255 then -1 else n
def Lt (lo hi v:Int)(a:Nat):Except Nat (Int×Nat):=if lo≤v∧v≤hi then .ok (v,a+1) else .error a
section
variable (s:ByteArray)
def Zy (lo hi:Int):Dec Int:=fun a=>if a<s.size then Lt lo hi (signed lo (bAt s a)) a else .error a
def Ng {α:Type}(one:Dec α):Nat→Dec (List α)
 | 0=>fun a=>.ok ([],a)
 | n+1=>fun a=>Yi (Ng one n a) fun xs a1=>Yi (one a1) fun x a2=>.ok (xs++[x],a2)
def Ye {α:Type}(lo hi:Int)(one:Dec α):Dec (List α):=fun a=>Yi (Zy s lo hi a) fun n a1=>Ng one n.toNat a1
def Cj:Dec (Int×Int):=fun a=>Yi (Zy s 0 8 a) fun x a1=>Yi (Zy s 0 255 a1) fun y a2=>.ok ((x,y),a2)
def Zic:Dec (List Int×Int):=fun a=>Yi (Ye s 0 8 (Zy s 0 8) a) fun l a1=>Yi (Zy s 0 4 a1) fun r a2=>.ok ((l,r),a2)
def dOp:Nat→Dec Int
 | 0=>fun a=>.ok (0,a)
 | n+1=>fun a=>Yi (dOp n a) fun x a1=>Yi (Zy s 0 255 a1) fun y a2=>.ok (256*x+y,a2)
def Zid (c:UInt8)(i:Yj):Dec Yj:=fun a =>
 if c=68 then Yi (Zy s 0 255 a) fun x a1=>.ok ({ i with d:=x },a1)
 else if c=65 then Yi (Zy s 0 255 a) fun x a1=>.ok ({ i with a:=x },a1)
 else if c=66 then Yi (Zy s 0 255 a) fun x a1=>.ok ({ i with bb:=x },a1)
 else if c=110 then Yi (dOp s 1 a) fun x a1=>.ok ({ i with n:=x },a1)
 else if c=78 then Yi (dOp s 8 a) fun x a1=>.ok ({ i with n:=x },a1)
 else if c=70 then Yi (Zy s 0 255 a) fun x a1=>.ok ({ i with f:=x },a1)
 else if c=82 then Yi (Ye s 0 8 (Cj s) a) fun x a1=>.ok ({ i with args:=x },a1)
 else if c=79 then Yi (Ye s 0 4 (Zy s 0 255) a) fun x a1=>.ok ({ i with outs:=x },a1)
 else .ok (i,a)
def Ip:List UInt8→Yj→Dec Yj
 | [],i=>fun a=>.ok (i,a)
 | c :: cs,i=>fun a=>Yi (Zid s c i a) fun j a1=>Ip cs j a1
def Ztm (op:Int):Yj:=⟨op,0,0,0,0,0,[],[]⟩
def Rp:Dec Yj:=fun a=>Yi (Zy s 1 18 a) fun op a1=>Ip s (Nz op) (Ztm op) a1
def Iq:Dec (List Yj):=Ye s 1 24 (Rp s)
def Zar:Dec Zm:=fun a=>Yi (Ye s 0 8 (Cj s) a) fun ps a1=>Yi (Zy s 0 4 a1) fun r a2=>Yi (Ye s 0 12 (Zy s (-1) 15) a2) fun hs a3=>Yi (Ye s 0 6 (Zy s 1 8) a3) fun ss a4=>Yi (Ye s 1 12 (Iq s) a4) fun bs a5=>.ok (⟨ps,r,hs,ss,bs⟩,a5)
def Zas:Dec Zj:=fun a=>Yi (Zy s 70 70 a) fun _ a1=>Yi (Zy s 49 49 a1) fun _ a2=>Yi (Ye s 0 4 (Zic s) a2) fun es a3=>Yi (Ye s 1 8 (Zar s) a3) fun fs a4=>.ok (⟨fs,es⟩,a4)
def Nm:Except (Int×Nat) Zj:=if s.size≤4000 then (match Zas s 0 with
 | .error q=>.error (3,q)
 | .ok (p,a)=>if a<s.size then .error (3,a) else .ok p) else .error (4,0)
end
def OnD (s:ByteArray):Prop:=∀ q op q1,Zy s 1 18 q=.ok (op,q1)→op=1∨op=2∨op=3∨op=5∨op=16
structure Ld (w:World)(b:Nat)(s:ByteArray)(a:Nat):Prop where
 c0:w.cell? ⟨b,0,none⟩=some (.string s)
 c1:w.cell? ⟨b,1,none⟩=some (.int .i64 a)
 f1:w.frozen? ⟨b,1,none⟩=false
 bd:a≤s.size
 small:s.size≤4000
 on:OnD s
section
variable {w w':World} {b:Nat} {s:ByteArray} {a:Nat}
theorem Ld.lt (h:Ld w b s a):b<w.heap.size:=World.block_lt_of_cell? w _ h.c0
theorem Ld.blk (h:Ld w b s a)(e:w'.heap[b]?=w.heap[b]?):Ld w' b s a:=⟨(World.cell?_of_block e).trans h.c0,(World.cell?_of_block e).trans h.c1,(World.frozen?_of_block (a:=⟨b,1,none⟩) e).trans h.f1,h.bd,h.small,h.on⟩
theorem Ld.alloc (h:Ld w b s a)(o:Obj):Ld (w.alloc o) b s a:=h.blk (((Below.refl w.heap.size w).alloc (Nat.le_refl _) o).block b h.lt)
theorem Ld.drew (h:Ld w b s a):Ld w.drew b s a:=h.blk rfl
theorem Ld.next (h:Ld w b s a)(hb:a<s.size):Ld (w.setCell ⟨b,1,none⟩ (.int .i64 ((a+1:Nat):Int))) b s (a+1) :=
 ⟨(World.cell?_setCell_other _ _ _ _ (by simp)).trans h.c0,World.cell?_setCell_same _ _ _ h.c1,by rw [World.frozen?_setCell]; exact h.f1,hb,h.small,h.on⟩
theorem Xi (w:World)(r:Option Nat):w.grownBy w r:=⟨rfl,rfl,rfl,Nat.le_refl _,fun _ _ _=>rfl⟩
theorem Zcg (w:World)(r:Option Nat):w.grownBy w.drew r:=⟨rfl,rfl,rfl,Nat.le_refl _,fun _ _ _=>rfl⟩
theorem Zye (w:World)(b j:Nat)(v:Value):w.grownBy (w.setCell ⟨b,j,none⟩ v) (some b):=Zco (Xi w (some b)) (Or.inr rfl)
end
def Ztn (q:Int):Array Value:=#[.iface 127 (.int .i64 3),.int .i64 (-1),.int .i64 (-1),.int .i64 q]
def Om (g:Nat):List PanicEntry:=[{ v:=.iface 189 (.agg #[.iface 130 (.pointer (some ⟨g,0,none⟩))]),recovered:=false }]
def Yb {α:Type}(b:Nat)(s:ByteArray)(RV:World→Nat→Value→α→Prop)(r:Except Nat (α×Nat))(w:World)(e:Ending)(w':World):Prop :=
 w.grownBy w' (some b)∧match r with
  | .ok (x,a)=>∃ v,e=.returned v∧RV w' w.heap.size v x∧Ld w' b s a
  | .error q=>∃ g,e=.panicked (Om g)∧w'.heap[g]?=some (.cells (Ztn q) 133 (0,0))∧w.heap.size≤g
def Sb (_:World)(_:Nat)(v:Value)(x:Int):Prop:=v=.int .i64 x
theorem Yb.err {α β:Type}{b:Nat}{s:ByteArray}{RV:World→Nat→Value→α→Prop}{RW:World→Nat→Value→β→Prop}{q:Nat}{w w1 w2:World}{e:Ending}(h:Yb b s RV (.error q) w1 e w2)(hg:w.grownBy w1 (some b)):Yb b s RW (.error q) w e w2:=by obtain⟨g1,g,he,hr,hl⟩:=h;exact⟨Xq hg g1,g,he,hr,Nat.le_trans hg.size hl⟩
theorem Zyf (n q:Int)(w:World):Calls Tryz.prog 80 #[.int .i64 n,.int .i64 q] w fun e w'=>e=.returned (.iface 130 (.pointer (some ⟨w.heap.size,0,none⟩)))∧w'=w.alloc (.cells #[.iface 127 (.int .i64 n),.int .i64 (-1),.int .i64 (-1),.int .i64 q] 133 (0,0)):=by
 go_enter Tryz.func80,Tryz.ntmps80
 go_wp2;go_ret;exact⟨rfl,rfl⟩
theorem Zch {α:Type}(RV:World→Nat→Value→α→Prop)(b:Nat)(s:ByteArray)(a:Nat)(w:World)(h:Ld w b s a):Calls Tryz.prog 83 #[.pointer (some ⟨b,0,none⟩)] w (Yb b s RV (.error a) w):=by
 have c1:=h.c1;clear h;go_enter Tryz.func83,Tryz.ntmps83
 go_wp2_with fail
 refine(Zyf 3 a w).mono ?_;rintro e w1 ⟨rfl,hw⟩;subst w1;go_wp2;exact⟨rfl,Yc _ _ _,w.heap.size,rfl,heap_alloc_new _ _,Nat.le_refl _⟩
theorem Yck (s:ByteArray)(a:Nat)(h:a<s.size):((s[a].toNat:Nat):Int)=bAt s a:=by unfold bAt;rw [Array.getElem?_eq_getElem (show a<s.data.size from h)];rfl
theorem Znu (b:Nat)(s:ByteArray)(a:Nat)(w:World)(h:Ld w b s a)(hlt:a<s.size):Calls Tryz.prog 174 #[.pointer (some ⟨b,0,none⟩)] w fun e w'=>e=.returned (.int .u8 (bAt s a))∧w.grownBy w' (some b)∧Ld w' b s a:=by
 have c0:=h.c0;have c1:=h.c1;have hsm:=h.small;have HR:=Zc h;have HB:=Zc (Yck s a hlt);clear h;have hlt':¬ ((s.size:Int)≤a):=by omega
 go_enter Tryz.func174,Tryz.ntmps174
 go_wp2;go_region
 go_wp2;go_region
 go_wp2;go_ret;refine⟨by rw [← O HB]; rfl,?_,?_⟩
 ·exact Xq (Zcg _ _) (Zcg _ _)
 ·exact(O HR).drew.drew
theorem Znv {α:Type}(RV:World→Nat→Value→α→Prop)(b:Nat)(s:ByteArray)(a:Nat)(w:World)(h:Ld w b s a)(hlt:s.size≤a):Calls Tryz.prog 174 #[.pointer (some ⟨b,0,none⟩)] w (Yb b s RV (.error a) w):=by
 have c0:=h.c0;have c1:=h.c1;have hsm:=h.small;have hbd:=h.bd;have hle:(s.size:Int)≤a:=by omega
 have HC:=Zc (Zch RV b s a w.drew h.drew);clear h;go_enter Tryz.func174,Tryz.ntmps174
 go_wp2;go_region
 go_wp2_with fail
 refine(O HC).mono ?_;intro e w2 h2;have h3:=Yb.err (RW:=RV) h2 (Zcg w (some b));obtain⟨g1,g,rfl,g2,g3⟩:=h2;exact⟨rfl,h3⟩
theorem Zto (b:Nat)(s:ByteArray)(a:Nat)(x lo hi:Int)(w:World)(h:Ld w b s a)(hlt:a<s.size):Calls Tryz.prog 173 #[.pointer (some ⟨b,0,none⟩),.int .i64 x,.int .i64 lo,.int .i64 hi] w (Yb b s Sb (Lt lo hi x a) w):=by
 have c1:=h.c1;have f1:=h.f1;have hsm:=h.small;have HC:=Zc (Zch Sb b s a w h);have HR:=Zc h;clear h;by_cases h1:lo≤x
 ·by_cases h2:x≤hi
  ·have HD:=Zc (show Lt lo hi x a=.ok (x,a+1) from if_pos ⟨h1,h2⟩);go_enter Tryz.func173,Tryz.ntmps173
   go_wp2;go_ret;rw [O HD];exact⟨Zye w b 1 _,_,rfl,rfl,(O HR).next hlt⟩
  ·have HD:=Zc (show Lt lo hi x a=.error a from if_neg (fun c=>h2 c.2));go_enter Tryz.func173,Tryz.ntmps173
   go_wp2_with fail
   refine(O HC).mono ?_;intro e w2 h2;have h3:=h2;obtain⟨g1,g,rfl,g2,g3⟩:=h2;refine⟨rfl,?_⟩;rw [O HD];exact h3
 ·have HD:=Zc (show Lt lo hi x a=.error a from if_neg (fun c=>h1 c.1));go_enter Tryz.func173,Tryz.ntmps173
  go_wp2_with fail
  refine(O HC).mono ?_;intro e w2 h2;have h3:=h2;obtain⟨g1,g,rfl,g2,g3⟩:=h2;refine⟨rfl,?_⟩;rw [O HD];exact h3
set_option maxHeartbeats 1000000
set_option maxRecDepth 100000
theorem Xa (b:Nat)(s:ByteArray)(a:Nat)(lo hi:Int)(w:World)(h:Ld w b s a)(hlo:lo≠-1):Calls Tryz.prog 121 #[.pointer (some ⟨b,0,none⟩),.int .i64 lo,.int .i64 hi] w (Yb b s Sb (Zy s lo hi a) w):=by
 by_cases hlt:a<s.size
 ·have HD:=Zc (show Zy s lo hi a=Lt lo hi (bAt s a) a by unfold Zy signed; rw [if_pos hlt,if_neg (fun c=>hlo c.1)]);obtain⟨b0,b1⟩:=Ztl s a;have HP:=Zc (Znu b s a w h hlt);generalize bAt s a=n at HD HP b0 b1;clear h hlo;go_enter Tryz.func121,Tryz.ntmps121
  go_wp2_with fail
  refine(O HP).mono ?_;rintro e w1 ⟨rfl,hg1,hR1⟩;have HT:=Zc (Zto b s a n lo hi w1 hR1 hlt);have HG1:=Zc hg1;clear hg1 hR1;go_wp2_with fail
  refine(O HT).mono ?_;intro e w2 h2;cases hr:Lt lo hi n a with
  | ok p=>obtain⟨x,a'⟩:=p;rw [hr] at h2;obtain⟨g1,v,rfl,hv,hR⟩:=h2;have HV:=Zc hv;have HR2:=Zc hR;have HG2:=Zc (Xq (O HG1) g1);have HE:=Zc hr;clear hv hR g1 hr;go_wp2;go_ret;rw [O HD,O HE];exact⟨O HG2,v,rfl,O HV,O HR2⟩
  | error q=>rw [hr] at h2;have h3:=Yb.err (RW:=Sb) h2 (O HG1);obtain⟨g1,g,rfl,g2,g3⟩:=h2;refine⟨rfl,?_⟩;rw [O HD,hr];exact h3
 ·have HD:=Zc (show Zy s lo hi a=.error a from if_neg hlt);have HP:=Zc (Znv Sb b s a w h (by omega));clear h;go_enter Tryz.func121,Tryz.ntmps121
  go_wp2_with fail
  refine(O HP).mono ?_;intro e w2 h2;have h3:=Yb.err (RW:=Sb) h2 (Xi w (some b));obtain⟨g1,g,rfl,g2,g3⟩:=h2;refine⟨rfl,?_⟩;rw [O HD];exact h3
theorem Znw (b:Nat)(s:ByteArray)(a:Nat)(w:World)(h:Ld w b s a):Calls Tryz.prog 176 #[.pointer (some ⟨b,0,none⟩)] w (Yb b s Sb (Zy s 0 8 a) w):=by
 have HN:=Zc (Xa b s a 0 8 w h (by decide));clear h;go_enter Tryz.func176,Tryz.ntmps176
 go_wp2_with fail
 refine(O HN).mono ?_;intro e w2 h2;cases hr:Zy s 0 8 a with
 | ok p=>obtain⟨x,a'⟩:=p;rw [hr] at h2;obtain⟨g1,v,rfl,hv,hR⟩:=h2;have HV:=Zc hv;have HR2:=Zc hR;have HG2:=Zc (Xq (Xi w (some b)) g1);have HE:=Zc hr;clear hv hR g1 hr;go_wp2;go_ret;rw [O HE];exact⟨O HG2,v,rfl,O HV,O HR2⟩
 | error q=>rw [hr] at h2;have h3:=Yb.err (RW:=Sb) h2 (Xi w (some b));obtain⟨g1,g,rfl,g2,g3⟩:=h2;refine⟨rfl,?_⟩;exact h3
theorem Gz (b:Nat)(s:ByteArray)(a:Nat)(w:World)(h:Ld w b s a):Calls Tryz.prog 232 #[.pointer (some ⟨b,0,none⟩)] w (Yb b s Sb (Zy s 0 255 a) w):=by
 have HN:=Zc (Xa b s a 0 255 w h (by decide));clear h;go_enter Tryz.func232,Tryz.ntmps232
 go_wp2_with fail
 refine(O HN).mono ?_;intro e w2 h2;cases hr:Zy s 0 255 a with
 | ok p=>obtain⟨x,a'⟩:=p;rw [hr] at h2;obtain⟨g1,v,rfl,hv,hR⟩:=h2;have HV:=Zc hv;have HR2:=Zc hR;have HG2:=Zc (Xq (Xi w (some b)) g1);have HE:=Zc hr;clear hv hR g1 hr;go_wp2;go_ret;rw [O HE];exact⟨O HG2,v,rfl,O HV,O HR2⟩
 | error q=>rw [hr] at h2;have h3:=Yb.err (RW:=Sb) h2 (Xi w (some b));obtain⟨g1,g,rfl,g2,g3⟩:=h2;refine⟨rfl,?_⟩;exact h3
theorem Ycl (b:Nat)(s:ByteArray)(a:Nat)(w:World)(h:Ld w b s a):Calls Tryz.prog 180 #[.pointer (some ⟨b,0,none⟩)] w (Yb b s Sb (Zy s 1 8 a) w):=by
 have HN:=Zc (Xa b s a 1 8 w h (by decide));clear h;go_enter Tryz.func180,Tryz.ntmps180
 go_wp2_with fail
 refine(O HN).mono ?_;intro e w2 h2;cases hr:Zy s 1 8 a with
 | ok p=>obtain⟨x,a'⟩:=p;rw [hr] at h2;obtain⟨g1,v,rfl,hv,hR⟩:=h2;have HV:=Zc hv;have HR2:=Zc hR;have HG2:=Zc (Xq (Xi w (some b)) g1);have HE:=Zc hr;clear hv hR g1 hr;go_wp2;go_ret;rw [O HE];exact⟨O HG2,v,rfl,O HV,O HR2⟩
 | error q=>rw [hr] at h2;have h3:=Yb.err (RW:=Sb) h2 (Xi w (some b));obtain⟨g1,g,rfl,g2,g3⟩:=h2;refine⟨rfl,?_⟩;exact h3
theorem Zyg (n:Int)(a:Nat)(h0:0≤n)(h1:n≤255):Lt (-1) 15 (if n≤127 then n else n-256) a=Lt (-1) 15 (signed (-1) n) a:=by
 by_cases h2:n=255
 ·subst h2; rfl
 ·have e1:signed (-1) n=n:=if_neg (fun c=>h2 c.2);rw [e1];by_cases h3:n≤127
  ·rw [if_pos h3]
  ·rw [if_neg h3];unfold Lt;rw [if_neg (by omega),if_neg (by omega)]
theorem Ycm (b:Nat)(s:ByteArray)(a:Nat)(w:World)(h:Ld w b s a):Calls Tryz.prog 179 #[.pointer (some ⟨b,0,none⟩)] w (Yb b s Sb (Zy s (-1) 15 a) w):=by
 by_cases hlt:a<s.size
 ·obtain⟨b0,b1⟩:=Ztl s a;have HD:=Zc (show Zy s (-1) 15 a=Lt (-1) 15 (if bAt s a≤127 then bAt s a else bAt s a-256) a by unfold Zy; rw [if_pos hlt,Zyg _ _ b0 b1]);have HP:=Zc (Znu b s a w h hlt);generalize bAt s a=n at HD HP b0 b1;have hi8:IntKind.i8.wrap n=(if n≤127 then n else n-256):=by unfold IntKind.wrap;simp [IntKind.bits,IntKind.signed];split <;> split <;> omega
  have hi64:wrap64 (if n≤127 then n else n-256)=(if n≤127 then n else n-256):=by unfold wrap64;split <;> omega
  have HI:=Zc hi8;have HJ:=Zc hi64;clear h hi8 hi64;go_enter Tryz.func179,Tryz.ntmps179
  go_wp2_with fail
  refine(O HP).mono ?_;rintro e w1 ⟨rfl,hg1,hR1⟩;generalize hm:(if n≤127 then n else n-256)=m at HD HI HJ;have HT:=Zc (Zto b s a m (-1) 15 w1 hR1 hlt);have HG1:=Zc hg1;clear hg1 hR1 hm;go_wp2_with fail
  rw [show wrap64 (IntKind.i8.wrap n)=m by rw [O HI]; exact O HJ];refine(O HT).mono ?_;intro e w2 h2;cases hr:Lt (-1) 15 m a with
  | ok p=>obtain⟨x,a'⟩:=p;rw [hr] at h2;obtain⟨g1,v,rfl,hv,hR⟩:=h2;have HV:=Zc hv;have HR2:=Zc hR;have HG2:=Zc (Xq (O HG1) g1);have HE:=Zc hr;clear hv hR g1 hr;go_wp2;go_ret;rw [O HD,O HE];exact⟨O HG2,v,rfl,O HV,O HR2⟩
  | error q=>rw [hr] at h2;have h3:=Yb.err (RW:=Sb) h2 (O HG1);obtain⟨g1,g,rfl,g2,g3⟩:=h2;refine⟨rfl,?_⟩;rw [O HD,hr];exact h3
 ·have HD:=Zc (show Zy s (-1) 15 a=.error a from if_neg hlt);have HP:=Zc (Znv Sb b s a w h (by omega));clear h;go_enter Tryz.func179,Tryz.ntmps179
  go_wp2_with fail
  refine(O HP).mono ?_;intro e w2 h2;have h3:=Yb.err (RW:=Sb) h2 (Xi w (some b));obtain⟨g1,g,rfl,g2,g3⟩:=h2;refine⟨rfl,?_⟩;rw [O HD];exact h3
end Go.Proofs.YtkenknfgeoecbaaGreatDoor
