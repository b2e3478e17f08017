import Derived.Lib.AppendIntMem
import Derived.Test.YtkenknfgeoecbaaGreatDoorShelf
import Derived.WalkSmall
namespace Go.Proofs.YtkenknfgeoecbaaGreatDoor
open Go.RowKit
theorem Zs {p:Prop}(h:p):Hid p:=h
theorem Zf {p:Prop}(h:Hid p):p:=h
def Mf (k:Nat)(n:Int):List UInt8:=if k=2∧n=-1 then [45] else Lib.itoa n
def Lg (k:Nat)(ns:List Int):List UInt8:=ns.flatMap fun n=>32 :: Mf k n
def nm (k:Nat):List UInt8:=([[114,101,103,115],[115,112],[108,105,110,107],[116,101,109,112,115],[97,114,103,115],[114,101,115,117,108,116,115],[115,97,118,101,115],[97,108,105,103,110],[115,104,97,100,111,119],[98,121,114,101,102],[112,97,105,114,115]]:List (List UInt8)).getD k []
def Ys (k:Nat)(ns:List Int):List UInt8:=nm k++Lg k ns++[59,10]
theorem Zmp (k:Nat):(nm k).length<=7:=by
 unfold nm;match k with
 | 0 | 1 | 2 | 3 | 4 | 5 | 6 | 7 | 8 | 9 | 10=>decide
 | k+11=>simp
theorem Zgi:∀(d u:Nat),u<10 ^ (d+1)->(Lib.decDigits u).length<=d+1
 | 0,u,h=>by rw [Lib.decDigits,dif_pos (by omega)]; simp
 | d+1,u,h=>by
  rw [Lib.decDigits];split
  ·simp
  ·have:=Zgi d (u / 10) (by rw [Nat.pow_succ] at h; omega);simp; omega
theorem Zvc {n:Int}(h0:-9223372036854775808<=n)(h1:n<=9223372036854775807):(Lib.itoa n).length<=20:=by
 unfold Lib.itoa;split
 ·have:=Zgi 18 n.natAbs (by rw [show(10:Nat) ^ (18+1)=10000000000000000000 by decide]; omega);simp; omega
 ·have:=Zgi 18 n.toNat (by rw [show(10:Nat) ^ (18+1)=10000000000000000000 by decide]; omega);omega
theorem Zap (k:Nat){n:Int}(h0:-9223372036854775808<=n)(h1:n<=9223372036854775807):(Mf k n).length<=20:=by
 unfold Mf; split
 ·simp
 ·exact Zvc h0 h1
theorem Ra (k:Nat):∀(ns:List Int),(∀ n ∈ ns,-9223372036854775808<=n∧n<=9223372036854775807)->(Lg k ns).length<=21*ns.length
 | [],_=>by simp [Lg]
 | n :: r,h=>by
  have h1:=Ra k r (fun x hx=>h x (List.mem_cons_of_mem _ hx));have h2:=Zap k (h n (by simp)).1 (h n (by simp)).2;simp only [Lg,List.flatMap_cons,List.length_append,List.length_cons] at h1 ⊢;omega
theorem Zdx (k:Nat)(ns:List Int)(n:Int):Lg k (ns++[n])=Lg k ns++32 :: Mf k n:=by simp [Lg,List.flatMap_append]
def Bd (w:World)(b:Nat)(l:List UInt8):Prop:=Lib.IsBuilderF 184 5 b b (Lib.byteCells l) w
theorem Bd.lt {w:World}{b:Nat}{l:List UInt8}(h:Bd w b l):b<w.heap.size:=by
 rcases h with h | h
 ·exact h.lt
 ·exact h.lt
theorem Bd.below {w w':World}{b:Nat}{l:List UInt8}(h:Bd w b l)(hb:Below w.heap.size w w'):Bd w' b l:=by
 have hlt:=h.lt;have hg:w.grownBy w' none:=⟨hb.os,hb.tape,hb.output,hb.size,fun k hk _=>hb.block k hk⟩;have each:∀ p,Lib.BuilderAtF 184 5 b b p (Lib.byteCells l) w->Lib.BuilderAtF 184 5 b b p (Lib.byteCells l) w':=by
  rintro p ⟨h1,v,h2,h3,h4⟩;refine⟨h1,v,(hb.block b hlt).trans h2,h3.kept hg ?_,h4⟩;cases hv:v.ownBlock with
  | none=>exact Or.inl rfl
  | some k=>exact Or.inr (by simp)
 exact h.elim (fun x=>Or.inl (each _ x)) (fun x=>Or.inr (each _ x))
theorem Bd.fresh (w:World):Bd (w.alloc (.cells #[.pointer none,.slice none 0 0] 184)) w.heap.size [] :=
 Lib.IsBuilderF.of (Lib.fresh_isBuilder _ _ _)
structure Wr (w w':World)(b:Nat):Prop where
 low:Below b w w'
 oth:Lib.OthersKept 5 (some b) w w'
theorem Wr.refl (w:World)(b:Nat):Wr w w b:=⟨Below.refl _ _,Lib.OthersKept.refl _ _ _⟩
theorem Wr.trans {a c d:World}{b:Nat}(h:Wr a c b)(k:Wr c d b):Wr a d b:=⟨h.low.trans k.low,h.oth.trans k.oth⟩
theorem Wr.of_below {w w':World}{b:Nat}(h:Below w.heap.size w w')(hb:b<=w.heap.size):Wr w w' b :=
 ⟨h.mono hb,fun k o hk _ _=>(h.block k (by rcases Nat.lt_or_ge k w.heap.size with x | x; exact x; simp [Array.getElem?_eq_none x] at hk)).trans hk⟩
structure Rd (w:World)(b sb so:Nat)(ns:List Int):Prop where
 cell:∀ i,i<ns.length->w.cell? ⟨sb,so+i,none⟩=some (.int .i64 (ns.getD i 0))
 keep:sb<b∨(sb≠b∧∃ c fz,w.heap[sb]?=some (.cells c 3 fz))
theorem Rd.wr {w w':World}{b sb so:Nat}{ns:List Int}(h:Rd w b sb so ns)(hw:Wr w w' b):Rd w' b sb so ns:=by
 have e:w'.heap[sb]?=w.heap[sb]?:=by
  rcases h.keep with h1 | ⟨h1,c,fz,h2⟩
  ·exact hw.low.block sb h1
  ·rw [h2]; exact hw.oth sb _ h2 (by simpa using h1) (by intro c' fz' e; cases e)
 refine⟨fun i hi=>(World.cell?_of_block e).trans (h.cell i hi),?_⟩;rcases h.keep with h1 | ⟨h1,c,fz,h2⟩
 ·exact Or.inl h1
 ·exact Or.inr ⟨h1,c,fz,e.trans h2⟩
set_option maxHeartbeats 2000000
theorem Tryz.sizeBd:(Tryz.prog.info? 184).map (·.size)=some 2:=by kernel_rfl
theorem Tryz.liesBd:liesAt Tryz.prog Tryz.prog.depth 184 (2 / Tryz.prog.cellsOf 184) 0 184 1=true:=by kernel_rfl
theorem Tryz.infoB:(Tryz.prog.info? 5).map (fun i=>(i.zero,i.size,i.bytes))=some (some (.int .u8 0),1,1):=by kernel_rfl
theorem Zzt (b:Nat)(w:World)(h0:w.cell? ⟨b,0,none⟩=some (.pointer (some ⟨b,0,none⟩))) :
 Calls Tryz.prog 161 #[.pointer (some ⟨b,0,none⟩)] w fun e w'=>e=.returned (.tuple #[])∧w'=w:=by
 obtain⟨j,hj,_⟩:=Option.map_eq_some_iff.1 Tryz.sizeBd;have hq:=Lib.run_neq_ptr_same w ⟨b,0,none⟩ Tryz.underlying181 hj;go_enter Tryz.func161,Tryz.ntmps161
 go_wp2;go_end0
 exact⟨rfl,rfl⟩
theorem Zuy (b:Nat)(w:World)(h0:w.cell? ⟨b,0,none⟩=some (.pointer none))(hsh:w.shape? b=some (184,2))(hfz:w.frozen? ⟨b,0,none⟩=false) :
 Calls Tryz.prog 161 #[.pointer (some ⟨b,0,none⟩)] w fun e w'=>e=.returned (.tuple #[])∧w'=w.setCell ⟨b,0,none⟩ (.pointer (some ⟨b,0,none⟩)):=by
 obtain⟨j,hj,hjs⟩:=Option.map_eq_some_iff.1 Tryz.sizeBd;have q1:=Lib.run_to_unsafe w ⟨b,0,none⟩ Tryz.underlying181 Tryz.underlying141 hj (by rw [hjs]; decide) hsh (Nat.zero_lt_succ 1);have q2:=@run_callFunc_extern Tryz.prog 226 _ Extern.AbiNoEscape.same Tryz.func226 (by kernel_rfl) (by kernel_rfl) (by kernel_rfl) (by kernel_rfl);have q3:=fun x=>Lib.run_noEscape (P:=Tryz.prog) (w:=w) x;have q4:=Lib.run_from_unsafe w ⟨b,0,none⟩ Tryz.underlying141 Tryz.underlying181 hj hsh Tryz.liesBd;go_enter Tryz.func161,Tryz.ntmps161
 go_wp2;go_end0
 exact⟨rfl,rfl⟩
theorem Zuz (b:Nat)(l:List UInt8)(w:World)(h:Bd w b l) :
 Calls Tryz.prog 161 #[.pointer (some ⟨b,0,none⟩)] w fun e w'=>e=.returned (.tuple #[])∧Lib.BuilderAtF 184 5 b b (.pointer (some ⟨b,0,none⟩)) (Lib.byteCells l) w'∧Wr w w' b:=by
 rcases h with h | h
 ·refine(Zuy b w h.cell0 h.shape h.frozen0).mono ?_;rintro e w' ⟨rfl,rfl⟩;exact⟨rfl,h.used _,⟨(Below.refl b w).setCell (p:=⟨b,0,none⟩) (Nat.le_refl _) _,(Lib.OthersKept.refl _ _ w).setCell ⟨b,0,none⟩ rfl _⟩⟩
 ·refine(Zzt b w h.cell0).mono ?_;rintro e w' ⟨rfl,rfl⟩;exact⟨rfl,h,Wr.refl _ _⟩
theorem Zcw (l:List UInt8)(c:UInt8):Lib.byteCells l++[.int .u8 c.toNat]=Lib.byteCells (l++[c]):=by simp [Lib.byteCells]
theorem Zje (s:ByteArray):Lib.strCells s=Lib.byteCells s.data.toList:=by rfl
theorem Yfm (b:Nat)(l:List UInt8)(c:UInt8)(w:World)(h:Bd w b l)(hlen:l.length+1<=140737488355328) :
 Calls Tryz.prog 112 #[.pointer (some ⟨b,0,none⟩),.int .u8 c.toNat] w fun e w'=>e=.returned .nilIface∧Bd w' b (l++[c])∧Wr w w' b:=by
 obtain⟨i0,hi,hz0,hz1,hz2⟩:=info_parts Tryz.infoB;have HH:=Zs h;have hbl:=Lib.byteCells_length l;clear h;go_enter Tryz.func112,Tryz.ntmps112
 go_wp2_with fail
 refine(Zuz b l _ (Zf HH)).mono ?_;rintro e w1 ⟨rfl,⟨hB,v,hbk,hown,hne⟩,hw1⟩;have c1:w1.cell? ⟨b,1,none⟩=some v:=by rw [Lib.cell_of_heap hbk]; rfl
 have hlt:b<w1.heap.size:=by
  rcases Nat.lt_or_ge b w1.heap.size with h' | h'
  ·exact h'
  ·simp [Array.getElem?_eq_none h'] at hbk
 go_wp2_with (at_builtin; refine wpList_append_ownF _ rfl _ _ 182 rfl b 5 i0 (.int .u8 0) 1 1 Tryz.underlying182 hi hz0 hz1 hz2 rfl (by decide) _ _ _ rfl (hown.alloc _) ⟨w1.heap.size,0,none⟩ 1 1 [.int .u8 c.toNat] rfl rfl ?c1 ?c2 ?c3 ?c4 ?c5 ?_)
 case c1 =>
  intro j u hj;match j,hj with
  | 0,hj=>simp at hj; subst hj; simp [Addr.add]
 case c2=>intro u hu; simp at hu; subst hu; rfl
 case c3=>unfold maxLen; omega
 case c4=>omega
 case c5=>simp; omega
 intro v' w2 hown' hgrow _;have hb2:w2.heap[b]?=some (.cells #[.pointer (some ⟨b,0,none⟩),v] 184 (0,0)):=by rw [hgrow.block b (by simp; omega) (fun e=>hne e.symm),Lib.alloc_old w1 _ b hlt];exact hbk
 have d1:w2.cell? ⟨b,1,none⟩=some v:=by rw [Lib.cell_of_heap hb2]; rfl
 have f1:w2.frozen? ⟨b,1,none⟩=false:=Lib.frozen_of_heap hb2 1;obtain⟨g,cap,rfl⟩:∃ g cap,v'=.slice (some ⟨g,0,none⟩) (l.length+1) cap:=by
  rcases hown'.2 with⟨_,h0⟩ | ⟨g,cap,cur,fz,hv,_⟩
  ·omega
  ·exact⟨g,cap,hv⟩
 go_wp2;go_ret;refine⟨rfl,?_,?_,((hw1.oth.alloc _).grown hgrow (Lib.ownsRowF_kind (hown.alloc _))).setCell ⟨b,1,none⟩ rfl _⟩
 ·refine Or.inr (Lib.BuilderAtF.put (T:=184) (e:=5) hB hb2 (bs':=Lib.byteCells (l++[c])) ?_ (by decide));rw [← Zcw]; simpa [hbl] using hown'
 ·exact((hw1.low.alloc (Nat.le_of_lt hlt) _).grown hgrow (by simp; omega) (fun k hk=>(hown.lt k hk).1)).setCell (p:=⟨b,1,none⟩) hB _
theorem Zva (b:Nat)(l:List UInt8)(s:ByteArray)(w:World)(h:Bd w b l)(hlen:l.length+s.size<=140737488355328) :
 Calls Tryz.prog 111 #[.pointer (some ⟨b,0,none⟩),.string s] w fun e w'=>e=.returned (.tuple #[.int .i64 s.size,.nilIface])∧Bd w' b (l++s.data.toList)∧Wr w w' b:=by
 obtain⟨i0,hi,hz0,hz1,hz2⟩:=info_parts Tryz.infoB;have HH:=Zs h;have hbl:=Lib.byteCells_length l;clear h;go_enter Tryz.func111,Tryz.ntmps111
 go_wp2_with fail
 refine(Zuz b l _ (Zf HH)).mono ?_;rintro e w1 ⟨rfl,⟨hB,v,hbk,hown,hne⟩,hw1⟩;have c1:w1.cell? ⟨b,1,none⟩=some v:=by rw [Lib.cell_of_heap hbk]; rfl
 have hlt:b<w1.heap.size:=by
  rcases Nat.lt_or_ge b w1.heap.size with h' | h'
  ·exact h'
  ·simp [Array.getElem?_eq_none h'] at hbk
 go_wp2_with (at_builtin; refine Lib.wpList_append_own_stringF _ rfl _ _ 182 9 rfl b 5 i0 Tryz.underlying182 Tryz.underlying9 hi hz0 hz1 hz2 _ _ _ rfl hown s rfl ?c3 ?c4 ?c5 ?_)
 case c3=>unfold maxLen; omega
 case c4=>omega
 case c5=>omega
 intro v' w2 hown' hgrow _;have hb2:w2.heap[b]?=some (.cells #[.pointer (some ⟨b,0,none⟩),v] 184 (0,0)):=by rw [hgrow.block b hlt (fun e=>hne e.symm)];exact hbk
 have d1:w2.cell? ⟨b,1,none⟩=some v:=by rw [Lib.cell_of_heap hb2]; rfl
 have f1:w2.frozen? ⟨b,1,none⟩=false:=Lib.frozen_of_heap hb2 1;obtain⟨ao,n',cap,rfl⟩:∃ ao n' cap,v'=.slice ao n' cap:=by
  rcases hown'.2 with⟨hv,_⟩ | ⟨g,cap,cur,fz,hv,_⟩
  ·exact⟨_,_,_,hv⟩
  ·exact⟨_,_,_,hv⟩
 go_wp2;go_ret2;refine⟨rfl,?_,?_,(hw1.oth.grown hgrow (Lib.ownsRowF_kind hown)).setCell ⟨b,1,none⟩ rfl _⟩
 ·refine Or.inr (Lib.BuilderAtF.put (T:=184) (e:=5) hB hb2 (bs':=Lib.byteCells (l++s.data.toList)) ?_ (by decide));rw [Lib.byteCells_append,← Zje]; simpa [Lib.strCells_length,hbl] using hown'
 ·exact(hw1.low.grown hgrow (Nat.le_of_lt hlt) (fun k hk=>(hown.lt k hk).1)).setCell (p:=⟨b,1,none⟩) hB _
theorem Yfn (b:Nat)(l:List UInt8)(w:World)(h:Bd w b l) :
 Calls Tryz.prog 73 #[.pointer (some ⟨b,0,none⟩)] w fun e w'=>e=.returned (.string ⟨l.toArray⟩)∧Wr w w' b :=
 (Tryz.Builder_String_any_k b b l w h (Nat.le_of_lt h.lt)).mono fun _ _ ⟨h1,_,h3,h4⟩=>⟨h1,h3,h4⟩
theorem Zjf (n : Int) (h0 : -9223372036854775808 <= n) (h1 : n <= 9223372036854775807) (w : World) (htab : Lib.TabIs Tryz.prog w "internal/strconv.uint64pow10" .u64 Lib.pow10Tab) :
 Calls Tryz.prog 162 #[.int .i64 n] w fun e w'=>e=.returned (.string ⟨(Lib.itoa n).toArray⟩)∧Below w.heap.size w w' :=
 (Tryz.strconv_Itoa n h0 h1 w htab).mono fun _ _ ⟨h1,k,os,h2⟩=>⟨h1,by rw [h2]; exact Lib.below_grow _ _ (Nat.le_refl _) _ _⟩
set_option maxHeartbeats 1000000
def Zjg (w:World):Prop:=∀ k,k<11->w.cell? ⟨1,k*5,none⟩=some (.string ⟨(nm k).toArray⟩)∧w.cell? ⟨1,k*5+3,none⟩=some (.bool (decide (k=2)))
def gB (B:Nat):Prop:=1<B∧6<B
structure Sv (w:World):Prop where
 items:Zjg w
 pow : Lib.TabIs Tryz.prog w "internal/strconv.uint64pow10" .u64 Lib.pow10Tab
theorem Tryz.gPow : Tryz.prog.globalNamed "internal/strconv.uint64pow10" = some 6 := by kernel_rfl
theorem Sv.blk {w w':World}(h:Sv w)(h1:w'.heap[1]?=w.heap[1]?)(h2:w'.heap[6]?=w.heap[6]?):Sv w':=by refine⟨fun k hk=>⟨(World.cell?_of_block h1).trans (h.items k hk).1,(World.cell?_of_block h1).trans (h.items k hk).2⟩,?_⟩;have hp:=h.pow;unfold Lib.TabIs at hp ⊢;rw [← hp];simp only [World.var?,Tryz.gPow,Option.bind_some,h2]
theorem ltc {w:World}{b o:Nat}{v:Value}(h:w.cell? ⟨b,o,none⟩=some v):b<w.heap.size:=by
 rcases Nat.lt_or_ge b w.heap.size with h' | h'
 ·exact h'
 ·simp [World.cell?,Array.getElem?_eq_none h'] at h
theorem Sv.gb {w:World}(h:Sv w):gB w.heap.size:=⟨ltc (h.items 0 (by omega)).1,ltc (h.pow.cell Tryz.gPow 0 (by decide))⟩
theorem Sv.below {w w':World}{B:Nat}(h:Sv w)(hb:Below B w w')(hB:gB B):Sv w':=h.blk (hb.block _ hB.1) (hb.block _ hB.2)
theorem Yfo (k:Nat)(hk:k<11)(n:Int)(h0:-9223372036854775808<=n)(h1:n<=9223372036854775807)(w:World)(hT:Sv w) :
 Calls Tryz.prog 113 #[.int .i64 k,.int .i64 n] w fun e w'=>e=.returned (.string ⟨(Mf k n).toArray⟩)∧Below w.heap.size w w':=by
 have hc:=(hT.items k hk).2;have HT:=Zs hT;clear hT;by_cases h2:k=2
 ·subst h2;by_cases hm:n=-1
  ·have HE:=Zs (show Mf 2 n=[45] by simp [Mf,hm]);have hm':(n==-1)=true:=by simp [hm]
   clear hm;simp only [decide_true] at hc;go_enter Tryz.func113,Tryz.ntmps113
   go_wp2;go_ret;rw [Zf HE];exact⟨rfl,Below.refl _ _⟩
  ·have HE:=Zs (show Mf 2 n=Lib.itoa n by simp [Mf,hm]);have hm':(n==-1)=false:=by simp [hm]
   clear hm;simp only [decide_true] at hc;go_enter Tryz.func113,Tryz.ntmps113
   go_wp2_with fail
   refine(Zjf n h0 h1 _ (Zf HT).pow).mono ?_;rintro e w' ⟨rfl,hb⟩;have HB:=Zs hb;clear hb;go_wp2;go_ret;rw [Zf HE];exact⟨rfl,Zf HB⟩
 ·have HE:=Zs (show Mf k n=Lib.itoa n by simp [Mf,h2]);rw [show decide (k=2)=false by simp [h2]] at hc;clear h2;go_enter Tryz.func113,Tryz.ntmps113
  go_wp2_with fail
  refine(Zjf n h0 h1 _ (Zf HT).pow).mono ?_;rintro e w' ⟨rfl,hb⟩;have HB:=Zs hb;clear hb;go_wp2;go_ret;rw [Zf HE];exact⟨rfl,Zf HB⟩
def Lst (w:World)(b:Nat)(v:Value)(ns:List Int):Prop:=(ns=[]∧∃ p cap,v=.slice p 0 cap)∨∃ sb so cap,v=.slice (some ⟨sb,so,none⟩) ns.length cap∧Rd w b sb so ns
def okI (ns:List Int):Prop:=∀ n ∈ ns,-9223372036854775808<=n∧n<=9223372036854775807
theorem Io (l:List UInt8):(⟨l.toArray⟩:ByteArray).data.toList=l:=rfl
theorem Zgh (l:List UInt8):(⟨l.toArray⟩:ByteArray).size=l.length:=rfl
theorem Zcx (ns:List Int)(j:Nat)(h:j<ns.length):ns.take (j+1)=ns.take j++[ns.getD j 0]:=by rw [List.take_succ_eq_append_getElem h]; simp [List.getD,h]
theorem Zrg (k:Nat)(hk:k<11)(b:Nat)(l:List UInt8)(p:Option Addr)(cap:Nat)(w:World)(hT:Sv w)(hB:Bd w b l)(hlen:l.length+40<=140737488355328) :
 Calls Tryz.prog 72 #[.pointer (some ⟨b,0,none⟩),.int .i64 k,.slice p 0 cap] w fun e w'=>e=.returned (.tuple #[])∧Bd w' b (l++Ys k [])∧Wr w w' b:=by
 have hc:=(hT.items k hk).1;have hnl:=Zmp k;have HB:=Zs hB;clear hB;go_enter Tryz.func72,Tryz.ntmps72
 go_wp2_with fail
 refine(Zva b l _ _ (Zf HB) (by rw [Zgh]; omega)).mono ?_;rintro e w1 ⟨rfl,hB1,hw1⟩;rw [Io] at hB1;have HB1:=Zs hB1;have HW1:=Zs hw1;clear hB1 hw1;go_wp2_with fail
 refine wp_loop_rounds 1 ?_;rw [rounds_succ];go_wp2_with fail
 refine(Zva b _ _ _ (Zf HB1) (by simp [ByteArray.size]; omega)).mono ?_;rintro e w2 ⟨rfl,hB2,hw2⟩;have HB2:=Zs hB2;have HW2:=Zs ((Zf HW1).trans hw2);clear hB2 hw2;go_wp2;go_end0
 refine⟨rfl,?_,Zf HW2⟩;have:=Zf HB2;simpa [Ys,Lg,List.append_assoc] using this
theorem Zfd (k:Nat)(hk:k<11)(b:Nat)(l:List UInt8)(sb so cap:Nat)(ns:List Int)(w:World)(hT:Sv w)(hB:Bd w b l)(hb16:gB b)(hR:Rd w b sb so ns)(hok:okI ns)(hlen:l.length+21*ns.length+40<=140737488355328) :
 Calls Tryz.prog 72 #[.pointer (some ⟨b,0,none⟩),.int .i64 k,.slice (some ⟨sb,so,none⟩) ns.length cap] w fun e w'=>e=.returned (.tuple #[])∧Bd w' b (l++Ys k ns)∧Wr w w' b:=by
 have hc:=(hT.items k hk).1;have hnl:=Zmp k;have HB:=Zs hB;have HT:=Zs hT;have HR:=Zs hR;have HO:=Zs hok;have hnsl:ns.length<=9223372036854775807:=by omega
 clear hB hT hR hok;go_enter Tryz.func72,Tryz.ntmps72
 go_wp2_with fail
 refine(Zva b l _ _ (Zf HB) (by rw [Zgh]; omega)).mono ?_;rintro e w1 ⟨rfl,hB1,hw1⟩;rw [Io] at hB1;have HB1:=Zs hB1;have HW1:=Zs hw1;clear hB1 hw1;go_wp2_with fail
 go_loopw [16] (fun i wr=>∃ j:Nat,j<=ns.length∧i=.int .i64 j∧Bd wr b (l++nm k++Lg k (ns.take j))∧Wr w wr b) (fun i _=>ns.length-(intOf i).toNat)
 case atStart=>exact⟨0,by omega,rfl,by simpa [Lg] using Zf HB1,Zf HW1⟩
 case round =>
  obtain⟨j,hj,rfl,hBj,hwj⟩:=hrel;have hlt':=Ra k (ns.take j) (fun n hn=>Zf HO n (List.mem_of_mem_take hn));have htl:(ns.take j).length=j:=by simp; omega
  by_cases hlt:j<ns.length
  ·have hcx:=((Zf HR).wr hwj).cell j hlt;have hn:=Zf HO (ns.getD j 0) (by rw [List.getD,List.getElem?_eq_getElem hlt]; simp);have hTj:=(Zf HT).below hwj.low hb16;have HS:=Zs (Zdx k (ns.take j) (ns.getD j 0));have HTS:=Zs (Zcx ns j hlt);have hnl2:=Zap k hn.1 hn.2;generalize ns.getD j 0=n at hcx hn HS HTS hnl2;have HBj:=Zs hBj;have HWj:=Zs hwj;have HTj:=Zs hTj;clear hBj hwj hTj;go_wp2_with fail
   refine(Yfm b _ 32 _ (Zf HBj) (by simp; omega)).mono ?_;rintro e w2 ⟨rfl,hB2,hw2⟩;have HB2:=Zs hB2;have HW2:=Zs ((Zf HWj).trans hw2);have HT2:=Zs ((Zf HTj).below hw2.low hb16);clear hB2 hw2;go_wp2_with fail
   refine(Yfo k hk n hn.1 hn.2 _ (Zf HT2)).mono ?_;rintro e w3 ⟨rfl,hb3⟩;have HB3:=Zs ((Zf HB2).below hb3);have HW3:=Zs ((Zf HW2).trans (Wr.of_below hb3 (Nat.le_of_lt (Zf HB2).lt)));clear hb3;go_wp2_with fail
   refine(Zva b _ _ _ (Zf HB3) (by rw [Zgh]; simp; omega)).mono ?_;rintro e w4 ⟨rfl,hB4,hw4⟩;rw [Io] at hB4;have HB4:=Zs hB4;have HW4:=Zs ((Zf HW3).trans hw4);clear hB4 hw4;go_wp2_with fail
   go_roundw
   case rel=>refine⟨j+1,hlt,by go_num,?_,Zf HW4⟩;rw [Zf HTS,Zf HS];have:=Zf HB4;simpa [List.append_assoc] using this
   case measure=>simp [intOf]; omega
  ·obtain rfl:j=ns.length:=by omega
   rw [List.take_length] at hBj hlt';have HBj:=Zs hBj;have HWj:=Zs hwj;clear hBj hwj;go_wp2_with fail
   refine(Zva b _ _ _ (Zf HBj) (by simp [ByteArray.size]; omega)).mono ?_;rintro e w2 ⟨rfl,hB2,hw2⟩;have HB2:=Zs hB2;have HW2:=Zs ((Zf HWj).trans hw2);clear hB2 hw2;go_wp2;go_end0
   refine⟨rfl,?_,Zf HW2⟩;have:=Zf HB2;simpa [Ys,List.append_assoc] using this
theorem Yfp (k:Nat)(hk:k<11)(b:Nat)(l:List UInt8)(v:Value)(ns:List Int)(w:World)(hT:Sv w)(hB:Bd w b l)(hb16:gB b)(hL:Lst w b v ns)(hok:okI ns)(hlen:l.length+21*ns.length+40<=140737488355328) :
 Calls Tryz.prog 72 #[.pointer (some ⟨b,0,none⟩),.int .i64 k,v] w fun e w'=>e=.returned (.tuple #[])∧Bd w' b (l++Ys k ns)∧Wr w w' b:=by
 rcases hL with⟨rfl,p,cap,rfl⟩ | ⟨sb,so,cap,rfl,hR⟩
 ·exact Zrg k hk b l p cap w hT hB (by omega)
 ·exact Zfd k hk b l sb so cap ns w hT hB hb16 hR hok hlen
set_option maxHeartbeats 4000000
theorem Zzu {a b:Nat}(h:gB a)(hab:a<=b):gB b:=⟨Nat.lt_of_lt_of_le h.1 hab,Nat.lt_of_lt_of_le h.2 hab⟩
structure St (w:World)(x:Nat)(vals:Array Value)(l:List UInt8):Prop where
 tabs:Sv w
 bd:Bd w (x+1) l
 box:∀ i,w.cell? ⟨x,i,none⟩=vals[i]?
 gb:gB (x+1)
theorem St.wr {w w':World}{x:Nat}{vals:Array Value}{l l':List UInt8}(h:St w x vals l)(hw:Wr w w' (x+1))(hb:Bd w' (x+1) l'):St w' x vals l' :=
 ⟨h.tabs.below hw.low h.gb,hb,fun i=>(hw.low.cell (p:=⟨x,i,none⟩) (Nat.lt_succ_self x)).trans (h.box i),h.gb⟩
theorem St.alloc {w:World}{x:Nat}{vals:Array Value}{l:List UInt8}(h:St w x vals l)(o:Obj):St (w.alloc o) x vals l :=
 h.wr (Wr.of_below ((Below.refl _ _).alloc (Nat.le_refl _) o) (Nat.le_of_lt h.bd.lt)) (h.bd.below ((Below.refl _ _).alloc (Nat.le_refl _) o))
theorem Ou (k:Nat)(hk:k<11)(ki:Int)(hki:ki=(k:Int))(sb:Nat)(ns:List Int)(c:Array Value)(hc:c=(ns.map (Value.int .i64)).toArray)(n:Nat)(hn:n=ns.length){x:Nat}{vals:Array Value}{l:List UInt8}(w:World)(S:St w x vals l)(hok:okI ns)(hlen:l.length+21*ns.length+40<=140737488355328)(cap:Nat)(hsb:sb=w.heap.size) :
 Calls Tryz.prog 72 #[.pointer (some ⟨x+1,0,none⟩),.int .i64 ki,.slice (some ⟨sb,0,none⟩) n cap] (w.alloc (.cells c 3)) fun e w'=>e=.returned (.tuple #[])∧St w' x vals (l++Ys k ns)∧Wr w w' (x+1):=by
 subst hn hsb hki;have hx:=S.bd.lt;have hR:Rd (w.alloc (.cells c 3)) (x+1) w.heap.size 0 ns:=by
  refine⟨fun i hi=>?_,Or.inr ⟨by omega,c,(0,0),?_⟩⟩
  ·rw [World.cell?_alloc_at _ _ _ _ rfl,hc]; simp [List.getD,hi]
  ·unfold World.alloc; exact Array.getElem?_push_size
 have S1:=S.alloc (.cells c 3);refine(Zfd k hk (x+1) l w.heap.size 0 cap ns _ S1.tabs S1.bd S1.gb hR hok hlen).mono ?_;rintro e w' ⟨h1,h2,h3⟩;exact⟨h1,S1.wr h3 h2,(Wr.of_below ((Below.refl _ _).alloc (Nat.le_refl _) _) (Nat.le_of_lt hx)).trans h3⟩
theorem Cj (k:Nat)(hk:k<11)(ki:Int)(hki:ki=(k:Int))(v:Value)(ns:List Int){x:Nat}{vals:Array Value}{l:List UInt8}(w:World)(S:St w x vals l)(hL:Lst w (x+1) v ns)(hok:okI ns)(hlen:l.length+21*ns.length+40<=140737488355328) :
 Calls Tryz.prog 72 #[.pointer (some ⟨x+1,0,none⟩),.int .i64 ki,v] w fun e w'=>e=.returned (.tuple #[])∧St w' x vals (l++Ys k ns)∧Wr w w' (x+1):=by
 subst hki;exact(Yfp k hk (x+1) l v ns w S.tabs S.bd S.gb hL hok hlen).mono fun _ _ ⟨h1,h2,h3⟩=>⟨h1,S.wr h3 h2,h3⟩
theorem Lst.wr {w w':World}{b:Nat}{v:Value}{ns:List Int}(h:Lst w b v ns)(hw:Wr w w' b):Lst w' b v ns:=by
 rcases h with h | ⟨sb,so,cap,e,hR⟩
 ·exact Or.inl h
 ·exact Or.inr ⟨sb,so,cap,e,hR.wr hw⟩
theorem Lst.old {w w':World}{b b':Nat}{v:Value}{ns:List Int}(h:Lst w b v ns)(hb:Below b w w')(hlow:∀ sb so cap,v=.slice (some ⟨sb,so,none⟩) ns.length cap->ns≠[]->sb<b)(hbb:b<=b'):Lst w' b' v ns:=by
 rcases h with h | ⟨sb,so,cap,e,hR⟩
 ·exact Or.inl h
 ·cases ns with
  | nil=>exact Or.inl ⟨rfl,_,_,e⟩
  | cons n r=>have hs:=hlow sb so cap e (by simp);exact Or.inr ⟨sb,so,cap,e,⟨fun i hi=>(hb.cell (p:=⟨sb,so+i,none⟩) hs).trans (hR.cell i hi),Or.inl (by omega)⟩⟩
def Lt (r sp lk t0 t1:Int)(ag rs ss:List Int)(al sh by_:Int)(pr:Bool):List UInt8 :=
 Ys 0 [r]++(Ys 1 [sp]++(Ys 2 [lk]++(Ys 3 [t0,t1]++(Ys 4 ag++(Ys 5 rs++(Ys 6 ss++(Ys 7 [al]++(Ys 8 [sh]++(Ys 9 [by_]++(if pr then Ys 10 [] else []))))))))))
def Zt (r sp lk t0 t1:Int)(va vr vs:Value)(al sh by_:Int)(pr:Bool):Array Value :=
 #[.int .i64 r,.int .i64 sp,.int .i64 lk,.int .i64 t0,.int .i64 t1,va,vr,vs,.int .i64 al,.int .i64 sh,.int .i64 by_,.bool pr]
def Cq (n:Int):Prop:=-9223372036854775808<=n∧n<=9223372036854775807
theorem Zau {n:Int}(h:Cq n):okI [n]:=fun x hx=>by simp at hx; subst hx; exact h
theorem Yfq {n m:Int}(h:Cq n)(k:Cq m):okI [n,m]:=fun x hx=>by
 simp at hx;rcases hx with rfl | rfl
 ·exact h
 ·exact k
theorem Lh (k:Nat){ns:List Int}(h:okI ns):(Ys k ns).length<=21*ns.length+9:=by have h1:=Zmp k;have h2:=Ra k ns h;simp [Ys]; omega
theorem Ydo (r sp lk t0 t1:Int)(va vr vs:Value)(al sh by_:Int)(pr:Bool)(ag rs ss:List Int)(w:World)(hT:Sv w)
 (o0:Cq r) (o1:Cq sp) (o2:Cq lk) (o3:Cq t0) (o4:Cq t1) (o5:Cq al) (o6:Cq sh) (o7:Cq by_) (oa:okI ag) (orr:okI rs) (os:okI ss)
 (la:∀ w' b,Below w.heap.size w w'->w.heap.size<=b->Lst w' b va ag) (lr:∀ w' b,Below w.heap.size w w'->w.heap.size<=b->Lst w' b vr rs) (ls:∀ w' b,Below w.heap.size w w'->w.heap.size<=b->Lst w' b vs ss)
 (hsm:ag.length+rs.length+ss.length<=4000000) :
 Calls Tryz.prog 46 #[.agg (Zt r sp lk t0 t1 va vr vs al sh by_ pr)] w fun e w'=>e=.returned (.string ⟨(Lt r sp lk t0 t1 ag rs ss al sh by_ pr).toArray⟩)∧Below w.heap.size w w':=by
 have HT:=Zs hT;have HO:=Zs (And.intro o0 (And.intro o1 (And.intro o2 (And.intro o3 (And.intro o4 (And.intro o5 (And.intro o6 o7)))))));have HA:=Zs (And.intro oa (And.intro orr os));have HL:=Zs (And.intro la (And.intro lr ls));clear hT o0 o1 o2 o3 o4 o5 o6 o7 oa orr os la lr ls;have i0:=Lh 0 (Zau (Zf HO).1);have i1:=Lh 1 (Zau (Zf HO).2.1);have i2:=Lh 2 (Zau (Zf HO).2.2.1);have i3:=Lh 3 (Yfq (Zf HO).2.2.2.1 (Zf HO).2.2.2.2.1);have i4:=Lh 4 (Zf HA).1;have i5:=Lh 5 (Zf HA).2.1;have i6:=Lh 6 (Zf HA).2.2;have i7:=Lh 7 (Zau (Zf HO).2.2.2.2.2.1);have i8:=Lh 8 (Zau (Zf HO).2.2.2.2.2.2.1);have i9:=Lh 9 (Zau (Zf HO).2.2.2.2.2.2.2);simp only [List.length_cons,List.length_nil] at i0 i1 i2 i3 i7 i8 i9;have S0:St ((w.alloc (.cells (Zt r sp lk t0 t1 va vr vs al sh by_ pr) 25)).alloc (.cells #[.pointer none,.slice none 0 0] 184)) w.heap.size (Zt r sp lk t0 t1 va vr vs al sh by_ pr) []:=by
  refine⟨?_,?_,fun i=>?_,Zzu (Zf HT).gb (by omega)⟩
  ·exact(Zf HT).below (((Below.refl w.heap.size w).alloc (Nat.le_refl _) _).alloc (by simp) _) (Zf HT).gb
  ·have:=Bd.fresh (w.alloc (.cells (Zt r sp lk t0 t1 va vr vs al sh by_ pr) 25));simpa using this
  ·rw [World.cell?_alloc_lt _ _ ⟨w.heap.size,i,none⟩ (by simp),World.cell?_alloc_at _ _ _ _ rfl]
 have HS0:=Zs S0;clear S0;have HB0:=Zs (((Below.refl w.heap.size w).alloc (Nat.le_refl _) (.cells (Zt r sp lk t0 t1 va vr vs al sh by_ pr) 25)).alloc (by simp) (.cells #[.pointer none,.slice none 0 0] 184));unfold Zt at HS0 HB0 ⊢;go_enter Tryz.func46,Tryz.ntmps46
 go_wp2_with fail
 refine(Ou 0 (by omega) _ rfl _ [r] #[.int .i64 r] rfl 1 rfl _ (Zf HS0) (Zau (Zf HO).1) (by simp) _ (by simp)).mono ?_;rintro e w1 ⟨rfl,hS,hW⟩;have HS1:=Zs hS;have HB1:=Zs ((Zf HB0).trans (hW.low.mono (by omega)));clear hS hW;have hbx:=(Zf HS1).box;go_wp2_with fail
 clear hbx;refine(Ou 1 (by omega) _ rfl _ [sp] #[.int .i64 sp] rfl 1 rfl _ (Zf HS1) (Zau (Zf HO).2.1) (by simp; omega) _ (by simp)).mono ?_;rintro e w2 ⟨rfl,hS,hW⟩;have HS2:=Zs hS;have HB2:=Zs ((Zf HB1).trans (hW.low.mono (by omega)));clear hS hW;have hbx:=(Zf HS2).box;go_wp2_with fail
 clear hbx;refine(Ou 2 (by omega) _ rfl _ [lk] #[.int .i64 lk] rfl 1 rfl _ (Zf HS2) (Zau (Zf HO).2.2.1) (by simp; omega) _ (by simp)).mono ?_;rintro e w3 ⟨rfl,hS,hW⟩;have HS3:=Zs hS;have HB3:=Zs ((Zf HB2).trans (hW.low.mono (by omega)));clear hS hW;have hbx:=(Zf HS3).box;go_wp2_with fail
 clear hbx;refine(Ou 3 (by omega) _ rfl _ [t0,t1] #[.int .i64 t0,.int .i64 t1] rfl 2 rfl _ (Zf HS3) (Yfq (Zf HO).2.2.2.1 (Zf HO).2.2.2.2.1) (by simp; omega) _ (by simp)).mono ?_;rintro e w4 ⟨rfl,hS,hW⟩;have HS4:=Zs hS;have HB4:=Zs ((Zf HB3).trans (hW.low.mono (by omega)));clear hS hW;have hbx:=(Zf HS4).box;go_wp2_with fail
 clear hbx;refine(Cj 4 (by omega) _ rfl va ag _ (Zf HS4) ((Zf HL).1 _ _ (Zf HB4) (by omega)) ((Zf HA).1) (by simp; omega)).mono ?_;rintro e w5 ⟨rfl,hS,hW⟩;have HS5:=Zs hS;have HB5:=Zs ((Zf HB4).trans (hW.low.mono (by omega)));clear hS hW;have hbx:=(Zf HS5).box;go_wp2_with fail
 clear hbx;refine(Cj 5 (by omega) _ rfl vr rs _ (Zf HS5) ((Zf HL).2.1 _ _ (Zf HB5) (by omega)) ((Zf HA).2.1) (by simp; omega)).mono ?_;rintro e w6 ⟨rfl,hS,hW⟩;have HS6:=Zs hS;have HB6:=Zs ((Zf HB5).trans (hW.low.mono (by omega)));clear hS hW;have hbx:=(Zf HS6).box;go_wp2_with fail
 clear hbx;refine(Cj 6 (by omega) _ rfl vs ss _ (Zf HS6) ((Zf HL).2.2 _ _ (Zf HB6) (by omega)) ((Zf HA).2.2) (by simp; omega)).mono ?_;rintro e w7 ⟨rfl,hS,hW⟩;have HS7:=Zs hS;have HB7:=Zs ((Zf HB6).trans (hW.low.mono (by omega)));clear hS hW;have hbx:=(Zf HS7).box;go_wp2_with fail
 clear hbx;refine(Ou 7 (by omega) _ rfl _ [al] #[.int .i64 al] rfl 1 rfl _ (Zf HS7) (Zau (Zf HO).2.2.2.2.2.1) (by simp; omega) _ (by simp)).mono ?_;rintro e w8 ⟨rfl,hS,hW⟩;have HS8:=Zs hS;have HB8:=Zs ((Zf HB7).trans (hW.low.mono (by omega)));clear hS hW;have hbx:=(Zf HS8).box;go_wp2_with fail
 clear hbx;refine(Ou 8 (by omega) _ rfl _ [sh] #[.int .i64 sh] rfl 1 rfl _ (Zf HS8) (Zau (Zf HO).2.2.2.2.2.2.1) (by simp; omega) _ (by simp)).mono ?_;rintro e w9 ⟨rfl,hS,hW⟩;have HS9:=Zs hS;have HB9:=Zs ((Zf HB8).trans (hW.low.mono (by omega)));clear hS hW;have hbx:=(Zf HS9).box;go_wp2_with fail
 clear hbx;refine(Ou 9 (by omega) _ rfl _ [by_] #[.int .i64 by_] rfl 1 rfl _ (Zf HS9) (Zau (Zf HO).2.2.2.2.2.2.2) (by simp; omega) _ (by simp)).mono ?_;rintro e w10 ⟨rfl,hS,hW⟩;have HS10:=Zs hS;have HB10:=Zs ((Zf HB9).trans (hW.low.mono (by omega)));clear hS hW;have hbx:=(Zf HS10).box;cases pr with
 | true =>
  go_wp2_with fail
  clear hbx;refine(Cj 10 (by omega) _ rfl (.slice none 0 0) [] _ (Zf HS10) (Or.inl ⟨rfl,_,_,rfl⟩) (fun _ h=>by cases h) (by simp; omega)).mono ?_;rintro e w11 ⟨rfl,hS,hW⟩;have HS11:=Zs hS;have HB11:=Zs ((Zf HB10).trans (hW.low.mono (by omega)));clear hS hW;go_wp2_with fail
  refine(Yfn _ _ _ (Zf HS11).bd).mono ?_;rintro e w12 ⟨rfl,hW⟩;have HB12:=Zs ((Zf HB11).trans (hW.low.mono (by omega)));clear hW;go_wp2;go_ret;refine⟨?_,Zf HB12⟩;simp [Lt]
 | false =>
  go_wp2_with fail
  clear hbx;refine(Yfn _ _ _ (Zf HS10).bd).mono ?_;rintro e w12 ⟨rfl,hW⟩;have HB12:=Zs ((Zf HB10).trans (hW.low.mono (by omega)));clear hW;go_wp2;go_ret;refine⟨?_,Zf HB12⟩;simp [Lt]
theorem Zvb (p q:Nat->Bool)(i:Nat):∀ l:List Nat,i ∈ l->(∀ j,q j=true->p j=true)->p i=true->q i=false->l.countP q<l.countP p
 | [],hi,_,_,_=>by cases hi
 | x :: r,hi,hpq,hp,hq=>by
  have hm:r.countP q<=r.countP p:=List.countP_mono_left (fun j _ h=>hpq j h);by_cases hx:x=i
  ·subst hx; simp [hp,hq]; omega
  ·have hi':i ∈ r:=(List.mem_cons.1 hi).resolve_left (fun e=>hx e.symm);have ih:=Zvb p q i r hi' hpq hp hq;cases hqx:q x with
   | false=>simp [List.countP_cons,hqx]; omega
   | true=>simp [hqx,hpq x hqx]; omega
def unl (n:Nat)(L:Array Bool):Nat:=(List.range n).countP fun j=>!L.getD j true
theorem Iq {P:Program}{md:Region.Mode}{ops:Array Oper}{Q:Exit->Act->World->Prop}(I:Array Bool->Act->World->Prop)
 (step:∀ L a w i,I L a w->i ∈ Region.ready md ops L->wpOp P ops Q i (fun a' w'=>I (L.setIfInBounds i true) a' w') a w)
 (fin:∀ L a w,I L a w->Region.ready md ops L=[]->Q .normal a w) :
 ∀(fuel:Nat) (L:Array Bool) (a:Act) (w:World),unl ops.size L<=fuel->I L a w->wpAny P md ops Q fuel L a w
 | 0,L,a,w,h,hI=>by
  have hr:Region.ready md ops L=[]:=by
   apply List.eq_nil_iff_forall_not_mem.2
   intro i hi;have h1:=(mem_ready.1 hi).1;have hlt:i<ops.size:=by obtain⟨_,o,ho,_⟩:=mem_ready.1 hi;exact(Array.getElem?_eq_some_iff.1 ho).1
   have h0:unl ops.size L=0:=by omega
   unfold unl at h0;have:=List.countP_eq_zero.1 h0 i (List.mem_range.2 hlt);rw [h1] at this;simp at this
  exact⟨hr,fin L a w hI hr⟩
 | fuel+1,L,a,w,h,hI=>by
  refine⟨fin L a w hI,fun i hi=>wpOp_mono (fun a' w' h'=>Iq I step fin fuel _ a' w' ?_ h') (step L a w i hI hi)⟩;have h1:=(mem_ready.1 hi).1;have hlt:i<ops.size:=by obtain⟨_,o,ho,_⟩:=mem_ready.1 hi;exact(Array.getElem?_eq_some_iff.1 ho).1
  have hLs:i<L.size:=by
   rcases Nat.lt_or_ge i L.size with h' | h'
   ·exact h'
   ·simp [Array.getElem?_eq_none h'] at h1
  have:=Zvb (fun j=>!L.getD j true) (fun j=>!(L.setIfInBounds i true).getD j true) i (List.range ops.size) (List.mem_range.2 hlt)
   (fun j hj=>by
    by_cases hji:i=j
    ·subst hji; simp [hLs] at hj
    ·simpa [Array.getElem?_setIfInBounds,hji] using hj)
   (by simp only [h1]; rfl) (by simp [hLs])
  unfold unl at h ⊢;omega
theorem Kc (a:Act)(d:Nat)(v:Value)(h:d<a.tmps.size):(a.put (some d) v).eval (.tmp d)=v:=by simp [Act.put,Act.eval,h]
theorem Nc (a:Act)(d t:Nat)(v:Value)(h:d≠t):(a.put (some d) v).eval (.tmp t)=a.eval (.tmp t):=by simp [Act.put,Act.eval,h]
theorem Zy {P:Program}{o:Oper}{a:Act}{w w':World}{v:Value}{Q:Exit->Act->World->Prop}{F:Value->World->Prop}(h:(execOp a.eval o).run P w=.ok (.value v) w')(hF:F v w'):o.wp P a w (fun a' w'=>∃ v,a'=a.put o.dst v∧F v w') Q:=by unfold Oper.wp;rw [h];exact⟨v,rfl,hF⟩
theorem Ydr {P:Program}{o:Oper}{a:Act}{w w':World}{Q:Exit->Act->World->Prop}{F:Value->World->Prop}(h:(execOp a.eval o).run P w=.ok .skip w')(hF:F undef w'):o.wp P a w (fun a' w'=>∃ v,a'=a.put o.dst v∧F v w') Q:=by unfold Oper.wp;rw [h];exact⟨undef,rfl,hF⟩
theorem Zgn {P:Program}{o:Oper}{a:Act}{w w1:World}{f:FuncId}{args:Array Value}{Q:Exit->Act->World->Prop}{F:Value->World->Prop}(h:(execOp a.eval o).run P w=.ok (.enter f args) w1)(hF:Calls P f args w1 fun e w'=>∃ v,e=.returned v∧F v w'):o.wp P a w (fun a' w'=>∃ v,a'=a.put o.dst v∧F v w') Q:=by unfold Oper.wp;rw [h];refine hF.mono ?_;rintro e w' ⟨v,rfl,hv⟩;exact⟨v,rfl,hv⟩
theorem Zvi {P:Program}{ops:Array Oper}{Q:Exit->Act->World->Prop}{id:Nat}(hm:P.follows .mixedOrders=true)(base:Nat)(a0:Act)(Ok:Nat->Value->World->Prop)(S:World->Prop)(R:World->World->Prop)
 (hd:∀(i:Nat) (o:Oper),ops[i]?=some o->(o.dst=some (base+i)∨o.dst=none)∧o.guard=none)
 (hsz:∀(i:Nat) (o:Oper),ops[i]?=some o->o.dst=some (base+i)->base+i<a0.tmps.size)
 (hle:∀(i:Nat) (o:Oper),ops[i]?=some o->∀ e ∈ o.after,e.on<i)
 (stab:∀ i v w w',Ok i v w->R w w'->Ok i v w')
 (stabS:∀ w w',S w->R w w'->S w')
 (step:∀(i:Nat) (o:Oper),ops[i]?=some o->∀(a:Act) (w:World),S w->(∀ t,t<base->a.eval (.tmp t)=a0.eval (.tmp t))->(∀ e ∈ o.after,Region.binds .any e=true->(∃ o',ops[e.on]?=some o'∧o'.dst=some (base+e.on))->Ok e.on (a.eval (.tmp (base+e.on))) w) ->
  o.wp P a w (fun a' w'=>∃ v,a'=a.put o.dst v∧R w w'∧Ok i v w') Q)
 (fin:∀(a:Act) (w:World),S w->a.defers=a0.defers->a.tmps.size=a0.tmps.size->(∀ t,t<base∨base+ops.size<=t->a.eval (.tmp t)=a0.eval (.tmp t))->(∀(i:Nat) (o:Oper),ops[i]?=some o->o.dst=some (base+i)->Ok i (a.eval (.tmp (base+i))) w)->(∀(i:Nat) (o:Oper),ops[i]?=some o->o.dst=none->a.eval (.tmp (base+i))=a0.eval (.tmp (base+i))∧∃ v,Ok i v w)->Q .normal a w)
 {w:World} (hS:S w.drew):(Code.region id ops true).wp P Q a0 w:=by
 refine wp_region_any hm (Iq (fun L a w=>S w∧L.size=ops.size∧a.defers=a0.defers∧a.tmps.size=a0.tmps.size∧(∀ t,t<base∨base+ops.size<=t->a.eval (.tmp t)=a0.eval (.tmp t))∧(∀ i,i<ops.size->L.getD i true=true->∀ o,ops[i]?=some o->o.dst=some (base+i)->Ok i (a.eval (.tmp (base+i))) w)∧(∀(i:Nat) (o:Oper),ops[i]?=some o->o.dst=none->a.eval (.tmp (base+i))=a0.eval (.tmp (base+i))∧(L.getD i true=true->∃ v,Ok i v w))) ?_ ?_ _ _ _ _ ?_ ?_)
 ·rintro L a w i ⟨h1,h2,h3,h4,h5,h6,h7⟩ hi;obtain⟨hl,o,ho,hdeps⟩:=mem_ready.1 hi;have hlt:i<ops.size:=(Array.getElem?_eq_some_iff.1 ho).1;obtain⟨hdst,hgd⟩:=hd i o ho;have hwp:=step i o ho a w h1 (fun t ht=>h5 t (Or.inl ht)) (fun e he hb hh=>by
   obtain⟨o',ho',hdo⟩:=hh;have hel:L.getD e.on true=true:=by
    have:=hdeps e he hb;have hes:e.on<L.size:=by have:=hle i o ho e he; omega
    simpa [hes] using this
   exact h6 e.on (Nat.lt_trans (hle i o ho e he) hlt) hel o' ho' hdo)
  unfold wpOp;simp only [ho];rw [if_pos (by unfold Region.wanted; rw [hgd])];refine Or.inl ?_;refine Oper.wp_mono ?_ hwp;rintro a' w' ⟨v,rfl,hbl,hok⟩;have key:(fun a' w'=>S w'∧(L.setIfInBounds i true).size=ops.size∧a'.defers=a0.defers∧a'.tmps.size=a0.tmps.size∧(∀ t,t<base∨base+ops.size<=t->a'.eval (.tmp t)=a0.eval (.tmp t))∧(∀ j,j<ops.size->(L.setIfInBounds i true).getD j true=true->∀ o,ops[j]?=some o->o.dst=some (base+j)->Ok j (a'.eval (.tmp (base+j))) w')∧(∀(j:Nat) (o:Oper),ops[j]?=some o->o.dst=none->a'.eval (.tmp (base+j))=a0.eval (.tmp (base+j))∧((L.setIfInBounds i true).getD j true=true->∃ v,Ok j v w'))) (a.put o.dst v) w':=by
   rcases hdst with hdst | hdst
   ·simp only [hdst];refine⟨stabS _ _ h1 hbl,by simpa using h2,by simpa [Act.put] using h3,by simpa [Act.put] using h4,fun t ht=>?_,fun j hj hlj o' ho' hdo=>?_,fun j o' ho' hdo=>?_⟩
    ·rw [Nc _ _ _ _ (by omega)]; exact h5 t ht
    ·by_cases hji:j=i
     ·subst hji; rw [Kc _ _ _ (by have:=hsz j o' ho' hdo; omega)]; exact hok
     ·rw [Nc _ _ _ _ (by omega)];exact stab _ _ _ _ (h6 j hj (by simpa [Array.getElem?_setIfInBounds,Ne.symm hji] using hlj) o' ho' hdo) hbl
    ·have hji:¬ j=i:=fun e=>by subst e; rw [ho'] at ho; injection ho with ho; subst ho; rw [hdo] at hdst; cases hdst
     rw [Nc a (base+i) (base+j) v (by omega)];refine⟨(h7 j o' ho' hdo).1,fun hlj=>?_⟩;obtain⟨v',hv'⟩:=(h7 j o' ho' hdo).2 (by simpa [Array.getElem?_setIfInBounds,Ne.symm hji] using hlj);exact⟨v',stab _ _ _ _ hv' hbl⟩
   ·simp only [hdst,Act.put];refine⟨stabS _ _ h1 hbl,by simpa using h2,h3,h4,h5,fun j hj hlj o' ho' hdo=>?_,fun j o' ho' hdo=>⟨(h7 j o' ho' hdo).1,fun hlj=>?_⟩⟩
    ·have hji:¬ j=i:=fun e=>by subst e; rw [ho'] at ho; injection ho with ho; subst ho; rw [hdo] at hdst; cases hdst
     exact stab _ _ _ _ (h6 j hj (by simpa [Array.getElem?_setIfInBounds,Ne.symm hji] using hlj) o' ho' hdo) hbl
    ·by_cases hji:j=i
     ·subst hji; exact⟨v,hok⟩
     ·obtain⟨v',hv'⟩:=(h7 j o' ho' hdo).2 (by simpa [Array.getElem?_setIfInBounds,Ne.symm hji] using hlj);exact⟨v',stab _ _ _ _ hv' hbl⟩
  exact key
 ·rintro L a w ⟨h1,h2,h3,h4,h5,h6,h7⟩ hr;have all:∀ n j,j<n->j<ops.size->L.getD j true=true:=by
   intro n;induction n with
   | zero=>intro j hj; omega
   | succ n ih =>
    intro j hj hjs;cases hlj:L.getD j true with
    | true=>rfl
    | false =>
     exfalso
     have ho:ops[j]?=some ops[j]:=Array.getElem?_eq_getElem hjs;have:j ∈ Region.ready .any ops L:=mem_ready.2 ⟨hlj,ops[j],ho,fun e he _=>by
      have hlt:=hle j _ ho e he;have:=ih e.on (by omega) (by omega);have hes:e.on<L.size:=by omega
      simpa [hes] using this⟩
     rw [hr] at this;cases this
  exact fin a w h1 h3 h4 h5 (fun i o ho hdo=>h6 i (Array.getElem?_eq_some_iff.1 ho).1 (all (i+1) i (by omega) (Array.getElem?_eq_some_iff.1 ho).1) o ho hdo) (fun i o ho hdo=>⟨(h7 i o ho hdo).1,(h7 i o ho hdo).2 (all (i+1) i (by omega) (Array.getElem?_eq_some_iff.1 ho).1)⟩)
 ·unfold unl;exact Nat.le_trans List.countP_le_length (by simp)
 ·exact⟨hS,by simp,rfl,rfl,fun _ _=>rfl,fun i hi h=>by simp [hi] at h,fun i o ho _=>⟨rfl,fun h=>by simp [(Array.getElem?_eq_some_iff.1 ho).1] at h⟩⟩
theorem Yab (a a0:Act)(base:Nat)(vs:List Value)(hd:a.defers=a0.defers)(hs:a.tmps.size=a0.tmps.size)(hb:base+vs.length<=a0.tmps.size)
 (hout:∀ t,t<base∨base+vs.length<=t->a.eval (.tmp t)=a0.eval (.tmp t)) (hin:∀ i,i<vs.length->a.eval (.tmp (base+i))=vs.getD i undef) :
 a=⟨(a0.tmps.toList.take base++(vs++a0.tmps.toList.drop (base+vs.length))).toArray,a0.defers⟩:=by
 obtain⟨ts,df⟩:=a;simp only at hd hs;subst hd;congr 1
 apply Array.ext
 ·simp; omega
 ·intro t h1 h2;have hmin:min base a0.tmps.size=base:=by omega
  have e0:ts[t]=(⟨ts,a0.defers⟩:Act).eval (.tmp t):=by simp [Act.eval,h1]
  rw [e0];by_cases c1:t<base
  ·rw [hout t (Or.inl c1)];simp [Act.eval,hmin,c1,show t<a0.tmps.size by omega]
  ·by_cases c2:t<base+vs.length
   ·have:=hin (t-base) (by omega);rw [show base+(t-base)=t by omega] at this;rw [this];simp [List.getElem_append,c1,hmin,show t-base<vs.length by omega,List.getD]
   ·rw [hout t (Or.inr (by omega))];simp [Act.eval,List.getElem_append,c1,hmin,show ¬ t-base<vs.length by omega,show t<a0.tmps.size by omega];congr 1
    omega
theorem Zrk {P:Program}(w:World)(T:Nat)(t:TypeId)(cs arr:Array Value)(hsz:(sizeOf t).run P w=.ok arr.size w)(hc:cs.size=arr.size)(h:w.heap[T]?=some (.cells cs t (0,0)))(h1:∀ v ∈ arr.toList,v.oneCell'=true) :
 (Instr.storeAt t (.pointer (some ⟨T,0,none⟩)) (.agg arr)).run P w=.ok () (w.setRow T arr):=by
 have key:=run_storeCells_at (P:=P) T 0 t arr.toList 0 cs w h (by simp [hc]) h1;have e1:cs.toList.drop (0+0+arr.toList.length)=[]:=List.drop_of_length_le (by simp [hc]);rw [e1] at key;simp only [Nat.add_zero,List.take_zero,List.nil_append,List.append_nil,Array.toArray_toList] at key;have e2:(Instr.storeAt t (.pointer (some ⟨T,0,none⟩)) (.agg arr))=storeVar t ⟨T,0,none⟩ (.agg arr):=rfl;rw [e2];unfold storeVar;rw [Sem.run_bind,hsz];simp only [Result.andThen_ok,Value.cells,ne_eq,not_true_eq_false,if_false];exact key
end Go.Proofs.YtkenknfgeoecbaaGreatDoor
namespace Go.Proofs.YtkenknfgeoecbaaGreatDoor
def Xx (r:Nat):Nat :=
 if r=32∨r=9∨r=10 then 1 else if r=35 then 2 else if 97<=r∧r<=122 then 3 else if 48<=r∧r<=57 then 4 else if r=45 then 5 else if r=59 then 6 else 0
structure Tk where
 k:Nat
 a:Nat
 e:Nat
def Sg (l:List Tk)(k p:Nat):List Tk :=
 match l.getLast? with
 | some t=>if (k=3∨k=4)∧t.k=k∧t.e=p then l.dropLast++[⟨t.k,t.a,p+1⟩] else l++[⟨k,p,p+1⟩]
 | none=>l++[⟨k,p,p+1⟩]
def Lb (s:ByteArray):Nat->Nat->Bool->List Tk->Nat ⊕ List Tk
 | 0,_,_,acc=>.inr acc
 | f+1,p,c,acc =>
  if p<s.size then
   (if c then (if (Utf8.decode s p).1=65533∧(Utf8.decode s p).2=1 then .inl p else Lb s f (p+(Utf8.decode s p).2) (decide ((Utf8.decode s p).1≠10)) acc)
   else if Xx (Utf8.decode s p).1=0 then .inl p
   else if Xx (Utf8.decode s p).1=2 then Lb s f (p+(Utf8.decode s p).2) true acc
   else if Xx (Utf8.decode s p).1=1 then Lb s f (p+(Utf8.decode s p).2) false acc
   else Lb s f (p+(Utf8.decode s p).2) false (Sg acc (Xx (Utf8.decode s p).1) p))
  else .inr acc
theorem Zpg (s:ByteArray)(p:Nat):1<=(Utf8.decode s p).2:=by
 rw [Lib.decode_at];unfold Lib.decodeN;repeat' split
 all_goals simp
theorem Zfh (s:ByteArray)(p:Nat)(h:(s.get! p).toNat<128):Utf8.decode s p=((s.get! p).toNat,1):=by rw [Lib.decode_at];simp [Lib.decodeN,h]
theorem Zvm (s:ByteArray)(p:Nat)(h:128<=(s.get! p).toNat):128<=(Utf8.decode s p).1:=by
 rw [Lib.decode_at];unfold Lib.decodeN;repeat' split
 all_goals first | omega | (simp; omega)
theorem Zvn (s:ByteArray)(p:Nat):Xx (Utf8.decode s p).1=Xx (s.get! p).toNat:=by
 by_cases h:(s.get! p).toNat<128
 ·rw [Zfh s p h]
 ·have h1:=Zvm s p (by omega);generalize (Utf8.decode s p).1=r at h1;generalize (s.get! p).toNat=b at h;simp only [Xx];repeat' split
  all_goals first | rfl | (exfalso; omega)
theorem Zvo (s:ByteArray)(f p:Nat)(c:Bool)(acc:List Tk)(h:¬ p<s.size):Lb s f p c acc=.inr acc:=by cases f <;> simp [Lb,h]
theorem Zjv (l:List Tk)(k p:Nat)(h:∀ t,l.getLast?=some t->(k=3∨k=4)->t.k=k->t.e≠p):Sg l k p=l++[⟨k,p,p+1⟩]:=by
 unfold Sg;split
 ·rename_i t ht;rw [if_neg];rintro⟨h1,h2,h3⟩;exact h t ht h1 h2 h3
 ·rfl
end Go.Proofs.YtkenknfgeoecbaaGreatDoor
namespace Go.Proofs.YtkenknfgeoecbaaGreatDoor
open Go.RowKit
set_option maxHeartbeats 1000000
theorem Zvg (r:Nat)(w:World)(hr:r<2147483648) :
 Calls Tryz.prog 108 #[.int .i32 r] w fun e w'=>e=.returned (.int .i64 (Xx r))∧w'=w:=by
 by_cases h1:r=32∨r=9∨r=10
 ·rcases h1 with rfl | rfl | rfl;all_goals
   go_enter Tryz.func108,Tryz.ntmps108
   go_wp2;go_ret;exact⟨rfl,rfl⟩
 ·go_enter Tryz.func108,Tryz.ntmps108
  go_wp2;all_goals go_ret
  all_goals refine⟨?_,rfl⟩
  all_goals simp only [Xx]
  all_goals repeat' split
  all_goals first | rfl | (exfalso; omega) | (exfalso; simp only [beq_iff_eq] at *; omega) | (exfalso; simp at *; omega)
set_option maxHeartbeats 2000000
set_option maxRecDepth 100000
theorem Ze {p:Prop}(h:p):Hid p:=h
theorem Zb {p:Prop}(h:Hid p):p:=h
theorem Xt {P:Program}{t:TypeId}{z:Value}{n b:Nat}(h:(P.info? t).map (fun i=>(i.zero,i.size,i.bytes))=some (some z,n,b)):∃ i,P.info? t=some i∧i.zero=some z∧i.size=n∧i.bytes=b:=by obtain⟨i,hi,e⟩:=Option.map_eq_some_iff.1 h;simp only [Prod.mk.injEq] at e;exact⟨i,hi,e.1,e.2.1,e.2.2⟩
theorem Tryz.infoPc:(Tryz.prog.info? 246).map (fun i=>(i.zero,i.size,i.bytes))=some (some (.agg #[.int .i64 0,.int .i64 0,.int .i64 0]),3,24):=by kernel_rfl
def Xf (l:List Tk):List Value:=l.flatMap fun t=>[.int .i64 t.k,.int .i64 t.a,.int .i64 t.e]
theorem Nx (l:List Tk)(t:Tk):Xf (l++[t])=Xf l++[.int .i64 t.k,.int .i64 t.a,.int .i64 t.e]:=by simp [Xf]
theorem Lu:∀(l:List Tk),(Xf l).length=l.length*3
 | []=>rfl
 | t :: r=>by have:=Lu r; simp only [Xf,List.flatMap_cons,List.length_append,List.length_cons,List.length_nil] at this ⊢; omega
def Yt (w:World)(base:Nat)(v:Value)(l:List Tk):Prop:=w.ownsRow base 246 3 v l.length (Xf l)
theorem Yy {w w':World}{base:Nat}{row:Option Nat}(h:w.grownBy w' row)(hr:∀ k,row=some k->base<=k)(hb:base<=w.heap.size):Below base w w' :=
 ⟨h.os,h.tape,h.output,h.size,fun i hi=>h.block i (by omega) (fun e=>by have:=hr i e.symm; omega)⟩
theorem Yt.shape {w:World}{base:Nat}{v:Value}{l:List Tk}(h:Yt w base v l):(l=[]∧v=.slice none 0 0)∨∃ g cap,v=.slice (some ⟨g,0,none⟩) l.length cap:=by
 rcases h.2 with⟨h1,h2⟩ | ⟨g,cap,cur,h1,-⟩
 ·exact Or.inl ⟨List.eq_nil_of_length_eq_zero h2,h1⟩
 ·exact Or.inr ⟨g,cap,h1⟩
theorem Zjh (w:World)(k p q:Int):∀ j u,([.int .i64 k,.int .i64 p,.int .i64 q]:List Value)[j]?=some u->(w.alloc (.cells #[.int .i64 k,.int .i64 p,.int .i64 q] 246)).cell? ((⟨w.heap.size,0,none⟩:Addr).add j)=some u:=by
 intro j u hj;match j,hj with
 | 0,hj=>simp at hj; subst hj; simp [Addr.add]
 | 1,hj=>simp at hj; subst hj; simp [Addr.add]
 | 2,hj=>simp at hj; subst hj; simp [Addr.add]
theorem Zpb {w:World}{base g cap:Nat}{l:List Tk}{t:Tk}(h:Yt w base (.slice (some ⟨g,0,none⟩) (l.length+1) cap) (l++[t]))(j:Nat)(hj:j<3):w.cell? ⟨g,l.length*3+j,none⟩=([.int .i64 t.k,.int .i64 t.a,.int .i64 t.e]:List Value)[j]?:=by
 have h':w.ownsRow base 246 3 (.slice (some ⟨g,0,none⟩) (l.length+1) cap) (l.length+1) (Xf (l++[t])):=by simpa [Yt] using h
 rw [h'.cellAt (l.length*3+j) (by omega),Nx,List.getElem?_append_right (by rw [Lu]; omega),Lu,Nat.add_sub_cancel_left]
theorem Ir {w:World}{base g cap:Nat}{l:List Tk}{t:Tk}(h:Yt w base (.slice (some ⟨g,0,none⟩) (l.length+1) cap) (l++[t])):w.cell? ⟨g,l.length*3,none⟩=some (.int .i64 t.k):=Zpb h 0 (by omega)
theorem Iu {w:World}{base g cap:Nat}{l:List Tk}{t:Tk}(h:Yt w base (.slice (some ⟨g,0,none⟩) (l.length+1) cap) (l++[t])):w.cell? ⟨g,l.length*3+2,none⟩=some (.int .i64 t.e):=Zpb h 2 (by omega)
theorem Yt.frozenAt' {w:World}{base g cap:Nat}{l:List Tk}{t:Tk}(h:Yt w base (.slice (some ⟨g,0,none⟩) (l.length+1) cap) (l++[t]))(j:Nat):w.frozen? ⟨g,j,none⟩=false:=by
 have h':w.ownsRow base 246 3 (.slice (some ⟨g,0,none⟩) (l.length+1) cap) (l.length+1) (Xf (l++[t])):=by simpa [Yt] using h
 exact h'.frozenAt j
theorem Zji {w:World}{base g cap:Nat}{l:List Tk}{t:Tk}(h:Yt w base (.slice (some ⟨g,0,none⟩) (l.length+1) cap) (l++[t]))(q:Nat):Yt (w.setCell ⟨g,l.length*3+2,none⟩ (.int .i64 q)) base (.slice (some ⟨g,0,none⟩) (l.length+1) cap) (l++[⟨t.k,t.a,q⟩]):=by
 have h':w.ownsRow base 246 3 (.slice (some ⟨g,0,none⟩) (l.length+1) cap) (l.length+1) (Xf (l++[t])):=by simpa [Yt] using h
 have h2:=(h'.stored (l.length*3+2) (.int .i64 q)).1;have e:(Xf (l++[t])).set (l.length*3+2) (.int .i64 q)=Xf (l++[⟨t.k,t.a,q⟩]):=by rw [Nx,Nx,List.set_append_right _ _ (by rw [Lu]; omega),Lu,Nat.add_sub_cancel_left];rfl
 rw [e] at h2;simpa [Yt] using h2
theorem Zcy {w:World}{base g cap:Nat}{l:List Tk}{t:Tk}(h:Yt w base (.slice (some ⟨g,0,none⟩) (l.length+1) cap) (l++[t]))(q:Nat)(hb:base<=w.heap.size):Below base w (w.setCell ⟨g,l.length*3+2,none⟩ (.int .i64 q)):=by
 have h':w.ownsRow base 246 3 (.slice (some ⟨g,0,none⟩) (l.length+1) cap) (l.length+1) (Xf (l++[t])):=by simpa [Yt] using h
 exact Yy (h'.stored (l.length*3+2) (.int .i64 q)).2 (fun k hk=>by have:=h'.lt g rfl; simp at hk; omega) hb
theorem Nd {w:World}{base:Nat}{v:Value}{l:List Tk}{k p n:Nat}(hn:l.length=n)(h:w.ownsRow base 246 3 v (n+1) (Xf l++[.int .i64 k,.int .i64 p,.int .i64 (p+1)])):Yt w base v (l++[⟨k,p,p+1⟩]):=by unfold Yt;rw [Nx];simpa [hn] using h
theorem Zgj (base:Nat)(a:Option Addr)(cap p:Nat)(w:World)(h:Yt w base (.slice a 0 cap) [])(hp:p<=400)(hb:base<=w.heap.size) :
 Calls Tryz.prog 109 #[.slice a 0 cap,.int .i64 3,.int .i64 p] w fun e w'=>∃ v',e=.returned v'∧Yt w' base v' [⟨3,p,p+1⟩]∧Below base w w':=by
 obtain⟨i0,hi,hz0,hz1,hz2⟩:=Xt Tryz.infoPc;have HH:=Ze h;clear h;go_enter Tryz.func109,Tryz.ntmps109
 go_wp2_with (at_builtin; refine wpList_append_own _ rfl _ _ 173 rfl base 246 i0 _ 3 24 Tryz.underlying173 hi hz0 hz1 hz2 rfl (by decide) _ _ _ rfl ((Zb HH).alloc _) ⟨w.heap.size,0,none⟩ 1 1 [.int .i64 3,.int .i64 p,.int .i64 (p+1)] rfl rfl (Zjh w 3 p (p+1)) (by intro u hu; simp at hu; rcases hu with rfl | rfl | rfl <;> rfl) ?c3 ?c4 ?c5 ?_)
 case c3=>first | (simp [maxLen]; done) | (unfold maxLen; omega) | (unfold maxLen; simp only [List.length_append,List.length_cons,List.length_nil]; omega)
 case c4=>first | (simp; done) | omega | (simp only [List.length_append,List.length_cons,List.length_nil]; omega)
 case c5=>simp; omega
 intro v' w' hown hgr _;have HR:=Ze (Nd (l:=[]) (k:=3) (p:=p) (by first | rfl | exact hn | exact hln) hown);have HG:=Ze (((Below.refl base w).alloc hb _).trans (Yy hgr (fun j hj=>((Zb HH).lt j hj).1) (by simp; omega):Below base _ w'));clear hown hgr;go_wp2;go_ret;exact⟨_,rfl,Zb HR,Zb HG⟩
theorem Zgk (base:Nat)(a:Option Addr)(cap p:Nat)(w:World)(h:Yt w base (.slice a 0 cap) [])(hp:p<=400)(hb:base<=w.heap.size) :
 Calls Tryz.prog 109 #[.slice a 0 cap,.int .i64 4,.int .i64 p] w fun e w'=>∃ v',e=.returned v'∧Yt w' base v' [⟨4,p,p+1⟩]∧Below base w w':=by
 obtain⟨i0,hi,hz0,hz1,hz2⟩:=Xt Tryz.infoPc;have HH:=Ze h;clear h;go_enter Tryz.func109,Tryz.ntmps109
 go_wp2_with (at_builtin; refine wpList_append_own _ rfl _ _ 173 rfl base 246 i0 _ 3 24 Tryz.underlying173 hi hz0 hz1 hz2 rfl (by decide) _ _ _ rfl ((Zb HH).alloc _) ⟨w.heap.size,0,none⟩ 1 1 [.int .i64 4,.int .i64 p,.int .i64 (p+1)] rfl rfl (Zjh w 4 p (p+1)) (by intro u hu; simp at hu; rcases hu with rfl | rfl | rfl <;> rfl) ?c3 ?c4 ?c5 ?_)
 case c3=>first | (simp [maxLen]; done) | (unfold maxLen; omega) | (unfold maxLen; simp only [List.length_append,List.length_cons,List.length_nil]; omega)
 case c4=>first | (simp; done) | omega | (simp only [List.length_append,List.length_cons,List.length_nil]; omega)
 case c5=>simp; omega
 intro v' w' hown hgr _;have HR:=Ze (Nd (l:=[]) (k:=4) (p:=p) (by first | rfl | exact hn | exact hln) hown);have HG:=Ze (((Below.refl base w).alloc hb _).trans (Yy hgr (fun j hj=>((Zb HH).lt j hj).1) (by simp; omega):Below base _ w'));clear hown hgr;go_wp2;go_ret;exact⟨_,rfl,Zb HR,Zb HG⟩
theorem Zmq (base g cap p:Nat)(l:List Tk)(t:Tk)(w:World)(h:Yt w base (.slice (some ⟨g,0,none⟩) (l.length+1) cap) (l++[t]))(hl:l.length<=400)(hp:p<=400)(hb:base<=w.heap.size)(hk:(t.k:Int)≠3) :
 Calls Tryz.prog 109 #[.slice (some ⟨g,0,none⟩) (l.length+1) cap,.int .i64 3,.int .i64 p] w fun e w'=>∃ v',e=.returned v'∧Yt w' base v' (l++[t]++[⟨3,p,p+1⟩])∧Below base w w':=by
 obtain⟨i0,hi,hz0,hz1,hz2⟩:=Xt Tryz.infoPc;have ck:=Ir h;have ce:=Iu h;have hln:(l++[t]).length=l.length+1:=by simp
 have HH:=Ze h;clear h;generalize t.e=te at *;generalize hn:l.length=n at *;go_enter Tryz.func109,Tryz.ntmps109
 go_wp2_with (at_builtin; refine wpList_append_own _ rfl _ _ 173 rfl base 246 i0 _ 3 24 Tryz.underlying173 hi hz0 hz1 hz2 rfl (by decide) _ _ _ rfl ((Zb HH).alloc _) ⟨w.heap.size,0,none⟩ 1 1 [.int .i64 3,.int .i64 p,.int .i64 (p+1)] rfl rfl (Zjh w 3 p (p+1)) (by intro u hu; simp at hu; rcases hu with rfl | rfl | rfl <;> rfl) ?c3 ?c4 ?c5 ?_)
 case c3=>first | (simp [maxLen]; done) | (unfold maxLen; omega) | (unfold maxLen; simp only [List.length_append,List.length_cons,List.length_nil]; omega)
 case c4=>first | (simp; done) | omega | (simp only [List.length_append,List.length_cons,List.length_nil]; omega)
 case c5=>simp; omega
 intro v' w' hown hgr _;have HR:=Ze (Nd (l:=l++[t]) (k:=3) (p:=p) (by first | rfl | exact hn | exact hln) hown);have HG:=Ze (((Below.refl base w).alloc hb _).trans (Yy hgr (fun j hj=>((Zb HH).lt j hj).1) (by simp; omega):Below base _ w'));clear hown hgr;go_wp2;go_ret;exact⟨_,rfl,Zb HR,Zb HG⟩
theorem Zmr (base g cap p:Nat)(l:List Tk)(t:Tk)(w:World)(h:Yt w base (.slice (some ⟨g,0,none⟩) (l.length+1) cap) (l++[t]))(hl:l.length<=400)(hp:p<=400)(hb:base<=w.heap.size)(hk:t.k=3)(he:(t.e:Int)≠p) :
 Calls Tryz.prog 109 #[.slice (some ⟨g,0,none⟩) (l.length+1) cap,.int .i64 3,.int .i64 p] w fun e w'=>∃ v',e=.returned v'∧Yt w' base v' (l++[t]++[⟨3,p,p+1⟩])∧Below base w w':=by
 obtain⟨i0,hi,hz0,hz1,hz2⟩:=Xt Tryz.infoPc;have ck:=Ir h;have ce:=Iu h;have hln:(l++[t]).length=l.length+1:=by simp
 have HH:=Ze h;clear h;rw [hk] at ck;generalize t.e=te at *;generalize hn:l.length=n at *;go_enter Tryz.func109,Tryz.ntmps109
 go_wp2_with (at_builtin; refine wpList_append_own _ rfl _ _ 173 rfl base 246 i0 _ 3 24 Tryz.underlying173 hi hz0 hz1 hz2 rfl (by decide) _ _ _ rfl ((Zb HH).alloc _) ⟨w.heap.size,0,none⟩ 1 1 [.int .i64 3,.int .i64 p,.int .i64 (p+1)] rfl rfl (Zjh w 3 p (p+1)) (by intro u hu; simp at hu; rcases hu with rfl | rfl | rfl <;> rfl) ?c3 ?c4 ?c5 ?_)
 case c3=>first | (simp [maxLen]; done) | (unfold maxLen; omega) | (unfold maxLen; simp only [List.length_append,List.length_cons,List.length_nil]; omega)
 case c4=>first | (simp; done) | omega | (simp only [List.length_append,List.length_cons,List.length_nil]; omega)
 case c5=>simp; omega
 intro v' w' hown hgr _;have HR:=Ze (Nd (l:=l++[t]) (k:=3) (p:=p) (by first | rfl | exact hn | exact hln) hown);have HG:=Ze (((Below.refl base w).alloc hb _).trans (Yy hgr (fun j hj=>((Zb HH).lt j hj).1) (by simp; omega):Below base _ w'));clear hown hgr;go_wp2;go_ret;exact⟨_,rfl,Zb HR,Zb HG⟩
theorem Zjj (base g cap p:Nat)(l:List Tk)(t:Tk)(w:World)(h:Yt w base (.slice (some ⟨g,0,none⟩) (l.length+1) cap) (l++[t]))(hl:l.length<=400)(hp:p<=400)(hb:base<=w.heap.size)(hk:t.k=3)(he:t.e=p) :
 Calls Tryz.prog 109 #[.slice (some ⟨g,0,none⟩) (l.length+1) cap,.int .i64 3,.int .i64 p] w fun e w'=>∃ v',e=.returned v'∧Yt w' base v' (l++[⟨t.k,t.a,p+1⟩])∧Below base w w':=by
 have ck:=Ir h;have ce:=Iu h;have hfz:=h.frozenAt' (l.length*3+2);have HR:=Ze (Zji h (p+1));have HG:=Ze (Zcy h (p+1) hb);clear h;rw [hk] at ck;rw [he] at ce;generalize hn:l.length=n at *;go_enter Tryz.func109,Tryz.ntmps109
 go_wp2;go_ret;exact⟨_,rfl,Zb HR,Zb HG⟩
theorem Zms (base g cap p:Nat)(l:List Tk)(t:Tk)(w:World)(h:Yt w base (.slice (some ⟨g,0,none⟩) (l.length+1) cap) (l++[t]))(hl:l.length<=400)(hp:p<=400)(hb:base<=w.heap.size)(hk:(t.k:Int)≠4) :
 Calls Tryz.prog 109 #[.slice (some ⟨g,0,none⟩) (l.length+1) cap,.int .i64 4,.int .i64 p] w fun e w'=>∃ v',e=.returned v'∧Yt w' base v' (l++[t]++[⟨4,p,p+1⟩])∧Below base w w':=by
 obtain⟨i0,hi,hz0,hz1,hz2⟩:=Xt Tryz.infoPc;have ck:=Ir h;have ce:=Iu h;have hln:(l++[t]).length=l.length+1:=by simp
 have HH:=Ze h;clear h;generalize t.e=te at *;generalize hn:l.length=n at *;go_enter Tryz.func109,Tryz.ntmps109
 go_wp2_with (at_builtin; refine wpList_append_own _ rfl _ _ 173 rfl base 246 i0 _ 3 24 Tryz.underlying173 hi hz0 hz1 hz2 rfl (by decide) _ _ _ rfl ((Zb HH).alloc _) ⟨w.heap.size,0,none⟩ 1 1 [.int .i64 4,.int .i64 p,.int .i64 (p+1)] rfl rfl (Zjh w 4 p (p+1)) (by intro u hu; simp at hu; rcases hu with rfl | rfl | rfl <;> rfl) ?c3 ?c4 ?c5 ?_)
 case c3=>first | (simp [maxLen]; done) | (unfold maxLen; omega) | (unfold maxLen; simp only [List.length_append,List.length_cons,List.length_nil]; omega)
 case c4=>first | (simp; done) | omega | (simp only [List.length_append,List.length_cons,List.length_nil]; omega)
 case c5=>simp; omega
 intro v' w' hown hgr _;have HR:=Ze (Nd (l:=l++[t]) (k:=4) (p:=p) (by first | rfl | exact hn | exact hln) hown);have HG:=Ze (((Below.refl base w).alloc hb _).trans (Yy hgr (fun j hj=>((Zb HH).lt j hj).1) (by simp; omega):Below base _ w'));clear hown hgr;go_wp2;go_ret;exact⟨_,rfl,Zb HR,Zb HG⟩
theorem Zmt (base g cap p:Nat)(l:List Tk)(t:Tk)(w:World)(h:Yt w base (.slice (some ⟨g,0,none⟩) (l.length+1) cap) (l++[t]))(hl:l.length<=400)(hp:p<=400)(hb:base<=w.heap.size)(hk:t.k=4)(he:(t.e:Int)≠p) :
 Calls Tryz.prog 109 #[.slice (some ⟨g,0,none⟩) (l.length+1) cap,.int .i64 4,.int .i64 p] w fun e w'=>∃ v',e=.returned v'∧Yt w' base v' (l++[t]++[⟨4,p,p+1⟩])∧Below base w w':=by
 obtain⟨i0,hi,hz0,hz1,hz2⟩:=Xt Tryz.infoPc;have ck:=Ir h;have ce:=Iu h;have hln:(l++[t]).length=l.length+1:=by simp
 have HH:=Ze h;clear h;rw [hk] at ck;generalize t.e=te at *;generalize hn:l.length=n at *;go_enter Tryz.func109,Tryz.ntmps109
 go_wp2_with (at_builtin; refine wpList_append_own _ rfl _ _ 173 rfl base 246 i0 _ 3 24 Tryz.underlying173 hi hz0 hz1 hz2 rfl (by decide) _ _ _ rfl ((Zb HH).alloc _) ⟨w.heap.size,0,none⟩ 1 1 [.int .i64 4,.int .i64 p,.int .i64 (p+1)] rfl rfl (Zjh w 4 p (p+1)) (by intro u hu; simp at hu; rcases hu with rfl | rfl | rfl <;> rfl) ?c3 ?c4 ?c5 ?_)
 case c3=>first | (simp [maxLen]; done) | (unfold maxLen; omega) | (unfold maxLen; simp only [List.length_append,List.length_cons,List.length_nil]; omega)
 case c4=>first | (simp; done) | omega | (simp only [List.length_append,List.length_cons,List.length_nil]; omega)
 case c5=>simp; omega
 intro v' w' hown hgr _;have HR:=Ze (Nd (l:=l++[t]) (k:=4) (p:=p) (by first | rfl | exact hn | exact hln) hown);have HG:=Ze (((Below.refl base w).alloc hb _).trans (Yy hgr (fun j hj=>((Zb HH).lt j hj).1) (by simp; omega):Below base _ w'));clear hown hgr;go_wp2;go_ret;exact⟨_,rfl,Zb HR,Zb HG⟩
theorem Zjk (base g cap p:Nat)(l:List Tk)(t:Tk)(w:World)(h:Yt w base (.slice (some ⟨g,0,none⟩) (l.length+1) cap) (l++[t]))(hl:l.length<=400)(hp:p<=400)(hb:base<=w.heap.size)(hk:t.k=4)(he:t.e=p) :
 Calls Tryz.prog 109 #[.slice (some ⟨g,0,none⟩) (l.length+1) cap,.int .i64 4,.int .i64 p] w fun e w'=>∃ v',e=.returned v'∧Yt w' base v' (l++[⟨t.k,t.a,p+1⟩])∧Below base w w':=by
 have ck:=Ir h;have ce:=Iu h;have hfz:=h.frozenAt' (l.length*3+2);have HR:=Ze (Zji h (p+1));have HG:=Ze (Zcy h (p+1) hb);clear h;rw [hk] at ck;rw [he] at ce;generalize hn:l.length=n at *;go_enter Tryz.func109,Tryz.ntmps109
 go_wp2;go_ret;exact⟨_,rfl,Zb HR,Zb HG⟩
theorem Zgl (base n cap p:Nat)(a:Option Addr)(l:List Tk)(w:World)(h:Yt w base (.slice a n cap) l)(hn:l.length=n)(hl:n<=401)(hp:p<=400)(hb:base<=w.heap.size) :
 Calls Tryz.prog 109 #[.slice a n cap,.int .i64 5,.int .i64 p] w fun e w'=>∃ v',e=.returned v'∧Yt w' base v' (l++[⟨5,p,p+1⟩])∧Below base w w':=by
 obtain⟨i0,hi,hz0,hz1,hz2⟩:=Xt Tryz.infoPc;have HH:=Ze h;clear h;go_enter Tryz.func109,Tryz.ntmps109
 go_wp2_with (at_builtin; refine wpList_append_own _ rfl _ _ 173 rfl base 246 i0 _ 3 24 Tryz.underlying173 hi hz0 hz1 hz2 rfl (by decide) _ _ _ rfl ((Zb HH).alloc _) ⟨w.heap.size,0,none⟩ 1 1 [.int .i64 5,.int .i64 p,.int .i64 (p+1)] rfl rfl (Zjh w 5 p (p+1)) (by intro u hu; simp at hu; rcases hu with rfl | rfl | rfl <;> rfl) ?c3 ?c4 ?c5 ?_)
 case c3=>first | (simp [maxLen]; done) | (unfold maxLen; omega) | (unfold maxLen; simp only [List.length_append,List.length_cons,List.length_nil]; omega)
 case c4=>first | (simp; done) | omega | (simp only [List.length_append,List.length_cons,List.length_nil]; omega)
 case c5=>simp; omega
 intro v' w' hown hgr _;have HR:=Ze (Nd (l:=l) (k:=5) (p:=p) (by first | rfl | exact hn | exact hln) hown);have HG:=Ze (((Below.refl base w).alloc hb _).trans (Yy hgr (fun j hj=>((Zb HH).lt j hj).1) (by simp; omega):Below base _ w'));clear hown hgr;go_wp2;go_ret;exact⟨_,rfl,Zb HR,Zb HG⟩
theorem Zgm (base n cap p:Nat)(a:Option Addr)(l:List Tk)(w:World)(h:Yt w base (.slice a n cap) l)(hn:l.length=n)(hl:n<=401)(hp:p<=400)(hb:base<=w.heap.size) :
 Calls Tryz.prog 109 #[.slice a n cap,.int .i64 6,.int .i64 p] w fun e w'=>∃ v',e=.returned v'∧Yt w' base v' (l++[⟨6,p,p+1⟩])∧Below base w w':=by
 obtain⟨i0,hi,hz0,hz1,hz2⟩:=Xt Tryz.infoPc;have HH:=Ze h;clear h;go_enter Tryz.func109,Tryz.ntmps109
 go_wp2_with (at_builtin; refine wpList_append_own _ rfl _ _ 173 rfl base 246 i0 _ 3 24 Tryz.underlying173 hi hz0 hz1 hz2 rfl (by decide) _ _ _ rfl ((Zb HH).alloc _) ⟨w.heap.size,0,none⟩ 1 1 [.int .i64 6,.int .i64 p,.int .i64 (p+1)] rfl rfl (Zjh w 6 p (p+1)) (by intro u hu; simp at hu; rcases hu with rfl | rfl | rfl <;> rfl) ?c3 ?c4 ?c5 ?_)
 case c3=>first | (simp [maxLen]; done) | (unfold maxLen; omega) | (unfold maxLen; simp only [List.length_append,List.length_cons,List.length_nil]; omega)
 case c4=>first | (simp; done) | omega | (simp only [List.length_append,List.length_cons,List.length_nil]; omega)
 case c5=>simp; omega
 intro v' w' hown hgr _;have HR:=Ze (Nd (l:=l) (k:=6) (p:=p) (by first | rfl | exact hn | exact hln) hown);have HG:=Ze (((Below.refl base w).alloc hb _).trans (Yy hgr (fun j hj=>((Zb HH).lt j hj).1) (by simp; omega):Below base _ w'));clear hown hgr;go_wp2;go_ret;exact⟨_,rfl,Zb HR,Zb HG⟩
set_option maxHeartbeats 1000000
set_option maxRecDepth 100000
theorem Zpc {α:Type}:∀(l:List α),l=[]∨∃ l0 t,l=l0++[t]
 | []=>Or.inl rfl
 | a :: r=>Or.inr ⟨(a :: r).dropLast,(a :: r).getLast (by simp),(List.dropLast_concat_getLast (by simp)).symm⟩
theorem Zrh (base:Nat)(l:List Tk)(v:Value)(k p:Nat)(w:World)(h:Yt w base v l)(hl:l.length<=400)(hp:p<=400)(hb:base<=w.heap.size)(hk:3<=k∧k<=6) :
 Calls Tryz.prog 109 #[v,.int .i64 k,.int .i64 p] w fun e w'=>∃ v',e=.returned v'∧Yt w' base v' (Sg l k p)∧Below base w w':=by
 by_cases h56:k=5∨k=6
 ·have hs:∃ a cap,v=.slice a l.length cap:=by
   rcases h.shape with⟨e,rfl⟩ | ⟨g,cap,rfl⟩
   ·subst e; exact⟨_,_,rfl⟩
   ·exact⟨_,_,rfl⟩
  obtain⟨a,cap,rfl⟩:=hs;have e:Sg l k p=l++[⟨k,p,p+1⟩]:=Zjv l k p (fun t _ h3=>by omega);rw [e];rcases h56 with rfl | rfl
  ·exact Zgl base _ cap p a l w h rfl (by omega) hp hb
  ·exact Zgm base _ cap p a l w h rfl (by omega) hp hb
 have h34:k=3∨k=4:=by omega
 rcases Zpc l with rfl | ⟨l0,t,rfl⟩
 ·have hs:∃ a cap,v=.slice a 0 cap:=by
   rcases h.shape with⟨e,rfl⟩ | ⟨g,cap,rfl⟩
   ·exact⟨_,_,rfl⟩
   ·exact⟨_,_,rfl⟩
  obtain⟨a,cap,rfl⟩:=hs;rcases h34 with rfl | rfl
  ·exact Zgj base a cap p w h hp hb
  ·exact Zgk base a cap p w h hp hb
 ·obtain⟨g,cap,rfl⟩:∃ g cap,v=.slice (some ⟨g,0,none⟩) (l0.length+1) cap:=by
   rcases h.shape with⟨e,_⟩ | ⟨g,cap,e⟩
   ·simp at e
   ·exact⟨g,cap,by simpa using e⟩
  have hl0:l0.length<=400:=by simp at hl; omega
  by_cases c1:t.k=k
  ·by_cases c2:t.e=p
   ·have e:Sg (l0++[t]) k p=l0++[⟨t.k,t.a,p+1⟩]:=by simp [Sg,c1,c2,h34]
    rw [e];rcases h34 with rfl | rfl
    ·exact Zjj base g cap p l0 t w h hl0 hp hb c1 c2
    ·exact Zjk base g cap p l0 t w h hl0 hp hb c1 c2
   ·have e:Sg (l0++[t]) k p=l0++[t]++[⟨k,p,p+1⟩]:=by simp [Sg,c2]
    rw [e];rcases h34 with rfl | rfl
    ·exact Zmr base g cap p l0 t w h hl0 hp hb c1 (by omega)
    ·exact Zmt base g cap p l0 t w h hl0 hp hb c1 (by omega)
  ·have e:Sg (l0++[t]) k p=l0++[t]++[⟨k,p,p+1⟩]:=by simp [Sg,c1]
   rw [e];rcases h34 with rfl | rfl
   ·exact Zmq base g cap p l0 t w h hl0 hp hb (by omega)
   ·exact Zms base g cap p l0 t w h hl0 hp hb (by omega)
theorem Zjl (l:List Tk)(k p:Nat):(Sg l k p).length<=l.length+1:=by
 unfold Sg;split
 ·split
  ·simp
  ·simp
 ·simp
theorem Zvd (s:ByteArray)(i:Nat)(h:s.size<=i):s.get! i=0:=by obtain⟨d⟩:=s;have h':d.size<=i:=h;simp [ByteArray.get!,show ¬ i<d.size by omega];rfl
theorem Zjm (s:ByteArray)(p k:Nat)(hp:p<=s.size):(s.extract p s.size).get! k=s.get! (p+k):=by
 by_cases h:p+k<s.size
 ·rw [Utf8W.get!_of_lt _ _ (by simp; omega),Utf8W.get!_of_lt _ _ h];simp [ByteArray.getElem_extract]
 ·have h1:¬ k<(s.extract p s.size).size:=by simp; omega
  have e1:=Zvd (s.extract p s.size) k (by omega);have e2:=Zvd s (p+k) (by omega);rw [e1,e2]
theorem Zjn (s:ByteArray)(p:Nat)(hp:p<s.size):Lib.decodeGo (s.extract p s.size)=Utf8.decode s p:=by unfold Lib.decodeGo;rw [if_neg (by simp; omega),Lib.decode_at,Lib.decode_at];simp only [Zjm s p _ (by omega)];simp
theorem Zve (s:ByteArray)(w:World)(hs:0<s.size)(hT:Lib.Utf8Tabs 3 4 w) :
 Calls Tryz.prog 157 #[.string s] w fun e w'=>e=.returned (.tuple #[.int .i32 (Lib.decodeGo s).1,.int .i64 (Lib.decodeGo s).2])∧Below w.heap.size w w':=by
 have HC:=Ze (Tryz.utf8_decodeRuneInStringSlow s w hT);clear hT;have hne:s.toList.isEmpty=false:=by
  rw [Lib.toList_data];cases h:s.data.toList with
  | nil=>exact absurd hs (by rw [Lib.size_eq,h]; simp)
  | cons _ _=>rfl
 obtain⟨x0,hx0⟩:∃ x0,s.get! 0=x0:=⟨_,rfl⟩;have hs0:s[0]'hs=x0:=by rw [← hx0]; exact(Utf8W.get!_of_lt s 0 hs).symm
 have hz0:(0:Int)<(s.size:Int):=by omega
 by_cases ha:x0.toNat<128
 ·have hd:Lib.decodeGo s=(x0.toNat,1):=by simp only [Lib.decodeGo,show s.size≠0 by omega,if_false];rw [Lib.decode_at,hx0];simp [Lib.decodeN,ha]
  rw [hd];clear HC;have haz:(x0.toNat:Int)<128:=by omega
  go_enter Tryz.func157,Tryz.ntmps157
  go_wp2;go_ret2;exact⟨rfl,Below.refl _ _⟩
 ·have haz:¬ ((x0.toNat:Int)<128):=by omega
  generalize (Lib.decodeGo s).1=R at HC;generalize (Lib.decodeGo s).2=K at HC;go_enter Tryz.func157,Tryz.ntmps157
  go_wp2_with fail
  refine(Zb HC).mono ?_;rintro e w' ⟨rfl,hb⟩;have HB:=Ze hb;clear hb;go_wp2;go_ret2;exact⟨rfl,Zb HB⟩
theorem Zmu (s:ByteArray)(r:Nat)(w:World)(hs:0<s.size)(hT:Lib.Utf8Tabs 3 4 w) :
 Calls Tryz.prog 107 #[.string s,.int .i32 r] w fun e w'=>e=.returned (.bool (decide (r=65533∧(Lib.decodeGo s).2=1)))∧Below w.heap.size w w':=by
 by_cases h:r=65533
 ·have HC:=Ze (Zve s w hs hT);clear hT;subst h;go_enter Tryz.func107,Tryz.ntmps107
  go_wp2_with fail
  refine(Zb HC).mono ?_;rintro e w' ⟨rfl,hb⟩;have HB:=Ze hb;clear hb;go_wp2;go_ret;refine⟨?_,Zb HB⟩;simp
  first | done | omega | (rw [Bool.eq_iff_iff]; simp; omega)
 ·have h':(r:Int)≠65533:=by omega
  go_enter Tryz.func107,Tryz.ntmps107
  go_wp2;go_ret;exact⟨by simp [h],Below.refl _ _⟩
set_option maxHeartbeats 4000000
set_option maxRecDepth 100000
def U8 (w:World):Prop:=Lib.Utf8Tabs 3 4 w
theorem U8.lt {w:World}(h:U8 w):3<w.heap.size∧4<w.heap.size :=
 ⟨World.block_lt_of_cell? w _ (h.1 0 (by decide)),World.block_lt_of_cell? w _ (h.2 0 (by decide)).1⟩
theorem U8.below {w w':World}{B:Nat}(h:U8 w)(hb:Below B w w')(hB:3<B∧4<B):U8 w' :=
 ⟨fun c hc=>(World.cell?_of_block (hb.block _ hB.1)).trans (h.1 c hc),fun i hi=>⟨(World.cell?_of_block (hb.block _ hB.2)).trans (h.2 i hi).1,(World.cell?_of_block (hb.block _ hB.2)).trans (h.2 i hi).2⟩⟩
theorem Ydp (s:ByteArray)(p:Nat):(Utf8.decode s p).1<2147483648:=by
 rw [Lib.decode_at];have:=(s.get! p).toNat_lt;unfold Lib.decodeN;repeat' split
 all_goals first | omega | (simp; omega) | simp
theorem Yt.mono {w:World}{b c:Nat}{v:Value}{l:List Tk}(h:Yt w b v l)(hc:c<=b):Yt w c v l:=by
 refine⟨h.1,?_⟩;rcases h.2 with h' | ⟨g,cap,cur,h1,h2,h3⟩
 ·exact Or.inl h'
 ·exact Or.inr ⟨g,cap,cur,h1,by omega,h3⟩
theorem Yt.below {w w':World}{b:Nat}{v:Value}{l:List Tk}(h:Yt w b v l)(hb:Below w.heap.size w w'):Yt w' b v l:=by
 refine⟨h.1,?_⟩;rcases h.2 with h' | ⟨g,cap,cur,h1,h2,h3,h4⟩
 ·exact Or.inl h'
 ·refine Or.inr ⟨g,cap,cur,h1,h2,?_,h4⟩;have hg:g<w.heap.size:=by
   rcases Nat.lt_or_ge g w.heap.size with x | x
   ·exact x
   ·simp [Array.getElem?_eq_none x] at h3
  rw [hb.block g hg]; exact h3
structure Zvf (s:ByteArray)(w wr:World)(v:Value)(c:Bool)(pos f:Nat)(l:List Tk):Prop where
 it:wr.heap[w.heap.size]?=some (.stringIter s pos)
 own:Yt wr (w.heap.size+1) v l
 low:Below w.heap.size w wr
 eq:Lb s f pos c l=Lb s s.size 0 false []
 fuel:s.size<=pos+f
 len:l.length<=pos
theorem Zvf.lt {s:ByteArray}{w wr:World}{v:Value}{c:Bool}{pos f:Nat}{l:List Tk}(h:Zvf s w wr v c pos f l):w.heap.size<wr.heap.size:=(Array.getElem?_eq_some_iff.1 h.it).1
theorem Zvf.step {s:ByteArray}{w wr:World}{v:Value}{c:Bool}{pos f:Nat}{l:List Tk}(h:Zvf s w wr v c pos f l)(q:Nat) :
 (wr.iterAt w.heap.size s q).heap[w.heap.size]?=some (.stringIter s q)∧Yt (wr.iterAt w.heap.size s q) (w.heap.size+1) v l∧Below w.heap.size w (wr.iterAt w.heap.size s q)∧(wr.iterAt w.heap.size s q).heap.size=wr.heap.size :=
 ⟨Lib.iterAt_heap _ _ _ _ _ h.it,ownsRow_iterAt h.own (by omega) _ _,Lib.below_iterAt h.low (Nat.le_refl _) _ _,Lib.iterAt_size _ _ _ _⟩
def Ygq (s:ByteArray)(w:World)(e:Ending)(w':World):Prop :=
 ∃ v r,e=.returned (.tuple #[v,.int .i64 r])∧Below w.heap.size w w'∧(match Lb s s.size 0 false [] with | .inl p=>r=p | .inr l=>r=-1∧Yt w' w.heap.size v l)
theorem Zjo (r:Nat):Xx r<=6:=by
 unfold Xx;repeat' split
 all_goals omega
theorem Zzv {s:ByteArray}{f p r n:Nat}{l:List Tk}(hp:p<s.size)(hd:Utf8.decode s p=(r,n))(hk:Xx r=0):Lb s (f+1) p false l=.inl p:=by simp [Lb,hp,hd,hk]
theorem Zzw {s:ByteArray}{f p r n:Nat}{l:List Tk}(hp:p<s.size)(hd:Utf8.decode s p=(r,n))(hk:Xx r=1):Lb s (f+1) p false l=Lb s f (p+n) false l:=by simp [Lb,hp,hd,hk]
theorem Zzx {s:ByteArray}{f p r n:Nat}{l:List Tk}(hp:p<s.size)(hd:Utf8.decode s p=(r,n))(hk:Xx r=2):Lb s (f+1) p false l=Lb s f (p+n) true l:=by simp [Lb,hp,hd,hk]
theorem Zzy {s:ByteArray}{f p r n:Nat}{l:List Tk}(k:Nat)(hp:p<s.size)(hd:Utf8.decode s p=(r,n))(hk:Xx r=k)(h3:3<=k):Lb s (f+1) p false l=Lb s f (p+n) false (Sg l k p):=by simp only [Lb,hp,hd,hk,if_true];rw [if_neg (by decide),if_neg (by omega),if_neg (by omega),if_neg (by omega)]
theorem Zzz {s:ByteArray}{f p r n:Nat}{l:List Tk}(hp:p<s.size)(hd:Utf8.decode s p=(r,n))(hk:r=65533∧n=1):Lb s (f+1) p true l=.inl p:=by simp [Lb,hp,hd,hk]
theorem Yaa {s:ByteArray}{f p r n:Nat}{l:List Tk}(hp:p<s.size)(hd:Utf8.decode s p=(r,n))(hk:¬ (r=65533∧n=1)):Lb s (f+1) p true l=Lb s f (p+n) (decide (r≠10)) l:=by simp [Lb,hp,hd,hk]
theorem Yfr (s:ByteArray)(w:World)(hs:s.size<=400)(hT:U8 w):Calls Tryz.prog 67 #[.string s] w (Ygq s w):=by
 have HT:=Ze hT;clear hT;go_enter Tryz.func67,Tryz.ntmps67
 go_wp2_with fail
 go_loopw [4,5] (fun v c wr=>∃(cc:Bool) (pos f:Nat) (l:List Tk),c=.bool cc∧Zvf s w wr v cc pos f l) (fun _ _ wr=>s.size-wr.iterPos w.heap.size)
 case atStart=>exact⟨false,0,s.size,[],rfl,⟨heap_alloc_new w _,World.ownsRow_nil _ _ _ _,(Below.refl _ _).alloc (Nat.le_refl _) _,rfl,by omega,by simp⟩⟩
 case round =>
  obtain⟨cc,pos,f,l,rfl,hI⟩:=hrel;have hit:=hI.it;by_cases hp:pos<s.size
  ·obtain⟨r,n,hd⟩:∃ r n,Utf8.decode s pos=(r,n):=⟨_,_,rfl⟩;have hn1:1<=n:=by have:=Zpg s pos; rw [hd] at this; exact this
   have hr:=Ydp s pos;rw [hd] at hr;have hnx:∀ ty,(Instr.next (.pointer (some ⟨w.heap.size,0,none⟩)) true ty).run Tryz.prog _=.ok (.tuple #[.bool true,.int .i64 pos,.int .i32 r]) _:=fun ty=>by have:=Lib.run_next_any_at (P:=Tryz.prog) _ w.heap.size s pos ty hit hp; rw [hd] at this; exact this
   obtain⟨g1,g2,g3,g4⟩:=hI.step (pos+n);have hm:=iterPos_of hit;have hm2:=iterPos_of g1;have hU:=(Zb HT).below g3 (Zb HT).lt;have hlt:=hI.lt;obtain⟨f,rfl⟩:∃ f',f=f'+1:=⟨f-1,by have:=hI.fuel; omega⟩;have HI:=Ze hI;have hlen:=hI.len;have G1:=Ze g1;have G2:=Ze g2;have G3:=Ze g3;clear hI g1 g2 g3 hit;cases cc with
   | true =>
    have HC:=Ze (Zmu (s.extract pos s.size) r _ (by simp; omega) hU);rw [Zjn s pos hp,hd] at HC;clear hU;go_wp2_with fail
    refine(Zb HC).mono ?_;rintro e w1 ⟨rfl,hb1⟩;have k1:=(hb1.block w.heap.size (by rw [g4]; exact hlt)).trans (Zb G1);have K2:=Ze ((Zb G2).below hb1);have K3:=Ze ((Zb G3).trans (hb1.mono (by rw [g4]; omega)));have hm3:=iterPos_of k1;have K1:=Ze k1;clear hb1 HC k1;by_cases hbk:r=65533∧n=1
    ·have hE:=(Zzz (f:=f) (l:=l) hp hd hbk).symm.trans (Zb HI).eq;simp only [hbk,and_self,decide_true];go_wp2;go_ret2;exact⟨_,_,rfl,Zb K3,by rw [← hE]⟩
    ·have hE:=(Yaa (f:=f) (l:=l) hp hd hbk).symm.trans (Zb HI).eq;simp only [hbk,decide_false];go_wp2;go_roundw
     case rel=>exact⟨decide (r≠10),pos+n,f,l,by rw [Value.bool.injEq,Bool.eq_iff_iff]; simp; try omega,⟨Zb K1,Zb K2,Zb K3,hE,by have:=(Zb HI).fuel; omega,by omega⟩⟩
     case measure=>omega
   | false =>
    have HC:=Ze (Zvg r (wr.iterAt w.heap.size s (pos+n)) hr);have h6:=Zjo r;clear hU;go_wp2_with fail
    refine(Zb HC).mono ?_;rintro e w1 ⟨rfl,rfl⟩;clear HC;have hcs:Xx r=0∨Xx r=1∨Xx r=2∨3<=Xx r:=by omega
    rcases hcs with hk | hk | hk | hk
    ·have hE:=(Zzv (f:=f) (l:=l) hp hd hk).symm.trans (Zb HI).eq;rw [hk];clear hk;go_wp2;go_ret2;exact⟨_,_,rfl,Zb G3,by rw [← hE]⟩
    ·have hE:=(Zzw (f:=f) (l:=l) hp hd hk).symm.trans (Zb HI).eq;rw [hk];clear hk;go_wp2;go_roundw
     case rel=>exact⟨false,pos+n,f,l,rfl,⟨Zb G1,Zb G2,Zb G3,hE,by have:=(Zb HI).fuel; omega,by omega⟩⟩
     case measure=>omega
    ·have hE:=(Zzx (f:=f) (l:=l) hp hd hk).symm.trans (Zb HI).eq;rw [hk];clear hk;go_wp2;go_roundw
     case rel=>exact⟨true,pos+n,f,l,rfl,⟨Zb G1,Zb G2,Zb G3,hE,by have:=(Zb HI).fuel; omega,by omega⟩⟩
     case measure=>omega
    ·have hE:=(Zzy (f:=f) (l:=l) (Xx r) hp hd rfl hk).symm.trans (Zb HI).eq;have hl2:=Zjl l (Xx r) pos;have HA:=Ze (Zrh (w.heap.size+1) l u4 (Xx r) pos _ (Zb G2) (by omega) (by omega) (by rw [g4]; omega) ⟨hk,h6⟩);generalize Xx r=kk at *;have hcs:kk=3∨kk=4∨kk=5∨kk=6:=by omega
     rcases hcs with rfl | rfl | rfl | rfl;all_goals
      go_wp2_with fail
      refine(Zb HA).mono ?_;rintro e w1 ⟨v',rfl,hO,hb1⟩;have k1:=(hb1.block w.heap.size (by omega)).trans (Zb G1);have K3:=Ze ((Zb G3).trans (hb1.mono (by omega)));have K2:=Ze hO;have hm3:=iterPos_of k1;have K1:=Ze k1;clear hb1 HA k1 hO;go_wp2;go_roundw
      case rel=>exact⟨false,pos+n,f,_,rfl,⟨Zb K1,Zb K2,Zb K3,hE,by have:=(Zb HI).fuel; omega,by omega⟩⟩
      case measure=>omega
  ·have hnx:∀ ty,(Instr.next (.pointer (some ⟨w.heap.size,0,none⟩)) true ty).run Tryz.prog _=_:=fun ty=>Lib.run_next_end_at _ w.heap.size s pos ty hit hp;have HI:=Ze hI;clear hI;go_wp2;go_ret2;have h:=Zb HI;have e:=h.eq;rw [Zvo s f pos cc l hp] at e;exact⟨_,_,rfl,h.low,by rw [← e]; exact⟨rfl,h.own.mono (by omega)⟩⟩
def Rs (w:World)(v:Value)(ns:List Int):Prop:=(ns=[]∧∃ p cap,v=.slice p 0 cap)∨∃ sb so cap,v=.slice (some ⟨sb,so,none⟩) ns.length cap∧∀ i,i<ns.length->w.cell? ⟨sb,so+i,none⟩=some (.int .i64 (ns.getD i 0))
theorem Rs.below {w w':World}{v:Value}{ns:List Int}(h:Rs w v ns)(hb:Below w.heap.size w w'):Rs w' v ns:=by
 rcases h with h | ⟨sb,so,cap,e,hc⟩
 ·exact Or.inl h
 ·exact Or.inr ⟨sb,so,cap,e,fun i hi=>(hb.cell (p:=⟨sb,so+i,none⟩) (ltc (hc i hi))).trans (hc i hi)⟩
def Ygp (r sp lk t0 t1:Int)(ag rs ss:List Int)(al sh by_:Int)(k:Nat):List Int:=[[r],[sp],[lk],[t0,t1],ag,rs,ss,[al],[sh],[by_]].getD k []
def pre (r sp lk t0 t1:Int)(ag rs ss:List Int)(al sh by_:Int):Nat->List UInt8
 | 0=>[]
 | k+1=>pre r sp lk t0 t1 ag rs ss al sh by_ k++Ys k (Ygp r sp lk t0 t1 ag rs ss al sh by_ k)
theorem Rs.form {w:World}{v:Value}{ns:List Int}(h:Rs w v ns):∃ p n cap,v=.slice p n cap:=by
 rcases h with⟨_,p,cap,e⟩ | ⟨sb,so,cap,e,_⟩
 ·exact⟨_,_,_,e⟩
 ·exact⟨_,_,_,e⟩
theorem Rs.get {w:World}{v:Value}{ns:List Int}(h:Rs w v ns)(hn:ns≠[]):∃ sb so cap,v=.slice (some ⟨sb,so,none⟩) ns.length cap∧∀ i,i<ns.length->w.cell? ⟨sb,so+i,none⟩=some (.int .i64 (ns.getD i 0)):=by
 rcases h with⟨e,_⟩ | h
 ·exact absurd e hn
 ·exact h
theorem Zgs {ns:List Int}{x:Int}{k:Nat}(hk:k<ns.length)(h:¬ x ∈ ns.take k)(hx:ns.getD k 0≠x):¬ x ∈ ns.take (k+1):=by
 rw [List.take_succ_eq_append_getElem hk];intro hm;rcases List.mem_append.1 hm with h' | h'
 ·exact h h'
 ·simp at h';exact hx (by simp [List.getD,hk,h'])
theorem Zjx {ns:List Int}{x:Int}{k:Nat}(hk:k<ns.length)(hx:ns.getD k 0=x):x ∈ ns:=by
 have:ns[k]=x:=by simpa [List.getD,hk] using hx
 exact this ▸ List.getElem_mem hk
set_option maxHeartbeats 1000000
set_option maxRecDepth 100000
theorem Ms (ns:List Int)(x:Int)(v:Value)(w:World)(h:Rs w v ns)(hn:ns.length<=1000000):Calls Tryz.prog 163 #[v,.int .i64 x] w fun e w'=>e=.returned (.bool (decide (x ∈ ns)))∧w'=w:=by
 by_cases hne:ns=[]
 ·obtain⟨p,cap,rfl⟩:∃ p cap,v=.slice p 0 cap:=by
   rcases h with⟨_,p,cap,e⟩ | ⟨sb,so,cap,e,_⟩
   ·exact⟨p,cap,e⟩
   ·rw [hne] at e; exact⟨_,_,e⟩
  refine(Tryz.slices_Contains_int_empty p cap x w).mono ?_;rintro e w' ⟨rfl,rfl⟩;exact⟨by rw [hne]; simp,rfl⟩
 ·obtain⟨sb,so,cap,rfl,hc⟩:=h.get hne;refine(Tryz.slices_Contains_int sb so ns.length cap ns x w (Nat.le_refl _) (by omega) hc).mono ?_;rintro e w' ⟨rfl,rfl⟩;exact⟨by rw [List.take_length]; simp,rfl⟩
def Mg (al bs:List Int):Bool:=al.any fun r=>decide (r ∈ bs)
theorem Zdg (al bs:List Int)(va vb:Value)(w:World)(ha:Rs w va al)(hb:Rs w vb bs)(hna:al.length<=1000000)(hnb:bs.length<=1000000):Calls Tryz.prog 116 #[va,vb] w fun e w'=>e=.returned (.bool (Mg al bs))∧w'=w:=by
 have HB:=Ze hb;clear hb;by_cases hne:al=[]
 ·obtain⟨p,cap,rfl⟩:∃ p cap,va=.slice p 0 cap:=by
   rcases ha with⟨_,p,cap,e⟩ | ⟨sb,so,cap,e,_⟩
   ·exact⟨p,cap,e⟩
   ·rw [hne] at e; exact⟨_,_,e⟩
  subst hne;clear ha;go_enter Tryz.func116,Tryz.ntmps116
  go_wp2_with fail
  refine wp_loop_rounds 1 ?_;rw [rounds_succ];go_wp2;go_ret;exact⟨rfl,rfl⟩
 ·obtain⟨sb,so,cap,rfl,hc⟩:=ha.get hne;have HC:=Ze hc;clear ha hc;go_enter Tryz.func116,Tryz.ntmps116
  go_wp2_with fail
  go_loopw [9] (fun j w'=>∃ k:Nat,j=.int .i64 k∧k<=al.length∧w'=w∧Mg (al.take k) bs=false) (fun j _=>al.length-(intOf j).toNat)
  case atStart=>exact⟨0,rfl,by omega,rfl,by simp [Mg]⟩
  case round =>
   obtain⟨k,rfl,hk,rfl,hno⟩:=hrel;have HN:=Ze hno;clear hno;by_cases hlt:k<al.length
   ·have c:=Zb HC k hlt;have HD:=Ze (Ms bs (al.getD k 0) vb wr (Zb HB) hnb);have hg:al.getD k 0=al[k]:=by simp [List.getD,hlt]
    have hst:Mg (al.take (k+1)) bs=decide (al.getD k 0 ∈ bs):=by rw [List.take_succ_eq_append_getElem hlt];unfold Mg;rw [List.any_append];have:=Zb HN;unfold Mg at this;rw [this,hg];simp
    have hall:decide (al.getD k 0 ∈ bs)=true->Mg al bs=true:=fun h=>by
     unfold Mg;rw [List.any_eq_true];exact⟨al[k],List.getElem_mem hlt,by rw [← hg]; exact h⟩
    have HS:=Ze hst;have HA:=Ze hall;clear hst hall hg;generalize decide (al.getD k 0 ∈ bs)=yes at *;generalize al.getD k 0=y at *;go_wp2_with fail
    refine(Zb HD).mono ?_;rintro e w2 ⟨rfl,h2⟩;subst w2;cases yes with
    | true=>go_wp2;go_ret;exact⟨by simp [Zb HA trivial],rfl⟩
    | false =>
     go_wp2;go_roundw
     case rel=>exact⟨k+1,by go_num,by omega,trivial,Zb HS⟩
     case measure=>simp [intOf]; omega
   ·obtain rfl:k=al.length:=by omega
    have HT:=Ze (show Mg al bs=false by have:=Zb HN; rwa [List.take_length] at this);go_wp2;go_ret;exact⟨by simp [Zb HT],rfl⟩
set_option maxHeartbeats 2000000
set_option maxRecDepth 100000
def Zgt (l:List Int)(c:Int)(i:Nat):Bool:=decide (0<=l.getD i 0∧l.getD i 0<c∧¬ l.getD i 0 ∈ l.take i)
def Nf (l:List Int)(c:Int):Bool:=(List.range l.length).all (Zgt l c)
theorem Rs.take {w:World}{sb so:Nat}{ns:List Int}(hc:∀ i,i<ns.length->w.cell? ⟨sb,so+i,none⟩=some (.int .i64 (ns.getD i 0)))(k cap':Nat)(hk:k<=ns.length):Rs w (.slice (some ⟨sb,so,none⟩) k cap') (ns.take k):=by
 have hl:(ns.take k).length=k:=by simp; omega
 refine Or.inr ⟨sb,so,cap',by rw [hl],fun i hi=>?_⟩;rw [hl] at hi;rw [hc i (by omega)];simp [List.getD,hi]
theorem Mh (ns:List Int)(c:Int)(v:Value)(w:World)(h:Rs w v ns)(hn:ns.length<=1000000)(hcap:∀ a n cap,v=.slice a n cap->n<=cap):Calls Tryz.prog 115 #[v,.int .i64 c] w fun e w'=>e=.returned (.bool (Nf ns c))∧w'=w:=by
 by_cases hne:ns=[]
 ·obtain⟨p,cap,rfl⟩:∃ p cap,v=.slice p 0 cap:=by
   rcases h with⟨_,p,cap,e⟩ | ⟨sb,so,cap,e,_⟩
   ·exact⟨p,cap,e⟩
   ·rw [hne] at e; exact⟨_,_,e⟩
  subst hne;clear h hcap;go_enter Tryz.func115,Tryz.ntmps115
  go_wp2_with fail
  refine wp_loop_rounds 1 ?_;rw [rounds_succ];go_wp2;go_ret;exact⟨rfl,rfl⟩
 ·obtain⟨sb,so,cap,rfl,hc⟩:=h.get hne;have hcp:=hcap _ _ _ rfl;have HC:=Ze hc;clear h hc hcap;go_enter Tryz.func115,Tryz.ntmps115
  go_wp2_with fail
  go_loopw [9] (fun j w'=>∃ k:Nat,j=.int .i64 k∧k<=ns.length∧w'=w∧∀ q,q<k->Zgt ns c q=true) (fun j _=>ns.length-(intOf j).toNat)
  case atStart=>exact⟨0,rfl,by omega,rfl,fun q hq=>by omega⟩
  case round =>
   obtain⟨k,rfl,hk,rfl,hno⟩:=hrel;have HN:=Ze hno;clear hno;by_cases hlt:k<ns.length
   ·have cc:=Zb HC k hlt;have bad:Zgt ns c k=false->Nf ns c=false:=fun hb=>by
     unfold Nf;rw [List.all_eq_false];exact⟨k,List.mem_range.2 hlt,by simp [hb]⟩
    have HBAD:=Ze bad;have hrd:Zgt ns c k=decide (0<=ns.getD k 0∧ns.getD k 0<c∧¬ ns.getD k 0 ∈ ns.take k):=rfl;have HRD:=Ze hrd;have HCT:=Ze (fun cap'=>Ms (ns.take k) (ns.getD k 0) _ wr (Rs.take (Zb HC) k cap' (by omega)) (by simp; omega));have next:Zgt ns c k=true->∀ q,q<k+1->Zgt ns c q=true:=fun hb q hq=>by
     rcases Nat.lt_succ_iff_lt_or_eq.1 hq with h' | h'
     ·exact Zb HN q h'
     ·subst h'; exact hb
    have HNX:=Ze next;clear bad hrd next;generalize hy:ns.getD k 0=y at cc HRD HCT;clear hy;by_cases h0:0<=y
    ·by_cases h1:y<c
     ·generalize hm:decide (y ∈ ns.take k)=yes at HCT;have hrr:Zgt ns c k=!yes:=by rw [Zb HRD,← hm]; simp [h0,h1]
      have HRR:=Ze hrr;clear hrr hm;go_wp2_with fail
      refine(Zb HCT _).mono ?_;rintro e w2 ⟨rfl,h2⟩;subst w2;cases yes with
      | true=>have hrr:=Ze (Zb HBAD (Zb HRR));go_wp2;go_ret;exact⟨by simp [Zb hrr],rfl⟩
      | false =>
       have hrr:=Ze (Zb HNX (Zb HRR));go_wp2;go_roundw
       case rel=>exact⟨k+1,by go_num,by omega,trivial,Zb hrr⟩
       case measure=>simp [intOf]; omega
     ·have hrr:=Ze (Zb HBAD (by rw [Zb HRD]; simp; omega));go_wp2;go_ret;exact⟨by simp [Zb hrr],rfl⟩
    ·have hrr:=Ze (Zb HBAD (by rw [Zb HRD]; simp; omega));go_wp2;go_ret;exact⟨by simp [Zb hrr],rfl⟩
   ·obtain rfl:k=ns.length:=by omega
    have HT:=Ze (show Nf ns c=true by unfold Nf; rw [List.all_eq_true]; exact fun q hq=>Zb HN q (List.mem_range.1 hq));go_wp2;go_ret;exact⟨by simp [Zb HT],rfl⟩
set_option maxHeartbeats 2000000
def Zar (r al sh by_:Int):Bool:=decide (4<=r∧r<=16∧(al=8∨al=16∨al=32)∧0<=sh∧sh<=32∧sh % 8=0∧0<=by_∧by_<=4)
theorem Zgr (r sp lk t0 t1:Int)(va vr vs:Value)(al sh by_:Int)(pr:Bool)(w:World):Calls Tryz.prog 74 #[.agg (Zt r sp lk t0 t1 va vr vs al sh by_ pr)] w fun e w'=>e=.returned (.bool (Zar r al sh by_))∧Below w.heap.size w w':=by
 unfold Zt;have no:∀ p:Prop,¬ (4<=r∧r<=16∧(al=8∨al=16∨al=32)∧0<=sh∧sh<=32∧sh % 8=0∧0<=by_∧by_<=4)->Zar r al sh by_=false:=fun _ h=>decide_eq_false h;have NO:=Ze no;clear no;by_cases h1:4<=r
 ·by_cases h2:r<=16
  ·by_cases h3:al=8∨al=16∨al=32
   ·by_cases h4:0<=sh
    ·by_cases h5:sh<=32
     ·by_cases h6:sh % 8=0
      ·have z6:(sh % 8==0)=true:=by simp [h6]
       by_cases h7:0<=by_
       ·by_cases h8:by_<=4
        ·have hy:Zar r al sh by_=true:=decide_eq_true ⟨h1,h2,h3,h4,h5,h6,h7,h8⟩;rw [hy];clear hy h6;rcases h3 with rfl | rfl | rfl;all_goals
          go_enter Tryz.func74,Tryz.ntmps74
          go_wp2;go_ret;exact⟨rfl,by go_grown⟩
        ·rw [Zb NO True (by omega)];clear h6;rcases h3 with rfl | rfl | rfl;all_goals
          go_enter Tryz.func74,Tryz.ntmps74
          go_wp2;go_ret;exact⟨rfl,by go_grown⟩
       ·rw [Zb NO True (by omega)];clear h6;rcases h3 with rfl | rfl | rfl;all_goals
         go_enter Tryz.func74,Tryz.ntmps74
         go_wp2;go_ret;exact⟨rfl,by go_grown⟩
      ·have z6:(sh % 8==0)=false:=by simp [h6]
       rw [Zb NO True (by omega)];clear h6;rcases h3 with rfl | rfl | rfl;all_goals
        go_enter Tryz.func74,Tryz.ntmps74
        go_wp2;go_ret;exact⟨rfl,by go_grown⟩
     ·rw [Zb NO True (by omega)];rcases h3 with rfl | rfl | rfl;all_goals
       go_enter Tryz.func74,Tryz.ntmps74
       go_wp2;go_ret;exact⟨rfl,by go_grown⟩
    ·rw [Zb NO True (by omega)];rcases h3 with rfl | rfl | rfl;all_goals
      go_enter Tryz.func74,Tryz.ntmps74
      go_wp2;go_ret;exact⟨rfl,by go_grown⟩
   ·rw [Zb NO True (by omega)];have z1:(al==8)=false:=by simp; omega
    have z2:(al==16)=false:=by simp; omega
    have z3:(al==32)=false:=by simp; omega
    clear h3;go_enter Tryz.func74,Tryz.ntmps74
    go_wp2;go_ret;exact⟨rfl,by go_grown⟩
  ·rw [Zb NO True (by omega)];go_enter Tryz.func74,Tryz.ntmps74
   go_wp2;go_ret;exact⟨rfl,by go_grown⟩
 ·rw [Zb NO True (by omega)];go_enter Tryz.func74,Tryz.ntmps74
  go_wp2;go_ret;exact⟨rfl,by go_grown⟩
theorem Rs.shape {w:World}{v:Value}{ns:List Int}(h:Rs w v ns):∃ p cap,v=.slice p ns.length cap:=by
 rcases h with⟨rfl,p,cap,e⟩ | ⟨sb,so,cap,e,_⟩
 ·exact⟨p,cap,e⟩
 ·exact⟨_,_,e⟩
def Zfi (ag rs ss:List Int):Bool:=decide (ag.length<=8∧rs.length<=4∧ss.length<=12)
theorem Znd (r sp lk t0 t1:Int)(va vr vs:Value)(al sh by_:Int)(pr:Bool)(ag rs ss:List Int)(w:World)(ha:∃ p cap,va=.slice p ag.length cap)(hr:∃ p cap,vr=.slice p rs.length cap)(hs:∃ p cap,vs=.slice p ss.length cap):Calls Tryz.prog 75 #[.agg (Zt r sp lk t0 t1 va vr vs al sh by_ pr)] w fun e w'=>e=.returned (.bool (Zfi ag rs ss))∧Below w.heap.size w w':=by
 unfold Zt;obtain⟨pa,ca,rfl⟩:=ha;obtain⟨pr',cr,rfl⟩:=hr;obtain⟨ps,cs,rfl⟩:=hs;unfold Zfi;generalize ag.length=na;generalize rs.length=nr;generalize ss.length=ns;by_cases h1:na<=8
 ·by_cases h2:nr<=4
  ·by_cases h3:ns<=12
   ·rw [decide_eq_true ⟨h1,h2,h3⟩];go_enter Tryz.func75,Tryz.ntmps75
    go_wp2;go_ret;exact⟨by show Ending.returned (.bool (decide ((ns:Int)<=12)))=_; rw [decide_eq_true (by omega)],by go_grown⟩
   ·rw [decide_eq_false (fun h=>h3 h.2.2)];go_enter Tryz.func75,Tryz.ntmps75
    go_wp2;go_ret;exact⟨by show Ending.returned (.bool (decide ((ns:Int)<=12)))=_; rw [decide_eq_false (by omega)],by go_grown⟩
  ·rw [decide_eq_false (fun h=>h2 h.2.1)];go_enter Tryz.func75,Tryz.ntmps75
   go_wp2;go_ret;exact⟨rfl,by go_grown⟩
 ·rw [decide_eq_false (fun h=>h1 h.1)];go_enter Tryz.func75,Tryz.ntmps75
  go_wp2;go_ret;exact⟨rfl,by go_grown⟩
end Go.Proofs.YtkenknfgeoecbaaGreatDoor
