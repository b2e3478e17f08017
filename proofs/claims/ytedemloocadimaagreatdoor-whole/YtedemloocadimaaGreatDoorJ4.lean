import Derived.Test.YtedemloocadimaaGreatDoorProg
import Derived.WalkKit
import Derived.Handy
import Derived.Lib.OthersKept
import Derived.Lib.ItoaNum
import Derived.Lib.LaidTab
import Derived.Lib.AppendIntMem
import Derived.Test.YtedemloocadimaaGreatDoorShelf
import Derived.WalkSmall
import Derived.Lib.DecodeN
import Derived.Shelf.Unicode.DecodeAny
namespace Go.Proofs.YtedemloocadimaaGreatDoor
open Go.RowKit
theorem Ym {p:Prop}(h:p):Hid p:=h
theorem Zh {p:Prop}(h:Hid p):p:=h
def Yr (k:Nat)(n:Int):List UInt8:=if k=2∧n=-1 then [45] else Lib.itoa n
def Yb (k:Nat)(ns:List Int):List UInt8:=ns.flatMap fun n=>32 :: Yr k n
def nm (k:Nat):List UInt8:=([[114,101,103,115],[115,112],[108,105,110,107],[116,101,109,112,115],[97,114,103,115],[114,101,115,117,108,116,115],[115,97,118,101,115],[97,108,105,103,110],[115,104,97,100,111,119],[98,121,114,101,102],[112,97,105,114,115]]:List (List UInt8)).getD k []
def Yh (k:Nat)(ns:List Int):List UInt8:=nm k++Yb k ns++[59,10]
theorem Zhd (k:Nat):(nm k).length≤7:=by
 unfold nm;match k with
 | 0 | 1 | 2 | 3 | 4 | 5 | 6 | 7 | 8 | 9 | 10=>decide
 | k+11=>simp
theorem Zhe:∀(d u:Nat),u<10 ^ (d+1)→(Lib.decDigits u).length≤d+1
 | 0,u,h=>by rw [Lib.decDigits,dif_pos (by omega)]; simp
 | d+1,u,h=>by
  rw [Lib.decDigits];split
  ·
   simp
  ·
   have:=Zhe d (u / 10) (by rw [Nat.pow_succ] at h; omega);simp; omega
theorem Zvy {n:Int}(h0:-9223372036854775808≤n)(h1:n≤9223372036854775807):(Lib.itoa n).length≤20:=by
 unfold Lib.itoa;split
 ·
  have:=Zhe 18 n.natAbs (by rw [show(10:Nat) ^ (18+1)=10000000000000000000 by decide]; omega);simp; omega
 ·
  have:=Zhe 18 n.toNat (by rw [show(10:Nat) ^ (18+1)=10000000000000000000 by decide]; omega);omega
theorem Zca (k:Nat){n:Int}(h0:-9223372036854775808≤n)(h1:n≤9223372036854775807):(Yr k n).length≤20:=by
 unfold Yr; split
 ·
  simp
 ·
  exact Zvy h0 h1
theorem Su (k:Nat):∀(ns:List Int),(∀ n ∈ ns,-9223372036854775808≤n∧n≤9223372036854775807)→(Yb k ns).length≤21*ns.length
 | [],_=>by simp [Yb]
 | n :: r,h=>by
  have h1:=Su k r (fun x hx=>h x (List.mem_cons_of_mem _ hx));have h2:=Zca k (h n (by simp)).1 (h n (by simp)).2;simp only [Yb,List.flatMap_cons,List.length_append,List.length_cons] at h1 ⊢;omega
theorem Zev (k:Nat)(ns:List Int)(n:Int):Yb k (ns++[n])=Yb k ns++32 :: Yr k n:=by
 simp [Yb,List.flatMap_append]
def Bd (w:World)(b:Nat)(l:List UInt8):Prop:=Lib.IsBuilderF 173 5 b b (Lib.byteCells l) w
theorem Bd.lt {w:World}{b:Nat}{l:List UInt8}(h:Bd w b l):b<w.heap.size:=by
 rcases h with h | h
 ·
  exact h.lt
 ·
  exact h.lt
theorem Bd.below {w w':World}{b:Nat}{l:List UInt8}(h:Bd w b l)(hb:Below w.heap.size w w'):Bd w' b l:=by
 have hlt:=h.lt;have hg:w.grownBy w' none:=⟨hb.os,hb.tape,hb.output,hb.size,fun k hk _=>hb.block k hk⟩;have each:∀ p,Lib.BuilderAtF 173 5 b b p (Lib.byteCells l) w→Lib.BuilderAtF 173 5 b b p (Lib.byteCells l) w':=by
  rintro p ⟨h1,v,h2,h3,h4⟩;refine⟨h1,v,(hb.block b hlt).trans h2,h3.kept hg ?_,h4⟩;cases hv:v.ownBlock with
  | none=>exact Or.inl rfl
  | some k=>exact Or.inr (by simp)
 exact h.elim (fun x=>Or.inl (each _ x)) (fun x=>Or.inr (each _ x))
theorem Bd.fresh (w:World):Bd (w.alloc (.cells #[.pointer none,.slice none 0 0] 173)) w.heap.size [] :=
 Lib.IsBuilderF.of (Lib.fresh_isBuilder _ _ _)
structure Wr (w w':World)(b:Nat):Prop where
 low:Below b w w'
 oth:Lib.OthersKept 5 (some b) w w'
theorem Wr.refl (w:World)(b:Nat):Wr w w b:=⟨Below.refl _ _,Lib.OthersKept.refl _ _ _⟩
theorem Wr.trans {a c d:World}{b:Nat}(h:Wr a c b)(k:Wr c d b):Wr a d b:=⟨h.low.trans k.low,h.oth.trans k.oth⟩
theorem Wr.of_below {w w':World}{b:Nat}(h:Below w.heap.size w w')(hb:b≤w.heap.size):Wr w w' b :=
 ⟨h.mono hb,fun k o hk _ _=>(h.block k (by rcases Nat.lt_or_ge k w.heap.size with x | x; exact x; simp [Array.getElem?_eq_none x] at hk)).trans hk⟩
structure Rd (w:World)(b sb so:Nat)(ns:List Int):Prop where
 cell:∀ i,i<ns.length→w.cell? ⟨sb,so+i,none⟩=some (.int .i64 (ns.getD i 0))
 keep:sb<b∨(sb≠b∧∃ c fz,w.heap[sb]?=some (.cells c 3 fz))
theorem Rd.wr {w w':World}{b sb so:Nat}{ns:List Int}(h:Rd w b sb so ns)(hw:Wr w w' b):Rd w' b sb so ns:=by
 have e:w'.heap[sb]?=w.heap[sb]?:=by
  rcases h.keep with h1 | ⟨h1,c,fz,h2⟩
  ·
   exact hw.low.block sb h1
  ·
   rw [h2]; exact hw.oth sb _ h2 (by simpa using h1) (by intro c' fz' e; cases e)
 refine⟨fun i hi=>(World.cell?_of_block e).trans (h.cell i hi),?_⟩;rcases h.keep with h1 | ⟨h1,c,fz,h2⟩
 ·
  exact Or.inl h1
 ·
  exact Or.inr ⟨h1,c,fz,e.trans h2⟩
set_option maxHeartbeats 2000000
theorem Tryz.sizeBd:(Tryz.prog.info? 173).map (·.size)=some 2:=by kernel_rfl
theorem Tryz.liesBd:liesAt Tryz.prog Tryz.prog.depth 173 (2 / Tryz.prog.cellsOf 173) 0 173 1=true:=by kernel_rfl
theorem Tryz.infoB:(Tryz.prog.info? 5).map (fun i=>(i.zero,i.size,i.bytes))=some (some (.int .u8 0),1,1):=by kernel_rfl
theorem Yaf (b:Nat)(w:World)(h0:w.cell? ⟨b,0,none⟩=some (.pointer (some ⟨b,0,none⟩))) :
 Calls Tryz.prog 161 #[.pointer (some ⟨b,0,none⟩)] w fun e w'=>e=.returned (.tuple #[])∧w'=w:=by
 obtain⟨j,hj,_⟩:=Option.map_eq_some_iff.1 Tryz.sizeBd;have hq:=Lib.run_neq_ptr_same w ⟨b,0,none⟩ Tryz.underlying171 hj;go_enter Tryz.func161,Tryz.ntmps161
 go_wp2;go_end0
 exact⟨rfl,rfl⟩
theorem Zvu (b:Nat)(w:World)(h0:w.cell? ⟨b,0,none⟩=some (.pointer none))(hsh:w.shape? b=some (173,2))(hfz:w.frozen? ⟨b,0,none⟩=false) :
 Calls Tryz.prog 161 #[.pointer (some ⟨b,0,none⟩)] w fun e w'=>e=.returned (.tuple #[])∧w'=w.setCell ⟨b,0,none⟩ (.pointer (some ⟨b,0,none⟩)):=by
 obtain⟨j,hj,hjs⟩:=Option.map_eq_some_iff.1 Tryz.sizeBd;have q1:=Lib.run_to_unsafe w ⟨b,0,none⟩ Tryz.underlying171 Tryz.underlying130 hj (by rw [hjs]; decide) hsh (Nat.zero_lt_succ 1);have q2:=@run_callFunc_extern Tryz.prog 224 _ Extern.AbiNoEscape.same Tryz.func224 (by kernel_rfl) (by kernel_rfl) (by kernel_rfl) (by kernel_rfl);have q3:=fun x=>Lib.run_noEscape (P:=Tryz.prog) (w:=w) x;have q4:=Lib.run_from_unsafe w ⟨b,0,none⟩ Tryz.underlying130 Tryz.underlying171 hj hsh Tryz.liesBd;go_enter Tryz.func161,Tryz.ntmps161
 go_wp2;go_end0
 exact⟨rfl,rfl⟩
theorem Zvv (b:Nat)(l:List UInt8)(w:World)(h:Bd w b l) :
 Calls Tryz.prog 161 #[.pointer (some ⟨b,0,none⟩)] w fun e w'=>e=.returned (.tuple #[])∧Lib.BuilderAtF 173 5 b b (.pointer (some ⟨b,0,none⟩)) (Lib.byteCells l) w'∧Wr w w' b:=by
 rcases h with h | h
 ·
  refine(Zvu b w h.cell0 h.shape h.frozen0).mono ?_;rintro e w' ⟨rfl,rfl⟩;exact⟨rfl,h.used _,⟨(Below.refl b w).setCell (p:=⟨b,0,none⟩) (Nat.le_refl _) _,(Lib.OthersKept.refl _ _ w).setCell ⟨b,0,none⟩ rfl _⟩⟩
 ·
  refine(Yaf b w h.cell0).mono ?_;rintro e w' ⟨rfl,rfl⟩;exact⟨rfl,h,Wr.refl _ _⟩
theorem Zdt (l:List UInt8)(c:UInt8):Lib.byteCells l++[.int .u8 c.toNat]=Lib.byteCells (l++[c]):=by simp [Lib.byteCells]
theorem Zjz (s:ByteArray):Lib.strCells s=Lib.byteCells s.data.toList:=by rfl
theorem Ygh (b:Nat)(l:List UInt8)(c:UInt8)(w:World)(h:Bd w b l)(hlen:l.length+1≤140737488355328) :
 Calls Tryz.prog 107 #[.pointer (some ⟨b,0,none⟩),.int .u8 c.toNat] w fun e w'=>e=.returned .nilIface∧Bd w' b (l++[c])∧Wr w w' b:=by
 obtain⟨i0,hi,hz0,hz1,hz2⟩:=info_parts Tryz.infoB;have HH:=Ym h;have hbl:=Lib.byteCells_length l;clear h;go_enter Tryz.func107,Tryz.ntmps107
 go_wp2_with fail
 refine(Zvv b l _ (Zh HH)).mono ?_;rintro e w1 ⟨rfl,⟨hB,v,hbk,hown,hne⟩,hw1⟩;have c1:w1.cell? ⟨b,1,none⟩=some v:=by rw [Lib.cell_of_heap hbk]; rfl
 have hlt:b<w1.heap.size:=by
  rcases Nat.lt_or_ge b w1.heap.size with h' | h'
  ·
   exact h'
  ·
   simp [Array.getElem?_eq_none h'] at hbk
 go_wp2_with (at_builtin; refine wpList_append_ownF _ rfl _ _ 126 rfl b 5 i0 (.int .u8 0) 1 1 Tryz.underlying126 hi hz0 hz1 hz2 rfl (by decide) _ _ _ rfl (hown.alloc _) ⟨w1.heap.size,0,none⟩ 1 1 [.int .u8 c.toNat] rfl rfl ?c1 ?c2 ?c3 ?c4 ?c5 ?_)
 case c1 =>
  intro j u hj;match j,hj with
  | 0,hj=>simp at hj; subst hj; simp [Addr.add]
 case c2=>intro u hu; simp at hu; subst hu; rfl
 case c3=>unfold maxLen; omega
 case c4=>omega
 case c5=>simp; omega
 intro v' w2 hown' hgrow _;have hb2:w2.heap[b]?=some (.cells #[.pointer (some ⟨b,0,none⟩),v] 173 (0,0)):=by
  rw [hgrow.block b (by simp; omega) (fun e=>hne e.symm),Lib.alloc_old w1 _ b hlt];exact hbk
 have d1:w2.cell? ⟨b,1,none⟩=some v:=by rw [Lib.cell_of_heap hb2]; rfl
 have f1:w2.frozen? ⟨b,1,none⟩=false:=Lib.frozen_of_heap hb2 1;obtain⟨g,cap,rfl⟩:∃ g cap,v'=.slice (some ⟨g,0,none⟩) (l.length+1) cap:=by
  rcases hown'.2 with⟨_,h0⟩ | ⟨g,cap,cur,fz,hv,_⟩
  ·
   omega
  ·
   exact⟨g,cap,hv⟩
 go_wp2;go_ret;refine⟨rfl,?_,?_,((hw1.oth.alloc _).grown hgrow (Lib.ownsRowF_kind (hown.alloc _))).setCell ⟨b,1,none⟩ rfl _⟩
 ·
  refine Or.inr (Lib.BuilderAtF.put (T:=173) (e:=5) hB hb2 (bs':=Lib.byteCells (l++[c])) ?_ (by decide));rw [← Zdt]; simpa [hbl] using hown'
 ·
  exact((hw1.low.alloc (Nat.le_of_lt hlt) _).grown hgrow (by simp; omega) (fun k hk=>(hown.lt k hk).1)).setCell (p:=⟨b,1,none⟩) hB _
theorem Zvw (b:Nat)(l:List UInt8)(s:ByteArray)(w:World)(h:Bd w b l)(hlen:l.length+s.size≤140737488355328) :
 Calls Tryz.prog 106 #[.pointer (some ⟨b,0,none⟩),.string s] w fun e w'=>e=.returned (.tuple #[.int .i64 s.size,.nilIface])∧Bd w' b (l++s.data.toList)∧Wr w w' b:=by
 obtain⟨i0,hi,hz0,hz1,hz2⟩:=info_parts Tryz.infoB;have HH:=Ym h;have hbl:=Lib.byteCells_length l;clear h;go_enter Tryz.func106,Tryz.ntmps106
 go_wp2_with fail
 refine(Zvv b l _ (Zh HH)).mono ?_;rintro e w1 ⟨rfl,⟨hB,v,hbk,hown,hne⟩,hw1⟩;have c1:w1.cell? ⟨b,1,none⟩=some v:=by rw [Lib.cell_of_heap hbk]; rfl
 have hlt:b<w1.heap.size:=by
  rcases Nat.lt_or_ge b w1.heap.size with h' | h'
  ·
   exact h'
  ·
   simp [Array.getElem?_eq_none h'] at hbk
 go_wp2_with (at_builtin; refine Lib.wpList_append_own_stringF _ rfl _ _ 126 9 rfl b 5 i0 Tryz.underlying126 Tryz.underlying9 hi hz0 hz1 hz2 _ _ _ rfl hown s rfl ?c3 ?c4 ?c5 ?_)
 case c3=>unfold maxLen; omega
 case c4=>omega
 case c5=>omega
 intro v' w2 hown' hgrow _;have hb2:w2.heap[b]?=some (.cells #[.pointer (some ⟨b,0,none⟩),v] 173 (0,0)):=by
  rw [hgrow.block b hlt (fun e=>hne e.symm)];exact hbk
 have d1:w2.cell? ⟨b,1,none⟩=some v:=by rw [Lib.cell_of_heap hb2]; rfl
 have f1:w2.frozen? ⟨b,1,none⟩=false:=Lib.frozen_of_heap hb2 1;obtain⟨ao,n',cap,rfl⟩:∃ ao n' cap,v'=.slice ao n' cap:=by
  rcases hown'.2 with⟨hv,_⟩ | ⟨g,cap,cur,fz,hv,_⟩
  ·
   exact⟨_,_,_,hv⟩
  ·
   exact⟨_,_,_,hv⟩
 go_wp2;go_ret2;refine⟨rfl,?_,?_,(hw1.oth.grown hgrow (Lib.ownsRowF_kind hown)).setCell ⟨b,1,none⟩ rfl _⟩
 ·
  refine Or.inr (Lib.BuilderAtF.put (T:=173) (e:=5) hB hb2 (bs':=Lib.byteCells (l++s.data.toList)) ?_ (by decide));rw [Lib.byteCells_append,← Zjz]; simpa [Lib.strCells_length,hbl] using hown'
 ·
  exact(hw1.low.grown hgrow (Nat.le_of_lt hlt) (fun k hk=>(hown.lt k hk).1)).setCell (p:=⟨b,1,none⟩) hB _
theorem Ygi (b:Nat)(l:List UInt8)(w:World)(h:Bd w b l) :
 Calls Tryz.prog 67 #[.pointer (some ⟨b,0,none⟩)] w fun e w'=>e=.returned (.string ⟨l.toArray⟩)∧Wr w w' b :=
 (Tryz.Builder_String_any_k b b l w h (Nat.le_of_lt h.lt)).mono fun _ _ ⟨h1,_,h3,h4⟩=>⟨h1,h3,h4⟩
theorem Zka (n : Int) (h0 : -9223372036854775808 ≤ n) (h1 : n ≤ 9223372036854775807) (w : World) (htab : Lib.TabIs Tryz.prog w "internal/strconv.uint64pow10" .u64 Lib.pow10Tab) :
 Calls Tryz.prog 162 #[.int .i64 n] w fun e w'=>e=.returned (.string ⟨(Lib.itoa n).toArray⟩)∧Below w.heap.size w w' :=
 (Tryz.strconv_Itoa n h0 h1 w htab).mono fun _ _ ⟨h1,k,os,h2⟩=>⟨h1,by rw [h2]; exact Lib.below_grow _ _ (Nat.le_refl _) _ _⟩
set_option maxHeartbeats 1000000
def Zkb (w:World):Prop:=∀ k,k<11→w.cell? ⟨1,k*5,none⟩=some (.string ⟨(nm k).toArray⟩)∧w.cell? ⟨1,k*5+3,none⟩=some (.bool (decide (k=2)))
def gB (B:Nat):Prop:=1<B∧6<B
structure Co (w:World):Prop where
 items:Zkb w
 pow : Lib.TabIs Tryz.prog w "internal/strconv.uint64pow10" .u64 Lib.pow10Tab
theorem Tryz.gPow : Tryz.prog.globalNamed "internal/strconv.uint64pow10" = some 6 := by kernel_rfl
theorem Co.blk {w w':World}(h:Co w)(h1:w'.heap[1]?=w.heap[1]?)(h2:w'.heap[6]?=w.heap[6]?):Co w':=by
 refine⟨fun k hk=>⟨(World.cell?_of_block h1).trans (h.items k hk).1,(World.cell?_of_block h1).trans (h.items k hk).2⟩,?_⟩;have hp:=h.pow;unfold Lib.TabIs at hp ⊢;rw [← hp];simp only [World.var?,Tryz.gPow,Option.bind_some,h2]
theorem ltc {w:World}{b o:Nat}{v:Value}(h:w.cell? ⟨b,o,none⟩=some v):b<w.heap.size:=by
 rcases Nat.lt_or_ge b w.heap.size with h' | h'
 ·
  exact h'
 ·
  simp [World.cell?,Array.getElem?_eq_none h'] at h
theorem Co.gb {w:World}(h:Co w):gB w.heap.size:=⟨ltc (h.items 0 (by omega)).1,ltc (h.pow.cell Tryz.gPow 0 (by decide))⟩
theorem Co.below {w w':World}{B:Nat}(h:Co w)(hb:Below B w w')(hB:gB B):Co w':=h.blk (hb.block _ hB.1) (hb.block _ hB.2)
theorem Ygj (k:Nat)(hk:k<11)(n:Int)(h0:-9223372036854775808≤n)(h1:n≤9223372036854775807)(w:World)(hT:Co w) :
 Calls Tryz.prog 108 #[.int .i64 k,.int .i64 n] w fun e w'=>e=.returned (.string ⟨(Yr k n).toArray⟩)∧Below w.heap.size w w':=by
 have hc:=(hT.items k hk).2;have HT:=Ym hT;clear hT;by_cases h2:k=2
 ·
  subst h2;by_cases hm:n=-1
  ·
   have HE:=Ym (show Yr 2 n=[45] by simp [Yr,hm]);have hm':(n==-1)=true:=by simp [hm]
   clear hm;simp only [decide_true] at hc;go_enter Tryz.func108,Tryz.ntmps108
   go_wp2;go_ret;rw [Zh HE];exact⟨rfl,Below.refl _ _⟩
  ·
   have HE:=Ym (show Yr 2 n=Lib.itoa n by simp [Yr,hm]);have hm':(n==-1)=false:=by simp [hm]
   clear hm;simp only [decide_true] at hc;go_enter Tryz.func108,Tryz.ntmps108
   go_wp2_with fail
   refine(Zka n h0 h1 _ (Zh HT).pow).mono ?_;rintro e w' ⟨rfl,hb⟩;have HB:=Ym hb;clear hb;go_wp2;go_ret;rw [Zh HE];exact⟨rfl,Zh HB⟩
 ·
  have HE:=Ym (show Yr k n=Lib.itoa n by simp [Yr,h2]);rw [show decide (k=2)=false by simp [h2]] at hc;clear h2;go_enter Tryz.func108,Tryz.ntmps108
  go_wp2_with fail
  refine(Zka n h0 h1 _ (Zh HT).pow).mono ?_;rintro e w' ⟨rfl,hb⟩;have HB:=Ym hb;clear hb;go_wp2;go_ret;rw [Zh HE];exact⟨rfl,Zh HB⟩
def Lst (w:World)(b:Nat)(v:Value)(ns:List Int):Prop:=(ns=[]∧∃ p cap,v=.slice p 0 cap)∨∃ sb so cap,v=.slice (some ⟨sb,so,none⟩) ns.length cap∧Rd w b sb so ns
def okI (ns:List Int):Prop:=∀ n ∈ ns,-9223372036854775808≤n∧n≤9223372036854775807
theorem Zbg (l:List UInt8):(⟨l.toArray⟩:ByteArray).data.toList=l:=rfl
theorem Zhc (l:List UInt8):(⟨l.toArray⟩:ByteArray).size=l.length:=rfl
theorem Zdu (ns:List Int)(j:Nat)(h:j<ns.length):ns.take (j+1)=ns.take j++[ns.getD j 0]:=by
 rw [List.take_succ_eq_append_getElem h]; simp [List.getD,h]
theorem Zsb (k:Nat)(hk:k<11)(b:Nat)(l:List UInt8)(p:Option Addr)(cap:Nat)(w:World)(hT:Co w)(hB:Bd w b l)(hlen:l.length+40≤140737488355328) :
 Calls Tryz.prog 66 #[.pointer (some ⟨b,0,none⟩),.int .i64 k,.slice p 0 cap] w fun e w'=>e=.returned (.tuple #[])∧Bd w' b (l++Yh k [])∧Wr w w' b:=by
 have hc:=(hT.items k hk).1;have hnl:=Zhd k;have HB:=Ym hB;clear hB;go_enter Tryz.func66,Tryz.ntmps66
 go_wp2_with fail
 refine(Zvw b l _ _ (Zh HB) (by rw [Zhc]; omega)).mono ?_;rintro e w1 ⟨rfl,hB1,hw1⟩;rw [Zbg] at hB1;have HB1:=Ym hB1;have HW1:=Ym hw1;clear hB1 hw1;go_wp2_with fail
 refine wp_loop_rounds 1 ?_;rw [rounds_succ];go_wp2_with fail
 refine(Zvw b _ _ _ (Zh HB1) (by simp [ByteArray.size]; omega)).mono ?_;rintro e w2 ⟨rfl,hB2,hw2⟩;have HB2:=Ym hB2;have HW2:=Ym ((Zh HW1).trans hw2);clear hB2 hw2;go_wp2;go_end0
 refine⟨rfl,?_,Zh HW2⟩;have:=Zh HB2;simpa [Yh,Yb,List.append_assoc] using this
theorem Zfs (k:Nat)(hk:k<11)(b:Nat)(l:List UInt8)(sb so cap:Nat)(ns:List Int)(w:World)(hT:Co w)(hB:Bd w b l)(hb16:gB b)(hR:Rd w b sb so ns)(hok:okI ns)(hlen:l.length+21*ns.length+40≤140737488355328) :
 Calls Tryz.prog 66 #[.pointer (some ⟨b,0,none⟩),.int .i64 k,.slice (some ⟨sb,so,none⟩) ns.length cap] w fun e w'=>e=.returned (.tuple #[])∧Bd w' b (l++Yh k ns)∧Wr w w' b:=by
 have hc:=(hT.items k hk).1;have hnl:=Zhd k;have HB:=Ym hB;have HT:=Ym hT;have HR:=Ym hR;have HO:=Ym hok;have hnsl:ns.length≤9223372036854775807:=by omega
 clear hB hT hR hok;go_enter Tryz.func66,Tryz.ntmps66
 go_wp2_with fail
 refine(Zvw b l _ _ (Zh HB) (by rw [Zhc]; omega)).mono ?_;rintro e w1 ⟨rfl,hB1,hw1⟩;rw [Zbg] at hB1;have HB1:=Ym hB1;have HW1:=Ym hw1;clear hB1 hw1;go_wp2_with fail
 go_loopw [16] (fun i wr=>∃ j:Nat,j≤ns.length∧i=.int .i64 j∧Bd wr b (l++nm k++Yb k (ns.take j))∧Wr w wr b) (fun i _=>ns.length-(intOf i).toNat)
 case atStart=>exact⟨0,by omega,rfl,by simpa [Yb] using Zh HB1,Zh HW1⟩
 case round =>
  obtain⟨j,hj,rfl,hBj,hwj⟩:=hrel;have hlt':=Su k (ns.take j) (fun n hn=>Zh HO n (List.mem_of_mem_take hn));have htl:(ns.take j).length=j:=by simp; omega
  by_cases hlt:j<ns.length
  ·
   have hcx:=((Zh HR).wr hwj).cell j hlt;have hn:=Zh HO (ns.getD j 0) (by rw [List.getD,List.getElem?_eq_getElem hlt]; simp);have hTj:=(Zh HT).below hwj.low hb16;have HS:=Ym (Zev k (ns.take j) (ns.getD j 0));have HTS:=Ym (Zdu ns j hlt);have hnl2:=Zca k hn.1 hn.2;generalize ns.getD j 0=n at hcx hn HS HTS hnl2;have HBj:=Ym hBj;have HWj:=Ym hwj;have HTj:=Ym hTj;clear hBj hwj hTj;go_wp2_with fail
   refine(Ygh b _ 32 _ (Zh HBj) (by simp; omega)).mono ?_;rintro e w2 ⟨rfl,hB2,hw2⟩;have HB2:=Ym hB2;have HW2:=Ym ((Zh HWj).trans hw2);have HT2:=Ym ((Zh HTj).below hw2.low hb16);clear hB2 hw2;go_wp2_with fail
   refine(Ygj k hk n hn.1 hn.2 _ (Zh HT2)).mono ?_;rintro e w3 ⟨rfl,hb3⟩;have HB3:=Ym ((Zh HB2).below hb3);have HW3:=Ym ((Zh HW2).trans (Wr.of_below hb3 (Nat.le_of_lt (Zh HB2).lt)));clear hb3;go_wp2_with fail
   refine(Zvw b _ _ _ (Zh HB3) (by rw [Zhc]; simp; omega)).mono ?_;rintro e w4 ⟨rfl,hB4,hw4⟩;rw [Zbg] at hB4;have HB4:=Ym hB4;have HW4:=Ym ((Zh HW3).trans hw4);clear hB4 hw4;go_wp2_with fail
   go_roundw
   case rel =>
    refine⟨j+1,hlt,by go_num,?_,Zh HW4⟩;rw [Zh HTS,Zh HS];have:=Zh HB4;simpa [List.append_assoc] using this
   case measure=>simp [intOf]; omega
  ·
   obtain rfl:j=ns.length:=by omega
   rw [List.take_length] at hBj hlt';have HBj:=Ym hBj;have HWj:=Ym hwj;clear hBj hwj;go_wp2_with fail
   refine(Zvw b _ _ _ (Zh HBj) (by simp [ByteArray.size]; omega)).mono ?_;rintro e w2 ⟨rfl,hB2,hw2⟩;have HB2:=Ym hB2;have HW2:=Ym ((Zh HWj).trans hw2);clear hB2 hw2;go_wp2;go_end0
   refine⟨rfl,?_,Zh HW2⟩;have:=Zh HB2;simpa [Yh,List.append_assoc] using this
theorem Ygk (k:Nat)(hk:k<11)(b:Nat)(l:List UInt8)(v:Value)(ns:List Int)(w:World)(hT:Co w)(hB:Bd w b l)(hb16:gB b)(hL:Lst w b v ns)(hok:okI ns)(hlen:l.length+21*ns.length+40≤140737488355328) :
 Calls Tryz.prog 66 #[.pointer (some ⟨b,0,none⟩),.int .i64 k,v] w fun e w'=>e=.returned (.tuple #[])∧Bd w' b (l++Yh k ns)∧Wr w w' b:=by
 rcases hL with⟨rfl,p,cap,rfl⟩ | ⟨sb,so,cap,rfl,hR⟩
 ·
  exact Zsb k hk b l p cap w hT hB (by omega)
 ·
  exact Zfs k hk b l sb so cap ns w hT hB hb16 hR hok hlen
set_option maxHeartbeats 4000000
theorem Yag {a b:Nat}(h:gB a)(hab:a≤b):gB b:=⟨Nat.lt_of_lt_of_le h.1 hab,Nat.lt_of_lt_of_le h.2 hab⟩
structure St (w:World)(x:Nat)(vals:Array Value)(l:List UInt8):Prop where
 tabs:Co w
 bd:Bd w (x+1) l
 box:∀ i,w.cell? ⟨x,i,none⟩=vals[i]?
 gb:gB (x+1)
theorem St.wr {w w':World}{x:Nat}{vals:Array Value}{l l':List UInt8}(h:St w x vals l)(hw:Wr w w' (x+1))(hb:Bd w' (x+1) l'):St w' x vals l' :=
 ⟨h.tabs.below hw.low h.gb,hb,fun i=>(hw.low.cell (p:=⟨x,i,none⟩) (Nat.lt_succ_self x)).trans (h.box i),h.gb⟩
theorem St.alloc {w:World}{x:Nat}{vals:Array Value}{l:List UInt8}(h:St w x vals l)(o:Obj):St (w.alloc o) x vals l :=
 h.wr (Wr.of_below ((Below.refl _ _).alloc (Nat.le_refl _) o) (Nat.le_of_lt h.bd.lt)) (h.bd.below ((Below.refl _ _).alloc (Nat.le_refl _) o))
theorem Dr (k:Nat)(hk:k<11)(ki:Int)(hki:ki=(k:Int))(sb:Nat)(ns:List Int)(c:Array Value)(hc:c=(ns.map (Value.int .i64)).toArray)(n:Nat)(hn:n=ns.length){x:Nat}{vals:Array Value}{l:List UInt8}(w:World)(S:St w x vals l)(hok:okI ns)(hlen:l.length+21*ns.length+40≤140737488355328)(cap:Nat)(hsb:sb=w.heap.size) :
 Calls Tryz.prog 66 #[.pointer (some ⟨x+1,0,none⟩),.int .i64 ki,.slice (some ⟨sb,0,none⟩) n cap] (w.alloc (.cells c 3)) fun e w'=>e=.returned (.tuple #[])∧St w' x vals (l++Yh k ns)∧Wr w w' (x+1):=by
 subst hn hsb hki;have hx:=S.bd.lt;have hR:Rd (w.alloc (.cells c 3)) (x+1) w.heap.size 0 ns:=by
  refine⟨fun i hi=>?_,Or.inr ⟨by omega,c,(0,0),?_⟩⟩
  ·
   rw [World.cell?_alloc_at _ _ _ _ rfl,hc]; simp [List.getD,hi]
  ·
   unfold World.alloc; exact Array.getElem?_push_size
 have S1:=S.alloc (.cells c 3);refine(Zfs k hk (x+1) l w.heap.size 0 cap ns _ S1.tabs S1.bd S1.gb hR hok hlen).mono ?_;rintro e w' ⟨h1,h2,h3⟩;exact⟨h1,S1.wr h3 h2,(Wr.of_below ((Below.refl _ _).alloc (Nat.le_refl _) _) (Nat.le_of_lt hx)).trans h3⟩
theorem Zai (k:Nat)(hk:k<11)(ki:Int)(hki:ki=(k:Int))(v:Value)(ns:List Int){x:Nat}{vals:Array Value}{l:List UInt8}(w:World)(S:St w x vals l)(hL:Lst w (x+1) v ns)(hok:okI ns)(hlen:l.length+21*ns.length+40≤140737488355328) :
 Calls Tryz.prog 66 #[.pointer (some ⟨x+1,0,none⟩),.int .i64 ki,v] w fun e w'=>e=.returned (.tuple #[])∧St w' x vals (l++Yh k ns)∧Wr w w' (x+1):=by
 subst hki;exact(Ygk k hk (x+1) l v ns w S.tabs S.bd S.gb hL hok hlen).mono fun _ _ ⟨h1,h2,h3⟩=>⟨h1,S.wr h3 h2,h3⟩
theorem Lst.wr {w w':World}{b:Nat}{v:Value}{ns:List Int}(h:Lst w b v ns)(hw:Wr w w' b):Lst w' b v ns:=by
 rcases h with h | ⟨sb,so,cap,e,hR⟩
 ·
  exact Or.inl h
 ·
  exact Or.inr ⟨sb,so,cap,e,hR.wr hw⟩
theorem Lst.old {w w':World}{b b':Nat}{v:Value}{ns:List Int}(h:Lst w b v ns)(hb:Below b w w')(hlow:∀ sb so cap,v=.slice (some ⟨sb,so,none⟩) ns.length cap→ns≠[]→sb<b)(hbb:b≤b'):Lst w' b' v ns:=by
 rcases h with h | ⟨sb,so,cap,e,hR⟩
 ·
  exact Or.inl h
 ·
  cases ns with
  | nil=>exact Or.inl ⟨rfl,_,_,e⟩
  | cons n r =>
   have hs:=hlow sb so cap e (by simp);exact Or.inr ⟨sb,so,cap,e,⟨fun i hi=>(hb.cell (p:=⟨sb,so+i,none⟩) hs).trans (hR.cell i hi),Or.inl (by omega)⟩⟩
def Mk (r sp lk t0 t1:Int)(ag rs ss:List Int)(al sh by_:Int)(pr:Bool):List UInt8 :=
 Yh 0 [r]++(Yh 1 [sp]++(Yh 2 [lk]++(Yh 3 [t0,t1]++(Yh 4 ag++(Yh 5 rs++(Yh 6 ss++(Yh 7 [al]++(Yh 8 [sh]++(Yh 9 [by_]++(if pr then Yh 10 [] else []))))))))))
def Yt (r sp lk t0 t1:Int)(va vr vs:Value)(al sh by_:Int)(pr:Bool):Array Value :=
 #[.int .i64 r,.int .i64 sp,.int .i64 lk,.int .i64 t0,.int .i64 t1,va,vr,vs,.int .i64 al,.int .i64 sh,.int .i64 by_,.bool pr]
def okN (n:Int):Prop:=-9223372036854775808≤n∧n≤9223372036854775807
theorem Zcg {n:Int}(h:okN n):okI [n]:=fun x hx=>by simp at hx; subst hx; exact h
theorem Ygl {n m:Int}(h:okN n)(k:okN m):okI [n,m]:=fun x hx=>by
 simp at hx;rcases hx with rfl | rfl
 ·
  exact h
 ·
  exact k
theorem Nq (k:Nat){ns:List Int}(h:okI ns):(Yh k ns).length≤21*ns.length+9:=by
 have h1:=Zhd k;have h2:=Su k ns h;simp [Yh]; omega
theorem Yeh (r sp lk t0 t1:Int)(va vr vs:Value)(al sh by_:Int)(pr:Bool)(ag rs ss:List Int)(w:World)(hT:Co w)
 (o0:okN r) (o1:okN sp) (o2:okN lk) (o3:okN t0) (o4:okN t1) (o5:okN al) (o6:okN sh) (o7:okN by_) (oa:okI ag) (orr:okI rs) (os:okI ss)
 (la:∀ w' b,Below w.heap.size w w'→w.heap.size≤b→Lst w' b va ag) (lr:∀ w' b,Below w.heap.size w w'→w.heap.size≤b→Lst w' b vr rs) (ls:∀ w' b,Below w.heap.size w w'→w.heap.size≤b→Lst w' b vs ss)
 (hsm:ag.length+rs.length+ss.length≤4000000) :
 Calls Tryz.prog 38 #[.agg (Yt r sp lk t0 t1 va vr vs al sh by_ pr)] w fun e w'=>e=.returned (.string ⟨(Mk r sp lk t0 t1 ag rs ss al sh by_ pr).toArray⟩)∧Below w.heap.size w w':=by
 have HT:=Ym hT;have HO:=Ym (And.intro o0 (And.intro o1 (And.intro o2 (And.intro o3 (And.intro o4 (And.intro o5 (And.intro o6 o7)))))));have HA:=Ym (And.intro oa (And.intro orr os));have HL:=Ym (And.intro la (And.intro lr ls));clear hT o0 o1 o2 o3 o4 o5 o6 o7 oa orr os la lr ls;have i0:=Nq 0 (Zcg (Zh HO).1);have i1:=Nq 1 (Zcg (Zh HO).2.1);have i2:=Nq 2 (Zcg (Zh HO).2.2.1);have i3:=Nq 3 (Ygl (Zh HO).2.2.2.1 (Zh HO).2.2.2.2.1);have i4:=Nq 4 (Zh HA).1;have i5:=Nq 5 (Zh HA).2.1;have i6:=Nq 6 (Zh HA).2.2;have i7:=Nq 7 (Zcg (Zh HO).2.2.2.2.2.1);have i8:=Nq 8 (Zcg (Zh HO).2.2.2.2.2.2.1);have i9:=Nq 9 (Zcg (Zh HO).2.2.2.2.2.2.2);simp only [List.length_cons,List.length_nil] at i0 i1 i2 i3 i7 i8 i9;have S0:St ((w.alloc (.cells (Yt r sp lk t0 t1 va vr vs al sh by_ pr) 37)).alloc (.cells #[.pointer none,.slice none 0 0] 173)) w.heap.size (Yt r sp lk t0 t1 va vr vs al sh by_ pr) []:=by
  refine⟨?_,?_,fun i=>?_,Yag (Zh HT).gb (by omega)⟩
  ·
   exact(Zh HT).below (((Below.refl w.heap.size w).alloc (Nat.le_refl _) _).alloc (by simp) _) (Zh HT).gb
  ·
   have:=Bd.fresh (w.alloc (.cells (Yt r sp lk t0 t1 va vr vs al sh by_ pr) 37));simpa using this
  ·
   rw [World.cell?_alloc_lt _ _ ⟨w.heap.size,i,none⟩ (by simp),World.cell?_alloc_at _ _ _ _ rfl]
 have HS0:=Ym S0;clear S0;have HB0:=Ym (((Below.refl w.heap.size w).alloc (Nat.le_refl _) (.cells (Yt r sp lk t0 t1 va vr vs al sh by_ pr) 37)).alloc (by simp) (.cells #[.pointer none,.slice none 0 0] 173));unfold Yt at HS0 HB0 ⊢;go_enter Tryz.func38,Tryz.ntmps38
 go_wp2_with fail
 refine(Dr 0 (by omega) _ rfl _ [r] #[.int .i64 r] rfl 1 rfl _ (Zh HS0) (Zcg (Zh HO).1) (by simp) _ (by simp)).mono ?_;rintro e w1 ⟨rfl,hS,hW⟩;have HS1:=Ym hS;have HB1:=Ym ((Zh HB0).trans (hW.low.mono (by omega)));clear hS hW;have hbx:=(Zh HS1).box;go_wp2_with fail
 clear hbx;refine(Dr 1 (by omega) _ rfl _ [sp] #[.int .i64 sp] rfl 1 rfl _ (Zh HS1) (Zcg (Zh HO).2.1) (by simp; omega) _ (by simp)).mono ?_;rintro e w2 ⟨rfl,hS,hW⟩;have HS2:=Ym hS;have HB2:=Ym ((Zh HB1).trans (hW.low.mono (by omega)));clear hS hW;have hbx:=(Zh HS2).box;go_wp2_with fail
 clear hbx;refine(Dr 2 (by omega) _ rfl _ [lk] #[.int .i64 lk] rfl 1 rfl _ (Zh HS2) (Zcg (Zh HO).2.2.1) (by simp; omega) _ (by simp)).mono ?_;rintro e w3 ⟨rfl,hS,hW⟩;have HS3:=Ym hS;have HB3:=Ym ((Zh HB2).trans (hW.low.mono (by omega)));clear hS hW;have hbx:=(Zh HS3).box;go_wp2_with fail
 clear hbx;refine(Dr 3 (by omega) _ rfl _ [t0,t1] #[.int .i64 t0,.int .i64 t1] rfl 2 rfl _ (Zh HS3) (Ygl (Zh HO).2.2.2.1 (Zh HO).2.2.2.2.1) (by simp; omega) _ (by simp)).mono ?_;rintro e w4 ⟨rfl,hS,hW⟩;have HS4:=Ym hS;have HB4:=Ym ((Zh HB3).trans (hW.low.mono (by omega)));clear hS hW;have hbx:=(Zh HS4).box;go_wp2_with fail
 clear hbx;refine(Zai 4 (by omega) _ rfl va ag _ (Zh HS4) ((Zh HL).1 _ _ (Zh HB4) (by omega)) ((Zh HA).1) (by simp; omega)).mono ?_;rintro e w5 ⟨rfl,hS,hW⟩;have HS5:=Ym hS;have HB5:=Ym ((Zh HB4).trans (hW.low.mono (by omega)));clear hS hW;have hbx:=(Zh HS5).box;go_wp2_with fail
 clear hbx;refine(Zai 5 (by omega) _ rfl vr rs _ (Zh HS5) ((Zh HL).2.1 _ _ (Zh HB5) (by omega)) ((Zh HA).2.1) (by simp; omega)).mono ?_;rintro e w6 ⟨rfl,hS,hW⟩;have HS6:=Ym hS;have HB6:=Ym ((Zh HB5).trans (hW.low.mono (by omega)));clear hS hW;have hbx:=(Zh HS6).box;go_wp2_with fail
 clear hbx;refine(Zai 6 (by omega) _ rfl vs ss _ (Zh HS6) ((Zh HL).2.2 _ _ (Zh HB6) (by omega)) ((Zh HA).2.2) (by simp; omega)).mono ?_;rintro e w7 ⟨rfl,hS,hW⟩;have HS7:=Ym hS;have HB7:=Ym ((Zh HB6).trans (hW.low.mono (by omega)));clear hS hW;have hbx:=(Zh HS7).box;go_wp2_with fail
 clear hbx;refine(Dr 7 (by omega) _ rfl _ [al] #[.int .i64 al] rfl 1 rfl _ (Zh HS7) (Zcg (Zh HO).2.2.2.2.2.1) (by simp; omega) _ (by simp)).mono ?_;rintro e w8 ⟨rfl,hS,hW⟩;have HS8:=Ym hS;have HB8:=Ym ((Zh HB7).trans (hW.low.mono (by omega)));clear hS hW;have hbx:=(Zh HS8).box;go_wp2_with fail
 clear hbx;refine(Dr 8 (by omega) _ rfl _ [sh] #[.int .i64 sh] rfl 1 rfl _ (Zh HS8) (Zcg (Zh HO).2.2.2.2.2.2.1) (by simp; omega) _ (by simp)).mono ?_;rintro e w9 ⟨rfl,hS,hW⟩;have HS9:=Ym hS;have HB9:=Ym ((Zh HB8).trans (hW.low.mono (by omega)));clear hS hW;have hbx:=(Zh HS9).box;go_wp2_with fail
 clear hbx;refine(Dr 9 (by omega) _ rfl _ [by_] #[.int .i64 by_] rfl 1 rfl _ (Zh HS9) (Zcg (Zh HO).2.2.2.2.2.2.2) (by simp; omega) _ (by simp)).mono ?_;rintro e w10 ⟨rfl,hS,hW⟩;have HS10:=Ym hS;have HB10:=Ym ((Zh HB9).trans (hW.low.mono (by omega)));clear hS hW;have hbx:=(Zh HS10).box;cases pr with
 | true =>
  go_wp2_with fail
  clear hbx;refine(Zai 10 (by omega) _ rfl (.slice none 0 0) [] _ (Zh HS10) (Or.inl ⟨rfl,_,_,rfl⟩) (fun _ h=>by cases h) (by simp; omega)).mono ?_;rintro e w11 ⟨rfl,hS,hW⟩;have HS11:=Ym hS;have HB11:=Ym ((Zh HB10).trans (hW.low.mono (by omega)));clear hS hW;go_wp2_with fail
  refine(Ygi _ _ _ (Zh HS11).bd).mono ?_;rintro e w12 ⟨rfl,hW⟩;have HB12:=Ym ((Zh HB11).trans (hW.low.mono (by omega)));clear hW;go_wp2;go_ret;refine⟨?_,Zh HB12⟩;simp [Mk]
 | false =>
  go_wp2_with fail
  clear hbx;refine(Ygi _ _ _ (Zh HS10).bd).mono ?_;rintro e w12 ⟨rfl,hW⟩;have HB12:=Ym ((Zh HB10).trans (hW.low.mono (by omega)));clear hW;go_wp2;go_ret;refine⟨?_,Zh HB12⟩;simp [Mk]
end Go.Proofs.YtedemloocadimaaGreatDoor
namespace Go.Proofs.YtedemloocadimaaGreatDoor
def Jc (r:Nat):Nat :=
 if r=32∨r=9∨r=10 then 1 else if r=35 then 2 else if 97≤r∧r≤122 then 3 else if 48≤r∧r≤57 then 4 else if r=45 then 5 else if r=59 then 6 else 0
structure Tk where
 k:Nat
 a:Nat
 e:Nat
def Se (l:List Tk)(k p:Nat):List Tk :=
 match l.getLast? with
 | some t=>if (k=3∨k=4)∧t.k=k∧t.e=p then l.dropLast++[⟨t.k,t.a,p+1⟩] else l++[⟨k,p,p+1⟩]
 | none=>l++[⟨k,p,p+1⟩]
def Ga (s:ByteArray):Nat→Nat→Bool→List Tk→Nat ⊕ List Tk
 | 0,_,_,acc=>.inr acc
 | f+1,p,c,acc =>
  if p<s.size then
   (if c then (if (Utf8.decode s p).1=65533∧(Utf8.decode s p).2=1 then .inl p else Ga s f (p+(Utf8.decode s p).2) (decide ((Utf8.decode s p).1≠10)) acc)
   else if Jc (Utf8.decode s p).1=0 then .inl p
   else if Jc (Utf8.decode s p).1=2 then Ga s f (p+(Utf8.decode s p).2) true acc
   else if Jc (Utf8.decode s p).1=1 then Ga s f (p+(Utf8.decode s p).2) false acc
   else Ga s f (p+(Utf8.decode s p).2) false (Se acc (Jc (Utf8.decode s p).1) p))
  else .inr acc
theorem Zpn (s:ByteArray)(p:Nat):1≤(Utf8.decode s p).2:=by
 rw [Lib.decode_at];unfold Lib.decodeN;repeat' split
 all_goals simp
theorem Cj (s:ByteArray)(p:Nat)(h:(s.get! p).toNat<128):Utf8.decode s p=((s.get! p).toNat,1):=by
 rw [Lib.decode_at];simp [Lib.decodeN,h]
theorem Zwj (s:ByteArray)(p:Nat)(h:128≤(s.get! p).toNat):128≤(Utf8.decode s p).1:=by
 rw [Lib.decode_at];unfold Lib.decodeN;repeat' split
 all_goals first | omega | (simp; omega)
theorem Zdy (s:ByteArray)(p:Nat):Jc (Utf8.decode s p).1=Jc (s.get! p).toNat:=by
 by_cases h:(s.get! p).toNat<128
 ·
  rw [Cj s p h]
 ·
  have h1:=Zwj s p (by omega);generalize (Utf8.decode s p).1=r at h1;generalize (s.get! p).toNat=b at h;simp only [Jc];repeat' split
  all_goals first | rfl | (exfalso; omega)
theorem Zdz (b:Nat)(h:Jc b≠0):b<128:=by
 simp only [Jc] at h;repeat' split at h
 all_goals omega
theorem Zwk (s:ByteArray)(f p:Nat)(c:Bool)(acc:List Tk)(h:¬ p<s.size):Ga s f p c acc=.inr acc:=by
 cases f <;> simp [Ga,h]
theorem Znt (s:ByteArray)(f p:Nat)(acc:List Tk)(h:p<s.size)(hk:Jc (s.get! p).toNat=1):Ga s (f+1) p false acc=Ga s f (p+1) false acc:=by
 have hd:=Cj s p (Zdz _ (by omega));simp [Ga,h,Zdy,hk];rw [hd]
theorem Ip (s:ByteArray)(f p:Nat)(acc:List Tk)(h:p<s.size)(hk:3≤Jc (s.get! p).toNat):Ga s (f+1) p false acc=Ga s f (p+1) false (Se acc (Jc (s.get! p).toNat) p):=by
 have hd:=Cj s p (Zdz _ (by omega));simp only [Ga,h,Zdy,if_true];rw [if_neg (by decide),if_neg (by omega),if_neg (by omega),if_neg (by omega),hd]
theorem Zal (l:List Tk)(k p:Nat)(h:∀ t,l.getLast?=some t→(k=3∨k=4)→t.k=k→t.e≠p):Se l k p=l++[⟨k,p,p+1⟩]:=by
 unfold Se;split
 ·
  rename_i t ht;rw [if_neg];rintro⟨h1,h2,h3⟩;exact h t ht h1 h2 h3
 ·
  rfl
theorem Yap (l:List Tk)(k a p:Nat)(h:k=3∨k=4):Se (l++[⟨k,a,p⟩]) k p=l++[⟨k,a,p+1⟩]:=by
 simp [Se,h]
end Go.Proofs.YtedemloocadimaaGreatDoor
namespace Go.Proofs.YtedemloocadimaaGreatDoor
open Go.RowKit
set_option maxHeartbeats 1000000
theorem Zwc (r:Nat)(w:World)(hr:r<2147483648) :
 Calls Tryz.prog 103 #[.int .i32 r] w fun e w'=>e=.returned (.int .i64 (Jc r))∧w'=w:=by
 by_cases h1:r=32∨r=9∨r=10
 ·
  rcases h1 with rfl | rfl | rfl;all_goals
   go_enter Tryz.func103,Tryz.ntmps103
   go_wp2;go_ret;exact⟨rfl,rfl⟩
 ·
  go_enter Tryz.func103,Tryz.ntmps103
  go_wp2;all_goals go_ret
  all_goals refine⟨?_,rfl⟩
  all_goals simp only [Jc]
  all_goals repeat' split
  all_goals first | rfl | (exfalso; omega) | (exfalso; simp only [beq_iff_eq] at *; omega) | (exfalso; simp at *; omega)
end Go.Proofs.YtedemloocadimaaGreatDoor
