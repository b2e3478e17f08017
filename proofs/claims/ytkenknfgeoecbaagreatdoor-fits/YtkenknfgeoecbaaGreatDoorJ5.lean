import Derived.Lib.AppendIntMem
import Derived.Test.YtkenknfgeoecbaaGreatDoorShelf
import Derived.WalkSmall
namespace Go.Proofs.YtkenknfgeoecbaaGreatDoor
open Go.RowKit
theorem Zt {p:Prop}(h:p):Hid p:=h
theorem Zf {p:Prop}(h:Hid p):p:=h
def Mt (k:Nat)(n:Int):List UInt8:=if k=2∧n=-1 then [45] else Lib.itoa n
def Lt (k:Nat)(ns:List Int):List UInt8:=ns.flatMap fun n=>32 :: Mt k n
def nm (k:Nat):List UInt8:=([[114,101,103,115],[115,112],[108,105,110,107],[116,101,109,112,115],[97,114,103,115],[114,101,115,117,108,116,115],[115,97,118,101,115],[97,108,105,103,110],[115,104,97,100,111,119],[98,121,114,101,102],[112,97,105,114,115]]:List (List UInt8)).getD k []
def Ys (k:Nat)(ns:List Int):List UInt8:=nm k++Lt k ns++[59,10]
theorem Zmz (k:Nat):(nm k).length<=7:=by
 unfold nm;match k with
 | 0 | 1 | 2 | 3 | 4 | 5 | 6 | 7 | 8 | 9 | 10=>decide
 | k+11=>simp
theorem Zhk:∀(d u:Nat),u<10 ^ (d+1)->(Lib.decDigits u).length<=d+1
 | 0,u,h=>by rw [Lib.decDigits,dif_pos (by omega)]; simp
 | d+1,u,h=>by
  rw [Lib.decDigits];split
  ·simp
  ·have:=Zhk d (u / 10) (by rw [Nat.pow_succ] at h; omega);simp; omega
theorem Zwl {n:Int}(h0:-9223372036854775808<=n)(h1:n<=9223372036854775807):(Lib.itoa n).length<=20:=by
 unfold Lib.itoa;split
 ·have:=Zhk 18 n.natAbs (by rw [show(10:Nat) ^ (18+1)=10000000000000000000 by decide]; omega);simp; omega
 ·have:=Zhk 18 n.toNat (by rw [show(10:Nat) ^ (18+1)=10000000000000000000 by decide]; omega);omega
theorem Zbr (k:Nat){n:Int}(h0:-9223372036854775808<=n)(h1:n<=9223372036854775807):(Mt k n).length<=20:=by
 unfold Mt; split
 ·simp
 ·exact Zwl h0 h1
theorem Rv (k:Nat):∀(ns:List Int),(∀ n ∈ ns,-9223372036854775808<=n∧n<=9223372036854775807)->(Lt k ns).length<=21*ns.length
 | [],_=>by simp [Lt]
 | n :: r,h=>by
  have h1:=Rv k r (fun x hx=>h x (List.mem_cons_of_mem _ hx));have h2:=Zbr k (h n (by simp)).1 (h n (by simp)).2;simp only [Lt,List.flatMap_cons,List.length_append,List.length_cons] at h1 ⊢;omega
theorem Zex (k:Nat)(ns:List Int)(n:Int):Lt k (ns++[n])=Lt k ns++32 :: Mt k n:=by simp [Lt,List.flatMap_append]
def Bd (w:World)(b:Nat)(l:List UInt8):Prop:=Lib.IsBuilderF 184 5 b b (Lib.byteCells l) w
theorem Bd.lt {w:World}{b:Nat}{l:List UInt8}(h:Bd w b l):b<w.heap.size:=by
 rcases h with h | h
 ·exact h.lt
 ·exact h.lt
theorem Bd.below {w w':World}{b:Nat}{l:List UInt8}(h:Bd w b l)(hb:Below w.heap.size w w'):Bd w' b l:=by
 have hlt:=h.lt;have hg:w.grownBy w' none:=⟨hb.os,hb.tape,hb.output,hb.size,fun k hk _=>hb.block k hk⟩;have each:∀ p,Lib.BuilderAtF 184 5 b b p (Lib.byteCells l) w->Lib.BuilderAtF 184 5 b b p (Lib.byteCells l) w':=by
  rintro p ⟨h1,v,h2,h3,h4⟩;refine⟨h1,v,(hb.block b hlt).trans h2,h3.kept hg ?_,h4⟩;cases hv:v.ownBlock with
  | none=>exact Or.inl rfl
  | some k=>exact Or.inr (by simp)
 exact h.elim (fun x=>Or.inl (each _ x)) (fun x=>Or.inr (each _ x))
theorem Bd.fresh (w:World):Bd (w.alloc (.cells #[.pointer none,.slice none 0 0] 184)) w.heap.size [] :=
 Lib.IsBuilderF.of (Lib.fresh_isBuilder _ _ _)
structure Wr (w w':World)(b:Nat):Prop where
 low:Below b w w'
 oth:Lib.OthersKept 5 (some b) w w'
theorem Wr.refl (w:World)(b:Nat):Wr w w b:=⟨Below.refl _ _,Lib.OthersKept.refl _ _ _⟩
theorem Wr.trans {a c d:World}{b:Nat}(h:Wr a c b)(k:Wr c d b):Wr a d b:=⟨h.low.trans k.low,h.oth.trans k.oth⟩
theorem Wr.of_below {w w':World}{b:Nat}(h:Below w.heap.size w w')(hb:b<=w.heap.size):Wr w w' b :=
 ⟨h.mono hb,fun k o hk _ _=>(h.block k (by rcases Nat.lt_or_ge k w.heap.size with x | x; exact x; simp [Array.getElem?_eq_none x] at hk)).trans hk⟩
structure Rd (w:World)(b sb so:Nat)(ns:List Int):Prop where
 cell:∀ i,i<ns.length->w.cell? ⟨sb,so+i,none⟩=some (.int .i64 (ns.getD i 0))
 keep:sb<b∨(sb≠b∧∃ c fz,w.heap[sb]?=some (.cells c 3 fz))
theorem Rd.wr {w w':World}{b sb so:Nat}{ns:List Int}(h:Rd w b sb so ns)(hw:Wr w w' b):Rd w' b sb so ns:=by
 have e:w'.heap[sb]?=w.heap[sb]?:=by
  rcases h.keep with h1 | ⟨h1,c,fz,h2⟩
  ·exact hw.low.block sb h1
  ·rw [h2]; exact hw.oth sb _ h2 (by simpa using h1) (by intro c' fz' e; cases e)
 refine⟨fun i hi=>(World.cell?_of_block e).trans (h.cell i hi),?_⟩;rcases h.keep with h1 | ⟨h1,c,fz,h2⟩
 ·exact Or.inl h1
 ·exact Or.inr ⟨h1,c,fz,e.trans h2⟩
set_option maxHeartbeats 2000000
theorem Tryz.sizeBd:(Tryz.prog.info? 184).map (·.size)=some 2:=by kernel_rfl
theorem Tryz.liesBd:liesAt Tryz.prog Tryz.prog.depth 184 (2 / Tryz.prog.cellsOf 184) 0 184 1=true:=by kernel_rfl
theorem Tryz.infoB:(Tryz.prog.info? 5).map (fun i=>(i.zero,i.size,i.bytes))=some (some (.int .u8 0),1,1):=by kernel_rfl
theorem Ybk (b:Nat)(w:World)(h0:w.cell? ⟨b,0,none⟩=some (.pointer (some ⟨b,0,none⟩))) :
 Calls Tryz.prog 161 #[.pointer (some ⟨b,0,none⟩)] w fun e w'=>e=.returned (.tuple #[])∧w'=w:=by
 obtain⟨j,hj,_⟩:=Option.map_eq_some_iff.1 Tryz.sizeBd;have hq:=Lib.run_neq_ptr_same w ⟨b,0,none⟩ Tryz.underlying181 hj;go_enter Tryz.func161,Tryz.ntmps161
 go_wp2;go_end0
 exact⟨rfl,rfl⟩
theorem Zwh (b:Nat)(w:World)(h0:w.cell? ⟨b,0,none⟩=some (.pointer none))(hsh:w.shape? b=some (184,2))(hfz:w.frozen? ⟨b,0,none⟩=false) :
 Calls Tryz.prog 161 #[.pointer (some ⟨b,0,none⟩)] w fun e w'=>e=.returned (.tuple #[])∧w'=w.setCell ⟨b,0,none⟩ (.pointer (some ⟨b,0,none⟩)):=by
 obtain⟨j,hj,hjs⟩:=Option.map_eq_some_iff.1 Tryz.sizeBd;have q1:=Lib.run_to_unsafe w ⟨b,0,none⟩ Tryz.underlying181 Tryz.underlying141 hj (by rw [hjs]; decide) hsh (Nat.zero_lt_succ 1);have q2:=@run_callFunc_extern Tryz.prog 226 _ Extern.AbiNoEscape.same Tryz.func226 (by kernel_rfl) (by kernel_rfl) (by kernel_rfl) (by kernel_rfl);have q3:=fun x=>Lib.run_noEscape (P:=Tryz.prog) (w:=w) x;have q4:=Lib.run_from_unsafe w ⟨b,0,none⟩ Tryz.underlying141 Tryz.underlying181 hj hsh Tryz.liesBd;go_enter Tryz.func161,Tryz.ntmps161
 go_wp2;go_end0
 exact⟨rfl,rfl⟩
theorem Zwi (b:Nat)(l:List UInt8)(w:World)(h:Bd w b l) :
 Calls Tryz.prog 161 #[.pointer (some ⟨b,0,none⟩)] w fun e w'=>e=.returned (.tuple #[])∧Lib.BuilderAtF 184 5 b b (.pointer (some ⟨b,0,none⟩)) (Lib.byteCells l) w'∧Wr w w' b:=by
 rcases h with h | h
 ·refine(Zwh b w h.cell0 h.shape h.frozen0).mono ?_;rintro e w' ⟨rfl,rfl⟩;exact⟨rfl,h.used _,⟨(Below.refl b w).setCell (p:=⟨b,0,none⟩) (Nat.le_refl _) _,(Lib.OthersKept.refl _ _ w).setCell ⟨b,0,none⟩ rfl _⟩⟩
 ·refine(Ybk b w h.cell0).mono ?_;rintro e w' ⟨rfl,rfl⟩;exact⟨rfl,h,Wr.refl _ _⟩
theorem Zdx (l:List UInt8)(c:UInt8):Lib.byteCells l++[.int .u8 c.toNat]=Lib.byteCells (l++[c]):=by simp [Lib.byteCells]
theorem Zka (s:ByteArray):Lib.strCells s=Lib.byteCells s.data.toList:=by rfl
theorem Yhe (b:Nat)(l:List UInt8)(c:UInt8)(w:World)(h:Bd w b l)(hlen:l.length+1<=140737488355328) :
 Calls Tryz.prog 112 #[.pointer (some ⟨b,0,none⟩),.int .u8 c.toNat] w fun e w'=>e=.returned .nilIface∧Bd w' b (l++[c])∧Wr w w' b:=by
 obtain⟨i0,hi,hz0,hz1,hz2⟩:=info_parts Tryz.infoB;have HH:=Zt h;have hbl:=Lib.byteCells_length l;clear h;go_enter Tryz.func112,Tryz.ntmps112
 go_wp2_with fail
 refine(Zwi b l _ (Zf HH)).mono ?_;rintro e w1 ⟨rfl,⟨hB,v,hbk,hown,hne⟩,hw1⟩;have c1:w1.cell? ⟨b,1,none⟩=some v:=by rw [Lib.cell_of_heap hbk]; rfl
 have hlt:b<w1.heap.size:=by
  rcases Nat.lt_or_ge b w1.heap.size with h' | h'
  ·exact h'
  ·simp [Array.getElem?_eq_none h'] at hbk
 go_wp2_with (at_builtin; refine wpList_append_ownF _ rfl _ _ 182 rfl b 5 i0 (.int .u8 0) 1 1 Tryz.underlying182 hi hz0 hz1 hz2 rfl (by decide) _ _ _ rfl (hown.alloc _) ⟨w1.heap.size,0,none⟩ 1 1 [.int .u8 c.toNat] rfl rfl ?c1 ?c2 ?c3 ?c4 ?c5 ?_)
 case c1 =>
  intro j u hj;match j,hj with
  | 0,hj=>simp at hj; subst hj; simp [Addr.add]
 case c2=>intro u hu; simp at hu; subst hu; rfl
 case c3=>unfold maxLen; omega
 case c4=>omega
 case c5=>simp; omega
 intro v' w2 hown' hgrow _;have hb2:w2.heap[b]?=some (.cells #[.pointer (some ⟨b,0,none⟩),v] 184 (0,0)):=by rw [hgrow.block b (by simp; omega) (fun e=>hne e.symm),Lib.alloc_old w1 _ b hlt];exact hbk
 have d1:w2.cell? ⟨b,1,none⟩=some v:=by rw [Lib.cell_of_heap hb2]; rfl
 have f1:w2.frozen? ⟨b,1,none⟩=false:=Lib.frozen_of_heap hb2 1;obtain⟨g,cap,rfl⟩:∃ g cap,v'=.slice (some ⟨g,0,none⟩) (l.length+1) cap:=by
  rcases hown'.2 with⟨_,h0⟩ | ⟨g,cap,cur,fz,hv,_⟩
  ·omega
  ·exact⟨g,cap,hv⟩
 go_wp2;go_ret;refine⟨rfl,?_,?_,((hw1.oth.alloc _).grown hgrow (Lib.ownsRowF_kind (hown.alloc _))).setCell ⟨b,1,none⟩ rfl _⟩
 ·refine Or.inr (Lib.BuilderAtF.put (T:=184) (e:=5) hB hb2 (bs':=Lib.byteCells (l++[c])) ?_ (by decide));rw [← Zdx]; simpa [hbl] using hown'
 ·exact((hw1.low.alloc (Nat.le_of_lt hlt) _).grown hgrow (by simp; omega) (fun k hk=>(hown.lt k hk).1)).setCell (p:=⟨b,1,none⟩) hB _
theorem Zwj (b:Nat)(l:List UInt8)(s:ByteArray)(w:World)(h:Bd w b l)(hlen:l.length+s.size<=140737488355328) :
 Calls Tryz.prog 111 #[.pointer (some ⟨b,0,none⟩),.string s] w fun e w'=>e=.returned (.tuple #[.int .i64 s.size,.nilIface])∧Bd w' b (l++s.data.toList)∧Wr w w' b:=by
 obtain⟨i0,hi,hz0,hz1,hz2⟩:=info_parts Tryz.infoB;have HH:=Zt h;have hbl:=Lib.byteCells_length l;clear h;go_enter Tryz.func111,Tryz.ntmps111
 go_wp2_with fail
 refine(Zwi b l _ (Zf HH)).mono ?_;rintro e w1 ⟨rfl,⟨hB,v,hbk,hown,hne⟩,hw1⟩;have c1:w1.cell? ⟨b,1,none⟩=some v:=by rw [Lib.cell_of_heap hbk]; rfl
 have hlt:b<w1.heap.size:=by
  rcases Nat.lt_or_ge b w1.heap.size with h' | h'
  ·exact h'
  ·simp [Array.getElem?_eq_none h'] at hbk
 go_wp2_with (at_builtin; refine Lib.wpList_append_own_stringF _ rfl _ _ 182 9 rfl b 5 i0 Tryz.underlying182 Tryz.underlying9 hi hz0 hz1 hz2 _ _ _ rfl hown s rfl ?c3 ?c4 ?c5 ?_)
 case c3=>unfold maxLen; omega
 case c4=>omega
 case c5=>omega
 intro v' w2 hown' hgrow _;have hb2:w2.heap[b]?=some (.cells #[.pointer (some ⟨b,0,none⟩),v] 184 (0,0)):=by rw [hgrow.block b hlt (fun e=>hne e.symm)];exact hbk
 have d1:w2.cell? ⟨b,1,none⟩=some v:=by rw [Lib.cell_of_heap hb2]; rfl
 have f1:w2.frozen? ⟨b,1,none⟩=false:=Lib.frozen_of_heap hb2 1;obtain⟨ao,n',cap,rfl⟩:∃ ao n' cap,v'=.slice ao n' cap:=by
  rcases hown'.2 with⟨hv,_⟩ | ⟨g,cap,cur,fz,hv,_⟩
  ·exact⟨_,_,_,hv⟩
  ·exact⟨_,_,_,hv⟩
 go_wp2;go_ret2;refine⟨rfl,?_,?_,(hw1.oth.grown hgrow (Lib.ownsRowF_kind hown)).setCell ⟨b,1,none⟩ rfl _⟩
 ·refine Or.inr (Lib.BuilderAtF.put (T:=184) (e:=5) hB hb2 (bs':=Lib.byteCells (l++s.data.toList)) ?_ (by decide));rw [Lib.byteCells_append,← Zka]; simpa [Lib.strCells_length,hbl] using hown'
 ·exact(hw1.low.grown hgrow (Nat.le_of_lt hlt) (fun k hk=>(hown.lt k hk).1)).setCell (p:=⟨b,1,none⟩) hB _
theorem Yhf (b:Nat)(l:List UInt8)(w:World)(h:Bd w b l) :
 Calls Tryz.prog 73 #[.pointer (some ⟨b,0,none⟩)] w fun e w'=>e=.returned (.string ⟨l.toArray⟩)∧Wr w w' b :=
 (Tryz.Builder_String_any_k b b l w h (Nat.le_of_lt h.lt)).mono fun _ _ ⟨h1,_,h3,h4⟩=>⟨h1,h3,h4⟩
theorem Zkb (n : Int) (h0 : -9223372036854775808 <= n) (h1 : n <= 9223372036854775807) (w : World) (htab : Lib.TabIs Tryz.prog w "internal/strconv.uint64pow10" .u64 Lib.pow10Tab) :
 Calls Tryz.prog 162 #[.int .i64 n] w fun e w'=>e=.returned (.string ⟨(Lib.itoa n).toArray⟩)∧Below w.heap.size w w' :=
 (Tryz.strconv_Itoa n h0 h1 w htab).mono fun _ _ ⟨h1,k,os,h2⟩=>⟨h1,by rw [h2]; exact Lib.below_grow _ _ (Nat.le_refl _) _ _⟩
set_option maxHeartbeats 1000000
def Zkc (w:World):Prop:=∀ k,k<11->w.cell? ⟨1,k*5,none⟩=some (.string ⟨(nm k).toArray⟩)∧w.cell? ⟨1,k*5+3,none⟩=some (.bool (decide (k=2)))
def gB (B:Nat):Prop:=1<B∧6<B
structure Kv (w:World):Prop where
 items:Zkc w
 pow : Lib.TabIs Tryz.prog w "internal/strconv.uint64pow10" .u64 Lib.pow10Tab
theorem Tryz.gPow : Tryz.prog.globalNamed "internal/strconv.uint64pow10" = some 6 := by kernel_rfl
theorem Kv.blk {w w':World}(h:Kv w)(h1:w'.heap[1]?=w.heap[1]?)(h2:w'.heap[6]?=w.heap[6]?):Kv w':=by refine⟨fun k hk=>⟨(World.cell?_of_block h1).trans (h.items k hk).1,(World.cell?_of_block h1).trans (h.items k hk).2⟩,?_⟩;have hp:=h.pow;unfold Lib.TabIs at hp ⊢;rw [← hp];simp only [World.var?,Tryz.gPow,Option.bind_some,h2]
theorem ltc {w:World}{b o:Nat}{v:Value}(h:w.cell? ⟨b,o,none⟩=some v):b<w.heap.size:=by
 rcases Nat.lt_or_ge b w.heap.size with h' | h'
 ·exact h'
 ·simp [World.cell?,Array.getElem?_eq_none h'] at h
theorem Kv.gb {w:World}(h:Kv w):gB w.heap.size:=⟨ltc (h.items 0 (by omega)).1,ltc (h.pow.cell Tryz.gPow 0 (by decide))⟩
theorem Kv.below {w w':World}{B:Nat}(h:Kv w)(hb:Below B w w')(hB:gB B):Kv w':=h.blk (hb.block _ hB.1) (hb.block _ hB.2)
theorem Yhg (k:Nat)(hk:k<11)(n:Int)(h0:-9223372036854775808<=n)(h1:n<=9223372036854775807)(w:World)(hT:Kv w) :
 Calls Tryz.prog 113 #[.int .i64 k,.int .i64 n] w fun e w'=>e=.returned (.string ⟨(Mt k n).toArray⟩)∧Below w.heap.size w w':=by
 have hc:=(hT.items k hk).2;have HT:=Zt hT;clear hT;by_cases h2:k=2
 ·subst h2;by_cases hm:n=-1
  ·have HE:=Zt (show Mt 2 n=[45] by simp [Mt,hm]);have hm':(n==-1)=true:=by simp [hm]
   clear hm;simp only [decide_true] at hc;go_enter Tryz.func113,Tryz.ntmps113
   go_wp2;go_ret;rw [Zf HE];exact⟨rfl,Below.refl _ _⟩
  ·have HE:=Zt (show Mt 2 n=Lib.itoa n by simp [Mt,hm]);have hm':(n==-1)=false:=by simp [hm]
   clear hm;simp only [decide_true] at hc;go_enter Tryz.func113,Tryz.ntmps113
   go_wp2_with fail
   refine(Zkb n h0 h1 _ (Zf HT).pow).mono ?_;rintro e w' ⟨rfl,hb⟩;have HB:=Zt hb;clear hb;go_wp2;go_ret;rw [Zf HE];exact⟨rfl,Zf HB⟩
 ·have HE:=Zt (show Mt k n=Lib.itoa n by simp [Mt,h2]);rw [show decide (k=2)=false by simp [h2]] at hc;clear h2;go_enter Tryz.func113,Tryz.ntmps113
  go_wp2_with fail
  refine(Zkb n h0 h1 _ (Zf HT).pow).mono ?_;rintro e w' ⟨rfl,hb⟩;have HB:=Zt hb;clear hb;go_wp2;go_ret;rw [Zf HE];exact⟨rfl,Zf HB⟩
def Lst (w:World)(b:Nat)(v:Value)(ns:List Int):Prop:=(ns=[]∧∃ p cap,v=.slice p 0 cap)∨∃ sb so cap,v=.slice (some ⟨sb,so,none⟩) ns.length cap∧Rd w b sb so ns
def okI (ns:List Int):Prop:=∀ n ∈ ns,-9223372036854775808<=n∧n<=9223372036854775807
theorem Zaw (l:List UInt8):(⟨l.toArray⟩:ByteArray).data.toList=l:=rfl
theorem Zhj (l:List UInt8):(⟨l.toArray⟩:ByteArray).size=l.length:=rfl
theorem Zdy (ns:List Int)(j:Nat)(h:j<ns.length):ns.take (j+1)=ns.take j++[ns.getD j 0]:=by rw [List.take_succ_eq_append_getElem h]; simp [List.getD,h]
theorem Zrt (k:Nat)(hk:k<11)(b:Nat)(l:List UInt8)(p:Option Addr)(cap:Nat)(w:World)(hT:Kv w)(hB:Bd w b l)(hlen:l.length+40<=140737488355328) :
 Calls Tryz.prog 72 #[.pointer (some ⟨b,0,none⟩),.int .i64 k,.slice p 0 cap] w fun e w'=>e=.returned (.tuple #[])∧Bd w' b (l++Ys k [])∧Wr w w' b:=by
 have hc:=(hT.items k hk).1;have hnl:=Zmz k;have HB:=Zt hB;clear hB;go_enter Tryz.func72,Tryz.ntmps72
 go_wp2_with fail
 refine(Zwj b l _ _ (Zf HB) (by rw [Zhj]; omega)).mono ?_;rintro e w1 ⟨rfl,hB1,hw1⟩;rw [Zaw] at hB1;have HB1:=Zt hB1;have HW1:=Zt hw1;clear hB1 hw1;go_wp2_with fail
 refine wp_loop_rounds 1 ?_;rw [rounds_succ];go_wp2_with fail
 refine(Zwj b _ _ _ (Zf HB1) (by simp [ByteArray.size]; omega)).mono ?_;rintro e w2 ⟨rfl,hB2,hw2⟩;have HB2:=Zt hB2;have HW2:=Zt ((Zf HW1).trans hw2);clear hB2 hw2;go_wp2;go_end0
 refine⟨rfl,?_,Zf HW2⟩;have:=Zf HB2;simpa [Ys,Lt,List.append_assoc] using this
theorem Zgb (k:Nat)(hk:k<11)(b:Nat)(l:List UInt8)(sb so cap:Nat)(ns:List Int)(w:World)(hT:Kv w)(hB:Bd w b l)(hb16:gB b)(hR:Rd w b sb so ns)(hok:okI ns)(hlen:l.length+21*ns.length+40<=140737488355328) :
 Calls Tryz.prog 72 #[.pointer (some ⟨b,0,none⟩),.int .i64 k,.slice (some ⟨sb,so,none⟩) ns.length cap] w fun e w'=>e=.returned (.tuple #[])∧Bd w' b (l++Ys k ns)∧Wr w w' b:=by
 have hc:=(hT.items k hk).1;have hnl:=Zmz k;have HB:=Zt hB;have HT:=Zt hT;have HR:=Zt hR;have HO:=Zt hok;have hnsl:ns.length<=9223372036854775807:=by omega
 clear hB hT hR hok;go_enter Tryz.func72,Tryz.ntmps72
 go_wp2_with fail
 refine(Zwj b l _ _ (Zf HB) (by rw [Zhj]; omega)).mono ?_;rintro e w1 ⟨rfl,hB1,hw1⟩;rw [Zaw] at hB1;have HB1:=Zt hB1;have HW1:=Zt hw1;clear hB1 hw1;go_wp2_with fail
 go_loopw [16] (fun i wr=>∃ j:Nat,j<=ns.length∧i=.int .i64 j∧Bd wr b (l++nm k++Lt k (ns.take j))∧Wr w wr b) (fun i _=>ns.length-(intOf i).toNat)
 case atStart=>exact⟨0,by omega,rfl,by simpa [Lt] using Zf HB1,Zf HW1⟩
 case round =>
  obtain⟨j,hj,rfl,hBj,hwj⟩:=hrel;have hlt':=Rv k (ns.take j) (fun n hn=>Zf HO n (List.mem_of_mem_take hn));have htl:(ns.take j).length=j:=by simp; omega
  by_cases hlt:j<ns.length
  ·have hcx:=((Zf HR).wr hwj).cell j hlt;have hn:=Zf HO (ns.getD j 0) (by rw [List.getD,List.getElem?_eq_getElem hlt]; simp);have hTj:=(Zf HT).below hwj.low hb16;have HS:=Zt (Zex k (ns.take j) (ns.getD j 0));have HTS:=Zt (Zdy ns j hlt);have hnl2:=Zbr k hn.1 hn.2;generalize ns.getD j 0=n at hcx hn HS HTS hnl2;have HBj:=Zt hBj;have HWj:=Zt hwj;have HTj:=Zt hTj;clear hBj hwj hTj;go_wp2_with fail
   refine(Yhe b _ 32 _ (Zf HBj) (by simp; omega)).mono ?_;rintro e w2 ⟨rfl,hB2,hw2⟩;have HB2:=Zt hB2;have HW2:=Zt ((Zf HWj).trans hw2);have HT2:=Zt ((Zf HTj).below hw2.low hb16);clear hB2 hw2;go_wp2_with fail
   refine(Yhg k hk n hn.1 hn.2 _ (Zf HT2)).mono ?_;rintro e w3 ⟨rfl,hb3⟩;have HB3:=Zt ((Zf HB2).below hb3);have HW3:=Zt ((Zf HW2).trans (Wr.of_below hb3 (Nat.le_of_lt (Zf HB2).lt)));clear hb3;go_wp2_with fail
   refine(Zwj b _ _ _ (Zf HB3) (by rw [Zhj]; simp; omega)).mono ?_;rintro e w4 ⟨rfl,hB4,hw4⟩;rw [Zaw] at hB4;have HB4:=Zt hB4;have HW4:=Zt ((Zf HW3).trans hw4);clear hB4 hw4;go_wp2_with fail
   go_roundw
   case rel=>refine⟨j+1,hlt,by go_num,?_,Zf HW4⟩;rw [Zf HTS,Zf HS];have:=Zf HB4;simpa [List.append_assoc] using this
   case measure=>simp [intOf]; omega
  ·obtain rfl:j=ns.length:=by omega
   rw [List.take_length] at hBj hlt';have HBj:=Zt hBj;have HWj:=Zt hwj;clear hBj hwj;go_wp2_with fail
   refine(Zwj b _ _ _ (Zf HBj) (by simp [ByteArray.size]; omega)).mono ?_;rintro e w2 ⟨rfl,hB2,hw2⟩;have HB2:=Zt hB2;have HW2:=Zt ((Zf HWj).trans hw2);clear hB2 hw2;go_wp2;go_end0
   refine⟨rfl,?_,Zf HW2⟩;have:=Zf HB2;simpa [Ys,List.append_assoc] using this
theorem Yhh (k:Nat)(hk:k<11)(b:Nat)(l:List UInt8)(v:Value)(ns:List Int)(w:World)(hT:Kv w)(hB:Bd w b l)(hb16:gB b)(hL:Lst w b v ns)(hok:okI ns)(hlen:l.length+21*ns.length+40<=140737488355328) :
 Calls Tryz.prog 72 #[.pointer (some ⟨b,0,none⟩),.int .i64 k,v] w fun e w'=>e=.returned (.tuple #[])∧Bd w' b (l++Ys k ns)∧Wr w w' b:=by
 rcases hL with⟨rfl,p,cap,rfl⟩ | ⟨sb,so,cap,rfl,hR⟩
 ·exact Zrt k hk b l p cap w hT hB (by omega)
 ·exact Zgb k hk b l sb so cap ns w hT hB hb16 hR hok hlen
set_option maxHeartbeats 4000000
theorem Ybl {a b:Nat}(h:gB a)(hab:a<=b):gB b:=⟨Nat.lt_of_lt_of_le h.1 hab,Nat.lt_of_lt_of_le h.2 hab⟩
structure St (w:World)(x:Nat)(vals:Array Value)(l:List UInt8):Prop where
 tabs:Kv w
 bd:Bd w (x+1) l
 box:∀ i,w.cell? ⟨x,i,none⟩=vals[i]?
 gb:gB (x+1)
theorem St.wr {w w':World}{x:Nat}{vals:Array Value}{l l':List UInt8}(h:St w x vals l)(hw:Wr w w' (x+1))(hb:Bd w' (x+1) l'):St w' x vals l' :=
 ⟨h.tabs.below hw.low h.gb,hb,fun i=>(hw.low.cell (p:=⟨x,i,none⟩) (Nat.lt_succ_self x)).trans (h.box i),h.gb⟩
theorem St.alloc {w:World}{x:Nat}{vals:Array Value}{l:List UInt8}(h:St w x vals l)(o:Obj):St (w.alloc o) x vals l :=
 h.wr (Wr.of_below ((Below.refl _ _).alloc (Nat.le_refl _) o) (Nat.le_of_lt h.bd.lt)) (h.bd.below ((Below.refl _ _).alloc (Nat.le_refl _) o))
theorem Ug (k:Nat)(hk:k<11)(ki:Int)(hki:ki=(k:Int))(sb:Nat)(ns:List Int)(c:Array Value)(hc:c=(ns.map (Value.int .i64)).toArray)(n:Nat)(hn:n=ns.length){x:Nat}{vals:Array Value}{l:List UInt8}(w:World)(S:St w x vals l)(hok:okI ns)(hlen:l.length+21*ns.length+40<=140737488355328)(cap:Nat)(hsb:sb=w.heap.size) :
 Calls Tryz.prog 72 #[.pointer (some ⟨x+1,0,none⟩),.int .i64 ki,.slice (some ⟨sb,0,none⟩) n cap] (w.alloc (.cells c 3)) fun e w'=>e=.returned (.tuple #[])∧St w' x vals (l++Ys k ns)∧Wr w w' (x+1):=by
 subst hn hsb hki;have hx:=S.bd.lt;have hR:Rd (w.alloc (.cells c 3)) (x+1) w.heap.size 0 ns:=by
  refine⟨fun i hi=>?_,Or.inr ⟨by omega,c,(0,0),?_⟩⟩
  ·rw [World.cell?_alloc_at _ _ _ _ rfl,hc]; simp [List.getD,hi]
  ·unfold World.alloc; exact Array.getElem?_push_size
 have S1:=S.alloc (.cells c 3);refine(Zgb k hk (x+1) l w.heap.size 0 cap ns _ S1.tabs S1.bd S1.gb hR hok hlen).mono ?_;rintro e w' ⟨h1,h2,h3⟩;exact⟨h1,S1.wr h3 h2,(Wr.of_below ((Below.refl _ _).alloc (Nat.le_refl _) _) (Nat.le_of_lt hx)).trans h3⟩
theorem Zaa (k:Nat)(hk:k<11)(ki:Int)(hki:ki=(k:Int))(v:Value)(ns:List Int){x:Nat}{vals:Array Value}{l:List UInt8}(w:World)(S:St w x vals l)(hL:Lst w (x+1) v ns)(hok:okI ns)(hlen:l.length+21*ns.length+40<=140737488355328) :
 Calls Tryz.prog 72 #[.pointer (some ⟨x+1,0,none⟩),.int .i64 ki,v] w fun e w'=>e=.returned (.tuple #[])∧St w' x vals (l++Ys k ns)∧Wr w w' (x+1):=by
 subst hki;exact(Yhh k hk (x+1) l v ns w S.tabs S.bd S.gb hL hok hlen).mono fun _ _ ⟨h1,h2,h3⟩=>⟨h1,S.wr h3 h2,h3⟩
theorem Lst.wr {w w':World}{b:Nat}{v:Value}{ns:List Int}(h:Lst w b v ns)(hw:Wr w w' b):Lst w' b v ns:=by
 rcases h with h | ⟨sb,so,cap,e,hR⟩
 ·exact Or.inl h
 ·exact Or.inr ⟨sb,so,cap,e,hR.wr hw⟩
theorem Lst.old {w w':World}{b b':Nat}{v:Value}{ns:List Int}(h:Lst w b v ns)(hb:Below b w w')(hlow:∀ sb so cap,v=.slice (some ⟨sb,so,none⟩) ns.length cap->ns≠[]->sb<b)(hbb:b<=b'):Lst w' b' v ns:=by
 rcases h with h | ⟨sb,so,cap,e,hR⟩
 ·exact Or.inl h
 ·cases ns with
  | nil=>exact Or.inl ⟨rfl,_,_,e⟩
  | cons n r=>have hs:=hlow sb so cap e (by simp);exact Or.inr ⟨sb,so,cap,e,⟨fun i hi=>(hb.cell (p:=⟨sb,so+i,none⟩) hs).trans (hR.cell i hi),Or.inl (by omega)⟩⟩
def Mk (r sp lk t0 t1:Int)(ag rs ss:List Int)(al sh by_:Int)(pr:Bool):List UInt8 :=
 Ys 0 [r]++(Ys 1 [sp]++(Ys 2 [lk]++(Ys 3 [t0,t1]++(Ys 4 ag++(Ys 5 rs++(Ys 6 ss++(Ys 7 [al]++(Ys 8 [sh]++(Ys 9 [by_]++(if pr then Ys 10 [] else []))))))))))
def Zu (r sp lk t0 t1:Int)(va vr vs:Value)(al sh by_:Int)(pr:Bool):Array Value :=
 #[.int .i64 r,.int .i64 sp,.int .i64 lk,.int .i64 t0,.int .i64 t1,va,vr,vs,.int .i64 al,.int .i64 sh,.int .i64 by_,.bool pr]
def okN (n:Int):Prop:=-9223372036854775808<=n∧n<=9223372036854775807
theorem Zbx {n:Int}(h:okN n):okI [n]:=fun x hx=>by simp at hx; subst hx; exact h
theorem Yhi {n m:Int}(h:okN n)(k:okN m):okI [n,m]:=fun x hx=>by
 simp at hx;rcases hx with rfl | rfl
 ·exact h
 ·exact k
theorem Lu (k:Nat){ns:List Int}(h:okI ns):(Ys k ns).length<=21*ns.length+9:=by have h1:=Zmz k;have h2:=Rv k ns h;simp [Ys]; omega
theorem Yfc (r sp lk t0 t1:Int)(va vr vs:Value)(al sh by_:Int)(pr:Bool)(ag rs ss:List Int)(w:World)(hT:Kv w)
 (o0:okN r) (o1:okN sp) (o2:okN lk) (o3:okN t0) (o4:okN t1) (o5:okN al) (o6:okN sh) (o7:okN by_) (oa:okI ag) (orr:okI rs) (os:okI ss)
 (la:∀ w' b,Below w.heap.size w w'->w.heap.size<=b->Lst w' b va ag) (lr:∀ w' b,Below w.heap.size w w'->w.heap.size<=b->Lst w' b vr rs) (ls:∀ w' b,Below w.heap.size w w'->w.heap.size<=b->Lst w' b vs ss)
 (hsm:ag.length+rs.length+ss.length<=4000000) :
 Calls Tryz.prog 46 #[.agg (Zu r sp lk t0 t1 va vr vs al sh by_ pr)] w fun e w'=>e=.returned (.string ⟨(Mk r sp lk t0 t1 ag rs ss al sh by_ pr).toArray⟩)∧Below w.heap.size w w':=by
 have HT:=Zt hT;have HO:=Zt (And.intro o0 (And.intro o1 (And.intro o2 (And.intro o3 (And.intro o4 (And.intro o5 (And.intro o6 o7)))))));have HA:=Zt (And.intro oa (And.intro orr os));have HL:=Zt (And.intro la (And.intro lr ls));clear hT o0 o1 o2 o3 o4 o5 o6 o7 oa orr os la lr ls;have i0:=Lu 0 (Zbx (Zf HO).1);have i1:=Lu 1 (Zbx (Zf HO).2.1);have i2:=Lu 2 (Zbx (Zf HO).2.2.1);have i3:=Lu 3 (Yhi (Zf HO).2.2.2.1 (Zf HO).2.2.2.2.1);have i4:=Lu 4 (Zf HA).1;have i5:=Lu 5 (Zf HA).2.1;have i6:=Lu 6 (Zf HA).2.2;have i7:=Lu 7 (Zbx (Zf HO).2.2.2.2.2.1);have i8:=Lu 8 (Zbx (Zf HO).2.2.2.2.2.2.1);have i9:=Lu 9 (Zbx (Zf HO).2.2.2.2.2.2.2);simp only [List.length_cons,List.length_nil] at i0 i1 i2 i3 i7 i8 i9;have S0:St ((w.alloc (.cells (Zu r sp lk t0 t1 va vr vs al sh by_ pr) 25)).alloc (.cells #[.pointer none,.slice none 0 0] 184)) w.heap.size (Zu r sp lk t0 t1 va vr vs al sh by_ pr) []:=by
  refine⟨?_,?_,fun i=>?_,Ybl (Zf HT).gb (by omega)⟩
  ·exact(Zf HT).below (((Below.refl w.heap.size w).alloc (Nat.le_refl _) _).alloc (by simp) _) (Zf HT).gb
  ·have:=Bd.fresh (w.alloc (.cells (Zu r sp lk t0 t1 va vr vs al sh by_ pr) 25));simpa using this
  ·rw [World.cell?_alloc_lt _ _ ⟨w.heap.size,i,none⟩ (by simp),World.cell?_alloc_at _ _ _ _ rfl]
 have HS0:=Zt S0;clear S0;have HB0:=Zt (((Below.refl w.heap.size w).alloc (Nat.le_refl _) (.cells (Zu r sp lk t0 t1 va vr vs al sh by_ pr) 25)).alloc (by simp) (.cells #[.pointer none,.slice none 0 0] 184));unfold Zu at HS0 HB0 ⊢;go_enter Tryz.func46,Tryz.ntmps46
 go_wp2_with fail
 refine(Ug 0 (by omega) _ rfl _ [r] #[.int .i64 r] rfl 1 rfl _ (Zf HS0) (Zbx (Zf HO).1) (by simp) _ (by simp)).mono ?_;rintro e w1 ⟨rfl,hS,hW⟩;have HS1:=Zt hS;have HB1:=Zt ((Zf HB0).trans (hW.low.mono (by omega)));clear hS hW;have hbx:=(Zf HS1).box;go_wp2_with fail
 clear hbx;refine(Ug 1 (by omega) _ rfl _ [sp] #[.int .i64 sp] rfl 1 rfl _ (Zf HS1) (Zbx (Zf HO).2.1) (by simp; omega) _ (by simp)).mono ?_;rintro e w2 ⟨rfl,hS,hW⟩;have HS2:=Zt hS;have HB2:=Zt ((Zf HB1).trans (hW.low.mono (by omega)));clear hS hW;have hbx:=(Zf HS2).box;go_wp2_with fail
 clear hbx;refine(Ug 2 (by omega) _ rfl _ [lk] #[.int .i64 lk] rfl 1 rfl _ (Zf HS2) (Zbx (Zf HO).2.2.1) (by simp; omega) _ (by simp)).mono ?_;rintro e w3 ⟨rfl,hS,hW⟩;have HS3:=Zt hS;have HB3:=Zt ((Zf HB2).trans (hW.low.mono (by omega)));clear hS hW;have hbx:=(Zf HS3).box;go_wp2_with fail
 clear hbx;refine(Ug 3 (by omega) _ rfl _ [t0,t1] #[.int .i64 t0,.int .i64 t1] rfl 2 rfl _ (Zf HS3) (Yhi (Zf HO).2.2.2.1 (Zf HO).2.2.2.2.1) (by simp; omega) _ (by simp)).mono ?_;rintro e w4 ⟨rfl,hS,hW⟩;have HS4:=Zt hS;have HB4:=Zt ((Zf HB3).trans (hW.low.mono (by omega)));clear hS hW;have hbx:=(Zf HS4).box;go_wp2_with fail
 clear hbx;refine(Zaa 4 (by omega) _ rfl va ag _ (Zf HS4) ((Zf HL).1 _ _ (Zf HB4) (by omega)) ((Zf HA).1) (by simp; omega)).mono ?_;rintro e w5 ⟨rfl,hS,hW⟩;have HS5:=Zt hS;have HB5:=Zt ((Zf HB4).trans (hW.low.mono (by omega)));clear hS hW;have hbx:=(Zf HS5).box;go_wp2_with fail
 clear hbx;refine(Zaa 5 (by omega) _ rfl vr rs _ (Zf HS5) ((Zf HL).2.1 _ _ (Zf HB5) (by omega)) ((Zf HA).2.1) (by simp; omega)).mono ?_;rintro e w6 ⟨rfl,hS,hW⟩;have HS6:=Zt hS;have HB6:=Zt ((Zf HB5).trans (hW.low.mono (by omega)));clear hS hW;have hbx:=(Zf HS6).box;go_wp2_with fail
 clear hbx;refine(Zaa 6 (by omega) _ rfl vs ss _ (Zf HS6) ((Zf HL).2.2 _ _ (Zf HB6) (by omega)) ((Zf HA).2.2) (by simp; omega)).mono ?_;rintro e w7 ⟨rfl,hS,hW⟩;have HS7:=Zt hS;have HB7:=Zt ((Zf HB6).trans (hW.low.mono (by omega)));clear hS hW;have hbx:=(Zf HS7).box;go_wp2_with fail
 clear hbx;refine(Ug 7 (by omega) _ rfl _ [al] #[.int .i64 al] rfl 1 rfl _ (Zf HS7) (Zbx (Zf HO).2.2.2.2.2.1) (by simp; omega) _ (by simp)).mono ?_;rintro e w8 ⟨rfl,hS,hW⟩;have HS8:=Zt hS;have HB8:=Zt ((Zf HB7).trans (hW.low.mono (by omega)));clear hS hW;have hbx:=(Zf HS8).box;go_wp2_with fail
 clear hbx;refine(Ug 8 (by omega) _ rfl _ [sh] #[.int .i64 sh] rfl 1 rfl _ (Zf HS8) (Zbx (Zf HO).2.2.2.2.2.2.1) (by simp; omega) _ (by simp)).mono ?_;rintro e w9 ⟨rfl,hS,hW⟩;have HS9:=Zt hS;have HB9:=Zt ((Zf HB8).trans (hW.low.mono (by omega)));clear hS hW;have hbx:=(Zf HS9).box;go_wp2_with fail
 clear hbx;refine(Ug 9 (by omega) _ rfl _ [by_] #[.int .i64 by_] rfl 1 rfl _ (Zf HS9) (Zbx (Zf HO).2.2.2.2.2.2.2) (by simp; omega) _ (by simp)).mono ?_;rintro e w10 ⟨rfl,hS,hW⟩;have HS10:=Zt hS;have HB10:=Zt ((Zf HB9).trans (hW.low.mono (by omega)));clear hS hW;have hbx:=(Zf HS10).box;cases pr with
 | true =>
  go_wp2_with fail
  clear hbx;refine(Zaa 10 (by omega) _ rfl (.slice none 0 0) [] _ (Zf HS10) (Or.inl ⟨rfl,_,_,rfl⟩) (fun _ h=>by cases h) (by simp; omega)).mono ?_;rintro e w11 ⟨rfl,hS,hW⟩;have HS11:=Zt hS;have HB11:=Zt ((Zf HB10).trans (hW.low.mono (by omega)));clear hS hW;go_wp2_with fail
  refine(Yhf _ _ _ (Zf HS11).bd).mono ?_;rintro e w12 ⟨rfl,hW⟩;have HB12:=Zt ((Zf HB11).trans (hW.low.mono (by omega)));clear hW;go_wp2;go_ret;refine⟨?_,Zf HB12⟩;simp [Mk]
 | false =>
  go_wp2_with fail
  clear hbx;refine(Yhf _ _ _ (Zf HS10).bd).mono ?_;rintro e w12 ⟨rfl,hW⟩;have HB12:=Zt ((Zf HB10).trans (hW.low.mono (by omega)));clear hW;go_wp2;go_ret;refine⟨?_,Zf HB12⟩;simp [Mk]
end Go.Proofs.YtkenknfgeoecbaaGreatDoor
namespace Go.Proofs.YtkenknfgeoecbaaGreatDoor
def Jd (r:Nat):Nat :=
 if r=32∨r=9∨r=10 then 1 else if r=35 then 2 else if 97<=r∧r<=122 then 3 else if 48<=r∧r<=57 then 4 else if r=45 then 5 else if r=59 then 6 else 0
structure Tk where
 k:Nat
 a:Nat
 e:Nat
def Kd (l:List Tk)(k p:Nat):List Tk :=
 match l.getLast? with
 | some t=>if (k=3∨k=4)∧t.k=k∧t.e=p then l.dropLast++[⟨t.k,t.a,p+1⟩] else l++[⟨k,p,p+1⟩]
 | none=>l++[⟨k,p,p+1⟩]
def Lp (s:ByteArray):Nat->Nat->Bool->List Tk->Nat ⊕ List Tk
 | 0,_,_,acc=>.inr acc
 | f+1,p,c,acc =>
  if p<s.size then
   (if c then (if (Utf8.decode s p).1=65533∧(Utf8.decode s p).2=1 then .inl p else Lp s f (p+(Utf8.decode s p).2) (decide ((Utf8.decode s p).1≠10)) acc)
   else if Jd (Utf8.decode s p).1=0 then .inl p
   else if Jd (Utf8.decode s p).1=2 then Lp s f (p+(Utf8.decode s p).2) true acc
   else if Jd (Utf8.decode s p).1=1 then Lp s f (p+(Utf8.decode s p).2) false acc
   else Lp s f (p+(Utf8.decode s p).2) false (Kd acc (Jd (Utf8.decode s p).1) p))
  else .inr acc
theorem Zpo (s:ByteArray)(p:Nat):1<=(Utf8.decode s p).2:=by
 rw [Lib.decode_at];unfold Lib.decodeN;repeat' split
 all_goals simp
theorem Zgf (s:ByteArray)(p:Nat)(h:(s.get! p).toNat<128):Utf8.decode s p=((s.get! p).toNat,1):=by rw [Lib.decode_at];simp [Lib.decodeN,h]
theorem Zwv (s:ByteArray)(p:Nat)(h:128<=(s.get! p).toNat):128<=(Utf8.decode s p).1:=by
 rw [Lib.decode_at];unfold Lib.decodeN;repeat' split
 all_goals first | omega | (simp; omega)
theorem Zww (s:ByteArray)(p:Nat):Jd (Utf8.decode s p).1=Jd (s.get! p).toNat:=by
 by_cases h:(s.get! p).toNat<128
 ·rw [Zgf s p h]
 ·have h1:=Zwv s p (by omega);generalize (Utf8.decode s p).1=r at h1;generalize (s.get! p).toNat=b at h;simp only [Jd];repeat' split
  all_goals first | rfl | (exfalso; omega)
theorem Zwx (s:ByteArray)(f p:Nat)(c:Bool)(acc:List Tk)(h:¬ p<s.size):Lp s f p c acc=.inr acc:=by cases f <;> simp [Lp,h]
theorem Zkr (l:List Tk)(k p:Nat)(h:∀ t,l.getLast?=some t->(k=3∨k=4)->t.k=k->t.e≠p):Kd l k p=l++[⟨k,p,p+1⟩]:=by
 unfold Kd;split
 ·rename_i t ht;rw [if_neg];rintro⟨h1,h2,h3⟩;exact h t ht h1 h2 h3
 ·rfl
end Go.Proofs.YtkenknfgeoecbaaGreatDoor
namespace Go.Proofs.YtkenknfgeoecbaaGreatDoor
open Go.RowKit
set_option maxHeartbeats 1000000
theorem Zwp (r:Nat)(w:World)(hr:r<2147483648) :
 Calls Tryz.prog 108 #[.int .i32 r] w fun e w'=>e=.returned (.int .i64 (Jd r))∧w'=w:=by
 by_cases h1:r=32∨r=9∨r=10
 ·rcases h1 with rfl | rfl | rfl;all_goals
   go_enter Tryz.func108,Tryz.ntmps108
   go_wp2;go_ret;exact⟨rfl,rfl⟩
 ·go_enter Tryz.func108,Tryz.ntmps108
  go_wp2;all_goals go_ret
  all_goals refine⟨?_,rfl⟩
  all_goals simp only [Jd]
  all_goals repeat' split
  all_goals first | rfl | (exfalso; omega) | (exfalso; simp only [beq_iff_eq] at *; omega) | (exfalso; simp at *; omega)
set_option maxHeartbeats 2000000
set_option maxRecDepth 100000
theorem Ze {p:Prop}(h:p):Hid p:=h
theorem Zb {p:Prop}(h:Hid p):p:=h
theorem Xy {P:Program}{t:TypeId}{z:Value}{n b:Nat}(h:(P.info? t).map (fun i=>(i.zero,i.size,i.bytes))=some (some z,n,b)):∃ i,P.info? t=some i∧i.zero=some z∧i.size=n∧i.bytes=b:=by obtain⟨i,hi,e⟩:=Option.map_eq_some_iff.1 h;simp only [Prod.mk.injEq] at e;exact⟨i,hi,e.1,e.2.1,e.2.2⟩
theorem Tryz.infoPc:(Tryz.prog.info? 246).map (fun i=>(i.zero,i.size,i.bytes))=some (some (.agg #[.int .i64 0,.int .i64 0,.int .i64 0]),3,24):=by kernel_rfl
def Xk (l:List Tk):List Value:=l.flatMap fun t=>[.int .i64 t.k,.int .i64 t.a,.int .i64 t.e]
theorem Oi (l:List Tk)(t:Tk):Xk (l++[t])=Xk l++[.int .i64 t.k,.int .i64 t.a,.int .i64 t.e]:=by simp [Xk]
theorem Ml:∀(l:List Tk),(Xk l).length=l.length*3
 | []=>rfl
 | t :: r=>by have:=Ml r; simp only [Xk,List.flatMap_cons,List.length_append,List.length_cons,List.length_nil] at this ⊢; omega
def Yu (w:World)(base:Nat)(v:Value)(l:List Tk):Prop:=w.ownsRow base 246 3 v l.length (Xk l)
theorem Yy {w w':World}{base:Nat}{row:Option Nat}(h:w.grownBy w' row)(hr:∀ k,row=some k->base<=k)(hb:base<=w.heap.size):Below base w w' :=
 ⟨h.os,h.tape,h.output,h.size,fun i hi=>h.block i (by omega) (fun e=>by have:=hr i e.symm; omega)⟩
theorem Yu.shape {w:World}{base:Nat}{v:Value}{l:List Tk}(h:Yu w base v l):(l=[]∧v=.slice none 0 0)∨∃ g cap,v=.slice (some ⟨g,0,none⟩) l.length cap:=by
 rcases h.2 with⟨h1,h2⟩ | ⟨g,cap,cur,h1,-⟩
 ·exact Or.inl ⟨List.eq_nil_of_length_eq_zero h2,h1⟩
 ·exact Or.inr ⟨g,cap,h1⟩
theorem Zkd (w:World)(k p q:Int):∀ j u,([.int .i64 k,.int .i64 p,.int .i64 q]:List Value)[j]?=some u->(w.alloc (.cells #[.int .i64 k,.int .i64 p,.int .i64 q] 246)).cell? ((⟨w.heap.size,0,none⟩:Addr).add j)=some u:=by
 intro j u hj;match j,hj with
 | 0,hj=>simp at hj; subst hj; simp [Addr.add]
 | 1,hj=>simp at hj; subst hj; simp [Addr.add]
 | 2,hj=>simp at hj; subst hj; simp [Addr.add]
theorem Zpj {w:World}{base g cap:Nat}{l:List Tk}{t:Tk}(h:Yu w base (.slice (some ⟨g,0,none⟩) (l.length+1) cap) (l++[t]))(j:Nat)(hj:j<3):w.cell? ⟨g,l.length*3+j,none⟩=([.int .i64 t.k,.int .i64 t.a,.int .i64 t.e]:List Value)[j]?:=by
 have h':w.ownsRow base 246 3 (.slice (some ⟨g,0,none⟩) (l.length+1) cap) (l.length+1) (Xk (l++[t])):=by simpa [Yu] using h
 rw [h'.cellAt (l.length*3+j) (by omega),Oi,List.getElem?_append_right (by rw [Ml]; omega),Ml,Nat.add_sub_cancel_left]
theorem Zaz {w:World}{base g cap:Nat}{l:List Tk}{t:Tk}(h:Yu w base (.slice (some ⟨g,0,none⟩) (l.length+1) cap) (l++[t])):w.cell? ⟨g,l.length*3,none⟩=some (.int .i64 t.k):=Zpj h 0 (by omega)
theorem Zba {w:World}{base g cap:Nat}{l:List Tk}{t:Tk}(h:Yu w base (.slice (some ⟨g,0,none⟩) (l.length+1) cap) (l++[t])):w.cell? ⟨g,l.length*3+2,none⟩=some (.int .i64 t.e):=Zpj h 2 (by omega)
theorem Yu.frozenAt' {w:World}{base g cap:Nat}{l:List Tk}{t:Tk}(h:Yu w base (.slice (some ⟨g,0,none⟩) (l.length+1) cap) (l++[t]))(j:Nat):w.frozen? ⟨g,j,none⟩=false:=by
 have h':w.ownsRow base 246 3 (.slice (some ⟨g,0,none⟩) (l.length+1) cap) (l.length+1) (Xk (l++[t])):=by simpa [Yu] using h
 exact h'.frozenAt j
theorem Zke {w:World}{base g cap:Nat}{l:List Tk}{t:Tk}(h:Yu w base (.slice (some ⟨g,0,none⟩) (l.length+1) cap) (l++[t]))(q:Nat):Yu (w.setCell ⟨g,l.length*3+2,none⟩ (.int .i64 q)) base (.slice (some ⟨g,0,none⟩) (l.length+1) cap) (l++[⟨t.k,t.a,q⟩]):=by
 have h':w.ownsRow base 246 3 (.slice (some ⟨g,0,none⟩) (l.length+1) cap) (l.length+1) (Xk (l++[t])):=by simpa [Yu] using h
 have h2:=(h'.stored (l.length*3+2) (.int .i64 q)).1;have e:(Xk (l++[t])).set (l.length*3+2) (.int .i64 q)=Xk (l++[⟨t.k,t.a,q⟩]):=by rw [Oi,Oi,List.set_append_right _ _ (by rw [Ml]; omega),Ml,Nat.add_sub_cancel_left];rfl
 rw [e] at h2;simpa [Yu] using h2
theorem Zdz {w:World}{base g cap:Nat}{l:List Tk}{t:Tk}(h:Yu w base (.slice (some ⟨g,0,none⟩) (l.length+1) cap) (l++[t]))(q:Nat)(hb:base<=w.heap.size):Below base w (w.setCell ⟨g,l.length*3+2,none⟩ (.int .i64 q)):=by
 have h':w.ownsRow base 246 3 (.slice (some ⟨g,0,none⟩) (l.length+1) cap) (l.length+1) (Xk (l++[t])):=by simpa [Yu] using h
 exact Yy (h'.stored (l.length*3+2) (.int .i64 q)).2 (fun k hk=>by have:=h'.lt g rfl; simp at hk; omega) hb
theorem Nr {w:World}{base:Nat}{v:Value}{l:List Tk}{k p n:Nat}(hn:l.length=n)(h:w.ownsRow base 246 3 v (n+1) (Xk l++[.int .i64 k,.int .i64 p,.int .i64 (p+1)])):Yu w base v (l++[⟨k,p,p+1⟩]):=by unfold Yu;rw [Oi];simpa [hn] using h
theorem Zhl (base:Nat)(a:Option Addr)(cap p:Nat)(w:World)(h:Yu w base (.slice a 0 cap) [])(hp:p<=400)(hb:base<=w.heap.size) :
 Calls Tryz.prog 109 #[.slice a 0 cap,.int .i64 3,.int .i64 p] w fun e w'=>∃ v',e=.returned v'∧Yu w' base v' [⟨3,p,p+1⟩]∧Below base w w':=by
 obtain⟨i0,hi,hz0,hz1,hz2⟩:=Xy Tryz.infoPc;have HH:=Ze h;clear h;go_enter Tryz.func109,Tryz.ntmps109
 go_wp2_with (at_builtin; refine wpList_append_own _ rfl _ _ 173 rfl base 246 i0 _ 3 24 Tryz.underlying173 hi hz0 hz1 hz2 rfl (by decide) _ _ _ rfl ((Zb HH).alloc _) ⟨w.heap.size,0,none⟩ 1 1 [.int .i64 3,.int .i64 p,.int .i64 (p+1)] rfl rfl (Zkd w 3 p (p+1)) (by intro u hu; simp at hu; rcases hu with rfl | rfl | rfl <;> rfl) ?c3 ?c4 ?c5 ?_)
 case c3=>first | (simp [maxLen]; done) | (unfold maxLen; omega) | (unfold maxLen; simp only [List.length_append,List.length_cons,List.length_nil]; omega)
 case c4=>first | (simp; done) | omega | (simp only [List.length_append,List.length_cons,List.length_nil]; omega)
 case c5=>simp; omega
 intro v' w' hown hgr _;have HR:=Ze (Nr (l:=[]) (k:=3) (p:=p) (by first | rfl | exact hn | exact hln) hown);have HG:=Ze (((Below.refl base w).alloc hb _).trans (Yy hgr (fun j hj=>((Zb HH).lt j hj).1) (by simp; omega):Below base _ w'));clear hown hgr;go_wp2;go_ret;exact⟨_,rfl,Zb HR,Zb HG⟩
theorem Zhm (base:Nat)(a:Option Addr)(cap p:Nat)(w:World)(h:Yu w base (.slice a 0 cap) [])(hp:p<=400)(hb:base<=w.heap.size) :
 Calls Tryz.prog 109 #[.slice a 0 cap,.int .i64 4,.int .i64 p] w fun e w'=>∃ v',e=.returned v'∧Yu w' base v' [⟨4,p,p+1⟩]∧Below base w w':=by
 obtain⟨i0,hi,hz0,hz1,hz2⟩:=Xy Tryz.infoPc;have HH:=Ze h;clear h;go_enter Tryz.func109,Tryz.ntmps109
 go_wp2_with (at_builtin; refine wpList_append_own _ rfl _ _ 173 rfl base 246 i0 _ 3 24 Tryz.underlying173 hi hz0 hz1 hz2 rfl (by decide) _ _ _ rfl ((Zb HH).alloc _) ⟨w.heap.size,0,none⟩ 1 1 [.int .i64 4,.int .i64 p,.int .i64 (p+1)] rfl rfl (Zkd w 4 p (p+1)) (by intro u hu; simp at hu; rcases hu with rfl | rfl | rfl <;> rfl) ?c3 ?c4 ?c5 ?_)
 case c3=>first | (simp [maxLen]; done) | (unfold maxLen; omega) | (unfold maxLen; simp only [List.length_append,List.length_cons,List.length_nil]; omega)
 case c4=>first | (simp; done) | omega | (simp only [List.length_append,List.length_cons,List.length_nil]; omega)
 case c5=>simp; omega
 intro v' w' hown hgr _;have HR:=Ze (Nr (l:=[]) (k:=4) (p:=p) (by first | rfl | exact hn | exact hln) hown);have HG:=Ze (((Below.refl base w).alloc hb _).trans (Yy hgr (fun j hj=>((Zb HH).lt j hj).1) (by simp; omega):Below base _ w'));clear hown hgr;go_wp2;go_ret;exact⟨_,rfl,Zb HR,Zb HG⟩
theorem Zna (base g cap p:Nat)(l:List Tk)(t:Tk)(w:World)(h:Yu w base (.slice (some ⟨g,0,none⟩) (l.length+1) cap) (l++[t]))(hl:l.length<=400)(hp:p<=400)(hb:base<=w.heap.size)(hk:(t.k:Int)≠3) :
 Calls Tryz.prog 109 #[.slice (some ⟨g,0,none⟩) (l.length+1) cap,.int .i64 3,.int .i64 p] w fun e w'=>∃ v',e=.returned v'∧Yu w' base v' (l++[t]++[⟨3,p,p+1⟩])∧Below base w w':=by
 obtain⟨i0,hi,hz0,hz1,hz2⟩:=Xy Tryz.infoPc;have ck:=Zaz h;have ce:=Zba h;have hln:(l++[t]).length=l.length+1:=by simp
 have HH:=Ze h;clear h;generalize t.e=te at *;generalize hn:l.length=n at *;go_enter Tryz.func109,Tryz.ntmps109
 go_wp2_with (at_builtin; refine wpList_append_own _ rfl _ _ 173 rfl base 246 i0 _ 3 24 Tryz.underlying173 hi hz0 hz1 hz2 rfl (by decide) _ _ _ rfl ((Zb HH).alloc _) ⟨w.heap.size,0,none⟩ 1 1 [.int .i64 3,.int .i64 p,.int .i64 (p+1)] rfl rfl (Zkd w 3 p (p+1)) (by intro u hu; simp at hu; rcases hu with rfl | rfl | rfl <;> rfl) ?c3 ?c4 ?c5 ?_)
 case c3=>first | (simp [maxLen]; done) | (unfold maxLen; omega) | (unfold maxLen; simp only [List.length_append,List.length_cons,List.length_nil]; omega)
 case c4=>first | (simp; done) | omega | (simp only [List.length_append,List.length_cons,List.length_nil]; omega)
 case c5=>simp; omega
 intro v' w' hown hgr _;have HR:=Ze (Nr (l:=l++[t]) (k:=3) (p:=p) (by first | rfl | exact hn | exact hln) hown);have HG:=Ze (((Below.refl base w).alloc hb _).trans (Yy hgr (fun j hj=>((Zb HH).lt j hj).1) (by simp; omega):Below base _ w'));clear hown hgr;go_wp2;go_ret;exact⟨_,rfl,Zb HR,Zb HG⟩
theorem Znb (base g cap p:Nat)(l:List Tk)(t:Tk)(w:World)(h:Yu w base (.slice (some ⟨g,0,none⟩) (l.length+1) cap) (l++[t]))(hl:l.length<=400)(hp:p<=400)(hb:base<=w.heap.size)(hk:t.k=3)(he:(t.e:Int)≠p) :
 Calls Tryz.prog 109 #[.slice (some ⟨g,0,none⟩) (l.length+1) cap,.int .i64 3,.int .i64 p] w fun e w'=>∃ v',e=.returned v'∧Yu w' base v' (l++[t]++[⟨3,p,p+1⟩])∧Below base w w':=by
 obtain⟨i0,hi,hz0,hz1,hz2⟩:=Xy Tryz.infoPc;have ck:=Zaz h;have ce:=Zba h;have hln:(l++[t]).length=l.length+1:=by simp
 have HH:=Ze h;clear h;rw [hk] at ck;generalize t.e=te at *;generalize hn:l.length=n at *;go_enter Tryz.func109,Tryz.ntmps109
 go_wp2_with (at_builtin; refine wpList_append_own _ rfl _ _ 173 rfl base 246 i0 _ 3 24 Tryz.underlying173 hi hz0 hz1 hz2 rfl (by decide) _ _ _ rfl ((Zb HH).alloc _) ⟨w.heap.size,0,none⟩ 1 1 [.int .i64 3,.int .i64 p,.int .i64 (p+1)] rfl rfl (Zkd w 3 p (p+1)) (by intro u hu; simp at hu; rcases hu with rfl | rfl | rfl <;> rfl) ?c3 ?c4 ?c5 ?_)
 case c3=>first | (simp [maxLen]; done) | (unfold maxLen; omega) | (unfold maxLen; simp only [List.length_append,List.length_cons,List.length_nil]; omega)
 case c4=>first | (simp; done) | omega | (simp only [List.length_append,List.length_cons,List.length_nil]; omega)
 case c5=>simp; omega
 intro v' w' hown hgr _;have HR:=Ze (Nr (l:=l++[t]) (k:=3) (p:=p) (by first | rfl | exact hn | exact hln) hown);have HG:=Ze (((Below.refl base w).alloc hb _).trans (Yy hgr (fun j hj=>((Zb HH).lt j hj).1) (by simp; omega):Below base _ w'));clear hown hgr;go_wp2;go_ret;exact⟨_,rfl,Zb HR,Zb HG⟩
theorem Zkf (base g cap p:Nat)(l:List Tk)(t:Tk)(w:World)(h:Yu w base (.slice (some ⟨g,0,none⟩) (l.length+1) cap) (l++[t]))(hl:l.length<=400)(hp:p<=400)(hb:base<=w.heap.size)(hk:t.k=3)(he:t.e=p) :
 Calls Tryz.prog 109 #[.slice (some ⟨g,0,none⟩) (l.length+1) cap,.int .i64 3,.int .i64 p] w fun e w'=>∃ v',e=.returned v'∧Yu w' base v' (l++[⟨t.k,t.a,p+1⟩])∧Below base w w':=by
 have ck:=Zaz h;have ce:=Zba h;have hfz:=h.frozenAt' (l.length*3+2);have HR:=Ze (Zke h (p+1));have HG:=Ze (Zdz h (p+1) hb);clear h;rw [hk] at ck;rw [he] at ce;generalize hn:l.length=n at *;go_enter Tryz.func109,Tryz.ntmps109
 go_wp2;go_ret;exact⟨_,rfl,Zb HR,Zb HG⟩
theorem Znc (base g cap p:Nat)(l:List Tk)(t:Tk)(w:World)(h:Yu w base (.slice (some ⟨g,0,none⟩) (l.length+1) cap) (l++[t]))(hl:l.length<=400)(hp:p<=400)(hb:base<=w.heap.size)(hk:(t.k:Int)≠4) :
 Calls Tryz.prog 109 #[.slice (some ⟨g,0,none⟩) (l.length+1) cap,.int .i64 4,.int .i64 p] w fun e w'=>∃ v',e=.returned v'∧Yu w' base v' (l++[t]++[⟨4,p,p+1⟩])∧Below base w w':=by
 obtain⟨i0,hi,hz0,hz1,hz2⟩:=Xy Tryz.infoPc;have ck:=Zaz h;have ce:=Zba h;have hln:(l++[t]).length=l.length+1:=by simp
 have HH:=Ze h;clear h;generalize t.e=te at *;generalize hn:l.length=n at *;go_enter Tryz.func109,Tryz.ntmps109
 go_wp2_with (at_builtin; refine wpList_append_own _ rfl _ _ 173 rfl base 246 i0 _ 3 24 Tryz.underlying173 hi hz0 hz1 hz2 rfl (by decide) _ _ _ rfl ((Zb HH).alloc _) ⟨w.heap.size,0,none⟩ 1 1 [.int .i64 4,.int .i64 p,.int .i64 (p+1)] rfl rfl (Zkd w 4 p (p+1)) (by intro u hu; simp at hu; rcases hu with rfl | rfl | rfl <;> rfl) ?c3 ?c4 ?c5 ?_)
 case c3=>first | (simp [maxLen]; done) | (unfold maxLen; omega) | (unfold maxLen; simp only [List.length_append,List.length_cons,List.length_nil]; omega)
 case c4=>first | (simp; done) | omega | (simp only [List.length_append,List.length_cons,List.length_nil]; omega)
 case c5=>simp; omega
 intro v' w' hown hgr _;have HR:=Ze (Nr (l:=l++[t]) (k:=4) (p:=p) (by first | rfl | exact hn | exact hln) hown);have HG:=Ze (((Below.refl base w).alloc hb _).trans (Yy hgr (fun j hj=>((Zb HH).lt j hj).1) (by simp; omega):Below base _ w'));clear hown hgr;go_wp2;go_ret;exact⟨_,rfl,Zb HR,Zb HG⟩
theorem Znd (base g cap p:Nat)(l:List Tk)(t:Tk)(w:World)(h:Yu w base (.slice (some ⟨g,0,none⟩) (l.length+1) cap) (l++[t]))(hl:l.length<=400)(hp:p<=400)(hb:base<=w.heap.size)(hk:t.k=4)(he:(t.e:Int)≠p) :
 Calls Tryz.prog 109 #[.slice (some ⟨g,0,none⟩) (l.length+1) cap,.int .i64 4,.int .i64 p] w fun e w'=>∃ v',e=.returned v'∧Yu w' base v' (l++[t]++[⟨4,p,p+1⟩])∧Below base w w':=by
 obtain⟨i0,hi,hz0,hz1,hz2⟩:=Xy Tryz.infoPc;have ck:=Zaz h;have ce:=Zba h;have hln:(l++[t]).length=l.length+1:=by simp
 have HH:=Ze h;clear h;rw [hk] at ck;generalize t.e=te at *;generalize hn:l.length=n at *;go_enter Tryz.func109,Tryz.ntmps109
 go_wp2_with (at_builtin; refine wpList_append_own _ rfl _ _ 173 rfl base 246 i0 _ 3 24 Tryz.underlying173 hi hz0 hz1 hz2 rfl (by decide) _ _ _ rfl ((Zb HH).alloc _) ⟨w.heap.size,0,none⟩ 1 1 [.int .i64 4,.int .i64 p,.int .i64 (p+1)] rfl rfl (Zkd w 4 p (p+1)) (by intro u hu; simp at hu; rcases hu with rfl | rfl | rfl <;> rfl) ?c3 ?c4 ?c5 ?_)
 case c3=>first | (simp [maxLen]; done) | (unfold maxLen; omega) | (unfold maxLen; simp only [List.length_append,List.length_cons,List.length_nil]; omega)
 case c4=>first | (simp; done) | omega | (simp only [List.length_append,List.length_cons,List.length_nil]; omega)
 case c5=>simp; omega
 intro v' w' hown hgr _;have HR:=Ze (Nr (l:=l++[t]) (k:=4) (p:=p) (by first | rfl | exact hn | exact hln) hown);have HG:=Ze (((Below.refl base w).alloc hb _).trans (Yy hgr (fun j hj=>((Zb HH).lt j hj).1) (by simp; omega):Below base _ w'));clear hown hgr;go_wp2;go_ret;exact⟨_,rfl,Zb HR,Zb HG⟩
theorem Zkg (base g cap p:Nat)(l:List Tk)(t:Tk)(w:World)(h:Yu w base (.slice (some ⟨g,0,none⟩) (l.length+1) cap) (l++[t]))(hl:l.length<=400)(hp:p<=400)(hb:base<=w.heap.size)(hk:t.k=4)(he:t.e=p) :
 Calls Tryz.prog 109 #[.slice (some ⟨g,0,none⟩) (l.length+1) cap,.int .i64 4,.int .i64 p] w fun e w'=>∃ v',e=.returned v'∧Yu w' base v' (l++[⟨t.k,t.a,p+1⟩])∧Below base w w':=by
 have ck:=Zaz h;have ce:=Zba h;have hfz:=h.frozenAt' (l.length*3+2);have HR:=Ze (Zke h (p+1));have HG:=Ze (Zdz h (p+1) hb);clear h;rw [hk] at ck;rw [he] at ce;generalize hn:l.length=n at *;go_enter Tryz.func109,Tryz.ntmps109
 go_wp2;go_ret;exact⟨_,rfl,Zb HR,Zb HG⟩
theorem Zhn (base n cap p:Nat)(a:Option Addr)(l:List Tk)(w:World)(h:Yu w base (.slice a n cap) l)(hn:l.length=n)(hl:n<=401)(hp:p<=400)(hb:base<=w.heap.size) :
 Calls Tryz.prog 109 #[.slice a n cap,.int .i64 5,.int .i64 p] w fun e w'=>∃ v',e=.returned v'∧Yu w' base v' (l++[⟨5,p,p+1⟩])∧Below base w w':=by
 obtain⟨i0,hi,hz0,hz1,hz2⟩:=Xy Tryz.infoPc;have HH:=Ze h;clear h;go_enter Tryz.func109,Tryz.ntmps109
 go_wp2_with (at_builtin; refine wpList_append_own _ rfl _ _ 173 rfl base 246 i0 _ 3 24 Tryz.underlying173 hi hz0 hz1 hz2 rfl (by decide) _ _ _ rfl ((Zb HH).alloc _) ⟨w.heap.size,0,none⟩ 1 1 [.int .i64 5,.int .i64 p,.int .i64 (p+1)] rfl rfl (Zkd w 5 p (p+1)) (by intro u hu; simp at hu; rcases hu with rfl | rfl | rfl <;> rfl) ?c3 ?c4 ?c5 ?_)
 case c3=>first | (simp [maxLen]; done) | (unfold maxLen; omega) | (unfold maxLen; simp only [List.length_append,List.length_cons,List.length_nil]; omega)
 case c4=>first | (simp; done) | omega | (simp only [List.length_append,List.length_cons,List.length_nil]; omega)
 case c5=>simp; omega
 intro v' w' hown hgr _;have HR:=Ze (Nr (l:=l) (k:=5) (p:=p) (by first | rfl | exact hn | exact hln) hown);have HG:=Ze (((Below.refl base w).alloc hb _).trans (Yy hgr (fun j hj=>((Zb HH).lt j hj).1) (by simp; omega):Below base _ w'));clear hown hgr;go_wp2;go_ret;exact⟨_,rfl,Zb HR,Zb HG⟩
theorem Zho (base n cap p:Nat)(a:Option Addr)(l:List Tk)(w:World)(h:Yu w base (.slice a n cap) l)(hn:l.length=n)(hl:n<=401)(hp:p<=400)(hb:base<=w.heap.size) :
 Calls Tryz.prog 109 #[.slice a n cap,.int .i64 6,.int .i64 p] w fun e w'=>∃ v',e=.returned v'∧Yu w' base v' (l++[⟨6,p,p+1⟩])∧Below base w w':=by
 obtain⟨i0,hi,hz0,hz1,hz2⟩:=Xy Tryz.infoPc;have HH:=Ze h;clear h;go_enter Tryz.func109,Tryz.ntmps109
 go_wp2_with (at_builtin; refine wpList_append_own _ rfl _ _ 173 rfl base 246 i0 _ 3 24 Tryz.underlying173 hi hz0 hz1 hz2 rfl (by decide) _ _ _ rfl ((Zb HH).alloc _) ⟨w.heap.size,0,none⟩ 1 1 [.int .i64 6,.int .i64 p,.int .i64 (p+1)] rfl rfl (Zkd w 6 p (p+1)) (by intro u hu; simp at hu; rcases hu with rfl | rfl | rfl <;> rfl) ?c3 ?c4 ?c5 ?_)
 case c3=>first | (simp [maxLen]; done) | (unfold maxLen; omega) | (unfold maxLen; simp only [List.length_append,List.length_cons,List.length_nil]; omega)
 case c4=>first | (simp; done) | omega | (simp only [List.length_append,List.length_cons,List.length_nil]; omega)
 case c5=>simp; omega
 intro v' w' hown hgr _;have HR:=Ze (Nr (l:=l) (k:=6) (p:=p) (by first | rfl | exact hn | exact hln) hown);have HG:=Ze (((Below.refl base w).alloc hb _).trans (Yy hgr (fun j hj=>((Zb HH).lt j hj).1) (by simp; omega):Below base _ w'));clear hown hgr;go_wp2;go_ret;exact⟨_,rfl,Zb HR,Zb HG⟩
end Go.Proofs.YtkenknfgeoecbaaGreatDoor
