import Derived.Test.YtkenknfgeoecbaaGreatDoorJ5
namespace Go.Proofs.YtkenknfgeoecbaaGreatDoor
open Go.RowKit
set_option maxHeartbeats 2000000
set_option maxRecDepth 100000
def Zav (l:List UInt8):Nat:=l.foldl (fun v b=>10*v+(b.toNat-48)) 0
theorem Zfe (l:List UInt8)(b:UInt8):Zav (l++[b])=10*Zav l+(b.toNat-48):=by simp [Zav]
theorem Zpe:∀(n:Nat) (l:List UInt8),l.length=n->(∀ b ∈ l,48<=b.toNat∧b.toNat<=57)->Zav l<10 ^ n
 | 0,l,h,_=>by
  have:l=[]:=List.eq_nil_of_length_eq_zero h;subst this; decide
 | n+1,l,h,hb=>by
  rcases Zpc l with rfl | ⟨l0,t,rfl⟩
  ·simp at h
  ·have h1:=Zpe n l0 (by simpa using h) (fun b hb'=>hb b (by simp [hb']));have h2:=hb t (by simp);rw [Zfe,Nat.pow_succ];omega
theorem Zjs (t:List UInt8)(w:World)(hI:Zjg w) :
 Calls Tryz.prog 224 #[.string ⟨t.toArray⟩] w fun e w'=>w'=w∧((∃ k,k<11∧nm k=t∧e=.returned (.int .i64 k))∨((∀ k,k<11->nm k≠t)∧e=.returned (.int .i64 (-1)))):=by
 have HI:=Ze hI;clear hI;go_enter Tryz.func224,Tryz.ntmps224
 go_wp2_with fail
 go_loopw [4] (fun j w2=>∃ k:Nat,j=.int .i64 k∧w2=w∧k<=11∧∀ i,i<k->nm i≠t) (fun j _=>11-(intOf j).toNat)
 case atStart=>exact⟨0,rfl,rfl,by omega,fun i hi=>by omega⟩
 case round =>
  obtain⟨k,rfl,rfl,hk,hno⟩:=hrel;by_cases hk2:k<11
  ·have hc:=(Zb HI k hk2).1;by_cases hn:nm k=t
   ·rw [hn] at hc;have HN:=Ze hno;clear hno;go_wp2;go_ret;exact⟨rfl,Or.inl ⟨k,hk2,hn,rfl⟩⟩
   ·have HN:=Ze hno;clear hno;have hse:(nm k==t)=false:=by simpa using hn
    go_wp2;go_roundw
    case rel=>exact⟨k+1,by go_num,by trivial,by omega,fun i hi=>by
     rcases Nat.lt_succ_iff_lt_or_eq.1 hi with h | h
     ·exact Zb HN i h
     ·subst h; exact hn⟩
    case measure=>simp [intOf]; omega
  ·have hk3:k=11:=by omega
   subst hk3;have HN:=Ze hno;clear hno;go_wp2;go_ret;exact⟨rfl,Or.inr ⟨Zb HN,rfl⟩⟩
theorem Zri (s:ByteArray)(w:World)(hs:s.size<=3)(hd:∀ i,i<s.size->48<=(s.get! i).toNat∧(s.get! i).toNat<=57) :
 Calls Tryz.prog 291 #[.string s] w fun e w'=>e=.returned (.int .i64 (Zav s.data.toList))∧Below w.heap.size w w':=by
 have HD:=Ze hd;have hsl:s.data.toList.length=s.size:=Array.length_toList;clear hd;go_enter Tryz.func291,Tryz.ntmps291
 go_wp2_with fail
 go_loopw [3] (fun v wr=>∃ q:Nat,q<=s.size∧v=.int .i64 (Zav (s.data.toList.take q))∧wr.heap[w.heap.size]?=some (.stringIter s q)∧Below w.heap.size w wr) (fun _ wr=>s.size-wr.iterPos w.heap.size)
 case atStart=>exact⟨0,by omega,rfl,heap_alloc_new w _,(Below.refl _ _).alloc (Nat.le_refl _) _⟩
 case round =>
  obtain⟨q,hq,rfl,hit,hb⟩:=hrel;by_cases hp:q<s.size
  ·have hgq:=Zb HD q hp;have hda:=Zfh s q (by omega);have hnx:∀ ty,(Instr.next (.pointer (some ⟨w.heap.size,0,none⟩)) true ty).run Tryz.prog _=.ok (.tuple #[.bool true,.int .i64 q,.int .i32 (s.get! q).toNat]) _:=fun ty=>by have:=Lib.run_next_any_at (P:=Tryz.prog) _ w.heap.size s q ty hit hp; rw [hda] at this; exact this
   have hm:=iterPos_of hit;have G1:=Ze (Lib.iterAt_heap _ _ s _ (q+1) hit);have hm2:=iterPos_of (Zb G1);have G2:=Ze (Lib.below_iterAt hb (Nat.le_refl _) s (q+1));have hv:Zav (s.data.toList.take (q+1))=10*Zav (s.data.toList.take q)+((s.get! q).toNat-48):=by rw [List.take_succ_eq_append_getElem (by omega),Zfe];rw [Utf8W.get!_of_lt s q hp];rfl
   have hlt:=Zpe q (s.data.toList.take q) (by simp; omega) (fun b hb'=>by
    obtain⟨i,hi⟩:=List.getElem?_of_mem (List.mem_of_mem_take hb');have hi2:i<s.size:=by have:=(List.getElem?_eq_some_iff.1 hi).1;omega
    have h:=Zb HD i hi2;rw [Utf8W.get!_of_lt s i hi2] at h;have e:s[i]'hi2=b:=by have:=(List.getElem?_eq_some_iff.1 hi).2;simp at this;exact this
    rw [e] at h; exact h)
   have hlt2:Zav (s.data.toList.take q)<1000:=by have:10 ^ q<=10 ^ 2:=Nat.pow_le_pow_right (by decide) (by omega);omega
   have HV:=Ze hv;clear hv hit hb hda hlt;generalize Zav (s.data.toList.take q)=V at *;generalize (s.get! q).toNat=B at *;go_wp2;go_roundw
   case rel=>exact⟨q+1,hp,by rw [Zb HV]; go_num,Zb G1,Zb G2⟩
   case measure=>omega
  ·obtain rfl:q=s.size:=by omega
   have hnx:∀ ty,(Instr.next (.pointer (some ⟨w.heap.size,0,none⟩)) true ty).run Tryz.prog _=_:=fun ty=>Lib.run_next_end_at _ w.heap.size s _ ty hit hp;have HB:=Ze hb;clear hb;have ht:s.data.toList.take s.size=s.data.toList:=by rw [← hsl]; exact List.take_length
   rw [ht];go_wp2;go_ret;exact⟨rfl,Zb HB⟩
theorem Yag (s:ByteArray)(p:Nat)(hp:p<s.size):p+(Utf8.decode s p).2<=s.size:=by
 rw [Lib.decode_at];unfold Lib.decodeN;repeat' split
 all_goals first | omega | (simp; omega)
def Shut (s:ByteArray)(l:List Tk)(pos:Nat):Prop:=∀ t,l.getLast?=some t->t.e<=pos∧(t.e=pos->pos<s.size->(t.k=3∨t.k=4)->Xx (s.get! pos).toNat≠t.k)
theorem Shut.on {s:ByteArray}{l:List Tk}{pos q:Nat}(h:Shut s l pos)(hq:pos<q):Shut s l q:=fun t ht=>⟨by have:=(h t ht).1; omega,fun e=>by have:=(h t ht).1; omega⟩
theorem Shut.new {s:ByteArray}{l:List Tk}{pos:Nat}(h:Shut s l pos)(hp:pos<s.size):Sg l (Xx (s.get! pos).toNat) pos=l++[⟨Xx (s.get! pos).toNat,pos,pos+1⟩] :=
 Zjv l _ pos (fun t ht h3 hk he=>(h t ht).2 he hp (by omega) hk.symm)
theorem Zrn (s:ByteArray)(i j:Nat)(h1:i<=j)(h2:j<=s.size)(w:World):(Instr.slice 9 (.string s) (some (.int .i64 (i:Int))) (some (.int .i64 (j:Int))) none).run Tryz.prog w=.ok (.string (s.extract i j)) w:=by have:=run_slice_string (P:=Tryz.prog) (w:=w) 9 s .i64 .i64 i j Tryz.underlying9 (by omega) (by omega) (by omega);simpa using this
theorem Zvu {b:Nat}(h:Xx b=4):48<=b∧b<=57:=by
 unfold Xx at h;repeat' split at h
 all_goals omega
set_option maxHeartbeats 2000000
set_option maxRecDepth 100000
def WfT (s:ByteArray)(l:List Tk):Prop:=∀ t ∈ l,t.a<t.e∧t.e<=s.size∧3<=t.k∧t.k<=6∧∀ i,t.a<=i->i<t.e->Xx (s.get! i).toNat=t.k
structure So (w:World)(b:Nat)(s:ByteArray)(v:Value)(i:Nat)(sn:Nat->Bool)(vs:Nat->Value):Prop where
 txt:w.cell? ⟨b,0,none⟩=some (.string s)
 pcs:w.cell? ⟨b,1,none⟩=some v
 nxt:w.cell? ⟨b,2,none⟩=some (.int .i64 i)
 seen:∀ k,k<11->w.cell? ⟨b,3+k,none⟩=some (.bool (sn k))
 vals:∀ k,k<11->w.cell? ⟨b,14+k,none⟩=some (vs k)
 frz:∀ j,w.frozen? ⟨b,j,none⟩=false
theorem Cm {w:World}{base g cap:Nat}{l:List Tk}{i:Nat}{t:Tk}(h:Yt w base (.slice (some ⟨g,0,none⟩) l.length cap) l)(ht:l[i]?=some t)(j:Nat)(hj:j<3):w.cell? ⟨g,i*3+j,none⟩=([.int .i64 t.k,.int .i64 t.a,.int .i64 t.e]:List Value)[j]?:=by
 obtain⟨hi,rfl⟩:=List.getElem?_eq_some_iff.1 ht;have e:l=l.take i++[l[i]]++l.drop (i+1):=by rw [List.append_assoc,List.singleton_append,List.getElem_cons_drop,List.take_append_drop]
 have h1:(Xf l)[i*3+j]?=([.int .i64 (l[i]).k,.int .i64 (l[i]).a,.int .i64 (l[i]).e]:List Value)[j]?:=by
  have hl:(Xf (l.take i)).length=i*3:=by rw [Lu]; simp; omega
  have h3:Xf l=Xf (l.take i)++([.int .i64 (l[i]).k,.int .i64 (l[i]).a,.int .i64 (l[i]).e]++Xf (l.drop (i+1))):=by have h4:=congrArg Xf e;simp only [Xf,List.flatMap_append,List.flatMap_cons,List.flatMap_nil,List.append_nil,List.append_assoc] at h4 ⊢;exact h4
  rw [h3];rw [List.getElem?_append_right (by omega),hl,Nat.add_sub_cancel_left,List.getElem?_append_left (by simpa using hj)]
 have h2:w.ownsRow base 246 3 (.slice (some ⟨g,0,none⟩) l.length cap) l.length (Xf l):=h;rw [h2.cellAt (i*3+j) (by omega),h1]
theorem Zrl (w:World)(b base:Nat)(s:ByteArray)(v:Value)(sn:Nat->Bool)(vs:Nat->Value)(l:List Tk)(h:So w b s v l.length sn vs)(ho:Yt w base v l)(hl:l.length<=400) :
 Calls Tryz.prog 70 #[.pointer (some ⟨b,0,none⟩)] w fun e w'=>e=.returned (.int .i64 s.size)∧Below w.heap.size w w':=by
 have c0:=h.txt;have c1:=h.pcs;have c2:=h.nxt;obtain⟨a,cap,rfl⟩:∃ a cap,v=.slice a l.length cap:=by
  rcases ho.shape with⟨e,rfl⟩ | ⟨g,cap,rfl⟩
  ·subst e; exact⟨_,_,rfl⟩
  ·exact⟨_,_,rfl⟩
 clear h ho;go_enter Tryz.func70,Tryz.ntmps70
 go_wp2;go_region
 all_goals go_wp2
 all_goals go_ret
 all_goals exact⟨rfl,by go_grown⟩
theorem Zvp (w:World)(b base:Nat)(s:ByteArray)(v:Value)(i:Nat)(sn:Nat->Bool)(vs:Nat->Value)(l:List Tk)(t:Tk)(h:So w b s v i sn vs)(ho:Yt w base v l)(hl:l.length<=400)(ht:l[i]?=some t) :
 Calls Tryz.prog 70 #[.pointer (some ⟨b,0,none⟩)] w fun e w'=>e=.returned (.int .i64 t.a)∧Below w.heap.size w w':=by
 have c0:=h.txt;have c1:=h.pcs;have c2:=h.nxt;have hi:i<l.length:=(List.getElem?_eq_some_iff.1 ht).1;obtain⟨g,cap,rfl⟩:∃ g cap,v=.slice (some ⟨g,0,none⟩) l.length cap:=by
  rcases ho.shape with⟨e,rfl⟩ | ⟨g,cap,rfl⟩
  ·subst e; simp at hi
  ·exact⟨_,_,rfl⟩
 have d1:w.cell? ⟨g,i*3+1,none⟩=some (.int .i64 t.a):=Cm ho ht 1 (by omega);clear h ho;generalize hn:l.length=n at *;go_enter Tryz.func70,Tryz.ntmps70
 go_wp2;go_region
 all_goals go_wp2
 all_goals go_region
 all_goals go_wp2
 all_goals go_ret
 all_goals exact⟨rfl,by go_grown⟩
theorem Zvq (w:World)(b base:Nat)(s:ByteArray)(v:Value)(sn:Nat->Bool)(vs:Nat->Value)(l:List Tk)(h:So w b s v l.length sn vs)(ho:Yt w base v l)(hl:l.length<=400) :
 Calls Tryz.prog 223 #[.pointer (some ⟨b,0,none⟩)] w fun e w'=>e=.returned (.tuple #[.int .i64 0,.string ⟨#[]⟩])∧Below w.heap.size w w':=by
 have c1:=h.pcs;have c2:=h.nxt;obtain⟨a,cap,rfl⟩:∃ a cap,v=.slice a l.length cap:=by
  rcases ho.shape with⟨e,rfl⟩ | ⟨g,cap,rfl⟩
  ·subst e; exact⟨_,_,rfl⟩
  ·exact⟨_,_,rfl⟩
 clear h ho;go_enter Tryz.func223,Tryz.ntmps223
 go_wp2;go_region
 all_goals go_wp2
 all_goals go_ret2
 all_goals exact⟨rfl,by go_grown⟩
theorem Yad (w:World)(b base:Nat)(s:ByteArray)(v:Value)(i:Nat)(sn:Nat->Bool)(vs:Nat->Value)(l:List Tk)(t:Tk)(h:So w b s v i sn vs)(ho:Yt w base v l)(hl:l.length<=400)(ht:l[i]?=some t)(hw:WfT s l) :
 Calls Tryz.prog 223 #[.pointer (some ⟨b,0,none⟩)] w fun e w'=>e=.returned (.tuple #[.int .i64 t.k,.string (s.extract t.a t.e)])∧Below w.heap.size w w':=by
 have c0:=h.txt;have c1:=h.pcs;have c2:=h.nxt;have hi:i<l.length:=(List.getElem?_eq_some_iff.1 ht).1;obtain⟨g,cap,rfl⟩:∃ g cap,v=.slice (some ⟨g,0,none⟩) l.length cap:=by
  rcases ho.shape with⟨e,rfl⟩ | ⟨g,cap,rfl⟩
  ·subst e; simp at hi
  ·exact⟨_,_,rfl⟩
 have d0:w.cell? ⟨g,i*3,none⟩=some (.int .i64 t.k):=Cm ho ht 0 (by omega);have d1:w.cell? ⟨g,i*3+1,none⟩=some (.int .i64 t.a):=Cm ho ht 1 (by omega);have d2:w.cell? ⟨g,i*3+2,none⟩=some (.int .i64 t.e):=Cm ho ht 2 (by omega);obtain⟨w1,w2,-⟩:=hw t (List.mem_of_getElem? ht);have hsl:=Zrn s t.a t.e (by omega) w2;have old:∀(q:Nat) (o:Nat) (u:Value),w.cell? ⟨q,o,none⟩=some u->(w.alloc (.cells #[.int .i64 0,.int .i64 0,.int .i64 0] 246)).cell? ⟨q,o,none⟩=some u:=fun q o u hu=>(World.cell?_alloc_lt _ _ ⟨q,o,none⟩ (World.block_lt_of_cell? w _ hu)).trans hu;have hlb:b<w.heap.size:=World.block_lt_of_cell? w _ c0;have hlg:g<w.heap.size:=World.block_lt_of_cell? w _ d0;have hnb:b≠w.heap.size:=by omega
 have hng:g≠w.heap.size:=by omega
 have a0:=old _ _ _ c0;have a1:=old _ _ _ c1;have a2:=old _ _ _ c2;have a3:=old _ _ _ d0;have a4:=old _ _ _ d1;have a5:=old _ _ _ d2;clear h ho hw old;generalize hn:l.length=n at *;go_enter Tryz.func223,Tryz.ntmps223
 go_wp2;go_region
 all_goals go_wp2
 all_goals go_region
 all_goals go_wp2
 all_goals go_region
 all_goals go_wp2
 all_goals go_ret2
 all_goals exact⟨rfl,by go_grown⟩
set_option maxHeartbeats 2000000
set_option maxRecDepth 100000
theorem Zn {w w':World}{row:Option Nat}(h:Below w.heap.size w w'):w.grownBy w' row:=⟨h.os,h.tape,h.output,h.size,fun k hk _=>h.block k hk⟩
theorem Yg {a c d:World}{row:Option Nat}(h:a.grownBy c row)(k:c.grownBy d row):a.grownBy d row :=
 ⟨k.os.trans h.os,k.tape.trans h.tape,k.output.trans h.output,Nat.le_trans h.size k.size,fun q hq hr=>(k.block q (Nat.lt_of_lt_of_le hq h.size) hr).trans (h.block q hq hr)⟩
theorem Nn (w:World)(b j:Nat)(u:Value):w.grownBy (w.setCell ⟨b,j,none⟩ u) (some b) :=
 ⟨rfl,rfl,rfl,by simp,fun k _ hk=>heap_setCell_other w ⟨b,j,none⟩ k u (fun e=>hk (by simp [e]))⟩
theorem So.below {w w':World}{b:Nat}{s:ByteArray}{v:Value}{i:Nat}{sn:Nat->Bool}{vs:Nat->Value}(h:So w b s v i sn vs)(hb:Below w.heap.size w w'):So w' b s v i sn vs:=by have hlt:=World.block_lt_of_cell? w _ h.txt;have e:∀ o,w'.cell? ⟨b,o,none⟩=w.cell? ⟨b,o,none⟩:=fun o=>World.cell?_of_block (hb.block b hlt);exact⟨(e _).trans h.txt,(e _).trans h.pcs,(e _).trans h.nxt,fun k hk=>(e _).trans (h.seen k hk),fun k hk=>(e _).trans (h.vals k hk),fun j=>(World.frozen?_of_block (a:=⟨b,j,none⟩) (hb.block b hlt)).trans (h.frz j)⟩
theorem So.set_next {w:World}{b:Nat}{s:ByteArray}{v:Value}{i:Nat}{sn:Nat->Bool}{vs:Nat->Value}(h:So w b s v i sn vs)(q:Nat):So (w.setCell ⟨b,2,none⟩ (.int .i64 q)) b s v q sn vs:=by have e:∀ o,o≠2->(w.setCell ⟨b,2,none⟩ (.int .i64 q)).cell? ⟨b,o,none⟩=w.cell? ⟨b,o,none⟩:=fun o ho=>World.cell?_setCell_other _ _ _ _ (by intro e; simp at e; first | done | omega);exact⟨(e _ (by decide)).trans h.txt,(e _ (by decide)).trans h.pcs,World.cell?_setCell_same _ _ _ h.nxt,fun k hk=>(e _ (by omega)).trans (h.seen k hk),fun k hk=>(e _ (by omega)).trans (h.vals k hk),fun j=>by rw [World.frozen?_setCell]; exact h.frz j⟩
theorem So.set_seen {w:World}{b:Nat}{s:ByteArray}{v:Value}{i:Nat}{sn:Nat->Bool}{vs:Nat->Value}(h:So w b s v i sn vs)(k:Nat)(hk:k<11):So (w.setCell ⟨b,3+k,none⟩ (.bool true)) b s v i (fun j=>if j=k then true else sn j) vs:=by
 have e:∀ o,o≠3+k->(w.setCell ⟨b,3+k,none⟩ (.bool true)).cell? ⟨b,o,none⟩=w.cell? ⟨b,o,none⟩:=fun o ho=>World.cell?_setCell_other _ _ _ _ (by intro e; simp at e; first | done | omega);refine⟨(e _ (by omega)).trans h.txt,(e _ (by omega)).trans h.pcs,(e _ (by omega)).trans h.nxt,fun j hj=>?_,fun j hj=>(e _ (by omega)).trans (h.vals j hj),fun j=>by rw [World.frozen?_setCell]; exact h.frz j⟩;by_cases hjk:j=k
 ·subst hjk; simp only [if_true]; exact World.cell?_setCell_same _ _ _ (h.seen j hj)
 ·simp only [hjk,if_false]; exact(e _ (by omega)).trans (h.seen j hj)
theorem Yt.grown {w w':World}{base b:Nat}{v:Value}{l:List Tk}(h:Yt w base v l)(hg:w.grownBy w' (some b))(hne:v.ownBlock≠some b):Yt w' base v l:=World.ownsRow.kept h hg (Or.inr hne)
def Ix (l:List Tk)(i:Nat):Nat:=match l[i]? with | some t=>t.k | none=>0
def tAt (s:ByteArray)(l:List Tk)(i:Nat):ByteArray:=match l[i]? with | some t=>s.extract t.a t.e | none=>⟨#[]⟩
theorem Zna (w:World)(b base:Nat)(s:ByteArray)(v:Value)(i:Nat)(sn:Nat->Bool)(vs:Nat->Value)(l:List Tk)(h:So w b s v i sn vs)(ho:Yt w base v l)(hl:l.length<=400)(hi:i<=l.length)(hw:WfT s l) :
 Calls Tryz.prog 223 #[.pointer (some ⟨b,0,none⟩)] w fun e w'=>e=.returned (.tuple #[.int .i64 (Ix l i),.string (tAt s l i)])∧Below w.heap.size w w':=by
 cases ht:l[i]? with
 | some t =>
  have e1:Ix l i=t.k:=by simp [Ix,ht]
  have e2:tAt s l i=s.extract t.a t.e:=by simp [tAt,ht]
  rw [e1,e2];exact Yad w b base s v i sn vs l t h ho hl ht hw
 | none =>
  have e1:Ix l i=0:=by simp [Ix,ht]
  have e2:tAt s l i=⟨#[]⟩:=by simp [tAt,ht]
  have e3:i=l.length:=by have:=List.getElem?_eq_none_iff.1 ht; omega
  rw [e1,e2];subst e3;exact Zvq w b base s v sn vs l h ho hl
theorem Znb (w:World)(b base:Nat)(s:ByteArray)(v:Value)(i:Nat)(sn:Nat->Bool)(vs:Nat->Value)(l:List Tk)(h:So w b s v i sn vs)(ho:Yt w base v l)(hl:l.length<=400)(hi:i<=l.length)(hw:WfT s l) :
 Calls Tryz.prog 160 #[.pointer (some ⟨b,0,none⟩)] w fun e w'=>e=.returned (.bool (decide (Ix l i=6)))∧w.grownBy w' (some b)∧So w' b s v (if Ix l i=6 then i+1 else i) sn vs:=by
 have HP:=Ze (Zna w b base s v i sn vs l h ho hl hi hw);have HR:=Ze h;clear h ho hw;by_cases hk:Ix l i=6
 ·simp only [hk,decide_true,if_true];go_enter Tryz.func160,Tryz.ntmps160
  go_wp2_with fail
  refine(Zb HP).mono ?_;rintro e w1 ⟨rfl,hb1⟩;have h1:=(Zb HR).below hb1;have HB:=Ze hb1;have c2:=h1.nxt;have cf:=h1.frz 2;have H1:=Ze h1;clear hb1 h1;rw [hk];go_wp2;go_ret;exact⟨rfl,Yg (Zn (Zb HB)) (Nn _ _ _ _),(Zb H1).set_next (i+1)⟩
 ·simp only [hk,decide_false,if_false];go_enter Tryz.func160,Tryz.ntmps160
  go_wp2_with fail
  refine(Zb HP).mono ?_;rintro e w1 ⟨rfl,hb1⟩;have H1:=Ze ((Zb HR).below hb1);have HB:=Ze hb1;clear hb1;generalize Ix l i=kk at *;have zk:((kk:Int) != 6)=true:=by rw [bne_iff_ne]; omega
  go_wp2;go_ret;exact⟨rfl,Zn (Zb HB),Zb H1⟩
theorem Zvr (s:ByteArray)(a e j:Nat)(he:e<=s.size)(hj:a+j<e):(s.extract a e).get! j=s.get! (a+j):=by rw [Utf8W.get!_of_lt _ _ (by simp; omega),Utf8W.get!_of_lt _ _ (by omega)];simp [ByteArray.getElem_extract]
theorem Zrm {s:ByteArray}{l:List Tk}{i:Nat}(hw:WfT s l)(hk:Ix l i=4):∀ j,j<(tAt s l i).size->48<=((tAt s l i).get! j).toNat∧((tAt s l i).get! j).toNat<=57:=by
 cases ht:l[i]? with
 | none=>simp [Ix,ht] at hk
 | some t =>
  have e1:t.k=4:=by simpa [Ix,ht] using hk
  have e2:tAt s l i=s.extract t.a t.e:=by simp [tAt,ht]
  obtain⟨h1,h2,-,-,h5⟩:=hw t (List.mem_of_getElem? ht);rw [e2];intro j hj;have hj2:t.a+j<t.e:=by simp at hj; omega
  rw [Zvr s t.a t.e j h2 hj2];exact Zvu ((h5 _ (by omega) hj2).trans e1)
def Iy (s:ByteArray)(l:List Tk)(i:Nat)(d:Bool):Option Int:=if Ix l i=5∧d=true then some (-1) else if Ix l i=4∧(tAt s l i).size<=3 then some ((Zav (tAt s l i).data.toList:Nat):Int) else none
theorem Zgp (d:Bool)(w:World)(b base:Nat)(s:ByteArray)(v:Value)(i:Nat)(sn:Nat->Bool)(vs:Nat->Value)(l:List Tk)(h:So w b s v i sn vs)(ho:Yt w base v l)(hl:l.length<=400)(hi:i<=l.length)(hw:WfT s l) :
 Calls Tryz.prog 225 #[.pointer (some ⟨b,0,none⟩),.bool d] w fun e w'=>e=.returned (.tuple #[.int .i64 ((Iy s l i d).getD 0),.bool (Iy s l i d).isSome])∧w.grownBy w' (some b)∧So w' b s v (if (Iy s l i d).isSome then i+1 else i) sn vs:=by
 have HP:=Ze (Zna w b base s v i sn vs l h ho hl hi hw);have HR:=Ze h;have HD:=Ze (fun hk=>Zrm (i:=i) hw hk);clear h ho hw;by_cases hk:Ix l i=5∧d=true
 ·have hn:Iy s l i d=some (-1):=by simp [Iy,hk]
  obtain⟨hk,rfl⟩:=hk;rw [hn];simp only [Option.getD_some,Option.isSome_some,if_true];go_enter Tryz.func225,Tryz.ntmps225
  go_wp2_with fail
  refine(Zb HP).mono ?_;rintro e w1 ⟨rfl,hb1⟩;have h1:=(Zb HR).below hb1;have HB:=Ze hb1;have c2:=h1.nxt;have cf:=h1.frz 2;have H1:=Ze h1;clear hb1 h1;rw [hk];go_wp2;go_ret2;exact⟨rfl,Yg (Zn (Zb HB)) (Nn _ _ _ _),(Zb H1).set_next (i+1)⟩
 by_cases hk4:Ix l i=4∧(tAt s l i).size<=3
 ·have hn:Iy s l i d=some ((Zav (tAt s l i).data.toList:Nat):Int):=by simp [Iy,hk4]
  have hdg:=Zb HD hk4.1;rw [hn];simp only [Option.getD_some,Option.isSome_some,if_true];obtain⟨hk5,hsz⟩:=hk4;rw [hk5] at HP;have HV:=Ze (fun w'=>Zri (tAt s l i) w' hsz hdg);generalize tAt s l i=tt at *;clear hk hdg;go_enter Tryz.func225,Tryz.ntmps225
  go_wp2_with fail
  refine(Zb HP).mono ?_;rintro e w1 ⟨rfl,hb1⟩;have h1:=(Zb HR).below hb1;have HB:=Ze hb1;have c2:=h1.nxt;have cf:=h1.frz 2;have H1:=Ze h1;clear hb1 h1;go_wp2_with fail
  refine(Zb HV _).mono ?_;rintro e w2 ⟨rfl,hb2⟩;have H2:=Ze (((Zb H1).set_next (i+1)).below hb2);have HB2:=Ze (Yg (Yg (Zn (Zb HB)) (Nn _ _ _ _)) (Zn hb2):w.grownBy w2 (some b));clear hb2;go_wp2;go_ret2;exact⟨rfl,Zb HB2,Zb H2⟩
 ·have hn:Iy s l i d=none:=by simp [Iy,hk,hk4]
  rw [hn];simp only [Option.getD_none,Option.isSome_none,Bool.false_eq_true,if_false];clear hn HD;generalize Ix l i=kk at *;generalize tAt s l i=tt at *;by_cases k5:kk=5
  ·have hd:d=false:=by cases d <;> simp_all
   subst k5 hd;go_enter Tryz.func225,Tryz.ntmps225
   go_wp2_with fail
   refine(Zb HP).mono ?_;rintro e w1 ⟨rfl,hb1⟩;have H1:=Ze ((Zb HR).below hb1);have HB:=Ze hb1;clear hb1;go_wp2;go_ret2;exact⟨rfl,Zn (Zb HB),Zb H1⟩
  ·have z5:((kk:Int)==5)=false:=by rw [beq_eq_false_iff_ne]; omega
   by_cases k4:kk=4
   ·have hsz:¬ tt.size<=3:=fun h=>hk4 ⟨k4,h⟩;subst k4;go_enter Tryz.func225,Tryz.ntmps225
    go_wp2_with fail
    refine(Zb HP).mono ?_;rintro e w1 ⟨rfl,hb1⟩;have H1:=Ze ((Zb HR).below hb1);have HB:=Ze hb1;clear hb1;go_wp2;go_ret2;exact⟨rfl,Zn (Zb HB),Zb H1⟩
   ·have z4:((kk:Int)==4)=false:=by rw [beq_eq_false_iff_ne]; omega
    go_enter Tryz.func225,Tryz.ntmps225
    go_wp2_with fail
    refine(Zb HP).mono ?_;rintro e w1 ⟨rfl,hb1⟩;have H1:=Ze ((Zb HR).below hb1);have HB:=Ze hb1;clear hb1;go_wp2;go_ret2;exact⟨rfl,Zn (Zb HB),Zb H1⟩
theorem Ydt (t:ByteArray):t=⟨t.data.toList.toArray⟩:=by cases t; simp
theorem Zvs {j k:Nat}(hj:j<11)(hk:k<11)(h:nm j=nm k):j=k:=by
 have key:∀ a:Fin 11,∀ c:Fin 11,nm a.val=nm c.val->a=c:=by decide
 have:=key ⟨j,hj⟩ ⟨k,hk⟩ h;simpa using this
def Iz (s:ByteArray)(l:List Tk)(i:Nat)(sn:Nat->Bool)(k:Nat):Prop:=k<11∧nm k=(tAt s l i).data.toList∧sn k=false
theorem Znc (w:World)(b base:Nat)(s:ByteArray)(v:Value)(i:Nat)(sn:Nat->Bool)(vs:Nat->Value)(l:List Tk)(h:So w b s v i sn vs)(ho:Yt w base v l)(hl:l.length<=400)(hi:i<=l.length)(hw:WfT s l)(hI:Zjg w)(hbI:1<w.heap.size) :
 Calls Tryz.prog 158 #[.pointer (some ⟨b,0,none⟩)] w fun e w' =>
  (∃ k,Iz s l i sn k∧e=.returned (.int .i64 k)∧w.grownBy w' (some b)∧So w' b s v (i+1) (fun j=>if j=k then true else sn j) vs) ∨
  ((∀ k,¬ Iz s l i sn k)∧e=.returned (.int .i64 (-1))∧w.grownBy w' (some b)∧So w' b s v i sn vs):=by
 have HP:=Ze (Zna w b base s v i sn vs l h ho hl hi hw);have HR:=Ze h;have HI:=Ze hI;clear h ho hw hI;have HN:=Ze (fun k=>show Iz s l i sn k↔(k<11∧nm k=(tAt s l i).data.toList∧sn k=false) from Iff.rfl);generalize Iz s l i sn=NO at *;rw [Ydt (tAt s l i)] at HP;generalize (tAt s l i).data.toList=tt at *;generalize Ix l i=kk at *;go_enter Tryz.func158,Tryz.ntmps158
 go_wp2_with fail
 refine(Zb HP).mono ?_;rintro e w1 ⟨rfl,hb1⟩;have H1:=Ze ((Zb HR).below hb1);have HI1:=Ze (show Zjg w1 from fun k hk=>⟨(World.cell?_of_block (hb1.block _ hbI)).trans (Zb HI k hk).1,(World.cell?_of_block (hb1.block _ hbI)).trans (Zb HI k hk).2⟩);have HB:=Ze hb1;clear hb1;go_wp2_with fail
 refine(Zjs tt _ (Zb HI1)).mono ?_;rintro e w2 ⟨hw2,hor⟩;subst w2;rcases hor with⟨k,hk,hnk,rfl⟩ | ⟨hno,rfl⟩
 ·have cs:=(Zb H1).seen k hk;cases hsn:sn k with
  | true =>
   rw [hsn] at cs;have hno:∀ k',¬ NO k':=fun k' hk'=>by
    obtain⟨a1,a2,a3⟩:=(Zb HN k').1 hk';have:k'=k:=Zvs a1 hk (a2.trans hnk.symm);subst this;rw [hsn] at a3; cases a3
   have HNO:=Ze hno;clear hno;go_wp2;go_ret;exact Or.inr ⟨Zb HNO,rfl,Zn (Zb HB),Zb H1⟩
  | false=>rw [hsn] at cs;have hyes:NO k:=(Zb HN k).2 ⟨hk,hnk,hsn⟩;have H2:=Ze ((Zb H1).set_seen k hk);have c2:=(Zb H2).nxt;have cf:=(Zb H1).frz (3+k);have cf2:=(Zb H1).frz 2;go_wp2;go_ret;exact Or.inl ⟨k,hyes,rfl,Yg (Yg (Zn (Zb HB)) (Nn _ _ _ _)) (Nn _ _ _ _),(Zb H2).set_next (i+1)⟩
 ·have hno':∀ k',¬ NO k':=fun k' hk'=>hno k' ((Zb HN k').1 hk').1 ((Zb HN k').1 hk').2.1;have HNO:=Ze hno';clear hno hno';go_wp2;go_ret;exact Or.inr ⟨Zb HNO,rfl,Zn (Zb HB),Zb H1⟩
set_option maxHeartbeats 4000000
set_option maxRecDepth 100000
theorem Zdc {P:Program}{ops:Array Oper}{o:Oper}{a:Act}{w:World}{K:Act->World->Prop}{Q:Exit->Act->World->Prop}{E:Prop}
 (hg:o.guard=none) (s x:Operand) (t:TypeId) (ho:o.op=.call { callee:=.builtin .append,args:=#[s,x],argTypes:=#[t,t] })
 (base:Nat) (e:TypeId) (i:TypeInfo) (z:Value) (size bytes:Nat) (ht:P.underlying t=some (.slice e)) (hi:P.info? e=some i) (hz:i.zero=some z)
 (hsize:i.size=size) (hby:i.bytes=bytes) (hzs:z.cells.size=size) (hsz:0<size)
 (v:Value) (n:Nat) (xs:List Value) (hs:a.eval s=v) (hown:w.ownsRow base e size v n xs)
 (ad:Addr) (m c:Nat) (news:List Value) (hx:a.eval x=.slice (some ad) m c) (hl:news.length=m*size) (hnews:∀ j u,news[j]?=some u->w.cell? (ad.add j)=some u) (h1:∀ u ∈ news,u.oneCell'=true)
 (h63:n+m<=maxLen) (hbytes:(n+m)*bytes<=140737488355328) (hbase:base<=w.heap.size)
 (h:∀ v' w',w'.ownsRow base e size v' (n+m) (xs++news)->w.grownBy w' v.ownBlock->K (a.put o.dst v') w') :
 if Region.wanted o (yielded ops a.tmps)=true then Oper.wp P o a w K Q else E:=by
 have hw:Region.wanted o (yielded ops a.tmps)=true:=by simp [Region.wanted,hg]
 rw [if_pos hw];exact wp_append_own w s x t ho base e i z size bytes ht hi hz hsize hby hzs hsz v n xs hs hown ad m c news hx hl hnews h1 h63 hbytes hbase (fun v' w' h2 h3 _=>h v' w' h2 h3)
theorem Tryz.infoI:(Tryz.prog.info? 3).map (fun i=>(i.zero,i.size,i.bytes))=some (some (.int .i64 0),1,8):=by kernel_rfl
def loK (k:Nat):Nat:=([1,1,1,2,0,0,0,1,1,1,0]:List Nat).getD k 0
def hiK (k:Nat):Nat:=([1,1,1,2,8,4,12,1,1,1,0]:List Nat).getD k 0
theorem Ydq (k:Nat):hiK k<=12:=by
 unfold hiK;match k with
 | 0 | 1 | 2 | 3 | 4 | 5 | 6 | 7 | 8 | 9 | 10=>decide
 | k+11=>simp
structure Ck (w:World):Prop where
 items:Zjg w
 lo:∀ k,k<11->w.cell? ⟨1,k*5+1,none⟩=some (.int .i64 (loK k))
 hi:∀ k,k<11->w.cell? ⟨1,k*5+2,none⟩=some (.int .i64 (hiK k))
 spare:∀ k,k<11->w.cell? ⟨1,k*5+4,none⟩=some (.bool (decide (k=10)))
theorem Ck.lt {w:World}(h:Ck w):1<w.heap.size:=World.block_lt_of_cell? w _ (h.lo 0 (by decide))
theorem Ck.grown {w w':World}{b:Nat}(h:Ck w)(hg:w.grownBy w' (some b))(hb:1≠b):Ck w':=by have e:∀ o,w'.cell? ⟨1,o,none⟩=w.cell? ⟨1,o,none⟩:=fun o=>World.cell?_of_block (hg.block _ h.lt (by simpa using hb));exact⟨fun k hk=>⟨(e _).trans (h.items k hk).1,(e _).trans (h.items k hk).2⟩,fun k hk=>(e _).trans (h.lo k hk),fun k hk=>(e _).trans (h.hi k hk),fun k hk=>(e _).trans (h.spare k hk)⟩
def Yz (ns:List Int):List Value:=ns.map fun n=>.int .i64 n
def Gc (s:ByteArray)(l:List Tk)(k:Nat):Nat->Nat->List Int->Nat×List Int
 | 0,i,ns=>(i,ns)
 | f+1,i,ns=>if ns.length<hiK k then (match Iy s l i (decide (k=2)) with | some n=>Gc s l k f (i+1) (ns++[n]) | none=>(i,ns)) else (i,ns)
def Uq (vs:Nat->Value)(k:Nat)(u:Value):Nat->Value:=fun j=>if j=k then u else vs j
def Yfu:Option Value->Nat
 | some (.slice _ n _)=>n
 | _=>0
theorem Zpf {a c d:World}{b:Nat}{row:Option Nat}(h:a.grownBy c (some b))(k:c.grownBy d row)(hr:∀ q,row=some q->a.heap.size<=q):a.grownBy d (some b) :=
 ⟨k.os.trans h.os,k.tape.trans h.tape,k.output.trans h.output,Nat.le_trans h.size k.size,fun q hq hne=>(k.block q (Nat.lt_of_lt_of_le hq h.size) (fun e=>by have:=hr q e.symm; omega)).trans (h.block q hq hne)⟩
structure Zjt (s:ByteArray)(l:List Tk)(w wr:World)(b:Nat)(v:Value)(sn:Nat->Bool)(vs:Nat->Value)(k i0:Nat)(f i:Nat)(ns:List Int)(u:Value):Prop where
 rdr:So wr b s v i sn (Uq vs k u)
 row:wr.ownsRow w.heap.size 3 1 u ns.length (Yz ns)
 gb:w.grownBy wr (some b)
 eq:Gc s l k f i ns=Gc s l k 13 i0 []
 fuel:13<=ns.length+f
 len:ns.length<=12
 fit:i<=l.length
theorem Zjt.below {s:ByteArray}{l:List Tk}{w wr wr':World}{b:Nat}{v:Value}{sn:Nat->Bool}{vs:Nat->Value}{k i0 f i:Nat}{ns:List Int}{u:Value}(h:Zjt s l w wr b v sn vs k i0 f i ns u)(hb:Below wr.heap.size wr wr'):Zjt s l w wr' b v sn vs k i0 f i ns u :=
 ⟨h.rdr.below hb,World.ownsRow.kept h.row (Zn (row:=none) hb) (by cases u.ownBlock <;> simp),Yg h.gb (Zn hb),h.eq,h.fuel,h.len,h.fit⟩
theorem Zjt.next {s:ByteArray}{l:List Tk}{w wr w1:World}{b:Nat}{v:Value}{sn:Nat->Bool}{vs:Nat->Value}{k i0 f i:Nat}{ns:List Int}{u:Value}(h:Zjt s l w wr b v sn vs k i0 f i ns u)(hg:wr.grownBy w1 (some b))(hb:b<w.heap.size):w1.ownsRow w.heap.size 3 1 u ns.length (Yz ns)∧w.grownBy w1 (some b) :=
 ⟨World.ownsRow.kept h.row hg (Or.inr (fun e=>by have:=(h.row.lt b e).1; omega)),Yg h.gb hg⟩
theorem Zvh {s:ByteArray}{l:List Tk}{i:Nat}{d:Bool}{n:Int}(h:Iy s l i d=some n):i<l.length:=by
 unfold Iy at h;have:Ix l i≠0:=fun e=>by simp [e] at h
 unfold Ix at this;split at this
 ·rename_i t ht; exact(List.getElem?_eq_some_iff.1 ht).1
 ·simp at this
theorem Iv {w:World}{base n:Nat}{v:Value}{xs:List Value}(h:w.ownsRow base 3 1 v (n+1) xs):∃ g cap,v=.slice (some ⟨g,0,none⟩) (n+1) cap:=by
 rcases h.2 with⟨_,e⟩ | ⟨g,cap,cur,e,-⟩
 ·omega
 ·exact⟨g,cap,e⟩
theorem So.set_val {w:World}{b:Nat}{s:ByteArray}{v:Value}{i:Nat}{sn:Nat->Bool}{vs:Nat->Value}{u:Value}(h:So w b s v i sn vs)(k:Nat)(hk:k<11):So (w.setCell ⟨b,14+k,none⟩ u) b s v i sn (Uq vs k u):=by
 have e:∀ o,o≠14+k->(w.setCell ⟨b,14+k,none⟩ u).cell? ⟨b,o,none⟩=w.cell? ⟨b,o,none⟩:=fun o ho=>World.cell?_setCell_other _ _ _ _ (by intro e; simp at e; first | done | omega);refine⟨(e _ (by omega)).trans h.txt,(e _ (by omega)).trans h.pcs,(e _ (by omega)).trans h.nxt,fun j hj=>(e _ (by omega)).trans (h.seen j hj),fun j hj=>?_,fun j=>by rw [World.frozen?_setCell]; exact h.frz j⟩;by_cases hjk:j=k
 ·subst hjk; simp only [Uq,if_true]; exact World.cell?_setCell_same _ _ _ (h.vals j hj)
 ·simp only [Uq,hjk,if_false]; exact(e _ (by omega)).trans (h.vals j hj)
theorem So.of_block {w w':World}{b:Nat}{s:ByteArray}{v:Value}{i:Nat}{sn:Nat->Bool}{vs:Nat->Value}(h:So w b s v i sn vs)(hb:w'.heap[b]?=w.heap[b]?):So w' b s v i sn vs:=by have e:∀ o,w'.cell? ⟨b,o,none⟩=w.cell? ⟨b,o,none⟩:=fun o=>World.cell?_of_block hb;exact⟨(e _).trans h.txt,(e _).trans h.pcs,(e _).trans h.nxt,fun k hk=>(e _).trans (h.seen k hk),fun k hk=>(e _).trans (h.vals k hk),fun j=>(World.frozen?_of_block (a:=⟨b,j,none⟩) hb).trans (h.frz j)⟩
theorem Zrj (vs:Nat->Value)(k:Nat)(u u':Value):Uq (Uq vs k u) k u'=Uq vs k u':=funext fun j=>by unfold Uq; split <;> rfl
theorem Zdy (k:Nat)(hk:k<11)(w:World)(b base:Nat)(s:ByteArray)(v:Value)(i:Nat)(sn:Nat->Bool)(vs:Nat->Value)(l:List Tk)(h:So w b s v i sn vs)(hv:vs k=.slice none 0 0)(ho:Yt w base v l)(hvb:v.ownBlock≠some b)(hl:l.length<=400)(hi:i<=l.length)(hw:WfT s l)(hI:Ck w)(hbI:1≠b) :
 Calls Tryz.prog 159 #[.pointer (some ⟨b,0,none⟩),.int .i64 k] w fun e w'=>∃ f i' ns u,Zjt s l w w' b v sn vs k i f i' ns u∧(i',ns)=Gc s l k 13 i []∧e=.returned (.bool (decide (loK k<=ns.length))):=by
 obtain⟨ti,hti,hz0,hz1,hz2⟩:=Xt Tryz.infoI;have hb0:b<w.heap.size:=World.block_lt_of_cell? w _ h.txt;have HH:=Ze (show So w b s v i sn (Uq vs k (.slice none 0 0)) by
  have e:Uq vs k (.slice none 0 0)=vs:=funext fun j=>by
   unfold Uq;split
   ·rename_i hj; rw [hj,hv]
   ·rfl
  rw [e]; exact h)
 have HO:=Ze ho;have HW:=Ze hw;have HIt:=Ze hI;clear h hv ho hw hI;go_enter Tryz.func159,Tryz.ntmps159
 go_wp2_with fail
 go_loopw [5] (fun _ wr=>∃ f i' ns u,Zjt s l w wr b v sn vs k i f i' ns u) (fun _ wr=>13-Yfu (wr.cell? ⟨b,14+k,none⟩))
 case atStart=>exact⟨13,i,[],_,⟨Zb HH,World.ownsRow_nil _ _ _ _,⟨rfl,rfl,rfl,Nat.le_refl _,fun _ _ _=>rfl⟩,rfl,by simp,by simp,hi⟩⟩
 case round =>
  obtain⟨f,i',ns,u,hN⟩:=hrel;have cu:_=some u:=(hN.rdr.vals k hk).trans (by simp [Uq]);have It:=(Zb HIt).grown hN.gb hbI;have ch:=It.hi k hk;have cl:=It.lo k hk;have cd:=(It.items k hk).2;obtain⟨ua,ucap,rfl⟩:∃ ua ucap,u=.slice ua ns.length ucap:=by
   rcases hN.row.2 with⟨e1,e2⟩ | ⟨g,cap,cur,e1,-⟩
   ·rw [e2]; exact⟨_,_,e1⟩
   ·exact⟨_,_,e1⟩
  have h12:=Ydq k;have hlen:=hN.len;have HN:=Ze hN;clear hN It;by_cases hlt:ns.length<hiK k
  ·have HC:=Ze (Zgp (decide (k=2)) wr.drew b base s v i' sn _ l ((Zb HN).below (by go_grown)).rdr ((Zb HO).grown ((Zb HN).below (wr':=wr.drew) (by go_grown)).gb hvb) hl (Zb HN).fit (Zb HW));cases hnf:Iy s l i' (decide (k=2)) with
   | none =>
    have hE:(i',ns)=Gc s l k 13 i []:=by rw [←(Zb HN).eq];cases f <;> simp [Gc,hnf]
    rw [hnf] at HC;simp only [Option.getD_none,Option.isSome_none,Bool.false_eq_true,if_false] at HC;generalize hn:ns.length=n at *;generalize hiK k=hh at *;generalize decide (k=2)=dd at *;go_wp2;go_region
    all_goals go_wp2_with fail
    all_goals refine(Zb HC).mono ?_
    all_goals rintro e w1 ⟨rfl,hg1,hr1⟩
    all_goals
     have hx:=((Zb HN).below (wr':=wr.drew) (by go_grown)).next hg1 hb0;have N1:Zjt s l w w1 b v sn vs k i f i' ns (.slice ua n ucap):=⟨hr1,hx.1,hx.2,(Zb HN).eq,(Zb HN).fuel,(Zb HN).len,(Zb HN).fit⟩;have It1:=(Zb HIt).grown hx.2 hbI;have cl1:=It1.lo k hk;have cu1:w1.cell? ⟨b,14+k,none⟩=some (.slice ua n ucap):=(hr1.vals k hk).trans (by simp [Uq]);have HN1:=Ze N1;clear hx N1 It1 hg1 hr1;go_wp2;go_region
     all_goals go_wp2
     all_goals go_ret
     all_goals exact⟨f,i',ns,_,(Zb HN1).below (by go_grown),hE,by simp [hn]⟩
   | some z =>
    rw [hnf] at HC;simp only [Option.getD_some,Option.isSome_some,if_true] at HC;obtain⟨f,rfl⟩:∃ f',f=f'+1:=⟨f-1,by have:=(Zb HN).fuel; omega⟩;have hE:Gc s l k f (i'+1) (ns++[z])=Gc s l k 13 i []:=by rw [←(Zb HN).eq];simp [Gc,hlt,hnf]
    have hfit:=Zvh hnf;have HE:=Ze hE;clear hE hnf;generalize hn:ns.length=n at *;generalize hiK k=hh at *;generalize decide (k=2)=dd at *;go_wp2;go_region
    all_goals go_wp2_with fail
    all_goals refine(Zb HC).mono ?_
    all_goals rintro e w1 ⟨rfl,hg1,hr1⟩
    all_goals
     have hx:=((Zb HN).below (wr':=wr.drew) (by go_grown)).next hg1 hb0;rw [hn] at hx;have HROW:=Ze hx.1;have HGB:=Ze hx.2;have hsz1:=hx.2.size;have cu1:w1.cell? ⟨b,14+k,none⟩=some (.slice ua n ucap):=(hr1.vals k hk).trans (by simp [Uq]);have hb1:b<w1.heap.size:=World.block_lt_of_cell? w1 _ cu1;have cu2:(w1.alloc (.cells #[.int .i64 z] 3)).cell? ⟨b,14+k,none⟩=some (.slice ua n ucap):=(World.cell?_alloc_lt _ _ ⟨b,14+k,none⟩ hb1).trans cu1;have cf2:(w1.alloc (.cells #[.int .i64 z] 3)).frozen? ⟨b,14+k,none⟩=false:=(World.frozen?_alloc_old _ _ ⟨b,14+k,none⟩ (by show b≠_; omega)).trans (hr1.frz (14+k));have hkI:(k:Int)<11:=by omega
     have HR1:=Ze hr1;clear hx hg1 hr1;go_wp2;go_region_law (refine Zdc rfl (.tmp 37) (.tmp 39) 23 rfl w.heap.size 3 ti _ 1 8 Tryz.underlying23 hti hz0 hz1 hz2 rfl (by decide) (.slice ua n ucap) n (Yz ns) (by simp [Act.eval]) ((Zb HROW).alloc _) ⟨w1.heap.size,0,none⟩ 1 1 [.int .i64 z] (by simp [Act.eval]) rfl (by intro j u hj; match j,hj with | 0,hj=>simp at hj; subst hj; simp [Addr.add]) (by intro u hu; simp at hu; subst hu; rfl) (by unfold maxLen; omega) (by omega) (by simp; omega) ?_; intro v' w2 hown hgr; obtain⟨g2,cap2,rfl⟩:=Iv hown; have hblk:=hgr.block b (by simp; omega) (by intro e; have:=((Zb HROW).lt b e.symm).1; omega); have cu3:w2.cell? ⟨b,14+k,none⟩=some (.slice ua n ucap):=(World.cell?_of_block hblk).trans cu2; have cf3:w2.frozen? ⟨b,14+k,none⟩=false:=(World.frozen?_of_block (a:=⟨b,14+k,none⟩) hblk).trans cf2; have HBK:=Ze hblk; have HOWN:=Ze hown; have HGR:=Ze hgr; clear hown hgr hblk)
     all_goals go_wp2
     all_goals
      go_roundw
      case rel =>
       refine⟨f,i'+1,ns++[z],.slice (some ⟨g2,0,none⟩) (n+1) cap2,⟨?_,?_,Yg (Zpf (Yg (Zb HGB) (Zn (show Below w1.heap.size w1 (w1.alloc (.cells #[.int .i64 z] 3)).drew by go_grown))) (Zb HGR) (fun q hq=>((Zb HROW).lt q hq).1)) (Nn _ _ _ _),Zb HE,by have:=(Zb HN).fuel; simp; omega,by simp; omega,by omega⟩⟩
       ·have h1:=((Zb HR1).of_block ((Zb HBK).trans (Lib.alloc_old w1 _ b hb1))).set_val (u:=.slice (some ⟨g2,0,none⟩) (n+1) cap2) k hk;rw [Zrj] at h1;exact h1
       ·have h1:=ownsRow_setCell_below (Zb HOWN) (a:=⟨b,14+k,none⟩) hb0 (.slice (some ⟨g2,0,none⟩) (n+1) cap2);have e1:Yz (ns++[z])=Yz ns++[.int .i64 z]:=by simp [Yz]
        have e2:(ns++[z]).length=n+1:=by simp [hn]
        rw [e1,e2];exact h1
      case measure=>rw [World.cell?_setCell_same _ _ _ cu3,cu];simp only [Yfu];omega
  ·have hE:(i',ns)=Gc s l k 13 i []:=by rw [←(Zb HN).eq];cases f <;> simp [Gc,hlt]
   generalize hn:ns.length=n at *;generalize hiK k=hh at *;go_wp2;go_region
   all_goals go_wp2
   all_goals go_region
   all_goals go_wp2
   all_goals go_ret
   all_goals exact⟨f,i',ns,_,(Zb HN).below (by go_grown),hE,by simp [hn]⟩
set_option maxHeartbeats 2000000
set_option maxRecDepth 100000
theorem Yah {s:ByteArray}{l:List Tk}{k p:Nat}(h:WfT s l)(hp:p<s.size)(hk:Xx (s.get! p).toNat=k)(h3:3<=k∧k<=6):WfT s (Sg l k p):=by
 have hnew:WfT s (l++[⟨k,p,p+1⟩]):=fun t ht=>by
  rcases List.mem_append.1 ht with h1 | h1
  ·exact h t h1
  ·simp at h1;subst h1;exact⟨by simp,hp,h3.1,h3.2,fun i h4 h5=>by
    have h4':p<=i:=h4;have h5':i<p+1:=h5;have:i=p:=by omega
    subst this; exact hk⟩
 unfold Sg;split
 ·rename_i t ht;split
  ·rename_i hc;obtain⟨hc1,hc2,hc3⟩:=hc;have hl:t ∈ l:=List.mem_of_getLast? ht;obtain⟨a1,a2,a3,a4,a5⟩:=h t hl;intro u hu;rcases List.mem_append.1 hu with h1 | h1
   ·exact h u (List.dropLast_subset l h1)
   ·simp at h1;subst h1;refine⟨show t.a<p+1 by omega,hp,a3,a4,fun i h4 h5=>?_⟩;have h4':t.a<=i:=h4;have h5':i<p+1:=h5;show _=t.k;by_cases hi:i=p
    ·subst hi; rw [hk,hc2]
    ·exact a5 i h4' (by omega)
  ·exact hnew
 ·exact hnew
theorem Co {s:ByteArray}:∀(f p:Nat) (c:Bool) (acc l:List Tk),Lb s f p c acc=.inr l->WfT s acc->WfT s l∧l.length+p<=acc.length+max p s.size
 | 0,p,c,acc,l,h,hw=>by
  simp only [Lb,Sum.inr.injEq] at h;subst h;exact⟨hw,by omega⟩
 | f+1,p,c,acc,l,h,hw=>by
  have hd:=Zpg s p;by_cases hp:p<s.size
  ·have hfit:=Yag s p hp;cases c with
   | true =>
    simp only [Lb,hp,if_true] at h;split at h
    ·cases h
    ·have:=Co f _ _ acc l h hw;exact⟨this.1,by have:=this.2; omega⟩
   | false =>
    simp only [Lb,hp,if_true,Bool.false_eq_true,if_false] at h;split at h
    ·cases h
    ·rename_i h0;split at h
     ·have:=Co f _ _ acc l h hw;exact⟨this.1,by have:=this.2; omega⟩
     ·split at h
      ·have:=Co f _ _ acc l h hw;exact⟨this.1,by have:=this.2; omega⟩
      ·have h6:=Zjo (Utf8.decode s p).1;have:=Co f _ _ _ l h (Yah hw hp (Zvn s p).symm ⟨by omega,h6⟩);have h7:=Zjl acc (Xx (Utf8.decode s p).1) p;exact⟨this.1,by have:=this.2; omega⟩
  ·simp only [Lb,hp,if_false,Sum.inr.injEq] at h;subst h;exact⟨hw,by omega⟩
theorem Ydv {s:ByteArray}{l:List Tk}(h:Lb s s.size 0 false []=.inr l):WfT s l∧l.length<=s.size:=by have:=Co _ _ _ _ _ h (fun t ht=>by cases ht);exact⟨this.1,by have:=this.2; simp at this; omega⟩
def Zea (sn:Nat->Bool):Bool:=(List.range 10).all sn
theorem Zvv (w:World)(b:Nat)(s:ByteArray)(v:Value)(i:Nat)(sn:Nat->Bool)(vs:Nat->Value)(h:So w b s v i sn vs)(hI:Ck w) :
 Calls Tryz.prog 69 #[.pointer (some ⟨b,0,none⟩)] w fun e w'=>e=.returned (.bool (Zea sn))∧w'=w:=by
 have HR:=Ze h;have HI:=Ze hI;clear h hI;go_enter Tryz.func69,Tryz.ntmps69
 go_wp2_with fail
 go_loopw [4] (fun j w2=>∃ k:Nat,j=.int .i64 k∧w2=w∧k<=11∧∀ q,q<k->q<10->sn q=true) (fun j _=>11-(intOf j).toNat)
 case atStart=>exact⟨0,rfl,rfl,by omega,fun i hi=>by omega⟩
 case round =>
  obtain⟨k,rfl,rfl,hk,hall⟩:=hrel;by_cases hk2:k<11
  ·have cs:=(Zb HR).seen k hk2;have cp:=(Zb HI).spare k hk2;have HA:=Ze hall;clear hall;cases hsn:sn k with
   | true =>
    rw [hsn] at cs;go_wp2;go_roundw
    case rel=>exact⟨k+1,by go_num,by trivial,by omega,fun q hq hq2=>by
     rcases Nat.lt_succ_iff_lt_or_eq.1 hq with h | h
     ·exact Zb HA q h hq2
     ·subst h; exact hsn⟩
    case measure=>simp [intOf]; omega
   | false =>
    rw [hsn] at cs;by_cases h10:k=10
    ·subst h10;simp only [decide_true] at cp;go_wp2;go_roundw
     case rel=>exact⟨11,by go_num,by trivial,by omega,fun q hq hq2=>Zb HA q (by omega) hq2⟩
     case measure=>simp [intOf]
    ·have hno:Zea sn=false:=by unfold Zea;rw [List.all_eq_false];exact⟨k,List.mem_range.2 (by omega),by simp [hsn]⟩
     simp only [h10,decide_false] at cp;go_wp2;go_ret;exact⟨by rw [hno]; rfl,rfl⟩
  ·have hk3:k=11:=by omega
   subst hk3;have hyes:Zea sn=true:=by unfold Zea;rw [List.all_eq_true];exact fun q hq=>hall q (by have:=List.mem_range.1 hq; omega) (List.mem_range.1 hq)
   clear hall;go_wp2;go_ret;exact⟨by rw [hyes]; rfl,rfl⟩
set_option maxHeartbeats 4000000
set_option maxRecDepth 100000
structure Um where
 i:Nat
 sn:Nat->Bool
 vals:Nat->List Int
def Zcz (sn:Nat->Bool)(k:Nat):Nat->Bool:=fun j=>if j=k then true else sn j
def Zda (vals:Nat->List Int)(k:Nat)(ns:List Int):Nat->List Int:=fun j=>if j=k then ns else vals j
def Zdb (s:ByteArray)(l:List Tk)(i:Nat)(sn:Nat->Bool):Option Nat:=(List.range 11).find? fun k=>decide (nm k=(tAt s l i).data.toList)&&!sn k
theorem Zmv {s:ByteArray}{l:List Tk}{i:Nat}{sn:Nat->Bool}(h:∀ k,¬ Iz s l i sn k):Zdb s l i sn=none:=by unfold Zdb;rw [List.find?_eq_none];intro k hk hc;simp at hc;exact h k ⟨List.mem_range.1 hk,hc.1,hc.2⟩
theorem Zmw {s:ByteArray}{l:List Tk}{i:Nat}{sn:Nat->Bool}{k:Nat}(h:Iz s l i sn k):Zdb s l i sn=some k:=by
 cases hf:Zdb s l i sn with
 | none=>unfold Zdb at hf;rw [List.find?_eq_none] at hf;have:=hf k (List.mem_range.2 h.1);simp [h.2.1,h.2.2] at this
 | some j=>unfold Zdb at hf;have h1:=List.find?_some hf;have h2:=List.mem_of_find?_eq_some hf;simp at h1;exact congrArg some (Zvs (List.mem_range.1 h2) h.1 (h1.1.trans h.2.1.symm))
def Gz (s:ByteArray)(l:List Tk)(S:Um):Bool×Um :=
 match Zdb s l S.i S.sn with
 | none=>(false,S)
 | some k =>
  if loK k<=(Gc s l k 13 (S.i+1) []).2.length then
   (if Ix l (Gc s l k 13 (S.i+1) []).1=6 then (true,⟨(Gc s l k 13 (S.i+1) []).1+1,Zcz S.sn k,Zda S.vals k (Gc s l k 13 (S.i+1) []).2⟩)
   else (false,⟨(Gc s l k 13 (S.i+1) []).1,Zcz S.sn k,Zda S.vals k (Gc s l k 13 (S.i+1) []).2⟩))
  else (false,⟨(Gc s l k 13 (S.i+1) []).1,Zcz S.sn k,Zda S.vals k (Gc s l k 13 (S.i+1) []).2⟩)
def Zpd (vs:Nat->Value):Prop:=∀ j k,j<11->k<11->j≠k->∀ g,(vs j).ownBlock=some g->(vs k).ownBlock≠some g
theorem Zpd.upd {vs:Nat->Value}{k N:Nat}{u:Value}(h:Zpd vs)(hu:∀ g,u.ownBlock=some g->N<=g)(ho:∀ j,j<11->∀ g,(vs j).ownBlock=some g->g<N):Zpd (Uq vs k u):=by
 intro i j hi hj hij g h1 h2;unfold Uq at h1 h2;split at h1
 ·split at h2
  ·omega
  ·have:=hu g h1; have:=ho j hj g h2; omega
 ·split at h2
  ·have:=hu g h2; have:=ho i hi g h1; omega
  ·exact h i j hi hj hij g h1 h2
structure RS (s:ByteArray)(l:List Tk)(W0:Nat)(w:World)(b:Nat)(v:Value)(S:Um)(vs:Nat->Value):Prop where
 rdr:So w b s v S.i S.sn vs
 row:∀ k,k<11->w.ownsRow W0 3 1 (vs k) (S.vals k).length (Yz (S.vals k))
 new:∀ k,k<11->S.sn k=false->vs k=.slice none 0 0
 fit:S.i<=l.length
 apart:Zpd vs
theorem Gu {w w':World}{W0 b n:Nat}{u:Value}{xs:List Value}(h:w.ownsRow W0 3 1 u n xs)(hg:w.grownBy w' (some b))(hb:b<W0):w'.ownsRow W0 3 1 u n xs :=
 World.ownsRow.kept h hg (Or.inr (fun e=>by have:=(h.lt b e).1; omega))
theorem Xw {w:World}{b c n:Nat}{u:Value}{xs:List Value}(h:w.ownsRow b 3 1 u n xs)(hc:c<=b):w.ownsRow c 3 1 u n xs:=by
 refine⟨h.1,?_⟩;rcases h.2 with h' | ⟨g,cap,cur,h1,h2,h3⟩
 ·exact Or.inl h'
 ·exact Or.inr ⟨g,cap,cur,h1,by omega,h3⟩
theorem Yfs {l:List Tk}{i:Nat}(h:Ix l i=6):i<l.length:=by
 unfold Ix at h;split at h
 ·rename_i t ht; exact(List.getElem?_eq_some_iff.1 ht).1
 ·simp at h
theorem Zmx (w:World)(b base W0:Nat)(s:ByteArray)(v:Value)(S:Um)(vs:Nat->Value)(l:List Tk)(h:RS s l W0 w b v S vs)(hb:b<W0)(hW:W0<=w.heap.size)(ho:Yt w base v l)(hvb:v.ownBlock≠some b)(hl:l.length<=400)(hw:WfT s l)(hI:Ck w)(hbI:1≠b)(hlt:S.i<l.length) :
 Calls Tryz.prog 110 #[.pointer (some ⟨b,0,none⟩)] w fun e w'=>e=.returned (.bool (Gz s l S).1)∧w.grownBy w' (some b)∧∃ vs',RS s l W0 w' b v (Gz s l S).2 vs':=by
 have HC:=Ze (Znc w b base s v S.i S.sn vs l h.rdr ho hl h.fit hw hI.items hI.lt);have HS:=Ze h;have HO:=Ze ho;have HW:=Ze hw;have HI:=Ze hI;clear h ho hw hI;go_enter Tryz.func110,Tryz.ntmps110
 go_wp2_with fail
 refine(Zb HC).mono ?_;clear HC;rintro e w1 (⟨k,hn,rfl,hg1,hr1⟩ | ⟨hno,rfl,hg1,hr1⟩)
 ·have hk:=hn.1;have HN:=Ze (Zdy k hk w1 b base s v (S.i+1) (Zcz S.sn k) vs l hr1 ((Zb HS).new k hk hn.2.2) ((Zb HO).grown hg1 hvb) hvb hl (by omega) (Zb HW) ((Zb HI).grown hg1 hbI) hbI);have HK:=Ze (Zmw hn);have G1:=Ze hg1;clear hn hg1 hr1;go_wp2_with fail
  refine(Zb HN).mono ?_;clear HN;rintro e w2 ⟨f,i',ns,u,hNI,hE,rfl⟩;have hrows:∀ j,j<11->w2.ownsRow W0 3 1 (Uq vs k u j) (Zda S.vals k ns j).length (Yz (Zda S.vals k ns j)):=fun j hj=>by
   by_cases hjk:j=k
   ·subst hjk;simp only [Uq,Zda,if_true];exact Xw hNI.row (Nat.le_trans hW (Zb G1).size)
   ·simp only [Uq,Zda,hjk,if_false];exact Gu (Gu ((Zb HS).row j hj) (Zb G1) hb) hNI.gb hb
  have hnew:∀ j,j<11->Zcz S.sn k j=false->Uq vs k u j=.slice none 0 0:=fun j hj hs=>by
   by_cases hjk:j=k
   ·subst hjk; simp [Zcz] at hs
   ·simp only [Zcz,Uq,hjk,if_false] at hs ⊢;exact(Zb HS).new j hj hs
  have HAP:=Ze ((Zb HS).apart.upd (k:=k) (fun g hg=>(hNI.row.lt g hg).1) (fun j hj g hg=>Nat.lt_of_lt_of_le ((Zb HS).row j hj |>.lt g hg).2 (Zb G1).size));have G2:=Ze (Yg (Zb G1) hNI.gb);have hN1:(Gc s l k 13 (S.i+1) []).1=i':=by rw [← hE]
  have hN2:(Gc s l k 13 (S.i+1) []).2=ns:=by rw [← hE]
  by_cases hlo:loK k<=ns.length
  ·have HT:=Ze (Znb w2 b base s v i' (Zcz S.sn k) _ l hNI.rdr ((Zb HO).grown (Zb G2) hvb) hl hNI.fit (Zb HW));have hfit:=hNI.fit;have hF:Gz s l S=(decide (Ix l i'=6),⟨if Ix l i'=6 then i'+1 else i',Zcz S.sn k,Zda S.vals k ns⟩):=by unfold Gz;rw [Zb HK];simp only [hN1,hN2,hlo,if_true];by_cases h6:Ix l i'=6 <;> simp [h6]
   have HR:=Ze hrows;have HNW:=Ze hnew;have HF:=Ze hF;clear hNI hE hrows hnew hN1 hN2 hF;simp only [hlo,decide_true];go_wp2_with fail
   refine(Zb HT).mono ?_;rintro e w3 ⟨rfl,hg3,hr3⟩;have G3:=Ze (Yg (Zb G2) hg3);have HR3:=Ze (fun j hj=>Gu (Zb HR j hj) hg3 hb);have H3:=Ze hr3;have hf3:(if Ix l i'=6 then i'+1 else i')<=l.length:=by
    split
    ·rename_i h6; have:=Yfs h6; omega
    ·exact hfit
   clear hg3 hr3;go_wp2;go_ret;rw [Zb HF];exact⟨rfl,Zb G3,_,⟨Zb H3,Zb HR3,Zb HNW,hf3,Zb HAP⟩⟩
  ·have hF:Gz s l S=(false,⟨i',Zcz S.sn k,Zda S.vals k ns⟩):=by unfold Gz;rw [Zb HK];simp only [hN1,hN2,hlo,if_false]
   have HR:=Ze hrows;have HNW:=Ze hnew;have HD:=Ze hNI.rdr;have hfit:=hNI.fit;have HF:=Ze hF;clear hNI hE hrows hnew hN1 hN2 hF;simp only [hlo,decide_false];go_wp2;go_ret;rw [Zb HF];exact⟨rfl,Zb G2,_,⟨Zb HD,Zb HR,Zb HNW,hfit,Zb HAP⟩⟩
 ·have hF:Gz s l S=(false,S):=by unfold Gz;rw [Zmv hno]
  have HF:=Ze hF;clear hF;have H1:=Ze hr1;have G1:=Ze hg1;clear hno hr1 hg1;go_wp2;go_ret;rw [Zb HF];exact⟨rfl,Zb G1,vs,⟨Zb H1,fun k hk=>Gu ((Zb HS).row k hk) (Zb G1) hb,(Zb HS).new,(Zb HS).fit,(Zb HS).apart⟩⟩
set_option maxHeartbeats 4000000
set_option maxRecDepth 100000
def Zr (s:ByteArray)(l:List Tk):Nat->Um->Bool×Um
 | 0,S=>(true,S)
 | f+1,S=>if S.i<l.length then (if (Gz s l S).1 then Zr s l f (Gz s l S).2 else (false,(Gz s l S).2)) else (true,S)
theorem Zjp (s:ByteArray)(l:List Tk)(k:Nat):∀(f i:Nat) (ns:List Int),i<=(Gc s l k f i ns).1
 | 0,i,ns=>Nat.le_refl _
 | f+1,i,ns=>by
  unfold Gc;split
  ·split
   ·have:=Zjp s l k f (i+1) (ns++[‹Int›]); omega
   ·exact Nat.le_refl _
  ·exact Nat.le_refl _
theorem Zjq {s:ByteArray}{l:List Tk}{S:Um}(h:(Gz s l S).1=true):S.i<(Gz s l S).2.i:=by
 unfold Gz at h ⊢;split at h
 ·simp at h
 ·rename_i k _;have:=Zjp s l k 13 (S.i+1) [];split at h
  ·split at h
   ·rename_i h1 h2; simp only [h1,h2,if_true]; omega
   ·simp at h
  ·simp at h
theorem RS.below {s:ByteArray}{l:List Tk}{W0:Nat}{w w':World}{b:Nat}{v:Value}{S:Um}{vs:Nat->Value}(h:RS s l W0 w b v S vs)(hb:Below w.heap.size w w'):RS s l W0 w' b v S vs :=
 ⟨h.rdr.below hb,fun k hk=>World.ownsRow.kept (h.row k hk) (Zn (row:=none) hb) (by cases (vs k).ownBlock <;> simp),h.new,h.fit,h.apart⟩
def Yft:Option Value->Nat
 | some (.int _ n)=>n.toNat
 | _=>0
theorem Zjr (w:World)(b base W0:Nat)(s:ByteArray)(v:Value)(S0:Um)(vs:Nat->Value)(l:List Tk)(h:RS s l W0 w b v S0 vs)(hb:b<W0)(hW:W0<=w.heap.size)(ho:Yt w base v l)(hvb:v.ownBlock≠some b)(hl:l.length<=400)(hw:WfT s l)(hI:Ck w)(hbI:1≠b) :
 Calls Tryz.prog 68 #[.pointer (some ⟨b,0,none⟩)] w fun e w'=>e=.returned (.bool (Zr s l l.length S0).1)∧w.grownBy w' (some b)∧∃ vs',RS s l W0 w' b v (Zr s l l.length S0).2 vs':=by
 have HS:=Ze h;have HO:=Ze ho;have HW:=Ze hw;have HI:=Ze hI;clear h ho hw hI;obtain⟨a,cap,rfl⟩:∃ a cap,v=.slice a l.length cap:=by
  rcases(Zb HO).shape with⟨e,rfl⟩ | ⟨g,cap,rfl⟩
  ·subst e; exact⟨_,_,rfl⟩
  ·exact⟨_,_,rfl⟩
 go_enter Tryz.func68,Tryz.ntmps68
 go_wp2_with fail
 go_loopw [3] (fun _ wr=>∃ S vs f,RS s l W0 wr b (.slice a l.length cap) S vs∧w.grownBy wr (some b)∧Zr s l f S=Zr s l l.length S0∧l.length<=S.i+f) (fun _ wr=>l.length-Yft (wr.cell? ⟨b,2,none⟩))
 case atStart=>exact⟨S0,vs,l.length,Zb HS,⟨rfl,rfl,rfl,Nat.le_refl _,fun _ _ _=>rfl⟩,rfl,by omega⟩
 case round =>
  obtain⟨S,vs,f,hR,hg,hE,hf⟩:=hrel;have c1:=hR.rdr.pcs;have c2:=hR.rdr.nxt;have hfit:=hR.fit;have HR:=Ze hR;have HG:=Ze hg;clear hR hg;by_cases hlt:S.i<l.length
  ·obtain⟨f,rfl⟩:∃ f',f=f'+1:=⟨f-1,by omega⟩;have hgd:w.grownBy wr.drew (some b):=Yg (Zb HG) (Zn (by go_grown));have HC:=Ze (Zmx wr.drew b base W0 s _ S vs l ((Zb HR).below (by go_grown)) hb (Nat.le_trans hW hgd.size) ((Zb HO).grown hgd hvb) hvb hl (Zb HW) ((Zb HI).grown hgd hbI) hbI hlt);have hstep:Zr s l (f+1) S=if (Gz s l S).1 then Zr s l f (Gz s l S).2 else (false,(Gz s l S).2):=by simp [Zr,hlt]
   rw [hstep] at hE;have hon:=fun h=>Zjq (s:=s) (l:=l) (S:=S) h;generalize hIF:Gz s l S=r at *;obtain⟨ok,S'⟩:=r;have HE:=Ze hE;have HON:=Ze hon;clear hE hon hstep hIF;go_wp2;go_region
   all_goals go_wp2_with fail
   all_goals refine(Zb HC).mono ?_
   all_goals rintro e w1 ⟨rfl,hg1,vs1,hR1⟩
   all_goals
    have G1:=Ze (Yg hgd hg1);have c3:=hR1.rdr.nxt;have HR1:=Ze hR1;clear hg1 hR1;cases ok with
    | true =>
     have hlt2:=Zb HON rfl;go_wp2;go_roundw
     case rel=>exact⟨S',vs1,f,Zb HR1,Zb G1,by simpa using Zb HE,by first | omega | (simp at hlt2; omega)⟩
     case measure=>rw [c3,c2];simp only [Yft];have:S.i<S'.i:=hlt2;omega
    | false =>
     have hE2:Zr s l l.length S0=(false,S'):=by simpa using (Zb HE).symm
     have HE2:=Ze hE2;clear hE2;go_wp2;go_ret;rw [Zb HE2];exact⟨rfl,Zb G1,vs1,Zb HR1⟩
  ·have hE2:Zr s l l.length S0=(true,S):=by rw [← hE];cases f <;> simp [Zr,hlt]
   have HE2:=Ze hE2;clear hE2 hE;go_wp2;go_region
   all_goals go_wp2
   all_goals go_ret
   all_goals rw [Zb HE2]
   all_goals exact⟨rfl,Yg (Zb HG) (Zn (by go_grown)),vs,(Zb HR).below (by go_grown)⟩
set_option maxHeartbeats 2000000
set_option maxRecDepth 100000
def Yn (sp lk t0 t1:Int):List Int:=if lk=-1 then [sp,t0,t1] else [sp,t0,t1,lk]
theorem Zvz (sp lk t0 t1:Int):(Yn sp lk t0 t1).length<=4:=by unfold Yn; split <;> simp
theorem De {w:World}{base:Nat}{v:Value}{ns:List Int}(h:w.ownsRow base 3 1 v ns.length (Yz ns)):Rs w v ns:=by
 rcases h.2 with⟨e,e0⟩ | ⟨g,cap,cur,e,-⟩
 ·exact Or.inl ⟨List.eq_nil_of_length_eq_zero e0,none,0,by rw [e]⟩
 ·refine Or.inr ⟨g,0,cap,e,fun i hi=>?_⟩;subst e;have:=h.cellAt i (by omega);simp only [Nat.zero_add] at this ⊢;rw [this];simp [Yz,hi]
theorem Ov {w:World}{base n:Nat}{v:Value}{xs:List Value}(h:w.ownsRow base 3 1 v n xs):∀ a n cap,v=.slice a n cap->n<=cap:=by
 intro a m cap e;rcases h.2 with⟨e1,e0⟩ | ⟨g,cap',cur,e1,_,_,hc,_⟩
 ·rw [e1] at e; injection e with _ h2 h3; omega
 ·rw [e1] at e; injection e with _ h2 h3; omega
theorem Zdf (r sp lk t0 t1:Int)(va vr vs:Value)(al sh by_:Int)(pr:Bool)(w:World):Calls Tryz.prog 114 #[.agg (Zt r sp lk t0 t1 va vr vs al sh by_ pr)] w fun e w'=>∃ v,e=.returned v∧Rs w' v (Yn sp lk t0 t1)∧(∀ a n cap,v=.slice a n cap->n<=cap)∧Below w.heap.size w w':=by
 obtain⟨ti,hti,hz0,hz1,hz2⟩:=Xt Tryz.infoI;unfold Zt;have HOW:=Ze (fun X:Obj=>show((w.alloc X).alloc (.cells #[.int .i64 sp,.int .i64 t0,.int .i64 t1] 3)).ownsRow w.heap.size 3 1 (.slice (some ⟨w.heap.size+1,0,none⟩) 3 3) ([sp,t0,t1]:List Int).length (Yz [sp,t0,t1]) from
  ⟨rfl,Or.inr ⟨w.heap.size+1,3,#[.int .i64 sp,.int .i64 t0,.int .i64 t1],rfl,by omega,by have:=heap_alloc_new (w.alloc X) (.cells #[.int .i64 sp,.int .i64 t0,.int .i64 t1] 3); simpa using this,by simp,by unfold maxLen; omega,rfl,rfl⟩⟩)
 by_cases hk:lk=-1
 ·have hO:Yn sp lk t0 t1=[sp,t0,t1]:=by unfold Yn; rw [if_pos hk]
  rw [hO];clear hO;subst hk;go_enter Tryz.func114,Tryz.ntmps114
  go_wp2;go_ret;exact⟨_,rfl,De (Zb HOW _),Ov (Zb HOW (.cells #[] 3)),by go_grown⟩
 ·have hO:Yn sp lk t0 t1=[sp,t0,t1]++[lk]:=by unfold Yn; rw [if_neg hk]; rfl
  rw [hO];clear hO;have zk:(lk==-1)=false:=by simpa using hk
  go_enter Tryz.func114,Tryz.ntmps114
  go_wp2_with (at_builtin; refine wpList_append_own _ rfl _ _ 23 rfl w.heap.size 3 ti _ 1 8 Tryz.underlying23 hti hz0 hz1 hz2 rfl (by decide) _ _ _ rfl ((Zb HOW _).alloc _) ⟨w.heap.size+2,0,none⟩ 1 1 [.int .i64 lk] rfl rfl (by intro j u hj; match j,hj with | 0,hj=>(simp at hj; subst hj; exact(World.cell?_alloc_at _ _ _ _ (by simp)).trans rfl)) (by intro u hu; simp at hu; subst hu; rfl) ?c3 ?c4 ?c5 ?_)
  case c3=>unfold maxLen; simp
  case c4=>simp
  case c5=>simp; omega
  intro v' w7 hown hgr _;have HOWN:=Ze hown;have HB:=Ze (show Below w.heap.size w w7 from((((Below.refl w.heap.size w).alloc (Nat.le_refl _) _).alloc (by simp) _).alloc (by simp; omega) _).trans ⟨hgr.os,hgr.tape,hgr.output,hgr.size,fun q hq=>hgr.block q (by simp; omega) (fun e=>by simp [Value.ownBlock] at e; omega)⟩);clear hown hgr;go_wp2;go_ret;have h1:w7.ownsRow w.heap.size 3 1 v' ([sp,t0,t1]++[lk]:List Int).length (Yz ([sp,t0,t1]++[lk])):=Zb HOWN;exact⟨_,rfl,De h1,Ov h1,Zb HB⟩
end Go.Proofs.YtkenknfgeoecbaaGreatDoor
