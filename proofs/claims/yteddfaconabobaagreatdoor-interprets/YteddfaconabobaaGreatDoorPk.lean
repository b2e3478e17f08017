import Derived.Deep.RegionHeld3
import Derived.WalkKit
namespace Go.Proofs.YteddfaconabobaaGreatDoor
section
variable {α:Type}
theorem zA (l:List α)(i:Nat)(a:α):l.toArray.setIfInBounds i a=(l.set i a).toArray:=List.setIfInBounds_toArray l i a
theorem zB {x:α}{xs:List α}{a:α}:(x :: xs).set 0 a=a :: xs:=rfl
theorem zC {x:α}{xs:List α}{i:Nat}{a:α}:(x :: xs).set (i+1) a=x :: xs.set i a:=rfl
theorem zD {xs:List α}{i:Nat}(h:i<xs.toArray.size):xs.toArray[i]=xs[i]'h:=rfl
theorem zE (a:α)(l:List α)(h:0<(a :: l).length):(a :: l)[0]=a:=rfl
theorem zF (a:α)(l:List α)(i:Nat)(h:i+1<(a :: l).length):(a :: l)[i+1]=l[i]'(Nat.lt_of_succ_lt_succ h):=rfl
end
def nth:List Value→Nat→Option Value
 | [],_=>none
 | a :: _,0=>some a
 | _ :: l,k+1=>nth l k
theorem Zfp:∀(l:List Value) (k:Nat),nth l k=l[k]?
 | [],_=>rfl
 | _ :: _,0=>rfl
 | _ :: l,k+1=>(Zfp l k).trans (by simp)
theorem cR {w:World}{g:Nat}{cs:Array Value}{t:TypeId}{fr:Nat×Nat}(h:w.heap[g]?=some (.cells cs t fr))(k:Nat){v:Value}(hv:nth cs.toList k=some v:=by rfl):w.cell? ⟨g,k,none⟩=some v:=by
 rw [cell_of_row w g k cs t fr h,← Array.getElem?_toList,← Zfp];exact hv
section
variable {P:Program} {ops:Array Oper} {Q:Exit→Act→World→Prop} {md:Region.Mode} {S:World→Prop} {oi:Oper} {fuel:Nat} {listed:Array Bool} {a:Act} {w:World}
theorem tT (i:Nat){v:Value}(h:wpAnyH P md ops Q S fuel (listed.setIfInBounds i true) (a.put oi.dst v) w)(h0:ops[i]?=some oi:=by rfl)(h1:(Region.noSelect ops&&(Region.free md ops listed i&&(Region.ready md ops listed).contains i))=true:=by kernel_rfl)(hg:Region.wanted oi (yielded ops a.tmps)=true:=by rfl)(hy:∀(w:World),S w→Sem.run P (execOp a.eval oi) w=Result.ok (Next.value v) w:=by intro V hV; (try dsimp only at hV); go_simp; all_goals (with_reducible rfl))(hq:∀(c:List PanicEntry) (a:Act) (w:World),Q (Exit.panic c) (a.put oi.dst v) w→Q (Exit.panic c) a w:=by exact fun _ _ _ h=>h)(hs:S w:=by assumption):wpAnyH P md ops Q S (fuel+1) listed a w:=by
 simp only [Bool.and_eq_true] at h1;exact wpAnyH_take h0 h1.1 h1.2.1 h1.2.2 hq (Or.inl ⟨hg,hy⟩) hs h
theorem tW (i:Nat){v:Value}(hy:∀(w:World),S w→Sem.run P (execOp a.eval oi) w=Result.ok (Next.value v) w)(h:wpAnyH P md ops Q S fuel (listed.setIfInBounds i true) (a.put oi.dst v) w)(h0:ops[i]?=some oi:=by rfl)(h1:(Region.noSelect ops&&(Region.free md ops listed i&&(Region.ready md ops listed).contains i))=true:=by kernel_rfl)(hg:Region.wanted oi (yielded ops a.tmps)=true:=by rfl)(hq:∀(c:List PanicEntry) (a:Act) (w:World),Q (Exit.panic c) (a.put oi.dst v) w→Q (Exit.panic c) a w:=by exact fun _ _ _ h=>h)(hs:S w:=by assumption):wpAnyH P md ops Q S (fuel+1) listed a w:=by
 simp only [Bool.and_eq_true] at h1;exact wpAnyH_take h0 h1.1 h1.2.1 h1.2.2 hq (Or.inl ⟨hg,hy⟩) hs h
theorem tX (i:Nat){v:Value}(h:wpAnyH P md ops Q S fuel (listed.setIfInBounds i true) (a.put oi.dst v) w)(h0:ops[i]?=some oi:=by rfl)(h1:(Region.noSelect ops&&(Region.free md ops listed i&&(Region.ready md ops listed).contains i))=true:=by kernel_rfl)(hg:Region.wanted oi (yielded ops a.tmps)=true:=by rfl)(hy:∀(w:World),S w→Sem.run P (execOp a.eval oi) w=Result.ok (Next.value v) w:=by rintro V ⟨-,-,g2⟩; go_simp; all_goals (with_reducible rfl))(hq:∀(c:List PanicEntry) (a:Act) (w:World),Q (Exit.panic c) (a.put oi.dst v) w→Q (Exit.panic c) a w:=by exact fun _ _ _ h=>h)(hs:S w:=by assumption):wpAnyH P md ops Q S (fuel+1) listed a w:=by
 simp only [Bool.and_eq_true] at h1;exact wpAnyH_take h0 h1.1 h1.2.1 h1.2.2 hq (Or.inl ⟨hg,hy⟩) hs h
theorem tS (i:Nat)(h:wpAnyH P md ops Q S fuel (listed.setIfInBounds i true) (a.put oi.dst undef) w)(h0:ops[i]?=some oi:=by rfl)(h1:(Region.noSelect ops&&(Region.free md ops listed i&&(Region.ready md ops listed).contains i))=true:=by kernel_rfl)(hg:Region.wanted oi (yielded ops a.tmps)=false:=by rfl)(hq:∀(c:List PanicEntry) (a:Act) (w:World),Q (Exit.panic c) (a.put oi.dst undef) w→Q (Exit.panic c) a w:=by exact fun _ _ _ h=>h)(hs:S w:=by assumption):wpAnyH P md ops Q S (fuel+1) listed a w:=by
 simp only [Bool.and_eq_true] at h1;exact wpAnyH_take h0 h1.1 h1.2.1 h1.2.2 hq (Or.inr ⟨hg,rfl⟩) hs h
theorem tO (i:Nat)(h:∀ K:Act→World→Prop,_root_.Go.Shut (∀ a w,S w→(S w→wpAnyH P md ops Q S fuel (listed.setIfInBounds i true) a w)→K a w)→if Region.wanted oi (yielded ops a.tmps)=true then Oper.wp P oi a w K Q else K (a.put oi.dst undef) w)(h0:ops[i]?=some oi:=by rfl)(h1:Region.ready md ops listed=[i]:=by kernel_rfl):wpAnyH P md ops Q S (fuel+1) listed a w:=wpAnyH_ready h1 (by simp) (AllReadyH.cons h0 h AllReadyH.nil)
end
end Go.Proofs.YteddfaconabobaaGreatDoor
