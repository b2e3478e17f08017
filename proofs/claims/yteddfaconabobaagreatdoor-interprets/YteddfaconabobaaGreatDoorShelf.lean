import Derived.Test.YteddfaconabobaaGreatDoorProg
import Derived.WalkKit
import Derived.Handy
namespace Go.Proofs.YteddfaconabobaaGreatDoor
open Go.RowKit
theorem J {p:Prop}(h:p):Hid p:=h
theorem G {p:Prop}(h:Hid p):p:=h
def Zpt (ns:List Int)(x:Int):Int:=if x ∈ ns then (ns.idxOf x:Int) else -1
theorem Tryz.slices_Contains_int_empty (p:Option Addr)(cap:Nat)(x:Int)(w:World):Calls Tryz.prog 97 #[.slice p 0 cap,.int .i64 x] w fun e w'=>e=.returned (.bool false)∧w'=w:=by
 have hi:Calls Tryz.prog 107 #[.slice p 0 cap,.int .i64 x] w fun e w'=>e=.returned (.int .i64 (-1))∧w'=w:=by
  go_enter Tryz.func107,Tryz.ntmps107
  go_wp2_with fail
  refine wp_loop_rounds 1 ?_;rw [rounds_succ];go_wp2;go_ret;exact⟨rfl,rfl⟩
 have HI:=J hi;clear hi;go_enter Tryz.func97,Tryz.ntmps97
 go_wp2_with fail
 refine(G HI).mono ?_;rintro e w2 ⟨rfl,h2⟩;subst w2;go_wp2;go_ret;exact⟨rfl,rfl⟩
set_option maxHeartbeats 1000000 in
set_option maxRecDepth 100000 in
theorem Zmb (sb so n cap:Nat)(ns:List Int)(x:Int)(w:World)(hn:n=ns.length)(hs:n≤1000000)(hc:∀ i,i<n→w.cell? ⟨sb,so+i,none⟩=some (.int .i64 (ns.getD i 0))) :
 Calls Tryz.prog 107 #[.slice (some ⟨sb,so,none⟩) n cap,.int .i64 x] w fun e w'=>(∃ r:Int,e=.returned (.int .i64 r)∧(0≤r↔x ∈ ns))∧w'=w:=by
 have HC:=J hc;clear hc;go_enter Tryz.func107,Tryz.ntmps107
 go_wp2_with fail
 go_loopw [8] (fun j w'=>∃ k:Nat,j=.int .i64 k∧k≤n∧w'=w∧¬ x ∈ ns.take k) (fun j _=>n-(intOf j).toNat)
 case atStart=>exact⟨0,rfl,by omega,rfl,by simp⟩
 case round =>
  obtain⟨k,rfl,hk,rfl,hno⟩:=hrel;have HN:=J hno;clear hno;by_cases hlt:k<n
  ·
   have c:=G HC k hlt;have hlt':k<ns.length:=by omega
   have hg:ns.getD k 0=ns[k]:=by simp [List.getD,hlt']
   by_cases hx:ns.getD k 0=x
   ·
    have hm:=J (show x ∈ ns from hx ▸ hg ▸ List.getElem_mem hlt');rw [hx] at c;clear hx hg;go_wp2;go_ret;exact⟨⟨k,rfl,iff_of_true (by omega) (G hm)⟩,rfl⟩
   ·
    have HT:=J (show ¬ x ∈ ns.take (k+1) by
     rw [List.take_succ_eq_append_getElem hlt'];intro hm;rcases List.mem_append.1 hm with h' | h'
     ·
      exact G HN h'
     ·
      simp at h';exact hx (hg.trans h'.symm))
    generalize hy:ns.getD k 0=y at c hx;have z:(x==y)=false:=by simpa using fun e=>hx e.symm
    clear hy hg;go_wp2;go_roundw
    case rel=>exact⟨k+1,by go_num,by omega,trivial,G HT⟩
    case measure=>simp [intOf]; omega
  ·
   have HT:=J (show ¬ x ∈ ns by have:=G HN; rwa [show k=ns.length by omega,List.take_length] at this);obtain rfl:k=n:=by omega
   go_wp2;go_ret;exact⟨⟨-1,rfl,iff_of_false (by omega) (G HT)⟩,rfl⟩
theorem Tryz.slices_Contains_int (sb so n cap:Nat)(ns:List Int)(x:Int)(w:World)(hn:n≤ns.length)(hs:n≤1000000)(hc:∀ i,i<n→w.cell? ⟨sb,so+i,none⟩=some (.int .i64 (ns.getD i 0))) :
 Calls Tryz.prog 97 #[.slice (some ⟨sb,so,none⟩) n cap,.int .i64 x] w fun e w'=>e=.returned (.bool ((ns.take n).contains x))∧w'=w:=by
 have HI:=J (Zmb sb so n cap (ns.take n) x w (by simp; omega) hs (fun i hi=>by rw [hc i hi]; simp [List.getD,hi]));clear hc;go_enter Tryz.func97,Tryz.ntmps97
 go_wp2_with fail
 refine(G HI).mono ?_;rintro e w2 ⟨⟨r,rfl,hr⟩,h2⟩;subst w2;have HR:=J hr;clear hr;go_wp2;go_ret;exact⟨by rw [List.contains_eq_mem]; exact congrArg (fun b=>Ending.returned (.bool b)) (decide_eq_decide.2 (G HR)),rfl⟩
end Go.Proofs.YteddfaconabobaaGreatDoor
