import Derived.Test.YtnlcfnjeagmemaaGreatDoorProg
import Derived.WalkKit
import Derived.Handy
namespace Go.Proofs.YtnlcfnjeagmemaaGreatDoor
open Go.RowKit
theorem Y {p:Prop}(h:p):Hid p:=h
theorem O {p:Prop}(h:Hid p):p:=h
def Zzp (ns:List Int)(x:Int):Int:=if x ∈ ns then (ns.idxOf x:Int) else -1
theorem Tryz.slices_Contains_int_empty (p:Option Addr)(cap:Nat)(x:Int)(w:World):Calls Tryz.prog 115 #[.slice p 0 cap,.int .i64 x] w fun e w'=>e=.returned (.bool false)∧w'=w:=by
 have hi:Calls Tryz.prog 131 #[.slice p 0 cap,.int .i64 x] w fun e w'=>e=.returned (.int .i64 (-1))∧w'=w:=by
  go_enter Tryz.func131,Tryz.ntmps131
  go_wp2_with fail
  refine wp_loop_rounds 1 ?_;rw [rounds_succ];go_wp2;go_ret;exact⟨rfl,rfl⟩
 have HI:=Y hi;clear hi;go_enter Tryz.func115,Tryz.ntmps115
 go_wp2_with fail
 refine(O HI).mono ?_;rintro e w2 ⟨rfl,h2⟩;subst w2;go_wp2;go_ret;exact⟨rfl,rfl⟩
set_option maxHeartbeats 1000000 in
set_option maxRecDepth 100000 in
theorem Zsa (sb so n cap:Nat)(ns:List Int)(x:Int)(w:World)(hn:n=ns.length)(hs:n≤1000000)(hc:∀ i,i<n→w.cell? ⟨sb,so+i,none⟩=some (.int .i64 (ns.getD i 0))) :
 Calls Tryz.prog 131 #[.slice (some ⟨sb,so,none⟩) n cap,.int .i64 x] w fun e w'=>(∃ r:Int,e=.returned (.int .i64 r)∧(0≤r↔x ∈ ns))∧w'=w:=by
 have HC:=Y hc;clear hc;go_enter Tryz.func131,Tryz.ntmps131
 go_wp2_with fail
 go_loopw [8] (fun j w'=>∃ k:Nat,j=.int .i64 k∧k≤n∧w'=w∧¬ x ∈ ns.take k) (fun j _=>n-(intOf j).toNat)
 case atStart=>exact⟨0,rfl,by omega,rfl,by simp⟩
 case round =>
  obtain⟨k,rfl,hk,rfl,hno⟩:=hrel;have HN:=Y hno;clear hno;by_cases hlt:k<n
  ·
   have c:=O HC k hlt;have hlt':k<ns.length:=by omega
   have hg:ns.getD k 0=ns[k]:=by simp [List.getD,hlt']
   by_cases hx:ns.getD k 0=x
   ·
    have hm:=Y (show x ∈ ns from hx ▸ hg ▸ List.getElem_mem hlt');rw [hx] at c;clear hx hg;go_wp2;go_ret;exact⟨⟨k,rfl,iff_of_true (by omega) (O hm)⟩,rfl⟩
   ·
    have HT:=Y (show ¬ x ∈ ns.take (k+1) by
     rw [List.take_succ_eq_append_getElem hlt'];intro hm;rcases List.mem_append.1 hm with h' | h'
     ·
      exact O HN h'
     ·
      simp at h';exact hx (hg.trans h'.symm))
    generalize hy:ns.getD k 0=y at c hx;have z:(x==y)=false:=by simpa using fun e=>hx e.symm
    clear hy hg;go_wp2;go_roundw
    case rel=>exact⟨k+1,by go_num,by omega,trivial,O HT⟩
    case measure=>simp [intOf]; omega
  ·
   have HT:=Y (show ¬ x ∈ ns by have:=O HN; rwa [show k=ns.length by omega,List.take_length] at this);obtain rfl:k=n:=by omega
   go_wp2;go_ret;exact⟨⟨-1,rfl,iff_of_false (by omega) (O HT)⟩,rfl⟩
theorem Tryz.slices_Contains_int (sb so n cap:Nat)(ns:List Int)(x:Int)(w:World)(hn:n≤ns.length)(hs:n≤1000000)(hc:∀ i,i<n→w.cell? ⟨sb,so+i,none⟩=some (.int .i64 (ns.getD i 0))) :
 Calls Tryz.prog 115 #[.slice (some ⟨sb,so,none⟩) n cap,.int .i64 x] w fun e w'=>e=.returned (.bool ((ns.take n).contains x))∧w'=w:=by
 have HI:=Y (Zsa sb so n cap (ns.take n) x w (by simp; omega) hs (fun i hi=>by rw [hc i hi]; simp [List.getD,hi]));clear hc;go_enter Tryz.func115,Tryz.ntmps115
 go_wp2_with fail
 refine(O HI).mono ?_;rintro e w2 ⟨⟨r,rfl,hr⟩,h2⟩;subst w2;have HR:=Y hr;clear hr;go_wp2;go_ret;exact⟨by rw [List.contains_eq_mem]; exact congrArg (fun b=>Ending.returned (.bool b)) (decide_eq_decide.2 (O HR)),rfl⟩
end Go.Proofs.YtnlcfnjeagmemaaGreatDoor
