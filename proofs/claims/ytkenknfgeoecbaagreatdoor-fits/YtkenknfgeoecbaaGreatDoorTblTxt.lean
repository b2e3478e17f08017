import Derived.Test.YtkenknfgeoecbaaGreatDoorJ12
namespace Go.Proofs.YtkenknfgeoecbaaGreatDoor
open Go.RowKit
set_option maxRecDepth 1000000
def Znp:ByteArray:=⟨#[114,101,103,115,32,49,50,59,32,115,112,32,49,49,59,32,108,105,110,107,32,45,59,32,116,101,109,112,115,32,57,32,49,48,59,32,97,114,103,115,32,48,32,49,32,50,32,51,59,32,114,101,115,117,108,116,115,32,48,32,49,59,32,115,97,118,101,115,32,53,32,54,32,55,59,32,97,108,105,103,110,32,49,54,59,32,115,104,97,100,111,119,32,48,59,32,98,121,114,101,102,32,50,59]⟩
def Znq:ByteArray:=⟨#[114,101,103,115,32,49,52,59,32,115,112,32,49,51,59,32,108,105,110,107,32,49,50,59,32,116,101,109,112,115,32,49,48,32,49,49,59,32,97,114,103,115,32,48,32,49,32,50,32,51,59,32,114,101,115,117,108,116,115,32,48,32,49,59,32,115,97,118,101,115,32,54,32,55,32,56,32,57,59,32,97,108,105,103,110,32,49,54,59,32,115,104,97,100,111,119,32,49,54,59,32,98,121,114,101,102,32,50,59,32,112,97,105,114,115,59]⟩
def Zkv (x:(Nat×Nat) ⊕ Uy)(v:List (List Int))(p:Bool):Bool:=match x with
 | .inr S=>(List.range 10).all (fun k=>decide (S.vals k=v.getD k []))&&decide (S.sn 10=p)
 | .inl _=>false
theorem Zxl:Zkv (Xo Znp) [[12],[11],[-1],[9,10],[0,1,2,3],[0,1],[5,6,7],[16],[0],[2]] false=true:=by kernel_rfl
theorem Zxm:Zkv (Xo Znq) [[14],[13],[12],[10,11],[0,1,2,3],[0,1],[6,7,8,9],[16],[16],[2]] true=true:=by kernel_rfl
theorem Znr {x:(Nat×Nat) ⊕ Uy}{v:List (List Int)}{p:Bool}(h:Zkv x v p=true):∃ S,x=.inr S∧(∀ k,k<10->S.vals k=v.getD k [])∧S.sn 10=p:=by
 cases x with
 | inl y=>cases h
 | inr S=>simp only [Zkv,Bool.and_eq_true,List.all_eq_true,List.mem_range,decide_eq_true_eq] at h;exact⟨S,rfl,h.1,h.2⟩
end Go.Proofs.YtkenknfgeoecbaaGreatDoor
