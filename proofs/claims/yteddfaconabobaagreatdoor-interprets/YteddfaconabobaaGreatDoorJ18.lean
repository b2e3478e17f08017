import Derived.Test.YteddfaconabobaaGreatDoorFrF
import Derived.Test.YteddfaconabobaaGreatDoorJ14
namespace Go.Proofs.YteddfaconabobaaGreatDoor
open Go.RowKit
theorem Sn {n:Nat}{ok:Nat→Bool}(h:Gg n ok=none):∀ k,k<n→ok k=true:=fun k hk=>by
 unfold Gg at h;rw [List.find?_eq_none] at h;have:=h k (List.mem_range.2 hk);simpa using this
theorem Zij {tab:Bool}{r:Int}{own:List Int}{p:Zl}(h:(Gr tab r own p).e=0):tab=true∧Yw p=true∧(∀ k,k<p.funcs.length→Yf r own (p.funcs.getD k Ze)=true)∧∀ k,k<p.funcs.length→Gt p (p.funcs.getD k Ze)=true:=by
 unfold Gr at h;cases tab with
 | false=>simp at h
 | true =>
  cases hc:Yw p with
  | false=>rw [hc] at h; simp at h
  | true =>
   rw [hc] at h;simp only [Bool.true_eq_false,if_false] at h;cases h1:Gg p.funcs.length (fun k=>Yf r own (p.funcs.getD k Ze)) with
   | some k=>rw [h1] at h; simp at h
   | none =>
    rw [h1] at h;cases h2:Gg p.funcs.length (fun k=>Gt p (p.funcs.getD k Ze)) with
    | some k=>rw [h2] at h; simp at h
    | none=>exact⟨rfl,rfl,Sn h1,Sn h2⟩
theorem Gj {P:Program}{fn:Func}{p q:Tmp}{px uy:TypeId}(h:fn.results=#[.cell p px,.cell q uy])(tmps:Array Value)(w:World)(g:Nat)(t:TypeId)(cs:Array Value)(fr:Nat×Nat)(d:TypeDesc)(g':Nat)(t':TypeId)(cs':Array Value)(fr':Nat×Nat)(d':TypeDesc)
 (hp:tmps.getD p undef=.pointer (some ⟨g,0,none⟩)) (hg:w.heap[g]?=some (.cells cs t fr)) (hu:P.underlying px=some d) (hd:(match d with | .struct _ | .array _ _=>true | _=>false)=true) (hi:(P.info? px).map (·.size)=some cs.size)
 (hp':tmps.getD q undef=.pointer (some ⟨g',0,none⟩)) (hg':w.heap[g']?=some (.cells cs' t' fr')) (hu':P.underlying uy=some d') (hd':(match d' with | .struct _ | .array _ _=>true | _=>false)=true) (hi':(P.info? uy).map (·.size)=some cs'.size) :
 (results fn tmps).run P w=.ok (.tuple #[.agg cs,.agg cs']) w:=by
 have e1:tmps[p]?.getD undef=.pointer (some ⟨g,0,none⟩):=by simpa using hp
 have e2:tmps[q]?.getD undef=.pointer (some ⟨g',0,none⟩):=by simpa using hp'
 simp [results,h,e1,e2,asAddr,run_loadVar_row w g t px cs fr d hg hu hd hi,run_loadVar_row w g' t' uy cs' fr' d' hg' hu' hd' hi']
theorem Tryz.infPfK:(Tryz.prog.info? 40).map (·.size)=some 4:=by kernel_rfl
end Go.Proofs.YteddfaconabobaaGreatDoor
