import Derived.Test.YteddfaconabobaaGreatDoorJ21
import Derived.WalkKit
namespace Go.Proofs.YteddfaconabobaaGreatDoor
open Go.RowKit
section
variable {P:Program} {ops:Array Oper} {Q:Exit→Act→World→Prop} {md:Region.Mode} {C:World→Prop} {d:Nat} {oi od:Oper} {n:Nat} {L:Array Bool} {a:Act} {w:World}
theorem uT (i:Nat){v:Value}(hC:C w)(h:Db P md ops Q C d n (L.setIfInBounds i true) (a.put oi.dst v) w)(hi:ops[i]?=some oi:=by rfl)(hd:ops[d]?=some od:=by rfl)(hk:((od.after.any fun e=>Region.binds md e&&e.on==i)&&(Region.noSelect ops&&(Region.free md ops L i&&((Region.ready md ops L).contains i&&!(L.getD d true)))))=true:=by kernel_rfl)(hg:Region.wanted oi (yielded ops a.tmps)=true:=by rfl)(hy:∀(w:World),C w→Sem.run P (execOp a.eval oi) w=Result.ok (Next.value v) w:=by intro V hV; (try dsimp only at hV); go_simp; all_goals (with_reducible rfl))(hQ:∀ c a w,Q (.panic c) (a.put oi.dst v) w→Q (.panic c) a w:=by exact fun _ _ _ h=>h):Db P md ops Q C d (n+1) L a w :=
 Zln hi hd hk hQ (Or.inl ⟨hg,hy⟩) hC h
theorem uO (i:Nat)(h:∀ K':Act→World→Prop,_root_.Go.Shut (∀ a w,((L.setIfInBounds i true).getD d true=false→C w)→Db P md ops Q C d n (L.setIfInBounds i true) a w→K' a w)→if Region.wanted oi (yielded ops a.tmps)=true then Oper.wp P oi a w K' Q else K' (a.put oi.dst undef) w)(hr:Region.ready md ops L=[i]:=by kernel_rfl)(ho:ops[i]?=some oi:=by rfl):Db P md ops Q C d (n+1) L a w:=Xy hr ho h
end
end Go.Proofs.YteddfaconabobaaGreatDoor
