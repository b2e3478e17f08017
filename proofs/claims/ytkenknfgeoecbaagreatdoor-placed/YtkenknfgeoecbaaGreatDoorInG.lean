import Derived.Test.YtkenknfgeoecbaaGreatDoorJ28
namespace Go.Proofs.YtkenknfgeoecbaaGreatDoor
open Go.RowKit
theorem Zqv {w0 V:World}{x:Ms}{q lo hi lg bc sc oc:Nat}{bp sp op:Option Addr}{gs:List Nat}{B:Nat→Value}(h:Uo w0 V x q lo hi lg bp sp op bc sc oc gs B){k:Nat}(hk:k<x.s.length):∃ s0,sp=some ⟨s0,0,none⟩∧V.cell? ⟨s0,k,none⟩=some (.slice (some ⟨gs.getD k 0,0,none⟩) (x.s.getD k []).length (x.s.getD k []).length):=by
 rcases h.slo.2 with⟨-,e0⟩ | ⟨g,cap,cur,e1,h2,h3,h4,-,h6,h7⟩
 ·omega
 ·injection e1 with e1 _ _;refine⟨g,e1,(Zh h3 k).trans ?_⟩;have h8:(cur.toList.take (x.s.length*1))[k]?=(slC gs (x.s.map List.length))[k]?:=by rw [h7]
  rw [List.getElem?_take,if_pos (by omega)] at h8;rw [show cur[k]?=cur.toList[k]? by simp,h8];simp [slC,hk,List.getD]
end Go.Proofs.YtkenknfgeoecbaaGreatDoor
