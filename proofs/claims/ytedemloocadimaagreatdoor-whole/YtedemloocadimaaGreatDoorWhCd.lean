import Derived.Test.YtedemloocadimaaGreatDoorRows
import Derived.Test.YtedemloocadimaaGreatDoorCards
import Derived.Test.YtedemloocadimaaGreatDoorTie
import Derived.ProofKit
import Derived.OpenShut
import Derived.ChangeSame
import Derived.ChangeSlices
import Derived.ChangeVars
import Derived.JoinedOf
import Derived.RowKit
import Derived.RowKitTokens
import Derived.LaidLaws
import Derived.LaidHandle
import Derived.LaidSub
import Derived.Stop.Joined
import Derived.SevenTiedAt
import Derived.SizedLaws
import Derived.WideShapes
import Derived.MakeChecks
import Derived.Lib.LaidU8
import Derived.Lib.LaidTab
import Derived.Lay
import Derived.Test.YtedemloocadimaaGreatDoorJ18
import Derived.Test.YtedemloocadimaaGreatDoorJ23
import Derived.Test.YtedemloocadimaaGreatDoorJ51
import Derived.Test.YtedemloocadimaaGreatDoorWhFive
import Derived.Test.YtedemloocadimaaGreatDoorWhMet
import Derived.Test.YtedemloocadimaaGreatDoorWhJa
import Derived.Test.YtedemloocadimaaGreatDoorWhJb
namespace Go.Proofs.YtedemloocadimaaGreatDoor
open Go.ChangeShapes Go.WideShapes Go.ChangeAt Go.RowKit
set_option maxRecDepth 100000
theorem Tryz.gPowTQ:(Tryz.prog.globals[6]?).map (·.type)=some 479:=by kernel_rfl
theorem Zsq {H:Type}:(Rows.laid_internal_strconv_uint64pow10:DataW H)=Lib.tabData .u64 Lib.pow10Tab:=by kernel_rfl
theorem Zhq {W : World} (h : Lib.VarReads Tryz.prog W "internal/strconv.uint64pow10" Rows.laid_internal_strconv_uint64pow10) : Lib.TabIs Tryz.prog W "internal/strconv.uint64pow10" .u64 Lib.pow10Tab := by
 obtain⟨g,t,cs,fuel,p,hg,ht,hv,hd⟩:=h;obtain rfl:=Option.some.inj (Tryz.gPow.symm.trans hg);obtain rfl:=Option.some.inj (Tryz.gPowTQ.symm.trans ht);rw [Zsq] at hd;unfold Lib.TabIs;rw [hv,← Lib.cells_of_tab Tryz.underlying479 Tryz.underlying50 (by kernel_rfl) (by kernel_rfl) hd]
theorem Zez {W:World}(h:laidMetH Tryz.prog Rows.wholeRow.laid W):Env W∧Zs W:=by
 have h1:=(laidMetH_iff.1 h).1;have hI:Itm W:=Zhp (Lib.laidMet.reads h1 (List.mem_filter.2 ⟨by simp [Rows.wholeRow],by kernel_rfl⟩));refine⟨⟨?_,hI,Zul h (List.mem_filter.2 ⟨by simp [Rows.wholeRow],by kernel_rfl⟩),hI.items,Zhq (Lib.laidMet.reads h1 (List.mem_filter.2 ⟨by simp [Rows.wholeRow],by kernel_rfl⟩))⟩,Zcy (Lib.laidMet.reads h1 (List.mem_filter.2 ⟨by simp [Rows.wholeRow],by kernel_rfl⟩))⟩;exact utf8Tabs_of_reads Tryz.lays260 Tryz.u8X (Yer ▸ Lib.laidMet.reads h1 (d:=Rows.laid_unicode_utf8_first) (List.mem_filter.2 ⟨by simp [Rows.wholeRow],by kernel_rfl⟩)) (Yax ▸ Lib.laidMet.reads h1 (d:=Rows.laid_unicode_utf8_acceptRanges) (List.mem_filter.2 ⟨by simp [Rows.wholeRow],by kernel_rfl⟩))
def Ygt:Array Value:=#[.agg #[.slice none 0 0,.slice none 0 0],.string ⟨#[]⟩]
theorem Zhr (os:Os)(started:os.Started)(H:Type)(enc:TypeId×Value→H) :
 ReturnsInHanded {} Tryz.checked os 3 .any (fun w args=>(Rows.wholeSpec.pre enc Tryz.prog Tryz.f3 [] false w args∧laidMetH Tryz.prog Rows.wholeRow.laid w)∧sizedMet enc Tryz.prog Tryz.f3 (OpenSpec.ofChange Rows.wholeSpec) false w args)
  (Rows.wholeSpec.post enc Tryz.prog Tryz.f3 false true false false):=by
 refine returnsInHanded_of_change_and (C:=Tryz.checked) (X:=fun w _=>laidMetH Tryz.prog Rows.wholeRow.laid w) (fun _ _ _ hh h=>h.of_heap hh) Tryz.ownE started (by kernel_rfl) Tryz.func3
  (ChangeSpec.witness_at (enc:=enc) (C:=Tryz.checked) (os:=os) (X:=fun w _=>laidMetH Tryz.prog Rows.wholeRow.laid w) false (Zoq (World.laidAll Tryz.prog os Zyb)) Ygt 8 rfl (by kernel_rfl) (by kernel_rfl) (by kernel_rfl) (by kernel_rfl) (by kernel_rfl) (Zth os _)) ?_
 intro W base args ds gs before hval0 hW _ hsz0 hL _;have hval:∀(j:Nat) t v,Tryz.f3.params[j]?=some t→args[j]?=some v→Value.okWide Tryz.prog W .any base t v:=hval0;have hW':=hW;obtain⟨p,q,hA0,hV0,rfl,hfz,hnd⟩:=hW;have hA:DataW.TrodAll enc Tryz.prog W 0 (fun _=>true) true Tryz.f3.params.toList args.toList ds p:=hA0;have hV:DataW.TrodVars enc Tryz.prog W (fun _=>true) [] gs q:=hV0;have hlt:=DataW.TrodAll.lt hA;have hsz1:(DataW.weightsEach Tryz.prog (Tryz.f3.params.toList++Rows.wholeSpec.plain.varTypes Tryz.prog) (ds++gs)).all (·≤reachBytes)=true:=hsz0;rw [Tryz.params3] at hA hval hsz1;obtain⟨v0,v1,d0,d1,p0,p1,rfl,rfl,rfl,h0,h1⟩:=trodAll_two hA;obtain⟨rfl,rfl⟩:=trodVars_none hV;clear hA0 hval0 hV0;simp only [List.append_nil] at hW' hlt;have hlite:∀ x ∈ d0.weights Tryz.prog 25,x≤reachBytes:=fun x hx=>by
  have:=List.all_eq_true.1 hsz1 x (by
   simp only [List.cons_append,List.nil_append,DataW.weightsEach,List.mem_append];exact Or.inl hx)
  simpa using this
 obtain⟨hE,hN⟩:=Zez hL;obtain⟨fv,ev,P,A,E,rfl,hP,hnum,-⟩:=Zlw (hval 0 25 v0 rfl rfl) h0 hlite;obtain⟨s,rfl⟩:=okWide_string Tryz.underlying9 (hval 1 9 v1 rfl rfl);refine(Zoe P fv ev A E s W hE hN hP hnum).mono fun e W' ⟨he,hb⟩=>?_;subst he;have e1:Rows.wholeSpec.fn H ([d0,d1]++[])={ results:=[.lit (.bool true)],args:=[d0,d1] }:=by simp [Rows.wholeSpec]
 have hl0:∀ x ∈ p0,x.block<W.heap.size:=fun x hx=>hlt x (List.mem_append.2 (Or.inl hx));have hl1:∀ x ∈ p1,x.block<W.heap.size:=fun x hx=>hlt x (List.mem_append.2 (Or.inr hx));refine⟨_,rfl,_,_,_,[],p0++p1,[],hW',?_,?_,?_,hb.frame _,fun h=>by cases h⟩
 ·
  rw [e1]; exact trodAll_cons_mk (shut_bool Tryz.underlying4 _) trodAll_mk0
 ·
  rw [e1];exact trodAll_mk2 (p:=p0) (p':=p1) (Below.trod Tryz.laidOutE (by kernel_rfl) (by rw [Tryz.sizeE]; decide) h0 hb hl0) (Below.trod Tryz.laidOutE (by kernel_rfl) (by rw [Tryz.sizeE]; decide) h1 hb hl1)
 ·
  rw [e1]; rfl
theorem Zkw:Tryz.pinned.checked.prog.funcNamed Rows.wholeRow.func=some 3:=by kernel_rfl
theorem Zxb:Tryz.f3.isInstance Tryz.pinned.checked.prog Rows.wholeRow.origin Rows.wholeRow.targs:=of_decide_eq_true (by kernel_rfl)
theorem Zxc:Tryz.f3.isWrapper Tryz.pinned.checked.prog Rows.wholeRow.wrapper Rows.wholeRow.mainSum:=by unfold Func.isWrapper; rw [if_neg (of_decide_eq_false (by kernel_rfl))]; exact⟨rfl,rfl⟩
theorem Zxd:joinedFacts Tryz.pinned.checked.prog 3 Tryz.f3 Rows.wholeSpec Rows.wholeRow=true:=by
 unfold joinedFacts;rw [Zxk,Zxl,Zxm,Zxn,Zxo,Zxp,Zxq,Zxr,Zxs,Zxt,Zss,Zst,Zsu,Zsv,Zsw,Zsx,Zsy,Zsz];simp only [Bool.true_and];kernel_rfl
theorem Zsr:Rows.WholeSaid :=
 OpenClaim.holds_of_wide 3 Tryz.f3 rfl rfl rfl rfl rfl rfl rfl ⟨rfl,rfl,rfl,rfl,rfl⟩ rfl rfl rfl rfl rfl Zkw Tryz.func3 Zxd
  Zxb Zxc
  (fun os started H enc _=>Zhr os started H enc)
theorem Zxe:OpenClaim.wfByText (OpenSpec.ofChange Rows.wholeSpec) Rows.wholeRow=true:=by kernel_rfl
theorem Zxf:Tryz.pinned.checked.prog.mainIs=some (Rows.wholeCard.stood.harness.1,Rows.wholeCard.stood.harness.2.toList):=by kernel_rfl
theorem Zxg:Rows.wholeCard.stood.looks=Tryz.pinned.checked.prog.looks []:=by kernel_rfl
theorem Zxh:Tryz.prog.wantsStandIn 25=false:=by kernel_rfl
theorem Zxi:Tryz.prog.wantsStandIn 9=false:=by kernel_rfl
theorem whole_card:Rows.WholeCardSaid :=
 Claim7.holds_tied_plain_at .later [] _ _ _ _ Zsr (fun _ h=>by cases h) Zxe (fun _ h=>by cases h) whole_row_tie rfl ⟨rfl,rfl⟩ Zxf rfl
  (fun f fn hf hfn=>by
   obtain rfl:f=3:=Option.some.inj (Zkw.symm.trans hf) |>.symm;obtain rfl:fn=Tryz.f3:=(Option.some.inj (Tryz.func3.symm.trans hfn)).symm;exact⟨Zxg,fun j t ht=>by
    rw [Tryz.params3] at ht;have h3:t=25∨t=9:=by
     rcases j with _ | _ | j
     ·
      exact Or.inl (by simpa using ht.symm)
     ·
      exact Or.inr (by simpa using ht.symm)
     ·
      simp at ht
    rcases h3 with rfl | rfl
    ·
     exact Zxh
    ·
     exact Zxi⟩)
  Zxj
#print axioms whole_card
end Go.Proofs.YtedemloocadimaaGreatDoor
