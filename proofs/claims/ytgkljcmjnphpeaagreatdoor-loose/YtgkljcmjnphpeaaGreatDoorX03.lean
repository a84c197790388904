/- For every list of numbers and every two numbers, foliokeep.Loose returns true and its arguments read as before: proved for the program as the row says it, with no condition beyond the card's own. -/
import Derived.Test.YtgkljcmjnphpeaaGreatDoorX02
import Derived.Test.YtgkljcmjnphpeaaGreatDoorRows
import Derived.Test.YtgkljcmjnphpeaaGreatDoorCards
import Derived.ProofKit
import Derived.Stop.Joined
import Derived.SevenTiedAt
import Derived.Deep.CutRange
import Derived.Deep.RegionWith
import Derived.Test.YtgkljcmjnphpeaaGreatDoorTie
import Derived.Lay
set_option linter.unusedVariables false
set_option linter.unusedSimpArgs false
namespace Go.Proofs.YtgkljcmjnphpeaaGreatDoor
open Go.ChangeShapes Go.WideShapes Go.ChangeAt Go.ChangeMaps Go.RowKit
set_option maxRecDepth 100000 in
theorem start_met_loose (os : Os) (args : Array Value) : laidMet Tryz.prog Rows.looseRow.laid ((World.laidAll Tryz.prog os Rows.looseRow.laid).forCall (fun _ _ => 0) ⟨#[], args, []⟩).memory := laidMet_laidAll _ (by kernel_rfl) (by kernel_rfl)
theorem plain_loose : (Rows.looseRow.laid.all fun x => x.2.handleName?.isNone) = true := by kernel_rfl
set_option maxHeartbeats 1000000 in
set_option maxRecDepth 100000 in
theorem loose_lifted (os : Os) (started : os.Started) (H : Type) (enc : TypeId × Value → H) :
    ReturnsInHanded {} Tryz.checked os 9 .any (fun w args => (Rows.looseSpec.pre enc Tryz.prog Tryz.f9 [] false w args ∧ laidMetH Tryz.prog Rows.looseRow.laid w) ∧ sizedMet enc Tryz.prog Tryz.f9 (OpenSpec.ofChange Rows.looseSpec) false w args)
      (Rows.looseSpec.post enc Tryz.prog Tryz.f9 false true false false) := by
  refine handed_shaped (C := Tryz.checked) (X := fun w _ => laidMetH Tryz.prog Rows.looseRow.laid w) (fun _ _ _ hh h => h.of_heap hh) Tryz.ownE started (by kernel_rfl) Tryz.func9
    (ChangeSpec.witness_shaped (enc := enc) (C := Tryz.checked) (os := os) (X := fun w _ => laidMetH Tryz.prog Rows.looseRow.laid w) false (World.laidAll Tryz.prog os Rows.looseRow.laid) #[.slice none 0 0, .int .i64 0, .int .i64 0] 8 (World.laidAll_os _ _ _) (World.shaped_of_ZipB (by kernel_rfl) (by kernel_rfl)) (by kernel_rfl) (by kernel_rfl) (by kernel_rfl) (by rw [MakeChecks.laidMetH_plain _ _ _ plain_loose]; exact start_met_loose os _)) ?_
  intro W base args ds gs before hval0 hW hsz0 hL hS
  have hval : ∀ (j : Nat) t v, Tryz.f9.params[j]? = some t → args[j]? = some v → Value.okWide Tryz.prog W .any base t v := hval0
  have hW' := hW
  obtain ⟨p, q, hA0, hV, rfl, _, _⟩ := hW
  have hA : DataW.TrodAll enc Tryz.prog W 0 (fun _ => true) true Tryz.f9.params.toList args.toList ds p := hA0
  rw [Tryz.params9] at hA hval
  have hL2 : laidMet Tryz.prog Rows.looseRow.laid W := by rw [MakeChecks.laidMetH_plain _ _ _ plain_loose] at hL; exact hL
  have hE := env_of_laid hL2 hS
  obtain ⟨v0, v1, v2, d0, d1, d2, p0, p1, p2, rfl, rfl, rfl, h0, h1, h2⟩ := trodAll_three hA
  obtain ⟨rfl, rfl⟩ := trodVars_none hV
  obtain ⟨a0, len0, cap0, rfl⟩ := okWide_slice Tryz.underlying52 (hval 0 52 v0 rfl rfl)
  obtain ⟨wh, rfl, rfl, rfl, ww⟩ := open_int Tryz.underlying3 (hval 1 3 v1 rfl rfl) h1
  obtain ⟨kk, rfl, rfl, rfl, wk⟩ := open_int Tryz.underlying3 (hval 2 3 v2 rfl rfl) h2
  clear hA0 hval0
  simp only [List.append_nil] at hW'
  have hlt0 : ∀ x ∈ p0, x.block < W.heap.size := fun x hx => by simpa using hW'.lt x (by simp [hx])
  obtain ⟨zs, hz, hdatI, hrng, hlc1, hcap1⟩ := open_numbersE h0
  have hr : reachBytes < 2 ^ 47 := reachBytes_lt
  have hcb1 : cap0 ≤ 9223372036854775807 := by
    rcases hcap1 with hc | ⟨el, sp, rfl, hc⟩
    · omega
    · have := sized_slice (j := 0) (t := 52) (e := 3) hsz0 (by kernel_rfl) rfl Tryz.underlying52
      have hb5 : Tryz.checked.prog.bytesOf 3 = 8 := Tryz.bytesN
      rw [hb5] at this
      omega
  obtain ⟨w1, w2⟩ := int_wfE ww
  obtain ⟨k1, k2⟩ := int_wfE wk
  refine (loose_ok (ra := a0) (rl := len0) (rcap := cap0) hE (by omega) wh kk w1 w2 k1 k2).mono fun e W' ⟨he, hB⟩ => ?_
  subst he
  have harg0 : DataW.Trod enc Tryz.prog W' 0 (fun b => decide (b < W.heap.size)) true 52 (.slice a0 len0 cap0) d0 p0 :=
    Below.trod Tryz.laidOutE (by kernel_rfl) (of_decide_eq_true (by kernel_rfl)) h0 hB hlt0
  refine ⟨_, rfl, _, _, _, [], _, [], hW', ?_, trodAll_mk3 harg0 (shut_int Tryz.underlying3 ww) (shut_int Tryz.underlying3 wk), rfl, hB.frame _, fun h => by cases h⟩
  exact trodAll_mk1 (shut_bool Tryz.underlying4 _)
theorem loose_row : Rows.LooseSaid :=
  OpenClaim.holds_of_wide 9 Tryz.f9 rfl rfl rfl rfl rfl rfl rfl ⟨rfl, rfl, rfl, rfl, rfl⟩ rfl rfl rfl rfl rfl loose_named Tryz.func9 loose_facts loose_inst loose_wrap
    (fun os started H enc _ => loose_lifted os started H enc)
end Go.Proofs.YtgkljcmjnphpeaaGreatDoor
namespace Go.Proofs.YtgkljcmjnphpeaaGreatDoor
open Go
theorem loose_card : Rows.LooseCardSaid :=
  Claim7.holds_tied_plain_at .later [] [.data, .data, .data, .data, .sentinel, .sentinel, .data, .pinned] true Rows.looseCard.stood.harness true
    loose_row (fun _ h => by cases h) loose_wf (fun _ h => by cases h) loose_row_tie rfl ⟨rfl, rfl⟩ loose_main rfl
    (fun f fn hf hfn => by
      obtain rfl : f = 9 := Option.some.inj (loose_named.symm.trans hf) |>.symm
      obtain rfl : fn = Tryz.f9 := (Option.some.inj (Tryz.func9.symm.trans hfn)).symm
      exact ⟨loose_looks, fun j t ht => by
        rw [Tryz.params9] at ht
        have hm : t ∈ [52, 3, 3] := by simpa using Array.mem_of_getElem? ht
        have hall : ([52, 3, 3].all fun u => !Tryz.prog.wantsStandIn u) = true := by kernel_rfl
        exact (show Tryz.prog.wantsStandIn t = false by simpa using List.all_eq_true.1 hall t hm)⟩)
    loose_goes
end Go.Proofs.YtgkljcmjnphpeaaGreatDoor
