/- For every data and every list of ways, foliokeep.Strings returns true and its arguments read as before: proved for the program as the row says it, with no condition beyond the card's own. -/
import Derived.Test.YtgkljcmjnphpeaaGreatDoorK33
import Derived.Test.YtgkljcmjnphpeaaGreatDoorTie
import Derived.Test.YtgkljcmjnphpeaaGreatDoorCards
import Derived.Lay
set_option linter.unusedVariables false
set_option linter.unusedSimpArgs false
namespace Go.Proofs.YtgkljcmjnphpeaaGreatDoor
open Go.ChangeShapes Go.WideShapes Go.ChangeAt Go.ChangeMaps Go.RowKit
set_option maxRecDepth 100000 in
theorem start_met_strings (os : Os) (args : Array Value) : laidMet Tryz.prog Rows.stringsRow.laid ((World.laidAll Tryz.prog os Rows.stringsRow.laid).forCall (fun _ _ => 0) ⟨#[], args, []⟩).memory := laidMet_laidAll _ (by kernel_rfl) (by kernel_rfl)
theorem plain_strings : (Rows.stringsRow.laid.all fun x => x.2.handleName?.isNone) = true := by kernel_rfl
set_option maxHeartbeats 1000000 in
set_option maxRecDepth 100000 in
theorem strings_lifted (os : Os) (started : os.Started) (H : Type) (enc : TypeId × Value → H) :
    ReturnsInHanded {} Tryz.checked os 10 .any (fun w args => (Rows.stringsSpec.pre enc Tryz.prog Tryz.f10 [] false w args ∧ laidMetH Tryz.prog Rows.stringsRow.laid w) ∧ sizedMet enc Tryz.prog Tryz.f10 (OpenSpec.ofChange Rows.stringsSpec) false w args)
      (Rows.stringsSpec.post enc Tryz.prog Tryz.f10 false true false false) := by
  refine handed_shaped (C := Tryz.checked) (X := fun w _ => laidMetH Tryz.prog Rows.stringsRow.laid w) (fun _ _ _ hh h => h.of_heap hh) Tryz.ownE started (by kernel_rfl) Tryz.func10
    (ChangeSpec.witness_shaped (enc := enc) (C := Tryz.checked) (os := os) (X := fun w _ => laidMetH Tryz.prog Rows.stringsRow.laid w) false (World.laidAll Tryz.prog os Rows.stringsRow.laid) #[.slice none 0 0, .slice none 0 0] 8 (World.laidAll_os _ _ _) (World.shaped_of_ZipB (by kernel_rfl) (by kernel_rfl)) (by kernel_rfl) (by kernel_rfl) (by kernel_rfl) (by rw [MakeChecks.laidMetH_plain _ _ _ plain_strings]; exact start_met_strings os _)) ?_
  intro W base args ds gs before hval0 hW hsz0 hL hS
  have hval : ∀ (j : Nat) t v, Tryz.f10.params[j]? = some t → args[j]? = some v → Value.okWide Tryz.prog W .any base t v := hval0
  have hW' := hW
  obtain ⟨p, q, hA0, hV, rfl, _, _⟩ := hW
  have hA : DataW.TrodAll enc Tryz.prog W 0 (fun _ => true) true Tryz.f10.params.toList args.toList ds p := hA0
  rw [Tryz.params10] at hA hval
  have hL2 : laidMet Tryz.prog Rows.stringsRow.laid W := by rw [MakeChecks.laidMetH_plain _ _ _ plain_strings] at hL; exact hL
  have hE := env_of_laid hL2 hS
  obtain ⟨v0, v1, d0, d1, p0, p1, rfl, rfl, rfl, h0, h1⟩ := trodAll_two hA
  obtain ⟨rfl, rfl⟩ := trodVars_none hV
  obtain ⟨a0, len0, cap0, rfl⟩ := okWide_slice Tryz.underlying23 (hval 0 23 v0 rfl rfl)
  obtain ⟨a1, len1, cap1, rfl⟩ := okWide_slice Tryz.underlying52 (hval 1 52 v1 rfl rfl)
  clear hA0 hval0
  simp only [List.append_nil] at hW'
  have hlt0 : ∀ x ∈ p0, x.block < W.heap.size := fun x hx => by simpa using hW'.lt x (by simp [hx])
  have hlt1 : ∀ x ∈ p1, x.block < W.heap.size := fun x hx => by simpa using hW'.lt x (by simp [hx])
  obtain ⟨xs, hx, hdat, hbyt, hlc, hnil, hcap⟩ := open_dataE h0
  obtain ⟨zs, hz, hdatI, hrng, hlc1, hcap1⟩ := open_numbersE h1
  have hr : reachBytes < 2 ^ 47 := reachBytes_lt
  have hcb : cap0 ≤ 9223372036854775807 := by
    rcases hcap with hc | ⟨el, sp, rfl, hc⟩
    · omega
    · have := sized_slice (j := 0) (t := 23) (e := 5) hsz0 (by kernel_rfl) rfl Tryz.underlying23
      have hb5 : Tryz.checked.prog.bytesOf 5 = 1 := Tryz.bytesB
      rw [hb5] at this
      omega
  have hcb1 : cap1 ≤ 9223372036854775807 := by
    rcases hcap1 with hc | ⟨el, sp, rfl, hc⟩
    · omega
    · have := sized_slice (j := 1) (t := 52) (e := 3) hsz0 (by kernel_rfl) rfl Tryz.underlying52
      have hb5 : Tryz.checked.prog.bytesOf 3 = 8 := Tryz.bytesN
      rw [hb5] at this
      omega
  subst hz
  refine (strings_ok W a0 len0 cap0 xs hE hx hdat hbyt hlc hcb hnil a1 zs cap1 hdatI hrng hlc1 hcb1).mono fun e W' ⟨he, hB⟩ => ?_
  subst he
  have harg0 : DataW.Trod enc Tryz.prog W' 0 (fun b => decide (b < W.heap.size)) true 23 (.slice a0 len0 cap0) d0 p0 :=
    Below.trod Tryz.laidOutE (by kernel_rfl) (of_decide_eq_true (by kernel_rfl)) h0 hB hlt0
  have harg1 : DataW.Trod enc Tryz.prog W' 0 (fun b => decide (b < W.heap.size)) true 52 (.slice a1 zs.length cap1) d1 p1 :=
    Below.trod Tryz.laidOutE (by kernel_rfl) (of_decide_eq_true (by kernel_rfl)) h1 hB hlt1
  refine ⟨_, rfl, _, _, _, [], _, [], hW', ?_, trodAll_mk2 harg0 harg1, rfl, hB.frame _, fun h => by cases h⟩
  exact trodAll_mk1 (shut_bool Tryz.underlying4 _)
theorem strings_row : Rows.StringsSaid :=
  OpenClaim.holds_of_wide 10 Tryz.f10 rfl rfl rfl rfl rfl rfl rfl ⟨rfl, rfl, rfl, rfl, rfl⟩ rfl rfl rfl rfl rfl strings_named Tryz.func10 strings_facts strings_inst strings_wrap
    (fun os started H enc _ => strings_lifted os started H enc)
end Go.Proofs.YtgkljcmjnphpeaaGreatDoor
namespace Go.Proofs.YtgkljcmjnphpeaaGreatDoor
open Go
theorem strings_card : Rows.StringsCardSaid :=
  Claim7.holds_tied_plain_at .later [] [.data, .data, .data, .data, .sentinel, .sentinel, .data, .pinned] true Rows.stringsCard.stood.harness true
    strings_row (fun _ h => by cases h) strings_wf (fun _ h => by cases h) strings_row_tie rfl ⟨rfl, rfl⟩ strings_main rfl
    (fun f fn hf hfn => by
      obtain rfl : f = 10 := Option.some.inj (strings_named.symm.trans hf) |>.symm
      obtain rfl : fn = Tryz.f10 := (Option.some.inj (Tryz.func10.symm.trans hfn)).symm
      exact ⟨strings_looks, fun j t ht => by
        rw [Tryz.params10] at ht
        have hm : t ∈ [23, 52] := by simpa using Array.mem_of_getElem? ht
        have hall : ([23, 52].all fun u => !Tryz.prog.wantsStandIn u) = true := by kernel_rfl
        exact (show Tryz.prog.wantsStandIn t = false by simpa using List.all_eq_true.1 hall t hm)⟩)
    strings_goes
end Go.Proofs.YtgkljcmjnphpeaaGreatDoor
