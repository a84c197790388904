/- For every data and every place, foliokeep.Turned returns true and its arguments read as before: proved for the program as the row says it, with no condition beyond the card's own. -/
import Derived.Test.YtgkljcmjnphpeaaDoorOpenA
import Derived.Test.YtgkljcmjnphpeaaDoorTie
import Derived.Test.YtgkljcmjnphpeaaDoorCards
import Derived.Test.YtgkljcmjnphpeaaDoorTurn
set_option linter.unusedVariables false
set_option linter.unusedSimpArgs false
/- The row of foliokeep.Turned, out of its contract. -/
namespace Go.Proofs.YtgkljcmjnphpeaaDoor
open Go.ChangeShapes Go.WideShapes Go.ChangeAt Go.RowKit

/-- What Turned does at every input. -/
def TurnedDoes : Prop := ∀ (W : World) (ao : Option Addr) (L cap : Nat) (xs : List Nat), xs.length = L → Dat W W.heap.size ao xs → (∀ i, i < xs.length → nth xs i < 256) → L ≤ cap → cap ≤ 9223372036854775807 → (ao = none → cap = 0) →
  ∀ z : Int, -9223372036854775808 ≤ z → z ≤ 9223372036854775807 → Calls Tryd.prog 4 #[.slice ao L cap, .int .i64 z] W fun e w' => e = .returned (.bool true) ∧ Below W.heap.size W w'

set_option maxHeartbeats 1000000 in
set_option maxRecDepth 100000 in
theorem turned_lifted (hT : TurnedDoes) (os : Os) (started : os.Started) (H : Type) (enc : TypeId × Value → H) :
    ReturnsInHanded {} Tryd.checked os 4 .any (fun w args => (Rows.turnedSpec.pre enc Tryd.prog Tryd.f4 [] false w args ∧ laidMetH Tryd.prog Rows.turnedRow.laid w) ∧ sizedMet enc Tryd.prog Tryd.f4 (OpenSpec.ofChange Rows.turnedSpec) false w args)
      (Rows.turnedSpec.post enc Tryd.prog Tryd.f4 false true false false) := by
  refine returnsInHanded_of_change_and (C := Tryd.checked) (X := fun w _ => laidMetH Tryd.prog Rows.turnedRow.laid w) (fun _ _ _ hh h => h.of_heap hh) Tryd.own started (by kernel_rfl) Tryd.func4
    (ChangeSpec.witness_shaped (enc := enc) (C := Tryd.checked) (os := os) (X := fun w _ => laidMetH Tryd.prog Rows.turnedRow.laid w) false (World.doorLaid Tryd.prog 400 os) #[.slice none 0 0, .int .i64 0] 8 rfl (World.shaped_of_RefB (by kernel_rfl) (by kernel_rfl)) (by kernel_rfl) (by kernel_rfl) (by kernel_rfl) (door_met os _)) ?_
  intro W base args ds gs before hval0 hW _ hsz0 _ _
  have hval : ∀ (j : Nat) t v, Tryd.f4.params[j]? = some t → args[j]? = some v → Value.okWide Tryd.prog W .any base t v := hval0
  have hW' := hW
  obtain ⟨p, q, hA0, hV, rfl, _, _⟩ := hW
  have hA : DataW.TrodAll enc Tryd.prog W 0 (fun _ => true) true Tryd.f4.params.toList args.toList ds p := hA0
  rw [Tryd.params4] at hA hval
  obtain ⟨v0, v1, d0, d1, p0, p1, rfl, rfl, rfl, h0, h1⟩ := trodAll_two hA
  obtain ⟨rfl, rfl⟩ := trodVars_none hV
  obtain ⟨a0, len0, cap0, rfl⟩ := okWide_slice Tryd.underlying22 (hval 0 22 v0 rfl rfl)
  obtain ⟨z, rfl, rfl, rfl, wz⟩ := open_int Tryd.underlying3 (hval 1 3 v1 rfl rfl) h1
  clear hA0 hval0
  simp only [List.append_nil] at hW'
  have hlt : ∀ x ∈ p0, x.block < W.heap.size := fun x hx => by simpa using hW'.lt x (by simpa using hx)
  obtain ⟨xs, hx, hdat, hbyt, hlc, hnil, hcap⟩ := open_data h0
  have hcb : cap0 ≤ 9223372036854775807 := by
    rcases hcap with hc | ⟨el, sp, rfl, hc⟩
    · omega
    · have := sized_slice (j := 0) (t := 22) (e := 5) hsz0 (by kernel_rfl) rfl Tryd.underlying22
      have hb5 : Tryd.checked.prog.bytesOf 5 = 1 := Tryd.bytes5
      rw [hb5] at this
      have hr : reachBytes < 2 ^ 47 := reachBytes_lt
      omega
  have hwz := int_wf wz
  refine (hT W a0 len0 cap0 xs hx hdat hbyt hlc hcb hnil z hwz.1 hwz.2).mono fun e W' ⟨he, hB⟩ => ?_
  subst he
  have harg0 : DataW.Trod enc Tryd.prog W' 0 (fun b => decide (b < W.heap.size)) true 22 (.slice a0 len0 cap0) d0 p0 :=
    Below.trod Tryd.laidOut (by kernel_rfl) (of_decide_eq_true (by kernel_rfl)) h0 hB hlt
  refine ⟨_, rfl, _, _, _, [], _, [], hW', ?_, trodAll_mk2 harg0 (shut_int Tryd.underlying3 wz), rfl, hB.frame _, fun h => by cases h⟩
  exact trodAll_mk1 (shut_bool Tryd.underlying4 _)

theorem turned_row (hT : TurnedDoes) : Rows.TurnedSaid :=
  OpenClaim.holds_of_wide 4 Tryd.f4 rfl rfl rfl rfl rfl rfl rfl ⟨rfl, rfl, rfl, rfl, rfl⟩ rfl rfl rfl rfl rfl (by kernel_rfl) Tryd.func4 (by kernel_rfl)
    (of_decide_eq_true (by kernel_rfl)) (by unfold Func.isWrapper; first | (rw [if_pos (by decide +kernel)]; kernel_rfl) | (rw [if_neg (by decide +kernel)]; exact ⟨rfl, rfl⟩))
    (fun os started H enc _ => turned_lifted hT os started H enc)
end Go.Proofs.YtgkljcmjnphpeaaDoor
/- The tied card of foliokeep.Turned, out of its contract. -/
namespace Go.Proofs.YtgkljcmjnphpeaaDoor
open Go

theorem turned_card (hT : TurnedDoes) : Rows.TurnedCardSaid :=
  Claim7.holds_tied_plain_at .later [] [.data] true Rows.turnedCard.stood.harness true
    (turned_row hT) (fun _ h => by cases h) (by kernel_rfl) (fun _ h => by cases h) turned_row_tie rfl ⟨rfl, rfl⟩ (by kernel_rfl) rfl
    (fun f fn hf hfn => by
      obtain rfl : f = 4 := Option.some.inj ((show Tryd.prog.funcNamed Rows.turnedRow.func = some 4 by kernel_rfl).symm.trans hf) |>.symm
      obtain rfl : fn = Tryd.f4 := (Option.some.inj (Tryd.func4.symm.trans hfn)).symm
      exact ⟨by kernel_rfl, fun j t ht => by
        rw [Tryd.params4] at ht
        have hm : t ∈ [22, 3] := by simpa using Array.mem_of_getElem? ht
        have hall : ([22, 3].all fun u => !Tryd.prog.wantsStandIn u) = true := by kernel_rfl
        exact (show Tryd.prog.wantsStandIn t = false by simpa using List.all_eq_true.1 hall t hm)⟩)
    (by kernel_rfl)
end Go.Proofs.YtgkljcmjnphpeaaDoor
namespace Go.Proofs.YtgkljcmjnphpeaaDoor
open Go Go.RowKit

theorem turned_does : TurnedDoes := by
  intro W ao L cap xs hx hd hb hlc hcm hn z hz1 hz2
  by_cases hbig : 2000 < L
  · obtain ⟨b, o, rfl, _, hcd⟩ := hd.at (by omega)
    have hlt : (xs.take 2000).length = 2000 := by rw [List.length_take]; omega
    have hnt : ∀ i, i < 2000 → nth (xs.take 2000) i = nth xs i := fun i hi => by simp [nth, List.getElem?_take, hi]
    refine turned_big hlt hbig ?_ ?_ hlc hcm z hz1 hz2
    · intro i hi
      rw [hlt] at hi
      obtain ⟨b', o', e1, e2, e3⟩ := hd i (by omega)
      exact ⟨b', o', e1, e2, by rw [hnt i hi]; exact e3⟩
    · intro i hi
      rw [hlt] at hi
      rw [hnt i hi]; exact hb i (by omega)
  · exact turned_small hx (by omega) hd hb ⟨hlc, hcm⟩ hn z hz1 hz2

theorem turned_holds : Rows.TurnedCardSaid := turned_card turned_does
#print axioms turned_holds
end Go.Proofs.YtgkljcmjnphpeaaDoor
