/- For every data and every list of filters, foliokeep.Back returns true and its arguments read as before: proved for the program as the row says it, with no condition beyond the card's own. -/
import Derived.Test.YtgkljcmjnphpeaaDoorOpenA
import Derived.Test.YtgkljcmjnphpeaaDoorTie
import Derived.Test.YtgkljcmjnphpeaaDoorCards
import Derived.Test.YtgkljcmjnphpeaaDoorBk2
set_option linter.unusedVariables false
set_option linter.unusedSimpArgs false
namespace Go.Proofs.YtgkljcmjnphpeaaDoor
open Go.ChangeShapes Go.WideShapes Go.ChangeAt Go.RowKit

theorem Tryd.cells3 : Tryd.prog.cellsOf 3 = 1 := by kernel_rfl
theorem Tryd.bytes3 : Tryd.prog.bytesOf 3 = 8 := by kernel_rfl

/-- An argument of type []int, opened. -/
theorem open_numbers {H : Type} {enc : TypeId × Value → H} {W : World} {a0 : Option Addr} {len cap : Nat} {d0 : DataW H} {p : List MemPlace}
    (h0 : DataW.Trod enc Tryd.prog W 0 (fun _ => true) true 23 (.slice a0 len cap) d0 p) :
    ∃ zs : List Int, zs.length = len ∧ DatI W W.heap.size a0 zs ∧ (∀ i, i < zs.length → -9223372036854775808 ≤ zs.getD i 0 ∧ zs.getD i 0 ≤ 9223372036854775807) ∧ len ≤ cap ∧ (cap = 0 ∨ ∃ el sp, d0 = .slice el sp ∧ el.length + sp.length = cap) := by
  obtain ⟨fuel, hf⟩ := h0
  rcases open_ints Tryd.underlying23 Tryd.underlying3 Tryd.cells3 hf with ⟨hcs, hx⟩ | ⟨a, len', cap', zs, hcs, _, hl, hm, hz, hx, hcell, hwz⟩
  · simp [Value.cells] at hcs
    obtain ⟨rfl, rfl, rfl⟩ := hcs
    exact ⟨[], rfl, fun i hi => by simp at hi, fun i hi => by simp at hi, Nat.le_refl _, Or.inl rfl⟩
  · simp [Value.cells] at hcs
    obtain ⟨rfl, rfl, rfl⟩ := hcs
    simp only [Prod.mk.injEq] at hx
    obtain ⟨rfl, rfl⟩ := hx
    simp only [if_true] at hz
    have hb : ∀ i, i < zs.length → -9223372036854775808 ≤ zs.getD i 0 ∧ zs.getD i 0 ≤ 9223372036854775807 := fun i hi => by
      have hmem : zs.getD i 0 ∈ zs := by
        rw [List.getD_eq_getElem?_getD, List.getElem?_eq_getElem hi]; exact List.getElem_mem hi
      exact int_wf (hwz _ hmem)
    have hn : ∀ i, i < len → (zs.take len).getD i 0 = zs.getD i 0 := fun i hi => by
      simp [List.getElem?_take, hi]
    refine ⟨zs.take len, by simp; omega, ?_, ?_, hl, Or.inr ⟨_, _, rfl, by simp [lits]; omega⟩⟩
    · intro i hi
      have hi' : i < len := by simp at hi; omega
      obtain ⟨b, off, rfl, hc⟩ := ints_at hcell (by omega)
      have hci := hc i (by omega)
      refine ⟨b, off, rfl, World.block_lt_of_cell? W _ hci, ?_⟩
      rw [hci, hn i hi']
    · intro i hi
      have hi' : i < len := by simp at hi; omega
      rw [hn i hi']; exact hb i (by omega)

/-- What Back does at every input. -/
def BackDoes : Prop := ∀ (W : World) (ao : Option Addr) (L cap : Nat) (xs : List Nat), xs.length = L → Dat W W.heap.size ao xs → (∀ i, i < xs.length → nth xs i < 256) → L ≤ cap → cap ≤ 9223372036854775807 → (ao = none → cap = 0) →
  ∀ (fo : Option Addr) (zs : List Int) (fcap : Nat), DatI W W.heap.size fo zs → (∀ i, i < zs.length → -9223372036854775808 ≤ zs.getD i 0 ∧ zs.getD i 0 ≤ 9223372036854775807) → zs.length ≤ fcap → fcap ≤ 9223372036854775807 →
  Calls Tryd.prog 3 #[.slice ao L cap, .slice fo zs.length fcap] W fun e w' => e = .returned (.bool true) ∧ Below W.heap.size W w'

theorem door_met_back (os : Os) (args : Array Value) : laidMetH Tryd.prog Rows.backRow.laid ((World.doorLaid Tryd.prog 400 os).forCall (fun _ _ => 0) ⟨#[], args, []⟩).memory :=
  laidMetH_of_parts3 (fuel := 8) (laidMet_of_run' 8 (by kernel_rfl) (by kernel_rfl)) (by kernel_rfl) (by kernel_rfl)

set_option maxHeartbeats 1000000 in
set_option maxRecDepth 100000 in
theorem back_lifted (hT : BackDoes) (os : Os) (started : os.Started) (H : Type) (enc : TypeId × Value → H) :
    ReturnsInHanded {} Tryd.checked os 3 .any (fun w args => (Rows.backSpec.pre enc Tryd.prog Tryd.f3 [] false w args ∧ laidMetH Tryd.prog Rows.backRow.laid w) ∧ sizedMet enc Tryd.prog Tryd.f3 (OpenSpec.ofChange Rows.backSpec) false w args)
      (Rows.backSpec.post enc Tryd.prog Tryd.f3 false true false false) := by
  refine returnsInHanded_of_change_and (C := Tryd.checked) (X := fun w _ => laidMetH Tryd.prog Rows.backRow.laid w) (fun _ _ _ hh h => h.of_heap hh) Tryd.own started (by kernel_rfl) Tryd.func3
    (ChangeSpec.witness_shaped (enc := enc) (C := Tryd.checked) (os := os) (X := fun w _ => laidMetH Tryd.prog Rows.backRow.laid w) false (World.doorLaid Tryd.prog 400 os) #[.slice none 0 0, .slice none 0 0] 8 rfl (World.shaped_of_RefB (by kernel_rfl) (by kernel_rfl)) (by kernel_rfl) (by kernel_rfl) (by kernel_rfl) (door_met_back os _)) ?_
  intro W base args ds gs before hval0 hW _ hsz0 _ _
  have hval : ∀ (j : Nat) t v, Tryd.f3.params[j]? = some t → args[j]? = some v → Value.okWide Tryd.prog W .any base t v := hval0
  have hW' := hW
  obtain ⟨p, q, hA0, hV, rfl, _, _⟩ := hW
  have hA : DataW.TrodAll enc Tryd.prog W 0 (fun _ => true) true Tryd.f3.params.toList args.toList ds p := hA0
  rw [Tryd.params3] at hA hval
  obtain ⟨v0, v1, d0, d1, p0, p1, rfl, rfl, rfl, h0, h1⟩ := trodAll_two hA
  obtain ⟨rfl, rfl⟩ := trodVars_none hV
  obtain ⟨a0, len0, cap0, rfl⟩ := okWide_slice Tryd.underlying22 (hval 0 22 v0 rfl rfl)
  obtain ⟨a1, len1, cap1, rfl⟩ := okWide_slice Tryd.underlying23 (hval 1 23 v1 rfl rfl)
  clear hA0 hval0
  simp only [List.append_nil] at hW'
  have hlt0 : ∀ x ∈ p0, x.block < W.heap.size := fun x hx => by simpa using hW'.lt x (by simp [hx])
  have hlt1 : ∀ x ∈ p1, x.block < W.heap.size := fun x hx => by simpa using hW'.lt x (by simp [hx])
  obtain ⟨xs, hx, hdat, hbyt, hlc, hnil, hcap⟩ := open_data h0
  obtain ⟨zs, hz, hdatI, hrng, hlc1, hcap1⟩ := open_numbers h1
  have hr : reachBytes < 2 ^ 47 := reachBytes_lt
  have hcb : cap0 ≤ 9223372036854775807 := by
    rcases hcap with hc | ⟨el, sp, rfl, hc⟩
    · omega
    · have := sized_slice (j := 0) (t := 22) (e := 5) hsz0 (by kernel_rfl) rfl Tryd.underlying22
      have hb5 : Tryd.checked.prog.bytesOf 5 = 1 := Tryd.bytes5
      rw [hb5] at this
      omega
  have hcb1 : cap1 ≤ 9223372036854775807 := by
    rcases hcap1 with hc | ⟨el, sp, rfl, hc⟩
    · omega
    · have := sized_slice (j := 1) (t := 23) (e := 3) hsz0 (by kernel_rfl) rfl Tryd.underlying23
      have hb5 : Tryd.checked.prog.bytesOf 3 = 8 := Tryd.bytes3
      rw [hb5] at this
      omega
  subst hz
  refine (hT W a0 len0 cap0 xs hx hdat hbyt hlc hcb hnil a1 zs cap1 hdatI hrng hlc1 hcb1).mono fun e W' ⟨he, hB⟩ => ?_
  subst he
  have harg0 : DataW.Trod enc Tryd.prog W' 0 (fun b => decide (b < W.heap.size)) true 22 (.slice a0 len0 cap0) d0 p0 :=
    Below.trod Tryd.laidOut (by kernel_rfl) (of_decide_eq_true (by kernel_rfl)) h0 hB hlt0
  have harg1 : DataW.Trod enc Tryd.prog W' 0 (fun b => decide (b < W.heap.size)) true 23 (.slice a1 zs.length cap1) d1 p1 :=
    Below.trod Tryd.laidOut (by kernel_rfl) (of_decide_eq_true (by kernel_rfl)) h1 hB hlt1
  refine ⟨_, rfl, _, _, _, [], _, [], hW', ?_, trodAll_mk2 harg0 harg1, rfl, hB.frame _, fun h => by cases h⟩
  exact trodAll_mk1 (shut_bool Tryd.underlying4 _)

theorem back_row (hT : BackDoes) : Rows.BackSaid :=
  OpenClaim.holds_of_wide 3 Tryd.f3 rfl rfl rfl rfl rfl rfl rfl ⟨rfl, rfl, rfl, rfl, rfl⟩ rfl rfl rfl rfl rfl (by kernel_rfl) Tryd.func3 (by kernel_rfl)
    (of_decide_eq_true (by kernel_rfl)) (by unfold Func.isWrapper; first | (rw [if_pos (by decide +kernel)]; kernel_rfl) | (rw [if_neg (by decide +kernel)]; exact ⟨rfl, rfl⟩))
    (fun os started H enc _ => back_lifted hT os started H enc)
end Go.Proofs.YtgkljcmjnphpeaaDoor
/- The tied card of foliokeep.Back, out of its contract. -/
namespace Go.Proofs.YtgkljcmjnphpeaaDoor
open Go

theorem back_card (hT : BackDoes) : Rows.BackCardSaid :=
  Claim7.holds_tied_plain_at .later [] [.data] true Rows.backCard.stood.harness true
    (back_row hT) (fun _ h => by cases h) (by kernel_rfl) (fun _ h => by cases h) back_row_tie rfl ⟨rfl, rfl⟩ (by kernel_rfl) rfl
    (fun f fn hf hfn => by
      obtain rfl : f = 3 := Option.some.inj ((show Tryd.prog.funcNamed Rows.backRow.func = some 3 by kernel_rfl).symm.trans hf) |>.symm
      obtain rfl : fn = Tryd.f3 := (Option.some.inj (Tryd.func3.symm.trans hfn)).symm
      exact ⟨by kernel_rfl, fun j t ht => by
        rw [Tryd.params3] at ht
        have hm : t ∈ [22, 23] := by simpa using Array.mem_of_getElem? ht
        have hall : ([22, 23].all fun u => !Tryd.prog.wantsStandIn u) = true := by kernel_rfl
        exact (show Tryd.prog.wantsStandIn t = false by simpa using List.all_eq_true.1 hall t hm)⟩)
    (by kernel_rfl)
end Go.Proofs.YtgkljcmjnphpeaaDoor
namespace Go.Proofs.YtgkljcmjnphpeaaDoor
open Go Go.RowKit

theorem back_does : BackDoes := by
  intro W ao L cap xs hx hd hb hlc hcm hn fo zs fcap hdz hrz hzl hzc
  by_cases hbig : 3000 < L
  · obtain ⟨b, o, rfl, _, hcd⟩ := hd.at (by omega)
    have hlt : (xs.take 3000).length = 3000 := by rw [List.length_take]; omega
    have hnt : ∀ i, i < 3000 → nth (xs.take 3000) i = nth xs i := fun i hi => by simp [nth, List.getElem?_take, hi]
    refine back_big hlt hbig rfl ?_ ?_ ⟨hlc, hcm⟩ hdz hrz ⟨hzl, hzc⟩
    · intro i hi
      rw [hlt] at hi
      obtain ⟨b', o', e1, e2, e3⟩ := hd i (by omega)
      exact ⟨b', o', e1, e2, by rw [hnt i hi]; exact e3⟩
    · intro i hi
      rw [hlt] at hi
      rw [hnt i hi]; exact hb i (by omega)
  · exact back_small hx (by omega) hd hb ⟨hlc, hcm⟩ hn hdz hrz ⟨hzl, hzc⟩

theorem back_holds : Rows.BackCardSaid := back_card back_does
#print axioms back_holds
end Go.Proofs.YtgkljcmjnphpeaaDoor
