/- A region that draws its order: operations that only read are taken first, as long as what they read stands till they have come up; what is told of memory may hang on which operations have come up already. -/
import Derived.OrdersHeld
import Derived.Deep.RegionHeld
set_option linter.unusedVariables false
set_option linter.unusedSimpArgs false
namespace Go

section
variable {P : Program} {ops : Array Oper} {Q : Exit → Act → World → Prop} {md : Region.Mode} {S : Array Bool → World → Prop}

/-- Whatever has come up came up behind all that it waits for. -/
def Disc (md : Region.Mode) (ops : Array Oper) (L : Array Bool) : Prop :=
  ∀ j oj, ops[j]? = some oj → L.getD j false = true → ∀ e ∈ oj.after, Region.binds md e = true → L.getD e.on false = true

theorem Disc.set {i : Nat} {L : Array Bool} (h : Disc md ops L) (hi : i ∈ Region.ready md ops L) : Disc md ops (L.setIfInBounds i true) := by
  intro j oj hj hl e he hb
  by_cases hij : i = j
  · subst hij
    obtain ⟨_, o, ho, hall⟩ := mem_ready.1 hi
    obtain rfl : oj = o := Option.some.inj (hj.symm.trans ho)
    exact getD_set_true (hall e he hb)
  · exact getD_set_true (h j oj hj (by rwa [getD_set_ne false hij] at hl) e he hb)

theorem Disc.start (n : Nat) : Disc md ops (Array.replicate n false) := by
  intro j oj _ hl
  have : (Array.replicate n false).getD j false = false := by
    rcases Nat.lt_or_ge j n with h | h <;> simp [h]
  rw [this] at hl; cases hl

/-- Does operation j wait, directly or through others, for operation i? -/
def waits (md : Region.Mode) (ops : Array Oper) (i : Nat) : Nat → Nat → Bool
  | 0, _ => false
  | f + 1, j => match ops[j]? with
    | none => false
    | some oj => oj.after.any fun e => Region.binds md e && (e.on == i || waits md ops i f e.on)

theorem Disc.came {L : Array Bool} (h : Disc md ops L) {i : Nat} : ∀ (f j : Nat), waits md ops i f j = true → L.getD j false = true → L.getD i false = true
  | 0, _, hw, _ => by cases hw
  | f + 1, j, hw, hj => by
    unfold waits at hw
    cases ho : ops[j]? with
    | none => rw [ho] at hw; cases hw
    | some oj =>
      rw [ho] at hw
      simp only [Array.any_eq_true] at hw
      obtain ⟨k, hk, hb⟩ := hw
      simp only [Bool.and_eq_true, Bool.or_eq_true, beq_iff_eq] at hb
      have hm := h j oj ho hj oj.after[k] (Array.getElem_mem _) hb.1
      rcases hb.2 with h1 | h1
      · rw [h1] at hm; exact hm
      · exact h.came f _ h1 hm

def wpAnyT (P : Program) (md : Region.Mode) (ops : Array Oper) (Q : Exit → Act → World → Prop) (S : Array Bool → World → Prop) : Nat → Array Bool → Act → World → Prop
  | 0, L, a, w => Region.ready md ops L = [] ∧ Q .normal a w
  | fuel + 1, L, a, w => (Region.ready md ops L = [] → Q .normal a w) ∧
    ∀ i ∈ Region.ready md ops L, wpOp P ops Q i (fun a' w' => S (L.setIfInBounds i true) w' ∧ wpAnyT P md ops Q S fuel (L.setIfInBounds i true) a' w') a w

theorem wpAny_of_T : ∀ (fuel : Nat) (L : Array Bool) (a : Act) (w : World), wpAnyT P md ops Q S fuel L a w → wpAny P md ops Q fuel L a w
  | 0, _, _, _, h => h
  | fuel + 1, _, _, _, h => ⟨h.1, fun i hi => wpOp_mono (fun a' w' h' => wpAny_of_T fuel _ a' w' h'.2) (h.2 i hi)⟩

/-- What is known of memory while operation i has not come up. -/
def Held (md : Region.Mode) (ops : Array Oper) (S : Array Bool → World → Prop) (i : Nat) (W : World) : Prop := ∃ L, Disc md ops L ∧ L.getD i true = false ∧ S L W

theorem wpAnyT_first {i : Nat} {oi : Oper} {v : Value} (hi : ops[i]? = some oi) (hsel : ∀ (j : Nat) (o : Oper) cs b, ops[j]? = some o → o.op ≠ .select cs b)
    (hQ : ∀ c a w, Q (.panic c) (a.put oi.dst v) w → Q (.panic c) a w) (hS1 : ∀ L W, S L W → S (L.setIfInBounds i true) W) (hS2 : ∀ L W, S (L.setIfInBounds i true) W → S L W) :
    ∀ (fuel : Nat) (L : Array Bool) (a : Act) (w : World), Disc md ops L →
      (∀ j oj, ops[j]? = some oj → j ≠ i → L.getD j true = false → (∀ e ∈ oj.after, Region.binds md e = true → e.on ≠ i) → oi.apart ops oj = true) →
      i ∈ Region.ready md ops L → YieldsIf P ops (Held md ops S i) oi v a → S L w →
      wpAnyT P md ops Q S fuel (L.setIfInBounds i true) (a.put oi.dst v) w → wpAnyT P md ops Q S (fuel + 1) L a w := by
  intro fuel
  induction fuel with
  | zero =>
    intro L a w hD _ hr hy hS H
    refine ⟨fun h => (by rw [h] at hr; cases hr), fun j hj => ?_⟩
    by_cases hji : j = i
    · subst hji; exact hy.wpOp hi ⟨L, hD, (mem_ready.1 hr).1, hS⟩ ⟨hS1 _ _ hS, H⟩
    · have := ready_mono hj hji
      rw [H.1] at this; cases this
  | succ fuel ih =>
    intro L a w hD hfree hr hy hS H
    refine ⟨fun h => (by rw [h] at hr; cases hr), fun j hj => ?_⟩
    by_cases hji : j = i
    · subst hji; exact hy.wpOp hi ⟨L, hD, (mem_ready.1 hr).1, hS⟩ ⟨hS1 _ _ hS, H⟩
    have h1 := H.2 j (ready_mono hj hji)
    obtain ⟨hjun, oj, hoj, hall⟩ := mem_ready.1 hj
    have hiun := (mem_ready.1 hr).1
    have hnot : ∀ e ∈ oj.after, Region.binds md e = true → e.on ≠ i := by
      intro e he hb heq
      have h2 := hall e he hb
      rw [heq] at h2
      rcases Nat.lt_or_ge i L.size with h' | h'
      · simp [h'] at hiun h2; rw [hiun] at h2; cases h2
      · simp [Array.getElem?_eq_none h'] at h2
    have h2 := wpOp_putIf hoj (hfree j oj hoj hji hjun hnot) (fun cs b => hsel i oi cs b hi) (fun cs b => hsel j oj cs b hoj) hQ hy h1
    refine wpOp_mono (fun a' w' h3 => ?_) h2
    obtain ⟨hy', hS', H'⟩ := h3
    rw [Array.setIfInBounds_comm _ _ (Ne.symm hji)] at hS' H'
    have hS'' := hS2 _ _ hS'
    refine ⟨hS'', ih _ a' w' (hD.set hj) ?_ (ready_mono hr (Ne.symm hji)) hy' hS'' H'⟩
    intro k ok hk hki hun hno
    refine hfree k ok hk hki ?_ hno
    by_cases hjk : j = k
    · subst hjk; exact hjun
    · rwa [getD_set_ne true hjk] at hun

/-- Take number i first. -/
theorem wpAnyT_take {i : Nat} {oi : Oper} {v : Value} {fuel : Nat} {L : Array Bool} {a : Act} {w : World} (hi : ops[i]? = some oi)
    (hs : Region.noSelect ops = true) (hf : Region.free md ops L i = true) (hr : (Region.ready md ops L).contains i = true)
    (hQ : ∀ c a w, Q (.panic c) (a.put oi.dst v) w → Q (.panic c) a w) (hS1 : ∀ L W, S L W → S (L.setIfInBounds i true) W) (hS2 : ∀ L W, S (L.setIfInBounds i true) W → S L W)
    (hD : Disc md ops L) (hy : YieldsIf P ops (Held md ops S i) oi v a) (hS : S L w)
    (h : Disc md ops (L.setIfInBounds i true) → S (L.setIfInBounds i true) w → wpAnyT P md ops Q S fuel (L.setIfInBounds i true) (a.put oi.dst v) w) : wpAnyT P md ops Q S (fuel + 1) L a w :=
  have hr' : i ∈ Region.ready md ops L := by simpa using hr
  wpAnyT_first hi (Region.noSelect_spec hs) hQ hS1 hS2 fuel L a w hD (Region.free_spec hi hf) hr' hy hS (h (hD.set hr') (hS1 _ _ hS))

/-- One alone may come up. -/
theorem wpAnyT_one {i : Nat} {o : Oper} {fuel : Nat} {L : Array Bool} {a : Act} {w : World} (hr : Region.ready md ops L = [i]) (ho : ops[i]? = some o) (hD : Disc md ops L)
    (h : ∀ K' : Act → World → Prop, Shut (∀ a w, S (L.setIfInBounds i true) w → (Disc md ops (L.setIfInBounds i true) → S (L.setIfInBounds i true) w → wpAnyT P md ops Q S fuel (L.setIfInBounds i true) a w) → K' a w) → if Region.wanted o (yielded ops a.tmps) = true then Oper.wp P o a w K' Q else K' (a.put o.dst undef) w) :
    wpAnyT P md ops Q S (fuel + 1) L a w := by
  refine ⟨fun h0 => (by rw [hr] at h0; cases h0), fun j hj => ?_⟩
  rw [hr] at hj
  obtain rfl := List.mem_singleton.1 hj
  have hD' := hD.set (i := j) (by rw [hr]; simp)
  exact wpOp_step ho (fun K' hK => h K' (fun a w hS hW => hK a w ⟨hS, hW hD' hS⟩))

theorem wpAnyT_done {L : Array Bool} {a : Act} {w : World} (hr : Region.ready md ops L = []) (h : Q .normal a w) : ∀ fuel, wpAnyT P md ops Q S fuel L a w
  | 0 => ⟨hr, h⟩
  | _ + 1 => ⟨fun _ => h, by rw [hr]; simp⟩

theorem wp_region_T {id : Nat} {a : Act} {w : World} (S : Array Bool → World → Prop) (hm : P.follows .mixedOrders = true)
    (h : Disc .any ops (Array.replicate ops.size false) → wpAnyT P .any ops Q S ops.size (Array.replicate ops.size false) a w.drew) : (Code.region id ops true).wp P Q a w :=
  wp_region_any hm (wpAny_of_T _ _ _ _ (h (Disc.start _)))
end
end Go
