/- The document's answer: filter 4 up to its sum: the walk of Open. -/
import Derived.Test.YtgkljcmjnphpeaaGreatDoorK28
set_option linter.unusedVariables false
set_option linter.unusedSimpArgs false
namespace Go.Proofs.YtgkljcmjnphpeaaGreatDoor.Fo
theorem PartsTo.some {c : Codes} {window most : Nat} : ∀ (n : Nat) (r : List Bool) (o : List Nat), r.length ≤ n → ∃ res, PartsTo c window most r o res
  | n, r, o, hn => by
    cases hp : part c window most r o with
    | error e => exact ⟨_, .err hp⟩
    | ok x =>
      obtain ⟨b, r', o'⟩ := x
      cases b with
      | false => exact ⟨_, .stop hp⟩
      | true =>
        have hs := part_shorter hp
        cases n with
        | zero => omega
        | succ n =>
          obtain ⟨res, h⟩ := PartsTo.some (c := c) (window := window) (most := most) n r' o' (by omega)
          exact ⟨res, .more hp h⟩
theorem PartsTo.shorter {c : Codes} {window most : Nat} {r r' : List Bool} {o o' : List Nat} (h : PartsTo c window most r o (.ok (r', o'))) : r'.length < r.length := by
  have := h (fun r o res => ∀ r' o', res = .ok (r', o') → r'.length < r.length) (fun r o e _ r' o' h => by cases h) (fun r o r' o' hp r1 o1 h => by cases h; exact part_shorter hp) (fun r o r' o' res hp ih r1 o1 h => Nat.lt_trans (ih r1 o1 h) (part_shorter hp))
  exact this r' o' rfl
theorem lensGo_le (cs ss : List Nat) (n : Nat) : ∀ k r L r' L', lensGo cs ss n k r L = Option.some (r', L') → r'.length ≤ r.length
  | 0, r, L, r', L', h => by cases h
  | k + 1, r, L, r', L', h => by
    unfold lensGo at h
    split at h
    · split at h
      · cases h; exact Nat.le_refl _
      · cases h
    · cases hs : lensStep cs ss r L with
      | none => rw [hs] at h; cases h
      | some x =>
        obtain ⟨r1, L1⟩ := x
        rw [hs] at h
        have h1 := lensStep_shorter hs
        have h2 := lensGo_le cs ss n k r1 L1 r' L' h
        omega
theorem ownHead_le {r r' : List Bool} {L : List Nat} (h : ownHead r = Option.some (r', L)) : r'.length ≤ r.length := by
  unfold ownHead at h
  split at h
  · cases h
  split at h
  · cases h
  split at h
  · cases h
  split at h
  · cases h
  have h2 := lensGo_le _ _ _ _ _ _ _ _ h
  rw [List.length_drop] at h2
  omega
theorem OwnTo.some (window most : Nat) (r : List Bool) (o : List Nat) : ∃ res, OwnTo window most r o res := by
  cases hh : ownHead r with
  | none =>
    refine ⟨.error 5, ?_⟩
    unfold OwnTo
    exact ⟨fun _ => rfl, fun r' L h => by rw [hh] at h; cases h⟩
  | some x =>
    obtain ⟨r1, L⟩ := x
    by_cases g : ownGood L (headA r)
    · obtain ⟨res, hr⟩ := PartsTo.some (c := ⟨cz (L.take (headA r)), ssOf (L.take (headA r)), cz (L.drop (headA r)), ssOf (L.drop (headA r))⟩) (window := window) (most := most) r1.length r1 o (Nat.le_refl _)
      refine ⟨res, ?_⟩
      unfold OwnTo
      refine ⟨fun h => (by rw [hh] at h; cases h), fun r' L' h => ?_⟩
      rw [hh] at h; cases h
      exact ⟨fun hg => absurd g hg, fun _ => hr⟩
    · refine ⟨.error 5, ?_⟩
      unfold OwnTo
      refine ⟨fun _ => rfl, fun r' L' h => ?_⟩
      rw [hh] at h; cases h
      exact ⟨fun _ => rfl, fun hg => absurd hg g⟩
theorem OwnTo.shorter {window most : Nat} {r r' : List Bool} {o o' : List Nat} (h : OwnTo window most r o (.ok (r', o'))) : r'.length < r.length := by
  cases hh : ownHead r with
  | none => have := h.1 hh; cases this
  | some x =>
    obtain ⟨r1, L⟩ := x
    by_cases g : ownGood L (headA r)
    · have h1 := ((h.2 r1 L hh).2 g).shorter
      have h2 := ownHead_le hh
      omega
    · have := (h.2 r1 L hh).1 g; cases this
/-- One block: what comes of it. -/
def BlockTo (window most : Nat) (r : List Bool) (o : List Nat) (res : Except Nat (List Bool × List Nat)) : Prop :=
  (r.length < 3 ∧ res = .error 5) ∨ (3 ≤ r.length ∧ val ((r.drop 1).take 2) = 0 ∧ storedDec most (r.drop 3) o = res) ∨ (3 ≤ r.length ∧ val ((r.drop 1).take 2) = 1 ∧ PartsTo fixedC window most (r.drop 3) o res) ∨
    (3 ≤ r.length ∧ val ((r.drop 1).take 2) = 2 ∧ OwnTo window most (r.drop 3) o res) ∨ (3 ≤ r.length ∧ val ((r.drop 1).take 2) = 3 ∧ res = .error 5)
/-- The bit that says whether a block is the last. -/
def lastOf (r : List Bool) : Nat := val (r.take 1)
theorem storedDec_shorter {most : Nat} {r r' : List Bool} {o o' : List Nat} (h : storedDec most r o = .ok (r', o')) : r'.length ≤ r.length := by
  unfold storedDec at h
  split at h
  · cases h
  split at h
  · cases h
  split at h
  · simp only [Except.ok.injEq, Prod.mk.injEq] at h
    rw [← h.1]
    simp only [List.length_drop]
    omega
  · cases h
theorem BlockTo.some (window most : Nat) (r : List Bool) (o : List Nat) : ∃ res, BlockTo window most r o res := by
  by_cases h3 : r.length < 3
  · exact ⟨_, Or.inl ⟨h3, rfl⟩⟩
  have h3' : 3 ≤ r.length := by omega
  have hv := val_lt ((r.drop 1).take 2)
  rw [List.length_take, List.length_drop, Nat.min_eq_left (by omega)] at hv
  have hc : val ((r.drop 1).take 2) = 0 ∨ val ((r.drop 1).take 2) = 1 ∨ val ((r.drop 1).take 2) = 2 ∨ val ((r.drop 1).take 2) = 3 := by omega
  rcases hc with c | c | c | c
  · exact ⟨_, Or.inr (Or.inl ⟨h3', c, rfl⟩)⟩
  · obtain ⟨res, hr⟩ := PartsTo.some (c := fixedC) (window := window) (most := most) _ (r.drop 3) o (Nat.le_refl _)
    exact ⟨res, Or.inr (Or.inr (Or.inl ⟨h3', c, hr⟩))⟩
  · obtain ⟨res, hr⟩ := OwnTo.some window most (r.drop 3) o
    exact ⟨res, Or.inr (Or.inr (Or.inr (Or.inl ⟨h3', c, hr⟩)))⟩
  · exact ⟨_, Or.inr (Or.inr (Or.inr (Or.inr ⟨h3', c, rfl⟩)))⟩
theorem BlockTo.shorter {window most : Nat} {r r' : List Bool} {o o' : List Nat} (h : BlockTo window most r o (.ok (r', o'))) : r'.length < r.length ∧ 3 ≤ r.length := by
  have hd : (r.drop 3).length = r.length - 3 := List.length_drop
  rcases h with ⟨_, h⟩ | ⟨h3, _, h⟩ | ⟨h3, _, h⟩ | ⟨h3, _, h⟩ | ⟨_, _, h⟩
  · cases h
  · have := storedDec_shorter h; omega
  · have := h.shorter; omega
  · have := h.shorter; omega
  · cases h
/-- Blocks up to the last one: the error, or what is left and what has come out. -/
def BlocksTo (window most : Nat) (r : List Bool) (o : List Nat) (res : Except Nat (List Bool × List Nat)) : Prop :=
  ∀ P : List Bool → List Nat → Except Nat (List Bool × List Nat) → Prop,
    (∀ r o e, BlockTo window most r o (.error e) → P r o (.error e)) →
    (∀ r o r' o', BlockTo window most r o (.ok (r', o')) → lastOf r = 1 → P r o (.ok (r', o'))) →
    (∀ r o r' o' res, BlockTo window most r o (.ok (r', o')) → lastOf r = 0 → P r' o' res → P r o res) → P r o res
section
variable {window most : Nat} {r r' : List Bool} {o o' : List Nat} {res : Except Nat (List Bool × List Nat)}
theorem BlocksTo.err {e : Nat} (h : BlockTo window most r o (.error e)) : BlocksTo window most r o (.error e) := fun _ h1 _ _ => h1 _ _ _ h
theorem BlocksTo.stop (h : BlockTo window most r o (.ok (r', o'))) (hl : lastOf r = 1) : BlocksTo window most r o (.ok (r', o')) := fun _ _ h2 _ => h2 _ _ _ _ h hl
theorem BlocksTo.more (h : BlockTo window most r o (.ok (r', o'))) (hl : lastOf r = 0) (k : BlocksTo window most r' o' res) : BlocksTo window most r o res := fun P h1 h2 h3 => h3 _ _ _ _ _ h hl (k P h1 h2 h3)
/-- What blocks begin with. -/
def BlocksGo (window most : Nat) (r : List Bool) (o : List Nat) (res : Except Nat (List Bool × List Nat)) : Prop :=
  (∃ e, BlockTo window most r o (.error e) ∧ res = .error e) ∨ (∃ r' o', BlockTo window most r o (.ok (r', o')) ∧ lastOf r = 1 ∧ res = .ok (r', o')) ∨ (∃ r' o', BlockTo window most r o (.ok (r', o')) ∧ lastOf r = 0 ∧ BlocksTo window most r' o' res)
theorem BlocksTo.parted (h : BlocksTo window most r o res) : BlocksGo window most r o res :=
  (h (fun r o res => BlocksTo window most r o res ∧ BlocksGo window most r o res)
    (fun _ _ e he => ⟨.err he, Or.inl ⟨e, he, rfl⟩⟩) (fun _ _ r' o' he hl => ⟨.stop he hl, Or.inr (Or.inl ⟨r', o', he, hl, rfl⟩)⟩) (fun _ _ r' o' _ he hl hk => ⟨.more he hl hk.1, Or.inr (Or.inr ⟨r', o', he, hl, hk.1⟩)⟩)).2
end
theorem lastOf_le (r : List Bool) : lastOf r = 0 ∨ lastOf r = 1 := by
  have hv := val_lt (r.take 1)
  unfold lastOf
  have : (r.take 1).length ≤ 1 := by rw [List.length_take]; omega
  rcases Nat.lt_or_ge (r.take 1).length 1 with h | h
  · have e : (r.take 1).length = 0 := by omega
    rw [e] at hv; omega
  · have e : (r.take 1).length = 1 := by omega
    rw [e] at hv; omega
theorem BlocksTo.some (window most : Nat) : ∀ (n : Nat) (r : List Bool) (o : List Nat), r.length ≤ n → ∃ res, BlocksTo window most r o res
  | n, r, o, hn => by
    obtain ⟨res, hb⟩ := BlockTo.some window most r o
    cases res with
    | error e => exact ⟨_, .err hb⟩
    | ok x =>
      obtain ⟨r', o'⟩ := x
      rcases lastOf_le r with hl | hl
      · have hs := hb.shorter.1
        cases n with
        | zero => omega
        | succ n =>
          obtain ⟨res, h⟩ := BlocksTo.some window most n r' o' (by omega)
          exact ⟨res, .more hb hl h⟩
      · exact ⟨_, .stop hb hl⟩
/-- May filter 4's first two bytes stand. -/
def headGood (a b : Nat) : Prop := a % 16 = 8 ∧ a / 16 ≤ 7 ∧ (256 * a + b) % 31 = 0 ∧ b / 32 % 2 = 0
/-- Filter 4 up to its sum: what comes of it. -/
def OpenTo (most : Nat) (r : List Bool) (res : Except Nat (List Bool × List Nat)) : Prop :=
  (¬ (16 ≤ r.length ∧ headGood (val (r.take 8)) (val ((r.drop 8).take 8))) ∧ res = .error 5) ∨ ((16 ≤ r.length ∧ headGood (val (r.take 8)) (val ((r.drop 8).take 8))) ∧ BlocksTo (2 ^ (val (r.take 8) / 16 + 8)) most (r.drop 16) [] res)
theorem OpenTo.some (most : Nat) (r : List Bool) : ∃ res, OpenTo most r res := by
  by_cases h : 16 ≤ r.length ∧ headGood (val (r.take 8)) (val ((r.drop 8).take 8))
  · obtain ⟨res, hr⟩ := BlocksTo.some (2 ^ (val (r.take 8) / 16 + 8)) most _ (r.drop 16) [] (Nat.le_refl _)
    exact ⟨res, Or.inr ⟨h, hr⟩⟩
  · exact ⟨_, Or.inl ⟨h, rfl⟩⟩
end Go.Proofs.YtgkljcmjnphpeaaGreatDoor.Fo
namespace Go.Proofs.YtgkljcmjnphpeaaGreatDoor
open Go.RowKit
variable {B b : Nat} {S : ByteArray} {most : Nat} {w : World} {p : Nat} {ov : Value} {out : List Nat} {e : Nat}
/-- Where the reading of blocks stands. -/
def BlSt (S : ByteArray) (window most : Nat) (res : Except Nat (List Bool × List Nat)) (last q : Nat) (o : List Nat) (e : Nat) : Prop :=
  (e = 0 ∧ last = 0 ∧ q ≤ 8 * S.size ∧ Fo.BlocksTo window most (rest4 S q) o res ∧ (∀ x ∈ o, x < 256) ∧ window ≤ 32768) ∨ (e = 0 ∧ last = 1 ∧ BRes S res q o 0) ∨ (e ≠ 0 ∧ res = .error e)
theorem blSt_out {window last q : Nat} {res : Except Nat (List Bool × List Nat)} {o : List Nat} (h : BlSt S window most res last q o e) (hl : ¬ (last = 0 ∧ e = 0)) : BRes S res q o e := by
  rcases h with ⟨h1, h2, _⟩ | ⟨rfl, _, h⟩ | ⟨h1, rfl⟩
  · exact absurd ⟨h2, h1⟩ hl
  · exact h
  · exact ⟨rfl, h1⟩
/-- What the head comes to. -/
theorem blSt_head {va vb q1 e1 q2 e2 e3 : Nat} {res : Except Nat (List Bool × List Nat)} (h1 : BitRes S 8 0 0 va q1 e1) (h2 : BitRes S 8 q1 e1 vb q2 e2) (hres : Fo.OpenTo most (rest4 S 0) res) (h3 : (Fo.headGood va vb ∧ e3 = e2) ∨ (¬ Fo.headGood va vb ∧ e3 = rno 5 e2)) : BlSt S (2 ^ (va / 16 + 8)) most res 0 q2 [] e3 := by
  have hl : (rest4 S 0).length = 8 * S.size := by rw [rest4_len]; omega
  have hbad : (rest4 S 0).length < 16 → res = .error 5 := fun hlt => by
    rcases hres with ⟨_, h⟩ | ⟨⟨h, _⟩, _⟩
    · exact h
    · omega
  have hno : rno 5 5 = 5 := rfl
  rcases h1 with ⟨h, _⟩ | ⟨_, l1, rfl, rfl, rfl⟩ | ⟨_, l1, rfl, rfl, rfl⟩
  · exact absurd rfl h
  · rcases h2 with ⟨h, _⟩ | ⟨_, l2, rfl, rfl, rfl⟩ | ⟨_, l2, rfl, rfl, rfl⟩
    · exact absurd rfl h
    · have e8 : rest4 S (0 + 8) = (rest4 S 0).drop 8 := by rw [rest4_drop]
      have e16 : rest4 S (0 + 8 + 8) = (rest4 S 0).drop 16 := by rw [rest4_drop]
      rw [e8] at h3
      rcases h3 with ⟨g, rfl⟩ | ⟨g, rfl⟩
      · rcases hres with ⟨h, _⟩ | ⟨_, h⟩
        · exact absurd ⟨by omega, g⟩ h
        · refine Or.inl ⟨rfl, rfl, by omega, by rw [e16]; exact h, by simp, ?_⟩
          have h7 := g.2.1
          generalize Fo.val ((rest4 S 0).take 8) / 16 = k at h7
          exact Nat.le_trans (Nat.pow_le_pow_right (by omega) (show k + 8 ≤ 15 by omega)) (by decide)
      · rcases hres with ⟨_, rfl⟩ | ⟨⟨_, h⟩, _⟩
        · exact Or.inr (Or.inr ⟨by simp [rno], by simp [rno]⟩)
        · exact absurd h g
    · have := hbad (by omega)
      subst this
      rcases h3 with ⟨g, rfl⟩ | ⟨g, rfl⟩ <;> exact Or.inr (Or.inr ⟨by simp [rno], by simp [rno]⟩)
  · have := hbad (by omega)
    subst this
    rcases h2 with ⟨_, rfl, rfl, rfl⟩ | ⟨h, _⟩ | ⟨h, _⟩
    · rcases h3 with ⟨g, rfl⟩ | ⟨g, rfl⟩ <;> exact Or.inr (Or.inr ⟨by simp [rno], by simp [rno]⟩)
    · cases h
    · cases h
/-- What a block's first bits come to. -/
def BlMid (S : ByteArray) (window most : Nat) (res : Except Nat (List Bool × List Nat)) (o : List Nat) (q0 last sort q e : Nat) : Prop :=
  (e ≠ 0 ∧ res = .error e) ∨ (e = 0 ∧ q ≤ 8 * S.size ∧ q0 < q ∧ sort < 4 ∧ (∀ x ∈ o, x < 256) ∧ window ≤ 32768 ∧ (last = 0 ∨ last = 1) ∧
    (∃ r1, (sort = 0 → Fo.storedDec most (rest4 S q) o = r1) ∧ (sort = 1 → Fo.PartsTo Fo.fixedC window most (rest4 S q) o r1) ∧ (sort = 2 → Fo.OwnTo window most (rest4 S q) o r1) ∧ (sort = 3 → r1 = .error 5) ∧
      ∀ q' o' e', BRes S r1 q' o' e' → BlSt S window most res last q' o' e' ∧ (e' = 0 → q0 < q')))
theorem blMid_of {window last sort q q1 e1 q2 e2 : Nat} {res : Except Nat (List Bool × List Nat)} {o : List Nat} (h : BlSt S window most res 0 q o 0) (h1 : BitRes S 1 q 0 last q1 e1) (h2 : BitRes S 2 q1 e1 sort q2 e2) : BlMid S window most res o q last sort q2 e2 := by
  rcases h with ⟨_, _, hq, hB, hby, hw⟩ | ⟨_, h, _⟩ | ⟨h, _⟩
  · have hlen := rest4_len S q
    have hshort : (rest4 S q).length < 3 → res = .error 5 := fun hlt => by
      rcases hB.parted with ⟨e, hb, rfl⟩ | ⟨r', o', hb, _⟩ | ⟨r', o', hb, _⟩
      · rcases hb with ⟨_, h⟩ | ⟨h3, _⟩ | ⟨h3, _⟩ | ⟨h3, _⟩ | ⟨h3, _⟩
        · exact h
        all_goals omega
      · have := hb.shorter; omega
      · have := hb.shorter; omega
    rcases h1 with ⟨h, _⟩ | ⟨_, l1, rfl, rfl, rfl⟩ | ⟨_, l1, rfl, rfl, rfl⟩
    · exact absurd rfl h
    · rcases h2 with ⟨h, _⟩ | ⟨_, l2, rfl, rfl, rfl⟩ | ⟨_, l2, rfl, rfl, rfl⟩
      · exact absurd rfl h
      · have eS : rest4 S (q + 1) = (rest4 S q).drop 1 := by rw [rest4_drop]
        have e3 : rest4 S (q + 1 + 2) = (rest4 S q).drop 3 := by rw [rest4_drop]
        have h4 : Fo.val ((rest4 S (q + 1)).take 2) < 4 := by
          have := Fo.val_lt ((rest4 S (q + 1)).take 2)
          rw [List.length_take, rest4_len, Nat.min_eq_left (by omega)] at this
          exact this
        refine Or.inr ⟨rfl, by omega, by omega, h4, hby, hw, Fo.lastOf_le _, ?_⟩
        have hone : ∃ r1, Fo.BlockTo window most (rest4 S q) o r1 ∧ ∀ q' o' e', BRes S r1 q' o' e' → BlSt S window most res (Fo.lastOf (rest4 S q)) q' o' e' ∧ (e' = 0 → q < q') := by
          rcases hB.parted with ⟨e, hb, rfl⟩ | ⟨r', o', hb, hl, rfl⟩ | ⟨r', o', hb, hl, hB'⟩
          · refine ⟨_, hb, fun q' o' e' hr => ?_⟩
            obtain ⟨rfl, hn⟩ := hr
            exact ⟨Or.inr (Or.inr ⟨hn, rfl⟩), fun h => absurd h hn⟩
          · refine ⟨_, hb, fun q' o1 e' hr => ?_⟩
            have h0 := hr.1
            subst h0
            refine ⟨Or.inr (Or.inl ⟨rfl, hl, hr⟩), fun _ => ?_⟩
            obtain ⟨_, _, rfl, hq', _⟩ := hr
            have := hb.shorter.1
            rw [rest4_len, rest4_len] at this
            omega
          · refine ⟨_, hb, fun q' o1 e' hr => ?_⟩
            obtain ⟨rfl, rfl, rfl, hq', hby'⟩ := hr
            refine ⟨Or.inl ⟨rfl, hl, hq', hB', hby', hw⟩, fun _ => ?_⟩
            have := hb.shorter.1
            rw [rest4_len, rest4_len] at this
            omega
        obtain ⟨r1, hb, hn⟩ := hone
        refine ⟨r1, ?_, ?_, ?_, ?_, hn⟩ <;> intro hs <;> rw [eS] at hs <;> (try rw [e3]) <;> rcases hb with ⟨h3, h⟩ | ⟨h3, hv, h⟩ | ⟨h3, hv, h⟩ | ⟨h3, hv, h⟩ | ⟨h3, hv, h⟩ <;> first | exact h | omega
      · have := hshort (by omega)
        exact Or.inl ⟨by simp, this⟩
    · have := hshort (by omega)
      rcases h2 with ⟨_, rfl, rfl, rfl⟩ | ⟨h, _⟩ | ⟨h, _⟩
      · exact Or.inl ⟨by simp, this⟩
      · cases h
      · cases h
  · cases h
  · exact absurd rfl h
end Go.Proofs.YtgkljcmjnphpeaaGreatDoor
namespace Go.Proofs.YtgkljcmjnphpeaaGreatDoor
open Go.RowKit
variable {B b : Nat} {S : ByteArray} {most : Nat} {w : World} {p : Nat} {ov : Value} {out : List Nat} {e : Nat}
set_option maxRecDepth 100000 in
set_option maxHeartbeats 2000000 in
theorem ropen_ok (h : RIn B b S most w 0 ov [] 0) {res : Except Nat (List Bool × List Nat)} (hres : Fo.OpenTo most (rest4 S 0) res) :
    Calls Tryz.prog 111 #[.pointer (some ⟨b, 0, none⟩)] w fun x w' => x = .returned (.tuple #[]) ∧ ∃ q ov' o e, RIn B b S most w' q ov' o e ∧ BRes S res q o e ∧ Kept 5 B [b] w w' := by
  have HRES := hide hres
  clear hres
  go_enter Tryz.func111, Tryz.ntmps111
  go_wp2_with fail
  refine (rbits_any h 8 (by omega)).mono ?_
  rintro x w1 ⟨va, q1, e1, rfl, r1, B1, hv1, k1⟩
  have hva : va < 256 := by simpa using hv1
  go_wp2_with fail
  refine (rbits_any r1 8 (by omega)).mono ?_
  rintro x w2 ⟨vb, q2, e2, rfl, r2, B2, hv2, k2⟩
  have hvb : vb < 256 := by simpa using hv2
  have HH : Hid (∀ e3, ((Fo.headGood va vb ∧ e3 = e2) ∨ (¬ Fo.headGood va vb ∧ e3 = rno 5 e2)) → BlSt S (2 ^ (va / 16 + 8)) most res 0 q2 [] e3) := fun e3 h3 => blSt_head B1.out B2.out HRES.out h3
  have K2 := hide (k1.trans k2)
  clear HRES B1 B2 h r1 hv1 hv2 k1 k2
  go_upto_region 3 with fail
  go_cut [35] from 15 (fun c wx => ∃ t : Bool, c = .bool t ∧ Hid (t = true ↔ ¬ Fo.headGood va vb) ∧ wx = w2)
  case first =>
    by_cases g1 : va % 16 = 8
    · have g1' : ((va : Int) % 16 != 8) = false := by simp; omega
      by_cases g2 : va / 16 ≤ 7
      · have g2' : ¬ (7 : Int) < (va : Int) / 16 := by omega
        by_cases g3 : (256 * va + vb) % 31 = 0
        · have g3' : ((256 * (va : Int) + vb) % 31 != 0) = false := by simp; omega
          by_cases g4 : vb / 32 % 2 = 0
          · have g4' : ((vb : Int) / 32 % 2 != 0) = false := by simp; omega
            go_wp2
            go_meet
            case rel => exact ⟨false, rfl, ⟨fun h => (by cases h), fun h => (absurd (show Fo.headGood va vb from ⟨g1, g2, g3, g4⟩) h)⟩, rfl⟩
          · have g4' : ((vb : Int) / 32 % 2 != 0) = true := by simp; omega
            go_wp2
            go_meet
            case rel => exact ⟨true, rfl, ⟨fun h => ((fun g : Fo.headGood va vb => g4 g.2.2.2)), fun h => (rfl)⟩, rfl⟩
        · have g3' : ((256 * (va : Int) + vb) % 31 != 0) = true := by simp; omega
          go_wp2
          go_meet
          case rel => exact ⟨true, rfl, ⟨fun h => ((fun g : Fo.headGood va vb => g3 g.2.2.1)), fun h => (rfl)⟩, rfl⟩
      · have g2' : (7 : Int) < (va : Int) / 16 := by omega
        go_wp2
        go_meet
        case rel => exact ⟨true, rfl, ⟨fun h => ((fun g : Fo.headGood va vb => g2 g.2.1)), fun h => (rfl)⟩, rfl⟩
    · have g1' : ((va : Int) % 16 != 8) = true := by simp; omega
      go_wp2
      go_meet
      case rel => exact ⟨true, rfl, ⟨fun h => ((fun g : Fo.headGood va vb => g1 g.1)), fun h => (rfl)⟩, rfl⟩
  case rest =>
    obtain ⟨t, rfl, HT, rfl⟩ := hcut
    cases t
    · have hg : Fo.headGood va vb := Classical.byContradiction fun h => (by cases HT.out.2 h)
      obtain ⟨W, hW⟩ : ∃ W, wc = W := ⟨_, rfl⟩
      have R3 := hide (show RIn B b S most W q2 ov [] e2 by rw [← hW]; exact r2)
      have K3 := hide (show Kept 5 B [b] w W by rw [← hW]; exact K2.out)
      have H3 := hide (HH.out e2 (Or.inl ⟨hg, rfl⟩))
      clear HH
      obtain ⟨E, hE⟩ : ∃ E, e2 = E := ⟨_, rfl⟩
      rw [hE] at R3 H3
      clear hE
      (try rw [hW])
      clear hW
      have hk : va / 16 < 16 := by omega
      have ek : (va : Int) / 16 = ((va / 16 : Nat) : Int) := by omega
      rw [ek]
      generalize va / 16 = k at *
      go_wp2
      go_loopw [5, 6] (fun vw vi wr => ∃ i : Nat, i ≤ k + 8 ∧ vw = .int .i64 (2 ^ i : Nat) ∧ vi = .int .i64 i ∧ wr = W) (fun _ vi _ => k + 8 - (intOf vi).toNat)
      case atStart => exact ⟨0, by omega, rfl, rfl, rfl⟩
      case round =>
        obtain ⟨i, hi, rfl, rfl, rfl⟩ := hrel
        have hp : 2 ^ i ≤ 2 ^ 23 := Nat.pow_le_pow_right (by omega) (by omega)
        have h23 : (2 : Nat) ^ 23 = 8388608 := by decide
        rw [h23] at hp
        by_cases c : i < k + 8
        · have c' : (i : Int) < (k : Int) + 8 := by omega
          have HP := hide (Nat.pow_succ 2 i)
          generalize 2 ^ i = P at *
          go_wp2
          go_roundw
          case rel => exact ⟨i + 1, by omega, by rw [HP.out]; simp; omega, by go_num, trivial⟩
          case measure => simp [intOf]; omega
        · have c' : ¬ (i : Int) < (k : Int) + 8 := by omega
          obtain rfl : i = k + 8 := by omega
          generalize 2 ^ (k + 8) = P at *
          clear h23
          go_wp2
          go_loopw [7, 8] (fun vl _ wr => ∃ (last q : Nat) (ov' : Value) (o : List Nat) (e : Nat), vl = .int .i64 last ∧ last ≤ 1 ∧ RIn B b S most wr q ov' o e ∧ Hid (BlSt S P most res last q o e) ∧ Kept 5 B [b] w wr) (fun _ _ wr => if errOf b wr = 0 then 8 * S.size + 1 - posOf b wr else 0)
          case atStart => exact ⟨0, q2, ov, [], E, rfl, by omega, R3.out, H3, K3.out⟩
          clear R3 H3 K3
          case round =>
            obtain ⟨last, q, ov', o, e, rfl, hl, r, HB, kk⟩ := hrel
            have mr := hide r.posOf
            have me := hide r.errOf
            have c4 := r.c4
            by_cases cl : last = 0
            · subst cl
              by_cases ce : e = 0
              · subst ce
                have hq8 : q ≤ 8 * S.size := by
                  rcases HB.out with ⟨_, _, h, _⟩ | ⟨_, h, _⟩ | ⟨h, _⟩
                  · exact h
                  · cases h
                  · exact absurd rfl h
                go_wp2_with fail
                refine (rbits_any r 1 (by omega)).mono ?_
                rintro x w4 ⟨la, q4, e4, rfl, r4, B4, hv4, k4⟩
                have hla : la < 2 := by simpa using hv4
                go_wp2_with fail
                refine (rbits_any r4 2 (by omega)).mono ?_
                rintro x w5 ⟨so, q5, e5, rfl, r5, B5, hv5, k5⟩
                have hso : so < 4 := by simpa using hv5
                have d4 := r5.c4
                have KK := hide ((kk.trans k4).trans k5)
                have HM := hide (blMid_of HB.out B4.out B5.out)
                clear HB B4 B5 r r4 kk k4 k5 hv4 hv5 c4
                have hla1 : la ≤ 1 := by omega
                rcases HM.out with ⟨he, hR⟩ | ⟨rfl, hq5, hlt, hs4, hby, hw, hlast, rr, hs0, hs1, hs2, hs3, hn⟩
                · have he' : ((e5 : Int) != 0) = true := by simp; omega
                  have m5 := hide r5.errOf
                  have HR := hide hR
                  clear HM hR
                  go_wp2
                  go_roundw
                  case rel => exact ⟨la, q5, ov', o, e5, rfl, hla1, r5, Or.inr (Or.inr ⟨he, HR.out⟩), KK.out⟩
                  case measure => rw [me.out, mr.out, m5.out, if_neg he, if_pos rfl]; omega
                · have HN := hide hn
                  have H0 := hide hs0
                  have H1 := hide hs1
                  have H2 := hide hs2
                  have H3 := hide hs3
                  have HBY := hide hby
                  clear HM hn hs0 hs1 hs2 hs3 hby
                  have hcs : so = 0 ∨ so = 1 ∨ so = 2 ∨ so = 3 := by omega
                  rcases hcs with rfl | rfl | rfl | rfl
                  · go_wp2_with fail
                    refine (rplain_ok r5 hq5 HBY.out (H0.out (by simp))).mono ?_
                    rintro x w6 ⟨rfl, q6, ov6, o6, e6, r6, b6, k6⟩
                    have hN := HN.out _ _ _ b6
                    have HS := hide hN.1
                    have HQ := hide hN.2
                    have m6 := hide r6.errOf
                    have p6 := hide r6.posOf
                    clear hN b6
                    go_wp2
                    go_roundw
                    case rel => exact ⟨la, q6, ov6, o6, e6, rfl, hla1, r6, HS, KK.out.trans k6⟩
                    case measure =>
                      rw [me.out, mr.out, m6.out, p6.out, if_pos rfl]
                      have := HQ.out
                      split
                      · have := this (by omega); omega
                      · omega
                  · go_wp2_with fail
                    refine (rfixed_ok r5 hw (Or.inl ⟨rfl, hq5, H1.out (by simp), HBY.out⟩)).mono ?_
                    rintro x w6 ⟨rfl, q6, ov6, o6, e6, r6, b6, k6⟩
                    have hN := HN.out _ _ _ b6
                    have HS := hide hN.1
                    have HQ := hide hN.2
                    have m6 := hide r6.errOf
                    have p6 := hide r6.posOf
                    clear hN b6
                    go_wp2
                    go_roundw
                    case rel => exact ⟨la, q6, ov6, o6, e6, rfl, hla1, r6, HS, KK.out.trans k6⟩
                    case measure =>
                      rw [me.out, mr.out, m6.out, p6.out, if_pos rfl]
                      have := HQ.out
                      split
                      · have := this (by omega); omega
                      · omega
                  · go_wp2_with fail
                    refine (rown_ok r5 hq5 HBY.out hw (H2.out (by simp))).mono ?_
                    rintro x w6 ⟨rfl, q6, ov6, o6, e6, r6, b6, k6⟩
                    have hN := HN.out _ _ _ b6
                    have HS := hide hN.1
                    have HQ := hide hN.2
                    have m6 := hide r6.errOf
                    have p6 := hide r6.posOf
                    clear hN b6
                    go_wp2
                    go_roundw
                    case rel => exact ⟨la, q6, ov6, o6, e6, rfl, hla1, r6, HS, KK.out.trans k6⟩
                    case measure =>
                      rw [me.out, mr.out, m6.out, p6.out, if_pos rfl]
                      have := HQ.out
                      split
                      · have := this (by omega); omega
                      · omega
                  · go_wp2_with fail
                    refine (rno_ok r5 5 (by omega)).mono ?_
                    rintro x w6 ⟨rfl, r6, k6⟩
                    rw [rno_zero] at r6
                    have hN := HN.out q5 o 5 (by rw [H3.out (by simp)]; exact ⟨rfl, by omega⟩)
                    have HS := hide hN.1
                    have m6 := hide r6.errOf
                    clear hN
                    go_wp2
                    go_roundw
                    case rel => exact ⟨la, q5, ov', o, 5, rfl, hla1, r6, HS, KK.out.trans k6⟩
                    case measure => rw [me.out, mr.out, m6.out, if_neg (by omega), if_pos rfl]; omega
              · have ce' : ((e : Int) == 0) = false := by simp; omega
                go_wp2
                go_end0
                exact ⟨rfl, q, ov', o, e, r, blSt_out HB.out (fun h => ce h.2), kk⟩
            · have cl' : ((last : Int) == 0) = false := by simp; omega
              go_wp2
              go_end0
              exact ⟨rfl, q, ov', o, e, r, blSt_out HB.out (fun h => cl h.1), kk⟩
    · have hg : ¬ Fo.headGood va vb := HT.out.1 rfl
      go_wp2_with fail
      refine (rno_ok r2 5 (by omega)).mono ?_
      rintro x w3 ⟨rfl, r3, k3⟩
      obtain ⟨W, hW⟩ : ∃ W, w3 = W := ⟨_, rfl⟩
      have R3 := hide (show RIn B b S most W q2 ov [] (rno 5 e2) by rw [← hW]; exact r3)
      have K3 := hide (show Kept 5 B [b] w W by rw [← hW]; exact (K2.out.trans k3))
      have H3 := hide (HH.out (rno 5 e2) (Or.inr ⟨hg, rfl⟩))
      clear HH
      obtain ⟨E, hE⟩ : ∃ E, (rno 5 e2) = E := ⟨_, rfl⟩
      rw [hE] at R3 H3
      clear hE
      (try rw [hW])
      clear hW
      have hk : va / 16 < 16 := by omega
      have ek : (va : Int) / 16 = ((va / 16 : Nat) : Int) := by omega
      rw [ek]
      generalize va / 16 = k at *
      go_wp2
      go_loopw [5, 6] (fun vw vi wr => ∃ i : Nat, i ≤ k + 8 ∧ vw = .int .i64 (2 ^ i : Nat) ∧ vi = .int .i64 i ∧ wr = W) (fun _ vi _ => k + 8 - (intOf vi).toNat)
      case atStart => exact ⟨0, by omega, rfl, rfl, rfl⟩
      case round =>
        obtain ⟨i, hi, rfl, rfl, rfl⟩ := hrel
        have hp : 2 ^ i ≤ 2 ^ 23 := Nat.pow_le_pow_right (by omega) (by omega)
        have h23 : (2 : Nat) ^ 23 = 8388608 := by decide
        rw [h23] at hp
        by_cases c : i < k + 8
        · have c' : (i : Int) < (k : Int) + 8 := by omega
          have HP := hide (Nat.pow_succ 2 i)
          generalize 2 ^ i = P at *
          go_wp2
          go_roundw
          case rel => exact ⟨i + 1, by omega, by rw [HP.out]; simp; omega, by go_num, trivial⟩
          case measure => simp [intOf]; omega
        · have c' : ¬ (i : Int) < (k : Int) + 8 := by omega
          obtain rfl : i = k + 8 := by omega
          generalize 2 ^ (k + 8) = P at *
          clear h23
          go_wp2
          go_loopw [7, 8] (fun vl _ wr => ∃ (last q : Nat) (ov' : Value) (o : List Nat) (e : Nat), vl = .int .i64 last ∧ last ≤ 1 ∧ RIn B b S most wr q ov' o e ∧ Hid (BlSt S P most res last q o e) ∧ Kept 5 B [b] w wr) (fun _ _ wr => if errOf b wr = 0 then 8 * S.size + 1 - posOf b wr else 0)
          case atStart => exact ⟨0, q2, ov, [], E, rfl, by omega, R3.out, H3, K3.out⟩
          clear R3 H3 K3
          case round =>
            obtain ⟨last, q, ov', o, e, rfl, hl, r, HB, kk⟩ := hrel
            have mr := hide r.posOf
            have me := hide r.errOf
            have c4 := r.c4
            by_cases cl : last = 0
            · subst cl
              by_cases ce : e = 0
              · subst ce
                have hq8 : q ≤ 8 * S.size := by
                  rcases HB.out with ⟨_, _, h, _⟩ | ⟨_, h, _⟩ | ⟨h, _⟩
                  · exact h
                  · cases h
                  · exact absurd rfl h
                go_wp2_with fail
                refine (rbits_any r 1 (by omega)).mono ?_
                rintro x w4 ⟨la, q4, e4, rfl, r4, B4, hv4, k4⟩
                have hla : la < 2 := by simpa using hv4
                go_wp2_with fail
                refine (rbits_any r4 2 (by omega)).mono ?_
                rintro x w5 ⟨so, q5, e5, rfl, r5, B5, hv5, k5⟩
                have hso : so < 4 := by simpa using hv5
                have d4 := r5.c4
                have KK := hide ((kk.trans k4).trans k5)
                have HM := hide (blMid_of HB.out B4.out B5.out)
                clear HB B4 B5 r r4 kk k4 k5 hv4 hv5 c4
                have hla1 : la ≤ 1 := by omega
                rcases HM.out with ⟨he, hR⟩ | ⟨rfl, hq5, hlt, hs4, hby, hw, hlast, rr, hs0, hs1, hs2, hs3, hn⟩
                · have he' : ((e5 : Int) != 0) = true := by simp; omega
                  have m5 := hide r5.errOf
                  have HR := hide hR
                  clear HM hR
                  go_wp2
                  go_roundw
                  case rel => exact ⟨la, q5, ov', o, e5, rfl, hla1, r5, Or.inr (Or.inr ⟨he, HR.out⟩), KK.out⟩
                  case measure => rw [me.out, mr.out, m5.out, if_neg he, if_pos rfl]; omega
                · have HN := hide hn
                  have H0 := hide hs0
                  have H1 := hide hs1
                  have H2 := hide hs2
                  have H3 := hide hs3
                  have HBY := hide hby
                  clear HM hn hs0 hs1 hs2 hs3 hby
                  have hcs : so = 0 ∨ so = 1 ∨ so = 2 ∨ so = 3 := by omega
                  rcases hcs with rfl | rfl | rfl | rfl
                  · go_wp2_with fail
                    refine (rplain_ok r5 hq5 HBY.out (H0.out (by simp))).mono ?_
                    rintro x w6 ⟨rfl, q6, ov6, o6, e6, r6, b6, k6⟩
                    have hN := HN.out _ _ _ b6
                    have HS := hide hN.1
                    have HQ := hide hN.2
                    have m6 := hide r6.errOf
                    have p6 := hide r6.posOf
                    clear hN b6
                    go_wp2
                    go_roundw
                    case rel => exact ⟨la, q6, ov6, o6, e6, rfl, hla1, r6, HS, KK.out.trans k6⟩
                    case measure =>
                      rw [me.out, mr.out, m6.out, p6.out, if_pos rfl]
                      have := HQ.out
                      split
                      · have := this (by omega); omega
                      · omega
                  · go_wp2_with fail
                    refine (rfixed_ok r5 hw (Or.inl ⟨rfl, hq5, H1.out (by simp), HBY.out⟩)).mono ?_
                    rintro x w6 ⟨rfl, q6, ov6, o6, e6, r6, b6, k6⟩
                    have hN := HN.out _ _ _ b6
                    have HS := hide hN.1
                    have HQ := hide hN.2
                    have m6 := hide r6.errOf
                    have p6 := hide r6.posOf
                    clear hN b6
                    go_wp2
                    go_roundw
                    case rel => exact ⟨la, q6, ov6, o6, e6, rfl, hla1, r6, HS, KK.out.trans k6⟩
                    case measure =>
                      rw [me.out, mr.out, m6.out, p6.out, if_pos rfl]
                      have := HQ.out
                      split
                      · have := this (by omega); omega
                      · omega
                  · go_wp2_with fail
                    refine (rown_ok r5 hq5 HBY.out hw (H2.out (by simp))).mono ?_
                    rintro x w6 ⟨rfl, q6, ov6, o6, e6, r6, b6, k6⟩
                    have hN := HN.out _ _ _ b6
                    have HS := hide hN.1
                    have HQ := hide hN.2
                    have m6 := hide r6.errOf
                    have p6 := hide r6.posOf
                    clear hN b6
                    go_wp2
                    go_roundw
                    case rel => exact ⟨la, q6, ov6, o6, e6, rfl, hla1, r6, HS, KK.out.trans k6⟩
                    case measure =>
                      rw [me.out, mr.out, m6.out, p6.out, if_pos rfl]
                      have := HQ.out
                      split
                      · have := this (by omega); omega
                      · omega
                  · go_wp2_with fail
                    refine (rno_ok r5 5 (by omega)).mono ?_
                    rintro x w6 ⟨rfl, r6, k6⟩
                    rw [rno_zero] at r6
                    have hN := HN.out q5 o 5 (by rw [H3.out (by simp)]; exact ⟨rfl, by omega⟩)
                    have HS := hide hN.1
                    have m6 := hide r6.errOf
                    clear hN
                    go_wp2
                    go_roundw
                    case rel => exact ⟨la, q5, ov', o, 5, rfl, hla1, r6, HS, KK.out.trans k6⟩
                    case measure => rw [me.out, mr.out, m6.out, if_neg (by omega), if_pos rfl]; omega
              · have ce' : ((e : Int) == 0) = false := by simp; omega
                go_wp2
                go_end0
                exact ⟨rfl, q, ov', o, e, r, blSt_out HB.out (fun h => ce h.2), kk⟩
            · have cl' : ((last : Int) == 0) = false := by simp; omega
              go_wp2
              go_end0
              exact ⟨rfl, q, ov', o, e, r, blSt_out HB.out (fun h => cl h.1), kk⟩
end Go.Proofs.YtgkljcmjnphpeaaGreatDoor
