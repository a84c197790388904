/- Bytes as digits of base 8 and 16 (package foliokeep). -/
import Derived.Test.YtgkljcmjnphpeaaGreatDoorK26
import Derived.Test.YtgkljcmjnphpeaaGreatDoorK23
import Derived.Test.YtgkljcmjnphpeaaGreatDoorK25
set_option linter.unusedVariables false
set_option linter.unusedSimpArgs false
namespace Go.Proofs.YtgkljcmjnphpeaaGreatDoor
open Go.RowKit
namespace Fo
/-- Each text tells its value. -/
def AllTell : List (List Nat) → List (VT 12) → Prop
  | [], [] => True
  | x :: l, V :: Vs => Tells x V ∧ AllTell l Vs
  | _, _ => False
theorem AllTell.len : ∀ {l : List (List Nat)} {Vs : List (VT 12)}, AllTell l Vs → l.length = Vs.length
  | [], [], _ => rfl
  | x :: l, V :: Vs, h => by simp [AllTell.len h.2]
  | [], _ :: _, h => h.elim
  | _ :: _, [], h => h.elim
theorem objText_head (G x : List Nat) (i : Nat) (hi : i + 1 < 10 ^ 19) (r : List Nat) : ∃ b t, objText G x i ++ r = b :: t ∧ 48 ≤ b ∧ b ≤ 57 := by
  obtain ⟨h1, h2⟩ := dig_is (i + 1)
  obtain ⟨b, s, hs⟩ := List.exists_cons_of_ne_nil h1
  have hb := h2 b (by rw [hs]; exact List.mem_cons_self ..)
  unfold objText
  rw [pln_dig 18 _ hi, hs]
  exact ⟨b, _, rfl, hb⟩
theorem skip_objs (G : List Nat) (i : Nat) (l : List (List Nat)) (hi : i + 1 < 10 ^ 19) (r : List Nat) : skip (objs G i l ++ ([120, 114, 101, 102] ++ r)) = objs G i l ++ ([120, 114, 101, 102] ++ r) := by
  cases l with
  | nil => exact skip_plain (by decide)
  | cons x l =>
    rw [objs, List.append_assoc]
    obtain ⟨b, t, e, hb⟩ := objText_head G x i hi (objs G (i + 1) l ++ ([120, 114, 101, 102] ++ r))
    rw [e]
    exact skip_plain (plain_dig hb)
theorem objects_text {G : List Nat} (hG : Gap G) (len : Nat) (r : List Nat) : ∀ (l : List (List Nat)) (Vs : List (VT 12)) (i f p : Nat), AllTell l Vs → i + l.length < 10 ^ 18 → l.length < f → len = p + (objs G i l ++ ([120, 114, 101, 102] ++ r)).length →
    objects len f i (objs G i l ++ ([120, 114, 101, 102] ++ r)) = some ((Vs.map fun V => (V, []), places G i l p), [120, 114, 101, 102] ++ r)
  | [], [], i, f + 1, p, _, _, _, _ => rfl
  | x :: l, V :: Vs, i, f + 1, p, h, hi, hf, hlen => by
    have hi19 : i + 1 < 10 ^ 19 := by simp only [List.length_cons] at hi; omega
    have ih := objects_text hG len r l Vs (i + 1) f (p + (objText G x i).length) h.2 (by simp only [List.length_cons] at hi; omega) (by simp only [List.length_cons] at hf; omega) (by rw [hlen, objs, List.append_assoc, List.length_append]; omega)
    rw [objects]
    obtain ⟨b, t, e, hb⟩ := objText_head G x i hi19 (objs G (i + 1) l ++ ([120, 114, 101, 102] ++ r))
    have hne : ¬ ([120, 114, 101, 102] : List Nat).isPrefixOf (objs G i (x :: l) ++ ([120, 114, 101, 102] ++ r)) = true := by
      rw [objs, List.append_assoc, e]
      have : (120 : Nat) ≠ b := by omega
      simp [List.isPrefixOf, this]
    rw [if_neg hne]
    have ho := object_text hG hi19 h.1 (objs G (i + 1) l ++ ([120, 114, 101, 102] ++ r))
    have ha : objs G i (x :: l) ++ ([120, 114, 101, 102] ++ r) = objText G x i ++ (objs G (i + 1) l ++ ([120, 114, 101, 102] ++ r)) := by rw [objs, List.append_assoc]
    rw [ha] at hlen ⊢
    rw [ho]
    simp only []
    rw [skip_of_white (by rfl), hG.skip, skip_objs G (i + 1) l (by simp only [List.length_cons] at hi; omega) r, ih]
    have hp : len - (objText G x i ++ (objs G (i + 1) l ++ ([120, 114, 101, 102] ++ r))).length = p := by omega
    rw [hp]
    rfl
  | x :: l, V :: Vs, i, 0, p, _, _, hf, _ => by omega
  | [], [], i, 0, p, _, _, hf, _ => by simp at hf
  | [], _ :: _, _, _, _, h, _, _, _ => h.elim
  | _ :: _, [], _, _, _, h, _, _, _ => h.elim
/-- No object's place is told wrong. -/
def Fair (off k : Int) (i n : Nat) : Prop := off = 0 ∨ ∀ j : Nat, i ≤ j → j < i + n → (j : Int) ≠ k
theorem atOf_fair {off k : Int} {i n p : Nat} (h : Fair off k i (n + 1)) : atOf off k i p = p := by
  unfold atOf
  split
  · rcases h with rfl | h
    · simp
    · next e => exact absurd e (h i (Nat.le_refl _) (by omega))
  · rfl
theorem line_right {p : Nat} (hp : p < 10 ^ 10) (r : List Nat) : tableLine (padded p ++ [32, 48, 48, 48, 48, 48, 32, 110]) (lineText p ++ r) = some r := by
  unfold tableLine lineText
  rw [num_padded p hp, show padded p ++ [32, 48, 48, 48, 48, 48, 32, 110, 32, 10] ++ r = (padded p ++ [32, 48, 48, 48, 48, 48, 32, 110]) ++ ([32, 10] ++ r) by simp, takes_app]
  simp only []
  rw [takes_app]; rfl
theorem lines_right {G : List Nat} {off k : Int} (r : List Nat) : ∀ (l : List (List Nat)) (i p : Nat), Fair off k i l.length → p + (objs G i l).length < 10 ^ 10 → tableLines (places G i l p) (lines G off k i l p ++ r) = some r
  | [], i, p, _, _ => rfl
  | x :: l, i, p, hF, hp => by
    rw [objs, List.length_append] at hp
    rw [places, lines, atOf_fair hF, List.append_assoc, tableLines, line_right (by omega)]
    refine lines_right r l (i + 1) _ ?_ (by omega)
    rcases hF with h | h
    · exact Or.inl h
    · exact Or.inr fun j h1 h2 => h j (by omega) (by simp only [List.length_cons]; omega)
theorem cross_head (n : Nat) (ps : List Nat) (hn : n + 1 < 10 ^ 19) (r : List Nat) : crossTable n ps (madeHead n ++ r) = tableLines ps r := by
  unfold crossTable madeHead
  rw [pln_dig 18 _ hn, show ([120, 114, 101, 102, 10, 48, 32] ++ (dig (n + 1) ++ [10, 48, 48, 48, 48, 48, 48, 48, 48, 48, 48, 32, 54, 53, 53, 51, 53, 32, 102, 13, 10])) ++ r = ([120, 114, 101, 102, 10, 48, 32] ++ dec (n + 1) ++ [10]) ++ (([48, 48, 48, 48, 48, 48, 48, 48, 48, 48, 32, 54, 53, 53, 51, 53, 32, 102] : List Nat) ++ ([13, 10] ++ r)) by rw [dec_dig]; simp, takes_app]
  simp only []
  unfold tableLine
  rw [takes_app]
  simp only []
  rw [takes_app]
  rfl
theorem NP.lit {b : Nat} {s r : List Nat} (h : plainB b = false) : NP ((b :: s) ++ r) := NP.cons h
theorem name_plain : ∀ {s r : List Nat}, (∀ b ∈ s, plainB b = true ∧ 33 ≤ b ∧ b ≤ 126 ∧ b ≠ 35) → NP r → name (s ++ r) = some (s, r)
  | [], r, _, hr => by
    cases r with
    | nil => rfl
    | cons b t =>
      show nameS 0 0 (b :: t) = _
      rw [nameS, if_pos (hr b t rfl)]
  | b :: s, r, hs, hr => by
    obtain ⟨h1, h2, h3, h4⟩ := hs b (List.mem_cons_self ..)
    have ih : nameS 0 0 (s ++ r) = some (s, r) := name_plain (fun x hx => hs x (List.mem_cons_of_mem _ hx)) hr
    show nameS 0 0 (b :: (s ++ r)) = _
    rw [nameS, if_neg (by rw [h1]; simp), if_neg (by omega), if_neg h4, ih]
    rfl
section
variable {α : Type} {f : List Nat → Option (α × List Nat)}
theorem dic_gap {G : List Nat} (hG : Gap G) (m : Nat) (r : List Nat) : dic f (m + 1) (G ++ r) = dic f (m + 1) r := by
  rw [dic, dic, hG.skip]
theorem dic_step {m : Nat} {r key q2 q3 : List Nat} {v : α} (hn : name r = some (key, q2)) (hv : f q2 = some (v, q3)) : dic f (m + 1) (47 :: r) = (dic f m q3).map fun x => ((key :: x.1.1, v :: x.1.2), x.2) := by
  rw [dic, skip_stop (by decide) (by decide), takes_ne (by decide)]
  simp only []
  rw [show takes [47] (47 :: r) = some r from takes_app [47] r]
  simp only []
  rw [hn]
  simp only []
  rw [hv]
theorem dic_end (m : Nat) (r : List Nat) : dic f (m + 1) (62 :: 62 :: r) = some (([], []), r) := by
  rw [dic, skip_stop (by decide) (by decide), show takes [62, 62] (62 :: 62 :: r) = some r from takes_app [62, 62] r]
end
theorem worded_num {α : Type} {s r : List Nat} {n : Int} (hs : Plain s) (hr : NP r) (hw : whole s = some n) : worded α (s ++ r) = match takesRef r with
    | some q => some (leafN α 9 n 0 [], q)
    | none => some (leafN α 2 n 0 [], r) := by
  unfold worded
  rw [(word_of hs hr).1, (word_of hs hr).2, hw]
  have h1 : s ≠ [110, 117, 108, 108] := by rintro rfl; cases hw
  have h2 : s ≠ [102, 97, 108, 115, 101] := by rintro rfl; cases hw
  have h3 : s ≠ [116, 114, 117, 101] := by rintro rfl; cases hw
  rw [if_neg h1, if_neg h2, if_neg h3]
  rfl
/-- A number, then 0 and R: an object is meant. -/
theorem value_ref {k : Nat} {s r q : List Nat} {n : Int} (hs : Plain s) (hr : NP r) (hw : whole s = some n) (h : takesRef r = some q) : value (k + 1) (s ++ r) = some (leafN (VT k) 9 n 0 [], q) := by
  rw [value_word hs, worded_num hs hr hw, h]
theorem value_int {k : Nat} {s r : List Nat} {n : Int} (hs : Plain s) (hr : NP r) (hw : whole s = some n) (h : takesRef r = none) : value (k + 1) (s ++ r) = some (leafN (VT k) 2 n 0 [], r) := by
  rw [value_word hs, worded_num hs hr hw, h]
def trailV (n : Nat) : Node (VT 11) := ⟨7, 0, 0, [], [(leafN (VT 10) 9 1 0 [] : VT 11), (leafN (VT 10) 2 ((n + 1 : Nat) : Int) 0 [] : VT 11)], [[82, 111, 111, 116], [83, 105, 122, 101]], []⟩
theorem trailV_of (n : Nat) : trailerOf n (trailV n) = some 1 := by
  have h : trailerOf n (trailV n) = if ((n + 1 : Nat) : Int) = ((n + 1 : Nat) : Int) then some 1 else none := rfl
  rw [h, if_pos rfl]
/-- What stands behind the trailer's dictionary. -/
def afterTrail (G : List Nat) (at_ : Nat) : List Nat := G ++ ([115, 116, 97, 114, 116, 120, 114, 101, 102, 10] ++ (G ++ (dig at_ ++ [13, 10, 37, 37, 69, 79, 70])))
theorem trailer_text {G : List Nat} (hG : Gap G) (n at_ : Nat) (hn : n + 1 < 10 ^ 10) (ha : at_ < 10 ^ 19) : trailer n (madeTail G n at_) = some (1, afterTrail G at_) := by
  have key : ∀ t : List Nat, takes [60, 60] (skip ([60, 60] ++ t)) = some t := fun t => by rw [show skip ([60, 60] ++ t) = [60, 60] ++ t from skip_stop (by decide) (by decide), takes_app]
  unfold trailer madeTail
  rw [hG.takesWord, takesWord_word (s := [116, 114, 97, 105, 108, 101, 114]) (plainL (by simp) (by decide)) (hG.np _ (NP.lit (by decide)))]
  simp only []
  rw [hG.skip, show ([60, 60, 47, 82, 111, 111, 116, 32, 49, 32] : List Nat) = [60, 60] ++ [47, 82, 111, 111, 116, 32, 49, 32] from rfl, List.append_assoc, key]
  simp only []
  rw [pln_dig 18 _ (by omega), pln_dig 18 at_ ha]
  have hd : ∀ m, dic (value 11) (m + 3) ([47, 82, 111, 111, 116, 32, 49, 32] ++ (G ++ ([48, 32, 82] ++ (G ++ ([47, 83, 105, 122, 101, 32] ++ (dig (n + 1) ++ ([62, 62] ++ afterTrail G at_))))))) = some (([[82, 111, 111, 116], [83, 105, 122, 101]], [(leafN (VT 10) 9 1 0 [] : VT 11), (leafN (VT 10) 2 ((n + 1 : Nat) : Int) 0 [] : VT 11)]), afterTrail G at_) := by
    intro m
    have n1 : name ([82, 111, 111, 116] ++ (32 :: 49 :: 32 :: (G ++ ([48, 32, 82] ++ (G ++ ([47, 83, 105, 122, 101, 32] ++ (dig (n + 1) ++ ([62, 62] ++ afterTrail G at_)))))))) = some ([82, 111, 111, 116], _) := name_plain (by decide) (NP.cons (by decide))
    have hr : takesRef (32 :: (G ++ ([48, 32, 82] ++ (G ++ ([47, 83, 105, 122, 101, 32] ++ (dig (n + 1) ++ ([62, 62] ++ afterTrail G at_))))))) = some (G ++ ([47, 83, 105, 122, 101, 32] ++ (dig (n + 1) ++ ([62, 62] ++ afterTrail G at_)))) := by
      unfold takesRef
      rw [takesWord_white (by rfl), hG.takesWord, show ([48, 32, 82] : List Nat) ++ (G ++ ([47, 83, 105, 122, 101, 32] ++ (dig (n + 1) ++ ([62, 62] ++ afterTrail G at_)))) = [48] ++ (32 :: ([82] ++ (G ++ ([47, 83, 105, 122, 101, 32] ++ (dig (n + 1) ++ ([62, 62] ++ afterTrail G at_)))))) from rfl, takesWord_word (plainL (by simp) (by decide)) (NP.cons (by decide))]
      show takesWord [82] (32 :: _) = _
      rw [takesWord_white (by rfl), takesWord_word (plainL (by simp) (by decide)) (hG.np _ (NP.lit (by decide)))]
    have v1 : value 11 (32 :: 49 :: 32 :: (G ++ ([48, 32, 82] ++ (G ++ ([47, 83, 105, 122, 101, 32] ++ (dig (n + 1) ++ ([62, 62] ++ afterTrail G at_))))))) = some ((leafN (VT 10) 9 1 0 [] : VT 11), G ++ ([47, 83, 105, 122, 101, 32] ++ (dig (n + 1) ++ ([62, 62] ++ afterTrail G at_)))) := by
      have := (Gap.white (b := 32) rfl).value (k := 10) (49 :: 32 :: (G ++ ([48, 32, 82] ++ (G ++ ([47, 83, 105, 122, 101, 32] ++ (dig (n + 1) ++ ([62, 62] ++ afterTrail G at_)))))))
      rw [List.singleton_append] at this
      rw [this]
      exact value_ref (s := [49]) (plainL (by simp) (by decide)) (NP.cons (by decide)) rfl hr
    have n2 : name ([83, 105, 122, 101] ++ (32 :: (dig (n + 1) ++ ([62, 62] ++ afterTrail G at_)))) = some ([83, 105, 122, 101], _) := name_plain (by decide) (NP.cons (by decide))
    have v2 : value 11 (32 :: (dig (n + 1) ++ ([62, 62] ++ afterTrail G at_))) = some ((leafN (VT 10) 2 ((n + 1 : Nat) : Int) 0 [] : VT 11), [62, 62] ++ afterTrail G at_) := by
      have := (Gap.white (b := 32) rfl).value (k := 10) (dig (n + 1) ++ ([62, 62] ++ afterTrail G at_))
      rw [List.singleton_append] at this
      rw [this]
      exact value_int (dig_plain _) (NP.cons (by decide)) (whole_dig hn) (by unfold takesRef; rw [show ([62, 62] : List Nat) ++ afterTrail G at_ = 62 :: 62 :: afterTrail G at_ from rfl, takesWord_mark (by decide) (by decide) (by decide) (by simp)]; rfl)
    rw [show ([47, 82, 111, 111, 116, 32, 49, 32] : List Nat) ++ (G ++ ([48, 32, 82] ++ (G ++ ([47, 83, 105, 122, 101, 32] ++ (dig (n + 1) ++ ([62, 62] ++ afterTrail G at_)))))) = 47 :: ([82, 111, 111, 116] ++ (32 :: 49 :: 32 :: (G ++ ([48, 32, 82] ++ (G ++ ([47, 83, 105, 122, 101, 32] ++ (dig (n + 1) ++ ([62, 62] ++ afterTrail G at_)))))))) from rfl]
    rw [dic_step n1 v1, dic_gap hG (m + 1), show ([47, 83, 105, 122, 101, 32] : List Nat) ++ (dig (n + 1) ++ ([62, 62] ++ afterTrail G at_)) = 47 :: ([83, 105, 122, 101] ++ (32 :: (dig (n + 1) ++ ([62, 62] ++ afterTrail G at_)))) from rfl]
    rw [dic_step n2 v2, show ([62, 62] : List Nat) ++ afterTrail G at_ = 62 :: 62 :: afterTrail G at_ from rfl, dic_end]
    rfl
  obtain ⟨m, hm⟩ : ∃ m, ([47, 82, 111, 111, 116, 32, 49, 32] ++ (G ++ ([48, 32, 82] ++ (G ++ ([47, 83, 105, 122, 101, 32] ++ (dig (n + 1) ++ ([62, 62] ++ (G ++ ([115, 116, 97, 114, 116, 120, 114, 101, 102, 10] ++ (G ++ (dig at_ ++ [13, 10, 37, 37, 69, 79, 70]))))))))))).length + 1 = m + 3 := ⟨_, (Nat.sub_add_cancel (by simp only [List.length_append, List.length_cons]; omega)).symm⟩
  rw [hm, show G ++ ([115, 116, 97, 114, 116, 120, 114, 101, 102, 10] ++ (G ++ (dig at_ ++ [13, 10, 37, 37, 69, 79, 70]))) = afterTrail G at_ from rfl, hd m]
  show (trailerOf n (trailV n)).map _ = _
  rw [trailV_of]
  rfl
theorem end_text {G : List Nat} (hG : Gap G) (at_ : Nat) : atEnd at_ (afterTrail G at_) = some [] := by
  unfold atEnd afterTrail
  rw [hG.takesWord, show ([115, 116, 97, 114, 116, 120, 114, 101, 102, 10] : List Nat) ++ (G ++ (dig at_ ++ [13, 10, 37, 37, 69, 79, 70])) = [115, 116, 97, 114, 116, 120, 114, 101, 102] ++ (10 :: (G ++ (dig at_ ++ [13, 10, 37, 37, 69, 79, 70]))) from rfl, takesWord_word (plainL (by simp) (by decide)) (NP.cons (by decide))]
  simp only []
  rw [takesWord_white (by rfl), hG.takesWord, dec_dig, takesWord_word (dig_plain _) (NP.cons (by decide))]
  rfl
theorem made_eq (texts : List (List Nat)) (G : List Nat) (off k : Int) : made texts G off k = [37, 80, 68, 70, 45, 49, 46, 52, 10] ++ (G ++ (objs G 0 texts ++ (madeHead texts.length ++ (lines G off k 0 texts (9 + G.length) ++ madeTail G texts.length (9 + G.length + (objs G 0 texts).length))))) := by
  unfold made madeOf
  rw [madeGo_eq]
  have h9 : ([37, 80, 68, 70, 45, 49, 46, 52, 10] ++ G).length = 9 + G.length := by rw [List.length_append]; rfl
  have h8 : ([37, 80, 68, 70, 45, 49, 46, 52, 10] ++ G ++ objs G 0 texts).length = 9 + G.length + (objs G 0 texts).length := by rw [List.length_append, h9]
  rw [h9, h8]
  simp only [List.append_assoc]
theorem document_go {texts : List (List Nat)} {Vs : List (VT 12)} {G : List Nat} {off k : Int} (hG : Gap G) (hT : AllTell texts Vs) (hn : texts.length ≤ 100) :
    document (made texts G off k) = match tableLines (places G 0 texts (9 + G.length)) (lines G off k 0 texts (9 + G.length) ++ madeTail G texts.length (9 + G.length + (objs G 0 texts).length)) with
      | none => none
      | some q2 => match trailer texts.length q2 with
        | none => none
        | some y => match atEnd (9 + G.length + (objs G 0 texts).length) y.2 with
          | none => none
          | some _ => some (Vs.map fun V => (V, []), y.1) := by
  have hl := hT.len
  obtain ⟨rest, hrest⟩ : ∃ rest, madeHead texts.length ++ (lines G off k 0 texts (9 + G.length) ++ madeTail G texts.length (9 + G.length + (objs G 0 texts).length)) = [120, 114, 101, 102] ++ rest := ⟨_, rfl⟩
  have hd : (made texts G off k).length = 9 + G.length + (objs G 0 texts ++ ([120, 114, 101, 102] ++ rest)).length := by
    rw [made_eq, hrest, List.length_append, List.length_append]
    simp only [List.length_cons, List.length_nil]
    omega
  have ho := objects_text hG (made texts G off k).length rest texts Vs 0 ((G ++ (objs G 0 texts ++ ([120, 114, 101, 102] ++ rest))).length + 2) (9 + G.length) hT (by omega) (by
    have : ∀ (l : List (List Nat)) (i : Nat), l.length ≤ (objs G i l).length := by
      intro l
      induction l with
      | nil => intro i; exact Nat.zero_le _
      | cons x l ih =>
        intro i
        have := ih (i + 1)
        rw [objs, List.length_append]
        have h1 : 1 ≤ (objText G x i).length := by unfold objText; simp only [List.length_append, List.length_cons]; omega
        simp only [List.length_cons]; omega
    have := this texts 0
    simp only [List.length_append]
    omega) hd
  unfold document
  rw [made_eq, hrest, takes_app]
  simp only []
  rw [hG.skip, skip_objs G 0 texts (by decide), ← hrest, ← made_eq, hrest, ho]
  simp only []
  rw [List.length_map, ← hl, ← hrest, cross_head _ _ (by omega)]
  have hz : (made texts G off k).length - (madeHead texts.length ++ (lines G off k 0 texts (9 + G.length) ++ madeTail G texts.length (9 + G.length + (objs G 0 texts).length))).length = 9 + G.length + (objs G 0 texts).length := by
    rw [hd, hrest, List.length_append]
    omega
  rw [hz]
  rfl
/-- A file that is put together rightly means its values. -/
theorem document_made {texts : List (List Nat)} {Vs : List (VT 12)} {G : List Nat} {off k : Int} (hG : Gap G) (hT : AllTell texts Vs) (hn : texts.length ≤ 100) (hF : Fair off k 0 texts.length) (hlen : (objs G 0 texts).length + G.length ≤ 200000) :
    document (made texts G off k) = some (Vs.map fun V => (V, []), 1) := by
  rw [document_go hG hT hn, lines_right _ texts 0 _ hF (by omega)]
  simp only []
  rw [trailer_text hG _ _ (by omega) (by omega)]
  simp only []
  rw [end_text hG]
end Fo
end Go.Proofs.YtgkljcmjnphpeaaGreatDoor
namespace Go.Proofs.YtgkljcmjnphpeaaGreatDoor
open Go.RowKit
variable {w w' : World}
namespace Fo
def octalD (c : Nat) : List Nat := [92, 48 + c / 64, 48 + c / 8 % 8, 48 + c % 8]
def hexGreat (a : Nat) : Nat := if a < 10 then 48 + a else 55 + a
def hexSmall (a : Nat) : Nat := if a < 10 then 48 + a else 87 + a
def hexD (c : Nat) (great : Bool) : List Nat := if great = true then [hexGreat (c / 16), hexGreat (c % 16)] else [hexSmall (c / 16), hexSmall (c % 16)]
end Fo
theorem convL (W : World) (b : Nat) (l : List Nat) (h : W.heap[b]? = some (.cells ((l.map fun x : Nat => Value.int .u8 (x : Int)).toArray) 5 (0, 0))) : (convert 23 9 (.slice (some ⟨b, 0, none⟩) l.length l.length)).run Tryz.prog W = .ok (.string (strN l)) W := by
  refine string_cells ⟨b, 0, none⟩ l.length l (fun j hj => ?_)
  rw [addr_add, cell_blk h]
  simp [List.getElem?_eq_getElem hj, nth]
set_option maxRecDepth 100000 in
set_option maxHeartbeats 2000000 in
theorem octal_ok (c : Nat) (hc : c < 256) (w : World) : Calls Tryz.prog 30 #[.int .u8 (c : Int)] w fun e w' => e = .returned (.string (strN (Fo.octalD c))) ∧ Below w.heap.size w w' := by
  have h1 : (c : Int).tdiv 64 = ((c / 64 : Nat) : Int) := by rw [Int.tdiv_eq_ediv_of_nonneg (by omega)]; omega
  have h2 : (c : Int).tdiv 8 = ((c / 8 : Nat) : Int) := by rw [Int.tdiv_eq_ediv_of_nonneg (by omega)]; omega
  have h3 : ((c / 8 : Nat) : Int).tmod 8 = ((c / 8 % 8 : Nat) : Int) := by rw [Int.tmod_eq_emod_of_nonneg (by omega)]; omega
  have h4 : (c : Int).tmod 8 = ((c % 8 : Nat) : Int) := by rw [Int.tmod_eq_emod_of_nonneg (by omega)]; omega
  have g1 : IntKind.u8.wrap ((c / 64 : Nat) : Int) = ((c / 64 : Nat) : Int) := by rw [IntKind.wrap_u8]; omega
  have g2 : IntKind.u8.wrap ((c / 8 : Nat) : Int) = ((c / 8 : Nat) : Int) := by rw [IntKind.wrap_u8]; omega
  have g3 : IntKind.u8.wrap ((c / 8 % 8 : Nat) : Int) = ((c / 8 % 8 : Nat) : Int) := by rw [IntKind.wrap_u8]; omega
  have g4 : IntKind.u8.wrap ((c % 8 : Nat) : Int) = ((c % 8 : Nat) : Int) := by rw [IntKind.wrap_u8]; omega
  obtain ⟨a, ha⟩ : ∃ a, 48 + c / 64 = a := ⟨_, rfl⟩
  obtain ⟨b, hb⟩ : ∃ b, 48 + c / 8 % 8 = b := ⟨_, rfl⟩
  obtain ⟨d, hd⟩ : ∃ d, 48 + c % 8 = d := ⟨_, rfl⟩
  have k1 : IntKind.u8.wrap (48 + ((c / 64 : Nat) : Int)) = (a : Int) := by rw [IntKind.wrap_u8]; omega
  have k2 : IntKind.u8.wrap (48 + ((c / 8 % 8 : Nat) : Int)) = (b : Int) := by rw [IntKind.wrap_u8]; omega
  have k3 : IntKind.u8.wrap (48 + ((c % 8 : Nat) : Int)) = (d : Int) := by rw [IntKind.wrap_u8]; omega
  have hres : Hid (strN [92] ++ strN [a, b, d] = strN (Fo.octalD c)) := by unfold Hid Fo.octalD; rw [strN_append, ha, hb, hd]; rfl
  have hcv := convL (w.alloc (.cells #[.int .u8 (a : Int), .int .u8 (b : Int), .int .u8 (d : Int)] 5)) w.heap.size [a, b, d] (blk_new w _)
  have hB := (Below.refl w.heap.size w).alloc (Nat.le_refl _) (.cells #[.int .u8 (a : Int), .int .u8 (b : Int), .int .u8 (d : Int)] 5)
  have HB := hide hB
  rw [show ([a, b, d] : List Nat).length = 3 from rfl] at hcv
  have hsz : (strN [a, b, d]).size = 3 := rfl
  rw [show strN [92] = { data := #[92] } from rfl] at hres
  generalize strN [a, b, d] = E at *
  generalize strN (Fo.octalD c) = RES at *
  generalize c / 64 = c1 at *
  generalize c / 8 % 8 = c3 at *
  generalize c / 8 = c2 at *
  generalize c % 8 = c4 at *
  clear hB ha hb hd
  go_enter Tryz.func30, Tryz.ntmps30
  go_wp2
  go_ret
  exact ⟨by rw [← hres.out]; rfl, HB.out⟩
theorem hex_great_at : ∀ i : Nat, (h : i < 16) → (({ data := #[48, 49, 50, 51, 52, 53, 54, 55, 56, 57, 65, 66, 67, 68, 69, 70] } : ByteArray)[i]'h).toNat = Fo.hexGreat i := by
  intro i h
  have : ∀ i : Fin 16, (({ data := #[48, 49, 50, 51, 52, 53, 54, 55, 56, 57, 65, 66, 67, 68, 69, 70] } : ByteArray)[i.val]'i.isLt).toNat = Fo.hexGreat i.val := by decide
  exact this ⟨i, h⟩
set_option maxRecDepth 100000 in
set_option maxHeartbeats 2000000 in
theorem hex_great (c : Nat) (hc : c < 256) (w : World) : Calls Tryz.prog 31 #[.int .u8 (c : Int), .bool true] w fun e w' => e = .returned (.string (strN (Fo.hexD c true))) ∧ Below w.heap.size w w' := by
  have h1 : (c : Int).tdiv 16 = ((c / 16 : Nat) : Int) := by rw [Int.tdiv_eq_ediv_of_nonneg (by omega)]; omega
  have h4 : (c : Int).tmod 16 = ((c % 16 : Nat) : Int) := by rw [Int.tmod_eq_emod_of_nonneg (by omega)]; omega
  have g1 : IntKind.u8.wrap ((c / 16 : Nat) : Int) = ((c / 16 : Nat) : Int) := by rw [IntKind.wrap_u8]; omega
  have g4 : IntKind.u8.wrap ((c % 16 : Nat) : Int) = ((c % 16 : Nat) : Int) := by rw [IntKind.wrap_u8]; omega
  have l1 : c / 16 < 16 := by omega
  have l2 : c % 16 < 16 := by omega
  have hres : Hid (strN [Fo.hexGreat (c / 16), Fo.hexGreat (c % 16)] = strN (Fo.hexD c true)) := rfl
  generalize strN (Fo.hexD c true) = RES at *
  generalize c / 16 = c1 at *
  generalize c % 16 = c4 at *
  have HA := hide (hex_great_at c1 l1)
  have HA4 := hide (hex_great_at c4 l2)
  have hcv := convL (w.drew.alloc (.cells #[.int .u8 (Fo.hexGreat c1 : Int), .int .u8 (Fo.hexGreat c4 : Int)] 5)) w.heap.size [Fo.hexGreat c1, Fo.hexGreat c4] (blk_new w.drew _)
  rw [show ([Fo.hexGreat c1, Fo.hexGreat c4] : List Nat).length = 2 from rfl] at hcv
  have HB : Hid (Below w.heap.size w (w.drew.alloc (.cells #[.int .u8 (Fo.hexGreat c1 : Int), .int .u8 (Fo.hexGreat c4 : Int)] 5))) := (Below.refl _ _).drew.alloc (Nat.le_refl _) _
  generalize strN [Fo.hexGreat c1, Fo.hexGreat c4] = E at *
  generalize Fo.hexGreat c1 = x1 at *
  generalize Fo.hexGreat c4 = x4 at *
  have hcv2 : (convert 23 9 (.slice (some ⟨w.heap.size, 0, none⟩) 2 2)).run Tryz.prog (w.alloc (.cells #[.int .u8 (x1 : Int), .int .u8 (x4 : Int)] 5)).drew = .ok (.string E) (w.alloc (.cells #[.int .u8 (x1 : Int), .int .u8 (x4 : Int)] 5)).drew := hcv
  go_enter Tryz.func31, Tryz.ntmps31
  go_wp2_with fail
  refine wp_region_T (fun _ _ => True) (by kernel_rfl) ?_
  intro hD
  have hS := hide (show True from trivial)
  refine wpAnyT_take (i := 0) (v := ?_) rfl (by kernel_rfl) (by kernel_rfl) (by kernel_rfl) (fun _ _ _ h => h) (fun _ _ h => h) (fun _ _ h => h) hD (Or.inl ⟨by rfl, ?_⟩) hS ?_
  rotate_left
  · intro W hW; go_simp; try (with_reducible rfl)
  clear hD hS; intro hD hS; (try simp only [Act.put, List.setIfInBounds_toArray, List.set_cons_zero, List.set_cons_succ, List.getElem_toArray, List.getElem_cons_succ, List.getElem_cons_zero])
  refine wpAnyT_take (i := 1) (v := ?_) rfl (by kernel_rfl) (by kernel_rfl) (by kernel_rfl) (fun _ _ _ h => h) (fun _ _ h => h) (fun _ _ h => h) hD (Or.inl ⟨by rfl, ?_⟩) hS ?_
  rotate_left
  · intro W hW; go_simp; try (with_reducible rfl)
  clear hD hS; intro hD hS; (try simp only [Act.put, List.setIfInBounds_toArray, List.set_cons_zero, List.set_cons_succ, List.getElem_toArray, List.getElem_cons_succ, List.getElem_cons_zero])
  refine wpAnyT_take (i := 2) (v := ?_) rfl (by kernel_rfl) (by kernel_rfl) (by kernel_rfl) (fun _ _ _ h => h) (fun _ _ h => h) (fun _ _ h => h) hD (Or.inl ⟨by rfl, ?_⟩) hS ?_
  rotate_left
  · intro W hW; go_simp; try (with_reducible rfl)
  clear hD hS; intro hD hS; (try simp only [Act.put, List.setIfInBounds_toArray, List.set_cons_zero, List.set_cons_succ, List.getElem_toArray, List.getElem_cons_succ, List.getElem_cons_zero])
  refine wpAnyT_take (i := 3) (v := .int .u8 (x1 : Int)) rfl (by kernel_rfl) (by kernel_rfl) (by kernel_rfl) (fun _ _ _ h => h) (fun _ _ h => h) (fun _ _ h => h) hD (Or.inl ⟨by rfl, ?_⟩) hS ?_
  · intro W hW; go_simp; rw [dif_pos (by omega)]; simp only [Result.andThen]; rw [HA.out]
  clear hD hS; intro hD hS; (try simp only [Act.put, List.setIfInBounds_toArray, List.set_cons_zero, List.set_cons_succ, List.getElem_toArray, List.getElem_cons_succ, List.getElem_cons_zero])
  refine wpAnyT_take (i := 4) (v := ?_) rfl (by kernel_rfl) (by kernel_rfl) (by kernel_rfl) (fun _ _ _ h => h) (fun _ _ h => h) (fun _ _ h => h) hD (Or.inl ⟨by rfl, ?_⟩) hS ?_
  rotate_left
  · intro W hW; go_simp; try (with_reducible rfl)
  clear hD hS; intro hD hS; (try simp only [Act.put, List.setIfInBounds_toArray, List.set_cons_zero, List.set_cons_succ, List.getElem_toArray, List.getElem_cons_succ, List.getElem_cons_zero])
  refine wpAnyT_take (i := 5) (v := ?_) rfl (by kernel_rfl) (by kernel_rfl) (by kernel_rfl) (fun _ _ _ h => h) (fun _ _ h => h) (fun _ _ h => h) hD (Or.inl ⟨by rfl, ?_⟩) hS ?_
  rotate_left
  · intro W hW; go_simp; try (with_reducible rfl)
  clear hD hS; intro hD hS; (try simp only [Act.put, List.setIfInBounds_toArray, List.set_cons_zero, List.set_cons_succ, List.getElem_toArray, List.getElem_cons_succ, List.getElem_cons_zero])
  refine wpAnyT_take (i := 6) (v := ?_) rfl (by kernel_rfl) (by kernel_rfl) (by kernel_rfl) (fun _ _ _ h => h) (fun _ _ h => h) (fun _ _ h => h) hD (Or.inl ⟨by rfl, ?_⟩) hS ?_
  rotate_left
  · intro W hW; go_simp; try (with_reducible rfl)
  clear hD hS; intro hD hS; (try simp only [Act.put, List.setIfInBounds_toArray, List.set_cons_zero, List.set_cons_succ, List.getElem_toArray, List.getElem_cons_succ, List.getElem_cons_zero])
  refine wpAnyT_take (i := 7) (v := .int .u8 (x4 : Int)) rfl (by kernel_rfl) (by kernel_rfl) (by kernel_rfl) (fun _ _ _ h => h) (fun _ _ h => h) (fun _ _ h => h) hD (Or.inl ⟨by rfl, ?_⟩) hS ?_
  · intro W hW; go_simp; rw [dif_pos (by omega)]; simp only [Result.andThen]; rw [HA4.out]
  clear hD hS; intro hD hS; (try simp only [Act.put, List.setIfInBounds_toArray, List.set_cons_zero, List.set_cons_succ, List.getElem_toArray, List.getElem_cons_succ, List.getElem_cons_zero])
  refine wpAnyT_one (i := 8) (by kernel_rfl) rfl hD (fun K' hK => ?_)
  go_simp
  refine hK.out _ _ trivial (fun hD2 hS2 => ?_)
  clear hD hS hK K'
  have hD := hD2
  have hS := hS2
  clear hD2 hS2
  (try simp only [Act.put, List.setIfInBounds_toArray, List.set_cons_zero, List.set_cons_succ, List.getElem_toArray, List.getElem_cons_succ, List.getElem_cons_zero])
  refine wpAnyT_one (i := 9) (by kernel_rfl) rfl hD (fun K' hK => ?_)
  go_simp
  refine hK.out _ _ trivial (fun hD2 hS2 => ?_)
  clear hD hS hK K'
  have hD := hD2
  have hS := hS2
  clear hD2 hS2
  (try simp only [Act.put, List.setIfInBounds_toArray, List.set_cons_zero, List.set_cons_succ, List.getElem_toArray, List.getElem_cons_succ, List.getElem_cons_zero])
  refine wpAnyT_one (i := 10) (by kernel_rfl) rfl hD (fun K' hK => ?_)
  go_simp
  refine hK.out _ _ trivial (fun hD2 hS2 => ?_)
  clear hD hS hK K'
  have hD := hD2
  have hS := hS2
  clear hD2 hS2
  (try simp only [Act.put, List.setIfInBounds_toArray, List.set_cons_zero, List.set_cons_succ, List.getElem_toArray, List.getElem_cons_succ, List.getElem_cons_zero])
  refine wpAnyT_done (by kernel_rfl) ?_ _
  clear hD hS
  go_wp2
  go_ret
  exact ⟨by rw [← hres.out]; rfl, HB.out⟩
theorem hex_small_at : ∀ i : Nat, (h : i < 16) → (({ data := #[48, 49, 50, 51, 52, 53, 54, 55, 56, 57, 97, 98, 99, 100, 101, 102] } : ByteArray)[i]'h).toNat = Fo.hexSmall i := by
  intro i h
  have : ∀ i : Fin 16, (({ data := #[48, 49, 50, 51, 52, 53, 54, 55, 56, 57, 97, 98, 99, 100, 101, 102] } : ByteArray)[i.val]'i.isLt).toNat = Fo.hexSmall i.val := by decide
  exact this ⟨i, h⟩
set_option maxRecDepth 100000 in
set_option maxHeartbeats 2000000 in
theorem hex_small (c : Nat) (hc : c < 256) (w : World) : Calls Tryz.prog 31 #[.int .u8 (c : Int), .bool false] w fun e w' => e = .returned (.string (strN (Fo.hexD c false))) ∧ Below w.heap.size w w' := by
  have h1 : (c : Int).tdiv 16 = ((c / 16 : Nat) : Int) := by rw [Int.tdiv_eq_ediv_of_nonneg (by omega)]; omega
  have h4 : (c : Int).tmod 16 = ((c % 16 : Nat) : Int) := by rw [Int.tmod_eq_emod_of_nonneg (by omega)]; omega
  have g1 : IntKind.u8.wrap ((c / 16 : Nat) : Int) = ((c / 16 : Nat) : Int) := by rw [IntKind.wrap_u8]; omega
  have g4 : IntKind.u8.wrap ((c % 16 : Nat) : Int) = ((c % 16 : Nat) : Int) := by rw [IntKind.wrap_u8]; omega
  have l1 : c / 16 < 16 := by omega
  have l2 : c % 16 < 16 := by omega
  have hres : Hid (strN [Fo.hexSmall (c / 16), Fo.hexSmall (c % 16)] = strN (Fo.hexD c false)) := rfl
  generalize strN (Fo.hexD c false) = RES at *
  generalize c / 16 = c1 at *
  generalize c % 16 = c4 at *
  have HA := hide (hex_small_at c1 l1)
  have HA4 := hide (hex_small_at c4 l2)
  have hcv := convL (w.drew.alloc (.cells #[.int .u8 (Fo.hexSmall c1 : Int), .int .u8 (Fo.hexSmall c4 : Int)] 5)) w.heap.size [Fo.hexSmall c1, Fo.hexSmall c4] (blk_new w.drew _)
  rw [show ([Fo.hexSmall c1, Fo.hexSmall c4] : List Nat).length = 2 from rfl] at hcv
  have HB : Hid (Below w.heap.size w (w.drew.alloc (.cells #[.int .u8 (Fo.hexSmall c1 : Int), .int .u8 (Fo.hexSmall c4 : Int)] 5))) := (Below.refl _ _).drew.alloc (Nat.le_refl _) _
  generalize strN [Fo.hexSmall c1, Fo.hexSmall c4] = E at *
  generalize Fo.hexSmall c1 = x1 at *
  generalize Fo.hexSmall c4 = x4 at *
  have hcv2 : (convert 23 9 (.slice (some ⟨w.heap.size, 0, none⟩) 2 2)).run Tryz.prog (w.alloc (.cells #[.int .u8 (x1 : Int), .int .u8 (x4 : Int)] 5)).drew = .ok (.string E) (w.alloc (.cells #[.int .u8 (x1 : Int), .int .u8 (x4 : Int)] 5)).drew := hcv
  go_enter Tryz.func31, Tryz.ntmps31
  go_wp2_with fail
  refine wp_region_T (fun _ _ => True) (by kernel_rfl) ?_
  intro hD
  have hS := hide (show True from trivial)
  refine wpAnyT_take (i := 0) (v := ?_) rfl (by kernel_rfl) (by kernel_rfl) (by kernel_rfl) (fun _ _ _ h => h) (fun _ _ h => h) (fun _ _ h => h) hD (Or.inl ⟨by rfl, ?_⟩) hS ?_
  rotate_left
  · intro W hW; go_simp; try (with_reducible rfl)
  clear hD hS; intro hD hS; (try simp only [Act.put, List.setIfInBounds_toArray, List.set_cons_zero, List.set_cons_succ, List.getElem_toArray, List.getElem_cons_succ, List.getElem_cons_zero])
  refine wpAnyT_take (i := 1) (v := ?_) rfl (by kernel_rfl) (by kernel_rfl) (by kernel_rfl) (fun _ _ _ h => h) (fun _ _ h => h) (fun _ _ h => h) hD (Or.inl ⟨by rfl, ?_⟩) hS ?_
  rotate_left
  · intro W hW; go_simp; try (with_reducible rfl)
  clear hD hS; intro hD hS; (try simp only [Act.put, List.setIfInBounds_toArray, List.set_cons_zero, List.set_cons_succ, List.getElem_toArray, List.getElem_cons_succ, List.getElem_cons_zero])
  refine wpAnyT_take (i := 2) (v := ?_) rfl (by kernel_rfl) (by kernel_rfl) (by kernel_rfl) (fun _ _ _ h => h) (fun _ _ h => h) (fun _ _ h => h) hD (Or.inl ⟨by rfl, ?_⟩) hS ?_
  rotate_left
  · intro W hW; go_simp; try (with_reducible rfl)
  clear hD hS; intro hD hS; (try simp only [Act.put, List.setIfInBounds_toArray, List.set_cons_zero, List.set_cons_succ, List.getElem_toArray, List.getElem_cons_succ, List.getElem_cons_zero])
  refine wpAnyT_take (i := 3) (v := .int .u8 (x1 : Int)) rfl (by kernel_rfl) (by kernel_rfl) (by kernel_rfl) (fun _ _ _ h => h) (fun _ _ h => h) (fun _ _ h => h) hD (Or.inl ⟨by rfl, ?_⟩) hS ?_
  · intro W hW; go_simp; rw [dif_pos (by omega)]; simp only [Result.andThen]; rw [HA.out]
  clear hD hS; intro hD hS; (try simp only [Act.put, List.setIfInBounds_toArray, List.set_cons_zero, List.set_cons_succ, List.getElem_toArray, List.getElem_cons_succ, List.getElem_cons_zero])
  refine wpAnyT_take (i := 4) (v := ?_) rfl (by kernel_rfl) (by kernel_rfl) (by kernel_rfl) (fun _ _ _ h => h) (fun _ _ h => h) (fun _ _ h => h) hD (Or.inl ⟨by rfl, ?_⟩) hS ?_
  rotate_left
  · intro W hW; go_simp; try (with_reducible rfl)
  clear hD hS; intro hD hS; (try simp only [Act.put, List.setIfInBounds_toArray, List.set_cons_zero, List.set_cons_succ, List.getElem_toArray, List.getElem_cons_succ, List.getElem_cons_zero])
  refine wpAnyT_take (i := 5) (v := ?_) rfl (by kernel_rfl) (by kernel_rfl) (by kernel_rfl) (fun _ _ _ h => h) (fun _ _ h => h) (fun _ _ h => h) hD (Or.inl ⟨by rfl, ?_⟩) hS ?_
  rotate_left
  · intro W hW; go_simp; try (with_reducible rfl)
  clear hD hS; intro hD hS; (try simp only [Act.put, List.setIfInBounds_toArray, List.set_cons_zero, List.set_cons_succ, List.getElem_toArray, List.getElem_cons_succ, List.getElem_cons_zero])
  refine wpAnyT_take (i := 6) (v := ?_) rfl (by kernel_rfl) (by kernel_rfl) (by kernel_rfl) (fun _ _ _ h => h) (fun _ _ h => h) (fun _ _ h => h) hD (Or.inl ⟨by rfl, ?_⟩) hS ?_
  rotate_left
  · intro W hW; go_simp; try (with_reducible rfl)
  clear hD hS; intro hD hS; (try simp only [Act.put, List.setIfInBounds_toArray, List.set_cons_zero, List.set_cons_succ, List.getElem_toArray, List.getElem_cons_succ, List.getElem_cons_zero])
  refine wpAnyT_take (i := 7) (v := .int .u8 (x4 : Int)) rfl (by kernel_rfl) (by kernel_rfl) (by kernel_rfl) (fun _ _ _ h => h) (fun _ _ h => h) (fun _ _ h => h) hD (Or.inl ⟨by rfl, ?_⟩) hS ?_
  · intro W hW; go_simp; rw [dif_pos (by omega)]; simp only [Result.andThen]; rw [HA4.out]
  clear hD hS; intro hD hS; (try simp only [Act.put, List.setIfInBounds_toArray, List.set_cons_zero, List.set_cons_succ, List.getElem_toArray, List.getElem_cons_succ, List.getElem_cons_zero])
  refine wpAnyT_one (i := 8) (by kernel_rfl) rfl hD (fun K' hK => ?_)
  go_simp
  refine hK.out _ _ trivial (fun hD2 hS2 => ?_)
  clear hD hS hK K'
  have hD := hD2
  have hS := hS2
  clear hD2 hS2
  (try simp only [Act.put, List.setIfInBounds_toArray, List.set_cons_zero, List.set_cons_succ, List.getElem_toArray, List.getElem_cons_succ, List.getElem_cons_zero])
  refine wpAnyT_one (i := 9) (by kernel_rfl) rfl hD (fun K' hK => ?_)
  go_simp
  refine hK.out _ _ trivial (fun hD2 hS2 => ?_)
  clear hD hS hK K'
  have hD := hD2
  have hS := hS2
  clear hD2 hS2
  (try simp only [Act.put, List.setIfInBounds_toArray, List.set_cons_zero, List.set_cons_succ, List.getElem_toArray, List.getElem_cons_succ, List.getElem_cons_zero])
  refine wpAnyT_one (i := 10) (by kernel_rfl) rfl hD (fun K' hK => ?_)
  go_simp
  refine hK.out _ _ trivial (fun hD2 hS2 => ?_)
  clear hD hS hK K'
  have hD := hD2
  have hS := hS2
  clear hD2 hS2
  (try simp only [Act.put, List.setIfInBounds_toArray, List.set_cons_zero, List.set_cons_succ, List.getElem_toArray, List.getElem_cons_succ, List.getElem_cons_zero])
  refine wpAnyT_done (by kernel_rfl) ?_ _
  clear hD hS
  go_wp2
  go_ret
  exact ⟨by rw [← hres.out]; rfl, HB.out⟩
end Go.Proofs.YtgkljcmjnphpeaaGreatDoor
