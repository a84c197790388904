/- The document's answer: filter 4: a block of symbols, as a whole. -/
import Derived.Test.YtgkljcmjnphpeaaGreatDoorK17
import Derived.Test.YtgkljcmjnphpeaaGreatDoorK04
set_option linter.unusedVariables false
set_option linter.unusedSimpArgs false
namespace Go.Proofs.YtgkljcmjnphpeaaGreatDoor
open Go.RowKit
variable {B b : Nat} {S : ByteArray} {most : Nat} {w : World} {p : Nat} {ov : Value} {out : List Nat} {e : Nat}
/-- Where something is wrong already, nothing is copied. -/
theorem copies_err (h : RIn B b S most w p ov out e) (he : e ≠ 0) (n far window : Nat) (hn : n ≤ 100000) (hf : far ≤ 1000000) (hw : window ≤ 32768) :
    Calls Tryz.prog 274 #[.pointer (some ⟨b, 0, none⟩), .int .i64 n, .int .i64 far, .int .i64 window] w fun x w' => x = .returned (.tuple #[]) ∧ RIn B b S most w' p ov out e ∧ Kept 5 B [b] w w' := by
  have c2 := h.c2
  have c4 := h.c4
  have lm := h.lm
  have lo := h.lo
  obtain ⟨ao, oc, hov⟩ := own_slice h.own
  rw [hov] at c2
  clear hov
  have he' : ((e : Int) == 0) = false := by simp; omega
  have HNO := hide (rno_ok h 5 (by omega))
  rw [rno_err he] at HNO
  have tail : ∀ W : World, RIn B b S most W p ov out e → Kept 5 B [b] w W → RIn B b S most W p ov out e ∧ Kept 5 B [b] w W := fun W a b => ⟨a, b⟩
  by_cases c1 : out.length < far
  · have c1' : (out.length : Int) < far := by omega
    go_enter Tryz.func274, Tryz.ntmps274
    go_wp2_with fail
    refine HNO.out.mono ?_
    rintro x w1 ⟨rfl, r1, k1⟩
    have d4 := r1.c4
    go_wp2
    go_loopw [8] (fun i wr => i = .int .i64 0 ∧ wr = w1) (fun _ _ => 0)
    case atStart => exact ⟨rfl, rfl⟩
    case round =>
      obtain ⟨rfl, rfl⟩ := hrel
      by_cases cn : 0 < n
      · have cn' : (0 : Int) < n := by omega
        go_wp2
        go_end0
        exact ⟨rfl, r1, k1⟩
      · have cn' : ¬ (0 : Int) < n := by omega
        go_wp2
        go_end0
        exact ⟨rfl, r1, k1⟩
  · have c1' : ¬ (out.length : Int) < far := by omega
    by_cases c3 : window < far
    · have c3' : (window : Int) < far := by omega
      go_enter Tryz.func274, Tryz.ntmps274
      go_wp2_with fail
      refine HNO.out.mono ?_
      rintro x w1 ⟨rfl, r1, k1⟩
      have d4 := r1.c4
      go_wp2
      go_loopw [8] (fun i wr => i = .int .i64 0 ∧ wr = w1) (fun _ _ => 0)
      case atStart => exact ⟨rfl, rfl⟩
      case round =>
        obtain ⟨rfl, rfl⟩ := hrel
        by_cases cn : 0 < n
        · have cn' : (0 : Int) < n := by omega
          go_wp2
          go_end0
          exact ⟨rfl, r1, k1⟩
        · have cn' : ¬ (0 : Int) < n := by omega
          go_wp2
          go_end0
          exact ⟨rfl, r1, k1⟩
    · have c3' : ¬ (window : Int) < far := by omega
      go_enter Tryz.func274, Tryz.ntmps274
      go_wp2
      go_loopw [8] (fun i wr => i = .int .i64 0 ∧ wr = w) (fun _ _ => 0)
      case atStart => exact ⟨rfl, rfl⟩
      case round =>
        obtain ⟨rfl, rfl⟩ := hrel
        by_cases cn : 0 < n
        · have cn' : (0 : Int) < n := by omega
          go_wp2
          go_end0
          exact ⟨rfl, h, Kept.refl _ _ _ _⟩
        · have cn' : ¬ (0 : Int) < n := by omega
          go_wp2
          go_end0
          exact ⟨rfl, h, Kept.refl _ _ _ _⟩
theorem copies_bad (h : RIn B b S most w p ov out 0) (n far window : Nat) (hn : n ≤ 100000) (hf : far ≤ 1000000) (hw : window ≤ 32768) (hbad : out.length < far ∨ window < far) :
    Calls Tryz.prog 274 #[.pointer (some ⟨b, 0, none⟩), .int .i64 n, .int .i64 far, .int .i64 window] w fun x w' => x = .returned (.tuple #[]) ∧ RIn B b S most w' p ov out 5 ∧ Kept 5 B [b] w w' := by
  have c2 := h.c2
  have lm := h.lm
  have lo := h.lo
  obtain ⟨ao, oc, hov⟩ := own_slice h.own
  rw [hov] at c2
  clear hov
  have HNO := hide (rno_ok h 5 (by omega))
  rw [rno_zero] at HNO
  have hcs : (out.length : Int) < far ∨ (¬ (out.length : Int) < far ∧ (window : Int) < far) := by omega
  clear hbad
  rcases hcs with c1 | ⟨c1, c3⟩
  all_goals
    go_enter Tryz.func274, Tryz.ntmps274
    go_wp2_with fail
    refine HNO.out.mono ?_
    rintro x w1 ⟨rfl, r1, k1⟩
    have d4 := r1.c4
    go_wp2
    go_loopw [8] (fun i wr => i = .int .i64 0 ∧ wr = w1) (fun _ _ => 0)
    case atStart => exact ⟨rfl, rfl⟩
    case round =>
      obtain ⟨rfl, rfl⟩ := hrel
      by_cases cn : 0 < n
      · have cn' : (0 : Int) < n := by omega
        go_wp2
        go_end0
        exact ⟨rfl, r1, k1⟩
      · have cn' : ¬ (0 : Int) < n := by omega
        go_wp2
        go_end0
        exact ⟨rfl, r1, k1⟩
theorem copy_byte (far : Nat) (h1 : 1 ≤ far) (h2 : far ≤ out.length) (hb : ∀ x ∈ out, x < 256) : ∀ j, ∀ x ∈ Fo.copy far j out, x < 256
  | 0, x, hx => hb x hx
  | j + 1, x, hx => by
    rw [Fo.copy_succ] at hx
    rcases List.mem_append.1 hx with hx | hx
    · exact copy_byte far h1 h2 hb j x hx
    · simp only [List.mem_singleton] at hx
      have hl := Fo.copy_length far j out
      rw [hx, List.getD_eq_getElem?_getD, List.getElem?_eq_getElem (by omega)]
      exact copy_byte far h1 h2 hb j _ (List.getElem_mem _)
set_option maxRecDepth 100000 in
set_option maxHeartbeats 1000000 in
theorem copies_ok (h : RIn B b S most w p ov out 0) (n far window : Nat) (hn : n ≤ 100000) (hf1 : 1 ≤ far) (hf : far ≤ out.length) (hw : far ≤ window) (hw2 : window ≤ 32768) (hby : ∀ x ∈ out, x < 256) :
    Calls Tryz.prog 274 #[.pointer (some ⟨b, 0, none⟩), .int .i64 n, .int .i64 far, .int .i64 window] w fun x w' => x = .returned (.tuple #[]) ∧ ∃ ov' o' e', RIn B b S most w' p ov' o' e' ∧ ((out.length + n ≤ most ∧ o' = Fo.copy far n out ∧ e' = 0) ∨ (most < out.length + n ∧ e' = 6)) ∧ Kept 5 B [b] w w' := by
  have c2 := h.c2
  have lm := h.lm
  have lo := h.lo
  obtain ⟨ao, oc, hov⟩ := own_slice h.own
  rw [hov] at c2
  clear hov
  have c1 : ¬ (out.length : Int) < far := by omega
  have c3 : ¬ (window : Int) < far := by omega
  have HBY : Hid (∀ j, j ≤ n → ∀ {x}, x ∈ Fo.copy far j out → x < 256) := fun j _ x hx => copy_byte far hf1 hf hby j x hx
  go_enter Tryz.func274, Tryz.ntmps274
  go_wp2
  go_loopw [8] (fun i wr => ∃ (j e' : Nat) (ov' : Value) (o' : List Nat), i = .int .i64 j ∧ j ≤ n ∧ RIn B b S most wr p ov' o' e' ∧ Hid ((out.length + j ≤ most ∧ o' = Fo.copy far j out ∧ e' = 0) ∨ (most < out.length + j ∧ e' = 6)) ∧ Kept 5 B [b] w wr) (fun i _ => n - (intOf i).toNat)
  case atStart => exact ⟨0, 0, ov, out, rfl, Nat.zero_le _, h, Or.inl ⟨by omega, rfl, rfl⟩, Kept.refl _ _ _ _⟩
  clear h c2
  case round =>
    obtain ⟨j, e', ov', o', rfl, hj, r, HC, kk⟩ := hrel
    have d4 := r.c4
    by_cases cj : j < n
    · have cj' : (j : Int) < n := by omega
      rcases HC.out with ⟨hr1, ho, rfl⟩ | ⟨hr1, rfl⟩
      · have hol : o'.length = out.length + j := by rw [ho, Fo.copy_length]
        have HSUC := hide (Fo.copy_succ far j out)
        rw [← ho] at HSUC
        obtain ⟨g, oc', hov', _⟩ := own_form r.own (by omega)
        subst hov'
        have d2 := r.c2
        obtain ⟨D, hD⟩ : ∃ D, o'.length - far = D := ⟨_, rfl⟩
        have hDl : D < o'.length := by omega
        have hx := r.own.cellAt D (by omega)
        rw [List.getElem?_map, List.getElem?_eq_getElem hDl] at hx
        simp only [Option.map_some] at hx
        have hX0 : o'.getD (o'.length - far) 0 = o'[D] := by rw [hD, List.getD_eq_getElem?_getD, List.getElem?_eq_getElem hDl]; rfl
        rw [hX0] at HSUC
        have hXb : o'[D] < 256 := HBY.out j (by omega) (by rw [← ho]; exact List.getElem_mem hDl)
        generalize hX : o'[D] = X at *
        have hjw : IntKind.i64.wrap ((o'.length : Int) - (far : Int)) = (D : Int) := by rw [IntKind.wrap_i64]; omega
        have hj0 : (0 : Int) ≤ (D : Int) := by omega
        have hj1 : (D : Int) < (o'.length : Int) := by omega
        have HOL := hide hol
        have hom : o'.length ≤ 1000000 := by omega
        clear hX HC ho hX0 hD hol
        go_wp2_with fail
        go_region_with (go_at_call 108; refine (rput_any (r.drewN 1) _ X (by first | rfl | omega) hXb).mono ?_; rintro x w3 ⟨rfl, ov3, r3, k3⟩)
        all_goals have HR3 : Hid (((out.length + (j + 1) ≤ most ∧ (rput most X (o', 0)).1 = Fo.copy far (j + 1) out ∧ (rput most X (o', 0)).2 = 0) ∨ (most < out.length + (j + 1) ∧ (rput most X (o', 0)).2 = 6))) := (by
          have h1 := HOL.out
          by_cases cr : o'.length + 1 ≤ most
          · rw [rput_room cr, HSUC.out]; exact Or.inl ⟨by omega, rfl, rfl⟩
          · rw [rput_full cr]; exact Or.inr ⟨by omega, rfl⟩)
        all_goals go_wp2
        all_goals go_roundw
        all_goals first | exact ⟨j + 1, _, ov3, _, by go_num, by omega, r3, HR3, (kk.drewN 1).trans k3⟩ | (simp [intOf]; omega)
      · have he' : ((6 : Int) == 0) = false := by decide
        go_wp2
        go_end0
        exact ⟨rfl, ov', o', 6, r, Or.inr ⟨by omega, rfl⟩, kk⟩
    · obtain rfl : j = n := by omega
      have cj' : ¬ (j : Int) < j := by omega
      go_wp2
      go_end0
      exact ⟨rfl, ov', o', e', r, HC.out, kk⟩
end Go.Proofs.YtgkljcmjnphpeaaGreatDoor
namespace Go.Proofs.YtgkljcmjnphpeaaGreatDoor
open Go.RowKit
variable {B b : Nat} {S : ByteArray} {most : Nat} {w : World} {p : Nat} {ov : Value} {out : List Nat} {e : Nat}
/-- What comes of so many bits. -/
def BitRes (S : ByteArray) (n q e v q' e' : Nat) : Prop :=
  (e ≠ 0 ∧ v = 0 ∧ q' = q ∧ e' = e) ∨ (e = 0 ∧ q + n ≤ 8 * S.size ∧ v = Fo.val ((rest4 S q).take n) ∧ q' = q + n ∧ e' = 0) ∨ (e = 0 ∧ 8 * S.size < q + n ∧ v = 0 ∧ q' = q ∧ e' = 5)
theorem rbits_any (h : RIn B b S most w p ov out e) (n : Nat) (hn : n ≤ 16) :
    Calls Tryz.prog 112 #[.pointer (some ⟨b, 0, none⟩), .int .i64 n] w fun x w' => ∃ v q' e', x = .returned (.int .i64 (v : Nat)) ∧ RIn B b S most w' q' ov out e' ∧ Hid (BitRes S n p e v q' e') ∧ v < 2 ^ n ∧ Kept 5 B [b] w w' := by
  have hpos : 0 < 2 ^ n := Nat.pos_of_ne_zero (by simp)
  by_cases he : e = 0
  · subst he
    by_cases c : p + n ≤ 8 * S.size
    · refine (rbits_ok h n hn c).mono ?_
      rintro x w' ⟨rfl, r, k⟩
      refine ⟨_, _, 0, rfl, r, Or.inr (Or.inl ⟨rfl, c, rfl, rfl, rfl⟩), ?_, k⟩
      have := Fo.val_lt ((rest4 S p).take n)
      rw [List.length_take, rest4_len, Nat.min_eq_left (by omega)] at this
      exact this
    · refine (rbits_short h n hn (by omega)).mono ?_
      rintro x w' ⟨rfl, r, k⟩
      exact ⟨0, _, 5, rfl, r, Or.inr (Or.inr ⟨rfl, by omega, rfl, rfl, rfl⟩), hpos, k⟩
  · refine (rbits_err h he n hn).mono ?_
    rintro x w' ⟨rfl, r, k⟩
    exact ⟨0, _, e, rfl, r, Or.inl ⟨he, rfl, rfl, rfl⟩, hpos, k⟩
theorem rsymbol_err (h : RIn B b S most w p ov out e) (he : e ≠ 0) {bt : Nat} :
    Calls Tryz.prog 272 #[.pointer (some ⟨b, 0, none⟩), .pointer (some ⟨bt, 0, none⟩)] w fun x w' => x = .returned (.int .i64 (0 : Nat)) ∧ w' = w := by
  have c4 := h.c4
  have he' : ((e : Int) == 0) = false := by simp; omega
  go_enter Tryz.func272, Tryz.ntmps272
  go_wp2
  go_loopw [5] (fun a wr => wr = w) (fun _ _ => 0)
  case atStart => rfl
  case round =>
    subst hrel
    go_wp2
    go_ret
    exact ⟨rfl, rfl⟩
/-- A tree that is read as codes are. -/
structure TreeOk (w : World) (bt : Nat) (cs ss : List Nat) (M : Nat) : Prop where
  ex : ∃ T m, TreeIn w bt T ∧ Fo.GI T m ∧ Fo.EB T M ∧ ∀ v, Fo.walk T 0 v = Fo.sym cs ss v
theorem TreeOk.kept {w' : World} {bt M : Nat} {cs ss : List Nat} (h : TreeOk w bt cs ss M) (k : Kept 5 B [b] w w') (r : RIn B b S most w p ov out e) : TreeOk w' bt cs ss M := by
  obtain ⟨T, m, h1, h2⟩ := h.ex
  exact ⟨T, m, h1.kept k r.isIn, h2⟩
/-- What comes of a code, whatever stood before. -/
def SymAny (cs ss : List Nat) (S : ByteArray) (q e v q' e' : Nat) : Prop :=
  (e ≠ 0 ∧ v = 0 ∧ q' = q ∧ e' = e) ∨ (e = 0 ∧ ∃ r', Fo.sym cs ss (rest4 S q) = some (v, r') ∧ e' = 0 ∧ rest4 S q' = r' ∧ q' ≤ 8 * S.size) ∨ (e = 0 ∧ Fo.sym cs ss (rest4 S q) = none ∧ e' = 5)
theorem rsymbol_any (h : RIn B b S most w p ov out e) (hp : e = 0 → p ≤ 8 * S.size) {bt M : Nat} {cs ss : List Nat} (hT : TreeOk w bt cs ss M) (hM : M ≤ 1000) :
    Calls Tryz.prog 272 #[.pointer (some ⟨b, 0, none⟩), .pointer (some ⟨bt, 0, none⟩)] w fun x w' => ∃ v q' e', x = .returned (.int .i64 (v : Nat)) ∧ RIn B b S most w' q' ov out e' ∧ Hid (SymAny cs ss S p e v q' e') ∧ (v ≤ M ∨ Hid (∃ r', Fo.sym cs ss (rest4 S p) = some (v, r'))) ∧ Kept 5 B [b] w w' := by
  by_cases he : e = 0
  · subst he
    obtain ⟨T, m, h1, h2, h3, h4⟩ := hT.ex
    refine (rsymbol_ok h (hp rfl) h1 h2 h3 hM).mono ?_
    rintro x w' ⟨v, q, e, rfl, r, hs, k⟩
    refine ⟨v, q, e, rfl, r, ?_, ?_, k⟩
    · rw [h4] at hs
      cases hw : Fo.sym cs ss (rest4 S p) with
      | none => rw [hw] at hs; exact Or.inr (Or.inr ⟨rfl, hw, hs.1⟩)
      | some x =>
        obtain ⟨s, r'⟩ := x
        rw [hw] at hs
        obtain ⟨rfl, rfl, h6, h7⟩ := hs
        exact Or.inr (Or.inl ⟨rfl, r', hw, rfl, h6, h7⟩)
    · rw [h4] at hs
      cases hw : Fo.sym cs ss (rest4 S p) with
      | none => rw [hw] at hs; exact Or.inl hs.2
      | some x =>
        obtain ⟨s, r'⟩ := x
        rw [hw] at hs
        obtain ⟨rfl, _⟩ := hs
        exact Or.inr ⟨r', rfl⟩
  · refine (rsymbol_err h he).mono ?_
    rintro x w' ⟨rfl, rfl⟩
    exact ⟨0, p, e, rfl, h, Or.inl ⟨he, rfl, rfl, rfl⟩, Or.inl (Nat.zero_le _), Kept.refl _ _ _ _⟩
/-- What comes of a copy, whatever stood before. -/
def CopyAny (most n far window : Nat) (o : List Nat) (e : Nat) (o' : List Nat) (e' : Nat) : Prop :=
  (e ≠ 0 ∧ o' = o ∧ e' = e) ∨ (e = 0 ∧ (o.length < far ∨ window < far) ∧ e' = 5) ∨ (e = 0 ∧ far ≤ o.length ∧ far ≤ window ∧ ((o.length + n ≤ most ∧ o' = Fo.copy far n o ∧ e' = 0) ∨ (most < o.length + n ∧ e' = 6)))
theorem copies_any (h : RIn B b S most w p ov out e) (n far window : Nat) (hn : n ≤ 100000) (hf1 : 1 ≤ far) (hf : far ≤ 1000000) (hw : window ≤ 32768) (hby : ∀ x ∈ out, x < 256) :
    Calls Tryz.prog 274 #[.pointer (some ⟨b, 0, none⟩), .int .i64 n, .int .i64 far, .int .i64 window] w fun x w' => x = .returned (.tuple #[]) ∧ ∃ ov' o' e', RIn B b S most w' p ov' o' e' ∧ Hid (CopyAny most n far window out e o' e') ∧ Kept 5 B [b] w w' := by
  by_cases he : e = 0
  · subst he
    by_cases c : out.length < far ∨ window < far
    · refine (copies_bad h n far window hn hf hw c).mono ?_
      rintro x w' ⟨rfl, r, k⟩
      exact ⟨rfl, _, _, _, r, Or.inr (Or.inl ⟨rfl, c, rfl⟩), k⟩
    · refine (copies_ok h n far window hn hf1 (by omega) (by omega) hw hby).mono ?_
      rintro x w' ⟨rfl, ov', o', e', r, hc, k⟩
      exact ⟨rfl, ov', o', e', r, Or.inr (Or.inr ⟨rfl, by omega, by omega, hc⟩), k⟩
  · refine (copies_err h he n far window hn hf hw).mono ?_
    rintro x w' ⟨rfl, r, k⟩
    exact ⟨rfl, _, _, _, r, Or.inl ⟨he, rfl, rfl⟩, k⟩
end Go.Proofs.YtgkljcmjnphpeaaGreatDoor
namespace Go.Proofs.YtgkljcmjnphpeaaGreatDoor
open Go.RowKit
variable {B b : Nat} {S : ByteArray} {most : Nat} {w : World} {p : Nat} {ov : Value} {out : List Nat} {e : Nat}
section
variable {c : Fo.Codes} {window : Nat} {r r' : List Bool} {o o' : List Nat} {res : Except Nat (List Bool × List Nat)}
theorem parts_err {n : Nat} (h : Fo.PartsTo c window most r o res) (he : Fo.part c window most r o = .error n) : res = .error n := by
  rcases h.parted with ⟨x, h1, h2⟩ | ⟨r1, o1, h1, h2⟩ | ⟨r1, o1, h1, h2⟩
  · rw [he] at h1; cases h1; exact h2
  · rw [he] at h1; cases h1
  · rw [he] at h1; cases h1
theorem parts_stop (h : Fo.PartsTo c window most r o res) (he : Fo.part c window most r o = .ok (false, r', o')) : res = .ok (r', o') := by
  rcases h.parted with ⟨x, h1, h2⟩ | ⟨r1, o1, h1, h2⟩ | ⟨r1, o1, h1, h2⟩
  · rw [he] at h1; cases h1
  · rw [he] at h1; cases h1; exact h2
  · rw [he] at h1; cases h1
theorem parts_more (h : Fo.PartsTo c window most r o res) (he : Fo.part c window most r o = .ok (true, r', o')) : Fo.PartsTo c window most r' o' res := by
  rcases h.parted with ⟨x, h1, h2⟩ | ⟨r1, o1, h1, h2⟩ | ⟨r1, o1, h1, h2⟩
  · rw [he] at h1; cases h1
  · rw [he] at h1; cases h1
  · rw [he] at h1; cases h1; exact h2
theorem part_none (h : Fo.sym c.cs c.ss r = none) : Fo.part c window most r o = .error 5 := by unfold Fo.part; rw [h]
theorem part_lit {s : Nat} (h : Fo.sym c.cs c.ss r = some (s, r')) (hs : s < 256) : Fo.part c window most r o = if o.length + 1 ≤ most then .ok (true, r', o ++ [s]) else .error 6 := by unfold Fo.part; rw [h]; simp only [if_pos hs]
theorem part_stop (h : Fo.sym c.cs c.ss r = some (256, r')) : Fo.part c window most r o = .ok (false, r', o) := by unfold Fo.part; rw [h]; simp
theorem part_big {s : Nat} (h : Fo.sym c.cs c.ss r = some (s, r')) (hs : 285 < s) : Fo.part c window most r o = .error 5 := by
  unfold Fo.part; rw [h]; simp only []
  rw [if_neg (by omega), if_neg (by omega), if_pos hs]
end
/-- A length with its distance: what the steps come to. -/
theorem tail_part {c : Fo.Codes} {window : Nat} {o o' : List Nat} {s q q1 : Nat} (hs : Fo.sym c.cs c.ss (rest4 S q) = some (s, rest4 S q1)) (h1 : 257 ≤ s) (h2 : s ≤ 285) (hq1 : q1 ≤ 8 * S.size)
    {x q2 e2 t q3 e3 e3' y q4 e4 e5 : Nat} (b1 : BitRes S (Fo.lenSpan s).2 q1 0 x q2 e2) (s2 : SymAny c.cd c.sd S q2 e2 t q3 e3) (he3 : e3' = if 29 < t then rno 5 e3 else e3) (b2 : BitRes S (moreN 2 t) q3 e3' y q4 e4) (cp : CopyAny most ((Fo.lenSpan s).1 + x) (moreV 2 1 t + y) window o e4 o' e5) :
    (e5 = 0 → Fo.part c window most (rest4 S q) o = .ok (true, rest4 S q4, o') ∧ q4 ≤ 8 * S.size ∧ o' = Fo.copy (moreV 2 1 t + y) ((Fo.lenSpan s).1 + x) o ∧ moreV 2 1 t + y ≤ o.length) ∧ (e5 ≠ 0 → Fo.part c window most (rest4 S q) o = .error e5) := by
  have hpart : Fo.part c window most (rest4 S q) o = match Fo.take (Fo.lenSpan s).2 (rest4 S q1) with
      | none => .error 5
      | some (x, r) => match Fo.sym c.cd c.sd r with
        | none => .error 5
        | some (t, r) => if 29 < t then .error 5 else match Fo.take (Fo.distSpan t).2 r with
          | none => .error 5
          | some (y, r) =>
            if (Fo.distSpan t).1 + y ≤ o.length ∧ (Fo.distSpan t).1 + y ≤ window then
              if o.length + ((Fo.lenSpan s).1 + x) ≤ most then .ok (true, r, Fo.copy ((Fo.distSpan t).1 + y) ((Fo.lenSpan s).1 + x) o) else .error 6
            else .error 5 := by
    unfold Fo.part
    rw [hs]
    simp only []
    rw [if_neg (by omega), if_neg (by omega), if_neg (by omega)]
    rfl
  have sticky1 : e3' ≠ 0 → e5 = e3' := fun hn => by
    rcases b2 with ⟨_, _, _, h⟩ | ⟨h, _⟩ | ⟨h, _⟩
    · rcases cp with ⟨_, _, h'⟩ | ⟨h', _⟩ | ⟨h', _⟩ <;> omega
    · exact absurd h hn
    · exact absurd h hn
  have rno5 : ∀ z, z = 0 ∨ z = 5 → rno 5 z = 5 := fun z hz => by unfold rno; split <;> omega
  rcases b1 with ⟨h, _⟩ | ⟨_, hb1, rfl, rfl, rfl⟩ | ⟨_, hb1, rfl, rfl, rfl⟩
  · exact absurd rfl h
  · have ht1 : Fo.take (Fo.lenSpan s).2 (rest4 S q1) = some (Fo.val ((rest4 S q1).take (Fo.lenSpan s).2), rest4 S (q1 + (Fo.lenSpan s).2)) := by
      unfold Fo.take
      rw [if_pos (by rw [rest4_len]; omega), rest4_drop]
    rw [ht1] at hpart
    simp only [] at hpart
    rcases s2 with ⟨h, _⟩ | ⟨_, r', hs2, rfl, rfl, hq3⟩ | ⟨_, hs2, rfl⟩
    · exact absurd rfl h
    · rw [hs2] at hpart
      simp only [] at hpart
      by_cases ct : 29 < t
      · rw [if_pos ct] at he3 hpart
        rw [rno_zero] at he3
        have := sticky1 (by omega)
        exact ⟨fun h => by omega, fun _ => by rw [hpart, this, he3]⟩
      · rw [if_neg ct] at he3 hpart
        subst he3
        obtain ⟨d1, d2⟩ := more_dist ⟨t, by omega⟩
        simp only [] at d1 d2
        rw [d1] at b2
        rw [d2] at cp
        rcases b2 with ⟨h, _⟩ | ⟨_, hb2, rfl, rfl, rfl⟩ | ⟨_, hb2, rfl, rfl, rfl⟩
        · exact absurd rfl h
        · have ht2 : Fo.take (Fo.distSpan t).2 (rest4 S q3) = some (Fo.val ((rest4 S q3).take (Fo.distSpan t).2), rest4 S (q3 + (Fo.distSpan t).2)) := by
            unfold Fo.take
            rw [if_pos (by rw [rest4_len]; omega), rest4_drop]
          rw [ht2] at hpart
          simp only [] at hpart
          rcases cp with ⟨h, _⟩ | ⟨_, hbad, rfl⟩ | ⟨_, g1, g2, ⟨g3, rfl, rfl⟩ | ⟨g3, rfl⟩⟩
          · exact absurd rfl h
          · rw [if_neg (by omega)] at hpart
            exact ⟨fun h => by omega, fun _ => hpart⟩
          · rw [if_pos ⟨g1, g2⟩, if_pos g3] at hpart
            exact ⟨fun _ => ⟨hpart, by omega, by rw [d2], by rw [d2]; exact g1⟩, fun h => absurd rfl h⟩
          · rw [if_pos ⟨g1, g2⟩, if_neg (by omega)] at hpart
            exact ⟨fun h => by omega, fun _ => hpart⟩
        · have ht2 : Fo.take (Fo.distSpan t).2 (rest4 S q4) = none := by
            unfold Fo.take
            rw [if_neg (by rw [rest4_len]; omega)]
          rw [ht2] at hpart
          rcases cp with ⟨_, _, h'⟩ | ⟨h', _⟩ | ⟨h', _⟩
          · subst h'
            exact ⟨fun h => by omega, fun _ => hpart⟩
          · omega
          · omega
    · rw [hs2] at hpart
      simp only [] at hpart
      have he : e3' = 5 := by
        rw [he3]; split
        · exact rno5 5 (Or.inr rfl)
        · rfl
      have := sticky1 (by omega)
      exact ⟨fun h => by omega, fun _ => by rw [hpart, this, he]⟩
  · have ht1 : Fo.take (Fo.lenSpan s).2 (rest4 S q2) = none := by
      unfold Fo.take
      rw [if_neg (by rw [rest4_len]; omega)]
    rw [ht1] at hpart
    simp only [] at hpart
    have h35 : e3 = 5 := by
      rcases s2 with ⟨_, _, _, h⟩ | ⟨h, _⟩ | ⟨h, _⟩ <;> omega
    have he : e3' = 5 := by
      rw [he3, h35]; split
      · exact rno5 5 (Or.inr rfl)
      · rfl
    have := sticky1 (by omega)
    exact ⟨fun h => by omega, fun _ => by rw [hpart, this, he]⟩
end Go.Proofs.YtgkljcmjnphpeaaGreatDoor
