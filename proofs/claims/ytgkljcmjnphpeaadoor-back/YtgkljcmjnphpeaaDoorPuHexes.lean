/- Plain mathematics of the filter of hexadecimal digits. -/
set_option linter.unusedVariables false
set_option linter.unusedSimpArgs false
namespace Go.Proofs.YtgkljcmjnphpeaaDoor.Fo

def hexDig (n : Nat) : Nat := if n < 10 then 48 + n else 87 + n
def hexVal (c : Nat) : Option Nat := if 48 ≤ c ∧ c ≤ 57 then some (c - 48) else if 97 ≤ c ∧ c ≤ 102 then some (c - 97 + 10) else if 65 ≤ c ∧ c ≤ 70 then some (c - 65 + 10) else none
def hexOf (l : List Nat) : List Nat := l.flatMap fun b => [hexDig (b / 16), hexDig (b % 16)]
def white (c : Nat) : Bool := c == 0 || c == 9 || c == 10 || c == 12 || c == 13 || c == 32

theorem hexOf_cons (b : Nat) (l : List Nat) : hexOf (b :: l) = hexDig (b / 16) :: hexDig (b % 16) :: hexOf l := by simp [hexOf]
theorem hexOf_append (a b : List Nat) : hexOf (a ++ b) = hexOf a ++ hexOf b := by simp [hexOf]
theorem hexOf_length (l : List Nat) : (hexOf l).length = 2 * l.length := by
  induction l with
  | nil => rfl
  | cons b l ih => rw [hexOf_cons]; simp [ih]; omega
theorem hexVal_dig (n : Nat) (h : n < 16) : hexVal (hexDig n) = some n := by
  have : ∀ n : Fin 16, hexVal (hexDig n.val) = some n.val := by decide
  exact this ⟨n, h⟩
theorem hexDig_lt (n : Nat) (h : n < 16) : hexDig n < 256 := by unfold hexDig; split <;> omega
theorem white_dig (n : Nat) (h : n < 16) : white (hexDig n) = false := by
  have : ∀ n : Fin 16, white (hexDig n.val) = false := by decide
  exact this ⟨n, h⟩
theorem hexDig_ne (n : Nat) (h : n < 16) : hexDig n ≠ 62 := by
  have : ∀ n : Fin 16, hexDig n.val ≠ 62 := by decide
  exact this ⟨n, h⟩

end Go.Proofs.YtgkljcmjnphpeaaDoor.Fo
