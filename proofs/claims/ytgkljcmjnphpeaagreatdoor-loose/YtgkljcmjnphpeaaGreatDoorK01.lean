/- Strings out of rows of bytes. -/
import Derived.Test.YtgkljcmjnphpeaaGreatDoorK00
import Derived.WalkKit
import Derived.Laws.BitsAllLaws
import Derived.BigRegion
import Derived.StillTailTactics
import Derived.Laws.IdiomCopy
import Derived.Deep.AppendSrc
import Derived.Laws.BytesString
import Derived.Laws.Cells
set_option linter.unusedVariables false
set_option linter.unusedSimpArgs false
namespace Go.Proofs.YtgkljcmjnphpeaaGreatDoor.Fo
def bits8 (b : Nat) : List Bool := [b.testBit 0, b.testBit 1, b.testBit 2, b.testBit 3, b.testBit 4, b.testBit 5, b.testBit 6, b.testBit 7]
def bitsOf (l : List Nat) : List Bool := l.flatMap bits8
theorem bits8_length (b : Nat) : (bits8 b).length = 8 := rfl
theorem bitsOf_cons (b : Nat) (l : List Nat) : bitsOf (b :: l) = bits8 b ++ bitsOf l := by simp [bitsOf]
theorem bitsOf_append (a b : List Nat) : bitsOf (a ++ b) = bitsOf a ++ bitsOf b := by simp [bitsOf]
theorem bitsOf_length (l : List Nat) : (bitsOf l).length = 8 * l.length := by
  induction l with
  | nil => rfl
  | cons b l ih => rw [bitsOf_cons, List.length_append, bits8_length, ih, List.length_cons]; omega
/-- A number out of bits, the lowest first. -/
def val : List Bool → Nat
  | [] => 0
  | b :: l => b.toNat + 2 * val l
/-- The lowest n bits of a number, the lowest first. -/
def numBits : Nat → Nat → List Bool
  | 0, _ => []
  | n + 1, v => (v % 2 == 1) :: numBits n (v / 2)
theorem numBits_length (n v : Nat) : (numBits n v).length = n := by
  induction n generalizing v with
  | zero => rfl
  | succ n ih => simp [numBits, ih]
theorem val_numBits (n v : Nat) : val (numBits n v) = v % 2 ^ n := by
  induction n generalizing v with
  | zero => simp [numBits, val, Nat.mod_one]
  | succ n ih =>
    simp only [numBits, val, ih]
    rw [Nat.pow_succ, Nat.mul_comm (2 ^ n) 2, Nat.mod_mul]
    rcases Nat.mod_two_eq_zero_or_one v with h | h <;> simp [h]
theorem val_bits8 (b : Nat) (h : b < 256) : val (bits8 b) = b := by
  have : ∀ b : Fin 256, val (bits8 b.val) = b.val := by decide +kernel
  exact this ⟨b, h⟩
/-- What a writer of bits holds: the bytes `out`, of whose last `used` bits are taken (0: all), say the bits `bs`. -/
def BW (out : List Nat) (used : Nat) (bs : List Bool) : Prop :=
  used < 8 ∧ bs.length % 8 = used ∧ (∀ x ∈ out, x < 256) ∧ bitsOf out = bs ++ List.replicate ((8 - used) % 8) false
theorem BW.nil : BW [] 0 [] := ⟨by omega, rfl, by simp, rfl⟩
/-- Whole bytes behind whole bytes. -/
theorem BW.bytes {out bs} (h : BW out 0 bs) (l : List Nat) (hl : ∀ x ∈ l, x < 256) : BW (out ++ l) 0 (bs ++ bitsOf l) := by
  obtain ⟨_, h2, h3, h4⟩ := h
  refine ⟨by omega, ?_, ?_, ?_⟩
  · rw [List.length_append, bitsOf_length]; omega
  · intro x hx; rcases List.mem_append.1 hx with hx | hx
    · exact h3 x hx
    · exact hl x hx
  · rw [bitsOf_append, h4]; simp
end Go.Proofs.YtgkljcmjnphpeaaGreatDoor.Fo
/- Plain mathematics of codes, symbols, spans and parts for the packed filter. -/
namespace Go.Proofs.YtgkljcmjnphpeaaGreatDoor.Fo
def countsOf (l : List Nat) : List Nat := (List.range 16).map fun k => if k = 0 then 0 else l.count k
def symsOf (l : List Nat) : List Nat := (List.range 16).flatMap fun k => if k = 0 then [] else (List.range l.length).filter fun i => l.getD i 0 == k
/-- A code, the highest bit first: whose it is, and what is left. -/
def symGo (cs ss : List Nat) : Nat → Nat → Nat → Nat → Nat → List Bool → Option (Nat × List Bool)
  | 0, _, _, _, _, _ => none
  | _ + 1, _, _, _, _, [] => none
  | k + 1, len, code, first, place, b :: r =>
    if 2 * code + b.toNat < 2 * first + cs.getD len 0 then some (ss.getD (place + (2 * code + b.toNat) - 2 * first) 0, r)
    else symGo cs ss k (len + 1) (2 * code + b.toNat) (2 * first + cs.getD len 0) (place + cs.getD len 0) r
def sym (cs ss : List Nat) (r : List Bool) : Option (Nat × List Bool) := symGo cs ss 15 1 0 0 0 r
theorem symGo_append (cs ss : List Nat) (k len code first place : Nat) (r t : List Bool) (s : Nat) (q : List Bool)
    (h : symGo cs ss k len code first place r = some (s, q)) : symGo cs ss k len code first place (r ++ t) = some (s, q ++ t) := by
  induction k generalizing len code first place r with
  | zero => simp [symGo] at h
  | succ k ih =>
    cases r with
    | nil => simp [symGo] at h
    | cons b r =>
      simp only [symGo, List.cons_append] at h ⊢
      by_cases c : 2 * code + b.toNat < 2 * first + cs.getD len 0
      · rw [if_pos c] at h ⊢; simp at h; simp [h.1, h.2]
      · rw [if_neg c] at h ⊢; exact ih _ _ _ _ _ h
/-- The highest of `n` bits first. -/
def highBits (v : Nat) : Nat → List Bool
  | 0 => []
  | n + 1 => (v >>> n % 2 == 1) :: highBits v n
/-- Symbols with their codes, in the order of the codes. -/
def assignGo (ss : List Nat) : List Nat → Nat → Nat → Nat → List (Nat × Nat × Nat)
  | [], _, _, _ => []
  | c :: cs, len, value, place => ((List.range c).map fun i => (ss.getD (place + i) 0, 2 * value + i, len)) ++ assignGo ss cs (len + 1) (2 * value + c) (place + c)
def assigns (cs ss : List Nat) : List (Nat × Nat × Nat) := assignGo ss cs.tail 1 0 0
def tableOf (cs ss : List Nat) (n : Nat) : List (Nat × Nat) := (assigns cs ss).foldl (fun t x => t.set x.1 (x.2.1, x.2.2)) (List.replicate n (0, 0))
def lensFixed : List Nat := List.replicate 144 8 ++ List.replicate 112 9 ++ List.replicate 24 7 ++ List.replicate 8 8
def distFixed : List Nat := List.replicate 32 5
def csF : List Nat := countsOf lensFixed
def ssF : List Nat := symsOf lensFixed
def cdF : List Nat := countsOf distFixed
def sdF : List Nat := symsOf distFixed
def tabF : List (Nat × Nat) := tableOf csF ssF 288
def tadF : List (Nat × Nat) := tableOf cdF sdF 32
def codeBits (t : List (Nat × Nat)) (s : Nat) : List Bool := highBits (t.getD s (0, 0)).1 (t.getD s (0, 0)).2
theorem fixed_syms : ∀ s : Fin 288, sym csF ssF (codeBits tabF s.val) = some (s.val, []) := by decide +kernel
theorem fixed_dists : ∀ s : Fin 32, sym cdF sdF (codeBits tadF s.val) = some (s.val, []) := by decide +kernel
theorem sym_lit (s : Nat) (h : s < 288) (r : List Bool) : sym csF ssF (codeBits tabF s ++ r) = some (s, r) := by
  have := symGo_append _ _ _ _ _ _ _ _ r _ _ (fixed_syms ⟨s, h⟩); simpa [sym] using this
theorem sym_dist (s : Nat) (h : s < 32) (r : List Bool) : sym cdF sdF (codeBits tadF s ++ r) = some (s, r) := by
  have := symGo_append _ _ _ _ _ _ _ _ r _ _ (fixed_dists ⟨s, h⟩); simpa [sym] using this
/-- What a length's symbol stands for: the least, and how many bits more. -/
def lenSpan (s : Nat) : Nat × Nat :=
  if s = 285 then (258, 0) else if s - 257 < 8 then (3 + (s - 257), 0) else (3 + (4 + (s - 257) % 4) * 2 ^ ((s - 257) / 4 - 1), (s - 257) / 4 - 1)
def distSpan (s : Nat) : Nat × Nat := if s < 4 then (1 + s, 0) else (1 + (2 + s % 2) * 2 ^ (s / 2 - 1), s / 2 - 1)
/-- The last symbol, from one on downward, whose least is not above a number. -/
def lastSym (f : Nat → Nat × Nat) (v : Nat) : Nat → Nat
  | 0 => 0
  | s + 1 => if v < (f (s + 1)).1 then lastSym f v s else s + 1
def lenSym (v : Nat) : Nat := lastSym lenSpan v 285
def distSym (v : Nat) : Nat := lastSym distSpan v 29
theorem lenSym_ok : ∀ v : Fin 256, 257 ≤ lenSym (v.val + 3) ∧ lenSym (v.val + 3) ≤ 285 ∧ (lenSpan (lenSym (v.val + 3))).1 ≤ v.val + 3 ∧ v.val + 3 - (lenSpan (lenSym (v.val + 3))).1 < 2 ^ (lenSpan (lenSym (v.val + 3))).2 := by decide +kernel
theorem lastSym_le (f : Nat → Nat × Nat) (v s : Nat) : lastSym f v s ≤ s := by
  induction s with
  | zero => simp [lastSym]
  | succ s ih => simp only [lastSym]; split <;> omega
theorem lastSym_least (f : Nat → Nat × Nat) (v s : Nat) (h0 : (f 0).1 ≤ v) : (f (lastSym f v s)).1 ≤ v := by
  induction s with
  | zero => simpa [lastSym] using h0
  | succ s ih => simp only [lastSym]; split <;> first | exact ih | omega
theorem lastSym_next (f : Nat → Nat × Nat) (v s : Nat) : lastSym f v s = s ∨ v < (f (lastSym f v s + 1)).1 := by
  induction s with
  | zero => simp [lastSym]
  | succ s ih =>
    simp only [lastSym]
    by_cases h : v < (f (s + 1)).1
    · rw [if_pos h]
      rcases ih with ih | ih
      · right; rw [ih]; exact h
      · right; exact ih
    · rw [if_neg h]; exact Or.inl rfl
theorem distSpan_next : ∀ s : Fin 30, (distSpan (s.val + 1)).1 = (distSpan s.val).1 + 2 ^ (distSpan s.val).2 := by decide +kernel
theorem distSym_ok (v : Nat) (h1 : 1 ≤ v) (h2 : v ≤ 32768) : distSym v ≤ 29 ∧ (distSpan (distSym v)).1 ≤ v ∧ v - (distSpan (distSym v)).1 < 2 ^ (distSpan (distSym v)).2 := by
  have a := lastSym_le distSpan v 29
  have b := lastSym_least distSpan v 29 (by simpa [distSpan] using h1)
  have c := lastSym_next distSpan v 29
  have d := distSpan_next ⟨distSym v, by unfold distSym; omega⟩
  have e : v < (distSpan (distSym v + 1)).1 := by
    rcases c with c | c
    · have : distSym v = 29 := c
      rw [this]; have : (distSpan (29 + 1)).1 = 32769 := by decide
      omega
    · exact c
  simp only [] at d
  exact ⟨a, b, by unfold distSym at *; omega⟩
/-- A number of n bits. -/
def take (n : Nat) (r : List Bool) : Option (Nat × List Bool) := if n ≤ r.length then some (val (r.take n), r.drop n) else none
theorem take_numBits (n v : Nat) (r : List Bool) (h : v < 2 ^ n) : take n (numBits n v ++ r) = some (v, r) := by
  unfold take
  rw [if_pos (by simp [numBits_length]), List.take_left' (numBits_length n v), List.drop_left' (numBits_length n v), val_numBits, Nat.mod_eq_of_lt h]
/-- What came out that far back, again, so many times. -/
def copy (d : Nat) : Nat → List Nat → List Nat
  | 0, out => out
  | n + 1, out => copy d n (out ++ [out.getD (out.length - d) 0])
structure Codes where
  cs : List Nat
  ss : List Nat
  cd : List Nat
  sd : List Nat
def fixedC : Codes := ⟨csF, ssF, cdF, sdF⟩
theorem fixedC_cs : fixedC.cs = csF := by simp only [fixedC]
theorem fixedC_ss : fixedC.ss = ssF := by simp only [fixedC]
theorem fixedC_cd : fixedC.cd = cdF := by simp only [fixedC]
theorem fixedC_sd : fixedC.sd = sdF := by simp only [fixedC]
/-- One part: the error that it gives up with, or whether another must follow, what is left, what has come out. -/
def part (c : Codes) (window most : Nat) (r : List Bool) (out : List Nat) : Except Nat (Bool × List Bool × List Nat) :=
  match sym c.cs c.ss r with
  | none => .error 5
  | some (s, r) =>
    if s < 256 then if out.length + 1 ≤ most then .ok (true, r, out ++ [s]) else .error 6
    else if s = 256 then .ok (false, r, out)
    else if 285 < s then .error 5
    else match take (lenSpan s).2 r with
      | none => .error 5
      | some (x, r) => match sym c.cd c.sd r with
        | none => .error 5
        | some (t, r) => if 29 < t then .error 5 else match take (distSpan t).2 r with
          | none => .error 5
          | some (y, r) =>
            if (distSpan t).1 + y ≤ out.length ∧ (distSpan t).1 + y ≤ window then
              if out.length + ((lenSpan s).1 + x) ≤ most then .ok (true, r, copy ((distSpan t).1 + y) ((lenSpan s).1 + x) out) else .error 6
            else .error 5
def litBits (b : Nat) : List Bool := codeBits tabF b
def copyBits (n d : Nat) : List Bool :=
  codeBits tabF (lenSym n) ++ (numBits (lenSpan (lenSym n)).2 (n - (lenSpan (lenSym n)).1) ++ (codeBits tadF (distSym d) ++ numBits (distSpan (distSym d)).2 (d - (distSpan (distSym d)).1)))
theorem part_lit (b window most : Nat) (h : b < 256) (r : List Bool) (out : List Nat) : part fixedC window most (litBits b ++ r) out = if out.length + 1 ≤ most then .ok (true, r, out ++ [b]) else .error 6 := by
  simp [part, fixedC, litBits, sym_lit b (by omega) r, h]
theorem part_copy (n d window most : Nat) (h3 : 3 ≤ n) (hn : n ≤ 258) (hd : 1 ≤ d) (hd2 : d ≤ 32768) (r : List Bool) (out : List Nat) (ho : d ≤ out.length) (hw : d ≤ window) :
    part fixedC window most (copyBits n d ++ r) out = if out.length + n ≤ most then .ok (true, r, copy d n out) else .error 6 := by
  obtain ⟨a1, a2, a3, a4⟩ := lenSym_ok ⟨n - 3, by omega⟩
  simp only [show n - 3 + 3 = n by omega] at a1 a2 a3 a4
  obtain ⟨b1, b2, b3⟩ := distSym_ok d hd hd2
  unfold part
  have e1 : sym fixedC.cs fixedC.ss (copyBits n d ++ r) = some (lenSym n, (numBits (lenSpan (lenSym n)).2 (n - (lenSpan (lenSym n)).1) ++ (codeBits tadF (distSym d) ++ (numBits (distSpan (distSym d)).2 (d - (distSpan (distSym d)).1) ++ r)))) := by
    rw [show copyBits n d ++ r = codeBits tabF (lenSym n) ++ (numBits (lenSpan (lenSym n)).2 (n - (lenSpan (lenSym n)).1) ++ (codeBits tadF (distSym d) ++ (numBits (distSpan (distSym d)).2 (d - (distSpan (distSym d)).1) ++ r))) by simp [copyBits]]
    rw [fixedC_cs, fixedC_ss]; exact sym_lit (lenSym n) (by omega) _
  rw [e1]
  simp only []
  rw [if_neg (by omega), if_neg (by omega), if_neg (by omega), take_numBits _ _ _ a4]
  simp only []
  rw [show sym fixedC.cd fixedC.sd (codeBits tadF (distSym d) ++ (numBits (distSpan (distSym d)).2 (d - (distSpan (distSym d)).1) ++ r)) = some (distSym d, numBits (distSpan (distSym d)).2 (d - (distSpan (distSym d)).1) ++ r) from by rw [fixedC_cd, fixedC_sd]; exact sym_dist (distSym d) (by omega) _]
  simp only []
  rw [if_neg (by omega), take_numBits _ _ _ b3]
  simp only []
  rw [show (distSpan (distSym d)).1 + (d - (distSpan (distSym d)).1) = d by omega, show (lenSpan (lenSym n)).1 + (n - (lenSpan (lenSym n)).1) = n by omega, if_pos ⟨ho, hw⟩]
/-- Copying what the data has again goes on with the data. -/
theorem copy_data (data : List Nat) (d : Nat) : ∀ (n at_ : Nat), 1 ≤ d → d ≤ at_ → at_ + n ≤ data.length → (∀ i, i < n → data.getD (at_ + i) 0 = data.getD (at_ - d + i) 0) → copy d n (data.take at_) = data.take (at_ + n)
  | 0, at_, _, _, _, _ => rfl
  | n + 1, at_, h1, h2, h3, h4 => by
    have e : data.take at_ ++ [(data.take at_).getD ((data.take at_).length - d) 0] = data.take (at_ + 1) := by
      have l : (data.take at_).length = at_ := by rw [List.length_take]; omega
      have h5 := h4 0 (by omega)
      simp only [Nat.add_zero] at h5
      rw [l, List.take_succ_eq_append_getElem (by omega)]
      congr 2
      have : data.getD at_ 0 = data[at_] := by rw [List.getD_eq_getElem?_getD, List.getElem?_eq_getElem (by omega)]; rfl
      rw [← this, h5]
      simp only [List.getD_eq_getElem?_getD, List.getElem?_take]
      rw [if_pos (by omega)]
    rw [copy, e, copy_data data d n (at_ + 1) h1 (by omega) (by omega) (fun i hi => by have := h4 (i + 1) (by omega); rw [show at_ + 1 + i = at_ + (i + 1) by omega, show at_ + 1 - d + i = at_ - d + (i + 1) by omega]; exact this), show at_ + 1 + n = at_ + (n + 1) by omega]
/-- One step of a packer: bits that are unpacked to the next n bytes of the data. -/
def EncStep (data : List Nat) (k n : Nat) (p : List Bool) : Prop :=
  0 < n ∧ k + n ≤ data.length ∧ ∀ r most, part fixedC 32768 most (p ++ r) (data.take k) = if k + n ≤ most then .ok (true, r, data.take (k + n)) else .error 6
/-- What a packer has put for the first so many bytes of the data: whatever holds at the start and is kept by each step holds of it. -/
def Enc (data : List Nat) (k : Nat) (bs : List Bool) : Prop :=
  ∀ P : Nat → List Bool → Prop, P 0 [] → (∀ k n bs p, P k bs → EncStep data k n p → P (k + n) (bs ++ p)) → P k bs
theorem Enc.nil {data : List Nat} : Enc data 0 [] := fun _ h _ => h
theorem Enc.step {data : List Nat} {k n : Nat} {bs p : List Bool} (h : Enc data k bs) (hn : 0 < n) (hk : k + n ≤ data.length)
    (hp : ∀ r most, part fixedC 32768 most (p ++ r) (data.take k) = if k + n ≤ most then .ok (true, r, data.take (k + n)) else .error 6) : Enc data (k + n) (bs ++ p) :=
  fun P h0 h1 => h1 k n bs p (h P h0 h1) ⟨hn, hk, hp⟩
theorem Enc.ind {data : List Nat} {k : Nat} {bs : List Bool} (h : Enc data k bs) (Q : Nat → List Bool → Prop) (h0 : Q 0 []) (h1 : ∀ k n bs p, Enc data k bs → Q k bs → EncStep data k n p → Q (k + n) (bs ++ p)) : Q k bs :=
  (h (fun k bs => Enc data k bs ∧ Q k bs) ⟨Enc.nil, h0⟩ (fun k n bs p hh hs => ⟨hh.1.step hs.1 hs.2.1 hs.2.2, h1 k n bs p hh.1 hh.2 hs⟩)).2
theorem Enc.lit {data : List Nat} {k : Nat} {bs : List Bool} (h : Enc data k bs) (hk : k < data.length) (hb : ∀ x ∈ data, x < 256) : Enc data (k + 1) (bs ++ litBits (data.getD k 0)) := by
  refine h.step (by omega) (by omega) fun r most => ?_
  have e : data.getD k 0 = data[k] := by rw [List.getD_eq_getElem?_getD, List.getElem?_eq_getElem (by omega)]; rfl
  rw [part_lit _ _ _ (by rw [e]; exact hb _ (List.getElem_mem _)), List.length_take, Nat.min_eq_left (by omega), List.take_succ_eq_append_getElem (by omega), e]
theorem Enc.copy {data : List Nat} {k : Nat} {bs : List Bool} (h : Enc data k bs) (n d : Nat) (h3 : 3 ≤ n) (hn : n ≤ 258) (hd : 1 ≤ d) (hd2 : d ≤ 32768) (hdk : d ≤ k) (hk : k + n ≤ data.length)
    (hs : ∀ i, i < n → data.getD (k + i) 0 = data.getD (k - d + i) 0) : Enc data (k + n) (bs ++ copyBits n d) := by
  refine h.step (by omega) hk fun r most => ?_
  rw [part_copy n d _ _ h3 hn hd hd2 _ _ (by rw [List.length_take]; omega) hd2, List.length_take, Nat.min_eq_left (by omega), copy_data data d n k hd hdk hk hs]
end Go.Proofs.YtgkljcmjnphpeaaGreatDoor.Fo
namespace Go.Proofs.YtgkljcmjnphpeaaGreatDoor.Fo
/-- Parts up to the end of a block: the error, or what is left and what has come out. -/
def PartsTo (c : Codes) (window most : Nat) (r : List Bool) (out : List Nat) (res : Except Nat (List Bool × List Nat)) : Prop :=
  ∀ P : List Bool → List Nat → Except Nat (List Bool × List Nat) → Prop,
    (∀ r out e, part c window most r out = .error e → P r out (.error e)) →
    (∀ r out r' out', part c window most r out = .ok (false, r', out') → P r out (.ok (r', out'))) →
    (∀ r out r' out' res, part c window most r out = .ok (true, r', out') → P r' out' res → P r out res) → P r out res
section
variable {c : Codes} {window most : Nat} {r r' : List Bool} {out out' : List Nat} {res : Except Nat (List Bool × List Nat)}
theorem PartsTo.err {e : Nat} (h : part c window most r out = .error e) : PartsTo c window most r out (.error e) := fun _ h1 _ _ => h1 _ _ _ h
theorem PartsTo.stop (h : part c window most r out = .ok (false, r', out')) : PartsTo c window most r out (.ok (r', out')) := fun _ _ h2 _ => h2 _ _ _ _ h
theorem PartsTo.more (h : part c window most r out = .ok (true, r', out')) (k : PartsTo c window most r' out' res) : PartsTo c window most r out res := fun P h1 h2 h3 => h3 _ _ _ _ _ h (k P h1 h2 h3)
end
theorem part_end (window most : Nat) (r : List Bool) (out : List Nat) : part fixedC window most (codeBits tabF 256 ++ r) out = .ok (false, r, out) := by
  unfold part
  rw [fixedC_cs, fixedC_ss, sym_lit 256 (by omega)]
  simp
/-- What a packer has put is unpacked, as far as it goes. -/
theorem Enc.run {data : List Nat} {k most : Nat} {bs r : List Bool} {res} (h : Enc data k bs) (hm : k ≤ most) (hr : PartsTo fixedC 32768 most r (data.take k) res) : PartsTo fixedC 32768 most (bs ++ r) [] res := by
  refine h.ind (fun k bs => ∀ r, k ≤ most → PartsTo fixedC 32768 most r (data.take k) res → PartsTo fixedC 32768 most (bs ++ r) [] res) ?_ ?_ r hm hr
  · intro r _ hr
    simpa using hr
  · intro k n bs p _ ih hs r hm hr
    rw [List.append_assoc]
    refine ih _ (by omega) (.more (r' := r) (out' := data.take (k + n)) ?_ hr)
    rw [hs.2.2, if_pos hm]
/-- It is told where more would come out than may. -/
theorem Enc.cap {data : List Nat} {k most : Nat} {bs : List Bool} (h : Enc data k bs) (hm : most < k) (r : List Bool) : PartsTo fixedC 32768 most (bs ++ r) [] (.error 6) := by
  refine h.ind (fun k bs => most < k → ∀ r, PartsTo fixedC 32768 most (bs ++ r) [] (.error 6)) ?_ ?_ hm r
  · intro hm
    omega
  · intro k n bs p h ih hs hm r
    rw [List.append_assoc]
    by_cases c : most < k
    · exact ih c _
    · refine h.run (by omega) (.err ?_)
      rw [hs.2.2, if_neg (by omega)]
theorem Enc.whole {data : List Nat} {most : Nat} {bs : List Bool} (h : Enc data data.length bs) (hm : data.length ≤ most) (r : List Bool) : PartsTo fixedC 32768 most (bs ++ (codeBits tabF 256 ++ r)) [] (.ok (r, data)) := by
  refine h.run hm (.stop ?_)
  rw [part_end, List.take_length]
end Go.Proofs.YtgkljcmjnphpeaaGreatDoor.Fo
namespace Go.Proofs.YtgkljcmjnphpeaaGreatDoor
open Go.RowKit
variable {w : World}
/-- A writer of bits in memory, at the head of block bw (of type T, with the cells rest behind it): its bytes. -/
structure Wq (B bw T : Nat) (rest : List Value) (w : World) (ov : Value) (out : List Nat) (used : Nat) : Prop where
  hb : B ≤ bw
  hT : T ≠ 5
  blk : w.heap[bw]? = some (.cells (ov :: .int .i64 used :: rest).toArray T (0, 0))
  own : w.ownsRow B 5 1 ov out.length (out.map fun x : Nat => .int .u8 (x : Int))
/-- And the bits bs that they say. -/
structure Wr (B bw T : Nat) (rest : List Value) (w : World) (bs : List Bool) (ov : Value) (out : List Nat) (used : Nat) : Prop where
  q : Wq B bw T rest w ov out used
  bits : Fo.BW out used bs
variable {B bw T : Nat} {rest : List Value} {ov : Value} {out : List Nat} {used : Nat} {bs : List Bool}
theorem Wq.c0 (h : Wq B bw T rest w ov out used) : w.cell? ⟨bw, 0, none⟩ = some ov := by rw [cell_blk h.blk]; simp
theorem Wq.c1 (h : Wq B bw T rest w ov out used) : w.cell? ⟨bw, 1, none⟩ = some (.int .i64 used) := by rw [cell_blk h.blk]; simp
theorem Wq.fz (h : Wq B bw T rest w ov out used) (i : Nat) : w.frozen? ⟨bw, i, none⟩ = false := free_blk h.blk
theorem Wq.drewN (h : Wq B bw T rest w ov out used) (n : Nat) : Wq B bw T rest (w.drewN n) ov out used := ⟨h.hb, h.hT, h.blk, h.own⟩
theorem Wq.drew (h : Wq B bw T rest w ov out used) : Wq B bw T rest w.drew ov out used := ⟨h.hb, h.hT, h.blk, h.own⟩
theorem Wr.drew (h : Wr B bw T rest w bs ov out used) : Wr B bw T rest w.drew bs ov out used := ⟨h.q.drew, h.bits⟩
theorem Wr.drewN (h : Wr B bw T rest w bs ov out used) (n : Nat) : Wr B bw T rest (w.drewN n) bs ov out used := ⟨h.q.drewN n, h.bits⟩
theorem Wq.sz (h : Wq B bw T rest w ov out used) : B < w.heap.size := by have := h.hb; have := lt_of_block h.blk; omega
theorem Wq.set1 (h : Wq B bw T rest w ov out used) (u : Nat) : Wq B bw T rest (w.setCell ⟨bw, 1, none⟩ (.int .i64 u)) ov out u := by
  refine ⟨h.hb, h.hT, ?_, ?_⟩
  · rw [blk_setCell _ h.blk]; simp
  · exact ownsRow_setCell_other h.own (own_ne h.own h.blk h.hT) _
theorem own_form {w : World} {B e n size : Nat} {v : Value} {xs : List Value} (h : w.ownsRow B e size v n xs) (hn : 0 < n) : ∃ g c, v = .slice (some ⟨g, 0, none⟩) n c ∧ B ≤ g := by
  rcases h.2 with ⟨_, h0⟩ | ⟨g, cap, cur, hv, hb, _⟩
  · omega
  · exact ⟨g, cap, hv, hb⟩
/-- One byte laid over the last. -/
theorem Wq.put {g c : Nat} {pre : List Nat} {last : Nat} (h : Wq B bw T rest w (.slice (some ⟨g, 0, none⟩) (pre ++ [last]).length c) (pre ++ [last]) used) (x u : Nat) :
    Wq B bw T rest ((w.setCell ⟨g, pre.length, none⟩ (.int .u8 x)).setCell ⟨bw, 1, none⟩ (.int .i64 u)).drew (.slice (some ⟨g, 0, none⟩) (pre ++ [x]).length c) (pre ++ [x]) u ∧ Kept 5 B [bw] w ((w.setCell ⟨g, pre.length, none⟩ (.int .u8 x)).setCell ⟨bw, 1, none⟩ (.int .i64 u)).drew := by
  have hne : bw ≠ g := fun e => own_ne h.own h.blk h.hT (by rw [e]; rfl)
  obtain ⟨hBg, cur, fz, hrow⟩ := own_row h.own g rfl
  refine ⟨Wq.drew ⟨h.hb, h.hT, ?_, ?_⟩, Kept.drew ?_⟩
  · have h1 : (w.setCell ⟨g, pre.length, none⟩ (.int .u8 x)).heap[bw]? = some (.cells (Value.slice (some ⟨g, 0, none⟩) (pre ++ [last]).length c :: .int .i64 used :: rest).toArray T (0, 0)) := by rw [blk_setCell_ne _ hne]; exact h.blk
    rw [blk_setCell _ h1]; simp
  · have h2 := h.own.stored pre.length (.int .u8 x)
    have e1 : (((pre ++ [last]).map fun x : Nat => Value.int .u8 (x : Int)).set pre.length (.int .u8 x)) = ((pre ++ [x]).map fun x : Nat => Value.int .u8 (x : Int)) := by
      simp [List.set_append]
    rw [e1] at h2
    have e2 : (pre ++ [last]).length = (pre ++ [x]).length := by simp
    rw [e2] at h2
    exact ownsRow_setCell_other h2.1 (by simp [Value.ownBlock]; omega) _
  · refine Kept.setCell ?_ (by simp) _
    refine ⟨rfl, rfl, rfl, by simp [World.setCell], fun k o hk ho hc => ?_⟩
    rw [blk_setCell_ne _ (fun e => ?_)]
    · exact ho
    · subst e
      rw [hrow] at ho
      rcases hc with hc | hc
      · omega
      · exact hc cur fz (Option.some.inj ho).symm
/-- A row laid behind what there is. -/
theorem Wq.app {w1 : World} {v : Value} {xs : List Nat} (h : Wq B bw T rest w ov out used)
    (hown : w1.ownsRow B 5 1 v (out.length + xs.length) ((out.map fun x : Nat => .int .u8 (x : Int)) ++ (xs.map fun x : Nat => .int .u8 (x : Int)))) (hg : w.grownBy w1 ov.ownBlock) :
    Wq B bw T rest (w1.setCell ⟨bw, 0, none⟩ v) v (out ++ xs) used ∧ Kept 5 B [bw] w (w1.setCell ⟨bw, 0, none⟩ v) ∧ w1.cell? ⟨bw, 0, none⟩ = some ov ∧ w1.frozen? ⟨bw, 0, none⟩ = false := by
  have hk : w1.heap[bw]? = some (.cells (ov :: .int .i64 used :: rest).toArray T (0, 0)) := by
    rw [hg.block bw (lt_of_block h.blk) (fun c => own_ne h.own h.blk h.hT c.symm)]; exact h.blk
  refine ⟨⟨h.hb, h.hT, ?_, ?_⟩, ((Kept.refl 5 B [bw] w).grown hg (own_row h.own)).setCell (by simp) _, by rw [cell_blk hk]; simp, free_blk hk⟩
  · rw [blk_setCell _ hk]; simp
  · rw [List.length_append, List.map_append]
    exact ownsRow_setCell_other hown (own_ne hown hk h.hT) _
theorem Wq.alloc (h : Wq B bw T rest w ov out used) (o : Obj) : Wq B bw T rest (w.alloc o) ov out used := ⟨h.hb, h.hT, blk_alloc _ h.blk, h.own.alloc _⟩
theorem Wr.alloc (h : Wr B bw T rest w bs ov out used) (o : Obj) : Wr B bw T rest (w.alloc o) bs ov out used := ⟨h.q.alloc o, h.bits⟩
/-- A writer of bits in memory, and what it has been given. -/
def Wx (B bw T : Nat) (rest : List Value) (w : World) (bs : List Bool) : Prop := ∃ ov out used, Wr B bw T rest w bs ov out used
theorem Wx.drew (h : Wx B bw T rest w bs) : Wx B bw T rest w.drew bs := by obtain ⟨a, b, c, d⟩ := h; exact ⟨a, b, c, d.drew⟩
theorem Wx.drewN (h : Wx B bw T rest w bs) (n : Nat) : Wx B bw T rest (w.drewN n) bs := by obtain ⟨a, b, c, d⟩ := h; exact ⟨a, b, c, d.drewN n⟩
theorem Wx.alloc (h : Wx B bw T rest w bs) (o : Obj) : Wx B bw T rest (w.alloc o) bs := by obtain ⟨a, b, c, d⟩ := h; exact ⟨a, b, c, d.alloc o⟩
end Go.Proofs.YtgkljcmjnphpeaaGreatDoor
namespace Go.Proofs.YtgkljcmjnphpeaaGreatDoor
open Go.RowKit
/-- The first place from p on that is not white, or the end. -/
def skipGo (d : List Nat) : Nat → Nat → Nat
  | 0, p => p
  | f + 1, p => if p < d.length ∧ whiteB (nth d p) = true then skipGo d f (p + 1) else p
def skipW (d : List Nat) (p : Nat) : Nat := skipGo d (d.length - p) p
theorem skipGo_le (d : List Nat) : ∀ f p, p ≤ d.length → skipGo d f p ≤ d.length
  | 0, p, h => h
  | f + 1, p, h => by
    unfold skipGo
    split
    · rename_i c; exact skipGo_le d f (p + 1) (by omega)
    · exact h
theorem skipW_le {d : List Nat} {p : Nat} (h : p ≤ d.length) : skipW d p ≤ d.length := skipGo_le d _ p h
theorem skipW_step {d : List Nat} {p : Nat} (h : p < d.length) (hw : whiteB (nth d p) = true) : skipW d p = skipW d (p + 1) := by
  unfold skipW
  obtain ⟨f, hf⟩ : ∃ f, d.length - p = f + 1 := ⟨d.length - p - 1, by omega⟩
  rw [hf, show d.length - (p + 1) = f by omega]
  conv => lhs; unfold skipGo
  rw [if_pos ⟨h, hw⟩]
theorem skipW_stop {d : List Nat} {p : Nat} (h : ¬ (p < d.length ∧ whiteB (nth d p) = true)) : skipW d p = p := by
  unfold skipW
  cases d.length - p with
  | zero => rfl
  | succ f => unfold skipGo; rw [if_neg h]
/-- A string's bytes. -/
def bl (S : ByteArray) : List Nat := S.data.toList.map UInt8.toNat
theorem bl_len (S : ByteArray) : (bl S).length = S.size := by
  rw [bl, List.length_map, Array.length_toList]; rfl
theorem bl_nth (S : ByteArray) (i : Nat) (h : i < S.size) : (S[i]'h).toNat = nth (bl S) i := by
  have h2 : i < S.data.size := h
  simp only [bl, nth, List.getD_eq_getElem?_getD, List.getElem?_map]
  rw [List.getElem?_eq_getElem (by simpa using h2)]
  simp; rfl
theorem bl_lt (S : ByteArray) (i : Nat) (h : i < S.size) : nth (bl S) i < 256 := by
  rw [← bl_nth S i h]; exact UInt8.toNat_lt _
/-- Given up with an error. -/
def gaveUp (n : Int) : Ending := .panicked [{ v := .iface 58 (.int .i64 n), recovered := false }]
theorem white_ok (c : Nat) (w : World) : Calls Tryz.prog 250 #[.int .u8 c] w fun e w' => e = .returned (.bool (whiteB c)) ∧ w' = w := by
  have e : ((c : Int) == 0 || (c : Int) == 9 || (c : Int) == 10 || (c : Int) == 12 || (c : Int) == 13 || (c : Int) == 32) = whiteB c := by
    rw [Bool.eq_iff_iff]
    simp [whiteB]; omega
  have := is_white c w
  rw [e] at this
  exact this
theorem hexDigit_no (c : Nat) (w : World) (h : Fo.hexVal c = none) : Calls Tryz.prog 275 #[.int .u8 c] w fun e w' => ∃ v, e = .returned (.tuple #[.int .u8 v, .bool false]) ∧ w' = w := by
  unfold Fo.hexVal at h
  by_cases h1 : 48 ≤ c ∧ c ≤ 57
  · rw [if_pos h1] at h; cases h
  rw [if_neg h1] at h
  by_cases h2 : 97 ≤ c ∧ c ≤ 102
  · rw [if_pos h2] at h; cases h
  rw [if_neg h2] at h
  by_cases h3 : 65 ≤ c ∧ c ≤ 70
  · rw [if_pos h3] at h; cases h
  have n1 : (decide ((48 : Int) ≤ (c : Int)) && decide ((c : Int) ≤ 57)) = false := by simp; omega
  have n2 : (decide ((97 : Int) ≤ (c : Int)) && decide ((c : Int) ≤ 102)) = false := by simp; omega
  have n3 : (decide ((65 : Int) ≤ (c : Int)) && decide ((c : Int) ≤ 70)) = false := by simp; omega
  clear h h1 h2 h3
  go_enter Tryz.func275, Tryz.ntmps275
  go_wp2_with (go_at_call 216; refine (within_byte _ _ _ _).mono ?_; rintro e w' ⟨rfl, rfl⟩)
  go_ret2
  exact ⟨_, rfl, rfl⟩
theorem hexVal_lt16 {c a : Nat} (h : Fo.hexVal c = some a) : a < 16 := by
  unfold Fo.hexVal at h
  split at h
  · cases h; omega
  split at h
  · cases h; omega
  split at h
  · cases h; omega
  · cases h
theorem bl_tail (S : ByteArray) (k : Nat) : bl (S.extract k S.size) = (bl S).drop k := by
  unfold bl
  rw [ByteArray.data_extract, Array.toList_extract, List.extract_eq_take_drop, List.map_take, List.map_drop]
  rw [List.take_of_length_le (by rw [List.length_drop, List.length_map, Array.length_toList]; exact Nat.le_refl _)]
theorem bl_part (S : ByteArray) (k n : Nat) (h : k + n ≤ S.size) : bl (S.extract k (k + n)) = ((bl S).drop k).take n := by
  unfold bl
  rw [ByteArray.data_extract, Array.toList_extract, List.extract_eq_take_drop, List.map_take, List.map_drop]
  rw [show k + n - k = n by omega]
theorem addr_plus (b o i : Nat) : (⟨b, o, none⟩ : Addr).add i = ⟨b, o + i, none⟩ := by unfold Addr.add; split <;> simp_all
theorem own_off {w : World} {B e n size k : Nat} {v : Value} {xs : List Value} (h : w.ownsRow B e size v n xs) (hk : k < B) : some k ≠ v.ownBlock := fun he => absurd (h.lt k he.symm).1 (by omega)
theorem Dat.below {w : World} {B : Nat} {ao : Option Addr} {l : List Nat} {w' : World} (h : Dat w B ao l) (b : Below w.heap.size w w') : Dat w' B ao l := by
  intro i hi
  obtain ⟨c, o, h1, h2, h3⟩ := h i hi
  exact ⟨c, o, h1, h2, (b.cell (p := ⟨c, o + i, none⟩) (World.block_lt_of_cell? w _ h3)).trans h3⟩
theorem Dat.other {w w' : World} {B : Nat} {ao : Option Addr} {l : List Nat} (h : Dat w B ao l) (hb : ∀ k, k < B → w'.heap[k]? = w.heap[k]?) : Dat w' B ao l := by
  intro i hi
  obtain ⟨b, o, h1, h2, h3⟩ := h i hi
  exact ⟨b, o, h1, h2, by rw [World.cell?_of_block (w := w) (hb b h2)]; exact h3⟩
theorem own_below {B : Nat} {e : TypeId} {k : Nat} {v : Value} {n : Nat} {xs : List Value} {w w' : World} (h : w.ownsRow B e k v n xs) (b : Below w.heap.size w w') : w'.ownsRow B e k v n xs := by
  obtain ⟨h1, h2⟩ := h
  refine ⟨h1, ?_⟩
  rcases h2 with h2 | ⟨g, c, cur, e1, e2, hh, hc⟩
  · exact Or.inl h2
  · exact Or.inr ⟨g, c, cur, e1, e2, by rw [b.block _ (lt_of_block hh)]; exact hh, hc⟩
end Go.Proofs.YtgkljcmjnphpeaaGreatDoor
namespace Go.Proofs.YtgkljcmjnphpeaaGreatDoor
open Go.RowKit
/-- Does a byte end what stands ahead of it, with a meaning of its own? -/
def markB (c : Nat) : Bool := c == 40 || c == 41 || c == 60 || c == 62 || c == 91 || c == 93 || c == 123 || c == 125 || c == 47 || c == 37
/-- May a byte be a part of a word? -/
def plainB (c : Nat) : Bool := !whiteB c && !markB c
namespace Fo
/-- White and comments are left out; are we within a comment? -/
def skipC : Bool → List Nat → List Nat
  | _, [] => []
  | false, b :: r => if whiteB b then skipC false r else if b = 37 then skipC true r else b :: r
  | true, b :: r => if b = 10 ∨ b = 13 then skipC false r else skipC true r
def skip (r : List Nat) : List Nat := skipC false r
def skipLine : List Nat → List Nat
  | [] => []
  | b :: r => if b = 10 ∨ b = 13 then b :: r else skipLine r
/-- These bytes are stepped over, if they come. -/
def takes (s r : List Nat) : Option (List Nat) := if s.isPrefixOf r then some (r.drop s.length) else none
def wordOf (r : List Nat) : List Nat := (skip r).takeWhile plainB
def wordRest (r : List Nat) : List Nat := (skip r).dropWhile plainB
def takesWord (s r : List Nat) : Option (List Nat) := if wordOf r = s then some (wordRest r) else none
def lineEnd (r : List Nat) : Option (List Nat) := (takes [13, 10] r).or ((takes [10] r).or (takes [13] r))
theorem skipC_len : ∀ (b : Bool) (r : List Nat), (skipC b r).length ≤ r.length
  | b, [] => by cases b <;> simp [skipC]
  | false, x :: r => by
    simp only [skipC]
    have h1 := skipC_len false r
    have h2 := skipC_len true r
    split
    · simp only [List.length_cons]; omega
    · split
      · simp only [List.length_cons]; omega
      · exact Nat.le_refl _
  | true, x :: r => by
    simp only [skipC]
    have h1 := skipC_len false r
    have h2 := skipC_len true r
    split <;> simp only [List.length_cons] <;> omega
theorem skip_len (r : List Nat) : (skip r).length ≤ r.length := skipC_len false r
theorem skipLine_len : ∀ r : List Nat, (skipLine r).length ≤ r.length
  | [] => Nat.le_refl _
  | b :: r => by
    have := skipLine_len r
    simp only [skipLine]
    split
    · exact Nat.le_refl _
    · simp only [List.length_cons]; omega
theorem skipC_line : ∀ r : List Nat, skipC true r = skipC false (skipLine r)
  | [] => rfl
  | b :: r => by
    simp only [skipC, skipLine]
    by_cases h : b = 10 ∨ b = 13
    · rw [if_pos h, if_pos h]
      have hw : whiteB b = true := by rcases h with rfl | rfl <;> rfl
      simp only [skipC, hw, if_true]
    · rw [if_neg h, if_neg h]; exact skipC_line r
theorem skip_white : ∀ r : List Nat, skip r = skip (r.dropWhile whiteB)
  | [] => rfl
  | b :: r => by
    unfold skip
    rw [List.dropWhile_cons]
    cases h : whiteB b
    · rfl
    · simp only [skipC, h, if_true]
      exact skip_white r
theorem skip_percent (r : List Nat) : skip (37 :: r) = skip (skipLine r) := by
  unfold skip
  rw [← skipC_line]
  simp [skipC, show whiteB 37 = false from rfl]
theorem skip_stop {b : Nat} {r : List Nat} (h1 : whiteB b = false) (h2 : b ≠ 37) : skip (b :: r) = b :: r := by
  unfold skip
  simp [skipC, h1, h2]
theorem takes_len {s r q : List Nat} (h : takes s r = some q) : q.length + s.length = r.length ∧ r.drop s.length = q := by
  unfold takes at h
  by_cases hp : s.isPrefixOf r = true
  · rw [if_pos hp] at h
    have := (List.isPrefixOf_iff_prefix.1 hp).length_le
    cases h
    exact ⟨by rw [List.length_drop]; omega, rfl⟩
  · rw [if_neg hp] at h; cases h
theorem dropWhile_len {p : Nat → Bool} (r : List Nat) : (r.dropWhile p).length ≤ r.length := (List.dropWhile_suffix p).length_le
end Fo
end Go.Proofs.YtgkljcmjnphpeaaGreatDoor
namespace Go.Proofs.YtgkljcmjnphpeaaGreatDoor
open Go.RowKit
variable {B : Nat} {w : World}
/-- The string of bytes. -/
def strN (l : List Nat) : ByteArray := ⟨(l.map UInt8.ofNat).toArray⟩
theorem foldl_strN : ∀ (l : List Nat) (r : ByteArray), (l.map (fun x : Nat => (x : Int))).foldl (fun r n => r.push (UInt8.ofNat n.toNat)) r = ⟨r.data ++ (l.map UInt8.ofNat).toArray⟩
  | [], r => by simp
  | b :: l, r => by
    simp only [List.map_cons, List.foldl_cons]
    rw [foldl_strN l]
    simp [ByteArray.push]
theorem string_cells (a : Addr) (cap : Nat) (l : List Nat) (hc : ∀ j, j < l.length → w.cell? (a.add j) = some (.int .u8 (nth l j : Nat))) :
    (convert 23 9 (.slice (some a) l.length cap)).run Tryz.prog w = .ok (.string (strN l)) w := by
  rw [run_convert_bytes_string w 23 9 5 (some a) l.length cap Tryz.underlying23 Tryz.underlying5 Tryz.underlying9]
  have hl := run_loadCells_list (P := Tryz.prog) w a ((l.map (fun b : Nat => (b : Int))).map (Value.int .u8)) (fun j v hj => by
    have hj' : j < l.length := by
      have := (List.getElem?_eq_some_iff.1 hj).1
      simpa using this
    rw [hc j hj']
    simp [List.getElem?_eq_getElem hj'] at hj
    rw [← hj]
    simp [nth, List.getElem?_eq_getElem hj'])
  simp only [List.length_map] at hl
  rw [run_bytesToString w a l.length cap _ hl, foldl_strN]
  have he0 : ByteArray.empty.data = #[] := rfl
  rw [he0]
  simp [strN]
theorem string_own {v : Value} {l : List Nat} (h : w.ownsRow B 5 1 v l.length (l.map fun x : Nat => .int .u8 (x : Int))) :
    (convert 23 9 v).run Tryz.prog w = .ok (.string (strN l)) w := by
  rcases Nat.eq_zero_or_pos l.length with h0 | h0
  · obtain ⟨ao, c, rfl⟩ := own_slice h
    have hl : l = [] := List.length_eq_zero_iff.1 h0
    subst hl
    cases ao with
    | none =>
      show (convert 23 9 (.slice none 0 c)).run Tryz.prog w = _
      rw [run_convert_bytes_string w 23 9 5 none 0 c Tryz.underlying23 Tryz.underlying5 Tryz.underlying9]
      rfl
    | some a => exact string_cells a c [] (fun j hj => by cases hj)
  · obtain ⟨g, c, rfl, _⟩ := own_form h h0
    refine string_cells ⟨g, 0, none⟩ c l (fun j hj => ?_)
    have hx := h.cellAt j (by omega)
    rw [List.getElem?_map, List.getElem?_eq_getElem hj] at hx
    simp only [Option.map_some] at hx
    rw [addr_add]
    rw [show nth l j = l[j] by simp [nth, List.getElem?_eq_getElem hj]]
    simpa using hx
theorem strN_bl (S : ByteArray) : strN (bl S) = S := by
  unfold strN bl
  rw [List.map_map]
  have : (UInt8.ofNat ∘ UInt8.toNat) = id := by funext x; simp
  rw [this, List.map_id, Array.toArray_toList]
end Go.Proofs.YtgkljcmjnphpeaaGreatDoor
