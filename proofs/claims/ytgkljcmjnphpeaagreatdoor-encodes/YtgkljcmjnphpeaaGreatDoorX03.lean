/- The document's answer: Do, filter 2. -/
import Derived.Test.YtgkljcmjnphpeaaGreatDoorX02
import Derived.WalkKit
import Derived.Laws.BitsAllLaws
import Derived.BigRegion
import Derived.StillTailTactics
import Derived.Deep.MidRow
import Derived.MapKept
import Derived.Laws.AppendOwnNone
set_option linter.unusedVariables false
set_option linter.unusedSimpArgs false
namespace Go.Proofs.YtgkljcmjnphpeaaGreatDoor
open Go.RowKit
variable {w : World}
/-- What alike answers. -/
def AlikeRes (X : ByteArray) (e : Ending) : Prop := ∃ b : Bool, e = .returned (.bool b) ∧ (b = true → Alike (bl X))
set_option maxRecDepth 100000 in
set_option maxHeartbeats 1000000 in
theorem alike_ok (X : ByteArray) (hX : X.size ≤ 1000000) :
    Calls Tryz.prog 78 #[.string X] w fun e w' => AlikeRes X e ∧ Below w.heap.size w w' := by
  have H0 : Hid (∀ i, i < 1 → i < X.size → nth (bl X) i = nth (bl X) 0) := fun i hi _ => by
    obtain rfl : i = 0 := by omega
    rfl
  have hl := hide (bl_len X)
  go_enter Tryz.func78, Tryz.ntmps78
  go_wp2
  go_loopw [3] (fun i wr => ∃ k : Nat, 1 ≤ k ∧ k ≤ X.size + 1 ∧ i = .int .i64 k ∧ Hid (∀ i, i < k → i < X.size → nth (bl X) i = nth (bl X) 0) ∧ Below w.heap.size w wr) (fun i _ => X.size + 1 - (intOf i).toNat)
  case atStart => exact ⟨1, by omega, by omega, rfl, H0, Below.refl _ _⟩
  case round =>
    obtain ⟨k, hk1, hkX, rfl, HG, bb⟩ := hrel
    by_cases t1 : k < X.size
    · have t1I : (k : Int) < X.size := by omega
      have h0I : (0 : Int) < X.size := by omega
      have hx := bl_nth X k t1
      have hx0 := bl_nth X 0 (by omega)
      by_cases t3 : nth (bl X) k = nth (bl X) 0
      · have HG2 : Hid (∀ i, i < k + 1 → i < X.size → nth (bl X) i = nth (bl X) 0) := fun i h1 h2 => by
          by_cases c : i = k
          · subst c; exact t3
          · exact HG.out i (by omega) h2
        have t3' : ((nth (bl X) k : Int) == (nth (bl X) 0 : Int)) = true := by simp [t3]
        obtain ⟨a, ha⟩ : ∃ a, nth (bl X) k = a := ⟨_, rfl⟩
        obtain ⟨b, hb⟩ : ∃ b, nth (bl X) 0 = b := ⟨_, rfl⟩
        rw [ha] at hx t3'
        rw [hb] at hx0 t3'
        clear t3 HG ha hb
        go_wp2_with fail
        go_quiet (fail)
        go_wp2
        go_roundw
        case rel => exact ⟨k + 1, by omega, by omega, by go_num, HG2, below_drewN bb _⟩
        case measure => simp [intOf]; omega
      · have t3' : ((nth (bl X) k : Int) == (nth (bl X) 0 : Int)) = false := by simp; omega
        obtain ⟨a, ha⟩ : ∃ a, nth (bl X) k = a := ⟨_, rfl⟩
        obtain ⟨b, hb⟩ : ∃ b, nth (bl X) 0 = b := ⟨_, rfl⟩
        rw [ha] at hx t3'
        rw [hb] at hx0 t3'
        clear t3 HG ha hb
        go_wp2_with fail
        go_quiet (fail)
        go_wp2
        go_ret
        exact ⟨⟨false, rfl, by simp⟩, below_drewN bb _⟩
    · have t1I : ¬ (k : Int) < X.size := by omega
      have HA : Hid (Alike (bl X)) := fun i hi => HG.out i (by rw [hl.out] at hi; omega) (by rw [hl.out] at hi; exact hi)
      clear HG
      go_wp2
      go_ret
      exact ⟨⟨true, rfl, fun _ => HA.out⟩, bb⟩
theorem quoN (a b : Nat) (x y : Int) (hx : x = (a : Int)) (hy : y = (b : Int)) : Int.tdiv x y = ((a / b : Nat) : Int) := by
  subst hx; subst hy; rfl
set_option maxRecDepth 100000 in
set_option maxHeartbeats 1000000 in
theorem short_ok (n : Nat) (X : ByteArray) (hX : X.size ≤ 1000000) (h1 : n ≤ X.size + 11 + (X.size + 65534) / 65535 * 5) (h2 : Alike (bl X) → n ≤ 60 + X.size / 100) :
    Calls Tryz.prog 38 #[.int .i64 n, .string X] w fun e w' => e = .returned (.bool true) ∧ Below w.heap.size w w' := by
  have H2 := hide h2
  clear h2
  have q1 : Int.tdiv ((X.size : Int) + 65534) 65535 = (((X.size + 65534) / 65535 : Nat) : Int) := quoN (X.size + 65534) 65535 _ _ (by omega) rfl
  have q2 : Int.tdiv (X.size : Int) 100 = ((X.size / 100 : Nat) : Int) := quoN X.size 100 _ _ rfl rfl
  have hq1 : (X.size + 65534) / 65535 ≤ 20 := by omega
  have hq2 : X.size / 100 ≤ 10000 := by omega
  generalize hQ1 : (X.size + 65534) / 65535 = Q1 at *
  generalize hQ2 : X.size / 100 = Q2 at *
  clear hQ1 hQ2
  have hn : ¬ ((X.size : Int) + 11 + (Q1 : Int) * 5 < (n : Int)) := by omega
  go_enter Tryz.func38, Tryz.ntmps38
  go_wp2_with fail
  refine (alike_ok X hX).mono ?_
  rintro e w1 ⟨⟨b, rfl, hb⟩, b1⟩
  have HB := hide hb
  clear hb
  cases b
  · clear H2 HB
    go_wp2
    go_ret
    exact ⟨rfl, b1⟩
  · have h3 := H2.out (HB.out rfl)
    have h3' : (n : Int) ≤ 60 + (Q2 : Int) := by omega
    clear H2 HB
    go_wp2
    go_ret
    exact ⟨rfl, b1⟩
set_option maxRecDepth 100000 in
theorem encodeNo (f : Int) (hf : f < 1 ∨ 4 < f) (a : Option Addr) (n c : Nat) (w : World) :
    Calls Tryz.prog 33 #[.int .i64 f, .slice a n c] w fun e w' => e = .returned (.tuple #[.slice none 0 0, .int .i64 1]) ∧ w' = w := by
  go_enter Tryz.func33, Tryz.ntmps33
  go_wp2_with (go_at_call 63; refine (within_int_no _ _ _ _ hf).mono ?_; rintro e w' ⟨rfl, rfl⟩)
  exact bodyPost_ret (v := .tuple #[.slice none 0 0, .int .i64 1]) (by simp [results, Tryz.results33, go_sem]) rfl ⟨rfl, rfl⟩
set_option maxRecDepth 100000 in
set_option maxHeartbeats 1000000 in
theorem encodeLong (f : Int) (h1 : 1 ≤ f) (h4 : f ≤ 4) (a : Option Addr) (n c : Nat) (hn : 200000 < n) (w : World) :
    Calls Tryz.prog 33 #[.int .i64 f, .slice a n c] w fun e w' => e = .returned (.tuple #[.slice none 0 0, .int .i64 3]) ∧ w' = w := by
  have HW := hide (within_int_no (n : Int) 0 200000 w (Or.inr (by omega)))
  clear hn
  go_enter Tryz.func33, Tryz.ntmps33
  go_wp2_with fail
  refine (within_int_yes f 1 4 _ h1 h4).mono ?_
  rintro e w' ⟨rfl, rfl⟩
  go_wp2_with fail
  refine HW.out.mono ?_
  rintro e w' ⟨rfl, rfl⟩
  go_wp2
  exact bodyPost_ret (v := .tuple #[.slice none 0 0, .int .i64 3]) (by simp [results, Tryz.results33, go_sem]) rfl ⟨rfl, rfl⟩
theorem below_keptG {w2 w3 : World} {g S : Nat} (k3 : Kept 5 w2.heap.size [g] w2 w3) (hg : S ≤ g) (hs : S ≤ w2.heap.size) : Below S w2 w3 :=
  ⟨k3.os, k3.tape, k3.output, k3.size, fun k hk => by
    cases hk2 : w2.heap[k]? with
    | none => simp at hk2; omega
    | some o => exact k3.block k o (by simp; omega) hk2 (Or.inl (by omega))⟩
set_option maxRecDepth 100000 in
set_option maxHeartbeats 1000000 in
theorem done_no (f : Int) (hf : f < 1 ∨ 4 < f) (S : ByteArray) (hS : S.size ≤ 140737488351232) :
    Calls Tryz.prog 13 #[.int .i64 f, .string S] w fun e w' => e = .returned (.tuple #[.slice none 0 0, .bool true]) ∧ Below w.heap.size w w' := by
  have hSN : (S.size : Int) ≤ (S.size : Int) + 8 := by omega
  go_enter Tryz.func13, Tryz.ntmps13
  go_wp2_with fail
  refine (lent_ok S (by omega)).mono ?_
  rintro e w1 ⟨g, rfl, hg, b1, hgw⟩
  go_wp2_with fail
  refine (encodeNo f hf _ _ _ _).mono ?_
  rintro e w2 ⟨rfl, rfl⟩
  have HK := hide (kept_law S (by omega) g hg)
  go_wp2_with fail
  refine HK.out.mono ?_
  rintro e w3 ⟨rfl, k3⟩
  have HB := hide (b1.trans (below_keptG k3 hgw b1.size))
  clear HK k3 hg b1
  rcases hf with hf | hf
  · go_wp2_with (go_at_call 35; refine (num_ok _ _).mono ?_; rintro e w' ⟨rfl, rfl⟩)
    go_ret2
    exact ⟨rfl, HB.out⟩
  · have hf' : ¬ f < 1 := by omega
    go_wp2_with (go_at_call 35; refine (num_ok _ _).mono ?_; rintro e w' ⟨rfl, rfl⟩)
    go_ret2
    exact ⟨rfl, HB.out⟩
set_option maxRecDepth 100000 in
set_option maxHeartbeats 1000000 in
theorem done_long (f : Int) (h1 : 1 ≤ f) (h4 : f ≤ 4) (S : ByteArray) (hS : S.size ≤ 140737488351232) (hL : 200000 < S.size) :
    Calls Tryz.prog 13 #[.int .i64 f, .string S] w fun e w' => e = .returned (.tuple #[.slice none 0 0, .bool true]) ∧ Below w.heap.size w w' := by
  have hSN : (S.size : Int) ≤ (S.size : Int) + 8 := by omega
  have hf1 : ¬ f < 1 := by omega
  have hf4 : ¬ 4 < f := by omega
  have hL' : (200000 : Int) < S.size := by omega
  go_enter Tryz.func13, Tryz.ntmps13
  go_wp2_with fail
  refine (lent_ok S (by omega)).mono ?_
  rintro e w1 ⟨g, rfl, hg, b1, hgw⟩
  go_wp2_with fail
  refine (encodeLong f h1 h4 _ _ _ hL _).mono ?_
  rintro e w2 ⟨rfl, rfl⟩
  have HK := hide (kept_law S (by omega) g hg)
  go_wp2_with fail
  refine HK.out.mono ?_
  rintro e w3 ⟨rfl, k3⟩
  have HB := hide (b1.trans (below_keptG k3 hgw b1.size))
  clear HK k3 hg b1
  go_wp2_with (go_at_call 35; refine (num_ok _ _).mono ?_; rintro e w' ⟨rfl, rfl⟩)
  go_ret2
  exact ⟨rfl, HB.out⟩
theorem flOut_len (data bl : List Nat) : (flOut data bl).length = bl.length + 6 := by
  unfold flOut sum4; simp
theorem bl_strN (l : List Nat) (h : ∀ x ∈ l, x < 256) : bl (strN l) = l := by
  unfold bl strN
  simp only [List.map_map]
  have : l.map (UInt8.toNat ∘ UInt8.ofNat) = l.map id := List.map_congr_left (fun x hx => by simp [Nat.mod_eq_of_lt (h x hx)])
  simpa using this
theorem flOut_byte {data bl : List Nat} (h : ∀ x ∈ bl, x < 256) : ∀ x ∈ flOut data bl, x < 256 := by
  intro x hx
  unfold flOut at hx
  rcases List.mem_append.1 hx with hx | hx
  · rcases List.mem_append.1 hx with hx | hx
    · simp at hx; omega
    · exact h x hx
  · exact sum4_byteE data x hx
set_option maxRecDepth 100000 in
set_option maxHeartbeats 1000000 in
theorem done_flate (S : ByteArray) (hS : S.size ≤ 200000) :
    Calls Tryz.prog 13 #[.int .i64 4, .string S] w fun e w' => ∃ v B out, e = .returned (.tuple #[v, .bool true]) ∧ SRow B v out (strN out) #[] w' ∧ Below w.heap.size w w' := by
  have hSN : (S.size : Int) ≤ (S.size : Int) + 8 := by omega
  have hS' : ¬ (200000 : Int) < S.size := by omega
  go_enter Tryz.func13, Tryz.ntmps13
  go_wp2_with fail
  refine (lent_ok S (by omega)).mono ?_
  rintro e w1 ⟨g, rfl, hg, b1, hgw⟩
  have HE := hide (encode4_all (w := w1) (cap := S.size + 8) (lent_dat hg) (Nat.le_refl _) (fun i hi => by rw [bl_len] at hi; exact bl_lt S i hi) (by rw [bl_len]; exact hS) (by rw [bl_len]; omega) (by simp))
  rw [bl_len] at HE
  have hg1 := lt_of_block hg
  go_wp2_with fail
  refine HE.out.mono ?_
  rintro e w2 ⟨v, rfl, L, ho2, b2, hP, hlo, hhi, hbyt, hfew⟩
  obtain ⟨ao, oc, rfl⟩ := own_slice ho2
  have hg2 : w2.heap[g]? = some (.cells (u8s (lentB S)).toArray 5 (0, 0)) := by rw [b2.block _ hg1]; exact hg
  have HK := hide (kept_law S (by omega) g hg2)
  have hLB : bl (strN (flOut (bl S) L)) = flOut (bl S) L := bl_strN _ (flOut_byte hbyt)
  have hTs : (strN (flOut (bl S) L)).size = L.length + 6 := by rw [← bl_len, hLB, flOut_len]
  have HU : Hid (∀ W : World, Calls Tryz.prog 37 #[.int .i64 4, .string (strN (flOut (bl S) L)), .int .i64 S.size] W fun x w' => x = .returned (.tuple #[.string S, .int .i64 0]) ∧ Below W.heap.size W w') := fun W => by
    have h := rundo_ok (w := W) (S := strN (flOut (bl S) L)) (most := S.size) 4 (by rw [hTs]; rw [bl_len] at hhi; omega) (by omega) (res := .ok (bl S)) (by rw [hLB]; exact undo_packed hP S.size (by rw [bl_len]; exact Nat.le_refl _))
    rw [show resV (.ok (bl S)) = .tuple #[.string S, .int .i64 0] by rw [show resV (.ok (bl S)) = .tuple #[.string (strN (bl S)), .int .i64 0] from rfl, strN_bl]] at h
    exact h
  have HSH : Hid (∀ W : World, Calls Tryz.prog 38 #[.int .i64 (flOut (bl S) L).length, .string S] W fun e w' => e = .returned (.bool true) ∧ Below W.heap.size W w') := fun W => by
    have f1 := hfew.few
    have f2 := hfew.alike
    rw [bl_len] at f1 f2
    refine short_ok _ S (by omega) (by rw [flOut_len]; omega) (fun ha => ?_)
    have := f2 ha
    rw [flOut_len]; omega
  clear HE hP hfew hbyt hLB hTs
  go_wp2_with fail
  refine HK.out.mono ?_
  rintro e w3 ⟨rfl, k3⟩
  have ho3 := own_keptG ho2 k3 hg1
  have hB : Hid (Below w.heap.size w w3) := (b1.trans (b2.mono b1.size)).trans (below_keptG k3 hgw (Nat.le_trans b1.size b2.size))
  generalize hO : flOut (bl S) L = out at *
  have HR : Hid (SRow w1.heap.size (.slice ao out.length oc) out (strN out) #[] w3) := ⟨ho3, rfl⟩
  have hcv := HR.out.conv
  clear b1 b2 k3 ho2 ho3 HK hg hg2 hO hlo hhi
  generalize w1.heap.size = B1 at *
  generalize hT : strN out = T at *
  generalize hnn : out.length = n at *
  have HN := hide (And.intro hT hnn)
  clear hT hnn
  have hsz := hide hB.out.size
  go_wp2_with fail
  refine (HU.out _).mono ?_
  rintro e w4 ⟨rfl, b4⟩
  have HR4 : Hid (SRow B1 (.slice ao n oc) out T #[] w4) := HR.out.below b4
  have HB4 := hide (hB.out.trans (b4.mono hsz.out))
  clear HU HR hcv hB b4
  go_wp2_with fail
  refine (HSH.out _).mono ?_
  rintro e w5 ⟨rfl, b5⟩
  have HR5 : Hid (SRow B1 (.slice ao n oc) out T #[] w5) := HR4.out.below b5
  have HB5 := hide (HB4.out.trans (b5.mono HB4.out.size))
  clear HSH HR4 HB4 b5
  go_wp2_with (go_at_call 35; refine (num_ok _ _).mono ?_; rintro e w' ⟨rfl, rfl⟩)
  go_ret2
  exact ⟨_, B1, out, rfl, by rw [HN.out.1]; exact HR5.out, HB5.out⟩
end Go.Proofs.YtgkljcmjnphpeaaGreatDoor
namespace Go.Proofs.YtgkljcmjnphpeaaGreatDoor
open Go.RowKit
variable {w : World}
/-- The first bytes, counted. -/
def pre85 (l : List Nat) : Nat → Nat
  | 0 => 0
  | j + 1 => 256 * pre85 l j + nth l j
theorem nth_far (l : List Nat) (i : Nat) (h : l.length ≤ i) : nth l i = 0 := by simp [nth, List.getElem?_eq_none h]
theorem pre85_lt (l : List Nat) (h : ∀ i, i < l.length → nth l i < 256) : ∀ k, k ≤ 4 → pre85 l k ≤ 256 ^ k - 1
  | 0, _ => by simp [pre85]
  | k + 1, hk => by
    have h1 := pre85_lt l h k (by omega)
    have h2 : nth l k < 256 := by
      rcases Nat.lt_or_ge k l.length with c | c
      · exact h k c
      · rw [nth_far l k c]; omega
    have h3 : 0 < 256 ^ k := Nat.pow_pos (by omega)
    rw [Nat.pow_succ]
    unfold pre85
    omega
theorem pre85_le (l : List Nat) (h : ∀ i, i < l.length → nth l i < 256) (k : Nat) (hk : k ≤ 4) : pre85 l k ≤ 4294967295 := by
  have h1 := pre85_lt l h k hk
  have h2 : 256 ^ k ≤ 256 ^ 4 := Nat.pow_le_pow_right (by omega) hk
  have h3 : (256 : Nat) ^ 4 = 4294967296 := by decide
  omega
/-- The first group. -/
def grp85 (l : List Nat) : List Nat := if 4 ≤ l.length ∧ pre85 l 4 = 0 then [122] else (dig5 (pre85 l 4)).take (min 4 l.length + 1)
theorem grp85_eq (X : ByteArray) (V : Nat) (hV : pre85 (bl X) 4 = V) : grp85 (bl X) = if 4 ≤ X.size ∧ V = 0 then [122] else (dig5 V).take (min 4 X.size + 1) := by
  unfold grp85; rw [hV, bl_len]
theorem dig5_nth (V : Nat) (h : V ≤ 4294967295) : ∀ k, k < 5 → nth (dig5 V) k = 33 + V / 85 ^ (4 - k) % 85 ∧ V / 85 ^ (4 - k) / 85 = V / 85 ^ (5 - k) := by
  intro k hk
  have hV : V / 52200625 % 85 = V / 52200625 := Nat.mod_eq_of_lt (by omega)
  match k, hk with
  | 0, _ => exact ⟨by show 33 + V / 52200625 = 33 + V / 52200625 % 85; rw [hV], by rw [Nat.div_div_eq_div_mul]⟩
  | 1, _ => exact ⟨rfl, by rw [Nat.div_div_eq_div_mul]⟩
  | 2, _ => exact ⟨rfl, by rw [Nat.div_div_eq_div_mul]⟩
  | 3, _ => exact ⟨rfl, by rw [Nat.div_div_eq_div_mul]⟩
  | 4, _ => exact ⟨by show 33 + V % 85 = 33 + V / 1 % 85; rw [Nat.div_one], by rw [Nat.div_div_eq_div_mul]⟩
theorem own_take5 {W : World} {B g : Nat} {l : List Nat} (hh : W.heap[g]? = some (.cells (u8s l).toArray 5 (0, 0))) (hl : l.length = 5) (K : Nat) (hK : K ≤ 4) (hB : B ≤ g) (v : Value) (hv : v = .slice (some ⟨g, 0, none⟩) (K + 1) 5) :
    W.ownsRow B 5 1 v (l.take (K + 1)).length ((l.take (K + 1)).map fun x : Nat => .int .u8 (x : Int)) := by
  subst hv
  have e : (l.take (K + 1)).length = K + 1 := by rw [List.length_take]; omega
  rw [e]
  refine ⟨by rw [List.length_map, e, Nat.mul_one], Or.inr ⟨g, 5, _, rfl, hB, hh, by omega, by unfold maxLen; omega, by simp [u8s, hl], ?_⟩⟩
  simp [u8s, List.map_take]
theorem cz_cases (K V : Nat) (h : ¬ (K = 4 ∧ V = 0)) : K ≠ 4 ∨ (K = 4 ∧ V ≠ 0) := by omega
set_option maxRecDepth 100000 in
set_option maxHeartbeats 1000000 in
theorem digits85_ok (X : ByteArray) (h0 : 0 < X.size) :
    Calls Tryz.prog 71 #[.string X] w fun e w' => ∃ v, e = .returned v ∧ w'.ownsRow w.heap.size 5 1 v (grp85 (bl X)).length ((grp85 (bl X)).map fun x : Nat => .int .u8 (x : Int)) ∧ Below w.heap.size w w' := by
  obtain ⟨i0, hi, hz0, hz1, hz2⟩ := info_parts Tryz.infoByte
  have HV := hide (pre85_le (bl X) (fun i hi => by rw [bl_len] at hi; exact bl_lt X i hi))
  have HS : Hid (∀ k, pre85 (bl X) (k + 1) = 256 * pre85 (bl X) k + nth (bl X) k) := fun k => rfl
  obtain ⟨V, hV⟩ : ∃ V, pre85 (bl X) 4 = V := ⟨_, rfl⟩
  have HVV := hide hV
  obtain ⟨G, hG⟩ : ∃ G, grp85 (bl X) = G := ⟨_, rfl⟩
  rw [hG]
  have HGG := hide hG
  clear hG
  go_enter Tryz.func71, Tryz.ntmps71
  by_cases hX : 4 < X.size
  · have hc : (4 : Int) < X.size := by omega
    go_wp2
    go_loopw [4, 5] (fun n i wr => ∃ k : Nat, k ≤ 4 ∧ i = .int .i64 k ∧ n = .int .i64 (pre85 (bl X) k : Nat) ∧ wr = w) (fun _ i _ => 4 - (intOf i).toNat)
    case atStart => exact ⟨0, by omega, rfl, rfl, rfl⟩
    case round =>
      obtain ⟨k, hk, rfl, rfl, rfl⟩ := hrel
      have hv := HV.out k hk
      have hs := HS.out k
      by_cases c4 : k < 4
      · have c4' : (k : Int) < 4 := by omega
        by_cases ck : k < 4
        · have ck' : (k : Int) < 4 := by omega
          have ckS : k < X.size := by omega
          have ckS' : (k : Int) < X.size := by omega
          have hx := bl_nth X k ckS
          have hb := bl_lt X k ckS
          generalize nth (bl X) k = b at *
          generalize pre85 (bl X) k = n at *
          have HS1 := hide hs
          clear hs
          go_wp2
          go_roundw
          case rel => exact ⟨k + 1, by omega, by go_num, by rw [HS1.out]; go_num, by trivial⟩
          case measure => simp [intOf]; omega
        · exact absurd c4 ck
      · obtain rfl : k = 4 := by omega
        rw [HVV.out] at hv ⊢
        have HB := hide hv
        clear hv hs
        have hgrp := hide (grp85_eq X V hV)
        by_cases cz : 4 = 4 ∧ V = 0
        · have cz1 : ((4 : Int) == 4) = true := by first | rfl | (simp; omega)
          have cz2 : ((V : Int) == 0) = true := by simp; omega
          have hg1 : grp85 (bl X) = [122] := by rw [hgrp.out, if_pos (by omega)]
          have HG1 := hide (HGG.out.symm.trans hg1)
          clear hgrp hg1
          go_wp2
          go_ret
          rw [HG1.out]
          exact ⟨_, rfl, own_new (Nat.le_refl _) [122] (by simp), (Below.refl _ _).alloc (Nat.le_refl _) _⟩
        · have hg1 : grp85 (bl X) = (dig5 V).take (4 + 1) := by rw [hgrp.out, if_neg (by omega), show min 4 X.size = 4 by omega]
          have HG1 := hide (HGG.out.symm.trans hg1)
          clear hgrp hg1
          have hB4 : V ≤ 4294967295 := HB.out
          have HD5 : Hid (∀ k, k < 5 → nth (dig5 V) k = 33 + V / 85 ^ (4 - k) % 85 ∧ V / 85 ^ (4 - k) / 85 = V / 85 ^ (5 - k)) := dig5_nth V hB4
          rcases cz_cases 4 V cz with c | ⟨c, c'⟩
          · exact absurd rfl c
          · have HCC := hide c
            have c1 : ((4 : Int) == 4) = true := by first | rfl | (simp; omega)
            have c2 : ((V : Int) == 0) = false := by simp; omega
            obtain ⟨w0, hw0⟩ : ∃ w0, w0 = wr := ⟨_, rfl⟩
            subst hw0
            go_wp2_with (at_make; refine wpList_make_full _ rfl _ _ 23 rfl w0.heap.size 5 i0 (.int .u8 0) 1 Tryz.underlying23 hi hz0 hz1 .i64 .i64 _ _ 5 rfl rfl (by omega) (by omega) (by rw [hz2]; omega) (by unfold maxLen; omega) (Nat.le_refl _) ?_; intro w1 hown1 hg1)
            have hrow := hide (row_made8 hown1)
            have b1 : Hid (Below w0.heap.size w0 w1) := (Below.refl _ _).grown hg1 (Nat.le_refl _) (fun k h => by cases h)
            clear hown1 hg1
            obtain ⟨g, hg⟩ : ∃ g, w0.heap.size = g := ⟨_, rfl⟩
            have HGE := hide hg
            rw [hg] at hrow ⊢
            clear hg
            go_loopw [4, 7] (fun n i W => ∃ (k : Nat) (l : List Nat), k ≤ 5 ∧ i = .int .i64 ((k : Int) - 1) ∧ n = .int .i64 (V / 85 ^ (5 - k) : Nat) ∧ W.heap[g]? = some (.cells (u8s l).toArray 5 (0, 0)) ∧ Hid (l.length = 5) ∧ Hid (∀ j, k ≤ j → j < 5 → nth l j = nth (dig5 V) j) ∧ Hid (Below w0.heap.size w0 W)) (fun _ i _ => (intOf i + 1).toNat)
            case atStart => exact ⟨5, List.replicate 5 0, by omega, rfl, by simp, hrow.out, by simp [Hid], fun j h1 h2 => by omega, b1⟩
            clear hrow b1
            case round =>
              obtain ⟨k, l, hk5, rfl, rfl, hr, HL, HA, HBW⟩ := hrel
              by_cases c0 : k = 0
              · subst c0
                have hE : l = dig5 V := list_ext _ _ (by rw [HL.out]; rfl) (fun j hj => HA.out j (Nat.zero_le _) (by rw [HL.out] at hj; exact hj))
                subst hE
                have HR := hide hr
                clear hr
                go_wp2
                go_ret
                rw [HG1.out]
                exact ⟨_, rfl, own_take5 HR.out rfl 4 (by omega) (by rw [HGE.out]; exact Nat.le_refl _) _ (by first | rfl | (have hcc := HCC.out; rw [hcc]; rfl)), HBW.out⟩
              · obtain ⟨m, rfl⟩ : ∃ m, k = m + 1 := ⟨k - 1, by omega⟩
                obtain ⟨x, hx⟩ : ∃ x, wr.cell? ⟨g, m, none⟩ = some x := by
                  rw [cell_blk hr]
                  exact ⟨_, Array.getElem?_eq_getElem (by simp [u8s, HL.out]; omega)⟩
                have fx : wr.frozen? ⟨g, m, none⟩ = false := free_blk hr
                obtain ⟨d1, d2⟩ := HD5.out m (by omega)
                have ei : ((m + 1 : Nat) : Int) - 1 = m := by omega
                rw [ei]
                rw [show 5 - (m + 1) = 4 - m by omega] at *
                obtain ⟨N, hN⟩ : ∃ N, V / 85 ^ (4 - m) = N := ⟨_, rfl⟩
                have hNb : N ≤ 4294967295 := by rw [← hN]; exact Nat.le_trans (Nat.div_le_self _ _) hB4
                rw [hN] at d1 d2 ⊢
                have D2 := hide d2
                have gt : (N : Int).tmod 85 = (N : Int) % 85 := Int.tmod_eq_emod_of_nonneg (by omega)
                have gw : IntKind.u8.wrap (33 + (N : Int) % 85) = ((33 + N % 85 : Nat) : Int) := by rw [IntKind.wrap_u8]; omega
                have HR3 : Hid ((wr.setCell ⟨g, m, none⟩ (.int .u8 ((33 + N % 85 : Nat) : Int))).heap[g]? = some (.cells (u8s (l.set m (33 + N % 85))).toArray 5 (0, 0))) := by
                  unfold Hid
                  rw [blk_setCell _ hr]
                  simp [u8s, List.map_set]
                have B3 := hide (HBW.out.setCell (p := ⟨g, m, none⟩) (by rw [HGE.out]; exact Nat.le_refl _) (.int .u8 ((33 + N % 85 : Nat) : Int)))
                have HREL : Hid ((l.set m (33 + N % 85)).length = 5 ∧ ∀ j, m ≤ j → j < 5 → nth (l.set m (33 + N % 85)) j = nth (dig5 V) j) := by
                  refine ⟨by rw [List.length_set]; exact HL.out, fun j h1 h2 => ?_⟩
                  by_cases c : j = m
                  · subst c; rw [nth_set_self _ _ _ (by rw [HL.out]; exact h2), d1]
                  · rw [nth_set_ne _ _ _ _ (fun h => c h.symm)]; exact HA.out j (by omega) h2
                clear d1 d2 hr HA
                go_wp2
                go_roundw
                case rel => exact ⟨m, _, by omega, by go_num, by rw [← D2.out]; go_num, HR3.out, HREL.out.1, HREL.out.2, B3.out⟩
                case measure => simp [intOf]
  · have hc : ¬ (4 : Int) < X.size := by omega
    go_wp2
    go_loopw [4, 5] (fun n i wr => ∃ k : Nat, k ≤ 4 ∧ i = .int .i64 k ∧ n = .int .i64 (pre85 (bl X) k : Nat) ∧ wr = w) (fun _ i _ => 4 - (intOf i).toNat)
    case atStart => exact ⟨0, by omega, rfl, rfl, rfl⟩
    case round =>
      obtain ⟨k, hk, rfl, rfl, rfl⟩ := hrel
      have hv := HV.out k hk
      have hs := HS.out k
      by_cases c4 : k < 4
      · have c4' : (k : Int) < 4 := by omega
        by_cases ck : k < X.size
        · have ck' : (k : Int) < (X.size : Int) := by omega
          have ckS : k < X.size := by omega
          have ckS' : (k : Int) < X.size := by omega
          have hx := bl_nth X k ckS
          have hb := bl_lt X k ckS
          generalize nth (bl X) k = b at *
          generalize pre85 (bl X) k = n at *
          have HS1 := hide hs
          clear hs
          go_wp2
          go_roundw
          case rel => exact ⟨k + 1, by omega, by go_num, by rw [HS1.out]; go_num, by trivial⟩
          case measure => simp [intOf]; omega
        · have ck' : ¬ (k : Int) < (X.size : Int) := by omega
          have hz : nth (bl X) k = 0 := nth_far _ _ (by rw [bl_len]; omega)
          rw [hz] at hs
          generalize pre85 (bl X) k = n at *
          have HS1 := hide hs
          clear hs
          go_wp2
          go_roundw
          case rel => exact ⟨k + 1, by omega, by go_num, by rw [HS1.out]; go_num, by trivial⟩
          case measure => simp [intOf]; omega
      · obtain rfl : k = 4 := by omega
        rw [HVV.out] at hv ⊢
        have HB := hide hv
        clear hv hs
        have hgrp := hide (grp85_eq X V hV)
        by_cases cz : X.size = 4 ∧ V = 0
        · have cz1 : (((X.size : Int) : Int) == 4) = true := by first | rfl | (simp; omega)
          have cz2 : ((V : Int) == 0) = true := by simp; omega
          have hg1 : grp85 (bl X) = [122] := by rw [hgrp.out, if_pos (by omega)]
          have HG1 := hide (HGG.out.symm.trans hg1)
          clear hgrp hg1
          go_wp2
          go_ret
          rw [HG1.out]
          exact ⟨_, rfl, own_new (Nat.le_refl _) [122] (by simp), (Below.refl _ _).alloc (Nat.le_refl _) _⟩
        · have hg1 : grp85 (bl X) = (dig5 V).take (X.size + 1) := by rw [hgrp.out, if_neg (by omega), show min 4 X.size = X.size by omega]
          have HG1 := hide (HGG.out.symm.trans hg1)
          clear hgrp hg1
          have hB4 : V ≤ 4294967295 := HB.out
          have HD5 : Hid (∀ k, k < 5 → nth (dig5 V) k = 33 + V / 85 ^ (4 - k) % 85 ∧ V / 85 ^ (4 - k) / 85 = V / 85 ^ (5 - k)) := dig5_nth V hB4
          rcases cz_cases X.size V cz with c | ⟨c, c'⟩
          · have c1 : ((X.size : Int) == 4) = false := by simp; omega
            obtain ⟨w0, hw0⟩ : ∃ w0, w0 = wr := ⟨_, rfl⟩
            subst hw0
            go_wp2_with (at_make; refine wpList_make_full _ rfl _ _ 23 rfl w0.heap.size 5 i0 (.int .u8 0) 1 Tryz.underlying23 hi hz0 hz1 .i64 .i64 _ _ 5 rfl rfl (by omega) (by omega) (by rw [hz2]; omega) (by unfold maxLen; omega) (Nat.le_refl _) ?_; intro w1 hown1 hg1)
            have hrow := hide (row_made8 hown1)
            have b1 : Hid (Below w0.heap.size w0 w1) := (Below.refl _ _).grown hg1 (Nat.le_refl _) (fun k h => by cases h)
            clear hown1 hg1
            obtain ⟨g, hg⟩ : ∃ g, w0.heap.size = g := ⟨_, rfl⟩
            have HGE := hide hg
            rw [hg] at hrow ⊢
            clear hg
            go_loopw [4, 7] (fun n i W => ∃ (k : Nat) (l : List Nat), k ≤ 5 ∧ i = .int .i64 ((k : Int) - 1) ∧ n = .int .i64 (V / 85 ^ (5 - k) : Nat) ∧ W.heap[g]? = some (.cells (u8s l).toArray 5 (0, 0)) ∧ Hid (l.length = 5) ∧ Hid (∀ j, k ≤ j → j < 5 → nth l j = nth (dig5 V) j) ∧ Hid (Below w0.heap.size w0 W)) (fun _ i _ => (intOf i + 1).toNat)
            case atStart => exact ⟨5, List.replicate 5 0, by omega, rfl, by simp, hrow.out, by simp [Hid], fun j h1 h2 => by omega, b1⟩
            clear hrow b1
            case round =>
              obtain ⟨k, l, hk5, rfl, rfl, hr, HL, HA, HBW⟩ := hrel
              by_cases c0 : k = 0
              · subst c0
                have hE : l = dig5 V := list_ext _ _ (by rw [HL.out]; rfl) (fun j hj => HA.out j (Nat.zero_le _) (by rw [HL.out] at hj; exact hj))
                subst hE
                have HR := hide hr
                clear hr
                go_wp2
                go_ret
                rw [HG1.out]
                exact ⟨_, rfl, own_take5 HR.out rfl X.size (by omega) (by rw [HGE.out]; exact Nat.le_refl _) _ (by first | rfl | (have hcc := HCC.out; rw [hcc]; rfl)), HBW.out⟩
              · obtain ⟨m, rfl⟩ : ∃ m, k = m + 1 := ⟨k - 1, by omega⟩
                obtain ⟨x, hx⟩ : ∃ x, wr.cell? ⟨g, m, none⟩ = some x := by
                  rw [cell_blk hr]
                  exact ⟨_, Array.getElem?_eq_getElem (by simp [u8s, HL.out]; omega)⟩
                have fx : wr.frozen? ⟨g, m, none⟩ = false := free_blk hr
                obtain ⟨d1, d2⟩ := HD5.out m (by omega)
                have ei : ((m + 1 : Nat) : Int) - 1 = m := by omega
                rw [ei]
                rw [show 5 - (m + 1) = 4 - m by omega] at *
                obtain ⟨N, hN⟩ : ∃ N, V / 85 ^ (4 - m) = N := ⟨_, rfl⟩
                have hNb : N ≤ 4294967295 := by rw [← hN]; exact Nat.le_trans (Nat.div_le_self _ _) hB4
                rw [hN] at d1 d2 ⊢
                have D2 := hide d2
                have gt : (N : Int).tmod 85 = (N : Int) % 85 := Int.tmod_eq_emod_of_nonneg (by omega)
                have gw : IntKind.u8.wrap (33 + (N : Int) % 85) = ((33 + N % 85 : Nat) : Int) := by rw [IntKind.wrap_u8]; omega
                have HR3 : Hid ((wr.setCell ⟨g, m, none⟩ (.int .u8 ((33 + N % 85 : Nat) : Int))).heap[g]? = some (.cells (u8s (l.set m (33 + N % 85))).toArray 5 (0, 0))) := by
                  unfold Hid
                  rw [blk_setCell _ hr]
                  simp [u8s, List.map_set]
                have B3 := hide (HBW.out.setCell (p := ⟨g, m, none⟩) (by rw [HGE.out]; exact Nat.le_refl _) (.int .u8 ((33 + N % 85 : Nat) : Int)))
                have HREL : Hid ((l.set m (33 + N % 85)).length = 5 ∧ ∀ j, m ≤ j → j < 5 → nth (l.set m (33 + N % 85)) j = nth (dig5 V) j) := by
                  refine ⟨by rw [List.length_set]; exact HL.out, fun j h1 h2 => ?_⟩
                  by_cases c : j = m
                  · subst c; rw [nth_set_self _ _ _ (by rw [HL.out]; exact h2), d1]
                  · rw [nth_set_ne _ _ _ _ (fun h => c h.symm)]; exact HA.out j (by omega) h2
                clear d1 d2 hr HA
                go_wp2
                go_roundw
                case rel => exact ⟨m, _, by omega, by go_num, by rw [← D2.out]; go_num, HR3.out, HREL.out.1, HREL.out.2, B3.out⟩
                case measure => simp [intOf]
          · have HCC := hide c
            have c1 : (((X.size : Int) : Int) == 4) = true := by first | rfl | (simp; omega)
            have c2 : ((V : Int) == 0) = false := by simp; omega
            obtain ⟨w0, hw0⟩ : ∃ w0, w0 = wr := ⟨_, rfl⟩
            subst hw0
            go_wp2_with (at_make; refine wpList_make_full _ rfl _ _ 23 rfl w0.heap.size 5 i0 (.int .u8 0) 1 Tryz.underlying23 hi hz0 hz1 .i64 .i64 _ _ 5 rfl rfl (by omega) (by omega) (by rw [hz2]; omega) (by unfold maxLen; omega) (Nat.le_refl _) ?_; intro w1 hown1 hg1)
            have hrow := hide (row_made8 hown1)
            have b1 : Hid (Below w0.heap.size w0 w1) := (Below.refl _ _).grown hg1 (Nat.le_refl _) (fun k h => by cases h)
            clear hown1 hg1
            obtain ⟨g, hg⟩ : ∃ g, w0.heap.size = g := ⟨_, rfl⟩
            have HGE := hide hg
            rw [hg] at hrow ⊢
            clear hg
            go_loopw [4, 7] (fun n i W => ∃ (k : Nat) (l : List Nat), k ≤ 5 ∧ i = .int .i64 ((k : Int) - 1) ∧ n = .int .i64 (V / 85 ^ (5 - k) : Nat) ∧ W.heap[g]? = some (.cells (u8s l).toArray 5 (0, 0)) ∧ Hid (l.length = 5) ∧ Hid (∀ j, k ≤ j → j < 5 → nth l j = nth (dig5 V) j) ∧ Hid (Below w0.heap.size w0 W)) (fun _ i _ => (intOf i + 1).toNat)
            case atStart => exact ⟨5, List.replicate 5 0, by omega, rfl, by simp, hrow.out, by simp [Hid], fun j h1 h2 => by omega, b1⟩
            clear hrow b1
            case round =>
              obtain ⟨k, l, hk5, rfl, rfl, hr, HL, HA, HBW⟩ := hrel
              by_cases c0 : k = 0
              · subst c0
                have hE : l = dig5 V := list_ext _ _ (by rw [HL.out]; rfl) (fun j hj => HA.out j (Nat.zero_le _) (by rw [HL.out] at hj; exact hj))
                subst hE
                have HR := hide hr
                clear hr
                go_wp2
                go_ret
                rw [HG1.out]
                exact ⟨_, rfl, own_take5 HR.out rfl X.size (by omega) (by rw [HGE.out]; exact Nat.le_refl _) _ (by first | rfl | (have hcc := HCC.out; rw [hcc]; rfl)), HBW.out⟩
              · obtain ⟨m, rfl⟩ : ∃ m, k = m + 1 := ⟨k - 1, by omega⟩
                obtain ⟨x, hx⟩ : ∃ x, wr.cell? ⟨g, m, none⟩ = some x := by
                  rw [cell_blk hr]
                  exact ⟨_, Array.getElem?_eq_getElem (by simp [u8s, HL.out]; omega)⟩
                have fx : wr.frozen? ⟨g, m, none⟩ = false := free_blk hr
                obtain ⟨d1, d2⟩ := HD5.out m (by omega)
                have ei : ((m + 1 : Nat) : Int) - 1 = m := by omega
                rw [ei]
                rw [show 5 - (m + 1) = 4 - m by omega] at *
                obtain ⟨N, hN⟩ : ∃ N, V / 85 ^ (4 - m) = N := ⟨_, rfl⟩
                have hNb : N ≤ 4294967295 := by rw [← hN]; exact Nat.le_trans (Nat.div_le_self _ _) hB4
                rw [hN] at d1 d2 ⊢
                have D2 := hide d2
                have gt : (N : Int).tmod 85 = (N : Int) % 85 := Int.tmod_eq_emod_of_nonneg (by omega)
                have gw : IntKind.u8.wrap (33 + (N : Int) % 85) = ((33 + N % 85 : Nat) : Int) := by rw [IntKind.wrap_u8]; omega
                have HR3 : Hid ((wr.setCell ⟨g, m, none⟩ (.int .u8 ((33 + N % 85 : Nat) : Int))).heap[g]? = some (.cells (u8s (l.set m (33 + N % 85))).toArray 5 (0, 0))) := by
                  unfold Hid
                  rw [blk_setCell _ hr]
                  simp [u8s, List.map_set]
                have B3 := hide (HBW.out.setCell (p := ⟨g, m, none⟩) (by rw [HGE.out]; exact Nat.le_refl _) (.int .u8 ((33 + N % 85 : Nat) : Int)))
                have HREL : Hid ((l.set m (33 + N % 85)).length = 5 ∧ ∀ j, m ≤ j → j < 5 → nth (l.set m (33 + N % 85)) j = nth (dig5 V) j) := by
                  refine ⟨by rw [List.length_set]; exact HL.out, fun j h1 h2 => ?_⟩
                  by_cases c : j = m
                  · subst c; rw [nth_set_self _ _ _ (by rw [HL.out]; exact h2), d1]
                  · rw [nth_set_ne _ _ _ _ (fun h => c h.symm)]; exact HA.out j (by omega) h2
                clear d1 d2 hr HA
                go_wp2
                go_roundw
                case rel => exact ⟨m, _, by omega, by go_num, by rw [← D2.out]; go_num, HR3.out, HREL.out.1, HREL.out.2, B3.out⟩
                case measure => simp [intOf]
end Go.Proofs.YtgkljcmjnphpeaaGreatDoor
namespace Go.Proofs.YtgkljcmjnphpeaaGreatDoor
open Go.RowKit
variable {w : World}
theorem grp85_len (l : List Nat) : 0 < (grp85 l).length ∧ (grp85 l).length ≤ 5 := by
  unfold grp85
  split
  · simp
  · rw [List.length_take]; simp [dig5]; omega
theorem enc85_grp (l : List Nat) (h : 0 < l.length) : enc85 l = grp85 l ++ enc85 (l.drop 4) := by
  match l, h with
  | [b0], _ =>
    have e : pre85 [b0] 4 = val4 b0 0 0 0 := by simp [pre85, nth, val4]; omega
    unfold grp85; rw [e, if_neg (by simp)]; rfl
  | [b0, b1], _ =>
    have e : pre85 [b0, b1] 4 = val4 b0 b1 0 0 := by simp [pre85, nth, val4]; omega
    unfold grp85; rw [e, if_neg (by simp)]; rfl
  | [b0, b1, b2], _ =>
    have e : pre85 [b0, b1, b2] 4 = val4 b0 b1 b2 0 := by simp [pre85, nth, val4]; omega
    unfold grp85; rw [e, if_neg (by simp)]; rfl
  | b0 :: b1 :: b2 :: b3 :: l, _ =>
    have e : pre85 (b0 :: b1 :: b2 :: b3 :: l) 4 = val4 b0 b1 b2 b3 := by simp [pre85, nth, val4]; omega
    have ez : (4 ≤ (b0 :: b1 :: b2 :: b3 :: l).length ∧ val4 b0 b1 b2 b3 = 0) = (b0 = 0 ∧ b1 = 0 ∧ b2 = 0 ∧ b3 = 0) := by
      simp only [List.length_cons, val4, eq_iff_iff]; omega
    have em : min 4 (b0 :: b1 :: b2 :: b3 :: l).length + 1 = 5 := by simp only [List.length_cons]; omega
    have hg : grp85 (b0 :: b1 :: b2 :: b3 :: l) = if b0 = 0 ∧ b1 = 0 ∧ b2 = 0 ∧ b3 = 0 then [122] else dig5 (val4 b0 b1 b2 b3) := by
      unfold grp85
      rw [e, em]
      by_cases c : b0 = 0 ∧ b1 = 0 ∧ b2 = 0 ∧ b3 = 0
      · rw [if_pos c, if_pos (ez ▸ c)]
      · rw [if_neg c, if_neg (fun h => c (ez ▸ h))]; rfl
    rw [hg]
    rfl
theorem bl_tail (S : ByteArray) (k : Nat) : bl (S.extract k S.size) = (bl S).drop k := by
  unfold bl
  rw [ByteArray.data_extract, Array.toList_extract, List.extract_eq_take_drop, List.map_take, List.map_drop]
  rw [List.take_of_length_le (by rw [List.length_drop, List.length_map, Array.length_toList]; exact Nat.le_refl _)]
theorem size_tail (S : ByteArray) (k : Nat) : (S.extract k S.size).size = S.size - k := by
  rw [← bl_len, bl_tail, List.length_drop, bl_len]
theorem hexTwo {w : World} {x y : Int} : ∀ (j : Nat) (u : Value), ([.int .u8 x, .int .u8 y] : List Value)[j]? = some u → (w.alloc (.cells #[.int .u8 x, .int .u8 y] 5)).cell? ((⟨w.heap.size, 0, none⟩ : Addr).add j) = some u := by
  intro j u hu
  match j, hu with
  | 0, hu =>
    show (w.alloc _).cell? ⟨w.heap.size, 0 + 0, none⟩ = _
    rw [World.cell?_alloc_new]; exact hu
  | 1, hu =>
    show (w.alloc _).cell? ⟨w.heap.size, 0 + 1, none⟩ = _
    rw [World.cell?_alloc_new]; exact hu
  | j + 2, hu => simp at hu
set_option maxRecDepth 100000 in
set_option maxHeartbeats 1000000 in
theorem rdo_85 (S : ByteArray) (hS : S.size ≤ 200000) :
    Calls Tryz.prog 36 #[.int .i64 2, .string S] w fun x w' => x = .returned (.string (strN (enc85 (bl S)))) ∧ Kept 5 w.heap.size [] w w' := by
  obtain ⟨i0, hi, hz0, hz1, hz2⟩ := info_parts Tryz.infoByte
  have hl := hide (bl_len S)
  obtain ⟨B, hB⟩ : ∃ B, w.heap.size = B := ⟨_, rfl⟩
  rw [hB]
  have HB := hide hB
  clear hB
  go_enter Tryz.func36, Tryz.ntmps36
  go_wp2
  go_loopw [5, 7] (fun v i wr => ∃ (k : Nat) (o : List Nat), k ≤ S.size + 3 ∧ i = .int .i64 k ∧ wr.ownsRow B 5 1 v o.length (o.map fun x : Nat => .int .u8 (x : Int)) ∧ Hid (o.length ≤ 2 * k ∧ o ++ enc85 ((bl S).drop k) = enc85 (bl S)) ∧ Kept 5 B [] w wr) (fun _ i _ => S.size + 3 - (intOf i).toNat)
  case atStart => exact ⟨0, [], Nat.zero_le _, rfl, World.ownsRow_nil _ _ _ _, ⟨by simp, by simp⟩, Kept.refl _ _ _ _⟩
  case round =>
    obtain ⟨k, o, hk, rfl, hr, HO, kk⟩ := hrel
    have hsz := kk.size
    have hszB : Hid (B ≤ wr.heap.size) := by have := HB.out; unfold Hid; omega
    by_cases hlt : k < S.size
    · have hlt' : (k : Int) < S.size := by omega
      have hlt2 : (k : Int) ≤ S.size := by omega
      go_wp2_with fail
      refine (digits85_ok (S.extract k S.size) (by rw [size_tail]; omega)).mono ?_
      rintro e w1 ⟨v1, rfl, ho1, b1⟩
      rw [bl_tail] at ho1
      have hg5 := grp85_len ((bl S).drop k)
      have hst := enc85_grp ((bl S).drop k) (by rw [List.length_drop, hl.out]; omega)
      rw [List.drop_drop] at hst
      generalize grp85 ((bl S).drop k) = G at *
      obtain ⟨g, c, rfl, hg⟩ := own_form ho1 (by omega)
      have hr1 := own_below hr b1
      have k1 := Kept.thenBelow kk b1
      have hszB1 : Hid (B ≤ w1.heap.size) := by have := hszB.out; have := b1.size; unfold Hid; omega
      have HG5 := hide hg5
      have HST := hide hst
      have HO1 := hide ho1
      have hg1 := (ho1.lt g rfl).2
      clear hr kk b1 hg5 hst ho1
      go_wp2_with (at_builtin; refine wpList_append_own _ rfl (.tmp 44) (.tmp 48) 23 rfl B 5 i0 (.int .u8 0) 1 1 Tryz.underlying23 hi hz0 hz1 hz2 rfl (by decide) _ _ _ rfl hr1 ⟨g, 0, none⟩ G.length c (G.map fun x : Nat => .int .u8 (x : Int)) rfl (by simp) ?hnews ?hone ?h63 ?hby ?hbs ?_)
      case hnews => exact HO1.out.cells (g := g) rfl
      case hone => intro u hu; simp at hu; obtain ⟨x, _, rfl⟩ := hu; rfl
      case h63 => have := HO.out.1; have := HG5.out; unfold maxLen; omega
      case hby => have := HO.out.1; have := HG5.out; omega
      case hbs => have := hszB1.out; omega
      intro v' w2 hr2 hg2 _
      have k2 := k1.grown hg2 (own_row hr1)
      have hr3 : w2.ownsRow B 5 1 v' (o ++ G).length ((o ++ G).map fun x : Nat => .int .u8 (x : Int)) := by
        rw [List.map_append, List.length_append]; exact hr2
      have hR : Hid ((o ++ G).length ≤ 2 * (k + 4) ∧ (o ++ G) ++ enc85 ((bl S).drop (k + 4)) = enc85 (bl S)) := by
        refine ⟨by have := HO.out.1; have := HG5.out; rw [List.length_append]; omega, ?_⟩
        rw [← HO.out.2, HST.out, List.append_assoc]
      clear hg2 hr1 hr2 k1 HO
      go_wp2
      go_roundw
      case rel => exact ⟨k + 4, _, by omega, by go_num, hr3, hR, k2⟩
      case measure => simp [intOf]; omega
    · have hlt' : ¬ (k : Int) < S.size := by omega
      have hE : Hid (o ++ [126, 62] = enc85 (bl S)) := by
        have := HO.out.2
        rw [List.drop_of_length_le (by rw [hl.out]; omega)] at this
        exact this
      have hlo : Hid (o.length ≤ 2 * k) := HO.out.1
      go_wp2_with (at_builtin; refine wpList_append_own _ rfl (.tmp 50) (.tmp 51) 23 rfl B 5 i0 (.int .u8 0) 1 1 Tryz.underlying23 hi hz0 hz1 hz2 rfl (by decide) _ _ _ rfl (hr.alloc _) ⟨wr.heap.size, 0, none⟩ 2 2 [.int .u8 126, .int .u8 62] rfl rfl hexTwo ?c2 ?c3 ?c4 ?c5 ?_)
      case c2 => exact ⟨rfl, rfl⟩
      case c3 => have := hlo.out; unfold maxLen; omega
      case c4 => have := hlo.out; omega
      case c5 => have := hszB.out; simp; omega
      intro v' w2 hr2 hg2 _
      have k2 := (kk.alloc _).grown hg2 (own_row (hr.alloc _))
      have hr3 : w2.ownsRow B 5 1 v' (o ++ [126, 62]).length ((o ++ [126, 62]).map fun x : Nat => .int .u8 (x : Int)) := by
        rw [List.map_append, List.length_append]; exact hr2
      rw [hE.out] at hr3
      have hcv := string_own hr3
      clear hg2 hr hr2 hr3
      go_wp2
      go_ret
      exact ⟨rfl, k2⟩
end Go.Proofs.YtgkljcmjnphpeaaGreatDoor
