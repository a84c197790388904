/- Each filter, written and read back: what Back asks of it. -/
import Derived.Test.YtgkljcmjnphpeaaDoorFlX
import Derived.Test.YtgkljcmjnphpeaaDoorRunX
import Derived.Test.YtgkljcmjnphpeaaDoorA85W
import Derived.Test.YtgkljcmjnphpeaaDoorEnc
import Derived.Test.YtgkljcmjnphpeaaDoorOpd
import Derived.Test.YtgkljcmjnphpeaaDoorTurn
set_option linter.unusedVariables false
set_option linter.unusedSimpArgs false
/- Each filter, written and read back: what Back asks of it. -/
namespace Go.Proofs.YtgkljcmjnphpeaaDoor
open Go.RowKit
variable {w : World} {B cap : Nat} {ao : Option Addr} {data : List Nat}

/-- Bytes in memory as a slice holds them. -/
structure Mem (w : World) (bd off cap : Nat) (d : List Nat) : Prop where
  lt : bd < w.heap.size
  cell : ∀ i, i < d.length → w.cell? ⟨bd, off + i, none⟩ = some (.int .u8 (nth d i : Nat))
  byt : ∀ i, i < d.length → nth d i < 256
  cp : d.length ≤ cap
  lc : cap ≤ 9223372036854775807

theorem Mem.below {w' : World} {bd off cap : Nat} {d : List Nat} (h : Mem w bd off cap d) (b : Below w.heap.size w w') : Mem w' bd off cap d :=
  ⟨Nat.lt_of_lt_of_le h.lt b.size, fun i hi => by rw [b.cell (p := ⟨bd, off + i, none⟩) h.lt]; exact h.cell i hi, h.byt, h.cp, h.lc⟩
theorem Mem.cut {bd off cap : Nat} {d : List Nat} (h : Mem w bd off cap d) : Mem w bd off cap d.dropLast := by
  have hl : d.dropLast.length = d.length - 1 := List.length_dropLast
  have hn : ∀ i, i < d.dropLast.length → nth d.dropLast i = nth d i := fun i hi => by
    simp only [nth, List.getD_eq_getElem?_getD]
    rw [List.getElem?_eq_getElem hi, List.getElem?_eq_getElem (by omega), List.getElem_dropLast]
  exact ⟨h.lt, fun i hi => by rw [hn i hi]; exact h.cell i (by omega), fun i hi => by rw [hn i hi]; exact h.byt i (by omega), by have := h.cp; omega, h.lc⟩

/-- What is encoded of data: how it is decoded. -/
structure FOk (f : Nat) (data enc : List Nat) : Prop where
  pos : 0 < enc.length
  len : enc.length ≤ 2 * data.length + 20
  byt : ∀ x ∈ enc, x < 256
  ok : ∀ (w : World) (bd off cap most : Nat), Mem w bd off cap enc → most ≤ 1000000 → data.length ≤ most → Calls Tryd.prog 14 #[.int .i64 f, .slice (some ⟨bd, off, none⟩) enc.length cap, .int .i64 most] w fun e w' => ∃ v, e = .returned v ∧ w'.ownsRow w.heap.size 5 1 v data.length (data.map fun x : Nat => .int .u8 (x : Int)) ∧ Below w.heap.size w w'
  cap : ∀ (w : World) (bd off cap most : Nat), Mem w bd off cap enc → most < data.length → most ≤ 1000000 → Calls Tryd.prog 14 #[.int .i64 f, .slice (some ⟨bd, off, none⟩) enc.length cap, .int .i64 most] w fun e w' => e = gaveUp 6 ∧ Below w.heap.size w w'
  cut : ∀ (w : World) (bd off cap most : Nat), Mem w bd off cap enc.dropLast → most ≤ 1000000 → data.length ≤ most → Calls Tryd.prog 14 #[.int .i64 f, .slice (some ⟨bd, off, none⟩) enc.dropLast.length cap, .int .i64 most] w fun e w' => e = gaveUp 5 ∧ Below w.heap.size w w'

theorem nth_byte {l : List Nat} (h : ∀ x ∈ l, x < 256) (i : Nat) (hi : i < l.length) : nth l i < 256 := by
  have e : nth l i = l[i] := by simp only [nth, List.getD_eq_getElem?_getD, List.getElem?_eq_getElem hi, Option.getD_some]
  rw [e]; exact h _ (List.getElem_mem hi)
theorem mem_nth {l : List Nat} (h : ∀ i, i < l.length → nth l i < 256) : ∀ x ∈ l, x < 256 := by
  intro x hx
  obtain ⟨i, hi, rfl⟩ := List.getElem_of_mem hx
  have := h i hi
  simpa only [nth, List.getD_eq_getElem?_getD, List.getElem?_eq_getElem hi, Option.getD_some] using this

theorem Mem.rd {w : World} {bd off cap most : Nat} {d : List Nat} (h : Mem w bd off cap d) (hm : most ≤ 1000000) :
    Rd w.heap.size w.heap.size bd off cap d most (w.alloc (.cells #[.slice (some ⟨bd, off, none⟩) d.length cap, .int .i64 0, .slice none 0 0, .int .i64 most] 41 (0, 0))) 0 (.slice none 0 0) [] :=
  Rd.start (most := most) h.lt h.cell h.byt h.cp h.lc hm

theorem hexOf_byte : ∀ (l : List Nat), (∀ x ∈ l, x < 256) → ∀ x ∈ Fo.hexOf l, x < 256 := by
  intro l
  induction l with
  | nil => intro _ x hx; simp [Fo.hexOf] at hx
  | cons b l ih =>
    intro h x hx
    rw [Fo.hexOf_cons] at hx
    have hb := h b (by simp)
    have hd : ∀ a : Fin 16, Fo.hexDig a.val < 256 := by decide +kernel
    rcases List.mem_cons.1 hx with rfl | hx
    · exact hd ⟨b / 16, by omega⟩
    rcases List.mem_cons.1 hx with rfl | hx
    · exact hd ⟨b % 16, by omega⟩
    · exact ih (fun y hy => h y (by simp [hy])) x hx

theorem fok1 (byt : ∀ x ∈ data, x < 256) : FOk 1 data (Fo.hexOf data ++ [62]) := by
  have hl := Fo.hexOf_length data
  have bn := fun i hi => nth_byte byt i hi
  refine ⟨by simp, by rw [List.length_append]; show (Fo.hexOf data).length + 1 ≤ _; omega, ?_, ?_, ?_, ?_⟩
  · intro x hx
    rcases List.mem_append.1 hx with hx | hx
    · exact hexOf_byte data byt x hx
    · simp at hx; omega
  · intro w bd off cap most hM hm h1
    exact fdec1_ok' (hM.rd hm) (fun w br B ov r => decodeHex_ok data bn rfl r h1)
  · intro w bd off cap most hM h1 hm
    exact fdec1_no (hM.rd hm) (fun w br B ov r => decodeHex_cap data bn rfl r h1)
  · intro w bd off cap most hM hm h1
    rw [List.dropLast_concat] at hM ⊢
    exact fdec1_no (hM.rd hm) (fun w br B ov r => decodeHex_cut data bn rfl r h1)

theorem dig5_byte {V : Nat} (h : V ≤ 4294967295) : ∀ x ∈ dig5 V, x < 256 := by
  intro x hx
  have : V / 52200625 ≤ 84 := by omega
  simp only [dig5, List.mem_cons, List.not_mem_nil, or_false] at hx
  rcases hx with rfl | rfl | rfl | rfl | rfl <;> omega
theorem enc85_facts : ∀ (l : List Nat), (∀ x ∈ l, x < 256) → (∀ x ∈ enc85 l, x < 256) ∧ (enc85 l).length ≤ 2 * l.length + 2
  | [], _ => ⟨by simp [enc85], by simp [enc85]⟩
  | [b0], h => by
    have h0 := h b0 (by simp)
    have hd := dig5_byte (val4_lt h0 (by omega : 0 < 256) (by omega : 0 < 256) (by omega : 0 < 256))
    refine ⟨?_, by simp [enc85, dig5]⟩
    intro x hx
    simp only [enc85, List.mem_append] at hx
    rcases hx with hx | hx
    · exact hd x (List.mem_of_mem_take hx)
    · simp at hx; omega
  | [b0, b1], h => by
    have h0 := h b0 (by simp)
    have h1 := h b1 (by simp)
    have hd := dig5_byte (val4_lt h0 h1 (by omega : 0 < 256) (by omega : 0 < 256))
    refine ⟨?_, by simp [enc85, dig5]⟩
    intro x hx
    simp only [enc85, List.mem_append] at hx
    rcases hx with hx | hx
    · exact hd x (List.mem_of_mem_take hx)
    · simp at hx; omega
  | [b0, b1, b2], h => by
    have h0 := h b0 (by simp)
    have h1 := h b1 (by simp)
    have h2 := h b2 (by simp)
    have hd := dig5_byte (val4_lt h0 h1 h2 (by omega : 0 < 256))
    refine ⟨?_, by simp [enc85, dig5]⟩
    intro x hx
    simp only [enc85, List.mem_append] at hx
    rcases hx with hx | hx
    · exact hd x (List.mem_of_mem_take hx)
    · simp at hx; omega
  | b0 :: b1 :: b2 :: b3 :: l, h => by
    have h0 := h b0 (by simp)
    have h1 := h b1 (by simp)
    have h2 := h b2 (by simp)
    have h3 := h b3 (by simp)
    have hd := dig5_byte (val4_lt h0 h1 h2 h3)
    obtain ⟨i1, i2⟩ := enc85_facts l (fun x hx => h x (by simp [hx]))
    refine ⟨?_, ?_⟩
    · intro x hx
      simp only [enc85, List.mem_append] at hx
      rcases hx with hx | hx
      · split at hx
        · simp at hx; omega
        · exact hd x hx
      · exact i1 x hx
    · simp only [enc85, List.length_append, List.length_cons]
      split
      · simp; omega
      · simp [dig5]; omega

theorem fok2 (byt : ∀ x ∈ data, x < 256) : FOk 2 data (enc85 data) := by
  obtain ⟨f1, f2⟩ := enc85_facts data byt
  have hp := enc85_pos data
  refine ⟨by omega, by omega, f1, ?_, ?_, ?_⟩
  · intro w bd off cap most hM hm h1
    exact fdec2_ok' (hM.rd hm) (fun w br B ov r => decodeA85_ok data byt rfl r h1)
  · intro w bd off cap most hM h1 hm
    exact fdec2_no (hM.rd hm) (fun w br B ov r => decodeA85_cap data byt rfl r h1)
  · intro w bd off cap most hM hm h1
    exact fdec2_no (hM.rd hm) (fun w br B ov r => decodeA85_cut data byt rfl r h1)

theorem fok3 (byt : ∀ x ∈ data, x < 256) : FOk 3 data (Fo.encRun data) := by
  have e : Fo.encRun data = Fo.runCore (data.length + 1) data ++ [128] := by rw [Fo.encRun, Fo.runGo_core]
  have hl := Fo.runCore_len (data.length + 1) data
  refine ⟨by rw [e]; simp, by rw [e, List.length_append]; simp; omega, ?_, ?_, ?_, ?_⟩
  · intro x hx
    rw [e] at hx
    rcases List.mem_append.1 hx with hx | hx
    · exact Fo.runCore_byte _ data byt x hx
    · simp at hx; omega
  · intro w bd off cap most hM hm h1
    exact fdec3_ok' (hM.rd hm) (fun w br B ov r => decodeRun_ok data byt rfl r h1)
  · intro w bd off cap most hM h1 hm
    exact fdec3_no (hM.rd hm) (fun w br B ov r => decodeRun_cap data byt rfl r h1)
  · intro w bd off cap most hM hm h1
    rw [encRun_cut] at hM ⊢
    exact fdec3_no (hM.rd hm) (fun w br B ov r => decodeRun_cut data byt rfl r h1)

theorem sum4_byte (l : List Nat) : ∀ x ∈ sum4 l, x < 256 := by
  have := sumAB_lt l
  intro x hx
  simp only [sum4, List.mem_cons, List.not_mem_nil, or_false] at hx
  rcases hx with rfl | rfl | rfl | rfl <;> omega

theorem fok4 {bl : List Nat} (byt : ∀ x ∈ data, x < 256) (hP : Packed data bl) (h1 : bl.length ≤ data.length + 5) (hb : ∀ x ∈ bl, x < 256) : FOk 4 data (flOut data bl) := by
  have bn := fun i hi => nth_byte byt i hi
  have e : flOut data bl = 120 :: 156 :: (bl ++ sum4 data) := by simp [flOut]
  have ls : (sum4 data).length = 4 := rfl
  have ll : (flOut data bl).length = bl.length + 6 := by rw [e]; simp [ls]
  have ec : (flOut data bl).dropLast = 120 :: 156 :: (bl ++ (sum4 data).dropLast) := by
    rw [e, List.dropLast_cons_of_ne_nil (by simp), List.dropLast_cons_of_ne_nil (by simp [sum4]), List.dropLast_append_of_ne_nil (by simp [sum4])]
  refine ⟨by omega, by omega, ?_, ?_, ?_, ?_⟩
  · intro x hx
    rw [e] at hx
    rcases List.mem_cons.1 hx with rfl | hx
    · omega
    rcases List.mem_cons.1 hx with rfl | hx
    · omega
    rcases List.mem_append.1 hx with hx | hx
    · exact hb x hx
    · exact sum4_byte data x hx
  · intro w bd off cap most hM hm h1
    obtain ⟨r, hbk, hr⟩ := hP.to most (sum4 data) h1
    refine fdec4_ok' (hM.rd hm) (fun w br B ov R => decodeFlate_ok R (by omega) (by rw [e]; rfl) (by rw [e]; rfl) (r := r) (data := data) (by rw [e]; exact hbk) (sum4 data) rfl (fun i hi => nth_byte (sum4_byte data) i hi) hr rfl bn)
  · intro w bd off cap most hM h1 hm
    refine fdec4_no (hM.rd hm) (fun w br B ov R => decodeFlate_cap R (by omega) (by rw [e]; rfl) (by rw [e]; rfl) (by rw [e]; exact hP.no most (sum4 data) h1))
  · intro w bd off cap most hM hm h1
    obtain ⟨r, hbk, hr⟩ := hP.to most (sum4 data).dropLast h1
    refine fdec4_no (hM.rd hm) (fun w br B ov R => decodeFlate_cut R (by rw [List.length_dropLast]; omega) (by rw [ec]; rfl) (by rw [ec]; rfl) (r := r) (data := data) (by rw [ec]; exact hbk) (sum4 data).dropLast rfl hr bn)

/-- What Encode answers. -/
def EncAns (f : Nat) (w : World) (data : List Nat) (v : Value) (w' : World) : Prop :=
  ∃ enc, w'.ownsRow w.heap.size 5 1 v enc.length (enc.map fun x : Nat => .int .u8 (x : Int)) ∧ Below w.heap.size w w' ∧ FOk f data enc

theorem fenc2 {n : Nat} {P : Value → World → Prop} (hc : Calls Tryd.prog 16 #[.slice ao n cap] w fun e w' => ∃ v, e = .returned v ∧ P v w') :
    Calls Tryd.prog 11 #[.int .i64 2, .slice ao n cap] w fun e w' => ∃ v, e = .returned v ∧ P v w' := by
  have HC := hide hc
  clear hc
  go_enter Tryd.func11, Tryd.ntmps11
  go_wp2_with fail
  refine HC.out.mono ?_
  rintro e w1 ⟨v, rfl, hp⟩
  go_wp2
  go_ret
  exact ⟨v, rfl, hp⟩

/-- Of nothing. -/
theorem encodeRun_nil (cap : Nat) : Calls Tryd.prog 17 #[.slice ao 0 cap] w fun e w' => ∃ v, e = .returned v ∧ w'.ownsRow w.heap.size 5 1 v 1 ([128].map fun x : Nat => .int .u8 (x : Int)) ∧ Kept 5 w.heap.size [] w w' := by
  obtain ⟨i0, hi, hz0, hz1, hz2⟩ := info_parts Tryd.infoByte
  go_enter Tryd.func17, Tryd.ntmps17
  go_wp2
  go_loopw [0, 3] (fun d v wr => d = .slice ao 0 cap ∧ v = .slice none 0 0 ∧ wr = w) (fun _ _ _ => 0)
  case atStart => exact ⟨rfl, rfl, rfl⟩
  case round =>
    obtain ⟨rfl, rfl, rfl⟩ := hrel
    go_wp2_with (at_builtin; refine wpList_append_own _ rfl (.tmp 37) (.tmp 38) 22 rfl wr.heap.size 5 i0 (.int .u8 0) 1 1 Tryd.underlying22 hi hz0 hz1 hz2 rfl (by decide) (.slice none 0 0) 0 [] rfl (World.ownsRow_nil _ _ _ _) ⟨wr.heap.size, 0, none⟩ 1 1 ([128].map fun x : Nat => .int .u8 (x : Int)) rfl rfl ?hnews ?hone ?h63 ?hby ?hbs ?_)
    case hnews => exact news1 rfl
    case hone => intro u hu; simp at hu; subst hu; rfl
    case h63 => unfold maxLen; omega
    case hby => omega
    case hbs => simp
    intro v' w2 hr2 hg2 _
    have k2 := ((Kept.refl 5 wr.heap.size [] wr).alloc _).grown hg2 (fun g hg => by simp [Value.ownBlock] at hg)
    clear hg2
    go_wp2
    go_ret
    exact ⟨v', rfl, hr2, k2⟩

theorem encodeA85_nil (cap : Nat) : Calls Tryd.prog 16 #[.slice ao 0 cap] w fun e w' => ∃ v, e = .returned v ∧ w'.ownsRow w.heap.size 5 1 v 2 ([126, 62].map fun x : Nat => .int .u8 (x : Int)) ∧ Kept 5 w.heap.size [] w w' := by
  obtain ⟨i0, hi, hz0, hz1, hz2⟩ := info_parts Tryd.infoByte
  go_enter Tryd.func16, Tryd.ntmps16
  go_wp2
  go_loopw [0, 3] (fun d v wr => d = .slice ao 0 cap ∧ v = .slice none 0 0 ∧ wr = w) (fun _ _ _ => 0)
  case atStart => exact ⟨rfl, rfl, rfl⟩
  case round =>
    obtain ⟨rfl, rfl, rfl⟩ := hrel
    have hsr := hide (Src.ofString (P := Tryd.prog) wr (tx := 9) Tryd.underlying9 { data := #[126, 62] })
    go_wp2_with (at_builtin; refine wpList_append_own_src rfl (.tmp 19) (.const (.string { data := #[126, 62] })) 22 9 rfl wr.heap.size 5 i0 (.int .u8 0) 1 Tryd.underlying22 hi hz0 hz1 hz2 rfl (.slice none 0 0) 0 _ rfl (World.ownsRow_nil _ _ _ _) (.string { data := #[126, 62] }) 2 (byteVals [126, 62]) rfl (by rw [hz1]; exact hsr.out) (by omega) (by unfold maxLen; omega) (by omega) (by omega) ?_)
    intro v' w2 hr2 hg2
    have k2 := (Kept.refl 5 wr.heap.size [] wr).grown hg2 (fun g hg => by simp [Value.ownBlock] at hg)
    clear hg2
    go_wp2
    go_ret
    exact ⟨v', rfl, hr2, k2⟩

theorem encode_ok (f : Nat) (hf : 1 ≤ f ∧ f ≤ 4) (hd : Dat w w.heap.size ao data) (byt : ∀ i, i < data.length → nth data i < 256) (len : data.length ≤ 65535) (lc : data.length ≤ cap ∧ cap ≤ 9223372036854775807) (hn : ao = none → cap = 0) :
    Calls Tryd.prog 7 #[.int .i64 f, .slice ao data.length cap] w fun e w' => ∃ v, e = .returned (.tuple #[v, .int .i64 0]) ∧ EncAns f w data v w' := by
  have bm := mem_nth byt
  obtain rfl | rfl | rfl | rfl : f = 1 ∨ f = 2 ∨ f = 3 ∨ f = 4 := by omega
  · refine (encode1_ok hd (Nat.le_refl _) byt (by omega)).mono ?_
    rintro e w' ⟨v, rfl, h1, h2⟩
    have hl : (Fo.hexOf data ++ [62]).length = 2 * data.length + 1 := by simp [Fo.hexOf_length]
    refine ⟨v, rfl, Fo.hexOf data ++ [62], ?_, h2, fok1 bm⟩
    rw [hl]
    exact h1
  · refine face_encode 2 (by omega) (by omega) (fenc2 ?_)
    by_cases h0 : 0 < data.length
    · obtain ⟨b, o, rfl, _, _⟩ := hd.at h0
      refine (encodeA85_some hd (Nat.le_refl _) byt (by omega) lc).mono ?_
      rintro e w' ⟨v, rfl, h1, h2⟩
      exact ⟨v, rfl, enc85 data, h1, h2.below (Nat.le_refl _) (by simp), fok2 bm⟩
    · obtain rfl : data = [] := List.eq_nil_of_length_eq_zero (by omega)
      refine (encodeA85_nil cap).mono ?_
      rintro e w' ⟨v, rfl, h1, h2⟩
      exact ⟨v, rfl, [126, 62], h1, h2.below (Nat.le_refl _) (by simp), fok2 (data := []) bm⟩
  · refine face_encode 3 (by omega) (by omega) (fenc3 ?_)
    by_cases h0 : 0 < data.length
    · obtain ⟨b, o, rfl, _, _⟩ := hd.at h0
      refine (encodeRun_some hd (Nat.le_refl _) byt (by omega) lc).mono ?_
      rintro e w' ⟨v, rfl, h1, h2⟩
      exact ⟨v, rfl, Fo.encRun data, h1, h2.below (Nat.le_refl _) (by simp), fok3 bm⟩
    · obtain rfl : data = [] := List.eq_nil_of_length_eq_zero (by omega)
      refine (encodeRun_nil cap).mono ?_
      rintro e w' ⟨v, rfl, h1, h2⟩
      exact ⟨v, rfl, [128], h1, h2.below (Nat.le_refl _) (by simp), fok3 (data := []) bm⟩
  · refine (encode4_ok hd (Nat.le_refl _) byt len lc hn).mono ?_
    rintro e w' ⟨v, rfl, bl, h1, h2, h3, h4, h5, h6⟩
    exact ⟨v, rfl, flOut data bl, h1, h2, fok4 bm h3 h5 h6⟩
end Go.Proofs.YtgkljcmjnphpeaaDoor
/- foliokeep.Back. -/
namespace Go.Proofs.YtgkljcmjnphpeaaDoor
open Go.RowKit
variable {w : World} {B : Nat}

theorem str_any {ao : Option Addr} {l : List Nat} {N cap : Nat} (h : Dat w B ao l) (hl : l.length = N) : (convert 22 9 (.slice ao N cap)).run Tryd.prog w = .ok (.string (strOf l)) w := by
  by_cases hp : 0 < N
  · exact str_dat h hl hp
  · obtain rfl : N = 0 := by omega
    obtain rfl : l = [] := List.eq_nil_of_length_eq_zero hl
    rw [run_convert_bytes_string w 22 9 5 ao 0 cap Tryd.underlying22 Tryd.underlying5 Tryd.underlying9]
    cases ao <;> simp [Conv.bytesToString, loadCells]
    all_goals rfl

/-- Bytes as a slice of the call's holds them. -/
structure Cur (W : World) (b : Value) (cur : List Nat) (a : Option Addr) (cp : Nat) : Prop where
  eq : b = .slice a cur.length cp
  dat : Dat W W.heap.size a cur
  byt : ∀ i, i < cur.length → nth cur i < 256
  le : cur.length ≤ cp ∧ cp ≤ 9223372036854775807
  nil : a = none → cp = 0
theorem Dat.up {W W' : World} {a : Option Addr} {l : List Nat} (h : Dat W W.heap.size a l) (b : Below W.heap.size W W') : Dat W' W'.heap.size a l := by
  have h2 := h.below b
  intro i hi
  obtain ⟨b', o', e1, e2, e3⟩ := h2 i hi
  exact ⟨b', o', e1, Nat.lt_of_lt_of_le e2 b.size, e3⟩
theorem Cur.below {W W' : World} {b : Value} {cur : List Nat} {a : Option Addr} {cp : Nat} (h : Cur W b cur a cp) (k : Below W.heap.size W W') : Cur W' b cur a cp :=
  ⟨h.eq, h.dat.up k, h.byt, h.le, h.nil⟩
theorem Cur.own {W : World} {v : Value} {l : List Nat} (h : W.ownsRow B 5 1 v l.length (l.map fun x : Nat => .int .u8 (x : Int))) (hb : ∀ i, i < l.length → nth l i < 256) :
    ∃ a cp, Cur W v l a cp ∧ (∀ b o k, a = some ⟨b, o, k⟩ → v.ownBlock = some b) := by
  rcases h.2 with ⟨rfl, e2⟩ | ⟨g, cap, cur, rfl, _, hh, h1, h2, _⟩
  · exact ⟨none, 0, ⟨by rw [e2], fun i hi => by omega, hb, by omega, fun _ => rfl⟩, fun _ _ _ e => by cases e⟩
  · refine ⟨some ⟨g, 0, none⟩, cap, ⟨rfl, fun i hi => ⟨g, 0, rfl, lt_of_block hh, ?_⟩, hb, ⟨h1, by unfold maxLen at h2; omega⟩, fun e => by cases e⟩, fun b o k e => by cases e; rfl⟩
    rw [Nat.zero_add]
    exact own_cell h i hi
/-- What an append to another row leaves. -/
theorem Cur.grown {W W' : World} {b : Value} {cur : List Nat} {a : Option Addr} {cp : Nat} {row : Option Nat} (h : Cur W b cur a cp) (hg : W.grownBy W' row) (hne : ∀ b o k, a = some ⟨b, o, k⟩ → row ≠ some b) : Cur W' b cur a cp := by
  refine ⟨h.eq, fun i hi => ?_, h.byt, h.le, h.nil⟩
  obtain ⟨b', o', e1, e2, e3⟩ := h.dat i hi
  refine ⟨b', o', e1, Nat.lt_of_lt_of_le e2 hg.size, ?_⟩
  rw [World.cell?_of_block (w := W) (hg.block b' e2 (fun c => hne b' o' none e1 c.symm))]
  exact e3
theorem Cur.mem {W : World} {b : Value} {cur : List Nat} {a : Option Addr} {cp : Nat} (h : Cur W b cur a cp) (h0 : 0 < cur.length) : ∃ bd off, a = some ⟨bd, off, none⟩ ∧ Mem W bd off cp cur := by
  obtain ⟨bd, off, e, e2, e3⟩ := h.dat.at h0
  exact ⟨bd, off, e, e2, e3, h.byt, h.le.1, h.le.2⟩

/-- Encoded by filters, the last one first. -/
def Chn (D : List Nat) : List Nat → List Nat → Prop
  | [], cur => cur = D
  | f :: fs, cur => ∃ prev, Chn D fs prev ∧ FOk f prev cur ∧ (1 ≤ f ∧ f ≤ 4) ∧ (∀ i, i < prev.length → nth prev i < 256) ∧ prev.length ≤ 100000 ∧ cur.length ≤ 200000

theorem dec_ok {f : Nat} {data enc : List Nat} {bd off cap most : Nat} (hF : FOk f data enc) (hf : 1 ≤ f ∧ f ≤ 4) (hM : Mem w bd off cap enc) (hl : enc.length ≤ 200000) (hm : most ≤ 1000000) (h1 : data.length ≤ most) :
    Calls Tryd.prog 8 #[.int .i64 f, .slice (some ⟨bd, off, none⟩) enc.length cap, .int .i64 most] w fun e w' => ∃ v, e = .returned (.tuple #[v, .int .i64 0]) ∧ w'.ownsRow w.heap.size 5 1 v data.length (data.map fun x : Nat => .int .u8 (x : Int)) ∧ Below w.heap.size w w' :=
  decode_returns f hf bd off cap enc most hm hl data (fun W hb hs => hF.ok W bd off cap most (hM.below hb) hm h1)
theorem dec_cap {f : Nat} {data enc : List Nat} {bd off cap most : Nat} (hF : FOk f data enc) (hf : 1 ≤ f ∧ f ≤ 4) (hM : Mem w bd off cap enc) (hl : enc.length ≤ 200000) (hm : most ≤ 1000000) (h1 : most < data.length) :
    Calls Tryd.prog 8 #[.int .i64 f, .slice (some ⟨bd, off, none⟩) enc.length cap, .int .i64 most] w fun e w' => e = .returned (.tuple #[.slice none 0 0, .int .i64 6]) ∧ Below w.heap.size w w' :=
  decode_panics f hf bd off cap enc most hm hl 6 (fun W hb hs => hF.cap W bd off cap most (hM.below hb) h1 hm)
theorem dec_cut {f : Nat} {data enc : List Nat} {bd off cap most : Nat} (hF : FOk f data enc) (hf : 1 ≤ f ∧ f ≤ 4) (hM : Mem w bd off cap enc) (hl : enc.length ≤ 200000) (hm : most ≤ 1000000) (h1 : data.length ≤ most) :
    Calls Tryd.prog 8 #[.int .i64 f, .slice (some ⟨bd, off, none⟩) (enc.length - 1) cap, .int .i64 most] w fun e w' => e = .returned (.tuple #[.slice none 0 0, .int .i64 5]) ∧ Below w.heap.size w w' := by
  have := decode_panics f hf bd off cap enc.dropLast most hm (by rw [List.length_dropLast]; omega) 5 (fun W hb hs => hF.cut W bd off cap most (hM.below hb).cut hm h1)
  rw [List.length_dropLast] at this
  exact this

/-- Numbers in memory below B, from an address on. -/
def DatI (w : World) (B : Nat) (ao : Option Addr) (l : List Int) : Prop := ∀ i, i < l.length → ∃ b o, ao = some ⟨b, o, none⟩ ∧ b < B ∧ w.cell? ⟨b, o + i, none⟩ = some (.int .i64 (l.getD i 0))
theorem DatI.below {ao : Option Addr} {l : List Int} {w' : World} (h : DatI w w.heap.size ao l) (b : Below w.heap.size w w') : DatI w' w.heap.size ao l := by
  intro i hi
  obtain ⟨b', o', e1, e2, e3⟩ := h i hi
  exact ⟨b', o', e1, e2, by rw [b.cell (p := ⟨b', o' + i, none⟩) e2]; exact e3⟩

def intVals (l : List Nat) : List Value := l.map fun x : Nat => Value.int .i64 (x : Int)

/-- How far Back has come. -/
structure Bst (w W : World) (D : List Nat) (b l : Value) (fs cur : List Nat) (a : Option Addr) (cp : Nat) : Prop where
  now : Cur W b cur a cp
  chn : Chn D fs cur
  len : cur.length + 20 ≤ 3020 * 2 ^ fs.length
  own : W.ownsRow w.heap.size 3 1 l fs.length (intVals fs.reverse)
  bel : Below w.heap.size w W

theorem Bst.step {w W W2 W5 W6 : World} {D : List Nat} {b l c l' : Value} {fs cur enc : List Nat} {a : Option Addr} {cp f : Nat} (h : Bst w W D b l fs cur a cp) (h3 : fs.length ≤ 3) (own2 : W2.ownsRow W.heap.size 5 1 c enc.length (enc.map fun x : Nat => .int .u8 (x : Int))) (b2 : Below W.heap.size W W2)
    (hF : FOk f cur enc) (hff : 1 ≤ f ∧ f ≤ 4) (b5 : Below W2.heap.size W2 W5) (o : Obj) (own6 : W6.ownsRow w.heap.size 3 1 l' (fs.length + 1) (intVals fs.reverse ++ intVals [f])) (hg : (W5.alloc o).grownBy W6 l.ownBlock) :
    ∃ a cp, Bst w W6 D c l' (f :: fs) enc a cp := by
  obtain ⟨a2, cp2, hc, hb⟩ := Cur.own own2 (nth_byte hF.byt)
  have b25 : Below W2.heap.size W2 (W5.alloc o) := b5.alloc b5.size o
  have hlt : ∀ g, l.ownBlock = some g → g < W.heap.size := fun g e => (h.own.lt g e).2
  have hge : ∀ b o k, a2 = some ⟨b, o, k⟩ → W.heap.size ≤ b := fun b o k e => (own2.lt b (hb b o k e)).1
  have hne : ∀ b o k, a2 = some ⟨b, o, k⟩ → l.ownBlock ≠ some b := fun b o k e c => by
    have := hlt b c; have := hge b o k e; omega
  have hp : 2 ^ fs.length ≤ 2 ^ 3 := Nat.pow_le_pow_right (by omega) h3
  have hl := h.len
  have hl2 := hF.len
  refine ⟨a2, cp2, (hc.below b25).grown hg hne, ⟨cur, h.chn, hF, hff, h.now.byt, by omega, by omega⟩, ?_, ?_, ?_⟩
  · rw [List.length_cons, Nat.pow_succ]; omega
  · rw [List.reverse_cons]
    simpa [intVals] using own6
  · have h1 : Below w.heap.size w (W5.alloc o) := (h.bel.trans (b2.mono h.bel.size)).trans (b25.mono (Nat.le_trans h.bel.size b2.size))
    exact h1.grown hg (Nat.le_trans h.bel.size (Nat.le_trans b2.size b25.size)) (fun k e => (h.own.lt k e).1)

theorem newsI {w : World} {a : Nat} {x : Int} (ex : x = a) : ∀ j u, (intVals [a])[j]? = some u → (w.alloc (.cells #[.int .i64 x] 3)).cell? ((⟨w.heap.size, 0, none⟩ : Addr).add j) = some u := by
  subst ex
  intro j u hu
  match j, hu with
  | 0, hu => rw [addr_add, World.cell?_alloc_new]; exact hu
  | j + 1, hu => simp [intVals] at hu

theorem rev_at (pre fs : List Nat) (f : Nat) : ((pre ++ f :: fs).reverse).getD fs.length 0 = f := by
  simp [List.getElem?_append_left, List.getElem?_append_right]
end Go.Proofs.YtgkljcmjnphpeaaDoor
/- foliokeep.Back: its body. -/
namespace Go.Proofs.YtgkljcmjnphpeaaDoor
open Go.RowKit
variable {w : World} {B : Nat}

set_option maxRecDepth 100000 in
set_option maxHeartbeats 8000000 in
theorem back_small {ao fo : Option Addr} {L cap fcap : Nat} {D : List Nat} {zs : List Int} (hL : D.length = L) (hsm : L ≤ 3000) (hd : Dat w w.heap.size ao D) (byt : ∀ i, i < D.length → nth D i < 256) (hcp : L ≤ cap ∧ cap ≤ 9223372036854775807) (hn : ao = none → cap = 0) (hz : DatI w w.heap.size fo zs) (hzr : ∀ i, i < zs.length → -9223372036854775808 ≤ zs.getD i 0 ∧ zs.getD i 0 ≤ 9223372036854775807) (hzl : zs.length ≤ fcap ∧ fcap ≤ 9223372036854775807) :
    Calls Tryd.prog 3 #[.slice ao L cap, .slice fo zs.length fcap] w fun e w' => e = .returned (.bool true) ∧ Below w.heap.size w w' := by
  obtain ⟨i0, hi, hz0, hz1, hz2⟩ := info_parts Tryd.infoInt
  have HD := hide hd
  have BYT := hide byt
  subst hL
  have hbig : ¬ (3000 : Int) < D.length := by omega
  have HD0 : Hid (Dat w w.heap.size ao D) := HD
  clear hd byt
  have HZ := hide hz
  have HZR := hide hzr
  clear hz hzr
  go_enter Tryd.func3, Tryd.ntmps3
  go_wp2_with fail
  refine (opened_ok w).mono ?_
  rintro e w1 ⟨rfl, b1⟩
  have B1 := hide b1
  have hs1 := b1.size
  clear b1
  go_wp2_with fail
  go_loopw [6, 7, 8] (fun b l i wr => ∃ (fs cur : List Nat) (a : Option Addr) (cp : Nat), i = .int .i64 fs.length ∧ fs.length ≤ 4 ∧ fs.length ≤ zs.length ∧ Hid (Bst w wr D b l fs cur a cp)) (fun _ _ i _ => 4 - (intOf i).toNat)
  case atStart =>
    refine ⟨[], D, ao, cap, rfl, by simp, by simp, ?_⟩
    exact ⟨⟨rfl, HD.out.up B1.out, BYT.out, hcp, hn⟩, rfl, by simp; omega, World.ownsRow_nil _ _ _ _, B1.out⟩
  case round =>
    obtain ⟨fs, cur, a, cp, rfl, hf4, hfz, HB⟩ := hrel
    obtain rfl := HB.out.now.eq
    by_cases hin : fs.length < zs.length ∧ fs.length < 4
    · obtain ⟨k1, k2⟩ := hin
      have k1' : (fs.length : Int) < zs.length := by omega
      have k2' : (fs.length : Int) < 4 := by omega
      have hlen : cur.length + 20 ≤ 3020 * 8 := by
        have h1 := HB.out.len
        have h2 : 2 ^ fs.length ≤ 2 ^ 3 := Nat.pow_le_pow_right (by omega) (by omega)
        omega
      obtain ⟨fb, foff, e1, e2, e3⟩ := (HZ.out.below HB.out.bel) fs.length k1
      subst e1
      have hzv := HZR.out fs.length k1
      generalize zs.getD fs.length 0 = z at *
      go_wp2_with fail
      refine (pick_ok z hzv.1 hzv.2 4 (by omega) (by omega) _).mono ?_
      rintro e w' ⟨r, hr, rfl, rfl⟩
      obtain ⟨f, hf⟩ : ∃ f, f = 1 + r := ⟨_, rfl⟩
      have hff : 1 ≤ f ∧ f ≤ 4 := by omega
      have ef : (1 : Int) + (r : Int) = (f : Int) := by omega
      clear hf hr e3
      have HC := hide (encode_ok f hff HB.out.now.dat HB.out.now.byt (by omega) HB.out.now.le HB.out.now.nil)
      go_wp2_with fail
      refine HC.out.mono ?_
      rintro e w2 ⟨v, rfl, enc, own2, b2, hF⟩
      have hpos := hF.pos
      have hle := hF.len
      have HF := hide hF
      have hcb := nth_byte hF.byt
      have OWN2 := hide own2
      have B2 := hide b2
      obtain ⟨g, cc, hv, _⟩ := own_form own2 hpos
      subst hv
      have HM2 : Hid (Mem w2 g 0 cc enc) := by
        have hcc := own_cap own2
        exact ⟨(own2.lt g rfl).2, fun i hi => by rw [Nat.zero_add]; exact own_cell own2 i hi, hcb, hcc.1, hcc.2⟩
      obtain ⟨m, hm⟩ : ∃ m, enc.length = m + 1 := ⟨enc.length - 1, by omega⟩
      have hl2 : enc.length ≤ 200000 := by omega
      have hcl : cur.length ≤ 1000000 := by omega
      have HM := hide hm
      have hcp2 := own_cap own2
      rw [hm] at hcp2 ⊢
      clear hF own2 b2 hpos hcb HC
      have HD1 := hide (dec_ok (most := cur.length) HF.out hff HM2.out hl2 (by omega) (Nat.le_refl _))
      rw [HM.out] at HD1
      go_wp2_with fail
      refine HD1.out.mono ?_
      rintro e w3 ⟨v3, rfl, own3, b3⟩
      obtain ⟨a3, cp3, hc3, _⟩ := Cur.own own3 HB.out.now.byt
      obtain rfl := hc3.eq
      have hs3 := str_any (cap := cp3) hc3.dat rfl
      have hsc := str_any (cap := cp) ((HB.out.now.below B2.out).below b3).dat rfl
      have B3 := hide b3
      clear own3 hc3 HD1 b3
      by_cases h0 : 0 < cur.length
      · have h0' : (0 : Int) < cur.length := by omega
        have em : (cur.length : Int) - 1 = ((cur.length - 1 : Nat) : Int) := by omega
        have HD2 := hide (dec_cap (most := cur.length - 1) HF.out hff (HM2.out.below B3.out) hl2 (by omega) (by omega))
        rw [HM.out] at HD2
        go_wp2_with fail
        refine HD2.out.mono ?_
        rintro e w4 ⟨rfl, b4⟩
        have B4 := hide (B3.out.trans (b4.mono B3.out.size))
        clear HD2 b4 em hs3 hsc B3
        have HD3 := hide (dec_cut (most := cur.length + 9) HF.out hff (HM2.out.below B4.out) hl2 (by omega) (by omega))
        rw [HM.out] at HD3
        have es : (m : Int) + 1 - 1 = (m : Int) := by omega
        go_wp2_with fail
        refine HD3.out.mono ?_
        rintro e w5 ⟨rfl, b5⟩
        have B5 := hide (B4.out.trans (b5.mono B4.out.size))
        have OWN5 := hide (own_below (own_below HB.out.own B2.out) B5.out)
        have hs5 : w.heap.size ≤ w5.heap.size := Nat.le_trans HB.out.bel.size (Nat.le_trans B2.out.size B5.out.size)
        clear HD3 b5 B4
        go_wp2_with (at_builtin; refine wpList_append_own _ rfl (.tmp 109) (.tmp 111) 23 rfl w.heap.size 3 i0 (.int .i64 0) 1 8 Tryd.underlying23 hi hz0 hz1 hz2 rfl (by decide) _ fs.length _ rfl (OWN5.out.alloc _) ⟨w5.heap.size, 0, none⟩ 1 1 (intVals [f]) rfl rfl ?hnews ?hone ?h63 ?hby ?hbs ?_)
        case hnews => exact newsI rfl
        case hone => intro u hu; simp [intVals] at hu; subst hu; rfl
        case h63 => unfold maxLen; omega
        case hby => omega
        case hbs => simp; omega
        intro l6 w6 own6 hg6 _
        have HN := hide (HB.out.step (by omega) OWN2.out B2.out HF.out hff B5.out _ own6 hg6)
        have hl6 := own_slice own6
        obtain ⟨al, cl, hal⟩ := hl6
        subst hal
        clear own6 hg6
        go_wp2
        go_roundw
        case rel =>
          obtain ⟨a6, cp6, hst⟩ := HN.out
          rw [HM.out] at *
          exact ⟨f :: fs, enc, a6, cp6, by go_num, by simp; omega, by simp; omega, hst⟩
        case measure => simp [intOf]; omega
      · have h0' : ¬ (0 : Int) < cur.length := by omega
        obtain ⟨w4, hw4⟩ : ∃ w4, w4 = w3 := ⟨w3, rfl⟩
        have B4 := B3
        rw [← hw4] at B4 hs3 hsc ⊢
        clear hw4 B3
        have HD3 := hide (dec_cut (most := cur.length + 9) HF.out hff (HM2.out.below B4.out) hl2 (by omega) (by omega))
        rw [HM.out] at HD3
        have es : (m : Int) + 1 - 1 = (m : Int) := by omega
        go_wp2_with fail
        refine HD3.out.mono ?_
        rintro e w5 ⟨rfl, b5⟩
        have B5 := hide (B4.out.trans (b5.mono B4.out.size))
        have OWN5 := hide (own_below (own_below HB.out.own B2.out) B5.out)
        have hs5 : w.heap.size ≤ w5.heap.size := Nat.le_trans HB.out.bel.size (Nat.le_trans B2.out.size B5.out.size)
        clear HD3 b5 B4
        go_wp2_with (at_builtin; refine wpList_append_own _ rfl (.tmp 109) (.tmp 111) 23 rfl w.heap.size 3 i0 (.int .i64 0) 1 8 Tryd.underlying23 hi hz0 hz1 hz2 rfl (by decide) _ fs.length _ rfl (OWN5.out.alloc _) ⟨w5.heap.size, 0, none⟩ 1 1 (intVals [f]) rfl rfl ?hnews ?hone ?h63 ?hby ?hbs ?_)
        case hnews => exact newsI rfl
        case hone => intro u hu; simp [intVals] at hu; subst hu; rfl
        case h63 => unfold maxLen; omega
        case hby => omega
        case hbs => simp; omega
        intro l6 w6 own6 hg6 _
        have HN := hide (HB.out.step (by omega) OWN2.out B2.out HF.out hff B5.out _ own6 hg6)
        have hl6 := own_slice own6
        obtain ⟨al, cl, hal⟩ := hl6
        subst hal
        clear own6 hg6
        go_wp2
        go_roundw
        case rel =>
          obtain ⟨a6, cp6, hst⟩ := HN.out
          rw [HM.out] at *
          exact ⟨f :: fs, enc, a6, cp6, by go_num, by simp; omega, by simp; omega, hst⟩
        case measure => simp [intOf]; omega
    · have HD0 := hide ((HD0.out.up HB.out.bel))
      obtain ⟨al, cl, hal⟩ := own_slice HB.out.own
      subst hal
      have hpq : ¬ (fs.length : Int) < zs.length ∨ ((fs.length : Int) < zs.length ∧ ¬ (fs.length : Int) < 4) := by omega
      clear hin
      rcases hpq with q1 | ⟨q1, q2⟩
      all_goals
        go_wp2_with fail
        go_loopw [6, 14] (fun b i wr2 => ∃ (z : Int) (pre fs2 cur2 : List Nat) (a2 : Option Addr) (cp2 : Nat), i = .int .i64 z ∧ z + 1 = fs2.length ∧ Hid (fs = pre ++ fs2) ∧ Hid (Cur wr2 b cur2 a2 cp2 ∧ Chn D fs2 cur2 ∧ Below wr.heap.size wr wr2)) (fun _ i _ => (intOf i + 1).toNat)
        case atStart => exact ⟨(fs.length : Int) - 1, [], fs, cur, a, cp, by go_num, by omega, hide rfl, HB.out.now, HB.out.chn, Below.refl _ _⟩
        case round =>
          obtain ⟨z, pre, fs2, cur2, a2, cp2, rfl, hz1', HP, HC⟩ := hrel
          obtain rfl := HC.out.1.eq
          cases fs2 with
          | nil =>
            obtain rfl : z = -1 := by simp at hz1'; omega
            obtain rfl : cur2 = D := HC.out.2.1
            have s1 := str_any (cap := cp2) HC.out.1.dat rfl
            have s2 := str_any (cap := cap) (HD0.out.up HC.out.2.2) rfl
            go_wp2
            go_ret
            exact ⟨rfl, HB.out.bel.trans (HC.out.2.2.mono HB.out.bel.size)⟩
          | cons f fs3 =>
            obtain rfl : z = (fs3.length : Int) := by simp at hz1'; omega
            obtain ⟨prev, hch, hF, hff, hpb, hpl, hcl⟩ := HC.out.2.1
            have HF := hide hF
            have HCH := hide hch
            have hfl : fs.length = pre.length + (fs3.length + 1) := by rw [HP.out, List.length_append, List.length_cons]
            obtain ⟨gl, cl2, hsl, _⟩ := own_form HB.out.own (by omega)
            cases hsl
            have hload : wr.cell? ⟨gl, fs3.length, none⟩ = some (.int .i64 f) := by
              rw [(own_below HB.out.own HC.out.2.2).cellAt fs3.length (by omega)]
              have := rev_at pre fs3 f
              rw [← HP.out] at this
              simp only [intVals, List.getElem?_map]
              rw [List.getElem?_eq_getElem (by rw [List.length_reverse]; omega)]
              rw [List.getD_eq_getElem?_getD, List.getElem?_eq_getElem (by rw [List.length_reverse]; omega)] at this
              simp only [Option.getD_some] at this
              rw [this]; rfl
            obtain ⟨bd, off, hae, hM⟩ := HC.out.1.mem hF.pos
            subst hae
            have HDC := hide (dec_ok (most := 1000000) HF.out hff hM hcl (by omega) (by omega))
            have PB := hide hpb
            have B2 := hide HC.out.2.2
            clear hF hch hM HC hpb
            have hin1 : (fs3.length : Int) < fs.length := by omega
            clear hfl hz1' hcl hpl
            go_wp2_with fail
            refine HDC.out.mono ?_
            rintro e w3 ⟨v3, rfl, own3, b3⟩
            obtain ⟨a3, cp3, hc3, _⟩ := Cur.own own3 PB.out
            have HC3 := hide hc3
            have B3 := hide (B2.out.trans (b3.mono B2.out.size))
            obtain rfl := hc3.eq
            clear own3 b3 hc3 HDC
            go_wp2
            go_roundw
            case rel => exact ⟨(fs3.length : Int) - 1, pre ++ [f], fs3, prev, a3, cp3, by go_num, by omega, hide (by rw [HP.out]; simp), HC3.out, HCH.out, B3.out⟩
            case measure => simp [intOf] <;> omega

set_option maxRecDepth 100000 in
set_option maxHeartbeats 8000000 in
theorem back_big {ao fo : Option Addr} {L cap fcap : Nat} {D : List Nat} {zs : List Int} (hD3 : D.length = 3000) (hbg : 3000 < L) {b0 o0 : Nat} (hao : ao = some ⟨b0, o0, none⟩) (hd : Dat w w.heap.size ao D) (byt : ∀ i, i < D.length → nth D i < 256) (hcp : L ≤ cap ∧ cap ≤ 9223372036854775807) (hz : DatI w w.heap.size fo zs) (hzr : ∀ i, i < zs.length → -9223372036854775808 ≤ zs.getD i 0 ∧ zs.getD i 0 ≤ 9223372036854775807) (hzl : zs.length ≤ fcap ∧ fcap ≤ 9223372036854775807) :
    Calls Tryd.prog 3 #[.slice ao L cap, .slice fo zs.length fcap] w fun e w' => e = .returned (.bool true) ∧ Below w.heap.size w w' := by
  obtain ⟨i0, hi, hz0, hz1, hz2⟩ := info_parts Tryd.infoInt
  subst hao
  have HD := hide hd
  have BYT := hide byt
  have hbig : (3000 : Int) < L := by omega
  have hcp3 : 3000 ≤ cap := by omega
  have HD0 : Hid (Dat w w.heap.size (some ⟨b0, o0, none⟩) D) := HD
  have HD3 := hide hD3
  clear hd byt hD3
  have HZ := hide hz
  have HZR := hide hzr
  clear hz hzr
  go_enter Tryd.func3, Tryd.ntmps3
  go_wp2_with fail
  refine (opened_ok w).mono ?_
  rintro e w1 ⟨rfl, b1⟩
  have B1 := hide b1
  have hs1 := b1.size
  clear b1
  go_wp2_with fail
  go_loopw [6, 7, 8] (fun b l i wr => ∃ (fs cur : List Nat) (a : Option Addr) (cp : Nat), i = .int .i64 fs.length ∧ fs.length ≤ 4 ∧ fs.length ≤ zs.length ∧ Hid (Bst w wr D b l fs cur a cp)) (fun _ _ i _ => 4 - (intOf i).toNat)
  case atStart =>
    refine ⟨[], D, some ⟨b0, o0, none⟩, cap, rfl, by simp, by simp, ?_⟩
    exact ⟨⟨by rw [HD3.out], HD.out.up B1.out, BYT.out, by rw [HD3.out]; omega, fun e => by cases e⟩, rfl, by rw [HD3.out]; simp, World.ownsRow_nil _ _ _ _, B1.out⟩
  case round =>
    obtain ⟨fs, cur, a, cp, rfl, hf4, hfz, HB⟩ := hrel
    obtain rfl := HB.out.now.eq
    by_cases hin : fs.length < zs.length ∧ fs.length < 4
    · obtain ⟨k1, k2⟩ := hin
      have k1' : (fs.length : Int) < zs.length := by omega
      have k2' : (fs.length : Int) < 4 := by omega
      have hlen : cur.length + 20 ≤ 3020 * 8 := by
        have h1 := HB.out.len
        have h2 : 2 ^ fs.length ≤ 2 ^ 3 := Nat.pow_le_pow_right (by omega) (by omega)
        omega
      obtain ⟨fb, foff, e1, e2, e3⟩ := (HZ.out.below HB.out.bel) fs.length k1
      subst e1
      have hzv := HZR.out fs.length k1
      generalize zs.getD fs.length 0 = z at *
      go_wp2_with fail
      refine (pick_ok z hzv.1 hzv.2 4 (by omega) (by omega) _).mono ?_
      rintro e w' ⟨r, hr, rfl, rfl⟩
      obtain ⟨f, hf⟩ : ∃ f, f = 1 + r := ⟨_, rfl⟩
      have hff : 1 ≤ f ∧ f ≤ 4 := by omega
      have ef : (1 : Int) + (r : Int) = (f : Int) := by omega
      clear hf hr e3
      have HC := hide (encode_ok f hff HB.out.now.dat HB.out.now.byt (by omega) HB.out.now.le HB.out.now.nil)
      go_wp2_with fail
      refine HC.out.mono ?_
      rintro e w2 ⟨v, rfl, enc, own2, b2, hF⟩
      have hpos := hF.pos
      have hle := hF.len
      have HF := hide hF
      have hcb := nth_byte hF.byt
      have OWN2 := hide own2
      have B2 := hide b2
      obtain ⟨g, cc, hv, _⟩ := own_form own2 hpos
      subst hv
      have HM2 : Hid (Mem w2 g 0 cc enc) := by
        have hcc := own_cap own2
        exact ⟨(own2.lt g rfl).2, fun i hi => by rw [Nat.zero_add]; exact own_cell own2 i hi, hcb, hcc.1, hcc.2⟩
      obtain ⟨m, hm⟩ : ∃ m, enc.length = m + 1 := ⟨enc.length - 1, by omega⟩
      have hl2 : enc.length ≤ 200000 := by omega
      have hcl : cur.length ≤ 1000000 := by omega
      have HM := hide hm
      have hcp2 := own_cap own2
      rw [hm] at hcp2 ⊢
      clear hF own2 b2 hpos hcb HC
      have HD1 := hide (dec_ok (most := cur.length) HF.out hff HM2.out hl2 (by omega) (Nat.le_refl _))
      rw [HM.out] at HD1
      go_wp2_with fail
      refine HD1.out.mono ?_
      rintro e w3 ⟨v3, rfl, own3, b3⟩
      obtain ⟨a3, cp3, hc3, _⟩ := Cur.own own3 HB.out.now.byt
      obtain rfl := hc3.eq
      have hs3 := str_any (cap := cp3) hc3.dat rfl
      have hsc := str_any (cap := cp) ((HB.out.now.below B2.out).below b3).dat rfl
      have B3 := hide b3
      clear own3 hc3 HD1 b3
      by_cases h0 : 0 < cur.length
      · have h0' : (0 : Int) < cur.length := by omega
        have em : (cur.length : Int) - 1 = ((cur.length - 1 : Nat) : Int) := by omega
        have HD2 := hide (dec_cap (most := cur.length - 1) HF.out hff (HM2.out.below B3.out) hl2 (by omega) (by omega))
        rw [HM.out] at HD2
        go_wp2_with fail
        refine HD2.out.mono ?_
        rintro e w4 ⟨rfl, b4⟩
        have B4 := hide (B3.out.trans (b4.mono B3.out.size))
        clear HD2 b4 em hs3 hsc B3
        have HD3 := hide (dec_cut (most := cur.length + 9) HF.out hff (HM2.out.below B4.out) hl2 (by omega) (by omega))
        rw [HM.out] at HD3
        have es : (m : Int) + 1 - 1 = (m : Int) := by omega
        go_wp2_with fail
        refine HD3.out.mono ?_
        rintro e w5 ⟨rfl, b5⟩
        have B5 := hide (B4.out.trans (b5.mono B4.out.size))
        have OWN5 := hide (own_below (own_below HB.out.own B2.out) B5.out)
        have hs5 : w.heap.size ≤ w5.heap.size := Nat.le_trans HB.out.bel.size (Nat.le_trans B2.out.size B5.out.size)
        clear HD3 b5 B4
        go_wp2_with (at_builtin; refine wpList_append_own _ rfl (.tmp 109) (.tmp 111) 23 rfl w.heap.size 3 i0 (.int .i64 0) 1 8 Tryd.underlying23 hi hz0 hz1 hz2 rfl (by decide) _ fs.length _ rfl (OWN5.out.alloc _) ⟨w5.heap.size, 0, none⟩ 1 1 (intVals [f]) rfl rfl ?hnews ?hone ?h63 ?hby ?hbs ?_)
        case hnews => exact newsI rfl
        case hone => intro u hu; simp [intVals] at hu; subst hu; rfl
        case h63 => unfold maxLen; omega
        case hby => omega
        case hbs => simp; omega
        intro l6 w6 own6 hg6 _
        have HN := hide (HB.out.step (by omega) OWN2.out B2.out HF.out hff B5.out _ own6 hg6)
        have hl6 := own_slice own6
        obtain ⟨al, cl, hal⟩ := hl6
        subst hal
        clear own6 hg6
        go_wp2
        go_roundw
        case rel =>
          obtain ⟨a6, cp6, hst⟩ := HN.out
          rw [HM.out] at *
          exact ⟨f :: fs, enc, a6, cp6, by go_num, by simp; omega, by simp; omega, hst⟩
        case measure => simp [intOf]; omega
      · have h0' : ¬ (0 : Int) < cur.length := by omega
        obtain ⟨w4, hw4⟩ : ∃ w4, w4 = w3 := ⟨w3, rfl⟩
        have B4 := B3
        rw [← hw4] at B4 hs3 hsc ⊢
        clear hw4 B3
        have HD3 := hide (dec_cut (most := cur.length + 9) HF.out hff (HM2.out.below B4.out) hl2 (by omega) (by omega))
        rw [HM.out] at HD3
        have es : (m : Int) + 1 - 1 = (m : Int) := by omega
        go_wp2_with fail
        refine HD3.out.mono ?_
        rintro e w5 ⟨rfl, b5⟩
        have B5 := hide (B4.out.trans (b5.mono B4.out.size))
        have OWN5 := hide (own_below (own_below HB.out.own B2.out) B5.out)
        have hs5 : w.heap.size ≤ w5.heap.size := Nat.le_trans HB.out.bel.size (Nat.le_trans B2.out.size B5.out.size)
        clear HD3 b5 B4
        go_wp2_with (at_builtin; refine wpList_append_own _ rfl (.tmp 109) (.tmp 111) 23 rfl w.heap.size 3 i0 (.int .i64 0) 1 8 Tryd.underlying23 hi hz0 hz1 hz2 rfl (by decide) _ fs.length _ rfl (OWN5.out.alloc _) ⟨w5.heap.size, 0, none⟩ 1 1 (intVals [f]) rfl rfl ?hnews ?hone ?h63 ?hby ?hbs ?_)
        case hnews => exact newsI rfl
        case hone => intro u hu; simp [intVals] at hu; subst hu; rfl
        case h63 => unfold maxLen; omega
        case hby => omega
        case hbs => simp; omega
        intro l6 w6 own6 hg6 _
        have HN := hide (HB.out.step (by omega) OWN2.out B2.out HF.out hff B5.out _ own6 hg6)
        have hl6 := own_slice own6
        obtain ⟨al, cl, hal⟩ := hl6
        subst hal
        clear own6 hg6
        go_wp2
        go_roundw
        case rel =>
          obtain ⟨a6, cp6, hst⟩ := HN.out
          rw [HM.out] at *
          exact ⟨f :: fs, enc, a6, cp6, by go_num, by simp; omega, by simp; omega, hst⟩
        case measure => simp [intOf]; omega
    · have HD0 := hide ((HD0.out.up HB.out.bel))
      obtain ⟨al, cl, hal⟩ := own_slice HB.out.own
      subst hal
      have hpq : ¬ (fs.length : Int) < zs.length ∨ ((fs.length : Int) < zs.length ∧ ¬ (fs.length : Int) < 4) := by omega
      clear hin
      rcases hpq with q1 | ⟨q1, q2⟩
      all_goals
        go_wp2_with fail
        go_loopw [6, 14] (fun b i wr2 => ∃ (z : Int) (pre fs2 cur2 : List Nat) (a2 : Option Addr) (cp2 : Nat), i = .int .i64 z ∧ z + 1 = fs2.length ∧ Hid (fs = pre ++ fs2) ∧ Hid (Cur wr2 b cur2 a2 cp2 ∧ Chn D fs2 cur2 ∧ Below wr.heap.size wr wr2)) (fun _ i _ => (intOf i + 1).toNat)
        case atStart => exact ⟨(fs.length : Int) - 1, [], fs, cur, a, cp, by go_num, by omega, hide rfl, HB.out.now, HB.out.chn, Below.refl _ _⟩
        case round =>
          obtain ⟨z, pre, fs2, cur2, a2, cp2, rfl, hz1', HP, HC⟩ := hrel
          obtain rfl := HC.out.1.eq
          cases fs2 with
          | nil =>
            obtain rfl : z = -1 := by simp at hz1'; omega
            obtain rfl : cur2 = D := HC.out.2.1
            have s1 := str_any (cap := cp2) HC.out.1.dat rfl
            have s2 := str_any (cap := cap) (HD0.out.up HC.out.2.2) HD3.out
            go_wp2
            go_ret
            exact ⟨rfl, HB.out.bel.trans (HC.out.2.2.mono HB.out.bel.size)⟩
          | cons f fs3 =>
            obtain rfl : z = (fs3.length : Int) := by simp at hz1'; omega
            obtain ⟨prev, hch, hF, hff, hpb, hpl, hcl⟩ := HC.out.2.1
            have HF := hide hF
            have HCH := hide hch
            have hfl : fs.length = pre.length + (fs3.length + 1) := by rw [HP.out, List.length_append, List.length_cons]
            obtain ⟨gl, cl2, hsl, _⟩ := own_form HB.out.own (by omega)
            cases hsl
            have hload : wr.cell? ⟨gl, fs3.length, none⟩ = some (.int .i64 f) := by
              rw [(own_below HB.out.own HC.out.2.2).cellAt fs3.length (by omega)]
              have := rev_at pre fs3 f
              rw [← HP.out] at this
              simp only [intVals, List.getElem?_map]
              rw [List.getElem?_eq_getElem (by rw [List.length_reverse]; omega)]
              rw [List.getD_eq_getElem?_getD, List.getElem?_eq_getElem (by rw [List.length_reverse]; omega)] at this
              simp only [Option.getD_some] at this
              rw [this]; rfl
            obtain ⟨bd, off, hae, hM⟩ := HC.out.1.mem hF.pos
            subst hae
            have HDC := hide (dec_ok (most := 1000000) HF.out hff hM hcl (by omega) (by omega))
            have PB := hide hpb
            have B2 := hide HC.out.2.2
            clear hF hch hM HC hpb
            have hin1 : (fs3.length : Int) < fs.length := by omega
            clear hfl hz1' hcl hpl
            go_wp2_with fail
            refine HDC.out.mono ?_
            rintro e w3 ⟨v3, rfl, own3, b3⟩
            obtain ⟨a3, cp3, hc3, _⟩ := Cur.own own3 PB.out
            have HC3 := hide hc3
            have B3 := hide (B2.out.trans (b3.mono B2.out.size))
            obtain rfl := hc3.eq
            clear own3 b3 hc3 HDC
            go_wp2
            go_roundw
            case rel => exact ⟨(fs3.length : Int) - 1, pre ++ [f], fs3, prev, a3, cp3, by go_num, by omega, hide (by rw [HP.out]; simp), HC3.out, HCH.out, B3.out⟩
            case measure => simp [intOf] <;> omega

end Go.Proofs.YtgkljcmjnphpeaaDoor
