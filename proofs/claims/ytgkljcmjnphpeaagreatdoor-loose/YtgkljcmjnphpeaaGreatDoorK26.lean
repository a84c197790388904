/- Files put together of objects' texts: what they mean. -/
import Derived.Test.YtgkljcmjnphpeaaGreatDoorK25
import Derived.Test.YtgkljcmjnphpeaaGreatDoorK23
set_option linter.unusedVariables false
set_option linter.unusedSimpArgs false
namespace Go.Proofs.YtgkljcmjnphpeaaGreatDoor
open Go.RowKit
variable {w w' : World}
namespace Fo
/-- An object of a file, as it is told. -/
def objText (G x : List Nat) (i : Nat) : List Nat := pln 18 (i + 1) ++ ([32] ++ (G ++ ([48] ++ (G ++ ([32, 111, 98, 106] ++ (G ++ ([10] ++ (x ++ ([10] ++ (G ++ ([101, 110, 100, 111, 98, 106, 10] ++ G)))))))))))
/-- The place of an object, as it is told. -/
def atOf (off k : Int) (i n : Nat) : Nat := if (i : Int) = k then ((n : Int) + off).toNat else n
def lineText (n : Nat) : List Nat := num n 10 ++ [32, 48, 48, 48, 48, 48, 32, 110, 32, 10]
def madeGo (G : List Nat) (off k : Int) : Nat → List (List Nat) → List Nat → List Nat → List Nat × List Nat
  | _, [], s, t => (s, t)
  | i, x :: l, s, t => madeGo G off k (i + 1) l (s ++ objText G x i) (t ++ lineText (atOf off k i s.length))
def madeHead (n : Nat) : List Nat := [120, 114, 101, 102, 10, 48, 32] ++ (pln 18 (n + 1) ++ [10, 48, 48, 48, 48, 48, 48, 48, 48, 48, 48, 32, 54, 53, 53, 51, 53, 32, 102, 13, 10])
def madeTail (G : List Nat) (n at_ : Nat) : List Nat := G ++ ([116, 114, 97, 105, 108, 101, 114] ++ (G ++ ([60, 60, 47, 82, 111, 111, 116, 32, 49, 32] ++ (G ++ ([48, 32, 82] ++ (G ++ ([47, 83, 105, 122, 101, 32] ++ (pln 18 (n + 1) ++ ([62, 62] ++ (G ++ ([115, 116, 97, 114, 116, 120, 114, 101, 102, 10] ++ (G ++ (pln 18 at_ ++ [13, 10, 37, 37, 69, 79, 70])))))))))))))
def madeOf (n : Nat) (G : List Nat) (z : List Nat × List Nat) : List Nat := z.1 ++ (z.2 ++ madeTail G n z.1.length)
/-- A file of objects' texts. -/
def made (texts : List (List Nat)) (G : List Nat) (off k : Int) : List Nat := madeOf texts.length G (madeGo G off k 0 texts ([37, 80, 68, 70, 45, 49, 46, 52, 10] ++ G) (madeHead texts.length))
theorem objText_len (G x : List Nat) (i : Nat) (hG : G.length ≤ 100) (hx : x.length ≤ 1500) : (objText G x i).length ≤ 2100 := by
  unfold objText
  simp only [List.length_append, List.length_cons, List.length_nil]
  have := pln_len 18 (i + 1)
  omega
theorem lineText_len (n : Nat) : (lineText n).length = 20 := by
  unfold lineText
  rw [List.length_append, num_len]
  rfl
end Fo
set_option maxRecDepth 100000 in
set_option maxHeartbeats 8000000 in
theorem made_ok {b cap : Nat} {texts : List (List Nat)} {G : List Nat} {off k : Int} (hb : b < w.heap.size) (ht : ∀ i x, texts[i]? = some x → w.cell? ⟨b, i, none⟩ = some (.string (strN x))) (hx : ∀ x ∈ texts, x.length ≤ 1500) (hn : texts.length ≤ 6) (hnc : texts.length ≤ cap) (hG : G.length ≤ 100)
    (ho : -1 ≤ off ∧ off ≤ 1) (hk : -1 ≤ k ∧ k ≤ 100) :
    Calls Tryz.prog 29 #[.slice (some ⟨b, 0, none⟩) texts.length cap, .string (strN G), .int .i64 off, .int .i64 k] w fun e w' => e = .returned (.string (strN (Fo.made texts G off k))) ∧ Below w.heap.size w w' := by
  obtain ⟨R, hR⟩ : ∃ R, Fo.made texts G off k = R := ⟨_, rfl⟩
  rw [hR]
  have HR := hide hR
  unfold Fo.made at HR
  obtain ⟨n, hnn⟩ : ∃ n, texts.length = n := ⟨_, rfl⟩
  rw [hnn] at HR hn hnc ⊢
  have HT := hide ht
  have HX := hide hx
  have HN := hide hnn
  have hl1 : (strN (Fo.pln 18 (n + 1))).size ≤ 19 := by rw [strN_sz]; exact Fo.pln_len _ _
  have HP1 := hide (fun W : World => plainly_ok 18 (n + 1) W (by omega) (by omega) (by omega))
  have HH : Hid (({ data := #[120, 114, 101, 102, 10, 48, 32] } : ByteArray) ++ strN (Fo.pln 18 (n + 1)) ++ { data := #[10, 48, 48, 48, 48, 48, 48, 48, 48, 48, 48, 32, 54, 53, 53, 51, 53, 32, 102, 13, 10] } = strN (Fo.madeHead n)) := by
    unfold Hid Fo.madeHead
    rw [← strN_append, ← strN_append, ← ByteArray.append_assoc]
    rfl
  have HS0 : Hid (({ data := #[37, 80, 68, 70, 45, 49, 46, 52, 10] } : ByteArray) ++ strN G = strN ([37, 80, 68, 70, 45, 49, 46, 52, 10] ++ G)) := by
    unfold Hid
    rw [← strN_append]
    rfl
  have hls0 : ([37, 80, 68, 70, 45, 49, 46, 52, 10] ++ G).length ≤ 110 := by simp only [List.length_append, List.length_cons, List.length_nil]; omega
  have hlt0 : (Fo.madeHead n).length ≤ 100 := by
    unfold Fo.madeHead
    have := Fo.pln_len 18 (n + 1)
    simp only [List.length_append, List.length_cons, List.length_nil]; omega
  have hls9 : 8 < ([37, 80, 68, 70, 45, 49, 46, 52, 10] ++ G).length := by simp
  generalize ([37, 80, 68, 70, 45, 49, 46, 52, 10] ++ G) = s0 at *
  have hgs : (strN G).size ≤ 100 := by rw [strN_sz]; exact hG
  have HPL := hide (show strN (Fo.pln 18 (n + 1)) = strN (Fo.pln 18 (n + 1)) from rfl)
  generalize hg : strN G = g at *
  have HG := hide hg
  generalize hpl : strN (Fo.pln 18 (n + 1)) = pl at HP1 HH hl1
  have HPL2 := hide hpl
  have hcast : IntKind.i64.wrap ((n : Int) + 1) = ((n + 1 : Nat) : Int) := by rw [IntKind.wrap_i64]; omega
  clear ht hx hnn hg hpl hR HPL
  go_enter Tryz.func29, Tryz.ntmps29
  go_wp2_with (go_at_call 68; refine (HP1.out _).mono ?_; rintro e w1 ⟨rfl, b1⟩)
  have B1 := hide b1
  clear b1
  rw [HS0.out, HH.out]
  go_loopw [9, 10, 11, 12] (fun sv tv i _ wr => ∃ (m : Nat) (sl tl : List Nat), m ≤ n ∧ i = .int .i64 m ∧ sv = .string (strN sl) ∧ tv = .string (strN tl) ∧ 8 < sl.length ∧ sl.length ≤ 110 + 2100 * m ∧ tl.length ≤ 100 + 20 * m ∧ Hid (Below w.heap.size w wr) ∧ Hid (Fo.madeOf n G (Fo.madeGo G off k m (texts.drop m) sl tl) = R)) (fun _ _ i _ _ => n - (intOf i).toNat)
  case atStart => exact ⟨0, _, _, Nat.zero_le _, rfl, rfl, rfl, hls9, hls0, hlt0, B1.out, HR.out⟩
  case round =>
    obtain ⟨m, sl, tl, hm, rfl, rfl, rfl, hs8, hsl, htl, HB, HF⟩ := hrel
    have hss : (strN sl).size = sl.length := strN_sz _
    have hts : (strN tl).size = tl.length := strN_sz _
    generalize hsd : strN sl = sd at *
    generalize htd : strN tl = td at *
    have HSD := hide hsd
    have HTD := hide htd
    clear hsd htd
    rcases Nat.eq_or_lt_of_le hm with hm | hm
    · subst hm
      have hdr : texts.drop m = [] := List.drop_eq_nil_of_le (by rw [HN.out]; exact Nat.le_refl _)
      rw [hdr, Fo.madeGo] at HF
      have HP2 := hide (fun W : World => plainly_ok 18 sl.length W (by omega) (by omega) (by omega))
      have hl2 : (strN (Fo.pln 18 sl.length)).size ≤ 19 := by rw [strN_sz]; exact Fo.pln_len _ _
      have HRS : Hid (strN R = sd ++ td ++ g ++ { data := #[116, 114, 97, 105, 108, 101, 114] } ++ g ++ { data := #[60, 60, 47, 82, 111, 111, 116, 32, 49, 32] } ++ g ++ { data := #[48, 32, 82] } ++ g ++ { data := #[47, 83, 105, 122, 101, 32] } ++ pl ++ { data := #[62, 62] } ++ g ++ { data := #[115, 116, 97, 114, 116, 120, 114, 101, 102, 10] } ++ g ++ strN (Fo.pln 18 sl.length) ++ { data := #[13, 10, 37, 37, 69, 79, 70] }) := by
        unfold Hid
        rw [← HF.out, ← HSD.out, ← HTD.out, ← HG.out, ← HPL2.out]
        unfold Fo.madeOf Fo.madeTail
        simp only [← strN_append, ByteArray.append_assoc]
        rfl
      clear hdr HF HSD HTD HPL2
      generalize strN (Fo.pln 18 sl.length) = p2 at *
      generalize sl.length = sn at *
      go_wp2_with fail
      refine (HP1.out _).mono ?_
      rintro e w2 ⟨rfl, b2⟩
      have B2 := hide (HB.out.trans (b2.mono HB.out.size))
      clear b2
      go_wp2_with fail
      refine (HP2.out _).mono ?_
      rintro e w3 ⟨rfl, b3⟩
      have B3 := hide (B2.out.trans (b3.mono B2.out.size))
      clear b3
      go_wp2
      go_ret
      exact ⟨by rw [HRS.out]; rfl, B3.out⟩
    · obtain ⟨x, hx⟩ : ∃ x, texts[m]? = some x := ⟨_, List.getElem?_eq_getElem (by rw [HN.out]; exact hm)⟩
      have hxc := (HB.out.block b hb)
      have hxl := HX.out x (List.mem_of_getElem? hx)
      have hc : wr.cell? ⟨b, m, none⟩ = some (.string (strN x)) := by rw [HB.out.cell hb]; exact HT.out m x hx
      have hdr : texts.drop m = x :: texts.drop (m + 1) := by
        rw [List.drop_eq_getElem_cons (by rw [HN.out]; exact hm)]
        rw [List.getElem?_eq_getElem (by rw [HN.out]; exact hm)] at hx
        cases hx; rfl
      rw [hdr, Fo.madeGo] at HF
      have HF2 : Hid (∀ at_, Fo.atOf off k m sl.length = at_ → Fo.madeOf n G (Fo.madeGo G off k (m + 1) (texts.drop (m + 1)) (sl ++ Fo.objText G x m) (tl ++ Fo.lineText at_)) = R) := fun at_ e => by rw [← e]; exact HF.out
      have HA2 : Hid (∀ at_ : Nat, at_ ≤ 4611686018427387904 → ∀ W : World, Calls Tryz.prog 69 #[.int .i64 (at_ : Int), .int .i64 10] W fun e w' => e = .returned (.string (strN (Fo.num at_ 10))) ∧ Below W.heap.size W w') := fun at_ h W => number_ok 10 at_ W (by omega) h
      have HP2 := hide (fun W : World => plainly_ok 18 (m + 1) W (by omega) (by omega) (by omega))
      have hl2 : (strN (Fo.pln 18 (m + 1))).size ≤ 19 := by rw [strN_sz]; exact Fo.pln_len _ _
      have HO : Hid (strN (sl ++ Fo.objText G x m) = sd ++ strN (Fo.pln 18 (m + 1)) ++ { data := #[32] } ++ g ++ { data := #[48] } ++ g ++ { data := #[32, 111, 98, 106] } ++ g ++ { data := #[10] } ++ strN x ++ { data := #[10] } ++ g ++ { data := #[101, 110, 100, 111, 98, 106, 10] } ++ g) := by
        unfold Hid
        rw [← HSD.out, ← HG.out]
        unfold Fo.objText
        simp only [← strN_append, ByteArray.append_assoc]
        rfl
      have HL : Hid (∀ at_ : Nat, strN (tl ++ Fo.lineText at_) = td ++ strN (Fo.num at_ 10) ++ { data := #[32, 48, 48, 48, 48, 48, 32, 110, 32, 10] }) := fun at_ => by
        rw [← HTD.out]
        unfold Fo.lineText
        simp only [← strN_append, ByteArray.append_assoc]
        rfl
      have hol := Fo.objText_len G x m hG hxl
      have HLEN : Hid ((sl ++ Fo.objText G x m).length ≤ 110 + 2100 * (m + 1) ∧ ∀ at_, (tl ++ Fo.lineText at_).length ≤ 100 + 20 * (m + 1)) := ⟨by rw [List.length_append]; omega, fun at_ => by rw [List.length_append, Fo.lineText_len]; omega⟩
      have HL8 : Hid (8 < (sl ++ Fo.objText G x m).length) := by unfold Hid; rw [List.length_append]; omega
      have hxs : (strN x).size ≤ 1500 := by rw [strN_sz]; exact hxl
      have hns : ∀ at_ : Nat, (strN (Fo.num at_ 10)).size = 10 := fun at_ => by rw [strN_sz, Fo.num_len]
      have HC := hide hc
      clear hdr HF hxc hx hol hxl hc HT HX
      generalize hXd : strN x = xd at *
      generalize hp2 : strN (Fo.pln 18 (m + 1)) = p2 at *
      clear hXd hp2
      generalize sl.length = sn at *
      generalize tl.length = tn at *
      have hm1 : IntKind.i64.wrap ((m : Int) + 1) = ((m + 1 : Nat) : Int) := by rw [IntKind.wrap_i64]; omega
      by_cases hmk : (m : Int) = k
      · have tk : ((m : Int) == k) = true := by simp [hmk]
        obtain ⟨at_, hat⟩ : ∃ at_ : Nat, (sn : Int) + off = (at_ : Int) := ⟨((sn : Int) + off).toNat, by omega⟩
        have hatw : IntKind.i64.wrap ((sn : Int) + off) = (at_ : Int) := by rw [IntKind.wrap_i64]; omega
        have HF3 := hide (HF2.out at_ (by unfold Fo.atOf; rw [if_pos hmk]; omega))
        have HN2 := hide (HA2.out at_ (by omega))
        have hns2 := hns at_
        have HL2 := hide (HL.out at_)
        have HLEN2 := hide (HLEN.out.2 at_)
        clear HF2 HA2 hns HL hmk
        generalize strN (Fo.num at_ 10) = nd at *
        go_wp2_with fail
        refine (HN2.out _).mono ?_
        rintro e w2 ⟨rfl, b2⟩
        have B2 := hide (HB.out.trans (b2.mono HB.out.size))
        have HC2 : Hid (w2.cell? ⟨b, m, none⟩ = some (.string xd)) := by unfold Hid; rw [b2.cell (Nat.lt_of_lt_of_le hb HB.out.size)]; exact HC.out
        clear b2
        go_wp2_with fail
        refine wp_region_T (fun _ W => W.cell? ⟨b, m, none⟩ = some (.string xd)) (by kernel_rfl) ?_
        intro hD
        have hS : w2.drew.cell? ⟨b, m, none⟩ = some (.string xd) := HC2.out
        refine wpAnyT_take (i := 0) (v := ?_) rfl (by kernel_rfl) (by kernel_rfl) (by kernel_rfl) (fun _ _ _ h => h) (fun _ _ h => h) (fun _ _ h => h) hD (Or.inl ⟨by rfl, ?_⟩) hS ?_
        rotate_left
        · intro W hW; go_simp; try (with_reducible rfl)
        clear hD hS; intro hD hS; (try simp only [Act.put, List.setIfInBounds_toArray, List.set_cons_zero, List.set_cons_succ, List.getElem_toArray, List.getElem_cons_succ, List.getElem_cons_zero])
        refine wpAnyT_take (i := 1) (v := ?_) rfl (by kernel_rfl) (by kernel_rfl) (by kernel_rfl) (fun _ _ _ h => h) (fun _ _ h => h) (fun _ _ h => h) hD (Or.inl ⟨by rfl, ?_⟩) hS ?_
        rotate_left
        · intro W hW; go_simp; try (with_reducible rfl)
        clear hD hS; intro hD hS; (try simp only [Act.put, List.setIfInBounds_toArray, List.set_cons_zero, List.set_cons_succ, List.getElem_toArray, List.getElem_cons_succ, List.getElem_cons_zero])
        refine wpAnyT_take (i := 2) (v := ?_) rfl (by kernel_rfl) (by kernel_rfl) (by kernel_rfl) (fun _ _ _ h => h) (fun _ _ h => h) (fun _ _ h => h) hD (Or.inl ⟨by rfl, ?_⟩) hS ?_
        rotate_left
        · intro W hW; go_simp; try (with_reducible rfl)
        clear hD hS; intro hD hS; (try simp only [Act.put, List.setIfInBounds_toArray, List.set_cons_zero, List.set_cons_succ, List.getElem_toArray, List.getElem_cons_succ, List.getElem_cons_zero])
        refine wpAnyT_take (i := 6) (v := ?_) rfl (by kernel_rfl) (by kernel_rfl) (by kernel_rfl) (fun _ _ _ h => h) (fun _ _ h => h) (fun _ _ h => h) hD (Or.inl ⟨by rfl, ?_⟩) hS ?_
        rotate_left
        · intro W hW; go_simp; try (with_reducible rfl)
        clear hD hS; intro hD hS; (try simp only [Act.put, List.setIfInBounds_toArray, List.set_cons_zero, List.set_cons_succ, List.getElem_toArray, List.getElem_cons_succ, List.getElem_cons_zero])
        refine wpAnyT_take (i := 9) (v := ?_) rfl (by kernel_rfl) (by kernel_rfl) (by kernel_rfl) (fun _ _ _ h => h) (fun _ _ h => h) (fun _ _ h => h) hD (Or.inl ⟨by rfl, ?_⟩) hS ?_
        rotate_left
        · intro W hW; go_simp; try (with_reducible rfl)
        clear hD hS; intro hD hS; (try simp only [Act.put, List.setIfInBounds_toArray, List.set_cons_zero, List.set_cons_succ, List.getElem_toArray, List.getElem_cons_succ, List.getElem_cons_zero])
        refine wpAnyT_take (i := 12) (v := ?_) rfl (by kernel_rfl) (by kernel_rfl) (by kernel_rfl) (fun _ _ _ h => h) (fun _ _ h => h) (fun _ _ h => h) hD (Or.inl ⟨by rfl, ?_⟩) hS ?_
        rotate_left
        · intro W hW; go_simp; try (with_reducible rfl)
        clear hD hS; intro hD hS; (try simp only [Act.put, List.setIfInBounds_toArray, List.set_cons_zero, List.set_cons_succ, List.getElem_toArray, List.getElem_cons_succ, List.getElem_cons_zero])
        refine wpAnyT_take (i := 15) (v := ?_) rfl (by kernel_rfl) (by kernel_rfl) (by kernel_rfl) (fun _ _ _ h => h) (fun _ _ h => h) (fun _ _ h => h) hD (Or.inl ⟨by rfl, ?_⟩) hS ?_
        rotate_left
        · intro W hW; go_simp; try (with_reducible rfl)
        clear hD hS; intro hD hS; (try simp only [Act.put, List.setIfInBounds_toArray, List.set_cons_zero, List.set_cons_succ, List.getElem_toArray, List.getElem_cons_succ, List.getElem_cons_zero])
        refine wpAnyT_take (i := 16) (v := ?_) rfl (by kernel_rfl) (by kernel_rfl) (by kernel_rfl) (fun _ _ _ h => h) (fun _ _ h => h) (fun _ _ h => h) hD (Or.inl ⟨by rfl, ?_⟩) hS ?_
        rotate_left
        · intro W hW; go_simp; try (with_reducible rfl)
        clear hD hS; intro hD hS; (try simp only [Act.put, List.setIfInBounds_toArray, List.set_cons_zero, List.set_cons_succ, List.getElem_toArray, List.getElem_cons_succ, List.getElem_cons_zero])
        refine wpAnyT_take (i := 17) (v := ?_) rfl (by kernel_rfl) (by kernel_rfl) (by kernel_rfl) (fun _ _ _ h => h) (fun _ _ h => h) (fun _ _ h => h) hD (Or.inl ⟨by rfl, ?_⟩) hS ?_
        rotate_left
        · intro W hW; go_simp; try (with_reducible rfl)
        clear hD hS; intro hD hS; (try simp only [Act.put, List.setIfInBounds_toArray, List.set_cons_zero, List.set_cons_succ, List.getElem_toArray, List.getElem_cons_succ, List.getElem_cons_zero])
        refine wpAnyT_take (i := 18) (v := ?_) rfl (by kernel_rfl) (by kernel_rfl) (by kernel_rfl) (fun _ _ _ h => h) (fun _ _ h => h) (fun _ _ h => h) hD (Or.inl ⟨by rfl, ?_⟩) hS ?_
        rotate_left
        · intro W hW; obtain ⟨_, _, _, hcl⟩ := hW; go_simp; try (with_reducible rfl)
        clear hD hS; intro hD hS; (try simp only [Act.put, List.setIfInBounds_toArray, List.set_cons_zero, List.set_cons_succ, List.getElem_toArray, List.getElem_cons_succ, List.getElem_cons_zero])
        refine wpAnyT_take (i := 21) (v := ?_) rfl (by kernel_rfl) (by kernel_rfl) (by kernel_rfl) (fun _ _ _ h => h) (fun _ _ h => h) (fun _ _ h => h) hD (Or.inl ⟨by rfl, ?_⟩) hS ?_
        rotate_left
        · intro W hW; go_simp; try (with_reducible rfl)
        clear hD hS; intro hD hS; (try simp only [Act.put, List.setIfInBounds_toArray, List.set_cons_zero, List.set_cons_succ, List.getElem_toArray, List.getElem_cons_succ, List.getElem_cons_zero])
        refine wpAnyT_take (i := 24) (v := ?_) rfl (by kernel_rfl) (by kernel_rfl) (by kernel_rfl) (fun _ _ _ h => h) (fun _ _ h => h) (fun _ _ h => h) hD (Or.inl ⟨by rfl, ?_⟩) hS ?_
        rotate_left
        · intro W hW; go_simp; try (with_reducible rfl)
        clear hD hS; intro hD hS; (try simp only [Act.put, List.setIfInBounds_toArray, List.set_cons_zero, List.set_cons_succ, List.getElem_toArray, List.getElem_cons_succ, List.getElem_cons_zero])
        refine wpAnyT_one (i := 3) (by kernel_rfl) rfl hD (fun K' hK => ?_)
        go_simp
        refine (HP2.out _).mono ?_
        rintro e w3 ⟨rfl, b3⟩
        have B3 := hide (B2.out.drew.trans (b3.mono (by simpa using B2.out.size)))
        have HC3 : Hid (w3.cell? ⟨b, m, none⟩ = some (.string xd)) := by unfold Hid; rw [b3.cell (by simpa using Nat.lt_of_lt_of_le hb B2.out.size)]; exact HC2.out
        clear b3
        refine hK.out _ _ HC3.out (fun hD2 hS2 => ?_)
        clear hD hS hK K'
        have hD := hD2
        have hS := hS2
        clear hD2 hS2
        (try simp only [Act.put, List.setIfInBounds_toArray, List.set_cons_zero, List.set_cons_succ, List.getElem_toArray, List.getElem_cons_succ, List.getElem_cons_zero])
        refine wpAnyT_one (i := 4) (by kernel_rfl) rfl hD (fun K' hK => ?_)
        go_simp
        (try (split; · exfalso; omega))
        refine hK.out _ _ HC3.out (fun hD2 hS2 => ?_)
        clear hD hS hK K'
        have hD := hD2
        have hS := hS2
        clear hD2 hS2
        (try simp only [Act.put, List.setIfInBounds_toArray, List.set_cons_zero, List.set_cons_succ, List.getElem_toArray, List.getElem_cons_succ, List.getElem_cons_zero])
        refine wpAnyT_one (i := 5) (by kernel_rfl) rfl hD (fun K' hK => ?_)
        go_simp
        (try (split; · exfalso; omega))
        refine hK.out _ _ HC3.out (fun hD2 hS2 => ?_)
        clear hD hS hK K'
        have hD := hD2
        have hS := hS2
        clear hD2 hS2
        (try simp only [Act.put, List.setIfInBounds_toArray, List.set_cons_zero, List.set_cons_succ, List.getElem_toArray, List.getElem_cons_succ, List.getElem_cons_zero])
        refine wpAnyT_one (i := 7) (by kernel_rfl) rfl hD (fun K' hK => ?_)
        go_simp
        (try (split; · exfalso; omega))
        refine hK.out _ _ HC3.out (fun hD2 hS2 => ?_)
        clear hD hS hK K'
        have hD := hD2
        have hS := hS2
        clear hD2 hS2
        (try simp only [Act.put, List.setIfInBounds_toArray, List.set_cons_zero, List.set_cons_succ, List.getElem_toArray, List.getElem_cons_succ, List.getElem_cons_zero])
        refine wpAnyT_one (i := 8) (by kernel_rfl) rfl hD (fun K' hK => ?_)
        go_simp
        (try (split; · exfalso; omega))
        refine hK.out _ _ HC3.out (fun hD2 hS2 => ?_)
        clear hD hS hK K'
        have hD := hD2
        have hS := hS2
        clear hD2 hS2
        (try simp only [Act.put, List.setIfInBounds_toArray, List.set_cons_zero, List.set_cons_succ, List.getElem_toArray, List.getElem_cons_succ, List.getElem_cons_zero])
        refine wpAnyT_one (i := 10) (by kernel_rfl) rfl hD (fun K' hK => ?_)
        go_simp
        (try (split; · exfalso; omega))
        refine hK.out _ _ HC3.out (fun hD2 hS2 => ?_)
        clear hD hS hK K'
        have hD := hD2
        have hS := hS2
        clear hD2 hS2
        (try simp only [Act.put, List.setIfInBounds_toArray, List.set_cons_zero, List.set_cons_succ, List.getElem_toArray, List.getElem_cons_succ, List.getElem_cons_zero])
        refine wpAnyT_one (i := 11) (by kernel_rfl) rfl hD (fun K' hK => ?_)
        go_simp
        (try (split; · exfalso; omega))
        refine hK.out _ _ HC3.out (fun hD2 hS2 => ?_)
        clear hD hS hK K'
        have hD := hD2
        have hS := hS2
        clear hD2 hS2
        (try simp only [Act.put, List.setIfInBounds_toArray, List.set_cons_zero, List.set_cons_succ, List.getElem_toArray, List.getElem_cons_succ, List.getElem_cons_zero])
        refine wpAnyT_one (i := 13) (by kernel_rfl) rfl hD (fun K' hK => ?_)
        go_simp
        (try (split; · exfalso; omega))
        refine hK.out _ _ HC3.out (fun hD2 hS2 => ?_)
        clear hD hS hK K'
        have hD := hD2
        have hS := hS2
        clear hD2 hS2
        (try simp only [Act.put, List.setIfInBounds_toArray, List.set_cons_zero, List.set_cons_succ, List.getElem_toArray, List.getElem_cons_succ, List.getElem_cons_zero])
        refine wpAnyT_one (i := 14) (by kernel_rfl) rfl hD (fun K' hK => ?_)
        go_simp
        (try (split; · exfalso; omega))
        refine hK.out _ _ HC3.out (fun hD2 hS2 => ?_)
        clear hD hS hK K'
        have hD := hD2
        have hS := hS2
        clear hD2 hS2
        (try simp only [Act.put, List.setIfInBounds_toArray, List.set_cons_zero, List.set_cons_succ, List.getElem_toArray, List.getElem_cons_succ, List.getElem_cons_zero])
        refine wpAnyT_one (i := 19) (by kernel_rfl) rfl hD (fun K' hK => ?_)
        go_simp
        (try (split; · exfalso; omega))
        refine hK.out _ _ HC3.out (fun hD2 hS2 => ?_)
        clear hD hS hK K'
        have hD := hD2
        have hS := hS2
        clear hD2 hS2
        (try simp only [Act.put, List.setIfInBounds_toArray, List.set_cons_zero, List.set_cons_succ, List.getElem_toArray, List.getElem_cons_succ, List.getElem_cons_zero])
        refine wpAnyT_one (i := 20) (by kernel_rfl) rfl hD (fun K' hK => ?_)
        go_simp
        (try (split; · exfalso; omega))
        refine hK.out _ _ HC3.out (fun hD2 hS2 => ?_)
        clear hD hS hK K'
        have hD := hD2
        have hS := hS2
        clear hD2 hS2
        (try simp only [Act.put, List.setIfInBounds_toArray, List.set_cons_zero, List.set_cons_succ, List.getElem_toArray, List.getElem_cons_succ, List.getElem_cons_zero])
        refine wpAnyT_one (i := 22) (by kernel_rfl) rfl hD (fun K' hK => ?_)
        go_simp
        (try (split; · exfalso; omega))
        refine hK.out _ _ HC3.out (fun hD2 hS2 => ?_)
        clear hD hS hK K'
        have hD := hD2
        have hS := hS2
        clear hD2 hS2
        (try simp only [Act.put, List.setIfInBounds_toArray, List.set_cons_zero, List.set_cons_succ, List.getElem_toArray, List.getElem_cons_succ, List.getElem_cons_zero])
        refine wpAnyT_one (i := 23) (by kernel_rfl) rfl hD (fun K' hK => ?_)
        go_simp
        (try (split; · exfalso; omega))
        refine hK.out _ _ HC3.out (fun hD2 hS2 => ?_)
        clear hD hS hK K'
        have hD := hD2
        have hS := hS2
        clear hD2 hS2
        (try simp only [Act.put, List.setIfInBounds_toArray, List.set_cons_zero, List.set_cons_succ, List.getElem_toArray, List.getElem_cons_succ, List.getElem_cons_zero])
        refine wpAnyT_one (i := 25) (by kernel_rfl) rfl hD (fun K' hK => ?_)
        go_simp
        (try (split; · exfalso; omega))
        refine hK.out _ _ HC3.out (fun hD2 hS2 => ?_)
        clear hD hS hK K'
        have hD := hD2
        have hS := hS2
        clear hD2 hS2
        (try simp only [Act.put, List.setIfInBounds_toArray, List.set_cons_zero, List.set_cons_succ, List.getElem_toArray, List.getElem_cons_succ, List.getElem_cons_zero])
        refine wpAnyT_one (i := 26) (by kernel_rfl) rfl hD (fun K' hK => ?_)
        go_simp
        refine hK.out _ _ HC3.out (fun hD2 hS2 => ?_)
        clear hD hS hK K'
        have hD := hD2
        have hS := hS2
        clear hD2 hS2
        (try simp only [Act.put, List.setIfInBounds_toArray, List.set_cons_zero, List.set_cons_succ, List.getElem_toArray, List.getElem_cons_succ, List.getElem_cons_zero])
        refine wpAnyT_done (by kernel_rfl) ?_ _
        clear hD hS
        go_wp2
        go_roundw
        case rel => exact ⟨m + 1, _, _, by omega, by first | rfl | (congr 1), by rw [HO.out], by rw [HL2.out], HL8.out, HLEN.out.1, HLEN2.out, B3.out, HF3.out⟩
        case measure => simp [intOf]; omega
      · have tk : ((m : Int) == k) = false := by simpa using hmk
        have HF3 := hide (HF2.out sn (by unfold Fo.atOf; rw [if_neg hmk]))
        have HN2 := hide (HA2.out sn (by omega))
        have hns2 := hns sn
        have HL2 := hide (HL.out sn)
        have HLEN2 := hide (HLEN.out.2 sn)
        clear HF2 HA2 hns HL hmk
        generalize strN (Fo.num sn 10) = nd at *
        go_wp2_with fail
        refine (HN2.out _).mono ?_
        rintro e w2 ⟨rfl, b2⟩
        have B2 := hide (HB.out.trans (b2.mono HB.out.size))
        have HC2 : Hid (w2.cell? ⟨b, m, none⟩ = some (.string xd)) := by unfold Hid; rw [b2.cell (Nat.lt_of_lt_of_le hb HB.out.size)]; exact HC.out
        clear b2
        go_wp2_with fail
        refine wp_region_T (fun _ W => W.cell? ⟨b, m, none⟩ = some (.string xd)) (by kernel_rfl) ?_
        intro hD
        have hS : w2.drew.cell? ⟨b, m, none⟩ = some (.string xd) := HC2.out
        refine wpAnyT_take (i := 0) (v := ?_) rfl (by kernel_rfl) (by kernel_rfl) (by kernel_rfl) (fun _ _ _ h => h) (fun _ _ h => h) (fun _ _ h => h) hD (Or.inl ⟨by rfl, ?_⟩) hS ?_
        rotate_left
        · intro W hW; go_simp; try (with_reducible rfl)
        clear hD hS; intro hD hS; (try simp only [Act.put, List.setIfInBounds_toArray, List.set_cons_zero, List.set_cons_succ, List.getElem_toArray, List.getElem_cons_succ, List.getElem_cons_zero])
        refine wpAnyT_take (i := 1) (v := ?_) rfl (by kernel_rfl) (by kernel_rfl) (by kernel_rfl) (fun _ _ _ h => h) (fun _ _ h => h) (fun _ _ h => h) hD (Or.inl ⟨by rfl, ?_⟩) hS ?_
        rotate_left
        · intro W hW; go_simp; try (with_reducible rfl)
        clear hD hS; intro hD hS; (try simp only [Act.put, List.setIfInBounds_toArray, List.set_cons_zero, List.set_cons_succ, List.getElem_toArray, List.getElem_cons_succ, List.getElem_cons_zero])
        refine wpAnyT_take (i := 2) (v := ?_) rfl (by kernel_rfl) (by kernel_rfl) (by kernel_rfl) (fun _ _ _ h => h) (fun _ _ h => h) (fun _ _ h => h) hD (Or.inl ⟨by rfl, ?_⟩) hS ?_
        rotate_left
        · intro W hW; go_simp; try (with_reducible rfl)
        clear hD hS; intro hD hS; (try simp only [Act.put, List.setIfInBounds_toArray, List.set_cons_zero, List.set_cons_succ, List.getElem_toArray, List.getElem_cons_succ, List.getElem_cons_zero])
        refine wpAnyT_take (i := 6) (v := ?_) rfl (by kernel_rfl) (by kernel_rfl) (by kernel_rfl) (fun _ _ _ h => h) (fun _ _ h => h) (fun _ _ h => h) hD (Or.inl ⟨by rfl, ?_⟩) hS ?_
        rotate_left
        · intro W hW; go_simp; try (with_reducible rfl)
        clear hD hS; intro hD hS; (try simp only [Act.put, List.setIfInBounds_toArray, List.set_cons_zero, List.set_cons_succ, List.getElem_toArray, List.getElem_cons_succ, List.getElem_cons_zero])
        refine wpAnyT_take (i := 9) (v := ?_) rfl (by kernel_rfl) (by kernel_rfl) (by kernel_rfl) (fun _ _ _ h => h) (fun _ _ h => h) (fun _ _ h => h) hD (Or.inl ⟨by rfl, ?_⟩) hS ?_
        rotate_left
        · intro W hW; go_simp; try (with_reducible rfl)
        clear hD hS; intro hD hS; (try simp only [Act.put, List.setIfInBounds_toArray, List.set_cons_zero, List.set_cons_succ, List.getElem_toArray, List.getElem_cons_succ, List.getElem_cons_zero])
        refine wpAnyT_take (i := 12) (v := ?_) rfl (by kernel_rfl) (by kernel_rfl) (by kernel_rfl) (fun _ _ _ h => h) (fun _ _ h => h) (fun _ _ h => h) hD (Or.inl ⟨by rfl, ?_⟩) hS ?_
        rotate_left
        · intro W hW; go_simp; try (with_reducible rfl)
        clear hD hS; intro hD hS; (try simp only [Act.put, List.setIfInBounds_toArray, List.set_cons_zero, List.set_cons_succ, List.getElem_toArray, List.getElem_cons_succ, List.getElem_cons_zero])
        refine wpAnyT_take (i := 15) (v := ?_) rfl (by kernel_rfl) (by kernel_rfl) (by kernel_rfl) (fun _ _ _ h => h) (fun _ _ h => h) (fun _ _ h => h) hD (Or.inl ⟨by rfl, ?_⟩) hS ?_
        rotate_left
        · intro W hW; go_simp; try (with_reducible rfl)
        clear hD hS; intro hD hS; (try simp only [Act.put, List.setIfInBounds_toArray, List.set_cons_zero, List.set_cons_succ, List.getElem_toArray, List.getElem_cons_succ, List.getElem_cons_zero])
        refine wpAnyT_take (i := 16) (v := ?_) rfl (by kernel_rfl) (by kernel_rfl) (by kernel_rfl) (fun _ _ _ h => h) (fun _ _ h => h) (fun _ _ h => h) hD (Or.inl ⟨by rfl, ?_⟩) hS ?_
        rotate_left
        · intro W hW; go_simp; try (with_reducible rfl)
        clear hD hS; intro hD hS; (try simp only [Act.put, List.setIfInBounds_toArray, List.set_cons_zero, List.set_cons_succ, List.getElem_toArray, List.getElem_cons_succ, List.getElem_cons_zero])
        refine wpAnyT_take (i := 17) (v := ?_) rfl (by kernel_rfl) (by kernel_rfl) (by kernel_rfl) (fun _ _ _ h => h) (fun _ _ h => h) (fun _ _ h => h) hD (Or.inl ⟨by rfl, ?_⟩) hS ?_
        rotate_left
        · intro W hW; go_simp; try (with_reducible rfl)
        clear hD hS; intro hD hS; (try simp only [Act.put, List.setIfInBounds_toArray, List.set_cons_zero, List.set_cons_succ, List.getElem_toArray, List.getElem_cons_succ, List.getElem_cons_zero])
        refine wpAnyT_take (i := 18) (v := ?_) rfl (by kernel_rfl) (by kernel_rfl) (by kernel_rfl) (fun _ _ _ h => h) (fun _ _ h => h) (fun _ _ h => h) hD (Or.inl ⟨by rfl, ?_⟩) hS ?_
        rotate_left
        · intro W hW; obtain ⟨_, _, _, hcl⟩ := hW; go_simp; try (with_reducible rfl)
        clear hD hS; intro hD hS; (try simp only [Act.put, List.setIfInBounds_toArray, List.set_cons_zero, List.set_cons_succ, List.getElem_toArray, List.getElem_cons_succ, List.getElem_cons_zero])
        refine wpAnyT_take (i := 21) (v := ?_) rfl (by kernel_rfl) (by kernel_rfl) (by kernel_rfl) (fun _ _ _ h => h) (fun _ _ h => h) (fun _ _ h => h) hD (Or.inl ⟨by rfl, ?_⟩) hS ?_
        rotate_left
        · intro W hW; go_simp; try (with_reducible rfl)
        clear hD hS; intro hD hS; (try simp only [Act.put, List.setIfInBounds_toArray, List.set_cons_zero, List.set_cons_succ, List.getElem_toArray, List.getElem_cons_succ, List.getElem_cons_zero])
        refine wpAnyT_take (i := 24) (v := ?_) rfl (by kernel_rfl) (by kernel_rfl) (by kernel_rfl) (fun _ _ _ h => h) (fun _ _ h => h) (fun _ _ h => h) hD (Or.inl ⟨by rfl, ?_⟩) hS ?_
        rotate_left
        · intro W hW; go_simp; try (with_reducible rfl)
        clear hD hS; intro hD hS; (try simp only [Act.put, List.setIfInBounds_toArray, List.set_cons_zero, List.set_cons_succ, List.getElem_toArray, List.getElem_cons_succ, List.getElem_cons_zero])
        refine wpAnyT_one (i := 3) (by kernel_rfl) rfl hD (fun K' hK => ?_)
        go_simp
        refine (HP2.out _).mono ?_
        rintro e w3 ⟨rfl, b3⟩
        have B3 := hide (B2.out.drew.trans (b3.mono (by simpa using B2.out.size)))
        have HC3 : Hid (w3.cell? ⟨b, m, none⟩ = some (.string xd)) := by unfold Hid; rw [b3.cell (by simpa using Nat.lt_of_lt_of_le hb B2.out.size)]; exact HC2.out
        clear b3
        refine hK.out _ _ HC3.out (fun hD2 hS2 => ?_)
        clear hD hS hK K'
        have hD := hD2
        have hS := hS2
        clear hD2 hS2
        (try simp only [Act.put, List.setIfInBounds_toArray, List.set_cons_zero, List.set_cons_succ, List.getElem_toArray, List.getElem_cons_succ, List.getElem_cons_zero])
        refine wpAnyT_one (i := 4) (by kernel_rfl) rfl hD (fun K' hK => ?_)
        go_simp
        (try (split; · exfalso; omega))
        refine hK.out _ _ HC3.out (fun hD2 hS2 => ?_)
        clear hD hS hK K'
        have hD := hD2
        have hS := hS2
        clear hD2 hS2
        (try simp only [Act.put, List.setIfInBounds_toArray, List.set_cons_zero, List.set_cons_succ, List.getElem_toArray, List.getElem_cons_succ, List.getElem_cons_zero])
        refine wpAnyT_one (i := 5) (by kernel_rfl) rfl hD (fun K' hK => ?_)
        go_simp
        (try (split; · exfalso; omega))
        refine hK.out _ _ HC3.out (fun hD2 hS2 => ?_)
        clear hD hS hK K'
        have hD := hD2
        have hS := hS2
        clear hD2 hS2
        (try simp only [Act.put, List.setIfInBounds_toArray, List.set_cons_zero, List.set_cons_succ, List.getElem_toArray, List.getElem_cons_succ, List.getElem_cons_zero])
        refine wpAnyT_one (i := 7) (by kernel_rfl) rfl hD (fun K' hK => ?_)
        go_simp
        (try (split; · exfalso; omega))
        refine hK.out _ _ HC3.out (fun hD2 hS2 => ?_)
        clear hD hS hK K'
        have hD := hD2
        have hS := hS2
        clear hD2 hS2
        (try simp only [Act.put, List.setIfInBounds_toArray, List.set_cons_zero, List.set_cons_succ, List.getElem_toArray, List.getElem_cons_succ, List.getElem_cons_zero])
        refine wpAnyT_one (i := 8) (by kernel_rfl) rfl hD (fun K' hK => ?_)
        go_simp
        (try (split; · exfalso; omega))
        refine hK.out _ _ HC3.out (fun hD2 hS2 => ?_)
        clear hD hS hK K'
        have hD := hD2
        have hS := hS2
        clear hD2 hS2
        (try simp only [Act.put, List.setIfInBounds_toArray, List.set_cons_zero, List.set_cons_succ, List.getElem_toArray, List.getElem_cons_succ, List.getElem_cons_zero])
        refine wpAnyT_one (i := 10) (by kernel_rfl) rfl hD (fun K' hK => ?_)
        go_simp
        (try (split; · exfalso; omega))
        refine hK.out _ _ HC3.out (fun hD2 hS2 => ?_)
        clear hD hS hK K'
        have hD := hD2
        have hS := hS2
        clear hD2 hS2
        (try simp only [Act.put, List.setIfInBounds_toArray, List.set_cons_zero, List.set_cons_succ, List.getElem_toArray, List.getElem_cons_succ, List.getElem_cons_zero])
        refine wpAnyT_one (i := 11) (by kernel_rfl) rfl hD (fun K' hK => ?_)
        go_simp
        (try (split; · exfalso; omega))
        refine hK.out _ _ HC3.out (fun hD2 hS2 => ?_)
        clear hD hS hK K'
        have hD := hD2
        have hS := hS2
        clear hD2 hS2
        (try simp only [Act.put, List.setIfInBounds_toArray, List.set_cons_zero, List.set_cons_succ, List.getElem_toArray, List.getElem_cons_succ, List.getElem_cons_zero])
        refine wpAnyT_one (i := 13) (by kernel_rfl) rfl hD (fun K' hK => ?_)
        go_simp
        (try (split; · exfalso; omega))
        refine hK.out _ _ HC3.out (fun hD2 hS2 => ?_)
        clear hD hS hK K'
        have hD := hD2
        have hS := hS2
        clear hD2 hS2
        (try simp only [Act.put, List.setIfInBounds_toArray, List.set_cons_zero, List.set_cons_succ, List.getElem_toArray, List.getElem_cons_succ, List.getElem_cons_zero])
        refine wpAnyT_one (i := 14) (by kernel_rfl) rfl hD (fun K' hK => ?_)
        go_simp
        (try (split; · exfalso; omega))
        refine hK.out _ _ HC3.out (fun hD2 hS2 => ?_)
        clear hD hS hK K'
        have hD := hD2
        have hS := hS2
        clear hD2 hS2
        (try simp only [Act.put, List.setIfInBounds_toArray, List.set_cons_zero, List.set_cons_succ, List.getElem_toArray, List.getElem_cons_succ, List.getElem_cons_zero])
        refine wpAnyT_one (i := 19) (by kernel_rfl) rfl hD (fun K' hK => ?_)
        go_simp
        (try (split; · exfalso; omega))
        refine hK.out _ _ HC3.out (fun hD2 hS2 => ?_)
        clear hD hS hK K'
        have hD := hD2
        have hS := hS2
        clear hD2 hS2
        (try simp only [Act.put, List.setIfInBounds_toArray, List.set_cons_zero, List.set_cons_succ, List.getElem_toArray, List.getElem_cons_succ, List.getElem_cons_zero])
        refine wpAnyT_one (i := 20) (by kernel_rfl) rfl hD (fun K' hK => ?_)
        go_simp
        (try (split; · exfalso; omega))
        refine hK.out _ _ HC3.out (fun hD2 hS2 => ?_)
        clear hD hS hK K'
        have hD := hD2
        have hS := hS2
        clear hD2 hS2
        (try simp only [Act.put, List.setIfInBounds_toArray, List.set_cons_zero, List.set_cons_succ, List.getElem_toArray, List.getElem_cons_succ, List.getElem_cons_zero])
        refine wpAnyT_one (i := 22) (by kernel_rfl) rfl hD (fun K' hK => ?_)
        go_simp
        (try (split; · exfalso; omega))
        refine hK.out _ _ HC3.out (fun hD2 hS2 => ?_)
        clear hD hS hK K'
        have hD := hD2
        have hS := hS2
        clear hD2 hS2
        (try simp only [Act.put, List.setIfInBounds_toArray, List.set_cons_zero, List.set_cons_succ, List.getElem_toArray, List.getElem_cons_succ, List.getElem_cons_zero])
        refine wpAnyT_one (i := 23) (by kernel_rfl) rfl hD (fun K' hK => ?_)
        go_simp
        (try (split; · exfalso; omega))
        refine hK.out _ _ HC3.out (fun hD2 hS2 => ?_)
        clear hD hS hK K'
        have hD := hD2
        have hS := hS2
        clear hD2 hS2
        (try simp only [Act.put, List.setIfInBounds_toArray, List.set_cons_zero, List.set_cons_succ, List.getElem_toArray, List.getElem_cons_succ, List.getElem_cons_zero])
        refine wpAnyT_one (i := 25) (by kernel_rfl) rfl hD (fun K' hK => ?_)
        go_simp
        (try (split; · exfalso; omega))
        refine hK.out _ _ HC3.out (fun hD2 hS2 => ?_)
        clear hD hS hK K'
        have hD := hD2
        have hS := hS2
        clear hD2 hS2
        (try simp only [Act.put, List.setIfInBounds_toArray, List.set_cons_zero, List.set_cons_succ, List.getElem_toArray, List.getElem_cons_succ, List.getElem_cons_zero])
        refine wpAnyT_one (i := 26) (by kernel_rfl) rfl hD (fun K' hK => ?_)
        go_simp
        refine hK.out _ _ HC3.out (fun hD2 hS2 => ?_)
        clear hD hS hK K'
        have hD := hD2
        have hS := hS2
        clear hD2 hS2
        (try simp only [Act.put, List.setIfInBounds_toArray, List.set_cons_zero, List.set_cons_succ, List.getElem_toArray, List.getElem_cons_succ, List.getElem_cons_zero])
        refine wpAnyT_done (by kernel_rfl) ?_ _
        clear hD hS
        go_wp2
        go_roundw
        case rel => exact ⟨m + 1, _, _, by omega, by first | rfl | (congr 1), by rw [HO.out], by rw [HL2.out], HL8.out, HLEN.out.1, HLEN2.out, B3.out, HF3.out⟩
        case measure => simp [intOf]; omega
end Go.Proofs.YtgkljcmjnphpeaaGreatDoor
namespace Go.Proofs.YtgkljcmjnphpeaaGreatDoor
open Go.RowKit
namespace Fo
theorem dec_dig (n : Nat) : dec n = dig n := rfl
theorem num1 (n : Nat) : num n 1 = [48 + n % 10] := rfl
theorem pln_dig : ∀ (f n : Nat), n < 10 ^ (f + 1) → pln f n = dig n
  | 0, n, h => by
    have h9 : n < 10 := by simpa using h
    rw [pln, dig_small h9, num1, Nat.mod_eq_of_lt h9]
  | f + 1, n, h => by
    rw [pln]
    split
    · next h9 => rw [dig_small h9, num1, Nat.mod_eq_of_lt h9]
    · next h9 => rw [dig_big h9, pln_dig f (n / 10) (by rw [Nat.div_lt_iff_lt_mul (by decide)]; rw [Nat.pow_succ] at h; exact h), num1, Nat.mod_mod]
theorem num_dig : ∀ (s n : Nat), n < 10 ^ (s + 1) → num n (s + 1) = List.replicate (s + 1 - (dig n).length) 48 ++ dig n
  | 0, n, h => by
    have h9 : n < 10 := by simpa using h
    rw [dig_small h9, num1, Nat.mod_eq_of_lt h9]; rfl
  | s + 1, n, h => by
    have ih := num_dig s (n / 10) (by rw [Nat.div_lt_iff_lt_mul (by decide)]; rw [Nat.pow_succ] at h; exact h)
    rw [num, ih]
    by_cases h9 : n < 10
    · rw [show n / 10 = 0 by omega, dig_small h9, dig_small (show 0 < 10 by decide), Nat.mod_eq_of_lt h9]
      simp only [List.length_cons, List.length_nil, Nat.add_sub_cancel]
      rw [List.replicate_succ']
    · rw [dig_big h9, List.length_append, List.length_singleton]
      rw [show s + 1 + 1 - ((dig (n / 10)).length + 1) = s + 1 - (dig (n / 10)).length by omega, List.append_assoc]
theorem num_padded (n : Nat) (h : n < 10 ^ 10) : num n 10 = padded n := num_dig 9 n h
/-- Objects, one behind the other. -/
def objs (G : List Nat) : Nat → List (List Nat) → List Nat
  | _, [] => []
  | i, x :: l => objText G x i ++ objs G (i + 1) l
/-- Where they stand. -/
def places (G : List Nat) : Nat → List (List Nat) → Nat → List Nat
  | _, [], _ => []
  | i, x :: l, p => p :: places G (i + 1) l (p + (objText G x i).length)
/-- The table's lines, as they are told. -/
def lines (G : List Nat) (off k : Int) : Nat → List (List Nat) → Nat → List Nat
  | _, [], _ => []
  | i, x :: l, p => lineText (atOf off k i p) ++ lines G off k (i + 1) l (p + (objText G x i).length)
theorem madeGo_eq (G : List Nat) (off k : Int) : ∀ (l : List (List Nat)) (i : Nat) (s t : List Nat), madeGo G off k i l s t = (s ++ objs G i l, t ++ lines G off k i l s.length)
  | [], i, s, t => by simp [madeGo, objs, lines]
  | x :: l, i, s, t => by
    rw [madeGo, madeGo_eq G off k l, objs, lines, List.append_assoc, List.append_assoc, List.length_append]
/-- A text tells a value, where a line and the object's end come. -/
def Tells (x : List Nat) (V : VT 12) : Prop := ∀ r : List Nat, takesWord [101, 110, 100, 111, 98, 106] r ≠ none → takesRef r = none → takesWord [115, 116, 114, 101, 97, 109] r = none → NP r → value 12 (x ++ r) = some (V, r)
theorem plainL {s : List Nat} (h0 : s ≠ []) (h : s.all plainB = true) : Plain s := ⟨h0, fun b hb => by rw [List.all_eq_true] at h; exact h b hb⟩
theorem object_text {G x : List Nat} {V : VT 12} {i : Nat} (hG : Gap G) (hi : i + 1 < 10 ^ 19) (hx : Tells x V) (r : List Nat) : object (i + 1) (objText G x i ++ r) = some ((V, []), 10 :: (G ++ r)) := by
  unfold object objText
  simp only [List.append_assoc]
  rw [pln_dig 18 _ hi, dec_dig, takesWord_word (dig_plain _) (show NP ([32] ++ _) from NP.cons rfl)]
  simp only []
  rw [List.singleton_append, takesWord_white rfl, hG.takesWord, takesWord_word (plainL (by simp) (by decide)) (hG.np _ (show NP ([32, 111, 98, 106] ++ _) from NP.cons (by decide)))]
  simp only []
  rw [hG.takesWord, List.cons_append, takesWord_white rfl, takesWord_word (s := [111, 98, 106]) (plainL (by simp) (by decide)) (hG.np _ (show NP ([10] ++ _) from NP.cons (by decide)))]
  simp only []
  have h1 : takesWord [101, 110, 100, 111, 98, 106] ([10] ++ (G ++ ([101, 110, 100, 111, 98, 106, 10] ++ (G ++ r)))) = some (10 :: (G ++ r)) := by
    rw [List.singleton_append, takesWord_white rfl, hG.takesWord]
    exact takesWord_word (s := [101, 110, 100, 111, 98, 106]) (r := 10 :: (G ++ r)) (plainL (by simp) (by decide)) (NP.cons (by decide))
  have h2 : takesWord [48] ([10] ++ (G ++ ([101, 110, 100, 111, 98, 106, 10] ++ (G ++ r)))) = none := by
    rw [List.singleton_append, takesWord_white rfl, hG.takesWord]
    exact takesWord_other (s := [101, 110, 100, 111, 98, 106]) (r := 10 :: (G ++ r)) (plainL (by simp) (by decide)) (NP.cons (by decide)) (by decide)
  have h3 : takesWord [115, 116, 114, 101, 97, 109] ([10] ++ (G ++ ([101, 110, 100, 111, 98, 106, 10] ++ (G ++ r)))) = none := by
    rw [List.singleton_append, takesWord_white rfl, hG.takesWord]
    exact takesWord_other (s := [101, 110, 100, 111, 98, 106]) (r := 10 :: (G ++ r)) (plainL (by simp) (by decide)) (NP.cons (by decide)) (by decide)
  have hv := hx ([10] ++ (G ++ ([101, 110, 100, 111, 98, 106, 10] ++ (G ++ r)))) (by rw [h1]; simp) (by unfold takesRef; rw [h2]; rfl) h3 (NP.cons (by decide))
  have h4 : objVal (G ++ ([10] ++ (x ++ ([10] ++ (G ++ ([101, 110, 100, 111, 98, 106, 10] ++ (G ++ r))))))) = some ((V, []), [10] ++ (G ++ ([101, 110, 100, 111, 98, 106, 10] ++ (G ++ r)))) := by
    unfold objVal
    rw [hG.value, (Gap.white (b := 10) rfl).value, hv]
    simp only []
    rw [h3]
    simp only [ite_self]
  rw [h4]
  simp only []
  rw [h1]
end Fo
end Go.Proofs.YtgkljcmjnphpeaaGreatDoor
