/-
  Which bytes are letters and digits; which texts are languages, scripts and regions: the program's; the kinds of the document's.
-/
import Derived.Test.YtgobbdfgjgjigaaGreatDoorRow
import Derived.Lib.ConvBytes
import Derived.Deep.RegionHeld3
import Derived.Deep.DrawnRows
import Derived.Laws.IdiomStrings
set_option linter.unusedVariables false
set_option linter.unusedSimpArgs false
namespace Go.Proofs.YtgobbdfgjgjigaaGreatDoor
open Go.RowKit

theorem letter_any (c : Nat) (w : World) : Calls Tryz.prog 120 #[.int .u8 c] w fun e w' => e = .returned (.bool (D.letB c)) ∧ w = w' := by
  go_enter Tryz.func120, Tryz.ntmps120
  go_wp2
  all_goals
    go_ret
    refine ⟨bool_of ?_, rfl⟩
    unfold D.letB
    rw [Bool.eq_iff_iff]
    simp
    omega
theorem digit_any (c : Nat) (w : World) : Calls Tryz.prog 128 #[.int .u8 c] w fun e w' => e = .returned (.bool (D.digB c)) ∧ w = w' := by
  go_enter Tryz.func128, Tryz.ntmps128
  go_wp2
  all_goals
    go_ret
    refine ⟨bool_of ?_, rfl⟩
    unfold D.digB
    rw [Bool.eq_iff_iff]
    simp
    try omega
theorem ns_at {s : ByteArray} {k : Nat} (h : k < s.size) : (D.ns s)[k]? = some (s[k].toNat) := by
  simp [D.ns]
  exact ⟨s[k], by rw [Array.getElem?_eq_getElem (by exact h)]; rfl, rfl⟩
/-- So far each byte is of the kind. -/
structure Fine (f : Nat → Bool) (t : List Nat) (k : Nat) : Prop where
  out : (t.take k).all f = true
theorem fine_first (f : Nat → Bool) (t : List Nat) : Fine f t 0 := ⟨rfl⟩
theorem take_next {t : List Nat} {k b : Nat} (h : t[k]? = some b) : t.take (k + 1) = t.take k ++ [b] := by rw [List.take_add_one, h]; rfl
theorem fine_next {f : Nat → Bool} {t : List Nat} {k b : Nat} (h : Fine f t k) (hb : t[k]? = some b) (hm : f b = true) : Fine f t (k + 1) := ⟨by rw [take_next hb, List.all_append, h.out]; simp [hm]⟩
theorem fine_all {f : Nat → Bool} {t : List Nat} {k : Nat} (h : Fine f t k) (hk : t.length ≤ k) : t.all f = true := by have := h.out; rwa [List.take_of_length_le hk] at this
theorem not_fine {f : Nat → Bool} {t : List Nat} {k b : Nat} (hb : t[k]? = some b) (hm : f b = false) : t.all f = false := by
  cases h : t.all f
  · rfl
  · have := List.all_eq_true.1 h b (List.mem_of_getElem? hb)
    rw [hm] at this; cases this
theorem all_letter (s : ByteArray) (w : World) (hs : s.size ≤ 100) : Calls Tryz.prog 119 #[.string s, .func (.func 120) #[] #[]] w fun e w' => e = .returned (.bool (D.allL (D.ns s))) ∧ w = w' := by
  go_enter Tryz.func119, Tryz.ntmps119
  go_wp2
  go_loop [8] (fun i => ∃ k : Nat, k ≤ s.size ∧ i = .int .i64 k ∧ Fine D.letB (D.ns s) k) (fun i => s.size - (intOf i).toNat)
  case atStart => exact ⟨0, Nat.zero_le _, rfl, fine_first _ _⟩
  case round =>
    obtain ⟨k, hk, rfl, hf⟩ := hrel
    by_cases hlt : k < s.size
    · have hb := ns_at hlt
      obtain ⟨c, hc⟩ : ∃ c, s[k].toNat = c := ⟨_, rfl⟩
      rw [hc] at hb
      have H := Lib.hid (fun w => letter_any c w)
      rw [← hc] at H
      obtain ⟨b, hv⟩ : ∃ b, D.letB (s[k].toNat) = b := ⟨_, rfl⟩
      rw [hv] at H
      have HB := Lib.hid hb
      have HV := Lib.hid hv
      have HC := Lib.hid hc
      clear hb hv hc
      cases b
      · go_wp2_with (go_at_call 120; (with_reducible refine (H.out _).mono ?_); rintro e w' ⟨rfl, rfl⟩)
        go_ret
        exact ⟨bool_of (not_fine HB.out (by rw [← HC.out]; exact HV.out)).symm, rfl⟩
      · go_wp2_with (go_at_call 120; (with_reducible refine (H.out _).mono ?_); rintro e w' ⟨rfl, rfl⟩)
        go_round
        case rel => exact ⟨k + 1, by omega, by go_num, fine_next hf HB.out (by rw [← HC.out]; exact HV.out)⟩
        case measure => simp [intOf]; omega
    · go_wp2
      go_ret
      exact ⟨bool_of (fine_all hf (by rw [D.ns_len]; omega)).symm, rfl⟩
theorem all_digit (s : ByteArray) (w : World) (hs : s.size ≤ 100) : Calls Tryz.prog 119 #[.string s, .func (.func 128) #[] #[]] w fun e w' => e = .returned (.bool (D.allD (D.ns s))) ∧ w = w' := by
  go_enter Tryz.func119, Tryz.ntmps119
  go_wp2
  go_loop [8] (fun i => ∃ k : Nat, k ≤ s.size ∧ i = .int .i64 k ∧ Fine D.digB (D.ns s) k) (fun i => s.size - (intOf i).toNat)
  case atStart => exact ⟨0, Nat.zero_le _, rfl, fine_first _ _⟩
  case round =>
    obtain ⟨k, hk, rfl, hf⟩ := hrel
    by_cases hlt : k < s.size
    · have hb := ns_at hlt
      obtain ⟨c, hc⟩ : ∃ c, s[k].toNat = c := ⟨_, rfl⟩
      rw [hc] at hb
      have H := Lib.hid (fun w => digit_any c w)
      rw [← hc] at H
      obtain ⟨b, hv⟩ : ∃ b, D.digB (s[k].toNat) = b := ⟨_, rfl⟩
      rw [hv] at H
      have HB := Lib.hid hb
      have HV := Lib.hid hv
      have HC := Lib.hid hc
      clear hb hv hc
      cases b
      · go_wp2_with (go_at_call 128; (with_reducible refine (H.out _).mono ?_); rintro e w' ⟨rfl, rfl⟩)
        go_ret
        exact ⟨bool_of (not_fine HB.out (by rw [← HC.out]; exact HV.out)).symm, rfl⟩
      · go_wp2_with (go_at_call 128; (with_reducible refine (H.out _).mono ?_); rintro e w' ⟨rfl, rfl⟩)
        go_round
        case rel => exact ⟨k + 1, by omega, by go_num, fine_next hf HB.out (by rw [← HC.out]; exact HV.out)⟩
        case measure => simp [intOf]; omega
    · go_wp2
      go_ret
      exact ⟨bool_of (fine_all hf (by rw [D.ns_len]; omega)).symm, rfl⟩
theorem isLang_any (s : ByteArray) (w : World) (hs : s.size ≤ 100) : Calls Tryz.prog 110 #[.string s] w fun e w' => e = .returned (.bool (D.isL (D.ns s))) ∧ w = w' := by
  have H := Lib.hid (fun w => all_letter s w hs)
  obtain ⟨b, hb⟩ : ∃ b, D.allL (D.ns s) = b := ⟨_, rfl⟩
  rw [hb] at H
  have E : D.isL (D.ns s) = ((s.size == 2 || s.size == 3) && b) := by rw [← hb, D.isL, D.ns_len]
  rw [E]
  clear E hb
  go_enter Tryz.func110, Tryz.ntmps110
  by_cases h2 : s.size = 2
  · have c2 : ((s.size : Int) == 2) = true := by rw [beq_iff_eq]; omega
    have e2 : ((s.size == 2 || s.size == 3) && b) = b := by simp [h2]
    rw [e2]
    clear e2 h2
    go_wp2_with (go_at_call 119; (with_reducible refine (H.out _).mono ?_); rintro e w' ⟨rfl, rfl⟩)
    go_ret
    exact ⟨rfl, rfl⟩
  · have c2 : ((s.size : Int) == 2) = false := by rw [beq_eq_false_iff_ne]; omega
    by_cases h3 : s.size = 3
    · have c3 : ((s.size : Int) == 3) = true := by rw [beq_iff_eq]; omega
      have e2 : ((s.size == 2 || s.size == 3) && b) = b := by simp [h3]
      rw [e2]
      clear e2 h2 h3
      go_wp2_with (go_at_call 119; (with_reducible refine (H.out _).mono ?_); rintro e w' ⟨rfl, rfl⟩)
      go_ret
      exact ⟨rfl, rfl⟩
    · have c3 : ((s.size : Int) == 3) = false := by rw [beq_eq_false_iff_ne]; omega
      have e2 : ((s.size == 2 || s.size == 3) && b) = false := by simp [h2, h3]
      rw [e2]
      clear e2 h2 h3
      go_wp2
      go_ret
      exact ⟨rfl, rfl⟩
theorem isScript_any (s : ByteArray) (w : World) (hs : s.size ≤ 100) : Calls Tryz.prog 112 #[.string s] w fun e w' => e = .returned (.bool (D.isS (D.ns s))) ∧ w = w' := by
  have H := Lib.hid (fun w => all_letter s w hs)
  obtain ⟨b, hb⟩ : ∃ b, D.allL (D.ns s) = b := ⟨_, rfl⟩
  rw [hb] at H
  have E : D.isS (D.ns s) = (s.size == 4 && b) := by rw [← hb, D.isS, D.ns_len]
  rw [E]
  clear E hb
  go_enter Tryz.func112, Tryz.ntmps112
  by_cases h2 : s.size = 4
  · have c2 : ((s.size : Int) == 4) = true := by rw [beq_iff_eq]; omega
    have e2 : (s.size == 4 && b) = b := by simp [h2]
    rw [e2]
    clear e2 h2
    go_wp2_with (go_at_call 119; (with_reducible refine (H.out _).mono ?_); rintro e w' ⟨rfl, rfl⟩)
    go_ret
    exact ⟨rfl, rfl⟩
  · have c2 : ((s.size : Int) == 4) = false := by rw [beq_eq_false_iff_ne]; omega
    have e2 : (s.size == 4 && b) = false := by simp [h2]
    rw [e2]
    clear e2 h2
    go_wp2
    go_ret
    exact ⟨rfl, rfl⟩
theorem isRegion_any (s : ByteArray) (w : World) (hs : s.size ≤ 100) : Calls Tryz.prog 114 #[.string s] w fun e w' => e = .returned (.bool (D.isR (D.ns s))) ∧ w = w' := by
  have H := Lib.hid (fun w => all_letter s w hs)
  have K := Lib.hid (fun w => all_digit s w hs)
  obtain ⟨b, hb⟩ : ∃ b, D.allL (D.ns s) = b := ⟨_, rfl⟩
  obtain ⟨d, hd⟩ : ∃ d, D.allD (D.ns s) = d := ⟨_, rfl⟩
  rw [hb] at H
  rw [hd] at K
  have E : D.isR (D.ns s) = (s.size == 2 && b || s.size == 3 && d) := by rw [← hb, ← hd, D.isR, D.ns_len]
  rw [E]
  clear E hb hd
  go_enter Tryz.func114, Tryz.ntmps114
  by_cases h2 : s.size = 2
  · have c2 : ((s.size : Int) == 2) = true := by rw [beq_iff_eq]; omega
    have c3 : ((s.size : Int) == 3) = false := by rw [beq_eq_false_iff_ne]; omega
    have e2 : (s.size == 2 && b || s.size == 3 && d) = b := by simp [h2]
    rw [e2]
    clear e2 h2
    cases b
    all_goals
      go_wp2_with (go_at_call 119; (with_reducible refine (H.out _).mono ?_); rintro e w' ⟨rfl, rfl⟩)
      go_ret
      exact ⟨rfl, rfl⟩
  · have c2 : ((s.size : Int) == 2) = false := by rw [beq_eq_false_iff_ne]; omega
    by_cases h3 : s.size = 3
    · have c3 : ((s.size : Int) == 3) = true := by rw [beq_iff_eq]; omega
      have e2 : (s.size == 2 && b || s.size == 3 && d) = d := by simp [h3]
      rw [e2]
      clear e2 h2 h3
      go_wp2_with (go_at_call 119; (with_reducible refine (K.out _).mono ?_); rintro e w' ⟨rfl, rfl⟩)
      go_ret
      exact ⟨rfl, rfl⟩
    · have c3 : ((s.size : Int) == 3) = false := by rw [beq_eq_false_iff_ne]; omega
      have e2 : (s.size == 2 && b || s.size == 3 && d) = false := by simp [h2, h3]
      rw [e2]
      clear e2 h2 h3
      go_wp2
      go_ret
      exact ⟨rfl, rfl⟩
end Go.Proofs.YtgobbdfgjgjigaaGreatDoor
