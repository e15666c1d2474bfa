/-
  
-/
import Derived.Test.YtjlaffgbmcpldaaGreatDoorRow
import Derived.Lib.ConvBytes
import Derived.Deep.RegionHeld3
import Derived.Deep.DrawnRows
import Derived.Laws.IdiomStrings
import Derived.Test.YtjlaffgbmcpldaaGreatDoorG32
import Derived.Lib.IndexBytes
import Derived.Lib.IndexLaws
import Derived.Deep.QuietTactic
import Derived.BigQuiet
import Derived.IntWalk
import Derived.Laws.BytesString
import Derived.Lib.BufferRead
set_option linter.unusedVariables false
set_option linter.unusedSimpArgs false
namespace Go.Proofs.YtjlaffgbmcpldaaGreatDoor
open Go.RowKit

theorem letter_any (c : Nat) (w : World) : Calls Tryz.prog 209 #[.int .u8 c] w fun e w' => e = .returned (.bool (D.letB c)) ∧ w = w' := by
 go_enter Tryz.func209, Tryz.ntmps209
 go_wp2
 all_goals
  go_ret
  refine ⟨bool_of ?_, rfl⟩
  unfold D.letB
  rw [Bool.eq_iff_iff]
  simp
  omega
theorem digit_any (c : Nat) (w : World) : Calls Tryz.prog 217 #[.int .u8 c] w fun e w' => e = .returned (.bool (D.digB c)) ∧ w = w' := by
 go_enter Tryz.func217, Tryz.ntmps217
 go_wp2
 all_goals
  go_ret
  refine ⟨bool_of ?_, rfl⟩
  unfold D.digB
  rw [Bool.eq_iff_iff]
  simp
  try omega
theorem ns_at {s : ByteArray} {k : Nat} (h : k < s.size) : (D.ns s)[k]? = some (s[k].toNat) := by
 simp [D.ns]
 exact ⟨s[k], by rw [Array.getElem?_eq_getElem (by exact h)]; rfl, rfl⟩
structure Fine (f : Nat → Bool) (t : List Nat) (k : Nat) : Prop where
 out : (t.take k).all f = true
theorem fine_first (f : Nat → Bool) (t : List Nat) : Fine f t 0 := ⟨rfl⟩
theorem take_next {t : List Nat} {k b : Nat} (h : t[k]? = some b) : t.take (k + 1) = t.take k ++ [b] := by rw [List.take_add_one, h]; rfl
theorem fine_next {f : Nat → Bool} {t : List Nat} {k b : Nat} (h : Fine f t k) (hb : t[k]? = some b) (hm : f b = true) : Fine f t (k + 1) := ⟨by rw [take_next hb, List.all_append, h.out]; simp [hm]⟩
theorem fine_all {f : Nat → Bool} {t : List Nat} {k : Nat} (h : Fine f t k) (hk : t.length ≤ k) : t.all f = true := by have := h.out; rwa [List.take_of_length_le hk] at this
theorem not_fine {f : Nat → Bool} {t : List Nat} {k b : Nat} (hb : t[k]? = some b) (hm : f b = false) : t.all f = false := by
 cases h : t.all f
 ·rfl
 ·have := List.all_eq_true.1 h b (List.mem_of_getElem? hb)
  rw [hm] at this; cases this
theorem all_letter (s : ByteArray) (w : World) (hs : s.size ≤ 100) : Calls Tryz.prog 208 #[.string s, .func (.func 209) #[] #[]] w fun e w' => e = .returned (.bool (D.allL (D.ns s))) ∧ w = w' := by
 go_enter Tryz.func208, Tryz.ntmps208
 go_wp2
 go_loop [8] (fun i => ∃ k : Nat, k ≤ s.size ∧ i = .int .i64 k ∧ Fine D.letB (D.ns s) k) (fun i => s.size - (intOf i).toNat)
 case atStart => exact ⟨0, Nat.zero_le _, rfl, fine_first _ _⟩
 case round =>
  obtain ⟨k, hk, rfl, hf⟩ := hrel
  by_cases hlt : k < s.size
  ·have hb := ns_at hlt
   obtain ⟨c, hc⟩ : ∃ c, s[k].toNat = c := ⟨_, rfl⟩
   rw [hc] at hb
   have H := Lib.hid (fun w => letter_any c w)
   rw [← hc] at H
   obtain ⟨b, hv⟩ : ∃ b, D.letB (s[k].toNat) = b := ⟨_, rfl⟩
   rw [hv] at H
   have HB := Lib.hid hb
   have HV := Lib.hid hv
   have HC := Lib.hid hc
   clear hb hv hc
   cases b
   ·go_wp2_with (go_at_call 209; (with_reducible refine (H.out _).mono ?_); rintro e w' ⟨rfl, rfl⟩)
    go_ret
    exact ⟨bool_of (not_fine HB.out (by rw [← HC.out]; exact HV.out)).symm, rfl⟩
   ·go_wp2_with (go_at_call 209; (with_reducible refine (H.out _).mono ?_); rintro e w' ⟨rfl, rfl⟩)
    go_round
    case rel => exact ⟨k + 1, by omega, by go_num, fine_next hf HB.out (by rw [← HC.out]; exact HV.out)⟩
    case measure => simp [intOf]; omega
  ·go_wp2
   go_ret
   exact ⟨bool_of (fine_all hf (by rw [D.ns_len]; omega)).symm, rfl⟩
theorem all_digit (s : ByteArray) (w : World) (hs : s.size ≤ 100) : Calls Tryz.prog 208 #[.string s, .func (.func 217) #[] #[]] w fun e w' => e = .returned (.bool (D.allD (D.ns s))) ∧ w = w' := by
 go_enter Tryz.func208, Tryz.ntmps208
 go_wp2
 go_loop [8] (fun i => ∃ k : Nat, k ≤ s.size ∧ i = .int .i64 k ∧ Fine D.digB (D.ns s) k) (fun i => s.size - (intOf i).toNat)
 case atStart => exact ⟨0, Nat.zero_le _, rfl, fine_first _ _⟩
 case round =>
  obtain ⟨k, hk, rfl, hf⟩ := hrel
  by_cases hlt : k < s.size
  ·have hb := ns_at hlt
   obtain ⟨c, hc⟩ : ∃ c, s[k].toNat = c := ⟨_, rfl⟩
   rw [hc] at hb
   have H := Lib.hid (fun w => digit_any c w)
   rw [← hc] at H
   obtain ⟨b, hv⟩ : ∃ b, D.digB (s[k].toNat) = b := ⟨_, rfl⟩
   rw [hv] at H
   have HB := Lib.hid hb
   have HV := Lib.hid hv
   have HC := Lib.hid hc
   clear hb hv hc
   cases b
   ·go_wp2_with (go_at_call 217; (with_reducible refine (H.out _).mono ?_); rintro e w' ⟨rfl, rfl⟩)
    go_ret
    exact ⟨bool_of (not_fine HB.out (by rw [← HC.out]; exact HV.out)).symm, rfl⟩
   ·go_wp2_with (go_at_call 217; (with_reducible refine (H.out _).mono ?_); rintro e w' ⟨rfl, rfl⟩)
    go_round
    case rel => exact ⟨k + 1, by omega, by go_num, fine_next hf HB.out (by rw [← HC.out]; exact HV.out)⟩
    case measure => simp [intOf]; omega
  ·go_wp2
   go_ret
   exact ⟨bool_of (fine_all hf (by rw [D.ns_len]; omega)).symm, rfl⟩
theorem isLang_any (s : ByteArray) (w : World) (hs : s.size ≤ 100) : Calls Tryz.prog 195 #[.string s] w fun e w' => e = .returned (.bool (D.isL (D.ns s))) ∧ w = w' := by
 have H := Lib.hid (fun w => all_letter s w hs)
 obtain ⟨b, hb⟩ : ∃ b, D.allL (D.ns s) = b := ⟨_, rfl⟩
 rw [hb] at H
 have E : D.isL (D.ns s) = ((s.size == 2 || s.size == 3) && b) := by rw [← hb, D.isL, D.ns_len]
 rw [E]
 clear E hb
 go_enter Tryz.func195, Tryz.ntmps195
 by_cases h2 : s.size = 2
 ·have c2 : ((s.size : Int) == 2) = true := by rw [beq_iff_eq]; omega
  have e2 : ((s.size == 2 || s.size == 3) && b) = b := by simp [h2]
  rw [e2]
  clear e2 h2
  go_wp2_with (go_at_call 208; (with_reducible refine (H.out _).mono ?_); rintro e w' ⟨rfl, rfl⟩)
  go_ret
  exact ⟨rfl, rfl⟩
 ·have c2 : ((s.size : Int) == 2) = false := by rw [beq_eq_false_iff_ne]; omega
  by_cases h3 : s.size = 3
  ·have c3 : ((s.size : Int) == 3) = true := by rw [beq_iff_eq]; omega
   have e2 : ((s.size == 2 || s.size == 3) && b) = b := by simp [h3]
   rw [e2]
   clear e2 h2 h3
   go_wp2_with (go_at_call 208; (with_reducible refine (H.out _).mono ?_); rintro e w' ⟨rfl, rfl⟩)
   go_ret
   exact ⟨rfl, rfl⟩
  ·have c3 : ((s.size : Int) == 3) = false := by rw [beq_eq_false_iff_ne]; omega
   have e2 : ((s.size == 2 || s.size == 3) && b) = false := by simp [h2, h3]
   rw [e2]
   clear e2 h2 h3
   go_wp2
   go_ret
   exact ⟨rfl, rfl⟩
theorem isScript_any (s : ByteArray) (w : World) (hs : s.size ≤ 100) : Calls Tryz.prog 197 #[.string s] w fun e w' => e = .returned (.bool (D.isS (D.ns s))) ∧ w = w' := by
 have H := Lib.hid (fun w => all_letter s w hs)
 obtain ⟨b, hb⟩ : ∃ b, D.allL (D.ns s) = b := ⟨_, rfl⟩
 rw [hb] at H
 have E : D.isS (D.ns s) = (s.size == 4 && b) := by rw [← hb, D.isS, D.ns_len]
 rw [E]
 clear E hb
 go_enter Tryz.func197, Tryz.ntmps197
 by_cases h2 : s.size = 4
 ·have c2 : ((s.size : Int) == 4) = true := by rw [beq_iff_eq]; omega
  have e2 : (s.size == 4 && b) = b := by simp [h2]
  rw [e2]
  clear e2 h2
  go_wp2_with (go_at_call 208; (with_reducible refine (H.out _).mono ?_); rintro e w' ⟨rfl, rfl⟩)
  go_ret
  exact ⟨rfl, rfl⟩
 ·have c2 : ((s.size : Int) == 4) = false := by rw [beq_eq_false_iff_ne]; omega
  have e2 : (s.size == 4 && b) = false := by simp [h2]
  rw [e2]
  clear e2 h2
  go_wp2
  go_ret
  exact ⟨rfl, rfl⟩
theorem isRegion_any (s : ByteArray) (w : World) (hs : s.size ≤ 100) : Calls Tryz.prog 199 #[.string s] w fun e w' => e = .returned (.bool (D.isR (D.ns s))) ∧ w = w' := by
 have H := Lib.hid (fun w => all_letter s w hs)
 have K := Lib.hid (fun w => all_digit s w hs)
 obtain ⟨b, hb⟩ : ∃ b, D.allL (D.ns s) = b := ⟨_, rfl⟩
 obtain ⟨d, hd⟩ : ∃ d, D.allD (D.ns s) = d := ⟨_, rfl⟩
 rw [hb] at H
 rw [hd] at K
 have E : D.isR (D.ns s) = (s.size == 2 && b || s.size == 3 && d) := by rw [← hb, ← hd, D.isR, D.ns_len]
 rw [E]
 clear E hb hd
 go_enter Tryz.func199, Tryz.ntmps199
 by_cases h2 : s.size = 2
 ·have c2 : ((s.size : Int) == 2) = true := by rw [beq_iff_eq]; omega
  have c3 : ((s.size : Int) == 3) = false := by rw [beq_eq_false_iff_ne]; omega
  have e2 : (s.size == 2 && b || s.size == 3 && d) = b := by simp [h2]
  rw [e2]
  clear e2 h2
  cases b
  all_goals
   go_wp2_with (go_at_call 208; (with_reducible refine (H.out _).mono ?_); rintro e w' ⟨rfl, rfl⟩)
   go_ret
   exact ⟨rfl, rfl⟩
 ·have c2 : ((s.size : Int) == 2) = false := by rw [beq_eq_false_iff_ne]; omega
  by_cases h3 : s.size = 3
  ·have c3 : ((s.size : Int) == 3) = true := by rw [beq_iff_eq]; omega
   have e2 : (s.size == 2 && b || s.size == 3 && d) = d := by simp [h3]
   rw [e2]
   clear e2 h2 h3
   go_wp2_with (go_at_call 208; (with_reducible refine (K.out _).mono ?_); rintro e w' ⟨rfl, rfl⟩)
   go_ret
   exact ⟨rfl, rfl⟩
  ·have c3 : ((s.size : Int) == 3) = false := by rw [beq_eq_false_iff_ne]; omega
   have e2 : (s.size == 2 && b || s.size == 3 && d) = false := by simp [h2, h3]
   rw [e2]
   clear e2 h2 h3
   go_wp2
   go_ret
   exact ⟨rfl, rfl⟩
end Go.Proofs.YtjlaffgbmcpldaaGreatDoor
set_option linter.unusedVariables false
set_option linter.unusedSimpArgs false
namespace Go.Proofs.YtjlaffgbmcpldaaGreatDoor
open Go.RowKit Go.Shelf

theorem low_list (l : List UInt8) : ((Lib.toLowerA l).map (·.toNat)) = D.low (l.map (·.toNat)) := by
 simp only [Lib.toLowerA, D.low, List.map_map]
 refine List.map_congr_left fun b _ => ?_
 show (Lib.lowerB b).toNat = D.lowB b.toNat
 have hi := Lib.isUpperB_int b
 unfold D.lowB
 cases h : Lib.isUpperB b with
 | false =>
  rw [h] at hi
  simp only [eq_comm (a := false), Bool.and_eq_false_iff, decide_eq_false_iff_not] at hi
  rw [Lib.lowerB_of_not b h, if_neg (by omega)]
 | true =>
  have h2 := Lib.lowerB_int b h
  rw [h] at hi
  simp only [eq_comm (a := true), Bool.and_eq_true, decide_eq_true_eq] at hi
  rw [if_pos (by omega)]
  omega
theorem up_list (l : List UInt8) : ((Lib.toUpperA l).map (·.toNat)) = D.up (l.map (·.toNat)) := by
 simp only [Lib.toUpperA, D.up, List.map_map]
 refine List.map_congr_left fun b _ => ?_
 show (Lib.upperB b).toNat = D.upB b.toNat
 have hi := Lib.isLowerB_int b
 unfold D.upB
 cases h : Lib.isLowerB b with
 | false =>
  rw [h] at hi
  simp only [eq_comm (a := false), Bool.and_eq_false_iff, decide_eq_false_iff_not] at hi
  rw [Lib.upperB_of_not b h, if_neg (by omega)]
 | true =>
  have h2 := Lib.upperB_int b h
  rw [h] at hi
  simp only [eq_comm (a := true), Bool.and_eq_true, decide_eq_true_eq] at hi
  rw [if_pos (by omega)]
  omega
theorem sb_of {l : List UInt8} {k : List Nat} (h : l.map (·.toNat) = k) : (⟨l.toArray⟩ : ByteArray) = D.sb k := by
 refine D.ns_inj ?_
 rw [D.ns_sb]
 ·exact h
 ·subst h
  intro b hb
  obtain ⟨u, _, rfl⟩ := List.mem_map.1 hb
  exact u.toNat_lt
theorem ascii_of {s : ByteArray} (h : ∀ b ∈ D.ns s, b < 128) : ∀ (j : Nat) (b : UInt8), s.data.toList[j]? = some b → b.toNat < 128 := fun j b hb => h _ (List.mem_map.2 ⟨b, List.mem_of_getElem? hb, rfl⟩)
theorem lower_any (s : ByteArray) (w : World) (hs : s.size ≤ 100) (h : ∀ b ∈ D.ns s, b < 128) : Calls Tryz.prog 196 #[.string s] w fun e w' => e = .returned (.string (D.sb (D.low (D.ns s)))) ∧ Below w.heap.size w w' := by
 refine Calls.mono (Any.strings_ToLower_ascii lays159 Builder_Extra_159 s w (by omega) (ascii_of h)) fun e w' ⟨he, hw⟩ => ⟨?_, hw⟩
 rw [he, sb_of (low_list s.data.toList)]
 rfl
theorem upper_any (s : ByteArray) (w : World) (hs : s.size ≤ 100) (h : ∀ b ∈ D.ns s, b < 128) : Calls Tryz.prog 198 #[.string s] w fun e w' => e = .returned (.string (D.sb (D.up (D.ns s)))) ∧ Below w.heap.size w w' := by
 refine Calls.mono (Any.strings_ToUpper_ascii lays158 Builder_Extra_158 s w (by omega) (ascii_of h)) fun e w' ⟨he, hw⟩ => ⟨?_, hw⟩
 rw [he, sb_of (up_list s.data.toList)]
 rfl
abbrev dash : ByteArray := ⟨#[45]⟩
theorem join_list : ∀ xs : List (List UInt8), (Lib.join xs [45]).map (·.toNat) = D.join (xs.map fun l => l.map (·.toNat))
 | [] => rfl
 | [x] => by rw [Lib.join_one]; rfl
 | x :: y :: r => by
  have h := join_list (y :: r)
  have e : Lib.join (x :: y :: r) [45] = x ++ 45 :: Lib.join (y :: r) [45] := by
   rw [Lib.join_cons, Lib.join_cons]
   simp [Lib.joinTail]
  rw [e, List.map_append, List.map_cons, h]
  rfl
theorem join_any (bk c : Nat) (xs : List ByteArray) (w : World) (hcells : ∀ (j : Nat) x, xs[j]? = some x → w.cell? ⟨bk, 0 + j, none⟩ = some (.string x)) (hbk : bk < w.heap.size) (hN : xs.length ≤ 100) (hcap : xs.length ≤ c) (hlen : (D.join (xs.map D.ns)).length ≤ 100) :
  Calls Tryz.prog 200 #[.slice (some ⟨bk, 0, none⟩) xs.length c, .string dash] w fun e w' => e = .returned (.string (D.sb (D.join (xs.map D.ns)))) ∧ Below w.heap.size w w' := by
 have hj : (Lib.join (xs.map (·.data.toList)) [45]).map (·.toNat) = D.join (xs.map D.ns) := by
  rw [join_list, List.map_map]; rfl
 have hl : (Lib.join (xs.map (·.data.toList)) [45]).length ≤ 140737488355328 := by
  have := congrArg List.length hj
  rw [List.length_map] at this
  omega
 refine Calls.mono (Any.strings_Join lays156 Builder_Extra_156 bk 0 c xs dash w hcells hbk (by omega) hcap hl) fun e w' ⟨he, hw⟩ => ⟨?_, hw⟩
 rw [he, ← sb_of hj]
theorem join_none (A : Option Addr) (c : Nat) (w : World) :
  Calls Tryz.prog 200 #[.slice A 0 c, .string dash] w fun e w' => e = .returned (.string (D.sb [])) ∧ Below w.heap.size w w' :=
 Calls.mono (Any.strings_Join_none lays156 Builder_Extra_156 A c dash w) fun e w' ⟨he, hw⟩ => ⟨he, hw ▸ Below.refl _ _⟩

theorem idx_cut (s : ByteArray) : (Lib.indexB s dash = -1 ∧ D.cutM (D.ns s) = false) ∨ ∃ i : Nat, Lib.indexB s dash = i ∧ i < s.size ∧ D.cutM (D.ns s) = true ∧ D.cutP (D.ns s) = (D.ns s).take i ∧ D.cutR (D.ns s) = (D.ns s).drop (i + 1) := by
 have e : Lib.indexB s dash = Lib.indexByte s.data.toList 45 := by
  exact Lib.one s dash rfl
 have hns : ∀ k : Nat, (D.ns s)[k]? = some 45 ↔ s.data.toList[k]? = some 45 := by
  intro k
  simp only [D.ns, List.getElem?_map]
  cases h : s.data.toList[k]? with
  | none => simp
  | some b =>
   simp only [Option.map_some, Option.some.injEq]
   constructor
   ·intro h; exact UInt8.toNat_inj.1 h
   ·rintro rfl; rfl
 rw [e]
 have hge := Lib.indexByte_ge s.data.toList 45
 by_cases h : Lib.indexByte s.data.toList 45 = -1
 ·refine .inl ⟨h, D.cutM_no fun i hi hc => Lib.indexByte_none h i ((hns i).1 hc)⟩
 ·obtain ⟨i, hi⟩ : ∃ i : Nat, Lib.indexByte s.data.toList 45 = i := ⟨(Lib.indexByte s.data.toList 45).toNat, by omega⟩
  obtain ⟨h1, h2⟩ := Lib.indexByte_some hi
  obtain ⟨c1, c2, c3⟩ := D.cut_at (t := D.ns s) (k := i) ((hns i).2 h1) (fun (j : Nat) hj hc => h2 j hj ((hns j).1 hc))
  refine .inr ⟨i, hi, ?_, c3, c1, c2⟩
  have := (List.getElem?_eq_some_iff.1 h1).1
  simpa using this
theorem ns_take (s : ByteArray) (k : Nat) : D.ns (s.extract 0 k) = (D.ns s).take k := by
 simp only [D.ns]
 rw [Lib.extract_from_zero, List.map_take]
theorem ns_drop (s : ByteArray) (k : Nat) : D.ns (s.extract k s.size) = (D.ns s).drop k := by
 simp only [D.ns]
 rw [Lib.extract_to_end, List.map_drop]
theorem spn_split : ∀ (k : Nat) (s : ByteArray), (Lib.splitB dash 0 k s).map D.ns = D.spn k (D.ns s)
 | 0, s => rfl
 | k + 1, s => by
  rcases idx_cut s with ⟨h, hm⟩ | ⟨i, h, hi, hm, hp, hr⟩
  ·rw [Lib.splitB_miss _ _ _ _ h, D.spn, hm]; rfl
  ·rw [Lib.splitB_hit _ _ _ _ i h, D.spn, hm, if_pos rfl, hp, hr, List.map_cons, spn_split k, Nat.add_zero, ns_take]
   have : dash.size = 1 := rfl
   rw [this, ns_drop]
theorem split_any (s : ByteArray) (w : World) (hs : s.size ≤ 100) :
  Calls Tryz.prog 194 #[.string s, .string dash, .int .i64 4] w fun e w' => ∃ (xs : List ByteArray) (N : Nat), xs.map D.ns = D.spn 3 (D.ns s) ∧ xs.length ≤ N ∧ N ≤ 4 ∧ e = .returned (.slice (some ⟨w.heap.size, 0, none⟩) xs.length N) ∧ w' = w.alloc (.cells (Lib.cellsOf xs N) 9) := by
 have hi9 : (Tryz.prog.info? 9).map (fun i => (i.zero, i.size, i.bytes)) = some (some (.string ByteArray.empty), 1, 16) := by kernel_rfl
 have hC : Calls Tryz.prog 226 #[.string s, .string dash] w fun e w' => e = .returned (.int .i64 (Lib.countB s dash)) ∧ w' = w := by
  refine Calls.mono (Any.strings_Count_one { lays147 with } s 45 w) fun e w' ⟨he, hw⟩ => ⟨?_, hw⟩
  rw [he]
  show _ = Ending.returned (Value.int .i64 ((Lib.count s.data.toList [45] : Nat) : Int))
  rw [Lib.count_one]
  rfl
 have hI : ∀ (x : ByteArray) (c : Array Value), x.size ≤ s.size → Calls Tryz.prog 227 #[.string x, .string dash] (w.alloc (.cells c 9)) fun e w' => e = .returned (.int .i64 (Lib.indexB x dash)) ∧ w' = w.alloc (.cells c 9) := by
  intro x c _
  refine Calls.mono (Any.strings_Index_one { lays147 with } x 45 _) fun e w' ⟨he, hw⟩ => ⟨?_, hw⟩
  rw [he]
  have := Lib.one x dash rfl
  rw [this]
  rfl
 have c := Any.strings_genSplit_core { lays147 with } hi9 s dash 0 (4 : Int) (min 4 (s.size + 1)) w (by omega) (by decide) (Nat.zero_le _) hI hC (by decide) (by decide) (by rw [if_neg (by decide)]; omega)
 have hlen : (Lib.splitB dash 0 (min 4 (s.size + 1) - 1) s).length ≤ min 4 (s.size + 1) := by
  have := Lib.splitB_length_le dash 0 (min 4 (s.size + 1) - 1) s
  omega
 have hsp : (Lib.splitB dash 0 (min 4 (s.size + 1) - 1) s).map D.ns = D.spn 3 (D.ns s) := by
  rw [spn_split]
  by_cases h : 3 ≤ s.size
  ·rw [show min 4 (s.size + 1) - 1 = 3 by omega]
  ·have := D.spn_more s.size (D.ns s) (by rw [D.ns_len]; exact Nat.le_refl _) (3 - s.size)
   rw [show s.size + (3 - s.size) = 3 by omega] at this
   rw [show min 4 (s.size + 1) - 1 = s.size by omega, this]
 have c' : Calls Tryz.prog 207 #[.string s, .string dash, .int .i64 0, .int .i64 4] w fun e w' => e = .returned (.slice (some ⟨w.heap.size, 0, none⟩) (Lib.splitB dash 0 (min 4 (s.size + 1) - 1) s).length (min 4 (s.size + 1))) ∧ w' = w.alloc (.cells (Lib.cellsOf (Lib.splitB dash 0 (min 4 (s.size + 1) - 1) s) (min 4 (s.size + 1))) 9) := c
 clear c hI hC
 go_enter Tryz.func194, Tryz.ntmps194
 go_wp2_with (go_at_call 207; (with_reducible refine Calls.mono c' ?_); rintro e w' ⟨rfl, rfl⟩)
 go_ret
 exact ⟨_, _, hsp, hlen, by omega, rfl, rfl⟩

theorem hd0_at : ∀ {l : List Nat} {k : Nat}, l[k]? = some 0 → (∀ i : Nat, i < k → l[i]? ≠ some 0) → D.hd0 l = l.take k ∧ k < l.length
 | [], k, h, _ => by simp at h
 | c :: t, 0, h, _ => by
  simp at h
  subst h
  simp [D.hd0]
 | c :: t, k + 1, h, hn => by
  have hc : c ≠ 0 := fun e => hn 0 (by omega) (by simp [e])
  obtain ⟨h1, h2⟩ := hd0_at (l := t) (k := k) (by simpa using h) (fun i hi => by have := hn (i + 1) (by omega); simpa using this)
  refine ⟨?_, by simp; omega⟩
  rw [List.take_succ_cons, ← h1]
  simp [D.hd0, hc]
theorem hd0_no {l : List Nat} (h : ∀ i : Nat, l[i]? ≠ some 0) : D.hd0 l = l := by
 induction l with
 | nil => rfl
 | cons c t ih =>
  have hc : c ≠ 0 := fun e => h 0 (by simp [e])
  have := ih (fun i => by have := h (i + 1); simpa using this)
  simp only [D.hd0] at this ⊢
  rw [List.takeWhile_cons_of_pos (by simpa using hc), this]
set_option maxRecDepth 100000 in
theorem cut0_any (a : Addr) (n c b2 d : Nat) (l : List Nat) (w : World) (hn : l.length = n) (hl : ∀ b ∈ l, b < 256) (hc : ∀ j u, (bys l)[j]? = some u → w.cell? (a.add j) = some u) (hcap : n ≤ c) (hs : n ≤ 100) (h2 : w.cell? ⟨b2, 0, none⟩ = some (.int .u8 0)) :
  Calls Tryz.prog 193 #[.slice (some a) n c, .slice (some ⟨b2, 0, none⟩) 1 d] w fun e w' => ∃ v2 v3, e = .returned (.tuple #[.slice (some a) (D.hd0 l).length c, v2, v3]) ∧ ∃ q, w' = w.drewN q := by
 have hx : (l.map fun b : Nat => (b : Int)).length = n := by simpa using hn
 have hcx : ∀ i, i < n → w.cell? (a.add i) = some (.int .u8 ((l.map fun b : Nat => (b : Int)).getD i 0)) := fun i hi => by
  refine hc i _ ?_
  simp [bys, List.getD, List.getElem?_eq_getElem (show i < l.length by omega)]
 have hidx := Any.bytes_Index_one_at lays185 a n c b2 0 d (l.map fun b : Nat => (b : Int)) 0 w hx hcx h2
 have hz : (0 : Int).toNat.toUInt8 = 0 := rfl
 rw [hz] at hidx
 have hb : Lib.bytesOf (l.map fun b : Nat => (b : Int)) = l.map UInt8.ofNat := by simp [Lib.bytesOf]
 rw [hb] at hidx
 have hat : ∀ k : Nat, (l.map UInt8.ofNat)[k]? = some 0 ↔ l[k]? = some 0 := by
  intro k
  rw [List.getElem?_map]
  cases h : l[k]? with
  | none => simp
  | some b =>
   have hb := hl b (List.mem_of_getElem? h)
   simp only [Option.map_some, Option.some.injEq]
   constructor
   ·intro h
    have := congrArg UInt8.toNat h
    simpa [Nat.mod_eq_of_lt hb] using this
   ·rintro rfl; rfl
 obtain ⟨i, hi⟩ : ∃ i, Lib.indexByte (l.map UInt8.ofNat) 0 = i := ⟨_, rfl⟩
 have hge := Lib.indexByte_ge (l.map UInt8.ofNat) 0
 rw [hi] at hidx hge
 have key : (i = -1 ∧ D.hd0 l = l) ∨ ∃ k : Nat, i = k ∧ D.hd0 l = l.take k ∧ k < l.length := by
  by_cases h : i = -1
  ·subst h
   exact .inl ⟨rfl, hd0_no fun k hk => Lib.indexByte_none hi k ((hat k).2 hk)⟩
  ·obtain ⟨k, rfl⟩ : ∃ k : Nat, i = k := ⟨i.toNat, by omega⟩
   obtain ⟨h1, h2⟩ := Lib.indexByte_some hi
   exact .inr ⟨k, rfl, hd0_at ((hat k).1 h1) (fun (j : Nat) hj hc => h2 j hj ((hat j).2 hc))⟩
 refine Calls.mono (Any.bytes_Cut_of laysSlT4 (some a) (some ⟨b2, 0, none⟩) n c 1 d i w hcap (by omega) ?_ (by omega) (Calls.mono hidx fun e w' ⟨he, hw⟩ => ⟨he, 0, hw⟩)) fun e w' ⟨he, hw⟩ => ?_
 ·intro h0
  rcases key with ⟨rfl, _⟩ | ⟨k, rfl, _, hk⟩ <;> omega
 ·rcases key with ⟨rfl, e1⟩ | ⟨k, rfl, e1, hk⟩
  ·refine ⟨.slice none 0 0, .bool false, ?_, hw⟩
   rw [he, Lib.cutV, if_neg (by decide), e1, hn]
  ·refine ⟨Lib.fromV (some a) n c (k + 1), .bool true, ?_, hw⟩
   rw [he, Lib.cutV, if_pos (by omega), e1, List.length_take, Nat.min_eq_left (by omega)]
   rfl
end Go.Proofs.YtjlaffgbmcpldaaGreatDoor
set_option linter.unusedVariables false
set_option linter.unusedSimpArgs false
namespace Go.Proofs.YtjlaffgbmcpldaaGreatDoor
open Go.RowKit
attribute [local go_sem ↓] Go.wp_at_zero Go.wp_at_succ

theorem cls (c : Nat) : (c ≤ 47 ∧ D.letB c = false ∧ D.digB c = false ∧ D.lowB c = c ∧ D.upB c = c) ∨ (48 ≤ c ∧ c ≤ 57 ∧ D.letB c = false ∧ D.digB c = true ∧ D.lowB c = c ∧ D.upB c = c) ∨ (58 ≤ c ∧ c ≤ 64 ∧ D.letB c = false ∧ D.digB c = false ∧ D.lowB c = c ∧ D.upB c = c) ∨ (65 ≤ c ∧ c ≤ 90 ∧ D.letB c = true ∧ D.digB c = false ∧ D.lowB c = c + 32 ∧ D.upB c = c) ∨ (91 ≤ c ∧ c ≤ 96 ∧ D.letB c = false ∧ D.digB c = false ∧ D.lowB c = c ∧ D.upB c = c) ∨ (97 ≤ c ∧ c ≤ 122 ∧ D.letB c = true ∧ D.digB c = false ∧ D.lowB c = c ∧ D.upB c = c - 32) ∨ (123 ≤ c ∧ D.letB c = false ∧ D.digB c = false ∧ D.lowB c = c ∧ D.upB c = c) := by
 have hl : ∀ b, (D.letB c = b) = (decide ((97 ≤ c ∧ c ≤ 122) ∨ (65 ≤ c ∧ c ≤ 90)) = b) := fun b => rfl
 have hd : ∀ b, (D.digB c = b) = (decide (48 ≤ c ∧ c ≤ 57) = b) := fun b => rfl
 simp only [hl, hd, D.lowB, D.upB, decide_eq_true_eq, decide_eq_false_iff_not]
 by_cases h1 : c ≤ 47
 ·exact .inl ⟨h1, by omega, by omega, by rw [if_neg (by omega)], by rw [if_neg (by omega)]⟩
 by_cases h2 : c ≤ 57
 ·exact .inr (.inl ⟨by omega, h2, by omega, by omega, by rw [if_neg (by omega)], by rw [if_neg (by omega)]⟩)
 by_cases h3 : c ≤ 64
 ·exact .inr (.inr (.inl ⟨by omega, h3, by omega, by omega, by rw [if_neg (by omega)], by rw [if_neg (by omega)]⟩))
 by_cases h4 : c ≤ 90
 ·exact .inr (.inr (.inr (.inl ⟨by omega, h4, by omega, by omega, by rw [if_pos (by omega)], by rw [if_neg (by omega)]⟩)))
 by_cases h5 : c ≤ 96
 ·exact .inr (.inr (.inr (.inr (.inl ⟨by omega, h5, by omega, by omega, by rw [if_neg (by omega)], by rw [if_neg (by omega)]⟩))))
 by_cases h6 : c ≤ 122
 ·exact .inr (.inr (.inr (.inr (.inr (.inl ⟨by omega, h6, by omega, by omega, by rw [if_neg (by omega)], by rw [if_pos (by omega)]⟩)))))
 ·exact .inr (.inr (.inr (.inr (.inr (.inr ⟨by omega, by omega, by omega, by rw [if_neg (by omega)], by rw [if_neg (by omega)]⟩)))))

structure Cnt (f : Nat → Bool) (t : List Nat) (k n : Nat) : Prop where
 out : (t.take k).countP f = n
theorem cnt_first (f : Nat → Bool) (t : List Nat) : Cnt f t 0 0 := ⟨rfl⟩
theorem cnt_yes {f : Nat → Bool} {t : List Nat} {k n c : Nat} (h : Cnt f t k n) (hc : t[k]? = some c) (hf : f c = true) : Cnt f t (k + 1) (n + 1) := ⟨by rw [take_next hc, List.countP_append, h.out]; simp [hf]⟩
theorem cnt_no {f : Nat → Bool} {t : List Nat} {k n c : Nat} (h : Cnt f t k n) (hc : t[k]? = some c) (hf : f c = false) : Cnt f t (k + 1) n := ⟨by rw [take_next hc, List.countP_append, h.out]; simp [hf]⟩
theorem cnt_le {f : Nat → Bool} {t : List Nat} {k n : Nat} (h : Cnt f t k n) : n ≤ k := by
 have h1 := h.out
 have h2 := List.countP_le_length (p := f) (l := t.take k)
 have h3 := List.length_take_le k t
 omega
theorem cnt_all {f : Nat → Bool} {t : List Nat} {k n : Nat} (h : Cnt f t k n) (hk : t.length ≤ k) : (n = t.length) ↔ t.all f = true := by
 have h1 := h.out
 rw [List.take_of_length_le hk] at h1
 rw [← h1, List.countP_eq_length, List.all_eq_true]
def kind (t : List Nat) : Nat := if D.allL t then 1 else if D.allD t then 2 else 0
theorem kind_any (s : ByteArray) (w : World) (hs : s.size ≤ 100) : Calls Tryz.prog 160 #[.string s] w fun e w' => e = .returned (.int .i64 (kind (D.ns s))) ∧ w = w' := by
 go_enter Tryz.func160, Tryz.ntmps160
 go_wp2
 go_loop [3, 4, 5] (fun a d i => ∃ k n m : Nat, k ≤ s.size ∧ a = .int .i64 n ∧ d = .int .i64 m ∧ i = .int .i64 k ∧ Cnt D.letB (D.ns s) k n ∧ Cnt D.digB (D.ns s) k m) (fun _ _ i => s.size - (intOf i).toNat)
 case atStart => exact ⟨0, 0, 0, Nat.zero_le _, rfl, rfl, rfl, cnt_first _ _, cnt_first _ _⟩
 case round =>
  obtain ⟨k, n, m, hk, rfl, rfl, rfl, hL, hD⟩ := hrel
  have hn := cnt_le hL
  have hm := cnt_le hD
  by_cases hlt : k < s.size
  ·have hb := ns_at hlt
   obtain ⟨c, hc⟩ : ∃ c, s[k].toNat = c := ⟨_, rfl⟩
   have hclt := s[k].toNat_lt
   rw [hc] at hb hclt
   have HB := Lib.hid hb
   have HLc := Lib.hid hL
   have HDc := Lib.hid hD
   clear hb hL hD
   rcases cls (s[k].toNat) with ⟨h2, h3, h4, _, _⟩ | ⟨h1, h2, h3, h4, _, _⟩ | ⟨h1, h2, h3, h4, _, _⟩ | ⟨h1, h2, h3, h4, _, _⟩ | ⟨h1, h2, h3, h4, _, _⟩ | ⟨h1, h2, h3, h4, _, _⟩ | ⟨h1, h3, h4, _, _⟩
   all_goals
    have H3 := Lib.hid h3
    have H4 := Lib.hid h4
    have HC := Lib.hid hc
    clear h3 h4 hc
    go_wp2
    go_round
    case rel =>
     have e3 := H3.out
     have e4 := H4.out
     rw [HC.out] at e3 e4
     first
      | exact ⟨k + 1, n, m, by omega, rfl, rfl, by go_num, cnt_no HLc.out HB.out e3, cnt_no HDc.out HB.out e4⟩
      | exact ⟨k + 1, n + 1, m, by omega, by go_num, rfl, by go_num, cnt_yes HLc.out HB.out e3, cnt_no HDc.out HB.out e4⟩
      | exact ⟨k + 1, n, m + 1, by omega, rfl, by go_num, by go_num, cnt_no HLc.out HB.out e3, cnt_yes HDc.out HB.out e4⟩
    case measure => simp [intOf]; omega
  ·have hz : (D.ns s).length ≤ k := by rw [D.ns_len]; omega
   have a1 := cnt_all hL hz
   have a2 := cnt_all hD hz
   rw [D.ns_len] at a1 a2
   by_cases e1 : n = s.size
   ·have hkd : kind (D.ns s) = 1 := by unfold kind; rw [if_pos (show D.allL (D.ns s) = true from a1.1 e1)]
    have HK := Lib.hid hkd
    clear a1 a2 hkd hL hD
    subst e1
    go_wp2
    go_ret
    exact ⟨by rw [HK.out]; rfl, rfl⟩
   ·have hna : ¬ D.allL (D.ns s) = true := fun h => e1 (a1.2 h)
    have n1 : ((n : Int) == (s.size : Int)) = false := by rw [beq_eq_false_iff_ne]; omega
    by_cases e2 : m = s.size
    ·have hkd : kind (D.ns s) = 2 := by unfold kind; rw [if_neg hna, if_pos (show D.allD (D.ns s) = true from a2.1 e2)]
     have HK := Lib.hid hkd
     clear a1 a2 hkd hL hD e1 hna
     subst e2
     go_wp2
     go_ret
     exact ⟨by rw [HK.out]; rfl, rfl⟩
    ·have hnd : ¬ D.allD (D.ns s) = true := fun h => e2 (a2.2 h)
     have n2 : ((m : Int) == (s.size : Int)) = false := by rw [beq_eq_false_iff_ne]; omega
     have hkd : kind (D.ns s) = 0 := by unfold kind; rw [if_neg hna, if_neg hnd]
     have HK := Lib.hid hkd
     clear a1 a2 hkd hL hD e1 e2 hna hnd
     go_wp2
     go_ret
     exact ⟨by rw [HK.out]; rfl, rfl⟩

theorem cut_any (s : ByteArray) (w : World) (hs : s.size ≤ 100) : Calls Tryz.prog 159 #[.string s] w fun e w' => e = .returned (.tuple #[.string (D.sb (D.cutP (D.ns s))), .string (D.sb (D.cutR (D.ns s))), .bool (D.cutM (D.ns s))]) ∧ ∃ q, w' = w.drewN q := by
 go_enter Tryz.func159, Tryz.ntmps159
 go_wp2
 go_loop [5] (fun i => ∃ k : Nat, k ≤ s.size ∧ i = .int .i64 k ∧ Kept (∀ j, j < k → (D.ns s)[j]? ≠ some 45)) (fun i => s.size - (intOf i).toNat)
 case atStart => exact ⟨0, Nat.zero_le _, rfl, ⟨fun j h => absurd h (by omega)⟩⟩
 case round =>
  obtain ⟨k, hk, rfl, HN⟩ := hrel
  by_cases hlt : k < s.size
  ·have hb := ns_at hlt
   by_cases hc : s[k].toNat = 45
   ·rw [hc] at hb
    obtain ⟨e1, e2, e3⟩ := D.cut_at hb HN.out
    have E1 : s.extract 0 k = D.sb (D.cutP (D.ns s)) := by rw [e1, ← ns_take, D.sb_ns]
    have E2 : s.extract (k + 1) s.size = D.sb (D.cutR (D.ns s)) := by rw [e2, ← ns_drop, D.sb_ns]
    have HE1 := Lib.hid E1
    have HE2 := Lib.hid E2
    have HE3 := Lib.hid e3
    have hc' : ((s[k].toNat : Int) == 45) = true := by rw [beq_iff_eq]; omega
    clear hb e1 e2 e3 E1 E2 hc HN
    have i1 : IntKind.i64.wrap ((k : Int) + 1) = (k : Int) + 1 := IntWalk.i64_in _ (by omega)
    have i2 : (k : Int) + 1 ≤ (s.size : Int) := by omega
    go_wp2_with fail
    go_quiet (fail)
    go_wp2
    refine bodyPost_ret (v := .tuple #[.string (s.extract 0 k), .string (s.extract (k + 1) s.size), .bool true]) (by simp [results, Tryz.results159, go_sem]) rfl ⟨?_, _, rfl⟩
    rw [HE1.out, HE2.out, HE3.out]
   ·have hc' : ((s[k].toNat : Int) == 45) = false := by rw [beq_eq_false_iff_ne]; omega
    have HN' : Kept (∀ j, j < k + 1 → (D.ns s)[j]? ≠ some 45) := ⟨fun j hj h => by
     by_cases e : j = k
     ·subst e; rw [hb] at h; injection h with h; exact hc h
     ·exact HN.out j (by omega) h⟩
    clear hb hc HN
    go_wp2
    go_round
    case rel => exact ⟨k + 1, by omega, by go_num, HN'⟩
    case measure => simp [intOf]; omega
  ·have hm : D.cutM (D.ns s) = false := D.cutM_no fun i hi => HN.out i (by rw [D.ns_len] at hi; omega)
   obtain ⟨e1, e2⟩ := D.cut_none _ hm
   have HE1 := Lib.hid e1
   have HE2 := Lib.hid e2
   have HE3 := Lib.hid hm
   clear e1 e2 hm HN
   go_wp2
   refine bodyPost_ret (v := .tuple #[.string s, .string ⟨#[]⟩, .bool false]) (by simp [results, Tryz.results159, go_sem]) rfl ⟨?_, 0, rfl⟩
   rw [HE1.out, HE2.out, HE3.out, D.sb_ns]
   rfl

theorem str_run (W : World) (A : Option Addr) (n c : Nat) (l : List Nat) (h : Row W A n (bys l)) (hl : ∀ b ∈ l, b < 256) :
  (convert 210 9 (.slice A n c)).run Tryz.prog W = .ok (.string (D.sb l)) W := by
 have hlen := h.len
 rw [bys_len] at hlen
 rcases A with _ | ad
 ·have : l = [] := by
   rcases Nat.eq_zero_or_pos n with h0 | h0
   ·exact List.eq_nil_of_length_eq_zero (by omega)
   ·obtain ⟨ad, e, _⟩ := h.tow h0
    cases e
  subst this
  have : n = 0 := by simpa using hlen.symm
  subst this
  exact Lib.run_convert_nil_bytes W _ _ 5 c Tryz.underlying210 Tryz.underlying5 Tryz.underlying9
 ·have hr := run_convert_bytes_back (P := Tryz.prog) W 210 9 5 ad c (l.map UInt8.ofNat) Tryz.underlying210 Tryz.underlying5 Tryz.underlying9 (fun j hj => by
   have hj' : j < l.length := by simpa using hj
   have hq : l[j]? = some l[j] := List.getElem?_eq_getElem hj'
   obtain ⟨ad', e, hc⟩ := h.cell (bys_at hq)
   injection e with e
   subst e
   rw [hc]
   have := hl _ (List.getElem_mem hj')
   simp
   omega)
  rw [List.length_map, hlen] at hr
  exact hr
theorem map_next {t : List Nat} {k c : Nat} (f : Nat → Nat) (h : t[k]? = some c) : (t.take (k + 1)).map f = (t.take k).map f ++ [f c] := by rw [take_next h, List.map_append]; rfl
theorem low_lt {l : List Nat} (h : ∀ b ∈ l, b < 256) : ∀ b ∈ D.low l, b < 256 := fun b hb => by
 obtain ⟨c, hc, rfl⟩ := List.mem_map.1 hb
 have := h c hc
 unfold D.lowB
 split <;> omega
theorem up_lt {l : List Nat} (h : ∀ b ∈ l, b < 256) : ∀ b ∈ D.up l, b < 256 := fun b hb => by
 obtain ⟨c, hc, rfl⟩ := List.mem_map.1 hb
 have := h c hc
 unfold D.upB
 split <;> omega
end Go.Proofs.YtjlaffgbmcpldaaGreatDoor
