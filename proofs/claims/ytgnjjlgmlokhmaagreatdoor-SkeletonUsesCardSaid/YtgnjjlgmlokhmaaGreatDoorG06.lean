/-
  
-/
import Derived.Test.YtgnjjlgmlokhmaaGreatDoorRow
import Derived.Lib.ConvBytes
import Derived.Deep.RegionHeld3
import Derived.Deep.DrawnRows
import Derived.Laws.IdiomStrings
import Derived.Test.YtgnjjlgmlokhmaaGreatDoorG04
import Derived.Lib.IndexBytes
import Derived.Lib.IndexLaws
import Derived.Deep.QuietTactic
import Derived.BigQuiet
import Derived.IntWalk
import Derived.Laws.BytesString
import Derived.Lib.BufferRead
set_option linter.unusedVariables false
set_option linter.unusedSimpArgs false
namespace Go.Proofs.YtgnjjlgmlokhmaaGreatDoor
open Go.RowKit

theorem letter_any (c : Nat) (w : World) : Calls Tryz.prog 163 #[.int .u8 c] w fun e w' => e = .returned (.bool (D.letB c)) ∧ w = w' := by
 go_enter Tryz.func163, Tryz.ntmps163
 go_wp2
 all_goals
  go_ret
  refine ⟨bool_of ?_, rfl⟩
  unfold D.letB
  rw [Bool.eq_iff_iff]
  simp
  omega
theorem digit_any (c : Nat) (w : World) : Calls Tryz.prog 168 #[.int .u8 c] w fun e w' => e = .returned (.bool (D.digB c)) ∧ w = w' := by
 go_enter Tryz.func168, Tryz.ntmps168
 go_wp2
 all_goals
  go_ret
  refine ⟨bool_of ?_, rfl⟩
  unfold D.digB
  rw [Bool.eq_iff_iff]
  simp
  try omega
theorem ns_at {s : ByteArray} {k : Nat} (h : k < s.size) : (D.ns s)[k]? = some (s[k].toNat) := by
 simp [D.ns]
 exact ⟨s[k], by rw [Array.getElem?_eq_getElem (by exact h)]; rfl, rfl⟩
structure Fine (f : Nat -> Bool) (t : List Nat) (k : Nat) : Prop where
 out : (t.take k).all f = true
theorem fine_first (f : Nat -> Bool) (t : List Nat) : Fine f t 0 := ⟨rfl⟩
theorem take_next {t : List Nat} {k b : Nat} (h : t[k]? = some b) : t.take (k + 1) = t.take k ++ [b] := by rw [List.take_add_one, h]; rfl
theorem fine_next {f : Nat -> Bool} {t : List Nat} {k b : Nat} (h : Fine f t k) (hb : t[k]? = some b) (hm : f b = true) : Fine f t (k + 1) := ⟨by rw [take_next hb, List.all_append, h.out]; simp [hm]⟩
theorem fine_all {f : Nat -> Bool} {t : List Nat} {k : Nat} (h : Fine f t k) (hk : t.length <= k) : t.all f = true := by have := h.out; rwa [List.take_of_length_le hk] at this
theorem not_fine {f : Nat -> Bool} {t : List Nat} {k b : Nat} (hb : t[k]? = some b) (hm : f b = false) : t.all f = false := by
 cases h : t.all f
 ·rfl
 ·have := List.all_eq_true.1 h b (List.mem_of_getElem? hb)
  rw [hm] at this; cases this
theorem all_letter (s : ByteArray) (w : World) (hs : s.size <= 100) : Calls Tryz.prog 162 #[.string s, .func (.func 163) #[] #[]] w fun e w' => e = .returned (.bool (D.allL (D.ns s))) ∧ w = w' := by
 go_enter Tryz.func162, Tryz.ntmps162
 go_wp2
 go_loop [8] (fun i => ∃ k : Nat, k <= s.size ∧ i = .int .i64 k ∧ Fine D.letB (D.ns s) k) (fun i => s.size - (intOf i).toNat)
 case atStart => exact ⟨0, Nat.zero_le _, rfl, fine_first _ _⟩
 case round =>
  obtain ⟨k, hk, rfl, hf⟩ := hrel
  by_cases hlt : k < s.size
  ·have hb := ns_at hlt
   obtain ⟨c, hc⟩ : ∃ c, s[k].toNat = c := ⟨_, rfl⟩
   rw [hc] at hb
   have H := Lib.hid (fun w => letter_any c w)
   rw [<- hc] at H
   obtain ⟨b, hv⟩ : ∃ b, D.letB (s[k].toNat) = b := ⟨_, rfl⟩
   rw [hv] at H
   have HB := Lib.hid hb
   have HV := Lib.hid hv
   have HC := Lib.hid hc
   clear hb hv hc
   cases b
   ·go_wp2_with (go_at_call 163; (with_reducible refine (H.out _).mono ?_); rintro e w' ⟨rfl, rfl⟩)
    go_ret
    exact ⟨bool_of (not_fine HB.out (by rw [<- HC.out]; exact HV.out)).symm, rfl⟩
   ·go_wp2_with (go_at_call 163; (with_reducible refine (H.out _).mono ?_); rintro e w' ⟨rfl, rfl⟩)
    go_round
    case rel => exact ⟨k + 1, by omega, by go_num, fine_next hf HB.out (by rw [<- HC.out]; exact HV.out)⟩
    case measure => simp [intOf]; omega
  ·go_wp2
   go_ret
   exact ⟨bool_of (fine_all hf (by rw [D.ns_len]; omega)).symm, rfl⟩
theorem all_digit (s : ByteArray) (w : World) (hs : s.size <= 100) : Calls Tryz.prog 162 #[.string s, .func (.func 168) #[] #[]] w fun e w' => e = .returned (.bool (D.allD (D.ns s))) ∧ w = w' := by
 go_enter Tryz.func162, Tryz.ntmps162
 go_wp2
 go_loop [8] (fun i => ∃ k : Nat, k <= s.size ∧ i = .int .i64 k ∧ Fine D.digB (D.ns s) k) (fun i => s.size - (intOf i).toNat)
 case atStart => exact ⟨0, Nat.zero_le _, rfl, fine_first _ _⟩
 case round =>
  obtain ⟨k, hk, rfl, hf⟩ := hrel
  by_cases hlt : k < s.size
  ·have hb := ns_at hlt
   obtain ⟨c, hc⟩ : ∃ c, s[k].toNat = c := ⟨_, rfl⟩
   rw [hc] at hb
   have H := Lib.hid (fun w => digit_any c w)
   rw [<- hc] at H
   obtain ⟨b, hv⟩ : ∃ b, D.digB (s[k].toNat) = b := ⟨_, rfl⟩
   rw [hv] at H
   have HB := Lib.hid hb
   have HV := Lib.hid hv
   have HC := Lib.hid hc
   clear hb hv hc
   cases b
   ·go_wp2_with (go_at_call 168; (with_reducible refine (H.out _).mono ?_); rintro e w' ⟨rfl, rfl⟩)
    go_ret
    exact ⟨bool_of (not_fine HB.out (by rw [<- HC.out]; exact HV.out)).symm, rfl⟩
   ·go_wp2_with (go_at_call 168; (with_reducible refine (H.out _).mono ?_); rintro e w' ⟨rfl, rfl⟩)
    go_round
    case rel => exact ⟨k + 1, by omega, by go_num, fine_next hf HB.out (by rw [<- HC.out]; exact HV.out)⟩
    case measure => simp [intOf]; omega
  ·go_wp2
   go_ret
   exact ⟨bool_of (fine_all hf (by rw [D.ns_len]; omega)).symm, rfl⟩
theorem isLang_any (s : ByteArray) (w : World) (hs : s.size <= 100) : Calls Tryz.prog 155 #[.string s] w fun e w' => e = .returned (.bool (D.isL (D.ns s))) ∧ w = w' := by
 have H := Lib.hid (fun w => all_letter s w hs)
 obtain ⟨b, hb⟩ : ∃ b, D.allL (D.ns s) = b := ⟨_, rfl⟩
 rw [hb] at H
 have E : D.isL (D.ns s) = ((s.size == 2 || s.size == 3) && b) := by rw [<- hb, D.isL, D.ns_len]
 rw [E]
 clear E hb
 go_enter Tryz.func155, Tryz.ntmps155
 by_cases h2 : s.size = 2
 ·have c2 : ((s.size : Int) == 2) = true := by rw [beq_iff_eq]; omega
  have e2 : ((s.size == 2 || s.size == 3) && b) = b := by simp [h2]
  rw [e2]
  clear e2 h2
  go_wp2_with (go_at_call 162; (with_reducible refine (H.out _).mono ?_); rintro e w' ⟨rfl, rfl⟩)
  go_ret
  exact ⟨rfl, rfl⟩
 ·have c2 : ((s.size : Int) == 2) = false := by rw [beq_eq_false_iff_ne]; omega
  by_cases h3 : s.size = 3
  ·have c3 : ((s.size : Int) == 3) = true := by rw [beq_iff_eq]; omega
   have e2 : ((s.size == 2 || s.size == 3) && b) = b := by simp [h3]
   rw [e2]
   clear e2 h2 h3
   go_wp2_with (go_at_call 162; (with_reducible refine (H.out _).mono ?_); rintro e w' ⟨rfl, rfl⟩)
   go_ret
   exact ⟨rfl, rfl⟩
  ·have c3 : ((s.size : Int) == 3) = false := by rw [beq_eq_false_iff_ne]; omega
   have e2 : ((s.size == 2 || s.size == 3) && b) = false := by simp [h2, h3]
   rw [e2]
   clear e2 h2 h3
   go_wp2
   go_ret
   exact ⟨rfl, rfl⟩
theorem isScript_any (s : ByteArray) (w : World) (hs : s.size <= 100) : Calls Tryz.prog 157 #[.string s] w fun e w' => e = .returned (.bool (D.isS (D.ns s))) ∧ w = w' := by
 have H := Lib.hid (fun w => all_letter s w hs)
 obtain ⟨b, hb⟩ : ∃ b, D.allL (D.ns s) = b := ⟨_, rfl⟩
 rw [hb] at H
 have E : D.isS (D.ns s) = (s.size == 4 && b) := by rw [<- hb, D.isS, D.ns_len]
 rw [E]
 clear E hb
 go_enter Tryz.func157, Tryz.ntmps157
 by_cases h2 : s.size = 4
 ·have c2 : ((s.size : Int) == 4) = true := by rw [beq_iff_eq]; omega
  have e2 : (s.size == 4 && b) = b := by simp [h2]
  rw [e2]
  clear e2 h2
  go_wp2_with (go_at_call 162; (with_reducible refine (H.out _).mono ?_); rintro e w' ⟨rfl, rfl⟩)
  go_ret
  exact ⟨rfl, rfl⟩
 ·have c2 : ((s.size : Int) == 4) = false := by rw [beq_eq_false_iff_ne]; omega
  have e2 : (s.size == 4 && b) = false := by simp [h2]
  rw [e2]
  clear e2 h2
  go_wp2
  go_ret
  exact ⟨rfl, rfl⟩
theorem isRegion_any (s : ByteArray) (w : World) (hs : s.size <= 100) : Calls Tryz.prog 159 #[.string s] w fun e w' => e = .returned (.bool (D.isR (D.ns s))) ∧ w = w' := by
 have H := Lib.hid (fun w => all_letter s w hs)
 have K := Lib.hid (fun w => all_digit s w hs)
 obtain ⟨b, hb⟩ : ∃ b, D.allL (D.ns s) = b := ⟨_, rfl⟩
 obtain ⟨d, hd⟩ : ∃ d, D.allD (D.ns s) = d := ⟨_, rfl⟩
 rw [hb] at H
 rw [hd] at K
 have E : D.isR (D.ns s) = (s.size == 2 && b || s.size == 3 && d) := by rw [<- hb, <- hd, D.isR, D.ns_len]
 rw [E]
 clear E hb hd
 go_enter Tryz.func159, Tryz.ntmps159
 by_cases h2 : s.size = 2
 ·have c2 : ((s.size : Int) == 2) = true := by rw [beq_iff_eq]; omega
  have c3 : ((s.size : Int) == 3) = false := by rw [beq_eq_false_iff_ne]; omega
  have e2 : (s.size == 2 && b || s.size == 3 && d) = b := by simp [h2]
  rw [e2]
  clear e2 h2
  cases b
  all_goals
   go_wp2_with (go_at_call 162; (with_reducible refine (H.out _).mono ?_); rintro e w' ⟨rfl, rfl⟩)
   go_ret
   exact ⟨rfl, rfl⟩
 ·have c2 : ((s.size : Int) == 2) = false := by rw [beq_eq_false_iff_ne]; omega
  by_cases h3 : s.size = 3
  ·have c3 : ((s.size : Int) == 3) = true := by rw [beq_iff_eq]; omega
   have e2 : (s.size == 2 && b || s.size == 3 && d) = d := by simp [h3]
   rw [e2]
   clear e2 h2 h3
   go_wp2_with (go_at_call 162; (with_reducible refine (K.out _).mono ?_); rintro e w' ⟨rfl, rfl⟩)
   go_ret
   exact ⟨rfl, rfl⟩
  ·have c3 : ((s.size : Int) == 3) = false := by rw [beq_eq_false_iff_ne]; omega
   have e2 : (s.size == 2 && b || s.size == 3 && d) = false := by simp [h2, h3]
   rw [e2]
   clear e2 h2 h3
   go_wp2
   go_ret
   exact ⟨rfl, rfl⟩
end Go.Proofs.YtgnjjlgmlokhmaaGreatDoor
namespace Go.Proofs.YtgnjjlgmlokhmaaGreatDoor
open Go.RowKit Go.Shelf

theorem low_list (l : List UInt8) : ((Lib.toLowerA l).map (·.toNat)) = D.low (l.map (·.toNat)) := by
 simp only [Lib.toLowerA, D.low, List.map_map]
 refine List.map_congr_left fun b _ => ?_
 show (Lib.lowerB b).toNat = D.lowB b.toNat
 have hi := Lib.isUpperB_int b
 unfold D.lowB
 cases h : Lib.isUpperB b with
 | false =>
  rw [h] at hi
  simp only [eq_comm (a := false), Bool.and_eq_false_iff, decide_eq_false_iff_not] at hi
  rw [Lib.lowerB_of_not b h, if_neg (by omega)]
 | true =>
  have h2 := Lib.lowerB_int b h
  rw [h] at hi
  simp only [eq_comm (a := true), Bool.and_eq_true, decide_eq_true_eq] at hi
  rw [if_pos (by omega)]
  omega
theorem up_list (l : List UInt8) : ((Lib.toUpperA l).map (·.toNat)) = D.up (l.map (·.toNat)) := by
 simp only [Lib.toUpperA, D.up, List.map_map]
 refine List.map_congr_left fun b _ => ?_
 show (Lib.upperB b).toNat = D.upB b.toNat
 have hi := Lib.isLowerB_int b
 unfold D.upB
 cases h : Lib.isLowerB b with
 | false =>
  rw [h] at hi
  simp only [eq_comm (a := false), Bool.and_eq_false_iff, decide_eq_false_iff_not] at hi
  rw [Lib.upperB_of_not b h, if_neg (by omega)]
 | true =>
  have h2 := Lib.upperB_int b h
  rw [h] at hi
  simp only [eq_comm (a := true), Bool.and_eq_true, decide_eq_true_eq] at hi
  rw [if_pos (by omega)]
  omega
theorem sb_of {l : List UInt8} {k : List Nat} (h : l.map (·.toNat) = k) : (⟨l.toArray⟩ : ByteArray) = D.sb k := by
 refine D.ns_inj ?_
 rw [D.ns_sb]
 ·exact h
 ·subst h
  intro b hb
  obtain ⟨u, _, rfl⟩ := List.mem_map.1 hb
  exact u.toNat_lt
theorem ascii_of {s : ByteArray} (h : ∀ b ∈ D.ns s, b < 128) : ∀ (j : Nat) (b : UInt8), s.data.toList[j]? = some b -> b.toNat < 128 := fun j b hb => h _ (List.mem_map.2 ⟨b, List.mem_of_getElem? hb, rfl⟩)
theorem lower_any (s : ByteArray) (w : World) (hs : s.size <= 100) (h : ∀ b ∈ D.ns s, b < 128) : Calls Tryz.prog 156 #[.string s] w fun e w' => e = .returned (.string (D.sb (D.low (D.ns s)))) ∧ Below w.heap.size w w' := by
 refine Calls.mono (Any.strings_ToLower_ascii lays159 Builder_Extra_159 s w (by omega) (ascii_of h)) fun e w' ⟨he, hw⟩ => ⟨?_, hw⟩
 rw [he, sb_of (low_list s.data.toList)]
 rfl
theorem upper_any (s : ByteArray) (w : World) (hs : s.size <= 100) (h : ∀ b ∈ D.ns s, b < 128) : Calls Tryz.prog 158 #[.string s] w fun e w' => e = .returned (.string (D.sb (D.up (D.ns s)))) ∧ Below w.heap.size w w' := by
 refine Calls.mono (Any.strings_ToUpper_ascii lays158 Builder_Extra_158 s w (by omega) (ascii_of h)) fun e w' ⟨he, hw⟩ => ⟨?_, hw⟩
 rw [he, sb_of (up_list s.data.toList)]
 rfl
abbrev dash : ByteArray := ⟨#[45]⟩
theorem join_list : ∀ xs : List (List UInt8), (Lib.join xs [45]).map (·.toNat) = D.join (xs.map fun l => l.map (·.toNat))
 | [] => rfl
 | [x] => by rw [Lib.join_one]; rfl
 | x :: y :: r => by
  have h := join_list (y :: r)
  have e : Lib.join (x :: y :: r) [45] = x ++ 45 :: Lib.join (y :: r) [45] := by
   rw [Lib.join_cons, Lib.join_cons]
   simp [Lib.joinTail]
  rw [e, List.map_append, List.map_cons, h]
  rfl
theorem join_any (bk c : Nat) (xs : List ByteArray) (w : World) (hcells : ∀ (j : Nat) x, xs[j]? = some x -> w.cell? ⟨bk, 0 + j, none⟩ = some (.string x)) (hbk : bk < w.heap.size) (hN : xs.length <= 100) (hcap : xs.length <= c) (hlen : (D.join (xs.map D.ns)).length <= 100) :
  Calls Tryz.prog 160 #[.slice (some ⟨bk, 0, none⟩) xs.length c, .string dash] w fun e w' => e = .returned (.string (D.sb (D.join (xs.map D.ns)))) ∧ Below w.heap.size w w' := by
 have hj : (Lib.join (xs.map (·.data.toList)) [45]).map (·.toNat) = D.join (xs.map D.ns) := by
  rw [join_list, List.map_map]; rfl
 have hl : (Lib.join (xs.map (·.data.toList)) [45]).length <= 140737488355328 := by
  have := congrArg List.length hj
  rw [List.length_map] at this
  omega
 refine Calls.mono (Any.strings_Join lays156 Builder_Extra_156 bk 0 c xs dash w hcells hbk (by omega) hcap hl) fun e w' ⟨he, hw⟩ => ⟨?_, hw⟩
 rw [he, <- sb_of hj]
theorem join_none (A : Option Addr) (c : Nat) (w : World) :
  Calls Tryz.prog 160 #[.slice A 0 c, .string dash] w fun e w' => e = .returned (.string (D.sb [])) ∧ Below w.heap.size w w' :=
 Calls.mono (Any.strings_Join_none lays156 Builder_Extra_156 A c dash w) fun e w' ⟨he, hw⟩ => ⟨he, hw ▸ Below.refl _ _⟩

theorem idx_cut (s : ByteArray) : (Lib.indexB s dash = -1 ∧ D.cutM (D.ns s) = false) ∨ ∃ i : Nat, Lib.indexB s dash = i ∧ i < s.size ∧ D.cutM (D.ns s) = true ∧ D.cutP (D.ns s) = (D.ns s).take i ∧ D.cutR (D.ns s) = (D.ns s).drop (i + 1) := by
 have e : Lib.indexB s dash = Lib.indexByte s.data.toList 45 := by
  exact Lib.one s dash rfl
 have hns : ∀ k : Nat, (D.ns s)[k]? = some 45 ↔ s.data.toList[k]? = some 45 := by
  intro k
  simp only [D.ns, List.getElem?_map]
  cases h : s.data.toList[k]? with
  | none => simp
  | some b =>
   simp only [Option.map_some, Option.some.injEq]
   constructor
   ·intro h; exact UInt8.toNat_inj.1 h
   ·rintro rfl; rfl
 rw [e]
 have hge := Lib.indexByte_ge s.data.toList 45
 by_cases h : Lib.indexByte s.data.toList 45 = -1
 ·refine .inl ⟨h, D.cutM_no fun i hi hc => Lib.indexByte_none h i ((hns i).1 hc)⟩
 ·obtain ⟨i, hi⟩ : ∃ i : Nat, Lib.indexByte s.data.toList 45 = i := ⟨(Lib.indexByte s.data.toList 45).toNat, by omega⟩
  obtain ⟨h1, h2⟩ := Lib.indexByte_some hi
  obtain ⟨c1, c2, c3⟩ := D.cut_at (t := D.ns s) (k := i) ((hns i).2 h1) (fun (j : Nat) hj hc => h2 j hj ((hns j).1 hc))
  refine .inr ⟨i, hi, ?_, c3, c1, c2⟩
  have := (List.getElem?_eq_some_iff.1 h1).1
  simpa using this
theorem ns_take (s : ByteArray) (k : Nat) : D.ns (s.extract 0 k) = (D.ns s).take k := by
 simp only [D.ns]
 rw [Lib.extract_from_zero, List.map_take]
theorem ns_drop (s : ByteArray) (k : Nat) : D.ns (s.extract k s.size) = (D.ns s).drop k := by
 simp only [D.ns]
 rw [Lib.extract_to_end, List.map_drop]
theorem spn_split : ∀ (k : Nat) (s : ByteArray), (Lib.splitB dash 0 k s).map D.ns = D.spn k (D.ns s)
 | 0, s => rfl
 | k + 1, s => by
  rcases idx_cut s with ⟨h, hm⟩ | ⟨i, h, hi, hm, hp, hr⟩
  ·rw [Lib.splitB_miss _ _ _ _ h, D.spn, hm]; rfl
  ·rw [Lib.splitB_hit _ _ _ _ i h, D.spn, hm, if_pos rfl, hp, hr, List.map_cons, spn_split k, Nat.add_zero, ns_take]
   have : dash.size = 1 := rfl
   rw [this, ns_drop]
theorem split_any (s : ByteArray) (w : World) (hs : s.size <= 100) :
  Calls Tryz.prog 154 #[.string s, .string dash, .int .i64 4] w fun e w' => ∃ (xs : List ByteArray) (N : Nat), xs.map D.ns = D.spn 3 (D.ns s) ∧ xs.length <= N ∧ N <= 4 ∧ e = .returned (.slice (some ⟨w.heap.size, 0, none⟩) xs.length N) ∧ w' = w.alloc (.cells (Lib.cellsOf xs N) 9) := by
 have hi9 : (Tryz.prog.info? 9).map (fun i => (i.zero, i.size, i.bytes)) = some (some (.string ByteArray.empty), 1, 16) := by kernel_rfl
 have hC : Calls Tryz.prog 170 #[.string s, .string dash] w fun e w' => e = .returned (.int .i64 (Lib.countB s dash)) ∧ w' = w := by
  refine Calls.mono (Any.strings_Count_one { lays147 with } s 45 w) fun e w' ⟨he, hw⟩ => ⟨?_, hw⟩
  rw [he]
  show _ = Ending.returned (Value.int .i64 ((Lib.count s.data.toList [45] : Nat) : Int))
  rw [Lib.count_one]
  rfl
 have hI : ∀ (x : ByteArray) (c : Array Value), x.size <= s.size -> Calls Tryz.prog 171 #[.string x, .string dash] (w.alloc (.cells c 9)) fun e w' => e = .returned (.int .i64 (Lib.indexB x dash)) ∧ w' = w.alloc (.cells c 9) := by
  intro x c _
  refine Calls.mono (Any.strings_Index_one { lays147 with } x 45 _) fun e w' ⟨he, hw⟩ => ⟨?_, hw⟩
  rw [he]
  have := Lib.one x dash rfl
  rw [this]
  rfl
 have c := Any.strings_genSplit_core { lays147 with } hi9 s dash 0 (4 : Int) (min 4 (s.size + 1)) w (by omega) (by decide) (Nat.zero_le _) hI hC (by decide) (by decide) (by rw [if_neg (by decide)]; omega)
 have hlen : (Lib.splitB dash 0 (min 4 (s.size + 1) - 1) s).length <= min 4 (s.size + 1) := by
  have := Lib.splitB_length_le dash 0 (min 4 (s.size + 1) - 1) s
  omega
 have hsp : (Lib.splitB dash 0 (min 4 (s.size + 1) - 1) s).map D.ns = D.spn 3 (D.ns s) := by
  rw [spn_split]
  by_cases h : 3 <= s.size
  ·rw [show min 4 (s.size + 1) - 1 = 3 by omega]
  ·have := D.spn_more s.size (D.ns s) (by rw [D.ns_len]; exact Nat.le_refl _) (3 - s.size)
   rw [show s.size + (3 - s.size) = 3 by omega] at this
   rw [show min 4 (s.size + 1) - 1 = s.size by omega, this]
 have c' : Calls Tryz.prog 161 #[.string s, .string dash, .int .i64 0, .int .i64 4] w fun e w' => e = .returned (.slice (some ⟨w.heap.size, 0, none⟩) (Lib.splitB dash 0 (min 4 (s.size + 1) - 1) s).length (min 4 (s.size + 1))) ∧ w' = w.alloc (.cells (Lib.cellsOf (Lib.splitB dash 0 (min 4 (s.size + 1) - 1) s) (min 4 (s.size + 1))) 9) := c
 clear c hI hC
 go_enter Tryz.func154, Tryz.ntmps154
 go_wp2_with (go_at_call 161; (with_reducible refine Calls.mono c' ?_); rintro e w' ⟨rfl, rfl⟩)
 go_ret
 exact ⟨_, _, hsp, hlen, by omega, rfl, rfl⟩

theorem hd0_at : ∀ {l : List Nat} {k : Nat}, l[k]? = some 0 -> (∀ i : Nat, i < k -> l[i]? ≠ some 0) -> D.hd0 l = l.take k ∧ k < l.length
 | [], k, h, _ => by simp at h
 | c :: t, 0, h, _ => by
  simp at h
  subst h
  simp [D.hd0]
 | c :: t, k + 1, h, hn => by
  have hc : c ≠ 0 := fun e => hn 0 (by omega) (by simp [e])
  obtain ⟨h1, h2⟩ := hd0_at (l := t) (k := k) (by simpa using h) (fun i hi => by have := hn (i + 1) (by omega); simpa using this)
  refine ⟨?_, by simp; omega⟩
  rw [List.take_succ_cons, <- h1]
  simp [D.hd0, hc]
theorem hd0_no {l : List Nat} (h : ∀ i : Nat, l[i]? ≠ some 0) : D.hd0 l = l := by
 induction l with
 | nil => rfl
 | cons c t ih =>
  have hc : c ≠ 0 := fun e => h 0 (by simp [e])
  have := ih (fun i => by have := h (i + 1); simpa using this)
  simp only [D.hd0] at this ⊢
  rw [List.takeWhile_cons_of_pos (by simpa using hc), this]
set_option maxRecDepth 100000 in
theorem cut0_any (a : Addr) (n c b2 d : Nat) (l : List Nat) (w : World) (hn : l.length = n) (hl : ∀ b ∈ l, b < 256) (hc : ∀ j u, (bys l)[j]? = some u -> w.cell? (a.add j) = some u) (hcap : n <= c) (hs : n <= 100) (h2 : w.cell? ⟨b2, 0, none⟩ = some (.int .u8 0)) :
  Calls Tryz.prog 124 #[.slice (some a) n c, .slice (some ⟨b2, 0, none⟩) 1 d] w fun e w' => ∃ v2 v3, e = .returned (.tuple #[.slice (some a) (D.hd0 l).length c, v2, v3]) ∧ ∃ q, w' = w.drewN q := by
 have hx : (l.map fun b : Nat => (b : Int)).length = n := by simpa using hn
 have hcx : ∀ i, i < n -> w.cell? (a.add i) = some (.int .u8 ((l.map fun b : Nat => (b : Int)).getD i 0)) := fun i hi => by
  refine hc i _ ?_
  simp [bys, List.getD, List.getElem?_eq_getElem (show i < l.length by omega)]
 have hidx := Any.bytes_Index_one_at lays185 a n c b2 0 d (l.map fun b : Nat => (b : Int)) 0 w hx hcx h2
 have hz : (0 : Int).toNat.toUInt8 = 0 := rfl
 rw [hz] at hidx
 have hb : Lib.bytesOf (l.map fun b : Nat => (b : Int)) = l.map UInt8.ofNat := by simp [Lib.bytesOf]
 rw [hb] at hidx
 have hat : ∀ k : Nat, (l.map UInt8.ofNat)[k]? = some 0 ↔ l[k]? = some 0 := by
  intro k
  rw [List.getElem?_map]
  cases h : l[k]? with
  | none => simp
  | some b =>
   have hb := hl b (List.mem_of_getElem? h)
   simp only [Option.map_some, Option.some.injEq]
   constructor
   ·intro h
    have := congrArg UInt8.toNat h
    simpa [Nat.mod_eq_of_lt hb] using this
   ·rintro rfl; rfl
 obtain ⟨i, hi⟩ : ∃ i, Lib.indexByte (l.map UInt8.ofNat) 0 = i := ⟨_, rfl⟩
 have hge := Lib.indexByte_ge (l.map UInt8.ofNat) 0
 rw [hi] at hidx hge
 have key : (i = -1 ∧ D.hd0 l = l) ∨ ∃ k : Nat, i = k ∧ D.hd0 l = l.take k ∧ k < l.length := by
  by_cases h : i = -1
  ·subst h
   exact .inl ⟨rfl, hd0_no fun k hk => Lib.indexByte_none hi k ((hat k).2 hk)⟩
  ·obtain ⟨k, rfl⟩ : ∃ k : Nat, i = k := ⟨i.toNat, by omega⟩
   obtain ⟨h1, h2⟩ := Lib.indexByte_some hi
   exact .inr ⟨k, rfl, hd0_at ((hat k).1 h1) (fun (j : Nat) hj hc => h2 j hj ((hat j).2 hc))⟩
 refine Calls.mono (Any.bytes_Cut_of laysSlT4 (some a) (some ⟨b2, 0, none⟩) n c 1 d i w hcap (by omega) ?_ (by omega) (Calls.mono hidx fun e w' ⟨he, hw⟩ => ⟨he, 0, hw⟩)) fun e w' ⟨he, hw⟩ => ?_
 ·intro h0
  rcases key with ⟨rfl, _⟩ | ⟨k, rfl, _, hk⟩ <;> omega
 ·rcases key with ⟨rfl, e1⟩ | ⟨k, rfl, e1, hk⟩
  ·refine ⟨.slice none 0 0, .bool false, ?_, hw⟩
   rw [he, Lib.cutV, if_neg (by decide), e1, hn]
  ·refine ⟨Lib.fromV (some a) n c (k + 1), .bool true, ?_, hw⟩
   rw [he, Lib.cutV, if_pos (by omega), e1, List.length_take, Nat.min_eq_left (by omega)]
   rfl
end Go.Proofs.YtgnjjlgmlokhmaaGreatDoor
namespace Go.Proofs.YtgnjjlgmlokhmaaGreatDoor
open Go.RowKit
attribute [local go_sem ↓] Go.wp_at_zero Go.wp_at_succ

def kind (t : List Nat) : Nat := if D.allL t then 1 else if D.allD t then 2 else 0
theorem str_run (W : World) (A : Option Addr) (n c : Nat) (l : List Nat) (h : Row W A n (bys l)) (hl : ∀ b ∈ l, b < 256) :
  (convert 90 9 (.slice A n c)).run Tryz.prog W = .ok (.string (D.sb l)) W := by
 have hlen := h.len
 rw [bys_len] at hlen
 rcases A with _ | ad
 ·have : l = [] := by
   rcases Nat.eq_zero_or_pos n with h0 | h0
   ·exact List.eq_nil_of_length_eq_zero (by omega)
   ·obtain ⟨ad, e, _⟩ := h.tow h0
    cases e
  subst this
  have : n = 0 := by simpa using hlen.symm
  subst this
  exact Lib.run_convert_nil_bytes W _ _ 5 c Tryz.underlying90 Tryz.underlying5 Tryz.underlying9
 ·have hr := run_convert_bytes_back (P := Tryz.prog) W 90 9 5 ad c (l.map UInt8.ofNat) Tryz.underlying90 Tryz.underlying5 Tryz.underlying9 (fun j hj => by
   have hj' : j < l.length := by simpa using hj
   have hq : l[j]? = some l[j] := List.getElem?_eq_getElem hj'
   obtain ⟨ad', e, hc⟩ := h.cell (bys_at hq)
   injection e with e
   subst e
   rw [hc]
   have := hl _ (List.getElem_mem hj')
   simp
   omega)
  rw [List.length_map, hlen] at hr
  exact hr
end Go.Proofs.YtgnjjlgmlokhmaaGreatDoor
namespace Go.Proofs.YtgnjjlgmlokhmaaGreatDoor
open Go.RowKit
section
variable {P : Program} {ops : Array Oper} {Q : Exit -> Act -> World -> Prop} {md : Region.Mode} {S : World -> Prop}
theorem takeS (i : Nat) (d : Option Tmp) (v : Value) {fuel : Nat} {listed : Array Bool} {a : Act} {w : World} (hd : (ops[i]?).map (·.dst) = some d)
  (hs : Region.noSelect ops = true) (hf : Region.free md ops listed i = true) (hr : (Region.ready md ops listed).contains i = true)
  (hQ : ∀ c a w, Q (.panic c) (a.put d v) w -> Q (.panic c) a w) (hw : (ops[i]?).map (fun o => Region.wanted o (yielded ops a.tmps)) = some true)
  (hy : ∀ o, ops[i]? = some o -> ∀ w, S w -> (execOp a.eval o).run P w = .ok (.value v) w) (hS : S w)
  (h : wpAnyH P md ops Q S fuel (listed.setIfInBounds i true) (a.put d v) w) : wpAnyH P md ops Q S (fuel + 1) listed a w := by
 cases ho : ops[i]? with
 | none => rw [ho] at hd; cases hd
 | some o =>
  rw [ho] at hd hw
  simp only [Option.map_some, Option.some.injEq] at hd hw
  subst hd
  exact wpAnyH_take ho hs hf hr hQ (.inl ⟨hw, fun w hS => hy o ho w hS⟩) hS h
theorem nextS (i : Nat) {fuel : Nat} {listed : Array Bool} {a : Act} {w : World} (hr : Region.ready md ops listed = [i])
  (hw : (ops[i]?).map (fun o => Region.wanted o (yielded ops a.tmps)) = some true)
  (h : ∀ o, ops[i]? = some o -> ∀ K : Act -> World -> Prop, Shut (∀ a w, S w -> (S w -> wpAnyH P md ops Q S fuel (listed.setIfInBounds i true) a w) -> K a w) -> Oper.wp P o a w K Q) : wpAnyH P md ops Q S (fuel + 1) listed a w := by
 cases ho : ops[i]? with
 | none => rw [ho] at hw; cases hw
 | some o =>
  rw [ho] at hw
  simp only [Option.map_some, Option.some.injEq] at hw
  refine wpAnyH_ready hr (by simp) (AllReadyH.cons ho (fun K hK => ?_) AllReadyH.nil)
  rw [if_pos hw]
  exact h o ho K hK
end
theorem gT {α : Type} (l : List α) (i : Nat) : l.toArray[i]? = l[i]? := List.getElem?_toArray
theorem gS {α : Type} (a : α) (l : List α) (i : Nat) : (a :: l)[i + 1]? = l[i]? := List.getElem?_cons_succ
theorem gZ {α : Type} (a : α) (l : List α) : (a :: l)[0]? = some a := List.getElem?_cons_zero
theorem sI {α : Type} (a b : α) : (some a = some b) = (a = b) := Option.some.injEq a b
theorem iT {α : Type} (l : List α) (i : Nat) (a : α) : l.toArray.setIfInBounds i a = (l.set i a).toArray := List.setIfInBounds_toArray ..
theorem iZ {α : Type} (a b : α) (l : List α) : (a :: l).set 0 b = b :: l := List.set_cons_zero
theorem iS {α : Type} (a b : α) (l : List α) (i : Nat) : (a :: l).set (i + 1) b = a :: l.set i b := List.set_cons_succ
theorem takeT {P : Program} {ops : Array Oper} {Q : Exit -> Act -> World -> Prop} {md : Region.Mode} {S : World -> Prop} (i : Nat) (d : Option Tmp) (v : Value) {fuel : Nat} {listed : Array Bool} {a : Act} {w : World}
  (hy : ∀ o, ops[i]? = some o -> ∀ w, S w -> (execOp a.eval o).run P w = .ok (.value v) w) (hS : S w)
  (h : wpAnyH P md ops Q S fuel (listed.setIfInBounds i true) (a.put d v) w)
  (hd : (ops[i]?).map (·.dst) = some d := by kernel_rfl) (hs : Region.noSelect ops = true := by kernel_rfl) (hf : Region.free md ops listed i = true := by kernel_rfl) (hr : (Region.ready md ops listed).contains i = true := by kernel_rfl)
  (hQ : ∀ c a w, Q (.panic c) (a.put d v) w -> Q (.panic c) a w := by exact fun _ _ _ h => h) (hw : (ops[i]?).map (fun o => Region.wanted o (yielded ops a.tmps)) = some true := by rfl) : wpAnyH P md ops Q S (fuel + 1) listed a w := takeS i d v hd hs hf hr hQ hw hy hS h
end Go.Proofs.YtgnjjlgmlokhmaaGreatDoor
