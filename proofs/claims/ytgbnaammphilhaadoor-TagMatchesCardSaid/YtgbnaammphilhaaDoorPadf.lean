/-
  The document's pad and front.
-/
import Derived.Test.YtgbnaammphilhaaDoorStep
set_option linter.unusedVariables false
set_option linter.unusedSimpArgs false
namespace Go.Proofs.YtgbnaammphilhaaDoor
open Go.RowKit
attribute [local go_sem ↓] Go.wp_at_zero Go.wp_at_succ

def pk (l : List Nat) (k n : Nat) : Array Value := (bys (D.padn (l.take k) n)).toArray
theorem pk_size (l : List Nat) (k n : Nat) : (pk l k n).size = n := by simp [pk, bys_len, D.padn_len]
theorem padn_get (l : List Nat) (n j : Nat) : (D.padn l n)[j]? = if j < n then some ((l[j]?).getD 0) else none := by
  unfold D.padn
  rw [List.getElem?_take]
  by_cases hj : j < n
  · rw [if_pos hj, if_pos hj]
    by_cases hl : j < l.length
    · rw [List.getElem?_append_left hl, List.getElem?_eq_getElem hl]; rfl
    · rw [List.getElem?_append_right (by omega), List.getElem?_eq_none (l := l) (by omega), List.getElem?_replicate, if_pos (by omega)]; rfl
  · rw [if_neg hj, if_neg hj]
theorem padn_next {l : List Nat} {k b n : Nat} (hb : l[k]? = some b) (hk : k < n) : D.padn (l.take (k + 1)) n = (D.padn (l.take k) n).set k b := by
  apply List.ext_getElem?
  intro j
  rw [List.getElem?_set, D.padn_len, padn_get, padn_get, List.getElem?_take, List.getElem?_take]
  by_cases e : k = j
  · subst e
    rw [if_pos hk, if_pos (by omega), hb, if_pos rfl, if_pos hk]; rfl
  · rw [if_neg e]
    by_cases h1 : j < k
    · rw [if_pos (show j < k + 1 by omega), if_pos h1]
    · rw [if_neg (show ¬ j < k + 1 by omega), if_neg h1]
theorem pk_next {l : List Nat} {k b n : Nat} (hb : l[k]? = some b) (hk : k < n) : (pk l k n).setIfInBounds k (.int .u8 b) = pk l (k + 1) n := by
  rw [pk, pk, padn_next hb hk, bys, bys, List.setIfInBounds_toArray, List.map_set]
theorem pk_end {l : List Nat} {k n : Nat} (h : k = l.length ∨ n ≤ k) (hk : k ≤ l.length) : pk l k n = (bys (D.padn l n)).toArray := by
  rw [pk]
  congr 2
  rcases h with rfl | h
  · rw [List.take_of_length_le (Nat.le_refl _)]
  · unfold D.padn
    rw [List.take_append_of_le_length (by simp; omega), List.take_append_of_le_length (by omega), List.take_take, Nat.min_eq_left h]
set_option maxRecDepth 100000 in
theorem make_run (z : Nat) (hz : z ≤ 8) : ∀ W, (Instr.makeSlice 64 (.int .i64 (z : Int)) (.int .i64 (z : Int))).run Tryd.prog W = .ok (.slice (some ⟨W.heap.size, 0, none⟩) z z) (W.alloc (.cells (pk [] 0 z) 5)) := by
  intro W
  obtain ⟨i, hi, hz0, hz1, hz2⟩ := info_parts u8_info
  have hr := run_make (P := Tryd.prog) W 64 5 i _ Tryd.underlying64 hi hz0 .i64 .i64 z z (by omega) (Int.le_refl _) (by rw [hz2]; omega) (by omega)
  simp only [Int.toNat_natCast] at hr
  rw [hr, hz1, Nat.mul_one]
  congr 3
  apply Array.ext'
  have := toList_madeCells_one (.int .u8 0) z
  rw [show (Value.int IntKind.u8 0).cells = #[.int .u8 0] by rfl, this]
  simp [pk, bys, D.padn]
theorem own_of_blk {base : Nat} {w : World} {g z : Nat} {l : List Nat} (h : Blk w g 5 (bys l).toArray) (hg : base ≤ g) (hl : l.length = z) (hz : z ≤ 1000000) : Own base w (some ⟨g, 0, none⟩) z z l :=
  ⟨⟨by rw [bys_len, hl, Nat.mul_one], .inr ⟨g, z, _, rfl, hg, h.out, Nat.le_refl _, by simp only [maxLen]; omega, by simp [bys_len, hl], by
    rw [Nat.mul_one]
    show (bys l).take z = bys l
    exact List.take_of_length_le (by rw [bys_len, hl]; exact Nat.le_refl _)⟩⟩, Nat.le_trans hg (Nat.le_of_lt h.lt)⟩
theorem pk_first (l : List Nat) (n : Nat) : pk l 0 n = pk [] 0 n := rfl
set_option maxRecDepth 100000 in
set_option maxHeartbeats 1000000 in
theorem pad_3 (s : ByteArray) (w : World) (hs : s.size ≤ 100) : Calls Tryd.prog 39 #[.string s, .int .i64 3] w (Made w (D.padn (D.ns s) 3)) := by
  have hmk : ∀ W, (Instr.makeSlice 64 (.int .i64 3) (.int .i64 3)).run Tryd.prog W = .ok (.slice (some ⟨W.heap.size, 0, none⟩) 3 3) (W.alloc (.cells (pk [] 0 3) 5)) := make_run 3 (by decide)
  go_enter Tryd.func39, Tryd.ntmps39
  go_wp2
  clear hmk
  go_loopw [6] (fun i wr => ∃ k : Nat, k ≤ s.size ∧ k ≤ 3 ∧ i = .int .i64 k ∧ Blk wr w.heap.size 5 (pk (D.ns s) k 3) ∧ Below w.heap.size w wr) (fun i _ => s.size - (intOf i).toNat)
  case atStart => exact ⟨0, Nat.zero_le _, Nat.zero_le _, rfl, by rw [pk_first]; exact Blk.new w _ _, below_alloc_ _ _⟩
  case round =>
    obtain ⟨k, hk, hk2, rfl, B1, hbel⟩ := hrel
    by_cases hlt : k < s.size ∧ k < 3
    · obtain ⟨h1, h2⟩ := hlt
      have hb := ns_at h1
      obtain ⟨b, hq⟩ : ∃ b, s[k].toNat = b := ⟨_, rfl⟩
      rw [hq] at hb
      have hbn := B1.put k (.int .u8 b)
      rw [pk_next hb (by omega)] at hbn
      have hcs : ∃ v, wr.cell? ⟨w.heap.size, k, none⟩ = some v := by
        rw [B1.c]
        exact ⟨_, Array.getElem?_eq_getElem (by rw [pk_size]; omega)⟩
      obtain ⟨v0, hc⟩ := hcs
      have hf := B1.f k
      have i1 : (k : Int) < (s.size : Int) := by omega
      have i2 : (k : Int) < 3 := by omega
      clear hb B1
      go_wp2
      go_roundw
      case rel => exact ⟨k + 1, by omega, by omega, by go_num, hbn, hbel.setCell (Nat.le_refl _) _⟩
      case measure => simp [intOf]; omega
    · rw [pk_end (n := 3) (by rw [D.ns_len]; omega) (by rw [D.ns_len]; exact hk)] at B1
      have ho := own_of_blk B1 (Nat.le_refl _) (D.padn_len _ _) (by decide)
      clear B1
      by_cases h : k < s.size
      · have j1 : (k : Int) < (s.size : Int) := by omega
        have j2 : (3 : Int) ≤ (k : Int) := by omega
        clear hlt
        go_wp2
        go_ret
        exact made ho hbel
      · have j1 : (s.size : Int) ≤ (k : Int) := by omega
        clear hlt
        go_wp2
        go_ret
        exact made ho hbel
set_option maxRecDepth 100000 in
set_option maxHeartbeats 1000000 in
theorem pad_4 (s : ByteArray) (w : World) (hs : s.size ≤ 100) : Calls Tryd.prog 39 #[.string s, .int .i64 4] w (Made w (D.padn (D.ns s) 4)) := by
  have hmk : ∀ W, (Instr.makeSlice 64 (.int .i64 4) (.int .i64 4)).run Tryd.prog W = .ok (.slice (some ⟨W.heap.size, 0, none⟩) 4 4) (W.alloc (.cells (pk [] 0 4) 5)) := make_run 4 (by decide)
  go_enter Tryd.func39, Tryd.ntmps39
  go_wp2
  clear hmk
  go_loopw [6] (fun i wr => ∃ k : Nat, k ≤ s.size ∧ k ≤ 4 ∧ i = .int .i64 k ∧ Blk wr w.heap.size 5 (pk (D.ns s) k 4) ∧ Below w.heap.size w wr) (fun i _ => s.size - (intOf i).toNat)
  case atStart => exact ⟨0, Nat.zero_le _, Nat.zero_le _, rfl, by rw [pk_first]; exact Blk.new w _ _, below_alloc_ _ _⟩
  case round =>
    obtain ⟨k, hk, hk2, rfl, B1, hbel⟩ := hrel
    by_cases hlt : k < s.size ∧ k < 4
    · obtain ⟨h1, h2⟩ := hlt
      have hb := ns_at h1
      obtain ⟨b, hq⟩ : ∃ b, s[k].toNat = b := ⟨_, rfl⟩
      rw [hq] at hb
      have hbn := B1.put k (.int .u8 b)
      rw [pk_next hb (by omega)] at hbn
      have hcs : ∃ v, wr.cell? ⟨w.heap.size, k, none⟩ = some v := by
        rw [B1.c]
        exact ⟨_, Array.getElem?_eq_getElem (by rw [pk_size]; omega)⟩
      obtain ⟨v0, hc⟩ := hcs
      have hf := B1.f k
      have i1 : (k : Int) < (s.size : Int) := by omega
      have i2 : (k : Int) < 4 := by omega
      clear hb B1
      go_wp2
      go_roundw
      case rel => exact ⟨k + 1, by omega, by omega, by go_num, hbn, hbel.setCell (Nat.le_refl _) _⟩
      case measure => simp [intOf]; omega
    · rw [pk_end (n := 4) (by rw [D.ns_len]; omega) (by rw [D.ns_len]; exact hk)] at B1
      have ho := own_of_blk B1 (Nat.le_refl _) (D.padn_len _ _) (by decide)
      clear B1
      by_cases h : k < s.size
      · have j1 : (k : Int) < (s.size : Int) := by omega
        have j2 : (4 : Int) ≤ (k : Int) := by omega
        clear hlt
        go_wp2
        go_ret
        exact made ho hbel
      · have j1 : (s.size : Int) ≤ (k : Int) := by omega
        clear hlt
        go_wp2
        go_ret
        exact made ho hbel
theorem drop_at {l : List Nat} {j x : Nat} (h : l[j]? = some x) : l.drop j = x :: l.drop (j + 1) := by
  obtain ⟨h1, h2⟩ := List.getElem?_eq_some_iff.1 h
  rw [List.drop_eq_getElem_cons h1, h2]
theorem dw_nil : ∀ {l : List Nat}, (∀ x ∈ l, x = 0) → List.dropWhile (fun x => x == 0) l = []
  | [], _ => rfl
  | x :: l, h => by
    rw [List.dropWhile_cons_of_pos (by have := h x (by simp); simp [this])]
    exact dw_nil fun y hy => h y (by simp [hy])
theorem front_at {l : List Nat} {k : Nat} (hk : k ≤ l.length) (hz : ∀ b ∈ l.drop k, b = 0) (hn : k = 0 ∨ ∃ b, l[k - 1]? = some b ∧ b ≠ 0) : D.front l = l.take k := by
  unfold D.front
  conv => lhs; rw [← List.take_append_drop k l]
  rw [List.reverse_append, List.dropWhile_append]
  have e : List.dropWhile (fun x => x == 0) (l.drop k).reverse = [] := by
    exact dw_nil fun x hx => hz x (List.mem_reverse.1 hx)
  rw [e]
  simp only [List.isEmpty_nil, if_true]
  have : List.dropWhile (fun x => x == 0) (l.take k).reverse = (l.take k).reverse := by
    rcases hn with rfl | ⟨b, hb, hb0⟩
    · simp
    · have h1 : 1 ≤ k := by
        rcases Nat.eq_zero_or_pos k with h | h
        · subst h
          by_cases hl : l.length = 0
          · have : l = [] := List.eq_nil_of_length_eq_zero hl
            subst this; simp at hb
          · have := hz b (by rw [List.drop_zero]; exact List.mem_of_getElem? hb)
            exact absurd this hb0
        · exact h
      have e : l.take k = l.take (k - 1) ++ [b] := by
        have := take_next hb
        rwa [show k - 1 + 1 = k by omega] at this
      rw [e, List.reverse_append]
      simp [hb0]
  rw [this, List.reverse_reverse]
set_option maxRecDepth 100000 in
set_option maxHeartbeats 1000000 in
theorem front_any (ad : Addr) (n c : Nat) (l : List Nat) (w : World) (hr : Row w (some ad) n (bys l)) (hl : ∀ b ∈ l, b < 256) (hc : n ≤ c) (hs : n ≤ 100) : Calls Tryd.prog 37 #[.slice (some ad) n c] w fun e w' => e = .returned (.string (D.sb (D.front l))) ∧ w = w' := by
  have hlen := hr.len
  rw [bys_len] at hlen
  go_enter Tryd.func37, Tryd.ntmps37
  go_wp2
  go_loop [3] (fun i => ∃ k : Nat, k ≤ n ∧ i = .int .i64 k ∧ Kept (∀ b ∈ l.drop k, b = 0)) (fun i => (intOf i).toNat)
  case atStart => exact ⟨n, Nat.le_refl _, rfl, ⟨by rw [List.drop_of_length_le (by omega)]; exact fun b h => by cases h⟩⟩
  case round =>
    obtain ⟨k, hk, rfl, HZ⟩ := hrel
    have HU := upto_run_b (some ad) n c k k rfl (by omega)
    obtain ⟨A1, hu, hrow⟩ := HU
    by_cases h0 : k = 0
    · have hf := front_at (l := l) (k := k) (by omega) HZ.out (.inl h0)
      have hst := fun W => str_run W A1 k c (l.take k)
      have hst2 := hst w (by have := hrow w _ hr (by omega); rwa [bys_take] at this) (fun b hb => hl b (List.mem_of_mem_take hb))
      rw [← hf] at hst2
      have i1 : ¬ ((0 : Int) < (k : Int)) := by omega
      have i2 : (k : Int) ≤ 0 := by omega
      clear hst hf hrow HZ h0
      go_wp2
      go_ret
      exact ⟨rfl, rfl⟩
    · obtain ⟨b, hb, hbm⟩ := at_lt (l := l) (i := k - 1) (by omega)
      obtain ⟨ad', e, cx⟩ := hr.cell (bys_at hb)
      injection e with e
      subst e
      have i1 : (0 : Int) < (k : Int) := by omega
      have i2 : ((k : Int) - 1) = ((k - 1 : Nat) : Int) := by omega
      have i3 : ((k : Int) - 1).toNat = k - 1 := by omega
      have i4 : IntKind.i64.wrap ((k : Int) - 1) = (k : Int) - 1 := IntWalk.i64_in _ (by omega)
      by_cases hb0 : b = 0
      · subst hb0
        have HZ' : Kept (∀ b ∈ l.drop (k - 1), b = 0) := ⟨fun b' hb' => by
          have := drop_at hb
          rw [show k - 1 + 1 = k by omega] at this
          rw [this] at hb'
          rcases List.mem_cons.1 hb' with rfl | h
          · rfl
          · exact HZ.out b' h⟩
        have HI2 := Lib.hid i2
        clear hb hrow HZ i2 hu
        go_wp2
        go_round
        case rel => exact ⟨k - 1, by omega, by rw [← HI2.out], HZ'⟩
        case measure => simp [intOf]; omega
      · have c1 : ((b : Int) == 0) = false := by rw [beq_eq_false_iff_ne]; omega
        have hf := front_at (l := l) (k := k) (by omega) HZ.out (.inr ⟨b, hb, hb0⟩)
        have hst2 := str_run w A1 k c (l.take k) (by have := hrow w _ hr (by omega); rwa [bys_take] at this) (fun b hb => hl b (List.mem_of_mem_take hb))
        rw [← hf] at hst2
        clear hf hrow HZ hb i2
        go_wp2
        go_ret
        exact ⟨rfl, rfl⟩
end Go.Proofs.YtgbnaammphilhaaDoor
