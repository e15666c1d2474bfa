/-
  The document's front.
  The document's bytes of a tag.
  The law's To of a tag.
  A tag's parts as rows.
-/
import Derived.Test.YtkhjnfplcaffnaaGl
import Derived.Test.YtkhjnfplcaffnaaDk
import Derived.Test.YtkhjnfplcaffnaaGm
import Derived.Laws.CopyOwn
import Derived.Deep.CutRange
set_option linter.unusedVariables false
set_option linter.unusedSimpArgs false
namespace Go.Proofs.Ytkhjnfplcaffnaa
open Go.RowKit
attribute [local go_sem ↓] Go.wp_at_zero Go.wp_at_succ

set_option maxRecDepth 100000 in
theorem make_run (z : Nat) (hz : z ≤ 8) : ∀ W, (Instr.makeSlice 94 (.int .i64 (z : Int)) (.int .i64 (z : Int))).run Try.prog W = .ok (.slice (some ⟨W.heap.size, 0, none⟩) z z) (W.alloc (.cells (pk [] 0 z) 5)) := by
  intro W
  obtain ⟨i, hi, hz0, hz1, hz2⟩ := info_parts u8_info
  have hr := run_make (P := Try.prog) W 94 5 i _ Try.underlying94 hi hz0 .i64 .i64 z z (by omega) (Int.le_refl _) (by rw [hz2]; omega) (by omega)
  simp only [Int.toNat_natCast] at hr
  rw [hr, hz1, Nat.mul_one]
  congr 3
  apply Array.ext'
  have := toList_madeCells_one (.int .u8 0) z
  rw [show (Value.int IntKind.u8 0).cells = #[.int .u8 0] by rfl, this]
  simp [pk, bys, D.padn]
theorem own_of_blk {base : Nat} {w : World} {g z : Nat} {l : List Nat} (h : Blk w g 5 (bys l).toArray) (hg : base ≤ g) (hl : l.length = z) (hz : z ≤ 1000000) : Own base w (some ⟨g, 0, none⟩) z z l :=
  ⟨⟨by rw [bys_len, hl, Nat.mul_one], .inr ⟨g, z, _, rfl, hg, h.out, Nat.le_refl _, by simp only [maxLen]; omega, by simp [bys_len, hl], by
    rw [Nat.mul_one]
    show (bys l).take z = bys l
    exact List.take_of_length_le (by rw [bys_len, hl]; exact Nat.le_refl _)⟩⟩, Nat.le_trans hg (Nat.le_of_lt h.lt)⟩
set_option maxRecDepth 100000 in
set_option maxHeartbeats 1000000 in
theorem pad_3 (s : ByteArray) (w : World) (hs : s.size ≤ 100) : Calls Try.prog 67 #[.string s, .int .i64 3] w (Made w (D.padn (D.ns s) 3)) := by
  have hmk : ∀ W, (Instr.makeSlice 94 (.int .i64 3) (.int .i64 3)).run Try.prog W = .ok (.slice (some ⟨W.heap.size, 0, none⟩) 3 3) (W.alloc (.cells (pk [] 0 3) 5)) := make_run 3 (by decide)
  go_enter Try.func67, Try.ntmps67
  go_wp2
  clear hmk
  go_loopw [6] (fun i wr => ∃ k : Nat, k ≤ s.size ∧ k ≤ 3 ∧ i = .int .i64 k ∧ Blk wr w.heap.size 5 (pk (D.ns s) k 3) ∧ Below w.heap.size w wr) (fun i _ => s.size - (intOf i).toNat)
  case atStart => exact ⟨0, Nat.zero_le _, Nat.zero_le _, rfl, by rw [pk_first]; exact Blk.new w _ _, below_alloc_ _ _⟩
  case round =>
    obtain ⟨k, hk, hk2, rfl, B1, hbel⟩ := hrel
    by_cases hlt : k < s.size ∧ k < 3
    · obtain ⟨h1, h2⟩ := hlt
      have hb := ns_at h1
      obtain ⟨b, hq⟩ : ∃ b, s[k].toNat = b := ⟨_, rfl⟩
      rw [hq] at hb
      have hbn := B1.put k (.int .u8 b)
      rw [pk_next hb (by omega)] at hbn
      have hcs : ∃ v, wr.cell? ⟨w.heap.size, k, none⟩ = some v := by
        rw [B1.c]
        exact ⟨_, Array.getElem?_eq_getElem (by rw [pk_size]; omega)⟩
      obtain ⟨v0, hc⟩ := hcs
      have hf := B1.f k
      have i1 : (k : Int) < (s.size : Int) := by omega
      have i2 : (k : Int) < 3 := by omega
      clear hb B1
      go_wp2
      go_roundw
      case rel => exact ⟨k + 1, by omega, by omega, by go_num, hbn, hbel.setCell (Nat.le_refl _) _⟩
      case measure => simp [intOf]; omega
    · rw [pk_end (n := 3) (by rw [D.ns_len]; omega) (by rw [D.ns_len]; exact hk)] at B1
      have ho := own_of_blk B1 (Nat.le_refl _) (D.padn_len _ _) (by decide)
      clear B1
      by_cases h : k < s.size
      · have j1 : (k : Int) < (s.size : Int) := by omega
        have j2 : (3 : Int) ≤ (k : Int) := by omega
        clear hlt
        go_wp2
        go_ret
        exact made ho hbel
      · have j1 : (s.size : Int) ≤ (k : Int) := by omega
        clear hlt
        go_wp2
        go_ret
        exact made ho hbel
set_option maxRecDepth 100000 in
set_option maxHeartbeats 1000000 in
theorem pad_4 (s : ByteArray) (w : World) (hs : s.size ≤ 100) : Calls Try.prog 67 #[.string s, .int .i64 4] w (Made w (D.padn (D.ns s) 4)) := by
  have hmk : ∀ W, (Instr.makeSlice 94 (.int .i64 4) (.int .i64 4)).run Try.prog W = .ok (.slice (some ⟨W.heap.size, 0, none⟩) 4 4) (W.alloc (.cells (pk [] 0 4) 5)) := make_run 4 (by decide)
  go_enter Try.func67, Try.ntmps67
  go_wp2
  clear hmk
  go_loopw [6] (fun i wr => ∃ k : Nat, k ≤ s.size ∧ k ≤ 4 ∧ i = .int .i64 k ∧ Blk wr w.heap.size 5 (pk (D.ns s) k 4) ∧ Below w.heap.size w wr) (fun i _ => s.size - (intOf i).toNat)
  case atStart => exact ⟨0, Nat.zero_le _, Nat.zero_le _, rfl, by rw [pk_first]; exact Blk.new w _ _, below_alloc_ _ _⟩
  case round =>
    obtain ⟨k, hk, hk2, rfl, B1, hbel⟩ := hrel
    by_cases hlt : k < s.size ∧ k < 4
    · obtain ⟨h1, h2⟩ := hlt
      have hb := ns_at h1
      obtain ⟨b, hq⟩ : ∃ b, s[k].toNat = b := ⟨_, rfl⟩
      rw [hq] at hb
      have hbn := B1.put k (.int .u8 b)
      rw [pk_next hb (by omega)] at hbn
      have hcs : ∃ v, wr.cell? ⟨w.heap.size, k, none⟩ = some v := by
        rw [B1.c]
        exact ⟨_, Array.getElem?_eq_getElem (by rw [pk_size]; omega)⟩
      obtain ⟨v0, hc⟩ := hcs
      have hf := B1.f k
      have i1 : (k : Int) < (s.size : Int) := by omega
      have i2 : (k : Int) < 4 := by omega
      clear hb B1
      go_wp2
      go_roundw
      case rel => exact ⟨k + 1, by omega, by omega, by go_num, hbn, hbel.setCell (Nat.le_refl _) _⟩
      case measure => simp [intOf]; omega
    · rw [pk_end (n := 4) (by rw [D.ns_len]; omega) (by rw [D.ns_len]; exact hk)] at B1
      have ho := own_of_blk B1 (Nat.le_refl _) (D.padn_len _ _) (by decide)
      clear B1
      by_cases h : k < s.size
      · have j1 : (k : Int) < (s.size : Int) := by omega
        have j2 : (4 : Int) ≤ (k : Int) := by omega
        clear hlt
        go_wp2
        go_ret
        exact made ho hbel
      · have j1 : (s.size : Int) ≤ (k : Int) := by omega
        clear hlt
        go_wp2
        go_ret
        exact made ho hbel
theorem drop_at {l : List Nat} {j x : Nat} (h : l[j]? = some x) : l.drop j = x :: l.drop (j + 1) := by
  obtain ⟨h1, h2⟩ := List.getElem?_eq_some_iff.1 h
  rw [List.drop_eq_getElem_cons h1, h2]
theorem dw_nil : ∀ {l : List Nat}, (∀ x ∈ l, x = 0) → List.dropWhile (fun x => x == 0) l = []
  | [], _ => rfl
  | x :: l, h => by
    rw [List.dropWhile_cons_of_pos (by have := h x (by simp); simp [this])]
    exact dw_nil fun y hy => h y (by simp [hy])
theorem front_at {l : List Nat} {k : Nat} (hk : k ≤ l.length) (hz : ∀ b ∈ l.drop k, b = 0) (hn : k = 0 ∨ ∃ b, l[k - 1]? = some b ∧ b ≠ 0) : D.front l = l.take k := by
  unfold D.front
  conv => lhs; rw [← List.take_append_drop k l]
  rw [List.reverse_append, List.dropWhile_append]
  have e : List.dropWhile (fun x => x == 0) (l.drop k).reverse = [] := by
    exact dw_nil fun x hx => hz x (List.mem_reverse.1 hx)
  rw [e]
  simp only [List.isEmpty_nil, if_true]
  have : List.dropWhile (fun x => x == 0) (l.take k).reverse = (l.take k).reverse := by
    rcases hn with rfl | ⟨b, hb, hb0⟩
    · simp
    · have h1 : 1 ≤ k := by
        rcases Nat.eq_zero_or_pos k with h | h
        · subst h
          by_cases hl : l.length = 0
          · have : l = [] := List.eq_nil_of_length_eq_zero hl
            subst this; simp at hb
          · have := hz b (by rw [List.drop_zero]; exact List.mem_of_getElem? hb)
            exact absurd this hb0
        · exact h
      have e : l.take k = l.take (k - 1) ++ [b] := by
        have := take_next hb
        rwa [show k - 1 + 1 = k by omega] at this
      rw [e, List.reverse_append]
      simp [hb0]
  rw [this, List.reverse_reverse]
set_option maxRecDepth 100000 in
set_option maxHeartbeats 1000000 in
theorem front_any (ad : Addr) (n c : Nat) (l : List Nat) (w : World) (hr : Row w (some ad) n (bys l)) (hl : ∀ b ∈ l, b < 256) (hc : n ≤ c) (hs : n ≤ 100) : Calls Try.prog 58 #[.slice (some ad) n c] w fun e w' => e = .returned (.string (D.sb (D.front l))) ∧ w = w' := by
  have hlen := hr.len
  rw [bys_len] at hlen
  go_enter Try.func58, Try.ntmps58
  go_wp2
  go_loop [3] (fun i => ∃ k : Nat, k ≤ n ∧ i = .int .i64 k ∧ Kept (∀ b ∈ l.drop k, b = 0)) (fun i => (intOf i).toNat)
  case atStart => exact ⟨n, Nat.le_refl _, rfl, ⟨by rw [List.drop_of_length_le (by omega)]; exact fun b h => by cases h⟩⟩
  case round =>
    obtain ⟨k, hk, rfl, HZ⟩ := hrel
    have HU := upto_run_b (some ad) n c k k rfl (by omega)
    obtain ⟨A1, hu, hrow⟩ := HU
    by_cases h0 : k = 0
    · have hf := front_at (l := l) (k := k) (by omega) HZ.out (.inl h0)
      have hst := fun W => str_run W A1 k c (l.take k)
      have hst2 := hst w (by have := hrow w _ hr (by omega); rwa [bys_take] at this) (fun b hb => hl b (List.mem_of_mem_take hb))
      rw [← hf] at hst2
      have i1 : ¬ ((0 : Int) < (k : Int)) := by omega
      have i2 : (k : Int) ≤ 0 := by omega
      clear hst hf hrow HZ h0
      go_wp2
      go_ret
      exact ⟨rfl, rfl⟩
    · obtain ⟨b, hb, hbm⟩ := at_lt (l := l) (i := k - 1) (by omega)
      obtain ⟨ad', e, cx⟩ := hr.cell (bys_at hb)
      injection e with e
      subst e
      have i1 : (0 : Int) < (k : Int) := by omega
      have i2 : ((k : Int) - 1) = ((k - 1 : Nat) : Int) := by omega
      have i3 : ((k : Int) - 1).toNat = k - 1 := by omega
      have i4 : IntKind.i64.wrap ((k : Int) - 1) = (k : Int) - 1 := IntWalk.i64_in _ (by omega)
      by_cases hb0 : b = 0
      · subst hb0
        have HZ' : Kept (∀ b ∈ l.drop (k - 1), b = 0) := ⟨fun b' hb' => by
          have := drop_at hb
          rw [show k - 1 + 1 = k by omega] at this
          rw [this] at hb'
          rcases List.mem_cons.1 hb' with rfl | h
          · rfl
          · exact HZ.out b' h⟩
        have HI2 := Lib.hid i2
        clear hb hrow HZ i2 hu
        go_wp2
        go_round
        case rel => exact ⟨k - 1, by omega, by rw [← HI2.out], HZ'⟩
        case measure => simp [intOf]; omega
      · have c1 : ((b : Int) == 0) = false := by rw [beq_eq_false_iff_ne]; omega
        have hf := front_at (l := l) (k := k) (by omega) HZ.out (.inr ⟨b, hb, hb0⟩)
        have hst2 := str_run w A1 k c (l.take k) (by have := hrow w _ hr (by omega); rwa [bys_take] at this) (fun b hb => hl b (List.mem_of_mem_take hb))
        rw [← hf] at hst2
        clear hf hrow HZ hb i2
        go_wp2
        go_ret
        exact ⟨rfl, rfl⟩
end Go.Proofs.Ytkhjnfplcaffnaa
set_option linter.unusedVariables false
set_option linter.unusedSimpArgs false
namespace Go.Proofs.Ytkhjnfplcaffnaa
open Go.RowKit
attribute [local go_sem ↓] Go.wp_at_zero Go.wp_at_succ ld_a ld_n st_a st_n eq_a eq_n ne_a ne_n lv_a lv_n lp_3 lp_4
attribute [local go_sem] run_ld_a run_ld_n run_sw_a run_sw_n run_eq_a run_eq_n run_ne_a run_ne_n run_lv_a run_lv_n st_z ne_z rd_new rd_old rd_drew rd_drewN rd_set tn_new tn_old tn_drew tn_drewN setRow_alloc run_lp_3 run_lp_4

theorem pad3 (s : ByteArray) (w : World) (hs : s.size ≤ 100) : Calls Try.prog 67 #[.string s, .int .i64 3] w fun e w' => ∃ A c, e = .returned (.slice A 3 c) ∧ Own w.heap.size w' A 3 c (D.padn (D.ns s) 3) ∧ Below w.heap.size w w' :=
  (pad_3 s w hs).mono fun e w' ⟨A, c, he, ho, hb⟩ => by rw [D.padn_len] at he ho; exact ⟨A, c, he, ho, hb⟩
theorem pad4 (s : ByteArray) (w : World) (hs : s.size ≤ 100) : Calls Try.prog 67 #[.string s, .int .i64 4] w fun e w' => ∃ A c, e = .returned (.slice A 4 c) ∧ Own w.heap.size w' A 4 c (D.padn (D.ns s) 4) ∧ Below w.heap.size w w' :=
  (pad_4 s w hs).mono fun e w' ⟨A, c, he, ho, hb⟩ => by rw [D.padn_len] at he ho; exact ⟨A, c, he, ho, hb⟩
set_option maxRecDepth 100000 in
set_option maxHeartbeats 2000000 in
theorem ref_bytes (a b c : ByteArray) (w : World) (ha : a.size ≤ 100) (hb : b.size ≤ 100) (hc : c.size ≤ 100) :
    Calls Try.prog 61 #[.agg #[.string a, .string b, .string c]] w fun e w' => e = .returned (.agg (nc (D.tb ⟨D.ns a, D.ns b, D.ns c⟩))) ∧ Below w.heap.size w w' := by
  have cA := Lib.hid (fun W => pad3 a W ha)
  have cB := Lib.hid (fun W => pad4 b W hb)
  have cC := Lib.hid (fun W => pad3 c W hc)
  have HT := Lib.hid (tbl_tb a b c)
  obtain ⟨x, hx⟩ : ∃ x, D.tb ⟨D.ns a, D.ns b, D.ns c⟩ = x := ⟨_, rfl⟩
  rw [hx] at HT ⊢
  clear hx ha hb hc
  obtain ⟨w0, hw0⟩ : ∃ w0, ((w.alloc (.cells #[.string a, .string b, .string c] 110)).alloc (.cells #[.int .u8 0, .int .u8 0, .int .u8 0, .int .u8 0, .int .u8 0, .int .u8 0, .int .u8 0, .int .u8 0, .int .u8 0, .int .u8 0] 38)).alloc (.cells #[.int .u8 0, .int .u8 0, .int .u8 0, .int .u8 0, .int .u8 0, .int .u8 0, .int .u8 0, .int .u8 0, .int .u8 0, .int .u8 0] 38) = w0 := ⟨_, rfl⟩
  have B0 := ((Blk.new w 110 #[.string a, .string b, .string c]).alloc (.cells z10 38)).alloc (.cells z10 38)
  have T2 : tn w0 (w.heap.size + 1) = true := by
    have := (Blk.new (w.alloc (.cells #[.string a, .string b, .string c] 110)) 38 z10).alloc (.cells z10 38)
    rw [World.size_alloc, hw0] at this
    exact tn_of this rfl
  have B3 : Blk w0 (w.heap.size + 2) 38 (pk x.l 0 10) := by
    have := Blk.new ((w.alloc (.cells #[.string a, .string b, .string c] 110)).alloc (.cells z10 38)) 38 z10
    rw [World.size_alloc, World.size_alloc, hw0] at this
    exact this
  rw [hw0] at B0
  have h0 : w0.cell? ⟨w.heap.size, 0, none⟩ = some (.string a) := (B0.c 0).trans rfl
  have h1 : w0.cell? ⟨w.heap.size, 1, none⟩ = some (.string b) := (B0.c 1).trans rfl
  have h2 : w0.cell? ⟨w.heap.size, 2, none⟩ = some (.string c) := (B0.c 2).trans rfl
  have hb0 : Below w.heap.size w w0 := by rw [← hw0]; exact (((Below.refl _ _).alloc (Nat.le_refl _) _).alloc (by simp) _).alloc (by simp; omega) _
  have hz : w.heap.size + 3 ≤ w0.heap.size := by rw [← hw0]; simp
  clear B0
  go_enter Try.func61, Try.ntmps61
  go_wp2_with fail
  try rw [hw0]
  clear hw0
  refine wp_region_noPanic ?_
  refine wp_region_held_drew (S := fun W => Below w0.heap.size w0 W) (by kernel_rfl) (Below.refl _ _).drew (fun _ => ?_)
  refine takeS 0 (some 6) ?va0 (by kernel_rfl) (by kernel_rfl) (by kernel_rfl) (by kernel_rfl) (fun _ _ _ h => h) (by rfl) ?hya0 (Below.refl _ _).drew ?resta0
  case hya0 => (intro o ho W hW; simp only [List.getElem?_toArray, List.getElem?_cons_succ, List.getElem?_cons_zero, Option.some.injEq] at ho; subst ho; (try dsimp only at hW); have g := cell_keep hW h0; go_simp; try rfl)
  try simp only [Act.put, List.setIfInBounds_toArray, List.set_cons_zero, List.set_cons_succ]
  refine takeS 1 (some 7) ?va1 (by kernel_rfl) (by kernel_rfl) (by kernel_rfl) (by kernel_rfl) (fun _ _ _ h => h) (by rfl) ?hya1 (Below.refl _ _).drew ?resta1
  case hya1 => (intro o ho W hW; simp only [List.getElem?_toArray, List.getElem?_cons_succ, List.getElem?_cons_zero, Option.some.injEq] at ho; subst ho; (try dsimp only at hW); have g := cell_keep hW h0; go_simp; try rfl)
  try simp only [Act.put, List.setIfInBounds_toArray, List.set_cons_zero, List.set_cons_succ]
  refine takeS 3 (some 9) ?va3 (by kernel_rfl) (by kernel_rfl) (by kernel_rfl) (by kernel_rfl) (fun _ _ _ h => h) (by rfl) ?hya3 (Below.refl _ _).drew ?resta3
  case hya3 => (intro o ho W hW; simp only [List.getElem?_toArray, List.getElem?_cons_succ, List.getElem?_cons_zero, Option.some.injEq] at ho; subst ho; (try dsimp only at hW); have g := cell_keep hW h1; go_simp; try rfl)
  try simp only [Act.put, List.setIfInBounds_toArray, List.set_cons_zero, List.set_cons_succ]
  refine takeS 4 (some 10) ?va4 (by kernel_rfl) (by kernel_rfl) (by kernel_rfl) (by kernel_rfl) (fun _ _ _ h => h) (by rfl) ?hya4 (Below.refl _ _).drew ?resta4
  case hya4 => (intro o ho W hW; simp only [List.getElem?_toArray, List.getElem?_cons_succ, List.getElem?_cons_zero, Option.some.injEq] at ho; subst ho; (try dsimp only at hW); have g := cell_keep hW h1; go_simp; try rfl)
  try simp only [Act.put, List.setIfInBounds_toArray, List.set_cons_zero, List.set_cons_succ]
  refine takeS 7 (some 13) ?va7 (by kernel_rfl) (by kernel_rfl) (by kernel_rfl) (by kernel_rfl) (fun _ _ _ h => h) (by rfl) ?hya7 (Below.refl _ _).drew ?resta7
  case hya7 => (intro o ho W hW; simp only [List.getElem?_toArray, List.getElem?_cons_succ, List.getElem?_cons_zero, Option.some.injEq] at ho; subst ho; (try dsimp only at hW); have g := cell_keep hW h2; go_simp; try rfl)
  try simp only [Act.put, List.setIfInBounds_toArray, List.set_cons_zero, List.set_cons_succ]
  refine takeS 8 (some 14) ?va8 (by kernel_rfl) (by kernel_rfl) (by kernel_rfl) (by kernel_rfl) (fun _ _ _ h => h) (by rfl) ?hya8 (Below.refl _ _).drew ?resta8
  case hya8 => (intro o ho W hW; simp only [List.getElem?_toArray, List.getElem?_cons_succ, List.getElem?_cons_zero, Option.some.injEq] at ho; subst ho; (try dsimp only at hW); have g := cell_keep hW h2; go_simp; try rfl)
  try simp only [Act.put, List.setIfInBounds_toArray, List.set_cons_zero, List.set_cons_succ]
  refine nextS 2 (by kernel_rfl) (by rfl) (fun o ho K hK => ?_)
  simp only [List.getElem?_toArray, List.getElem?_cons_succ, List.getElem?_cons_zero, Option.some.injEq] at ho; subst ho
  go_simp
  (go_at_call 67; (with_reducible refine (cA.out _).mono ?_); rintro e w1 ⟨A1, c1, rfl, ho1, hb1⟩)
  have s1 : Below w0.heap.size w0 w1 := below_on (Below.refl _ _).drew (Nat.le_refl _) hb1
  refine hK.out _ _ s1 (fun _ => ?_)
  clear hK K
  try simp only [Act.put, List.setIfInBounds_toArray, List.set_cons_zero, List.set_cons_succ]
  refine nextS 5 (by kernel_rfl) (by rfl) (fun o ho K hK => ?_)
  simp only [List.getElem?_toArray, List.getElem?_cons_succ, List.getElem?_cons_zero, Option.some.injEq] at ho; subst ho
  go_simp
  (go_at_call 67; (with_reducible refine (cB.out _).mono ?_); rintro e w2 ⟨A2, c2, rfl, ho2, hb2⟩)
  have s2 : Below w0.heap.size w0 w2 := below_on s1 s1.size hb2
  refine hK.out _ _ s2 (fun _ => ?_)
  clear hK K
  try simp only [Act.put, List.setIfInBounds_toArray, List.set_cons_zero, List.set_cons_succ]
  refine nextS 6 (by kernel_rfl) (by rfl) (fun o ho K hK => ?_)
  simp only [List.getElem?_toArray, List.getElem?_cons_succ, List.getElem?_cons_zero, Option.some.injEq] at ho; subst ho
  refine wp_app _ (.tmp 8) (.tmp 11) (by rfl) (by rfl) (ho1.more hb2) (by rfl) ho2.to_row (by omega) ?_
  intro A3 c3 w3 ho3 hg3
  have s3 : Below w0.heap.size w0 w3 := below_app s2 s2.size (ho1.more hb2) (Nat.le_refl _) hg3
  refine hK.out _ _ s3 (fun _ => ?_)
  clear hK K
  try simp only [Act.put, List.setIfInBounds_toArray, List.set_cons_zero, List.set_cons_succ]
  refine nextS 9 (by kernel_rfl) (by rfl) (fun o ho K hK => ?_)
  simp only [List.getElem?_toArray, List.getElem?_cons_succ, List.getElem?_cons_zero, Option.some.injEq] at ho; subst ho
  go_simp
  (go_at_call 67; (with_reducible refine (cC.out _).mono ?_); rintro e w4 ⟨A4, c4, rfl, ho4, hb4⟩)
  have s4 : Below w0.heap.size w0 w4 := below_on s3 s3.size hb4
  refine hK.out _ _ s4 (fun _ => ?_)
  clear hK K
  try simp only [Act.put, List.setIfInBounds_toArray, List.set_cons_zero, List.set_cons_succ]
  refine nextS 10 (by kernel_rfl) (by rfl) (fun o ho K hK => ?_)
  simp only [List.getElem?_toArray, List.getElem?_cons_succ, List.getElem?_cons_zero, Option.some.injEq] at ho; subst ho
  refine wp_app _ (.tmp 12) (.tmp 15) (by rfl) (by rfl) (ho3.more hb4) (by rfl) ho4.to_row (by omega) ?_
  intro A5 c5 w5 ho5 hg5
  have s5 : Below w0.heap.size w0 w5 := below_app s4 s4.size (ho3.more hb4) (Nat.le_refl _) hg5
  refine hK.out _ _ s5 (fun _ => ?_)
  clear hK K
  try simp only [Act.put, List.setIfInBounds_toArray, List.set_cons_zero, List.set_cons_succ]
  refine takeS 11 (some 4) ?vb11 (by kernel_rfl) (by kernel_rfl) (by kernel_rfl) (by kernel_rfl) (fun _ _ _ h => h) (by rfl) ?hyb11 s5 ?restb11
  case hyb11 => (intro o ho W hW; simp only [List.getElem?_toArray, List.getElem?_cons_succ, List.getElem?_cons_zero, Option.some.injEq] at ho; subst ho; (try dsimp only at hW); skip; go_simp; try rfl)
  try simp only [Act.put, List.setIfInBounds_toArray, List.set_cons_zero, List.set_cons_succ]
  refine wpAnyH_done (by kernel_rfl) ?_ _
  refine NoPanic.normal ?_
  have hO : Own w0.heap.size w5 A5 10 c5 x.l := by rw [HT.out]; exact ho5
  have b5 := below_on hb0 (by omega) s5
  have t5 := tn_on T2 s5
  have B5 := B3.on s5
  have hz5 : w.heap.size + 3 ≤ w5.heap.size := Nat.le_trans hz s5.size
  clear ho5 hg5 ho4 hb4 hg3 ho3 ho2 hb2 ho1 hb1 s1 s2 s3 s4 s5 B3 T2 h0 h1 h2 hb0
  go_wp2
  go_loopw [5] (fun i wr => ∃ k : Nat, k ≤ 10 ∧ i = .int .i64 k ∧ Own w0.heap.size wr A5 10 c5 x.l ∧ Blk wr (w.heap.size + 2) 38 (pk x.l k 10) ∧ tn wr (w.heap.size + 1) = true ∧ Below w.heap.size w wr) (fun i _ => 10 - (intOf i).toNat)
  case atStart => exact ⟨0, Nat.zero_le _, rfl, hO, B5, t5, b5⟩
  case round =>
    clear hO B5 t5 b5 hz5
    obtain ⟨k, hk, rfl, hO, B5, t5, b5⟩ := hrel
    by_cases hlt : k < 10
    · obtain ⟨b', hb, hbm⟩ := at_lt (l := x.l) (i := k) (by rw [x.len]; exact hlt)
      obtain ⟨ad, e, cx⟩ := hO.to_row.cell (bys_at hb)
      subst e
      have hbn := B5.put k (.int .u8 b')
      rw [pk_next hb hlt] at hbn
      have hcs : ∃ v, wr.cell? ⟨w.heap.size + 2, k, none⟩ = some v := by
        rw [B5.c]
        exact ⟨_, Array.getElem?_eq_getElem (by rw [pk_size]; omega)⟩
      obtain ⟨v0, hc⟩ := hcs
      have hf := B5.f k
      have hO2 := hO.far (p := ⟨w.heap.size + 2, k, none⟩) (by show w.heap.size + 2 < w0.heap.size; omega) (.int .u8 b')
      have hne : tn (wr.setCell ⟨w.heap.size + 2, k, none⟩ (.int .u8 b')) (w.heap.size + 1) = true := (tn_to (Below.heap_setCell _ _ _ _ (by simp))).trans t5
      have i2 : (k : Int) < 10 := by omega
      clear hb B5 hO t5
      go_wp2
      go_roundw
      case rel => exact ⟨k + 1, by omega, by go_num, hO2, hbn, hne, b5.setCell (Nat.le_add_right w.heap.size 2) _⟩
      case measure => simp [intOf]; omega
    · obtain rfl : k = 10 := by omega
      rw [pk_nc] at B5
      have hx := rd_blk B5
      have hset := rd_set wr (w.heap.size + 1) x t5
      have b6 := below_setRow b5 (Nat.le_succ _) (nc x)
      clear B5 hO hlt
      go_wp2
      refine bodyPost_ret (v := .agg (nc x)) (by rw [results_cell1 rfl]; simp [asAddr, Result.andThen, lv_of_a hset]) rfl ⟨rfl, b6⟩
end Go.Proofs.Ytkhjnfplcaffnaa
set_option linter.unusedVariables false
set_option linter.unusedSimpArgs false
namespace Go.Proofs.Ytkhjnfplcaffnaa
open Go.RowKit
attribute [local go_sem ↓] Go.wp_at_zero Go.wp_at_succ ld_a ld_n st_a st_n eq_a eq_n ne_a ne_n lv_a lv_n lp_3 lp_4
attribute [local go_sem] run_ld_a run_ld_n run_sw_a run_sw_n run_eq_a run_eq_n run_ne_a run_ne_n run_lv_a run_lv_n st_z ne_z rd_new rd_old rd_drew rd_drewN rd_set tn_new tn_old tn_drew tn_drewN setRow_alloc run_lp_3 run_lp_4

set_option maxRecDepth 100000 in
set_option maxHeartbeats 2000000 in
theorem to_any (a b c : ByteArray) (w : World) (ha : a.size ≤ 100) (hb : b.size ≤ 100) (hc : c.size ≤ 100) :
    Calls Try.prog 47 #[.agg #[.string a, .string b, .string c]] w fun e w' => e = .returned (.agg (nc (D.tb ⟨D.ns a, D.ns b, D.ns c⟩))) ∧ Below w.heap.size w w' := by
  have cA := Lib.hid (fun W => ref_bytes a b c W ha hb hc)
  obtain ⟨x, hx⟩ : ∃ x, D.tb ⟨D.ns a, D.ns b, D.ns c⟩ = x := ⟨_, rfl⟩
  rw [hx] at cA ⊢
  clear hx ha hb hc
  go_enter Try.func47, Try.ntmps47
  go_wp2_with (go_at_call 61; (with_reducible refine (cA.out _).mono ?_); rintro e w1 ⟨rfl, hb1⟩)
  have hz : w.heap.size + 2 ≤ w1.heap.size := by have := hb1.size; simp at this; omega
  have T1 : tn w1 (w.heap.size + 1) = true := by
    have := tn_of (Blk.new (w.alloc (.cells #[.string a, .string b, .string c] 110)) 28 z10) rfl
    rw [World.size_alloc] at this
    exact tn_on this hb1
  have b1 : Below w.heap.size w w1 := (((Below.refl _ _).alloc (Nat.le_refl _) _).alloc (by simp) _).trans (hb1.mono (by simp; omega))
  go_loopw [5] (fun i wr => ∃ k : Nat, k ≤ 10 ∧ i = .int .i64 k ∧ Blk wr w1.heap.size 38 (nc x) ∧ Blk wr (w1.heap.size + 1) 28 (pk x.l k 10) ∧ tn wr (w.heap.size + 1) = true ∧ Below w.heap.size w wr) (fun i _ => 10 - (intOf i).toNat)
  case atStart =>
    refine ⟨0, Nat.zero_le _, rfl, (Blk.new _ _ _).alloc _, ?_, ?_, (b1.alloc (by omega) _).alloc (by simp; omega) _⟩
    · have := Blk.new (w1.alloc (.cells (nc x) 38)) 28 z10
      rw [World.size_alloc] at this
      exact this
    · rw [tn_old _ _ _ (by simp; omega), tn_old _ _ _ (by omega)]; exact T1
  case round =>
    clear T1 b1
    obtain ⟨k, hk, rfl, BS, BD, t5, b5⟩ := hrel
    rcases (show k < 3 ∨ (3 ≤ k ∧ k < 7) ∨ (7 ≤ k ∧ k < 10) ∨ k = 10 by omega) with h | ⟨h1, h2⟩ | ⟨h1, h2⟩ | h
    · obtain ⟨b', hb⟩ := tg_at x (k := k) (by omega)
      have cx := blk_at BS hb
      obtain ⟨⟨v0, hc⟩, hf, hbn⟩ := put_one BD hb (by omega)
      have hsrc := BS.far (p := ⟨w1.heap.size + 1, k, none⟩) (by show w1.heap.size ≠ w1.heap.size + 1; omega) (.int .u8 b')
      have hne : tn (wr.setCell ⟨w1.heap.size + 1, k, none⟩ (.int .u8 b')) (w.heap.size + 1) = true := (tn_to (Below.heap_setCell _ _ _ _ (by show w.heap.size + 1 ≠ w1.heap.size + 1; omega))).trans t5
      have i5 : (k : Int) < 3 := by omega
      have i8 : (k : Int) < 10 := by omega
      clear hb BS BD t5
      go_wp2
      go_roundw
      case rel => exact ⟨k + 1, by omega, by go_num, hsrc, hbn, hne, b5.setCell (by show w.heap.size ≤ w1.heap.size + 1; omega) _⟩
      case measure => simp [intOf]; omega
    · obtain ⟨j, rfl⟩ : ∃ j, k = j + 3 := ⟨k - 3, by omega⟩
      obtain ⟨b', hb⟩ := tg_at x (k := j + 3) (by omega)
      have cx := blk_at BS hb
      obtain ⟨⟨v0, hc⟩, hf, hbn⟩ := put_one BD hb (by omega)
      have hsrc := BS.far (p := ⟨w1.heap.size + 1, j + 3, none⟩) (by show w1.heap.size ≠ w1.heap.size + 1; omega) (.int .u8 b')
      have hne : tn (wr.setCell ⟨w1.heap.size + 1, j + 3, none⟩ (.int .u8 b')) (w.heap.size + 1) = true := (tn_to (Below.heap_setCell _ _ _ _ (by show w.heap.size + 1 ≠ w1.heap.size + 1; omega))).trans t5
      rw [Nat.add_comm j 3] at hc hf hsrc hne
      have hbn' : Blk (wr.setCell ⟨w1.heap.size + 1, 3 + j, none⟩ (.int .u8 b')) (w1.heap.size + 1) 28 (pk x.l (j + 3 + 1) 10) := by rw [Nat.add_comm 3 j]; exact hbn
      clear hbn
      have i0 : ((j : Int) + 3) - 3 = (j : Int) := by omega
      have i3 : IntKind.i64.wrap (((j : Int) + 3) - 3) = (j : Int) := by rw [i0]; exact IntWalk.i64_in _ (by omega)
      have i5 : ¬ ((j : Int) + 3 < 3) := by omega
      have i6 : (j : Int) + 3 < 7 := by omega
      have i7 : (j : Int) < 4 := by omega
      have i8 : (j : Int) + 3 < 10 := by omega
      clear hb BS BD t5
      go_wp2
      go_roundw
      case rel => exact ⟨j + 3 + 1, by omega, by go_num, hsrc, hbn', hne, b5.setCell (by show w.heap.size ≤ w1.heap.size + 1; omega) _⟩
      case measure => simp [intOf]; omega
    · obtain ⟨j, rfl⟩ : ∃ j, k = j + 7 := ⟨k - 7, by omega⟩
      obtain ⟨b', hb⟩ := tg_at x (k := j + 7) (by omega)
      have cx := blk_at BS hb
      obtain ⟨⟨v0, hc⟩, hf, hbn⟩ := put_one BD hb (by omega)
      have hsrc := BS.far (p := ⟨w1.heap.size + 1, j + 7, none⟩) (by show w1.heap.size ≠ w1.heap.size + 1; omega) (.int .u8 b')
      have hne : tn (wr.setCell ⟨w1.heap.size + 1, j + 7, none⟩ (.int .u8 b')) (w.heap.size + 1) = true := (tn_to (Below.heap_setCell _ _ _ _ (by show w.heap.size + 1 ≠ w1.heap.size + 1; omega))).trans t5
      rw [Nat.add_comm j 7] at hc hf hsrc hne
      have hbn' : Blk (wr.setCell ⟨w1.heap.size + 1, 7 + j, none⟩ (.int .u8 b')) (w1.heap.size + 1) 28 (pk x.l (j + 7 + 1) 10) := by rw [Nat.add_comm 7 j]; exact hbn
      clear hbn
      have i0 : ((j : Int) + 7) - 7 = (j : Int) := by omega
      have i3 : IntKind.i64.wrap (((j : Int) + 7) - 7) = (j : Int) := by rw [i0]; exact IntWalk.i64_in _ (by omega)
      have i5 : ¬ ((j : Int) + 7 < 3) := by omega
      have i6 : ¬ ((j : Int) + 7 < 7) := by omega
      have i7 : (j : Int) < 3 := by omega
      have i8 : (j : Int) + 7 < 10 := by omega
      clear hb BS BD t5
      go_wp2
      go_roundw
      case rel => exact ⟨j + 7 + 1, by omega, by go_num, hsrc, hbn', hne, b5.setCell (by show w.heap.size ≤ w1.heap.size + 1; omega) _⟩
      case measure => simp [intOf]; omega
    · subst h
      rw [pk_nc] at BD
      have hx := rd_blk BD
      have hset := rd_set wr (w.heap.size + 1) x t5
      have b6 := below_setRow b5 (Nat.le_succ _) (nc x)
      clear BS BD
      go_wp2
      refine bodyPost_ret (v := .agg (nc x)) (by rw [results_cell1 rfl]; simp [asAddr, Result.andThen, lv_of_n hset]) rfl ⟨rfl, b6⟩
end Go.Proofs.Ytkhjnfplcaffnaa
set_option linter.unusedVariables false
set_option linter.unusedSimpArgs false
namespace Go.Proofs.Ytkhjnfplcaffnaa
open Go.RowKit
attribute [local go_sem ↓] Go.wp_at_zero Go.wp_at_succ ld_a ld_n st_a st_n eq_a eq_n ne_a ne_n lv_a lv_n lp_3 lp_4
attribute [local go_sem] run_ld_a run_ld_n run_sw_a run_sw_n run_eq_a run_eq_n run_ne_a run_ne_n run_lv_a run_lv_n st_z ne_z eq_z rd_new rd_old rd_drew rd_drewN rd_set tn_new tn_old tn_drew tn_drewN setRow_alloc run_lp_3 run_lp_4

variable {base n c : Nat} {w w' : World} {A : Option Addr} {l : List ByteArray}
theorem row_part {w : World} {g : Nat} {t : TypeId} {x : D.Tg} (h : Blk w g t (nc x)) : Row w (some ⟨g, 0, none⟩) 3 (bys (D.pl x)) ∧ Row w (some ⟨g, 3, none⟩) 4 (bys (D.ps x)) ∧ Row w (some ⟨g, 7, none⟩) 3 (bys (D.pr x)) := by
  obtain ⟨h1, h2, h3⟩ := rd_parts (rd_blk h)
  have e1 := rp_at h1
  have e2 := rp_at h2
  have e3 := rp_at h3
  exact ⟨⟨by rw [bys_len, e1.1], fun _ => ⟨_, rfl, h.lt, e1.2⟩⟩, ⟨by rw [bys_len, e2.1], fun _ => ⟨_, rfl, h.lt, e2.2⟩⟩, ⟨by rw [bys_len, e3.1], fun _ => ⟨_, rfl, h.lt, e3.2⟩⟩⟩
end Go.Proofs.Ytkhjnfplcaffnaa
