/-
  slices.Sort and slices.Sorted of at most twelve numbers.
-/
import Derived.Test.YtdolceefbikppaaDoorPas
import Derived.Test.YtdolceefbikppaaDoorStep
import Derived.Test.YtdolceefbikppaaDoorLayz
set_option linter.unusedVariables false
set_option linter.unusedSimpArgs false
set_option maxRecDepth 100000
namespace Go.Proofs.YtdolceefbikppaaDoor
open Go.RowKit Go.Shelf
attribute [local go_sem ↓] Go.wp_at_zero Go.wp_at_succ
attribute [local go_sem] cell_ext
theorem nan1_any (x : Nat) (w : World) : Calls Tryd.prog 51 #[.int .u64 (x : Nat)] w fun e w' => e = .returned (.bool false) ∧ w' = w := by
  go_enter Tryd.func51, Tryd.ntmps51
  go_wp2
  go_ret
  exact ⟨by simp, rfl⟩
theorem less_any (x y : Nat) (w : World) : Calls Tryd.prog 41 #[.int .u64 (x : Nat), .int .u64 (y : Nat)] w fun e w' => e = .returned (.bool (decide (x < y))) ∧ w' = w := by
  go_enter Tryd.func41, Tryd.ntmps41
  go_wp2_with (go_at_call 51; (with_reducible refine (nan1_any _ _).mono ?_); rintro e w' ⟨rfl, rfl⟩)
  go_ret
  exact ⟨by simp, rfl⟩
/-- An array of numbers, as far as a slice of its beginning goes. -/
structure Ar (w : World) (g c : Nat) (ys : List Nat) : Prop where
  ex : ∃ cur, Blk w g 23 cur ∧ cur.size = c ∧ ys.length ≤ c ∧ cur.toList.take ys.length = wds ys
theorem Ar.get {w : World} {g c i y : Nat} {ys : List Nat} (h : Ar w g c ys) (hy : ys[i]? = some y) : w.cell? ⟨g, i, none⟩ = some (.int .u64 (y : Nat)) := by
  obtain ⟨cur, hB, h1, h2, h3⟩ := h.ex
  have hi := (List.getElem?_eq_some_iff.1 hy).1
  rw [hB.c]
  have := congrArg (fun q => q[i]?) h3
  simp only [List.getElem?_take, if_pos hi, wds_at hy, Array.getElem?_toList] at this
  exact this
theorem Ar.free {w : World} {g c : Nat} {ys : List Nat} (h : Ar w g c ys) (i : Nat) : w.frozen? ⟨g, i, none⟩ = false := by
  obtain ⟨cur, hB, _⟩ := h.ex
  exact hB.f i
theorem Ar.set {w : World} {g c : Nat} {ys : List Nat} (h : Ar w g c ys) (i : Nat) (z : Nat) : Ar (w.setCell ⟨g, i, none⟩ (.int .u64 (z : Nat))) g c (ys.set i z) := by
  obtain ⟨cur, hB, h1, h2, h3⟩ := h.ex
  refine ⟨_, hB.put i _, by simpa using h1, by simpa using h2, ?_⟩
  rw [List.length_set, Array.toList_setIfInBounds, List.take_set, h3]
  simp [wds, List.map_set]
theorem Ar.on {w w' : World} {g c : Nat} {ys : List Nat} (h : Ar w g c ys) (hb : Below w.heap.size w w') : Ar w' g c ys := by
  obtain ⟨cur, hB, r⟩ := h.ex
  exact ⟨cur, hB.on hb, r⟩
theorem Ar.lt {w : World} {g c : Nat} {ys : List Nat} (h : Ar w g c ys) : g < w.heap.size := by
  obtain ⟨cur, hB, _⟩ := h.ex
  exact hB.lt
theorem ow_ar {base n c : Nat} {w : World} {A : Option Addr} {xs : List Nat} (h : Ow 23 1 base w A n c (wds xs)) (hn : 0 < n) : ∃ g, A = some ⟨g, 0, none⟩ ∧ base ≤ g ∧ Ar w g c xs := by
  have hl : xs.length = n := by have := h.len; rw [wds_len] at this; omega
  rcases h.row.2 with ⟨_, h0⟩ | ⟨g, cap, cur, e, hg, hh, h1, h2, h3, h4⟩
  · omega
  · injection e with e1 e2 e3
    subst e1 e3
    exact ⟨g, rfl, hg, cur, ⟨hh⟩, by omega, by omega, by rw [hl]; simpa using h4⟩
theorem Ar.row {w : World} {g c : Nat} {ys : List Nat} (h : Ar w g c ys) : Row w (some ⟨g, 0, none⟩) ys.length (wds ys) :=
  ⟨by rw [wds_len], fun _ => ⟨_, rfl, h.lt, fun j u hu => by
    obtain ⟨y, hy⟩ : ∃ y, ys[j]? = some y := ⟨_, List.getElem?_eq_getElem (by have := (List.getElem?_eq_some_iff.1 hu).1; rwa [wds_len] at this)⟩
    rw [wds_at hy] at hu
    injection hu with hu
    subst hu
    have := h.get hy
    rwa [add_o, Nat.zero_add]⟩⟩
/-- One number moved one place down. -/
def swp (ys : List Nat) (j : Nat) : List Nat := (ys.set (j + 1) (ys.getD j 0)).set j (ys.getD (j + 1) 0)
theorem swp_len (ys : List Nat) (j : Nat) : (swp ys j).length = ys.length := by simp [swp]
theorem swp_get {ys : List Nat} {j : Nat} (hj : j + 1 < ys.length) (a : Nat) : (swp ys j).getD a 0 = if a = j then ys.getD (j + 1) 0 else if a = j + 1 then ys.getD j 0 else ys.getD a 0 := by
  simp only [swp, List.getD_eq_getElem?_getD, List.getElem?_set, List.length_set]
  by_cases h1 : a = j
  · subst h1
    simp [show a < ys.length by omega]
  · rw [if_neg (fun e => h1 e.symm), if_neg h1]
    by_cases h2 : a = j + 1
    · subst h2
      simp [hj]
    · rw [if_neg (fun e => h2 e.symm), if_neg h2]
theorem mem_getD {ys : List Nat} {x : Nat} : x ∈ ys ↔ ∃ a, a < ys.length ∧ ys.getD a 0 = x := by
  rw [List.mem_iff_getElem]
  constructor
  · rintro ⟨i, hi, rfl⟩
    exact ⟨i, hi, by simp [List.getD_eq_getElem?_getD, hi]⟩
  · rintro ⟨a, ha, rfl⟩
    exact ⟨a, ha, by simp [List.getD_eq_getElem?_getD, ha]⟩
theorem swp_mem {ys : List Nat} {j : Nat} (hj : j + 1 < ys.length) (x : Nat) : x ∈ swp ys j ↔ x ∈ ys := by
  rw [mem_getD, mem_getD, swp_len]
  constructor
  · rintro ⟨a, ha, rfl⟩
    rw [swp_get hj]
    split
    · exact ⟨j + 1, hj, rfl⟩
    · split
      · exact ⟨j, by omega, rfl⟩
      · exact ⟨a, ha, rfl⟩
  · rintro ⟨a, ha, rfl⟩
    by_cases h1 : a = j
    · exact ⟨j + 1, hj, by rw [swp_get hj, if_neg (by omega), if_pos rfl, h1]⟩
    · by_cases h2 : a = j + 1
      · exact ⟨j, by omega, by rw [swp_get hj, if_pos rfl, h2]⟩
      · exact ⟨a, ha, by rw [swp_get hj, if_neg h1, if_neg h2]⟩
/-- The first of them rise. -/
def Rise (ys : List Nat) (i : Nat) : Prop := ∀ a b, a < b → b < i → ys.getD a 0 ≤ ys.getD b 0
/-- .. but the one at j, which those ahead of it don't know. -/
def RiseBut (ys : List Nat) (i j : Nat) : Prop := ∀ a b, a < b → b ≤ i → b ≠ j → ys.getD a 0 ≤ ys.getD b 0
theorem Rise.but {ys : List Nat} {i : Nat} (h : Rise ys i) : RiseBut ys i i := fun a b h1 h2 h3 => h a b h1 (by omega)
theorem RiseBut.done0 {ys : List Nat} {i : Nat} (h : RiseBut ys i 0) : Rise ys (i + 1) := fun a b h1 h2 => h a b h1 (by omega) (by omega)
theorem RiseBut.done {ys : List Nat} {i j : Nat} (h : RiseBut ys i (j + 1)) (hle : ys.getD j 0 ≤ ys.getD (j + 1) 0) (hji : j + 1 ≤ i) : Rise ys (i + 1) := fun a b h1 h2 => by
  by_cases hb : b = j + 1
  · subst hb
    by_cases ha : a = j
    · subst ha; exact hle
    · exact Nat.le_trans (h a j (by omega) (by omega) (by omega)) hle
  · exact h a b h1 (by omega) hb
theorem RiseBut.swp {ys : List Nat} {i j : Nat} (h : RiseBut ys i (j + 1)) (hlt : ys.getD (j + 1) 0 < ys.getD j 0) (hji : j + 1 ≤ i) (hi : i < ys.length) : RiseBut (swp ys j) i j := fun a b h1 h2 h3 => by
  have hj : j + 1 < ys.length := by omega
  rw [swp_get hj, swp_get hj, if_neg h3]
  by_cases hb : b = j + 1
  · rw [if_pos hb]
    by_cases ha : a = j
    · rw [if_pos ha]; omega
    · rw [if_neg ha, if_neg (by omega)]
      exact h a j (by omega) (by omega) (by omega)
  · rw [if_neg hb]
    by_cases ha : a = j
    · rw [if_pos ha]; exact h (j + 1) b (by omega) h2 hb
    · rw [if_neg ha]
      by_cases ha2 : a = j + 1
      · rw [if_pos ha2]; exact h j b (by omega) h2 hb
      · rw [if_neg ha2]; exact h a b h1 h2 hb
/-- What is left of numbers sorted: the same ones, rising. -/
structure Srtd (xs ys : List Nat) : Prop where
  len : ys.length = xs.length
  mem : ∀ x, x ∈ ys ↔ x ∈ xs
  rise : Rise ys ys.length
set_option maxHeartbeats 8000000 in
theorem ins_any (g n c : Nat) (xs : List Nat) (w : World) (h : Ar w g c xs) (hn : xs.length = n) (h12 : n ≤ 1000) :
    Calls Tryd.prog 35 #[.slice (some ⟨g, 0, none⟩) n c, .int .i64 0, .int .i64 (n : Nat)] w fun e w' => e = .returned (.tuple #[]) ∧ ∃ ys, Ar w' g c ys ∧ Srtd xs ys ∧ Only (fun i => i = g) w w' := by
  have HH := Lib.hid h
  have HN := Lib.hid hn
  clear h hn
  go_enter Tryd.func35, Tryd.ntmps35
  go_wp2_with fail
  go_loopw [6] (fun x wx => ∃ (i : Nat) (ys : List Nat), 1 ≤ i ∧ i ≤ n + 1 ∧ x = .int .i64 i ∧ Ar wx g c ys ∧ Only (fun i => i = g) w wx ∧ Kept (ys.length = n ∧ (∀ x, x ∈ ys ↔ x ∈ xs) ∧ Rise ys (min i n))) (fun x _ => n + 1 - (intOf x).toNat)
  case atStart => exact ⟨1, xs, Nat.le_refl _, by omega, rfl, HH.out, Only.self _ _, ⟨HN.out, fun _ => Iff.rfl, fun a b h1 h2 => by omega⟩⟩
  case round =>
    obtain ⟨i, ys, hi1, hi2, rfl, hA, hO, HK⟩ := hrel
    by_cases hlt : i < n
    · go_wp2_with fail
      go_loopw [7] (fun x wx => ∃ (j : Nat) (zs : List Nat), j ≤ i ∧ x = .int .i64 j ∧ Ar wx g c zs ∧ Only (fun i => i = g) w wx ∧ Kept (zs.length = n ∧ (∀ x, x ∈ zs ↔ x ∈ xs) ∧ RiseBut zs i j)) (fun x _ => (intOf x).toNat)
      case atStart => exact ⟨i, ys, Nat.le_refl _, rfl, hA, hO, ⟨HK.out.1, HK.out.2.1, Rise.but (by have := HK.out.2.2; rwa [Nat.min_eq_left (by omega)] at this)⟩⟩
      case round =>
        clear hA hO
        obtain ⟨j, zs, hji, rfl, hA, hO, HJ⟩ := hrel
        cases j with
        | zero =>
          have hk := Lib.hid (show Ar wr g c zs ∧ Only (fun i => i = g) w wr from ⟨hA, hO⟩)
          clear hA hO
          go_wp2_with fail
          go_quiet (fail)
          go_wp2
          refine ⟨⟨i + 1, zs, by omega, by omega, by go_num, hk.out.1.on (below_dn (Below.refl _ _) _), hk.out.2.on (below_dn (Below.refl _ _) _), ⟨HJ.out.1, HJ.out.2.1, ?_⟩⟩, by simp [intOf]; omega⟩
          rw [Nat.min_eq_left (by omega)]
          exact RiseBut.done0 HJ.out.2.2
        | succ j =>
          obtain ⟨y1, hy1⟩ : ∃ y, zs[j + 1]? = some y := ⟨_, List.getElem?_eq_getElem (by have := HJ.out.1; omega)⟩
          obtain ⟨y0, hy0⟩ : ∃ y, zs[j]? = some y := ⟨_, List.getElem?_eq_getElem (by have := HJ.out.1; omega)⟩
          have g1 : zs.getD (j + 1) 0 = y1 := by simp [List.getD_eq_getElem?_getD, hy1]
          have g0 : zs.getD j 0 = y0 := by simp [List.getD_eq_getElem?_getD, hy0]
          have hk := Lib.hid (show Ar wr g c zs ∧ Only (fun i => i = g) w wr from ⟨hA, hO⟩)
          have c1 := hA.get hy1
          have c0 := hA.get hy0
          have hcw : Hid (∀ W, Below wr.heap.size wr W → W.cell? ⟨g, j + 1, none⟩ = some (.int .u64 (y1 : Nat)) ∧ W.cell? ⟨g, j, none⟩ = some (.int .u64 (y0 : Nat))) := fun W hW => ⟨(hA.on hW).get hy1, (hA.on hW).get hy0⟩
          have j0 : (0 : Int) ≤ (j : Int) := by omega
          have hwj : IntKind.i64.wrap (j : Int) = (j : Int) := IntWalk.i64_in _ (by omega)
          have j1 : (j : Int) < (n : Int) := by omega
          have j2 : (j : Int) + 1 < (n : Int) := by omega
          have j3 : (0 : Int) < (j : Int) + 1 := by omega
          have CL : Hid (∀ W : World, Calls Tryd.prog 41 #[.int .u64 (y1 : Nat), .int .u64 (y0 : Nat)] W fun e w' => e = .returned (.bool (decide (y1 < y0))) ∧ Below W.heap.size W w') := fun W => (less_any y1 y0 W).mono fun _ _ h => ⟨h.1, by rw [h.2]; exact Below.refl _ _⟩
          have glt := hA.lt
          clear hA hO hy1 hy0
          by_cases hl : y1 < y0
          · rw [decide_eq_true hl] at CL
            have HR := Lib.hid (RiseBut.swp HJ.out.2.2 (by rw [g1, g0]; exact hl) hji (by have := HJ.out.1; omega))
            clear hl
            have G := Lib.hid (show zs.getD (j + 1) 0 = y1 ∧ zs.getD j 0 = y0 from ⟨g1, g0⟩)
            clear g1 g0
            go_wp2_with fail
            refine wp_region_ext (by kernel_rfl) (by kernel_rfl) ?_
            repeat (go_big_quiet_step ((go_at_call 41; with_reducible exact calls_ext (CL.out _))))
            refine wpQuiet_nil ?_
            intro w3 hw3
            have b3 := ext_to hw3
            clear hw3
            go_wp2_with fail
            obtain ⟨w4, hw4⟩ : ∃ w4, w3.drew = w4 := ⟨_, rfl⟩
            have b4 : Below w3.heap.size w3 w4 := by rw [← hw4]; exact (Below.refl _ _).drew
            have A4 := Lib.hid ((hk.out.1.on b3).on b4)
            obtain ⟨e1, e0⟩ := hcw.out w4 (below_up b3 b3.size b4)
            have f1 := A4.out.free (j + 1)
            have f0 := (A4.out.set (j + 1) y0).free j
            refine wp_region_noPanic ?_
            refine wp_region_held_drew (S := fun _ => True) (by kernel_rfl) trivial (fun sd => ?_)
            rw [hw4]
            clear c1 c0 hw4
            refine takeS 0 (some 33) ?vq0 (by kernel_rfl) (by kernel_rfl) (by kernel_rfl) (by kernel_rfl) (fun _ _ _ h => h) (by rfl) ?hyq0 trivial ?restq0
            case hyq0 => (intro o ho W hW; simp only [List.getElem?_toArray, List.getElem?_cons_succ, List.getElem?_cons_zero, Option.some.injEq] at ho; subst ho; (try dsimp only at hW); skip; go_simp; try rfl)
            try simp only [Act.put, List.setIfInBounds_toArray, List.set_cons_zero, List.set_cons_succ]
            refine takeS 1 (some 34) ?vq1 (by kernel_rfl) (by kernel_rfl) (by kernel_rfl) (by kernel_rfl) (fun _ _ _ h => h) (by rfl) ?hyq1 trivial ?restq1
            case hyq1 => (intro o ho W hW; simp only [List.getElem?_toArray, List.getElem?_cons_succ, List.getElem?_cons_zero, Option.some.injEq] at ho; subst ho; (try dsimp only at hW); skip; go_simp; try rfl)
            try simp only [Act.put, List.setIfInBounds_toArray, List.set_cons_zero, List.set_cons_succ]
            refine takeS 2 (some 35) ?vq2 (by kernel_rfl) (by kernel_rfl) (by kernel_rfl) (by kernel_rfl) (fun _ _ _ h => h) (by rfl) ?hyq2 trivial ?restq2
            case hyq2 => (intro o ho W hW; simp only [List.getElem?_toArray, List.getElem?_cons_succ, List.getElem?_cons_zero, Option.some.injEq] at ho; subst ho; (try dsimp only at hW); skip; go_simp; try rfl)
            try simp only [Act.put, List.setIfInBounds_toArray, List.set_cons_zero, List.set_cons_succ]
            refine takeS 3 (some 36) ?vq3 (by kernel_rfl) (by kernel_rfl) (by kernel_rfl) (by kernel_rfl) (fun _ _ _ h => h) (by rfl) ?hyq3 trivial ?restq3
            case hyq3 => (intro o ho W hW; simp only [List.getElem?_toArray, List.getElem?_cons_succ, List.getElem?_cons_zero, Option.some.injEq] at ho; subst ho; (try dsimp only at hW); skip; go_simp; try rfl)
            try simp only [Act.put, List.setIfInBounds_toArray, List.set_cons_zero, List.set_cons_succ]
            refine takeS 4 (some 37) (.int .i64 (j : Nat)) (by kernel_rfl) (by kernel_rfl) (by kernel_rfl) (by kernel_rfl) (fun _ _ _ h => h) (by rfl) ?hyq4 trivial ?restq4
            case hyq4 => (intro o ho W hW; simp only [List.getElem?_toArray, List.getElem?_cons_succ, List.getElem?_cons_zero, Option.some.injEq] at ho; subst ho; (try dsimp only at hW); skip; go_simp; try exact hwj)
            try simp only [Act.put, List.setIfInBounds_toArray, List.set_cons_zero, List.set_cons_succ]
            refine takeS 5 (some 38) ?vq5 (by kernel_rfl) (by kernel_rfl) (by kernel_rfl) (by kernel_rfl) (fun _ _ _ h => h) (by rfl) ?hyq5 trivial ?restq5
            case hyq5 => (intro o ho W hW; simp only [List.getElem?_toArray, List.getElem?_cons_succ, List.getElem?_cons_zero, Option.some.injEq] at ho; subst ho; (try dsimp only at hW); skip; go_simp; try rfl)
            try simp only [Act.put, List.setIfInBounds_toArray, List.set_cons_zero, List.set_cons_succ]
            refine takeS 6 (some 39) ?vq6 (by kernel_rfl) (by kernel_rfl) (by kernel_rfl) (by kernel_rfl) (fun _ _ _ h => h) (by rfl) ?hyq6 trivial ?restq6
            case hyq6 => (intro o ho W hW; simp only [List.getElem?_toArray, List.getElem?_cons_succ, List.getElem?_cons_zero, Option.some.injEq] at ho; subst ho; (try dsimp only at hW); skip; go_simp; try rfl)
            try simp only [Act.put, List.setIfInBounds_toArray, List.set_cons_zero, List.set_cons_succ]
            refine takeS 7 (some 40) (.int .i64 (j : Nat)) (by kernel_rfl) (by kernel_rfl) (by kernel_rfl) (by kernel_rfl) (fun _ _ _ h => h) (by rfl) ?hyq7 trivial ?restq7
            case hyq7 => (intro o ho W hW; simp only [List.getElem?_toArray, List.getElem?_cons_succ, List.getElem?_cons_zero, Option.some.injEq] at ho; subst ho; (try dsimp only at hW); skip; go_simp; try exact hwj)
            try simp only [Act.put, List.setIfInBounds_toArray, List.set_cons_zero, List.set_cons_succ]
            refine takeS 8 (some 41) (.pointer (some ⟨g, j, none⟩)) (by kernel_rfl) (by kernel_rfl) (by kernel_rfl) (by kernel_rfl) (fun _ _ _ h => h) (by rfl) ?hyq8 trivial ?restq8
            case hyq8 => (intro o ho W hW; simp only [List.getElem?_toArray, List.getElem?_cons_succ, List.getElem?_cons_zero, Option.some.injEq] at ho; subst ho; (try dsimp only at hW); skip; go_simp; try rfl)
            try simp only [Act.put, List.setIfInBounds_toArray, List.set_cons_zero, List.set_cons_succ]
            refine takeS 10 (some 43) ?vq10 (by kernel_rfl) (by kernel_rfl) (by kernel_rfl) (by kernel_rfl) (fun _ _ _ h => h) (by rfl) ?hyq10 trivial ?restq10
            case hyq10 => (intro o ho W hW; simp only [List.getElem?_toArray, List.getElem?_cons_succ, List.getElem?_cons_zero, Option.some.injEq] at ho; subst ho; (try dsimp only at hW); skip; go_simp; try rfl)
            try simp only [Act.put, List.setIfInBounds_toArray, List.set_cons_zero, List.set_cons_succ]
            refine takeS 11 (some 44) ?vq11 (by kernel_rfl) (by kernel_rfl) (by kernel_rfl) (by kernel_rfl) (fun _ _ _ h => h) (by rfl) ?hyq11 trivial ?restq11
            case hyq11 => (intro o ho W hW; simp only [List.getElem?_toArray, List.getElem?_cons_succ, List.getElem?_cons_zero, Option.some.injEq] at ho; subst ho; (try dsimp only at hW); skip; go_simp; try rfl)
            try simp only [Act.put, List.setIfInBounds_toArray, List.set_cons_zero, List.set_cons_succ]
            refine takeS 12 (some 45) (.pointer (some ⟨g, j + 1, none⟩)) (by kernel_rfl) (by kernel_rfl) (by kernel_rfl) (by kernel_rfl) (fun _ _ _ h => h) (by rfl) ?hyq12 trivial ?restq12
            case hyq12 => (intro o ho W hW; simp only [List.getElem?_toArray, List.getElem?_cons_succ, List.getElem?_cons_zero, Option.some.injEq] at ho; subst ho; (try dsimp only at hW); skip; go_simp; try (intro hneg; exact absurd hneg (by omega)))
            try simp only [Act.put, List.setIfInBounds_toArray, List.set_cons_zero, List.set_cons_succ]
            refine forkS 9 13 (by kernel_rfl) (by rfl) (by rfl) (fun o ho K hK => ?_) (fun o ho K hK => ?_)
            · simp only [List.getElem?_toArray, List.getElem?_cons_succ, List.getElem?_cons_zero, Option.some.injEq] at ho; subst ho
              go_simp
              refine hK.out _ _ trivial (fun _ => ?_)
              clear hK K
              try simp only [Act.put, List.setIfInBounds_toArray, List.set_cons_zero, List.set_cons_succ]
              refine nextS 13 (by kernel_rfl) (by rfl) (fun o ho K hK => ?_)
              simp only [List.getElem?_toArray, List.getElem?_cons_succ, List.getElem?_cons_zero, Option.some.injEq] at ho; subst ho
              go_simp
              refine hK.out _ _ trivial (fun _ => ?_)
              clear hK K
              try simp only [Act.put, List.setIfInBounds_toArray, List.set_cons_zero, List.set_cons_succ]
              refine takeS 14 (some 47) (.pointer (some ⟨g, j + 1, none⟩)) (by kernel_rfl) (by kernel_rfl) (by kernel_rfl) (by kernel_rfl) (fun _ _ _ h => h) (by rfl) ?hya14 trivial ?resta14
              case hya14 => (intro o ho W hW; simp only [List.getElem?_toArray, List.getElem?_cons_succ, List.getElem?_cons_zero, Option.some.injEq] at ho; subst ho; (try dsimp only at hW); skip; go_simp; try (intro hneg; exact absurd hneg (by omega)))
              try simp only [Act.put, List.setIfInBounds_toArray, List.set_cons_zero, List.set_cons_succ]
              refine nextS 15 (by kernel_rfl) (by rfl) (fun o ho K hK => ?_)
              simp only [List.getElem?_toArray, List.getElem?_cons_succ, List.getElem?_cons_zero, Option.some.injEq] at ho; subst ho
              go_simp
              refine hK.out _ _ trivial (fun _ => ?_)
              clear hK K
              try simp only [Act.put, List.setIfInBounds_toArray, List.set_cons_zero, List.set_cons_succ]
              refine takeS 16 (some 48) (.pointer (some ⟨g, j, none⟩)) (by kernel_rfl) (by kernel_rfl) (by kernel_rfl) (by kernel_rfl) (fun _ _ _ h => h) (by rfl) ?hya16 trivial ?resta16
              case hya16 => (intro o ho W hW; simp only [List.getElem?_toArray, List.getElem?_cons_succ, List.getElem?_cons_zero, Option.some.injEq] at ho; subst ho; (try dsimp only at hW); skip; go_simp; try rfl)
              try simp only [Act.put, List.setIfInBounds_toArray, List.set_cons_zero, List.set_cons_succ]
              refine nextS 17 (by kernel_rfl) (by rfl) (fun o ho K hK => ?_)
              simp only [List.getElem?_toArray, List.getElem?_cons_succ, List.getElem?_cons_zero, Option.some.injEq] at ho; subst ho
              go_simp
              refine hK.out _ _ trivial (fun _ => ?_)
              clear hK K
              try simp only [Act.put, List.setIfInBounds_toArray, List.set_cons_zero, List.set_cons_succ]
              refine wpAnyH_done (by kernel_rfl) ?_ _
              refine NoPanic.normal ?_
              go_wp2
              go_roundw
              case rel =>
                refine ⟨j, swp zs j, by omega, rfl, ?_, ?_, ⟨by rw [swp_len]; exact HJ.out.1, fun x => (swp_mem (by have := HJ.out.1; omega) x).trans (HJ.out.2.1 x), HR.out⟩⟩
                · have := (A4.out.set (j + 1) y0).set j y1
                  rwa [← G.out.1, ← G.out.2] at this ⊢
                · exact ((hk.out.2.on b3).on b4).set (.inl rfl) _ |>.set (.inl rfl) _
              case measure => simp [intOf]
            · simp only [List.getElem?_toArray, List.getElem?_cons_succ, List.getElem?_cons_zero, Option.some.injEq] at ho; subst ho
              go_simp
              refine hK.out _ _ trivial (fun _ => ?_)
              clear hK K
              try simp only [Act.put, List.setIfInBounds_toArray, List.set_cons_zero, List.set_cons_succ]
              refine nextS 9 (by kernel_rfl) (by rfl) (fun o ho K hK => ?_)
              simp only [List.getElem?_toArray, List.getElem?_cons_succ, List.getElem?_cons_zero, Option.some.injEq] at ho; subst ho
              go_simp
              refine hK.out _ _ trivial (fun _ => ?_)
              clear hK K
              try simp only [Act.put, List.setIfInBounds_toArray, List.set_cons_zero, List.set_cons_succ]
              refine takeS 14 (some 47) (.pointer (some ⟨g, j + 1, none⟩)) (by kernel_rfl) (by kernel_rfl) (by kernel_rfl) (by kernel_rfl) (fun _ _ _ h => h) (by rfl) ?hyb14 trivial ?restb14
              case hyb14 => (intro o ho W hW; simp only [List.getElem?_toArray, List.getElem?_cons_succ, List.getElem?_cons_zero, Option.some.injEq] at ho; subst ho; (try dsimp only at hW); skip; go_simp; try (intro hneg; exact absurd hneg (by omega)))
              try simp only [Act.put, List.setIfInBounds_toArray, List.set_cons_zero, List.set_cons_succ]
              refine nextS 15 (by kernel_rfl) (by rfl) (fun o ho K hK => ?_)
              simp only [List.getElem?_toArray, List.getElem?_cons_succ, List.getElem?_cons_zero, Option.some.injEq] at ho; subst ho
              go_simp
              refine hK.out _ _ trivial (fun _ => ?_)
              clear hK K
              try simp only [Act.put, List.setIfInBounds_toArray, List.set_cons_zero, List.set_cons_succ]
              refine takeS 16 (some 48) (.pointer (some ⟨g, j, none⟩)) (by kernel_rfl) (by kernel_rfl) (by kernel_rfl) (by kernel_rfl) (fun _ _ _ h => h) (by rfl) ?hyb16 trivial ?restb16
              case hyb16 => (intro o ho W hW; simp only [List.getElem?_toArray, List.getElem?_cons_succ, List.getElem?_cons_zero, Option.some.injEq] at ho; subst ho; (try dsimp only at hW); skip; go_simp; try rfl)
              try simp only [Act.put, List.setIfInBounds_toArray, List.set_cons_zero, List.set_cons_succ]
              refine nextS 17 (by kernel_rfl) (by rfl) (fun o ho K hK => ?_)
              simp only [List.getElem?_toArray, List.getElem?_cons_succ, List.getElem?_cons_zero, Option.some.injEq] at ho; subst ho
              go_simp
              refine hK.out _ _ trivial (fun _ => ?_)
              clear hK K
              try simp only [Act.put, List.setIfInBounds_toArray, List.set_cons_zero, List.set_cons_succ]
              refine wpAnyH_done (by kernel_rfl) ?_ _
              refine NoPanic.normal ?_
              go_wp2
              go_roundw
              case rel =>
                refine ⟨j, swp zs j, by omega, rfl, ?_, ?_, ⟨by rw [swp_len]; exact HJ.out.1, fun x => (swp_mem (by have := HJ.out.1; omega) x).trans (HJ.out.2.1 x), HR.out⟩⟩
                · have := (A4.out.set (j + 1) y0).set j y1
                  rwa [← G.out.1, ← G.out.2] at this ⊢
                · exact ((hk.out.2.on b3).on b4).set (.inl rfl) _ |>.set (.inl rfl) _
              case measure => simp [intOf]
          · rw [decide_eq_false hl] at CL
            have HR := Lib.hid (RiseBut.done HJ.out.2.2 (by rw [g1, g0]; omega) hji)
            clear hl g1 g0
            go_wp2_with fail
            refine wp_region_ext (by kernel_rfl) (by kernel_rfl) ?_
            repeat (go_big_quiet_step ((go_at_call 41; with_reducible exact calls_ext (CL.out _))))
            refine wpQuiet_nil ?_
            intro w3 hw3
            have b3 := ext_to hw3
            clear hw3
            go_wp2
            refine ⟨⟨i + 1, zs, by omega, by omega, by go_num, hk.out.1.on b3, hk.out.2.on b3, ⟨HJ.out.1, HJ.out.2.1, ?_⟩⟩, by simp [intOf]; omega⟩
            rw [Nat.min_eq_left (by omega)]
            exact HR.out
    · go_wp2
      go_end0
      refine ⟨rfl, ys, hA, ⟨by rw [HK.out.1, HN.out], HK.out.2.1, ?_⟩, hO⟩
      have := HK.out.2.2
      rw [Nat.min_eq_right (by omega)] at this
      rw [HK.out.1]
      exact this
end Go.Proofs.YtdolceefbikppaaDoor
