/-
  The law of numbers as bytes, and read again: its walk.
-/
import Derived.Test.YtkjnaflifepncaaRegion
set_option linter.unusedVariables false
set_option linter.unusedSimpArgs false
namespace Go.Proofs.Ytkjnaflifepncaa
open Go.RowKit

theorem rowO_drop {l : List Nat} {i z : Nat} (h : l[i]? = some z) : D.rowO (l.drop i) = D.ordd z ++ D.rowO (l.drop (i + 1)) := by rw [drop_at h, D.rowO_cons]
theorem rowS_drop {l : List Nat} {i z : Nat} (h : l[i]? = some z) : D.rowS (l.drop i) = D.sm z ++ D.rowS (l.drop (i + 1)) := by rw [drop_at h, D.rowS_cons]

set_option maxRecDepth 20000 in
set_option maxHeartbeats 4000000 in
theorem back_cut (A A1 B B1 : Option Addr) (n c n2 cb m mb : Nat) (l' b' : List Nat) (w : World) (hL : Row w A1 m (wds l')) (hl64 : Kept (∀ x ∈ l', x < 18446744073709551616)) (hm : m ≤ 20)
    (hB : Row w B1 mb (bys b')) (hb2 : Kept (∀ x ∈ b', x < 256)) (hmb : mb ≤ 20) (hmn : m ≤ n) (hnc : n ≤ c) (hmc : mb ≤ cb) (hcb : cb ≤ maxLen)
    (p1 p2 : Nat) (hp1 : Kept ((D.rowO l').length = p1)) (hp2 : Kept ((D.rowS l').length = p2)) (x k e y j f : Nat) (hO : D.readO b' = (x, k, e)) (hS : D.readS b' = (y, j, f))
    (hmin : ∀ ts t W, (Builtin.min_ ts t #[.int .i64 (n : Int), .int .i64 20]).run Try.prog W = .ok (.int .i64 (m : Int)) W)
    (hmin2 : ∀ ts t W, (Builtin.min_ ts t #[.int .i64 (n2 : Int), .int .i64 20]).run Try.prog W = .ok (.int .i64 (mb : Int)) W)
    (hcut : ∀ W, (Instr.slice 22 (.slice A n c) none (some (.int .i64 (m : Int))) none).run Try.prog W = .ok (.slice A1 m c) W)
    (hcut2 : ∀ W, (Instr.slice 25 (.slice B n2 cb) none (some (.int .i64 (mb : Int))) none).run Try.prog W = .ok (.slice B1 mb cb) W) :
    Calls Try.prog 5 #[.slice A n c, .slice B n2 cb] w fun e w' => e = .returned (.bool true) ∧ Below w.heap.size w w' := by
  have hz := from_self w
  have hl10 := hL.len
  rw [wds_len] at hl10
  have HLm := Lib.hid hl10
  have hbl := hB.len
  rw [bys_len] at hbl
  have HBL := Lib.hid hbl
  clear hbl
  have hp1b : p1 ≤ 180 := by have := D.rowO_len hl64.out; rw [hp1.out] at this; omega
  have hp2b : p2 ≤ 200 := by have := D.rowS_len hl64.out; rw [hp2.out] at this; omega
  clear hl10
  have cO := Lib.hid (fun W h => ordered_any A1 m c l' W h hl64 (by omega))
  have cS := Lib.hid (fun W h => small_any A1 m c l' W h hl64 (by omega))
  have c1 := Lib.hid (fun W h => read_ordered_is B1 mb cb b' x k e W h hb2 hmc hcb ⟨hO⟩)
  have c2 := Lib.hid (fun W h => read_small_is B1 mb cb b' y j f W h hb2 (by omega) ⟨hS⟩)
  have HO := Lib.hid hO
  have HS := Lib.hid hS
  have HCB := Lib.hid hcb
  clear hO hS
  unfold maxLen at hcb
  go_enter Try.func5, Try.ntmps5
  go_wp2_with fail
  go_quiet (fail)
  go_wp2_with (first
    | (go_at_call 14; (with_reducible refine (on_made (n := p1) hp1 (hz.drewN _) (cO.out _ (hL.since (hz.drewN _)))).mono ?_); rintro e w1 ⟨X, cx, rfl, hx1, hx2, rx, hz1, hb1⟩)
    | (go_at_call 16; (with_reducible refine (on_made (n := p2) hp2 hz1 (cS.out _ (hL.since hz1))).mono ?_); rintro e w2 ⟨Y, cy, rfl, hy1, hy2, ry, hz2, hb2⟩))
  have rx2 := rx.on hb2
  have hb2' := hb2
  clear rx hb2 hb1 hz hz1 cO cS
  go_loopw [5, 6, 7] (fun xs ys i wr => ∃ (t nx ny : Nat) (X Y : Option Addr) (cx cy : Nat), t ≤ m ∧ i = .int .i64 t ∧ xs = .slice X nx cx ∧ ys = .slice Y ny cy ∧ From w wr ∧ Row wr X nx (bys (D.rowO (l'.drop t))) ∧ Row wr Y ny (bys (D.rowS (l'.drop t))) ∧ nx ≤ cx ∧ cx ≤ maxLen ∧ ny ≤ cy ∧ cy ≤ maxLen) (fun _ _ i _ => m - (intOf i).toNat)
  case atStart => exact ⟨0, p1, p2, X, Y, cx, cy, Nat.zero_le _, rfl, rfl, rfl, hz2, rx2, ry, hx1, hx2, hy1, hy2⟩
  case round =>
    clear hz2 rx2 ry hx1 hx2 hy1 hy2 hb2'
    obtain ⟨t, nx, ny, X, Y, cx, cy, ht, rfl, rfl, rfl, hzr, rx, ry, hx1, hx2, hy1, hy2⟩ := hrel
    by_cases hlt : t < m
    · obtain ⟨z, hz, hzl⟩ := at_lt (l := l') (i := t) (by rw [HLm.out]; exact hlt)
      have z64 := hl64.out z hzl
      have hlR : ∀ x ∈ l'.drop (t + 1), x < 18446744073709551616 := fun x hx => hl64.out x (List.mem_of_mem_drop hx)
      have hlT : ∀ x ∈ l'.drop t, x < 18446744073709551616 := fun x hx => hl64.out x (List.mem_of_mem_drop hx)
      have bO : Kept (∀ x ∈ D.rowO (l'.drop t), x < 256) := ⟨D.rowO_lt hlT⟩
      have bS : Kept (∀ x ∈ D.rowS (l'.drop t), x < 256) := ⟨D.rowS_lt _⟩
      have nyb : ny ≤ 200 := by
        have h1 := ry.len
        have h2 := D.rowS_len hlT
        rw [bys_len] at h1
        simp at h2
        have h3 := HLm.out
        omega
      rw [rowO_drop hz] at rx bO
      rw [rowS_drop hz] at ry bS
      obtain ⟨lo, hlo⟩ : ∃ lo, (D.ordd z).length = lo := ⟨_, rfl⟩
      obtain ⟨so, hso⟩ : ∃ so, (D.sm z).length = so := ⟨_, rfl⟩
      have lo1 : 1 ≤ lo := by rw [← hlo]; simp [D.ordd]
      have so1 : 1 ≤ so := by rw [← hso]; exact D.sm_len1 z
      have lox : lo ≤ nx := by have := rx.len; rw [bys_len, List.length_append] at this; omega
      have soy : so ≤ ny := by have := ry.len; rw [bys_len, List.length_append] at this; omega
      have r1 := Lib.hid (fun q => read_ordered_is X nx cx _ z lo 0 (wr.drewN q) (rx.drewN q) bO hx1 hx2 ⟨by rw [← hlo]; exact D.readO_back z64 _⟩)
      have r1' := Lib.hid (read_ordered_is X nx cx _ z lo 0 wr rx bO hx1 hx2 ⟨by rw [← hlo]; exact D.readO_back z64 _⟩)
      have r2 := Lib.hid (fun q => read_small_is Y ny cy _ z so 0 (wr.drewN q) (ry.drewN q) bS (by omega) ⟨by rw [← hso]; exact D.readS_back z64 _⟩)
      obtain ⟨X1, hcutX, hRX⟩ := from_run_b X nx cx lo lo rfl lox
      obtain ⟨Y1, hcutY, hRY⟩ := from_run_b Y ny cy so so rfl soy
      have nX := hRX wr _ rx hx1
      have nY := hRY wr _ ry hy1
      rw [bys_drop, ← hlo, List.drop_left] at nX
      rw [bys_drop, ← hso, List.drop_left] at nY
      rw [hlo] at nX
      rw [hso] at nY
      obtain ⟨ad, rfl, cz⟩ := (hL.since hzr).cell (wds_at hz)
      have HX2 := Lib.hid hx2
      have HY2 := Lib.hid hy2
      have i1 : (0 : Int) ≤ (t : Int) := by omega
      have i2 : (t : Int) < (m : Int) := by omega
      have i3 : (0 : Int) ≤ (lo : Int) := by omega
      have i4 : (lo : Int) ≤ (nx : Int) := by omega
      have i5 : (0 : Int) ≤ (so : Int) := by omega
      have i6 : (so : Int) ≤ (ny : Int) := by omega
      have hcx : cx ≤ 9223372036854775807 := by unfold maxLen at hx2; omega
      have hcy : cy ≤ 9223372036854775807 := by unfold maxLen at hy2; omega
      clear hRX hRY rx ry bO bS hlo hso hz hzl hlR hlT hx2 hy2 c1 c2 HO HS hB hL
      go_wp2_with (first
        | (go_at_call 17; (with_reducible refine r1'.out.mono ?_); rintro e w3 ⟨rfl, q3, rfl⟩)
        | (go_at_call 19; (with_reducible refine (r2.out _).mono ?_); rintro e w4 ⟨rfl, rfl⟩))
      go_quiet (fail)
      go_wp2
      go_roundw
      case rel => exact ⟨t + 1, nx - lo, ny - so, X1, Y1, cx - lo, cy - so, by omega, by go_num, rfl, rfl, hzr.drewN _, nX.drewN _, nY.drewN _, by omega, Nat.le_trans (Nat.sub_le _ _) HX2.out, by omega, Nat.le_trans (Nat.sub_le _ _) HY2.out⟩
      case measure => simp [intOf]; omega
    · have nx0 : nx = 0 := by
        have h1 := rx.len
        rw [bys_len, List.drop_of_length_le (by rw [HLm.out]; omega)] at h1
        exact h1.symm
      have ny0 : ny = 0 := by
        have h1 := ry.len
        rw [bys_len, List.drop_of_length_le (by rw [HLm.out]; omega)] at h1
        exact h1.symm
      subst nx0 ny0
      have hO := HO.out
      have hS := HS.out
      clear rx ry HO HS hL
      by_cases h0 : e = 0
      · by_cases g0 : f = 0
        · have hbl := HBL.out
          obtain ⟨k1, k2, k3⟩ := D.readO_just hb2.out (hO.trans (by rw [h0]))
          have x64 : x < 18446744073709551616 := by have := D.readO_bd hb2.out; rw [hO] at this; exact this.1
          have hkl : (D.ordd x).length = k := by rw [k3, List.length_take]; omega
          obtain ⟨Bk, hcutk, hRk⟩ := upto_run_b B1 mb cb k k rfl (by omega)
          have hBk := hRk w _ hB (by omega)
          rw [bys_take, ← k3] at hBk
          clear hRk k3
          rw [hbl] at k2
          clear hbl
          have cO1 := Lib.hid (fun A c W h => ordered_any A 1 c [x] W h ⟨by simpa using x64⟩ (by omega))
          rw [show D.rowO [x] = D.ordd x by simp [D.rowO]] at cO1
          have cE1 := Lib.hid (fun A B c d W h1 h2 => same_any A B k c k d (D.ordd x) (D.ordd x) true W h1 h2 (by omega) (by omega) ⟨D.same_self _⟩)
          have HK1 : Kept ((D.ordd x).length = k) := ⟨hkl⟩
          have hez : ((e : Int) == 0) = true := by rw [beq_iff_eq]; omega
          have hkd1 : decide ((k : Int) < 1) = false := decide_eq_false (by omega)
          have hkd2 : decide (mb < k) = false := decide_eq_false (by omega)
          clear hkl
          have hbl2 := HBL.out
          obtain ⟨j1, j2, j3⟩ := D.readS_just hb2.out (hS.trans (by rw [g0]))
          have y64 : y < 18446744073709551616 := D.readS_bd hb2.out hS
          have hjl : (D.sm y).length = j := by rw [j3, List.length_take]; omega
          obtain ⟨Bj, hcutj, hRj⟩ := upto_run_b B1 mb cb j j rfl (by omega)
          have hBj := hRj w _ hB (by omega)
          rw [bys_take, ← j3] at hBj
          clear hRj j3
          rw [hbl2] at j2
          clear hbl2
          have cO2 := Lib.hid (fun A c W h => small_any A 1 c [y] W h ⟨by simpa using y64⟩ (by omega))
          rw [show D.rowS [y] = D.sm y by simp [D.rowS]] at cO2
          have cE2 := Lib.hid (fun A B c d W h1 h2 => same_any A B j c j d (D.sm y) (D.sm y) true W h1 h2 (by omega) (by omega) ⟨D.same_self _⟩)
          have HJ1 : Kept ((D.sm y).length = j) := ⟨hjl⟩
          have hfz : ((f : Int) == 0) = true := by rw [beq_iff_eq]; omega
          have hjd1 : decide ((j : Int) < 1) = false := decide_eq_false (by omega)
          have hjd2 : decide (mb < j) = false := decide_eq_false (by omega)
          clear hjl
          have HEE := Lib.hid h0
          have HFF := Lib.hid g0
          clear h0 g0 hO hS
          go_wp2_with (first
            | (go_at_call 17; (with_reducible refine (c1.out _ (hB.since hzr)).mono ?_); rintro e w3 ⟨rfl, q3, rfl⟩)
            | (go_at_call 19; (with_reducible refine (c2.out _ (hB.since (hzr.drewN _))).mono ?_); rintro e w4 ⟨rfl, rfl⟩))
          go_region_held3 (fun _ => True) (trivial) (first
            | (go_at_call 14; (with_reducible refine (on_made (n := k) HK1 ((hzr.drewN _).alloc _) (cO1.out _ _ _ ?_)).mono ?_); (exact lit_row _ _ _ _ _ _ (by rfl) (by rfl) (by simp)); rintro e w5 ⟨A5, c5, rfl, h51, h52, r5, hz5, hb5⟩)
            | (go_at_call 13; (with_reducible refine (cE1.out _ _ _ _ _ r5 (hBk.since hz5)).mono ?_); rintro e w6 ⟨rfl, q6, rfl⟩)
            | (go_at_call 16; (with_reducible refine (on_made (n := j) HJ1 ((hz5.drewN _).alloc _) (cO2.out _ _ _ ?_)).mono ?_); (exact lit_row _ _ _ _ _ _ (by rfl) (by rfl) (by simp)); rintro e w7 ⟨A7, c7, rfl, h71, h72, r7, hz7, hb7⟩)
            | (go_at_call 13; (with_reducible refine (cE2.out _ _ _ _ _ r7 (hBj.since hz7)).mono ?_); rintro e w8 ⟨rfl, q8, rfl⟩))
          all_goals
            go_wp2_with (go_at_call 12; (with_reducible refine (on (hz7.drewN _) (known_any _)).mono ?_); rintro e w9 ⟨rfl, hz9⟩)
            go_ret
            exact ⟨rfl, hz9.below⟩
        · have hbl := HBL.out
          obtain ⟨k1, k2, k3⟩ := D.readO_just hb2.out (hO.trans (by rw [h0]))
          have x64 : x < 18446744073709551616 := by have := D.readO_bd hb2.out; rw [hO] at this; exact this.1
          have hkl : (D.ordd x).length = k := by rw [k3, List.length_take]; omega
          obtain ⟨Bk, hcutk, hRk⟩ := upto_run_b B1 mb cb k k rfl (by omega)
          have hBk := hRk w _ hB (by omega)
          rw [bys_take, ← k3] at hBk
          clear hRk k3
          rw [hbl] at k2
          clear hbl
          have cO1 := Lib.hid (fun A c W h => ordered_any A 1 c [x] W h ⟨by simpa using x64⟩ (by omega))
          rw [show D.rowO [x] = D.ordd x by simp [D.rowO]] at cO1
          have cE1 := Lib.hid (fun A B c d W h1 h2 => same_any A B k c k d (D.ordd x) (D.ordd x) true W h1 h2 (by omega) (by omega) ⟨D.same_self _⟩)
          have HK1 : Kept ((D.ordd x).length = k) := ⟨hkl⟩
          have hez : ((e : Int) == 0) = true := by rw [beq_iff_eq]; omega
          have hkd1 : decide ((k : Int) < 1) = false := decide_eq_false (by omega)
          have hkd2 : decide (mb < k) = false := decide_eq_false (by omega)
          clear hkl
          have hfz : ((f : Int) == 0) = false := by rw [beq_eq_false_iff_ne]; omega
          have hfz1 : decide (f = 0) = false := decide_eq_false (by omega)
          have hfz2 : (f == 0) = false := by rw [beq_eq_false_iff_ne]; omega
          have HEE := Lib.hid h0
          have HFF := Lib.hid g0
          clear h0 g0 hO hS
          go_wp2_with (first
            | (go_at_call 17; (with_reducible refine (c1.out _ (hB.since hzr)).mono ?_); rintro e w3 ⟨rfl, q3, rfl⟩)
            | (go_at_call 19; (with_reducible refine (c2.out _ (hB.since (hzr.drewN _))).mono ?_); rintro e w4 ⟨rfl, rfl⟩))
          refine wp_region_noPanic ?_
          refine wp_region_held_drew (S := fun _ => True) (by kernel_rfl) trivial (fun _ => ?_)
          refine takeH 0 (some 112) ?va0 (by kernel_rfl) (by kernel_rfl) (by kernel_rfl) (by kernel_rfl) (fun _ _ _ h => h) (by rfl) ?hya0 ?resta0
          case hya0 => (intro o ho w; simp only [List.getElem?_toArray, List.getElem?_cons_succ, List.getElem?_cons_zero, Option.some.injEq] at ho; subst ho; go_simp; try rfl)
          simp only [Act.put, List.setIfInBounds_toArray, List.set_cons_zero, List.set_cons_succ]
          refine takeH 1 (some 113) ?va1 (by kernel_rfl) (by kernel_rfl) (by kernel_rfl) (by kernel_rfl) (fun _ _ _ h => h) (by rfl) ?hya1 ?resta1
          case hya1 => (intro o ho w; simp only [List.getElem?_toArray, List.getElem?_cons_succ, List.getElem?_cons_zero, Option.some.injEq] at ho; subst ho; go_simp; try rfl)
          simp only [Act.put, List.setIfInBounds_toArray, List.set_cons_zero, List.set_cons_succ]
          refine takeH 2 (some 114) ?va2 (by kernel_rfl) (by kernel_rfl) (by kernel_rfl) (by kernel_rfl) (fun _ _ _ h => h) (by rfl) ?hya2 ?resta2
          case hya2 => (intro o ho w; simp only [List.getElem?_toArray, List.getElem?_cons_succ, List.getElem?_cons_zero, Option.some.injEq] at ho; subst ho; go_simp; try rfl)
          simp only [Act.put, List.setIfInBounds_toArray, List.set_cons_zero, List.set_cons_succ]
          refine takeH 3 (some 115) ?va3 (by kernel_rfl) (by kernel_rfl) (by kernel_rfl) (by kernel_rfl) (fun _ _ _ h => h) (by rfl) ?hya3 ?resta3
          case hya3 => (intro o ho w; simp only [List.getElem?_toArray, List.getElem?_cons_succ, List.getElem?_cons_zero, Option.some.injEq] at ho; subst ho; go_simp; try rfl)
          simp only [Act.put, List.setIfInBounds_toArray, List.set_cons_zero, List.set_cons_succ]
          refine takeH 4 (some 116) ?va4 (by kernel_rfl) (by kernel_rfl) (by kernel_rfl) (by kernel_rfl) (fun _ _ _ h => h) (by rfl) ?hya4 ?resta4
          case hya4 => (intro o ho w; simp only [List.getElem?_toArray, List.getElem?_cons_succ, List.getElem?_cons_zero, Option.some.injEq] at ho; subst ho; go_simp; try rfl)
          simp only [Act.put, List.setIfInBounds_toArray, List.set_cons_zero, List.set_cons_succ]
          refine takeH 5 (some 117) ?va5 (by kernel_rfl) (by kernel_rfl) (by kernel_rfl) (by kernel_rfl) (fun _ _ _ h => h) (by rfl) ?hya5 ?resta5
          case hya5 => (intro o ho w; simp only [List.getElem?_toArray, List.getElem?_cons_succ, List.getElem?_cons_zero, Option.some.injEq] at ho; subst ho; go_simp; try rfl)
          simp only [Act.put, List.setIfInBounds_toArray, List.set_cons_zero, List.set_cons_succ]
          refine takeH 6 (some 118) ?va6 (by kernel_rfl) (by kernel_rfl) (by kernel_rfl) (by kernel_rfl) (fun _ _ _ h => h) (by rfl) ?hya6 ?resta6
          case hya6 => (intro o ho w; simp only [List.getElem?_toArray, List.getElem?_cons_succ, List.getElem?_cons_zero, Option.some.injEq] at ho; subst ho; go_simp; try rfl)
          simp only [Act.put, List.setIfInBounds_toArray, List.set_cons_zero, List.set_cons_succ]
          refine takeH 7 (some 119) ?va7 (by kernel_rfl) (by kernel_rfl) (by kernel_rfl) (by kernel_rfl) (fun _ _ _ h => h) (by rfl) ?hya7 ?resta7
          case hya7 => (intro o ho w; simp only [List.getElem?_toArray, List.getElem?_cons_succ, List.getElem?_cons_zero, Option.some.injEq] at ho; subst ho; go_simp; try rfl)
          simp only [Act.put, List.setIfInBounds_toArray, List.set_cons_zero, List.set_cons_succ]
          refine takeH 8 (some 120) ?va8 (by kernel_rfl) (by kernel_rfl) (by kernel_rfl) (by kernel_rfl) (fun _ _ _ h => h) (by rfl) ?hya8 ?resta8
          case hya8 => (intro o ho w; simp only [List.getElem?_toArray, List.getElem?_cons_succ, List.getElem?_cons_zero, Option.some.injEq] at ho; subst ho; go_simp; try rfl)
          simp only [Act.put, List.setIfInBounds_toArray, List.set_cons_zero, List.set_cons_succ]
          refine takeH 9 (some 121) ?va9 (by kernel_rfl) (by kernel_rfl) (by kernel_rfl) (by kernel_rfl) (fun _ _ _ h => h) (by rfl) ?hya9 ?resta9
          case hya9 => (intro o ho w; simp only [List.getElem?_toArray, List.getElem?_cons_succ, List.getElem?_cons_zero, Option.some.injEq] at ho; subst ho; go_simp; try rfl)
          simp only [Act.put, List.setIfInBounds_toArray, List.set_cons_zero, List.set_cons_succ]
          refine takeH 10 (some 122) ?va10 (by kernel_rfl) (by kernel_rfl) (by kernel_rfl) (by kernel_rfl) (fun _ _ _ h => h) (by rfl) ?hya10 ?resta10
          case hya10 => (intro o ho w; simp only [List.getElem?_toArray, List.getElem?_cons_succ, List.getElem?_cons_zero, Option.some.injEq] at ho; subst ho; go_simp; try rfl)
          simp only [Act.put, List.setIfInBounds_toArray, List.set_cons_zero, List.set_cons_succ]
          refine takeH 11 (some 123) ?va11 (by kernel_rfl) (by kernel_rfl) (by kernel_rfl) (by kernel_rfl) (fun _ _ _ h => h) (by rfl) ?hya11 ?resta11
          case hya11 => (intro o ho w; simp only [List.getElem?_toArray, List.getElem?_cons_succ, List.getElem?_cons_zero, Option.some.injEq] at ho; subst ho; go_simp; try rfl)
          simp only [Act.put, List.setIfInBounds_toArray, List.set_cons_zero, List.set_cons_succ]
          refine takeH 12 (some 124) ?va12 (by kernel_rfl) (by kernel_rfl) (by kernel_rfl) (by kernel_rfl) (fun _ _ _ h => h) (by rfl) ?hya12 ?resta12
          case hya12 => (intro o ho w; simp only [List.getElem?_toArray, List.getElem?_cons_succ, List.getElem?_cons_zero, Option.some.injEq] at ho; subst ho; go_simp; try rfl)
          simp only [Act.put, List.setIfInBounds_toArray, List.set_cons_zero, List.set_cons_succ]
          refine takeH 15 (some 127) ?va15 (by kernel_rfl) (by kernel_rfl) (by kernel_rfl) (by kernel_rfl) (fun _ _ _ h => h) (by rfl) ?hya15 ?resta15
          case hya15 => (intro o ho w; simp only [List.getElem?_toArray, List.getElem?_cons_succ, List.getElem?_cons_zero, Option.some.injEq] at ho; subst ho; go_simp; try rfl)
          simp only [Act.put, List.setIfInBounds_toArray, List.set_cons_zero, List.set_cons_succ]
          refine takeH 16 (some 128) ?va16 (by kernel_rfl) (by kernel_rfl) (by kernel_rfl) (by kernel_rfl) (fun _ _ _ h => h) (by rfl) ?hya16 ?resta16
          case hya16 => (intro o ho w; simp only [List.getElem?_toArray, List.getElem?_cons_succ, List.getElem?_cons_zero, Option.some.injEq] at ho; subst ho; go_simp; try rfl)
          simp only [Act.put, List.setIfInBounds_toArray, List.set_cons_zero, List.set_cons_succ]
          refine takeH 17 (some 129) ?va17 (by kernel_rfl) (by kernel_rfl) (by kernel_rfl) (by kernel_rfl) (fun _ _ _ h => h) (by rfl) ?hya17 ?resta17
          case hya17 => (intro o ho w; simp only [List.getElem?_toArray, List.getElem?_cons_succ, List.getElem?_cons_zero, Option.some.injEq] at ho; subst ho; go_simp; try rfl)
          simp only [Act.put, List.setIfInBounds_toArray, List.set_cons_zero, List.set_cons_succ]
          refine nextH 13 (by kernel_rfl) (by rfl) (fun o ho K hK => ?_)
          simp only [List.getElem?_toArray, List.getElem?_cons_succ, List.getElem?_cons_zero, Option.some.injEq] at ho; subst ho
          go_simp
          refine hK.out _ _ ?_
          clear hK K
          try simp only [Act.put, List.setIfInBounds_toArray, List.set_cons_zero, List.set_cons_succ]
          refine nextH 14 (by kernel_rfl) (by rfl) (fun o ho K hK => ?_)
          simp only [List.getElem?_toArray, List.getElem?_cons_succ, List.getElem?_cons_zero, Option.some.injEq] at ho; subst ho
          go_simp
          (go_at_call 14; (with_reducible refine (on_made (n := k) HK1 ((hzr.drewN _).alloc _) (cO1.out _ _ _ ?_)).mono ?_); (exact lit_row _ _ _ _ _ _ (by rfl) (by rfl) (by simp)); rintro e w5 ⟨A5, c5, rfl, h51, h52, r5, hz5, hb5⟩)
          first | (refine hK.out _ _ ?_) | (go_wp2_with fail; refine hK.out _ _ ?_)
          clear hK K
          try simp only [Act.put, List.setIfInBounds_toArray, List.set_cons_zero, List.set_cons_succ]
          refine nextH 18 (by kernel_rfl) (by rfl) (fun o ho K hK => ?_)
          simp only [List.getElem?_toArray, List.getElem?_cons_succ, List.getElem?_cons_zero, Option.some.injEq] at ho; subst ho
          go_simp
          (go_at_call 13; (with_reducible refine (cE1.out _ _ _ _ _ r5 (hBk.since hz5)).mono ?_); rintro e w6 ⟨rfl, q6, rfl⟩)
          first | (refine hK.out _ _ ?_) | (go_wp2_with fail; refine hK.out _ _ ?_)
          clear hK K
          try simp only [Act.put, List.setIfInBounds_toArray, List.set_cons_zero, List.set_cons_succ]
          refine takeH 19 (some 131) ?va19 (by kernel_rfl) (by kernel_rfl) (by kernel_rfl) (by kernel_rfl) (fun _ _ _ h => h) (by rfl) ?hya19 ?resta19
          case hya19 => (intro o ho w; simp only [List.getElem?_toArray, List.getElem?_cons_succ, List.getElem?_cons_zero, Option.some.injEq] at ho; subst ho; go_simp; try rfl)
          simp only [Act.put, List.setIfInBounds_toArray, List.set_cons_zero, List.set_cons_succ]
          refine takeH 20 (some 132) ?va20 (by kernel_rfl) (by kernel_rfl) (by kernel_rfl) (by kernel_rfl) (fun _ _ _ h => h) (by rfl) ?hya20 ?resta20
          case hya20 => (intro o ho w; simp only [List.getElem?_toArray, List.getElem?_cons_succ, List.getElem?_cons_zero, Option.some.injEq] at ho; subst ho; go_simp; try rfl)
          simp only [Act.put, List.setIfInBounds_toArray, List.set_cons_zero, List.set_cons_succ]
          refine takeH 21 (some 133) ?va21 (by kernel_rfl) (by kernel_rfl) (by kernel_rfl) (by kernel_rfl) (fun _ _ _ h => h) (by rfl) ?hya21 ?resta21
          case hya21 => (intro o ho w; simp only [List.getElem?_toArray, List.getElem?_cons_succ, List.getElem?_cons_zero, Option.some.injEq] at ho; subst ho; go_simp; try rfl)
          simp only [Act.put, List.setIfInBounds_toArray, List.set_cons_zero, List.set_cons_succ]
          refine takeH 22 (some 134) ?va22 (by kernel_rfl) (by kernel_rfl) (by kernel_rfl) (by kernel_rfl) (fun _ _ _ h => h) (by rfl) ?hya22 ?resta22
          case hya22 => (intro o ho w; simp only [List.getElem?_toArray, List.getElem?_cons_succ, List.getElem?_cons_zero, Option.some.injEq] at ho; subst ho; go_simp; try rfl)
          simp only [Act.put, List.setIfInBounds_toArray, List.set_cons_zero, List.set_cons_succ]
          refine takeH 23 (some 135) ?va23 (by kernel_rfl) (by kernel_rfl) (by kernel_rfl) (by kernel_rfl) (fun _ _ _ h => h) (by rfl) ?hya23 ?resta23
          case hya23 => (intro o ho w; simp only [List.getElem?_toArray, List.getElem?_cons_succ, List.getElem?_cons_zero, Option.some.injEq] at ho; subst ho; go_simp; try rfl)
          simp only [Act.put, List.setIfInBounds_toArray, List.set_cons_zero, List.set_cons_succ]
          refine takeH 24 (some 136) ?va24 (by kernel_rfl) (by kernel_rfl) (by kernel_rfl) (by kernel_rfl) (fun _ _ _ h => h) (by rfl) ?hya24 ?resta24
          case hya24 => (intro o ho w; simp only [List.getElem?_toArray, List.getElem?_cons_succ, List.getElem?_cons_zero, Option.some.injEq] at ho; subst ho; go_simp; try rfl)
          simp only [Act.put, List.setIfInBounds_toArray, List.set_cons_zero, List.set_cons_succ]
          refine takeH 25 (some 137) ?va25 (by kernel_rfl) (by kernel_rfl) (by kernel_rfl) (by kernel_rfl) (fun _ _ _ h => h) (by rfl) ?hya25 ?resta25
          case hya25 => (intro o ho w; simp only [List.getElem?_toArray, List.getElem?_cons_succ, List.getElem?_cons_zero, Option.some.injEq] at ho; subst ho; go_simp; try rfl)
          simp only [Act.put, List.setIfInBounds_toArray, List.set_cons_zero, List.set_cons_succ]
          refine skipH 26 (some 138) (by kernel_rfl) (by kernel_rfl) (by kernel_rfl) (by kernel_rfl) (fun _ _ _ h => h) (by rfl) ?_
          simp only [Act.put, List.setIfInBounds_toArray, List.set_cons_zero, List.set_cons_succ]
          refine skipH 27 (some 139) (by kernel_rfl) (by kernel_rfl) (by kernel_rfl) (by kernel_rfl) (fun _ _ _ h => h) (by rfl) ?_
          simp only [Act.put, List.setIfInBounds_toArray, List.set_cons_zero, List.set_cons_succ]
          refine skipH 28 (some 140) (by kernel_rfl) (by kernel_rfl) (by kernel_rfl) (by kernel_rfl) (fun _ _ _ h => h) (by rfl) ?_
          simp only [Act.put, List.setIfInBounds_toArray, List.set_cons_zero, List.set_cons_succ]
          refine skipH 29 (some 141) (by kernel_rfl) (by kernel_rfl) (by kernel_rfl) (by kernel_rfl) (fun _ _ _ h => h) (by rfl) ?_
          simp only [Act.put, List.setIfInBounds_toArray, List.set_cons_zero, List.set_cons_succ]
          refine skipH 30 (some 142) (by kernel_rfl) (by kernel_rfl) (by kernel_rfl) (by kernel_rfl) (fun _ _ _ h => h) (by rfl) ?_
          simp only [Act.put, List.setIfInBounds_toArray, List.set_cons_zero, List.set_cons_succ]
          refine skipH 31 (some 143) (by kernel_rfl) (by kernel_rfl) (by kernel_rfl) (by kernel_rfl) (fun _ _ _ h => h) (by rfl) ?_
          simp only [Act.put, List.setIfInBounds_toArray, List.set_cons_zero, List.set_cons_succ]
          refine skipH 32 (some 144) (by kernel_rfl) (by kernel_rfl) (by kernel_rfl) (by kernel_rfl) (fun _ _ _ h => h) (by rfl) ?_
          simp only [Act.put, List.setIfInBounds_toArray, List.set_cons_zero, List.set_cons_succ]
          refine skipH 33 (some 145) (by kernel_rfl) (by kernel_rfl) (by kernel_rfl) (by kernel_rfl) (fun _ _ _ h => h) (by rfl) ?_
          simp only [Act.put, List.setIfInBounds_toArray, List.set_cons_zero, List.set_cons_succ]
          refine skipH 34 (some 146) (by kernel_rfl) (by kernel_rfl) (by kernel_rfl) (by kernel_rfl) (fun _ _ _ h => h) (by rfl) ?_
          simp only [Act.put, List.setIfInBounds_toArray, List.set_cons_zero, List.set_cons_succ]
          refine skipH 35 (some 147) (by kernel_rfl) (by kernel_rfl) (by kernel_rfl) (by kernel_rfl) (fun _ _ _ h => h) (by rfl) ?_
          simp only [Act.put, List.setIfInBounds_toArray, List.set_cons_zero, List.set_cons_succ]
          refine skipH 36 (some 148) (by kernel_rfl) (by kernel_rfl) (by kernel_rfl) (by kernel_rfl) (fun _ _ _ h => h) (by rfl) ?_
          simp only [Act.put, List.setIfInBounds_toArray, List.set_cons_zero, List.set_cons_succ]
          refine skipH 37 (some 149) (by kernel_rfl) (by kernel_rfl) (by kernel_rfl) (by kernel_rfl) (fun _ _ _ h => h) (by rfl) ?_
          simp only [Act.put, List.setIfInBounds_toArray, List.set_cons_zero, List.set_cons_succ]
          refine skipH 38 (some 150) (by kernel_rfl) (by kernel_rfl) (by kernel_rfl) (by kernel_rfl) (fun _ _ _ h => h) (by rfl) ?_
          simp only [Act.put, List.setIfInBounds_toArray, List.set_cons_zero, List.set_cons_succ]
          refine skipH 39 (some 151) (by kernel_rfl) (by kernel_rfl) (by kernel_rfl) (by kernel_rfl) (fun _ _ _ h => h) (by rfl) ?_
          simp only [Act.put, List.setIfInBounds_toArray, List.set_cons_zero, List.set_cons_succ]
          refine skipH 40 (some 152) (by kernel_rfl) (by kernel_rfl) (by kernel_rfl) (by kernel_rfl) (fun _ _ _ h => h) (by rfl) ?_
          simp only [Act.put, List.setIfInBounds_toArray, List.set_cons_zero, List.set_cons_succ]
          refine skipH 41 (some 153) (by kernel_rfl) (by kernel_rfl) (by kernel_rfl) (by kernel_rfl) (fun _ _ _ h => h) (by rfl) ?_
          simp only [Act.put, List.setIfInBounds_toArray, List.set_cons_zero, List.set_cons_succ]
          refine skipH 42 (some 154) (by kernel_rfl) (by kernel_rfl) (by kernel_rfl) (by kernel_rfl) (fun _ _ _ h => h) (by rfl) ?_
          simp only [Act.put, List.setIfInBounds_toArray, List.set_cons_zero, List.set_cons_succ]
          refine skipH 43 (some 155) (by kernel_rfl) (by kernel_rfl) (by kernel_rfl) (by kernel_rfl) (fun _ _ _ h => h) (by rfl) ?_
          simp only [Act.put, List.setIfInBounds_toArray, List.set_cons_zero, List.set_cons_succ]
          refine takeH 44 (some 156) ?va44 (by kernel_rfl) (by kernel_rfl) (by kernel_rfl) (by kernel_rfl) (fun _ _ _ h => h) (by rfl) ?hya44 ?resta44
          case hya44 => (intro o ho w; simp only [List.getElem?_toArray, List.getElem?_cons_succ, List.getElem?_cons_zero, Option.some.injEq] at ho; subst ho; go_simp; try rfl)
          simp only [Act.put, List.setIfInBounds_toArray, List.set_cons_zero, List.set_cons_succ]
          refine takeH 45 (some 157) ?va45 (by kernel_rfl) (by kernel_rfl) (by kernel_rfl) (by kernel_rfl) (fun _ _ _ h => h) (by rfl) ?hya45 ?resta45
          case hya45 => (intro o ho w; simp only [List.getElem?_toArray, List.getElem?_cons_succ, List.getElem?_cons_zero, Option.some.injEq] at ho; subst ho; go_simp; try rfl)
          simp only [Act.put, List.setIfInBounds_toArray, List.set_cons_zero, List.set_cons_succ]
          refine wpAnyH_done (by kernel_rfl) ?_ _
          refine NoPanic.normal ?_
          all_goals
            go_wp2_with (go_at_call 12; (with_reducible refine (on (hz5.drewN _) (known_any _)).mono ?_); rintro e w9 ⟨rfl, hz9⟩)
            go_ret
            exact ⟨rfl, hz9.below⟩
      · by_cases g0 : f = 0
        · have hez : ((e : Int) == 0) = false := by rw [beq_eq_false_iff_ne]; omega
          have hez1 : decide (e = 0) = false := decide_eq_false (by omega)
          have hez2 : (e == 0) = false := by rw [beq_eq_false_iff_ne]; omega
          have hbl2 := HBL.out
          obtain ⟨j1, j2, j3⟩ := D.readS_just hb2.out (hS.trans (by rw [g0]))
          have y64 : y < 18446744073709551616 := D.readS_bd hb2.out hS
          have hjl : (D.sm y).length = j := by rw [j3, List.length_take]; omega
          obtain ⟨Bj, hcutj, hRj⟩ := upto_run_b B1 mb cb j j rfl (by omega)
          have hBj := hRj w _ hB (by omega)
          rw [bys_take, ← j3] at hBj
          clear hRj j3
          rw [hbl2] at j2
          clear hbl2
          have cO2 := Lib.hid (fun A c W h => small_any A 1 c [y] W h ⟨by simpa using y64⟩ (by omega))
          rw [show D.rowS [y] = D.sm y by simp [D.rowS]] at cO2
          have cE2 := Lib.hid (fun A B c d W h1 h2 => same_any A B j c j d (D.sm y) (D.sm y) true W h1 h2 (by omega) (by omega) ⟨D.same_self _⟩)
          have HJ1 : Kept ((D.sm y).length = j) := ⟨hjl⟩
          have hfz : ((f : Int) == 0) = true := by rw [beq_iff_eq]; omega
          have hjd1 : decide ((j : Int) < 1) = false := decide_eq_false (by omega)
          have hjd2 : decide (mb < j) = false := decide_eq_false (by omega)
          clear hjl
          have HEE := Lib.hid h0
          have HFF := Lib.hid g0
          clear h0 g0 hO hS
          go_wp2_with (first
            | (go_at_call 17; (with_reducible refine (c1.out _ (hB.since hzr)).mono ?_); rintro e w3 ⟨rfl, q3, rfl⟩)
            | (go_at_call 19; (with_reducible refine (c2.out _ (hB.since (hzr.drewN _))).mono ?_); rintro e w4 ⟨rfl, rfl⟩))
          refine wp_region_noPanic ?_
          refine wp_region_held_drew (S := fun _ => True) (by kernel_rfl) trivial (fun _ => ?_)
          refine takeH 0 (some 112) ?vb0 (by kernel_rfl) (by kernel_rfl) (by kernel_rfl) (by kernel_rfl) (fun _ _ _ h => h) (by rfl) ?hyb0 ?restb0
          case hyb0 => (intro o ho w; simp only [List.getElem?_toArray, List.getElem?_cons_succ, List.getElem?_cons_zero, Option.some.injEq] at ho; subst ho; go_simp; try rfl)
          simp only [Act.put, List.setIfInBounds_toArray, List.set_cons_zero, List.set_cons_succ]
          refine takeH 1 (some 113) ?vb1 (by kernel_rfl) (by kernel_rfl) (by kernel_rfl) (by kernel_rfl) (fun _ _ _ h => h) (by rfl) ?hyb1 ?restb1
          case hyb1 => (intro o ho w; simp only [List.getElem?_toArray, List.getElem?_cons_succ, List.getElem?_cons_zero, Option.some.injEq] at ho; subst ho; go_simp; try rfl)
          simp only [Act.put, List.setIfInBounds_toArray, List.set_cons_zero, List.set_cons_succ]
          refine takeH 2 (some 114) ?vb2 (by kernel_rfl) (by kernel_rfl) (by kernel_rfl) (by kernel_rfl) (fun _ _ _ h => h) (by rfl) ?hyb2 ?restb2
          case hyb2 => (intro o ho w; simp only [List.getElem?_toArray, List.getElem?_cons_succ, List.getElem?_cons_zero, Option.some.injEq] at ho; subst ho; go_simp; try rfl)
          simp only [Act.put, List.setIfInBounds_toArray, List.set_cons_zero, List.set_cons_succ]
          refine skipH 3 (some 115) (by kernel_rfl) (by kernel_rfl) (by kernel_rfl) (by kernel_rfl) (fun _ _ _ h => h) (by rfl) ?_
          simp only [Act.put, List.setIfInBounds_toArray, List.set_cons_zero, List.set_cons_succ]
          refine skipH 4 (some 116) (by kernel_rfl) (by kernel_rfl) (by kernel_rfl) (by kernel_rfl) (fun _ _ _ h => h) (by rfl) ?_
          simp only [Act.put, List.setIfInBounds_toArray, List.set_cons_zero, List.set_cons_succ]
          refine skipH 5 (some 117) (by kernel_rfl) (by kernel_rfl) (by kernel_rfl) (by kernel_rfl) (fun _ _ _ h => h) (by rfl) ?_
          simp only [Act.put, List.setIfInBounds_toArray, List.set_cons_zero, List.set_cons_succ]
          refine skipH 6 (some 118) (by kernel_rfl) (by kernel_rfl) (by kernel_rfl) (by kernel_rfl) (fun _ _ _ h => h) (by rfl) ?_
          simp only [Act.put, List.setIfInBounds_toArray, List.set_cons_zero, List.set_cons_succ]
          refine skipH 7 (some 119) (by kernel_rfl) (by kernel_rfl) (by kernel_rfl) (by kernel_rfl) (fun _ _ _ h => h) (by rfl) ?_
          simp only [Act.put, List.setIfInBounds_toArray, List.set_cons_zero, List.set_cons_succ]
          refine skipH 8 (some 120) (by kernel_rfl) (by kernel_rfl) (by kernel_rfl) (by kernel_rfl) (fun _ _ _ h => h) (by rfl) ?_
          simp only [Act.put, List.setIfInBounds_toArray, List.set_cons_zero, List.set_cons_succ]
          refine skipH 9 (some 121) (by kernel_rfl) (by kernel_rfl) (by kernel_rfl) (by kernel_rfl) (fun _ _ _ h => h) (by rfl) ?_
          simp only [Act.put, List.setIfInBounds_toArray, List.set_cons_zero, List.set_cons_succ]
          refine skipH 10 (some 122) (by kernel_rfl) (by kernel_rfl) (by kernel_rfl) (by kernel_rfl) (fun _ _ _ h => h) (by rfl) ?_
          simp only [Act.put, List.setIfInBounds_toArray, List.set_cons_zero, List.set_cons_succ]
          refine skipH 11 (some 123) (by kernel_rfl) (by kernel_rfl) (by kernel_rfl) (by kernel_rfl) (fun _ _ _ h => h) (by rfl) ?_
          simp only [Act.put, List.setIfInBounds_toArray, List.set_cons_zero, List.set_cons_succ]
          refine skipH 12 (some 124) (by kernel_rfl) (by kernel_rfl) (by kernel_rfl) (by kernel_rfl) (fun _ _ _ h => h) (by rfl) ?_
          simp only [Act.put, List.setIfInBounds_toArray, List.set_cons_zero, List.set_cons_succ]
          refine skipH 13 (some 125) (by kernel_rfl) (by kernel_rfl) (by kernel_rfl) (by kernel_rfl) (fun _ _ _ h => h) (by rfl) ?_
          simp only [Act.put, List.setIfInBounds_toArray, List.set_cons_zero, List.set_cons_succ]
          refine skipH 14 (some 126) (by kernel_rfl) (by kernel_rfl) (by kernel_rfl) (by kernel_rfl) (fun _ _ _ h => h) (by rfl) ?_
          simp only [Act.put, List.setIfInBounds_toArray, List.set_cons_zero, List.set_cons_succ]
          refine skipH 15 (some 127) (by kernel_rfl) (by kernel_rfl) (by kernel_rfl) (by kernel_rfl) (fun _ _ _ h => h) (by rfl) ?_
          simp only [Act.put, List.setIfInBounds_toArray, List.set_cons_zero, List.set_cons_succ]
          refine skipH 16 (some 128) (by kernel_rfl) (by kernel_rfl) (by kernel_rfl) (by kernel_rfl) (fun _ _ _ h => h) (by rfl) ?_
          simp only [Act.put, List.setIfInBounds_toArray, List.set_cons_zero, List.set_cons_succ]
          refine skipH 17 (some 129) (by kernel_rfl) (by kernel_rfl) (by kernel_rfl) (by kernel_rfl) (fun _ _ _ h => h) (by rfl) ?_
          simp only [Act.put, List.setIfInBounds_toArray, List.set_cons_zero, List.set_cons_succ]
          refine skipH 18 (some 130) (by kernel_rfl) (by kernel_rfl) (by kernel_rfl) (by kernel_rfl) (fun _ _ _ h => h) (by rfl) ?_
          simp only [Act.put, List.setIfInBounds_toArray, List.set_cons_zero, List.set_cons_succ]
          refine skipH 19 (some 131) (by kernel_rfl) (by kernel_rfl) (by kernel_rfl) (by kernel_rfl) (fun _ _ _ h => h) (by rfl) ?_
          simp only [Act.put, List.setIfInBounds_toArray, List.set_cons_zero, List.set_cons_succ]
          refine skipH 20 (some 132) (by kernel_rfl) (by kernel_rfl) (by kernel_rfl) (by kernel_rfl) (fun _ _ _ h => h) (by rfl) ?_
          simp only [Act.put, List.setIfInBounds_toArray, List.set_cons_zero, List.set_cons_succ]
          refine takeH 21 (some 133) ?vb21 (by kernel_rfl) (by kernel_rfl) (by kernel_rfl) (by kernel_rfl) (fun _ _ _ h => h) (by rfl) ?hyb21 ?restb21
          case hyb21 => (intro o ho w; simp only [List.getElem?_toArray, List.getElem?_cons_succ, List.getElem?_cons_zero, Option.some.injEq] at ho; subst ho; go_simp; try rfl)
          simp only [Act.put, List.setIfInBounds_toArray, List.set_cons_zero, List.set_cons_succ]
          refine takeH 22 (some 134) ?vb22 (by kernel_rfl) (by kernel_rfl) (by kernel_rfl) (by kernel_rfl) (fun _ _ _ h => h) (by rfl) ?hyb22 ?restb22
          case hyb22 => (intro o ho w; simp only [List.getElem?_toArray, List.getElem?_cons_succ, List.getElem?_cons_zero, Option.some.injEq] at ho; subst ho; go_simp; try rfl)
          simp only [Act.put, List.setIfInBounds_toArray, List.set_cons_zero, List.set_cons_succ]
          refine takeH 23 (some 135) ?vb23 (by kernel_rfl) (by kernel_rfl) (by kernel_rfl) (by kernel_rfl) (fun _ _ _ h => h) (by rfl) ?hyb23 ?restb23
          case hyb23 => (intro o ho w; simp only [List.getElem?_toArray, List.getElem?_cons_succ, List.getElem?_cons_zero, Option.some.injEq] at ho; subst ho; go_simp; try rfl)
          simp only [Act.put, List.setIfInBounds_toArray, List.set_cons_zero, List.set_cons_succ]
          refine takeH 24 (some 136) ?vb24 (by kernel_rfl) (by kernel_rfl) (by kernel_rfl) (by kernel_rfl) (fun _ _ _ h => h) (by rfl) ?hyb24 ?restb24
          case hyb24 => (intro o ho w; simp only [List.getElem?_toArray, List.getElem?_cons_succ, List.getElem?_cons_zero, Option.some.injEq] at ho; subst ho; go_simp; try rfl)
          simp only [Act.put, List.setIfInBounds_toArray, List.set_cons_zero, List.set_cons_succ]
          refine takeH 25 (some 137) ?vb25 (by kernel_rfl) (by kernel_rfl) (by kernel_rfl) (by kernel_rfl) (fun _ _ _ h => h) (by rfl) ?hyb25 ?restb25
          case hyb25 => (intro o ho w; simp only [List.getElem?_toArray, List.getElem?_cons_succ, List.getElem?_cons_zero, Option.some.injEq] at ho; subst ho; go_simp; try rfl)
          simp only [Act.put, List.setIfInBounds_toArray, List.set_cons_zero, List.set_cons_succ]
          refine takeH 26 (some 138) ?vb26 (by kernel_rfl) (by kernel_rfl) (by kernel_rfl) (by kernel_rfl) (fun _ _ _ h => h) (by rfl) ?hyb26 ?restb26
          case hyb26 => (intro o ho w; simp only [List.getElem?_toArray, List.getElem?_cons_succ, List.getElem?_cons_zero, Option.some.injEq] at ho; subst ho; go_simp; try rfl)
          simp only [Act.put, List.setIfInBounds_toArray, List.set_cons_zero, List.set_cons_succ]
          refine takeH 27 (some 139) ?vb27 (by kernel_rfl) (by kernel_rfl) (by kernel_rfl) (by kernel_rfl) (fun _ _ _ h => h) (by rfl) ?hyb27 ?restb27
          case hyb27 => (intro o ho w; simp only [List.getElem?_toArray, List.getElem?_cons_succ, List.getElem?_cons_zero, Option.some.injEq] at ho; subst ho; go_simp; try rfl)
          simp only [Act.put, List.setIfInBounds_toArray, List.set_cons_zero, List.set_cons_succ]
          refine takeH 28 (some 140) ?vb28 (by kernel_rfl) (by kernel_rfl) (by kernel_rfl) (by kernel_rfl) (fun _ _ _ h => h) (by rfl) ?hyb28 ?restb28
          case hyb28 => (intro o ho w; simp only [List.getElem?_toArray, List.getElem?_cons_succ, List.getElem?_cons_zero, Option.some.injEq] at ho; subst ho; go_simp; try rfl)
          simp only [Act.put, List.setIfInBounds_toArray, List.set_cons_zero, List.set_cons_succ]
          refine takeH 29 (some 141) ?vb29 (by kernel_rfl) (by kernel_rfl) (by kernel_rfl) (by kernel_rfl) (fun _ _ _ h => h) (by rfl) ?hyb29 ?restb29
          case hyb29 => (intro o ho w; simp only [List.getElem?_toArray, List.getElem?_cons_succ, List.getElem?_cons_zero, Option.some.injEq] at ho; subst ho; go_simp; try rfl)
          simp only [Act.put, List.setIfInBounds_toArray, List.set_cons_zero, List.set_cons_succ]
          refine takeH 30 (some 142) ?vb30 (by kernel_rfl) (by kernel_rfl) (by kernel_rfl) (by kernel_rfl) (fun _ _ _ h => h) (by rfl) ?hyb30 ?restb30
          case hyb30 => (intro o ho w; simp only [List.getElem?_toArray, List.getElem?_cons_succ, List.getElem?_cons_zero, Option.some.injEq] at ho; subst ho; go_simp; try rfl)
          simp only [Act.put, List.setIfInBounds_toArray, List.set_cons_zero, List.set_cons_succ]
          refine takeH 31 (some 143) ?vb31 (by kernel_rfl) (by kernel_rfl) (by kernel_rfl) (by kernel_rfl) (fun _ _ _ h => h) (by rfl) ?hyb31 ?restb31
          case hyb31 => (intro o ho w; simp only [List.getElem?_toArray, List.getElem?_cons_succ, List.getElem?_cons_zero, Option.some.injEq] at ho; subst ho; go_simp; try rfl)
          simp only [Act.put, List.setIfInBounds_toArray, List.set_cons_zero, List.set_cons_succ]
          refine takeH 32 (some 144) ?vb32 (by kernel_rfl) (by kernel_rfl) (by kernel_rfl) (by kernel_rfl) (fun _ _ _ h => h) (by rfl) ?hyb32 ?restb32
          case hyb32 => (intro o ho w; simp only [List.getElem?_toArray, List.getElem?_cons_succ, List.getElem?_cons_zero, Option.some.injEq] at ho; subst ho; go_simp; try rfl)
          simp only [Act.put, List.setIfInBounds_toArray, List.set_cons_zero, List.set_cons_succ]
          refine takeH 33 (some 145) ?vb33 (by kernel_rfl) (by kernel_rfl) (by kernel_rfl) (by kernel_rfl) (fun _ _ _ h => h) (by rfl) ?hyb33 ?restb33
          case hyb33 => (intro o ho w; simp only [List.getElem?_toArray, List.getElem?_cons_succ, List.getElem?_cons_zero, Option.some.injEq] at ho; subst ho; go_simp; try rfl)
          simp only [Act.put, List.setIfInBounds_toArray, List.set_cons_zero, List.set_cons_succ]
          refine takeH 34 (some 146) ?vb34 (by kernel_rfl) (by kernel_rfl) (by kernel_rfl) (by kernel_rfl) (fun _ _ _ h => h) (by rfl) ?hyb34 ?restb34
          case hyb34 => (intro o ho w; simp only [List.getElem?_toArray, List.getElem?_cons_succ, List.getElem?_cons_zero, Option.some.injEq] at ho; subst ho; go_simp; try rfl)
          simp only [Act.put, List.setIfInBounds_toArray, List.set_cons_zero, List.set_cons_succ]
          refine takeH 35 (some 147) ?vb35 (by kernel_rfl) (by kernel_rfl) (by kernel_rfl) (by kernel_rfl) (fun _ _ _ h => h) (by rfl) ?hyb35 ?restb35
          case hyb35 => (intro o ho w; simp only [List.getElem?_toArray, List.getElem?_cons_succ, List.getElem?_cons_zero, Option.some.injEq] at ho; subst ho; go_simp; try rfl)
          simp only [Act.put, List.setIfInBounds_toArray, List.set_cons_zero, List.set_cons_succ]
          refine takeH 38 (some 150) ?vb38 (by kernel_rfl) (by kernel_rfl) (by kernel_rfl) (by kernel_rfl) (fun _ _ _ h => h) (by rfl) ?hyb38 ?restb38
          case hyb38 => (intro o ho w; simp only [List.getElem?_toArray, List.getElem?_cons_succ, List.getElem?_cons_zero, Option.some.injEq] at ho; subst ho; go_simp; try rfl)
          simp only [Act.put, List.setIfInBounds_toArray, List.set_cons_zero, List.set_cons_succ]
          refine takeH 39 (some 151) ?vb39 (by kernel_rfl) (by kernel_rfl) (by kernel_rfl) (by kernel_rfl) (fun _ _ _ h => h) (by rfl) ?hyb39 ?restb39
          case hyb39 => (intro o ho w; simp only [List.getElem?_toArray, List.getElem?_cons_succ, List.getElem?_cons_zero, Option.some.injEq] at ho; subst ho; go_simp; try rfl)
          simp only [Act.put, List.setIfInBounds_toArray, List.set_cons_zero, List.set_cons_succ]
          refine takeH 40 (some 152) ?vb40 (by kernel_rfl) (by kernel_rfl) (by kernel_rfl) (by kernel_rfl) (fun _ _ _ h => h) (by rfl) ?hyb40 ?restb40
          case hyb40 => (intro o ho w; simp only [List.getElem?_toArray, List.getElem?_cons_succ, List.getElem?_cons_zero, Option.some.injEq] at ho; subst ho; go_simp; try rfl)
          simp only [Act.put, List.setIfInBounds_toArray, List.set_cons_zero, List.set_cons_succ]
          refine nextH 36 (by kernel_rfl) (by rfl) (fun o ho K hK => ?_)
          simp only [List.getElem?_toArray, List.getElem?_cons_succ, List.getElem?_cons_zero, Option.some.injEq] at ho; subst ho
          go_simp
          refine hK.out _ _ ?_
          clear hK K
          try simp only [Act.put, List.setIfInBounds_toArray, List.set_cons_zero, List.set_cons_succ]
          refine nextH 37 (by kernel_rfl) (by rfl) (fun o ho K hK => ?_)
          simp only [List.getElem?_toArray, List.getElem?_cons_succ, List.getElem?_cons_zero, Option.some.injEq] at ho; subst ho
          go_simp
          (go_at_call 16; (with_reducible refine (on_made (n := j) HJ1 ((hzr.drewN _).alloc _) (cO2.out _ _ _ ?_)).mono ?_); (exact lit_row _ _ _ _ _ _ (by rfl) (by rfl) (by simp)); rintro e w7 ⟨A7, c7, rfl, h71, h72, r7, hz7, hb7⟩)
          first | (refine hK.out _ _ ?_) | (go_wp2_with fail; refine hK.out _ _ ?_)
          clear hK K
          try simp only [Act.put, List.setIfInBounds_toArray, List.set_cons_zero, List.set_cons_succ]
          refine nextH 41 (by kernel_rfl) (by rfl) (fun o ho K hK => ?_)
          simp only [List.getElem?_toArray, List.getElem?_cons_succ, List.getElem?_cons_zero, Option.some.injEq] at ho; subst ho
          go_simp
          (go_at_call 13; (with_reducible refine (cE2.out _ _ _ _ _ r7 (hBj.since hz7)).mono ?_); rintro e w8 ⟨rfl, q8, rfl⟩)
          first | (refine hK.out _ _ ?_) | (go_wp2_with fail; refine hK.out _ _ ?_)
          clear hK K
          try simp only [Act.put, List.setIfInBounds_toArray, List.set_cons_zero, List.set_cons_succ]
          refine takeH 42 (some 154) ?vb42 (by kernel_rfl) (by kernel_rfl) (by kernel_rfl) (by kernel_rfl) (fun _ _ _ h => h) (by rfl) ?hyb42 ?restb42
          case hyb42 => (intro o ho w; simp only [List.getElem?_toArray, List.getElem?_cons_succ, List.getElem?_cons_zero, Option.some.injEq] at ho; subst ho; go_simp; try rfl)
          simp only [Act.put, List.setIfInBounds_toArray, List.set_cons_zero, List.set_cons_succ]
          refine takeH 43 (some 155) ?vb43 (by kernel_rfl) (by kernel_rfl) (by kernel_rfl) (by kernel_rfl) (fun _ _ _ h => h) (by rfl) ?hyb43 ?restb43
          case hyb43 => (intro o ho w; simp only [List.getElem?_toArray, List.getElem?_cons_succ, List.getElem?_cons_zero, Option.some.injEq] at ho; subst ho; go_simp; try rfl)
          simp only [Act.put, List.setIfInBounds_toArray, List.set_cons_zero, List.set_cons_succ]
          refine takeH 44 (some 156) ?vb44 (by kernel_rfl) (by kernel_rfl) (by kernel_rfl) (by kernel_rfl) (fun _ _ _ h => h) (by rfl) ?hyb44 ?restb44
          case hyb44 => (intro o ho w; simp only [List.getElem?_toArray, List.getElem?_cons_succ, List.getElem?_cons_zero, Option.some.injEq] at ho; subst ho; go_simp; try rfl)
          simp only [Act.put, List.setIfInBounds_toArray, List.set_cons_zero, List.set_cons_succ]
          refine takeH 45 (some 157) ?vb45 (by kernel_rfl) (by kernel_rfl) (by kernel_rfl) (by kernel_rfl) (fun _ _ _ h => h) (by rfl) ?hyb45 ?restb45
          case hyb45 => (intro o ho w; simp only [List.getElem?_toArray, List.getElem?_cons_succ, List.getElem?_cons_zero, Option.some.injEq] at ho; subst ho; go_simp; try rfl)
          simp only [Act.put, List.setIfInBounds_toArray, List.set_cons_zero, List.set_cons_succ]
          refine wpAnyH_done (by kernel_rfl) ?_ _
          refine NoPanic.normal ?_
          all_goals
            go_wp2_with (go_at_call 12; (with_reducible refine (on (hz7.drewN _) (known_any _)).mono ?_); rintro e w9 ⟨rfl, hz9⟩)
            go_ret
            exact ⟨rfl, hz9.below⟩
        · have hez : ((e : Int) == 0) = false := by rw [beq_eq_false_iff_ne]; omega
          have hez1 : decide (e = 0) = false := decide_eq_false (by omega)
          have hez2 : (e == 0) = false := by rw [beq_eq_false_iff_ne]; omega
          have hfz : ((f : Int) == 0) = false := by rw [beq_eq_false_iff_ne]; omega
          have hfz1 : decide (f = 0) = false := decide_eq_false (by omega)
          have hfz2 : (f == 0) = false := by rw [beq_eq_false_iff_ne]; omega
          have HEE := Lib.hid h0
          have HFF := Lib.hid g0
          clear h0 g0 hO hS
          go_wp2_with (first
            | (go_at_call 17; (with_reducible refine (c1.out _ (hB.since hzr)).mono ?_); rintro e w3 ⟨rfl, q3, rfl⟩)
            | (go_at_call 19; (with_reducible refine (c2.out _ (hB.since (hzr.drewN _))).mono ?_); rintro e w4 ⟨rfl, rfl⟩))
          go_quiet (fail)
          all_goals
            go_wp2_with (go_at_call 12; (with_reducible refine (on (hzr.drewN _) (known_any _)).mono ?_); rintro e w9 ⟨rfl, hz9⟩)
            go_ret
            exact ⟨rfl, hz9.below⟩

theorem back_all (a : Option Addr) (len cap : Nat) (zs : List Int) (a2 : Option Addr) (len2 cap2 : Nat) (zs2 : List Int) (W : World) (h : IsRow .u64 W a len cap zs) (h2 : IsRow .u8 W a2 len2 cap2 zs2) :
    Calls Try.prog 5 #[.slice a len cap, .slice a2 len2 cap2] W fun e w' => e = .returned (.bool true) ∧ Below W.heap.size W w' := by
  obtain ⟨l, hr, hl, h3, h4⟩ := h.words
  obtain ⟨k, hs, hk, h5, h6⟩ := h2.bytes
  obtain ⟨m, hm1, hm2, hmin⟩ := min_run len 20 20 rfl
  obtain ⟨m', hm3, hm4, hmin2⟩ := min_run len2 20 20 rfl
  obtain ⟨A1, hcut, hR⟩ := upto_run_w a len cap m m rfl (by omega)
  obtain ⟨B1, hcut2, hR2⟩ := upto_run_b a2 len2 cap2 m' m' rfl (by omega)
  have q1 := hR W _ hr hm1
  have q2 := hR2 W _ hs hm3
  rw [wds_take] at q1
  rw [bys_take] at q2
  exact back_cut a A1 a2 B1 len cap len2 cap2 m m' _ _ W q1 ⟨fun b hb => hl.out b (List.mem_of_mem_take hb)⟩ hm2 q2 ⟨fun b hb => hk.out b (List.mem_of_mem_take hb)⟩ hm4 hm1 h3 (by omega) h6 _ _ ⟨rfl⟩ ⟨rfl⟩ _ _ _ _ _ _ rfl rfl hmin hmin2 hcut hcut2
end Go.Proofs.Ytkjnaflifepncaa
