/-
  The reference's lists: In, Without, Insert.
-/
import Derived.Test.YtgfpdfafkimkcaaSorts
set_option linter.unusedVariables false
set_option linter.unusedSimpArgs false
namespace Go.Proofs.Ytgfpdfafkimkcaa
open Go.RowKit Go.Sort
attribute [local go_sem ↓] Go.wp_at_zero Go.wp_at_succ ld_a ld_n st_a st_n eq_a eq_n ne_a ne_n bsl_a bsl_n lv_a lv_n
attribute [local go_sem] run_ld_a run_ld_n run_st_n run_eq_a run_eq_n run_ne_a run_ne_n run_bsl1_a run_bsl1_n run_bsl2 run_lv_a run_lv_n st_z ne_z rd_new rd_old rd_drew rd_drewN rd_ext

/-- A slice of names cut at its beginning, as one run equation. -/
theorem from_n (t : TypeId) (ht : t = 38 ∨ t = 37) (A : Option Addr) (n c k : Nat) (z : Int) (hz : z = k) (hk : k ≤ n) : ∃ A1, (∀ W, (Instr.slice t (.slice A n c) (some (.int .i64 z)) none none).run Try.prog W = .ok (.slice A1 (n - k) (c - k)) W) ∧
    ∀ W l, NRow W A n l → n ≤ c → NRow W A1 (n - k) (l.drop k) := by
  subst hz
  refine ⟨if c = k then A else A.map (·.add (k * 12)), fun W => ?_, fun W xs h hc => h.cut hk hc⟩
  rcases ht with rfl | rfl
  · rw [run_slice_l W 38 A n c (by kernel_rfl) .i64 k (by omega) (by omega)]
    simp [Result.andThen, sliced, go_sem]
  · rw [run_slice_l W 37 A n c (by kernel_rfl) .i64 k (by omega) (by omega)]
    simp [Result.andThen, sliced, go_sem]
/-- A slice of names cut at its end. -/
theorem upto_n (t : TypeId) (ht : t = 38 ∨ t = 37) (A : Option Addr) (n c k : Nat) (hk : k ≤ c) : ∀ W, (Instr.slice t (.slice A n c) none (some (.int .i64 (k : Int))) none).run Try.prog W = .ok (.slice A k c) W := by
  intro W
  have : ∀ a : Addr, a.add 0 = a := add_zero_
  rcases ht with rfl | rfl
  · rw [run_slice_h W 38 A n c (by kernel_rfl) .i64 k (by omega) (by omega)]
    simp [Result.andThen, sliced, go_sem]
  · rw [run_slice_h W 37 A n c (by kernel_rfl) .i64 k (by omega) (by omega)]
    simp [Result.andThen, sliced, go_sem]

set_option maxRecDepth 100000 in
set_option maxHeartbeats 1000000 in
theorem in_any (A : Option Addr) (n c : Nat) (l : List D.Nm) (x : D.Nm) (w : World) (hl : NRow w A n l) (hn : n ≤ 1000) :
    Calls Try.prog 21 #[.slice A n c, .agg (nc x)] w fun e w' => e = .returned (.int .i64 (D.cnt l x : Nat)) ∧ Below w.heap.size w w' := by
  go_enter Try.func21, Try.ntmps21
  go_wp2
  go_loopw [5, 6] (fun s i wr => ∃ (k m : Nat), k ≤ n ∧ m ≤ k ∧ i = .int .i64 k ∧ s = .int .i64 m ∧ Kept (D.cnt (l.take k) x = m) ∧ rd wr ⟨w.heap.size, 0, none⟩ = some x ∧ w.heap.size < wr.heap.size ∧ Below w.heap.size w wr) (fun _ i _ => n - (intOf i).toNat)
  case atStart => exact ⟨0, 0, Nat.zero_le _, Nat.le_refl _, rfl, rfl, ⟨rfl⟩, rd_new _ _ _ _ rfl, by simp, below_alloc_ _ _⟩
  case round =>
    obtain ⟨k, m, hk, hm, rfl, rfl, HC, hx0, hsz, hb⟩ := hrel
    by_cases hlt : k < n
    · obtain ⟨y, hy⟩ := nat_lt (l := l) (i := k) (by rw [hl.len]; exact hlt)
      obtain ⟨ad, rfl, hadl, hr⟩ := (hl.on hb).rd hy
      have hadl2 : (ad.add (k * 12)).block < wr.heap.size := by rw [block_of_add]; exact hadl
      have HN := D.cnt_next hy x
      rw [HC.out] at HN
      have i1 : (k : Int) < (n : Int) := by omega
      have i0 : (0 : Int) ≤ (k : Int) := by omega
      clear HC hy
      cases hs : sm y x
      · have HN2 : Kept (D.cnt (l.take (k + 1)) x = m) := ⟨by rw [HN, if_neg (by simpa [sm] using hs)]⟩
        clear HN
        go_wp2_with fail
        refine wp_region_ext (by kernel_rfl) (by kernel_rfl) ?_
        repeat (go_big_quiet_step (fail))
        refine wpQuiet_nil ?_
        intro w5 hw5
        have b5 := ext_to hw5
        clear hw5
        go_wp2
        go_roundw
        case rel => exact ⟨k + 1, m, by omega, by omega, by go_num, rfl, HN2, rd_on hx0 b5, Nat.lt_of_lt_of_le hsz b5.size, hb.trans (b5.mono hb.size)⟩
        case measure => simp [intOf]; omega
      · have HN2 : Kept (D.cnt (l.take (k + 1)) x = m + 1) := ⟨by rw [HN, if_pos (by simpa [sm] using hs)]⟩
        clear HN
        go_wp2_with fail
        refine wp_region_ext (by kernel_rfl) (by kernel_rfl) ?_
        repeat (go_big_quiet_step (fail))
        refine wpQuiet_nil ?_
        intro w5 hw5
        have b5 := ext_to hw5
        clear hw5
        go_wp2
        go_roundw
        case rel => exact ⟨k + 1, m + 1, by omega, by omega, by go_num, by go_num, HN2, rd_on hx0 b5, Nat.lt_of_lt_of_le hsz b5.size, hb.trans (b5.mono hb.size)⟩
        case measure => simp [intOf]; omega
    · have e : l.take k = l := List.take_of_length_le (by rw [hl.len]; omega)
      rw [e] at HC
      have i1 : (n : Int) ≤ (k : Int) := by omega
      clear e
      go_wp2
      go_ret
      exact ⟨by rw [HC.out]; rfl, hb⟩

/-- What a call of the reference that makes a slice of names tells. -/
def MadeA (l : List D.Nm) (w : World) (e : Ending) (w' : World) : Prop :=
  ∃ B m c, e = .returned (.slice B m c) ∧ NOwn w.heap.size 22 w' B m c l ∧ Below w.heap.size w w'
set_option maxRecDepth 100000 in
set_option maxHeartbeats 1000000 in
theorem without_any (A : Option Addr) (n c : Nat) (l : List D.Nm) (x : D.Nm) (w : World) (hl : NRow w A n l) (hn : n ≤ 1000) :
    Calls Try.prog 22 #[.slice A n c, .agg (nc x)] w (MadeA (D.wo l x) w) := by
  go_enter Try.func22, Try.ntmps22
  go_wp2
  go_loopw [5, 6] (fun s i wr => ∃ (k : Nat) (B : Option Addr) (m d : Nat), k ≤ n ∧ m ≤ k ∧ i = .int .i64 k ∧ s = .slice B m d ∧ NOwn w.heap.size 22 wr B m d (D.wo (l.take k) x) ∧ rd wr ⟨w.heap.size, 0, none⟩ = some x ∧ w.heap.size < wr.heap.size ∧ (∀ g, (Value.slice B m d).ownBlock = some g → w.heap.size < g) ∧ Below w.heap.size w wr) (fun _ i _ => n - (intOf i).toNat)
  case atStart => exact ⟨0, none, 0, 0, Nat.zero_le _, Nat.le_refl _, rfl, rfl, NOwn.nil (by simp), rd_new _ _ _ _ rfl, by simp, (by intro g h; cases h), below_alloc_ _ _⟩
  case round =>
    obtain ⟨k, B, m, d, hk, hm, rfl, rfl, ho, hx0, hsz, hg, hb⟩ := hrel
    by_cases hlt : k < n
    · obtain ⟨y, hy⟩ := nat_lt (l := l) (i := k) (by rw [hl.len]; exact hlt)
      obtain ⟨ad, rfl, hadl, hr⟩ := (hl.on hb).rd hy
      have hadl2 : (ad.add (k * 12)).block < wr.heap.size := by rw [block_of_add]; exact hadl
      have HN := D.wo_next hy x
      obtain ⟨K, hK⟩ : ∃ K, D.wo (l.take k) x = K := ⟨_, rfl⟩
      rw [hK] at HN ho
      have i1 : (k : Int) < (n : Int) := by omega
      have i0 : (0 : Int) ≤ (k : Int) := by omega
      clear hK hy
      cases hs : sm y x
      · have HN2 : Kept (D.wo (l.take (k + 1)) x = K ++ [y]) := ⟨by rw [HN, if_neg (by simpa [sm] using hs)]⟩
        clear HN
        go_wp2_with fail
        refine wp_region_ext (by kernel_rfl) (by kernel_rfl) ?_
        repeat (go_big_quiet_step (fail))
        refine wpQuiet_nil ?_
        intro w5 hw5
        have b5 := ext_to hw5
        clear hw5
        have ho5 := ho.on b5
        have hr5 := rd_on hr b5
        go_wp2_with (at_builtin; refine napp _ ty_a rfl (.tmp 19) (.tmp 24) rfl rfl (ho5.alloc _) rfl (nrow_one w5 _ _ y rfl) (by omega) ?_; intro A1 c1 w3 ho3 hg3 hat3)
        have bb := (hb.trans (b5.mono hb.size))
        have hx5 := rd_on (rd_on hx0 b5) (below_alloc_ _ (.cells (nc y) 22))
        have s5 : w.heap.size < w5.heap.size := Nat.lt_of_lt_of_le hsz b5.size
        go_roundw
        case rel =>
          refine ⟨k + 1, A1, m + 1, c1, by omega, by omega, by go_num, rfl, by rw [HN2.out]; exact ho3, ?_, ?_, ?_, ?_⟩
          · exact (rd_to (hg3.block _ (by simp; omega) (fun e => Nat.lt_irrefl _ (hg _ e.symm)))).trans hx5
          · exact Nat.lt_of_lt_of_le s5 (Nat.le_trans (by simp) hg3.size)
          · intro g h
            rcases hat3 with h1 | h1
            · exact hg g (by rw [← h1]; exact h)
            · rw [h1] at h
              injection h with h
              subst h
              simp
              omega
          · exact (bb.alloc bb.size _).trans (grown_new (ho5.alloc _) (Nat.le_refl _) hg3)
        case measure => simp [intOf]; omega
      · have HN2 : Kept (D.wo (l.take (k + 1)) x = K) := ⟨by rw [HN, if_pos (by simpa [sm] using hs)]⟩
        clear HN
        go_wp2_with fail
        refine wp_region_ext (by kernel_rfl) (by kernel_rfl) ?_
        repeat (go_big_quiet_step (fail))
        refine wpQuiet_nil ?_
        intro w5 hw5
        have b5 := ext_to hw5
        clear hw5
        go_wp2
        go_roundw
        case rel => exact ⟨k + 1, B, m, d, by omega, by omega, by go_num, rfl, by rw [HN2.out]; exact ho.on b5, rd_on hx0 b5, Nat.lt_of_lt_of_le hsz b5.size, hg, hb.trans (b5.mono hb.size)⟩
        case measure => simp [intOf]; omega
    · have e : l.take k = l := List.take_of_length_le (by rw [hl.len]; omega)
      rw [e] at ho
      have i1 : (n : Int) ≤ (k : Int) := by omega
      clear e
      go_wp2
      go_ret
      exact ⟨B, m, d, rfl, ho, hb⟩

theorem ins_at {l : List D.Nm} {x : D.Nm} {k : Nat} (h : ∀ j y, j < k → l[j]? = some y → D.less x y = false) (he : l.length ≤ k ∨ ∃ y, l[k]? = some y ∧ D.less x y = true) : D.ins l x = l.take k ++ [x] ++ l.drop k := by
  have h1 : ∀ (l : List D.Nm) (k : Nat), (∀ j y, j < k → l[j]? = some y → D.less x y = false) → (l.length ≤ k ∨ ∃ y, l[k]? = some y ∧ D.less x y = true) → l.takeWhile (fun y => !D.less x y) = l.take k ∧ l.dropWhile (fun y => !D.less x y) = l.drop k := by
    intro l
    induction l with
    | nil => intro k _ _; simp
    | cons y l ih =>
      intro k h he
      cases k with
      | zero =>
        rcases he with he | ⟨z, hz, hl⟩
        · simp at he
        · simp at hz
          subst hz
          simp [hl]
      | succ k =>
        have hy := h 0 y (by omega) (by simp)
        obtain ⟨e1, e2⟩ := ih k (fun j z hj hz => h (j + 1) z (by omega) (by simpa using hz)) (he.imp (by simp) (by simp))
        simp [hy, e1, e2]
  obtain ⟨e1, e2⟩ := h1 l k h he
  unfold D.ins
  rw [e1, e2]
  simp
end Go.Proofs.Ytgfpdfafkimkcaa
