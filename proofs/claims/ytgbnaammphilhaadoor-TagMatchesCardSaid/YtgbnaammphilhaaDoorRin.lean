/-
  The document's In.
-/
import Derived.Test.YtgbnaammphilhaaDoorPrw
set_option linter.unusedVariables false
set_option linter.unusedSimpArgs false
namespace Go.Proofs.YtgbnaammphilhaaDoor
open Go.RowKit
attribute [local go_sem ↓] Go.wp_at_zero Go.wp_at_succ eq_r ne_r
attribute [local go_sem] run_eqr run_ner block_of_add cell_ext

/-- Is it in? -/
def inr (l : List D.Pt) (a b c : ByteArray) : Bool := l.any fun p => s3 (D.sb p.l) (D.sb p.s) (D.sb p.r) a b c
theorem inr_next {l : List D.Pt} {k : Nat} {p : D.Pt} {a b c : ByteArray} (hp : l[k]? = some p) (h : inr (l.take k) a b c = false) : inr (l.take (k + 1)) a b c = s3 (D.sb p.l) (D.sb p.s) (D.sb p.r) a b c := by
  rw [List.take_add_one, hp]
  unfold inr at h ⊢
  rw [List.any_append, h]
  simp
theorem inr_yes {l : List D.Pt} {k : Nat} {a b c : ByteArray} (h : inr (l.take k) a b c = true) : inr l a b c = true := by
  unfold inr at h ⊢
  rw [List.any_eq_true] at h ⊢
  obtain ⟨p, hp, h⟩ := h
  exact ⟨p, List.mem_of_mem_take hp, h⟩
theorem inr_iff {l : List D.Pt} {q : D.Pt} (hl : ∀ p ∈ l, D.Can p) (hq : D.Can q) : inr l (D.sb q.l) (D.sb q.s) (D.sb q.r) = decide (q ∈ l) := by
  unfold inr
  rw [Bool.eq_iff_iff, List.any_eq_true, decide_eq_true_eq]
  constructor
  · rintro ⟨p, hp, h⟩
    rw [s3_iff (can_lt (hl p hp)) (can_lt hq)] at h
    have := of_decide_eq_true h
    subst this
    exact hp
  · intro h
    exact ⟨q, h, by rw [s3_iff (can_lt hq) (can_lt hq)]; simp⟩
set_option maxRecDepth 100000 in
set_option maxHeartbeats 4000000 in
theorem in_any (A : Option Addr) (n cap : Nat) (l : List D.Pt) (a b c : ByteArray) (w : World) (hr : FRow w A n l) (hn : n ≤ 1000) :
    Calls Tryd.prog 21 #[.slice A n cap, .agg #[.string a, .string b, .string c]] w fun e w' => e = .returned (.bool (inr l a b c)) ∧ Below w.heap.size w w' := by
  have B0 := Blk.new w 23 #[.string a, .string b, .string c]
  have b0 := below_alloc_ w (.cells #[.string a, .string b, .string c] 23)
  have r0 := hr.on b0
  have hlen := hr.len
  go_enter Tryd.func21, Tryd.ntmps21
  go_wp2
  go_loopw [5] (fun i wr => ∃ k : Nat, k ≤ n ∧ i = .int .i64 k ∧ inr (l.take k) a b c = false ∧ FRow wr A n l ∧ Blk wr w.heap.size 23 #[.string a, .string b, .string c] ∧ Below w.heap.size w wr) (fun i _ => n - (intOf i).toNat)
  case atStart => exact ⟨0, Nat.zero_le _, rfl, rfl, r0, B0, b0⟩
  case round =>
    clear r0 B0 b0
    obtain ⟨k, hk, rfl, hno, rr, B, bb⟩ := hrel
    by_cases hlt : k < n
    · obtain ⟨p, hp, hpm⟩ := fat_lt (l := l) (i := k) (by omega)
      have hnx := inr_next hp hno
      obtain ⟨ad, rfl, hadl, -⟩ := rr.ats (by omega)
      obtain ⟨ad', e', d0, d1, d2⟩ := rr.at_ hp
      injection e' with e'
      subst e'
      obtain ⟨a3, ha⟩ : ∃ a3, D.sb p.l = a3 := ⟨_, rfl⟩
      obtain ⟨b3, hb'⟩ : ∃ b3, D.sb p.s = b3 := ⟨_, rfl⟩
      obtain ⟨c3', hc'⟩ : ∃ c3', D.sb p.r = c3' := ⟨_, rfl⟩
      rw [ha, hb', hc'] at hnx
      rw [ha] at d0
      rw [hb'] at d1
      rw [hc'] at d2
      have d1' := d1
      have d2' := d2
      rw [block_of_add] at d1' d2'
      have i0 : (0 : Int) ≤ (k : Int) := by omega
      have i2 : (k : Int) < (n : Int) := by omega
      obtain ⟨⟨y0, y1, y2⟩, -⟩ := blk3 B
      have sB := B.lt
      clear hp hpm ha hb' hc' hno
      cases hz : s3 a3 b3 c3' a b c with
      | true =>
        rw [hz] at hnx
        have HY := Lib.hid (inr_yes hnx)
        clear hnx
        go_wp2_with fail
        refine wp_region_ext (by kernel_rfl) (by kernel_rfl) ?_
        repeat (go_big_quiet_step (fail))
        refine wpQuiet_nil ?_
        intro w5 hw5
        have b5 := bb.trans ((ext_to hw5).mono bb.size)
        clear hw5
        go_wp2
        go_ret
        exact ⟨bool_of HY.out.symm, b5⟩
      | false =>
        rw [hz] at hnx
        have HY := Lib.hid hnx
        clear hnx
        go_wp2_with fail
        refine wp_region_ext (by kernel_rfl) (by kernel_rfl) ?_
        repeat (go_big_quiet_step (fail))
        refine wpQuiet_nil ?_
        intro w5 hw5
        have b5 := ext_to hw5
        clear hw5
        have r5 := rr.on b5
        have B5 := B.on b5
        have bb5 := bb.trans (b5.mono bb.size)
        go_wp2
        go_roundw
        case rel => exact ⟨k + 1, by omega, by go_num, HY.out, r5, B5, bb5⟩
        case measure => simp [intOf]; omega
    · have hk2 : l.take k = l := List.take_of_length_le (by omega)
      rw [hk2] at hno
      have HY := Lib.hid hno
      have i2 : ¬ ((k : Int) < (n : Int)) := by omega
      clear hno hk2
      go_wp2
      go_ret
      exact ⟨bool_of HY.out.symm, bb⟩
end Go.Proofs.YtgbnaammphilhaaDoor
