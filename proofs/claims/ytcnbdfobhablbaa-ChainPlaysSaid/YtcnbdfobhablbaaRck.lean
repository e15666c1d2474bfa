/-
  The program's Check.
-/
import Derived.Test.YtcnbdfobhablbaaRwe
set_option linter.unusedVariables false
set_option linter.unusedSimpArgs false
set_option maxRecDepth 100000
namespace Go.Proofs.Ytcnbdfobhablbaa
open Go.RowKit
attribute [local go_sem ↓] Go.wp_at_zero Go.wp_at_succ

theorem setRow_alloc2 (w : World) (n : Nat) (cs cs' : Array Value) (t : TypeId) (o : Obj) (h : n = w.heap.size) : ((w.alloc (.cells cs t)).alloc o).setRow n cs' = (w.alloc (.cells cs' t)).alloc o := by
  subst h
  simp only [World.setRow, World.alloc]
  congr 1
  apply Array.ext_getElem?
  intro k
  rw [Array.getElem?_modify]
  by_cases e : w.heap.size = k
  · subst e; simp [Array.getElem?_push]
  · rw [if_neg e]
    simp only [Array.getElem?_push, Array.size_push]
    by_cases h1 : k = w.heap.size + 1
    · simp [h1]
    · have h2 : k ≠ w.heap.size := fun h => e h.symm
      simp [h1, h2]
attribute [local go_sem ↓] ld_r st_r bd_r ne_r
attribute [local go_sem] run_ldr run_str run_bdr1 run_ner Shp.rd_new Shp.rd_old Shp.tn_new Shp.tn_old setRow_alloc setRow_alloc2
theorem rb_two (w : World) (r : D.Rc) (n : Nat) (T : TypeId) (cs : Array Value) (h : n = w.heap.size + 1) : RB (((w.alloc (.cells (rS.v r) 30)).alloc (.cells (rS.v r) 30)).alloc (.cells cs T)) n r := by
  subst h
  have := RB.new (w.alloc (.cells (rS.v r) 30)) (w.heap.size + 1) r (by simp)
  exact this.on (below_alloc _ _)
theorem eb_three (w : World) (r : D.Rc) (n : Nat) (h : n = w.heap.size + 2) : EB (((w.alloc (.cells (rS.v r) 30)).alloc (.cells (rS.v r) 30)).alloc (.cells #[.int .i64 0] 46)) n 0 := by
  subst h
  have := Blk.new ((w.alloc (.cells (rS.v r) 30)).alloc (.cells (rS.v r) 30)) 46 #[.int .i64 0]
  simpa [EB] using this
set_option maxHeartbeats 2000000 in
theorem check_kind (r : D.Rc) (w : World) (hk : r.k = 0 ∨ 6 < r.k) :
    Calls Try.prog 40 #[.agg (rS.v r)] w fun en w' => en = .returned (.int .i64 16) ∧ Below w.heap.size w w' := by
  have HK := Lib.hid hk
  clear hk
  go_enter Try.func40, Try.ntmps40
  go_wp2_with fail
  have R0 := ((RB.new w w.heap.size r rfl).on (below_alloc _ (.cells (rS.v r) 30))).on (below_alloc _ (.cells #[.int .i64 0] 46))
  have R1 := rb_two w r (w.heap.size + 1) 46 #[.int .i64 0] rfl
  have E0 := eb_three w r (w.heap.size + 1 + 1) rfl
  have B0 : Below w.heap.size w (((w.alloc (.cells (rS.v r) 30)).alloc (.cells (rS.v r) 30)).alloc (.cells #[.int .i64 0] 46)) := (((Below.refl _ _).alloc (Nat.le_refl _) _).alloc (by simp) _).alloc (by simp; omega) _
  have CW := Lib.hid (weighing_any (w.heap.size + 1 + 1) (((w.alloc (.cells (rS.v r) 30)).alloc (.cells (rS.v r) 30)).alloc (.cells #[.int .i64 0] 46)))
  generalize ((w.alloc (.cells (rS.v r) 30)).alloc (.cells (rS.v r) 30)).alloc (.cells #[.int .i64 0] 46) = W at R0 R1 E0 B0 CW ⊢
  have HR := Lib.hid R1
  have HB := Lib.hid B0
  clear R0 R1 E0 B0
  go_wp2_with (first
    | (go_at_call 49; (with_reducible refine CW.out.mono ?_); rintro en w1 ⟨rfl, g1, b1⟩; have B1 := Lib.hid b1; have CE := Lib.hid (each_none (actW (W.heap.size + 2)) (w.heap.size + 1) r.k w1 (rf_of (HR.out.on b1).rd).1 HK.out); clear g1 b1)
    | (go_at_call 48; (with_reducible refine CE.out.mono ?_); rintro en w2 ⟨rfl, b2⟩; have B2 := Lib.hid b2; clear b2))
  go_ret
  exact ⟨rfl, (HB.out.trans (B1.out.mono HB.out.size)).trans (B2.out.mono (Nat.le_trans HB.out.size B1.out.size))⟩
theorem D.chk_bad {r : D.Rc} (hk : ¬ (r.k = 0 ∨ 6 < r.k)) (h : D.rinse r ≠ D.bare r.k) : D.chk r = 3 := by
  unfold D.chk
  rw [if_neg hk, if_pos h]
theorem D.chk_err {r : D.Rc} (hk : ¬ (r.k = 0 ∨ 6 < r.k)) (h : D.rinse r = D.bare r.k) (h2 : D.amiss r ≠ 0) : D.chk r = D.amiss r := by
  unfold D.chk
  rw [if_neg hk, if_neg (fun k => k h), if_pos h2]
theorem D.chk_gone {r : D.Rc} (hk : ¬ (r.k = 0 ∨ 6 < r.k)) (h : D.rinse r = D.bare r.k) (h2 : D.amiss r = 0) : D.chk r = if r.g = true ∧ r.t.size ≠ 0 then 3 else 0 := by
  unfold D.chk
  rw [if_neg hk, if_neg (fun k => k h), if_neg (fun k => k h2)]
/-- What Check leaves behind each: where the records and the error lie. -/
structure Ck (w w2 : World) (r y : D.Rc) (e : Nat) : Prop where
  b : Below w.heap.size w w2
  r0 : RB w2 w.heap.size r
  r1 : RB w2 (w.heap.size + 1) y
  e0 : EB w2 (w.heap.size + 1 + 1) e
theorem ck_of {w W w1 w2 : World} {r y : D.Rc} {e : Nat} (B0 : Below w.heap.size w W) (R0 : RB W w.heap.size r) (R1 : RB W (w.heap.size + 1) r) (E0 : EB W (w.heap.size + 1 + 1) 0) (b1 : Below W.heap.size W w1)
    (k : Only (Pg (w.heap.size + 1) (w.heap.size + 1 + 1)) w1 w2) (r1 : RB w2 (w.heap.size + 1) y) (e0 : EB w2 (w.heap.size + 1 + 1) e) : Ck w w2 r y e := by
  refine ⟨?_, (R0.on b1).only k ?_, r1, e0⟩
  · exact (B0.trans (b1.mono B0.size)).trans (k.below (Nat.le_trans B0.size b1.size) fun i hi => by rcases hi with hi | hi <;> omega)
  · rintro (h | h) <;> omega
set_option maxHeartbeats 4000000 in
theorem check_bad (r : D.Rc) (w : World) (hr : r.wf) (hk : ¬ (r.k = 0 ∨ 6 < r.k)) (h : D.rinse r ≠ D.bare r.k) :
    Calls Try.prog 40 #[.agg (rS.v r)] w fun en w' => en = .returned (.int .i64 3) ∧ Below w.heap.size w w' := by
  have HK := Lib.hid hk
  have HR := Lib.hid hr
  obtain ⟨y, hy⟩ : ∃ y, D.rinse r = y := ⟨_, rfl⟩
  have HY := Kept.mk hy
  rw [hy] at h
  have hd : decide (y = D.bare r.k) = false := by simpa using h
  clear hk hr hy h
  go_enter Try.func40, Try.ntmps40
  go_wp2_with fail
  have R0 := ((RB.new w w.heap.size r rfl).on (below_alloc _ (.cells (rS.v r) 30))).on (below_alloc _ (.cells #[.int .i64 0] 46))
  have R1 := rb_two w r (w.heap.size + 1) 46 #[.int .i64 0] rfl
  have E0 := eb_three w r (w.heap.size + 1 + 1) rfl
  have B0 : Below w.heap.size w (((w.alloc (.cells (rS.v r) 30)).alloc (.cells (rS.v r) 30)).alloc (.cells #[.int .i64 0] 46)) := (((Below.refl _ _).alloc (Nat.le_refl _) _).alloc (by simp) _).alloc (by simp; omega) _
  have CW := Lib.hid (weighing_any (w.heap.size + 1 + 1) (((w.alloc (.cells (rS.v r) 30)).alloc (.cells (rS.v r) 30)).alloc (.cells #[.int .i64 0] 46)))
  generalize ((w.alloc (.cells (rS.v r) 30)).alloc (.cells (rS.v r) 30)).alloc (.cells #[.int .i64 0] 46) = W at R0 R1 E0 B0 CW ⊢
  have XR0 := Lib.hid R0
  have XR1 := Lib.hid R1
  have XE0 := Lib.hid E0
  have HB := Lib.hid B0
  clear R0 R1 E0 B0
  go_wp2_with (first
    | (go_at_call 49; (with_reducible refine CW.out.mono ?_); rintro en w1 ⟨rfl, g1, b1⟩; have B1 := Lib.hid b1; have CE := Lib.hid (each_weigh (w.heap.size + 1) (w.heap.size + 1 + 1) W.heap.size (W.heap.size + 2) r w1 HR.out g1 (XR1.out.on b1) (XE0.out.on b1) HK.out); clear g1 b1)
    | (go_at_call 48; (with_reducible refine CE.out.mono ?_); rintro en w2 ⟨rfl, e2, r2, k2⟩; have K := Lib.hid (ck_of HB.out XR0.out XR1.out XE0.out B1.out k2 r2 e2); rw [HY.out] at K; clear e2 r2 k2; have f1 := K.out.r1.rd; have f0 := (rf_of K.out.r0.rd).1))
  go_ret
  exact ⟨rfl, K.out.b⟩
set_option maxHeartbeats 4000000 in
theorem check_err (r : D.Rc) (w : World) (hr : r.wf) (hk : ¬ (r.k = 0 ∨ 6 < r.k)) (h : D.rinse r = D.bare r.k) (h2 : D.amiss r ≠ 0) :
    Calls Try.prog 40 #[.agg (rS.v r)] w fun en w' => en = .returned (.int .i64 (D.amiss r : Nat)) ∧ Below w.heap.size w w' := by
  have HK := Lib.hid hk
  have HR := Lib.hid hr
  obtain ⟨y, hy⟩ : ∃ y, D.rinse r = y := ⟨_, rfl⟩
  have HY := Kept.mk hy
  rw [hy] at h
  have hd : decide (y = D.bare r.k) = true := by simpa using h
  obtain ⟨e, he⟩ : ∃ e, D.amiss r = e := ⟨_, rfl⟩
  have HE := Kept.mk he
  rw [he] at h2 ⊢
  have hb : ((e : Int) != 0) = true := by simp; exact h2
  clear hk hr hy h he h2
  go_enter Try.func40, Try.ntmps40
  go_wp2_with fail
  have R0 := ((RB.new w w.heap.size r rfl).on (below_alloc _ (.cells (rS.v r) 30))).on (below_alloc _ (.cells #[.int .i64 0] 46))
  have R1 := rb_two w r (w.heap.size + 1) 46 #[.int .i64 0] rfl
  have E0 := eb_three w r (w.heap.size + 1 + 1) rfl
  have B0 : Below w.heap.size w (((w.alloc (.cells (rS.v r) 30)).alloc (.cells (rS.v r) 30)).alloc (.cells #[.int .i64 0] 46)) := (((Below.refl _ _).alloc (Nat.le_refl _) _).alloc (by simp) _).alloc (by simp; omega) _
  have CW := Lib.hid (weighing_any (w.heap.size + 1 + 1) (((w.alloc (.cells (rS.v r) 30)).alloc (.cells (rS.v r) 30)).alloc (.cells #[.int .i64 0] 46)))
  generalize ((w.alloc (.cells (rS.v r) 30)).alloc (.cells (rS.v r) 30)).alloc (.cells #[.int .i64 0] 46) = W at R0 R1 E0 B0 CW ⊢
  have XR0 := Lib.hid R0
  have XR1 := Lib.hid R1
  have XE0 := Lib.hid E0
  have HB := Lib.hid B0
  clear R0 R1 E0 B0
  go_wp2_with (first
    | (go_at_call 49; (with_reducible refine CW.out.mono ?_); rintro en w1 ⟨rfl, g1, b1⟩; have B1 := Lib.hid b1; have CE := Lib.hid (each_weigh (w.heap.size + 1) (w.heap.size + 1 + 1) W.heap.size (W.heap.size + 2) r w1 HR.out g1 (XR1.out.on b1) (XE0.out.on b1) HK.out); clear g1 b1)
    | (go_at_call 48; (with_reducible refine CE.out.mono ?_); rintro en w2 ⟨rfl, e2, r2, k2⟩; have K := Lib.hid (ck_of HB.out XR0.out XR1.out XE0.out B1.out k2 r2 e2); rw [HY.out, HE.out] at K; clear e2 r2 k2; have f1 := K.out.r1.rd; have f0 := (rf_of K.out.r0.rd).1; have f2 := K.out.e0.cell))
  go_ret
  exact ⟨rfl, K.out.b⟩
set_option maxHeartbeats 4000000 in
theorem check_last (k s u p m v a : Nat) (g : Bool) (t : ByteArray) (w : World) (hr : (D.Rc.mk k s u p m g v a t).wf) (hk : ¬ (k = 0 ∨ 6 < k)) (h : D.rinse ⟨k, s, u, p, m, g, v, a, t⟩ = D.bare k) (h2 : D.amiss ⟨k, s, u, p, m, g, v, a, t⟩ = 0) :
    Calls Try.prog 40 #[.agg (rS.v ⟨k, s, u, p, m, g, v, a, t⟩)] w fun en w' => en = .returned (.int .i64 ((if g = true ∧ t.size ≠ 0 then 3 else 0 : Nat) : Int)) ∧ Below w.heap.size w w' := by
  have HK := Lib.hid hk
  have HR := Lib.hid hr
  obtain ⟨y, hy⟩ : ∃ y, D.rinse ⟨k, s, u, p, m, g, v, a, t⟩ = y := ⟨_, rfl⟩
  have HY := Kept.mk hy
  rw [hy] at h
  have hd : decide (y = D.bare k) = true := by simpa using h
  have HE := Kept.mk h2
  obtain ⟨r, hrr⟩ : ∃ r, D.Rc.mk k s u p m g v a t = r := ⟨_, rfl⟩
  obtain ⟨q, hq⟩ : ∃ q : Nat, (if g = true ∧ t.size ≠ 0 then 3 else 0) = q := ⟨_, rfl⟩
  rw [hq]
  have hkr : r.k = k := by rw [← hrr]
  have hfr : ∀ W n, RB W n r → W.cell? ⟨n, 0, none⟩ = some (.int .u8 (k : Nat)) ∧ W.cell? ⟨n, 5, none⟩ = some (.bool g) ∧ W.cell? ⟨n, 8, none⟩ = some (.string t) := fun W n hb => by
    have := rf_of hb.rd
    rw [← hrr] at this
    exact ⟨this.1, this.2.2.2.2.2.1, this.2.2.2.2.2.2.2.2⟩
  rw [hrr] at HR HY HE ⊢
  have HF := Lib.hid hfr
  have HQ := Lib.hid hq
  have HKR := Lib.hid hkr
  clear hk hr hy h h2 hrr hfr hq hkr
  go_enter Try.func40, Try.ntmps40
  go_wp2_with fail
  have R0 := ((RB.new w w.heap.size r rfl).on (below_alloc _ (.cells (rS.v r) 30))).on (below_alloc _ (.cells #[.int .i64 0] 46))
  have R1 := rb_two w r (w.heap.size + 1) 46 #[.int .i64 0] rfl
  have E0 := eb_three w r (w.heap.size + 1 + 1) rfl
  have B0 : Below w.heap.size w (((w.alloc (.cells (rS.v r) 30)).alloc (.cells (rS.v r) 30)).alloc (.cells #[.int .i64 0] 46)) := (((Below.refl _ _).alloc (Nat.le_refl _) _).alloc (by simp) _).alloc (by simp; omega) _
  have CW := Lib.hid (weighing_any (w.heap.size + 1 + 1) (((w.alloc (.cells (rS.v r) 30)).alloc (.cells (rS.v r) 30)).alloc (.cells #[.int .i64 0] 46)))
  generalize ((w.alloc (.cells (rS.v r) 30)).alloc (.cells (rS.v r) 30)).alloc (.cells #[.int .i64 0] 46) = W at R0 R1 E0 B0 CW ⊢
  have XR0 := Lib.hid R0
  have XR1 := Lib.hid R1
  have XE0 := Lib.hid E0
  have HB := Lib.hid B0
  clear R0 R1 E0 B0
  have hgt : (g = false ∧ q = 0) ∨ (g = true ∧ t = ⟨#[]⟩ ∧ q = 0) ∨ (g = true ∧ (t.toList == []) = false ∧ (t.toList != []) = true ∧ q = 3) := by
    have hq := HQ.out
    cases g
    · left; simpa using hq.symm
    · right
      by_cases h0 : t.size = 0
      · left
        simp [h0] at hq
        exact ⟨rfl, D.size0 h0, hq.symm⟩
      · right
        simp [h0] at hq
        have ht : t.toList ≠ [] := by
          rw [ByteArray.toList_eq]
          intro e
          exact h0 (by have := congrArg List.length e; simpa using this)
        refine ⟨rfl, by simpa using ht, by simpa using ht, hq.symm⟩
  have CT : Hid (∀ W n, RB W n r → W.cell? ⟨n, 0, none⟩ = some (.int .u8 (k : Nat)) ∧ W.cell? ⟨n, 5, none⟩ = some (.bool g) ∧ W.cell? ⟨n, 8, none⟩ = some (.string t)) := HF
  rcases hgt with ⟨rfl, rfl⟩ | ⟨rfl, rfl, rfl⟩ | ⟨rfl, ht, ht2, rfl⟩
  all_goals
    go_wp2_with (first
      | (go_at_call 49; (with_reducible refine CW.out.mono ?_); rintro en w1 ⟨rfl, g1, b1⟩; have B1 := Lib.hid b1; have CE := Lib.hid (each_weigh (w.heap.size + 1) (w.heap.size + 1 + 1) W.heap.size (W.heap.size + 2) r w1 HR.out g1 (XR1.out.on b1) (XE0.out.on b1) (by rw [HKR.out]; exact HK.out)); clear g1 b1)
      | (go_at_call 48; (with_reducible refine CE.out.mono ?_); rintro en w2 ⟨rfl, e2, r2, k2⟩; have K := Lib.hid (ck_of HB.out XR0.out XR1.out XE0.out B1.out k2 r2 e2); rw [HY.out, HE.out] at K; clear e2 r2 k2; have f1 := K.out.r1.rd; obtain ⟨f0, f5, f8⟩ := CT.out _ _ K.out.r0; have f2 : w2.cell? ⟨w.heap.size + 1 + 1, 0, none⟩ = some (.int .i64 0) := K.out.e0.cell))
    go_ret
    exact ⟨rfl, K.out.b⟩
/-- Any record. -/
theorem check_any (r : D.Rc) (w : World) (hr : r.wf) :
    Calls Try.prog 40 #[.agg (rS.v r)] w fun en w' => en = .returned (.int .i64 (D.chk r : Nat)) ∧ Below w.heap.size w w' := by
  by_cases hk : r.k = 0 ∨ 6 < r.k
  · have e : D.chk r = 16 := by unfold D.chk; rw [if_pos hk]
    rw [e]
    exact check_kind r w hk
  · by_cases h : D.rinse r = D.bare r.k
    · by_cases h2 : D.amiss r = 0
      · rw [D.chk_gone hk h h2]
        obtain ⟨k, s, u, p, m, g, v, a, t⟩ := r
        exact check_last k s u p m v a g t w hr hk h h2
      · rw [D.chk_err hk h h2]
        exact check_err r w hr hk h h2
    · rw [D.chk_bad hk h]
      exact check_bad r w hr hk h
end Go.Proofs.Ytcnbdfobhablbaa
