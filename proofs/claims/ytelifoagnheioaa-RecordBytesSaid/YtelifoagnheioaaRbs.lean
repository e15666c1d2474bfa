/-
  The program's Bytes.
-/
import Derived.Test.YtelifoagnheioaaRxe
set_option linter.unusedVariables false
set_option linter.unusedSimpArgs false
set_option maxRecDepth 100000
namespace Go.Proofs.Ytelifoagnheioaa
open Go.RowKit
attribute [local go_sem ↓] Go.wp_at_zero Go.wp_at_succ ld_r st_r bd_r ne_r
attribute [local go_sem] run_ldr run_str run_bdr1 run_ner Shp.rd_new Shp.rd_old Shp.tn_new Shp.tn_old setRow_alloc setRow_alloc2

namespace D
/-- The first error of some records. -/
def errs (l : List Rc) : Nat := l.foldl (fun e r => fst2 e (chk r)) 0
/-- All their bytes, where all are right. -/
def rbs (l : List Rc) : List Nat := l.flatMap rby
theorem errs_snoc (l : List Rc) (r : Rc) : errs (l ++ [r]) = fst2 (errs l) (chk r) := by simp [errs]
theorem errs_next {l : List Rc} {k : Nat} {r : Rc} (h : l[k]? = some r) : errs (l.take (k + 1)) = fst2 (errs (l.take k)) (chk r) := by
  rw [List.take_add_one, h]; exact errs_snoc _ _
theorem rbs_next {l : List Rc} {k : Nat} {r : Rc} (h : l[k]? = some r) : rbs (l.take (k + 1)) = rbs (l.take k) ++ rby r := by
  rw [List.take_add_one, h, rbs, List.flatMap_append]; simp [rbs]
theorem errs_from {l : List Rc} {e : Nat} : e ≠ 0 → l.foldl (fun e r => fst2 e (chk r)) e = e := by
  induction l with
  | nil => intro _; rfl
  | cons r l ih => intro h; rw [List.foldl_cons, fst2_some h]; exact ih h
theorem errs_at {l : List Rc} {k : Nat} (h : errs (l.take k) ≠ 0) : errs l = errs (l.take k) := by
  conv => lhs; rw [← List.take_append_drop k l]
  unfold errs at h ⊢
  rw [List.foldl_append, errs_from h]
theorem errs_zero {l : List Rc} (h : errs l = 0) : ∀ r ∈ l, chk r = 0 := by
  intro r hr
  obtain ⟨k, hk, e⟩ := List.mem_iff_getElem.1 hr
  have h1 : errs (l.take (k + 1)) = 0 := Classical.byContradiction fun hc => hc (by rw [← errs_at hc]; exact h)
  rw [errs_next (List.getElem?_eq_getElem hk), e] at h1
  exact (fst2_0 h1).2
theorem rby_bd {r : Rc} (hw : r.wf) (hc : chk r = 0) : (rby r).length ≤ 90 := by
  have hv := hw.v
  have ha := sm_len10 hw.a
  have hk := chk_kind hc
  rw [rby, List.length_cons]
  rcases hk with e | e | e | e | e | e
  · simp [rtl, e]
  · simp [rtl, e]
  · simp [rtl, e]
  · simp [rtl, e]; omega
  · have h5 := (chk_5 e hc).2.2.2.1
    have h6 := sm_len10 (n := r.v) (by omega)
    have h7 := rtxt_bd h5
    simp [rtl, e]; omega
  · have h5 := (chk_6 e hc).2.2.2.2.2.2
    have h6 := sm_len10 (n := r.v) (by omega)
    have h7 := rtxt_bd h5
    simp [rtl, e]; omega
theorem rbs_bd {l : List Rc} (hw : ∀ r ∈ l, r.wf) (hc : ∀ r ∈ l, chk r = 0) : (rbs l).length ≤ 90 * l.length := by
  induction l with
  | nil => simp [rbs]
  | cons r l ih =>
    have h1 := rby_bd (hw r (by simp)) (hc r (by simp))
    have h2 := ih (fun r hr => hw r (by simp [hr])) fun r hr => hc r (by simp [hr])
    simp only [rbs, List.flatMap_cons, List.length_append, List.length_cons] at h2 ⊢
    omega
end D
theorem rw_rd {w : World} {A : Option Addr} {n k : Nat} {l : List D.Rc} {x : D.Rc} (h : Rw 9 w A n (rS.rcs l)) (hx : l[k]? = some x) : ∃ ad, A = some ad ∧ ad.block < w.heap.size ∧ rS.rd w (ad.add (k * 9)) = some x := by
  have hk := (List.getElem?_eq_some_iff.1 hx).1
  have hn : 0 < n := by
    have h1 := h.len
    rw [rS.rcs_len] at h1
    have h2 : rS.n = 9 := rfl
    rw [h2] at h1
    omega
  obtain ⟨ad, e, hl, hc⟩ := h.to hn
  refine ⟨ad, e, hl, Shp.rd_of fun j u hu => ?_⟩
  rw [add_of_add]
  exact hc _ u (Shp.rcs_at hx j u hu)
theorem rw_len {w : World} {A : Option Addr} {n : Nat} {l : List D.Rc} (h : Rw 9 w A n (rS.rcs l)) : l.length = n := by
  have h1 := h.len
  rw [rS.rcs_len] at h1
  have h2 : rS.n = 9 := rfl
  rw [h2] at h1
  omega
/-- What Bytes answers. -/
def Bsd (l : List D.Rc) (w : World) (en : Ending) (w' : World) : Prop := ∃ (B : Option Addr) (m d : Nat), en = .returned (.tuple #[.slice B m d, .int .i64 (D.errs l : Nat)]) ∧ Row w' B m (bys (if D.errs l = 0 then D.rbs l else [])) ∧ m ≤ d ∧ d ≤ maxLen ∧ Below w.heap.size w w'
theorem bsd_bad {l : List D.Rc} {w w' : World} {e : Nat} (h : D.errs l = e) (he : e ≠ 0) (hb : Below w.heap.size w w') : Bsd l w (.returned (.tuple #[.slice none 0 0, .int .i64 (e : Nat)])) w' := by
  refine ⟨none, 0, 0, by rw [h], ?_, Nat.le_refl _, Nat.zero_le _, hb⟩
  rw [if_neg (by rw [h]; exact he)]
  exact Row.nil _ _
set_option maxHeartbeats 8000000 in
theorem bytes_any (l : List D.Rc) (A : Option Addr) (n c : Nat) (w : World) (hw : ∀ r ∈ l, r.wf) (hr : Rw 9 w A n (rS.rcs l)) (hn : n ≤ 100) :
    Calls Try.prog 12 #[.slice A n c] w (Bsd l w) := by
  have hl := rw_len hr
  have HR := Lib.hid hr
  have HV := Lib.hid hw
  have HL := Lib.hid hl
  have CN : Hid (Calls Try.prog 24 #[.int .i64 9223372036854775807] w fun e w' => e = .returned (.pointer (some ⟨w.heap.size, 0, none⟩)) ∧ Wr w.heap.size w' w.heap.size none 0 0 ⟨[], 0⟩ XRoom ∧ Below w.heap.size w w') := Lib.hid (new_writer 9223372036854775807 w (by decide) (by decide))
  clear hr hl hw
  go_enter Try.func12, Try.ntmps12
  go_wp2_with (go_at_call 24; (with_reducible refine CN.out.mono ?_); rintro e w1 ⟨rfl, r1, b1⟩; have R1 := Lib.hid r1; have B1 := Lib.hid b1; clear r1 b1)
  obtain ⟨q, hq⟩ : ∃ q, w.heap.size = q := ⟨_, rfl⟩
  have HQ := Lib.hid hq
  rw [hq] at R1 ⊢
  clear hq CN
  go_loopw [11] (fun i wr => ∃ k : Nat, k ≤ n ∧ i = .int .i64 k ∧ (∃ (A' : Option Addr) (n' c' : Nat), Wr q wr q A' n' c' ⟨D.rbs (l.take k), 0⟩ XRoom) ∧ Below w.heap.size w wr ∧ Kept (D.errs (l.take k) = 0)) (fun i _ => n - (intOf i).toNat)
  case atStart => exact ⟨0, Nat.zero_le _, rfl, ⟨_, _, _, R1.out⟩, B1.out, ⟨rfl⟩⟩
  case round =>
    obtain ⟨k, hk, rfl, ⟨A0, n0, c0, r0⟩, b0, HE⟩ := hrel
    have R0 := Lib.hid r0
    have B0 := Lib.hid b0
    clear r0 b0
    by_cases hlt : k < n
    · obtain ⟨x, hx⟩ : ∃ x, l[k]? = some x := ⟨l[k]'(by rw [HL.out]; exact hlt), List.getElem?_eq_getElem _⟩
      have hxm : x ∈ l := List.mem_of_getElem? hx
      have HX := Lib.hid (HV.out x hxm)
      obtain ⟨ad, rfl, hal, hrd⟩ := rw_rd (HR.out.on B0.out) hx
      have ER := Lib.hid (D.errs_next hx)
      have BR := Lib.hid (D.rbs_next hx)
      have i1 : (k : Int) < (n : Int) := by omega
      have i0 : (0 : Int) ≤ (k : Int) := by omega
      have CC := Lib.hid (fun W => check_any x W HX.out)
      obtain ⟨e, he⟩ : ∃ e, D.chk x = e := ⟨_, rfl⟩
      have HC := Lib.hid he
      have P0 := Lib.hid (RB.new wr wr.heap.size x rfl)
      have HT := Lib.hid (show (D.rbs (l.take k)).length ≤ 9000 by
        have h1 := D.errs_zero HE.out
        have h2 := D.rbs_bd (l := l.take k) (fun r hr => HV.out r (List.mem_of_mem_take hr)) h1
        have h3 : (l.take k).length ≤ k := List.length_take_le _ _
        omega)
      have hxk : x.k < 256 := HX.out.k
      rw [he] at CC
      clear hx hxm he
      by_cases h0 : e = 0
      · subst h0
        have CC' : Hid (∀ W, Calls Try.prog 10 #[.agg (rS.v x)] W fun en w' => en = .returned (.int .i64 0) ∧ Below W.heap.size W w') := CC
        go_wp2_with (first
          | (go_at_call 10; (with_reducible refine (CC'.out _).mono ?_); rintro en w2 ⟨rfl, b2⟩
             have B2 := Lib.hid ((below_alloc wr (.cells (rS.v x) 28)).trans (b2.mono (by simp)))
             have P2 := Lib.hid (P0.out.on b2)
             have R2 := Lib.hid (R0.out.on B2.out)
             have f2 := (rf_of P2.out.rd).1
             clear b2)
          | (go_at_call 26; (with_reducible refine (w_byte q q XRoom n0 c0 A0 ⟨D.rbs (l.take k), 0⟩ _ x.k 1 _ hxk (R2.out.on (below_alloc w2 _)) ?_ ?_ ?_).mono ?_); (exact lit_byte w2 x.k _ _ rfl rfl); (have h1 := R2.out.len; have h2 := HT.out; simp only at h1; omega); (unfold XRoom; omega); rintro en w3 h3
             have E3 := h3.1
             subst E3
             have K3 := Lib.hid (writ_of R2.out (below_alloc w2 (.cells #[.int .u8 (x.k : Nat)] 5)) h3)
             have P3 := Lib.hid (K3.out.2.2.rb P2.out)
             obtain ⟨_, ⟨A3, n3, c3, r3⟩, k3⟩ := K3.out
             rw [wput_ok (by have h2 := HT.out; simp only [List.length_singleton]; omega)] at r3
             have R3 := Lib.hid r3
             clear h3 r3 k3)
          | (go_at_call 25; (with_reducible refine (writing_any q w3).mono ?_); rintro en w4 ⟨rfl, v4, b4⟩
             have V4 := Lib.hid v4
             have R4 := Lib.hid (R3.out.on b4)
             have P4 := Lib.hid (P3.out.on b4)
             have K4 := Lib.hid (K3.out.2.2.trans (Wk.bel b4 R3.out.own.base))
             clear v4 b4)
          | (go_at_call 21; (with_reducible refine (each_write q q wr.heap.size w3.heap.size n3 c3 A3 _ x w4 HX.out HC.out P4.out V4.out R4.out ?_).mono ?_); (have h2 := HT.out; simp only [List.length_append, List.length_singleton]; omega); rintro en w5 ⟨rfl, ⟨A5, n5, c5, r5⟩, k5⟩
             have R5 := Lib.hid r5
             have K5 := Lib.hid (K4.out.trans k5)
             clear r5 k5))
        go_roundw
        case rel =>
          have hb : Below w.heap.size w w5 := (B0.out.trans (B2.out.mono B0.out.size)).trans (by rw [HQ.out]; exact K5.out.below)
          refine ⟨k + 1, by omega, by go_num, ⟨A5, n5, c5, ?_⟩, hb, ⟨by rw [ER.out, HE.out, HC.out]; rfl⟩⟩
          have := R5.out
          rw [BR.out]
          simpa [D.rby] using this
        case measure => simp [intOf]; omega
      · have hb : ((e : Int) != 0) = true := by simp; exact h0
        go_wp2_with (go_at_call 10; (with_reducible refine (CC.out _).mono ?_); rintro en w2 ⟨rfl, b2⟩
                     have B2 := Lib.hid ((below_alloc wr (.cells (rS.v x) 28)).trans (b2.mono (by simp)))
                     clear b2)
        go_ret2
        have hz : D.errs (l.take (k + 1)) = e := by rw [ER.out, HE.out, HC.out]; rfl
        exact bsd_bad (by rw [D.errs_at (k := k + 1) (by rw [hz]; exact h0), hz]) h0 (B0.out.trans (B2.out.mono B0.out.size))
    · have hkn : k = n := by omega
      have HT : l.take k = l := List.take_of_length_le (by rw [HL.out]; omega)
      rw [HT] at HE
      have HN := Lib.hid (show (D.rbs l).length ≤ 9000 by
        have h1 := D.errs_zero HE.out
        have h2 := D.rbs_bd HV.out h1
        have h3 := HL.out
        omega)
      have CB := Lib.hid (w_bytes q q XRoom n0 c0 A0 ⟨D.rbs l, 0⟩ wr (by rw [← HT]; exact R0.out) (by have h1 := R0.out.len; rw [HT] at h1; have h2 := HN.out; simp only at h1; omega) (by simp))
      clear HT hkn
      go_wp2_with (go_at_call 27; (with_reducible refine CB.out.mono ?_); rintro en w2 ⟨B, m, d, rfl, hr2, hm2, hd2, b2⟩; have R2 := Lib.hid hr2; have B2 := Lib.hid b2; clear b2)
      go_ret2
      refine ⟨B, m, d, by rw [HE.out]; rfl, ?_, hm2, hd2, B0.out.trans (B2.out.mono B0.out.size)⟩
      rw [if_pos HE.out]
      exact R2.out
end Go.Proofs.Ytelifoagnheioaa
