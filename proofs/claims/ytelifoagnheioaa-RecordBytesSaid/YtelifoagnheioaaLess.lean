/-
  Which bytes come first: the program's Compare, the document's Less and Same.
-/
import Derived.Test.YtelifoagnheioaaMem
set_option linter.unusedVariables false
set_option maxRecDepth 100000
set_option linter.unusedSimpArgs false
namespace Go.Proofs.Ytelifoagnheioaa
open Go.RowKit

theorem drop_at {l : List Nat} {j x : Nat} (h : l[j]? = some x) : l.drop j = x :: l.drop (j + 1) := by
  obtain ⟨h1, h2⟩ := List.getElem?_eq_some_iff.1 h
  rw [List.drop_eq_getElem_cons h1, h2]

/-- So far the two rows are the same. -/
structure Like (l k : List Nat) (j : Nat) : Prop where
  out : D.cmp (l.drop j) (k.drop j) = D.cmp l k
theorem like_first (l k : List Nat) : Like l k 0 := ⟨rfl⟩
theorem like_next {l k : List Nat} {j x y : Nat} (h : Like l k j) (hx : l[j]? = some x) (hy : k[j]? = some y) (e : x = y) : Like l k (j + 1) := by
  refine ⟨?_⟩
  rw [← h.out, drop_at hx, drop_at hy, D.cmp, if_pos e]
theorem like_end {l k : List Nat} {j x y : Nat} {r : Bool} (h : Like l k j) (hx : l[j]? = some x) (hy : k[j]? = some y) (e : x ≠ y) (hr : Kept (D.less l k = r)) : decide (x < y) = r := by
  rw [← hr.out, D.less, ← h.out, drop_at hx, drop_at hy, D.cmp, if_neg e, decide_eq_decide]
  split <;> simp <;> omega
theorem like_left {l k : List Nat} {j : Nat} {r : Bool} (h : Like l k j) (hl : l.length ≤ j) (hk : j < k.length) (hr : Kept (D.less l k = r)) : true = r := by
  rw [← hr.out, D.less, ← h.out, List.drop_of_length_le hl, D.cmp_nil_l, if_neg (by simp; omega)]; rfl
theorem like_right {l k : List Nat} {j : Nat} {r : Bool} (h : Like l k j) (hk : k.length ≤ j) (hr : Kept (D.less l k = r)) : false = r := by
  rw [← hr.out, D.less, ← h.out, List.drop_of_length_le hk, D.cmp_nil_r]
  split <;> rfl

set_option maxHeartbeats 400000 in
theorem less_any (A B : Option Addr) (n c m d : Nat) (l k : List Nat) (r : Bool) (w : World) (ha : Row w A n (bys l)) (hb : Row w B m (bys k)) (hn : n ≤ 1000000) (hm : m ≤ 1000000) (hr : Kept (D.less l k = r)) :
    Calls Try.prog 28 #[.slice A n c, .slice B m d] w fun e w' => e = .returned (.bool r) ∧ ∃ q, w' = w.drewN q := by
  go_enter Try.func28, Try.ntmps28
  go_wp2
  go_loopw [5] (fun i wr => ∃ j : Nat, j ≤ n ∧ j ≤ m ∧ i = .int .i64 j ∧ Like l k j ∧ ∃ q, wr = w.drewN q) (fun i _ => m - (intOf i).toNat)
  case atStart => exact ⟨0, Nat.zero_le _, Nat.zero_le _, rfl, like_first l k, 0, rfl⟩
  case round =>
    obtain ⟨j, hjn, hjm, rfl, HL, q, rfl⟩ := hrel
    have hll := ha.len
    have hkl := hb.len
    rw [bys_len] at hll hkl
    by_cases hlt : j < m
    · by_cases hln : j < n
      · obtain ⟨x, hx, _⟩ := at_lt (l := l) (i := j) (by omega)
        obtain ⟨y, hy, _⟩ := at_lt (l := k) (i := j) (by omega)
        obtain ⟨ad, rfl, cx⟩ := ha.cell (bys_at hx)
        obtain ⟨ad2, rfl, cy⟩ := hb.cell (bys_at hy)
        have i1 : (0 : Int) ≤ (j : Int) := by omega
        have i2 : (j : Int) < (n : Int) := by omega
        have i3 : (j : Int) < (m : Int) := by omega
        by_cases e : x = y
        · have HN := like_next HL hx hy e
          subst e
          clear HL hr ha hb hll hkl hx hy
          go_wp2_with fail
          go_quiet (fail)
          go_wp2
          go_roundw
          case rel => exact ⟨j + 1, by omega, by omega, by go_num, HN, _, rfl⟩
          case measure => simp [intOf]; omega
        · have HN := Lib.hid (like_end HL hx hy e hr)
          have hne : (((x : Int) == (y : Int)) = false) := by rw [beq_eq_false_iff_ne]; omega
          have hne2 : (((x : Int) != (y : Int)) = true) := by rw [bne_iff_ne]; omega
          clear HL hr ha hb hll hkl hx hy
          go_wp2_with fail
          go_quiet (fail)
          go_wp2_with fail
          go_quiet (fail)
          go_wp2
          go_ret
          exact ⟨bool_of HN.out, _, by rw [World.drewN_drewN, World.drewN_drewN]⟩
      · have HN := Lib.hid (like_left HL (by omega) (by omega) hr)
        clear HL hr ha hb hll hkl
        go_wp2
        go_ret
        exact ⟨bool_of HN.out, _, rfl⟩
    · have HN := Lib.hid (like_right HL (by omega) hr)
      clear HL hr ha hb hll hkl
      go_wp2
      go_ret
      exact ⟨bool_of HN.out, _, rfl⟩

theorem same_any (A B : Option Addr) (n c m d : Nat) (l k : List Nat) (r : Bool) (w : World) (ha : Row w A n (bys l)) (hb : Row w B m (bys k)) (hn : n ≤ 1000000) (hm : m ≤ 1000000) (hr : Kept (D.same l k = r)) :
    Calls Try.prog 15 #[.slice A n c, .slice B m d] w fun e w' => e = .returned (.bool r) ∧ ∃ q, w' = w.drewN q := by
  cases h1 : D.less l k
  · have c1 := Lib.hid (less_any A B n c m d l k false w ha hb hn hm ⟨h1⟩)
    cases h2 : D.less k l
    · have HR := Lib.hid (show true = r by rw [← hr.out, D.same, h1, h2]; rfl)
      have c2 := Lib.hid (fun q => less_any B A m d n c k l false (w.drewN q) (hb.drewN q) (ha.drewN q) hm hn ⟨h2⟩)
      clear h1 h2 hr ha hb
      go_enter Try.func15, Try.ntmps15
      go_wp2_with (first
        | (go_at_call 28; (with_reducible refine c1.out.mono ?_); rintro e w1 ⟨rfl, q, rfl⟩)
        | (go_at_call 28; (with_reducible refine (c2.out _).mono ?_); rintro e w1 ⟨rfl, q2, rfl⟩))
      go_ret
      exact ⟨bool_of HR.out, _, rfl⟩
    · have HR := Lib.hid (show false = r by rw [← hr.out, D.same, h1, h2]; rfl)
      have c2 := Lib.hid (fun q => less_any B A m d n c k l true (w.drewN q) (hb.drewN q) (ha.drewN q) hm hn ⟨h2⟩)
      clear h1 h2 hr ha hb
      go_enter Try.func15, Try.ntmps15
      go_wp2_with (first
        | (go_at_call 28; (with_reducible refine c1.out.mono ?_); rintro e w1 ⟨rfl, q, rfl⟩)
        | (go_at_call 28; (with_reducible refine (c2.out _).mono ?_); rintro e w1 ⟨rfl, q2, rfl⟩))
      go_ret
      exact ⟨bool_of HR.out, _, rfl⟩
  · have HR := Lib.hid (show false = r by rw [← hr.out, D.same, h1]; rfl)
    have c1 := Lib.hid (less_any A B n c m d l k true w ha hb hn hm ⟨h1⟩)
    clear h1 hr ha hb
    go_enter Try.func15, Try.ntmps15
    go_wp2_with (first
      | (go_at_call 28; (with_reducible refine c1.out.mono ?_); rintro e w1 ⟨rfl, q, rfl⟩))
    go_ret
    exact ⟨bool_of HR.out, _, rfl⟩

theorem bytesOf_any (P : Program) (w : World) (A : Option Addr) (n c : Nat) (l : List Nat) (h : Row w A n (bys l)) :
    (Extern.Bytes.bytesOf (.slice A n c)).run P w = .ok ⟨(l.map fun b => UInt8.ofNat b).toArray⟩ w := by
  have hl := h.len
  rw [bys_len] at hl
  rcases A with _ | ad
  · have : l = [] := by
      rcases Nat.eq_zero_or_pos n with h0 | h0
      · exact List.eq_nil_of_length_eq_zero (by omega)
      · obtain ⟨ad, e, _⟩ := h.to h0
        cases e
    subst this
    rfl
  · have hc : ∀ j x, (l.map fun b : Nat => (b : Int))[j]? = some x → w.cell? (ad.add j) = some (.int .u8 x) := by
      intro j x hj
      rw [List.getElem?_map] at hj
      cases hq : l[j]? with
      | none => rw [hq] at hj; simp at hj
      | some b =>
        rw [hq] at hj
        simp at hj
        subst hj
        obtain ⟨ad', e, hc⟩ := h.cell (bys_at hq)
        injection e with e
        subst e
        exact hc
    have hr := Lib.run_loadBytesX (P := P) w (l.map fun b : Nat => (b : Int)) ad .empty hc
    rw [List.length_map, hl] at hr
    change (Extern.Bytes.loadBytes ad n .empty).run P w = _
    rw [hr]
    congr 1
    apply ByteArray.ext
    simp [Lib.bytesOf]
end Go.Proofs.Ytelifoagnheioaa
