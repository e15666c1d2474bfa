/-
  The law of what is read: its walk.
-/
import Derived.Test.YtnihkpcfnkimoaaWritesWalk
import Derived.Test.YtnihkpcfnkimoaaOpen
set_option linter.unusedVariables false
set_option linter.unusedSimpArgs false
namespace Go.Proofs.Ytnihkpcfnkimoaa
open Go.RowKit
attribute [local go_sem ↓] Go.wp_at_zero Go.wp_at_succ

theorem from_drew {w0 w : World} (h : From w0 w) : From w0 w.drew := ⟨h.below.drew⟩
theorem only_off {S : Nat → Prop} {a b c : World} (h : Below a.heap.size a b) (k : Only S b c) : Only S a c := k.off h
theorem From.off {w0 w w' : World} {q : Nat} (h : From w0 w) (k : Only (fun i => i = q) w w') (hq : w0.heap.size ≤ q) : From w0 w' := ⟨h.below.trans (k.below h.below.size fun i hi => hi ▸ hq)⟩

theorem quietD {P : Program} {f : FuncId} {args : Array Value} {w : World} {n : Nat} {v : Value} (h : Calls P f args (w.drewN n) fun en w' => en = .returned v ∧ ∃ u, w' = (w.drewN n).drewN u) : Calls P f args (w.drewN n) fun en w' => en = .returned v ∧ ∃ u, w' = w.drewN u :=
  h.mono fun _ _ ⟨he, u, hu⟩ => ⟨he, n + u, by rw [hu, World.drewN_drewN]⟩
theorem quietS {P : Program} {f : FuncId} {args : Array Value} {w : World} {n : Nat} {v : Value} (h : Calls P f args (w.drewN n) fun en w' => en = .returned v ∧ w.drewN n = w') : Calls P f args (w.drewN n) fun en w' => en = .returned v ∧ ∃ u, w' = w.drewN u :=
  h.mono fun _ _ ⟨he, hu⟩ => ⟨he, n, hu.symm⟩
structure Rest (A1 : Option Addr) (m : Nat) (lb : List Nat) (B' : Option Addr) (m' : Nat) (r : List Nat) : Prop where
  out : ∀ W, Row W A1 m (bys lb) → Row W B' m' (bys r)
set_option maxRecDepth 20000 in
set_option maxHeartbeats 2000000 in
theorem reads_cut (A A1 A2 : Option Addr) (n c m n2 c2 : Nat) (lb : List Nat) (l : List D.Fd) (w : World) (hrow : Row w A1 m (bys lb)) (hlb : Kept (∀ b ∈ lb, b < 256)) (hm : m ≤ 300) (hmc : m ≤ c) (hc : c ≤ 9223372036854775807) (hf0 : FRow w A2 n2 l) (hl : Kept (∀ f ∈ l, Raw f)) (hn2 : n2 ≤ 9223372036854775807)
    (hmin : ∀ ts t W, (Builtin.min_ ts t #[.int .i64 (n : Int), .int .i64 300]).run Try.prog W = .ok (.int .i64 (m : Int)) W)
    (hcut : ∀ W, (Instr.slice 30 (.slice A n c) none (some (.int .i64 (m : Int))) none).run Try.prog W = .ok (.slice A1 m c) W) :
    Calls Try.prog 4 #[.slice A n c, .slice A2 n2 c2] w fun e w' => e = .returned (.bool true) ∧ Below w.heap.size w w' := by
  have z0 := from_self w
  have cR := Lib.hid (fun W (h : From w W) => right20 A2 n2 c2 l W (h.frow hf0) hl hn2)
  have hlen := hrow.len
  rw [bys_len] at hlen
  have HLB := Lib.hid hlen
  clear hlen
  go_enter Try.func4, Try.ntmps4
  go_wp2_with fail
  go_region_held3 (fun _ => True) (trivial) (first
    | (go_at_call 9; (with_reducible refine (cR.out _ (from_drew z0)).mono ?_); rintro e w1 ⟨A3, n1, c1, l1, rfl, r1, ok1, hn1, _, _, hb1⟩; have z1 := (from_drew z0).on hb1)
    | (go_at_call 9; (with_reducible refine (cR.out _ z0).mono ?_); rintro e w1 ⟨A3, n1, c1, l1, rfl, r1, ok1, hn1, _, _, hb1⟩; have z1 := z0.on hb1))
  all_goals
    go_wp2_with (go_at_call 16; (with_reducible refine (new_reader m c A1 lb _ (z1.row hrow) hlb (by omega)).mono ?_); rintro e w2 ⟨q, A', c', rfl, hrd, hHq, hHA, hb2⟩; have z2 := z1.on hb2)
    have hrow1 := z1.row hrow
    have hHq2 : w1.heap.size ≤ w2.heap.size := hb2.size
    have hql := hrd.blk.lt
    have OK := Lib.hid ok1
    have HL := Lib.hid r1.len
    have B6 := Blk.new w2 42 #[.slice A1 m c, .int .i64 0]
    have hb6 := hrd.on (below_alloc w2 (.cells #[.slice A1 m c, .int .i64 0] 42))
    have z26 := (From.mk hb2).alloc (.cells #[.slice A1 m c, .int .i64 0] 42)
    clear cR ok1 hmin hcut hrd
    go_loopw [7] (fun i wr => ∃ (k pl_ e m' d' : Nat) (B' : Option Addr), k ≤ n1 ∧ i = .int .i64 k ∧ Rd wr q A' m c' lb pl_ e ∧ Blk wr w2.heap.size 42 #[.slice B' m' d', .int .i64 e] ∧ Rest A1 m lb B' m' (lb.drop pl_) ∧ m' ≤ d' ∧ d' ≤ 9223372036854775807 ∧ e ≤ 5 ∧ From w1 wr) (fun i _ => n1 - (intOf i).toNat)
    case atStart => exact ⟨0, 0, 0, m, c, A1, Nat.zero_le _, rfl, hb6, B6, ⟨fun _ h => h⟩, hmc, hc, by omega, z26⟩
    case round =>
      clear B6 hb6 z26
      obtain ⟨k, pl_, e, m', d', B', hk, rfl, hrd, h6, hrest, hmd, hd, he5_, hz⟩ := hrel
      by_cases hlt : k < n1
      · obtain ⟨f, hf, hfm⟩ := fat_lt (l := l1) (i := k) (by rw [HL.out]; exact hlt)
        have hfo := OK.out f hfm
        obtain ⟨ad, rfl, q0, q1, q2⟩ := (hz.frow r1).at_ hf
        have hk0 := hfo.k0
        have hk4 := hfo.k4
        have hN := hfo.n
        obtain ⟨K, x, s⟩ := f
        simp only at hk0 hk4 hN q0 q1 q2
        clear hf hfm hfo
        by_cases hK : K = 4
        · subst hK
          obtain ⟨y, hy'⟩ : ∃ y, x % 1000000 = y := ⟨_, rfl⟩
          have hy : y < 1000000 := by omega
          have hy64 : y < 18446744073709551616 := by omega
          have ey : (x : Int) % 1000000 = (y : Int) := by omega
          clear hy'
          have hfr := hrest.out _ (hz.row hrow1)
          have hm' : m' = m - pl_ := by
            have h1 := hfr.len
            rw [bys_len, List.length_drop, HLB.out] at h1
            omega
          have hlb2 : ∀ b ∈ lb.drop pl_, b < 256 := fun b hb => hlb.out b (List.mem_of_mem_drop hb)
          have cG := Lib.hid (fun W h => law_get q m c' pl_ e A' lb W 4 y y hy64 (by omega) (by omega) (fun h => absurd rfl h) (fun _ => (Nat.mod_eq_of_lt hy).symm) h)
          have cF := Lib.hid (fun W h => ref_read B' m' d' W ⟨4, y, s⟩ (lb.drop pl_) e (by omega) (by omega) hy64 h ⟨hlb2⟩ hmd hd (by omega))
          obtain ⟨a, ha⟩ : ∃ a, D.rd 4 y (lb.drop pl_) = a := ⟨_, rfl⟩
          have hfine : a.fine (lb.drop pl_).length := ha ▸ D.rd_fine hlb2
          simp only [ha] at cG cF
          obtain ⟨x', hx'⟩ : ∃ x', xx e a = x' := ⟨_, rfl⟩
          obtain ⟨s', hs'⟩ : ∃ s', D.sb (ss e a) = s' := ⟨_, rfl⟩
          obtain ⟨e', he'⟩ : ∃ e', er e a = e' := ⟨_, rfl⟩
          obtain ⟨p', hp'⟩ : ∃ p', pl e pl_ a = p' := ⟨_, rfl⟩
          have cG : Hid (∀ W, Rd W q A' m c' lb pl_ e → Calls Try.prog 17 #[.pointer (some ⟨q, 0, none⟩), .int .i64 4, .int .u64 ((y : Nat) : Int)] W fun en w' => en = .returned (.tuple #[.int .u64 x', .string s']) ∧ Rd w' q A' m c' lb p' e' ∧ Only (fun i => i = q) W w') := by
            have := cG.out; unfold Gets at this; rw [hx', hs', he', hp'] at this; exact this
          have cF : Hid (∀ W, Row W B' m' (bys (lb.drop pl_)) → Calls Try.prog 18 #[.agg #[.slice B' m' d', .int .i64 e], .agg #[.int .i64 4, .int .u64 ((y : Nat) : Int), .string s]] W fun en w' => ∃ B2 m2 d2, en = .returned (.tuple #[.agg #[.slice B2 m2 d2, .int .i64 e'], .int .u64 x', .string s']) ∧ (∀ W, Row W B' m' (bys (lb.drop pl_)) → Row W B2 m2 (bys (lb.drop p'))) ∧ m2 ≤ d2 ∧ d2 ≤ 9223372036854775807 ∧ Below W.heap.size W w') := by
            have := cF.out; unfold RefRead at this
            rw [show (if e = 0 then (lb.drop pl_).drop a.k else lb.drop pl_) = lb.drop p' by rw [← hp', pl]; split <;> simp [List.drop_drop]] at this
            rw [hx', hs', he'] at this; exact this
          have hp'm : p' ≤ m := by
            rw [← hp', pl]
            have h1 := hfine.le
            rw [hrd.len] at h1
            have h2 := hrd.le
            split <;> omega
          have he5 : e' ≤ 5 := by
            rw [← he', er]
            have := hfine.e
            split <;> omega
          have hq6 : w2.heap.size ≠ q := h6.ne_ hrd.blk (by decide)
          have hqf : wr.heap.size ≠ q := fun h => absurd hrd.blk.lt (by omega)
          clear ha hx' hs' he' hp' hfine hm' hlb2
          have hbn := below_alloc wr (.cells #[.int .i64 4, .int .u64 ((x : Nat) : Int), .string s] 29)
          have hrA := hrd.on hbn
          have h6A := h6.on hbn
          have u0 := (h6.c 0).trans rfl
          have hbn := below_alloc wr (.cells #[.int .i64 4, .int .u64 ((y : Nat) : Int), .string s] 29)
          have hrA := hrd.on hbn
          have h6A := h6.on hbn
          have hfA := Blk.new wr 29 #[.int .i64 4, .int .u64 ((y : Nat) : Int), .string s]
          go_wp2_with (first
            | (go_at_call 17; (with_reducible refine (cG.out _ hrA).mono ?_); rintro en w3 ⟨rfl, r3, o3⟩; have h63 := h6A.only o3 hq6; have hf3 := hfA.only o3 hqf; have u1 := (h63.c 0).trans rfl; have u2 := (h63.c 1).trans rfl; have u3 := (hf3.c 0).trans rfl; have u4 := (hf3.c 1).trans rfl; have u5 := (hf3.c 2).trans rfl; have z3 := hz.off (only_off hbn o3) hHq)
            | (go_at_call 18; (with_reducible refine (cF.out _ (hrest.out _ (z3.row hrow1))).mono ?_); rintro en w4 ⟨B2, m2, d2, rfl, hrest2, hmd2, hd2, hb4⟩; have r4 := r3.on hb4; have h64 := h63.on hb4; have z4 := z3.on hb4; have u6 := (h64.c 0).trans rfl; have u7 := (h64.c 1).trans rfl; have u8 := h64.f 0; have u9 := h64.f 1; have u10 := h64.lt))
          have hq2 := hHq2
          have em : m - p' = m2 := by
            have h1 := (hrest2 _ (hrest.out _ (z4.row hrow1))).len
            rw [bys_len, List.length_drop, HLB.out] at h1
            exact h1
          have h65 := ((h64.put 0 (.slice B2 m2 d2)).put 1 (.int .i64 e')).alloc (.cells #[.slice B2 m2 d2, .int .i64 e'] 42)
          have o5 := (((Only.self (fun i => i = w2.heap.size) w4).set (p := ⟨w2.heap.size, 0, none⟩) (.inl rfl) (.slice B2 m2 d2)).set (p := ⟨w2.heap.size, 1, none⟩) (.inl rfl) (.int .i64 e')).alloc (.cells #[.slice B2 m2 d2, .int .i64 e'] 42)
          have r5 := r4.only o5 (by omega) (fun ad h => by have := hHA _ ⟨ad, h, rfl⟩; omega)
          have z5 := z4.off o5 hq2
          obtain ⟨w5, hw5⟩ : ∃ w5, ((w4.setCell ⟨w2.heap.size, 0, none⟩ (.slice B2 m2 d2)).setCell ⟨w2.heap.size, 1, none⟩ (.int .i64 e')).alloc (.cells #[.slice B2 m2 d2, .int .i64 e'] 42) = w5 := ⟨_, rfl⟩
          rw [hw5] at h65 o5 r5 z5 ⊢
          have cL := fun n => left_any q m c' p' e' A' (w5.drewN n) (blk_drewN r5.blk n) r5.le (by omega)
          rw [em] at cL
          have cL := Lib.hid cL
          have cE := Lib.hid (fun n => err_any q m c' p' e' A' (w5.drewN n) (blk_drewN r5.blk n))
          have HR2 : Rest A1 m lb B2 m2 (lb.drop p') := ⟨fun W h => hrest2 _ (hrest.out _ h)⟩
          have v1 := (h65.c 0).trans rfl
          have v2 := (h65.c 1).trans rfl
          clear hw5 em u0 u1 u2 u3 u4 u5 u6 u7 u8 u9 u10 hrest2
          go_quiet ((first
            | (go_at_call 19; exact quietD (cL.out _))
            | (go_at_call 20; exact quietS (cE.out _))))
          go_wp2
          go_roundw
          case rel => exact ⟨k + 1, p', e', m2, d2, B2, by omega, by go_num, ⟨blk_drewN r5.blk _, r5.row.drewN _, r5.lt, r5.le, r5.nc, r5.cm, r5.small, r5.off⟩, blk_drewN h65 _, HR2, hmd2, hd2, he5, z5.drewN _⟩
          case measure => simp [intOf]; omega
        · have HK := Lib.hid hK
          have hKb : ((K : Int) == 4) = false := by simp; exact hK
          have hKb2 : ¬ K = 4 := hK
          clear hK
          have hfr := hrest.out _ (hz.row hrow1)
          have hm' : m' = m - pl_ := by
            have h1 := hfr.len
            rw [bys_len, List.length_drop, HLB.out] at h1
            omega
          have hlb2 : ∀ b ∈ lb.drop pl_, b < 256 := fun b hb => hlb.out b (List.mem_of_mem_drop hb)
          have cG := Lib.hid (fun W h => law_get q m c' pl_ e A' lb W K x x hN hk0 hk4 (fun _ => rfl) (fun h => absurd h HK.out) h)
          have cF := Lib.hid (fun W h => ref_read B' m' d' W ⟨K, x, s⟩ (lb.drop pl_) e hk0 hk4 hN h ⟨hlb2⟩ hmd hd (by omega))
          obtain ⟨a, ha⟩ : ∃ a, D.rd K x (lb.drop pl_) = a := ⟨_, rfl⟩
          have hfine : a.fine (lb.drop pl_).length := ha ▸ D.rd_fine hlb2
          simp only [ha] at cG cF
          obtain ⟨x', hx'⟩ : ∃ x', xx e a = x' := ⟨_, rfl⟩
          obtain ⟨s', hs'⟩ : ∃ s', D.sb (ss e a) = s' := ⟨_, rfl⟩
          obtain ⟨e', he'⟩ : ∃ e', er e a = e' := ⟨_, rfl⟩
          obtain ⟨p', hp'⟩ : ∃ p', pl e pl_ a = p' := ⟨_, rfl⟩
          have cG : Hid (∀ W, Rd W q A' m c' lb pl_ e → Calls Try.prog 17 #[.pointer (some ⟨q, 0, none⟩), .int .i64 K, .int .u64 ((x : Nat) : Int)] W fun en w' => en = .returned (.tuple #[.int .u64 x', .string s']) ∧ Rd w' q A' m c' lb p' e' ∧ Only (fun i => i = q) W w') := by
            have := cG.out; unfold Gets at this; rw [hx', hs', he', hp'] at this; exact this
          have cF : Hid (∀ W, Row W B' m' (bys (lb.drop pl_)) → Calls Try.prog 18 #[.agg #[.slice B' m' d', .int .i64 e], .agg #[.int .i64 K, .int .u64 ((x : Nat) : Int), .string s]] W fun en w' => ∃ B2 m2 d2, en = .returned (.tuple #[.agg #[.slice B2 m2 d2, .int .i64 e'], .int .u64 x', .string s']) ∧ (∀ W, Row W B' m' (bys (lb.drop pl_)) → Row W B2 m2 (bys (lb.drop p'))) ∧ m2 ≤ d2 ∧ d2 ≤ 9223372036854775807 ∧ Below W.heap.size W w') := by
            have := cF.out; unfold RefRead at this
            rw [show (if e = 0 then (lb.drop pl_).drop a.k else lb.drop pl_) = lb.drop p' by rw [← hp', pl]; split <;> simp [List.drop_drop]] at this
            rw [hx', hs', he'] at this; exact this
          have hp'm : p' ≤ m := by
            rw [← hp', pl]
            have h1 := hfine.le
            rw [hrd.len] at h1
            have h2 := hrd.le
            split <;> omega
          have he5 : e' ≤ 5 := by
            rw [← he', er]
            have := hfine.e
            split <;> omega
          have hq6 : w2.heap.size ≠ q := h6.ne_ hrd.blk (by decide)
          have hqf : wr.heap.size ≠ q := fun h => absurd hrd.blk.lt (by omega)
          clear ha hx' hs' he' hp' hfine hm' hlb2
          have hbn := below_alloc wr (.cells #[.int .i64 K, .int .u64 ((x : Nat) : Int), .string s] 29)
          have hrA := hrd.on hbn
          have h6A := h6.on hbn
          have u0 := (h6.c 0).trans rfl
          have hbn := below_alloc wr (.cells #[.int .i64 K, .int .u64 ((x : Nat) : Int), .string s] 29)
          have hrA := hrd.on hbn
          have h6A := h6.on hbn
          have hfA := Blk.new wr 29 #[.int .i64 K, .int .u64 ((x : Nat) : Int), .string s]
          go_wp2_with (first
            | (go_at_call 17; (with_reducible refine (cG.out _ hrA).mono ?_); rintro en w3 ⟨rfl, r3, o3⟩; have h63 := h6A.only o3 hq6; have hf3 := hfA.only o3 hqf; have u1 := (h63.c 0).trans rfl; have u2 := (h63.c 1).trans rfl; have u3 := (hf3.c 0).trans rfl; have u4 := (hf3.c 1).trans rfl; have u5 := (hf3.c 2).trans rfl; have z3 := hz.off (only_off hbn o3) hHq)
            | (go_at_call 18; (with_reducible refine (cF.out _ (hrest.out _ (z3.row hrow1))).mono ?_); rintro en w4 ⟨B2, m2, d2, rfl, hrest2, hmd2, hd2, hb4⟩; have r4 := r3.on hb4; have h64 := h63.on hb4; have z4 := z3.on hb4; have u6 := (h64.c 0).trans rfl; have u7 := (h64.c 1).trans rfl; have u8 := h64.f 0; have u9 := h64.f 1; have u10 := h64.lt))
          have hq2 := hHq2
          have em : m - p' = m2 := by
            have h1 := (hrest2 _ (hrest.out _ (z4.row hrow1))).len
            rw [bys_len, List.length_drop, HLB.out] at h1
            exact h1
          have h65 := ((h64.put 0 (.slice B2 m2 d2)).put 1 (.int .i64 e')).alloc (.cells #[.slice B2 m2 d2, .int .i64 e'] 42)
          have o5 := (((Only.self (fun i => i = w2.heap.size) w4).set (p := ⟨w2.heap.size, 0, none⟩) (.inl rfl) (.slice B2 m2 d2)).set (p := ⟨w2.heap.size, 1, none⟩) (.inl rfl) (.int .i64 e')).alloc (.cells #[.slice B2 m2 d2, .int .i64 e'] 42)
          have r5 := r4.only o5 (by omega) (fun ad h => by have := hHA _ ⟨ad, h, rfl⟩; omega)
          have z5 := z4.off o5 hq2
          obtain ⟨w5, hw5⟩ : ∃ w5, ((w4.setCell ⟨w2.heap.size, 0, none⟩ (.slice B2 m2 d2)).setCell ⟨w2.heap.size, 1, none⟩ (.int .i64 e')).alloc (.cells #[.slice B2 m2 d2, .int .i64 e'] 42) = w5 := ⟨_, rfl⟩
          rw [hw5] at h65 o5 r5 z5 ⊢
          have cL := fun n => left_any q m c' p' e' A' (w5.drewN n) (blk_drewN r5.blk n) r5.le (by omega)
          rw [em] at cL
          have cL := Lib.hid cL
          have cE := Lib.hid (fun n => err_any q m c' p' e' A' (w5.drewN n) (blk_drewN r5.blk n))
          have HR2 : Rest A1 m lb B2 m2 (lb.drop p') := ⟨fun W h => hrest2 _ (hrest.out _ h)⟩
          have v1 := (h65.c 0).trans rfl
          have v2 := (h65.c 1).trans rfl
          clear hw5 em u0 u1 u2 u3 u4 u5 u6 u7 u8 u9 u10 hrest2
          go_quiet ((first
            | (go_at_call 19; exact quietD (cL.out _))
            | (go_at_call 20; exact quietS (cE.out _))))
          go_wp2
          go_roundw
          case rel => exact ⟨k + 1, p', e', m2, d2, B2, by omega, by go_num, ⟨blk_drewN r5.blk _, r5.row.drewN _, r5.lt, r5.le, r5.nc, r5.cm, r5.small, r5.off⟩, blk_drewN h65 _, HR2, hmd2, hd2, he5, z5.drewN _⟩
          case measure => simp [intOf]; omega
      · have hfr := hrest.out _ (hz.row hrow1)
        have em : m' = m - pl_ := by
          have h1 := hfr.len
          rw [bys_len, List.length_drop, HLB.out] at h1
          omega
        have hple := hrd.le
        have u1 := (h6.c 0).trans rfl
        have u2 := (h6.c 1).trans rfl
        by_cases he : e = 0
        · subst he
          have u2 : wr.cell? ⟨w2.heap.size, 1, none⟩ = some (.int .i64 0) := u2
          by_cases h0 : 0 < m'
          · skip
            have cD : Hid (∀ W, Blk W q 67 #[.slice A' m c', .int .i64 0, .int .i64 pl_] → Calls Try.prog 21 #[.pointer (some ⟨q, 0, none⟩)] W fun en w' => en = .returned (.int .i64 3) ∧ ∃ u, w' = W.drewN u) := fun W h => done_any q m c' pl_ 0 A' W 3 h hple (by omega) ⟨by rw [dn, if_pos rfl, if_pos (by omega)]⟩
            clear hfr em
            go_wp2_with (first
              | (go_at_call 14; (with_reducible refine (known_any _).mono ?_); rintro en w5 ⟨rfl, hb5⟩; have r5 := hrd.on hb5)
              | (go_at_call 21; (with_reducible refine (cD.out _ r5.blk).mono ?_); rintro en w6 ⟨rfl, u, rfl⟩))
            go_ret
            exact ⟨rfl, (z1.on ((hz.on hb5).drewN u).below).below⟩
          · obtain rfl : m' = 0 := by omega
            skip
            have cD : Hid (∀ W, Blk W q 67 #[.slice A' m c', .int .i64 0, .int .i64 pl_] → Calls Try.prog 21 #[.pointer (some ⟨q, 0, none⟩)] W fun en w' => en = .returned (.int .i64 0) ∧ ∃ u, w' = W.drewN u) := fun W h => done_any q m c' pl_ 0 A' W 0 h hple (by omega) ⟨by rw [dn, if_pos rfl, if_neg (by omega)]⟩
            clear hfr em
            go_wp2_with (first
              | (go_at_call 14; (with_reducible refine (known_any _).mono ?_); rintro en w5 ⟨rfl, hb5⟩; have r5 := hrd.on hb5)
              | (go_at_call 21; (with_reducible refine (cD.out _ r5.blk).mono ?_); rintro en w6 ⟨rfl, u, rfl⟩))
            go_ret
            exact ⟨rfl, (z1.on ((hz.on hb5).drewN u).below).below⟩
        · have hbe : ((e : Int) == 0) = false := by simp; exact he
          have cD : Hid (∀ W, Blk W q 67 #[.slice A' m c', .int .i64 e, .int .i64 pl_] → Calls Try.prog 21 #[.pointer (some ⟨q, 0, none⟩)] W fun en w' => en = .returned (.int .i64 e) ∧ ∃ u, w' = W.drewN u) := fun W h => done_any q m c' pl_ e A' W e h hple (by omega) ⟨by rw [dn, if_neg he]⟩
          clear hfr em
          go_wp2_with (first
            | (go_at_call 14; (with_reducible refine (known_any _).mono ?_); rintro en w5 ⟨rfl, hb5⟩; have r5 := hrd.on hb5)
            | (go_at_call 21; (with_reducible refine (cD.out _ r5.blk).mono ?_); rintro en w6 ⟨rfl, u, rfl⟩))
          go_ret
          exact ⟨rfl, (z1.on ((hz.on hb5).drewN u).below).below⟩
theorem reads_all (A : Option Addr) (n c : Nat) (lb : List Nat) (A2 : Option Addr) (n2 c2 : Nat) (l : List D.Fd) (w : World) (hb : Row w A n (bys lb)) (hlb : ∀ b ∈ lb, b < 256) (hnc : n ≤ c) (hc : c ≤ maxLen) (ha : FRow w A2 n2 l) (hl : ∀ f ∈ l, Raw f) (hn : n2 ≤ maxLen) :
    Calls Try.prog 4 #[.slice A n c, .slice A2 n2 c2] w fun e w' => e = .returned (.bool true) ∧ Below w.heap.size w w' := by
  obtain ⟨m, hm1, hm2, hmin⟩ := min_run n 300 300 rfl
  obtain ⟨A1, hcut, hR⟩ := upto_run_b A n c m m rfl (by omega)
  have q1 := hR w _ hb hm1
  rw [bys_take] at q1
  exact reads_cut A A1 A2 n c m n2 c2 (lb.take m) l w q1 ⟨fun b h => hlb b (List.mem_of_mem_take h)⟩ hm2 (by omega) hc ha ⟨hl⟩ hn hmin hcut
end Go.Proofs.Ytnihkpcfnkimoaa
