/-
  The law of packed fields: its walk.
-/
import Derived.Test.YtnholkkkdmbfnaaLaws
namespace Go.Proofs.Ytnholkkkdmbfnaa
open Go.RowKit

theorem past {w : World} {c i : Nat} (o : Obj) (h : c < w.heap.size) : (w.alloc o).cell? ⟨c, i, none⟩ = w.cell? ⟨c, i, none⟩ ∧ (w.alloc o).frozen? ⟨c, i, none⟩ = w.frozen? ⟨c, i, none⟩ :=
  have hb := (Below.refl w.heap.size w).alloc (Nat.le_refl _) o
  ⟨hb.cell (p := ⟨c, i, none⟩) h, hb.frozen (p := ⟨c, i, none⟩) h⟩
theorem set_here {w : World} {c : Nat} {v : Value} (u : Value) (h : w.cell? ⟨c, 0, none⟩ = some v) : (w.setCell ⟨c, 0, none⟩ u).cell? ⟨c, 0, none⟩ = some u := by
  unfold World.cell? at h
  simp only at h
  cases hb : w.heap[c]? with
  | none => simp [hb] at h
  | some o =>
    cases o with
    | cells cs t fr =>
      rw [hb] at h
      simp at h
      obtain ⟨h1, _⟩ := Array.getElem?_eq_some_iff.1 h
      simp [World.cell?, World.setCell, Array.getElem?_modify, hb, h1]
    | _ => simp [hb] at h
theorem size_set (w : World) (a : Addr) (u : Value) : (w.setCell a u).heap.size = w.heap.size := by simp [World.setCell]

theorem closure_any (x r : Nat) (lo n : Int) (v c : Nat) (w : World) (hx : x < 18446744073709551616) (h1 : -9223372036854775808 ≤ n) (h2 : n ≤ 9223372036854775807) (hr : Kept (M.put x lo n v = r))
    (hlt : c < w.heap.size) (hc : w.cell? ⟨c, 0, none⟩ = some (.int .u64 x)) (hf : w.frozen? ⟨c, 0, none⟩ = false) :
    Calls Try.prog 38 #[.agg #[.int .i64 lo, .int .i64 n, .int .u64 v], .pointer (some ⟨c, 0, none⟩)] w fun e w' => e = .returned (.tuple #[]) ∧
      w'.cell? ⟨c, 0, none⟩ = some (.int .u64 r) ∧ w'.frozen? ⟨c, 0, none⟩ = false ∧ Below c w w' := by
  have cP := Lib.hid (fun W => put_is x r lo n v W hx h1 h2 hr)
  clear hr
  have hps := past (w := w.setCell ⟨c, 0, none⟩ (.int .u64 r)) (i := 0) (.cells #[.int .i64 lo, .int .i64 n, .int .u64 v] 30) (by rw [size_set]; exact hlt)
  have HS := Lib.hid (hps.1.trans (set_here (.int .u64 r) hc))
  have HS2 := Lib.hid (hps.2.trans ((World.frozen?_setCell _ _ _ _).trans hf))
  have hb : Below c w ((w.setCell ⟨c, 0, none⟩ (.int .u64 r)).alloc (.cells #[.int .i64 lo, .int .i64 n, .int .u64 v] 30)) :=
    Below.alloc (w := w.setCell ⟨c, 0, none⟩ (.int .u64 r)) ((Below.refl _ _).setCell (Nat.le_refl _) _) (by rw [size_set]; exact Nat.le_of_lt hlt) _
  clear hps
  go_enter Try.func38, Try.ntmps38
  go_wp2_with (first | (go_at_call 13; (with_reducible refine (cP.out _).mono ?_); rintro e w1 ⟨rfl, rfl⟩))
  go_end0
  exact ⟨rfl, HS.out, HS2.out, hb⟩

/-- The fields put so far. -/
def packed (x : Nat) (LO N : Nat → Int) (V : Nat → Nat) : Nat → Nat
  | 0 => x
  | k + 1 => M.put (packed x LO N V k) (LO k) (N k) (V k)
theorem packed_lt {x : Nat} (hx : x < 18446744073709551616) (LO N : Nat → Int) (V : Nat → Nat) (k : Nat) : packed x LO N V k < 18446744073709551616 := by
  cases k with
  | zero => exact hx
  | succ k => exact M.put_lt _ _ _ _

/-- The field k of a slice of fields, in memory. -/
structure FieldAt (w : World) (b o : Nat) (lo n : Int) (v : Nat) : Prop where
  lt : b < w.heap.size
  c0 : w.cell? ⟨b, o, none⟩ = some (.int .i64 lo)
  c1 : w.cell? ⟨b, o + 1, none⟩ = some (.int .i64 n)
  c2 : w.cell? ⟨b, o + 2, none⟩ = some (.int .u64 v)
  l1 : -9223372036854775808 ≤ lo
  l2 : lo ≤ 9223372036854775807
  n1 : -9223372036854775808 ≤ n
  n2 : n ≤ 9223372036854775807
  v : v < 18446744073709551616
theorem FieldAt.later {w w' : World} {b o : Nat} {lo n : Int} {v : Nat} (h : FieldAt w b o lo n v) (hb : Below w.heap.size w w') : FieldAt w' b o lo n v :=
  ⟨Nat.lt_of_lt_of_le h.lt hb.size, (hb.cell (p := ⟨b, o, none⟩) h.lt).trans h.c0, (hb.cell (p := ⟨b, o + 1, none⟩) h.lt).trans h.c1, (hb.cell (p := ⟨b, o + 2, none⟩) h.lt).trans h.c2, h.l1, h.l2, h.n1, h.n2, h.v⟩

theorem pack_some (x r : Nat) (b off len cap : Nat) (LO N : Nat → Int) (V : Nat → Nat) (w : World) (hx : x < 18446744073709551616) (hlen : len ≤ 30)
    (hF : Kept (∀ k, k < len → FieldAt w b (off + k * 3) (LO k) (N k) (V k))) (hr : Kept (packed x LO N V len = r)) :
    Calls Try.prog 16 #[.int .u64 x, .slice (some ⟨b, off, none⟩) len cap] w fun e w' => e = .returned (.int .u64 r) ∧ Below w.heap.size w w' := by
  go_enter Try.func16, Try.ntmps16
  go_wp2_with fail
  go_loopw [11] (fun i wr => ∃ k q : Nat, k ≤ len ∧ i = .int .i64 k ∧ wr.cell? ⟨w.heap.size, 0, none⟩ = some (.int .u64 q) ∧ wr.frozen? ⟨w.heap.size, 0, none⟩ = false ∧ Below w.heap.size w wr ∧ w.heap.size < wr.heap.size ∧ Kept (packed x LO N V k = q)) (fun i _ => len - (intOf i).toNat)
  case atStart => exact ⟨0, x, Nat.zero_le _, rfl, by simp, by simp [World.frozen?_alloc_new], (Below.refl _ _).alloc (Nat.le_refl _) _, by simp, ⟨rfl⟩⟩
  case round =>
    obtain ⟨k, q, hk, rfl, hc, hf, hbel, hsz, HK⟩ := hrel
    by_cases hlt : k < len
    · obtain ⟨flt, f0, f1, f2, l1, l2, n1, n2, fv⟩ := (hF.out k hlt).later hbel
      have hq : q < 18446744073709551616 := by rw [← HK.out]; exact packed_lt hx _ _ _ _
      obtain ⟨q2, hq2⟩ : ∃ q2, M.put q (LO k) (N k) (V k) = q2 := ⟨_, rfl⟩
      have HN : Kept (packed x LO N V (k + 1) = q2) := ⟨by rw [packed, HK.out, hq2]⟩
      obtain ⟨lo, hlo⟩ : ∃ z, LO k = z := ⟨_, rfl⟩
      obtain ⟨n, hn⟩ : ∃ z, N k = z := ⟨_, rfl⟩
      obtain ⟨v, hv⟩ : ∃ z, V k = z := ⟨_, rfl⟩
      rw [hlo] at f0 l1 l2 hq2
      rw [hn] at f1 n1 n2 hq2
      rw [hv] at f2 fv hq2
      obtain ⟨W1, hW1⟩ : ∃ W1, W1 = wr.alloc (.cells #[.int .i64 lo, .int .i64 n, .int .u64 v] 30) := ⟨_, rfl⟩
      have hps := past (i := 0) (.cells #[.int .i64 lo, .int .i64 n, .int .u64 v] 30) hsz
      have cC := Lib.hid (closure_any q q2 lo n v w.heap.size (wr.alloc (.cells #[.int .i64 lo, .int .i64 n, .int .u64 v] 30)) hq n1 n2 ⟨hq2⟩ (by simp; omega) (hps.1.trans hc) (hps.2.trans hf))
      have hba : Below w.heap.size w (wr.alloc (.cells #[.int .i64 lo, .int .i64 n, .int .u64 v] 30)) := hbel.alloc (by omega) _
      have hsa : w.heap.size < (wr.alloc (.cells #[.int .i64 lo, .int .i64 n, .int .u64 v] 30)).heap.size := by simp; omega
      have HBA := Lib.hid hba
      have HSA := Lib.hid hsa
      clear HK hq2 hlo hn hv hr hF hps hba hsa
      go_wp2_with (go_at_call 38; (with_reducible refine cC.out.mono ?_); rintro e w1 ⟨rfl, hc1, hf1, hb1⟩)
      go_roundw
      case rel => exact ⟨k + 1, q2, by omega, by go_num, hc1, hf1, HBA.out.trans hb1, Nat.lt_of_lt_of_le HSA.out hb1.size, HN⟩
      case measure => simp [intOf]; omega
    · have hkl : Kept (q = r) := ⟨by rw [← HK.out, ← hr.out, show k = len by omega]⟩
      clear HK hr hF
      go_wp2
      go_ret
      exact ⟨ret_of (by rw [hkl.out]), hbel⟩

theorem pack_none (x : Nat) (a : Option Addr) (cap : Nat) (w : World) :
    Calls Try.prog 16 #[.int .u64 x, .slice a 0 cap] w fun e w' => e = .returned (.int .u64 x) ∧ Below w.heap.size w w' := by
  go_enter Try.func16, Try.ntmps16
  go_wp2_with fail
  refine wp_loop_rounds 1 ?_
  rw [rounds_succ]
  go_wp2
  go_ret
  exact ⟨rfl, (Below.refl _ _).alloc (Nat.le_refl _) _⟩
end Go.Proofs.Ytnholkkkdmbfnaa
