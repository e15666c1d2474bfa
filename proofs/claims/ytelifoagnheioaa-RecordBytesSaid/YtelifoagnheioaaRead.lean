/-
  The reader's calls.
-/
import Derived.Test.YtelifoagnheioaaTake
set_option linter.unusedVariables false
set_option maxRecDepth 100000
set_option linter.unusedSimpArgs false
namespace Go.Proofs.Ytelifoagnheioaa
open Go.RowKit
attribute [local go_sem ↓] Go.wp_at_zero Go.wp_at_succ

/-- The error and the place behind a call. -/
def er (e : Nat) (a : D.An) : Nat := if e = 0 then a.e else e
def pl (e place : Nat) (a : D.An) : Nat := if e = 0 then place + a.k else place
def xx (e : Nat) (a : D.An) : Nat := if e = 0 then a.x else 0
def ss (e : Nat) (a : D.An) : List Nat := if e = 0 then a.s else []
/-- What was read, and how the reader is. -/
def Read (q : Nat) (B : Option Addr) (n c : Nat) (l : List Nat) (v : Value) (place e : Nat) (w : World) (en : Ending) (w' : World) : Prop :=
  en = .returned v ∧ Rd w' q B n c l place e ∧ Only (fun i => i = q) w w'
section
variable {q n c place e place' e' : Nat} {B : Option Addr} {l : List Nat} {w w1 w' : World} {v : Value} {en : Ending}
theorem read_took (h : Rd w q B n c l place e) (hb : Below w.heap.size w w1) (hp : place' ≤ n) (ht : Took q B n c v e' place' w1 en w') : Read q B n c l v place' e' w en w' :=
  ⟨ht.1, ⟨ht.2.1, (h.row.on hb).only ht.2.2 h.off, h.lt, hp, h.nc, h.cm, h.small, h.off⟩, ht.2.2.off hb⟩
theorem read_still (h : Rd w q B n c l place e) (hb : Below w.heap.size w w') (he : en = .returned v) : Read q B n c l v place e w en w' := ⟨he, h.on hb, only_below hb⟩
theorem Read.val (h : Read q B n c l v place e w en w') : en = .returned v := h.1
theorem fix_lt {z : Nat} {r : List Nat} (hl : ∀ b ∈ r, b < 256) : (D.fix z r).x < 256 ^ z := by
  unfold D.fix
  split
  · exact Nat.pow_pos (by decide)
  · rename_i h
    have := D.val_lt (l := r.take z) fun b hb => hl b (List.mem_of_mem_take hb)
    have e : (r.take z).length = z := by simp; omega
    rwa [e] at this
theorem Rd.lt2 (h : Rd w q B n c l place e) : ∀ b ∈ l.drop place, b < 256 := fun b hb => h.lt.out b (List.mem_of_mem_drop hb)
theorem Rd.len (h : Rd w q B n c l place e) : (l.drop place).length = n - place := by
  have := h.row.len
  rw [bys_len] at this
  simp; omega
theorem below_alloc' (w : World) (o : Obj) : Below w.heap.size w (w.alloc o) := (Below.refl _ _).alloc (Nat.le_refl _) o
theorem new_cell' (w : World) (v : Value) (t : TypeId) : (w.alloc (.cells #[v] t)).cell? ⟨w.heap.size, 0, none⟩ = some v := ((Blk.new w t #[v]).c 0).trans rfl
theorem Rd.rest (h : Rd w q B n c l place e) : ∃ A1, (∀ W, (Instr.slice 23 (.slice B n c) (some (.int .i64 (place : Int))) none none).run Try.prog W = .ok (.slice A1 (n - place) (c - place)) W) ∧
    ∀ o u, Row ((w.alloc o).drewN u) A1 (n - place) (bys (l.drop place)) := by
  obtain ⟨A1, hcut, hrow⟩ := from_run_b B n c place (place : Int) rfl h.le
  refine ⟨A1, hcut, fun o u => ?_⟩
  have := hrow w _ h.row h.nc
  rw [bys_drop] at this
  exact (this.alloc o).drewN u
end
section
variable (q n c place e : Nat) (B : Option Addr) (l : List Nat) (w : World)
set_option maxHeartbeats 400000 in
theorem r_fixed (z : Nat) (hz : z ≤ 8) (h : Rd w q B n c l place e) :
    Calls Try.prog 58 #[.pointer (some ⟨q, 0, none⟩), .int .i64 z] w (Read q B n c l (.int .u64 (xx e (D.fix z (l.drop place)))) (pl e place (D.fix z (l.drop place))) (er e (D.fix z (l.drop place))) w) := by
  have hfi := D.fix_fine h.lt2 hz
  have hlen := h.len
  have hsm := h.small
  have hle := h.le
  by_cases he : e = 0
  · subst he
    obtain ⟨A1, hcut, hrow⟩ := h.rest
    have hf := fun u => fixed_cl A1 (n - place) (c - place) w.heap.size (l.drop place) (((w.alloc (.cells #[.int .i64 z] 3))).drewN u) z hz (hrow _ _) ⟨h.lt2⟩ (by have := h.nc; omega) (by have := h.cm; omega) (by omega) (new_cell' w _ _)
    by_cases ha : (D.fix z (l.drop place)).e = 0
    · rw [ha] at hf
      have cT := Lib.hid (take_ok_fixed q n c place B (w.alloc (.cells #[.int .i64 z] 3)) (D.fix z (l.drop place)).x (D.fix z (l.drop place)).k #[.pointer (some ⟨w.heap.size, 0, none⟩)] A1 (h.blk.on (below_alloc' _ _)) (by omega) (by have := hfi.le; omega) hcut hf)
      have HP : Kept (pl 0 place (D.fix z (l.drop place)) ≤ n) := ⟨by rw [pl, if_pos rfl]; have := hfi.le; omega⟩
      have HA : Kept ((D.fix z (l.drop place)).e = 0) := ⟨ha⟩
      clear ha hf hlen
      go_enter Try.func58, Try.ntmps58
      go_wp2_with (go_at_call 68; (with_reducible refine cT.out.mono ?_); rintro en w1 HT; have HE := HT.1; subst HE)
      go_ret
      exact read_took h (below_alloc' _ _) HP.out (by rw [er, if_pos rfl, HA.out]; exact HT)
    · have cT := Lib.hid (take_bad_fixed q n c place B (w.alloc (.cells #[.int .i64 z] 3)) (D.fix z (l.drop place)).x (D.fix z (l.drop place)).k _ #[.pointer (some ⟨w.heap.size, 0, none⟩)] A1 (h.blk.on (below_alloc' _ _)) ha hcut hf)
      have HP : Kept (pl 0 place (D.fix z (l.drop place)) = place) := ⟨by rw [pl, if_pos rfl, (hfi.bad ha).2.2]; rfl⟩
      have HX : Kept (xx 0 (D.fix z (l.drop place)) = 0) := ⟨by rw [xx, if_pos rfl, (hfi.bad ha).1]⟩
      clear ha hf hlen
      go_enter Try.func58, Try.ntmps58
      go_wp2_with (go_at_call 68; (with_reducible refine cT.out.mono ?_); rintro en w1 HT; have HE := HT.1; subst HE)
      go_ret
      rw [HP.out, HX.out]
      exact read_took h (below_alloc' _ _) h.le HT
  · have cT := Lib.hid (take_stuck_uint64 q n c place e B (w.alloc (.cells #[.int .i64 z] 3)) 69 #[.pointer (some ⟨w.heap.size, 0, none⟩)] (h.blk.on (below_alloc' _ _)) he)
    have HE : Kept (e ≠ 0) := ⟨he⟩
    clear he
    go_enter Try.func58, Try.ntmps58
    go_wp2_with (go_at_call 68; (with_reducible refine cT.out.mono ?_); rintro en w1 ⟨rfl, rfl⟩)
    go_ret
    rw [pl, er, xx, if_neg HE.out, if_neg HE.out, if_neg HE.out]
    exact read_still h (below_alloc' _ _) rfl
theorem num_ok {m : Nat} {r : List Nat} (h : (D.num m r).e = 0) : (D.num m r).x = (D.readS r).1 ∧ (D.num m r).k = (D.readS r).2.1 := by
  unfold D.num at h ⊢
  split at h
  · rename_i h1; exact absurd h h1
  · rename_i h1
    rw [if_neg h1]
    split at h
    · simp at h
    · rename_i h2
      rw [if_neg h2]
      exact ⟨rfl, rfl⟩
set_option maxHeartbeats 400000 in
theorem r_number (mo : Nat) (hmo : mo < 18446744073709551616) (h : Rd w q B n c l place e) :
    Calls Try.prog 62 #[.pointer (some ⟨q, 0, none⟩), .int .u64 mo] w (Read q B n c l (.int .u64 (xx e (D.num mo (l.drop place)))) (pl e place (D.num mo (l.drop place))) (er e (D.num mo (l.drop place))) w) := by
  have hfi := D.num_fine (m := mo) h.lt2
  have hlen := h.len
  have hsm := h.small
  have hle := h.le
  by_cases he : e = 0
  · subst he
    obtain ⟨A1, hcut, hrow⟩ := h.rest
    have hf := fun u => number_rcl A1 (n - place) (c - place) w.heap.size (l.drop place) (((w.alloc (.cells #[.int .u64 mo] 26))).drewN u) mo hmo (hrow _ _) ⟨h.lt2⟩ (by omega) (new_cell' w _ _)
    by_cases ha : (D.num mo (l.drop place)).e = 0
    · rw [ha] at hf
      have hno := num_ok ha
      have cT := Lib.hid (take_ok_number q n c place B (w.alloc (.cells #[.int .u64 mo] 26)) (D.readS (l.drop place)).1 (D.readS (l.drop place)).2.1 #[.pointer (some ⟨w.heap.size, 0, none⟩)] A1 (h.blk.on (below_alloc' _ _)) (by omega) (by have := hfi.le; have := hno.2; omega) hcut hf)
      have HP : Kept (pl 0 place (D.num mo (l.drop place)) ≤ n) := ⟨by rw [pl, if_pos rfl]; have := hfi.le; omega⟩
      have HA : Kept ((D.num mo (l.drop place)).e = 0) := ⟨ha⟩
      clear ha hf hlen hno
      go_enter Try.func62, Try.ntmps62
      go_wp2_with (go_at_call 68; (with_reducible refine cT.out.mono ?_); rintro en w1 HT; have HE := HT.1; subst HE)
      go_ret
      exact read_took h (below_alloc' _ _) HP.out (by rw [er, if_pos rfl, HA.out, pl, if_pos rfl, xx, if_pos rfl, (num_ok HA.out).1, (num_ok HA.out).2]; exact HT)
    · have cT := Lib.hid (take_bad_number q n c place B (w.alloc (.cells #[.int .u64 mo] 26)) (D.readS (l.drop place)).1 (D.readS (l.drop place)).2.1 _ #[.pointer (some ⟨w.heap.size, 0, none⟩)] A1 (h.blk.on (below_alloc' _ _)) ha hcut hf)
      have HP : Kept (pl 0 place (D.num mo (l.drop place)) = place) := ⟨by rw [pl, if_pos rfl, (hfi.bad ha).2.2]; rfl⟩
      have HX : Kept (xx 0 (D.num mo (l.drop place)) = 0) := ⟨by rw [xx, if_pos rfl, (hfi.bad ha).1]⟩
      clear ha hf hlen
      go_enter Try.func62, Try.ntmps62
      go_wp2_with (go_at_call 68; (with_reducible refine cT.out.mono ?_); rintro en w1 HT; have HE := HT.1; subst HE)
      go_ret
      rw [HP.out, HX.out]
      exact read_took h (below_alloc' _ _) h.le HT
  · have cT := Lib.hid (take_stuck_uint64 q n c place e B (w.alloc (.cells #[.int .u64 mo] 26)) 70 #[.pointer (some ⟨w.heap.size, 0, none⟩)] (h.blk.on (below_alloc' _ _)) he)
    have HE : Kept (e ≠ 0) := ⟨he⟩
    clear he
    go_enter Try.func62, Try.ntmps62
    go_wp2_with (go_at_call 68; (with_reducible refine cT.out.mono ?_); rintro en w1 ⟨rfl, rfl⟩)
    go_ret
    rw [pl, er, xx, if_neg HE.out, if_neg HE.out, if_neg HE.out]
    exact read_still h (below_alloc' _ _) rfl
set_option maxHeartbeats 400000 in
theorem r_text (mo : Int) (h1 : -9223372036854775808 ≤ mo) (h2 : mo ≤ 9223372036854775807) (h : Rd w q B n c l place e) :
    Calls Try.prog 65 #[.pointer (some ⟨q, 0, none⟩), .int .i64 mo] w (Read q B n c l (.string (D.sb (ss e (D.txt mo.toNat (l.drop place))))) (pl e place (D.txt mo.toNat (l.drop place))) (er e (D.txt mo.toNat (l.drop place))) w) := by
  have hfi := D.txt_fine (m := mo.toNat) h.lt2
  have hlen := h.len
  have hsm := h.small
  have hle := h.le
  by_cases he : e = 0
  · subst he
    obtain ⟨A1, hcut, hrow⟩ := h.rest
    have hf := fun u => text_rcl A1 (n - place) (c - place) w.heap.size (l.drop place) (((w.alloc (.cells #[.int .i64 mo] 3))).drewN u) mo h1 h2 (hrow _ _) ⟨h.lt2⟩ (by have := h.nc; omega) (by have := h.cm; omega) (by omega) (new_cell' w _ _)
    by_cases ha : (D.txt mo.toNat (l.drop place)).e = 0
    · rw [ha] at hf
      have cT := Lib.hid (take_ok_text q n c place B (w.alloc (.cells #[.int .i64 mo] 3)) (D.sb (D.txt mo.toNat (l.drop place)).s) (D.txt mo.toNat (l.drop place)).k #[.pointer (some ⟨w.heap.size, 0, none⟩)] A1 (h.blk.on (below_alloc' _ _)) (by omega) (by have := hfi.le; omega) hcut hf)
      have HP : Kept (pl 0 place (D.txt mo.toNat (l.drop place)) ≤ n) := ⟨by rw [pl, if_pos rfl]; have := hfi.le; omega⟩
      have HA : Kept ((D.txt mo.toNat (l.drop place)).e = 0) := ⟨ha⟩
      clear ha hf hlen
      go_enter Try.func65, Try.ntmps65
      go_wp2_with (go_at_call 72; (with_reducible refine cT.out.mono ?_); rintro en w1 HT; have HE := HT.1; subst HE)
      go_ret
      exact read_took h (below_alloc' _ _) HP.out (by rw [er, if_pos rfl, HA.out]; exact HT)
    · have cT := Lib.hid (take_bad_text q n c place B (w.alloc (.cells #[.int .i64 mo] 3)) (D.sb (D.txt mo.toNat (l.drop place)).s) (D.txt mo.toNat (l.drop place)).k _ #[.pointer (some ⟨w.heap.size, 0, none⟩)] A1 (h.blk.on (below_alloc' _ _)) ha hcut hf)
      have HP : Kept (pl 0 place (D.txt mo.toNat (l.drop place)) = place) := ⟨by rw [pl, if_pos rfl, (hfi.bad ha).2.2]; rfl⟩
      have HX : Kept (ss 0 (D.txt mo.toNat (l.drop place)) = []) := ⟨by rw [ss, if_pos rfl, (hfi.bad ha).2.1]⟩
      clear ha hf hlen
      go_enter Try.func65, Try.ntmps65
      go_wp2_with (go_at_call 72; (with_reducible refine cT.out.mono ?_); rintro en w1 HT; have HE := HT.1; subst HE)
      go_ret
      rw [HP.out, HX.out]
      exact read_took h (below_alloc' _ _) h.le HT
  · have cT := Lib.hid (take_stuck_string q n c place e B (w.alloc (.cells #[.int .i64 mo] 3)) 73 #[.pointer (some ⟨w.heap.size, 0, none⟩)] (h.blk.on (below_alloc' _ _)) he)
    have HE : Kept (e ≠ 0) := ⟨he⟩
    clear he
    go_enter Try.func65, Try.ntmps65
    go_wp2_with (go_at_call 72; (with_reducible refine cT.out.mono ?_); rintro en w1 ⟨rfl, rfl⟩)
    go_ret
    rw [pl, er, ss, if_neg HE.out, if_neg HE.out, if_neg HE.out]
    exact read_still h (below_alloc' _ _) rfl
end
end Go.Proofs.Ytelifoagnheioaa
