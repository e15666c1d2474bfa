/-
  Fields read one by one, by letters; the law's Of; what the document's reader reads of any field.
-/
import Derived.Test.YtelifoagnheioaaRkn
import Derived.Test.YtelifoagnheioaaRefR
import Derived.Test.YtelifoagnheioaaRrk
set_option linter.unusedVariables false
set_option linter.unusedSimpArgs false
set_option maxRecDepth 100000
namespace Go.Proofs.Ytelifoagnheioaa
open Go.RowKit
attribute [local go_sem ↓] Go.wp_at_zero Go.wp_at_succ ld_d st_d bd_d
attribute [local go_sem] run_ldd run_std run_bdd9 run_bdd0 run_bdd1 Shp.rd_new Shp.rd_old Shp.tn_new Shp.tn_old setRow_alloc setRow_alloc2

namespace D
/-- What a letter's field is: kind, most. -/
def lk (c : Nat) : Int := if c = 114 ∨ c = 97 then 3 else if c = 116 then 4 else 0
def lm (c : Nat) : Nat := if c = 114 then mxR else if c = 97 then mxA else if c = 116 then 60 else 0
/-- One letter. -/
def stp (l : List Nat) (S : Rf) (c : Nat) : Rf :=
  match c with
  | 117 => ⟨{ S.r with u := zx l S.z 0 0 }, zn l S.z 0 0, S.odd⟩
  | 109 => ⟨{ S.r with m := zx l S.z 0 0 }, zn l S.z 0 0, S.odd⟩
  | 112 => ⟨{ S.r with p := zx l S.z 0 0 }, zn l S.z 0 0, S.odd⟩
  | 115 => ⟨{ S.r with s := zx l S.z 0 0 }, zn l S.z 0 0, S.odd⟩
  | 103 => ⟨{ S.r with g := decide (zx l S.z 0 0 = 1) }, zn l S.z 0 0, decide (1 < zx l S.z 0 0)⟩
  | 114 => ⟨{ S.r with v := zx l S.z 3 mxR }, zn l S.z 3 mxR, S.odd⟩
  | 97 => ⟨{ S.r with a := zx l S.z 3 mxA }, zn l S.z 3 mxA, S.odd⟩
  | _ => ⟨{ S.r with t := sb (zs l S.z 4 60) }, zn l S.z 4 60, S.odd⟩
def lts (k : Nat) : List Nat := (usz k).data.toList.map (·.toNat)
theorem lts_rfs (l : List Nat) (z : Rz) {k : Nat} (h : ¬ (k = 0 ∨ 6 < k)) : (lts k).foldl (stp l) ⟨bare k, z, false⟩ = rfs l z k := by
  have hk : k = 1 ∨ k = 2 ∨ k = 3 ∨ k = 4 ∨ k = 5 ∨ k = 6 := by omega
  rcases hk with rfl | rfl | rfl | rfl | rfl | rfl <;> rfl
theorem lts_in {k : Nat} (h : ¬ (k = 0 ∨ 6 < k)) : (∀ c ∈ lts k, c = 117 ∨ c = 109 ∨ c = 112 ∨ c = 115 ∨ c = 103 ∨ c = 114 ∨ c = 97 ∨ c = 116) ∧ (usz k).size ≤ 4 := by
  have hk : k = 1 ∨ k = 2 ∨ k = 3 ∨ k = 4 ∨ k = 5 ∨ k = 6 := by omega
  rcases hk with rfl | rfl | rfl | rfl | rfl | rfl <;> decide
end D
set_option maxHeartbeats 1000000 in
theorem of_any (r : D.Rc) (w : World) (hr : r.wf) :
    Calls Try.prog 9 #[.agg (rS.v r)] w fun en w' => en = .returned (.agg (dS.v r)) ∧ Below w.heap.size w w' := by
  have b1 := hr.k
  have b2 := hr.s
  have b3 := hr.u
  have b4 := hr.p
  have b5 := hr.m
  have b6 := hr.v
  have P0 := Lib.hid ((RB.new w w.heap.size r rfl).on (below_alloc _ (.cells #[.int .i64 0, .int .i64 0, .int .i64 0, .int .i64 0, .int .i64 0, .bool false, .int .u64 0, .int .u64 0, .string ⟨#[]⟩] 32)))
  obtain ⟨c0, c1, c2, c3, c4, c5, c6, c7, c8⟩ := rf_of P0.out.rd
  go_enter Try.func9, Try.ntmps9
  go_wp2_with fail
  exact bodyPost_ret (v := .agg (dS.v r)) (by rw [results_cell1 rfl]; simp [asAddr, Result.andThen, lvd_of (Shp.rd_new (S := dS) (w.alloc (.cells (rS.v r) 28)) (w.heap.size + 1) 32 r (by simp))]) rfl ⟨rfl, ((Below.refl _ _).alloc (Nat.le_refl _) _).alloc (by simp) _⟩
theorem ref_read (B : Option Addr) (n c : Nat) (w : World) (f : D.Fd) (r : List Nat) (e : Nat) (hk0 : 0 ≤ f.k) (hk4 : f.k ≤ 4) (hx : f.n < 18446744073709551616) (hr : Row w B n (bys r)) (hl : Kept (∀ b ∈ r, b < 256)) (hnc : n ≤ c) (hc : c ≤ 9223372036854775807) (hn : n ≤ 1000000) :
    Calls Try.prog 29 #[.agg #[.slice B n c, .int .i64 e], .agg #[.int .i64 f.k, .int .u64 f.n, .string f.s]] w (RefRead B n e (D.rd f.k f.n r) r w) := by
  by_cases he : e = 0
  · subst he
    obtain ⟨k, x, s⟩ := f
    simp only at hk0 hk4 hx ⊢
    have hcs : k = 0 ∨ k = 1 ∨ k = 2 ∨ k = 3 ∨ k = 4 := by omega
    rcases hcs with rfl | rfl | rfl | rfl | rfl
    · exact ref_read_0 B n c w x s r hr hl hnc hc hn
    · exact ref_read_1 B n c w x s r hr hl hnc hc hn
    · exact ref_read_2 B n c w x s r hr hl hnc hc hn
    · exact ref_read_3 B n c w x s r hx hr hl hnc hc hn
    · exact ref_read_4 B n c w x s r hx hr hl hnc hc hn
  · exact ref_read_stuck B n c w f r e _ he hr hnc hc
/-- The document's reader, by its place. -/
def Fr (B : Option Addr) (m d : Nat) (l : List Nat) (z : D.Rz) (W : World) : Prop := Row W B m (bys (l.drop z.n)) ∧ m ≤ d ∧ d ≤ 9223372036854775807
theorem Fr.on {B : Option Addr} {m d : Nat} {l : List Nat} {z : D.Rz} {W W' : World} (h : Fr B m d l z W) (b : Below W.heap.size W W') : Fr B m d l z W' := ⟨h.1.on b, h.2⟩
theorem Fr.len {B : Option Addr} {m d : Nat} {l : List Nat} {z : D.Rz} {W : World} (h : Fr B m d l z W) : m = l.length - z.n := by
  have := h.1.len
  rw [bys_len, List.length_drop] at this
  exact this.symm
theorem ref_rz (B : Option Addr) (m d : Nat) (l : List Nat) (z : D.Rz) (w : World) (hl : ∀ b ∈ l, b < 256) (hn : l.length ≤ 1000000) (h : Fr B m d l z w) (k : Int) (mo : Nat) (s : ByteArray) (hk0 : 0 ≤ k) (hk4 : k ≤ 4) (hmo : mo < 18446744073709551616) :
    Calls Try.prog 29 #[.agg #[.slice B m d, .int .i64 (z.e : Nat)], .agg #[.int .i64 k, .int .u64 (mo : Nat), .string s]] w fun en w' => ∃ (B' : Option Addr) (m' d' : Nat), en = .returned (.tuple #[.agg #[.slice B' m' d', .int .i64 ((D.zn l z k mo).e : Nat)], .int .u64 (D.zx l z k mo : Nat), .string (D.sb (D.zs l z k mo))]) ∧ Fr B' m' d' l (D.zn l z k mo) w' ∧ Below w.heap.size w w' := by
  have hlen := h.len
  refine (ref_read B m d w ⟨k, mo, s⟩ (l.drop z.n) z.e hk0 hk4 hmo h.1 ⟨fun b hb => hl b (List.mem_of_mem_drop hb)⟩ h.2.1 h.2.2 (by omega)).mono ?_
  rintro en w' ⟨B', m', d', h1, h2, h3, h4, h5⟩
  obtain ⟨e1, e2, e3, e4⟩ := zn_eq l z k mo
  refine ⟨B', m', d', by rw [e2, e3, e4]; exact h1, ⟨?_, h3, h4⟩, h5⟩
  have := h2 w' (h.1.on h5)
  rw [e1]
  unfold pl
  by_cases he : z.e = 0
  · rw [if_pos he] at this ⊢
    rw [List.drop_drop] at this
    exact this
  · rw [if_neg he] at this ⊢
    exact this
theorem D.zn_le {l : List Nat} (hl : ∀ b ∈ l, b < 256) {z : D.Rz} (h : z.n ≤ l.length) (k : Int) (m : Nat) : (D.zn l z k m).n ≤ l.length := by
  unfold D.zn
  split
  · have := (D.rd_fine (k := k) (m := m) (r := l.drop z.n) fun b hb => hl b (List.mem_of_mem_drop hb)).le
    rw [List.length_drop] at this
    simp only
    omega
  · exact h
end Go.Proofs.Ytelifoagnheioaa
