/-
  Proved: for every word and every list of fields the law of packed fields (BitsPacks) returns true and leaves its arguments as they were.
  Conditions: none beyond those of the given row.
-/
import Derived.Test.YtnholkkkdmbfnaaRows
import Derived.Test.YtnholkkkdmbfnaaPacksLaw
import Derived.WalkKit
import Derived.ProofKit
import Derived.OpenShut
import Derived.ShutString
import Derived.Deep.Slices
namespace Go.Proofs.Ytnholkkkdmbfnaa.bitsPacks
open Go.ChangeShapes Go.WideShapes Go.ChangeAt Go.RowKit
open Go.Deep (open_slice choose_lt)
set_option linter.unusedVariables false

theorem own : ownKnob Try.prog.godebug = none := by kernel_rfl
theorem laidOut : laidOutB Try.prog = true := by kernel_rfl
theorem cellsI : Try.prog.cellsOf 3 = 1 := by kernel_rfl
theorem cellsU : Try.prog.cellsOf 22 = 1 := by kernel_rfl
theorem cellsF : Try.prog.cellsOf 30 = 3 := by kernel_rfl

/-- A slice of fields that came in: nil, or three cells for each field. -/
theorem opened {H : Type} {enc : TypeId × Value → H} {W : World} {a : Option Addr} {len cap : Nat} {d : DataW H} {p : List MemPlace} (h : DataW.Trod enc Try.prog W 0 (fun _ => true) true 28 (.slice a len cap) d p) :
    (a = none ∧ len = 0 ∧ cap = 0) ∨ ∃ A, a = some A ∧ len ≤ cap ∧ cap ≤ maxLen ∧ ∀ i, i < len → ∃ q : Int × Int × Int,
      W.cell? (A.add (i * 3)) = some (.int .i64 q.1) ∧ W.cell? (A.add (i * 3 + 1)) = some (.int .i64 q.2.1) ∧ W.cell? (A.add (i * 3 + 2)) = some (.int .u64 q.2.2) ∧
      (Lit.int .i64 q.1).wf = true ∧ (Lit.int .i64 q.2.1).wf = true ∧ (Lit.int .u64 q.2.2).wf = true := by
  obtain ⟨fuel, hf⟩ := h
  rcases open_slice Try.underlying28 hf with ⟨hcs, _⟩ | ⟨A, l, c, m, n, D, Pl, hcs, _, hl, hm, hmm, _, hel⟩
  · simp [Value.cells] at hcs
    exact .inl hcs
  · simp [Value.cells] at hcs
    obtain ⟨rfl, rfl, rfl⟩ := hcs
    refine .inr ⟨A, rfl, hl, hm, fun i hi => ?_⟩
    obtain ⟨cs, h1, h2⟩ := hel i (by rw [hmm]; simp; omega)
    rw [cellsF] at h1
    obtain ⟨_, hlen, hcell⟩ := World.cells?_some h1
    obtain ⟨xs, k, _, _, _, hxl, hfs⟩ := DataW.trod_struct Try.underlying30 h2
    match cs, hlen with
    | [c0, c1, c2], _ =>
      match xs, hxl with
      | [y0, y1, y2], _ =>
        have g0 := hfs 0 _ rfl
        have g1 := hfs 1 _ rfl
        have g2 := hfs 2 _ rfl
        simp [cellsI, cellsU] at g0 g1 g2
        obtain ⟨q0, e0, _, w0⟩ := DataW.trod_int Try.underlying3 g0
        obtain ⟨q1, e1, _, w1⟩ := DataW.trod_int Try.underlying3 g1
        obtain ⟨q2, e2, _, w2⟩ := DataW.trod_int Try.underlying22 g2
        simp at e0 e1 e2
        subst e0 e1 e2
        have k0 := hcell 0 (by omega)
        have k1 := hcell 1 (by omega)
        have k2 := hcell 2 (by omega)
        rw [Go.Deep.add_add] at k0 k1 k2
        exact ⟨(q0, q1, q2), by simpa using k0, by simpa using k1, by simpa using k2, w0, w1, w2⟩

theorem add_none (b off i : Nat) : (⟨b, off, none⟩ : Addr).add i = ⟨b, off + i, none⟩ := by
  unfold Addr.add
  split <;> simp_all

/-- The fields as the walk wants them. -/
theorem fields {W : World} {A : Addr} {len : Nat} (hlen : 0 < len) (hel : ∀ i, i < len → ∃ q : Int × Int × Int,
      W.cell? (A.add (i * 3)) = some (.int .i64 q.1) ∧ W.cell? (A.add (i * 3 + 1)) = some (.int .i64 q.2.1) ∧ W.cell? (A.add (i * 3 + 2)) = some (.int .u64 q.2.2) ∧
      (Lit.int .i64 q.1).wf = true ∧ (Lit.int .i64 q.2.1).wf = true ∧ (Lit.int .u64 q.2.2).wf = true) :
    ∃ (b off : Nat) (LO N : Nat → Int) (V : Nat → Nat), A = ⟨b, off, none⟩ ∧ ∀ k, k < len → FieldAt W b (off + k * 3) (LO k) (N k) (V k) := by
  obtain ⟨f, hf⟩ := choose_lt hel
  obtain ⟨b, off, spot⟩ := A
  have hspot : spot = none := by simpa [Addr.add] using World.cell?_spot (hf 0 hlen).1
  subst hspot
  refine ⟨b, off, fun k => (f k).1, fun k => (f k).2.1, fun k => (f k).2.2.toNat, rfl, fun k hk => ?_⟩
  obtain ⟨k0, k1, k2, w0, w1, w2⟩ := hf k hk
  have b0 := bounds_i64 w0
  have b1 := bounds_i64 w1
  have b2 := bounds_u64 w2
  rw [add_none] at k0 k1 k2
  refine ⟨World.block_lt_of_cell? _ _ k0, k0, k1, ?_, b0.1, b0.2, b1.1, b1.2, ?_⟩
  · rw [Int.toNat_of_nonneg b2.1]; exact k2
  · show (f k).2.2.toNat < _; omega

theorem walk (a0 : Int) (w0 : (Lit.int .u64 a0).wf = true) {H : Type} {enc : TypeId × Value → H} (W : World) (a : Option Addr) (len cap : Nat) (d : DataW H) (p : List MemPlace)
    (h : DataW.Trod enc Try.prog W 0 (fun _ => true) true 28 (.slice a len cap) d p) :
    Calls Try.prog 5 #[.int .u64 a0, .slice a len cap] W fun e w' => e = .returned (.bool true) ∧ Below W.heap.size W w' := by
  obtain ⟨x, hx, rfl⟩ : ∃ x : Nat, x < 18446744073709551616 ∧ a0 = x := ⟨a0.toNat, by have := bounds_u64 w0; omega, by have := bounds_u64 w0; omega⟩
  rcases opened h with ⟨rfl, rfl, rfl⟩ | ⟨A, rfl, hl, hm, hel⟩
  · exact packs_none x none 0 W
  · by_cases h0 : len = 0
    · subst h0
      exact packs_none x (some A) cap W
    · obtain ⟨b, off, LO, N, V, rfl, hF⟩ := fields (by omega) hel
      exact packs_some x b off len cap LO N V W hx hl (by unfold maxLen at hm; exact hm) (by omega) ⟨hF⟩

set_option maxRecDepth 100000 in
theorem lifted (os : Os) (started : os.Started) (H : Type) (enc : TypeId × Value → H) :
    ReturnsInHanded {} Try.checked os 5 .any (Rows.bitsPacksSpec.pre6 enc Try.prog Try.f5 Rows.bitsPacksRow.domain false) (Rows.bitsPacksSpec.post enc Try.prog Try.f5 false true false false) := by
  refine returnsInHanded_of_change (C := Try.checked) own started (by kernel_rfl) Try.func5
    (ChangeSpec.witness6 (enc := enc) (C := Try.checked) false ⟨#[], #[.int .u64 0, .slice none 0 0], []⟩ 8 (by kernel_rfl) (by kernel_rfl) (by kernel_rfl) (by kernel_rfl)) ?_
  intro W base args ds gs before hval0 hW hcnd _
  have hval : ∀ (j : Nat) t v, Try.f5.params[j]? = some t → args[j]? = some v → Value.okWide Try.prog W .any base t v := hval0
  have hW' := hW
  obtain ⟨p, q, hA0, hV, rfl, hfz, hnd⟩ := hW
  have hA : DataW.TrodAll enc Try.prog W 0 (fun _ => true) true Try.f5.params.toList args.toList ds p := hA0
  rw [Try.params5] at hA hval
  obtain ⟨v0, vs0, d0, ds0, p0, q0, hargs, rfl, rfl, h0, r0⟩ := trodAll_cons hA
  obtain ⟨v1, vs1, d1, ds1, p1, q1, rfl, rfl, rfl, h1, r1⟩ := trodAll_cons r0
  obtain ⟨rfl, rfl, rfl⟩ := trodAll_nil r1
  obtain rfl : args = #[v0, v1] := by cases args; simp_all
  obtain ⟨rfl, rfl⟩ := trodVars_none hV
  obtain ⟨a0, rfl, rfl, rfl, w0⟩ := open_int Try.underlying22 (hval 0 22 v0 rfl rfl) h0
  obtain ⟨a1, len1, cap1, rfl⟩ := okWide_slice Try.underlying28 (hval 1 28 v1 rfl rfl)
  have lt1 : ∀ x ∈ p1, x.block < W.heap.size := by obtain ⟨m, hm⟩ := h1; exact DataW.trod_lt m _ _ _ hm
  clear hA0 hval0
  simp only [List.append_nil, List.nil_append] at hW'
  refine (walk a0 w0 W a1 len1 cap1 d1 p1 h1).mono fun e W' ⟨he, bel⟩ => ?_
  subst he
  exact ⟨_, rfl, _, _, _, [], _, [], hW', (trodAll_cons_mk (shut_bool Try.underlying4 _) trodAll_mk0), (trodAll_cons_mk (shut_int Try.underlying22 w0) (trodAll_cons_mk (Below.trod laidOut (by kernel_rfl) (of_decide_eq_true (by kernel_rfl)) h1 bel lt1) trodAll_mk0)), rfl, bel.frame _, fun h => by cases h⟩

theorem over : Rows.bitsPacksRow.holds Try.pinned (OpenSpec.ofChange Rows.bitsPacksSpec) :=
  OpenClaim.holds_of_wide 5 Try.f5 rfl rfl rfl rfl rfl rfl rfl ⟨rfl, rfl, rfl, rfl, rfl⟩ rfl rfl rfl rfl rfl (by kernel_rfl) Try.func5 (by kernel_rfl)
    (of_decide_eq_true (by kernel_rfl)) (by unfold Func.isWrapper; first | (rw [if_pos (by decide +kernel)]; kernel_rfl) | (rw [if_neg (by decide +kernel)]; exact ⟨rfl, rfl⟩))
    (fun os started H enc _ => lifted os started H enc)

theorem proved : Rows.BitsPacksSaid :=
  over
#print axioms proved
end Go.Proofs.Ytnholkkkdmbfnaa.bitsPacks
