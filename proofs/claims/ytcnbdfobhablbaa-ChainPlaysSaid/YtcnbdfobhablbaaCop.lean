/-
  Versions, rows of them, rows of numbers, calls that came in, opened.
-/
import Derived.Test.YtcnbdfobhablbaaChq
import Derived.Deep.Slices
import Derived.Deep.Fields
import Derived.ChangeSame
set_option linter.unusedVariables false
set_option linter.unusedSimpArgs false
set_option maxRecDepth 100000
namespace Go.Proofs.Ytcnbdfobhablbaa
open Go.RowKit Go.ChangeShapes Go.WideShapes Go.Deep

theorem bnd_u8 {z : Int} (h : (Lit.int .u8 z).wf = true) : 0 ≤ z ∧ z < 256 := by
  simp [Lit.wf, IntKind.min, IntKind.max, IntKind.bits, IntKind.signed] at h; omega
theorem bnd_u32 {z : Int} (h : (Lit.int .u32 z).wf = true) : 0 ≤ z ∧ z < 4294967296 := by
  simp [Lit.wf, IntKind.min, IntKind.max, IntKind.bits, IntKind.signed] at h; omega
theorem bnd_u64 {z : Int} (h : (Lit.int .u64 z).wf = true) : 0 ≤ z ∧ z < 18446744073709551616 := by
  simp [Lit.wf, IntKind.min, IntKind.max, IntKind.bits, IntKind.signed] at h; omega
/-- A call: Trim or Put, the version, the pins. -/
structure Acv where
  t : Bool
  v : D.Vn
  A : Option Addr
  n : Nat
  c : Nat
def accells (x : Acv) : List Value := .bool x.t :: vcells x.v ++ [.slice x.A x.n x.c]
theorem accells_inj {x y : Acv} (h : accells x = accells y) : x = y := by
  obtain ⟨t, v, A, n, c⟩ := x
  obtain ⟨t', v', A', n', c'⟩ := y
  simp only [accells, List.cons_append, List.cons.injEq, Value.bool.injEq] at h
  obtain ⟨rfl, h⟩ := h
  have hl : (vcells v).length = (vcells v').length := rfl
  obtain ⟨h1, h2⟩ := List.append_inj h hl
  have := vcells_inj h1
  subst this
  simp only [List.cons.injEq, Value.slice.injEq, and_true] at h2
  obtain ⟨rfl, rfl, rfl⟩ := h2
  rfl
def acS : Shp Acv := ⟨accells, 13, by decide, fun _ => rfl, accells_inj, fun x u hu => by
  simp only [accells, List.cons_append, List.mem_cons, List.mem_append, List.not_mem_nil, or_false] at hu
  rcases hu with rfl | hu | rfl
  · rfl
  · exact vS.one x.v u hu
  · rfl⟩
section
variable {H : Type} {enc : TypeId × Value → H} {w : World} {base : Nat} {spare : Nat → Bool} {held : Bool}
theorem open_rec {fuel : Nat} {cs : List Value} {x : DataW H × List MemPlace} (h : DataW.trod enc Try.prog w base spare held fuel 30 cs = some x) :
    ∃ r : D.Rc, cs = rcells r ∧ r.wf ∧ r.t.size ≤ maxLen := by
  obtain ⟨xs, n, _, _, hl, hx, hf⟩ := DataW.trod_struct Try.underlying30 h
  have hC : Try.prog.cellsOf 30 = 9 := by kernel_rfl
  have c8 : Try.prog.cellsOf 5 = 1 := by kernel_rfl
  have cb : Try.prog.cellsOf 4 = 1 := by kernel_rfl
  have c32 : Try.prog.cellsOf 28 = 1 := by kernel_rfl
  have c64 : Try.prog.cellsOf 23 = 1 := by kernel_rfl
  have cst : Try.prog.cellsOf 9 = 1 := by kernel_rfl
  rw [hC] at hl
  have h0 : DataW.trod enc Try.prog w base spare held n 5 ((cs.drop 0).take (Try.prog.cellsOf 5)) = xs[0]? := hf 0 _ rfl
  rw [c8] at h0
  have h1 : DataW.trod enc Try.prog w base spare held n 5 ((cs.drop 1).take (Try.prog.cellsOf 5)) = xs[1]? := hf 1 _ rfl
  rw [c8] at h1
  have h2 : DataW.trod enc Try.prog w base spare held n 5 ((cs.drop 2).take (Try.prog.cellsOf 5)) = xs[2]? := hf 2 _ rfl
  rw [c8] at h2
  have h3 : DataW.trod enc Try.prog w base spare held n 5 ((cs.drop 3).take (Try.prog.cellsOf 5)) = xs[3]? := hf 3 _ rfl
  rw [c8] at h3
  have h4 : DataW.trod enc Try.prog w base spare held n 5 ((cs.drop 4).take (Try.prog.cellsOf 5)) = xs[4]? := hf 4 _ rfl
  rw [c8] at h4
  have h5 : DataW.trod enc Try.prog w base spare held n 4 ((cs.drop 5).take (Try.prog.cellsOf 4)) = xs[5]? := hf 5 _ rfl
  rw [cb] at h5
  have h6 : DataW.trod enc Try.prog w base spare held n 28 ((cs.drop 6).take (Try.prog.cellsOf 28)) = xs[6]? := hf 6 _ rfl
  rw [c32] at h6
  have h7 : DataW.trod enc Try.prog w base spare held n 23 ((cs.drop 7).take (Try.prog.cellsOf 23)) = xs[7]? := hf 7 _ rfl
  rw [c64] at h7
  have h8 : DataW.trod enc Try.prog w base spare held n 9 ((cs.drop 8).take (Try.prog.cellsOf 9)) = xs[8]? := hf 8 _ rfl
  rw [cst] at h8
  match cs, hl with
  | [a0, a1, a2, a3, a4, a5, a6, a7, a8], _ =>
    have x0 : xs[0]? = some (xs[0]'(by rw [hx]; decide)) := List.getElem?_eq_getElem _
    rw [x0] at h0
    have x1 : xs[1]? = some (xs[1]'(by rw [hx]; decide)) := List.getElem?_eq_getElem _
    rw [x1] at h1
    have x2 : xs[2]? = some (xs[2]'(by rw [hx]; decide)) := List.getElem?_eq_getElem _
    rw [x2] at h2
    have x3 : xs[3]? = some (xs[3]'(by rw [hx]; decide)) := List.getElem?_eq_getElem _
    rw [x3] at h3
    have x4 : xs[4]? = some (xs[4]'(by rw [hx]; decide)) := List.getElem?_eq_getElem _
    rw [x4] at h4
    have x5 : xs[5]? = some (xs[5]'(by rw [hx]; decide)) := List.getElem?_eq_getElem _
    rw [x5] at h5
    have x6 : xs[6]? = some (xs[6]'(by rw [hx]; decide)) := List.getElem?_eq_getElem _
    rw [x6] at h6
    have x7 : xs[7]? = some (xs[7]'(by rw [hx]; decide)) := List.getElem?_eq_getElem _
    rw [x7] at h7
    have x8 : xs[8]? = some (xs[8]'(by rw [hx]; decide)) := List.getElem?_eq_getElem _
    rw [x8] at h8
    obtain ⟨z0, e0, _, w0⟩ := DataW.trod_int Try.underlying5 h0
    obtain ⟨z1, e1, _, w1⟩ := DataW.trod_int Try.underlying5 h1
    obtain ⟨z2, e2, _, w2⟩ := DataW.trod_int Try.underlying5 h2
    obtain ⟨z3, e3, _, w3⟩ := DataW.trod_int Try.underlying5 h3
    obtain ⟨z4, e4, _, w4⟩ := DataW.trod_int Try.underlying5 h4
    obtain ⟨z5, e5, _⟩ := DataW.trod_bool Try.underlying4 h5
    obtain ⟨z6, e6, _, w6⟩ := DataW.trod_int Try.underlying28 h6
    obtain ⟨z7, e7, _, w7⟩ := DataW.trod_int Try.underlying23 h7
    obtain ⟨z8, e8, _, w8⟩ := DataW.trod_string Try.underlying9 h8
    simp at e0 e1 e2 e3 e4 e5 e6 e7 e8
    subst e0 e1 e2 e3 e4 e5 e6 e7 e8
    have b0 := bnd_u8 w0
    have b1 := bnd_u8 w1
    have b2 := bnd_u8 w2
    have b3 := bnd_u8 w3
    have b4 := bnd_u8 w4
    have b6 := bnd_u32 w6
    have b7 := bnd_u64 w7
    refine ⟨⟨z0.toNat, z1.toNat, z2.toNat, z3.toNat, z4.toNat, z5, z6.toNat, z7.toNat, z8⟩, ?_, ⟨?_, ?_, ?_, ?_, ?_, ?_, ?_⟩, w8⟩
    · simp only [rcells]
      rw [Int.toNat_of_nonneg b0.1, Int.toNat_of_nonneg b1.1, Int.toNat_of_nonneg b2.1, Int.toNat_of_nonneg b3.1, Int.toNat_of_nonneg b4.1, Int.toNat_of_nonneg b6.1, Int.toNat_of_nonneg b7.1]
    all_goals (simp only; omega)
theorem open_ver {fuel : Nat} {cs : List Value} {x : DataW H × List MemPlace} (h : DataW.trod enc Try.prog w base spare held fuel 32 cs = some x) :
    ∃ r : D.Vn, cs = vcells r ∧ r.wf ∧ r.r.t.size ≤ maxLen := by
  obtain ⟨xs, n, _, _, hl, hx, hf⟩ := DataW.trod_struct Try.underlying32 h
  have hC : Try.prog.cellsOf 32 = 11 := by kernel_rfl
  have cb : Try.prog.cellsOf 4 = 1 := by kernel_rfl
  have c64 : Try.prog.cellsOf 23 = 1 := by kernel_rfl
  have cR : Try.prog.cellsOf 30 = 9 := by kernel_rfl
  rw [hC] at hl
  have h0 : DataW.trod enc Try.prog w base spare held n 23 ((cs.drop 0).take (Try.prog.cellsOf 23)) = xs[0]? := hf 0 _ rfl
  rw [c64] at h0
  have h1 : DataW.trod enc Try.prog w base spare held n 4 ((cs.drop 1).take (Try.prog.cellsOf 4)) = xs[1]? := hf 1 _ rfl
  rw [cb] at h1
  have h2 : DataW.trod enc Try.prog w base spare held n 30 ((cs.drop 2).take (Try.prog.cellsOf 30)) = xs[2]? := hf 2 _ rfl
  rw [cR] at h2
  match cs, hl with
  | a0 :: a1 :: rest, hl =>
    have x0 : xs[0]? = some (xs[0]'(by rw [hx]; decide)) := List.getElem?_eq_getElem _
    rw [x0] at h0
    have x1 : xs[1]? = some (xs[1]'(by rw [hx]; decide)) := List.getElem?_eq_getElem _
    rw [x1] at h1
    have x2 : xs[2]? = some (xs[2]'(by rw [hx]; decide)) := List.getElem?_eq_getElem _
    rw [x2] at h2
    obtain ⟨z0, e0, _, w0⟩ := DataW.trod_int Try.underlying23 h0
    obtain ⟨z1, e1, _⟩ := DataW.trod_bool Try.underlying4 h1
    obtain ⟨r, e2, hr, hz⟩ := open_rec h2
    simp at e0 e1
    subst e0 e1
    have hrl : rest.length = 9 := by simp at hl; omega
    simp only [List.drop_succ_cons, List.drop_zero] at e2
    rw [List.take_of_length_le (by omega)] at e2
    have b0 := bnd_u64 w0
    refine ⟨⟨z0.toNat, z1, r⟩, ?_, ⟨by simp only; omega, hr⟩, hz⟩
    simp only [vcells]
    rw [Int.toNat_of_nonneg b0.1, e2]
theorem open_u64s {fuel : Nat} {cs : List Value} {x : DataW H × List MemPlace} (h : DataW.trod enc Try.prog w base spare held fuel 33 cs = some x) :
    ∃ (A : Option Addr) (len cap : Nat) (l : List Nat), cs = [.slice A len cap] ∧ Row w A len (wds l) ∧ (∀ b ∈ l, b < 18446744073709551616) ∧ len ≤ cap ∧ cap ≤ maxLen := by
  rcases open_ints Try.underlying33 Try.underlying23 (by kernel_rfl) h with ⟨rfl, _⟩ | ⟨a, len, cap, zs, rfl, _, hl, hm, hz, _, hcell, hwz⟩
  · exact ⟨none, 0, 0, [], rfl, Row.nil _ _, by simp, Nat.le_refl _, by simp [maxLen]⟩
  · have hzl : len ≤ zs.length := by rw [hz]; split <;> omega
    refine ⟨some a, len, cap, (zs.take len).map Int.toNat, rfl, ⟨by simp [wds]; omega, fun hn => ⟨a, rfl, ?_, fun j u hu => ?_⟩⟩, ?_, hl, hm⟩
    · have := World.block_lt_of_cell? w _ (hcell 0 (by omega))
      rwa [block_of_add] at this
    · have hj : j < len := by
        have := (List.getElem?_eq_some_iff.1 hu).1
        simp [wds] at this
        omega
      have hq : zs[j]? = some (zs[j]'(by omega)) := List.getElem?_eq_getElem _
      rw [hcell j (by omega), List.getD_eq_getElem?_getD, hq]
      simp only [wds, List.getElem?_map, List.getElem?_take, if_pos hj, hq, Option.map_some] at hu
      rw [← hu]
      have := (bnd_u64 (hwz _ (List.getElem_mem (l := zs) (n := j) (by omega)))).1
      simp only [Option.getD_some]
      rw [Int.toNat_of_nonneg this]
    · intro b hb
      obtain ⟨z, hz', rfl⟩ := List.mem_map.1 hb
      have := bnd_u64 (hwz z (List.mem_of_mem_take hz'))
      omega
theorem open_shp {α : Type} (S : Shp α) (Pr : α → Prop) (z : α) {ST T : TypeId} (hu : Try.prog.underlying ST = some (.slice T)) (hC : Try.prog.cellsOf T = S.n)
    (hel : ∀ (fuel : Nat) (cs : List Value) (x : DataW H × List MemPlace), DataW.trod enc Try.prog w base spare held fuel T cs = some x → ∃ r : α, cs = S.cs r ∧ Pr r)
    {fuel : Nat} {cs : List Value} {x : DataW H × List MemPlace} (h : DataW.trod enc Try.prog w base spare held fuel ST cs = some x) :
    ∃ (A : Option Addr) (len cap : Nat) (l : List α), cs = [.slice A len cap] ∧ Shp.Row S w A len l ∧ (∀ r ∈ l, Pr r) ∧ len ≤ cap ∧ cap ≤ maxLen := by
  rcases open_slice hu h with ⟨rfl, _⟩ | ⟨a, len, cap, m, n, D', Pl, rfl, hb, hl, hm, hmm, _, hi⟩
  · exact ⟨none, 0, 0, [], rfl, Shp.Row.nil _ _, by simp, Nat.le_refl _, Nat.zero_le _⟩
  · have hlm : len ≤ m := by rw [hmm]; split <;> omega
    rw [hC] at hi
    have key : ∀ i, ∃ r : α, i < len → Pr r ∧ S.At w (a.add (i * S.n)) r := by
      intro i
      by_cases hlt : i < len
      · obtain ⟨cs', hc, ht⟩ := hi i (by omega)
        obtain ⟨r, rfl, hr⟩ := hel _ _ _ ht
        obtain ⟨_, _, hat⟩ := World.cells?_some hc
        refine ⟨r, fun _ => ⟨hr, fun j u hu => ?_⟩⟩
        have hj : j < S.n := by have := (List.getElem?_eq_some_iff.1 hu).1; rwa [S.len] at this
        have h1 := hat j (by omega)
        have h2 := (List.getElem?_eq_some_iff.1 hu).2
        rw [h1]
        simpa using hu
      · exact ⟨z, fun h => absurd h hlt⟩
    refine ⟨some a, len, cap, (List.range len).map fun i => Classical.choose (key i), rfl, ⟨by simp, fun hn => ⟨a, rfl, ?_, fun i y hy => ?_⟩⟩, ?_, hl, by omega⟩
    · have hu0 : (S.cs (Classical.choose (key 0)))[0]? = some ((S.cs (Classical.choose (key 0)))[0]'(by rw [S.len]; exact S.pos)) := List.getElem?_eq_getElem _
      have := World.block_lt_of_cell? w _ ((Classical.choose_spec (key 0) hn).2 0 _ hu0)
      rwa [block_of_add, block_of_add] at this
    · rw [List.getElem?_map] at hy
      have hlt : i < len := by
        rcases Nat.lt_or_ge i len with h | h
        · exact h
        · rw [List.getElem?_eq_none (by simp; omega)] at hy; simp at hy
      rw [List.getElem?_range hlt] at hy
      simp at hy
      subst hy
      exact (Classical.choose_spec (key i) hlt).2
    · intro r hr
      obtain ⟨i, hi', rfl⟩ := List.mem_map.1 hr
      exact (Classical.choose_spec (key i) (List.mem_range.1 hi')).1
theorem open_vers {fuel : Nat} {cs : List Value} {x : DataW H × List MemPlace} (h : DataW.trod enc Try.prog w base spare held fuel 24 cs = some x) :
    ∃ (A : Option Addr) (len cap : Nat) (l : List D.Vn), cs = [.slice A len cap] ∧ Shp.Row vS w A len l ∧ (∀ r ∈ l, r.wf ∧ r.r.t.size ≤ maxLen) ∧ len ≤ cap ∧ cap ≤ maxLen :=
  open_shp vS (fun r => r.wf ∧ r.r.t.size ≤ maxLen) D.zVn Try.underlying24 (by kernel_rfl) (fun _ _ _ h => let ⟨r, h1, h2, h3⟩ := open_ver h; ⟨r, h1, h2, h3⟩) h
/-- What a call that came in is. -/
def AcOk (w : World) (a : Acv) : Prop := a.v.wf ∧ a.v.r.t.size ≤ maxLen ∧ a.n ≤ a.c ∧ a.c ≤ maxLen ∧ ∃ xs : List Nat, Row w a.A a.n (wds xs)
theorem open_act {fuel : Nat} {cs : List Value} {x : DataW H × List MemPlace} (h : DataW.trod enc Try.prog w base spare held fuel 35 cs = some x) :
    ∃ r : Acv, cs = acS.cs r ∧ AcOk w r := by
  obtain ⟨xs, n, _, _, hl, hx, hf⟩ := DataW.trod_struct Try.underlying35 h
  have hC : Try.prog.cellsOf 35 = 13 := by kernel_rfl
  have cb : Try.prog.cellsOf 4 = 1 := by kernel_rfl
  have cV : Try.prog.cellsOf 32 = 11 := by kernel_rfl
  have cS : Try.prog.cellsOf 33 = 1 := by kernel_rfl
  rw [hC] at hl
  have h0 : DataW.trod enc Try.prog w base spare held n 4 ((cs.drop 0).take (Try.prog.cellsOf 4)) = xs[0]? := hf 0 _ rfl
  rw [cb] at h0
  have h1 : DataW.trod enc Try.prog w base spare held n 32 ((cs.drop 1).take (Try.prog.cellsOf 32)) = xs[1]? := hf 1 _ rfl
  rw [cV] at h1
  have h2 : DataW.trod enc Try.prog w base spare held n 33 ((cs.drop 12).take (Try.prog.cellsOf 33)) = xs[2]? := hf 2 _ rfl
  rw [cS] at h2
  have x0 : xs[0]? = some (xs[0]'(by rw [hx]; decide)) := List.getElem?_eq_getElem _
  rw [x0] at h0
  have x1 : xs[1]? = some (xs[1]'(by rw [hx]; decide)) := List.getElem?_eq_getElem _
  rw [x1] at h1
  have x2 : xs[2]? = some (xs[2]'(by rw [hx]; decide)) := List.getElem?_eq_getElem _
  rw [x2] at h2
  obtain ⟨z0, e0, _⟩ := DataW.trod_bool Try.underlying4 h0
  obtain ⟨v, e1, hv, hz⟩ := open_ver h1
  obtain ⟨A, m, c, ps, e2, hr, _, hmc, hcm⟩ := open_u64s h2
  refine ⟨⟨z0, v, A, m, c⟩, ?_, hv, hz, hmc, hcm, ps, hr⟩
  show cs = accells _
  have : cs = (cs.drop 0).take 1 ++ ((cs.drop 1).take 11 ++ (cs.drop 12).take 1) := by
    apply List.ext_getElem?
    intro i
    rw [List.getElem?_append, List.getElem?_append]
    simp only [List.drop_zero, List.length_take, List.length_drop, hl, List.getElem?_take, List.getElem?_drop]
    by_cases h1 : i < 1
    · simp [h1]
    · by_cases h2 : i < 12
      · have h3 : i - 1 < 11 := by omega
        have h4 : 1 + (i - 1) = i := by omega
        simp [h1, h3, h4]
      · by_cases h3 : i < 13
        · have h4 : i = 12 := by omega
          subst h4
          simp
        · have h4 : ¬ i - 1 < 11 := by omega
          have h5 : ¬ i - 1 - 11 < 1 := by omega
          rw [List.getElem?_eq_none (by omega)]
          simp [h1, h4, h5]
  rw [this, e0, e1, e2]
  rfl
theorem open_acts {fuel : Nat} {cs : List Value} {x : DataW H × List MemPlace} (h : DataW.trod enc Try.prog w base spare held fuel 22 cs = some x) :
    ∃ (A : Option Addr) (len cap : Nat) (l : List Acv), cs = [.slice A len cap] ∧ Shp.Row acS w A len l ∧ (∀ r ∈ l, AcOk w r) ∧ len ≤ cap ∧ cap ≤ maxLen :=
  open_shp acS (AcOk w) ⟨false, D.zVn, none, 0, 0⟩ Try.underlying22 (by kernel_rfl) (fun _ _ _ h => open_act h) h
end
end Go.Proofs.Ytcnbdfobhablbaa
