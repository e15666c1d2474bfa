/-
  Calls that came in, opened; the library's table, as it was laid.
-/
import Derived.Test.YtdolceefbikppaaDoorPla
import Derived.Deep.Slices
import Derived.Deep.Fields
import Derived.ChangeSame
import Derived.OpenShut
import Derived.ChangeArms
import Derived.Handed
import Derived.HandedShaped
import Derived.ProofKit
import Derived.LaidMore
set_option linter.unusedVariables false
set_option linter.unusedSimpArgs false
set_option maxRecDepth 100000
namespace Go.Proofs.YtdolceefbikppaaDoor
open Go.ChangeShapes Go.WideShapes Go.ChangeAt Go.RowKit Go.Deep
/-- A row's call, told what was laid and how the world is shaped. -/
theorem returns_both {H : Type} {enc : TypeId × Value → H} {a : Assume} {C : Checked} {os : Os} {f : FuncId} {fn : Func} {s : ChangeSpec} {conds : List PathCond} {apart fresh handsOn again : Bool} {X : World → Array Value → Prop}
    (hX : ∀ (w w' : World) (args : Array Value), w.heap = w'.heap → X w args → X w' args)
    (own : ownKnob C.prog.godebug = none) (started : os.Started) (noInit : C.prog.inits.idxOf? f = none) (hfn : C.prog.funcs[f]? = some fn)
    (witness : ∃ (w : World) (tape : Tape) (i : Input), w.os = os ∧ (w.forCall tape i).Shaped C.prog ∧ i.vars = [] ∧ Input.okWide C.prog (w.forCall tape i) .any w.heap.size f i ∧
      ((s.pre enc C.prog fn conds apart (w.forCall tape i).memory i.args ∧ X (w.forCall tape i).memory i.args) ∧ sizedMet enc C.prog fn (OpenSpec.ofChange s) apart (w.forCall tape i).memory i.args) ∧ a.holds C.prog (lone (Frame.enter C.prog f i.args .normal) [] (w.forCall tape i)))
    (contract : ∀ (W : World) (base : Nat) (args : Array Value) (ds gs : List (DataW H)) (before : List MemPlace),
      (∀ (j : Nat) t v, fn.params[j]? = some t → args[j]? = some v → Value.okWide C.prog W .any base t v) →
      DataW.Whole enc C.prog fn.params.toList s.vars apart W args.toList ds gs before → X W args → W.ShapedOpen C.prog →
      Calls C.prog f args W fun e W' => ∃ v, e = .returned v ∧ s.post enc C.prog fn apart fresh handsOn again W args v W') :
    ReturnsInHanded a C os f .any (fun w args => (s.pre enc C.prog fn conds apart w args ∧ X w args) ∧ sizedMet enc C.prog fn (OpenSpec.ofChange s) apart w args) (s.post enc C.prog fn apart fresh handsOn again) := by
  refine returnsInHanded_of_calls own started noInit witness ?_
  intro w tape i _ hsh _ hok hpre _
  obtain ⟨_, _, _, fn', hfn', _, _, _, _, hval⟩ := hok
  obtain rfl : fn' = fn := Option.some.inj (hfn'.symm.trans hfn)
  obtain ⟨⟨⟨ds, gs, before, hw, _⟩, hx⟩, _⟩ := hpre
  refine (contract (w.forCall tape i) w.heap.size i.args ds gs before hval (DataW.Whole.of_heap (w' := w.forCall tape i) (by rfl) hw) (hX _ _ _ (by rfl) hx) hsh).mono fun e W' ⟨v, he, hp⟩ => ?_
  subst he
  exact ChangeSpec.post_blind hp
theorem laid_find {P : Program} {w : World} : ∀ {laid : List (String × DataW Unit)} {ps : List MemPlace} {n : String} {d : DataW Unit}, DataW.LaidVars P w laid ps → (n, d) ∈ laid →
    ∃ g t cs fuel p, P.globalNamed n = some g ∧ (P.globals[g]?).map (·.type) = some t ∧ w.var? P n = some cs ∧ DataW.trod (fun _ => ()) P w 0 (fun _ => true) false fuel t cs.toList = some (d, p)
  | [], ps, n, d, _, hm => by cases hm
  | (m, e) :: r, ps, n, d, h, hm => by
    obtain ⟨g, t, cs, fuel, p, q, h1, h2, h3, h4, h5, _⟩ := h
    rcases List.mem_cons.1 hm with hm | hm
    · injection hm with e1 e2
      subst e1 e2
      exact ⟨g, t, cs, fuel, p, h1, h2, h3, h4⟩
    · exact laid_find h5 hm
theorem u8_at {w : World} {g : Nat} {nm : String} {cs : Array Value} {xs : List (DataW Unit × List MemPlace)} {m : Nat} (hg : Tryd.prog.globalNamed nm = some g) (h3 : w.var? Tryd.prog nm = some cs)
    (hf : ∀ i, i < 64 → DataW.trod (fun _ => ()) Tryd.prog w 0 (fun _ => true) false m 5 ((cs.toList.drop (i * Tryd.prog.cellsOf 5)).take (Tryd.prog.cellsOf 5)) = xs[i]?) (i : Nat) (hi : i < 64) {z : Int}
    (hx : (xs.map (·.1))[i]? = some (.lit (.int .u8 z))) : w.cell? ⟨g, i, none⟩ = some (.int .u8 z) := by
  have hC : Tryd.prog.cellsOf 5 = 1 := by kernel_rfl
  have h := hf i hi
  rw [hC, Nat.mul_one] at h
  rw [List.getElem?_map] at hx
  cases hq : xs[i]? with
  | none => rw [hq] at hx; cases hx
  | some q =>
    rw [hq] at hx h
    obtain ⟨s, e, e2, _⟩ := DataW.trod_int Tryd.underlying5 h
    rw [e2] at hx
    simp only [Option.map_some, Option.some.injEq] at hx
    have hl : s = z := by injection (DataW.lit.inj hx)
    rw [World.var?_cell hg h3 i, ← hl]
    have : ((cs.toList.drop i).take 1)[0]? = some (.int .u8 s) := by rw [e]; rfl
    rw [List.getElem?_take_of_lt (by omega), List.getElem?_drop, Nat.add_zero] at this
    simpa using this
theorem env_of {w : World} {laid : List (String × DataW Unit)} {d : DataW Unit} (hl : laidMetH Tryd.prog laid w) (hp : (laid.all fun x => x.2.handleName?.isNone) = true) (h1 : ("math/bits.deBruijn64tab", d) ∈ laid)
    (hd : d = .agg (Lib.deBruijn64tab.map fun n => .lit (.int .u8 (n : Nat)))) : Env w := by
  rw [MakeChecks.laidMetH_plain _ _ _ hp] at hl
  obtain ⟨ps, hv, _, _⟩ := hl
  obtain ⟨g', t, cs, fuel, p, q1, q2, q3, q4⟩ := laid_find hv h1
  have hg : Tryd.prog.globalNamed "math/bits.deBruijn64tab" = some 0 := by kernel_rfl
  rw [hg] at q1
  injection q1 with q1
  subst q1
  have ht : (Tryd.prog.globals[0]?).map (·.type) = some 67 := by kernel_rfl
  rw [ht] at q2
  injection q2 with q2
  subst q2
  obtain ⟨xs, m, _, hx, _, hn, hf⟩ := DataW.trod_array Tryd.underlying67 q4
  subst hd
  have hm : xs.map (·.1) = Lib.deBruijn64tab.map fun n => .lit (.int .u8 (n : Nat)) := by
    have := (Prod.mk.inj hx).1
    exact (DataW.agg.inj this).symm
  refine ⟨fun j hj => u8_at hg q3 hf j hj ?_⟩
  rw [hm, List.getElem?_map, List.getD_eq_getElem?_getD]
  have hl : Lib.deBruijn64tab.length = 64 := by decide
  rw [List.getElem?_eq_getElem (by omega)]
  rfl
theorem wf_i64 {n : Int} (h : (Lit.int .i64 n).wf = true) : -9223372036854775808 ≤ n ∧ n ≤ 9223372036854775807 := by
  simp [Lit.wf, IntKind.min, IntKind.max, IntKind.signed, IntKind.bits] at h
  omega
theorem wf_u64 {n : Int} (h : (Lit.int .u64 n).wf = true) : 0 ≤ n ∧ n < 18446744073709551616 := by
  simp [Lit.wf, IntKind.min, IntKind.max, IntKind.signed, IntKind.bits] at h
  omega
/-- A call. -/
structure Pac where
  k : Int
  i : Int
  t : Nat
def pcells (x : Pac) : List Value := [.int .i64 x.k, .int .i64 x.i, .int .u64 (x.t : Nat)]
theorem pcells_inj {x y : Pac} (h : pcells x = pcells y) : x = y := by
  obtain ⟨k, i, t⟩ := x
  obtain ⟨k', i', t'⟩ := y
  simp only [pcells, List.cons.injEq, Value.int.injEq, true_and, Int.ofNat_inj, and_true] at h
  obtain ⟨rfl, rfl, rfl⟩ := h
  rfl
def aS : Shp Pac := ⟨pcells, 3, by decide, fun _ => rfl, pcells_inj, fun x u hu => by
  simp only [pcells, List.mem_cons, List.not_mem_nil, or_false] at hu
  rcases hu with rfl | rfl | rfl <;> rfl⟩
def PacOk (a : Pac) : Prop := (-9223372036854775808 ≤ a.k ∧ a.k ≤ 9223372036854775807) ∧ (-9223372036854775808 ≤ a.i ∧ a.i ≤ 9223372036854775807) ∧ a.t < 18446744073709551616
section
variable {H : Type} {enc : TypeId × Value → H} {w : World} {base : Nat} {spare : Nat → Bool} {held : Bool}
theorem open_act {fuel : Nat} {cs : List Value} {x : DataW H × List MemPlace} (h : DataW.trod enc Tryd.prog w base spare held fuel 32 cs = some x) :
    ∃ r : Pac, cs = pcells r ∧ PacOk r := by
  obtain ⟨xs, n, _, _, hl, hx, hf⟩ := DataW.trod_struct Tryd.underlying32 h
  have hC : Tryd.prog.cellsOf 32 = 3 := by kernel_rfl
  have ci : Tryd.prog.cellsOf 3 = 1 := by kernel_rfl
  have cu : Tryd.prog.cellsOf 23 = 1 := by kernel_rfl
  rw [hC] at hl
  have h0 : DataW.trod enc Tryd.prog w base spare held n 3 ((cs.drop 0).take (Tryd.prog.cellsOf 3)) = xs[0]? := hf 0 _ rfl
  rw [ci] at h0
  have h1 : DataW.trod enc Tryd.prog w base spare held n 3 ((cs.drop 1).take (Tryd.prog.cellsOf 3)) = xs[1]? := hf 1 _ rfl
  rw [ci] at h1
  have h2 : DataW.trod enc Tryd.prog w base spare held n 23 ((cs.drop 2).take (Tryd.prog.cellsOf 23)) = xs[2]? := hf 2 _ rfl
  rw [cu] at h2
  match cs, hl with
  | [a0, a1, a2], _ =>
    have x0 : xs[0]? = some (xs[0]'(by rw [hx]; decide)) := List.getElem?_eq_getElem _
    rw [x0] at h0
    have x1 : xs[1]? = some (xs[1]'(by rw [hx]; decide)) := List.getElem?_eq_getElem _
    rw [x1] at h1
    have x2 : xs[2]? = some (xs[2]'(by rw [hx]; decide)) := List.getElem?_eq_getElem _
    rw [x2] at h2
    obtain ⟨z0, e0, _, w0⟩ := DataW.trod_int Tryd.underlying3 h0
    obtain ⟨z1, e1, _, w1⟩ := DataW.trod_int Tryd.underlying3 h1
    obtain ⟨z2, e2, _, w2⟩ := DataW.trod_int Tryd.underlying23 h2
    simp at e0 e1 e2
    subst e0 e1 e2
    have b2 := wf_u64 w2
    refine ⟨⟨z0, z1, z2.toNat⟩, ?_, wf_i64 w0, wf_i64 w1, ?_⟩
    · simp only [pcells]
      rw [Int.toNat_of_nonneg b2.1]
    · simp only; omega
theorem open_shp {α : Type} (S : Shp α) (Pr : α → Prop) (z : α) {ST T : TypeId} (hu : Tryd.prog.underlying ST = some (.slice T)) (hC : Tryd.prog.cellsOf T = S.n)
    (hel : ∀ (fuel : Nat) (cs : List Value) (x : DataW H × List MemPlace), DataW.trod enc Tryd.prog w base spare held fuel T cs = some x → ∃ r : α, cs = S.cs r ∧ Pr r)
    {fuel : Nat} {cs : List Value} {x : DataW H × List MemPlace} (h : DataW.trod enc Tryd.prog w base spare held fuel ST cs = some x) :
    ∃ (A : Option Addr) (len cap : Nat) (l : List α), cs = [.slice A len cap] ∧ Shp.Row S w A len l ∧ (∀ r ∈ l, Pr r) ∧ len ≤ cap ∧ cap ≤ maxLen := by
  rcases open_slice hu h with ⟨rfl, _⟩ | ⟨a, len, cap, m, n, D', Pl, rfl, hb, hl, hm, hmm, _, hi⟩
  · exact ⟨none, 0, 0, [], rfl, Shp.Row.nil _ _, by simp, Nat.le_refl _, Nat.zero_le _⟩
  · have hlm : len ≤ m := by rw [hmm]; split <;> omega
    rw [hC] at hi
    have key : ∀ i, ∃ r : α, i < len → Pr r ∧ S.At w (a.add (i * S.n)) r := by
      intro i
      by_cases hlt : i < len
      · obtain ⟨cs', hc, ht⟩ := hi i (by omega)
        obtain ⟨r, rfl, hr⟩ := hel _ _ _ ht
        obtain ⟨_, _, hat⟩ := World.cells?_some hc
        refine ⟨r, fun _ => ⟨hr, fun j u hu => ?_⟩⟩
        have hj : j < S.n := by have := (List.getElem?_eq_some_iff.1 hu).1; rwa [S.len] at this
        have h1 := hat j (by omega)
        have h2 := (List.getElem?_eq_some_iff.1 hu).2
        rw [h1]
        simpa using hu
      · exact ⟨z, fun h => absurd h hlt⟩
    refine ⟨some a, len, cap, (List.range len).map fun i => Classical.choose (key i), rfl, ⟨by simp, fun hn => ⟨a, rfl, ?_, fun i y hy => ?_⟩⟩, ?_, hl, by omega⟩
    · have hu0 : (S.cs (Classical.choose (key 0)))[0]? = some ((S.cs (Classical.choose (key 0)))[0]'(by rw [S.len]; exact S.pos)) := List.getElem?_eq_getElem _
      have := World.block_lt_of_cell? w _ ((Classical.choose_spec (key 0) hn).2 0 _ hu0)
      rwa [block_of_add, block_of_add] at this
    · rw [List.getElem?_map] at hy
      have hlt : i < len := by
        rcases Nat.lt_or_ge i len with h | h
        · exact h
        · rw [List.getElem?_eq_none (by simp; omega)] at hy; simp at hy
      rw [List.getElem?_range hlt] at hy
      simp at hy
      subst hy
      exact (Classical.choose_spec (key i) hlt).2
    · intro r hr
      obtain ⟨i, hi', rfl⟩ := List.mem_map.1 hr
      exact (Classical.choose_spec (key i) (List.mem_range.1 hi')).1
theorem open_acts {fuel : Nat} {cs : List Value} {x : DataW H × List MemPlace} (h : DataW.trod enc Tryd.prog w base spare held fuel 22 cs = some x) :
    ∃ (A : Option Addr) (len cap : Nat) (l : List Pac), cs = [.slice A len cap] ∧ Shp.Row aS w A len l ∧ (∀ r ∈ l, PacOk r) ∧ len ≤ cap ∧ cap ≤ maxLen :=
  open_shp aS PacOk ⟨0, 0, 0⟩ Tryd.underlying22 (by kernel_rfl) (fun _ _ _ h => open_act h) h
end
end Go.Proofs.YtdolceefbikppaaDoor
