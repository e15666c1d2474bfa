/-
  A tag and a slice of ints that came in, opened; what the variable of words holds.
  What a law of plurals is told of the variable of words: the way from its row to its call.
-/
import Derived.Test.YtpiajeonnhfanaaDoorPlq
import Derived.Test.YtpiajeonnhfanaaDoorPlw
import Derived.Lib.ConvBytes
import Derived.Deep.Slices
import Derived.ChangeSame
import Derived.OpenShut
import Derived.ChangeArms
import Derived.Handed
import Derived.HandedShaped
import Derived.ProofKit
import Derived.LaidMore
set_option linter.unusedVariables false
set_option linter.unusedSimpArgs false
namespace Go.Proofs.YtpiajeonnhfanaaDoor
open Go.RowKit Go.ChangeShapes Go.WideShapes Go.Deep

section
variable {H : Type} {enc : TypeId × Value → H} {w : World} {base : Nat} {spare : Nat → Bool} {held : Bool}
theorem open_bytes (t : TypeId) (n : Nat) (hu : Tryd.prog.underlying t = some (.array n 5)) (hC : Tryd.prog.cellsOf t = n) {fuel : Nat} {cs : List Value} {x : DataW H × List MemPlace} (h : DataW.trod enc Tryd.prog w base spare held fuel t cs = some x) :
    ∃ l : List Nat, l.length = n ∧ (∀ b ∈ l, b < 256) ∧ cs = bys l := by
  obtain ⟨xs, m, _, _, hl, hx, hf⟩ := DataW.trod_array hu h
  rw [hC] at hl
  have key : ∀ i, ∃ b : Nat, i < n → b < 256 ∧ cs[i]? = some (.int .u8 b) := by
    intro i
    by_cases hi : i < n
    · have h1 := hf i hi
      rw [cells_u8, Nat.mul_one] at h1
      have x0 : xs[i]? = some (xs[i]'(by rw [hx]; exact hi)) := List.getElem?_eq_getElem _
      rw [x0] at h1
      obtain ⟨z, e0, _, w0⟩ := DataW.trod_int Tryd.underlying5 h1
      have hb := bounds_u8 w0
      refine ⟨z.toNat, fun _ => ⟨by omega, ?_⟩⟩
      rw [Int.toNat_of_nonneg hb.1]
      have : ((cs.drop i).take 1)[0]? = some (.int .u8 z) := by rw [e0]; rfl
      rwa [List.getElem?_take_of_lt (by omega), List.getElem?_drop, Nat.add_zero] at this
    · exact ⟨0, fun h => absurd h hi⟩
  refine ⟨(List.range n).map fun i => Classical.choose (key i), by simp, ?_, ?_⟩
  · intro b hb
    obtain ⟨i, hi, rfl⟩ := List.mem_map.1 hb
    exact (Classical.choose_spec (key i) (List.mem_range.1 hi)).1
  · apply List.ext_getElem?
    intro i
    by_cases hi : i < n
    · rw [(Classical.choose_spec (key i) hi).2]
      simp only [bys, List.map_map, List.getElem?_map]
      rw [List.getElem?_range hi]
      rfl
    · rw [List.getElem?_eq_none (by omega), List.getElem?_eq_none (by rw [bys_len]; simp; omega)]
theorem open_arr {fuel : Nat} {cs : List Value} {x : DataW H × List MemPlace} (h : DataW.trod enc Tryd.prog w base spare held fuel 50 cs = some x) : ∃ y : D.Tg, cs = bys y.l := by
  obtain ⟨l, h1, h2, h3⟩ := open_bytes _ 10 Tryd.underlying50 (by kernel_rfl) h
  exact ⟨⟨l, h1, h2⟩, h3⟩
theorem open_tag {fuel : Nat} {cs : List Value} {x : DataW H × List MemPlace} (h : DataW.trod enc Tryd.prog w base spare held fuel 25 cs = some x) : ∃ y : D.Tg, cs = bys y.l := by
  obtain ⟨xs, m, _, _, hl, hx, hf⟩ := DataW.trod_struct Tryd.underlying25 h
  have hC : Tryd.prog.cellsOf 25 = 10 := by kernel_rfl
  have hC3 : Tryd.prog.cellsOf 22 = 3 := by kernel_rfl
  have hC4 : Tryd.prog.cellsOf 23 = 4 := by kernel_rfl
  rw [hC] at hl
  have hx3 : xs.length = 3 := hx
  have h0 : DataW.trod enc Tryd.prog w base spare held m 22 ((cs.drop 0).take (Tryd.prog.cellsOf 22)) = xs[0]? := hf 0 _ rfl
  have h1 : DataW.trod enc Tryd.prog w base spare held m 23 ((cs.drop 3).take (Tryd.prog.cellsOf 23)) = xs[1]? := hf 1 _ rfl
  have h2 : DataW.trod enc Tryd.prog w base spare held m 22 ((cs.drop 7).take (Tryd.prog.cellsOf 22)) = xs[2]? := hf 2 _ rfl
  rw [hC3] at h0 h2
  rw [hC4] at h1
  rw [List.getElem?_eq_getElem (show 0 < xs.length by omega)] at h0
  rw [List.getElem?_eq_getElem (show 1 < xs.length by omega)] at h1
  rw [List.getElem?_eq_getElem (show 2 < xs.length by omega)] at h2
  obtain ⟨a, a1, a2, a3⟩ := open_bytes _ 3 Tryd.underlying22 hC3 h0
  obtain ⟨b, b1, b2, b3⟩ := open_bytes _ 4 Tryd.underlying23 hC4 h1
  obtain ⟨c, c1, c2, c3⟩ := open_bytes _ 3 Tryd.underlying22 hC3 h2
  refine ⟨⟨a ++ (b ++ c), by simp; omega, fun z hz => ?_⟩, ?_⟩
  · rcases List.mem_append.1 hz with hz | hz
    · exact a2 z hz
    · rcases List.mem_append.1 hz with hz | hz
      · exact b2 z hz
      · exact c2 z hz
  · rw [bys_app, bys_app, ← a3, ← b3, ← c3, List.drop_zero]
    have a1' : (cs.drop 7).take 3 = (cs.drop 3).drop 4 := by
      rw [List.drop_drop, List.take_of_length_le (by simp; omega)]
    rw [a1', List.take_append_drop, List.take_append_drop]
theorem open_ints {fuel : Nat} {cs : List Value} {x : DataW H × List MemPlace} (h : DataW.trod enc Tryd.prog w base spare held fuel 35 cs = some x) :
    ∃ (A : Option Addr) (len cap : Nat) (l : List Int), cs = [.slice A len cap] ∧ Row w A len (zs l) ∧ len ≤ cap ∧ cap ≤ maxLen := by
  have hC : Tryd.prog.cellsOf 3 = 1 := by kernel_rfl
  rcases open_slice Tryd.underlying35 h with ⟨rfl, _⟩ | ⟨a, len, cap, m, n, D', Pl, rfl, hb, hl, hm, hmm, _, hi⟩
  · exact ⟨none, 0, 0, [], rfl, Row.nil _ _, Nat.le_refl _, Nat.zero_le _⟩
  · have hlm : len ≤ m := by rw [hmm]; split <;> omega
    rw [hC] at hi
    have key : ∀ i, ∃ z : Int, i < len → w.cell? (a.add i) = some (.int .i64 z) := by
      intro i
      by_cases hlt : i < len
      · obtain ⟨cs', hc, ht⟩ := hi i (by omega)
        obtain ⟨z, e0, _, w0⟩ := DataW.trod_int Tryd.underlying3 ht
        obtain ⟨_, _, hat⟩ := World.cells?_some hc
        refine ⟨z, fun _ => ?_⟩
        have := hat 0 (by omega)
        rw [e0] at this
        rw [Nat.mul_one, add_of_add, Nat.add_zero] at this
        simpa using this
      · exact ⟨0, fun h => absurd h hlt⟩
    refine ⟨some a, len, cap, (List.range len).map fun i => Classical.choose (key i), rfl, ⟨by simp [zs], fun hn => ⟨a, rfl, ?_, fun i y hy => ?_⟩⟩, hl, hm⟩
    · have := World.block_lt_of_cell? w _ (Classical.choose_spec (key 0) hn)
      rwa [block_of_add] at this
    · have hlt : i < len := by
        have := (List.getElem?_eq_some_iff.1 hy).1
        simpa [zs] using this
      rw [Classical.choose_spec (key i) hlt]
      simp only [zs, List.getElem?_map] at hy
      rw [List.getElem?_range hlt] at hy
      simpa using hy
end
end Go.Proofs.YtpiajeonnhfanaaDoor
set_option linter.unusedVariables false
set_option linter.unusedSimpArgs false
set_option maxRecDepth 100000
namespace Go.Proofs.YtpiajeonnhfanaaDoor
open Go.ChangeShapes Go.WideShapes Go.ChangeAt Go.RowKit

/-- A row's call, told what was laid and how the world is shaped. -/
theorem returns_both {H : Type} {enc : TypeId × Value → H} {a : Assume} {C : Checked} {os : Os} {f : FuncId} {fn : Func} {s : ChangeSpec} {conds : List PathCond} {apart fresh handsOn again : Bool} {X : World → Array Value → Prop}
    (hX : ∀ (w w' : World) (args : Array Value), w.heap = w'.heap → X w args → X w' args)
    (own : ownKnob C.prog.godebug = none) (started : os.Started) (noInit : C.prog.inits.idxOf? f = none) (hfn : C.prog.funcs[f]? = some fn)
    (witness : ∃ (w : World) (tape : Tape) (i : Input), w.os = os ∧ (w.forCall tape i).Shaped C.prog ∧ i.vars = [] ∧ Input.okWide C.prog (w.forCall tape i) .any w.heap.size f i ∧
      ((s.pre enc C.prog fn conds apart (w.forCall tape i).memory i.args ∧ X (w.forCall tape i).memory i.args) ∧ sizedMet enc C.prog fn (OpenSpec.ofChange s) apart (w.forCall tape i).memory i.args) ∧ a.holds C.prog (lone (Frame.enter C.prog f i.args .normal) [] (w.forCall tape i)))
    (contract : ∀ (W : World) (base : Nat) (args : Array Value) (ds gs : List (DataW H)) (before : List MemPlace),
      (∀ (j : Nat) t v, fn.params[j]? = some t → args[j]? = some v → Value.okWide C.prog W .any base t v) →
      DataW.Whole enc C.prog fn.params.toList s.vars apart W args.toList ds gs before → X W args → W.ShapedOpen C.prog →
      Calls C.prog f args W fun e W' => ∃ v, e = .returned v ∧ s.post enc C.prog fn apart fresh handsOn again W args v W') :
    ReturnsInHanded a C os f .any (fun w args => (s.pre enc C.prog fn conds apart w args ∧ X w args) ∧ sizedMet enc C.prog fn (OpenSpec.ofChange s) apart w args) (s.post enc C.prog fn apart fresh handsOn again) := by
  refine returnsInHanded_of_calls own started noInit witness ?_
  intro w tape i _ hsh _ hok hpre _
  obtain ⟨_, _, _, fn', hfn', _, _, _, _, hval⟩ := hok
  obtain rfl : fn' = fn := Option.some.inj (hfn'.symm.trans hfn)
  obtain ⟨⟨⟨ds, gs, before, hw, _⟩, hx⟩, _⟩ := hpre
  refine (contract (w.forCall tape i) w.heap.size i.args ds gs before hval (DataW.Whole.of_heap (w' := w.forCall tape i) (by rfl) hw) (hX _ _ _ (by rfl) hx) hsh).mono fun e W' ⟨v, he, hp⟩ => ?_
  subst he
  exact ChangeSpec.post_blind hp
theorem laid_find {P : Program} {w : World} : ∀ {laid : List (String × DataW Unit)} {ps : List MemPlace} {n : String} {d : DataW Unit}, DataW.LaidVars P w laid ps → (n, d) ∈ laid →
    ∃ g t cs fuel p, P.globalNamed n = some g ∧ (P.globals[g]?).map (·.type) = some t ∧ w.var? P n = some cs ∧ DataW.trod (fun _ => ()) P w 0 (fun _ => true) false fuel t cs.toList = some (d, p)
  | [], ps, n, d, _, hm => by cases hm
  | (m, e) :: r, ps, n, d, h, hm => by
    obtain ⟨g, t, cs, fuel, p, q, h1, h2, h3, h4, h5, _⟩ := h
    rcases List.mem_cons.1 hm with hm | hm
    · injection hm with e1 e2
      subst e1 e2
      exact ⟨g, t, cs, fuel, p, h1, h2, h3, h4⟩
    · exact laid_find h5 hm
theorem str_at {w : World} {g : Nat} {nm : String} {cs : Array Value} {xs : List (DataW Unit × List MemPlace)} {m : Nat} (hg : Tryd.prog.globalNamed nm = some g) (h3 : w.var? Tryd.prog nm = some cs)
    (hf : ∀ i, i < 6 → DataW.trod (fun _ => ()) Tryd.prog w 0 (fun _ => true) false m 9 ((cs.toList.drop (i * Tryd.prog.cellsOf 9)).take (Tryd.prog.cellsOf 9)) = xs[i]?) (i : Nat) (hi : i < 6) {l : List UInt8}
    (hx : (xs.map (·.1))[i]? = some (.lit (.string l))) : w.cell? ⟨g, i, none⟩ = some (.string ⟨l.toArray⟩) := by
  have hC : Tryd.prog.cellsOf 9 = 1 := by kernel_rfl
  have h := hf i hi
  rw [hC, Nat.mul_one] at h
  rw [List.getElem?_map] at hx
  cases hq : xs[i]? with
  | none => rw [hq] at hx; cases hx
  | some q =>
    rw [hq] at hx h
    obtain ⟨s, e, e2, _⟩ := DataW.trod_string Tryd.underlying9 h
    rw [e2] at hx
    simp only [Option.map_some, Option.some.injEq] at hx
    have hl : s.data.toList = l := Lit.string.inj (DataW.lit.inj hx)
    have hs : s = ⟨l.toArray⟩ := by rw [← hl]
    rw [World.var?_cell hg h3 i, ← hs]
    have : ((cs.toList.drop i).take 1)[0]? = some (.string s) := by rw [e]; rfl
    rw [List.getElem?_take_of_lt (by omega), List.getElem?_drop, Nat.add_zero] at this
    simpa using this
theorem env_of {w : World} {laid : List (String × DataW Unit)} {d : DataW Unit} (hl : laidMetH Tryd.prog laid w) (hp : (laid.all fun x => x.2.handleName?.isNone) = true) (h1 : ("vulgate/plural.words", d) ∈ laid)
    (hd : d = .agg [.lit (.string [122, 101, 114, 111]), .lit (.string [111, 110, 101]), .lit (.string [116, 119, 111]), .lit (.string [102, 101, 119]), .lit (.string [109, 97, 110, 121]), .lit (.string [111, 116, 104, 101, 114])]) : Env w := by
  rw [MakeChecks.laidMetH_plain _ _ _ hp] at hl
  obtain ⟨ps, hv, _, _⟩ := hl
  obtain ⟨g', t, cs, fuel, p, q1, q2, q3, q4⟩ := laid_find hv h1
  have hg : Tryd.prog.globalNamed "vulgate/plural.words" = some 0 := by kernel_rfl
  rw [hg] at q1
  injection q1 with q1
  subst q1
  have ht : (Tryd.prog.globals[0]?).map (·.type) = some 69 := by kernel_rfl
  rw [ht] at q2
  injection q2 with q2
  subst q2
  obtain ⟨xs, m, _, hx, _, hn, hf⟩ := DataW.trod_array Tryd.underlying69 q4
  subst hd
  have hm : xs.map (·.1) = [.lit (.string [122, 101, 114, 111]), .lit (.string [111, 110, 101]), .lit (.string [116, 119, 111]), .lit (.string [102, 101, 119]), .lit (.string [109, 97, 110, 121]), .lit (.string [111, 116, 104, 101, 114])] := by
    have := (Prod.mk.inj hx).1
    exact (DataW.agg.inj this).symm
  refine ⟨?_, ?_, ?_, ?_, ?_, ?_⟩
  · exact str_at hg q3 hf 0 (by omega) (by rw [hm]; rfl)
  · exact str_at hg q3 hf 1 (by omega) (by rw [hm]; rfl)
  · exact str_at hg q3 hf 2 (by omega) (by rw [hm]; rfl)
  · exact str_at hg q3 hf 3 (by omega) (by rw [hm]; rfl)
  · exact str_at hg q3 hf 4 (by omega) (by rw [hm]; rfl)
  · exact str_at hg q3 hf 5 (by omega) (by rw [hm]; rfl)
theorem wf_i64 {n : Int} (h : (Lit.int .i64 n).wf = true) : -9223372036854775808 ≤ n ∧ n ≤ 9223372036854775807 := by
  simp [Lit.wf, IntKind.min, IntKind.max, IntKind.signed, IntKind.bits] at h
  omega
theorem wf_u64 {n : Int} (h : (Lit.int .u64 n).wf = true) : 0 ≤ n ∧ n < 18446744073709551616 := by
  simp [Lit.wf, IntKind.min, IntKind.max, IntKind.signed, IntKind.bits] at h
  omega
end Go.Proofs.YtpiajeonnhfanaaDoor
