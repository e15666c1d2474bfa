/-
  What a law of messages is told of the variables: the way from its row to its call.
-/
import Derived.Test.YtlheaabmpcnchaaGreatDoorG34
import Derived.OpenShut
import Derived.ChangeArms
import Derived.Handed
import Derived.HandedShaped
import Derived.ProofKit
import Derived.LaidMore
import Derived.Lib.LaidTab
set_option linter.unusedVariables false
set_option linter.unusedSimpArgs false
set_option maxRecDepth 100000
namespace Go.Proofs.YtlheaabmpcnchaaGreatDoor
open Go.ChangeShapes Go.WideShapes Go.ChangeAt Go.RowKit

/-- A row's call, told what was laid and how the world is shaped. -/
theorem returns_both {H : Type} {enc : TypeId × Value → H} {a : Assume} {C : Checked} {os : Os} {f : FuncId} {fn : Func} {s : ChangeSpec} {conds : List PathCond} {apart fresh handsOn again : Bool} {X : World → Array Value → Prop}
    (hX : ∀ (w w' : World) (args : Array Value), w.heap = w'.heap → X w args → X w' args)
    (own : ownKnob C.prog.godebug = none) (started : os.Started) (noInit : C.prog.inits.idxOf? f = none) (hfn : C.prog.funcs[f]? = some fn)
    (witness : ∃ (w : World) (tape : Tape) (i : Input), w.os = os ∧ (w.forCall tape i).Shaped C.prog ∧ i.vars = [] ∧ Input.okWide C.prog (w.forCall tape i) .any w.heap.size f i ∧
      ((s.pre enc C.prog fn conds apart (w.forCall tape i).memory i.args ∧ X (w.forCall tape i).memory i.args) ∧ sizedMet enc C.prog fn (OpenSpec.ofChange s) apart (w.forCall tape i).memory i.args) ∧ a.holds C.prog (lone (Frame.enter C.prog f i.args .normal) [] (w.forCall tape i)))
    (contract : ∀ (W : World) (base : Nat) (args : Array Value) (ds gs : List (DataW H)) (before : List MemPlace),
      (∀ (j : Nat) t v, fn.params[j]? = some t → args[j]? = some v → Value.okWide C.prog W .any base t v) →
      DataW.Whole enc C.prog fn.params.toList s.vars apart W args.toList ds gs before → X W args → W.ShapedOpen C.prog →
      Calls C.prog f args W fun e W' => ∃ v, e = .returned v ∧ s.post enc C.prog fn apart fresh handsOn again W args v W') :
    ReturnsInHanded a C os f .any (fun w args => (s.pre enc C.prog fn conds apart w args ∧ X w args) ∧ sizedMet enc C.prog fn (OpenSpec.ofChange s) apart w args) (s.post enc C.prog fn apart fresh handsOn again) := by
  refine returnsInHanded_of_calls own started noInit witness ?_
  intro w tape i _ hsh _ hok hpre _
  obtain ⟨_, _, _, fn', hfn', _, _, _, _, hval⟩ := hok
  obtain rfl : fn' = fn := Option.some.inj (hfn'.symm.trans hfn)
  obtain ⟨⟨⟨ds, gs, before, hw, _⟩, hx⟩, _⟩ := hpre
  refine (contract (w.forCall tape i) w.heap.size i.args ds gs before hval (DataW.Whole.of_heap (w' := w.forCall tape i) (by rfl) hw) (hX _ _ _ (by rfl) hx) hsh).mono fun e W' ⟨v, he, hp⟩ => ?_
  subst he
  exact ChangeSpec.post_blind hp
theorem laid_find {P : Program} {w : World} : ∀ {laid : List (String × DataW Unit)} {ps : List MemPlace} {n : String} {d : DataW Unit}, DataW.LaidVars P w laid ps → (n, d) ∈ laid →
    ∃ g t cs fuel p, P.globalNamed n = some g ∧ (P.globals[g]?).map (·.type) = some t ∧ w.var? P n = some cs ∧ DataW.trod (fun _ => ()) P w 0 (fun _ => true) false fuel t cs.toList = some (d, p)
  | [], ps, n, d, _, hm => by cases hm
  | (m, e) :: r, ps, n, d, h, hm => by
    obtain ⟨g, t, cs, fuel, p, q, h1, h2, h3, h4, h5, _⟩ := h
    rcases List.mem_cons.1 hm with hm | hm
    · injection hm with e1 e2
      subst e1 e2
      exact ⟨g, t, cs, fuel, p, h1, h2, h3, h4⟩
    · exact laid_find h5 hm
theorem str_at {w : World} {g : Nat} {nm : String} {cs : Array Value} {xs : List (DataW Unit × List MemPlace)} {m k : Nat} (hg : Tryz.prog.globalNamed nm = some g) (h3 : w.var? Tryz.prog nm = some cs)
    (hf : ∀ i, i < k → DataW.trod (fun _ => ()) Tryz.prog w 0 (fun _ => true) false m 9 ((cs.toList.drop (i * Tryz.prog.cellsOf 9)).take (Tryz.prog.cellsOf 9)) = xs[i]?) (i : Nat) (hi : i < k) {l : List UInt8}
    (hx : (xs.map (·.1))[i]? = some (.lit (.string l))) : w.cell? ⟨g, i, none⟩ = some (.string ⟨l.toArray⟩) := by
  have hC : Tryz.prog.cellsOf 9 = 1 := by kernel_rfl
  have h := hf i hi
  rw [hC, Nat.mul_one] at h
  rw [List.getElem?_map] at hx
  cases hq : xs[i]? with
  | none => rw [hq] at hx; cases hx
  | some q =>
    rw [hq] at hx h
    obtain ⟨s, e, e2, _⟩ := DataW.trod_string Tryz.underlying9 h
    rw [e2] at hx
    simp only [Option.map_some, Option.some.injEq] at hx
    have hl : s.data.toList = l := Lit.string.inj (DataW.lit.inj hx)
    have hs : s = ⟨l.toArray⟩ := by rw [← hl]
    rw [World.var?_cell hg h3 i, ← hs]
    have : ((cs.toList.drop i).take 1)[0]? = some (.string s) := by rw [e]; rfl
    rw [List.getElem?_take_of_lt (by omega), List.getElem?_drop, Nat.add_zero] at this
    simpa using this
theorem env_of {w : World} {laid : List (String × DataW Unit)} {d : DataW Unit} (hl : laidMetH Tryz.prog laid w) (hp : (laid.all fun x => x.2.handleName?.isNone) = true) (h1 : ("vulgate/plural.words", d) ∈ laid)
    (hd : d = .agg [.lit (.string [122, 101, 114, 111]), .lit (.string [111, 110, 101]), .lit (.string [116, 119, 111]), .lit (.string [102, 101, 119]), .lit (.string [109, 97, 110, 121]), .lit (.string [111, 116, 104, 101, 114])]) : Env w := by
  rw [MakeChecks.laidMetH_plain _ _ _ hp] at hl
  obtain ⟨ps, hv, _, _⟩ := hl
  obtain ⟨g', t, cs, fuel, p, q1, q2, q3, q4⟩ := laid_find hv h1
  have hg : Tryz.prog.globalNamed "vulgate/plural.words" = some 5 := by kernel_rfl
  rw [hg] at q1
  injection q1 with q1
  subst q1
  have ht : (Tryz.prog.globals[5]?).map (·.type) = some 246 := by kernel_rfl
  rw [ht] at q2
  injection q2 with q2
  subst q2
  obtain ⟨xs, m, _, hx, _, hn, hf⟩ := DataW.trod_array Tryz.underlying246 q4
  subst hd
  have hm : xs.map (·.1) = [.lit (.string [122, 101, 114, 111]), .lit (.string [111, 110, 101]), .lit (.string [116, 119, 111]), .lit (.string [102, 101, 119]), .lit (.string [109, 97, 110, 121]), .lit (.string [111, 116, 104, 101, 114])] := by
    have := (Prod.mk.inj hx).1
    exact (DataW.agg.inj this).symm
  refine ⟨?_, ?_, ?_, ?_, ?_, ?_⟩
  · exact str_at hg q3 hf 0 (by omega) (by rw [hm]; rfl)
  · exact str_at hg q3 hf 1 (by omega) (by rw [hm]; rfl)
  · exact str_at hg q3 hf 2 (by omega) (by rw [hm]; rfl)
  · exact str_at hg q3 hf 3 (by omega) (by rw [hm]; rfl)
  · exact str_at hg q3 hf 4 (by omega) (by rw [hm]; rfl)
  · exact str_at hg q3 hf 5 (by omega) (by rw [hm]; rfl)
theorem knd_of {w : World} {laid : List (String × DataW Unit)} {d : DataW Unit} (hl : laidMetH Tryz.prog laid w) (hp : (laid.all fun x => x.2.handleName?.isNone) = true) (h1 : ("vulgate/skeleton.kinds", d) ∈ laid)
    (hd : d = .agg [.lit (.string []), .lit (.string []), .lit (.string [110, 117, 109, 98, 101, 114]), .lit (.string [112, 108, 117, 114, 97, 108]), .lit (.string [115, 101, 108, 101, 99, 116])]) : Knd w := by
  rw [MakeChecks.laidMetH_plain _ _ _ hp] at hl
  obtain ⟨ps, hv, _, _⟩ := hl
  obtain ⟨g', t, cs, fuel, p, q1, q2, q3, q4⟩ := laid_find hv h1
  have hg : Tryz.prog.globalNamed "vulgate/skeleton.kinds" = some 0 := by kernel_rfl
  rw [hg] at q1
  injection q1 with q1
  subst q1
  have ht : (Tryz.prog.globals[0]?).map (·.type) = some 177 := by kernel_rfl
  rw [ht] at q2
  injection q2 with q2
  subst q2
  obtain ⟨xs, m, _, hx, _, hn, hf⟩ := DataW.trod_array Tryz.underlying177 q4
  subst hd
  have hm : xs.map (·.1) = [.lit (.string []), .lit (.string []), .lit (.string [110, 117, 109, 98, 101, 114]), .lit (.string [112, 108, 117, 114, 97, 108]), .lit (.string [115, 101, 108, 101, 99, 116])] := by
    have := (Prod.mk.inj hx).1
    exact (DataW.agg.inj this).symm
  refine ⟨?_, ?_, ?_, ?_, ?_⟩
  · exact str_at hg q3 hf 0 (by omega) (by rw [hm]; rfl)
  · exact str_at hg q3 hf 1 (by omega) (by rw [hm]; rfl)
  · exact str_at hg q3 hf 2 (by omega) (by rw [hm]; rfl)
  · exact str_at hg q3 hf 3 (by omega) (by rw [hm]; rfl)
  · exact str_at hg q3 hf 4 (by omega) (by rw [hm]; rfl)
theorem tp_of {w : World} {laid : List (String × DataW Unit)} {d : DataW Unit} (hl : laidMetH Tryz.prog laid w) (hp : (laid.all fun x => x.2.handleName?.isNone) = true) (h1 : ("internal/strconv.uint64pow10", d) ∈ laid) (hd : d = Lib.tabData .u64 Lib.pow10Tab) : Tp w := by
  rw [MakeChecks.laidMetH_plain _ _ _ hp] at hl
  obtain ⟨ps, hv, _, _⟩ := hl
  obtain ⟨g', t, cs, fuel, p, q1, q2, q3, q4⟩ := laid_find hv h1
  have hg : Tryz.prog.globalNamed "internal/strconv.uint64pow10" = some 6 := by kernel_rfl
  rw [hg] at q1
  injection q1 with q1
  subst q1
  have ht : (Tryz.prog.globals[6]?).map (·.type) = some 260 := by kernel_rfl
  rw [ht] at q2
  injection q2 with q2
  subst q2
  rw [hd] at q4
  have h := Lib.cells_of_tab Tryz.underlying260 Tryz.underlying61 (by kernel_rfl) (by kernel_rfl) q4
  unfold Tp Lib.TabIs
  rw [q3, ← h]
theorem gw_of {w : World} {laid : List (String × DataW Unit)} {d1 d2 d3 : DataW Unit} (hl : laidMetH Tryz.prog laid w) (hp : (laid.all fun x => x.2.handleName?.isNone) = true) (h1 : ("vulgate/plural.words", d1) ∈ laid) (h2 : ("vulgate/skeleton.kinds", d2) ∈ laid) (h3 : ("internal/strconv.uint64pow10", d3) ∈ laid)
    (e1 : d1 = .agg [.lit (.string [122, 101, 114, 111]), .lit (.string [111, 110, 101]), .lit (.string [116, 119, 111]), .lit (.string [102, 101, 119]), .lit (.string [109, 97, 110, 121]), .lit (.string [111, 116, 104, 101, 114])]) (e2 : d2 = .agg [.lit (.string []), .lit (.string []), .lit (.string [110, 117, 109, 98, 101, 114]), .lit (.string [112, 108, 117, 114, 97, 108]), .lit (.string [115, 101, 108, 101, 99, 116])]) (e3 : d3 = Lib.tabData .u64 Lib.pow10Tab) : Gw w := ⟨⟨env_of hl hp h1 e1, knd_of hl hp h2 e2⟩, tp_of hl hp h3 e3⟩
end Go.Proofs.YtlheaabmpcnchaaGreatDoor
