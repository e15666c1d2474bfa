/-
  A key, its bytes, a prefix, a name, a tag and a slice of keys, that came in, opened.
  What a law of keys is told of the library's variables: the way from its row to its call, with the world's shape.
-/
import Derived.Test.YtjblepjkejihcaaGreatDoorGf
import Derived.Deep.Slices
import Derived.ChangeSame
import Derived.OpenShut
import Derived.Test.YtjblepjkejihcaaGreatDoorGg
import Derived.Handed
import Derived.HandedShaped
import Derived.ProofKit
import Derived.LaidMore
import Derived.Shelf.Vars
set_option linter.unusedVariables false
set_option linter.unusedSimpArgs false
namespace Go.Proofs.YtjblepjkejihcaaGreatDoor
open Go.RowKit Go.ChangeShapes Go.WideShapes Go.Deep

section
variable {H : Type} {enc : TypeId × Value → H} {w : World} {base : Nat} {spare : Nat → Bool} {held : Bool}
theorem open_bytes (t : TypeId) (n : Nat) (hu : Tryz.prog.underlying t = some (.array n 5)) (hC : Tryz.prog.cellsOf t = n) {fuel : Nat} {cs : List Value} {x : DataW H × List MemPlace} (h : DataW.trod enc Tryz.prog w base spare held fuel t cs = some x) :
    ∃ l : List Nat, l.length = n ∧ (∀ b ∈ l, b < 256) ∧ cs = bys l := by
  obtain ⟨xs, m, _, _, hl, hx, hf⟩ := DataW.trod_array hu h
  rw [hC] at hl
  have key : ∀ i, ∃ b : Nat, i < n → b < 256 ∧ cs[i]? = some (.int .u8 b) := by
    intro i
    by_cases hi : i < n
    · have h1 := hf i hi
      rw [cells_u8, Nat.mul_one] at h1
      have x0 : xs[i]? = some (xs[i]'(by rw [hx]; exact hi)) := List.getElem?_eq_getElem _
      rw [x0] at h1
      obtain ⟨z, e0, _, w0⟩ := DataW.trod_int Tryz.underlying5 h1
      have hb := bounds_u8 w0
      refine ⟨z.toNat, fun _ => ⟨by omega, ?_⟩⟩
      rw [Int.toNat_of_nonneg hb.1]
      have : ((cs.drop i).take 1)[0]? = some (.int .u8 z) := by rw [e0]; rfl
      rwa [List.getElem?_take_of_lt (by omega), List.getElem?_drop, Nat.add_zero] at this
    · exact ⟨0, fun h => absurd h hi⟩
  refine ⟨(List.range n).map fun i => Classical.choose (key i), by simp, ?_, ?_⟩
  · intro b hb
    obtain ⟨i, hi, rfl⟩ := List.mem_map.1 hb
    exact (Classical.choose_spec (key i) (List.mem_range.1 hi)).1
  · apply List.ext_getElem?
    intro i
    by_cases hi : i < n
    · rw [(Classical.choose_spec (key i) hi).2]
      simp only [bys, List.map_map, List.getElem?_map]
      rw [List.getElem?_range hi]
      rfl
    · rw [List.getElem?_eq_none (by omega), List.getElem?_eq_none (by rw [bys_len]; simp; omega)]
theorem open_arr {fuel : Nat} {cs : List Value} {x : DataW H × List MemPlace} (h : DataW.trod enc Tryz.prog w base spare held fuel 28 cs = some x) : ∃ y : D.Tg, cs = bys y.l := by
  obtain ⟨l, h1, h2, h3⟩ := open_bytes _ 10 Tryz.underlying28 (by kernel_rfl) h
  exact ⟨⟨l, h1, h2⟩, h3⟩
theorem open_tag {fuel : Nat} {cs : List Value} {x : DataW H × List MemPlace} (h : DataW.trod enc Tryz.prog w base spare held fuel 27 cs = some x) : ∃ y : D.Tg, cs = bys y.l := by
  obtain ⟨xs, m, _, _, hl, hx, hf⟩ := DataW.trod_struct Tryz.underlying27 h
  have hC : Tryz.prog.cellsOf 27 = 10 := by kernel_rfl
  have hC3 : Tryz.prog.cellsOf 24 = 3 := by kernel_rfl
  have hC4 : Tryz.prog.cellsOf 25 = 4 := by kernel_rfl
  rw [hC] at hl
  have hx3 : xs.length = 3 := hx
  have h0 : DataW.trod enc Tryz.prog w base spare held m 24 ((cs.drop 0).take (Tryz.prog.cellsOf 24)) = xs[0]? := hf 0 _ rfl
  have h1 : DataW.trod enc Tryz.prog w base spare held m 25 ((cs.drop 3).take (Tryz.prog.cellsOf 25)) = xs[1]? := hf 1 _ rfl
  have h2 : DataW.trod enc Tryz.prog w base spare held m 24 ((cs.drop 7).take (Tryz.prog.cellsOf 24)) = xs[2]? := hf 2 _ rfl
  rw [hC3] at h0 h2
  rw [hC4] at h1
  rw [List.getElem?_eq_getElem (show 0 < xs.length by omega)] at h0
  rw [List.getElem?_eq_getElem (show 1 < xs.length by omega)] at h1
  rw [List.getElem?_eq_getElem (show 2 < xs.length by omega)] at h2
  obtain ⟨a, a1, a2, a3⟩ := open_bytes _ 3 Tryz.underlying24 hC3 h0
  obtain ⟨b, b1, b2, b3⟩ := open_bytes _ 4 Tryz.underlying25 hC4 h1
  obtain ⟨c, c1, c2, c3⟩ := open_bytes _ 3 Tryz.underlying24 hC3 h2
  refine ⟨⟨a ++ (b ++ c), by simp; omega, fun z hz => ?_⟩, ?_⟩
  · rcases List.mem_append.1 hz with hz | hz
    · exact a2 z hz
    · rcases List.mem_append.1 hz with hz | hz
      · exact b2 z hz
      · exact c2 z hz
  · rw [bys_app, bys_app, ← a3, ← b3, ← c3, List.drop_zero]
    have a1' : (cs.drop 7).take 3 = (cs.drop 3).drop 4 := by
      rw [List.drop_drop, List.take_of_length_le (by simp; omega)]
    rw [a1', List.take_append_drop, List.take_append_drop]
theorem open_name {fuel : Nat} {cs : List Value} {x : DataW H × List MemPlace} (h : DataW.trod enc Tryz.prog w base spare held fuel 23 cs = some x) : ∃ y : Nm.D.Nm, cs = bys y.l := by
  obtain ⟨l, h1, h2, h3⟩ := open_bytes _ 12 Tryz.underlying23 (by kernel_rfl) h
  exact ⟨⟨l, h1, h2⟩, h3⟩
theorem open_25 {fuel : Nat} {cs : List Value} {x : DataW H × List MemPlace} (h : DataW.trod enc Tryz.prog w base spare held fuel 42 cs = some x) : ∃ y : D.Ky, cs = bys y.l := by
  obtain ⟨l, h1, h2, h3⟩ := open_bytes _ 25 Tryz.underlying42 (by kernel_rfl) h
  exact ⟨⟨l, h1, h2⟩, h3⟩
theorem open_u8 {fuel : Nat} {cs : List Value} {x : DataW H × List MemPlace} (h : DataW.trod enc Tryz.prog w base spare held fuel 5 cs = some x) : ∃ b : Nat, b < 256 ∧ cs = [.int .u8 b] := by
  obtain ⟨z, e0, _, w0⟩ := DataW.trod_int Tryz.underlying5 h
  have hb := bounds_u8 w0
  exact ⟨z.toNat, by omega, by rw [Int.toNat_of_nonneg hb.1]; exact e0⟩
theorem list_cut (cs : List Value) (h : cs.length = 25) : cs = (cs.drop 0).take 1 ++ ((cs.drop 1).take 1 ++ ((cs.drop 2).take 1 ++ ((cs.drop 3).take 12 ++ (cs.drop 15).take 10))) := by
  match cs, h with
  | [a0, a1, a2, a3, a4, a5, a6, a7, a8, a9, a10, a11, a12, a13, a14, a15, a16, a17, a18, a19, a20, a21, a22, a23, a24], _ => rfl
theorem open_key {fuel : Nat} {cs : List Value} {x : DataW H × List MemPlace} (h : DataW.trod enc Tryz.prog w base spare held fuel 33 cs = some x) : ∃ y : D.Ky, cs = bys y.l := by
  obtain ⟨xs, m, _, _, hl, hx, hf⟩ := DataW.trod_struct Tryz.underlying33 h
  rw [c_key] at hl
  have hx5 : xs.length = 5 := hx
  have h0 : DataW.trod enc Tryz.prog w base spare held m 5 ((cs.drop 0).take (Tryz.prog.cellsOf 5)) = xs[0]? := hf 0 _ rfl
  have h1 : DataW.trod enc Tryz.prog w base spare held m 5 ((cs.drop 1).take (Tryz.prog.cellsOf 5)) = xs[1]? := hf 1 _ rfl
  have h2 : DataW.trod enc Tryz.prog w base spare held m 5 ((cs.drop 2).take (Tryz.prog.cellsOf 5)) = xs[2]? := hf 2 _ rfl
  have h3 : DataW.trod enc Tryz.prog w base spare held m 23 ((cs.drop 3).take (Tryz.prog.cellsOf 23)) = xs[3]? := hf 3 _ rfl
  have h4 : DataW.trod enc Tryz.prog w base spare held m 27 ((cs.drop 15).take (Tryz.prog.cellsOf 27)) = xs[4]? := hf 4 _ rfl
  rw [cells_u8] at h0 h1 h2
  rw [c_name] at h3
  rw [c_tag] at h4
  rw [List.getElem?_eq_getElem (show 0 < xs.length by omega)] at h0
  rw [List.getElem?_eq_getElem (show 1 < xs.length by omega)] at h1
  rw [List.getElem?_eq_getElem (show 2 < xs.length by omega)] at h2
  rw [List.getElem?_eq_getElem (show 3 < xs.length by omega)] at h3
  rw [List.getElem?_eq_getElem (show 4 < xs.length by omega)] at h4
  obtain ⟨b0, l0, e0⟩ := open_u8 h0
  obtain ⟨b1, l1, e1⟩ := open_u8 h1
  obtain ⟨b2, l2, e2⟩ := open_u8 h2
  obtain ⟨n, e3⟩ := open_name h3
  obtain ⟨t, e4⟩ := open_tag h4
  refine ⟨D.mkK b0 b1 b2 n t, ?_⟩
  rw [list_cut cs hl, e0, e1, e2, e3, e4]
  show _ = bys (b0 % 256 :: b1 % 256 :: b2 % 256 :: (n.l ++ t.l))
  rw [Nat.mod_eq_of_lt l0, Nat.mod_eq_of_lt l1, Nat.mod_eq_of_lt l2]
  simp [bys]
theorem open_prefix {fuel : Nat} {cs : List Value} {x : DataW H × List MemPlace} (h : DataW.trod enc Tryz.prog w base spare held fuel 58 cs = some x) : ∃ y : D.Px, cs = pcells y := by
  obtain ⟨xs, m, _, _, hl, hx, hf⟩ := DataW.trod_struct Tryz.underlying58 h
  rw [c_px] at hl
  have hx2 : xs.length = 2 := hx
  have h0 : DataW.trod enc Tryz.prog w base spare held m 33 ((cs.drop 0).take (Tryz.prog.cellsOf 33)) = xs[0]? := hf 0 _ rfl
  have h1 : DataW.trod enc Tryz.prog w base spare held m 3 ((cs.drop 25).take (Tryz.prog.cellsOf 3)) = xs[1]? := hf 1 _ rfl
  rw [c_key] at h0
  rw [c_int] at h1
  rw [List.getElem?_eq_getElem (show 0 < xs.length by omega)] at h0
  rw [List.getElem?_eq_getElem (show 1 < xs.length by omega)] at h1
  obtain ⟨y, e0⟩ := open_key h0
  obtain ⟨z, e1, _, w1⟩ := DataW.trod_int Tryz.underlying3 h1
  have hz : -9223372036854775808 ≤ z ∧ z ≤ 9223372036854775807 := by
    simp [Lit.wf, IntKind.min, IntKind.max, IntKind.bits, IntKind.signed] at w1
    omega
  refine ⟨⟨y, z, hz⟩, ?_⟩
  have : cs = (cs.drop 0).take 25 ++ (cs.drop 25).take 1 := by
    have h2 : (cs.drop 25).take 1 = cs.drop 25 := List.take_of_length_le (by simp; omega)
    rw [h2, List.drop_zero, List.take_append_drop]
  rw [this, e0, e1]
  rfl
theorem open_keys {fuel : Nat} {cs : List Value} {x : DataW H × List MemPlace} (h : DataW.trod enc Tryz.prog w base spare held fuel 63 cs = some x) :
    ∃ (A : Option Addr) (len cap : Nat) (l : List D.Ky), cs = [.slice A len cap] ∧ Shp.Row kS w A len l ∧ len ≤ cap ∧ cap ≤ maxLen := by
  rcases open_slice Tryz.underlying63 h with ⟨rfl, _⟩ | ⟨a, len, cap, m, n, D', Pl, rfl, hb, hl, hm, hmm, _, hi⟩
  · exact ⟨none, 0, 0, [], rfl, Shp.Row.nil _ _, Nat.le_refl _, Nat.zero_le _⟩
  · have hlm : len ≤ m := by rw [hmm]; split <;> omega
    rw [c_key] at hi
    have key : ∀ i, ∃ y : D.Ky, i < len → kS.At w (a.add (i * 25)) y := by
      intro i
      by_cases hlt : i < len
      · obtain ⟨cs', hc, ht⟩ := hi i (by omega)
        obtain ⟨y, rfl⟩ := open_key ht
        obtain ⟨_, _, hat⟩ := World.cells?_some hc
        refine ⟨y, fun _ => fun j u hu => ?_⟩
        have hu : (bys y.l)[j]? = some u := hu
        have hj : j < 25 := by
          have := (List.getElem?_eq_some_iff.1 hu).1
          rwa [bys_len, y.len] at this
        rw [hat j hj, hu]
      · exact ⟨D.zK, fun h => absurd h hlt⟩
    refine ⟨some a, len, cap, (List.range len).map fun i => Classical.choose (key i), rfl, ⟨by simp, fun hn => ⟨a, rfl, ?_, fun i y hy => ?_⟩⟩, hl, hm⟩
    · have := Shp.rd_lt (Shp.rd_of (Classical.choose_spec (key 0) hn))
      rwa [block_of_add] at this
    · rw [List.getElem?_map] at hy
      have hlt : i < len := by
        rcases Nat.lt_or_ge i len with h | h
        · exact h
        · rw [List.getElem?_eq_none (by simp; omega)] at hy; simp at hy
      rw [List.getElem?_range hlt] at hy
      simp at hy
      subst hy
      exact Classical.choose_spec (key i) hlt
end
end Go.Proofs.YtjblepjkejihcaaGreatDoor
set_option linter.unusedVariables false
set_option linter.unusedSimpArgs false
set_option maxRecDepth 100000
namespace Go.Proofs.YtjblepjkejihcaaGreatDoor
open Go.ChangeShapes Go.WideShapes Go.ChangeAt Go.RowKit

/-- A row's call, told what was laid and how the world is shaped. -/
theorem returns_both {H : Type} {enc : TypeId × Value → H} {a : Assume} {C : Checked} {os : Os} {f : FuncId} {fn : Func} {s : ChangeSpec} {conds : List PathCond} {apart fresh handsOn again : Bool} {X : World → Array Value → Prop}
    (hX : ∀ (w w' : World) (args : Array Value), w.heap = w'.heap → X w args → X w' args)
    (own : ownKnob C.prog.godebug = none) (started : os.Started) (noInit : C.prog.inits.idxOf? f = none) (hfn : C.prog.funcs[f]? = some fn)
    (witness : ∃ (w : World) (tape : Tape) (i : Input), w.os = os ∧ (w.forCall tape i).Shaped C.prog ∧ i.vars = [] ∧ Input.okWide C.prog (w.forCall tape i) .any w.heap.size f i ∧
      ((s.pre enc C.prog fn conds apart (w.forCall tape i).memory i.args ∧ X (w.forCall tape i).memory i.args) ∧ sizedMet enc C.prog fn (OpenSpec.ofChange s) apart (w.forCall tape i).memory i.args) ∧ a.holds C.prog (lone (Frame.enter C.prog f i.args .normal) [] (w.forCall tape i)))
    (contract : ∀ (W : World) (base : Nat) (args : Array Value) (ds gs : List (DataW H)) (before : List MemPlace),
      (∀ (j : Nat) t v, fn.params[j]? = some t → args[j]? = some v → Value.okWide C.prog W .any base t v) →
      DataW.Whole enc C.prog fn.params.toList s.vars apart W args.toList ds gs before → X W args → W.ShapedOpen C.prog →
      Calls C.prog f args W fun e W' => ∃ v, e = .returned v ∧ s.post enc C.prog fn apart fresh handsOn again W args v W') :
    ReturnsInHanded a C os f .any (fun w args => (s.pre enc C.prog fn conds apart w args ∧ X w args) ∧ sizedMet enc C.prog fn (OpenSpec.ofChange s) apart w args) (s.post enc C.prog fn apart fresh handsOn again) := by
  refine returnsInHanded_of_calls own started noInit witness ?_
  intro w tape i _ hsh _ hok hpre _
  obtain ⟨_, _, _, fn', hfn', _, _, _, _, hval⟩ := hok
  obtain rfl : fn' = fn := Option.some.inj (hfn'.symm.trans hfn)
  obtain ⟨⟨⟨ds, gs, before, hw, _⟩, hx⟩, _⟩ := hpre
  refine (contract (w.forCall tape i) w.heap.size i.args ds gs before hval (DataW.Whole.of_heap (w' := w.forCall tape i) (by rfl) hw) (hX _ _ _ (by rfl) hx) hsh).mono fun e W' ⟨v, he, hp⟩ => ?_
  subst he
  exact ChangeSpec.post_blind hp
theorem trod_iface {H : Type} {enc : TypeId × Value → H} {P : Program} {w : World} {base : Nat} {spare : Nat → Bool} {held : Bool} {fuel : Nat} {t : TypeId} {ms : Array (String × TypeId)} {cs : List Value} {x : DataW H × List MemPlace} (ht : P.underlying t = some (.interface ms)) (h : DataW.trod enc P w base spare held fuel t cs = some x) :
    ∃ v, cs = [v] ∧ (v = .nilIface ∨ ∃ te pe, v = .iface te pe) := by
  cases fuel with
  | zero => simp [DataW.trod] at h
  | succ m =>
    unfold DataW.trod at h
    rw [ht] at h
    split at h <;> simp_all
theorem laid_find {P : Program} {w : World} : ∀ {laid : List (String × DataW Unit)} {ps : List MemPlace} {n : String} {d : DataW Unit}, DataW.LaidVars P w laid ps → (n, d) ∈ laid →
    ∃ g t cs fuel p, P.globalNamed n = some g ∧ (P.globals[g]?).map (·.type) = some t ∧ w.var? P n = some cs ∧ DataW.trod (fun _ => ()) P w 0 (fun _ => true) false fuel t cs.toList = some (d, p)
  | [], ps, n, d, _, hm => by cases hm
  | (m, e) :: r, ps, n, d, h, hm => by
    obtain ⟨g, t, cs, fuel, p, q, h1, h2, h3, h4, h5, _⟩ := h
    rcases List.mem_cons.1 hm with hm | hm
    · injection hm with e1 e2
      subst e1 e2
      exact ⟨g, t, cs, fuel, p, h1, h2, h3, h4⟩
    · exact laid_find h5 hm
theorem iface_var {w : World} {laid : List (String × DataW Unit)} {ps : List MemPlace} {n : String} {d : DataW Unit} {g : Nat} (h : DataW.LaidVars Tryz.prog w laid ps) (hm : (n, d) ∈ laid) (hg : Tryz.prog.globalNamed n = some g) (ht : (Tryz.prog.globals[g]?).map (·.type) = some 107) :
    ∃ v, w.cell? ⟨g, 0, none⟩ = some v ∧ (v = .nilIface ∨ ∃ te pe, v = .iface te pe) := by
  obtain ⟨g', t, cs, fuel, p, h1, h2, h3, h4⟩ := laid_find h hm
  rw [hg] at h1
  injection h1 with h1
  subst h1
  rw [ht] at h2
  injection h2 with h2
  subst h2
  obtain ⟨v, e, hv⟩ := trod_iface Tryz.underlying107 h4
  refine ⟨v, ?_, hv⟩
  rw [World.var?_cell hg h3 0]
  have : cs.toList[0]? = some v := by rw [e]; rfl
  simpa using this
theorem env_of {w : World} {laid : List (String × DataW Unit)} {d1 d2 : DataW Unit} (hs : w.ShapedOpen Tryz.prog) (hl : laidMetH Tryz.prog laid w) (hp : (laid.all fun x => x.2.handleName?.isNone) = true) (h1 : ("strconv.ErrSyntax", d1) ∈ laid) (h2 : ("strconv.ErrRange", d2) ∈ laid) : Env w := by
  rw [MakeChecks.laidMetH_plain _ _ _ hp] at hl
  obtain ⟨ps, hv, _, _⟩ := hl
  refine ⟨?_, iface_var hv h1 (by kernel_rfl) (by kernel_rfl), iface_var hv h2 (by kernel_rfl) (by kernel_rfl)⟩
  exact cell_of_shapedOpen_int hs (of_decide_eq_true (by kernel_rfl)) (t := 3) (zero := #[.int .i64 0]) (by kernel_rfl) rfl (by kernel_rfl) (by kernel_rfl) Tryz.underlying3
theorem wf_i64 {n : Int} (h : (Lit.int .i64 n).wf = true) : -9223372036854775808 ≤ n ∧ n ≤ 9223372036854775807 := by
  simp [Lit.wf, IntKind.min, IntKind.max, IntKind.signed, IntKind.bits] at h
  omega
end Go.Proofs.YtjblepjkejihcaaGreatDoor
