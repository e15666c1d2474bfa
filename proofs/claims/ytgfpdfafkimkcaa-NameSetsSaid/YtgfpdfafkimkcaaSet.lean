/-
  A set of names in memory: the map behind it, and the set's own variable.
-/
import Derived.Test.YtgfpdfafkimkcaaKnown
import Derived.Maps.RangeWalk
import Derived.Maps.OwnSet
set_option linter.unusedVariables false
set_option linter.unusedSimpArgs false
namespace Go.Proofs.Ytgfpdfafkimkcaa
open Go.RowKit Go.Sort
open Go.Maps (Keyed)

/-- What a name reads as, as a key. -/
noncomputable def kl (x : D.Nm) : Lit := Classical.choose (key_of x 23 (.inr rfl))
theorem kl_is (x : D.Nm) : keyOf Try.prog 23 (.agg (nc x)) = some (kl x) := Classical.choose_spec (key_of x 23 (.inr rfl))
theorem kl_inj {x y : D.Nm} (h : kl x = kl y) : x = y := by
  have h1 := kl_is x
  rw [h] at h1
  have := law_n.inj h1 (kl_is y)
  injection this with this
  exact nc_inj this
theorem kl_key (x : D.Nm) : WideAt.IsKeyLit (kl x) := law_n.key (kl_is x)
theorem key_back {v : Value} {l : Lit} (h : keyOf Try.prog 23 v = some l) : ∃ x : D.Nm, v = .agg (nc x) := by
  obtain ⟨xs, L, rfl, hL, _⟩ := keyOf_top (by rw [Try.underlying23]) h
  have hc : Try.prog.cellsOf 23 = 12 := by kernel_rfl
  unfold Program.keyLits at hL
  rw [Try.underlying23] at hL
  simp only [hc] at hL
  split at hL
  · rename_i h12
    simp only [Option.map_eq_some_iff] at hL
    obtain ⟨ys, ha, _⟩ := hL
    have hlen := mapM_some_length ha
    have key : ∀ i, ∃ b : Nat, i < 12 → b < 256 ∧ xs.toList[i]? = some (.int .u8 b) := by
      intro i
      by_cases hi : i < 12
      · have hg := mapM_some_get ha i i (by rw [List.getElem?_range hi])
        rw [List.length_range] at hlen
        have x0 : ys[i]? = some (ys[i]'(by omega)) := List.getElem?_eq_getElem _
        rw [x0] at hg
        obtain ⟨n, e1, e2⟩ := keyLits_int' Try.underlying5 hg
        rw [cells_u8, Nat.mul_one] at e1
        have hw := keyLits_wf hg (.int .u8 n) (by rw [e2]; simp)
        have e3 : ((xs.toList.drop i).take 1)[0]? = some (.int .u8 n) := by rw [e1]; rfl
        rw [List.getElem?_take_of_lt (by omega), List.getElem?_drop, Nat.add_zero] at e3
        have hb : 0 ≤ n ∧ n < 256 := by
          have hw' : (Lit.int .u8 n).wf = true := by simpa [Lit.keyWf] using hw
          have := bounds_u8 hw'
          omega
        exact ⟨n.toNat, fun _ => ⟨by omega, by rw [Int.toNat_of_nonneg hb.1]; exact e3⟩⟩
      · exact ⟨0, fun h => absurd h hi⟩
    refine ⟨⟨(List.range 12).map fun i => Classical.choose (key i), by simp, ?_⟩, ?_⟩
    · intro b hb
      obtain ⟨i, hi, rfl⟩ := List.mem_map.1 hb
      exact (Classical.choose_spec (key i) (List.mem_range.1 hi)).1
    · congr 1
      apply Array.ext'
      rw [nc]
      apply List.ext_getElem?
      intro i
      by_cases hi : i < 12
      · rw [(Classical.choose_spec (key i) hi).2]
        simp only [bys, List.map_map, List.getElem?_map]
        rw [List.getElem?_range hi]
        rfl
      · rw [List.getElem?_eq_none (by omega), List.getElem?_eq_none (by simp [bys_len]; omega)]
  · cases hL

/-- A map that holds just these. -/
structure MapAt (w : World) (b : Nat) (L : List D.Nm) : Prop where
  out : ∃ D : DataW Unit, w.ownsMap Try.prog 23 unitElem b L.length D ∧ (∀ x, Maps.has D (kl x) = decide (x ∈ L)) ∧ Maps.size D = L.length
section
variable {w w' : World} {b n : Nat} {L : List D.Nm} {D0 : DataW Unit}
theorem own_tight (h : w.ownsMap Try.prog 23 unitElem b n D0) : w.ownsMap Try.prog 23 unitElem b (Maps.size D0) D0 := by
  obtain ⟨es, clock, hb, F, hs, hD⟩ := h
  exact ⟨es, clock, hb, F, by rw [hD]; simp [Maps.size, length_sorted], hD⟩
theorem MapAt.lt (h : MapAt w b L) : b < w.heap.size := by
  obtain ⟨D, ho, _⟩ := h.out
  exact ho.lt
theorem MapAt.kept (h : MapAt w b L) {row : Option Nat} (hg : w.grownBy w' row) (hne : some b ≠ row) : MapAt w' b L := by
  obtain ⟨D, ho, r⟩ := h.out
  exact ⟨D, ho.kept hg hne, r⟩
theorem MapAt.to (h : MapAt w b L) (hs : w'.heap[b]? = w.heap[b]?) : MapAt w' b L := by
  obtain ⟨D, ⟨es, clock, hb, r⟩, r'⟩ := h.out
  exact ⟨D, ⟨es, clock, hs.trans hb, r⟩, r'⟩
theorem MapAt.on (h : MapAt w b L) (hb : Below w.heap.size w w') : MapAt w' b L := h.to (hb.block _ h.lt)
theorem MapAt.alloc (h : MapAt w b L) (o : Obj) : MapAt (w.alloc o) b L := h.on (below_alloc_ _ _)
theorem MapAt.drew (h : MapAt w b L) : MapAt w.drew b L := h.to rfl
theorem MapAt.no_cells (h : MapAt w b L) {g : Nat} {t : TypeId} {cs : Array Value} (hg : Blk w g t cs) : g ≠ b := by
  rintro rfl
  obtain ⟨D, ⟨es, clock, hb, r⟩, r'⟩ := h.out
  rw [hg.out] at hb
  cases hb
theorem map_new (w : World) : MapAt (w.alloc (.map #[] 0)) w.heap.size [] :=
  ⟨_, World.ownsMap_made _ _ _ _, fun x => rfl, rfl⟩
theorem MapAt.len (h : MapAt w b L) (ty : TypeId) : (Builtin.len_ #[46] ty #[.map (some b)]).run Try.prog w = .ok (.int .i64 (L.length : Nat)) w := by
  obtain ⟨D, ho, _, hs⟩ := h.out
  rw [ho.len Try.underlying46 ty, hs]
theorem MapAt.look (h : MapAt w b L) (x : D.Nm) : (Instr.lookup 46 (.map (some b)) (.agg (nc x)) true).run Try.prog w = .ok (.tuple #[.agg #[], .bool (decide (x ∈ L))]) w := by
  obtain ⟨D, ho, hh, _⟩ := h.out
  obtain ⟨v, ps, hr, hv⟩ := ho.look_ok law_n Try.underlying46 (z := .agg #[]) (by kernel_rfl) unitElem_mk (kl_is x)
  obtain ⟨rfl, _⟩ := unitElem_inv hv
  rw [hr, hh x]
theorem MapAt.put (h : MapAt w b L) (hL : L.length ≤ 1000) (x : D.Nm) (L' : List D.Nm) (hm : ∀ y, y ∈ L' ↔ y = x ∨ y ∈ L) (hl : L'.length = if x ∈ L then L.length else L.length + 1) :
    ∃ w', (Instr.mapUpdate 46 (.map (some b)) (.agg (nc x)) (.agg #[])).run Try.prog w = .ok () w' ∧ MapAt w' b L' ∧ w.grownBy w' (some b) := by
  obtain ⟨D, ho, hh, hs⟩ := h.out
  obtain ⟨w', hr, ho', hg⟩ := ho.update law_n Try.underlying46 (by simp only [maxLen]; omega) (kl_is x) (unitElem_mk (H := Unit))
  have hs' : Maps.size (D.put (kl x) (.agg [])) = L'.length := by
    rw [Maps.size_put (ho.tidy law_n), hh x, hs, hl]
    simp
  refine ⟨w', hr, ⟨_, by rw [← hs']; exact own_tight ho', fun y => ?_, hs'⟩, hg⟩
  by_cases e : y = x
  · subst e
    rw [Maps.has_put_same ho.isMap (kl_key y)]
    have := (hm y).2 (.inl rfl)
    simp [this]
  · rw [Maps.has_put_other (fun e' => e (kl_inj e')), hh y, decide_eq_decide, hm y]
    simp [e]
theorem MapAt.drop (h : MapAt w b L) (hn : L.Nodup) (x : D.Nm) (ty : TypeId) :
    ∃ w', (Builtin.delete_ #[46, 23] ty #[.map (some b), .agg (nc x)]).run Try.prog w = .ok (.tuple #[]) w' ∧ MapAt w' b (D.wo L x) ∧ w.grownBy w' (some b) := by
  obtain ⟨D0, ho, hh, hs⟩ := h.out
  obtain ⟨w', hr, ho', hg⟩ := ho.drop law_n Try.underlying46 (kl_is x) ty
  have hs' : Maps.size (D0.del (kl x)) = (D.wo L x).length := by
    have h1 := Maps.size_del (k := kl x) (ho.tidy law_n)
    have h2 := D.wo_len hn x
    rw [hh x, hs] at h1
    simp only [decide_eq_true_eq] at h1
    omega
  refine ⟨w', hr, ⟨_, by rw [← hs']; exact own_tight ho', fun y => ?_, hs'⟩, hg.grown⟩
  by_cases e : y = x
  · subst e
    rw [Maps.has_del_same]
    symm
    simp [D.wo]
  · rw [Maps.has_del_other (fun e' => e (kl_inj e')), hh y, decide_eq_decide, D.mem_wo]
    simp [e]
end
end Go.Proofs.Ytgfpdfafkimkcaa
