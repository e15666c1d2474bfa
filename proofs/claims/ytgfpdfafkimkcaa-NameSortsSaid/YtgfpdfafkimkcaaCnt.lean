/-
  A map from names to numbers: how often each stands in a list.
-/
import Derived.Test.YtgfpdfafkimkcaaSorts
import Derived.WideKeyEntry
set_option linter.unusedVariables false
set_option linter.unusedSimpArgs false
namespace Go.Proofs.Ytgfpdfafkimkcaa.D

/-- How many different ones. -/
def dist : List Nm → Nat
  | [] => 0
  | x :: l => if x ∈ l then dist l else dist l + 1
theorem dist_perm {l m : List Nm} (h : l.Perm m) : dist l = dist m := by
  induction h with
  | nil => rfl
  | cons x h ih => simp only [dist, h.mem_iff, ih]
  | swap x y l =>
    simp only [dist, List.mem_cons]
    by_cases e : x = y
    · subst e; rfl
    · have e' : ¬ y = x := fun h => e h.symm
      by_cases hx : x ∈ l <;> by_cases hy : y ∈ l <;> simp [e, e', hx, hy]
  | trans _ _ ih1 ih2 => exact ih1.trans ih2
theorem dist_snoc (l : List Nm) (x : Nm) : dist (l ++ [x]) = if x ∈ l then dist l else dist l + 1 := dist_perm (List.perm_append_singleton x l)
theorem dist_le (l : List Nm) : dist l ≤ l.length := by
  induction l with
  | nil => exact Nat.le_refl _
  | cons x l ih =>
    simp only [dist, List.length_cons]
    split <;> omega
theorem kinds_dist {l : List Nm} (h : Srt l) : ∀ k, k ≤ l.length → kinds l k = dist (l.take k) := by
  intro k
  induction k with
  | zero => intro _; simp [kinds, dist]
  | succ k ih =>
    intro hk
    have hx : l[k]? = some l[k] := List.getElem?_eq_getElem (by omega)
    rw [kinds_next, ih (by omega), List.take_succ_eq_append_getElem (by omega), dist_snoc]
    have key : l[k] ∈ l.take k ↔ ¬ (k = 0 ∨ l[k]? ≠ l[k - 1]?) := by
      constructor
      · intro hm
        obtain ⟨j, hj, e⟩ := List.mem_iff_getElem.1 hm
        have hjk : j < k := by
          have := hj
          simp at this
          omega
        rw [List.getElem_take] at e
        have hp : k - 1 < l.length := by omega
        have e1 : less l[k] l[k - 1] = false := List.pairwise_iff_getElem.1 h (k - 1) k hp (by omega) (by omega)
        have e2 : less l[k - 1] l[k] = false := by
          by_cases ej : j = k - 1
          · subst ej
            rw [← e]
            exact less_irrefl _
          · have := List.pairwise_iff_getElem.1 h j (k - 1) (by omega) hp (by omega)
            rw [e] at this
            exact this
        have e3 := less_tot e2 e1
        rintro (h0 | h0)
        · omega
        · apply h0
          rw [hx, List.getElem?_eq_getElem hp, e3]
      · intro hn
        have hk0 : k ≠ 0 := fun e => hn (.inl e)
        have he : l[k]? = l[k - 1]? := Classical.byContradiction fun e => hn (.inr e)
        have hp : k - 1 < l.length := by omega
        rw [hx, List.getElem?_eq_getElem hp] at he
        injection he with he
        rw [he]
        refine List.mem_iff_getElem.2 ⟨k - 1, by simp; omega, ?_⟩
        rw [List.getElem_take]
    by_cases hm : l[k] ∈ l.take k
    · rw [if_neg (key.1 hm), if_pos hm, Nat.add_zero]
    · rw [if_pos (Classical.byContradiction fun e => hm (key.2 e)), if_neg hm]
theorem cnt_snoc (l : List Nm) (x y : Nm) : cnt (l ++ [x]) y = if x = y then cnt l y + 1 else cnt l y := by
  simp only [cnt, List.countP_append, List.countP_singleton]
  split <;> simp_all
end Go.Proofs.Ytgfpdfafkimkcaa.D

namespace Go.Proofs.Ytgfpdfafkimkcaa
open Go.RowKit Go.Sort
open Go.Maps (Keyed)
open Go.ChangeMaps (setBlock modify_eq_set)
open Go.WideElems (Fit set_self)

theorem law_k : Go.WideMaps.KeyLaw Try.prog 23 := deep_law_laid laid_out (m := 3) (by omega) (of_decide_eq_true (by kernel_rfl)) (by kernel_rfl) (by rw [Try.underlying23])
/-- What mapEntry hands out is what stands there, and it leaves the world that a store of the same would leave. -/
theorem entry_is_update {P : Program} {w w1 : World} {t k e : TypeId} {R : Value → Option (DataW Unit × List MemPlace)} {b : Nat} {es : Array MapEntry} {clock : Nat} (K : Go.WideMaps.KeyLaw P k) (ht : P.underlying t = some (.map k e)) {z : Value} (hz : ∀ u : World, (zeroValue e).run P u = .ok z u)
    (hb : w.heap[b]? = some (.map es clock)) (F : Fit P k R es clock) {key v : Value} {l : Lit} (hkey : keyOf P k key = some l) (h : (Instr.mapEntry t (.map (some b)) key).run P w = .ok v w1) :
    ∃ v0 st, v = .tuple #[v0, st] ∧ (Instr.mapUpdate t (.map (some b)) key v0).run P w = .ok () w1 ∧ (Instr.lookup t (.map (some b)) key false).run P w = .ok v0 w := by
  rcases K.find w hkey es.toList F.keys with ⟨h1, h2⟩ | ⟨j, e0, h1, h2, h3⟩
  · simp [Instr.mapEntry, run_underlying ht, MapKept.run_getObj_map hb, K.check w false hkey, h1, hz, MapKept.run_setObj_map _ hb, Result.andThen, setBlock] at h
    obtain ⟨rfl, rfl⟩ := h
    refine ⟨z, _, rfl, ?_, ?_⟩
    · simp [Instr.mapUpdate, run_underlying ht, MapKept.run_getObj_map hb, K.check w false hkey, h1, MapKept.run_setObj_map _ hb, Result.andThen, setBlock]
    · simp [Instr.lookup, run_underlying ht, MapKept.run_getObj_map hb, K.check w _ hkey, h1, hz, Result.andThen]
  · have hj : es[j]? = some e0 := by simpa using h2
    have hsame : ∀ f : MapEntry → MapEntry, f e0 = e0 → es.modify j f = es := by
      intro f hf
      apply Array.ext'
      rw [Array.toList_modify, modify_eq_set _ _ _ _ h2, hf]
      exact set_self _ _ _ h2
    have s1 : es.modify j (fun e => { e with key := key }) = es := hsame _ (by rw [← h3])
    have s2 : es.modify j (fun e => { e with key := key, val := e0.val }) = es := hsame _ (by rw [← h3])
    simp [Instr.mapEntry, run_underlying ht, MapKept.run_getObj_map hb, K.check w false hkey, h1, hj, h3, K.stays w hkey, s1, MapKept.run_setObj_map _ hb, Result.andThen] at h
    obtain ⟨rfl, rfl⟩ := h
    refine ⟨e0.val, _, rfl, ?_, ?_⟩
    · simp [Instr.mapUpdate, run_underlying ht, MapKept.run_getObj_map hb, K.check w false hkey, h1, hj, h3, K.stays w hkey, s2, MapKept.run_setObj_map _ hb, Result.andThen]
    · simp [Instr.lookup, run_underlying ht, MapKept.run_getObj_map hb, K.check w _ hkey, h1, Result.andThen]

theorem zero_int (u : World) : (zeroValue 3).run Try.prog u = .ok (.int .i64 0) u := by kernel_rfl
/-- A map that says how often each name stands in a list. -/
structure CntAt (w : World) (b : Nat) (L : List D.Nm) : Prop where
  out : ∃ D0 : DataW Unit, w.ownsMap Try.prog 23 (plainElem Try.prog 3) b L.length D0 ∧ (∀ x, Maps.has D0 (kl x) = decide (x ∈ L)) ∧
    (∀ x, D0.atKey (kl x) (.lit (.int .i64 0)) = .lit (.int .i64 (D.cnt L x : Nat))) ∧ Maps.size D0 = D.dist L
section
variable {w w' : World} {b : Nat} {L : List D.Nm}
theorem CntAt.lt (h : CntAt w b L) : b < w.heap.size := by
  obtain ⟨D0, ho, _⟩ := h.out
  exact ho.lt
theorem CntAt.to (h : CntAt w b L) (hs : w'.heap[b]? = w.heap[b]?) : CntAt w' b L := by
  obtain ⟨D0, ⟨es, clock, hb, r⟩, r'⟩ := h.out
  exact ⟨D0, ⟨es, clock, hs.trans hb, r⟩, r'⟩
theorem CntAt.on (h : CntAt w b L) (hb : Below w.heap.size w w') : CntAt w' b L := h.to (hb.block _ h.lt)
theorem CntAt.alloc (h : CntAt w b L) (o : Obj) : CntAt (w.alloc o) b L := h.on (below_alloc_ _ _)
theorem CntAt.drew (h : CntAt w b L) : CntAt w.drew b L := h.to rfl
theorem cnt_new (w : World) : CntAt (w.alloc (.map #[] 0)) w.heap.size [] :=
  ⟨_, World.ownsMap_made _ _ _ _, fun x => rfl, fun x => rfl, rfl⟩
theorem CntAt.len (h : CntAt w b L) (ty : TypeId) : (Builtin.len_ #[41] ty #[.map (some b)]).run Try.prog w = .ok (.int .i64 (D.dist L : Nat)) w := by
  obtain ⟨D0, ho, _, _, hs⟩ := h.out
  rw [ho.len Try.underlying41 ty, hs]
theorem CntAt.look (h : CntAt w b L) (x : D.Nm) : (Instr.lookup 41 (.map (some b)) (.agg (nc x)) false).run Try.prog w = .ok (.int .i64 (D.cnt L x : Nat)) w := by
  obtain ⟨D0, ho, _, hc, _⟩ := h.out
  obtain ⟨c, hr, ha, _⟩ := ho.lookup_int law_n Try.underlying41 Try.underlying3 (zero_int w) (kl_is x)
  rw [hc x] at ha
  injection ha with ha
  injection ha with _ ha
  rw [hr, ha]
theorem CntAt.put (h : CntAt w b L) (hL : L.length ≤ 1000) (x : D.Nm) : ∃ w', (Instr.mapUpdate 41 (.map (some b)) (.agg (nc x)) (.int .i64 ((D.cnt L x : Nat) + 1 : Int))).run Try.prog w = .ok () w' ∧ CntAt w' b (L ++ [x]) ∧ w.grownBy w' (some b) := by
  obtain ⟨D0, ho, hh, hc, hs⟩ := h.out
  have hle := D.cnt_le L x
  obtain ⟨w', hr, ho', hg⟩ := ho.update law_n Try.underlying41 (by simp only [maxLen]; omega) (kl_is x) (plainElem_int (H := Unit) Try.underlying3 (WalkArith.wf_i64 (n := (D.cnt L x : Nat) + 1) (by omega)))
  refine ⟨w', hr, ⟨_, by simpa using ho', fun y => ?_, fun y => ?_, ?_⟩, hg⟩
  · by_cases e : y = x
    · subst e
      rw [Maps.has_put_same ho.isMap (kl_key y)]
      simp
    · rw [Maps.has_put_other (fun e' => e (kl_inj e')), hh y, decide_eq_decide]
      simp [e]
  · rw [D.cnt_snoc]
    by_cases e : x = y
    · subst e
      rw [Maps.atKey_put_same ho.isMap (kl_key x), if_pos rfl]
      simp
    · rw [Maps.atKey_put_other (fun e' => e (kl_inj e').symm), if_neg e, hc y]
  · rw [Maps.size_put (ho.tidy law_n), hh x, hs, D.dist_snoc]
    by_cases hx : x ∈ L <;> simp [hx]
/-- One name more: what the statement's operations meet, in whatever order. -/
theorem CntAt.more (h : CntAt w b L) (hL : L.length ≤ 1000) (x : D.Nm) : ∃ (st : Nat) (w1 w2 : World),
    (Instr.mapEntry 41 (.map (some b)) (.agg (nc x))).run Try.prog w = .ok (.tuple #[.int .i64 (D.cnt L x : Nat), goInt st]) w1 ∧
    (Instr.lookup 41 (.map (some b)) (.agg (nc x)) false).run Try.prog w1 = .ok (.int .i64 (D.cnt L x : Nat)) w1 ∧
    (Instr.entryStore 41 (.map (some b)) (goInt st) (.int .i64 ((D.cnt L x : Nat) + 1 : Int))).run Try.prog w1 = .ok () w2 ∧ CntAt w2 b (L ++ [x]) ∧ w.grownBy w2 (some b) := by
  obtain ⟨D0, ho, _⟩ := h.out
  have hlk := h.look x
  have hle := D.cnt_le L x
  obtain ⟨w3, hr3, ho3, _⟩ := ho.update law_n Try.underlying41 (by simp only [maxLen]; omega) (kl_is x) (plainElem_int (H := Unit) Try.underlying3 (WalkArith.wf_i64 (n := (D.cnt L x : Nat)) (by omega)))
  obtain ⟨w2, hr2, hc2, hg2⟩ := h.put hL x
  have hm := ho.isMap
  obtain ⟨es, clock, hb, F, _⟩ := ho
  obtain ⟨v0, st, es1, clock1, hE, _, hS⟩ := Go.WideElems.entry_then_store law_k Try.underlying41 zero_int hb F (kl_is x)
  obtain ⟨v1, st1, e1, hU, hL1⟩ := entry_is_update law_k Try.underlying41 zero_int hb F (kl_is x) hE
  injection e1 with e1
  simp only [Array.mk.injEq, List.cons.injEq] at e1
  obtain ⟨rfl, _⟩ := e1
  rw [hlk] at hL1
  injection hL1 with hL1
  subst hL1
  obtain ⟨es', clock', hS1, hS2⟩ := hS (setBlock w b (.map es1 clock1)) (.int .i64 ((D.cnt L x : Nat) + 1 : Int)) (Go.ChangeMaps.heap_setBlock_same hb _)
  rw [hr2] at hS2
  injection hS2 with _ hS2
  rw [hr3] at hU
  injection hU with _ hU
  have hw : setBlock (setBlock w b (.map es1 clock1)) b (.map es' clock') = w2 := by
    rw [hS2]
    simp [setBlock]
  rw [hw] at hS1
  refine ⟨st, _, w2, hE, ?_, hS1, hc2, hg2⟩
  rw [← hU]
  obtain ⟨c, hr, ha, _⟩ := ho3.lookup_int law_n Try.underlying41 Try.underlying3 (zero_int w3) (kl_is x)
  rw [Maps.atKey_put_same hm (kl_key x)] at ha
  have e2 : ((D.cnt L x : Nat) : Int) = c := (Lit.int.inj (DataW.lit.inj ha)).2
  rw [hr, ← e2]
end
end Go.Proofs.Ytgfpdfafkimkcaa
