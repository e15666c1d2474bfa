/-
  A map of numbers by times, in memory: looked up, put, dropped.
-/
import Derived.Test.YtdolceefbikppaaDoorShp
import Derived.Test.YtdolceefbikppaaDoorPnm
import Derived.Maps.Own
import Derived.Maps.OwnSet
set_option linter.unusedVariables false
set_option linter.unusedSimpArgs false
set_option maxRecDepth 100000
namespace Go.Proofs.YtdolceefbikppaaDoor
open Go.RowKit
theorem law_w : Maps.Keyed Tryd.prog 23 := Maps.int_keyed Tryd.underlying23
def kl (k : Nat) : Lit := .int .u64 (k : Nat)
theorem kl_is {k : Nat} (hk : k < 18446744073709551616) : keyOf Tryd.prog 23 (.int .u64 (k : Nat)) = some (kl k) := by
  have h1 : IntKind.u64.min = 0 := by rfl
  have h2 : IntKind.u64.max = 18446744073709551615 := by rfl
  have : (Lit.int .u64 (k : Nat)).wf = true := by simp [Lit.wf, h1, h2]; omega
  simp [keyOf, mapKey, Tryd.underlying23, kl, this]
theorem kl_inj {x y : Nat} (h : kl x = kl y) : x = y := by
  unfold kl at h
  injection h with _ h
  omega
theorem kl_key {x : Nat} (hx : x < 18446744073709551616) : WideAt.IsKeyLit (kl x) := law_w.key (kl_is hx)
theorem zero_int (u : World) : (zeroValue 3).run Tryd.prog u = .ok (.int .i64 0) u := by kernel_rfl
/-- A map of these keys that says so much of each time. -/
structure MpAt (w : World) (b : Nat) (K : List Nat) (f : Nat → Nat) : Prop where
  out : ∃ D0 : DataW Unit, w.ownsMap Tryd.prog 23 (plainElem Tryd.prog 3) b K.length D0 ∧ (∀ x, x < 18446744073709551616 → Maps.has D0 (kl x) = decide (x ∈ K)) ∧
    (∀ x, x < 18446744073709551616 → D0.atKey (kl x) (.lit (.int .i64 0)) = .lit (.int .i64 (f x : Nat))) ∧ Maps.size D0 = K.length
  nodup : K.Nodup
  lt : ∀ x ∈ K, x < 18446744073709551616
section
variable {w w' : World} {b n : Nat} {K : List Nat} {f : Nat → Nat} {D0 : DataW Unit}
theorem own_tight (h : w.ownsMap Tryd.prog 23 (plainElem Tryd.prog 3) b n D0) : w.ownsMap Tryd.prog 23 (plainElem Tryd.prog 3) b (Maps.size D0) D0 := by
  obtain ⟨es, clock, hb, F, hs, hD⟩ := h
  exact ⟨es, clock, hb, F, by rw [hD]; simp [Maps.size, length_sorted], hD⟩
theorem MpAt.lt_ (h : MpAt w b K f) : b < w.heap.size := by
  obtain ⟨D0, ho, _⟩ := h.out
  exact ho.lt
theorem MpAt.to (h : MpAt w b K f) (hs : w'.heap[b]? = w.heap[b]?) : MpAt w' b K f := by
  obtain ⟨D0, ⟨es, clock, hb, r⟩, r'⟩ := h.out
  exact ⟨⟨D0, ⟨es, clock, hs.trans hb, r⟩, r'⟩, h.nodup, h.lt⟩
theorem MpAt.on (h : MpAt w b K f) (hb : Below w.heap.size w w') : MpAt w' b K f := h.to (hb.block _ h.lt_)
theorem MpAt.no_cells (h : MpAt w b K f) {g : Nat} {t : TypeId} {cs : Array Value} (hg : Blk w g t cs) : g ≠ b := by
  rintro rfl
  obtain ⟨D, ⟨es, clock, hb, r⟩, r'⟩ := h.out
  rw [hg.out] at hb
  cases hb
theorem MpAt.same (h : MpAt w b K f) {f' : Nat → Nat} (hf : ∀ x, x < 18446744073709551616 → f' x = f x) : MpAt w b K f' := by
  obtain ⟨D0, h1, h2, h3, h4⟩ := h.out
  exact ⟨⟨D0, h1, h2, fun x hx => by rw [h3 x hx, hf x hx], h4⟩, h.nodup, h.lt⟩
theorem mp_new (w : World) : MpAt (w.alloc (.map #[] 0)) w.heap.size [] (fun _ => 0) :=
  ⟨⟨_, World.ownsMap_made _ _ _ _, fun x _ => rfl, fun x _ => rfl, rfl⟩, List.nodup_nil, by simp⟩
theorem MpAt.look (h : MpAt w b K f) {x : Nat} (hx : x < 18446744073709551616) : (Instr.lookup 25 (.map (some b)) (.int .u64 (x : Nat)) false).run Tryd.prog w = .ok (.int .i64 (f x : Nat)) w := by
  obtain ⟨D0, ho, _, hc, _⟩ := h.out
  obtain ⟨c, hr, ha, _⟩ := ho.lookup_int law_w Tryd.underlying25 Tryd.underlying3 (zero_int w) (kl_is hx)
  rw [hc x hx] at ha
  injection ha with ha
  injection ha with _ ha
  rw [hr, ha]
theorem MpAt.put (h : MpAt w b K f) (hL : K.length ≤ 1000) {x v : Nat} (hx : x < 18446744073709551616) (hv : v ≤ 1000) (z : Int) (hz : z = v) : ∃ w', (Instr.mapUpdate 25 (.map (some b)) (.int .u64 (x : Nat)) (.int .i64 z)).run Tryd.prog w = .ok () w' ∧ MpAt w' b (if x ∈ K then K else x :: K) (fun y => if y = x then v else f y) ∧ w.grownBy w' (some b) := by
  subst hz
  obtain ⟨D0, ho, hh, hc, hs⟩ := h.out
  obtain ⟨w', hr, ho', hg⟩ := ho.update law_w Tryd.underlying25 (by simp only [maxLen]; omega) (kl_is hx) (plainElem_int (H := Unit) Tryd.underlying3 (WalkArith.wf_i64 (n := (v : Nat)) (by omega)))
  have hs' : Maps.size (D0.put (kl x) (.lit (.int .i64 (v : Nat)))) = (if x ∈ K then K else x :: K).length := by
    rw [Maps.size_put (ho.tidy law_w), hh x hx, hs]
    by_cases hxl : x ∈ K <;> simp [hxl]
  refine ⟨w', hr, ⟨⟨_, by rw [← hs']; exact own_tight ho', fun y hy => ?_, fun y hy => ?_, hs'⟩, ?_, ?_⟩, hg⟩
  · by_cases e : y = x
    · subst e
      rw [Maps.has_put_same ho.isMap (kl_key hy)]
      split <;> simp [*]
    · rw [Maps.has_put_other (fun e' => e (kl_inj e')), hh y hy, decide_eq_decide]
      split <;> simp [e]
  · by_cases e : y = x
    · subst e
      rw [Maps.atKey_put_same ho.isMap (kl_key hx), if_pos rfl]
    · rw [Maps.atKey_put_other (fun e' => e (kl_inj e')), if_neg e, hc y hy]
  · split
    · exact h.nodup
    · rename_i hn
      exact List.nodup_cons.2 ⟨hn, h.nodup⟩
  · split
    · exact h.lt
    · intro y hy
      rcases List.mem_cons.1 hy with rfl | hy
      · exact hx
      · exact h.lt y hy
theorem MpAt.drop (h : MpAt w b K f) {x : Nat} (hx : x < 18446744073709551616) (ty : TypeId) : ∃ w', (Builtin.delete_ #[25, 23] ty #[.map (some b), .int .u64 (x : Nat)]).run Tryd.prog w = .ok (.tuple #[]) w' ∧ MpAt w' b (K.erase x) (fun y => if y = x then 0 else f y) ∧ w.grownBy w' (some b) := by
  obtain ⟨D0, ho, hh, hc, hs⟩ := h.out
  obtain ⟨w', hr, ho', hg⟩ := ho.drop law_w Tryd.underlying25 (kl_is hx) ty
  have hs' : Maps.size (D0.del (kl x)) = (K.erase x).length := by
    have h1 := Maps.size_del (k := kl x) (ho.tidy law_w)
    rw [hh x hx, hs] at h1
    rw [List.length_erase]
    by_cases hxl : x ∈ K
    · have := List.length_pos_of_mem hxl
      simp [hxl] at h1 ⊢
      omega
    · simp [hxl] at h1 ⊢
      omega
  refine ⟨w', hr, ⟨⟨_, by rw [← hs']; exact own_tight ho', fun y hy => ?_, fun y hy => ?_, hs'⟩, h.nodup.erase _, fun y hy => h.lt y (List.mem_of_mem_erase hy)⟩, hg.grown⟩
  · by_cases e : y = x
    · subst e
      rw [Maps.has_del_same]
      symm
      rw [decide_eq_false_iff_not]
      intro hm
      exact (List.Nodup.mem_erase_iff h.nodup).1 hm |>.1 rfl
    · rw [Maps.has_del_other (fun e' => e (kl_inj e')), hh y hy, decide_eq_decide]
      exact (List.mem_erase_of_ne e).symm
  · by_cases e : y = x
    · subst e
      rw [Maps.atKey_del_same, if_pos rfl]
      rfl
    · rw [Maps.atKey_del_other (fun e' => e (kl_inj e')), if_neg e, hc y hy]
end
end Go.Proofs.YtdolceefbikppaaDoor
