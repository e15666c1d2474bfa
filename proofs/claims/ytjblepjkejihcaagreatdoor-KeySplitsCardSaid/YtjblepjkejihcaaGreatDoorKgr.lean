/-
  Groups of keys by their prefix: the map that Split makes.
-/
import Derived.Test.YtjblepjkejihcaaGreatDoorGf
import Derived.WideKeyEntry
import Derived.Maps.AppendAt
set_option linter.unusedVariables false
set_option linter.unusedSimpArgs false
set_option maxRecDepth 100000
namespace Go.Proofs.YtjblepjkejihcaaGreatDoor.D
open Classical in
/-- One key more: behind those of its prefix, or in a group of its own at the end. -/
noncomputable def addg : List (Px × List Ky) → Px → Ky → List (Px × List Ky)
  | [], p, k => [(p, [k])]
  | g :: G, p, k => if g.1 = p then (g.1, g.2 ++ [k]) :: G else g :: addg G p k
open Classical in
/-- The keys of a prefix. -/
noncomputable def memg : List (Px × List Ky) → Px → List Ky
  | [], _ => []
  | g :: G, p => if g.1 = p then g.2 else memg G p
theorem addg_new {G : List (Px × List Ky)} {p : Px} (k : Ky) (h : ∀ g ∈ G, g.1 ≠ p) : addg G p k = G ++ [(p, [k])] := by
  induction G with
  | nil => rfl
  | cons g G ih => simp only [addg]; rw [if_neg (h g (by simp)), ih fun g' hg' => h g' (by simp [hg'])]; rfl
theorem memg_new {G : List (Px × List Ky)} {p : Px} (h : ∀ g ∈ G, g.1 ≠ p) : memg G p = [] := by
  induction G with
  | nil => rfl
  | cons g G ih => simp only [memg]; rw [if_neg (h g (by simp)), ih fun g' hg' => h g' (by simp [hg'])]
theorem addg_old {G : List (Px × List Ky)} {p : Px} (k : Ky) (hn : (G.map Prod.fst).Nodup) {j : Nat} {m : List Ky} (h : G[j]? = some (p, m)) : addg G p k = G.set j (p, m ++ [k]) := by
  induction G generalizing j with
  | nil => simp at h
  | cons g G ih =>
    simp only [List.map_cons, List.nodup_cons] at hn
    cases j with
    | zero => simp only [List.getElem?_cons_zero, Option.some.injEq] at h; subst h; simp [addg]
    | succ j =>
      simp only [List.getElem?_cons_succ] at h
      have hne : g.1 ≠ p := fun e => hn.1 (by rw [e]; exact List.mem_map.2 ⟨_, List.mem_of_getElem? h, rfl⟩)
      simp only [addg]
      rw [if_neg hne, ih hn.2 h]
      rfl
theorem memg_old {G : List (Px × List Ky)} {p : Px} (hn : (G.map Prod.fst).Nodup) {j : Nat} {m : List Ky} (h : G[j]? = some (p, m)) : memg G p = m := by
  induction G generalizing j with
  | nil => simp at h
  | cons g G ih =>
    simp only [List.map_cons, List.nodup_cons] at hn
    cases j with
    | zero => simp only [List.getElem?_cons_zero, Option.some.injEq] at h; subst h; simp [memg]
    | succ j =>
      simp only [List.getElem?_cons_succ] at h
      have hne : g.1 ≠ p := fun e => hn.1 (by rw [e]; exact List.mem_map.2 ⟨_, List.mem_of_getElem? h, rfl⟩)
      simp only [memg]
      rw [if_neg hne, ih hn.2 h]
theorem fst_addg (G : List (Px × List Ky)) (p : Px) (k : Ky) (q : Px) : q ∈ (addg G p k).map Prod.fst ↔ q ∈ G.map Prod.fst ∨ q = p := by
  induction G with
  | nil => simp [addg]
  | cons g G ih =>
    simp only [addg]
    split
    · rename_i e
      simp only [List.map_cons, List.mem_cons]
      constructor
      · rintro (h | h)
        · exact .inl (.inl h)
        · exact .inl (.inr h)
      · rintro ((h | h) | h)
        · exact .inl h
        · exact .inr h
        · exact .inl (h.trans e.symm)
    · simp only [List.map_cons, List.mem_cons, ih, or_assoc]
theorem nodup_addg {G : List (Px × List Ky)} (p : Px) (k : Ky) (h : (G.map Prod.fst).Nodup) : ((addg G p k).map Prod.fst).Nodup := by
  induction G with
  | nil => simp [addg]
  | cons g G ih =>
    simp only [List.map_cons, List.nodup_cons] at h
    simp only [addg]
    split
    · simpa using h
    · rename_i e
      simp only [List.map_cons, List.nodup_cons]
      refine ⟨fun hm => ?_, ih h.2⟩
      rcases (fst_addg G p k g.1).1 hm with hm | hm
      · exact h.1 hm
      · exact e hm
open Classical in
theorem memg_addg (G : List (Px × List Ky)) (p : Px) (k : Ky) (q : Px) : memg (addg G p k) q = if q = p then memg G q ++ [k] else memg G q := by
  induction G with
  | nil =>
    simp only [addg, memg]
    by_cases e : q = p
    · subst e; simp
    · rw [if_neg (fun h => e h.symm), if_neg e]
  | cons g G ih =>
    simp only [addg]
    split
    · rename_i e
      simp only [memg]
      by_cases e2 : q = p
      · subst e2
        rw [if_pos e, if_pos rfl, if_pos e]
      · rw [if_neg (fun h => e2 (by rw [← h, e])), if_neg e2, if_neg (fun h => e2 (by rw [← h, e]))]
    · rename_i e
      simp only [memg, ih]
      by_cases e2 : g.1 = q
      · rw [if_pos e2, if_pos e2, if_neg (fun h => e (by rw [e2, h]))]
      · rw [if_neg e2, if_neg e2]
/-- The groups of a list of keys. -/
noncomputable def grp (pre : Ky → Px) (L : List Ky) : List (Px × List Ky) := L.foldl (fun G k => addg G (pre k) k) []
theorem grp_snoc (pre : Ky → Px) (L : List Ky) (k : Ky) : grp pre (L ++ [k]) = addg (grp pre L) (pre k) k := by simp [grp]
theorem rev_ind {P : List Ky → Prop} (h0 : P []) (h1 : ∀ L k, P L → P (L ++ [k])) (L : List Ky) : P L := by
  have : ∀ R : List Ky, P R.reverse := by
    intro R
    induction R with
    | nil => exact h0
    | cons k R ih => rw [List.reverse_cons]; exact h1 _ _ ih
  have h := this L.reverse
  rwa [List.reverse_reverse] at h
theorem grp_nodup (pre : Ky → Px) (L : List Ky) : ((grp pre L).map Prod.fst).Nodup :=
  rev_ind (P := fun L => ((grp pre L).map Prod.fst).Nodup) (by simp [grp]) (fun L k ih => by rw [grp_snoc]; exact nodup_addg _ _ ih) L
theorem grp_fst (pre : Ky → Px) (L : List Ky) (q : Px) : q ∈ (grp pre L).map Prod.fst ↔ ∃ k ∈ L, pre k = q :=
  rev_ind (P := fun L => q ∈ (grp pre L).map Prod.fst ↔ ∃ k ∈ L, pre k = q) (by simp [grp]) (fun L k ih => by
    rw [grp_snoc, fst_addg, ih]
    constructor
    · rintro (⟨x, hx, e⟩ | e)
      · exact ⟨x, by simp [hx], e⟩
      · exact ⟨k, by simp, e.symm⟩
    · rintro ⟨x, hx, e⟩
      simp only [List.mem_append, List.mem_singleton] at hx
      rcases hx with hx | rfl
      · exact .inl ⟨x, hx, e⟩
      · exact .inr e.symm) L
open Classical in
theorem grp_mem (pre : Ky → Px) (L : List Ky) (q : Px) : memg (grp pre L) q = L.filter fun k => decide (pre k = q) :=
  rev_ind (P := fun L => memg (grp pre L) q = L.filter fun k => decide (pre k = q)) (by simp [grp, memg]) (fun L k ih => by
    rw [grp_snoc, memg_addg, ih, List.filter_append]
    by_cases e : q = pre k
    · subst e
      simp
    · rw [if_neg e]
      simp
      exact fun h => e h.symm) L
end Go.Proofs.YtjblepjkejihcaaGreatDoor.D

namespace Go.Proofs.YtjblepjkejihcaaGreatDoor
open Go.RowKit
open Go.ChangeMaps (setBlock modify_eq_set)
open Go.WideElems (set_self)

theorem law_pk : Go.WideMaps.KeyLaw Tryz.prog 58 := deep_law_laid laid_out (m := 6) (by omega) (of_decide_eq_true (by kernel_rfl)) (by kernel_rfl) (by rw [Tryz.underlying58])
theorem zero_keys (u : World) : (zeroValue 63).run Tryz.prog u = .ok (.slice none 0 0) u := by kernel_rfl

/-- A map of groups: each prefix's keys lie in a slice of its own. -/
structure GrpAt (base : Nat) (w : World) (b : Nat) (G : List (D.Px × List D.Ky)) : Prop where
  nod : (G.map Prod.fst).Nodup
  bas : base ≤ w.heap.size
  low : b < base
  out : ∃ es : Array MapEntry, w.heap[b]? = some (.map es es.size) ∧ es.size = G.length ∧
    (∀ (i : Nat) e g, es[i]? = some e → G[i]? = some g → e.key = .agg (pS.v g.1) ∧ e.born = i ∧ ∃ A n c, e.val = .slice A n c ∧ kS.Own base 33 w A n c g.2) ∧
    ∀ (i j : Nat) e f, es[i]? = some e → es[j]? = some f → i ≠ j → e.val.ownBlock = none ∨ e.val.ownBlock ≠ f.val.ownBlock
section
variable {base b : Nat} {w w' : World} {G : List (D.Px × List D.Ky)}
theorem GrpAt.lt (h : GrpAt base w b G) : b < w.heap.size := Nat.lt_of_lt_of_le h.low h.bas
theorem GrpAt.on (h : GrpAt base w b G) (hb : Below w.heap.size w w') : GrpAt base w' b G := by
  obtain ⟨es, h1, h2, h3, h4⟩ := h.out
  refine ⟨h.nod, Nat.le_trans h.bas hb.size, h.low, es, (hb.block _ h.lt).trans h1, h2, fun i e g he hg => ?_, h4⟩
  obtain ⟨k1, k2, A, n, c, k3, k4⟩ := h3 i e g he hg
  exact ⟨k1, k2, A, n, c, k3, k4.on hb⟩
theorem GrpAt.alloc (h : GrpAt base w b G) (o : Obj) : GrpAt base (w.alloc o) b G := h.on (below_alloc_ _ _)
theorem GrpAt.drewN (h : GrpAt base w b G) (k : Nat) : GrpAt base (w.drewN k) b G := h.on ⟨rfl, rfl, rfl, Nat.le_refl _, fun _ _ => rfl⟩
theorem grp_new (w : World) : GrpAt (w.heap.size + 1) (w.alloc (.map #[] 0)) w.heap.size [] :=
  ⟨by simp, by simp, by omega, #[], heap_alloc_new w _, rfl, fun i e g he => by simp at he, fun i j e f he => by simp at he⟩
theorem GrpAt.len (h : GrpAt base w b G) (ty : TypeId) : (Builtin.len_ #[64] ty #[.map (some b)]).run Tryz.prog w = .ok (.int .i64 (G.length : Nat)) w := by
  obtain ⟨es, h1, h2, h3, h4⟩ := h.out
  simp [Builtin.len_, run_underlying Tryz.underlying64, Builtin.lenOf, MapKept.run_getObj_map h1, Result.andThen, h2, goInt]
/-- Where a prefix's entry lies. -/
theorem GrpAt.find (h : GrpAt base w b G) (p : D.Px) : ∃ es : Array MapEntry, w.heap[b]? = some (.map es es.size) ∧ es.size = G.length ∧
    (((Instr.findKey 58 (.agg (pS.v p)) es.toList).run Tryz.prog w = .ok none w ∧ ∀ g ∈ G, g.1 ≠ p) ∨
     ∃ j e m, (Instr.findKey 58 (.agg (pS.v p)) es.toList).run Tryz.prog w = .ok (some (j, e.val)) w ∧ es[j]? = some e ∧ G[j]? = some (p, m) ∧ e.key = .agg (pS.v p)) := by
  obtain ⟨es, h1, h2, h3, h4⟩ := h.out
  obtain ⟨lp, hp⟩ := key_p p
  have hk : ∀ e ∈ es.toList, ∃ l, keyOf Tryz.prog 58 e.key = some l := fun e he => by
    obtain ⟨i, hi, e1⟩ := List.mem_iff_getElem.1 he
    have e2 : es[i]? = some e := by rw [Array.getElem?_eq_some_iff]; exact ⟨by simpa using hi, by simpa using e1⟩
    have hG : i < G.length := by rw [← h2]; simpa using hi
    obtain ⟨k1, _⟩ := h3 i e G[i] e2 (List.getElem?_eq_getElem hG)
    rw [k1]
    exact key_p _
  refine ⟨es, h1, h2, ?_⟩
  rcases law_pk.find w hp es.toList hk with ⟨f1, f2⟩ | ⟨j, e, f1, f2, f3⟩
  · refine .inl ⟨f1, fun g hg e1 => ?_⟩
    obtain ⟨i, hi, e2⟩ := List.mem_iff_getElem.1 hg
    have hi' : i < es.size := by omega
    obtain ⟨k1, _⟩ := h3 i es[i] g (Array.getElem?_eq_getElem hi') (by rw [List.getElem?_eq_getElem hi, e2])
    exact f2 es[i] (by simp) (by rw [k1, e1])
  · have f2' : es[j]? = some e := by simpa using f2
    have hj : j < es.size := (Array.getElem?_eq_some_iff.1 f2').1
    have hG : j < G.length := by omega
    obtain ⟨k1, _⟩ := h3 j e G[j] f2' (List.getElem?_eq_getElem hG)
    have e3 : G[j].1 = p := by
      rw [k1] at f3
      injection f3 with f3
      exact pS.v_inj f3
    refine .inr ⟨j, e, G[j].2, f1, f2', ?_, f3⟩
    rw [List.getElem?_eq_getElem hG, ← e3]
/-- What stands at a prefix. -/
theorem GrpAt.look (h : GrpAt base w b G) (p : D.Px) : ∃ A n c, (Instr.lookup 64 (.map (some b)) (.agg (pS.v p)) false).run Tryz.prog w = .ok (.slice A n c) w ∧ kS.Own base 33 w A n c (D.memg G p) := by
  obtain ⟨es0, g1, g2, g3, g4⟩ := h.out
  obtain ⟨es, h1, h2, h3⟩ := h.find p
  rw [g1] at h1
  injection h1 with h1
  injection h1 with h1
  subst h1
  obtain ⟨lp, hp⟩ := key_p p
  rcases h3 with ⟨f1, f2⟩ | ⟨j, e, m, f1, f2, f3, f4⟩
  · refine ⟨none, 0, 0, ?_, ?_⟩
    · simp [Instr.lookup, run_underlying Tryz.underlying64, MapKept.run_getObj_map g1, law_pk.check w _ hp, f1, zero_keys, Result.andThen]
    · rw [D.memg_new f2]
      exact Shp.Own.nil h.bas
  · obtain ⟨_, _, A, n, c, k3, k4⟩ := g3 j e _ f2 f3
    refine ⟨A, n, c, ?_, ?_⟩
    · simp [Instr.lookup, run_underlying Tryz.underlying64, MapKept.run_getObj_map g1, law_pk.check w _ hp, f1, k3, Result.andThen]
    · rw [D.memg_old h.nod f3]
      exact k4
theorem set_grown {w : World} {b : Nat} {es : Array MapEntry} {clock : Nat} (hb : w.heap[b]? = some (.map es clock)) (o : Obj) : w.grownBy (setBlock w b o) (some b) :=
  ⟨rfl, rfl, rfl, by simp [setBlock], fun k _ hk => Go.ChangeMaps.heap_setBlock_other hb o (fun e => hk (by rw [e]))⟩
theorem own_grown {base e n c : Nat} {w w' : World} {A : Option Addr} {l : List D.Ky} {row : Option Nat} (h : kS.Own base e w A n c l) (hg : w.grownBy w' row) (hr : (Value.slice A n c).ownBlock = none ∨ (Value.slice A n c).ownBlock ≠ row) : kS.Own base e w' A n c l :=
  h.kept hg.size fun g e' => hg.block g (h.lt g e').2 (by rcases hr with hr | hr <;> rw [e'] at hr <;> first | cases hr | exact hr)
theorem own_off {base e n c b : Nat} {w : World} {A : Option Addr} {l : List D.Ky} (h : kS.Own base e w A n c l) (hb : b < base) : (Value.slice A n c).ownBlock = none ∨ (Value.slice A n c).ownBlock ≠ some b := by
  cases e' : (Value.slice A n c).ownBlock with
  | none => exact .inl rfl
  | some g =>
    right
    intro e2
    injection e2 with e2
    have := (h.lt g e').1
    omega
/-- The entry of a prefix, laid if it was not there. -/
theorem GrpAt.entry (h : GrpAt base w b G) (p : D.Px) : ∃ (j : Nat) (es1 : Array MapEntry) (G1 : List (D.Px × List D.Ky)) (A : Option Addr) (n c : Nat) (e : MapEntry),
    (Instr.mapEntry 64 (.map (some b)) (.agg (pS.v p))).run Tryz.prog w = .ok (.tuple #[.slice A n c, goInt j]) (setBlock w b (.map es1 es1.size)) ∧
    GrpAt base (setBlock w b (.map es1 es1.size)) b G1 ∧ es1[j]? = some e ∧ e.val = .slice A n c ∧ G1[j]? = some (p, D.memg G p) ∧ (∀ k, D.addg G p k = G1.set j (p, D.memg G p ++ [k])) := by
  obtain ⟨es0, g1, g2, g3, g4⟩ := h.out
  obtain ⟨es, h1, h2, h3⟩ := h.find p
  rw [g1] at h1
  injection h1 with h1
  injection h1 with h1
  subst h1
  obtain ⟨lp, hp⟩ := key_p p
  rcases h3 with ⟨f1, f2⟩ | ⟨j, e, m, f1, f2, f3, f4⟩
  · refine ⟨es0.size, es0.push ⟨.agg (pS.v p), .slice none 0 0, es0.size⟩, G ++ [(p, [])], none, 0, 0, ⟨.agg (pS.v p), .slice none 0 0, es0.size⟩, ?_, ⟨?_, ?_, h.low, _, Go.ChangeMaps.heap_setBlock_same g1 _, ?_, ?_, ?_⟩, by simp, rfl, ?_, ?_⟩
    · simp [Instr.mapEntry, run_underlying Tryz.underlying64, MapKept.run_getObj_map g1, law_pk.check w _ hp, f1, zero_keys, MapKept.run_setObj_map _ g1, Result.andThen, setBlock]
    · rw [List.map_append, List.nodup_append]
      refine ⟨h.nod, by simp, fun a ha c hc e => ?_⟩
      obtain ⟨g, hg, rfl⟩ := List.mem_map.1 ha
      simp at hc
      exact f2 g hg (e.trans hc)
    · simpa [setBlock] using h.bas
    · simp [g2]
    · intro i e g he hg
      rw [Array.getElem?_push] at he
      split at he
      · rename_i hi
        injection he with he
        subst he
        rw [List.getElem?_append_right (by omega), hi, g2] at hg
        simp at hg
        subst hg
        exact ⟨rfl, hi.symm, none, 0, 0, rfl, Shp.Own.nil (by simpa [setBlock] using h.bas)⟩
      · have hi : i < es0.size := (Array.getElem?_eq_some_iff.1 he).1
        rw [List.getElem?_append_left (by omega)] at hg
        obtain ⟨k1, k2, A, n, c, k3, k4⟩ := g3 i e g he hg
        exact ⟨k1, k2, A, n, c, k3, own_grown k4 (set_grown g1 _) (own_off k4 h.low)⟩
    · intro i j e f he hf hij
      rw [Array.getElem?_push] at he hf
      split at he
      · injection he with he
        subst he
        exact .inl rfl
      · split at hf
        · injection hf with hf
          subst hf
          cases e.val.ownBlock with
          | none => exact .inl rfl
          | some g => exact .inr (by intro e'; cases e')
        · exact g4 i j e f he hf hij
    · rw [List.getElem?_append_right (by omega), g2, D.memg_new f2]
      simp
    · intro k
      rw [D.addg_new k f2, D.memg_new f2, g2, List.set_append_right _ _ (by omega)]
      simp
  · have hsame : es0.modify j (fun x => { x with key := .agg (pS.v p) }) = es0 := by
      apply Array.ext'
      have f2' : es0.toList[j]? = some e := by simpa using f2
      rw [Array.toList_modify, modify_eq_set _ _ _ _ f2', ← f4]
      exact set_self _ _ _ f2'
    obtain ⟨k1, k2, A, n, c, k3, k4⟩ := g3 j e _ f2 f3
    have hset : setBlock w b (.map es0 es0.size) = w := by
      have : w.heap.setIfInBounds b (.map es0 es0.size) = w.heap := by
        apply Array.ext_getElem?
        intro i
        rw [Array.getElem?_setIfInBounds]
        split
        · rename_i e'
          subst e'
          rw [g1]
          simp [h.lt]
        · rfl
      simp [setBlock, this]
    refine ⟨j, es0, G, A, n, c, e, ?_, by rw [hset]; exact h, f2, k3, ?_, fun k => ?_⟩
    · simp [Instr.mapEntry, run_underlying Tryz.underlying64, MapKept.run_getObj_map g1, law_pk.check w _ hp, f1, f2, f4, law_pk.stays w hp, hsame, MapKept.run_setObj_map _ g1, Result.andThen, setBlock, k3, k2]
    · rw [D.memg_old h.nod f3]
      exact f3
    · rw [D.addg_old k h.nod f3, D.memg_old h.nod f3]
/-- What was appended, stored. -/
theorem GrpAt.store {j : Nat} {e : MapEntry} {es1 : Array MapEntry} {p : D.Px} {m : List D.Ky} {w1 w2 : World} {A A' : Option Addr} {n c n' c' : Nat} {G1 : List (D.Px × List D.Ky)} (h : GrpAt base w1 b G1) (hes : w1.heap[b]? = some (.map es1 es1.size)) (hj : es1[j]? = some e) (hv : e.val = .slice A n c) (hG : G1[j]? = some (p, m)) {m' : List D.Ky}
    (hg : w1.grownBy w2 (Value.slice A n c).ownBlock) (ho : kS.Own base 33 w2 A' n' c' m') (hn : (Value.slice A' n' c').ownBlock = (Value.slice A n c).ownBlock ∨ (Value.slice A' n' c').ownBlock = some w1.heap.size) :
    ∃ w3, (Instr.entryStore 64 (.map (some b)) (goInt j) (.slice A' n' c')).run Tryz.prog w2 = .ok () w3 ∧ GrpAt base w3 b (G1.set j (p, m')) ∧ w2.grownBy w3 (some b) := by
  obtain ⟨es0, g1, g2, g3, g4⟩ := h.out
  rw [hes] at g1
  injection g1 with g1
  injection g1 with g1
  subst g1
  obtain ⟨hjl, hje⟩ := Array.getElem?_eq_some_iff.1 hj
  obtain ⟨_, hborn, A0, n0, c0, hv0, ho0⟩ := g3 j e _ hj hG
  rw [hv] at hv0
  injection hv0 with hA hn0 hc0
  subst hA; subst hn0; subst hc0
  have hb2 : w2.heap[b]? = some (.map es1 es1.size) := by
    rw [hg.block b h.lt, hes]
    intro e'
    rcases own_off ho0 h.low with x | x
    · rw [x] at e'; cases e'
    · exact x e'.symm
  have hfind : es1.findIdx? (fun x => (x.born : Int) == (j : Int)) = some j := by
    rw [Array.findIdx?_eq_some_iff_getElem]
    refine ⟨hjl, ?_, fun i hi => ?_⟩
    · rw [hje, hborn]
      simp
    · have hil : i < es1.size := by omega
      obtain ⟨_, hb', _⟩ := g3 i es1[i] G1[i] (Array.getElem?_eq_getElem hil) (List.getElem?_eq_getElem (by omega))
      rw [hb']
      simp
      omega
  obtain ⟨es2, he2⟩ : ∃ es2, es1.modify j (fun x => { x with val := .slice A' n' c' }) = es2 := ⟨_, rfl⟩
  have hs2 : es2.size = es1.size := by rw [← he2, Array.size_modify]
  have hget : ∀ i, es2[i]? = if j = i then es1[i]?.map (fun x => { x with val := .slice A' n' c' }) else es1[i]? := fun i => by
    rw [← he2, Array.getElem?_modify]
  refine ⟨setBlock w2 b (.map es2 es1.size), ?_, ⟨?_, ?_, h.low, es2, ?_, ?_, ?_, ?_⟩, set_grown hb2 _⟩
  · simp [Instr.entryStore, MapKept.run_getObj_map hb2, goInt, asInt, asIntOf, hfind, MapKept.run_setObj_map _ hb2, Result.andThen, setBlock, he2]
  · rw [List.map_set]
    have : (G1.map Prod.fst).set j p = G1.map Prod.fst := set_self _ _ _ (by rw [List.getElem?_map, hG]; rfl)
    rw [this]
    exact h.nod
  · have := Nat.le_trans h.bas hg.size
    simpa [setBlock] using this
  · rw [hs2]
    exact Go.ChangeMaps.heap_setBlock_same hb2 _
  · rw [hs2, g2, List.length_set]
  · intro i x g hx hgi
    rw [hget] at hx
    by_cases hij : j = i
    · subst hij
      rw [if_pos rfl, hj] at hx
      injection hx with hx
      subst hx
      rw [List.getElem?_set_self (by omega)] at hgi
      injection hgi with hgi
      subst hgi
      exact ⟨(g3 j e _ hj hG).1, hborn, A', n', c', rfl, own_grown ho (set_grown hb2 _) (own_off ho h.low)⟩
    · rw [if_neg hij] at hx
      rw [List.getElem?_set_ne hij] at hgi
      obtain ⟨k1, k2, B, nb, cb, k3, k4⟩ := g3 i x g hx hgi
      refine ⟨k1, k2, B, nb, cb, k3, own_grown (own_grown k4 hg ?_) (set_grown hb2 _) (own_off k4 h.low)⟩
      have := g4 i j x e hx hj (fun e' => hij e'.symm)
      rw [k3, hv] at this
      exact this
  · have key : ∀ (i : Nat) x, es1[i]? = some x → i ≠ j → x.val.ownBlock = none ∨ x.val.ownBlock ≠ (Value.slice A' n' c').ownBlock := by
      intro i x hx hij
      have hil : i < G1.length := by
        have := (Array.getElem?_eq_some_iff.1 hx).1
        omega
      obtain ⟨k1, k2, B, nb, cb, k3, k4⟩ := g3 i x G1[i] hx (List.getElem?_eq_getElem hil)
      rcases hn with hn | hn
      · rw [hn]
        have := g4 i j x e hx hj hij
        rw [hv] at this
        exact this
      · rw [hn, k3]
        cases e' : (Value.slice B nb cb).ownBlock with
        | none => exact .inl rfl
        | some g =>
          right
          intro e2
          injection e2 with e2
          have := (k4.lt g e').2
          omega
    intro i k x f hx hf hik
    rw [hget] at hx hf
    by_cases hij : j = i
    · subst hij
      rw [if_pos rfl, hj] at hx
      injection hx with hx
      rw [if_neg hik] at hf
      have := key k f hf (fun e' => hik e'.symm)
      rw [← hx]
      rcases this with this | this
      · cases e' : (Value.slice A' n' c').ownBlock with
        | none => exact .inl rfl
        | some g => right; rw [this]; intro e2; cases e2
      · cases e' : (Value.slice A' n' c').ownBlock with
        | none => exact .inl rfl
        | some g => right; rw [e'] at this; exact fun e2 => this e2.symm
    · rw [if_neg hij] at hx
      by_cases hkj : j = k
      · subst hkj
        rw [if_pos rfl, hj] at hf
        injection hf with hf
        rw [← hf]
        exact key i x hx hik
      · rw [if_neg hkj] at hf
        exact g4 i k x f hx hf hik
end
end Go.Proofs.YtjblepjkejihcaaGreatDoor
