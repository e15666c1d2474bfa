/-
  The library's sort at a row of names that the call made.
-/
import Derived.Test.YtgfpdfafkimkcaaLay
import Derived.Test.YtgfpdfafkimkcaaAdd
set_option linter.unusedVariables false
set_option linter.unusedSimpArgs false
namespace Go.Proofs.Ytgfpdfafkimkcaa
open Go.RowKit Go.Sort

instance : Inhabited D.Nm := ⟨D.zero⟩
def cfN (x y : D.Nm) : Int := D.cmp x.l y.l
def encN (x : D.Nm) : List Value := bys x.l
theorem encN_len (x : D.Nm) : (encN x).length = 12 := by rw [encN, bys_len, x.len]
theorem ltN (x y : D.Nm) : ltOf cfN x y = D.less x y := by
  unfold ltOf cfN D.less
  rcases D.cmp_in x.l y.l with h | h | h <;> rw [h] <;> decide
theorem swoN : SWO (ltOf cfN) where
  irrefl x := by rw [ltN]; exact D.less_irrefl x
  trans x y z := by rw [ltN, ltN, ltN]; exact D.less_trans
  ntrans x y z := by rw [ltN, ltN, ltN]; exact D.less_ntrans
theorem totN (x y : D.Nm) : ltOf cfN x y = false → ltOf cfN y x = false → x = y := by
  rw [ltN, ltN]; exact D.less_tot
theorem flat_get (l : List D.Nm) (j : Nat) (h : j < l.length * 12) : (ncs l)[j]? = some ((flatK encN 12 l.toArray)[j]!) := by
  rw [get_flatK _ _ _ _ (by simpa using h)]
  have hl : j / 12 < l.length := by omega
  have e : (l.toArray)[j / 12]! = l[j / 12] := by
    rw [getElem!_pos _ _ (by simpa using hl)]
    simp
  rw [e]
  have hx : l[j / 12]? = some l[j / 12] := List.getElem?_eq_getElem hl
  obtain ⟨x, hxx⟩ : ∃ x, l[j / 12] = x := ⟨_, rfl⟩
  rw [hxx] at hx ⊢
  have hb : j % 12 < (bys x.l).length := by rw [bys_len, x.len]; omega
  have := ncs_at hx (j % 12) _ (List.getElem?_eq_getElem hb)
  rw [show j / 12 * 12 + j % 12 = j by omega] at this
  rw [this]
  simp [encN, hb]
theorem holds_names {w : World} {g : Nat} {cur : Array Value} {e : TypeId} {l : List D.Nm} (hb : w.heap[g]? = some (.cells cur e (0, 0))) (ht : cur.toList.take (l.length * 12) = ncs l) : HoldsK encN 12 w g 0 l.toArray := by
  intro j hj
  have hj' : j < l.length * 12 := by simpa using hj
  refine ⟨?_, by simp [World.frozen?, hb]⟩
  have h1 := flat_get l j hj'
  rw [← ht, List.getElem?_take_of_lt hj'] at h1
  simp only [World.cell?, hb, Nat.zero_add]
  simp only [Option.isSome_none, Bool.false_eq_true, if_false]
  rw [← Array.getElem?_toList, h1]
  rfl
theorem heap_names {w : World} {g n : Nat} {os : Array Obj} {cur : Array Value} {e : TypeId} {fr : Nat × Nat} (d : Array Value) (hb : w.heap[g]? = some (.cells cur e fr)) :
    (grow (putRow id (Sort.ahead w n) g 0 d) os).heap[g]? = some (.cells (putCells id 0 d cur) e fr) := by
  have hg : g < w.heap.size := (Array.getElem?_eq_some_iff.1 hb).1
  rw [heap_grow_old _ _ (by simpa using hg)]
  simp [putRow, mapBlock, Sort.ahead, Array.getElem?_modify, hb, onCells]
theorem grown_names {w : World} {g n : Nat} {os : Array Obj} (d : Array Value) : w.grownBy (grow (putRow id (Sort.ahead w n) g 0 d) os) (some g) := by
  refine ⟨rfl, rfl, rfl, by simp, fun k hk hne => ?_⟩
  rw [heap_grow_old _ _ (by simpa using hk)]
  have : g ≠ k := fun e => hne (by rw [e])
  simp [putRow, mapBlock, Sort.ahead, Array.getElem?_modify, this]
theorem take_names (cur : Array Value) (l : List D.Nm) (h : l.length * 12 ≤ cur.size) : (putCells id 0 (flatK encN 12 l.toArray) cur).toList.take (l.length * 12) = ncs l := by
  apply List.ext_getElem?
  intro j
  by_cases hj : j < l.length * 12
  · rw [List.getElem?_take_of_lt hj, Array.getElem?_toList, flat_get l j hj]
    simp [putCells, hj, show j < cur.size by omega]
  · rw [List.getElem?_take_eq_none (by omega), List.getElem?_eq_none (by rw [ncs_len]; omega)]

theorem sort_srt (l : List D.Nm) : D.Srt (l.mergeSort fun x y => !(ltOf cfN) y x) := by
  have h := List.pairwise_mergeSort (le := fun x y => !(ltOf cfN) y x) (fun a b c h1 h2 => by
    simp only [Bool.not_eq_true', ltN] at h1 h2 ⊢
    exact D.less_ntrans h2 h1) (fun a b => by
    simp only [ltN]
    cases h : D.less b a
    · rfl
    · rw [D.less_not h]; rfl) l
  exact h.imp fun {a b} h => by
    simpa [ltN] using h

set_option maxHeartbeats 1000000 in
/-- A row of the call's own, sorted: the same block holds the sorted names. -/
theorem sort_any {base e n c : Nat} {A : Option Addr} {l : List D.Nm} {w : World} (h : NOwn base e w A n c l) (hn : n ≤ 1000000) :
    Calls Try.prog 32 #[.slice A n c, .func (.func 31) #[] #[]] w fun e' w' => e' = .returned (.tuple #[]) ∧ ∃ l', D.Srt l' ∧ l'.Perm l ∧ NOwn base e w' A n c l' ∧ w.grownBy w' (Value.slice A n c).ownBlock := by
  rcases Nat.eq_zero_or_pos n with rfl | hpos
  · have hl : l = [] := List.eq_nil_of_length_eq_zero h.len
    subst hl
    have hS := AnyF.slices_SortFunc_none (P := Try.prog) (ρ := sortN_ren) { sortN with } A c (.func (.func 31) #[] #[]) w
    change Calls Try.prog 32 _ _ _ at hS
    refine hS.mono ?_
    rintro e' w' ⟨rfl, rfl⟩
    exact ⟨rfl, [], List.Pairwise.nil, .refl _, h, World.grownBy.refl _ _⟩
  · have hlen := h.len
    rcases h.row.2 with ⟨_, h0⟩ | ⟨g, cap, cur, hv, hbase, hb, h1, h2, h3, h4⟩
    · omega
    · injection hv with hA hn' hc
      subst hA
      subst hc
      have hg : g < w.heap.size := (Array.getElem?_eq_some_iff.1 hb).1
      rw [← hlen] at h4
      have hH := holds_names hb h4
      have eg : ∀ args w, (callFunc 31 args).run Try.prog w = .ok (.enter 31 args) w := enters_of Try.func31 (by kernel_rfl) rfl
      have hcmp : CmpLays Try.prog 31 #[] encN 12 cfN g 0 l.toArray.size w := fun _ _ _ _ x y => compare_any x y _
      have hcon := AnyQ.slices_SortFunc_total sortN 12 Try.isAgg23 Try.sizeOf23 encN encN_len (fun x => bys_one x.l) cfN swoN 31 #[] g 0 c l.toArray w eg hcmp hH hg (by simp; omega) totN
      change Calls Try.prog 32 _ _ _ at hcon
      rw [show l.toArray.size = n by simpa using hlen] at hcon
      refine hcon.mono ?_
      rintro e' w' ⟨rfl, m, os, rfl⟩
      obtain ⟨l', hl'⟩ : ∃ l', (l.mergeSort fun x y => !(ltOf cfN) y x) = l' := ⟨_, rfl⟩
      have hp : l'.Perm l := by rw [← hl']; exact List.mergeSort_perm _ _
      have hsz : l'.length = l.length := hp.length_eq
      refine ⟨rfl, l', by rw [← hl']; exact sort_srt l, hp, ?_, ?_⟩
      · change NOwn base e (sortWorldK encN 12 w g 0 m (l.mergeSort fun x y => !(ltOf cfN) y x).toArray os) _ _ _ _
        rw [hl']
        exact ⟨⟨by rw [ncs_len, hsz, hlen], .inr ⟨g, c, _, rfl, hbase, heap_names _ hb, h1, h2, by simp [putCells, h3], by rw [← hlen, ← hsz]; exact take_names cur l' (by omega)⟩⟩, Nat.le_trans h.base (by simp [sortWorldK, putRowK])⟩
      · exact grown_names _
end Go.Proofs.Ytgfpdfafkimkcaa
