/-
  The bytes of fields, as the document's answer makes them.
-/
import Derived.Test.YtcnbdfobhablbaaWords
import Derived.Laws.IdiomStrings
set_option linter.unusedVariables false
set_option maxRecDepth 100000
set_option linter.unusedSimpArgs false
namespace Go.Proofs.Ytcnbdfobhablbaa
open Go.RowKit
attribute [local go_sem ↓] Go.wp_at_zero Go.wp_at_succ

theorem row_of_text (w : World) (s : ByteArray) (cap : Nat) (t : TypeId) (fr : Nat × Nat) : Row (w.alloc (.cells (bytesRow s cap) t fr)) (some ⟨w.heap.size, 0, none⟩) s.size (bys (D.ns s)) :=
  ⟨by rw [bys_len, D.ns_len], fun _ => ⟨_, rfl, by simp, fun j u hu => by
    have hj : j < s.data.size := by
      have := (List.getElem?_eq_some_iff.1 hu).1
      rw [bys_len, D.ns_len] at this
      exact this
    rw [World.news_of_block (heap_alloc_new w _) j u]
    rw [Array.getElem?_toList, bytesRow_at s cap j hj]
    simp [bys, D.ns] at hu
    obtain ⟨a, ha, rfl⟩ := hu
    have : s.data[j]? = some s.data[j] := Array.getElem?_eq_getElem hj
    rw [this] at ha
    injection ha with ha
    rw [ha]⟩⟩
theorem own_base {b1 b2 n c : Nat} {w : World} {A : Option Addr} {l : List Nat} (h : Own b1 w A n c l) (hb : b2 ≤ b1) : Own b2 w A n c l := by
  refine ⟨⟨h.row.1, ?_⟩, Nat.le_trans hb h.base⟩
  rcases h.row.2 with hz | ⟨g, cap, cur, e, hg, r⟩
  · exact .inl hz
  · exact .inr ⟨g, cap, cur, e, Nat.le_trans hb hg, r⟩

theorem keep_da {w : World} {o : Obj} {p : Addr} {v : Value} (hc : w.cell? p = some v) : (w.alloc o).drew.cell? p = some v := (World.cell?_alloc_lt w o p (World.block_lt_of_cell? w p hc)).trans hc
theorem keep_dda {w : World} {o : Obj} {p : Addr} {v : Value} (hc : w.cell? p = some v) : (w.alloc o).drew.drew.cell? p = some v := keep_da hc
theorem keep_own {w0 w w' : World} {n c : Nat} {A : Option Addr} {l : List Nat} {p : Addr} {v u : Value} {b : Nat} (ho : Own b w A n c l) (hb : w0.heap.size ≤ b) (hg : w.grownBy w' (Value.slice A n c).ownBlock) (hc0 : w0.cell? p = some u) (hc : w.cell? p = some v) : w'.cell? p = some v := by
  have h1 := World.block_lt_of_cell? w0 p hc0
  refine (hg.cell_far p (World.block_lt_of_cell? w p hc) fun e => ?_).trans hc
  have := ho.block_le _ e.symm
  omega
section
variable {P : Program} {ops : Array Oper} {Q : Exit → Act → World → Prop} {md : Region.Mode} {S : World → Prop}
/-- Number i only computes, or reads what S tells. -/
theorem takeS (i : Nat) (d : Option Tmp) (v : Value) {fuel : Nat} {listed : Array Bool} {a : Act} {w : World} (hd : (ops[i]?).map (·.dst) = some d)
    (hs : Region.noSelect ops = true) (hf : Region.free md ops listed i = true) (hr : (Region.ready md ops listed).contains i = true)
    (hQ : ∀ c a w, Q (.panic c) (a.put d v) w → Q (.panic c) a w) (hw : (ops[i]?).map (fun o => Region.wanted o (yielded ops a.tmps)) = some true)
    (hy : ∀ o, ops[i]? = some o → ∀ w, S w → (execOp a.eval o).run P w = .ok (.value v) w) (hS : S w)
    (h : wpAnyH P md ops Q S fuel (listed.setIfInBounds i true) (a.put d v) w) : wpAnyH P md ops Q S (fuel + 1) listed a w := by
  cases ho : ops[i]? with
  | none => rw [ho] at hd; cases hd
  | some o =>
    rw [ho] at hd hw
    simp only [Option.map_some, Option.some.injEq] at hd hw
    subst hd
    exact wpAnyH_take ho hs hf hr hQ (.inl ⟨hw, fun w hS => hy o ho w hS⟩) hS h
/-- Number i is the only one that may come up. -/
theorem nextS (i : Nat) {fuel : Nat} {listed : Array Bool} {a : Act} {w : World} (hr : Region.ready md ops listed = [i])
    (hw : (ops[i]?).map (fun o => Region.wanted o (yielded ops a.tmps)) = some true)
    (h : ∀ o, ops[i]? = some o → ∀ K : Act → World → Prop, Shut (∀ a w, S w → (S w → wpAnyH P md ops Q S fuel (listed.setIfInBounds i true) a w) → K a w) → Oper.wp P o a w K Q) : wpAnyH P md ops Q S (fuel + 1) listed a w := by
  cases ho : ops[i]? with
  | none => rw [ho] at hw; cases hw
  | some o =>
    rw [ho] at hw
    simp only [Option.map_some, Option.some.injEq] at hw
    refine wpAnyH_ready hr (by simp) (AllReadyH.cons ho (fun K hK => ?_) AllReadyH.nil)
    rw [if_pos hw]
    exact h o ho K hK
/-- Two may come up. -/
theorem forkS (i j : Nat) {fuel : Nat} {listed : Array Bool} {a : Act} {w : World} (hr : Region.ready md ops listed = [i, j])
    (hwi : (ops[i]?).map (fun o => Region.wanted o (yielded ops a.tmps)) = some true) (hwj : (ops[j]?).map (fun o => Region.wanted o (yielded ops a.tmps)) = some true)
    (hi : ∀ o, ops[i]? = some o → ∀ K : Act → World → Prop, Shut (∀ a w, S w → (S w → wpAnyH P md ops Q S fuel (listed.setIfInBounds i true) a w) → K a w) → Oper.wp P o a w K Q)
    (hj : ∀ o, ops[j]? = some o → ∀ K : Act → World → Prop, Shut (∀ a w, S w → (S w → wpAnyH P md ops Q S fuel (listed.setIfInBounds j true) a w) → K a w) → Oper.wp P o a w K Q) : wpAnyH P md ops Q S (fuel + 1) listed a w := by
  cases ho : ops[i]? with
  | none => rw [ho] at hwi; cases hwi
  | some o =>
    cases hp : ops[j]? with
    | none => rw [hp] at hwj; cases hwj
    | some p =>
      rw [ho] at hwi
      rw [hp] at hwj
      simp only [Option.map_some, Option.some.injEq] at hwi hwj
      refine wpAnyH_ready hr (by simp) (AllReadyH.cons ho (fun K hK => ?_) (AllReadyH.cons hp (fun K hK => ?_) AllReadyH.nil))
      · rw [if_pos hwi]
        exact hi o ho K hK
      · rw [if_pos hwj]
        exact hj p hp K hK
end
theorem fin_grown {w w2 wx : World} {b n c : Nat} {A : Option Addr} {l : List Nat} (h : Below w.heap.size w wx) (ho : Own b wx A n c l) (hb : w.heap.size ≤ b) (hg : wx.grownBy w2 (Value.slice A n c).ownBlock) : Below w.heap.size w w2 :=
  h.grown hg h.size fun k hk => Nat.le_trans hb (ho.block_le k hk)
theorem below_alloc_ (w : World) (o : Obj) : Below w.heap.size w (w.alloc o) := (Below.refl _ _).alloc (Nat.le_refl _) o
end Go.Proofs.Ytcnbdfobhablbaa
