/-
  Two trees of a call's own, side by side.
-/
import Derived.Test.YtphbjkcplpfogaaCkm
set_option linter.unusedVariables false
set_option linter.unusedSimpArgs false
set_option maxRecDepth 100000
namespace Go.Proofs.Ytphbjkcplpfogaa
open Go.RowKit
theorem TC.ov {w W : World} {g : Nat} {o : Option Tk} {n0 : Nat} {X : List Nat} (h : TC w g o) (hO : Ov n0 X w W) (hg : ∀ q ∈ g :: blo o, q < n0 ∧ q ∉ X) : TC W g o :=
  TC.of (h.tr.ov hO hg) ⟨(hO.block g (hg g (List.mem_cons_self ..)).1 (hg g (List.mem_cons_self ..)).2).trans h.blk.out⟩
theorem TC.all_lt {w : World} {g : Nat} {o : Option Tk} (h : TC w g o) : ∀ q ∈ g :: blo o, q < w.heap.size := h.tr.all_lt
/-- Two trees that lie apart, behind a bound. -/
structure Two (base : Nat) (w0 w : World) (a : Nat) (oa : Option Tk) (b : Nat) (ob : Option Tk) : Prop where
  ta : TC w a oa
  tb : TC w b ob
  la : ∀ q ∈ a :: blo oa, base ≤ q
  lb : ∀ q ∈ b :: blo ob, base ≤ q
  dis : ∀ q ∈ a :: blo oa, q ∉ b :: blo ob
  bel : Below base w0 w
theorem Two.swap {base : Nat} {w0 w : World} {a b : Nat} {oa ob : Option Tk} (h : Two base w0 w a oa b ob) : Two base w0 w b ob a oa := ⟨h.tb, h.ta, h.lb, h.la, fun q h1 h2 => h.dis q h2 h1, h.bel⟩
theorem Two.on {base : Nat} {w0 w w' : World} {a b : Nat} {oa ob : Option Tk} (h : Two base w0 w a oa b ob) (hb : Below w.heap.size w w') (hz : base ≤ w.heap.size) : Two base w0 w' a oa b ob := ⟨h.ta.on hb, h.tb.on hb, h.la, h.lb, h.dis, below_up h.bel hz hb⟩
theorem Two.sz {base : Nat} {w0 w : World} {a b : Nat} {oa ob : Option Tk} (h : Two base w0 w a oa b ob) : base ≤ w.heap.size := Nat.le_of_lt (Nat.lt_of_le_of_lt (h.la a (List.mem_cons_self ..)) h.ta.tr.lt)
/-- The first of them changes. -/
theorem Two.step {base : Nat} {w0 w w' : World} {a b : Nat} {oa ob oa' : Option Tk} (h : Two base w0 w a oa b ob) (hT : TC w' a oa') (hO : Ov w.heap.size (a :: blo oa) w w') (hold : ∀ q ∈ blo oa', q ∈ blo oa ∨ w.heap.size ≤ q) : Two base w0 w' a oa' b ob := by
  have hz := h.sz
  have hnew : ∀ q ∈ a :: blo oa', q ∈ a :: blo oa ∨ w.heap.size ≤ q := fun q hq => by
    rcases List.mem_cons.1 hq with rfl | hq
    · exact .inl (List.mem_cons_self ..)
    · exact (hold q hq).imp (List.mem_cons_of_mem _) id
  refine ⟨hT, h.tb.ov hO (fun q hq => ⟨h.tb.all_lt q hq, fun c => h.dis q c hq⟩), fun q hq => (hnew q hq).elim (h.la q) (Nat.le_trans hz), h.lb, fun q hq hq2 => (hnew q hq).elim (fun c => h.dis q c hq2) (fun c => absurd (h.tb.all_lt q hq2) (by omega)), ?_⟩
  exact h.bel.trans (hO.below hz h.la)
theorem Two.put {base : Nat} {w0 w w' : World} {a b : Nat} {oa ob oa' : Option Tk} {k : D.Ky} {v : Int} (h : Two base w0 w a oa b ob) (hP : PutC w a oa k v w' oa') : Two base w0 w' a oa' b ob := h.step hP.tc hP.ov hP.old
theorem Two.del {base : Nat} {w0 w w' : World} {a b : Nat} {oa ob oa' : Option Tk} {l : List Lf} (h : Two base w0 w a oa b ob) (hP : DelC w a oa w' oa' l) : Two base w0 w' a oa' b ob := h.step hP.tc hP.ov (fun q hq => .inl (hP.old q hq))
/-- Nothing but a tree's blocks changes, so a row of before is as it was. -/
theorem Two.row {α : Type} {S : Shp α} {base : Nat} {w0 w : World} {a b : Nat} {oa ob : Option Tk} {A : Option Addr} {n : Nat} {l : List α} (h : Two base w0 w a oa b ob) (hr : Shp.Row S w0 A n l) (hb : w0.heap.size ≤ base) : Shp.Row S w A n l :=
  hr.on ⟨h.bel.os, h.bel.tape, h.bel.output, h.bel.size, fun q hq => h.bel.block q (Nat.lt_of_lt_of_le hq hb)⟩
theorem len_pts {o : Option Tk} {v : Int} {ks : List D.Ky} {l : List Lf} (hl : Cr.Up l) (e : Cr.Tr.lso o = pts ks v l) : (Cr.Tr.lso o).length ≤ l.length + ks.length := by rw [e]; exact pts_len v ks l hl
/-- Two new trees. -/
theorem two_new {w0 w1 w2 : World} (h1 : TC w1 w0.heap.size none) (b1 : Below w0.heap.size w0 w1) (h2 : TC w2 w1.heap.size none) (b2 : Below w1.heap.size w1 w2) : Two w0.heap.size w0 w2 w0.heap.size none w1.heap.size none := by
  have hlt := h1.tr.lt
  refine ⟨h1.on b2, h2, fun q hq => by simp [blo] at hq; omega, fun q hq => by simp [blo] at hq; omega, fun q hq hq2 => by simp [blo] at hq hq2; omega, below_up b1 b1.size b2⟩
theorem take_succ_keys {l : List D.Ky} {j : Nat} {k : D.Ky} (h : l[j]? = some k) : l.take (j + 1) = l.take j ++ [k] := by
  rw [List.take_add_one, h]; rfl
end Go.Proofs.Ytphbjkcplpfogaa
