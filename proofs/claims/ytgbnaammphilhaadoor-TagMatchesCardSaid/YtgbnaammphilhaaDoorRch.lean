/-
  The document's Chain.
-/
import Derived.Test.YtgbnaammphilhaaDoorPrw
set_option linter.unusedVariables false
set_option linter.unusedSimpArgs false
namespace Go.Proofs.YtgbnaammphilhaaDoor
open Go.RowKit
attribute [local go_sem ↓] Go.wp_at_zero Go.wp_at_succ

def Rch (p : D.Pt) (L : List D.Pt) (w : World) (e : Ending) (w' : World) : Prop := ∃ A c, e = .returned (.slice A L.length c) ∧ FOwn (w.heap.size + 1) w' A L.length c L ∧ Below w.heap.size w w'
theorem blk_grown {w w' : World} {g base n c : Nat} {t : TypeId} {cs : Array Value} {A : Option Addr} {l : List D.Pt} (h : Blk w g t cs) (hg : w.grownBy w' (Value.slice A n c).ownBlock) (ho : FOwn base w A n c l) (hb : g < base) : Blk w' g t cs :=
  h.grown hg (fun e => by have := ho.block_le _ e.symm; omega)
theorem below_own {w0 w w' : World} {B base n c : Nat} {A : Option Addr} {l : List D.Pt} (h : Below B w0 w) (hB : B ≤ w.heap.size) (hg : w.grownBy w' (Value.slice A n c).ownBlock) (ho : FOwn base w A n c l) (hb : B ≤ base) : Below B w0 w' :=
  h.grown hg hB (fun k e => Nat.le_trans hb (ho.block_le k e))
set_option maxRecDepth 100000 in
set_option maxHeartbeats 2000000 in
theorem rch_000 (l s r : List Nat) (w : World) : Calls Tryd.prog 20 #[av ⟨[], [], []⟩] w (Rch ⟨[], [], []⟩ [⟨[], [], []⟩] w) := by
  have hav : av ⟨[], [], []⟩ = .agg #[.string ⟨#[]⟩, .string ⟨#[]⟩, .string ⟨#[]⟩] := by unfold av; rfl
  rw [hav]
  have B1 := (Blk.new w 23 #[.string ⟨#[]⟩, .string ⟨#[]⟩, .string ⟨#[]⟩]).alloc (.cells #[.string ⟨#[]⟩, .string ⟨#[]⟩, .string ⟨#[]⟩] 23)
  have q1 : FOwn (w.heap.size + 1) ((w.alloc (.cells #[.string ⟨#[]⟩, .string ⟨#[]⟩, .string ⟨#[]⟩] 23)).alloc (.cells #[.string ⟨#[]⟩, .string ⟨#[]⟩, .string ⟨#[]⟩] 23)) (some ⟨w.heap.size + 1, 0, none⟩) 1 1 [⟨[], [], []⟩] := by
    have := fown_one (base := w.heap.size + 1) (w.alloc (.cells #[.string ⟨#[]⟩, .string ⟨#[]⟩, .string ⟨#[]⟩] 23)) ⟨[], [], []⟩ (by simp)
    simp only [World.size_alloc] at this
    exact this
  have z1 : Below w.heap.size w ((w.alloc (.cells #[.string ⟨#[]⟩, .string ⟨#[]⟩, .string ⟨#[]⟩] 23)).alloc (.cells #[.string ⟨#[]⟩, .string ⟨#[]⟩, .string ⟨#[]⟩] 23)) := ((Below.refl _ _).alloc (Nat.le_refl _) _).alloc (by simp) _
  obtain ⟨W1, hW1⟩ : ∃ W1, (w.alloc (.cells #[.string ⟨#[]⟩, .string ⟨#[]⟩, .string ⟨#[]⟩] 23)).alloc (.cells #[.string ⟨#[]⟩, .string ⟨#[]⟩, .string ⟨#[]⟩] 23) = W1 := ⟨_, rfl⟩
  rw [hW1] at B1 q1 z1
  have k1 := blk3 B1
  have g0 := k1.1.1
  have g1 := k1.1.2.1
  have g2 := k1.1.2.2
  have f0 := k1.2.1
  have f1 := k1.2.2.1
  have f2 := k1.2.2.2
  clear k1
  go_enter Tryd.func20, Tryd.ntmps20
  go_wp2
  go_ret
  exact ⟨_, _, rfl, q1, z1⟩
set_option maxRecDepth 100000 in
set_option maxHeartbeats 2000000 in
theorem rch_001 (l s r : List Nat) (hl : (D.sb l).toList.isEmpty = false) (w : World) : Calls Tryd.prog 20 #[av ⟨l, [], []⟩] w (Rch ⟨l, [], []⟩ [⟨l, [], []⟩, ⟨[], [], []⟩] w) := by
  obtain ⟨a, ha⟩ : ∃ a, D.sb l = a := ⟨_, rfl⟩
  rw [ha] at hl
  have hav : av ⟨l, [], []⟩ = .agg #[.string a, .string ⟨#[]⟩, .string ⟨#[]⟩] := by unfold av; rw [ha]; try rfl
  rw [hav]
  have B1 := (Blk.new w 23 #[.string a, .string ⟨#[]⟩, .string ⟨#[]⟩]).alloc (.cells #[.string a, .string ⟨#[]⟩, .string ⟨#[]⟩] 23)
  have q1 : FOwn (w.heap.size + 1) ((w.alloc (.cells #[.string a, .string ⟨#[]⟩, .string ⟨#[]⟩] 23)).alloc (.cells #[.string a, .string ⟨#[]⟩, .string ⟨#[]⟩] 23)) (some ⟨w.heap.size + 1, 0, none⟩) 1 1 [⟨l, [], []⟩] := by
    have := fown_one (base := w.heap.size + 1) (w.alloc (.cells #[.string a, .string ⟨#[]⟩, .string ⟨#[]⟩] 23)) ⟨l, [], []⟩ (by simp)
    simp only [World.size_alloc, ha] at this
    exact this
  have z1 : Below w.heap.size w ((w.alloc (.cells #[.string a, .string ⟨#[]⟩, .string ⟨#[]⟩] 23)).alloc (.cells #[.string a, .string ⟨#[]⟩, .string ⟨#[]⟩] 23)) := ((Below.refl _ _).alloc (Nat.le_refl _) _).alloc (by simp) _
  obtain ⟨W1, hW1⟩ : ∃ W1, (w.alloc (.cells #[.string a, .string ⟨#[]⟩, .string ⟨#[]⟩] 23)).alloc (.cells #[.string a, .string ⟨#[]⟩, .string ⟨#[]⟩] 23) = W1 := ⟨_, rfl⟩
  rw [hW1] at B1 q1 z1
  have k1 := blk3 B1
  have g0 := k1.1.1
  have g1 := k1.1.2.1
  have g2 := k1.1.2.2
  have f0 := k1.2.1
  have f1 := k1.2.2.1
  have f2 := k1.2.2.2
  clear k1
  go_enter Tryd.func20, Tryd.ntmps20
  have HG2 : ∀ (W : World) (k : Nat), k = W.heap.size → (W.alloc (.cells #[.string ⟨#[]⟩, .string ⟨#[]⟩, .string ⟨#[]⟩] 23)).heap[k]? = some (.cells #[.string (D.sb (⟨[], [], []⟩ : D.Pt).l), .string (D.sb (⟨[], [], []⟩ : D.Pt).s), .string (D.sb (⟨[], [], []⟩ : D.Pt).r)] 23 (0, 0)) := fun W k hk => by
    subst hk
    simp only [ha]; exact heap_alloc_new W (.cells #[.string ⟨#[]⟩, .string ⟨#[]⟩, .string ⟨#[]⟩] 23)
  go_wp2_with (first
    | (at_builtin; have p2 := (q1.more (below_alloc_ _ (.cells #[.string ⟨#[]⟩, .string ⟨#[]⟩, .string ⟨#[]⟩] 23))); have x2 := z1.alloc z1.size (.cells #[.string ⟨#[]⟩, .string ⟨#[]⟩, .string ⟨#[]⟩] 23); refine fapp _ rfl (.tmp 25) (.tmp 27) (by rfl) (f := ⟨[], [], []⟩) (by rfl) p2 (by rfl) (HG2 _ W1.heap.size rfl) (by decide) ?_; intro A2 c2 w2 q2 e2; have B2 := blk_grown (B1.alloc (.cells #[.string ⟨#[]⟩, .string ⟨#[]⟩, .string ⟨#[]⟩] 23)) e2 p2 (Nat.lt_succ_self w.heap.size); have z2 := below_own x2 x2.size e2 p2 (Nat.le_succ w.heap.size); have k2 := blk3 B2; have g02 := k2.1.1; have g12 := k2.1.2.1; have g22 := k2.1.2.2; have f02 := k2.2.1; have f12 := k2.2.2.1; have f22 := k2.2.2.2; clear k2))
  go_ret
  exact ⟨_, _, rfl, q2, z2⟩
set_option maxRecDepth 100000 in
set_option maxHeartbeats 2000000 in
theorem rch_010 (l s r : List Nat) (hs : (D.sb s).toList.isEmpty = false) (w : World) : Calls Tryd.prog 20 #[av ⟨[], s, []⟩] w (Rch ⟨[], s, []⟩ [⟨[], s, []⟩, ⟨[], [], []⟩] w) := by
  obtain ⟨b, hb⟩ : ∃ b, D.sb s = b := ⟨_, rfl⟩
  rw [hb] at hs
  have hav : av ⟨[], s, []⟩ = .agg #[.string ⟨#[]⟩, .string b, .string ⟨#[]⟩] := by unfold av; rw [hb]; try rfl
  rw [hav]
  have B1 := (Blk.new w 23 #[.string ⟨#[]⟩, .string b, .string ⟨#[]⟩]).alloc (.cells #[.string ⟨#[]⟩, .string b, .string ⟨#[]⟩] 23)
  have q1 : FOwn (w.heap.size + 1) ((w.alloc (.cells #[.string ⟨#[]⟩, .string b, .string ⟨#[]⟩] 23)).alloc (.cells #[.string ⟨#[]⟩, .string b, .string ⟨#[]⟩] 23)) (some ⟨w.heap.size + 1, 0, none⟩) 1 1 [⟨[], s, []⟩] := by
    have := fown_one (base := w.heap.size + 1) (w.alloc (.cells #[.string ⟨#[]⟩, .string b, .string ⟨#[]⟩] 23)) ⟨[], s, []⟩ (by simp)
    simp only [World.size_alloc, hb] at this
    exact this
  have z1 : Below w.heap.size w ((w.alloc (.cells #[.string ⟨#[]⟩, .string b, .string ⟨#[]⟩] 23)).alloc (.cells #[.string ⟨#[]⟩, .string b, .string ⟨#[]⟩] 23)) := ((Below.refl _ _).alloc (Nat.le_refl _) _).alloc (by simp) _
  obtain ⟨W1, hW1⟩ : ∃ W1, (w.alloc (.cells #[.string ⟨#[]⟩, .string b, .string ⟨#[]⟩] 23)).alloc (.cells #[.string ⟨#[]⟩, .string b, .string ⟨#[]⟩] 23) = W1 := ⟨_, rfl⟩
  rw [hW1] at B1 q1 z1
  have k1 := blk3 B1
  have g0 := k1.1.1
  have g1 := k1.1.2.1
  have g2 := k1.1.2.2
  have f0 := k1.2.1
  have f1 := k1.2.2.1
  have f2 := k1.2.2.2
  clear k1
  go_enter Tryd.func20, Tryd.ntmps20
  have HG2 : ∀ (W : World) (k : Nat) (p : Addr) (u : Value), k = W.heap.size → ((W.setCell p u).alloc (.cells #[.string ⟨#[]⟩, .string ⟨#[]⟩, .string ⟨#[]⟩] 23)).heap[k]? = some (.cells #[.string (D.sb (⟨[], [], []⟩ : D.Pt).l), .string (D.sb (⟨[], [], []⟩ : D.Pt).s), .string (D.sb (⟨[], [], []⟩ : D.Pt).r)] 23 (0, 0)) := fun W k p u hk => by
    subst hk
    have := heap_alloc_new (W.setCell p u) (.cells #[.string ⟨#[]⟩, .string ⟨#[]⟩, .string ⟨#[]⟩] 23)
    rw [World.size_setCell] at this
    simp only [hb]; exact this
  go_wp2_with (first
    | (at_builtin; have p2 := ((q1.far (p := ⟨w.heap.size, 1, none⟩) (Nat.lt_succ_self w.heap.size) (.string ⟨#[]⟩)).more (below_alloc_ _ (.cells #[.string ⟨#[]⟩, .string ⟨#[]⟩, .string ⟨#[]⟩] 23))); have y2 := z1.setCell (p := ⟨w.heap.size, 1, none⟩) (Nat.le_refl w.heap.size) (.string ⟨#[]⟩); have x2 := y2.alloc y2.size (.cells #[.string ⟨#[]⟩, .string ⟨#[]⟩, .string ⟨#[]⟩] 23); refine fapp _ rfl (.tmp 18) (.tmp 20) (by rfl) (f := ⟨[], [], []⟩) (by rfl) p2 (by rfl) (HG2 _ W1.heap.size _ _ rfl) (by decide) ?_; intro A2 c2 w2 q2 e2; have B2 := blk_grown ((B1.put 1 (.string ⟨#[]⟩)).alloc (.cells #[.string ⟨#[]⟩, .string ⟨#[]⟩, .string ⟨#[]⟩] 23)) e2 p2 (Nat.lt_succ_self w.heap.size); have z2 := below_own x2 x2.size e2 p2 (Nat.le_succ w.heap.size); have k2 := blk3 B2; have g02 := k2.1.1; have g12 := k2.1.2.1; have g22 := k2.1.2.2; have f02 := k2.2.1; have f12 := k2.2.2.1; have f22 := k2.2.2.2; clear k2))
  go_ret
  exact ⟨_, _, rfl, q2, z2⟩
set_option maxRecDepth 100000 in
set_option maxHeartbeats 2000000 in
theorem rch_011 (l s r : List Nat) (hl : (D.sb l).toList.isEmpty = false) (hs : (D.sb s).toList.isEmpty = false) (w : World) : Calls Tryd.prog 20 #[av ⟨l, s, []⟩] w (Rch ⟨l, s, []⟩ [⟨l, s, []⟩, ⟨l, [], []⟩, ⟨[], [], []⟩] w) := by
  obtain ⟨a, ha⟩ : ∃ a, D.sb l = a := ⟨_, rfl⟩
  rw [ha] at hl
  obtain ⟨b, hb⟩ : ∃ b, D.sb s = b := ⟨_, rfl⟩
  rw [hb] at hs
  have hav : av ⟨l, s, []⟩ = .agg #[.string a, .string b, .string ⟨#[]⟩] := by unfold av; rw [ha, hb]; try rfl
  rw [hav]
  have B1 := (Blk.new w 23 #[.string a, .string b, .string ⟨#[]⟩]).alloc (.cells #[.string a, .string b, .string ⟨#[]⟩] 23)
  have q1 : FOwn (w.heap.size + 1) ((w.alloc (.cells #[.string a, .string b, .string ⟨#[]⟩] 23)).alloc (.cells #[.string a, .string b, .string ⟨#[]⟩] 23)) (some ⟨w.heap.size + 1, 0, none⟩) 1 1 [⟨l, s, []⟩] := by
    have := fown_one (base := w.heap.size + 1) (w.alloc (.cells #[.string a, .string b, .string ⟨#[]⟩] 23)) ⟨l, s, []⟩ (by simp)
    simp only [World.size_alloc, ha, hb] at this
    exact this
  have z1 : Below w.heap.size w ((w.alloc (.cells #[.string a, .string b, .string ⟨#[]⟩] 23)).alloc (.cells #[.string a, .string b, .string ⟨#[]⟩] 23)) := ((Below.refl _ _).alloc (Nat.le_refl _) _).alloc (by simp) _
  obtain ⟨W1, hW1⟩ : ∃ W1, (w.alloc (.cells #[.string a, .string b, .string ⟨#[]⟩] 23)).alloc (.cells #[.string a, .string b, .string ⟨#[]⟩] 23) = W1 := ⟨_, rfl⟩
  rw [hW1] at B1 q1 z1
  have k1 := blk3 B1
  have g0 := k1.1.1
  have g1 := k1.1.2.1
  have g2 := k1.1.2.2
  have f0 := k1.2.1
  have f1 := k1.2.2.1
  have f2 := k1.2.2.2
  clear k1
  go_enter Tryd.func20, Tryd.ntmps20
  have HG2 : ∀ (W : World) (k : Nat) (p : Addr) (u : Value), k = W.heap.size → ((W.setCell p u).alloc (.cells #[.string a, .string ⟨#[]⟩, .string ⟨#[]⟩] 23)).heap[k]? = some (.cells #[.string (D.sb (⟨l, [], []⟩ : D.Pt).l), .string (D.sb (⟨l, [], []⟩ : D.Pt).s), .string (D.sb (⟨l, [], []⟩ : D.Pt).r)] 23 (0, 0)) := fun W k p u hk => by
    subst hk
    have := heap_alloc_new (W.setCell p u) (.cells #[.string a, .string ⟨#[]⟩, .string ⟨#[]⟩] 23)
    rw [World.size_setCell] at this
    simp only [ha, hb]; exact this
  have HG3 : ∀ (W : World) (k : Nat), k = W.heap.size → (W.alloc (.cells #[.string ⟨#[]⟩, .string ⟨#[]⟩, .string ⟨#[]⟩] 23)).heap[k]? = some (.cells #[.string (D.sb (⟨[], [], []⟩ : D.Pt).l), .string (D.sb (⟨[], [], []⟩ : D.Pt).s), .string (D.sb (⟨[], [], []⟩ : D.Pt).r)] 23 (0, 0)) := fun W k hk => by
    subst hk
    simp only [ha, hb]; exact heap_alloc_new W (.cells #[.string ⟨#[]⟩, .string ⟨#[]⟩, .string ⟨#[]⟩] 23)
  go_wp2_with (first
    | (at_builtin; have p2 := ((q1.far (p := ⟨w.heap.size, 1, none⟩) (Nat.lt_succ_self w.heap.size) (.string ⟨#[]⟩)).more (below_alloc_ _ (.cells #[.string a, .string ⟨#[]⟩, .string ⟨#[]⟩] 23))); have y2 := z1.setCell (p := ⟨w.heap.size, 1, none⟩) (Nat.le_refl w.heap.size) (.string ⟨#[]⟩); have x2 := y2.alloc y2.size (.cells #[.string a, .string ⟨#[]⟩, .string ⟨#[]⟩] 23); refine fapp _ rfl (.tmp 18) (.tmp 20) (by rfl) (f := ⟨l, [], []⟩) (by rfl) p2 (by rfl) (HG2 _ W1.heap.size _ _ rfl) (by decide) ?_; intro A2 c2 w2 q2 e2; have B2 := blk_grown ((B1.put 1 (.string ⟨#[]⟩)).alloc (.cells #[.string a, .string ⟨#[]⟩, .string ⟨#[]⟩] 23)) e2 p2 (Nat.lt_succ_self w.heap.size); have z2 := below_own x2 x2.size e2 p2 (Nat.le_succ w.heap.size); have k2 := blk3 B2; have g02 := k2.1.1; have g12 := k2.1.2.1; have g22 := k2.1.2.2; have f02 := k2.2.1; have f12 := k2.2.2.1; have f22 := k2.2.2.2; clear k2)
    | (at_builtin; have p3 := (q2.more (below_alloc_ _ (.cells #[.string ⟨#[]⟩, .string ⟨#[]⟩, .string ⟨#[]⟩] 23))); have x3 := z2.alloc z2.size (.cells #[.string ⟨#[]⟩, .string ⟨#[]⟩, .string ⟨#[]⟩] 23); refine fapp _ rfl (.tmp 25) (.tmp 27) (by rfl) (f := ⟨[], [], []⟩) (by rfl) p3 (by rfl) (HG3 _ w2.heap.size rfl) (by decide) ?_; intro A3 c3 w3 q3 e3; have B3 := blk_grown (B2.alloc (.cells #[.string ⟨#[]⟩, .string ⟨#[]⟩, .string ⟨#[]⟩] 23)) e3 p3 (Nat.lt_succ_self w.heap.size); have z3 := below_own x3 x3.size e3 p3 (Nat.le_succ w.heap.size); have k3 := blk3 B3; have g03 := k3.1.1; have g13 := k3.1.2.1; have g23 := k3.1.2.2; have f03 := k3.2.1; have f13 := k3.2.2.1; have f23 := k3.2.2.2; clear k3))
  go_ret
  exact ⟨_, _, rfl, q3, z3⟩
set_option maxRecDepth 100000 in
set_option maxHeartbeats 2000000 in
theorem rch_100 (l s r : List Nat) (hr : (D.sb r).toList.isEmpty = false) (w : World) : Calls Tryd.prog 20 #[av ⟨[], [], r⟩] w (Rch ⟨[], [], r⟩ [⟨[], [], r⟩, ⟨[], [], []⟩] w) := by
  obtain ⟨c, hc⟩ : ∃ c, D.sb r = c := ⟨_, rfl⟩
  rw [hc] at hr
  have hav : av ⟨[], [], r⟩ = .agg #[.string ⟨#[]⟩, .string ⟨#[]⟩, .string c] := by unfold av; rw [hc]; try rfl
  rw [hav]
  have B1 := (Blk.new w 23 #[.string ⟨#[]⟩, .string ⟨#[]⟩, .string c]).alloc (.cells #[.string ⟨#[]⟩, .string ⟨#[]⟩, .string c] 23)
  have q1 : FOwn (w.heap.size + 1) ((w.alloc (.cells #[.string ⟨#[]⟩, .string ⟨#[]⟩, .string c] 23)).alloc (.cells #[.string ⟨#[]⟩, .string ⟨#[]⟩, .string c] 23)) (some ⟨w.heap.size + 1, 0, none⟩) 1 1 [⟨[], [], r⟩] := by
    have := fown_one (base := w.heap.size + 1) (w.alloc (.cells #[.string ⟨#[]⟩, .string ⟨#[]⟩, .string c] 23)) ⟨[], [], r⟩ (by simp)
    simp only [World.size_alloc, hc] at this
    exact this
  have z1 : Below w.heap.size w ((w.alloc (.cells #[.string ⟨#[]⟩, .string ⟨#[]⟩, .string c] 23)).alloc (.cells #[.string ⟨#[]⟩, .string ⟨#[]⟩, .string c] 23)) := ((Below.refl _ _).alloc (Nat.le_refl _) _).alloc (by simp) _
  obtain ⟨W1, hW1⟩ : ∃ W1, (w.alloc (.cells #[.string ⟨#[]⟩, .string ⟨#[]⟩, .string c] 23)).alloc (.cells #[.string ⟨#[]⟩, .string ⟨#[]⟩, .string c] 23) = W1 := ⟨_, rfl⟩
  rw [hW1] at B1 q1 z1
  have k1 := blk3 B1
  have g0 := k1.1.1
  have g1 := k1.1.2.1
  have g2 := k1.1.2.2
  have f0 := k1.2.1
  have f1 := k1.2.2.1
  have f2 := k1.2.2.2
  clear k1
  go_enter Tryd.func20, Tryd.ntmps20
  have HG2 : ∀ (W : World) (k : Nat) (p : Addr) (u : Value), k = W.heap.size → ((W.setCell p u).alloc (.cells #[.string ⟨#[]⟩, .string ⟨#[]⟩, .string ⟨#[]⟩] 23)).heap[k]? = some (.cells #[.string (D.sb (⟨[], [], []⟩ : D.Pt).l), .string (D.sb (⟨[], [], []⟩ : D.Pt).s), .string (D.sb (⟨[], [], []⟩ : D.Pt).r)] 23 (0, 0)) := fun W k p u hk => by
    subst hk
    have := heap_alloc_new (W.setCell p u) (.cells #[.string ⟨#[]⟩, .string ⟨#[]⟩, .string ⟨#[]⟩] 23)
    rw [World.size_setCell] at this
    simp only [hc]; exact this
  go_wp2_with (first
    | (at_builtin; have p2 := ((q1.far (p := ⟨w.heap.size, 2, none⟩) (Nat.lt_succ_self w.heap.size) (.string ⟨#[]⟩)).more (below_alloc_ _ (.cells #[.string ⟨#[]⟩, .string ⟨#[]⟩, .string ⟨#[]⟩] 23))); have y2 := z1.setCell (p := ⟨w.heap.size, 2, none⟩) (Nat.le_refl w.heap.size) (.string ⟨#[]⟩); have x2 := y2.alloc y2.size (.cells #[.string ⟨#[]⟩, .string ⟨#[]⟩, .string ⟨#[]⟩] 23); refine fapp _ rfl (.tmp 10) (.tmp 12) (by rfl) (f := ⟨[], [], []⟩) (by rfl) p2 (by rfl) (HG2 _ W1.heap.size _ _ rfl) (by decide) ?_; intro A2 c2 w2 q2 e2; have B2 := blk_grown ((B1.put 2 (.string ⟨#[]⟩)).alloc (.cells #[.string ⟨#[]⟩, .string ⟨#[]⟩, .string ⟨#[]⟩] 23)) e2 p2 (Nat.lt_succ_self w.heap.size); have z2 := below_own x2 x2.size e2 p2 (Nat.le_succ w.heap.size); have k2 := blk3 B2; have g02 := k2.1.1; have g12 := k2.1.2.1; have g22 := k2.1.2.2; have f02 := k2.2.1; have f12 := k2.2.2.1; have f22 := k2.2.2.2; clear k2))
  go_ret
  exact ⟨_, _, rfl, q2, z2⟩
set_option maxRecDepth 100000 in
set_option maxHeartbeats 2000000 in
theorem rch_101 (l s r : List Nat) (hl : (D.sb l).toList.isEmpty = false) (hr : (D.sb r).toList.isEmpty = false) (w : World) : Calls Tryd.prog 20 #[av ⟨l, [], r⟩] w (Rch ⟨l, [], r⟩ [⟨l, [], r⟩, ⟨l, [], []⟩, ⟨[], [], []⟩] w) := by
  obtain ⟨a, ha⟩ : ∃ a, D.sb l = a := ⟨_, rfl⟩
  rw [ha] at hl
  obtain ⟨c, hc⟩ : ∃ c, D.sb r = c := ⟨_, rfl⟩
  rw [hc] at hr
  have hav : av ⟨l, [], r⟩ = .agg #[.string a, .string ⟨#[]⟩, .string c] := by unfold av; rw [ha, hc]; try rfl
  rw [hav]
  have B1 := (Blk.new w 23 #[.string a, .string ⟨#[]⟩, .string c]).alloc (.cells #[.string a, .string ⟨#[]⟩, .string c] 23)
  have q1 : FOwn (w.heap.size + 1) ((w.alloc (.cells #[.string a, .string ⟨#[]⟩, .string c] 23)).alloc (.cells #[.string a, .string ⟨#[]⟩, .string c] 23)) (some ⟨w.heap.size + 1, 0, none⟩) 1 1 [⟨l, [], r⟩] := by
    have := fown_one (base := w.heap.size + 1) (w.alloc (.cells #[.string a, .string ⟨#[]⟩, .string c] 23)) ⟨l, [], r⟩ (by simp)
    simp only [World.size_alloc, ha, hc] at this
    exact this
  have z1 : Below w.heap.size w ((w.alloc (.cells #[.string a, .string ⟨#[]⟩, .string c] 23)).alloc (.cells #[.string a, .string ⟨#[]⟩, .string c] 23)) := ((Below.refl _ _).alloc (Nat.le_refl _) _).alloc (by simp) _
  obtain ⟨W1, hW1⟩ : ∃ W1, (w.alloc (.cells #[.string a, .string ⟨#[]⟩, .string c] 23)).alloc (.cells #[.string a, .string ⟨#[]⟩, .string c] 23) = W1 := ⟨_, rfl⟩
  rw [hW1] at B1 q1 z1
  have k1 := blk3 B1
  have g0 := k1.1.1
  have g1 := k1.1.2.1
  have g2 := k1.1.2.2
  have f0 := k1.2.1
  have f1 := k1.2.2.1
  have f2 := k1.2.2.2
  clear k1
  go_enter Tryd.func20, Tryd.ntmps20
  have HG2 : ∀ (W : World) (k : Nat) (p : Addr) (u : Value), k = W.heap.size → ((W.setCell p u).alloc (.cells #[.string a, .string ⟨#[]⟩, .string ⟨#[]⟩] 23)).heap[k]? = some (.cells #[.string (D.sb (⟨l, [], []⟩ : D.Pt).l), .string (D.sb (⟨l, [], []⟩ : D.Pt).s), .string (D.sb (⟨l, [], []⟩ : D.Pt).r)] 23 (0, 0)) := fun W k p u hk => by
    subst hk
    have := heap_alloc_new (W.setCell p u) (.cells #[.string a, .string ⟨#[]⟩, .string ⟨#[]⟩] 23)
    rw [World.size_setCell] at this
    simp only [ha, hc]; exact this
  have HG3 : ∀ (W : World) (k : Nat), k = W.heap.size → (W.alloc (.cells #[.string ⟨#[]⟩, .string ⟨#[]⟩, .string ⟨#[]⟩] 23)).heap[k]? = some (.cells #[.string (D.sb (⟨[], [], []⟩ : D.Pt).l), .string (D.sb (⟨[], [], []⟩ : D.Pt).s), .string (D.sb (⟨[], [], []⟩ : D.Pt).r)] 23 (0, 0)) := fun W k hk => by
    subst hk
    simp only [ha, hc]; exact heap_alloc_new W (.cells #[.string ⟨#[]⟩, .string ⟨#[]⟩, .string ⟨#[]⟩] 23)
  go_wp2_with (first
    | (at_builtin; have p2 := ((q1.far (p := ⟨w.heap.size, 2, none⟩) (Nat.lt_succ_self w.heap.size) (.string ⟨#[]⟩)).more (below_alloc_ _ (.cells #[.string a, .string ⟨#[]⟩, .string ⟨#[]⟩] 23))); have y2 := z1.setCell (p := ⟨w.heap.size, 2, none⟩) (Nat.le_refl w.heap.size) (.string ⟨#[]⟩); have x2 := y2.alloc y2.size (.cells #[.string a, .string ⟨#[]⟩, .string ⟨#[]⟩] 23); refine fapp _ rfl (.tmp 10) (.tmp 12) (by rfl) (f := ⟨l, [], []⟩) (by rfl) p2 (by rfl) (HG2 _ W1.heap.size _ _ rfl) (by decide) ?_; intro A2 c2 w2 q2 e2; have B2 := blk_grown ((B1.put 2 (.string ⟨#[]⟩)).alloc (.cells #[.string a, .string ⟨#[]⟩, .string ⟨#[]⟩] 23)) e2 p2 (Nat.lt_succ_self w.heap.size); have z2 := below_own x2 x2.size e2 p2 (Nat.le_succ w.heap.size); have k2 := blk3 B2; have g02 := k2.1.1; have g12 := k2.1.2.1; have g22 := k2.1.2.2; have f02 := k2.2.1; have f12 := k2.2.2.1; have f22 := k2.2.2.2; clear k2)
    | (at_builtin; have p3 := (q2.more (below_alloc_ _ (.cells #[.string ⟨#[]⟩, .string ⟨#[]⟩, .string ⟨#[]⟩] 23))); have x3 := z2.alloc z2.size (.cells #[.string ⟨#[]⟩, .string ⟨#[]⟩, .string ⟨#[]⟩] 23); refine fapp _ rfl (.tmp 25) (.tmp 27) (by rfl) (f := ⟨[], [], []⟩) (by rfl) p3 (by rfl) (HG3 _ w2.heap.size rfl) (by decide) ?_; intro A3 c3 w3 q3 e3; have B3 := blk_grown (B2.alloc (.cells #[.string ⟨#[]⟩, .string ⟨#[]⟩, .string ⟨#[]⟩] 23)) e3 p3 (Nat.lt_succ_self w.heap.size); have z3 := below_own x3 x3.size e3 p3 (Nat.le_succ w.heap.size); have k3 := blk3 B3; have g03 := k3.1.1; have g13 := k3.1.2.1; have g23 := k3.1.2.2; have f03 := k3.2.1; have f13 := k3.2.2.1; have f23 := k3.2.2.2; clear k3))
  go_ret
  exact ⟨_, _, rfl, q3, z3⟩
set_option maxRecDepth 100000 in
set_option maxHeartbeats 2000000 in
theorem rch_110 (l s r : List Nat) (hs : (D.sb s).toList.isEmpty = false) (hr : (D.sb r).toList.isEmpty = false) (w : World) : Calls Tryd.prog 20 #[av ⟨[], s, r⟩] w (Rch ⟨[], s, r⟩ [⟨[], s, r⟩, ⟨[], s, []⟩, ⟨[], [], []⟩] w) := by
  obtain ⟨b, hb⟩ : ∃ b, D.sb s = b := ⟨_, rfl⟩
  rw [hb] at hs
  obtain ⟨c, hc⟩ : ∃ c, D.sb r = c := ⟨_, rfl⟩
  rw [hc] at hr
  have hav : av ⟨[], s, r⟩ = .agg #[.string ⟨#[]⟩, .string b, .string c] := by unfold av; rw [hb, hc]; try rfl
  rw [hav]
  have B1 := (Blk.new w 23 #[.string ⟨#[]⟩, .string b, .string c]).alloc (.cells #[.string ⟨#[]⟩, .string b, .string c] 23)
  have q1 : FOwn (w.heap.size + 1) ((w.alloc (.cells #[.string ⟨#[]⟩, .string b, .string c] 23)).alloc (.cells #[.string ⟨#[]⟩, .string b, .string c] 23)) (some ⟨w.heap.size + 1, 0, none⟩) 1 1 [⟨[], s, r⟩] := by
    have := fown_one (base := w.heap.size + 1) (w.alloc (.cells #[.string ⟨#[]⟩, .string b, .string c] 23)) ⟨[], s, r⟩ (by simp)
    simp only [World.size_alloc, hb, hc] at this
    exact this
  have z1 : Below w.heap.size w ((w.alloc (.cells #[.string ⟨#[]⟩, .string b, .string c] 23)).alloc (.cells #[.string ⟨#[]⟩, .string b, .string c] 23)) := ((Below.refl _ _).alloc (Nat.le_refl _) _).alloc (by simp) _
  obtain ⟨W1, hW1⟩ : ∃ W1, (w.alloc (.cells #[.string ⟨#[]⟩, .string b, .string c] 23)).alloc (.cells #[.string ⟨#[]⟩, .string b, .string c] 23) = W1 := ⟨_, rfl⟩
  rw [hW1] at B1 q1 z1
  have k1 := blk3 B1
  have g0 := k1.1.1
  have g1 := k1.1.2.1
  have g2 := k1.1.2.2
  have f0 := k1.2.1
  have f1 := k1.2.2.1
  have f2 := k1.2.2.2
  clear k1
  go_enter Tryd.func20, Tryd.ntmps20
  have HG2 : ∀ (W : World) (k : Nat) (p : Addr) (u : Value), k = W.heap.size → ((W.setCell p u).alloc (.cells #[.string ⟨#[]⟩, .string b, .string ⟨#[]⟩] 23)).heap[k]? = some (.cells #[.string (D.sb (⟨[], s, []⟩ : D.Pt).l), .string (D.sb (⟨[], s, []⟩ : D.Pt).s), .string (D.sb (⟨[], s, []⟩ : D.Pt).r)] 23 (0, 0)) := fun W k p u hk => by
    subst hk
    have := heap_alloc_new (W.setCell p u) (.cells #[.string ⟨#[]⟩, .string b, .string ⟨#[]⟩] 23)
    rw [World.size_setCell] at this
    simp only [hb, hc]; exact this
  have HG3 : ∀ (W : World) (k : Nat) (p : Addr) (u : Value), k = W.heap.size → ((W.setCell p u).alloc (.cells #[.string ⟨#[]⟩, .string ⟨#[]⟩, .string ⟨#[]⟩] 23)).heap[k]? = some (.cells #[.string (D.sb (⟨[], [], []⟩ : D.Pt).l), .string (D.sb (⟨[], [], []⟩ : D.Pt).s), .string (D.sb (⟨[], [], []⟩ : D.Pt).r)] 23 (0, 0)) := fun W k p u hk => by
    subst hk
    have := heap_alloc_new (W.setCell p u) (.cells #[.string ⟨#[]⟩, .string ⟨#[]⟩, .string ⟨#[]⟩] 23)
    rw [World.size_setCell] at this
    simp only [hb, hc]; exact this
  go_wp2_with (first
    | (at_builtin; have p2 := ((q1.far (p := ⟨w.heap.size, 2, none⟩) (Nat.lt_succ_self w.heap.size) (.string ⟨#[]⟩)).more (below_alloc_ _ (.cells #[.string ⟨#[]⟩, .string b, .string ⟨#[]⟩] 23))); have y2 := z1.setCell (p := ⟨w.heap.size, 2, none⟩) (Nat.le_refl w.heap.size) (.string ⟨#[]⟩); have x2 := y2.alloc y2.size (.cells #[.string ⟨#[]⟩, .string b, .string ⟨#[]⟩] 23); refine fapp _ rfl (.tmp 10) (.tmp 12) (by rfl) (f := ⟨[], s, []⟩) (by rfl) p2 (by rfl) (HG2 _ W1.heap.size _ _ rfl) (by decide) ?_; intro A2 c2 w2 q2 e2; have B2 := blk_grown ((B1.put 2 (.string ⟨#[]⟩)).alloc (.cells #[.string ⟨#[]⟩, .string b, .string ⟨#[]⟩] 23)) e2 p2 (Nat.lt_succ_self w.heap.size); have z2 := below_own x2 x2.size e2 p2 (Nat.le_succ w.heap.size); have k2 := blk3 B2; have g02 := k2.1.1; have g12 := k2.1.2.1; have g22 := k2.1.2.2; have f02 := k2.2.1; have f12 := k2.2.2.1; have f22 := k2.2.2.2; clear k2)
    | (at_builtin; have p3 := ((q2.far (p := ⟨w.heap.size, 1, none⟩) (Nat.lt_succ_self w.heap.size) (.string ⟨#[]⟩)).more (below_alloc_ _ (.cells #[.string ⟨#[]⟩, .string ⟨#[]⟩, .string ⟨#[]⟩] 23))); have y3 := z2.setCell (p := ⟨w.heap.size, 1, none⟩) (Nat.le_refl w.heap.size) (.string ⟨#[]⟩); have x3 := y3.alloc y3.size (.cells #[.string ⟨#[]⟩, .string ⟨#[]⟩, .string ⟨#[]⟩] 23); refine fapp _ rfl (.tmp 18) (.tmp 20) (by rfl) (f := ⟨[], [], []⟩) (by rfl) p3 (by rfl) (HG3 _ w2.heap.size _ _ rfl) (by decide) ?_; intro A3 c3 w3 q3 e3; have B3 := blk_grown ((B2.put 1 (.string ⟨#[]⟩)).alloc (.cells #[.string ⟨#[]⟩, .string ⟨#[]⟩, .string ⟨#[]⟩] 23)) e3 p3 (Nat.lt_succ_self w.heap.size); have z3 := below_own x3 x3.size e3 p3 (Nat.le_succ w.heap.size); have k3 := blk3 B3; have g03 := k3.1.1; have g13 := k3.1.2.1; have g23 := k3.1.2.2; have f03 := k3.2.1; have f13 := k3.2.2.1; have f23 := k3.2.2.2; clear k3))
  go_ret
  exact ⟨_, _, rfl, q3, z3⟩
set_option maxRecDepth 100000 in
set_option maxHeartbeats 2000000 in
theorem rch_111 (l s r : List Nat) (hl : (D.sb l).toList.isEmpty = false) (hs : (D.sb s).toList.isEmpty = false) (hr : (D.sb r).toList.isEmpty = false) (w : World) : Calls Tryd.prog 20 #[av ⟨l, s, r⟩] w (Rch ⟨l, s, r⟩ [⟨l, s, r⟩, ⟨l, s, []⟩, ⟨l, [], []⟩, ⟨[], [], []⟩] w) := by
  obtain ⟨a, ha⟩ : ∃ a, D.sb l = a := ⟨_, rfl⟩
  rw [ha] at hl
  obtain ⟨b, hb⟩ : ∃ b, D.sb s = b := ⟨_, rfl⟩
  rw [hb] at hs
  obtain ⟨c, hc⟩ : ∃ c, D.sb r = c := ⟨_, rfl⟩
  rw [hc] at hr
  have hav : av ⟨l, s, r⟩ = .agg #[.string a, .string b, .string c] := by unfold av; rw [ha, hb, hc]; try rfl
  rw [hav]
  have B1 := (Blk.new w 23 #[.string a, .string b, .string c]).alloc (.cells #[.string a, .string b, .string c] 23)
  have q1 : FOwn (w.heap.size + 1) ((w.alloc (.cells #[.string a, .string b, .string c] 23)).alloc (.cells #[.string a, .string b, .string c] 23)) (some ⟨w.heap.size + 1, 0, none⟩) 1 1 [⟨l, s, r⟩] := by
    have := fown_one (base := w.heap.size + 1) (w.alloc (.cells #[.string a, .string b, .string c] 23)) ⟨l, s, r⟩ (by simp)
    simp only [World.size_alloc, ha, hb, hc] at this
    exact this
  have z1 : Below w.heap.size w ((w.alloc (.cells #[.string a, .string b, .string c] 23)).alloc (.cells #[.string a, .string b, .string c] 23)) := ((Below.refl _ _).alloc (Nat.le_refl _) _).alloc (by simp) _
  obtain ⟨W1, hW1⟩ : ∃ W1, (w.alloc (.cells #[.string a, .string b, .string c] 23)).alloc (.cells #[.string a, .string b, .string c] 23) = W1 := ⟨_, rfl⟩
  rw [hW1] at B1 q1 z1
  have k1 := blk3 B1
  have g0 := k1.1.1
  have g1 := k1.1.2.1
  have g2 := k1.1.2.2
  have f0 := k1.2.1
  have f1 := k1.2.2.1
  have f2 := k1.2.2.2
  clear k1
  go_enter Tryd.func20, Tryd.ntmps20
  have HG2 : ∀ (W : World) (k : Nat) (p : Addr) (u : Value), k = W.heap.size → ((W.setCell p u).alloc (.cells #[.string a, .string b, .string ⟨#[]⟩] 23)).heap[k]? = some (.cells #[.string (D.sb (⟨l, s, []⟩ : D.Pt).l), .string (D.sb (⟨l, s, []⟩ : D.Pt).s), .string (D.sb (⟨l, s, []⟩ : D.Pt).r)] 23 (0, 0)) := fun W k p u hk => by
    subst hk
    have := heap_alloc_new (W.setCell p u) (.cells #[.string a, .string b, .string ⟨#[]⟩] 23)
    rw [World.size_setCell] at this
    simp only [ha, hb, hc]; exact this
  have HG3 : ∀ (W : World) (k : Nat) (p : Addr) (u : Value), k = W.heap.size → ((W.setCell p u).alloc (.cells #[.string a, .string ⟨#[]⟩, .string ⟨#[]⟩] 23)).heap[k]? = some (.cells #[.string (D.sb (⟨l, [], []⟩ : D.Pt).l), .string (D.sb (⟨l, [], []⟩ : D.Pt).s), .string (D.sb (⟨l, [], []⟩ : D.Pt).r)] 23 (0, 0)) := fun W k p u hk => by
    subst hk
    have := heap_alloc_new (W.setCell p u) (.cells #[.string a, .string ⟨#[]⟩, .string ⟨#[]⟩] 23)
    rw [World.size_setCell] at this
    simp only [ha, hb, hc]; exact this
  have HG4 : ∀ (W : World) (k : Nat), k = W.heap.size → (W.alloc (.cells #[.string ⟨#[]⟩, .string ⟨#[]⟩, .string ⟨#[]⟩] 23)).heap[k]? = some (.cells #[.string (D.sb (⟨[], [], []⟩ : D.Pt).l), .string (D.sb (⟨[], [], []⟩ : D.Pt).s), .string (D.sb (⟨[], [], []⟩ : D.Pt).r)] 23 (0, 0)) := fun W k hk => by
    subst hk
    simp only [ha, hb, hc]; exact heap_alloc_new W (.cells #[.string ⟨#[]⟩, .string ⟨#[]⟩, .string ⟨#[]⟩] 23)
  go_wp2_with (first
    | (at_builtin; have p2 := ((q1.far (p := ⟨w.heap.size, 2, none⟩) (Nat.lt_succ_self w.heap.size) (.string ⟨#[]⟩)).more (below_alloc_ _ (.cells #[.string a, .string b, .string ⟨#[]⟩] 23))); have y2 := z1.setCell (p := ⟨w.heap.size, 2, none⟩) (Nat.le_refl w.heap.size) (.string ⟨#[]⟩); have x2 := y2.alloc y2.size (.cells #[.string a, .string b, .string ⟨#[]⟩] 23); refine fapp _ rfl (.tmp 10) (.tmp 12) (by rfl) (f := ⟨l, s, []⟩) (by rfl) p2 (by rfl) (HG2 _ W1.heap.size _ _ rfl) (by decide) ?_; intro A2 c2 w2 q2 e2; have B2 := blk_grown ((B1.put 2 (.string ⟨#[]⟩)).alloc (.cells #[.string a, .string b, .string ⟨#[]⟩] 23)) e2 p2 (Nat.lt_succ_self w.heap.size); have z2 := below_own x2 x2.size e2 p2 (Nat.le_succ w.heap.size); have k2 := blk3 B2; have g02 := k2.1.1; have g12 := k2.1.2.1; have g22 := k2.1.2.2; have f02 := k2.2.1; have f12 := k2.2.2.1; have f22 := k2.2.2.2; clear k2)
    | (at_builtin; have p3 := ((q2.far (p := ⟨w.heap.size, 1, none⟩) (Nat.lt_succ_self w.heap.size) (.string ⟨#[]⟩)).more (below_alloc_ _ (.cells #[.string a, .string ⟨#[]⟩, .string ⟨#[]⟩] 23))); have y3 := z2.setCell (p := ⟨w.heap.size, 1, none⟩) (Nat.le_refl w.heap.size) (.string ⟨#[]⟩); have x3 := y3.alloc y3.size (.cells #[.string a, .string ⟨#[]⟩, .string ⟨#[]⟩] 23); refine fapp _ rfl (.tmp 18) (.tmp 20) (by rfl) (f := ⟨l, [], []⟩) (by rfl) p3 (by rfl) (HG3 _ w2.heap.size _ _ rfl) (by decide) ?_; intro A3 c3 w3 q3 e3; have B3 := blk_grown ((B2.put 1 (.string ⟨#[]⟩)).alloc (.cells #[.string a, .string ⟨#[]⟩, .string ⟨#[]⟩] 23)) e3 p3 (Nat.lt_succ_self w.heap.size); have z3 := below_own x3 x3.size e3 p3 (Nat.le_succ w.heap.size); have k3 := blk3 B3; have g03 := k3.1.1; have g13 := k3.1.2.1; have g23 := k3.1.2.2; have f03 := k3.2.1; have f13 := k3.2.2.1; have f23 := k3.2.2.2; clear k3)
    | (at_builtin; have p4 := (q3.more (below_alloc_ _ (.cells #[.string ⟨#[]⟩, .string ⟨#[]⟩, .string ⟨#[]⟩] 23))); have x4 := z3.alloc z3.size (.cells #[.string ⟨#[]⟩, .string ⟨#[]⟩, .string ⟨#[]⟩] 23); refine fapp _ rfl (.tmp 25) (.tmp 27) (by rfl) (f := ⟨[], [], []⟩) (by rfl) p4 (by rfl) (HG4 _ w3.heap.size rfl) (by decide) ?_; intro A4 c4 w4 q4 e4; have B4 := blk_grown (B3.alloc (.cells #[.string ⟨#[]⟩, .string ⟨#[]⟩, .string ⟨#[]⟩] 23)) e4 p4 (Nat.lt_succ_self w.heap.size); have z4 := below_own x4 x4.size e4 p4 (Nat.le_succ w.heap.size); have k4 := blk3 B4; have g04 := k4.1.1; have g14 := k4.1.2.1; have g24 := k4.1.2.2; have f04 := k4.2.1; have f14 := k4.2.2.1; have f24 := k4.2.2.2; clear k4))
  go_ret
  exact ⟨_, _, rfl, q4, z4⟩
theorem rch_any (p : D.Pt) (w : World) : Calls Tryd.prog 20 #[av p] w (Rch p (D.chain p) w) := by
  obtain ⟨l, s, r⟩ := p
  have ne : ∀ k : List Nat, k ≠ [] → (D.sb k).toList.isEmpty = false := fun k hk => by rw [sb_empty]; cases k with
    | nil => exact absurd rfl hk
    | cons => rfl
  by_cases hr : r = [] <;> by_cases hs : s = [] <;> by_cases hl : l = []
  · subst hr; subst hs; subst hl; have := rch_000 [] [] [] w; simpa [D.chain, D.c1, D.rt] using this
  · subst hr; subst hs; have := rch_001 l [] [] (ne _ hl) w; simpa [D.chain, D.c1, D.rt, hl] using this
  · subst hr; subst hl; have := rch_010 [] s [] (ne _ hs) w; simpa [D.chain, D.c1, D.rt, hs] using this
  · subst hr; have := rch_011 l s [] (ne _ hl) (ne _ hs) w; simpa [D.chain, D.c1, D.rt, hl, hs] using this
  · subst hs; subst hl; have := rch_100 [] [] r (ne _ hr) w; simpa [D.chain, D.c1, D.rt, hr] using this
  · subst hs; have := rch_101 l [] r (ne _ hl) (ne _ hr) w; simpa [D.chain, D.c1, D.rt, hl, hr] using this
  · subst hl; have := rch_110 [] s r (ne _ hs) (ne _ hr) w; simpa [D.chain, D.c1, D.rt, hs, hr] using this
  · have := rch_111 l s r (ne _ hl) (ne _ hs) (ne _ hr) w; simpa [D.chain, D.c1, D.rt, hl, hs, hr] using this
end Go.Proofs.YtgbnaammphilhaaDoor
