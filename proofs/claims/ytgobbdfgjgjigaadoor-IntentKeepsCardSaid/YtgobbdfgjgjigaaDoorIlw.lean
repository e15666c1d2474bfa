/-
  The law's table: what its calls leave.
-/
import Derived.Test.YtgobbdfgjgjigaaDoorIac
set_option linter.unusedVariables false
set_option linter.unusedSimpArgs false
set_option maxRecDepth 100000
namespace Go.Proofs.YtgobbdfgjgjigaaDoor
open Go.RowKit
/-- The law's table, that holds s; what lay below it is as it was. -/
structure Lt (p : Nat) (W0 W : World) (M : Option Nat) (s : D.It) (c : Nat) : Prop where
  t : TabI p W p M s
  b : Below p W0 W
  f : s.Fit c
section
variable {p : Nat} {W0 W W' : World} {M M' : Option Nat} {s s' : D.It} {c c' : Nat}
theorem Lt.z (h : Lt p W0 W M s c) : p < W.heap.size := h.t.blk.lt
theorem Lt.on (h : Lt p W0 W M s c) (hb : Below W.heap.size W W') : Lt p W0 W' M s c := ⟨h.t.on hb, h.b.trans (hb.mono (Nat.le_of_lt h.z)), h.f⟩
theorem Lt.more (h : Lt p W0 W M s c) (hc : c ≤ c') : Lt p W0 W M s c' := ⟨h.t, h.b, h.f.more hc⟩
theorem Lt.only (h : Lt p W0 W M s c) (t : TabI p W' p M' s') (o : Only (Sf p M) W W') (f : s'.Fit c') : Lt p W0 W' M' s' c' :=
  ⟨t, h.b.trans (o.below (Nat.le_of_lt h.z) fun i hi => h.t.ge i hi), f⟩
theorem Lt.away (h : Lt p W0 W M s c) (ad : Addr) (e : (some ⟨W.heap.size, 0, none⟩ : Option Addr) = some ad) : ¬ Sf p M ad.block := by
  injection e with e
  subst e
  exact fun hs => Nat.lt_irrefl _ (h.t.lt _ hs)
/-- What lies elsewhere stays. -/
def Stay (p : Nat) (M : Option Nat) (W : World) (M' : Option Nat) (w' : World) : Prop := ∀ i, i < W.heap.size → ¬ Sf p M i → w'.heap[i]? = W.heap[i]? ∧ ¬ Sf p M' i
theorem stay_of {W1 : World} (hb : Below W.heap.size W W1) (o : Only (Sf p M) W1 W') (n : Nxt W1.heap.size M M') : Stay p M W M' W' := fun i hi hn =>
  ⟨(o.block i (Nat.lt_of_lt_of_le hi hb.size) hn).trans (hb.block i hi), fun hs => (Sf.next n i hs).elim hn fun h => absurd hi (Nat.not_lt.2 (Nat.le_trans hb.size h))⟩
theorem stay_on (hb : Below W.heap.size W W') : Stay p M W M W' := fun i hi hn => ⟨hb.block i hi, hn⟩
/-- What keeps its owner. -/
def Kp (o : Int) (s s' : D.It) : Prop := ∀ k v, s.f k = some v → o ≠ v → s'.f k = some v
theorem Lt.take2 (h : Lt p W0 W M s c) (hc : c ≤ 1000) (o : Int) (o2 : o ≤ 9223372036854775807) (x y : D.Ky) {H : Nat} (hH : H = W.heap.size) : Calls Tryd.prog 5 #[.pointer (some ⟨p, 0, none⟩), .int .i64 o, .slice (some ⟨H, 0, none⟩) 2 2] (W.alloc (.cells (kcs2 x y) 30))
    fun e w' => ∃ (n r : Int) (M' : Option Nat) (s' : D.It), e = .returned (.tuple #[.int .i64 n, .int .i64 r]) ∧ Lt p W0 w' M' s' (c + 2) ∧ Kp o s s' ∧ Stay p M W M' w' := by
  subst hH
  have h1 := h.on (below_alloc_ W (.cells (kcs2 x y) 30))
  by_cases o1 : 1 ≤ o
  · exact (take_any h1.t o1 o2 (krow2 W x y) h.away (by omega) (by have := h.f.le; omega)).mono fun e w' ⟨h2, M', h3, h4, h5⟩ => ⟨_, _, M', _, h2, h1.only h3 h4 (h.f.take [x, y] o1 o2), fun k v hk hv => D.It.take_keeps _ hk hv, stay_of (below_alloc_ _ _) h4 h5⟩
  · exact (take_low h1.t (by omega)).mono fun e w' ⟨h2, h3⟩ => ⟨_, _, M, s, h2, by rw [← h3]; exact h1.more (by omega), fun k v hk _ => hk, by rw [← h3]; exact stay_on (below_alloc_ _ _)⟩
theorem Lt.drop2 (h : Lt p W0 W M s c) (o : Int) (x y : D.Ky) {H : Nat} (hH : H = W.heap.size) : Calls Tryd.prog 4 #[.pointer (some ⟨p, 0, none⟩), .int .i64 o, .slice (some ⟨H, 0, none⟩) 2 2] (W.alloc (.cells (kcs2 x y) 30))
    fun e w' => ∃ (s' : D.It), e = .returned (.int .i64 ((s.drop o [x, y]).2 : Nat)) ∧ Lt p W0 w' M s' c ∧ Kp o s s' ∧ Stay p M W M w' := by
  subst hH
  have h1 := h.on (below_alloc_ W (.cells (kcs2 x y) 30))
  exact (drop_any h1.t o (krow2 W x y) h.away (by omega)).mono fun e w' ⟨h2, h3, h4⟩ => ⟨_, h2, h1.only h3 h4 (h.f.drop [x, y]), fun k v hk hv => D.It.drop_keeps _ hk hv, stay_of (below_alloc_ _ _) h4 (.inl rfl)⟩
/-- An owner takes a key. -/
theorem Lt.take1 (h : Lt p W0 W M s c) (hc : c ≤ 1000) {o : Int} (o1 : 1 ≤ o) (o2 : o ≤ 9223372036854775807) (x : D.Ky) {H : Nat} (hH : H = W.heap.size) : Calls Tryd.prog 5 #[.pointer (some ⟨p, 0, none⟩), .int .i64 o, .slice (some ⟨H, 0, none⟩) 1 1] (W.alloc (.cells (kS.v x) 30))
    fun e w' => ∃ (n : Int) (M' : Option Nat) (s' : D.It), e = .returned (.tuple #[.int .i64 n, .int .i64 (s.err o x : Nat)]) ∧ Lt p W0 w' M' s' (c + 1) ∧ (s.err o x = 0 → s' = s.put x o) ∧ (s.err o x ≠ 0 → s' = s) ∧ Stay p M W M' w' := by
  subst hH
  have h1 := h.on (below_alloc_ W (.cells (kS.v x) 30))
  have e1 : s.err o x = 0 → s.take o [x] = (s.put x o, 0) := fun e => by rw [D.It.take, if_pos e]; rfl
  have e2 : s.err o x ≠ 0 → s.take o [x] = (s, s.err o x) := fun e => by rw [D.It.take, if_neg e]
  refine (take_any h1.t o1 o2 (krow1 W x) h.away (by omega) (by have := h.f.le; omega)).mono fun e w' ⟨h2, M', h3, h4, h5⟩ => ?_
  by_cases hz : s.err o x = 0
  · rw [e1 hz] at h2 h3
    exact ⟨_, M', _, by rw [hz]; exact h2, h1.only h3 h4 (h.f.put x o1 o2), fun _ => rfl, fun hn => absurd hz hn, stay_of (below_alloc_ _ _) h4 h5⟩
  · rw [e2 hz] at h2 h3
    exact ⟨_, M', _, h2, h1.only h3 h4 (h.f.more (by omega)), fun h0 => absurd h0 hz, fun _ => rfl, stay_of (below_alloc_ _ _) h4 h5⟩
/-- Another one can't take it. -/
theorem Lt.take_no (h : Lt p W0 W M s c) (hc : c ≤ 1000) {o v : Int} (o2 : o ≤ 9223372036854775807) {x : D.Ky} (hx : s.f x = some v) (hk : D.kright x = true) (hv : o ≠ v) {H : Nat} (hH : H = W.heap.size) : Calls Tryd.prog 5 #[.pointer (some ⟨p, 0, none⟩), .int .i64 o, .slice (some ⟨H, 0, none⟩) 1 1] (W.alloc (.cells (kS.v x) 30))
    fun e w' => ∃ (n r : Int) (M' : Option Nat), e = .returned (.tuple #[.int .i64 n, .int .i64 r]) ∧ (r = 11 ∨ r = 5) ∧ Lt p W0 w' M' s c ∧ Stay p M W M' w' := by
  subst hH
  by_cases o1 : 1 ≤ o
  · have he : s.err o x = 11 := by unfold D.It.err; rw [if_pos hk, hx]; exact if_neg (fun e => hv e.symm)
    refine (h.take1 hc o1 o2 x rfl).mono fun e w' ⟨n, M', s', h2, h3, _, h5, h6⟩ => ?_
    obtain rfl := h5 (by rw [he]; decide)
    exact ⟨n, _, M', h2, .inl (by rw [he]; rfl), ⟨h3.t, h3.b, h.f⟩, h6⟩
  · have h1 := h.on (below_alloc_ W (.cells (kS.v x) 30))
    exact (take_low h1.t (by omega)).mono fun e w' ⟨h2, h3⟩ => ⟨_, _, M, h2, .inr rfl, by rw [← h3]; exact h1, by rw [← h3]; exact stay_on (below_alloc_ _ _)⟩
/-- With a call's variable beside it. -/
structure Ga (p : Nat) (W0 W : World) (M : Option Nat) (s : D.It) (c G : Nat) (x : D.Ia) : Prop where
  l : Lt p W0 W M s c
  r : iS.rd W ⟨G, 0, none⟩ = some x
  n : ¬ Sf p M G
theorem Ga.next {G : Nat} {x : D.Ia} (h : Ga p W0 W M s c G x) (l : Lt p W0 W' M' s' c') (k : Stay p M W M' W') : Ga p W0 W' M' s' c' G x := by
  have hG : G < W.heap.size := Shp.rd_lt h.r
  obtain ⟨h1, h2⟩ := k G hG h.n
  exact ⟨l, (Shp.rd_to h1).trans h.r, h2⟩
theorem Ga.new (h : Lt p W0 W M s c) (x : D.Ia) : Ga p W0 (W.alloc (.cells (iS.v x) 36)) M s c W.heap.size x :=
  ⟨h.on (below_alloc_ _ _), Shp.rd_new _ _ _ _ rfl, fun hs => Nat.lt_irrefl _ (h.t.lt _ hs)⟩
theorem Ga.in_ {G : Nat} {x : D.Ia} (h : Ga p W0 W M s c G x) : W.cell? ⟨G, 0, none⟩ = some (.bool x.d) ∧ W.cell? ⟨G, 1, none⟩ = some (.int .i64 x.o) ∧ kS.rd W ⟨G, 2, none⟩ = some x.a ∧ kS.rd W ⟨G, 27, none⟩ = some x.b := by
  have := ia_in h.r
  simp only [Nat.zero_add] at this
  exact this
theorem D.It.drop_own {s : D.It} {o : Int} {x : D.Ky} (h : s.f x = some o) : (s.drop o [x, x]).2 = 1 := by
  rw [D.It.drop, if_pos h, D.It.drop, if_neg (by rw [D.It.del_f]; exact fun e => by cases e), D.It.drop]
end
end Go.Proofs.YtgobbdfgjgjigaaDoor
