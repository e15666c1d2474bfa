/-
  Tests of numbers as function values: what they hold, how they are made, what they answer.
  What tests by the rest answer, and tests of both.
  The rules of a language: rows of rules in memory; rulesOf.
-/
import Derived.Test.YtohhfcfnclafdaaGreatDoorG07
import Derived.IntWalk
import Derived.BigQuiet
import Derived.Deep.QuietTactic
import Derived.Test.YtohhfcfnclafdaaGreatDoorG12
import Derived.Deep.WholeRow
import Derived.KernelRfl
set_option linter.unusedVariables false
set_option linter.unusedSimpArgs false
namespace Go.Proofs.YtohhfcfnclafdaaGreatDoor
open Go.RowKit
attribute [local go_sem ↓] Go.wp_at_zero Go.wp_at_succ

/-- A variable of one cell. -/
structure Vr (w : World) (g : Nat) (v : Value) : Prop where
  c : w.cell? ⟨g, 0, none⟩ = some v
theorem Vr.lt {w : World} {g : Nat} {v : Value} (h : Vr w g v) : g < w.heap.size := World.block_lt_of_cell? w _ h.c
theorem Vr.on {w w' : World} {g : Nat} {v : Value} (h : Vr w g v) (hb : Below w.heap.size w w') : Vr w' g v := ⟨(hb.cell (p := ⟨g, 0, none⟩) h.lt).trans h.c⟩
theorem Vr.new (w : World) (g : Nat) (v : Value) (t : TypeId) (h : g = w.heap.size) : Vr (w.alloc (.cells #[v] t)) g v := by
  subst h
  exact ⟨World.news_of_block (heap_alloc_new w _) 0 v rfl⟩
abbrev vp (g : Nat) : Value := .pointer (some ⟨g, 0, none⟩)
/-- The numbers from one to another. -/
abbrev fA (g h : Nat) : Value := .func (.func 204) #[] #[vp g, vp h]
abbrev fR (g h : Nat) : Value := .func (.func 206) #[] #[vp g, vp h]
abbrev fB (g h : Nat) : Value := .func (.func 205) #[] #[vp g, vp h]
abbrev fL : Value := .func (.func 207) #[] #[]
structure FA (w : World) (v : Value) (lo hi : Nat) (g h : Nat) : Prop where
  e : v = fA g h
  g : Vr w g (.int .u64 lo)
  h : Vr w h (.int .u64 hi)
structure FR (w : World) (v : Value) (d lo hi : Nat) (g h g' h' : Nat) : Prop where
  e : v = fR g h
  g : Vr w g (fA g' h')
  h : Vr w h (.int .u64 d)
  a : FA w (fA g' h') lo hi g' h'
structure FB (w : World) (v : Value) (d lo hi d' lo' hi' : Nat) (g h g1 h1 g2 h2 k1 l1 k2 l2 : Nat) : Prop where
  e : v = fB g h
  g : Vr w g (fR g1 h1)
  h : Vr w h (fR k1 l1)
  r : FR w (fR g1 h1) d lo hi g1 h1 g2 h2
  s : FR w (fR k1 l1) d' lo' hi' k1 l1 k2 l2
section
variable {w w' : World} {v : Value} {d lo hi d' lo' hi' g h g' h' g1 h1 g2 h2 k1 l1 k2 l2 : Nat}
theorem FA.on (f : FA w v lo hi g h) (hb : Below w.heap.size w w') : FA w' v lo hi g h := ⟨f.e, f.g.on hb, f.h.on hb⟩
theorem FR.on (f : FR w v d lo hi g h g' h') (hb : Below w.heap.size w w') : FR w' v d lo hi g h g' h' := ⟨f.e, f.g.on hb, f.h.on hb, f.a.on hb⟩
theorem FB.on (f : FB w v d lo hi d' lo' hi' g h g1 h1 g2 h2 k1 l1 k2 l2) (hb : Below w.heap.size w w') : FB w' v d lo hi d' lo' hi' g h g1 h1 g2 h2 k1 l1 k2 l2 := ⟨f.e, f.g.on hb, f.h.on hb, f.r.on hb, f.s.on hb⟩
end
/-- A value is this test. -/
def FT (w : World) (v : Value) : D.Ts → Prop
  | .am lo hi => ∃ g h, FA w v lo hi g h
  | .re d lo hi => 0 < d ∧ ∃ g h g' h', FR w v d lo hi g h g' h'
  | .bu d lo hi d' lo' hi' => 0 < d ∧ 0 < d' ∧ ∃ g h g1 h1 g2 h2 k1 l1 k2 l2, FB w v d lo hi d' lo' hi' g h g1 h1 g2 h2 k1 l1 k2 l2
  | .al => v = fL
theorem FT.on {w w' : World} {v : Value} {t : D.Ts} (h : FT w v t) (hb : Below w.heap.size w w') : FT w' v t := by
  cases t with
  | am lo hi => obtain ⟨g, h', f⟩ := h; exact ⟨g, h', f.on hb⟩
  | re d lo hi => obtain ⟨hd, g, h', g', h'', f⟩ := h; exact ⟨hd, g, h', g', h'', f.on hb⟩
  | bu d lo hi d' lo' hi' => obtain ⟨hd, hd', g, h', g1, h1, g2, h2, k1, l1, k2, l2, f⟩ := h; exact ⟨hd, hd', g, h', g1, h1, g2, h2, k1, l1, k2, l2, f.on hb⟩
  | al => exact h
theorem FT.one {w : World} {v : Value} {t : D.Ts} (h : FT w v t) : v.oneCell' = true := by
  cases t with
  | am lo hi => obtain ⟨g, h', f⟩ := h; rw [f.e]; rfl
  | re d lo hi => obtain ⟨hd, g, h', g', h'', f⟩ := h; rw [f.e]; rfl
  | bu d lo hi d' lo' hi' => obtain ⟨hd, hd', g, h', g1, h1, g2, h2, k1, l1, k2, l2, f⟩ := h; rw [f.e]; rfl
  | al => rw [show v = fL from h]; rfl

/-! How they are made. -/
theorem among_any (lo hi : Nat) (w : World) : Calls Tryz.prog 162 #[.int .u64 lo, .int .u64 hi] w fun e w' => ∃ v g h, e = .returned v ∧ FA w' v lo hi g h ∧ v.oneCell' = true ∧ Below w.heap.size w w' := by
  have V0 := Vr.new w w.heap.size (.int .u64 lo) 59 rfl
  have V1 := Vr.new (w.alloc (.cells #[.int .u64 lo] 59)) (w.heap.size + 1) (.int .u64 hi) 59 (by simp)
  have V2 := V0.on (below_alloc_ (w.alloc (.cells #[.int .u64 lo] 59)) (.cells #[.int .u64 hi] 59))
  have hb := (below_alloc_ w (.cells #[.int .u64 lo] 59)).alloc (by simp) (.cells #[.int .u64 hi] 59)
  go_enter Tryz.func162, Tryz.ntmps162
  go_wp2
  go_ret
  exact ⟨_, _, _, rfl, ⟨rfl, V2, V1⟩, rfl, hb⟩
theorem rest_any (d lo hi g h : Nat) (v : Value) (w : World) (f : FA w v lo hi g h) : Calls Tryz.prog 164 #[.int .u64 d, v] w fun e w' => ∃ v1 g1 h1, e = .returned v1 ∧ FR w' v1 d lo hi g1 h1 g h ∧ v1.oneCell' = true ∧ Below w.heap.size w w' := by
  obtain rfl := f.e
  have V0 := Vr.new w w.heap.size (.int .u64 d) 59 rfl
  have V1 := Vr.new (w.alloc (.cells #[.int .u64 d] 59)) (w.heap.size + 1) (fA g h) 215 (by simp)
  have V2 := V0.on (below_alloc_ (w.alloc (.cells #[.int .u64 d] 59)) (.cells #[fA g h] 215))
  have hb := (below_alloc_ w (.cells #[.int .u64 d] 59)).alloc (by simp) (.cells #[fA g h] 215)
  have f' := f.on hb
  go_enter Tryz.func164, Tryz.ntmps164
  go_wp2
  go_ret
  exact ⟨_, _, _, rfl, ⟨rfl, V1, V2, f'⟩, rfl, hb⟩
theorem but_any (d lo hi d' lo' hi' g h g' h' k l k' l' : Nat) (v u : Value) (w : World) (f : FR w v d lo hi g h g' h') (s : FR w u d' lo' hi' k l k' l') : Calls Tryz.prog 163 #[v, u] w fun e w' => ∃ v1 g1 h1, e = .returned v1 ∧ FB w' v1 d lo hi d' lo' hi' g1 h1 g h g' h' k l k' l' ∧ v1.oneCell' = true ∧ Below w.heap.size w w' := by
  obtain rfl := f.e
  obtain rfl := s.e
  have V0 := Vr.new w w.heap.size (fR g h) 215 rfl
  have V1 := Vr.new (w.alloc (.cells #[fR g h] 215)) (w.heap.size + 1) (fR k l) 215 (by simp)
  have V2 := V0.on (below_alloc_ (w.alloc (.cells #[fR g h] 215)) (.cells #[fR k l] 215))
  have hb := (below_alloc_ w (.cells #[fR g h] 215)).alloc (by simp) (.cells #[fR k l] 215)
  have f' := f.on hb
  have s' := s.on hb
  go_enter Tryz.func163, Tryz.ntmps163
  go_wp2
  go_ret
  exact ⟨_, _, _, rfl, ⟨rfl, V2, V1, f', s'⟩, rfl, hb⟩
theorem all_any (w : World) : Calls Tryz.prog 165 #[] w fun e w' => ∃ v, e = .returned v ∧ Kept (v = fL) ∧ v.oneCell' = true ∧ w = w' := by
  go_enter Tryz.func165, Tryz.ntmps165
  go_wp2
  go_ret
  exact ⟨_, rfl, ⟨rfl⟩, rfl, rfl⟩

/-! What they answer. -/
theorem am_cl (n lo hi g h : Nat) (w : World) (V0 : Vr w g (.int .u64 lo)) (V1 : Vr w h (.int .u64 hi)) : Calls Tryz.prog 204 #[.int .u64 n, vp g, vp h] w fun e w' => e = .returned (.bool (decide (lo ≤ n ∧ n ≤ hi))) ∧ w = w' := by
  have c0 := V0.c
  have c1 := V1.c
  by_cases h1 : lo ≤ n
  · by_cases h2 : n ≤ hi
    · rw [decide_eq_true ⟨h1, h2⟩]
      go_enter Tryz.func204, Tryz.ntmps204
      go_wp2
      go_ret
      exact ⟨rfl, rfl⟩
    · rw [decide_eq_false (fun k => h2 k.2)]
      have h3 : ¬ ((n : Int) ≤ hi) := by omega
      go_enter Tryz.func204, Tryz.ntmps204
      go_wp2
      go_ret
      exact ⟨rfl, rfl⟩
  · rw [decide_eq_false (fun k => h1 k.1)]
    have h3 : ¬ ((lo : Int) ≤ n) := by omega
    go_enter Tryz.func204, Tryz.ntmps204
    go_wp2
    go_ret
    exact ⟨rfl, rfl⟩
end Go.Proofs.YtohhfcfnclafdaaGreatDoor
set_option linter.unusedVariables false
set_option linter.unusedSimpArgs false
namespace Go.Proofs.YtohhfcfnclafdaaGreatDoor
open Go.RowKit
attribute [local go_sem ↓] Go.wp_at_zero Go.wp_at_succ

theorem re_cl (n d lo hi g h g' h' : Nat) (w : World) (f : FR w (fR g h) d lo hi g h g' h') (hd : 0 < d) : Calls Tryz.prog 206 #[.int .u64 n, vp g, vp h] w fun e w' => e = .returned (.bool (decide (lo ≤ n % d ∧ n % d ≤ hi))) ∧ ∃ q, w' = w.drewN q := by
  have c0 := f.g.c
  have c1 := f.h.c
  have a0 := f.a.g
  have a1 := f.a.h
  have hd' : (d : Int) ≠ 0 := by omega
  have C := fun k => am_cl (n % d) lo hi g' h' (w.drewN k) (a0.on ⟨rfl, rfl, rfl, Nat.le_refl _, fun _ _ => rfl⟩) (a1.on ⟨rfl, rfl, rfl, Nat.le_refl _, fun _ _ => rfl⟩)
  obtain ⟨b, hb⟩ : ∃ b, decide (lo ≤ n % d ∧ n % d ≤ hi) = b := ⟨_, rfl⟩
  rw [Int.natCast_emod, hb] at C
  rw [hb]
  have CC := Lib.hid C
  clear f a0 a1 hb C
  go_enter Tryz.func206, Tryz.ntmps206
  go_wp2_with fail
  go_quiet ((go_at_call 204; exact quietly (CC.out _)))
  go_wp2
  go_ret
  exact ⟨rfl, _, rfl⟩
theorem bu_cl (n d lo hi d' lo' hi' g h g1 h1 g2 h2 k1 l1 k2 l2 : Nat) (w : World) (f : FB w (fB g h) d lo hi d' lo' hi' g h g1 h1 g2 h2 k1 l1 k2 l2) (hd : 0 < d) (hd' : 0 < d') : Calls Tryz.prog 205 #[.int .u64 n, vp g, vp h] w fun e w' => e = .returned (.bool (decide (lo ≤ n % d ∧ n % d ≤ hi) && !decide (lo' ≤ n % d' ∧ n % d' ≤ hi'))) ∧ ∃ q, w' = w.drewN q := by
  have c0 := f.g.c
  have c1 := f.h.c
  have C := re_cl n d lo hi g1 h1 g2 h2 w f.r hd
  have C2 := fun q => re_cl n d' lo' hi' k1 l1 k2 l2 (w.drewN q) (f.s.on ⟨rfl, rfl, rfl, Nat.le_refl _, fun _ _ => rfl⟩) hd'
  have c2 : ∀ q, (w.drewN q).cell? ⟨h, 0, none⟩ = some (Value.func (Fn.func 206) #[] #[vp k1, vp l1]) := fun _ => c1
  obtain ⟨b, hb⟩ : ∃ b, decide (lo ≤ n % d ∧ n % d ≤ hi) = b := ⟨_, rfl⟩
  obtain ⟨b', hb'⟩ : ∃ b, decide (lo' ≤ n % d' ∧ n % d' ≤ hi') = b := ⟨_, rfl⟩
  rw [hb] at C
  rw [hb'] at C2
  rw [hb, hb']
  have CC := Lib.hid C
  have CD := Lib.hid C2
  clear f hb hb' C C2
  cases b
  · go_enter Tryz.func205, Tryz.ntmps205
    go_wp2_with (go_at_call 206; (with_reducible refine CC.out.mono ?_); rintro e w1 ⟨rfl, q, rfl⟩)
    go_ret
    exact ⟨rfl, _, rfl⟩
  · go_enter Tryz.func205, Tryz.ntmps205
    go_wp2_with (first
      | (go_at_call 206; (with_reducible refine CC.out.mono ?_); rintro e w1 ⟨rfl, q, rfl⟩)
      | (go_at_call 206; (with_reducible refine (CD.out _).mono ?_); rintro e w1 ⟨rfl, q', rfl⟩))
    go_ret
    exact ⟨by simp, _, rfl⟩
theorem al_cl (n : Nat) (w : World) : Calls Tryz.prog 207 #[.int .u64 n] w fun e w' => e = .returned (.bool true) ∧ w = w' := by
  go_enter Tryz.func207, Tryz.ntmps207
  go_wp2
  go_ret
  exact ⟨rfl, rfl⟩
end Go.Proofs.YtohhfcfnclafdaaGreatDoor
set_option linter.unusedVariables false
set_option linter.unusedSimpArgs false
set_option maxRecDepth 100000
namespace Go.Proofs.YtohhfcfnclafdaaGreatDoor
open Go.RowKit
attribute [local go_sem ↓] Go.wp_at_zero Go.wp_at_succ

/-- A rule into a variable that was made last. -/
noncomputable def stu (p v : Value) : Sem Unit := Instr.storeAt 217 p v
theorem st_u (p v : Value) : Instr.storeAt 217 p v = stu p v := rfl
theorem run_stu (w : World) (n : Nat) (c : Int) (v : Value) (h : n = w.heap.size) (hv : v.oneCell' = true) :
    (stu (.pointer (some ⟨n, 0, none⟩)) (.agg #[.int .i64 c, v])).run Tryz.prog (w.alloc (.cells #[.int .i64 0, .nilFunc] 217)) = .ok () (w.alloc (.cells #[.int .i64 c, v] 217)) := by
  subst h
  exact run_storeAt_new (P := Tryz.prog) w 217 _ #[.int .i64 c, v] (by kernel_rfl) rfl (by simp [hv]; rfl)
noncomputable def bdu (ps : Array (Nat × Value)) : Sem Value := Instr.build 217 ps
theorem bd_u (ps : Array (Nat × Value)) : Instr.build 217 ps = bdu ps := rfl
theorem run_bdu (w : World) (c : Int) (v : Value) (hv : v.oneCell' = true) : (bdu #[(0, .int .i64 c), (1, v)]).run Tryz.prog w = .ok (.agg #[.int .i64 c, v]) w := by
  cases v <;> first
    | (simp [Value.oneCell'] at hv; done)
    | (simp [bdu, Instr.build, go_sem]; done)
/-- Of what was there at the beginning nothing has turned. -/
structure Fw (w0 w : World) : Prop where
  below : Below w0.heap.size w0 w
theorem Fw.self (w : World) : Fw w w := ⟨Below.refl _ _⟩
theorem Fw.alloc {w0 w : World} (h : Fw w0 w) (o : Obj) : Fw w0 (w.alloc o) := ⟨h.below.alloc h.below.size o⟩
theorem Fw.on {w0 w w' : World} (h : Fw w0 w) (hb : Below w.heap.size w w') : Fw w0 w' := ⟨h.below.trans (hb.mono h.below.size)⟩
/-- A row of rules. -/
structure RR (w : World) (A : Option Addr) (n : Nat) (l : List (Nat × D.Ts)) : Prop where
  len : l.length = n
  at_ : ∀ (i c : Nat) (t : D.Ts), l[i]? = some (c, t) → ∃ g v, A = some ⟨g, 0, none⟩ ∧ w.cell? ⟨g, i * 2, none⟩ = some (.int .i64 c) ∧ w.cell? ⟨g, i * 2 + 1, none⟩ = some v ∧ FT w v t
theorem RR.on {w w' : World} {A : Option Addr} {n : Nat} {l : List (Nat × D.Ts)} (h : RR w A n l) (hb : Below w.heap.size w w') : RR w' A n l := ⟨h.len, fun i c t hi => by
  obtain ⟨g, v, e, h1, h2, h3⟩ := h.at_ i c t hi
  have hg : g < w.heap.size := World.block_lt_of_cell? w _ h1
  exact ⟨g, v, e, (hb.cell (p := ⟨g, i * 2, none⟩) hg).trans h1, (hb.cell (p := ⟨g, i * 2 + 1, none⟩) hg).trans h2, h3.on hb⟩⟩
theorem RR.nil (w : World) (A : Option Addr) : RR w A 0 [] := ⟨rfl, fun i c t h => by simp at h⟩
/-- The cells of rules whose tests are these values. -/
def rcl : List (Nat × Value) → List Value
  | [] => []
  | (c, v) :: r => .int .i64 c :: v :: rcl r
theorem rcl_at : ∀ {l : List (Nat × Value)} {i c : Nat} {v : Value}, l[i]? = some (c, v) → (rcl l)[i * 2]? = some (.int .i64 c) ∧ (rcl l)[i * 2 + 1]? = some v
  | [], i, c, v, h => by simp at h
  | (c', v') :: r, 0, c, v, h => by
    simp at h
    obtain ⟨rfl, rfl⟩ := h
    exact ⟨rfl, rfl⟩
  | (c', v') :: r, i + 1, c, v, h => by
    have := rcl_at (l := r) (i := i) (c := c) (v := v) (by simpa using h)
    rw [show (i + 1) * 2 = i * 2 + 1 + 1 by omega, rcl, List.getElem?_cons_succ, List.getElem?_cons_succ, List.getElem?_cons_succ, List.getElem?_cons_succ]
    exact this
theorem add_oo (g j : Nat) : (⟨g, 0, none⟩ : Addr).add j = ⟨g, j, none⟩ := by
  by_cases h : j = 0
  · subst h; rfl
  · simp [Addr.add, h]
/-- A new row of rules. -/
theorem RR.new (w : World) (g : Nat) (T : TypeId) (hg : g = w.heap.size) (l : List (Nat × Value × D.Ts)) (hl : ∀ q ∈ l, FT w q.2.1 q.2.2) (cs : Array Value) (hc : cs.toList = rcl (l.map fun q => (q.1, q.2.1))) (n : Nat) (hn : l.length = n) :
    RR (w.alloc (.cells cs T)) (some ⟨g, 0, none⟩) n (l.map fun q => (q.1, q.2.2)) := by
  subst hg
  refine ⟨by simpa using hn, fun i c t hi => ?_⟩
  rw [List.getElem?_map] at hi
  cases hq : l[i]? with
  | none => rw [hq] at hi; cases hi
  | some q =>
    rw [hq] at hi
    obtain ⟨c', v, t'⟩ := q
    simp only [Option.map_some, Option.some.injEq, Prod.mk.injEq] at hi
    obtain ⟨rfl, rfl⟩ := hi
    obtain ⟨h1, h2⟩ := rcl_at (l := l.map fun q => (q.1, q.2.1)) (i := i) (c := c') (v := v) (by rw [List.getElem?_map, hq]; rfl)
    rw [← hc] at h1 h2
    have e1 := World.news_of_block (heap_alloc_new w (.cells cs T)) (i * 2) _ h1
    have e2 := World.news_of_block (heap_alloc_new w (.cells cs T)) (i * 2 + 1) _ h2
    rw [add_oo] at e1
    rw [add_oo] at e2
    exact ⟨_, v, rfl, e1, e2, (hl _ (List.mem_of_getElem? hq)).on (below_alloc_ _ _)⟩
theorem txt_test (s : ByteArray) (u : List UInt8) (l : List Nat) (h : u.map (·.toNat) = l) : (s.toList == u) = decide (D.ns s = l) := by
  rw [ByteArray.toList_eq, Bool.eq_iff_iff, beq_iff_eq, decide_eq_true_eq, D.ns, ← h]
  constructor
  · intro e; rw [e]
  · intro e
    have : s = ⟨u.toArray⟩ := D.ns_inj (by rw [D.ns, e]; simp [D.ns])
    rw [this]
/-! The makers at the numbers that the rules name. -/
theorem am_11 (w : World) : Calls Tryz.prog 162 #[.int .u64 1, .int .u64 1] w fun e w' => ∃ v g h, e = .returned v ∧ FA w' v 1 1 g h ∧ v.oneCell' = true ∧ Below w.heap.size w w' := among_any 1 1 w
theorem am_24 (w : World) : Calls Tryz.prog 162 #[.int .u64 2, .int .u64 4] w fun e w' => ∃ v g h, e = .returned v ∧ FA w' v 2 4 g h ∧ v.oneCell' = true ∧ Below w.heap.size w w' := among_any 2 4 w
theorem am_1214 (w : World) : Calls Tryz.prog 162 #[.int .u64 12, .int .u64 14] w fun e w' => ∃ v g h, e = .returned v ∧ FA w' v 12 14 g h ∧ v.oneCell' = true ∧ Below w.heap.size w w' := among_any 12 14 w
theorem am_1119 (w : World) : Calls Tryz.prog 162 #[.int .u64 11, .int .u64 19] w fun e w' => ∃ v g h, e = .returned v ∧ FA w' v 11 19 g h ∧ v.oneCell' = true ∧ Below w.heap.size w w' := among_any 11 19 w
theorem am_01 (w : World) : Calls Tryz.prog 162 #[.int .u64 0, .int .u64 1] w fun e w' => ∃ v g h, e = .returned v ∧ FA w' v 0 1 g h ∧ v.oneCell' = true ∧ Below w.heap.size w w' := among_any 0 1 w
theorem am_1111 (w : World) : Calls Tryz.prog 162 #[.int .u64 11, .int .u64 11] w fun e w' => ∃ v g h, e = .returned v ∧ FA w' v 11 11 g h ∧ v.oneCell' = true ∧ Below w.heap.size w w' := among_any 11 11 w
theorem am_00 (w : World) : Calls Tryz.prog 162 #[.int .u64 0, .int .u64 0] w fun e w' => ∃ v g h, e = .returned v ∧ FA w' v 0 0 g h ∧ v.oneCell' = true ∧ Below w.heap.size w w' := among_any 0 0 w
theorem am_22 (w : World) : Calls Tryz.prog 162 #[.int .u64 2, .int .u64 2] w fun e w' => ∃ v g h, e = .returned v ∧ FA w' v 2 2 g h ∧ v.oneCell' = true ∧ Below w.heap.size w w' := among_any 2 2 w
theorem am_310 (w : World) : Calls Tryz.prog 162 #[.int .u64 3, .int .u64 10] w fun e w' => ∃ v g h, e = .returned v ∧ FA w' v 3 10 g h ∧ v.oneCell' = true ∧ Below w.heap.size w w' := among_any 3 10 w
theorem am_1199 (w : World) : Calls Tryz.prog 162 #[.int .u64 11, .int .u64 99] w fun e w' => ∃ v g h, e = .returned v ∧ FA w' v 11 99 g h ∧ v.oneCell' = true ∧ Below w.heap.size w w' := among_any 11 99 w
theorem am_29 (w : World) : Calls Tryz.prog 162 #[.int .u64 2, .int .u64 9] w fun e w' => ∃ v g h, e = .returned v ∧ FA w' v 2 9 g h ∧ v.oneCell' = true ∧ Below w.heap.size w w' := among_any 2 9 w
theorem re_10 (lo hi g h : Nat) (v : Value) (w : World) (f : FA w v lo hi g h) : Calls Tryz.prog 164 #[.int .u64 10, v] w fun e w' => ∃ v1 g1 h1, e = .returned v1 ∧ FR w' v1 10 lo hi g1 h1 g h ∧ v1.oneCell' = true ∧ Below w.heap.size w w' := rest_any 10 lo hi g h v w f
theorem re_100 (lo hi g h : Nat) (v : Value) (w : World) (f : FA w v lo hi g h) : Calls Tryz.prog 164 #[.int .u64 100, v] w fun e w' => ∃ v1 g1 h1, e = .returned v1 ∧ FR w' v1 100 lo hi g1 h1 g h ∧ v1.oneCell' = true ∧ Below w.heap.size w w' := rest_any 100 lo hi g h v w f
/-- The tests of a text's being a language. -/
structure Tst (s : ByteArray) (k : Nat → Bool) : Prop where
  t0 : (s.toList == [106, 97]) = k 0
  t1 : (s.toList == [107, 111]) = k 1
  t2 : (s.toList == [122, 104]) = k 2
  t3 : (s.toList == [118, 105]) = k 3
  t4 : (s.toList == [116, 104]) = k 4
  t5 : (s.toList == [105, 100]) = k 5
  t6 : (s.toList == [102, 114]) = k 6
  t7 : (s.toList == [112, 116]) = k 7
  t8 : (s.toList == [114, 117]) = k 8
  t9 : (s.toList == [117, 107]) = k 9
  t10 : (s.toList == [115, 114]) = k 10
  t11 : (s.toList == [112, 108]) = k 11
  t12 : (s.toList == [99, 115]) = k 12
  t13 : (s.toList == [115, 107]) = k 13
  t14 : (s.toList == [97, 114]) = k 14
  t15 : (s.toList == [108, 116]) = k 15
theorem tst_any (s : ByteArray) : Tst s fun i => decide (D.ns s = (D.langs.getD i ([], 0)).1) := ⟨txt_test s _ _ rfl, txt_test s _ _ rfl, txt_test s _ _ rfl, txt_test s _ _ rfl, txt_test s _ _ rfl, txt_test s _ _ rfl, txt_test s _ _ rfl, txt_test s _ _ rfl, txt_test s _ _ rfl, txt_test s _ _ rfl, txt_test s _ _ rfl, txt_test s _ _ rfl, txt_test s _ _ rfl, txt_test s _ _ rfl, txt_test s _ _ rfl, txt_test s _ _ rfl⟩
/-- Either it is the language of this number, or none. -/
theorem tst_cases (s : ByteArray) : (∃ i, i < 16 ∧ (Tst s fun j => decide (j = i ∨ 16 ≤ j)) ∧ D.grp (D.ns s) = (D.langs.getD i ([], 0)).2) ∨ ((Tst s fun _ => false) ∧ D.grp (D.ns s) = 0) := by
  have h := tst_any s
  by_cases hs : ∃ i, i < 16 ∧ D.ns s = (D.langs.getD i ([], 0)).1
  · obtain ⟨i, hi, e⟩ := hs
    refine .inl ⟨i, hi, ?_, ?_⟩
    · rw [e] at h
      have : ∀ i : Fin 16, ∀ j : Fin 16, decide ((D.langs.getD i.1 ([], 0)).1 = (D.langs.getD j.1 ([], 0)).1) = decide (j.1 = i.1 ∨ 16 ≤ j.1) := by decide +kernel
      have g : ∀ j, j < 16 → decide ((D.langs.getD i ([], 0)).1 = (D.langs.getD j ([], 0)).1) = decide (j = i ∨ 16 ≤ j) := fun j hj => this ⟨i, hi⟩ ⟨j, hj⟩
      exact ⟨h.t0.trans (g 0 (by omega)), h.t1.trans (g 1 (by omega)), h.t2.trans (g 2 (by omega)), h.t3.trans (g 3 (by omega)), h.t4.trans (g 4 (by omega)), h.t5.trans (g 5 (by omega)), h.t6.trans (g 6 (by omega)), h.t7.trans (g 7 (by omega)), h.t8.trans (g 8 (by omega)), h.t9.trans (g 9 (by omega)), h.t10.trans (g 10 (by omega)), h.t11.trans (g 11 (by omega)), h.t12.trans (g 12 (by omega)), h.t13.trans (g 13 (by omega)), h.t14.trans (g 14 (by omega)), h.t15.trans (g 15 (by omega))⟩
    · rw [e]
      have : ∀ i : Fin 16, D.grp (D.langs.getD i.1 ([], 0)).1 = (D.langs.getD i.1 ([], 0)).2 := by decide +kernel
      exact this ⟨i, hi⟩
  · have hn : ∀ i, i < 16 → decide (D.ns s = (D.langs.getD i ([], 0)).1) = false := fun i hi => decide_eq_false fun e => hs ⟨i, hi, e⟩
    refine .inr ⟨⟨h.t0.trans (hn 0 (by omega)), h.t1.trans (hn 1 (by omega)), h.t2.trans (hn 2 (by omega)), h.t3.trans (hn 3 (by omega)), h.t4.trans (hn 4 (by omega)), h.t5.trans (hn 5 (by omega)), h.t6.trans (hn 6 (by omega)), h.t7.trans (hn 7 (by omega)), h.t8.trans (hn 8 (by omega)), h.t9.trans (hn 9 (by omega)), h.t10.trans (hn 10 (by omega)), h.t11.trans (hn 11 (by omega)), h.t12.trans (hn 12 (by omega)), h.t13.trans (hn 13 (by omega)), h.t14.trans (hn 14 (by omega)), h.t15.trans (hn 15 (by omega))⟩, D.grp_none fun q hq e => ?_⟩
    obtain ⟨i, hi, rfl⟩ := List.mem_iff_getElem.1 hq
    have hi' : i < 16 := hi
    have := hn i hi'
    rw [List.getD, List.getElem?_eq_getElem hi] at this
    simp at this
    exact this e.symm
end Go.Proofs.YtohhfcfnclafdaaGreatDoor
