/-
  
-/
import Derived.Test.YtgnjjlgmlokhmaaGreatDoorG04
import Derived.Deep.Light
import Derived.Test.YtgnjjlgmlokhmaaGreatDoorG00
import Derived.Test.YtgnjjlgmlokhmaaGreatDoorG06
import Derived.IntWalk
import Derived.BigQuiet
import Derived.Deep.QuietTactic
set_option linter.unusedVariables false
set_option linter.unusedSimpArgs false
set_option maxRecDepth 100000
namespace Go.Proofs.YtgnjjlgmlokhmaaGreatDoor.Nm
open Go.RowKit
attribute [local go_sem ↓] Go.wp_at_zero Go.wp_at_succ
structure Fyne (t : List Nat) (k : Nat) : Prop where
 out : ∀ i b, i < k -> t[i]? = some b -> D.mayB b = true
theorem fyne_first (t : List Nat) : Fyne t 0 := ⟨fun i b h => absurd h (by omega)⟩
theorem fyne_next {t : List Nat} {k b : Nat} (h : Fyne t k) (hb : t[k]? = some b) (hm : D.mayB b = true) : Fyne t (k + 1) := ⟨fun i c hi hc => by
 by_cases e : i = k
 ·subst e
  rw [hb] at hc
  injection hc with hc
  subst hc
  exact hm
 ·exact h.out i c (by omega) hc⟩
theorem fyne_all {t : List Nat} {k : Nat} (h : Fyne t k) (hk : t.length <= k) (h1 : 1 <= t.length) (h2 : t.length <= 12) (hl : D.letB (t.getD 0 0) = true) : D.isB t = true :=
 D.isB_iff.2 ⟨h1, h2, hl, fun c hc => by
  obtain ⟨i, hi, e⟩ := List.getElem_of_mem hc
  exact h.out i c (by omega) (by rw [List.getElem?_eq_getElem hi, e])⟩
theorem not_fyne {t : List Nat} {k b : Nat} (hb : t[k]? = some b) (hm : D.mayB b = false) : D.isB t = false := by
 cases h : D.isB t
 ·rfl
 ·have := (D.isB_iff.1 h).2.2.2 b (List.mem_of_getElem? hb)
  rw [hm] at this; cases this

structure Good (t : List Nat) (k : Nat) : Prop where
 fine : Fyne t k
 first : 0 < k -> D.letB (t.getD 0 0) = true
theorem good_next {t : List Nat} {k b : Nat} (h : Good t k) (hb : t[k]? = some b) (hm : D.mayB b = true) (hl : k = 0 -> D.letB b = true) : Good t (k + 1) := ⟨fyne_next h.fine hb hm, fun _ => by
 by_cases e : k = 0
 ·subst e
  rw [List.getD, hb]
  exact hl rfl
 ·exact h.first (by omega)⟩
theorem not_good {t : List Nat} {k b : Nat} (hb : t[k]? = some b) (h : D.mayB b = false ∨ (k = 0 ∧ D.letB b = false)) : false = D.isB t := by
 rcases h with h | ⟨rfl, h⟩
 ·exact (not_fyne hb h).symm
 ·cases hi : D.isB t
  ·rfl
  ·have := (D.isB_iff.1 hi).2.2.1
   rw [List.getD, hb] at this
   simp only [Option.getD_some] at this
   rw [h] at this; cases this
set_option maxRecDepth 100000 in
set_option maxHeartbeats 1000000 in
theorem ref_is (s : ByteArray) (w : World) :
  Calls Tryz.prog 52 #[.string s] w fun e w' => e = .returned (.bool (D.isB (D.ns s))) ∧ w = w' := by
 by_cases h1 : 1 <= s.size
 ·by_cases h2 : s.size <= 12
  ·have c1 : ¬ ((s.size : Int) < 1) := by omega
   have c2 : ¬ ((12 : Int) < (s.size : Int)) := by omega
   go_enter Tryz.func52, Tryz.ntmps52
   go_wp2
   go_loop [3] (fun i => ∃ k : Nat, k <= s.size ∧ i = .int .i64 k ∧ Good (D.ns s) k) (fun i => s.size - (intOf i).toNat)
   case atStart => exact ⟨0, Nat.zero_le _, rfl, fyne_first _, fun h => absurd h (by omega)⟩
   case round =>
    obtain ⟨k, hk, rfl, HG⟩ := hrel
    by_cases hlt : k < s.size
    ·have hb := ns_get hlt
     obtain ⟨b, hq⟩ : ∃ b, s[k].toNat = b := ⟨_, rfl⟩
     have HN := fun hm hl => good_next (b := b) HG (by rw [<- hq]; exact hb) hm hl
     have HB := fun h => not_good (b := b) (t := D.ns s) (k := k) (by rw [<- hq]; exact hb) h
     have H1 := Lib.hid HN
     have H2 := Lib.hid HB
     clear HN HB HG hb c1 c2
     go_wp2
     all_goals first
      | (go_ret
         refine ⟨bool_of (H2.out ?_), rfl⟩
         go_light
         (try simp at *)
         simp [D.mayB, D.letB]
         omega)
      | (go_round
         case rel =>
          refine ⟨k + 1, by omega, by go_num, H1.out ?_ ?_⟩
          ·go_light
           (try simp at *)
           simp [D.mayB, D.letB]
           omega
          ·go_light
           (try simp at *)
           simp [D.letB]
           omega
         case measure => simp [intOf]; omega)
    ·have HI := Lib.hid (show true = D.isB (D.ns s) from (fyne_all HG.fine (by rw [D.ns_len]; omega) (by rw [D.ns_len]; exact h1) (by rw [D.ns_len]; exact h2) (HG.first (by omega))).symm)
     clear HG c1 c2
     go_wp2
     go_ret
     exact ⟨bool_of HI.out, rfl⟩
  ·have HI := Lib.hid (show false = D.isB (D.ns s) by simp [D.isB, D.ns_len, h2])
   have c1 : decide ((s.size : Int) < 1) = false := decide_eq_false (by omega)
   have c2 : decide ((12 : Int) < (s.size : Int)) = true := decide_eq_true (by omega)
   go_enter Tryz.func52, Tryz.ntmps52
   go_wp2
   go_ret
   exact ⟨bool_of HI.out, rfl⟩
 ·have HI := Lib.hid (show false = D.isB (D.ns s) by simp [D.isB, D.ns_len]; omega)
  have c1 : decide ((s.size : Int) < 1) = true := decide_eq_true (by omega)
  go_enter Tryz.func52, Tryz.ntmps52
  go_wp2
  go_ret
  exact ⟨bool_of HI.out, rfl⟩
end Go.Proofs.YtgnjjlgmlokhmaaGreatDoor.Nm
namespace Go.Proofs.YtgnjjlgmlokhmaaGreatDoor
namespace D
def lg (x : Tg) : List Nat := match pt x with
 | none => rootT
 | some p => txt ⟨p.l, [], []⟩
def langs : List (List Nat × Nat) := [([106, 97], 1), ([107, 111], 1), ([122, 104], 1), ([118, 105], 1), ([116, 104], 1), ([105, 100], 1), ([102, 114], 2), ([112, 116], 2), ([114, 117], 3), ([117, 107], 3), ([115, 114], 3), ([112, 108], 4), ([99, 115], 5), ([115, 107], 5), ([97, 114], 6), ([108, 116], 7)]
def grp (l : List Nat) : Nat := ((langs.find? (fun q => q.1 == l)).map (·.2)).getD 0
def gr (x : Tg) : Nat := grp (lg x)
theorem langs_pos : ∀ q ∈ langs, 1 <= q.2 ∧ q.2 <= 7 := by decide
theorem grp_le (l : List Nat) : grp l <= 7 := by
 unfold grp
 cases h : langs.find? (fun q => q.1 == l) with
 | none => decide
 | some q => exact (langs_pos q (List.mem_of_find?_eq_some h)).2
theorem gr_le (x : Tg) : gr x <= 7 := grp_le _
theorem grp_none {l : List Nat} (h : ∀ q ∈ langs, q.1 ≠ l) : grp l = 0 := by
 unfold grp
 rw [List.find?_eq_none.2 (fun q hq => by simpa using h q hq)]
 rfl
def lt3 (x : Tg) : Tg := ⟨pl x ++ [0, 0, 0, 0, 0, 0, 0], by have := x.len; simp [pl]; omega, by
 intro b hb
 rcases List.mem_append.1 hb with h | h
 ·exact x.lt b (List.mem_of_mem_take h)
 ·have : b = 0 := by simpa using h
  omega⟩
theorem can_l {p : Pt} (h : Can p) : Can ⟨p.l, [], []⟩ := by
 rcases h with rfl | ⟨hl, _⟩
 ·exact .inl rfl
 ·exact .inr ⟨hl, .inl rfl, .inl rfl⟩
theorem lt3_some {x : Tg} {p : Pt} (h : pt x = some p) : lt3 x = tb ⟨p.l, [], []⟩ := by
 obtain ⟨hc, rfl⟩ := pt_some h
 refine Tg.eq ?_
 rw [can_tb (can_l hc)]
 show pl (tb p) ++ _ = _
 rw [(parts_tb hc).1]
 rfl
def few (n : Nat) : Bool := decide (2 <= n % 10 ∧ n % 10 <= 4 ∧ ¬ (12 <= n % 100 ∧ n % 100 <= 14))
def teen (n : Nat) : Bool := decide (11 <= n % 100 ∧ n % 100 <= 19)
def pof (g n : Nat) : Nat :=
 if g = 1 then 5
 else if g = 2 then (if n = 0 ∨ n = 1 then 1 else 5)
 else if g = 3 then (if n % 10 = 1 ∧ n % 100 ≠ 11 then 1 else if few n then 3 else 4)
 else if g = 4 then (if n = 1 then 1 else if few n then 3 else 4)
 else if g = 5 then (if n = 1 then 1 else if 2 <= n ∧ n <= 4 then 3 else 5)
 else if g = 6 then (if n <= 2 then n else if 3 <= n % 100 ∧ n % 100 <= 10 then 3 else if 11 <= n % 100 then 4 else 5)
 else if g = 7 then (if n % 10 = 1 ∧ teen n = false then 1 else if 2 <= n % 10 ∧ teen n = false then 3 else 5)
 else (if n = 1 then 1 else 5)
theorem pof_le (g n : Nat) : pof g n <= 5 := by
 unfold pof
 repeat' split
 all_goals omega
inductive Ts where
 | am (lo hi : Nat)
 | re (d lo hi : Nat)
 | bu (d lo hi d' lo' hi' : Nat)
 | al
def Ts.ev (n : Nat) : Ts -> Bool
 | .am lo hi => decide (lo <= n ∧ n <= hi)
 | .re d lo hi => decide (lo <= n % d ∧ n % d <= hi)
 | .bu d lo hi d' lo' hi' => decide (lo <= n % d ∧ n % d <= hi) && !decide (lo' <= n % d' ∧ n % d' <= hi')
 | .al => true
def rls (g : Nat) : List (Nat × Ts) :=
 if g = 1 then []
 else if g = 2 then [(1, .am 0 1)]
 else if g = 3 then [(1, .bu 10 1 1 100 11 11), (3, .bu 10 2 4 100 12 14), (4, .al)]
 else if g = 4 then [(1, .am 1 1), (3, .bu 10 2 4 100 12 14), (4, .al)]
 else if g = 5 then [(1, .am 1 1), (3, .am 2 4)]
 else if g = 6 then [(0, .am 0 0), (1, .am 1 1), (2, .am 2 2), (3, .re 100 3 10), (4, .re 100 11 99)]
 else if g = 7 then [(1, .bu 10 1 1 100 11 19), (3, .bu 10 2 9 100 11 19)]
 else [(1, .am 1 1)]
def fst (n : Nat) : List (Nat × Ts) -> Nat
 | [] => 5
 | (c, t) :: r => if t.ev n then c else fst n r
theorem fst_pof {g : Nat} (hg : g <= 7) (n : Nat) : fst n (rls g) = pof g n := by
 obtain rfl | rfl | rfl | rfl | rfl | rfl | rfl | rfl : g = 0 ∨ g = 1 ∨ g = 2 ∨ g = 3 ∨ g = 4 ∨ g = 5 ∨ g = 6 ∨ g = 7 := by omega
 all_goals simp [rls, fst, pof, Ts.ev, few, teen]
 all_goals repeat' split
 all_goals first | rfl | omega
theorem rls_len (g : Nat) : (rls g).length <= 5 := by
 unfold rls
 repeat' split
 all_goals decide
def wrds : List (List Nat) := [[122, 101, 114, 111], [111, 110, 101], [116, 119, 111], [102, 101, 119], [109, 97, 110, 121], [111, 116, 104, 101, 114]]
def wrd (c : Int) : List Nat := if 0 <= c ∧ c <= 5 then wrds.getD c.toNat [] else []
end D
end Go.Proofs.YtgnjjlgmlokhmaaGreatDoor
namespace Go.Proofs.YtgnjjlgmlokhmaaGreatDoor
open Go.RowKit
attribute [local go_sem ↓] Go.wp_at_zero Go.wp_at_succ

structure Vr (w : World) (g : Nat) (v : Value) : Prop where
 c : w.cell? ⟨g, 0, none⟩ = some v
theorem Vr.lt {w : World} {g : Nat} {v : Value} (h : Vr w g v) : g < w.heap.size := World.block_lt_of_cell? w _ h.c
theorem Vr.on {w w' : World} {g : Nat} {v : Value} (h : Vr w g v) (hb : Below w.heap.size w w') : Vr w' g v := ⟨(hb.cell (p := ⟨g, 0, none⟩) h.lt).trans h.c⟩
theorem Vr.new (w : World) (g : Nat) (v : Value) (t : TypeId) (h : g = w.heap.size) : Vr (w.alloc (.cells #[v] t)) g v := by
 subst h
 exact ⟨World.news_of_block (heap_alloc_new w _) 0 v rfl⟩
abbrev vp (g : Nat) : Value := .pointer (some ⟨g, 0, none⟩)
abbrev fA (g h : Nat) : Value := .func (.func 146) #[] #[vp g, vp h]
abbrev fR (g h : Nat) : Value := .func (.func 148) #[] #[vp g, vp h]
abbrev fB (g h : Nat) : Value := .func (.func 147) #[] #[vp g, vp h]
abbrev fL : Value := .func (.func 149) #[] #[]
structure FA (w : World) (v : Value) (lo hi : Nat) (g h : Nat) : Prop where
 e : v = fA g h
 g : Vr w g (.int .u64 lo)
 h : Vr w h (.int .u64 hi)
structure FR (w : World) (v : Value) (d lo hi : Nat) (g h g' h' : Nat) : Prop where
 e : v = fR g h
 g : Vr w g (fA g' h')
 h : Vr w h (.int .u64 d)
 a : FA w (fA g' h') lo hi g' h'
structure FB (w : World) (v : Value) (d lo hi d' lo' hi' : Nat) (g h g1 h1 g2 h2 k1 l1 k2 l2 : Nat) : Prop where
 e : v = fB g h
 g : Vr w g (fR g1 h1)
 h : Vr w h (fR k1 l1)
 r : FR w (fR g1 h1) d lo hi g1 h1 g2 h2
 s : FR w (fR k1 l1) d' lo' hi' k1 l1 k2 l2
section
variable {w w' : World} {v : Value} {d lo hi d' lo' hi' g h g' h' g1 h1 g2 h2 k1 l1 k2 l2 : Nat}
theorem FA.on (f : FA w v lo hi g h) (hb : Below w.heap.size w w') : FA w' v lo hi g h := ⟨f.e, f.g.on hb, f.h.on hb⟩
theorem FR.on (f : FR w v d lo hi g h g' h') (hb : Below w.heap.size w w') : FR w' v d lo hi g h g' h' := ⟨f.e, f.g.on hb, f.h.on hb, f.a.on hb⟩
theorem FB.on (f : FB w v d lo hi d' lo' hi' g h g1 h1 g2 h2 k1 l1 k2 l2) (hb : Below w.heap.size w w') : FB w' v d lo hi d' lo' hi' g h g1 h1 g2 h2 k1 l1 k2 l2 := ⟨f.e, f.g.on hb, f.h.on hb, f.r.on hb, f.s.on hb⟩
end
def FT (w : World) (v : Value) : D.Ts -> Prop
 | .am lo hi => ∃ g h, FA w v lo hi g h
 | .re d lo hi => 0 < d ∧ ∃ g h g' h', FR w v d lo hi g h g' h'
 | .bu d lo hi d' lo' hi' => 0 < d ∧ 0 < d' ∧ ∃ g h g1 h1 g2 h2 k1 l1 k2 l2, FB w v d lo hi d' lo' hi' g h g1 h1 g2 h2 k1 l1 k2 l2
 | .al => v = fL
theorem FT.on {w w' : World} {v : Value} {t : D.Ts} (h : FT w v t) (hb : Below w.heap.size w w') : FT w' v t := by
 cases t with
 | am lo hi => obtain ⟨g, h', f⟩ := h; exact ⟨g, h', f.on hb⟩
 | re d lo hi => obtain ⟨hd, g, h', g', h'', f⟩ := h; exact ⟨hd, g, h', g', h'', f.on hb⟩
 | bu d lo hi d' lo' hi' => obtain ⟨hd, hd', g, h', g1, h1, g2, h2, k1, l1, k2, l2, f⟩ := h; exact ⟨hd, hd', g, h', g1, h1, g2, h2, k1, l1, k2, l2, f.on hb⟩
 | al => exact h
theorem FT.one {w : World} {v : Value} {t : D.Ts} (h : FT w v t) : v.oneCell' = true := by
 cases t with
 | am lo hi => obtain ⟨g, h', f⟩ := h; rw [f.e]; rfl
 | re d lo hi => obtain ⟨hd, g, h', g', h'', f⟩ := h; rw [f.e]; rfl
 | bu d lo hi d' lo' hi' => obtain ⟨hd, hd', g, h', g1, h1, g2, h2, k1, l1, k2, l2, f⟩ := h; rw [f.e]; rfl
 | al => rw [show v = fL from h]; rfl

theorem among_any (lo hi : Nat) (w : World) : Calls Tryz.prog 135 #[.int .u64 lo, .int .u64 hi] w fun e w' => ∃ v g h, e = .returned v ∧ FA w' v lo hi g h ∧ v.oneCell' = true ∧ Below w.heap.size w w' := by
 have V0 := Vr.new w w.heap.size (.int .u64 lo) 62 rfl
 have V1 := Vr.new (w.alloc (.cells #[.int .u64 lo] 62)) (w.heap.size + 1) (.int .u64 hi) 62 (by simp)
 have V2 := V0.on (below_alloc_ (w.alloc (.cells #[.int .u64 lo] 62)) (.cells #[.int .u64 hi] 62))
 have hb := (below_alloc_ w (.cells #[.int .u64 lo] 62)).alloc (by simp) (.cells #[.int .u64 hi] 62)
 go_enter Tryz.func135, Tryz.ntmps135
 go_wp2
 go_ret
 exact ⟨_, _, _, rfl, ⟨rfl, V2, V1⟩, rfl, hb⟩
theorem rest_any (d lo hi g h : Nat) (v : Value) (w : World) (f : FA w v lo hi g h) : Calls Tryz.prog 137 #[.int .u64 d, v] w fun e w' => ∃ v1 g1 h1, e = .returned v1 ∧ FR w' v1 d lo hi g1 h1 g h ∧ v1.oneCell' = true ∧ Below w.heap.size w w' := by
 obtain rfl := f.e
 have V0 := Vr.new w w.heap.size (.int .u64 d) 62 rfl
 have V1 := Vr.new (w.alloc (.cells #[.int .u64 d] 62)) (w.heap.size + 1) (fA g h) 199 (by simp)
 have V2 := V0.on (below_alloc_ (w.alloc (.cells #[.int .u64 d] 62)) (.cells #[fA g h] 199))
 have hb := (below_alloc_ w (.cells #[.int .u64 d] 62)).alloc (by simp) (.cells #[fA g h] 199)
 have f' := f.on hb
 go_enter Tryz.func137, Tryz.ntmps137
 go_wp2
 go_ret
 exact ⟨_, _, _, rfl, ⟨rfl, V1, V2, f'⟩, rfl, hb⟩
theorem but_any (d lo hi d' lo' hi' g h g' h' k l k' l' : Nat) (v u : Value) (w : World) (f : FR w v d lo hi g h g' h') (s : FR w u d' lo' hi' k l k' l') : Calls Tryz.prog 136 #[v, u] w fun e w' => ∃ v1 g1 h1, e = .returned v1 ∧ FB w' v1 d lo hi d' lo' hi' g1 h1 g h g' h' k l k' l' ∧ v1.oneCell' = true ∧ Below w.heap.size w w' := by
 obtain rfl := f.e
 obtain rfl := s.e
 have V0 := Vr.new w w.heap.size (fR g h) 199 rfl
 have V1 := Vr.new (w.alloc (.cells #[fR g h] 199)) (w.heap.size + 1) (fR k l) 199 (by simp)
 have V2 := V0.on (below_alloc_ (w.alloc (.cells #[fR g h] 199)) (.cells #[fR k l] 199))
 have hb := (below_alloc_ w (.cells #[fR g h] 199)).alloc (by simp) (.cells #[fR k l] 199)
 have f' := f.on hb
 have s' := s.on hb
 go_enter Tryz.func136, Tryz.ntmps136
 go_wp2
 go_ret
 exact ⟨_, _, _, rfl, ⟨rfl, V2, V1, f', s'⟩, rfl, hb⟩
theorem all_any (w : World) : Calls Tryz.prog 138 #[] w fun e w' => ∃ v, e = .returned v ∧ Kept (v = fL) ∧ v.oneCell' = true ∧ w = w' := by
 go_enter Tryz.func138, Tryz.ntmps138
 go_wp2
 go_ret
 exact ⟨_, rfl, ⟨rfl⟩, rfl, rfl⟩

theorem am_cl (n lo hi g h : Nat) (w : World) (V0 : Vr w g (.int .u64 lo)) (V1 : Vr w h (.int .u64 hi)) : Calls Tryz.prog 146 #[.int .u64 n, vp g, vp h] w fun e w' => e = .returned (.bool (decide (lo <= n ∧ n <= hi))) ∧ w = w' := by
 have c0 := V0.c
 have c1 := V1.c
 by_cases h1 : lo <= n
 ·by_cases h2 : n <= hi
  ·rw [decide_eq_true ⟨h1, h2⟩]
   go_enter Tryz.func146, Tryz.ntmps146
   go_wp2
   go_ret
   exact ⟨rfl, rfl⟩
  ·rw [decide_eq_false (fun k => h2 k.2)]
   have h3 : ¬ ((n : Int) <= hi) := by omega
   go_enter Tryz.func146, Tryz.ntmps146
   go_wp2
   go_ret
   exact ⟨rfl, rfl⟩
 ·rw [decide_eq_false (fun k => h1 k.1)]
  have h3 : ¬ ((lo : Int) <= n) := by omega
  go_enter Tryz.func146, Tryz.ntmps146
  go_wp2
  go_ret
  exact ⟨rfl, rfl⟩

theorem re_cl (n d lo hi g h g' h' : Nat) (w : World) (f : FR w (fR g h) d lo hi g h g' h') (hd : 0 < d) : Calls Tryz.prog 148 #[.int .u64 n, vp g, vp h] w fun e w' => e = .returned (.bool (decide (lo <= n % d ∧ n % d <= hi))) ∧ ∃ q, w' = w.drewN q := by
 have c0 := f.g.c
 have c1 := f.h.c
 have a0 := f.a.g
 have a1 := f.a.h
 have hd' : (d : Int) ≠ 0 := by omega
 have C := fun k => am_cl (n % d) lo hi g' h' (w.drewN k) (a0.on ⟨rfl, rfl, rfl, Nat.le_refl _, fun _ _ => rfl⟩) (a1.on ⟨rfl, rfl, rfl, Nat.le_refl _, fun _ _ => rfl⟩)
 obtain ⟨b, hb⟩ : ∃ b, decide (lo <= n % d ∧ n % d <= hi) = b := ⟨_, rfl⟩
 rw [Int.natCast_emod, hb] at C
 rw [hb]
 have CC := Lib.hid C
 clear f a0 a1 hb C
 go_enter Tryz.func148, Tryz.ntmps148
 go_wp2_with fail
 go_quiet ((go_at_call 146; exact quietly (CC.out _)))
 go_wp2
 go_ret
 exact ⟨rfl, _, rfl⟩
theorem bu_cl (n d lo hi d' lo' hi' g h g1 h1 g2 h2 k1 l1 k2 l2 : Nat) (w : World) (f : FB w (fB g h) d lo hi d' lo' hi' g h g1 h1 g2 h2 k1 l1 k2 l2) (hd : 0 < d) (hd' : 0 < d') : Calls Tryz.prog 147 #[.int .u64 n, vp g, vp h] w fun e w' => e = .returned (.bool (decide (lo <= n % d ∧ n % d <= hi) && !decide (lo' <= n % d' ∧ n % d' <= hi'))) ∧ ∃ q, w' = w.drewN q := by
 have c0 := f.g.c
 have c1 := f.h.c
 have C := re_cl n d lo hi g1 h1 g2 h2 w f.r hd
 have C2 := fun q => re_cl n d' lo' hi' k1 l1 k2 l2 (w.drewN q) (f.s.on ⟨rfl, rfl, rfl, Nat.le_refl _, fun _ _ => rfl⟩) hd'
 have c2 : ∀ q, (w.drewN q).cell? ⟨h, 0, none⟩ = some (Value.func (Fn.func 148) #[] #[vp k1, vp l1]) := fun _ => c1
 obtain ⟨b, hb⟩ : ∃ b, decide (lo <= n % d ∧ n % d <= hi) = b := ⟨_, rfl⟩
 obtain ⟨b', hb'⟩ : ∃ b, decide (lo' <= n % d' ∧ n % d' <= hi') = b := ⟨_, rfl⟩
 rw [hb] at C
 rw [hb'] at C2
 rw [hb, hb']
 have CC := Lib.hid C
 have CD := Lib.hid C2
 clear f hb hb' C C2
 cases b
 ·go_enter Tryz.func147, Tryz.ntmps147
  go_wp2_with (go_at_call 148; (with_reducible refine CC.out.mono ?_); rintro e w1 ⟨rfl, q, rfl⟩)
  go_ret
  exact ⟨rfl, _, rfl⟩
 ·go_enter Tryz.func147, Tryz.ntmps147
  go_wp2_with (first
   | (go_at_call 148; (with_reducible refine CC.out.mono ?_); rintro e w1 ⟨rfl, q, rfl⟩)
   | (go_at_call 148; (with_reducible refine (CD.out _).mono ?_); rintro e w1 ⟨rfl, q', rfl⟩))
  go_ret
  exact ⟨by simp, _, rfl⟩
theorem al_cl (n : Nat) (w : World) : Calls Tryz.prog 149 #[.int .u64 n] w fun e w' => e = .returned (.bool true) ∧ w = w' := by
 go_enter Tryz.func149, Tryz.ntmps149
 go_wp2
 go_ret
 exact ⟨rfl, rfl⟩
end Go.Proofs.YtgnjjlgmlokhmaaGreatDoor
