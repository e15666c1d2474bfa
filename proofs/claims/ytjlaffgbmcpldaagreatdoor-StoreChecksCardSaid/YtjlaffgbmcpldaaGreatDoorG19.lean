/-
  
-/
import Derived.Laws.StructEq
import Derived.Test.YtjlaffgbmcpldaaGreatDoorG12
import Derived.Test.YtjlaffgbmcpldaaGreatDoorG18
set_option linter.unusedVariables false
set_option maxRecDepth 100000
set_option linter.unusedSimpArgs false
namespace Go.Proofs.YtjlaffgbmcpldaaGreatDoor
namespace D
def usz (k : Nat) : ByteArray :=
 match k with
 | 1 => ⟨#[117]⟩
 | 2 => ⟨#[109]⟩
 | 4 => ⟨#[112, 115, 97]⟩
 | 5 => ⟨#[103, 114, 116]⟩
 | 6 => ⟨#[115, 117, 114, 116]⟩
 | _ => ⟨#[]⟩
def hsb (l : List UInt8) (c : Nat) : Bool := l.any fun x => decide (x.toNat = c)
def hk_ (k c : Nat) : Bool := hsb (usz k).data.toList c
def fbad (k s u p m v a : Nat) (g : Bool) (t : ByteArray) : Bool :=
 ((((((((((u : Int) != 0) && !hk_ k 117) || (((m : Int) != 0) && !hk_ k 109)) || (((p : Int) != 0) && !hk_ k 112)) || (((s : Int) != 0) && !hk_ k 115)) || (g && !hk_ k 103)) || (((v : Int) != 0) && !hk_ k 114)) || (((a : Int) != 0) && !hk_ k 97)) || ((t.toList != []) && !hk_ k 116))
def rbad (k s u p m v : Nat) : Bool :=
 (((((decide ((15 : Int) < (u : Nat)) || decide ((63 : Int) < (m : Nat))) || (((k : Nat) : Int) == (2 : Int) && ((m : Nat) : Int) == (0 : Int))) || decide ((3 : Int) < (p : Nat))) || (((k : Nat) : Int) == (4 : Int) && decide ((1 : Int) < (s : Nat)))) || (((k : Nat) : Int) == (6 : Int) && (decide (((s : Nat) : Int) < (1 : Int)) || decide ((5 : Int) < (s : Nat))))) || (decide ((5 : Int) ≤ (k : Nat)) && (decide (((v : Nat) : Int) < (1 : Int)) || decide ((4294967295 : Int) < (v : Nat))))
theorem ne0 (x : Nat) : (((x : Nat) : Int) != 0) = !decide (x = 0) := by
 by_cases h : x = 0
 ·subst h; rfl
 ·simp [h]
theorem net (t : ByteArray) : (t.toList != []) = !decide (t = ⟨#[]⟩) := by
 have h : (t.toList = []) ↔ t = ⟨#[]⟩ := by
  rw [ByteArray.toList_eq]
  constructor
  ·intro h
   exact size0 (by have := congrArg List.length h; simpa using this)
  ·rintro rfl; rfl
 by_cases h2 : t = ⟨#[]⟩
 ·have h3 := h.2 h2
  simp [h2, h3]
 ·have h3 : ¬ t.toList = [] := fun e => h2 (h.1 e)
  simp [h2, h3]
theorem fbad_is {k s u p m v a : Nat} {g : Bool} {t : ByteArray} (h1 : 1 ≤ k) (h6 : k ≤ 6) : fbad k s u p m v a g t = !decide (rinse ⟨k, s, u, p, m, g, v, a, t⟩ = bare k) := by
 have hk : k = 1 ∨ k = 2 ∨ k = 3 ∨ k = 4 ∨ k = 5 ∨ k = 6 := by omega
 unfold fbad
 simp only [ne0, net]
 have hgd : decide (g = false) = !g := by cases g <;> rfl
 rcases hk with rfl | rfl | rfl | rfl | rfl | rfl
 all_goals
  simp only [rinse, bare, Rc.mk.injEq, true_and, and_true, Bool.decide_and, hgd]
  simp only [hk_, show ∀ c, hsb (usz 1).data.toList c = decide (117 = c) from fun c => by simp [hsb, usz], show ∀ c, hsb (usz 2).data.toList c = decide (109 = c) from fun c => by simp [hsb, usz], show ∀ c, hsb (usz 3).data.toList c = false from fun c => by simp [hsb, usz], show ∀ c, hsb (usz 4).data.toList c = (decide (112 = c) || (decide (115 = c) || decide (97 = c))) from fun c => by simp [hsb, usz], show ∀ c, hsb (usz 5).data.toList c = (decide (103 = c) || (decide (114 = c) || decide (116 = c))) from fun c => by simp [hsb, usz], show ∀ c, hsb (usz 6).data.toList c = (decide (115 = c) || (decide (117 = c) || (decide (114 = c) || decide (116 = c)))) from fun c => by simp [hsb, usz]]
  generalize decide (u = 0) = U
  generalize decide (m = 0) = M
  generalize decide (p = 0) = Q
  generalize decide (s = 0) = S
  generalize decide (v = 0) = V
  generalize decide (a = 0) = A
  generalize decide (t = ⟨#[]⟩) = T
  cases U <;> cases M <;> cases Q <;> cases S <;> cases V <;> cases A <;> cases T <;> cases g <;> rfl
theorem chk_of {k s u p m v a : Nat} {g : Bool} {t : ByteArray} (h1 : 1 ≤ k) (h6 : k ≤ 6) :
  chk ⟨k, s, u, p, m, g, v, a, t⟩ = bif fbad k s u p m v a g t then 3 else bif rbad k s u p m v then 5 else bif decide ((60 : Int) < (t.size : Nat)) then 2 else bif (g && (t.toList != [])) then 3 else 0 := by
 have hk : k = 1 ∨ k = 2 ∨ k = 3 ∨ k = 4 ∨ k = 5 ∨ k = 6 := by omega
 have h0 : ¬ (k = 0 ∨ 6 < k) := by omega
 rw [fbad_is h1 h6, net]
 unfold chk
 simp only [if_neg h0]
 by_cases hr : rinse ⟨k, s, u, p, m, g, v, a, t⟩ = bare k
 ·rw [if_neg (fun h => h hr), decide_eq_true hr]
  simp only [Bool.not_true, cond_false]
  have z0 : (⟨#[]⟩ : ByteArray).size = 0 := rfl
  have ht : ∀ t : ByteArray, (t.size = 0) ↔ t = ⟨#[]⟩ := fun t => ⟨size0, by rintro rfl; rfl⟩
  rcases hk with rfl | rfl | rfl | rfl | rfl | rfl
  all_goals
   simp only [rinse, bare, Rc.mk.injEq, true_and, and_true] at hr
  ·obtain ⟨rfl, rfl, rfl, rfl, rfl, rfl, rfl⟩ := hr
   by_cases hu : u ≤ 15
   ·have e0 : ¬ (15 : Int) < u := by omega
    simp [z0, amiss, inn, rbad, hu, e0, z0]
   ·have : (15 : Int) < u := by omega
    simp [z0, amiss, inn, rbad, hu, this]
  ·obtain ⟨rfl, rfl, rfl, rfl, rfl, rfl, rfl⟩ := hr
   by_cases hm : m = 0
   ·subst hm
    simp [z0, amiss, inn, rbad]
   ·by_cases hm2 : m ≤ 63
    ·have e1 : 1 ≤ m := by omega
     have e2 : ¬ (63 : Int) < m := by omega
     have e3 : ((m : Int) == 0) = false := by simp; omega
     simp [z0, amiss, inn, rbad, e1, hm2, e2, hm, e3]
    ·have e2 : (63 : Int) < m := by omega
     simp [z0, amiss, inn, rbad, hm2, e2, hm]
  ·obtain ⟨rfl, rfl, rfl, rfl, rfl, rfl, rfl, rfl⟩ := hr
   simp [z0, amiss, rbad]
  ·obtain ⟨rfl, rfl, rfl, rfl, rfl⟩ := hr
   by_cases hp : p ≤ 3
   ·have e2 : ¬ (3 : Int) < p := by omega
    by_cases hs : s ≤ 1
    ·have e3 : ¬ (1 : Int) < s := by omega
     simp [z0, amiss, inn, rbad, fst2, hp, hs, e2, e3]
    ·have e3 : (1 : Int) < s := by omega
     simp [z0, amiss, inn, rbad, fst2, hp, hs, e2, e3]
   ·have e2 : (3 : Int) < p := by omega
    simp [z0, amiss, inn, rbad, fst2, hp, e2]
  ·obtain ⟨rfl, rfl, rfl, rfl, rfl⟩ := hr
   by_cases hv : 1 ≤ v ∧ v ≤ 4294967295
   ·have e1 : ¬ (v : Int) < 1 := by omega
    have e2 : ¬ (4294967295 : Int) < v := by omega
    by_cases hz : t.size ≤ 60
    ·have e3 : ¬ (60 : Int) < (t.size : Nat) := by omega
     cases g
     ·simp [z0, amiss, inn, rbad, fst2, lng, hv, e1, e2, e3, hz]
     ·by_cases htt : t = ⟨#[]⟩
      ·subst htt
       simp [z0, amiss, inn, rbad, fst2, lng, hv, e1, e2]
      ·have : ¬ t.size = 0 := fun h => htt ((ht t).1 h)
       simp [z0, amiss, inn, rbad, fst2, lng, hv, e1, e2, e3, hz, htt, this]
    ·have e3 : (60 : Int) < (t.size : Nat) := by omega
     simp [z0, amiss, inn, rbad, fst2, lng, hv, e1, e2, e3, hz]
   ·have e1 : (v : Int) < 1 ∨ (4294967295 : Int) < v := by omega
    rcases e1 with e1 | e1 <;> simp [z0, amiss, inn, rbad, fst2, lng, hv, e1]
  ·obtain ⟨rfl, rfl, rfl, rfl⟩ := hr
   by_cases hu : u ≤ 15
   ·have e0 : ¬ (15 : Int) < u := by omega
    by_cases hs : 1 ≤ s ∧ s ≤ 5
    ·have e4 : ¬ (s : Int) < 1 := by omega
     have e5 : ¬ (5 : Int) < s := by omega
     by_cases hv : 1 ≤ v ∧ v ≤ 4294967295
     ·have e1 : ¬ (v : Int) < 1 := by omega
      have e2 : ¬ (4294967295 : Int) < v := by omega
      by_cases hz : t.size ≤ 60
      ·have e3 : ¬ (60 : Int) < (t.size : Nat) := by omega
       simp [z0, amiss, inn, rbad, fst2, lng, hu, hs, hv, e0, e4, e5, e1, e2, e3, hz]
      ·have e3 : (60 : Int) < (t.size : Nat) := by omega
       simp [z0, amiss, inn, rbad, fst2, lng, hu, hs, hv, e0, e4, e5, e1, e2, e3, hz]
     ·have e1 : (v : Int) < 1 ∨ (4294967295 : Int) < v := by omega
      rcases e1 with e1 | e1 <;> simp [z0, amiss, inn, rbad, fst2, lng, hu, hs, hv, e0, e4, e5, e1]
    ·have e1 : (s : Int) < 1 ∨ (5 : Int) < s := by omega
     rcases e1 with e1 | e1 <;> simp [z0, amiss, inn, rbad, fst2, lng, hu, hs, e0, e1]
   ·have e0 : (15 : Int) < u := by omega
    by_cases hs : 1 ≤ s ∧ s ≤ 5
    ·simp [z0, amiss, inn, rbad, fst2, lng, hu, hs, e0]
    ·simp [z0, amiss, inn, rbad, fst2, lng, hu, hs, e0]
 ·rw [if_pos hr, decide_eq_false hr]
  rfl
end D
end Go.Proofs.YtjlaffgbmcpldaaGreatDoor
set_option linter.unusedVariables false
set_option linter.unusedSimpArgs false
set_option maxRecDepth 100000
namespace Go.Proofs.YtjlaffgbmcpldaaGreatDoor
open Go.RowKit
attribute [local go_sem ↓] Go.wp_at_zero Go.wp_at_succ

theorem uses_1 (w : World) : Calls Tryz.prog 85 #[.int .i64 1] w fun en w' => en = .returned (.string (D.usz 1)) ∧ Below w.heap.size w w' := by
 go_enter Tryz.func85, Tryz.ntmps85
 go_wp2
 go_ret
 exact ⟨rfl, below_alloc _ _⟩
theorem uses_2 (w : World) : Calls Tryz.prog 85 #[.int .i64 2] w fun en w' => en = .returned (.string (D.usz 2)) ∧ Below w.heap.size w w' := by
 go_enter Tryz.func85, Tryz.ntmps85
 go_wp2
 go_ret
 exact ⟨rfl, below_alloc _ _⟩
theorem uses_3 (w : World) : Calls Tryz.prog 85 #[.int .i64 3] w fun en w' => en = .returned (.string (D.usz 3)) ∧ Below w.heap.size w w' := by
 go_enter Tryz.func85, Tryz.ntmps85
 go_wp2
 go_ret
 exact ⟨rfl, below_alloc _ _⟩
theorem uses_4 (w : World) : Calls Tryz.prog 85 #[.int .i64 4] w fun en w' => en = .returned (.string (D.usz 4)) ∧ Below w.heap.size w w' := by
 go_enter Tryz.func85, Tryz.ntmps85
 go_wp2
 go_ret
 exact ⟨rfl, below_alloc _ _⟩
theorem uses_5 (w : World) : Calls Tryz.prog 85 #[.int .i64 5] w fun en w' => en = .returned (.string (D.usz 5)) ∧ Below w.heap.size w w' := by
 go_enter Tryz.func85, Tryz.ntmps85
 go_wp2
 go_ret
 exact ⟨rfl, below_alloc _ _⟩
theorem uses_6 (w : World) : Calls Tryz.prog 85 #[.int .i64 6] w fun en w' => en = .returned (.string (D.usz 6)) ∧ Below w.heap.size w w' := by
 go_enter Tryz.func85, Tryz.ntmps85
 go_wp2
 go_ret
 exact ⟨rfl, below_alloc _ _⟩
theorem D.hsb_take {l : List UInt8} {c k : Nat} (h : D.hsb (l.take k) c = false) (hk : k < l.length) (hx : l[k].toNat ≠ c) : D.hsb (l.take (k + 1)) c = false := by
 unfold D.hsb at h ⊢
 rw [List.take_succ_eq_append_getElem hk, List.any_append, h]
 simp [hx]
theorem D.hsb_at {l : List UInt8} {c k : Nat} (hk : k < l.length) (hx : l[k].toNat = c) : D.hsb l c = true := by
 unfold D.hsb
 rw [List.any_eq_true]
 exact ⟨l[k], List.getElem_mem hk, by simp [hx]⟩
set_option maxHeartbeats 1000000 in
theorem has_anyh (s : ByteArray) (c : Nat) (w : World) (hs : s.size ≤ 1000) :
  Calls Tryz.prog 86 #[.string s, .int .u8 (c : Nat)] w fun en w' => en = .returned (.bool (D.hsb s.data.toList c)) ∧ w = w' := by
 go_enter Tryz.func86, Tryz.ntmps86
 go_wp2
 go_loop [5] (fun i => ∃ k : Nat, k ≤ s.size ∧ i = .int .i64 k ∧ Kept (D.hsb (s.data.toList.take k) c = false)) (fun i => s.size - (intOf i).toNat)
 case atStart => exact ⟨0, Nat.zero_le _, rfl, ⟨rfl⟩⟩
 case round =>
  obtain ⟨k, hk, rfl, HK⟩ := hrel
  by_cases hlt : k < s.size
  ·have hl : k < s.data.toList.length := by simpa using hlt
   have hx : s.data.toList[k] = s[k] := by simp [ByteArray.getElem_eq_getElem_data]
   by_cases he : s[k].toNat = c
   ·have HR : Kept (D.hsb s.data.toList c = true) := ⟨D.hsb_at hl (by rw [hx]; exact he)⟩
    have e1 : ((s[k].toNat : Int) == (c : Int)) = true := by simp; omega
    clear HK hx he
    go_wp2
    go_ret
    exact ⟨by rw [HR.out]; rfl, rfl⟩
   ·have HN : Kept (D.hsb (s.data.toList.take (k + 1)) c = false) := ⟨D.hsb_take HK.out hl (by rw [hx]; exact he)⟩
    have e1 : ((s[k].toNat : Int) == (c : Int)) = false := by simp; omega
    clear HK hx he
    go_wp2
    go_round
    case rel => exact ⟨k + 1, by omega, by go_num, HN⟩
    case measure => simp [intOf]; omega
  ·have HR : Kept (D.hsb s.data.toList c = false) := ⟨by rw [← HK.out, List.take_of_length_le (by simp; omega)]⟩
   clear HK
   go_wp2
   go_ret
   exact ⟨by rw [HR.out]; rfl, rfl⟩
end Go.Proofs.YtjlaffgbmcpldaaGreatDoor
set_option linter.unusedVariables false
set_option linter.unusedSimpArgs false
set_option maxRecDepth 100000
namespace Go.Proofs.YtjlaffgbmcpldaaGreatDoor
open Go.RowKit

def ev (a : Act) (j : Nat) : Value := a.tmps.getD j undef
structure Is (a : Act) (d : Nat) (c : Bool) (v : Value) : Prop where
 out : ev a d = bif c then v else undef
theorem Is.get {a : Act} {d : Nat} {c : Bool} {v : Value} (h : Is a d c v) (hc : c = true) : a.eval (.tmp d) = v := by
 have := h.out
 rw [hc] at this
 exact this
theorem Is.mv {a b : Act} {d : Nat} {c : Bool} {v : Value} (h : Is a d c v) (e : ev b d = ev a d) : Is b d c v := ⟨e.trans h.out⟩
theorem Is.as {a : Act} {d : Nat} {c : Bool} {v u : Value} (h : Is a d c v) (e : v = u) : Is a d c u := e ▸ h
section
variable {P : Program} {ops : Array Oper} {Q : Exit → Act → World → Prop} {a : Act} {w : World} {rest : List Oper} {o : Oper}
theorem wanted_none (hg : o.guard = none) : Region.wanted o (yielded ops a.tmps) = true := by simp [Region.wanted, hg]
theorem wanted_some {i d : Nat} {bb c x : Bool} (hg : o.guard = some (i, bb)) (hd : (ops[i]?).bind (·.dst) = some d) (hs : d < a.tmps.size) (h : Is a d c (.bool x)) :
  Region.wanted o (yielded ops a.tmps) = (c && (x == bb)) := by
 have hy : yielded ops a.tmps i = if c then some x else none := by
  have h1 : a.tmps[d]? = some (ev a d) := by
   unfold ev
   rw [Array.getD_eq_getD_getElem?, Array.getElem?_eq_getElem hs]; rfl
  have h2 := h.out
  unfold yielded
  rw [hd]
  simp only [Option.bind_some, h1, h2]
  cases c <;> rfl
 simp only [Region.wanted, hg, hy]
 cases c <;> cases x <;> cases bb <;> rfl
theorem ev_put (d : Nat) (v : Value) (hs : d < a.tmps.size) (j : Nat) : ev (a.put (some d) v) j = if j = d then v else ev a j := by
 unfold ev Act.put
 by_cases h : j = d
 ·subst h
  simp [Array.getD_eq_getD_getElem?, hs]
 ·have h' : ¬ d = j := fun e => h e.symm
  simp [Array.getD_eq_getD_getElem?, h, h', Array.getElem?_setIfInBounds]
theorem st_val {m : Nat} (d : Nat) (hd : o.dst = some d) (sz : a.tmps.size = m) (hm : d < m) (c : Bool) (hw : Region.wanted o (yielded ops a.tmps) = c) (v : Value) (hv : c = true → (execOp a.eval o).run P w = .ok (.value v) w)
  (K : ∀ A : Act, A.tmps.size = m → A.defers = a.defers → Is A d c v → (∀ j, j ≠ d → ev A j = ev a j) → wpList P ops Q rest A w) : wpList P ops Q (o :: rest) a w := by
 have hs : d < a.tmps.size := by omega
 have hK : ∀ u, u = (bif c then v else undef) → wpList P ops Q rest (a.put (some d) u) w := fun u hu => by
  refine K _ (by simp [Act.put, sz]) rfl ⟨?_⟩ fun j hj => ?_
  ·rw [ev_put d u hs, if_pos rfl, hu]
  ·rw [ev_put d u hs, if_neg hj]
 refine wpList_step fun K' hK' => ?_
 rw [hw]
 cases c
 ·rw [if_neg (by decide), hd]
  exact hK' _ _ (hK _ rfl)
 ·rw [if_pos rfl]
  unfold Oper.wp
  rw [hv rfl, Oper.upon_value, hd]
  exact hK' _ _ (hK _ rfl)
theorem st_call {m : Nat} (d : Nat) (hd : o.dst = some d) (sz : a.tmps.size = m) (hm : d < m) (c : Bool) (hw : Region.wanted o (yielded ops a.tmps) = c) (v : Value) (f : FuncId) (args : Array Value) (hv : c = true → (execOp a.eval o).run P w = .ok (.enter f args) w)
  (hc : Calls P f args w fun e w' => e = .returned v ∧ w = w')
  (K : ∀ A : Act, A.tmps.size = m → A.defers = a.defers → Is A d c v → (∀ j, j ≠ d → ev A j = ev a j) → wpList P ops Q rest A w) : wpList P ops Q (o :: rest) a w := by
 have hs : d < a.tmps.size := by omega
 have hK : ∀ u, u = (bif c then v else undef) → wpList P ops Q rest (a.put (some d) u) w := fun u hu => by
  refine K _ (by simp [Act.put, sz]) rfl ⟨?_⟩ fun j hj => ?_
  ·rw [ev_put d u hs, if_pos rfl, hu]
  ·rw [ev_put d u hs, if_neg hj]
 refine wpList_step fun K' hK' => ?_
 rw [hw]
 cases c
 ·rw [if_neg (by decide), hd]
  exact hK' _ _ (hK _ rfl)
 ·rw [if_pos rfl]
  unfold Oper.wp
  rw [hv rfl, Oper.upon_enter]
  refine hc.mono ?_
  rintro e w' ⟨rfl, rfl⟩
  rw [hd]
  exact hK' _ _ (hK _ rfl)
end
section
variable {P : Program} {F : Operand → Value} {w : World} {o : Oper}
theorem ex_move {x : Operand} {v : Value} (ho : o.op = .move x) (h : F x = v) : (execOp F o).run P w = .ok (.value v) w := by
 unfold execOp; simp [ho, h]
theorem ex_not {x : Operand} {b : Bool} {t : TypeId} (ho : o.op = .unOp .not t x) (h : F x = .bool b) : (execOp F o).run P w = .ok (.value (.bool (!b))) w := by
 unfold execOp; simp [ho, h, go_sem, Op.unary]
theorem ex_pick {x y z : Operand} {b : Bool} {v : Value} (ho : o.op = .pick x y z) (h : F x = .bool b) (hv : F (bif b then y else z) = v) : (execOp F o).run P w = .ok (.value v) w := by
 unfold execOp
 cases b <;> simp_all [go_sem]
theorem ex_load {T : TypeId} {x : Operand} {p : Addr} {v : Value} (hA : ∀ w, (isAgg T).run P w = .ok false w) (ho : o.op = .load T x) (h : F x = .pointer (some p)) (hv : w.cell? p = some v) : (execOp F o).run P w = .ok (.value v) w := by
 unfold execOp; simp [ho, h, hv, hA, go_sem]
theorem ex_bin {op : BinOp} {T U : TypeId} {x y : Operand} {u v r : Value} (ho : o.op = .binOp op T x y U) (hx : F x = u) (hy : F y = v) (hv : (binOp op T u v).run P w = .ok r w) (hg : (eqGuard op T x y u v).run P w = .ok () w) : (execOp F o).run P w = .ok (.value r) w := by
 unfold execOp; simp [ho, hx, hy, hv, hg, go_sem]
theorem ex_len {x : Operand} {s : ByteArray} (ho : o.op = .call { callee := .builtin .len, args := #[x], argTypes := #[9] }) (hx : F x = .string s) : (execOp F o).run Tryz.prog w = .ok (.value (.int .i64 (s.size : Nat))) w := by
 unfold execOp; simp [ho, hx, go_sem, Builtin.len_, run_underlying Tryz.underlying9]
end
section
variable {F : Operand → Value} {w : World} {o : Oper}
theorem ex_has {x y : Operand} {u v : Value} {ts : Array TypeId} (ho : o.op = .call { callee := .value (.func 86), args := #[x, y], argTypes := ts }) (hx : F x = u) (hy : F y = v) (hf : F (.func 86) = .func (.func 86) #[] #[]) : (execOp F o).run Tryz.prog w = .ok (.enter 86 #[u, v]) w := by
 unfold execOp; simp [ho, hx, hy, hf, go_sem, Tryz.func86]
theorem ex_fa0 {x : Operand} {H : Nat} (ho : o.op = .fieldAddr 69 x 0) (hx : F x = .pointer (some ⟨H, 0, none⟩)) : (execOp F o).run Tryz.prog w = .ok (.value (.pointer (some ⟨H, 0, none⟩))) w := by
 unfold execOp; simp [ho, hx, go_sem, run_underlying Tryz.underlying69, Addr.add]
theorem ex_fa1 {x : Operand} {H : Nat} (ho : o.op = .fieldAddr 69 x 1) (hx : F x = .pointer (some ⟨H, 0, none⟩)) : (execOp F o).run Tryz.prog w = .ok (.value (.pointer (some ⟨H, 1, none⟩))) w := by
 unfold execOp; simp [ho, hx, go_sem, run_underlying Tryz.underlying69, Addr.add]
theorem ex_fa2 {x : Operand} {H : Nat} (ho : o.op = .fieldAddr 69 x 2) (hx : F x = .pointer (some ⟨H, 0, none⟩)) : (execOp F o).run Tryz.prog w = .ok (.value (.pointer (some ⟨H, 2, none⟩))) w := by
 unfold execOp; simp [ho, hx, go_sem, run_underlying Tryz.underlying69, Addr.add]
theorem ex_fa3 {x : Operand} {H : Nat} (ho : o.op = .fieldAddr 69 x 3) (hx : F x = .pointer (some ⟨H, 0, none⟩)) : (execOp F o).run Tryz.prog w = .ok (.value (.pointer (some ⟨H, 3, none⟩))) w := by
 unfold execOp; simp [ho, hx, go_sem, run_underlying Tryz.underlying69, Addr.add]
theorem ex_fa4 {x : Operand} {H : Nat} (ho : o.op = .fieldAddr 69 x 4) (hx : F x = .pointer (some ⟨H, 0, none⟩)) : (execOp F o).run Tryz.prog w = .ok (.value (.pointer (some ⟨H, 4, none⟩))) w := by
 unfold execOp; simp [ho, hx, go_sem, run_underlying Tryz.underlying69, Addr.add]
theorem ex_fa5 {x : Operand} {H : Nat} (ho : o.op = .fieldAddr 69 x 5) (hx : F x = .pointer (some ⟨H, 0, none⟩)) : (execOp F o).run Tryz.prog w = .ok (.value (.pointer (some ⟨H, 5, none⟩))) w := by
 unfold execOp; simp [ho, hx, go_sem, run_underlying Tryz.underlying69, Addr.add]
theorem ex_fa6 {x : Operand} {H : Nat} (ho : o.op = .fieldAddr 69 x 6) (hx : F x = .pointer (some ⟨H, 0, none⟩)) : (execOp F o).run Tryz.prog w = .ok (.value (.pointer (some ⟨H, 6, none⟩))) w := by
 unfold execOp; simp [ho, hx, go_sem, run_underlying Tryz.underlying69, Addr.add]
theorem ex_fa7 {x : Operand} {H : Nat} (ho : o.op = .fieldAddr 69 x 7) (hx : F x = .pointer (some ⟨H, 0, none⟩)) : (execOp F o).run Tryz.prog w = .ok (.value (.pointer (some ⟨H, 7, none⟩))) w := by
 unfold execOp; simp [ho, hx, go_sem, run_underlying Tryz.underlying69, Addr.add]
theorem ex_fa8 {x : Operand} {H : Nat} (ho : o.op = .fieldAddr 69 x 8) (hx : F x = .pointer (some ⟨H, 0, none⟩)) : (execOp F o).run Tryz.prog w = .ok (.value (.pointer (some ⟨H, 8, none⟩))) w := by
 unfold execOp; simp [ho, hx, go_sem, run_underlying Tryz.underlying69, Addr.add]
theorem bin_ne_int {k : IntKind} {T : TypeId} {u : Int} {b : Bool} (h : (u != 0) = b) : (binOp .neq T (.int k u) (.int k 0)).run Tryz.prog w = .ok (.bool b) w := by
 subst h
 cases k <;> simp [binOp, Op.intCmp, go_sem]
end
end Go.Proofs.YtjlaffgbmcpldaaGreatDoor
