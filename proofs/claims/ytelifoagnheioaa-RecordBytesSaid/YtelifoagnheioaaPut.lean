/-
  The bytes of numbers, as the program makes them: the closure of Ordered, and Ordered.
-/
import Derived.Test.YtelifoagnheioaaReadS
import Derived.Deep.RegionHeld3
import Derived.Deep.RegionLaw
import Derived.Deep.DrawnRows
import Derived.IntWalk
set_option linter.unusedVariables false
set_option maxRecDepth 100000
set_option linter.unusedSimpArgs false
namespace Go.Proofs.Ytelifoagnheioaa
open Go.RowKit
attribute [local go_sem ↓] Go.wp_at_zero Go.wp_at_succ

section
variable (w : World)
theorem step_app {ops : Array Oper} {o : Oper} {a : Act} {K : Act → World → Prop} {Q : Exit → Act → World → Prop} {E : Prop} (hgd : o.guard = none) (s x : Operand)
    (hop : o.op = .call { callee := .builtin .append, args := #[s, x], argTypes := #[23, 23] })
    {base : Nat} {A B : Option Addr} {n c m d : Nat} {l k : List Nat} (hs : a.eval s = .slice A n c) (ho : Own base w A n c l) (hx : a.eval x = .slice B m d) (hr : Row w B m (bys k)) (h63 : n + m ≤ 1000000)
    (h : ∀ A' c' w', Own base w' A' (n + m) c' (l ++ k) → w.grownBy w' (Value.slice A n c).ownBlock → ((Value.slice A' (n + m) c').ownBlock = (Value.slice A n c).ownBlock ∨ (Value.slice A' (n + m) c').ownBlock = some w.heap.size) →
      K (a.put o.dst (.slice A' (n + m) c')) w') : if Region.wanted o (yielded ops a.tmps) = true then Oper.wp Try.prog o a w K Q else E := by
  have hw : Region.wanted o (yielded ops a.tmps) = true := by simp [Region.wanted, hgd]
  rw [if_pos hw]
  obtain ⟨A', c', w', hrun, h2, h3, h4⟩ := run_app w o.type ho hr h63 (d := d)
  unfold Oper.wp execOp
  simp only [hop, resolve, invoke, builtin, Sem.run_bind, Sem.run_pure, Result.andThen_ok, List.map_toArray, List.map_cons, List.map_nil, hs, hx, hrun]
  exact h A' c' w' h2 h3 h4
end

theorem get_group {x : Nat} : M.get x 0 7 = x % 128 := M.get_mod (w := x) (m := 7) (by omega)
theorem or_more {b : Nat} (h : b < 128) : bits .or .u8 128 (b : Int) = ((b + 128 : Nat) : Int) := by
  have e : (128 ||| b : Nat) = 128 + b := by
    have := Nat.two_pow_add_eq_or_of_lt (i := 7) (b := b) h 1
    simpa using this.symm
  show IntKind.u8.wrap ((BitVec.ofInt 8 ((128 : Nat) : Int) ||| BitVec.ofInt 8 (b : Int)).toNat : Int) = _
  rw [BitVec.toNat_or, BitVec.ofInt_natCast, BitVec.toNat_ofNat, BitVec.ofInt_natCast, BitVec.toNat_ofNat, show 128 % 2 ^ 8 = 128 by rfl, show b % 2 ^ 8 = b by omega, e, IntKind.wrap_u8]
  omega
/-- What the closure's variable holds. -/
structure Held (base p : Nat) (w : World) (A : Option Addr) (j c : Nat) (l : List Nat) : Prop where
  blk : Blk w p 23 #[.slice A j c]
  own : Own base w A j c l
  le : base ≤ p
theorem Held.drewN {base p j c : Nat} {w : World} {A : Option Addr} {l : List Nat} (h : Held base p w A j c l) (n : Nat) : Held base p (w.drewN n) A j c l := ⟨⟨h.blk.out⟩, ⟨h.own.row, h.own.base⟩, h.le⟩
theorem Held.drew {base p j c : Nat} {w : World} {A : Option Addr} {l : List Nat} (h : Held base p w A j c l) : Held base p w.drew A j c l := ⟨⟨h.blk.out⟩, ⟨h.own.row, h.own.base⟩, h.le⟩
theorem Held.same {base p j c : Nat} {w w' : World} {A : Option Addr} {l : List Nat} (h : Held base p w A j c l) (e : w'.heap = w.heap) : Held base p w' A j c l :=
  ⟨⟨by rw [e]; exact h.blk.out⟩, ⟨by
    have := h.own.row
    unfold World.ownsRow at this ⊢
    rw [e]; exact this, by rw [e]; exact h.own.base⟩, h.le⟩
theorem below_drewN {B : Nat} {a w : World} (h : Below B a w) (n : Nat) : Below B a (w.drewN n) := ⟨h.os, h.tape, h.output, h.size, h.block⟩
/-- Behind an append onto what it holds the variable is as it was. -/
theorem Held.apart {base p j c : Nat} {w w1 : World} {A : Option Addr} {l : List Nat} {o : Obj} (h : Held base p w A j c l) (hg : (w.alloc o).grownBy w1 (Value.slice A j c).ownBlock) : Blk w1 p 23 #[.slice A j c] :=
  (h.blk.alloc o).grown hg (Ne.symm (h.own.ne h.blk (by decide)))
theorem Held.below {base p j c : Nat} {w w0 w1 : World} {A : Option Addr} {l : List Nat} {o : Obj} (h : Held base p w A j c l) (hb : Below base w0 w) (hg : (w.alloc o).grownBy w1 (Value.slice A j c).ownBlock) (u : Value) : Below base w0 (w1.setCell ⟨p, 0, none⟩ u) :=
  ((hb.alloc h.own.base o).grown hg (by have := h.own.base; simp; omega) h.own.block_le).setCell h.le u
theorem Held.next {base p j c j1 c1 : Nat} {w w1 : World} {A A1 : Option Addr} {l l1 : List Nat} {o : Obj} (h : Held base p w A j c l) (hg : (w.alloc o).grownBy w1 (Value.slice A j c).ownBlock) (ho : Own base w1 A1 j1 c1 l1) :
    Held base p (w1.setCell ⟨p, 0, none⟩ (.slice A1 j1 c1)) A1 j1 c1 l1 :=
  ⟨(h.apart hg).set_ _, ho.set (h.apart hg) (by decide) _, h.le⟩

set_option maxRecDepth 20000 in
set_option maxHeartbeats 1000000 in
theorem put_small (x p base : Nat) (A : Option Addr) (j c : Nat) (l : List Nat) (w : World) (hx : x < 18446744073709551616) (hh : Held base p w A j c l) (hj : j ≤ 1000) :
    Calls Try.prog 66 #[.int .u64 x, .pointer (some ⟨p, 0, none⟩)] w fun e w' => e = .returned (.tuple #[]) ∧ ∃ A' j' c', Held base p w' A' j' c' (l ++ D.sm x) ∧ Below base w w' := by
  have h10 := D.sm_len10 hx
  have hlq := hh.own.len
  go_enter Try.func66, Try.ntmps66
  go_wp2_with fail
  go_loopw [0] (fun t wr => ∃ (m : Nat) (B : Option Addr) (j' c' : Nat) (l' : List Nat), t = .int .u64 m ∧ m < 18446744073709551616 ∧ Held base p wr B j' c' l' ∧ Kept (l' ++ D.sm m = l ++ D.sm x) ∧ Below base w wr) (fun t _ => (intOf t).toNat)
  case atStart => exact ⟨x, A, j, c, l, rfl, hx, hh, ⟨rfl⟩, Below.refl _ _⟩
  case round =>
    clear hh
    obtain ⟨m, B, j', c', l', rfl, hm, hh, HK, hbel⟩ := hrel
    have hj' : j' ≤ 2000 := by
      have h1 := hh.own.len
      have h2 := congrArg List.length HK.out
      rw [List.length_append, List.length_append] at h2
      omega
    have hc := hh.blk.cell
    by_cases h0 : 128 ≤ m
    · have HN : Kept ((l' ++ [m % 128 + 128]) ++ D.sm (m / 128) = l ++ D.sm x) := ⟨by rw [← HK.out, D.sm_more (n := m) (by omega)]; simp⟩
      have hg := get_group (x := m)
      have cG := Lib.hid (fun W => get_any m 0 7 W hm (by omega) (by omega))
      rw [hg] at cG
      have hb1 : m % 128 < 128 := Nat.mod_lt _ (by decide)
      obtain ⟨b, hb⟩ : ∃ b, m % 128 = b := ⟨_, rfl⟩
      rw [hb] at cG hb1 HN
      have hca : ∀ (m : Nat) (o : Obj), ((wr.drewN m).alloc o).cell? ⟨p, 0, none⟩ = some (.slice B j' c') := fun m o => ((hh.drewN m).blk.alloc o).cell
      have e9 : IntKind.u8.wrap (b : Int) = b := by rw [IntKind.wrap_u8]; omega
      have e10 : bits .or .u8 128 (b : Int) = ((b + 128 : Nat) : Int) := or_more hb1
      clear HK hg hb hlq
      go_wp2_with fail
      go_region_law (first
        | (go_at_call 67; (with_reducible refine (cG.out _).mono ?_); rintro e w2 ⟨rfl, mq, rfl⟩)
        | (go_simp; go_at_call 67; (with_reducible refine (cG.out _).mono ?_); rintro e w2 ⟨rfl, mq, rfl⟩)
        | (refine step_app _ (by rfl) (.tmp 5) (.tmp 10) (by rfl) (by rfl) ((hh.drewN _).own.alloc _) (by rfl) (Own.lit (b := b + 128) (hh.drewN _).own.base (by rfl)).to_row (by omega) ?_; intro A2 c2 w2 ho2 hg2 hat2; have hb2 := (hh.drewN _).apart hg2; have hb2c := hb2.cell; have hb2f := hb2.free))
      all_goals
        go_wp2
        go_roundw
        case rel => exact ⟨m / 128, A2, j' + 1, c2, _, by go_num, by omega, (hh.drewN _).next hg2 ho2, HN, (hh.drewN _).below (below_drewN hbel _) hg2 _⟩
        case measure => simp [intOf]; omega
    · have HE : Kept (l' ++ [m] = l ++ D.sm x) := ⟨by rw [← HK.out, D.sm_last (n := m) (by omega)]⟩
      clear HK
      go_wp2_with (at_builtin; refine app _ rfl (.tmp 14) (.tmp 17) rfl rfl (hh.own.alloc _) rfl (Own.lit (b := m) hh.own.base (by rfl)).to_row (by omega) ?_; intro A1 c1 w1 ho1 hg1 hat1; have hb1 := hh.apart hg1; have hb1c := hb1.cell; have hb1f := hb1.free)
      go_end0
      exact ⟨rfl, A1, j' + 1, c1, HE.out ▸ hh.next hg1 ho1, hh.below hbel hg1 _⟩

set_option maxHeartbeats 400000 in
theorem small_any (A : Option Addr) (n c : Nat) (l : List Nat) (w : World) (ha : Row w A n (wds l)) (hl : Kept (∀ x ∈ l, x < 18446744073709551616)) (hn : n ≤ 30) :
    Calls Try.prog 56 #[.slice A n c] w (Made w (D.rowS l)) := by
  go_enter Try.func56, Try.ntmps56
  go_wp2_with fail
  go_loopw [10] (fun i wr => ∃ (k : Nat) (B : Option Addr) (j d : Nat), k ≤ n ∧ i = .int .i64 k ∧ Held w.heap.size w.heap.size wr B j d (D.rowS (l.take k)) ∧ Below w.heap.size w wr) (fun i _ => n - (intOf i).toNat)
  case atStart => exact ⟨0, none, 0, 0, Nat.zero_le _, rfl, ⟨Blk.new _ _ _, Own.nil (by simp), Nat.le_refl _⟩, (Below.refl _ _).alloc (Nat.le_refl _) _⟩
  case round =>
    obtain ⟨k, B, j, d, hk, rfl, hh, hbel⟩ := hrel
    have hll := ha.len
    rw [wds_len] at hll
    have hj : j ≤ 300 := by
      have h1 := hh.own.len
      have h2 := D.rowS_len (l := l.take k) (fun x hx => hl.out x (List.mem_of_mem_take hx))
      simp at h2
      omega
    have hc := hh.blk.cell
    by_cases hlt : k < n
    · obtain ⟨x, hx, hxl⟩ := at_lt (l := l) (i := k) (by omega)
      have hx64 := hl.out x hxl
      have HS : Kept (D.rowS (l.take k) ++ D.sm x = D.rowS (l.take (k + 1))) := ⟨by rw [List.take_add_one, hx]; exact (D.rowS_snoc _ _).symm⟩
      obtain ⟨ad, rfl, cx⟩ := (ha.on hbel).cell (wds_at hx)
      have cP := Lib.hid (put_small x w.heap.size w.heap.size B j d _ wr hx64 hh (by omega))
      clear hl hll hx hxl
      go_wp2_with (first
        | (go_at_call 66; (with_reducible refine cP.out.mono ?_); rintro e w1 ⟨rfl, B1, j1, d1, hh1, hb1⟩))
      go_roundw
      case rel => exact ⟨k + 1, B1, j1, d1, by omega, by go_num, HS.out ▸ hh1, hbel.trans hb1⟩
      case measure => simp [intOf]; omega
    · have HE : Kept (D.rowS (l.take k) = D.rowS l) := ⟨by rw [List.take_of_length_le (by omega)]⟩
      clear hl hll
      go_wp2
      go_ret
      exact made_of hh.own HE.out hbel
end Go.Proofs.Ytelifoagnheioaa
