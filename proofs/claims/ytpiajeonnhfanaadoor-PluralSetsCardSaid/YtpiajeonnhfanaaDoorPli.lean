/-
  Rows of ints in memory: a slice of the call's own, append, what is looked for.
-/
import Derived.Test.YtpiajeonnhfanaaDoorPls
set_option linter.unusedVariables false
set_option linter.unusedSimpArgs false
set_option maxRecDepth 100000
namespace Go.Proofs.YtpiajeonnhfanaaDoor
open Go.RowKit
attribute [local go_sem ↓] Go.wp_at_zero Go.wp_at_succ ld_a ld_n st_a st_n eq_a eq_n ne_a ne_n lv_a lv_n lp_3 lp_4 st_u bd_u
attribute [local go_sem] run_ld_a run_ld_n run_sw_a run_sw_n run_eq_a run_eq_n run_ne_a run_ne_n run_lv_a run_lv_n st_z ne_z eq_z rd_new rd_old rd_drew rd_drewN rd_set tn_new tn_old tn_drew tn_drewN setRow_alloc run_lp_3 run_lp_4 run_stu run_bdu
def ins (l : List Nat) : List Value := l.map fun (b : Nat) => .int .i64 (b : Int)
theorem ins_len (l : List Nat) : (ins l).length = l.length := by simp [ins]
theorem ins_app (l k : List Nat) : ins (l ++ k) = ins l ++ ins k := by simp [ins]
theorem ins_at {l : List Nat} {i b : Nat} (h : l[i]? = some b) : (ins l)[i]? = some (.int .i64 b) := by simp [ins, h]
theorem ins_one (l : List Nat) : ∀ u ∈ ins l, u.oneCell' = true := by
  intro u hu
  obtain ⟨b, _, rfl⟩ := List.mem_map.1 hu
  rfl
/-- A slice of numbers that the call imade, or nil. -/
structure IOwn (base : Nat) (w : World) (A : Option Addr) (n c : Nat) (l : List Nat) : Prop where
  row : w.ownsRow base 3 1 (.slice A n c) n (ins l)
  base : base ≤ w.heap.size
section
variable {base n c : Nat} {w w' : World} {A : Option Addr} {l : List Nat}
theorem IOwn.len (h : IOwn base w A n c l) : l.length = n := by have := h.row.1; rwa [ins_len, Nat.mul_one] at this
theorem IOwn.cap (h : IOwn base w A n c l) : n ≤ c ∧ c ≤ maxLen := by
  rcases h.row.2 with ⟨e, h0⟩ | ⟨g, cap, cur, e, _, _, h1, h2, _⟩
  · injection e with _ _ e2
    exact ⟨by omega, by rw [e2]; exact Nat.zero_le _⟩
  · injection e with _ _ e2
    subst e2
    exact ⟨h1, h2⟩
theorem IOwn.to_row (h : IOwn base w A n c l) : Row w A n (ins l) :=
  ⟨by rw [ins_len, h.len], fun hn => by
    obtain ⟨g, cap, e, _, hlt⟩ := h.row.form hn
    have hA : A = some ⟨g, 0, none⟩ := by injection e
    subst hA
    exact ⟨_, rfl, hlt, h.row.cells (g := g) rfl⟩⟩
theorem IOwn.nil (h : base ≤ w.heap.size) : IOwn base w none 0 0 [] := ⟨World.ownsRow_nil _ _ _ _, h⟩
theorem IOwn.lit (h : base ≤ w.heap.size) {z : Int} {b : Nat} (hz : z = b) : IOwn base (w.alloc (.cells #[.int .i64 z] 3)) (some ⟨w.heap.size, 0, none⟩) 1 1 [b] := by
  subst hz
  exact ⟨World.ownsRow_lit w #[.int .i64 b] 1 h (by simp [maxLen]) rfl, by simp; omega⟩
theorem IOwn.alloc (h : IOwn base w A n c l) (o : Obj) : IOwn base (w.alloc o) A n c l := ⟨h.row.alloc o, by have := h.base; simp; omega⟩
theorem IOwn.drew (h : IOwn base w A n c l) : IOwn base w.drew A n c l := ⟨h.row.drew, h.base⟩
theorem IOwn.more (h : IOwn base w A n c l) (hb : Below w.heap.size w w') : IOwn base w' A n c l := by
  refine ⟨⟨h.row.1, ?_⟩, Nat.le_trans h.base hb.size⟩
  rcases h.row.2 with hn | ⟨g, cap, cur, e, hg, hh, r⟩
  · exact .inl hn
  · refine .inr ⟨g, cap, cur, e, hg, ?_, r⟩
    rw [hb.block g (Array.getElem?_eq_some_iff.1 hh).1]
    exact hh
theorem IOwn.block_le (h : IOwn base w A n c l) : ∀ k, (Value.slice A n c).ownBlock = some k → base ≤ k := fun k hk => (h.row.lt k hk).1
end

/-- A call's answer: a new slice of these numbers; of what was there nothing has turned. -/
def IMade (W : World) (l : List Nat) (e : Ending) (w' : World) : Prop := ∃ A c, e = .returned (.slice A l.length c) ∧ IOwn W.heap.size w' A l.length c l ∧ Below W.heap.size W w'
theorem imade {W w' : World} {A : Option Addr} {n c : Nat} {l : List Nat} (h : IOwn W.heap.size w' A n c l) (hb : Below W.heap.size W w') : IMade W l (.returned (.slice A n c)) w' := by
  have := h.len
  subst this
  exact ⟨A, c, rfl, h, hb⟩
theorem imade_of {W w' : World} {A : Option Addr} {n c : Nat} {l k : List Nat} (h : IOwn W.heap.size w' A n c k) (e : k = l) (hb : Below W.heap.size W w') : IMade W l (.returned (.slice A n c)) w' := by
  subst e
  exact imade h hb

theorem i64_info : (Tryd.prog.info? 3).map (fun i => (i.zero, i.size, i.bytes)) = some (some (.int .i64 0), 1, 8) := by kernel_rfl

section
variable (w : World)
theorem run_iapp_nil (base : Nat) (ty : TypeId) (v : Value) (n : Nat) (xs : List Value) (hown : w.ownsRow base 3 1 v n xs) (c : Nat) :
    (Builtin.append_ #[35, 35] ty #[v, .slice none 0 c]).run Tryd.prog w = .ok v w := by
  obtain ⟨i, hi, _, _, _⟩ := info_parts i64_info
  rcases hown.2 with ⟨rfl, rfl⟩ | ⟨g, cap, cur, rfl, _, _, hnc, _⟩
  · simp [Builtin.append_, run_underlying Tryd.underlying35, sizeOf, typeInfo, hi, Builtin.lenOf, Builtin.firstCells]
  · simp [Builtin.append_, run_underlying Tryd.underlying35, sizeOf, typeInfo, hi, Builtin.lenOf, Builtin.firstCells, hnc, storeCells]

set_option maxRecDepth 100000 in
theorem run_iapp {base : Nat} {A B : Option Addr} {n c m d : Nat} {l k : List Nat} (ty : TypeId) (ho : IOwn base w A n c l) (hr : Row w B m (ins k)) (h63 : n + m ≤ 1000000) :
    ∃ A' c' w', (Builtin.append_ #[35, 35] ty #[.slice A n c, .slice B m d]).run Tryd.prog w = .ok (.slice A' (n + m) c') w' ∧
      IOwn base w' A' (n + m) c' (l ++ k) ∧ w.grownBy w' (Value.slice A n c).ownBlock ∧ ((Value.slice A' (n + m) c').ownBlock = (Value.slice A n c).ownBlock ∨ (Value.slice A' (n + m) c').ownBlock = some w.heap.size) := by
  obtain ⟨i, hi, hz0, hz1, hz2⟩ := info_parts i64_info
  rcases B with _ | ad
  · have hm : m = 0 := by
      rcases Nat.eq_zero_or_pos m with h0 | h0
      · exact h0
      · obtain ⟨ad, h, _⟩ := hr.to h0
        cases h
    subst hm
    have hk : k = [] := List.eq_nil_of_length_eq_zero (by have := hr.len; rwa [ins_len] at this)
    subst hk
    exact ⟨A, c, w, run_iapp_nil w base ty _ _ _ ho.row d, by simpa using ho, World.grownBy.refl w _, .inl rfl⟩
  · have hl : (ins k).length = m * 1 := by rw [hr.len, Nat.mul_one]
    have hc : ∀ j u, (ins k)[j]? = some u → w.cell? (ad.add j) = some u := by
      intro j u hu
      obtain ⟨ad', e, hc⟩ := hr.cell hu
      injection e with e
      subst e
      exact hc
    obtain ⟨v', w', hrun, h2, h3, _, h5⟩ := run_append_own_at (P := Tryd.prog) w base 35 ty 3 i _ 1 8 Tryd.underlying35 hi hz0 hz1 hz2 rfl (by omega) _ n (ins l) ho.row ad m d (ins k) hl hc (ins_one k) (by simp only [maxLen]; omega) (by omega) ho.base
    have hs : ∃ A' c', v' = .slice A' (n + m) c' := by
      rcases h2.2 with ⟨rfl, h0⟩ | ⟨g, cap, _, rfl, _⟩
      · exact ⟨none, 0, by rw [h0]⟩
      · exact ⟨_, _, rfl⟩
    obtain ⟨A', c', rfl⟩ := hs
    exact ⟨A', c', w', hrun, ⟨by rw [ins_app]; exact h2, Nat.le_trans ho.base h3.size⟩, h3, h5⟩

/-- append of numbers, at a plain list of operations. -/
theorem iapp {ops : Array Oper} {rest : List Oper} {o : Oper} {a : Act} {Q : Exit → Act → World → Prop} (hgd : o.guard = none) (s x : Operand)
    (hop : o.op = .call { callee := .builtin .append, args := #[s, x], argTypes := #[35, 35] })
    {base : Nat} {A B : Option Addr} {n c m d : Nat} {l k : List Nat} (hs : a.eval s = .slice A n c) (ho : IOwn base w A n c l) (hx : a.eval x = .slice B m d) (hr : Row w B m (ins k)) (h63 : n + m ≤ 1000000)
    (h : ∀ A' c' w', IOwn base w' A' (n + m) c' (l ++ k) → w.grownBy w' (Value.slice A n c).ownBlock → ((Value.slice A' (n + m) c').ownBlock = (Value.slice A n c).ownBlock ∨ (Value.slice A' (n + m) c').ownBlock = some w.heap.size) →
      wpList Tryd.prog ops Q rest (a.put o.dst (.slice A' (n + m) c')) w') : wpList Tryd.prog ops Q (o :: rest) a w := by
  obtain ⟨A', c', w', hrun, h2, h3, h4⟩ := run_iapp w o.type ho hr h63 (d := d)
  refine wpList_plain hgd fun K hK => ?_
  unfold Oper.wp execOp
  simp only [hop, resolve, invoke, builtin, Sem.run_bind, Sem.run_pure, Result.andThen_ok, List.map_toArray, List.map_cons, List.map_nil, hs, hx, hrun]
  exact hK _ _ (h A' c' w' h2 h3 h4)
end

set_option maxHeartbeats 4000000 in
theorem set_any (x : D.Tg) (w : World) : Calls Tryd.prog 13 #[.agg (nc x)] w (IMade w (D.cats (D.gr x) 6)) := by
  have f0 := rd_new w w.heap.size 25 x rfl
  have cS := Lib.hid (fun W => setOf_any x W)
  have hs := D.setw_lt (D.gr_le x)
  obtain ⟨g, hg⟩ : ∃ g, D.gr x = g := ⟨_, rfl⟩
  rw [hg] at cS hs ⊢
  obtain ⟨a, ha⟩ : ∃ a, D.setw g = a := ⟨_, rfl⟩
  have hin : Kept (∀ k, D.inn g k = (a >>> k % 2 == 1)) := ⟨fun k => by rw [← ha]; rfl⟩
  rw [ha] at cS hs
  clear ha hg
  go_enter Tryd.func13, Tryd.ntmps13
  go_wp2_with (go_at_call 25; (with_reducible refine (cS.out _).mono ?_); rintro e w1 ⟨rfl, b1⟩; have z1 := (Fw.self w).alloc (.cells (nc x) 25) |>.on b1)
  clear cS f0
  go_loopw [3, 8] (fun l i wr => ∃ (k : Nat) (A : Option Addr) (n c : Nat), k ≤ 6 ∧ i = .int .i64 k ∧ l = .slice A n c ∧ IOwn w.heap.size wr A n c (D.cats g k) ∧ Fw w wr) (fun _ i _ => 6 - (intOf i).toNat)
  case atStart => exact ⟨0, none, 0, 0, Nat.zero_le _, rfl, rfl, IOwn.nil z1.below.size, z1⟩
  case round =>
    obtain ⟨k, A, n, c, hk, rfl, rfl, HO, zr⟩ := hrel
    clear z1
    have hn : n ≤ 6 := by have := HO.len; have := D.cats_len g k; omega
    by_cases hlt : k < 6
    · have hc1 : D.cats g (k + 1) = if D.inn g k then D.cats g k ++ [k] else D.cats g k := rfl
      rw [hin.out] at hc1
      have hb1 : ∀ d : Nat, d = 2 ^ k → (bits .and .u64 ((a : Int) / (d : Int)) 1 == 1) = (a >>> k % 2 == 1) := fun d hd => bit_lit a k d hd hs
      obtain ⟨b, hb⟩ : ∃ b, (a >>> k % 2 == 1) = b := ⟨_, rfl⟩
      rw [hb] at hc1 hb1
      clear hb
      cases b
      · have HC := Lib.hid hc1
        clear hc1
        obtain rfl | rfl | rfl | rfl | rfl | rfl : k = 0 ∨ k = 1 ∨ k = 2 ∨ k = 3 ∨ k = 4 ∨ k = 5 := by omega
        · have t0 := hb1 1 rfl
          rw [show ((a : Int) / ((1 : Nat) : Int)) = (a : Int) from Int.ediv_one _] at t0
          clear hb1
          go_wp2
          go_roundw
          case rel => exact ⟨1, A, n, c, by omega, rfl, rfl, by rw [HC.out]; exact HO, zr⟩
          case measure => simp [intOf]
        · have t0 : (bits .and .u64 ((a : Int) / 2) 1 == 1) = false := hb1 2 rfl
          clear hb1
          go_wp2
          go_roundw
          case rel => exact ⟨2, A, n, c, by omega, rfl, rfl, by rw [HC.out]; exact HO, zr⟩
          case measure => simp [intOf]
        · have t0 : (bits .and .u64 ((a : Int) / 4) 1 == 1) = false := hb1 4 rfl
          clear hb1
          go_wp2
          go_roundw
          case rel => exact ⟨3, A, n, c, by omega, rfl, rfl, by rw [HC.out]; exact HO, zr⟩
          case measure => simp [intOf]
        · have t0 : (bits .and .u64 ((a : Int) / 8) 1 == 1) = false := hb1 8 rfl
          clear hb1
          go_wp2
          go_roundw
          case rel => exact ⟨4, A, n, c, by omega, rfl, rfl, by rw [HC.out]; exact HO, zr⟩
          case measure => simp [intOf]
        · have t0 : (bits .and .u64 ((a : Int) / 16) 1 == 1) = false := hb1 16 rfl
          clear hb1
          go_wp2
          go_roundw
          case rel => exact ⟨5, A, n, c, by omega, rfl, rfl, by rw [HC.out]; exact HO, zr⟩
          case measure => simp [intOf]
        · have t0 : (bits .and .u64 ((a : Int) / 32) 1 == 1) = false := hb1 32 rfl
          clear hb1
          go_wp2
          go_roundw
          case rel => exact ⟨6, A, n, c, by omega, rfl, rfl, by rw [HC.out]; exact HO, zr⟩
          case measure => simp [intOf]
      · have HC := Lib.hid hc1
        clear hc1
        obtain rfl | rfl | rfl | rfl | rfl | rfl : k = 0 ∨ k = 1 ∨ k = 2 ∨ k = 3 ∨ k = 4 ∨ k = 5 := by omega
        · have t0 := hb1 1 rfl
          rw [show ((a : Int) / ((1 : Nat) : Int)) = (a : Int) from Int.ediv_one _] at t0
          clear hb1
          go_wp2_with (at_builtin; refine iapp _ rfl (.tmp 16) (.tmp 18) rfl rfl (HO.alloc _) rfl (IOwn.lit (b := 0) HO.base rfl).to_row (by omega) ?_; intro A1 c1 w1 ho1 hg1 hat1)
          go_roundw
          case rel => exact ⟨1, A1, n + 1, c1, by omega, rfl, rfl, by rw [HC.out]; exact ho1, ⟨(zr.below.alloc zr.below.size _).grown hg1 (by have := zr.below.size; simp; omega) HO.block_le⟩⟩
          case measure => simp [intOf]
        · have t0 : (bits .and .u64 ((a : Int) / 2) 1 == 1) = true := hb1 2 rfl
          clear hb1
          go_wp2_with (at_builtin; refine iapp _ rfl (.tmp 16) (.tmp 18) rfl rfl (HO.alloc _) rfl (IOwn.lit (b := 1) HO.base rfl).to_row (by omega) ?_; intro A1 c1 w1 ho1 hg1 hat1)
          go_roundw
          case rel => exact ⟨2, A1, n + 1, c1, by omega, rfl, rfl, by rw [HC.out]; exact ho1, ⟨(zr.below.alloc zr.below.size _).grown hg1 (by have := zr.below.size; simp; omega) HO.block_le⟩⟩
          case measure => simp [intOf]
        · have t0 : (bits .and .u64 ((a : Int) / 4) 1 == 1) = true := hb1 4 rfl
          clear hb1
          go_wp2_with (at_builtin; refine iapp _ rfl (.tmp 16) (.tmp 18) rfl rfl (HO.alloc _) rfl (IOwn.lit (b := 2) HO.base rfl).to_row (by omega) ?_; intro A1 c1 w1 ho1 hg1 hat1)
          go_roundw
          case rel => exact ⟨3, A1, n + 1, c1, by omega, rfl, rfl, by rw [HC.out]; exact ho1, ⟨(zr.below.alloc zr.below.size _).grown hg1 (by have := zr.below.size; simp; omega) HO.block_le⟩⟩
          case measure => simp [intOf]
        · have t0 : (bits .and .u64 ((a : Int) / 8) 1 == 1) = true := hb1 8 rfl
          clear hb1
          go_wp2_with (at_builtin; refine iapp _ rfl (.tmp 16) (.tmp 18) rfl rfl (HO.alloc _) rfl (IOwn.lit (b := 3) HO.base rfl).to_row (by omega) ?_; intro A1 c1 w1 ho1 hg1 hat1)
          go_roundw
          case rel => exact ⟨4, A1, n + 1, c1, by omega, rfl, rfl, by rw [HC.out]; exact ho1, ⟨(zr.below.alloc zr.below.size _).grown hg1 (by have := zr.below.size; simp; omega) HO.block_le⟩⟩
          case measure => simp [intOf]
        · have t0 : (bits .and .u64 ((a : Int) / 16) 1 == 1) = true := hb1 16 rfl
          clear hb1
          go_wp2_with (at_builtin; refine iapp _ rfl (.tmp 16) (.tmp 18) rfl rfl (HO.alloc _) rfl (IOwn.lit (b := 4) HO.base rfl).to_row (by omega) ?_; intro A1 c1 w1 ho1 hg1 hat1)
          go_roundw
          case rel => exact ⟨5, A1, n + 1, c1, by omega, rfl, rfl, by rw [HC.out]; exact ho1, ⟨(zr.below.alloc zr.below.size _).grown hg1 (by have := zr.below.size; simp; omega) HO.block_le⟩⟩
          case measure => simp [intOf]
        · have t0 : (bits .and .u64 ((a : Int) / 32) 1 == 1) = true := hb1 32 rfl
          clear hb1
          go_wp2_with (at_builtin; refine iapp _ rfl (.tmp 16) (.tmp 18) rfl rfl (HO.alloc _) rfl (IOwn.lit (b := 5) HO.base rfl).to_row (by omega) ?_; intro A1 c1 w1 ho1 hg1 hat1)
          go_roundw
          case rel => exact ⟨6, A1, n + 1, c1, by omega, rfl, rfl, by rw [HC.out]; exact ho1, ⟨(zr.below.alloc zr.below.size _).grown hg1 (by have := zr.below.size; simp; omega) HO.block_le⟩⟩
          case measure => simp [intOf]
    · obtain rfl : k = 6 := by omega
      go_wp2
      go_ret
      exact imade HO zr.below
end Go.Proofs.YtpiajeonnhfanaaDoor
