/-
  
-/
import Derived.Laws.CopyOwn
import Derived.Test.YtgnjjlgmlokhmaaGreatDoorG06
import Derived.Deep.CutRange
set_option linter.unusedVariables false
set_option linter.unusedSimpArgs false
namespace Go.Proofs.YtgnjjlgmlokhmaaGreatDoor
open Go.RowKit
attribute [local go_sem ↓] Go.wp_at_zero Go.wp_at_succ ld_a ld_n st_a st_n eq_a eq_n ne_a ne_n lv_a lv_n lp_3 lp_4
attribute [local go_sem] run_ld_a run_ld_n run_sw_a run_sw_n run_eq_a run_eq_n run_ne_a run_ne_n run_lv_a run_lv_n st_z ne_z rd_new rd_old rd_drew rd_drewN rd_set tn_new tn_old tn_drew tn_drewN setRow_alloc run_lp_3 run_lp_4

theorem cell_keep {w w1 : World} {p : Addr} {v : Value} (hb : Below w.heap.size w w1) (hc : w.cell? p = some v) : w1.cell? p = some v := (hb.cell (World.block_lt_of_cell? w p hc)).trans hc
theorem Own.far {base n c : Nat} {w : World} {A : Option Addr} {l : List Nat} (h : Own base w A n c l) {p : Addr} (hp : p.block < base) (u : Value) : Own base (w.setCell p u) A n c l := by
 refine ⟨⟨h.row.1, ?_⟩, by have := h.base; simpa [World.setCell] using this⟩
 rcases h.row.2 with hz | ⟨g, cap, cur, e, hg, hh, r⟩
 ·exact .inl hz
 ·exact .inr ⟨g, cap, cur, e, hg, (Below.heap_setCell w p u g (by omega)).trans hh, r⟩
theorem below_on {base : Nat} {w0 w w' : World} (h : Below base w0 w) (hle : base <= w.heap.size) (hb : Below w.heap.size w w') : Below base w0 w' := h.trans (hb.mono hle)
theorem results_cell1 {fn : Func} {p : Tmp} {ty : TypeId} (h : fn.results = #[.cell p ty]) (tmps : Array Value) (P : Program) (w : World) :
  (results fn tmps).run P w = ((asAddr (tmps.getD p undef)).run P w).andThen fun a w₁ => (loadVar ty a).run P w₁ := by
 simp only [results, h]
 simp [Sem.run_bind, Result.andThen]
theorem lv_of_a {w : World} {a : Addr} {x : D.Tg} (h : rd w a = some x) : (loadVar 61 a).run Tryz.prog w = .ok (.agg (nc x)) w := (run_lv_a w a).trans (by rw [h]; rfl)

theorem lv_of_n {w : World} {a : Addr} {x : D.Tg} (h : rd w a = some x) : (loadVar 61 a).run Tryz.prog w = .ok (.agg (nc x)) w := (run_lv_n w a).trans (by rw [h]; rfl)
end Go.Proofs.YtgnjjlgmlokhmaaGreatDoor
namespace Go.Proofs.YtgnjjlgmlokhmaaGreatDoor
open Go.RowKit
attribute [local go_sem ↓] Go.wp_at_zero Go.wp_at_succ

theorem sb_app (l k : List Nat) : D.sb (l ++ k) = D.sb l ++ D.sb k := by
 refine ByteArray.ext ?_
 rw [ByteArray.data_append]
 simp [D.sb]
end Go.Proofs.YtgnjjlgmlokhmaaGreatDoor
namespace Go.Proofs.YtgnjjlgmlokhmaaGreatDoor
open Go.RowKit
attribute [local go_sem ↓] Go.wp_at_zero Go.wp_at_succ ld_a ld_n st_a st_n eq_a eq_n ne_a ne_n lv_a lv_n lp_3 lp_4
attribute [local go_sem] run_ld_a run_ld_n run_sw_a run_sw_n run_eq_a run_eq_n run_ne_a run_ne_n run_lv_a run_lv_n st_z ne_z eq_z rd_new rd_old rd_drew rd_drewN rd_set tn_new tn_old tn_drew tn_drewN setRow_alloc run_lp_3 run_lp_4

structure SOwn (base : Nat) (w : World) (A : Option Addr) (n c : Nat) (l : List ByteArray) : Prop where
 row : w.ownsRow base 9 1 (.slice A n c) n (l.map Value.string)
 base : base <= w.heap.size
section
variable {base n c : Nat} {w w' : World} {A : Option Addr} {l : List ByteArray}
theorem SOwn.len (h : SOwn base w A n c l) : l.length = n := by have := h.row.1; rwa [List.length_map, Nat.mul_one] at this
theorem SOwn.cap (h : SOwn base w A n c l) : n <= c := by
 rcases h.row.2 with ⟨e, h0⟩ | ⟨g, cap, cur, e, _, _, h1, h2, _⟩
 ·injection e with _ _ e2
  omega
 ·injection e with _ _ e2
  omega
theorem SOwn.nil (h : base <= w.heap.size) : SOwn base w none 0 0 [] := ⟨World.ownsRow_nil _ _ _ _, h⟩
theorem SOwn.lt (h : SOwn base w A n c l) : ∀ k, (Value.slice A n c).ownBlock = some k -> base <= k ∧ k < w.heap.size := h.row.lt
theorem SOwn.on (h : SOwn base w A n c l) (hb : Below w.heap.size w w') : SOwn base w' A n c l := by
 refine ⟨⟨h.row.1, ?_⟩, Nat.le_trans h.base hb.size⟩
 rcases h.row.2 with hn | ⟨g, cap, cur, e, hg, hh, r⟩
 ·exact .inl hn
 ·refine .inr ⟨g, cap, cur, e, hg, ?_, r⟩
  rw [hb.block g (h.lt g (by rw [e]; rfl)).2]
  exact hh
theorem SOwn.alloc (h : SOwn base w A n c l) (o : Obj) : SOwn base (w.alloc o) A n c l := h.on (below_alloc_ w o)
theorem SOwn.block_le (h : SOwn base w A n c l) : ∀ k, (Value.slice A n c).ownBlock = some k -> base <= k := fun k hk => (h.lt k hk).1
theorem SOwn.at_ (h : SOwn base w A n c l) (hn : 0 < n) : ∃ g, A = some ⟨g, 0, none⟩ ∧ g < w.heap.size ∧ ∀ (j : Nat) x, l[j]? = some x -> w.cell? ⟨g, 0 + j, none⟩ = some (.string x) := by
 obtain ⟨g, cap, e, _, hlt⟩ := h.row.form hn
 have hA : A = some ⟨g, 0, none⟩ := by injection e
 subst hA
 refine ⟨g, rfl, hlt, fun j x hx => ?_⟩
 have := h.row.cells (g := g) rfl j (.string x) (by simp [hx])
 rwa [add_at] at this
end
theorem str_info : (Tryz.prog.info? 9).map (fun i => (i.zero, i.size, i.bytes)) = some (some (.string ⟨#[]⟩), 1, 16) := by kernel_rfl
set_option maxRecDepth 100000 in
theorem run_sapp (w : World) {base : Nat} {A : Option Addr} {n c g d : Nat} {l : List ByteArray} {x : ByteArray} (ty : TypeId) (ho : SOwn base w A n c l) (hx : w.cell? ⟨g, 0, none⟩ = some (.string x)) (h63 : n + 1 <= 1000000) :
  ∃ A' c' w', (Builtin.append_ #[35, 35] ty #[.slice A n c, .slice (some ⟨g, 0, none⟩) 1 d]).run Tryz.prog w = .ok (.slice A' (n + 1) c') w' ∧
   SOwn base w' A' (n + 1) c' (l ++ [x]) ∧ w.grownBy w' (Value.slice A n c).ownBlock := by
 obtain ⟨i, hi, hz0, hz1, hz2⟩ := info_parts str_info
 have hc : ∀ j u, [Value.string x][j]? = some u -> w.cell? ((⟨g, 0, none⟩ : Addr).add j) = some u := by
  intro j u hu
  cases j with
  | zero => simp at hu; subst hu; rw [add_zero_]; exact hx
  | succ j => simp at hu
 obtain ⟨v', w', hrun, h2, h3, _, h5⟩ := run_append_own_at (P := Tryz.prog) w base 35 ty 9 i _ 1 16 Tryz.underlying35 hi hz0 hz1 hz2 rfl (by omega) _ n (l.map Value.string) ho.row ⟨g, 0, none⟩ 1 d [Value.string x] (by simp) hc (fun v hv => by simp at hv; subst hv; rfl) (by simp only [maxLen]; omega) (by omega) ho.base
 have hs : ∃ A' c', v' = .slice A' (n + 1) c' := by
  rcases h2.2 with ⟨rfl, h0⟩ | ⟨g, cap, _, rfl, _⟩
  ·exact ⟨none, 0, by rw [h0]⟩
  ·exact ⟨_, _, rfl⟩
 obtain ⟨A', c', rfl⟩ := hs
 exact ⟨A', c', w', hrun, ⟨by simpa using h2, Nat.le_trans ho.base h3.size⟩, h3⟩
theorem sapp (w : World) {ops : Array Oper} {rest : List Oper} {o : Oper} {a : Act} {Q : Exit -> Act -> World -> Prop} (hgd : o.guard = none) (s x : Operand)
  (hop : o.op = .call { callee := .builtin .append, args := #[s, x], argTypes := #[35, 35] })
  {base : Nat} {A : Option Addr} {n c g d : Nat} {l : List ByteArray} {y : ByteArray} (hs : a.eval s = .slice A n c) (ho : SOwn base w A n c l) (hx : a.eval x = .slice (some ⟨g, 0, none⟩) 1 d) (hy : w.cell? ⟨g, 0, none⟩ = some (.string y)) (h63 : n + 1 <= 1000000)
  (h : ∀ A' c' w', SOwn base w' A' (n + 1) c' (l ++ [y]) -> w.grownBy w' (Value.slice A n c).ownBlock -> wpList Tryz.prog ops Q rest (a.put o.dst (.slice A' (n + 1) c')) w') : wpList Tryz.prog ops Q (o :: rest) a w := by
 obtain ⟨A', c', w', hrun, h2, h3⟩ := run_sapp w o.type ho hy h63 (d := d)
 refine wpList_plain hgd fun K hK => ?_
 unfold Oper.wp execOp
 simp only [hop, resolve, invoke, builtin, Sem.run_bind, Sem.run_pure, Result.andThen_ok, List.map_toArray, List.map_cons, List.map_nil, hs, hx, hrun]
 exact hK _ _ (h A' c' w' h2 h3)
theorem cell_new_at (w : World) (n : Nat) (v : Value) (t : TypeId) (h : n = w.heap.size) : (w.alloc (.cells #[v] t)).cell? ⟨n, 0, none⟩ = some v := by subst h; exact (Blk.new w t #[v]).cell
theorem hd0_take (l : List Nat) : D.hd0 l = l.take (D.hd0 l).length := by
 unfold D.hd0
 induction l with
 | nil => rfl
 | cons c t ih =>
  by_cases h : c = 0
  ·subst h; rfl
  ·rw [List.takeWhile_cons_of_pos (by simpa using h), List.length_cons, List.take_succ_cons, <- ih]
theorem hd0_len (l : List Nat) : (D.hd0 l).length <= l.length := by
 have := congrArg List.length (hd0_take l)
 rw [List.length_take] at this
 omega
theorem hd0_lt {l : List Nat} (h : ∀ b ∈ l, b < 256) : ∀ b ∈ D.hd0 l, b < 256 := fun b hb => by rw [hd0_take] at hb; exact h b (List.mem_of_mem_take hb)
def accs (x : D.Tg) (k : Nat) : List ByteArray := (([D.hd0 (D.pl x), D.hd0 (D.ps x), D.hd0 (D.pr x)].take k).filter (fun l => !l.isEmpty)).map D.sb
theorem gen_end (a b c : List Nat) (h1 : ∀ x ∈ a, x < 256) (h2 : ∀ x ∈ b, x < 256) (h3 : ∀ x ∈ c, x < 256) : ((([a, b, c].take 3).filter (fun l => !l.isEmpty)).map D.sb).map D.ns = (if a = [] then [] else [a]) ++ ((if b = [] then [] else [b]) ++ (if c = [] then [] else [c])) := by
 have e1 := D.ns_sb h1
 have e2 := D.ns_sb h2
 have e3 := D.ns_sb h3
 cases a <;> cases b <;> cases c <;> simp_all
theorem gen_len (a b c : List Nat) (h1 : a.length <= 3) (h2 : b.length <= 4) (h3 : c.length <= 3) : (D.join ((if a = [] then [] else [a]) ++ ((if b = [] then [] else [b]) ++ (if c = [] then [] else [c])))).length <= 20 := by
 by_cases ha : a = [] <;> by_cases hb : b = [] <;> by_cases hc : c = [] <;> simp [ha, hb, hc, D.join] <;> omega
theorem gen_0 (a b c : List Nat) : (([a, b, c].take 1).filter (fun l => !l.isEmpty)).map D.sb = (([a, b, c].take 0).filter (fun l => !l.isEmpty)).map D.sb ++ (if a = [] then [] else [D.sb a]) := by cases a <;> simp
theorem gen_1 (a b c : List Nat) : (([a, b, c].take 2).filter (fun l => !l.isEmpty)).map D.sb = (([a, b, c].take 1).filter (fun l => !l.isEmpty)).map D.sb ++ (if b = [] then [] else [D.sb b]) := by cases a <;> cases b <;> simp
theorem gen_2 (a b c : List Nat) : (([a, b, c].take 3).filter (fun l => !l.isEmpty)).map D.sb = (([a, b, c].take 2).filter (fun l => !l.isEmpty)).map D.sb ++ (if c = [] then [] else [D.sb c]) := by cases a <;> cases b <;> cases c <;> simp
theorem accs_end (x : D.Tg) : (accs x 3).map D.ns = D.some3 (D.hds x) :=
 gen_end _ _ _ (hd0_lt fun b hb => x.lt b (List.mem_of_mem_take hb)) (hd0_lt fun b hb => x.lt b (List.mem_of_mem_drop (List.mem_of_mem_take hb))) (hd0_lt fun b hb => x.lt b (List.mem_of_mem_drop hb))
theorem accs_1 (x : D.Tg) : accs x 1 = accs x 0 ++ (if D.hd0 (D.pl x) = [] then [] else [D.sb (D.hd0 (D.pl x))]) := gen_0 _ _ _
theorem accs_2 (x : D.Tg) : accs x 2 = accs x 1 ++ (if D.hd0 (D.ps x) = [] then [] else [D.sb (D.hd0 (D.ps x))]) := gen_1 _ _ _
theorem accs_3 (x : D.Tg) : accs x 3 = accs x 2 ++ (if D.hd0 (D.pr x) = [] then [] else [D.sb (D.hd0 (D.pr x))]) := gen_2 _ _ _
theorem run_idx (a b c : Value) : (∀ W, (Instr.index 216 (.agg #[a, b, c]) (.int .i64 0)).run Tryz.prog W = .ok a W) ∧ (∀ W, (Instr.index 216 (.agg #[a, b, c]) (.int .i64 1)).run Tryz.prog W = .ok b W) ∧ (∀ W, (Instr.index 216 (.agg #[a, b, c]) (.int .i64 2)).run Tryz.prog W = .ok c W) := by
 have e : (Tryz.prog.types[90]'(of_decide_eq_true (by kernel_rfl))).size = 1 := by kernel_rfl
 refine ⟨fun W => ?_, fun W => ?_, fun W => ?_⟩ <;> simp [Instr.index, go_sem, e]
theorem accs_len (x : D.Tg) (k : Nat) : (accs x k).length <= 3 := by
 simp only [accs, List.length_map]
 refine Nat.le_trans (List.length_filter_le _ _) ?_
 simp; omega
theorem row_part {w : World} {g : Nat} {t : TypeId} {x : D.Tg} (h : Blk w g t (nc x)) : Row w (some ⟨g, 0, none⟩) 3 (bys (D.pl x)) ∧ Row w (some ⟨g, 3, none⟩) 4 (bys (D.ps x)) ∧ Row w (some ⟨g, 7, none⟩) 3 (bys (D.pr x)) := by
 obtain ⟨h1, h2, h3⟩ := rd_parts (rd_blk h)
 have e1 := rp_at h1
 have e2 := rp_at h2
 have e3 := rp_at h3
 exact ⟨⟨by rw [bys_len, e1.1], fun _ => ⟨_, rfl, h.lt, e1.2⟩⟩, ⟨by rw [bys_len, e2.1], fun _ => ⟨_, rfl, h.lt, e2.2⟩⟩, ⟨by rw [bys_len, e3.1], fun _ => ⟨_, rfl, h.lt, e3.2⟩⟩⟩
theorem spell_len (x : D.Tg) : (D.join ((accs x 3).map D.ns)).length <= 20 := by
 rw [accs_end]
 have hx := x.len
 have h1 := hd0_len (D.pl x)
 have h2 := hd0_len (D.ps x)
 have h3 := hd0_len (D.pr x)
 have g1 : (D.pl x).length <= 3 := by simp [D.pl]; omega
 have g2 : (D.ps x).length <= 4 := by simp [D.ps]; omega
 have g3 : (D.pr x).length <= 3 := by simp [D.pr]; omega
 refine gen_len (D.hd0 (D.pl x)) (D.hd0 (D.ps x)) (D.hd0 (D.pr x)) ?_ ?_ ?_ <;> omega
set_option maxRecDepth 100000 in
set_option maxHeartbeats 4000000 in
theorem spelled_any (x : D.Tg) (w : World) : Calls Tryz.prog 151 #[.agg (nc x)] w fun e w' => e = .returned (.string (D.sb (D.spell x))) ∧ Below w.heap.size w w' := by
 have f0 := rd_new w _ 61 x rfl
 cases hz : sm x D.zero with
 | true =>
  have hs : D.spell x = D.rootT := by unfold D.spell; rw [if_pos (of_decide_eq_true hz)]
  rw [hs]
  clear hs
  go_enter Tryz.func151, Tryz.ntmps151
  go_wp2
  go_ret
  exact ⟨rfl, below_alloc_ _ _⟩
 | false =>
  have hs : D.spell x = D.join ((accs x 3).map D.ns) := by unfold D.spell; rw [if_neg (of_decide_eq_false hz), accs_end]
  rw [hs]
  have hlen := spell_len x
  clear hs
  have hbk := Blk.new w 61 (nc x)
  have bel0 := below_alloc_ w (.cells (nc x) 61)
  obtain ⟨w0, hw0⟩ : ∃ w0, w.alloc (.cells (nc x) 61) = w0 := ⟨_, rfl⟩
  rw [hw0] at hbk bel0 f0
  go_enter Tryz.func151, Tryz.ntmps151
  go_wp2_with fail
  try rw [hw0]
  clear hw0 hz f0
  go_quiet (fail)
  go_wp2
  go_loopw [3, 19] (fun p i wr => ∃ (k n : Nat) (A : Option Addr) (cp : Nat), ((k = 0 ∧ i = .int .i64 0) ∨ (k = 1 ∧ i = .int .i64 1) ∨ (k = 2 ∧ i = .int .i64 2) ∨ (k = 3 ∧ i = .int .i64 3)) ∧ p = .slice A n cp ∧ SOwn (w.heap.size + 1) wr A n cp (accs x k) ∧ Blk wr w.heap.size 61 (nc x) ∧ Below w.heap.size w wr) (fun _ i _ => 3 - (intOf i).toNat)
  case atStart => exact ⟨0, 0, none, 0, .inl ⟨rfl, rfl⟩, rfl, SOwn.nil (by have := hbk.lt; exact this), ⟨hbk.out⟩, below_drewN bel0 _⟩
  case round =>
   clear hbk bel0
   obtain ⟨k, n, A, cp, hi, rfl, hO, hB, hbel⟩ := hrel
   have hn3 : n <= 3 := by have := hO.len; have := accs_len x k; omega
   have hz := hbel.size
   obtain ⟨R1, R2, R3⟩ := row_part hB
   obtain ⟨ix0, ix1, ix2⟩ := run_idx (.slice (some ⟨w.heap.size, 0, none⟩) 3 3) (.slice (some ⟨w.heap.size, 3, none⟩) 4 4) (.slice (some ⟨w.heap.size, 7, none⟩) 3 3)
   rcases hi with ⟨rfl, rfl⟩ | ⟨rfl, rfl⟩ | ⟨rfl, rfl⟩ | ⟨rfl, rfl⟩
   ·have hlt : ∀ b ∈ D.pl x, b < 256 := fun b hb => x.lt b (List.mem_of_mem_take hb)
    have hln : (D.pl x).length = 3 := by have := R1.len; rwa [bys_len] at this
    have RA := R1.alloc (.cells #[.int .u8 0] 5)
    have cC := cut0_any ⟨w.heap.size, 0, none⟩ 3 3 wr.heap.size 1 (D.pl x) (wr.alloc (.cells #[.int .u8 0] 5)) hln hlt (fun j u hu => by obtain ⟨ad, e, hc⟩ := RA.cell hu; injection e with e; subst e; exact hc) (Nat.le_refl _) (by decide) ((Blk.new wr 5 #[.int .u8 0]).cell)
    have hacc := accs_1 x
    have hhl := hd0_len (D.pl x)
    have hcv := fun q => str_run ((wr.alloc (.cells #[.int .u8 0] 5)).drewN q) (some ⟨w.heap.size, 0, none⟩) (D.hd0 (D.pl x)).length 3 (D.hd0 (D.pl x)) (by
     have := ((RA.drewN q)).take (k := (D.hd0 (D.pl x)).length) (by rw [hln] at hhl; exact hhl)
     rw [bys_take, <- hd0_take] at this
     exact this) (hd0_lt hlt)
    have hO2 := fun q => hO.on ((below_alloc_ wr (.cells #[.int .u8 0] 5)).trans (below_drewN (Below.refl wr.heap.size (wr.alloc (.cells #[.int .u8 0] 5))) q))
    have hB2 := fun q => hB.on ((below_alloc_ wr (.cells #[.int .u8 0] 5)).trans (below_drewN (Below.refl wr.heap.size (wr.alloc (.cells #[.int .u8 0] 5))) q))
    have hb2 := fun q => below_drewN (hbel.alloc hz (.cells #[.int .u8 0] 5)) q
    obtain ⟨l, hl⟩ : ∃ l, D.hd0 (D.pl x) = l := ⟨_, rfl⟩
    rw [hl] at cC hacc hcv hhl
    clear hl RA R1 R2 R3 hln hlt
    by_cases h0 : l = []
    ·rw [if_pos h0, List.append_nil] at hacc
     have j1 : ¬ (0 : Int) < (l.length : Int) := by rw [h0]; simp
     have j2 : (l.length : Int) <= 0 := by rw [h0]; simp
     have HA := Lib.hid hacc
     clear hacc h0 hcv hO hB
     go_wp2_with (go_at_call 124; (with_reducible refine Calls.mono cC ?_); rintro e w2 ⟨v2, v3, rfl, q, rfl⟩)
     go_roundw
     case rel => exact ⟨1, n, A, cp, .inr (.inl ⟨rfl, rfl⟩), rfl, by rw [HA.out]; exact hO2 _, hB2 _, hb2 _⟩
     case measure => simp [intOf]
    ·rw [if_neg h0] at hacc
     have j1 : (0 : Int) < (l.length : Int) := by have := List.length_pos_iff.2 h0; omega
     have HA := Lib.hid hacc
     clear hacc h0 hO hB
     go_wp2_with (first
      | (go_at_call 124; (with_reducible refine Calls.mono cC ?_); rintro e w2 ⟨v2, v3, rfl, q, rfl⟩; have hcv2 := hcv q; have hO3 := hO2 q; have hB3 := hB2 q; have hb3 := hb2 q)
      | (at_builtin; go_loud (refine sapp _ rfl (.tmp 32) (.tmp 35) rfl rfl (hO3.alloc _) rfl (cell_new_at _ _ _ _ (by simp)) (by omega) ?_); intro A1 c1 w3 ho3 hg3))
     go_roundw
     case rel => exact ⟨1, n + 1, A1, c1, .inr (.inl ⟨rfl, rfl⟩), rfl, by rw [HA.out]; exact ho3, (hB3.alloc _).grown hg3 (fun e => by have := hO3.block_le _ e.symm; omega), (hb3.alloc (by have := hb3.size; exact this) _).grown hg3 (by have := hb3.size; simp; omega) (fun k hk => Nat.le_of_succ_le (hO3.block_le k hk))⟩
     case measure => simp [intOf]
   ·have hlt : ∀ b ∈ D.ps x, b < 256 := fun b hb => x.lt b (List.mem_of_mem_drop (List.mem_of_mem_take hb))
    have hln : (D.ps x).length = 4 := by have := R2.len; rwa [bys_len] at this
    have RA := R2.alloc (.cells #[.int .u8 0] 5)
    have cC := cut0_any ⟨w.heap.size, 3, none⟩ 4 4 wr.heap.size 1 (D.ps x) (wr.alloc (.cells #[.int .u8 0] 5)) hln hlt (fun j u hu => by obtain ⟨ad, e, hc⟩ := RA.cell hu; injection e with e; subst e; exact hc) (Nat.le_refl _) (by decide) ((Blk.new wr 5 #[.int .u8 0]).cell)
    have hacc := accs_2 x
    have hhl := hd0_len (D.ps x)
    have hcv := fun q => str_run ((wr.alloc (.cells #[.int .u8 0] 5)).drewN q) (some ⟨w.heap.size, 3, none⟩) (D.hd0 (D.ps x)).length 4 (D.hd0 (D.ps x)) (by
     have := ((RA.drewN q)).take (k := (D.hd0 (D.ps x)).length) (by rw [hln] at hhl; exact hhl)
     rw [bys_take, <- hd0_take] at this
     exact this) (hd0_lt hlt)
    have hO2 := fun q => hO.on ((below_alloc_ wr (.cells #[.int .u8 0] 5)).trans (below_drewN (Below.refl wr.heap.size (wr.alloc (.cells #[.int .u8 0] 5))) q))
    have hB2 := fun q => hB.on ((below_alloc_ wr (.cells #[.int .u8 0] 5)).trans (below_drewN (Below.refl wr.heap.size (wr.alloc (.cells #[.int .u8 0] 5))) q))
    have hb2 := fun q => below_drewN (hbel.alloc hz (.cells #[.int .u8 0] 5)) q
    obtain ⟨l, hl⟩ : ∃ l, D.hd0 (D.ps x) = l := ⟨_, rfl⟩
    rw [hl] at cC hacc hcv hhl
    clear hl RA R1 R2 R3 hln hlt
    by_cases h0 : l = []
    ·rw [if_pos h0, List.append_nil] at hacc
     have j1 : ¬ (0 : Int) < (l.length : Int) := by rw [h0]; simp
     have j2 : (l.length : Int) <= 0 := by rw [h0]; simp
     have HA := Lib.hid hacc
     clear hacc h0 hcv hO hB
     go_wp2_with (go_at_call 124; (with_reducible refine Calls.mono cC ?_); rintro e w2 ⟨v2, v3, rfl, q, rfl⟩)
     go_roundw
     case rel => exact ⟨2, n, A, cp, .inr (.inr (.inl ⟨rfl, rfl⟩)), rfl, by rw [HA.out]; exact hO2 _, hB2 _, hb2 _⟩
     case measure => simp [intOf]
    ·rw [if_neg h0] at hacc
     have j1 : (0 : Int) < (l.length : Int) := by have := List.length_pos_iff.2 h0; omega
     have HA := Lib.hid hacc
     clear hacc h0 hO hB
     go_wp2_with (first
      | (go_at_call 124; (with_reducible refine Calls.mono cC ?_); rintro e w2 ⟨v2, v3, rfl, q, rfl⟩; have hcv2 := hcv q; have hO3 := hO2 q; have hB3 := hB2 q; have hb3 := hb2 q)
      | (at_builtin; go_loud (refine sapp _ rfl (.tmp 32) (.tmp 35) rfl rfl (hO3.alloc _) rfl (cell_new_at _ _ _ _ (by simp)) (by omega) ?_); intro A1 c1 w3 ho3 hg3))
     go_roundw
     case rel => exact ⟨2, n + 1, A1, c1, .inr (.inr (.inl ⟨rfl, rfl⟩)), rfl, by rw [HA.out]; exact ho3, (hB3.alloc _).grown hg3 (fun e => by have := hO3.block_le _ e.symm; omega), (hb3.alloc (by have := hb3.size; exact this) _).grown hg3 (by have := hb3.size; simp; omega) (fun k hk => Nat.le_of_succ_le (hO3.block_le k hk))⟩
     case measure => simp [intOf]
   ·have hlt : ∀ b ∈ D.pr x, b < 256 := fun b hb => x.lt b (List.mem_of_mem_drop hb)
    have hln : (D.pr x).length = 3 := by have := R3.len; rwa [bys_len] at this
    have RA := R3.alloc (.cells #[.int .u8 0] 5)
    have cC := cut0_any ⟨w.heap.size, 7, none⟩ 3 3 wr.heap.size 1 (D.pr x) (wr.alloc (.cells #[.int .u8 0] 5)) hln hlt (fun j u hu => by obtain ⟨ad, e, hc⟩ := RA.cell hu; injection e with e; subst e; exact hc) (Nat.le_refl _) (by decide) ((Blk.new wr 5 #[.int .u8 0]).cell)
    have hacc := accs_3 x
    have hhl := hd0_len (D.pr x)
    have hcv := fun q => str_run ((wr.alloc (.cells #[.int .u8 0] 5)).drewN q) (some ⟨w.heap.size, 7, none⟩) (D.hd0 (D.pr x)).length 3 (D.hd0 (D.pr x)) (by
     have := ((RA.drewN q)).take (k := (D.hd0 (D.pr x)).length) (by rw [hln] at hhl; exact hhl)
     rw [bys_take, <- hd0_take] at this
     exact this) (hd0_lt hlt)
    have hO2 := fun q => hO.on ((below_alloc_ wr (.cells #[.int .u8 0] 5)).trans (below_drewN (Below.refl wr.heap.size (wr.alloc (.cells #[.int .u8 0] 5))) q))
    have hB2 := fun q => hB.on ((below_alloc_ wr (.cells #[.int .u8 0] 5)).trans (below_drewN (Below.refl wr.heap.size (wr.alloc (.cells #[.int .u8 0] 5))) q))
    have hb2 := fun q => below_drewN (hbel.alloc hz (.cells #[.int .u8 0] 5)) q
    obtain ⟨l, hl⟩ : ∃ l, D.hd0 (D.pr x) = l := ⟨_, rfl⟩
    rw [hl] at cC hacc hcv hhl
    clear hl RA R1 R2 R3 hln hlt
    by_cases h0 : l = []
    ·rw [if_pos h0, List.append_nil] at hacc
     have j1 : ¬ (0 : Int) < (l.length : Int) := by rw [h0]; simp
     have j2 : (l.length : Int) <= 0 := by rw [h0]; simp
     have HA := Lib.hid hacc
     clear hacc h0 hcv hO hB
     go_wp2_with (go_at_call 124; (with_reducible refine Calls.mono cC ?_); rintro e w2 ⟨v2, v3, rfl, q, rfl⟩)
     go_roundw
     case rel => exact ⟨3, n, A, cp, .inr (.inr (.inr ⟨rfl, rfl⟩)), rfl, by rw [HA.out]; exact hO2 _, hB2 _, hb2 _⟩
     case measure => simp [intOf]
    ·rw [if_neg h0] at hacc
     have j1 : (0 : Int) < (l.length : Int) := by have := List.length_pos_iff.2 h0; omega
     have HA := Lib.hid hacc
     clear hacc h0 hO hB
     go_wp2_with (first
      | (go_at_call 124; (with_reducible refine Calls.mono cC ?_); rintro e w2 ⟨v2, v3, rfl, q, rfl⟩; have hcv2 := hcv q; have hO3 := hO2 q; have hB3 := hB2 q; have hb3 := hb2 q)
      | (at_builtin; go_loud (refine sapp _ rfl (.tmp 32) (.tmp 35) rfl rfl (hO3.alloc _) rfl (cell_new_at _ _ _ _ (by simp)) (by omega) ?_); intro A1 c1 w3 ho3 hg3))
     go_roundw
     case rel => exact ⟨3, n + 1, A1, c1, .inr (.inr (.inr ⟨rfl, rfl⟩)), rfl, by rw [HA.out]; exact ho3, (hB3.alloc _).grown hg3 (fun e => by have := hO3.block_le _ e.symm; omega), (hb3.alloc (by have := hb3.size; exact this) _).grown hg3 (by have := hb3.size; simp; omega) (fun k hk => Nat.le_of_succ_le (hO3.block_le k hk))⟩
     case measure => simp [intOf]
   ·clear R1 R2 R3
    have hns : (accs x 3).length = n := hO.len
    by_cases h0 : n = 0
    ·have hnil : accs x 3 = [] := List.eq_nil_of_length_eq_zero (by omega)
     have cJ := Lib.hid (fun w => join_none A cp w)
     have HN := Lib.hid hnil
     subst h0
     clear hO hns hnil
     go_wp2_with (go_at_call 160; (with_reducible refine (cJ.out _).mono ?_); rintro e w2 ⟨rfl, b2⟩)
     go_ret
     exact ⟨by rw [HN.out]; rfl, below_on hbel hz b2⟩
    ·obtain ⟨g, rfl, hg, hcell⟩ := hO.at_ (by omega)
     have cJ := join_any g cp (accs x 3) wr hcell hg (by omega) (by rw [hns]; exact hO.cap) (by omega)
     rw [hns] at cJ
     clear hO hns hcell h0
     go_wp2_with (go_at_call 160; (with_reducible refine Calls.mono cJ ?_); rintro e w2 ⟨rfl, b2⟩)
     go_ret
     exact ⟨rfl, below_on hbel hz b2⟩
end Go.Proofs.YtgnjjlgmlokhmaaGreatDoor
