/-
  The document's Bytes.
  The law's To and raw: a tag's ten bytes, one by one.
  The document's Text.
-/
import Derived.Test.YtpiajeonnhfanaaDoorGl
import Derived.Laws.CopyOwn
set_option linter.unusedVariables false
set_option linter.unusedSimpArgs false
namespace Go.Proofs.YtpiajeonnhfanaaDoor
open Go.RowKit
attribute [local go_sem ↓] Go.wp_at_zero Go.wp_at_succ ld_a ld_n st_a st_n eq_a eq_n ne_a ne_n lv_a lv_n lp_3 lp_4
attribute [local go_sem] run_ld_a run_ld_n run_sw_a run_sw_n run_eq_a run_eq_n run_ne_a run_ne_n run_lv_a run_lv_n st_z ne_z rd_new rd_old rd_drew rd_drewN rd_set tn_new tn_old tn_drew tn_drewN setRow_alloc run_lp_3 run_lp_4

theorem pad3 (s : ByteArray) (w : World) (hs : s.size ≤ 100) : Calls Tryd.prog 47 #[.string s, .int .i64 3] w fun e w' => ∃ A c, e = .returned (.slice A 3 c) ∧ Own w.heap.size w' A 3 c (D.padn (D.ns s) 3) ∧ Below w.heap.size w w' :=
  (pad_3 s w hs).mono fun e w' ⟨A, c, he, ho, hb⟩ => by rw [D.padn_len] at he ho; exact ⟨A, c, he, ho, hb⟩
theorem pad4 (s : ByteArray) (w : World) (hs : s.size ≤ 100) : Calls Tryd.prog 47 #[.string s, .int .i64 4] w fun e w' => ∃ A c, e = .returned (.slice A 4 c) ∧ Own w.heap.size w' A 4 c (D.padn (D.ns s) 4) ∧ Below w.heap.size w w' :=
  (pad_4 s w hs).mono fun e w' ⟨A, c, he, ho, hb⟩ => by rw [D.padn_len] at he ho; exact ⟨A, c, he, ho, hb⟩
theorem wp_app (w : World) {o : Oper} {a : Act} {K : Act → World → Prop} {Q : Exit → Act → World → Prop} (s x : Operand)
    (hop : o.op = .call { callee := .builtin .append, args := #[s, x], argTypes := #[74, 74] })
    {base : Nat} {A B : Option Addr} {n c m d : Nat} {l k : List Nat} (hs : a.eval s = .slice A n c) (ho : Own base w A n c l) (hx : a.eval x = .slice B m d) (hr : Row w B m (bys k)) (h63 : n + m ≤ 1000000)
    (h : ∀ A' c' w', Own base w' A' (n + m) c' (l ++ k) → w.grownBy w' (Value.slice A n c).ownBlock → K (a.put o.dst (.slice A' (n + m) c')) w') : o.wp Tryd.prog a w K Q := by
  obtain ⟨A', c', w', hrun, h2, h3, h4⟩ := run_app w o.type ho hr h63 (d := d)
  unfold Oper.wp execOp
  simp only [hop, resolve, invoke, builtin, Sem.run_bind, Sem.run_pure, Result.andThen_ok, List.map_toArray, List.map_cons, List.map_nil, hs, hx, hrun]
  exact h A' c' w' h2 h3
theorem cell_keep {w w1 : World} {p : Addr} {v : Value} (hb : Below w.heap.size w w1) (hc : w.cell? p = some v) : w1.cell? p = some v := (hb.cell (World.block_lt_of_cell? w p hc)).trans hc
theorem own_base {b1 b2 n c : Nat} {w : World} {A : Option Addr} {l : List Nat} (h : Own b1 w A n c l) (hb : b2 ≤ b1) : Own b2 w A n c l := by
  refine ⟨⟨h.row.1, ?_⟩, Nat.le_trans hb h.base⟩
  rcases h.row.2 with hz | ⟨g, cap, cur, e, hg, r⟩
  · exact .inl hz
  · exact .inr ⟨g, cap, cur, e, Nat.le_trans hb hg, r⟩
theorem Own.far {base n c : Nat} {w : World} {A : Option Addr} {l : List Nat} (h : Own base w A n c l) {p : Addr} (hp : p.block < base) (u : Value) : Own base (w.setCell p u) A n c l := by
  refine ⟨⟨h.row.1, ?_⟩, by have := h.base; simpa [World.setCell] using this⟩
  rcases h.row.2 with hz | ⟨g, cap, cur, e, hg, hh, r⟩
  · exact .inl hz
  · exact .inr ⟨g, cap, cur, e, hg, (Below.heap_setCell w p u g (by omega)).trans hh, r⟩
theorem below_app {base b n c : Nat} {w0 w w' : World} {A : Option Addr} {l : List Nat} (h : Below base w0 w) (hle : base ≤ w.heap.size) (ho : Own b w A n c l) (hb : base ≤ b) (hg : w.grownBy w' (Value.slice A n c).ownBlock) : Below base w0 w' :=
  h.grown hg hle fun k hk => Nat.le_trans hb (ho.block_le k hk)
theorem below_on {base : Nat} {w0 w w' : World} (h : Below base w0 w) (hle : base ≤ w.heap.size) (hb : Below w.heap.size w w') : Below base w0 w' := h.trans (hb.mono hle)
theorem results_cell1 {fn : Func} {p : Tmp} {ty : TypeId} (h : fn.results = #[.cell p ty]) (tmps : Array Value) (P : Program) (w : World) :
    (results fn tmps).run P w = ((asAddr (tmps.getD p undef)).run P w).andThen fun a w₁ => (loadVar ty a).run P w₁ := by
  simp only [results, h]
  simp [Sem.run_bind, Result.andThen]
theorem lv_of_a {w : World} {a : Addr} {x : D.Tg} (h : rd w a = some x) : (loadVar 50 a).run Tryd.prog w = .ok (.agg (nc x)) w := (run_lv_a w a).trans (by rw [h]; rfl)
theorem tbl_tb (a b c : ByteArray) : (D.tb ⟨D.ns a, D.ns b, D.ns c⟩).l = D.padn (D.ns a) 3 ++ D.padn (D.ns b) 4 ++ D.padn (D.ns c) 3 := by
  rw [D.tb_l (D.ns_lt a) (D.ns_lt b) (D.ns_lt c), D.tbl, List.append_assoc]
theorem pk_nc {x : D.Tg} : pk x.l 10 10 = nc x := by
  rw [pk_end (.inl x.len.symm) (by rw [x.len]; exact Nat.le_refl _), nc]
  congr 2
  unfold D.padn
  rw [List.take_append_of_le_length (by rw [x.len]; exact Nat.le_refl _), List.take_of_length_le (by rw [x.len]; exact Nat.le_refl _)]
set_option maxRecDepth 100000 in
set_option maxHeartbeats 2000000 in
theorem ref_bytes (a b c : ByteArray) (w : World) (ha : a.size ≤ 100) (hb : b.size ≤ 100) (hc : c.size ≤ 100) :
    Calls Tryd.prog 36 #[.agg #[.string a, .string b, .string c]] w fun e w' => e = .returned (.agg (nc (D.tb ⟨D.ns a, D.ns b, D.ns c⟩))) ∧ Below w.heap.size w w' := by
  have cA := Lib.hid (fun W => pad3 a W ha)
  have cB := Lib.hid (fun W => pad4 b W hb)
  have cC := Lib.hid (fun W => pad3 c W hc)
  have HT := Lib.hid (tbl_tb a b c)
  obtain ⟨x, hx⟩ : ∃ x, D.tb ⟨D.ns a, D.ns b, D.ns c⟩ = x := ⟨_, rfl⟩
  rw [hx] at HT ⊢
  clear hx ha hb hc
  obtain ⟨w0, hw0⟩ : ∃ w0, ((w.alloc (.cells #[.string a, .string b, .string c] 46)).alloc (.cells #[.int .u8 0, .int .u8 0, .int .u8 0, .int .u8 0, .int .u8 0, .int .u8 0, .int .u8 0, .int .u8 0, .int .u8 0, .int .u8 0] 50)).alloc (.cells #[.int .u8 0, .int .u8 0, .int .u8 0, .int .u8 0, .int .u8 0, .int .u8 0, .int .u8 0, .int .u8 0, .int .u8 0, .int .u8 0] 50) = w0 := ⟨_, rfl⟩
  have B0 := ((Blk.new w 46 #[.string a, .string b, .string c]).alloc (.cells z10 50)).alloc (.cells z10 50)
  have T2 : tn w0 (w.heap.size + 1) = true := by
    have := (Blk.new (w.alloc (.cells #[.string a, .string b, .string c] 46)) 50 z10).alloc (.cells z10 50)
    rw [World.size_alloc, hw0] at this
    exact tn_of this rfl
  have B3 : Blk w0 (w.heap.size + 2) 50 (pk x.l 0 10) := by
    have := Blk.new ((w.alloc (.cells #[.string a, .string b, .string c] 46)).alloc (.cells z10 50)) 50 z10
    rw [World.size_alloc, World.size_alloc, hw0] at this
    exact this
  rw [hw0] at B0
  have h0 : w0.cell? ⟨w.heap.size, 0, none⟩ = some (.string a) := (B0.c 0).trans rfl
  have h1 : w0.cell? ⟨w.heap.size, 1, none⟩ = some (.string b) := (B0.c 1).trans rfl
  have h2 : w0.cell? ⟨w.heap.size, 2, none⟩ = some (.string c) := (B0.c 2).trans rfl
  have hb0 : Below w.heap.size w w0 := by rw [← hw0]; exact (((Below.refl _ _).alloc (Nat.le_refl _) _).alloc (by simp) _).alloc (by simp; omega) _
  have hz : w.heap.size + 3 ≤ w0.heap.size := by rw [← hw0]; simp
  clear B0
  go_enter Tryd.func36, Tryd.ntmps36
  go_wp2_with fail
  try rw [hw0]
  clear hw0
  refine wp_region_noPanic ?_
  refine wp_region_held_drew (S := fun W => Below w0.heap.size w0 W) (by kernel_rfl) (Below.refl _ _).drew (fun _ => ?_)
  refine takeS 0 (some 6) ?va0 (by kernel_rfl) (by kernel_rfl) (by kernel_rfl) (by kernel_rfl) (fun _ _ _ h => h) (by rfl) ?hya0 (Below.refl _ _).drew ?resta0
  case hya0 => (intro o ho W hW; simp only [List.getElem?_toArray, List.getElem?_cons_succ, List.getElem?_cons_zero, Option.some.injEq] at ho; subst ho; (try dsimp only at hW); have g := cell_keep hW h0; go_simp; try rfl)
  try simp only [Act.put, List.setIfInBounds_toArray, List.set_cons_zero, List.set_cons_succ]
  refine takeS 1 (some 7) ?va1 (by kernel_rfl) (by kernel_rfl) (by kernel_rfl) (by kernel_rfl) (fun _ _ _ h => h) (by rfl) ?hya1 (Below.refl _ _).drew ?resta1
  case hya1 => (intro o ho W hW; simp only [List.getElem?_toArray, List.getElem?_cons_succ, List.getElem?_cons_zero, Option.some.injEq] at ho; subst ho; (try dsimp only at hW); have g := cell_keep hW h0; go_simp; try rfl)
  try simp only [Act.put, List.setIfInBounds_toArray, List.set_cons_zero, List.set_cons_succ]
  refine takeS 3 (some 9) ?va3 (by kernel_rfl) (by kernel_rfl) (by kernel_rfl) (by kernel_rfl) (fun _ _ _ h => h) (by rfl) ?hya3 (Below.refl _ _).drew ?resta3
  case hya3 => (intro o ho W hW; simp only [List.getElem?_toArray, List.getElem?_cons_succ, List.getElem?_cons_zero, Option.some.injEq] at ho; subst ho; (try dsimp only at hW); have g := cell_keep hW h1; go_simp; try rfl)
  try simp only [Act.put, List.setIfInBounds_toArray, List.set_cons_zero, List.set_cons_succ]
  refine takeS 4 (some 10) ?va4 (by kernel_rfl) (by kernel_rfl) (by kernel_rfl) (by kernel_rfl) (fun _ _ _ h => h) (by rfl) ?hya4 (Below.refl _ _).drew ?resta4
  case hya4 => (intro o ho W hW; simp only [List.getElem?_toArray, List.getElem?_cons_succ, List.getElem?_cons_zero, Option.some.injEq] at ho; subst ho; (try dsimp only at hW); have g := cell_keep hW h1; go_simp; try rfl)
  try simp only [Act.put, List.setIfInBounds_toArray, List.set_cons_zero, List.set_cons_succ]
  refine takeS 7 (some 13) ?va7 (by kernel_rfl) (by kernel_rfl) (by kernel_rfl) (by kernel_rfl) (fun _ _ _ h => h) (by rfl) ?hya7 (Below.refl _ _).drew ?resta7
  case hya7 => (intro o ho W hW; simp only [List.getElem?_toArray, List.getElem?_cons_succ, List.getElem?_cons_zero, Option.some.injEq] at ho; subst ho; (try dsimp only at hW); have g := cell_keep hW h2; go_simp; try rfl)
  try simp only [Act.put, List.setIfInBounds_toArray, List.set_cons_zero, List.set_cons_succ]
  refine takeS 8 (some 14) ?va8 (by kernel_rfl) (by kernel_rfl) (by kernel_rfl) (by kernel_rfl) (fun _ _ _ h => h) (by rfl) ?hya8 (Below.refl _ _).drew ?resta8
  case hya8 => (intro o ho W hW; simp only [List.getElem?_toArray, List.getElem?_cons_succ, List.getElem?_cons_zero, Option.some.injEq] at ho; subst ho; (try dsimp only at hW); have g := cell_keep hW h2; go_simp; try rfl)
  try simp only [Act.put, List.setIfInBounds_toArray, List.set_cons_zero, List.set_cons_succ]
  refine nextS 2 (by kernel_rfl) (by rfl) (fun o ho K hK => ?_)
  simp only [List.getElem?_toArray, List.getElem?_cons_succ, List.getElem?_cons_zero, Option.some.injEq] at ho; subst ho
  go_simp
  (go_at_call 47; (with_reducible refine (cA.out _).mono ?_); rintro e w1 ⟨A1, c1, rfl, ho1, hb1⟩)
  have s1 : Below w0.heap.size w0 w1 := below_on (Below.refl _ _).drew (Nat.le_refl _) hb1
  refine hK.out _ _ s1 (fun _ => ?_)
  clear hK K
  try simp only [Act.put, List.setIfInBounds_toArray, List.set_cons_zero, List.set_cons_succ]
  refine nextS 5 (by kernel_rfl) (by rfl) (fun o ho K hK => ?_)
  simp only [List.getElem?_toArray, List.getElem?_cons_succ, List.getElem?_cons_zero, Option.some.injEq] at ho; subst ho
  go_simp
  (go_at_call 47; (with_reducible refine (cB.out _).mono ?_); rintro e w2 ⟨A2, c2, rfl, ho2, hb2⟩)
  have s2 : Below w0.heap.size w0 w2 := below_on s1 s1.size hb2
  refine hK.out _ _ s2 (fun _ => ?_)
  clear hK K
  try simp only [Act.put, List.setIfInBounds_toArray, List.set_cons_zero, List.set_cons_succ]
  refine nextS 6 (by kernel_rfl) (by rfl) (fun o ho K hK => ?_)
  simp only [List.getElem?_toArray, List.getElem?_cons_succ, List.getElem?_cons_zero, Option.some.injEq] at ho; subst ho
  refine wp_app _ (.tmp 8) (.tmp 11) (by rfl) (by rfl) (ho1.more hb2) (by rfl) ho2.to_row (by omega) ?_
  intro A3 c3 w3 ho3 hg3
  have s3 : Below w0.heap.size w0 w3 := below_app s2 s2.size (ho1.more hb2) (Nat.le_refl _) hg3
  refine hK.out _ _ s3 (fun _ => ?_)
  clear hK K
  try simp only [Act.put, List.setIfInBounds_toArray, List.set_cons_zero, List.set_cons_succ]
  refine nextS 9 (by kernel_rfl) (by rfl) (fun o ho K hK => ?_)
  simp only [List.getElem?_toArray, List.getElem?_cons_succ, List.getElem?_cons_zero, Option.some.injEq] at ho; subst ho
  go_simp
  (go_at_call 47; (with_reducible refine (cC.out _).mono ?_); rintro e w4 ⟨A4, c4, rfl, ho4, hb4⟩)
  have s4 : Below w0.heap.size w0 w4 := below_on s3 s3.size hb4
  refine hK.out _ _ s4 (fun _ => ?_)
  clear hK K
  try simp only [Act.put, List.setIfInBounds_toArray, List.set_cons_zero, List.set_cons_succ]
  refine nextS 10 (by kernel_rfl) (by rfl) (fun o ho K hK => ?_)
  simp only [List.getElem?_toArray, List.getElem?_cons_succ, List.getElem?_cons_zero, Option.some.injEq] at ho; subst ho
  refine wp_app _ (.tmp 12) (.tmp 15) (by rfl) (by rfl) (ho3.more hb4) (by rfl) ho4.to_row (by omega) ?_
  intro A5 c5 w5 ho5 hg5
  have s5 : Below w0.heap.size w0 w5 := below_app s4 s4.size (ho3.more hb4) (Nat.le_refl _) hg5
  refine hK.out _ _ s5 (fun _ => ?_)
  clear hK K
  try simp only [Act.put, List.setIfInBounds_toArray, List.set_cons_zero, List.set_cons_succ]
  refine takeS 11 (some 4) ?vb11 (by kernel_rfl) (by kernel_rfl) (by kernel_rfl) (by kernel_rfl) (fun _ _ _ h => h) (by rfl) ?hyb11 s5 ?restb11
  case hyb11 => (intro o ho W hW; simp only [List.getElem?_toArray, List.getElem?_cons_succ, List.getElem?_cons_zero, Option.some.injEq] at ho; subst ho; (try dsimp only at hW); skip; go_simp; try rfl)
  try simp only [Act.put, List.setIfInBounds_toArray, List.set_cons_zero, List.set_cons_succ]
  refine wpAnyH_done (by kernel_rfl) ?_ _
  refine NoPanic.normal ?_
  have hO : Own w0.heap.size w5 A5 10 c5 x.l := by rw [HT.out]; exact ho5
  have b5 := below_on hb0 (by omega) s5
  have t5 := tn_on T2 s5
  have B5 := B3.on s5
  have hz5 : w.heap.size + 3 ≤ w5.heap.size := Nat.le_trans hz s5.size
  clear ho5 hg5 ho4 hb4 hg3 ho3 ho2 hb2 ho1 hb1 s1 s2 s3 s4 s5 B3 T2 h0 h1 h2 hb0
  go_wp2
  go_loopw [5] (fun i wr => ∃ k : Nat, k ≤ 10 ∧ i = .int .i64 k ∧ Own w0.heap.size wr A5 10 c5 x.l ∧ Blk wr (w.heap.size + 2) 50 (pk x.l k 10) ∧ tn wr (w.heap.size + 1) = true ∧ Below w.heap.size w wr) (fun i _ => 10 - (intOf i).toNat)
  case atStart => exact ⟨0, Nat.zero_le _, rfl, hO, B5, t5, b5⟩
  case round =>
    clear hO B5 t5 b5 hz5
    obtain ⟨k, hk, rfl, hO, B5, t5, b5⟩ := hrel
    by_cases hlt : k < 10
    · obtain ⟨b', hb, hbm⟩ := at_lt (l := x.l) (i := k) (by rw [x.len]; exact hlt)
      obtain ⟨ad, e, cx⟩ := hO.to_row.cell (bys_at hb)
      subst e
      have hbn := B5.put k (.int .u8 b')
      rw [pk_next hb hlt] at hbn
      have hcs : ∃ v, wr.cell? ⟨w.heap.size + 2, k, none⟩ = some v := by
        rw [B5.c]
        exact ⟨_, Array.getElem?_eq_getElem (by rw [pk_size]; omega)⟩
      obtain ⟨v0, hc⟩ := hcs
      have hf := B5.f k
      have hO2 := hO.far (p := ⟨w.heap.size + 2, k, none⟩) (by show w.heap.size + 2 < w0.heap.size; omega) (.int .u8 b')
      have hne : tn (wr.setCell ⟨w.heap.size + 2, k, none⟩ (.int .u8 b')) (w.heap.size + 1) = true := (tn_to (Below.heap_setCell _ _ _ _ (by simp))).trans t5
      have i2 : (k : Int) < 10 := by omega
      clear hb B5 hO t5
      go_wp2
      go_roundw
      case rel => exact ⟨k + 1, by omega, by go_num, hO2, hbn, hne, b5.setCell (Nat.le_add_right w.heap.size 2) _⟩
      case measure => simp [intOf]; omega
    · obtain rfl : k = 10 := by omega
      rw [pk_nc] at B5
      have hx := rd_blk B5
      have hset := rd_set wr (w.heap.size + 1) x t5
      have b6 := below_setRow b5 (Nat.le_succ _) (nc x)
      clear B5 hO hlt
      go_wp2
      refine bodyPost_ret (v := .agg (nc x)) (by rw [results_cell1 rfl]; simp [asAddr, Result.andThen, lv_of_a hset]) rfl ⟨rfl, b6⟩
end Go.Proofs.YtpiajeonnhfanaaDoor
set_option linter.unusedVariables false
set_option linter.unusedSimpArgs false
namespace Go.Proofs.YtpiajeonnhfanaaDoor
open Go.RowKit
attribute [local go_sem ↓] Go.wp_at_zero Go.wp_at_succ ld_a ld_n st_a st_n eq_a eq_n ne_a ne_n lv_a lv_n lp_3 lp_4
attribute [local go_sem] run_ld_a run_ld_n run_sw_a run_sw_n run_eq_a run_eq_n run_ne_a run_ne_n run_lv_a run_lv_n st_z ne_z rd_new rd_old rd_drew rd_drewN rd_set tn_new tn_old tn_drew tn_drewN setRow_alloc run_lp_3 run_lp_4

theorem tg_at (x : D.Tg) {k : Nat} (h : k < 10) : ∃ b, x.l[k]? = some b := ⟨x.l[k]'(by rw [x.len]; exact h), List.getElem?_eq_getElem _⟩
theorem blk_at {w : World} {g : Nat} {t : TypeId} {x : D.Tg} {j b : Nat} (h : Blk w g t (nc x)) (hb : x.l[j]? = some b) : w.cell? ⟨g, j, none⟩ = some (.int .u8 b) := by
  rw [h.c j]
  simp [nc, bys, hb]
/-- One byte more. -/
theorem put_one {w : World} {g : Nat} {t : TypeId} {x : D.Tg} {k b : Nat} (h : Blk w g t (pk x.l k 10)) (hb : x.l[k]? = some b) (hk : k < 10) :
    (∃ v, w.cell? ⟨g, k, none⟩ = some v) ∧ w.frozen? ⟨g, k, none⟩ = false ∧ Blk (w.setCell ⟨g, k, none⟩ (.int .u8 b)) g t (pk x.l (k + 1) 10) := by
  refine ⟨?_, h.f k, ?_⟩
  · rw [h.c]
    exact ⟨_, Array.getElem?_eq_getElem (by rw [pk_size]; omega)⟩
  · have := h.put k (.int .u8 b)
    rwa [pk_next hb hk] at this
theorem lv_of_n {w : World} {a : Addr} {x : D.Tg} (h : rd w a = some x) : (loadVar 25 a).run Tryd.prog w = .ok (.agg (nc x)) w := (run_lv_n w a).trans (by rw [h]; rfl)
theorem ten_first (x : D.Tg) : pk x.l 0 10 = z10 := rfl
set_option maxRecDepth 100000 in
set_option maxHeartbeats 2000000 in
theorem to_any (a b c : ByteArray) (w : World) (ha : a.size ≤ 100) (hb : b.size ≤ 100) (hc : c.size ≤ 100) :
    Calls Tryd.prog 23 #[.agg #[.string a, .string b, .string c]] w fun e w' => e = .returned (.agg (nc (D.tb ⟨D.ns a, D.ns b, D.ns c⟩))) ∧ Below w.heap.size w w' := by
  have cA := Lib.hid (fun W => ref_bytes a b c W ha hb hc)
  obtain ⟨x, hx⟩ : ∃ x, D.tb ⟨D.ns a, D.ns b, D.ns c⟩ = x := ⟨_, rfl⟩
  rw [hx] at cA ⊢
  clear hx ha hb hc
  go_enter Tryd.func23, Tryd.ntmps23
  go_wp2_with (go_at_call 36; (with_reducible refine (cA.out _).mono ?_); rintro e w1 ⟨rfl, hb1⟩)
  have hz : w.heap.size + 2 ≤ w1.heap.size := by have := hb1.size; simp at this; omega
  have T1 : tn w1 (w.heap.size + 1) = true := by
    have := tn_of (Blk.new (w.alloc (.cells #[.string a, .string b, .string c] 46)) 25 z10) rfl
    rw [World.size_alloc] at this
    exact tn_on this hb1
  have b1 : Below w.heap.size w w1 := (((Below.refl _ _).alloc (Nat.le_refl _) _).alloc (by simp) _).trans (hb1.mono (by simp; omega))
  go_loopw [5] (fun i wr => ∃ k : Nat, k ≤ 10 ∧ i = .int .i64 k ∧ Blk wr w1.heap.size 50 (nc x) ∧ Blk wr (w1.heap.size + 1) 25 (pk x.l k 10) ∧ tn wr (w.heap.size + 1) = true ∧ Below w.heap.size w wr) (fun i _ => 10 - (intOf i).toNat)
  case atStart =>
    refine ⟨0, Nat.zero_le _, rfl, (Blk.new _ _ _).alloc _, ?_, ?_, (b1.alloc (by omega) _).alloc (by simp; omega) _⟩
    · have := Blk.new (w1.alloc (.cells (nc x) 50)) 25 z10
      rw [World.size_alloc] at this
      exact this
    · rw [tn_old _ _ _ (by simp; omega), tn_old _ _ _ (by omega)]; exact T1
  case round =>
    clear T1 b1
    obtain ⟨k, hk, rfl, BS, BD, t5, b5⟩ := hrel
    rcases (show k < 3 ∨ (3 ≤ k ∧ k < 7) ∨ (7 ≤ k ∧ k < 10) ∨ k = 10 by omega) with h | ⟨h1, h2⟩ | ⟨h1, h2⟩ | h
    · obtain ⟨b', hb⟩ := tg_at x (k := k) (by omega)
      have cx := blk_at BS hb
      obtain ⟨⟨v0, hc⟩, hf, hbn⟩ := put_one BD hb (by omega)
      have hsrc := BS.far (p := ⟨w1.heap.size + 1, k, none⟩) (by show w1.heap.size ≠ w1.heap.size + 1; omega) (.int .u8 b')
      have hne : tn (wr.setCell ⟨w1.heap.size + 1, k, none⟩ (.int .u8 b')) (w.heap.size + 1) = true := (tn_to (Below.heap_setCell _ _ _ _ (by show w.heap.size + 1 ≠ w1.heap.size + 1; omega))).trans t5
      have i5 : (k : Int) < 3 := by omega
      have i8 : (k : Int) < 10 := by omega
      clear hb BS BD t5
      go_wp2
      go_roundw
      case rel => exact ⟨k + 1, by omega, by go_num, hsrc, hbn, hne, b5.setCell (by show w.heap.size ≤ w1.heap.size + 1; omega) _⟩
      case measure => simp [intOf]; omega
    · obtain ⟨j, rfl⟩ : ∃ j, k = j + 3 := ⟨k - 3, by omega⟩
      obtain ⟨b', hb⟩ := tg_at x (k := j + 3) (by omega)
      have cx := blk_at BS hb
      obtain ⟨⟨v0, hc⟩, hf, hbn⟩ := put_one BD hb (by omega)
      have hsrc := BS.far (p := ⟨w1.heap.size + 1, j + 3, none⟩) (by show w1.heap.size ≠ w1.heap.size + 1; omega) (.int .u8 b')
      have hne : tn (wr.setCell ⟨w1.heap.size + 1, j + 3, none⟩ (.int .u8 b')) (w.heap.size + 1) = true := (tn_to (Below.heap_setCell _ _ _ _ (by show w.heap.size + 1 ≠ w1.heap.size + 1; omega))).trans t5
      rw [Nat.add_comm j 3] at hc hf hsrc hne
      have hbn' : Blk (wr.setCell ⟨w1.heap.size + 1, 3 + j, none⟩ (.int .u8 b')) (w1.heap.size + 1) 25 (pk x.l (j + 3 + 1) 10) := by rw [Nat.add_comm 3 j]; exact hbn
      clear hbn
      have i0 : ((j : Int) + 3) - 3 = (j : Int) := by omega
      have i3 : IntKind.i64.wrap (((j : Int) + 3) - 3) = (j : Int) := by rw [i0]; exact IntWalk.i64_in _ (by omega)
      have i5 : ¬ ((j : Int) + 3 < 3) := by omega
      have i6 : (j : Int) + 3 < 7 := by omega
      have i7 : (j : Int) < 4 := by omega
      have i8 : (j : Int) + 3 < 10 := by omega
      clear hb BS BD t5
      go_wp2
      go_roundw
      case rel => exact ⟨j + 3 + 1, by omega, by go_num, hsrc, hbn', hne, b5.setCell (by show w.heap.size ≤ w1.heap.size + 1; omega) _⟩
      case measure => simp [intOf]; omega
    · obtain ⟨j, rfl⟩ : ∃ j, k = j + 7 := ⟨k - 7, by omega⟩
      obtain ⟨b', hb⟩ := tg_at x (k := j + 7) (by omega)
      have cx := blk_at BS hb
      obtain ⟨⟨v0, hc⟩, hf, hbn⟩ := put_one BD hb (by omega)
      have hsrc := BS.far (p := ⟨w1.heap.size + 1, j + 7, none⟩) (by show w1.heap.size ≠ w1.heap.size + 1; omega) (.int .u8 b')
      have hne : tn (wr.setCell ⟨w1.heap.size + 1, j + 7, none⟩ (.int .u8 b')) (w.heap.size + 1) = true := (tn_to (Below.heap_setCell _ _ _ _ (by show w.heap.size + 1 ≠ w1.heap.size + 1; omega))).trans t5
      rw [Nat.add_comm j 7] at hc hf hsrc hne
      have hbn' : Blk (wr.setCell ⟨w1.heap.size + 1, 7 + j, none⟩ (.int .u8 b')) (w1.heap.size + 1) 25 (pk x.l (j + 7 + 1) 10) := by rw [Nat.add_comm 7 j]; exact hbn
      clear hbn
      have i0 : ((j : Int) + 7) - 7 = (j : Int) := by omega
      have i3 : IntKind.i64.wrap (((j : Int) + 7) - 7) = (j : Int) := by rw [i0]; exact IntWalk.i64_in _ (by omega)
      have i5 : ¬ ((j : Int) + 7 < 3) := by omega
      have i6 : ¬ ((j : Int) + 7 < 7) := by omega
      have i7 : (j : Int) < 3 := by omega
      have i8 : (j : Int) + 7 < 10 := by omega
      clear hb BS BD t5
      go_wp2
      go_roundw
      case rel => exact ⟨j + 7 + 1, by omega, by go_num, hsrc, hbn', hne, b5.setCell (by show w.heap.size ≤ w1.heap.size + 1; omega) _⟩
      case measure => simp [intOf]; omega
    · subst h
      rw [pk_nc] at BD
      have hx := rd_blk BD
      have hset := rd_set wr (w.heap.size + 1) x t5
      have b6 := below_setRow b5 (Nat.le_succ _) (nc x)
      clear BS BD
      go_wp2
      refine bodyPost_ret (v := .agg (nc x)) (by rw [results_cell1 rfl]; simp [asAddr, Result.andThen, lv_of_n hset]) rfl ⟨rfl, b6⟩
end Go.Proofs.YtpiajeonnhfanaaDoor
set_option linter.unusedVariables false
set_option linter.unusedSimpArgs false
namespace Go.Proofs.YtpiajeonnhfanaaDoor
open Go.RowKit
attribute [local go_sem ↓] Go.wp_at_zero Go.wp_at_succ

theorem sb_app (l k : List Nat) : D.sb (l ++ k) = D.sb l ++ D.sb k := by
  refine ByteArray.ext ?_
  rw [ByteArray.data_append]
  simp [D.sb]
set_option maxRecDepth 100000 in
set_option maxHeartbeats 1000000 in
theorem ref_text (a b c : ByteArray) (w : World) (ha : a.size ≤ 100) (hb : b.size ≤ 100) (hc : c.size ≤ 100) :
    Calls Tryd.prog 29 #[.agg #[.string a, .string b, .string c]] w fun e w' => e = .returned (.string (D.sb (D.txt ⟨D.ns a, D.ns b, D.ns c⟩))) ∧ Below w.heap.size w w' := by
  have n0 : ∀ s : ByteArray, D.ns s = [] ↔ s.size = 0 := fun s => by rw [← D.ns_len, List.length_eq_zero_iff]
  have nt : ∀ s : ByteArray, s.size ≠ 0 → s.toList.isEmpty = false := fun s h => by
    rw [ByteArray.toList_eq]
    cases e : s.data.toList with
    | nil => exact absurd (by have := congrArg List.length e; simpa using this) h
    | cons => rfl
  by_cases h1 : a.size = 0
  · have e : D.txt ⟨D.ns a, D.ns b, D.ns c⟩ = D.rootT := by unfold D.txt; rw [if_pos ((n0 a).2 h1)]
    obtain rfl : a = ByteArray.empty := D.ns_inj ((n0 a).2 h1)
    rw [e]
    clear e h1 n0 nt
    go_enter Tryd.func29, Tryd.ntmps29
    go_wp2
    go_ret
    exact ⟨rfl, below_alloc_ _ _⟩
  · have e1 : ¬ D.ns a = [] := fun h => h1 ((n0 a).1 h)
    have f1 := nt a h1
    by_cases h2 : b.size = 0 <;> by_cases h3 : c.size = 0
    · obtain rfl : b = ByteArray.empty := D.ns_inj ((n0 b).2 h2)
      obtain rfl : c = ByteArray.empty := D.ns_inj ((n0 c).2 h3)
      have e : D.sb (D.txt ⟨D.ns a, D.ns ByteArray.empty, D.ns ByteArray.empty⟩) = a := by
        unfold D.txt
        simp only [if_neg e1, show D.ns ByteArray.empty = [] from rfl, if_true, List.append_nil]
        rw [D.sb_ns]
      have E := Lib.hid e
      clear e h1 h2 h3 e1 n0 nt
      go_enter Tryd.func29, Tryd.ntmps29
      go_wp2
      go_ret
      exact ⟨by rw [E.out]; rfl, below_alloc_ _ _⟩
    · obtain rfl : b = ByteArray.empty := D.ns_inj ((n0 b).2 h2)
      have f3 := nt c h3
      have g3 : (!c.toList.isEmpty) = true := by rw [f3]; rfl
      have e : D.sb (D.txt ⟨D.ns a, D.ns ByteArray.empty, D.ns c⟩) = a ++ ⟨#[45]⟩ ++ c := by
        unfold D.txt
        simp only [if_neg e1, show D.ns ByteArray.empty = [] from rfl, if_true, List.nil_append, if_neg (fun h => h3 ((n0 c).1 h))]
        rw [show (45 : Nat) :: D.ns c = [45] ++ D.ns c from rfl, sb_app, sb_app, D.sb_ns, D.sb_ns, ← ByteArray.append_assoc]
        rfl
      have E := Lib.hid e
      clear e h1 h2 h3 e1 n0 nt
      go_enter Tryd.func29, Tryd.ntmps29
      go_wp2
      go_ret
      exact ⟨by rw [E.out]; rfl, below_alloc_ _ _⟩
    · obtain rfl : c = ByteArray.empty := D.ns_inj ((n0 c).2 h3)
      have f2 := nt b h2
      have g2 : (!b.toList.isEmpty) = true := by rw [f2]; rfl
      have e : D.sb (D.txt ⟨D.ns a, D.ns b, D.ns ByteArray.empty⟩) = a ++ ⟨#[45]⟩ ++ b := by
        unfold D.txt
        simp only [if_neg e1, show D.ns ByteArray.empty = [] from rfl, if_true, List.append_nil, if_neg (fun h => h2 ((n0 b).1 h))]
        rw [show (45 : Nat) :: D.ns b = [45] ++ D.ns b from rfl, sb_app, sb_app, D.sb_ns, D.sb_ns, ← ByteArray.append_assoc]
        rfl
      have E := Lib.hid e
      clear e h1 h2 h3 e1 n0 nt
      go_enter Tryd.func29, Tryd.ntmps29
      go_wp2
      go_ret
      exact ⟨by rw [E.out]; rfl, below_alloc_ _ _⟩
    · have f2 := nt b h2
      have g2 : (!b.toList.isEmpty) = true := by rw [f2]; rfl
      have f3 := nt c h3
      have g3 : (!c.toList.isEmpty) = true := by rw [f3]; rfl
      have e : D.sb (D.txt ⟨D.ns a, D.ns b, D.ns c⟩) = a ++ ⟨#[45]⟩ ++ b ++ ⟨#[45]⟩ ++ c := by
        unfold D.txt
        simp only [if_neg e1, if_neg (fun h => h2 ((n0 b).1 h)), if_neg (fun h => h3 ((n0 c).1 h))]
        rw [show (45 : Nat) :: D.ns c = [45] ++ D.ns c from rfl, show (45 : Nat) :: D.ns b = [45] ++ D.ns b from rfl, sb_app, sb_app, sb_app, sb_app, D.sb_ns, D.sb_ns, D.sb_ns]
        simp only [ByteArray.append_assoc]
        rfl
      have E := Lib.hid e
      clear e h1 h2 h3 e1 n0 nt
      go_enter Tryd.func29, Tryd.ntmps29
      go_wp2
      go_ret
      exact ⟨by rw [E.out]; rfl, below_alloc_ _ _⟩
end Go.Proofs.YtpiajeonnhfanaaDoor
