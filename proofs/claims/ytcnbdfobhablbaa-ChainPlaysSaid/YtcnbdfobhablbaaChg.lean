/-
  slices.Values ranged over; slices.Collect, of numbers.
-/
import Derived.Test.YtcnbdfobhablbaaChu
set_option linter.unusedVariables false
set_option linter.unusedSimpArgs false
set_option maxRecDepth 100000
namespace Go.Proofs.Ytcnbdfobhablbaa
open Go.RowKit Go.Shelf
attribute [local go_sem] Oper.semAt_some
attribute [local go_sem ↓] Go.wp_at_zero Go.wp_at_succ ld_v lv_v st_v ne_v bd_v bs_v ld_w lv_w st_w ne_w bd_w bs_w ld_r ld_d lv_r lv_d st_r st_d ne_r eq_r ne_d bd_r bd_d
attribute [local go_sem] run_ldv run_lvv run_stv run_nev run_bdv_z run_bdv_d run_bdv_r run_bsv1 run_bsv0 run_ldw run_lvw run_stw run_new run_bdw_3 run_bsw1 run_bsw0 run_ldr run_ldd run_lvr run_lvd run_str run_std run_ner run_eqr run_ned run_bdr0 run_bdd0 run_bdr1 run_bdd1 run_bdd9 Shp.rd_new Shp.rd_old Shp.rd_drew Shp.rd_drewN Shp.rd_set Shp.tn_new Shp.tn_old Shp.tn_drew Shp.tn_drewN setRow_alloc
set_option maxHeartbeats 4000000 in
theorem vals_in (n : Nat) (hn : 3 ≤ n) (m : Nat) (hm : m ≤ 1000) (l Bp : Nat) (A : Option Addr) (c : Nat) (xs : List Nat) (n0 : Nat) (X : List Nat) (J Jx : List Nat → World → Prop)
    (W : World) (hb : W.cell? ⟨Bp, 0, none⟩ = some (.slice A m c)) (hr : Row W A m (wds xs)) (hX : ∀ ad, A = some ad → 0 < m → ad.block < n0 ∧ ad.block ∉ X) (h0n : n0 ≤ W.heap.size)
    (hA : AbidesFrom W.heap.size J)
    (hY : ∀ pre (y : Nat) W1, J pre W1 → pre.length < xs.length → YieldAt Fence.wide (n - 1) Try.prog l #[.int .u64 (y : Nat)] W1 fun e W' =>
      (e = .returned (.bool true) ∧ J (pre ++ [y]) W' ∧ Kq n0 X W1 W') ∨ (e = .returned (.bool false) ∧ Jx (pre ++ [y]) W'))
    (h0 : J [] W) :
    CallsIn Fence.wide n Try.prog 45 #[.func (.yield l) #[] #[], .pointer (some ⟨Bp, 0, none⟩)] W fun e W' => (∃ v, e = .returned v) ∧ ((∃ ys : List Nat, ys = xs ∧ J ys W') ∨ (∃ pre, Jx pre W')) := by
  have HY := Lib.hid hY
  have HA := Lib.hid hA
  have HR := Lib.hid hr
  have HX := Lib.hid hX
  have hlen : xs.length = m := by have := hr.len; rwa [wds_len] at this
  clear hY hA hr hX
  have hn1 : 1 ≤ n - 1 := by omega
  refine callsIn_of_wp Try.func45 rfl trivial ?_ rfl
  simp only [Try.ntmps45, List.size_toArray, List.length_cons, List.length_nil, Nat.reduceAdd, Nat.reduceSub, Array.replicate_succ, Array.replicate_zero, List.push_toArray, List.append_toArray, List.nil_append, List.cons_append]
  gi_wp2
  gi_loopw [7] (fun s wr => ∃ (j : Nat), j ≤ m ∧ s = .int .i64 j ∧ Kq n0 X W wr ∧ J (xs.take j) wr) (fun s _ => m - (intOf s).toNat)
  case atStart => exact ⟨0, Nat.zero_le _, rfl, Kq.refl _ _ _, by simpa using h0⟩
  case round =>
    obtain ⟨j, hj, rfl, hk, hJ⟩ := hrel
    by_cases hlt : j < m
    · obtain ⟨y, hy⟩ : ∃ y, xs[j]? = some y := ⟨_, List.getElem?_eq_getElem (by omega)⟩
      obtain ⟨ad, hAe, hc⟩ := HR.out.cell (wds_at hy)
      obtain ⟨hx1, hx2⟩ := HX.out ad hAe (by omega)
      subst hAe
      have hc2 : wr.cell? (ad.add j) = some (.int .u64 (y : Nat)) := (World.cell?_of_block (hk.old _ (by rw [block_of_add]; exact hx1) (by rw [block_of_add]; exact hx2))).trans hc
      have i0 : (0 : Int) ≤ (j : Int) := by omega
      have i1 : (j : Int) < (m : Int) := by omega
      have hlen2 : (xs.take j).length < xs.length := by simp; omega
      obtain ⟨fn, tmps, assign, body, hyd, hR⟩ := HY.out (xs.take j) y wr hJ hlen2
      have HT : Kept (xs.take j ++ [y] = xs.take (j + 1)) := ⟨by rw [List.take_add_one, hy]; rfl⟩
      clear hc hy hlen2 hJ
      gi_wp2
      refine ⟨fun _ => by omega, hR.mono ?_⟩
      rintro e W3 (⟨rfl, hJ4, hk3⟩ | ⟨rfl, hJx3⟩)
      · gi_wp2
        go_roundw
        case rel => exact ⟨j + 1, hlt, by go_num, hk.trans hk3, by rw [← HT.out]; exact hJ4⟩
        case measure => simp [intOf]; omega
      · gi_wp2
        refine bodyPost_ret (results_none rfl _ _ _) rfl ?_
        exact ⟨⟨_, rfl⟩, .inr ⟨_, hJx3⟩⟩
    · have hjm : j = m := by omega
      have hT : xs.take j = xs := List.take_of_length_le (by omega)
      rw [hT] at hJ
      gi_wp2
      go_end0
      exact ⟨⟨_, rfl⟩, .inl ⟨xs, rfl, hJ⟩⟩
theorem vals_stops (n : Nat) (hn : 3 ≤ n) (m : Nat) (hm : m ≤ 1000) (Bp : Nat) (A : Option Addr) (c : Nat) (xs : List Nat) (n0 : Nat) (X : List Nat) (w : World) (hb : w.cell? ⟨Bp, 0, none⟩ = some (.slice A m c)) (hr : Row w A m (wds xs)) (hX : ∀ ad, A = some ad → 0 < m → ad.block < n0 ∧ ad.block ∉ X) (h0n : n0 ≤ w.heap.size) :
    SeqStopsK Fence.wide n Try.prog 45 #[.pointer (some ⟨Bp, 0, none⟩)] (fun y : Nat => #[.int .u64 (y : Nat)]) (Kq n0 X) (fun ys => ys = xs) (fun _ => True) xs.length w := fun l J Jx W hW hJ _ hY h0 =>
  (vals_in n hn m hm l Bp A c xs n0 X J Jx W (cell_kept_ hW hb) (hr.on hW) hX (Nat.le_trans h0n hW.size) hJ hY h0).mono fun e W' ⟨h1, h2⟩ => ⟨h1, h2.elim .inl fun ⟨pre, h⟩ => .inr ⟨pre, trivial, h⟩⟩
theorem ow_base {base base' : Nat} {T : TypeId} {sz n c : Nat} {W : World} {A : Option Addr} {xs : List Value} (h : Ow T sz base W A n c xs) (hb : base' ≤ base) : Ow T sz base' W A n c xs := by
  refine ⟨⟨h.row.1, ?_⟩, Nat.le_trans hb h.base⟩
  rcases h.row.2 with hn | ⟨g, cap, cur, e, hg, r⟩
  · exact .inl hn
  · exact .inr ⟨g, cap, cur, e, Nat.le_trans hb hg, r⟩
set_option maxHeartbeats 8000000 in
theorem apps_any (Bp : Nat) (A0 : Option Addr) (m c0 : Nat) (xs : List Nat) (w : World) (hb : w.cell? ⟨Bp, 0, none⟩ = some (.slice A0 m c0)) (hr : Row w A0 m (wds xs)) (hz : m ≤ 1000) : Calls Try.prog 50 #[.slice none 0 0, .func (.func 45) #[] #[.pointer (some ⟨Bp, 0, none⟩)]] w fun e w' => ∃ (A : Option Addr) (c : Nat), e = .returned (.slice A xs.length c) ∧ Ow 23 1 w.heap.size w' A xs.length c (wds xs) ∧ Below w.heap.size w w' := by
  have hz' : xs.length ≤ 1000 := by have := hr.len; rw [wds_len] at this; omega
  refine (callsIn_wide (n := 10)).1 ?_
  refine callsIn_of_wp_marks Try.func50 rfl trivial ?_ rfl
  simp only [Try.ntmps50, List.size_toArray, List.length_cons, List.length_nil, Nat.reduceAdd, Nat.reduceSub, Array.replicate_succ, Array.replicate_zero, List.push_toArray, List.append_toArray, List.nil_append, List.cons_append]
  gi_wp2
  have hB := Blk.new w 33 #[.slice none 0 0]
  have hbel : Below w.heap.size w (w.alloc (.cells #[.slice none 0 0] 33)) := below_alloc_ _ _
  have hb3 := cell_kept_ hbel hb
  have hr3 := hr.on hbel
  have hX : ∀ ad, A0 = some ad → 0 < m → ad.block < (w.alloc (.cells #[.slice none 0 0] 33)).heap.size ∧ ad.block ∉ [w.heap.size] := fun ad e h => by
    obtain ⟨ad', e', hl, _⟩ := hr.to h
    rw [e] at e'; injection e' with e'; subst e'
    exact ⟨by simp; omega, by simp; omega⟩
  obtain ⟨gb, hgb⟩ : ∃ gb, w.heap.size = gb := ⟨_, rfl⟩
  obtain ⟨w3, hw3⟩ : ∃ w3, w.alloc (.cells #[.slice none 0 0] 33) = w3 := ⟨_, rfl⟩
  have hz3 : w3.heap.size = gb + 1 := by rw [← hw3, ← hgb]; simp
  rw [hw3, hgb] at hX
  rw [hw3] at hB hbel hb3 hr3
  rw [hgb] at hB hbel ⊢
  try rw [hw3]
  try rw [hgb]
  have HZ3 := Lib.hid hz3
  have HBEL := Lib.hid hbel
  clear hw3 hb hz3 hbel hr
  refine wpIn_rangeFunc_ownH rfl (by decide) (gf := 45) (lb := #[.pointer (some ⟨Bp, 0, none⟩)]) rfl trivial (enters_of Try.func45 (by kernel_rfl) rfl)
    (vals_stops 9 (by decide) m hz Bp A0 c0 xs w3.heap.size [gb] w3 hb3 hr3 hX (Nat.le_refl _)) (fun h k => h.trans k) (fun W l o o' h1 h2 h3 _ => Kq.put W l o o' h1 h2 h3) (Below.refl _ _) (fun _ => rfl)
    (fun pre W => Ov w3.heap.size [gb] w3 W ∧ ∃ A c, Blk W gb 33 #[.slice A pre.length c] ∧ Ow 23 1 w3.heap.size W A pre.length c (wds pre)) (fun _ _ _ => False)
    (fun s W W' row hs hg hr => ⟨hs.1.grown (Nat.le_refl _) hg fun r e => .inl (hr r e).1, let ⟨A, c, h1, h2⟩ := hs.2; ⟨A, c, (blk_own (fun _ : List Nat => #[.slice A s.length c])) s W W' row h1 hg hr, ow_own h2 hg hr⟩⟩) (fun _ _ _ _ _ hs _ _ => hs) ⟨Ov.refl _ _ _, none, 0, hB, Ow.nil _ 1 (Nat.le_refl _)⟩
    (fun y a' W => a' = { tmps := #[.slice none 0 0, .func (.func 45) #[] #[.pointer (some ⟨Bp, 0, none⟩)], .pointer (some ⟨gb, 0, none⟩), undef, .slice none 0 0, .int .u64 (y : Nat), .func (.func 45) #[] #[.pointer (some ⟨Bp, 0, none⟩)], .int .u64 (y : Nat), undef, undef, undef, undef, undef], defers := [] })
    (fun y a' s W W' row h3 hg hr => h3) ?assign ?body ?done ?stop
  case assign =>
    rintro l pre y W K ⟨hO, A, c, h1, h2⟩ hK
    gi_wp2
    exact hK _ _ (KeepsOthers.refl _ |>.from _) (Kq.refl _ _ _) ⟨hO, A, c, h1, h2⟩ rfl
  case body =>
    rintro l pre y a' W hl ⟨r, hr⟩ ⟨hO, A, c, hBs, hOw⟩ rfl hlt
    have hc := hBs.cell
    have hf := hBs.free
    gi_wp2_with (gi_at_builtin; refine gappIn _ u64_under u64_info rfl (by decide) (by decide) rfl (.tmp 8) (.tmp 10) rfl rfl (hOw.alloc (.cells #[.int .u64 (y : Nat)] 23)) rfl (rw_new W 1 23 1 #[.int .u64 (y : Nat)] rfl) (by intro u hu; simp at hu; subst hu; rfl) (by omega) ?_; intro A1 c1 w1 ho1 hg1; have hb1 := (hBs.alloc (.cells #[.int .u64 (y : Nat)] 23)).grown hg1 (fun e => by have := (hOw.lt _ e.symm).1; have := HZ3.out; omega); have hc1 := hb1.cell; have hf1 := hb1.free)
    have hsz := hO.size
    have hz1 := hg1.size
    have hlp : (pre ++ [y]).length = pre.length + 1 := by simp
    have hoc := ow_cells (hOw.alloc (.cells #[.int .u64 (y : Nat)] 23))
    have hO1 : Ov w3.heap.size [gb] w3 w1 := (hO.on (Nat.le_refl _) (below_alloc_ W _)).grown (Nat.le_refl _) hg1 (fun r e => .inl (hOw.lt r e).1)
    refine ⟨?_, ?_, hO1.set (by simp) _, A1, c1, ?_, ?_⟩
    · exact (((KeepsOthers.alloc W _).trans (KeepsOthers.of_grownBy hg1 fun j o e h => (hoc j o e h).1)).trans (KeepsOthers.setCell _ _ _)).from _
    · refine ((Kq.below (below_alloc_ W (.cells #[.int .u64 (y : Nat)] 23)) hsz).trans (Kq.grown (by simp; omega) hg1 fun r e => (hOw.lt r e).1)).trans (Kq.set _ _ _ _ (by simp))
    · rw [hlp]; exact hb1.set_ _
    · rw [hlp, show wds (pre ++ [y]) = wds pre ++ [.int .u64 (y : Nat)] by simp [wds]]
      exact ho1.kept (by simp [World.setCell]) (fun g e => Below.heap_setCell _ _ _ g (by have := (ho1.lt g e).1; have := HZ3.out; show g ≠ gb; omega))
  case done =>
    rintro D0 ys W hD rfl ⟨hO, A, c, hB2, hOw⟩ hK
    have hc := hB2.cell
    have hfin := HBEL.out.trans ((hO.put hD (.deferred none)).below (b := gb) (by have := HZ3.out; omega) (fun x hx => by simp at hx; omega))
    gi_wp2
    refine ⟨by simp, .inl ⟨_, _, rfl, run_takeDeferred hK, ?_⟩⟩
    rw [← hgb] at hfin
    refine ⟨_, results_tmp rfl _ _ _, A, c, rfl, ow_base (hOw.kept (by simp [World.putObj]) (fun g e => World.putObj_heap_other (fun e' => by subst e'; have := (ow_cells hOw g _ e hK).1; cases this))) (by have := HZ3.out; omega), by first | exact hfin | (rw [hgb]; exact hfin)⟩
  case stop =>
    rintro D0 c pre W _ _ h _
    exact h.elim
set_option maxHeartbeats 2000000 in
/-- slices.Collect(slices.Values(l)): a copy. -/
theorem coll_any (Bp : Nat) (A0 : Option Addr) (m c0 : Nat) (xs : List Nat) (w : World) (hb : w.cell? ⟨Bp, 0, none⟩ = some (.slice A0 m c0)) (hr : Row w A0 m (wds xs)) (hz : m ≤ 1000) : Calls Try.prog 43 #[.func (.func 45) #[] #[.pointer (some ⟨Bp, 0, none⟩)]] w fun e w' => ∃ (A : Option Addr) (c : Nat), e = .returned (.slice A xs.length c) ∧ Ow 23 1 w.heap.size w' A xs.length c (wds xs) ∧ Below w.heap.size w w' := by
  have CA := Lib.hid (apps_any Bp A0 m c0 xs w hb hr hz)
  go_enter Try.func43, Try.ntmps43
  go_wp2_with (go_at_call 50; (with_reducible refine CA.out.mono ?_); rintro e w1 ⟨A, c, rfl, ho, hb1⟩)
  go_ret
  exact ⟨A, c, rfl, ho, hb1⟩
theorem values_any (A : Option Addr) (n c : Nat) (w : World) : Calls Try.prog 34 #[.slice A n c] w fun e w' => e = .returned (.func (.func 45) #[] #[.pointer (some ⟨w.heap.size, 0, none⟩)]) ∧ w' = w.alloc (.cells #[.slice A n c] 33) := by
  go_enter Try.func34, Try.ntmps34
  go_wp2
  go_ret
  exact ⟨rfl, rfl⟩
end Go.Proofs.Ytcnbdfobhablbaa
