/-
  Trim.
-/
import Derived.Test.YtcnbdfobhablbaaChj
set_option linter.unusedVariables false
set_option linter.unusedSimpArgs false
set_option maxRecDepth 100000
namespace Go.Proofs.Ytcnbdfobhablbaa
open Go.RowKit Go.Shelf
attribute [local go_sem] Oper.semAt_some
attribute [local go_sem ↓] Go.wp_at_zero Go.wp_at_succ ld_v lv_v st_v ne_v bd_v bs_v ld_w lv_w st_w ne_w bd_w bs_w ld_r ld_d lv_r lv_d st_r st_d ne_r eq_r ne_d bd_r bd_d
attribute [local go_sem] run_ldv run_lvv run_stv run_nev run_bdv_z run_bdv_d run_bdv_r run_bsv1 run_bsv0 run_ldw run_lvw run_stw run_new run_bdw_3 run_bsw1 run_bsw0 run_ldr run_ldd run_lvr run_lvd run_str run_std run_ner run_eqr run_ned run_bdr0 run_bdd0 run_bdr1 run_bdd1 run_bdd9 Shp.rd_new Shp.rd_old Shp.rd_drew Shp.rd_drewN Shp.rd_set Shp.tn_new Shp.tn_old Shp.tn_drew Shp.tn_drewN setRow_alloc vv_0 vv_1 run_fdv0 run_fdv1 run_stf Shp.rd_extk cell_ext
theorem needed_any (p : Option Addr) (b : Nat) (w : World) : Calls Try.prog 26 #[.pointer p, .func (.func 35) #[] #[.pointer (some ⟨b, 0, none⟩)]] w fun e w' => e = .returned (.func (.func 37) #[] #[.pointer (some ⟨w.heap.size, 0, none⟩), .pointer (some ⟨w.heap.size + 1, 0, none⟩)]) ∧ w' = (w.alloc (.cells #[.pointer p] 55)).alloc (.cells #[.func (.func 35) #[] #[.pointer (some ⟨b, 0, none⟩)]] 67) := by
  go_enter Try.func26, Try.ntmps26
  go_wp2
  go_ret
  exact ⟨rfl, rfl⟩
theorem trim_nil (v : Value) (w : World) : Calls Try.prog 9 #[.pointer none, v] w fun e w' => e = .returned (.int .i64 0) ∧ Below w.heap.size w w' := by
  refine (callsIn_wide (n := 10)).1 ?_
  refine callsIn_of_wp_marks Try.func9 rfl trivial ?_ rfl
  simp only [Try.ntmps9, List.size_toArray, List.length_cons, List.length_nil, Nat.reduceAdd, Nat.reduceSub, Array.replicate_succ, Array.replicate_zero, List.push_toArray, List.append_toArray, List.nil_append, List.cons_append]
  gi_wp2
  exact ⟨_, results_tmp rfl _ _ _, rfl, Below.refl _ _⟩
theorem ov_kq {n0 : Nat} {X : List Nat} {w W : World} (h : Ov n0 X w W) : Kq n0 X w W := ⟨h.size, h.block⟩
set_option maxHeartbeats 8000000 in
theorem trim_any {base g c m d : Nat} {w : World} {A B : Option Addr} {l : List D.Vn} (h : Cn base w g A c l) (ps : List Nat) (hr : Row w B m (wds ps)) (hm : m ≤ 12) (hbase : base ≤ w.heap.size) :
    Calls Try.prog 9 #[.pointer (some ⟨g, 0, none⟩), .slice B m d] w fun e w' => e = .returned (.int .i64 ((l.length - (D.trm ps l).length : Nat))) ∧ ∃ A' c', Cn base w' g A' c' (D.trm ps l) ∧ Only (fun i => i = g) w w' ∧ (∀ i, at_ A' i → w.heap.size ≤ i) := by
  have hps : ps.length = m := by have := hr.len; rwa [wds_len] at this
  refine (callsIn_wide (n := 10)).1 ?_
  refine callsIn_of_wp_marks Try.func9 rfl trivial ?_ rfl
  simp only [Try.ntmps9, List.size_toArray, List.length_cons, List.length_nil, Nat.reduceAdd, Nat.reduceSub, Array.replicate_succ, Array.replicate_zero, List.push_toArray, List.append_toArray, List.nil_append, List.cons_append]
  have HC := Lib.hid h
  have b0 := below_alloc_ w (.cells #[.slice none 0 0] 24)
  have B0 := Blk.new w 24 #[.slice none 0 0]
  obtain ⟨g5, hg5⟩ : ∃ g5, w.heap.size = g5 := ⟨_, rfl⟩
  obtain ⟨w0, hw0⟩ : ∃ w0, w.alloc (.cells #[.slice none 0 0] 24) = w0 := ⟨_, rfl⟩
  have hz0 : Kept (w0.heap.size = g5 + 1) := ⟨by rw [← hw0, ← hg5]; simp⟩
  rw [hg5] at B0
  rw [hw0] at b0 B0
  have CB := Lib.hid (btw_any B m d ps w0 (hr.on b0) hm)
  clear h hr
  gi_wp2
  try rw [hw0]
  refine ⟨trivial, ?_⟩
  refine (callsIn_wide.2 CB.out).mono ?_
  rintro e w1 ⟨b, rfl, hbt, b1⟩
  have HB1 := Lib.hid hbt
  obtain ⟨w2, hw2⟩ : ∃ w2, w1.alloc (.cells #[.func (.func 35) #[] #[.pointer (some ⟨b, 0, none⟩)]] 67) = w2 := ⟨_, rfl⟩
  obtain ⟨g6, hg6⟩ : ∃ g6, w1.heap.size = g6 := ⟨_, rfl⟩
  have b2 : Below w1.heap.size w1 w2 := by rw [← hw2]; exact below_alloc_ _ _
  have B6 : Blk w2 g6 67 #[.func (.func 35) #[] #[.pointer (some ⟨b, 0, none⟩)]] := by rw [← hw2, ← hg6]; exact Blk.new _ _ _
  have c6 := B6.cell
  have CN := Lib.hid (needed_any (some ⟨g, 0, none⟩) b w2)
  clear hbt
  gi_wp2
  try rw [hw2]
  refine ⟨trivial, ?_⟩
  refine (callsIn_wide.2 CN.out).mono ?_
  rintro e w3 ⟨rfl, hw3⟩
  have b3 : Below w2.heap.size w2 w3 := by rw [hw3]; exact (below_alloc_ _ _).alloc (by simp) _
  have c30 : w3.cell? ⟨w2.heap.size, 0, none⟩ = some (.pointer (some ⟨g, 0, none⟩)) := by rw [hw3]; exact ((Blk.new w2 _ _).alloc _).cell
  have c31 : w3.cell? ⟨w2.heap.size + 1, 0, none⟩ = some (.func (.func 35) #[] #[.pointer (some ⟨b, 0, none⟩)]) := by
    rw [hw3]
    simp
  have hz3 : Kept (w3.heap.size = w2.heap.size + 2) := ⟨by rw [hw3]; simp⟩
  clear hw3
  obtain ⟨h0, hh0⟩ : ∃ h0, w2.heap.size = h0 := ⟨_, rfl⟩
  rw [hh0] at c30 c31 hz3
  try rw [hh0]
  have z1 : Below w.heap.size w w1 := below_up b0 b0.size b1
  have z2 := below_up z1 z1.size b2
  have z3 := below_up z2 z2.size b3
  have C3 := Lib.hid (HC.out.on z3)
  have B53 := ((B0.on b1).on b2).on b3
  have B63 := B6.on b3
  have HB3 := Lib.hid ((HB1.out.on b2).on b3)
  have l1000 := HC.out.le
  have hglt : Kept (g < g5) := ⟨by have := HC.out.blk.lt; omega⟩
  have hg5w : Kept (g5 < w3.heap.size ∧ g6 < w3.heap.size ∧ g5 ≠ g6 ∧ g5 < h0 ∧ w0.heap.size = g5 + 1) := ⟨by
    have h1 := B53.lt
    have h2 := B63.lt
    have h3 := b1.size
    have h4 := hz0.out
    have h5 := b2.size
    have h6 := (show w1.heap.size + 1 = w2.heap.size by rw [← hw2]; simp)
    omega⟩
  have HZ := Lib.hid z3
  have hX : ∀ ad, A = some ad → 0 < l.length → ad.block < w3.heap.size ∧ ad.block ∉ [g5] := fun ad e _ => by
    have h1 := (ow_at HC.out.own ⟨ad, e, rfl⟩).2.2
    have h2 := hg5w.out
    exact ⟨by omega, by simp; omega⟩
  have STOPS := need_stops 9 (by decide) l.length l1000 h0 (h0 + 1) b w0.heap.size (some ⟨g, 0, none⟩) A c l ps (by omega) w3.heap.size [g5] w3 c30 c31 C3.out.al HB3.out ⟨by have := hz3.out; omega, by have := hg5w.out; simp; omega⟩ hX (fun q h1 h2 => ⟨h2, by have := hg5w.out; simp; omega⟩) (Nat.le_refl _)
  clear b0 b1 b2 b3 B0 B6 hX z1 z2 z3 c30 c31 c6 hw2 HB1
  gi_wp2
  refine wpIn_rangeFunc_ownH rfl (by decide) (gf := 37) (lb := #[.pointer (some ⟨h0, 0, none⟩), .pointer (some ⟨h0 + 1, 0, none⟩)]) rfl trivial (enters_of Try.func37 (by kernel_rfl) rfl)
    STOPS (fun h k => h.trans k) (fun W l o o' h1 h2 h3 _ => Kq.put W l o o' h1 h2 h3) (Below.refl _ _) (fun _ => rfl)
    (fun pre W => Ov w3.heap.size [g5] w3 W ∧ ∃ A' c', Blk W g5 24 #[.slice A' (pre.filter (D.kep ps)).length c'] ∧ Ow 32 11 w3.heap.size W A' (pre.filter (D.kep ps)).length c' (vS.rcs (pre.filter (D.kep ps)))) (fun _ _ _ => False)
    (fun s W W' row hs hg hr => ⟨hs.1.grown (Nat.le_refl _) hg fun r e => .inl (hr r e).1, let ⟨A', c', h1, h2⟩ := hs.2; ⟨A', c', (blk_own (fun _ : List D.Vn => #[.slice A' (s.filter (D.kep ps)).length c'])) s W W' row h1 hg hr, ow_own h2 hg hr⟩⟩) (fun _ _ _ _ _ hs _ _ => hs) ⟨Ov.refl _ _ _, none, 0, B53, Ow.nil _ 11 (Nat.le_refl _)⟩
    (fun y a' W => ∃ gx, w3.heap.size ≤ gx ∧ Blk W gx 32 (vS.v y) ∧ a' = { tmps := #[.pointer (some ⟨g, 0, none⟩), .slice B m d, undef, undef, .int .i64 0, .pointer (some ⟨g5, 0, none⟩), .pointer (some ⟨g6, 0, none⟩), .pointer (some ⟨gx, 0, none⟩), undef, .pointer (some ⟨g, 0, none⟩), .bool false, .slice B m d, .func (.func 35) #[] #[.pointer (some ⟨b, 0, none⟩)], .pointer (some ⟨g, 0, none⟩), .func (.func 35) #[] #[.pointer (some ⟨b, 0, none⟩)], .func (.func 37) #[] #[.pointer (some ⟨h0, 0, none⟩), .pointer (some ⟨h0 + 1, 0, none⟩)], .agg (vS.v y), undef, undef, undef, undef, undef, undef, undef, undef, undef, undef, undef, undef, undef, undef, undef, undef, undef, undef, undef, undef, undef, undef, undef, undef, undef, undef], defers := [] })
    (fun y a' s W W' row ⟨gx, h1, h2, h3⟩ hg hr => ⟨gx, h1, (blk_own (fun _ : Unit => vS.v y)) s W W' row h2 hg hr, h3⟩) ?assign ?body ?done ?stop
  case assign =>
    rintro l0 pre y W K ⟨hO, A', c', h1, h2⟩ hK
    have hsz := hO.size
    gi_wp2
    exact hK _ _ ((KeepsOthers.alloc _ _).from _) (Kq.below (below_alloc_ _ _) hsz) ⟨hO.on (Nat.le_refl _) (below_alloc_ _ _), A', c', h1.alloc _, h2.alloc _⟩ ⟨W.heap.size, hsz, Blk.new _ _ _, rfl⟩
  case body =>
    rintro l0 pre y a' W hl ⟨r, hr⟩ ⟨hO, A', c', hBs, hOw⟩ ⟨gx, hgx, hBy, rfl⟩ hlt
    obtain ⟨k, hk⟩ : ∃ k, pre.filter (D.kep ps) = k := ⟨_, rfl⟩
    have hkl : k.length < 1000 := by
      have h1 := D.ned_len ps l
      have h2 := List.length_filter_le (D.kep ps) pre
      rw [hk] at h2
      omega
    rw [hk] at hBs hOw
    have HK := Lib.hid hk
    clear hk
    have hc := hBs.cell
    have hf := hBs.free
    have fy := Shp.rd_blk (S := vS) hBy
    obtain ⟨y0, y1, -, -⟩ := vf fy
    have hO6 : W.cell? ⟨g6, 0, none⟩ = some (.func (.func 35) #[] #[.pointer (some ⟨b, 0, none⟩)]) := (World.cell?_of_block (hO.block _ hg5w.out.2.1 (by have := hg5w.out; simp; omega))).trans B63.cell
    have hBt : Btw W w0.heap.size b ps := HB3.out.kq (ov_kq hO) fun q h1 h2 => ⟨h2, by have := hg5w.out; simp; omega⟩
    have CP := Lib.hid (btw1_any w0.heap.size b ps 0 y.a W hBt (by omega))
    have HO := Lib.hid hO
    have HW := Lib.hid hOw
    have HBS := Lib.hid hBs
    have HG := Lib.hid hgx
    clear hBt hO hOw hBs hgx
    cases hd : y.d with
    | false =>
      have hke : D.kep ps y = true := by simp [D.kep, hd]
      have hfl : Kept ((pre ++ [y]).filter (D.kep ps) = k ++ [y]) := ⟨by rw [List.filter_append, HK.out, List.filter_cons, hke]; rfl⟩
      rw [hd] at y1
      clear CP hke
      gi_wp2
      refine ⟨fun f h => (by cases h), ?_⟩
      gi_wp2_with (gi_at_builtin; refine gappIn _ Try.underlying24 ver_info rfl (by decide) (by decide) rfl (.tmp 26) (.tmp 28) rfl rfl (HW.out.alloc (.cells (vS.v y) 32)) rfl (rw_shp vS W y 32 _ rfl) (vS.one y) (by omega) ?_; intro A1 c1 w6 ho1 hg1; have hb1 := (HBS.out.alloc (.cells (vS.v y) 32)).grown hg1 (fun e => by have := (HW.out.lt _ e.symm).1; have := hg5w.out; omega); have hc1 := hb1.cell; have hf1 := hb1.free)
      have hsz := HO.out.size
      have hz1 := hg1.size
      have hoc := ow_cells (HW.out.alloc (.cells (vS.v y) 32))
      have hO1 : Ov w3.heap.size [g5] w3 w6 := (HO.out.on (Nat.le_refl _) (below_alloc_ W _)).grown (Nat.le_refl _) hg1 (fun r e => .inl (HW.out.lt r e).1)
      refine ⟨?_, ?_, hO1.set (by simp) _, A1, c1, ?_, ?_⟩
      · exact (((KeepsOthers.alloc W _).trans (KeepsOthers.of_grownBy hg1 fun j o e h => (hoc j o e h).1)).trans (KeepsOthers.setCell _ _ _)).from _
      · exact ((Kq.below (below_alloc_ W (.cells (vS.v y) 32)) hsz).trans (Kq.grown (by simp; omega) hg1 fun r e => (HW.out.lt r e).1)).trans (Kq.set _ _ _ _ (by simp))
      · rw [hfl.out, List.length_append]; exact hb1.set_ _
      · rw [hfl.out, List.length_append, rcs_snoc]
        exact ho1.kept (by simp [World.setCell]) (fun q e => Below.heap_setCell _ _ _ q (by have := (ho1.lt q e).1; have := hg5w.out; show q ≠ g5; omega))
    | true =>
      rw [hd] at y1
      cases hpin : D.pin ps 0 y.a with
      | false =>
        have hke : D.kep ps y = false := by simp [D.kep, hd, hpin]
        have hfl : Kept ((pre ++ [y]).filter (D.kep ps) = k) := ⟨by rw [List.filter_append, HK.out, List.filter_cons, hke]; simp⟩
        rw [hpin] at CP
        clear hke
        gi_wp2
        refine ⟨trivial, ?_⟩
        refine CallsIn.inRound l0 (callsIn_wide.2 (CP.out.mono ?_))
        rintro e w5 ⟨rfl, hw5⟩
        rw [hw5]
        gi_wp2
        exact ⟨(KeepsOthers.refl _).from _, Kq.refl _ _ _, HO.out, A', c', by rw [hfl.out]; exact HBS.out, by rw [hfl.out]; exact HW.out⟩
      | true =>
        have hke : D.kep ps y = true := by simp [D.kep, hd, hpin]
        have hfl : Kept ((pre ++ [y]).filter (D.kep ps) = k ++ [y]) := ⟨by rw [List.filter_append, HK.out, List.filter_cons, hke]; rfl⟩
        rw [hpin] at CP
        clear hke
        gi_wp2
        refine ⟨trivial, ?_⟩
        refine CallsIn.inRound l0 (callsIn_wide.2 (CP.out.mono ?_))
        rintro e w5 ⟨rfl, hw5⟩
        rw [hw5]
        gi_wp2_with (gi_at_builtin; refine gappIn _ Try.underlying24 ver_info rfl (by decide) (by decide) rfl (.tmp 26) (.tmp 28) rfl rfl (HW.out.alloc (.cells (vS.v y) 32)) rfl (rw_shp vS W y 32 _ rfl) (vS.one y) (by omega) ?_; intro A1 c1 w6 ho1 hg1; have hb1 := (HBS.out.alloc (.cells (vS.v y) 32)).grown hg1 (fun e => by have := (HW.out.lt _ e.symm).1; have := hg5w.out; omega); have hc1 := hb1.cell; have hf1 := hb1.free)
        have hsz := HO.out.size
        have hz1 := hg1.size
        have hoc := ow_cells (HW.out.alloc (.cells (vS.v y) 32))
        have hO1 : Ov w3.heap.size [g5] w3 w6 := (HO.out.on (Nat.le_refl _) (below_alloc_ W _)).grown (Nat.le_refl _) hg1 (fun r e => .inl (HW.out.lt r e).1)
        refine ⟨?_, ?_, hO1.set (by simp) _, A1, c1, ?_, ?_⟩
        · exact (((KeepsOthers.alloc W _).trans (KeepsOthers.of_grownBy hg1 fun j o e h => (hoc j o e h).1)).trans (KeepsOthers.setCell _ _ _)).from _
        · exact ((Kq.below (below_alloc_ W (.cells (vS.v y) 32)) hsz).trans (Kq.grown (by simp; omega) hg1 fun r e => (HW.out.lt r e).1)).trans (Kq.set _ _ _ _ (by simp))
        · rw [hfl.out, List.length_append]; exact hb1.set_ _
        · rw [hfl.out, List.length_append, rcs_snoc]
          exact ho1.kept (by simp [World.setCell]) (fun q e => Below.heap_setCell _ _ _ q (by have := (ho1.lt q e).1; have := hg5w.out; show q ≠ g5; omega))
  case done =>
    rintro D0 ys W hD rfl ⟨hO, A', c', hBs, hOw⟩ hK
    have hfe : (D.ned ps l).filter (D.kep ps) = D.trm ps l := rfl
    rw [hfe] at hBs hOw
    have htl : (D.trm ps l).length ≤ l.length := (D.trm_sub ps l).length_le
    have hBg : Blk W g 26 #[.slice A l.length c] := ⟨(hO.block _ (by have := hg5w.out; have := hglt.out; omega) (by have := hglt.out; simp; omega)).trans C3.out.blk.out⟩
    have hc5 := hBs.cell
    have hcg := hBg.cell
    have HBs := Lib.hid hBs
    have HBg := Lib.hid hBg
    have HOw := Lib.hid hOw
    have HO := Lib.hid hO
    have HK := Lib.hid hK
    clear hBs hBg hOw hO hK hfe
    gi_wp2
    refine wpIn_wide.2 ?_
    go_quiet (fail)
    obtain ⟨W2, hW2⟩ : ∃ W2, W.drewN nq = W2 := ⟨_, rfl⟩
    have bW : Below W.heap.size W W2 := by rw [← hW2]; exact ⟨rfl, rfl, rfl, Nat.le_refl _, fun _ _ => rfl⟩
    have B5 := HBs.out.on bW
    have Bg := HBg.out.on bW
    have c5 := B5.cell
    have cg := Bg.cell
    have fg := Bg.free
    have HK2 : Kept (W2.heap[D0]? = some (.deferred (some []))) := ⟨by rw [← hW2]; exact HK.out⟩
    have hz2 : Kept (W2.heap.size = W.heap.size) := ⟨by rw [← hW2]; rfl⟩
    rw [hW2]
    clear hW2
    gi_wp2
    refine ⟨by simp, .inl ⟨_, _, rfl, run_takeDeferred (by rw [Below.heap_setCell _ _ _ _ (by have := hglt.out; have := hg5w.out; show D0 ≠ g; omega)]; exact HK2.out), ?_⟩⟩
    have hoth : ∀ q, q ≠ D0 → ((W2.setCell ⟨g, 0, none⟩ (.slice A' (D.trm ps l).length c')).putObj D0 (.deferred none)).heap[q]? = (W2.setCell ⟨g, 0, none⟩ (.slice A' (D.trm ps l).length c')).heap[q]? := fun q hq => World.putObj_heap_other hq
    have hgD : g ≠ D0 := by have := hglt.out; have := hg5w.out; omega
    have hA3 : ∀ i, at_ A' i → w3.heap.size ≤ i := fun i hi => (ow_at HOw.out hi).2.1
    refine ⟨_, results_tmp rfl _ _ _, ?_, A', c', ?_, ?_, ?_⟩
    · show Ending.returned (Value.int .i64 ((l.length : Int) - ((D.trm ps l).length : Int))) = _
      rw [show ((l.length : Int) - ((D.trm ps l).length : Int)) = ((l.length - (D.trm ps l).length : Nat) : Int) by omega]
    · refine ⟨⟨(hoth g hgD).trans (Bg.set_ _).out⟩, ?_, HC.out.gb, HC.out.srt.trm ps, fun v hv => HC.out.wf v ((D.trm_sub ps l).subset hv), by have := HC.out.le; omega⟩
      have o1 := HOw.out.on bW
      have o2 : Ow 32 11 w3.heap.size (W2.setCell ⟨g, 0, none⟩ (.slice A' (D.trm ps l).length c')) A' (D.trm ps l).length c' (vS.rcs (D.trm ps l)) := o1.kept (by simp [World.setCell]) fun q e => Below.heap_setCell _ _ _ q (by have := (o1.lt q e).1; have := hglt.out; have := hg5w.out; show q ≠ g; omega)
      have o3 : Ow 32 11 w3.heap.size ((W2.setCell ⟨g, 0, none⟩ (.slice A' (D.trm ps l).length c')).putObj D0 (.deferred none)) A' (D.trm ps l).length c' (vS.rcs (D.trm ps l)) := o2.kept (by simp [World.putObj]) fun q e => World.putObj_heap_other (fun e' => by
        subst e'
        have h1 := (ow_cells HOw.out q _ e HK.out).1
        cases h1)
      exact ow_base o3 (Nat.le_trans hbase HZ.out.size)
    · have hb3 := HZ.out
      have ho := HO.out
      refine ⟨?_, ?_, ?_, ?_, fun i hi hg => ?_⟩
      · show W2.os = w.os
        rw [bW.os, ho.os, hb3.os]
      · show W2.tape = w.tape
        rw [bW.tape, ho.tape, hb3.tape]
      · show W2.output = w.output
        rw [bW.output, ho.output, hb3.output]
      · have h1 := hb3.size
        have h2 := ho.size
        have h3 := bW.size
        simp [World.putObj, World.setCell]
        omega
      · have h1 := hg5w.out
        have h2 := ho.size
        rw [hoth i (by omega), Below.heap_setCell _ _ _ i (by show i ≠ g; exact hg), bW.block i (by omega), ho.block i (by omega) (by simp; omega), hb3.block i hi]
    · intro i hi
      have := hA3 i hi
      have := HZ.out.size
      omega
  case stop =>
    rintro D0 c pre W _ _ h _
    exact h.elim
end Go.Proofs.Ytcnbdfobhablbaa
