/-
  A key taken away.
-/
import Derived.Test.YtphbjkcplpfogaaCdm
import Derived.Test.YtphbjkcplpfogaaCad
set_option linter.unusedVariables false
set_option linter.unusedSimpArgs false
set_option maxRecDepth 100000
namespace Go.Proofs.Ytphbjkcplpfogaa
open Go.RowKit Go.Shelf
attribute [local go_sem] Oper.semAt_some
attribute [local go_sem ↓] Go.wp_at_zero Go.wp_at_succ ld_k lv_k st_k eq_k ne_k bd_k ld_b lv_b st_b eq_b ne_b bd_25 ld_r lv_r st_rk eq_rk ne_rk bd_r ld_p lv_p st_px bd_p Nm.ld_a Nm.ld_n Nm.st_a Nm.st_n Nm.eq_a Nm.eq_n Nm.ne_a Nm.ne_n Nm.lv_a Nm.lv_n ld_a ld_n st_a st_n eq_a eq_n ne_a ne_n lv_a lv_n ld_l lv_l st_l bd_l bd_n bs_l bs_k
attribute [local go_sem] run_ldk run_lvk run_stk run_eqk run_nek run_bdk_z run_ldb run_lvb run_stb run_eqb run_neb run_ldr run_lvr run_strk run_eqrk run_nerk run_bdr_z run_ldp run_lvp run_stpx Nm.run_ld_a Nm.run_ld_n Nm.run_st_n Nm.run_eq_a Nm.run_eq_n Nm.run_ne_a Nm.run_ne_n Nm.run_lv_a Nm.run_lv_n Nm.rd_new Nm.rd_old Nm.rd_drew Nm.rd_drewN run_ld_a run_ld_n run_sw_a run_sw_n run_eq_a run_eq_n run_ne_a run_ne_n run_lv_a run_lv_n st_z ne_z eq_z rd_new rd_old rd_drew rd_drewN Shp.rd_new Shp.rd_old Shp.rd_drew Shp.rd_drewN Shp.rd_set Shp.tn_new Shp.tn_old Shp.tn_drew Shp.tn_drewN tn_new tn_old tn_drew tn_drewN rd_set setRow_alloc run_stn3 run_stt15 run_lvl run_ldl run_stl run_bdl run_bdn run_bdn0 run_bsl run_bsk Shp.rd_extk cell_ext
theorem region_wide {P : Program} {Q : Exit → Act → World → Prop} {n : Nat} {ops : Array Oper} {S : World → Prop} {id : Nat} {a : Act} {w : World} {R : Act → World → Prop} (hm : P.follows .mixedOrders = true) (hS : S w.drew)
    (h : S w.drew → wpAnyH P .any ops (Nrm R) S ops.size (Array.replicate ops.size false) a w.drew) (hR : ∀ a' w', R a' w' → Q .normal a' w') : (Code.region id ops true).wpIn Fence.wide n P Q a w := by
  refine wpIn_mono (Q := Nrm R) (wpIn_wide.2 (wp_region_held_drew hm hS h)) ?_
  intro e a' w' hq
  cases e with
  | normal => exact hR _ _ hq
  | exit id => exact hq.elim
  | goto l => exact hq.elim
  | ret => exact hq.elim
  | panic ch => exact hq.elim
  | outgrown => exact hq.elim
set_option maxHeartbeats 16000000 in
theorem drop_any (g : Nat) (t : Tk) (k : D.Ky) (w : World) (hT : TC w g (some t)) (hk : (t.near k).hd.1 = k) : Calls Try.prog 32 #[.pointer (some ⟨g, 0, none⟩), .agg (kS.v k)] w fun e w' => (∃ x, e = .returned x) ∧ TC w' g (t.del k) ∧ Cr.Tr.lso (t.del k) = Cr.del k t.ls ∧ (∀ q ∈ blo (t.del k), q ∈ t.bl) ∧ Ov w.heap.size (g :: t.bl) w w' := by
  have HK := Lib.hid hk
  have hg := hT.tr.lt
  have hsz := hT.tr.sz
  obtain ⟨w0, hw0⟩ : ∃ w0, w.alloc (.cells (kS.v k) 30) = w0 := ⟨_, rfl⟩
  have f0 : kS.rd w0 ⟨w.heap.size, 0, none⟩ = some k := by rw [← hw0]; exact Shp.rd_new _ _ _ _ rfl
  have b0 : Below w.heap.size w w0 := by rw [← hw0]; exact below_alloc_ _ _
  have hz0 : w0.heap.size = w.heap.size + 1 := by rw [← hw0]; simp
  have hT0 := hT.on b0
  have hB0 := hT0.blk
  obtain ⟨n, hn⟩ : ∃ n, (Cr.Tr.lso (some t)).length = n := ⟨_, rfl⟩
  have hn1 : n ≤ 1000 := by omega
  have hc0 := hT0.cnt
  rw [hn] at hB0 hc0
  have hf0 := hB0.f 1
  have i0 : (0 : Int) ≤ (n : Int) := by omega
  have i1 : (n : Int) ≤ 1000 := by omega
  obtain ⟨w1, hw1⟩ : ∃ w1, w0.setCell ⟨g, 1, none⟩ (.int .i64 ((n : Int) - 1)) = w1 := ⟨_, rfl⟩
  obtain ⟨hT1, hB1⟩ := hT0.tr.count hB0 ((n : Int) - 1)
  have hO1 : Ov w.heap.size (g :: t.bl) w w1 := by rw [← hw1]; exact ((Ov.refl _ _ _).on (Nat.le_refl _) b0).set (by simp) _
  have f1 : kS.rd w1 ⟨w.heap.size, 0, none⟩ = some k := by rw [← hw1]; exact (Shp.rd_setCell _ _ _ _ (by simp; omega)).trans f0
  have hz1 : w1.heap.size = w.heap.size + 1 := by rw [← hw1]; simp [World.setCell, hz0]
  rw [hw1] at hT1 hB1
  obtain ⟨gb, hgb⟩ : ∃ gb, w1.heap.size = gb := ⟨_, rfl⟩
  obtain ⟨w2, hw2⟩ : ∃ w2, w1.alloc (.cells #[.pointer none] 77) = w2 := ⟨_, rfl⟩
  have b2 : Below w1.heap.size w1 w2 := by rw [← hw2]; exact below_alloc_ _ _
  have hT2 := hT1.on b2
  have hB2 := hB1.on b2
  have f2 := Shp.rd_on f1 b2
  have B2 : Blk w2 gb 77 #[.pointer none] := by rw [← hw2, ← hgb]; exact Blk.new _ _ _
  have hO2 := hO1.on (Nat.le_refl _) b2
  have CB := Lib.hid (fun w => kbytes_any k w)
  have CP := Lib.hid (fun w => passed_any (some ⟨g, 0, none⟩) k 200 w)
  have CSi := Lib.hid (fun i (hi : i < 200) w => side_any k i hi w)
  have HT := Lib.hid hT
  have HZ := Lib.hid (show w.heap.size + 1 = gb by omega)
  have HZ0 := Lib.hid hz0
  clear hT hT0 hB0 hk f0 hT1 hB1 f1 hO1 hsz hz0 hz1
  refine (callsIn_wide (n := 10)).1 ?_
  refine callsIn_of_wp_marks Try.func32 rfl trivial ?_ rfl
  simp only [Try.ntmps32, List.size_toArray, List.length_cons, List.length_nil, Nat.reduceAdd, Nat.reduceSub, Array.replicate_succ, Array.replicate_zero, List.push_toArray, List.append_toArray, List.nil_append, List.cons_append]
  gi_wp2
  try rw [hw0]
  gi_wp2
  try rw [hw1]
  try rw [hw2]
  try rw [hgb]
  clear hw0 hw1 hw2 hc0 hf0 i0 i1
  gi_wp2
  refine ⟨trivial, ?_⟩
  refine (callsIn_wide.2 (CB.out _)).mono ?_
  rintro e w3 ⟨rfl, b3⟩
  have hT3 := hT2.on b3
  have hB3 := hB2.on b3
  have B3 := B2.on b3
  have f3 := Shp.rd_on f2 b3
  have hO3 := hO2.on (Nat.le_refl _) b3
  have hsz3 : gb < w3.heap.size := B3.lt
  clear b3 hT2 hB2 B2 f2 hO2 b2
  have b5 : Below w3.heap.size w3 ((w3.alloc (.cells #[.int .i64 0] 3)).alloc (.cells (kS.v k) 104)) := (below_alloc_ _ _).alloc (by simp) _
  have A5 : Blk ((w3.alloc (.cells #[.int .i64 0] 3)).alloc (.cells (kS.v k) 104)) w3.heap.size 3 #[.int .i64 0] := (Blk.new w3 _ _).alloc _
  have R5 : kS.rd ((w3.alloc (.cells #[.int .i64 0] 3)).alloc (.cells (kS.v k) 104)) ⟨w3.heap.size + 1, 0, none⟩ = some k := Shp.rd_new _ _ _ _ (by simp)
  have tn5 : Shp.tn 25 ((w3.alloc (.cells #[.int .i64 0] 3)).alloc (.cells #[.int .u8 0, .int .u8 0, .int .u8 0, .int .u8 0, .int .u8 0, .int .u8 0, .int .u8 0, .int .u8 0, .int .u8 0, .int .u8 0, .int .u8 0, .int .u8 0, .int .u8 0, .int .u8 0, .int .u8 0, .int .u8 0, .int .u8 0, .int .u8 0, .int .u8 0, .int .u8 0, .int .u8 0, .int .u8 0, .int .u8 0, .int .u8 0, .int .u8 0] 104)) (w3.heap.size + 1) = true := Shp.tn_new _ _ _ _ _ (by simp) rfl
  have f5 := Shp.rd_on f3 b5
  have hT5 := hT3.on b5
  have hB5 := hB3.on b5
  have B5 := B3.on b5
  have hO5 := hO3.on (Nat.le_refl _) b5
  have hsz5 : ((w3.alloc (.cells #[.int .i64 0] 3)).alloc (.cells (kS.v k) 104)).heap.size = w3.heap.size + 2 := by simp
  obtain ⟨wb, hwb⟩ : ∃ wb, ((w3.alloc (.cells #[.int .i64 0] 3)).alloc (.cells (kS.v k) 104)) = wb := ⟨_, rfl⟩
  clear hT3 hB3 B3 hO3 f3 b5
  gi_wp2
  rw [hwb] at A5 R5 f5 hT5 hB5 B5 hO5 hsz5
  try rw [hwb]
  clear hwb tn5
  obtain ⟨gi, hgi⟩ : ∃ gi, w3.heap.size = gi := ⟨_, rfl⟩
  try rw [hgi]
  rw [hgi] at A5 R5 hsz3 hsz5
  have HS5 := Lib.hid hsz5
  clear hsz5
  rw [f5]
  rename_i hKK
  refine hKK _ _ ?_
  clear hKK
  gi_wp2
  refine ⟨trivial, ?_⟩
  refine (callsIn_wide.2 (CP.out _)).mono ?_
  rintro e w6 ⟨rfl, hw6⟩
  have b6 : Below wb.heap.size wb w6 := by rw [hw6]; exact ((below_alloc_ _ _).alloc (by simp) _).alloc (by simp; omega) _
  have hz6 : w6.heap.size = wb.heap.size + 3 := by rw [hw6]; simp
  have ht6 : w6.cell? ⟨wb.heap.size, 0, none⟩ = some (.pointer (some ⟨g, 0, none⟩)) := by
    rw [hw6]
    exact cell_kept_ (below_alloc_ _ _) (cell_kept_ (below_alloc_ _ _) (Blk.new wb _ _).cell)
  have hk6 : kS.rd w6 ⟨wb.heap.size + 1, 0, none⟩ = some k := by
    rw [hw6]
    exact Shp.rd_on (Shp.rd_new (S := kS) _ _ _ _ (by simp)) (below_alloc_ _ _)
  have hb6 : w6.cell? ⟨wb.heap.size + 2, 0, none⟩ = some (.int .i64 200) := by
    rw [hw6]
    have := (Blk.new ((wb.alloc (.cells #[.pointer (some ⟨g, 0, none⟩)] 31)).alloc (.cells (kS.v k) 30)) 3 #[.int .i64 200]).cell
    simpa using this
  clear hw6
  have hT6 := hT5.on b6
  have hB6 := hB5.on b6
  have B6 := B5.on b6
  have A6 := A5.on b6
  have R6 := Shp.rd_on R5 b6
  have f6 := Shp.rd_on f5 b6
  have hO6 := hO5.on (Nat.le_refl _) b6
  have hgg := hT6.lt
  have l1 := B6.lt
  have l2 := A6.lt
  have l3 := Shp.rd_lt R6
  have nbi : gb ≠ gi := blk_ne B6 A6 (by decide)
  have hX : ∀ u, some t = some u → ∀ q ∈ u.bl, q < w6.heap.size ∧ q ∉ [gb, gi] := fun u e q hq => by
    obtain ⟨cs, hB⟩ := (hT6.nd u e).lt q hq
    refine ⟨hB.lt, fun c => ?_⟩
    simp only [List.mem_cons, List.not_mem_nil, or_false] at c
    rcases c with c | c
    · exact blk_ne hB B6 (by decide) c
    · exact blk_ne hB A6 (by decide) c
  have hgX : g ∉ [gb, gi] := by
    simp only [List.mem_cons, List.not_mem_nil, or_false, not_or]
    exact ⟨blk_ne hB6 B6 (by decide), blk_ne hB6 A6 (by decide)⟩
  have hx1 : gi + 1 ∉ [gb, gi] := by simp only [List.mem_cons, List.not_mem_nil, or_false, not_or]; omega
  have hwX : w.heap.size ∉ [gb, gi] := by simp only [List.mem_cons, List.not_mem_nil, or_false, not_or]; have := HZ.out; omega
  have hcap : wb.heap.size + 2 < w6.heap.size ∧ wb.heap.size + 2 ∉ [gb, gi] := ⟨by omega, by have := HS5.out; simp; omega⟩
  have HZ6 := Lib.hid hz6
  clear hT5 hB5 B5 A5 R5 f5 hO5 hz6
  gi_wp2
  refine wpIn_rangeFunc_ownH rfl (by decide) (gf := 60) (lb := #[.pointer (some ⟨wb.heap.size + 1, 0, none⟩), .pointer (some ⟨wb.heap.size, 0, none⟩), .pointer (some ⟨wb.heap.size + 2, 0, none⟩)]) rfl trivial (enters_of Try.func60 (by kernel_rfl) rfl)
    (psd_stops 9 (by decide) (wb.heap.size + 1) wb.heap.size (wb.heap.size + 2) g k 200 (by omega) (some t) w6.heap.size [gb, gi] w6 hk6 ht6 hb6 hT6 hcap hX (Nat.le_refl _)) (fun h k => h.trans k) (fun W l o o' h1 h2 h3 _ => Kp.put W l o o' h1 h2 h3) (Below.refl _ _) (fun _ => rfl)
    (fun pre W => Ov w6.heap.size [gb, gi] w6 W ∧ Blk W gb 77 #[.pointer (lft k (pre.map (·.1)))] ∧ Blk W gi 3 #[.int .i64 (lbt (pre.map (·.1)) : Nat)]) (fun _ _ _ => False)
    (fun s W W' row hs hg hr => ⟨hs.1.grown (Nat.le_refl _) hg fun r e => .inl (hr r e).1, (blk_own (t := 77) (fun s : List { u : Tk // u ∈ pth k 200 (some t) } => #[.pointer (lft k (s.map (·.1)))])) s W W' row hs.2.1 hg hr, (blk_own (t := 3) (fun s : List { u : Tk // u ∈ pth k 200 (some t) } => #[.int .i64 (lbt (s.map (·.1)) : Nat)])) s W W' row hs.2.2 hg hr⟩) (fun _ _ _ _ _ hs _ _ => hs) ⟨Ov.refl _ _ _, B6, A6⟩
    (fun y a' W => a' = { tmps := #[.pointer (some ⟨g, 0, none⟩), .agg (kS.v k), undef, .pointer (some ⟨w.heap.size, 0, none⟩), .pointer (some ⟨gb, 0, none⟩), .pointer (some ⟨gi, 0, none⟩), .pointer (some ⟨gi + 1, 0, none⟩), .pointer (some ⟨y.1.ad, 0, none⟩), .pointer (some ⟨g, 0, none⟩), .pointer (some ⟨g, 0, none⟩), .pointer (some ⟨g, 1, none⟩), .int .i64 (n : Nat), .int .i64 ((n : Int) - 1), .pointer (some ⟨g, 0, none⟩), .pointer (some ⟨g, 1, none⟩), .agg (kS.v k), .agg (kS.v k), .pointer (some ⟨g, 0, none⟩), .agg (kS.v k), .func (.func 60) #[] #[.pointer (some ⟨wb.heap.size + 1, 0, none⟩), .pointer (some ⟨wb.heap.size, 0, none⟩), .pointer (some ⟨wb.heap.size + 2, 0, none⟩)], .pointer (some ⟨y.1.ad, 0, none⟩), undef, undef, undef, undef, undef, undef, undef, undef, undef, undef, undef, undef, undef, undef, undef, undef, undef, undef, undef, undef, undef, undef], defers := [] })
    (fun _ _ _ _ _ _ hs _ _ => hs) ?assign ?body ?done ?stop
  case assign =>
    rintro l pre y W K hI hK
    gi_wp2
    exact hK _ _ (KeepsFrom.refl _ _) (Kp.refl _ _ _) hI rfl
  case body =>
    rintro l pre y a' W hl ⟨r2, hr2⟩ ⟨hO, hB, hI⟩ rfl hlt
    obtain ⟨m1, m2, m3, u, m4, m5⟩ := hT6.mem y.2
    have hbl : ∀ q ∈ y.1.bl, q < w6.heap.size ∧ q ∉ [gb, gi] := fun q hq => hX u m4 q (m5 q hq)
    have hN := hO.nd m1 hbl
    have c0 := hN.nf.bit
    have c1 : kS.rd W ⟨gi + 1, 0, none⟩ = some k := (Shp.rd_to (hO.block (gi + 1) l3 hx1)).trans R6
    have lx1 := Shp.rd_lt c1
    have l0 := hN.nf.lt
    have C1 := Lib.hid (fun w => CSi.out y.1.bit (by omega) w)
    have HB := Lib.hid hB
    have HI := Lib.hid hI
    have HO := Lib.hid hO
    have hmix : Try.prog.follows .mixedOrders = true := by kernel_rfl
    have sw : Below W.heap.size W W.drew := (Below.refl _ _).drew
    have sv : Ov W.heap.size [gb, gi] W W.drew := (Ov.refl _ _ _).on (Nat.le_refl _) sw
    have hy7 := (hbl y.1.ad y.1.ad_mem).2
    obtain ⟨ka, hka⟩ : ∃ ka, pt (kid y.1 (!Cr.Bits.bt k y.1.bit)) = ka := ⟨_, rfl⟩
    have hk2 : ∀ c : Bool, Cr.Bits.bt k y.1.bit = c → W.cell? ⟨y.1.ad, if c then 1 else 2, none⟩ = some (.pointer ka) := by
      intro c e
      rw [← hka, e]
      have e1 := hN.nf.lo
      have e2 := hN.nf.hi
      have m3' := m3
      generalize y.1 = z at e1 e2 m3'
      cases z with
      | lf a x v => simp only [Cr.Tr.bit] at m3'; omega
      | br a b l r =>
        cases c
        · exact e2
        · exact e1
    have hbb := show (Cr.Bits.bt k y.1.bit = true ∧ D.sd k y.1.bit = 1) ∨ (Cr.Bits.bt k y.1.bit = false ∧ D.sd k y.1.bit = 0) from by
      unfold D.sd
      cases Cr.Bits.bt k y.1.bit
      · exact .inr ⟨rfl, rfl⟩
      · exact .inl ⟨rfl, rfl⟩
    clear hN hB hI hX m1 m2 m3 m4 m5
    have HK2 := Lib.hid hk2
    clear hk2
    obtain ⟨sd, hsd⟩ : ∃ sd, D.sd k y.1.bit = sd := ⟨_, rfl⟩
    rw [hsd] at C1 hbb
    clear hsd
    have key : ∀ w' : World, (∃ w4, Below W.heap.size W w4 ∧ w' = (w4.setCell ⟨gi, 0, none⟩ (.int .i64 (y.1.bit : Nat))).setCell ⟨gb, 0, none⟩ (.pointer ka)) →
        KeepsOthers W w' ∧ Kp w6.heap.size [gb, gi] W w' ∧ Ov w6.heap.size [gb, gi] w6 w' ∧ Blk w' gb 77 #[.pointer (lft k ((pre ++ [y]).map (·.1)))] ∧ Blk w' gi 3 #[.int .i64 (lbt ((pre ++ [y]).map (·.1)) : Nat)] := by
      rintro w' ⟨w4, b4, rfl⟩
      have hI4 := HI.out.on b4
      have hB4 := HB.out.on b4
      have hB5 : Blk (w4.setCell ⟨gi, 0, none⟩ (.int .i64 (y.1.bit : Nat))) gb 77 #[.pointer (lft k (pre.map (·.1)))] := ⟨(Below.heap_setCell _ _ _ gb nbi).trans hB4.out⟩
      have K1 : KeepsOthers W w4 := KeepsOthers.of_grownBy (grown_none b4) (fun j o e h => by cases e)
      rw [List.map_append, List.map_cons, List.map_nil, lft_app, lbt_app, hka]
      exact ⟨(K1.trans (KeepsOthers.setCell _ _ _)).trans (KeepsOthers.setCell _ _ _), ((Kp.below b4 HO.out.size).trans (Kp.set _ _ _ _ (by simp) hI4 (by decide))).trans (Kp.set _ _ _ _ (by simp) hB5 (by decide)), ((HO.out.on (Nat.le_refl _) b4).set (by simp) _).set (by simp) _, hB5.set_ _, ⟨(Below.heap_setCell _ _ _ gi (fun e => nbi e.symm)).trans (hI4.set_ _).out⟩⟩
    have KEY := Lib.hid key
    clear key hka
    rcases hbb with ⟨hb1, rfl⟩ | ⟨hb1, rfl⟩
    · have ck := HK2.out true hb1
      simp only [if_true] at ck
      gi_wp2
      refine region_round (S := fun V => Ov W.heap.size [gb, gi] W V) (R := fun _ w' => ∃ w4, Below W.heap.size W w4 ∧ w' = (w4.setCell ⟨gi, 0, none⟩ (.int .i64 (y.1.bit : Nat))).setCell ⟨gb, 0, none⟩ (.pointer ka)) hmix (by kernel_rfl) sv (fun sd0 => ?_) ?_
      refine takeS 0 (some 21) ?vb10 (by kernel_rfl) (by kernel_rfl) (by kernel_rfl) (by kernel_rfl) (fun _ _ _ h => h) (by rfl) ?hyb10 sd0 ?restb10
      case hyb10 => (intro o ho W hW; simp only [List.getElem?_toArray, List.getElem?_cons_succ, List.getElem?_cons_zero, Option.some.injEq] at ho; subst ho; (try dsimp only at hW); skip; go_simp; try rfl)
      try simp only [Act.put, List.setIfInBounds_toArray, List.set_cons_zero, List.set_cons_succ]
      refine takeS 1 (some 22) ?vb11 (by kernel_rfl) (by kernel_rfl) (by kernel_rfl) (by kernel_rfl) (fun _ _ _ h => h) (by rfl) ?hyb11 sd0 ?restb11
      case hyb11 => (intro o ho W hW; simp only [List.getElem?_toArray, List.getElem?_cons_succ, List.getElem?_cons_zero, Option.some.injEq] at ho; subst ho; (try dsimp only at hW); skip; go_simp; try rfl)
      try simp only [Act.put, List.setIfInBounds_toArray, List.set_cons_zero, List.set_cons_succ]
      refine takeS 2 (some 23) ?vb12 (by kernel_rfl) (by kernel_rfl) (by kernel_rfl) (by kernel_rfl) (fun _ _ _ h => h) (by rfl) ?hyb12 sd0 ?restb12
      case hyb12 => (intro o ho W hW; simp only [List.getElem?_toArray, List.getElem?_cons_succ, List.getElem?_cons_zero, Option.some.injEq] at ho; subst ho; (try dsimp only at hW); skip; go_simp; try rfl)
      try simp only [Act.put, List.setIfInBounds_toArray, List.set_cons_zero, List.set_cons_succ]
      refine takeS 3 (some 24) ?vb13 (by kernel_rfl) (by kernel_rfl) (by kernel_rfl) (by kernel_rfl) (fun _ _ _ h => h) (by rfl) ?hyb13 sd0 ?restb13
      case hyb13 => (intro o ho W hW; simp only [List.getElem?_toArray, List.getElem?_cons_succ, List.getElem?_cons_zero, Option.some.injEq] at ho; subst ho; (try dsimp only at hW); have g2 := (World.cell?_of_block (hW.block y.1.ad l0 hy7)).trans c0; go_simp; try rfl)
      try simp only [Act.put, List.setIfInBounds_toArray, List.set_cons_zero, List.set_cons_succ]
      refine takeS 4 (some 25) ?vb14 (by kernel_rfl) (by kernel_rfl) (by kernel_rfl) (by kernel_rfl) (fun _ _ _ h => h) (by rfl) ?hyb14 sd0 ?restb14
      case hyb14 => (intro o ho W hW; simp only [List.getElem?_toArray, List.getElem?_cons_succ, List.getElem?_cons_zero, Option.some.injEq] at ho; subst ho; (try dsimp only at hW); skip; go_simp; try rfl)
      try simp only [Act.put, List.setIfInBounds_toArray, List.set_cons_zero, List.set_cons_succ]
      refine takeS 5 (some 26) ?vb15 (by kernel_rfl) (by kernel_rfl) (by kernel_rfl) (by kernel_rfl) (fun _ _ _ h => h) (by rfl) ?hyb15 sd0 ?restb15
      case hyb15 => (intro o ho W hW; simp only [List.getElem?_toArray, List.getElem?_cons_succ, List.getElem?_cons_zero, Option.some.injEq] at ho; subst ho; (try dsimp only at hW); have g1 := (Shp.rd_to (hW.block (gi + 1) lx1 hx1)).trans c1; go_simp; try rfl)
      try simp only [Act.put, List.setIfInBounds_toArray, List.set_cons_zero, List.set_cons_succ]
      refine takeS 6 (some 27) ?vb16 (by kernel_rfl) (by kernel_rfl) (by kernel_rfl) (by kernel_rfl) (fun _ _ _ h => h) (by rfl) ?hyb16 sd0 ?restb16
      case hyb16 => (intro o ho W hW; simp only [List.getElem?_toArray, List.getElem?_cons_succ, List.getElem?_cons_zero, Option.some.injEq] at ho; subst ho; (try dsimp only at hW); skip; go_simp; try rfl)
      try simp only [Act.put, List.setIfInBounds_toArray, List.set_cons_zero, List.set_cons_succ]
      refine takeS 7 (some 28) ?vb17 (by kernel_rfl) (by kernel_rfl) (by kernel_rfl) (by kernel_rfl) (fun _ _ _ h => h) (by rfl) ?hyb17 sd0 ?restb17
      case hyb17 => (intro o ho W hW; simp only [List.getElem?_toArray, List.getElem?_cons_succ, List.getElem?_cons_zero, Option.some.injEq] at ho; subst ho; (try dsimp only at hW); skip; go_simp; try rfl)
      try simp only [Act.put, List.setIfInBounds_toArray, List.set_cons_zero, List.set_cons_succ]
      refine takeS 8 (some 29) ?vb18 (by kernel_rfl) (by kernel_rfl) (by kernel_rfl) (by kernel_rfl) (fun _ _ _ h => h) (by rfl) ?hyb18 sd0 ?restb18
      case hyb18 => (intro o ho W hW; simp only [List.getElem?_toArray, List.getElem?_cons_succ, List.getElem?_cons_zero, Option.some.injEq] at ho; subst ho; (try dsimp only at hW); skip; go_simp; try rfl)
      try simp only [Act.put, List.setIfInBounds_toArray, List.set_cons_zero, List.set_cons_succ]
      refine takeS 9 (some 30) ?vb19 (by kernel_rfl) (by kernel_rfl) (by kernel_rfl) (by kernel_rfl) (fun _ _ _ h => h) (by rfl) ?hyb19 sd0 ?restb19
      case hyb19 => (intro o ho W hW; simp only [List.getElem?_toArray, List.getElem?_cons_succ, List.getElem?_cons_zero, Option.some.injEq] at ho; subst ho; (try dsimp only at hW); have g2 := (World.cell?_of_block (hW.block y.1.ad l0 hy7)).trans c0; go_simp; try rfl)
      try simp only [Act.put, List.setIfInBounds_toArray, List.set_cons_zero, List.set_cons_succ]
      refine takeS 12 (some 33) ?vb112 (by kernel_rfl) (by kernel_rfl) (by kernel_rfl) (by kernel_rfl) (fun _ _ _ h => h) (by rfl) ?hyb112 sd0 ?restb112
      case hyb112 => (intro o ho W hW; simp only [List.getElem?_toArray, List.getElem?_cons_succ, List.getElem?_cons_zero, Option.some.injEq] at ho; subst ho; (try dsimp only at hW); skip; go_simp; try rfl)
      try simp only [Act.put, List.setIfInBounds_toArray, List.set_cons_zero, List.set_cons_succ]
      refine takeS 13 (some 34) ?vb113 (by kernel_rfl) (by kernel_rfl) (by kernel_rfl) (by kernel_rfl) (fun _ _ _ h => h) (by rfl) ?hyb113 sd0 ?restb113
      case hyb113 => (intro o ho W hW; simp only [List.getElem?_toArray, List.getElem?_cons_succ, List.getElem?_cons_zero, Option.some.injEq] at ho; subst ho; (try dsimp only at hW); skip; go_simp; try rfl)
      try simp only [Act.put, List.setIfInBounds_toArray, List.set_cons_zero, List.set_cons_succ]
      refine nextS 10 (by kernel_rfl) (by rfl) (fun o ho K hK => ?_)
      simp only [List.getElem?_toArray, List.getElem?_cons_succ, List.getElem?_cons_zero, Option.some.injEq] at ho; subst ho
      go_simp
      (go_at_call 44; (with_reducible refine (C1.out _).mono ?_); rintro e w4 ⟨rfl, b4⟩)
      have s4 : Below W.heap.size W w4 := below_up sw sw.size b4
      have s5 := sv.on (Nat.le_refl _) b4
      refine hK.out _ _ s5 (fun _ => ?_)
      clear hK K
      try simp only [Act.put, List.setIfInBounds_toArray, List.set_cons_zero, List.set_cons_succ]
      refine takeS 11 (some 32) (.int .i64 0) (by kernel_rfl) (by kernel_rfl) (by kernel_rfl) (by kernel_rfl) (fun _ _ _ h => h) (by rfl) ?hyb111 s5 ?restb111
      case hyb111 => (intro o ho W hW; simp only [List.getElem?_toArray, List.getElem?_cons_succ, List.getElem?_cons_zero, Option.some.injEq] at ho; subst ho; (try dsimp only at hW); skip; go_simp; try rfl)
      try simp only [Act.put, List.setIfInBounds_toArray, List.set_cons_zero, List.set_cons_succ]
      refine takeS 14 (some 35) (.pointer (some ⟨y.1.ad, 1, none⟩)) (by kernel_rfl) (by kernel_rfl) (by kernel_rfl) (by kernel_rfl) (fun _ _ _ h => h) (by rfl) ?hyb114 s5 ?restb114
      case hyb114 => (intro o ho W hW; simp only [List.getElem?_toArray, List.getElem?_cons_succ, List.getElem?_cons_zero, Option.some.injEq] at ho; subst ho; (try dsimp only at hW); skip; go_simp; try rfl)
      try simp only [Act.put, List.setIfInBounds_toArray, List.set_cons_zero, List.set_cons_succ]
      refine takeS 15 (some 36) ?vb115 (by kernel_rfl) (by kernel_rfl) (by kernel_rfl) (by kernel_rfl) (fun _ _ _ h => h) (by rfl) ?hyb115 s5 ?restb115
      case hyb115 => (intro o ho W hW; simp only [List.getElem?_toArray, List.getElem?_cons_succ, List.getElem?_cons_zero, Option.some.injEq] at ho; subst ho; (try dsimp only at hW); have g3 := (World.cell?_of_block (hW.block y.1.ad l0 hy7)).trans ck; go_simp; try rfl)
      try simp only [Act.put, List.setIfInBounds_toArray, List.set_cons_zero, List.set_cons_succ]
      have I4 := HI.out.on s4
      have hc4 := I4.cell
      have hf4 := I4.free
      refine nextS 16 (by kernel_rfl) (by rfl) (fun o ho K hK => ?_)
      simp only [List.getElem?_toArray, List.getElem?_cons_succ, List.getElem?_cons_zero, Option.some.injEq] at ho; subst ho
      go_simp
      have s6 := s5.set (a := ⟨gi, 0, none⟩) (by simp) (.int .i64 (y.1.bit : Nat))
      refine hK.out _ _ s6 (fun _ => ?_)
      clear hK K
      try simp only [Act.put, List.setIfInBounds_toArray, List.set_cons_zero, List.set_cons_succ]
      have B4 : Blk (w4.setCell ⟨gi, 0, none⟩ (.int .i64 (y.1.bit : Nat))) gb 77 #[.pointer (lft k (pre.map (·.1)))] := ⟨(Below.heap_setCell _ _ _ gb nbi).trans (HB.out.on s4).out⟩
      have hc5 := B4.cell
      have hf5 := B4.free
      refine nextS 17 (by kernel_rfl) (by rfl) (fun o ho K hK => ?_)
      simp only [List.getElem?_toArray, List.getElem?_cons_succ, List.getElem?_cons_zero, Option.some.injEq] at ho; subst ho
      go_simp
      have s7 := s6.set (a := ⟨gb, 0, none⟩) (by simp) (.pointer ka)
      refine hK.out _ _ s7 (fun _ => ?_)
      clear hK K
      try simp only [Act.put, List.setIfInBounds_toArray, List.set_cons_zero, List.set_cons_succ]
      refine wpAnyH_done (by kernel_rfl) ?_ _
      exact ⟨w4, s4, rfl⟩
      rintro a' w' hw'
      obtain ⟨k1, k2, k3, k4, k5⟩ := KEY.out w' hw'
      exact ⟨k1.from _, k2, k3, k4, k5⟩
    · have ck := HK2.out false hb1
      simp only [Bool.false_eq_true, if_false] at ck
      gi_wp2
      refine region_round (S := fun V => Ov W.heap.size [gb, gi] W V) (R := fun _ w' => ∃ w4, Below W.heap.size W w4 ∧ w' = (w4.setCell ⟨gi, 0, none⟩ (.int .i64 (y.1.bit : Nat))).setCell ⟨gb, 0, none⟩ (.pointer ka)) hmix (by kernel_rfl) sv (fun sd0 => ?_) ?_
      refine takeS 0 (some 21) ?vb00 (by kernel_rfl) (by kernel_rfl) (by kernel_rfl) (by kernel_rfl) (fun _ _ _ h => h) (by rfl) ?hyb00 sd0 ?restb00
      case hyb00 => (intro o ho W hW; simp only [List.getElem?_toArray, List.getElem?_cons_succ, List.getElem?_cons_zero, Option.some.injEq] at ho; subst ho; (try dsimp only at hW); skip; go_simp; try rfl)
      try simp only [Act.put, List.setIfInBounds_toArray, List.set_cons_zero, List.set_cons_succ]
      refine takeS 1 (some 22) ?vb01 (by kernel_rfl) (by kernel_rfl) (by kernel_rfl) (by kernel_rfl) (fun _ _ _ h => h) (by rfl) ?hyb01 sd0 ?restb01
      case hyb01 => (intro o ho W hW; simp only [List.getElem?_toArray, List.getElem?_cons_succ, List.getElem?_cons_zero, Option.some.injEq] at ho; subst ho; (try dsimp only at hW); skip; go_simp; try rfl)
      try simp only [Act.put, List.setIfInBounds_toArray, List.set_cons_zero, List.set_cons_succ]
      refine takeS 2 (some 23) ?vb02 (by kernel_rfl) (by kernel_rfl) (by kernel_rfl) (by kernel_rfl) (fun _ _ _ h => h) (by rfl) ?hyb02 sd0 ?restb02
      case hyb02 => (intro o ho W hW; simp only [List.getElem?_toArray, List.getElem?_cons_succ, List.getElem?_cons_zero, Option.some.injEq] at ho; subst ho; (try dsimp only at hW); skip; go_simp; try rfl)
      try simp only [Act.put, List.setIfInBounds_toArray, List.set_cons_zero, List.set_cons_succ]
      refine takeS 3 (some 24) ?vb03 (by kernel_rfl) (by kernel_rfl) (by kernel_rfl) (by kernel_rfl) (fun _ _ _ h => h) (by rfl) ?hyb03 sd0 ?restb03
      case hyb03 => (intro o ho W hW; simp only [List.getElem?_toArray, List.getElem?_cons_succ, List.getElem?_cons_zero, Option.some.injEq] at ho; subst ho; (try dsimp only at hW); have g2 := (World.cell?_of_block (hW.block y.1.ad l0 hy7)).trans c0; go_simp; try rfl)
      try simp only [Act.put, List.setIfInBounds_toArray, List.set_cons_zero, List.set_cons_succ]
      refine takeS 4 (some 25) ?vb04 (by kernel_rfl) (by kernel_rfl) (by kernel_rfl) (by kernel_rfl) (fun _ _ _ h => h) (by rfl) ?hyb04 sd0 ?restb04
      case hyb04 => (intro o ho W hW; simp only [List.getElem?_toArray, List.getElem?_cons_succ, List.getElem?_cons_zero, Option.some.injEq] at ho; subst ho; (try dsimp only at hW); skip; go_simp; try rfl)
      try simp only [Act.put, List.setIfInBounds_toArray, List.set_cons_zero, List.set_cons_succ]
      refine takeS 5 (some 26) ?vb05 (by kernel_rfl) (by kernel_rfl) (by kernel_rfl) (by kernel_rfl) (fun _ _ _ h => h) (by rfl) ?hyb05 sd0 ?restb05
      case hyb05 => (intro o ho W hW; simp only [List.getElem?_toArray, List.getElem?_cons_succ, List.getElem?_cons_zero, Option.some.injEq] at ho; subst ho; (try dsimp only at hW); have g1 := (Shp.rd_to (hW.block (gi + 1) lx1 hx1)).trans c1; go_simp; try rfl)
      try simp only [Act.put, List.setIfInBounds_toArray, List.set_cons_zero, List.set_cons_succ]
      refine takeS 6 (some 27) ?vb06 (by kernel_rfl) (by kernel_rfl) (by kernel_rfl) (by kernel_rfl) (fun _ _ _ h => h) (by rfl) ?hyb06 sd0 ?restb06
      case hyb06 => (intro o ho W hW; simp only [List.getElem?_toArray, List.getElem?_cons_succ, List.getElem?_cons_zero, Option.some.injEq] at ho; subst ho; (try dsimp only at hW); skip; go_simp; try rfl)
      try simp only [Act.put, List.setIfInBounds_toArray, List.set_cons_zero, List.set_cons_succ]
      refine takeS 7 (some 28) ?vb07 (by kernel_rfl) (by kernel_rfl) (by kernel_rfl) (by kernel_rfl) (fun _ _ _ h => h) (by rfl) ?hyb07 sd0 ?restb07
      case hyb07 => (intro o ho W hW; simp only [List.getElem?_toArray, List.getElem?_cons_succ, List.getElem?_cons_zero, Option.some.injEq] at ho; subst ho; (try dsimp only at hW); skip; go_simp; try rfl)
      try simp only [Act.put, List.setIfInBounds_toArray, List.set_cons_zero, List.set_cons_succ]
      refine takeS 8 (some 29) ?vb08 (by kernel_rfl) (by kernel_rfl) (by kernel_rfl) (by kernel_rfl) (fun _ _ _ h => h) (by rfl) ?hyb08 sd0 ?restb08
      case hyb08 => (intro o ho W hW; simp only [List.getElem?_toArray, List.getElem?_cons_succ, List.getElem?_cons_zero, Option.some.injEq] at ho; subst ho; (try dsimp only at hW); skip; go_simp; try rfl)
      try simp only [Act.put, List.setIfInBounds_toArray, List.set_cons_zero, List.set_cons_succ]
      refine takeS 9 (some 30) ?vb09 (by kernel_rfl) (by kernel_rfl) (by kernel_rfl) (by kernel_rfl) (fun _ _ _ h => h) (by rfl) ?hyb09 sd0 ?restb09
      case hyb09 => (intro o ho W hW; simp only [List.getElem?_toArray, List.getElem?_cons_succ, List.getElem?_cons_zero, Option.some.injEq] at ho; subst ho; (try dsimp only at hW); have g2 := (World.cell?_of_block (hW.block y.1.ad l0 hy7)).trans c0; go_simp; try rfl)
      try simp only [Act.put, List.setIfInBounds_toArray, List.set_cons_zero, List.set_cons_succ]
      refine takeS 12 (some 33) ?vb012 (by kernel_rfl) (by kernel_rfl) (by kernel_rfl) (by kernel_rfl) (fun _ _ _ h => h) (by rfl) ?hyb012 sd0 ?restb012
      case hyb012 => (intro o ho W hW; simp only [List.getElem?_toArray, List.getElem?_cons_succ, List.getElem?_cons_zero, Option.some.injEq] at ho; subst ho; (try dsimp only at hW); skip; go_simp; try rfl)
      try simp only [Act.put, List.setIfInBounds_toArray, List.set_cons_zero, List.set_cons_succ]
      refine takeS 13 (some 34) ?vb013 (by kernel_rfl) (by kernel_rfl) (by kernel_rfl) (by kernel_rfl) (fun _ _ _ h => h) (by rfl) ?hyb013 sd0 ?restb013
      case hyb013 => (intro o ho W hW; simp only [List.getElem?_toArray, List.getElem?_cons_succ, List.getElem?_cons_zero, Option.some.injEq] at ho; subst ho; (try dsimp only at hW); skip; go_simp; try rfl)
      try simp only [Act.put, List.setIfInBounds_toArray, List.set_cons_zero, List.set_cons_succ]
      refine nextS 10 (by kernel_rfl) (by rfl) (fun o ho K hK => ?_)
      simp only [List.getElem?_toArray, List.getElem?_cons_succ, List.getElem?_cons_zero, Option.some.injEq] at ho; subst ho
      go_simp
      (go_at_call 44; (with_reducible refine (C1.out _).mono ?_); rintro e w4 ⟨rfl, b4⟩)
      have s4 : Below W.heap.size W w4 := below_up sw sw.size b4
      have s5 := sv.on (Nat.le_refl _) b4
      refine hK.out _ _ s5 (fun _ => ?_)
      clear hK K
      try simp only [Act.put, List.setIfInBounds_toArray, List.set_cons_zero, List.set_cons_succ]
      refine takeS 11 (some 32) (.int .i64 1) (by kernel_rfl) (by kernel_rfl) (by kernel_rfl) (by kernel_rfl) (fun _ _ _ h => h) (by rfl) ?hyb011 s5 ?restb011
      case hyb011 => (intro o ho W hW; simp only [List.getElem?_toArray, List.getElem?_cons_succ, List.getElem?_cons_zero, Option.some.injEq] at ho; subst ho; (try dsimp only at hW); skip; go_simp; try rfl)
      try simp only [Act.put, List.setIfInBounds_toArray, List.set_cons_zero, List.set_cons_succ]
      refine takeS 14 (some 35) (.pointer (some ⟨y.1.ad, 2, none⟩)) (by kernel_rfl) (by kernel_rfl) (by kernel_rfl) (by kernel_rfl) (fun _ _ _ h => h) (by rfl) ?hyb014 s5 ?restb014
      case hyb014 => (intro o ho W hW; simp only [List.getElem?_toArray, List.getElem?_cons_succ, List.getElem?_cons_zero, Option.some.injEq] at ho; subst ho; (try dsimp only at hW); skip; go_simp; try rfl)
      try simp only [Act.put, List.setIfInBounds_toArray, List.set_cons_zero, List.set_cons_succ]
      refine takeS 15 (some 36) ?vb015 (by kernel_rfl) (by kernel_rfl) (by kernel_rfl) (by kernel_rfl) (fun _ _ _ h => h) (by rfl) ?hyb015 s5 ?restb015
      case hyb015 => (intro o ho W hW; simp only [List.getElem?_toArray, List.getElem?_cons_succ, List.getElem?_cons_zero, Option.some.injEq] at ho; subst ho; (try dsimp only at hW); have g3 := (World.cell?_of_block (hW.block y.1.ad l0 hy7)).trans ck; go_simp; try rfl)
      try simp only [Act.put, List.setIfInBounds_toArray, List.set_cons_zero, List.set_cons_succ]
      have I4 := HI.out.on s4
      have hc4 := I4.cell
      have hf4 := I4.free
      refine nextS 16 (by kernel_rfl) (by rfl) (fun o ho K hK => ?_)
      simp only [List.getElem?_toArray, List.getElem?_cons_succ, List.getElem?_cons_zero, Option.some.injEq] at ho; subst ho
      go_simp
      have s6 := s5.set (a := ⟨gi, 0, none⟩) (by simp) (.int .i64 (y.1.bit : Nat))
      refine hK.out _ _ s6 (fun _ => ?_)
      clear hK K
      try simp only [Act.put, List.setIfInBounds_toArray, List.set_cons_zero, List.set_cons_succ]
      have B4 : Blk (w4.setCell ⟨gi, 0, none⟩ (.int .i64 (y.1.bit : Nat))) gb 77 #[.pointer (lft k (pre.map (·.1)))] := ⟨(Below.heap_setCell _ _ _ gb nbi).trans (HB.out.on s4).out⟩
      have hc5 := B4.cell
      have hf5 := B4.free
      refine nextS 17 (by kernel_rfl) (by rfl) (fun o ho K hK => ?_)
      simp only [List.getElem?_toArray, List.getElem?_cons_succ, List.getElem?_cons_zero, Option.some.injEq] at ho; subst ho
      go_simp
      have s7 := s6.set (a := ⟨gb, 0, none⟩) (by simp) (.pointer ka)
      refine hK.out _ _ s7 (fun _ => ?_)
      clear hK K
      try simp only [Act.put, List.setIfInBounds_toArray, List.set_cons_zero, List.set_cons_succ]
      refine wpAnyH_done (by kernel_rfl) ?_ _
      exact ⟨w4, s4, rfl⟩
      rintro a' w' hw'
      obtain ⟨k1, k2, k3, k4, k5⟩ := KEY.out w' hw'
      exact ⟨k1.from _, k2, k3, k4, k5⟩
  case done =>
    rintro D0 ys W hD hp ⟨hO, hB, hI⟩ hK
    rw [hp] at hB hI
    have hTW : TR W g (some t) := hT6.ov hO (fun q hq => by
      rcases List.mem_cons.1 hq with rfl | hq
      · exact ⟨hgg, hgX⟩
      · exact hX t rfl q hq)
    have hBW : Blk W g 79 #[.pointer (pt (some t)), .int .i64 ((n : Int) - 1)] := ⟨(hO.block g hgg hgX).trans hB6.out⟩
    have fW : kS.rd W ⟨w.heap.size, 0, none⟩ = some k := (Shp.rd_to (hO.block w.heap.size (by have := HZ.out; omega) hwX)).trans f6
    have lW := Shp.rd_lt fW
    have lB := hB.lt
    have lI := hI.lt
    have hcB := hB.cell
    have hcI := hI.cell
    have hle := lbt_le hTW (k := k) (fun y hy => hy)
    obtain ⟨d, hd⟩ : ∃ d, lbt (pth k 200 (some t)) = d := ⟨_, rfl⟩
    obtain ⟨ka, hka⟩ : ∃ ka, lft k (pth k 200 (some t)) = ka := ⟨_, rfl⟩
    rw [hd] at hcI hle
    rw [hka] at hcB
    have CPl := Lib.hid (fun w hT => place_any g (some t) k d hle w hT)
    have HO := Lib.hid hO
    have HBW := Lib.hid hBW
    clear hO hB hI hBW
    have hdel := fun W8 (hT8 : TR W8 g (some t)) (hB8 : Blk W8 g 79 #[.pointer (pt (some t)), .int .i64 ((n : Int) - 1)]) => tr_del hT8 HK.out hB8
    rw [hd, hka] at hdel
    have hpb : ∀ W8, TR W8 g (some t) → (plc k ⟨g, 0, none⟩ (pth k d (some t))).block ∈ g :: t.bl := fun W8 h8 => plc_blk h8
    have hpf : ∀ W8, TR W8 g (some t) → W8.frozen? (plc k ⟨g, 0, none⟩ (pth k d (some t))) = false := fun W8 h8 => h8.free
    have hpc : ∀ W8, TR W8 g (some t) → W8.cell? (plc k ⟨g, 0, none⟩ (pth k d (some t))) = some (.pointer (pt (subo k d (some t)))) := fun W8 h8 => h8.sub_cell hle
    obtain ⟨p, ep⟩ : ∃ p, plc k ⟨g, 0, none⟩ (pth k d (some t)) = p := ⟨_, rfl⟩
    rw [ep] at hdel hpb hpf hpc CPl
    have HDEL := Lib.hid hdel
    have HPB := Lib.hid hpb
    have HPF := Lib.hid hpf
    have HPC := Lib.hid hpc
    have HD := Lib.hid hD
    have HKD := Lib.hid hK
    clear hdel hpb hpf hpc ep hd hka hp
    gi_wp2
    have hmix : Try.prog.follows .mixedOrders = true := by kernel_rfl
    have hall := HT.out.tr.all_lt
    have q1 : w.heap.size ∉ g :: t.bl := fun e => Nat.lt_irrefl _ (hall _ e)
    have q2 : gi ∉ g :: t.bl := fun e => by have := hall _ e; have := HZ.out; omega
    have q3 : gb ∉ g :: t.bl := fun e => by have := hall _ e; have := HZ.out; omega
    have sw : Below W.heap.size W W.drew := (Below.refl _ _).drew
    have sv : Ov W.heap.size (g :: t.bl) W W.drew := (Ov.refl _ _ _).on (Nat.le_refl _) sw
    have hpb := HPB.out W hTW
    clear hall
    refine region_wide (S := fun V => Ov W.heap.size (g :: t.bl) W V) (R := fun a' w' => a' = { tmps := #[.pointer (some ⟨g, 0, none⟩), .agg (kS.v k), undef, .pointer (some ⟨w.heap.size, 0, none⟩), .pointer (some ⟨gb, 0, none⟩), .pointer (some ⟨gi, 0, none⟩), .pointer (some ⟨gi + 1, 0, none⟩), undef, .pointer (some ⟨g, 0, none⟩), .pointer (some ⟨g, 0, none⟩), .pointer (some ⟨g, 1, none⟩), .int .i64 (n : Nat), .int .i64 ((n : Int) - 1), .pointer (some ⟨g, 0, none⟩), .pointer (some ⟨g, 1, none⟩), .agg (kS.v k), .agg (kS.v k), .pointer (some ⟨g, 0, none⟩), .agg (kS.v k), .func (.func 60) #[] #[.pointer (some ⟨wb.heap.size + 1, 0, none⟩), .pointer (some ⟨wb.heap.size, 0, none⟩), .pointer (some ⟨wb.heap.size + 2, 0, none⟩)], undef, undef, undef, undef, undef, undef, undef, undef, undef, undef, undef, undef, undef, undef, undef, undef, undef, .pointer (some ⟨g, 0, none⟩), .agg (kS.v k), .int .i64 (d : Nat), .pointer (some p), .pointer ka, .pointer (some p)], defers := [{ target := .collected D0, args := #[] }] } ∧ ∃ w8, Below W.heap.size W w8 ∧ w' = w8.setCell p (.pointer ka)) hmix sv (fun sd0 => ?_) ?_
    refine takeS 0 (some 37) ?vd0 (by kernel_rfl) (by kernel_rfl) (by kernel_rfl) (by kernel_rfl) (fun _ _ _ h => h) (by rfl) ?hyd0 sd0 ?restd0
    case hyd0 => (intro o ho W hW; simp only [List.getElem?_toArray, List.getElem?_cons_succ, List.getElem?_cons_zero, Option.some.injEq] at ho; subst ho; (try dsimp only at hW); skip; go_simp; try rfl)
    try simp only [Act.put, List.setIfInBounds_toArray, List.set_cons_zero, List.set_cons_succ]
    refine takeS 1 (some 38) ?vd1 (by kernel_rfl) (by kernel_rfl) (by kernel_rfl) (by kernel_rfl) (fun _ _ _ h => h) (by rfl) ?hyd1 sd0 ?restd1
    case hyd1 => (intro o ho W hW; simp only [List.getElem?_toArray, List.getElem?_cons_succ, List.getElem?_cons_zero, Option.some.injEq] at ho; subst ho; (try dsimp only at hW); have g1 := (Shp.rd_to (hW.block w.heap.size lW q1)).trans fW; go_simp; try rfl)
    try simp only [Act.put, List.setIfInBounds_toArray, List.set_cons_zero, List.set_cons_succ]
    refine takeS 2 (some 39) ?vd2 (by kernel_rfl) (by kernel_rfl) (by kernel_rfl) (by kernel_rfl) (fun _ _ _ h => h) (by rfl) ?hyd2 sd0 ?restd2
    case hyd2 => (intro o ho W hW; simp only [List.getElem?_toArray, List.getElem?_cons_succ, List.getElem?_cons_zero, Option.some.injEq] at ho; subst ho; (try dsimp only at hW); have g2 := (World.cell?_of_block (hW.block gi lI q2)).trans hcI; go_simp; try rfl)
    try simp only [Act.put, List.setIfInBounds_toArray, List.set_cons_zero, List.set_cons_succ]
    refine takeS 4 (some 41) ?vd4 (by kernel_rfl) (by kernel_rfl) (by kernel_rfl) (by kernel_rfl) (fun _ _ _ h => h) (by rfl) ?hyd4 sd0 ?restd4
    case hyd4 => (intro o ho W hW; simp only [List.getElem?_toArray, List.getElem?_cons_succ, List.getElem?_cons_zero, Option.some.injEq] at ho; subst ho; (try dsimp only at hW); have g3 := (World.cell?_of_block (hW.block gb lB q3)).trans hcB; go_simp; try rfl)
    try simp only [Act.put, List.setIfInBounds_toArray, List.set_cons_zero, List.set_cons_succ]
    refine nextS 3 (by kernel_rfl) (by rfl) (fun o ho K hK => ?_)
    simp only [List.getElem?_toArray, List.getElem?_cons_succ, List.getElem?_cons_zero, Option.some.injEq] at ho; subst ho
    go_simp
    (go_at_call 37; (with_reducible refine (CPl.out _ (hTW.on sw)).mono ?_); rintro e w8 ⟨rfl, b8⟩)
    have t8 : Below W.heap.size W w8 := below_up sw sw.size b8
    have s8 := sv.on (Nat.le_refl _) b8
    have hT8 := hTW.on t8
    have hcp := HPC.out w8 hT8
    have hfp := HPF.out w8 hT8
    refine hK.out _ _ s8 (fun _ => ?_)
    clear hK K
    try simp only [Act.put, List.setIfInBounds_toArray, List.set_cons_zero, List.set_cons_succ]
    refine takeS 5 (some 42) ?vd5 (by kernel_rfl) (by kernel_rfl) (by kernel_rfl) (by kernel_rfl) (fun _ _ _ h => h) (by rfl) ?hyd5 s8 ?restd5
    case hyd5 => (intro o ho W hW; simp only [List.getElem?_toArray, List.getElem?_cons_succ, List.getElem?_cons_zero, Option.some.injEq] at ho; subst ho; (try dsimp only at hW); skip; go_simp; try rfl)
    try simp only [Act.put, List.setIfInBounds_toArray, List.set_cons_zero, List.set_cons_succ]
    refine nextS 6 (by kernel_rfl) (by rfl) (fun o ho K hK => ?_)
    simp only [List.getElem?_toArray, List.getElem?_cons_succ, List.getElem?_cons_zero, Option.some.injEq] at ho; subst ho
    go_simp
    have s9 := s8.set (a := p) hpb (.pointer ka)
    refine hK.out _ _ s9 (fun _ => ?_)
    clear hK K
    try simp only [Act.put, List.setIfInBounds_toArray, List.set_cons_zero, List.set_cons_succ]
    refine wpAnyH_done (by kernel_rfl) ?_ _
    exact ⟨rfl, w8, t8, rfl⟩
    rintro a' w' ⟨rfl, w8, b8, rfl⟩
    have hT8 := hTW.on b8
    have HH := Lib.hid (HDEL.out w8 hT8 (HBW.out.on b8))
    have HP8 := Lib.hid (HPB.out w8 hT8)
    have hD8 : D0 < W.heap.size := (Array.getElem?_eq_some_iff.1 HKD.out).1
    have hpD : D0 ≠ p.block := fun e => by
      have := hT6.all_lt _ HP8.out
      have := HD.out
      omega
    have hK8 : (w8.setCell p (.pointer ka)).heap[D0]? = some (.deferred (some [])) := (Below.heap_setCell _ _ _ D0 hpD).trans ((b8.block D0 hD8).trans HKD.out)
    gi_wp2
    refine ⟨by simp, .inl ⟨_, _, rfl, run_takeDeferred hK8, ?_⟩⟩
    obtain ⟨t1, t2, t3, t4⟩ := HH.out
    have hD0 := HD.out
    have hzw : w.heap.size ≤ w6.heap.size := hO6.size
    have hzz := HZ.out
    have hOF : Ov w6.heap.size [] (w8.setCell p (.pointer ka)) ((w8.setCell p (.pointer ka)).putObj D0 (.deferred none)) := (Ov.refl _ _ _).put hD0 _
    have tF := t1.ov hOF (fun q hq => ⟨by
      rcases List.mem_cons.1 hq with rfl | hq
      · exact hgg
      · exact (hX t rfl q (t4 q hq)).1, by simp⟩)
    have bF : Blk ((w8.setCell p (.pointer ka)).putObj D0 (.deferred none)) g 79 #[.pointer (pt (t.del k)), .int .i64 ((n : Int) - 1)] := ⟨(hOF.block g hgg (by simp)).trans t2.out⟩
    have hlen : ((Cr.Tr.lso (t.del k)).length : Int) = (n : Int) - 1 := by
      have hw := HT.out.tr.wf t rfl
      have h1 := Cr.del_len (Cr.Tr.sorted hw) (Cr.has_iff.2 ((Cr.Tr.near_is hw).1 HK.out))
      have h2 : t.ls.length = n := hn
      rw [t3]
      omega
    have hOW : Ov w.heap.size (g :: t.bl) w6 W := ⟨HO.out.os, HO.out.tape, HO.out.output, HO.out.size, fun q h1 h2 => HO.out.block q (by omega) (by simp; omega)⟩
    exact ⟨_, results_none rfl _ _ _, ⟨_, rfl⟩, TC.of tF (by rw [hlen]; exact bF), t3, t4, (((hO6.trans hOW).on (Nat.le_refl _) b8).set HP8.out _).put (by omega) _⟩
  case stop =>
    rintro D0 c pre W _ _ h _
    exact h.elim
end Go.Proofs.Ytphbjkcplpfogaa
