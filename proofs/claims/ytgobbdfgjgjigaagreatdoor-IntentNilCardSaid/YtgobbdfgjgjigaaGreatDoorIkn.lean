/-
  The chapter's example.
-/
import Derived.Test.YtgobbdfgjgjigaaGreatDoorIdr
set_option linter.unusedVariables false
set_option linter.unusedSimpArgs false
set_option maxRecDepth 100000
namespace Go.Proofs.YtgobbdfgjgjigaaGreatDoor
open Go.RowKit
noncomputable def bsk (n : Nat) (ps : Array (Nat × Value)) : Sem Value := Instr.buildSlice 58 n ps
theorem bsk_k (n : Nat) (ps : Array (Nat × Value)) : Instr.buildSlice 58 n ps = bsk n ps := rfl
theorem bsk1_list (w : World) : ∀ l : List Value, l.length = 25 → (bsk 1 #[(0, .agg l.toArray)]).run Tryz.prog w = .ok (.slice (some ⟨w.heap.size, 0, none⟩) 1 1) (w.alloc (.cells l.toArray 30))
  | [a0, a1, a2, a3, a4, a5, a6, a7, a8, a9, a10, a11, a12, a13, a14, a15, a16, a17, a18, a19, a20, a21, a22, a23, a24], _ => by
    simp [bsk, Instr.buildSlice, go_sem]
theorem bsk2_list (w : World) : ∀ l m : List Value, l.length = 25 → m.length = 25 → (bsk 2 #[(0, .agg l.toArray), (1, .agg m.toArray)]).run Tryz.prog w = .ok (.slice (some ⟨w.heap.size, 0, none⟩) 2 2) (w.alloc (.cells (l ++ m).toArray 30))
  | [a0, a1, a2, a3, a4, a5, a6, a7, a8, a9, a10, a11, a12, a13, a14, a15, a16, a17, a18, a19, a20, a21, a22, a23, a24], [b0, b1, b2, b3, b4, b5, b6, b7, b8, b9, b10, b11, b12, b13, b14, b15, b16, b17, b18, b19, b20, b21, b22, b23, b24], _, _ => by
    simp [bsk, Instr.buildSlice, go_sem]
def kcs2 (x y : D.Ky) : Array Value := (bys x.l ++ bys y.l).toArray
theorem run_bsk1 (w : World) (x : D.Ky) : (bsk 1 #[(0, .agg (kS.v x))]).run Tryz.prog w = .ok (.slice (some ⟨w.heap.size, 0, none⟩) 1 1) (w.alloc (.cells (kS.v x) 30)) := bsk1_list w _ (kS.len x)
theorem run_bsk2 (w : World) (x y : D.Ky) : (bsk 2 #[(0, .agg (kS.v x)), (1, .agg (kS.v y))]).run Tryz.prog w = .ok (.slice (some ⟨w.heap.size, 0, none⟩) 2 2) (w.alloc (.cells (kcs2 x y) 30)) := bsk2_list w _ _ (kS.len x) (kS.len y)
theorem krow1 (w : World) (x : D.Ky) : Shp.Row kS (w.alloc (.cells (kS.v x) 30)) (some ⟨w.heap.size, 0, none⟩) 1 [x] := Shp.row_new w _ _ [x] rfl _ (by simp [Shp.rcs, Shp.v])
theorem krow2 (w : World) (x y : D.Ky) : Shp.Row kS (w.alloc (.cells (kcs2 x y) 30)) (some ⟨w.heap.size, 0, none⟩) 2 [x, y] := Shp.row_new w _ _ [x, y] rfl _ (by simp [Shp.rcs, kcs2]; rfl)
attribute [local go_sem ↓] Go.wp_at_zero Go.wp_at_succ ld_k lv_k st_k eq_k ne_k bd_k Nm.ld_a Nm.ld_n Nm.st_a Nm.st_n Nm.eq_a Nm.eq_n Nm.ne_a Nm.ne_n Nm.lv_a Nm.lv_n ld_a ld_n st_a st_n eq_a eq_n ne_a ne_n lv_a lv_n
attribute [local go_sem] run_ldk run_lvk run_stk run_eqk run_nek run_bdk_z Nm.run_ld_a Nm.run_ld_n Nm.run_st_n Nm.run_eq_a Nm.run_eq_n Nm.run_ne_a Nm.run_ne_n Nm.run_lv_a Nm.run_lv_n Nm.rd_new Nm.rd_old Nm.rd_drew Nm.rd_drewN run_ld_a run_ld_n run_sw_a run_sw_n run_eq_a run_eq_n run_ne_a run_ne_n run_lv_a run_lv_n st_z ne_z eq_z rd_new rd_old rd_drew rd_drewN Shp.rd_new Shp.rd_old Shp.rd_drew Shp.rd_drewN Shp.rd_set Shp.tn_new Shp.tn_old Shp.tn_drew Shp.tn_drewN setRow_alloc run_stn3 run_stt15 bdk1 bdk2 bdk3 bdk4
attribute [local go_sem ↓] bsk_k
attribute [local go_sem] run_bsk1 run_bsk2
def kA : D.Ky := D.mkK 1 0 0 Nm.D.zero D.zero
def kB : D.Ky := D.mkK 1 1 0 Nm.D.zero D.zero
def kC : D.Ky := D.mkK 1 2 0 Nm.D.zero D.zero
theorem run_kA (w : World) : (bdk #[(0, .int .u8 1)]).run Tryz.prog w = .ok (.agg (kS.v kA)) w := run_bdk_1 w 1 (by decide)
theorem run_kB (w : World) : (bdk #[(0, .int .u8 1), (1, .int .u8 1)]).run Tryz.prog w = .ok (.agg (kS.v kB)) w := run_bdk_2 w 1 1 (by decide) (by decide)
theorem run_kC (w : World) : (bdk #[(0, .int .u8 1), (1, .int .u8 2)]).run Tryz.prog w = .ok (.agg (kS.v kC)) w := run_bdk_2 w 1 2 (by decide) (by decide)
attribute [local go_sem] run_kA run_kB run_kC
theorem kAr : D.kright kA = true := by decide +kernel
theorem kBr : D.kright kB = true := by decide +kernel
theorem kCr : D.kright kC = true := by decide +kernel
theorem kBA : kB ≠ kA := by decide +kernel
theorem kCA : kC ≠ kA := by decide +kernel
theorem kCB : kC ≠ kB := by decide +kernel
def D.I1 : D.It := (D.It.zero.put kA 1).put kB 1
def D.I2 : D.It := D.I1.put kC 2
theorem k_take1 : D.It.zero.take 1 [kA, kB] = (D.I1, 0) := by
  have e1 : D.It.zero.err 1 kA = 0 := by unfold D.It.err; rw [if_pos kAr]; rfl
  have e2 : (D.It.zero.put kA 1).err 1 kB = 0 := by unfold D.It.err; rw [if_pos kBr, D.It.put_o kBA]; rfl
  rw [D.It.take, if_pos e1, D.It.take, if_pos e2, D.It.take]
  rfl
theorem k_take2 : D.I1.take 2 [kC, kB] = (D.I2, 11) := by
  have e1 : D.I1.err 2 kC = 0 := by unfold D.It.err D.I1; rw [if_pos kCr, D.It.put_o kCB, D.It.put_o kCA]; rfl
  have e2 : D.I2.err 2 kB = 11 := by
    unfold D.It.err D.I2 D.I1
    rw [if_pos kBr, D.It.put_o (fun e => kCB e.symm), D.It.put_f]
    rfl
  rw [D.It.take, if_pos e1, D.It.take, if_neg (by show ¬ D.I2.err 2 kB = 0; rw [e2]; decide)]
  show (D.I2, D.I2.err 2 kB) = _
  rw [e2]
theorem k_n1 : D.I1.n = 2 := by
  have : (D.It.zero.put kA 1).f kB = none := by rw [D.It.put_o kBA]; rfl
  show (if ((D.It.zero.put kA 1).f kB).isSome then (D.It.zero.put kA 1).n else (D.It.zero.put kA 1).n + 1) = 2
  rw [this]
  rfl
theorem k_n2 : D.I2.n = 3 := by
  have : D.I1.f kC = none := by unfold D.I1; rw [D.It.put_o kCB, D.It.put_o kCA]; rfl
  show (if (D.I1.f kC).isSome then D.I1.n else D.I1.n + 1) = 3
  rw [this, k_n1]
  rfl
theorem k_own : D.I2.f kC = some 2 := D.It.put_f _ _ _
theorem k_drop : (D.I2.drop 2 [kB, kC]).2 = 1 := by
  have e1 : ¬ D.I2.f kB = some 2 := by
    unfold D.I2 D.I1
    rw [D.It.put_o (fun e => kCB e.symm), D.It.put_f]
    decide
  rw [D.It.drop, if_neg e1, D.It.drop, if_pos k_own, D.It.drop]
theorem bel_setRow {B : Nat} {w w' : World} (h : Below B w w') {g : Nat} (hg : B ≤ g) (cs : Array Value) : Below B w (w'.setRow g cs) := h.trans ⟨rfl, rfl, rfl, by simp [World.setRow], fun i hi => heap_setRow _ _ _ _ (by omega)⟩
/-- A table at g, with the example's keys behind it. -/
structure Kst (w : World) (g : Nat) (W : World) (M : Option Nat) (s : D.It) : Prop where
  t : TabI g W g M s
  far : ∀ b, M = some b → g + 4 ≤ b
  z : g + 4 ≤ W.heap.size
  b : Below g w W
  r1 : kS.rd W ⟨g + 1, 0, none⟩ = some kA
  r2 : kS.rd W ⟨g + 1 + 1, 0, none⟩ = some kB
  r3 : kS.rd W ⟨g + 1 + 1 + 1, 0, none⟩ = some kC
section
variable {w W W' : World} {g : Nat} {M M' : Option Nat} {s s' : D.It}
theorem Kst.on (h : Kst w g W M s) (hb : Below W.heap.size W W') : Kst w g W' M s :=
  ⟨h.t.on hb, h.far, Nat.le_trans h.z hb.size, h.b.trans (hb.mono (by have := h.z; omega)), Shp.rd_on h.r1 hb, Shp.rd_on h.r2 hb, Shp.rd_on h.r3 hb⟩
theorem Kst.only (h : Kst w g W M s) (t : TabI g W' g M' s') (o : Only (Sf g M) W W') (n : Nxt W.heap.size M M') : Kst w g W' M' s' := by
  have hz := h.z
  have hk : ∀ i, g < i → i < g + 4 → W'.heap[i]? = W.heap[i]? := fun i h1 h2 => o.block i (by omega) (by
    rintro (e | e)
    · omega
    · have := h.far i e
      omega)
  refine ⟨t, fun b e => ?_, Nat.le_trans hz o.size, h.b.trans (o.below (by omega) fun i hi => h.t.ge i hi), ?_, ?_, ?_⟩
  · rcases n with rfl | ⟨b', rfl, hb⟩
    · exact h.far b e
    · injection e with e
      omega
  · exact (Shp.rd_to (hk _ (by simp only; omega) (by simp only; omega))).trans h.r1
  · exact (Shp.rd_to (hk _ (by simp only; omega) (by simp only; omega))).trans h.r2
  · exact (Shp.rd_to (hk _ (by simp only; omega) (by simp only; omega))).trans h.r3
theorem Kst.away (h : Kst w g W M s) (ad : Addr) (e : (some ⟨W.heap.size, 0, none⟩ : Option Addr) = some ad) : ¬ Sf g M ad.block := by
  injection e with e
  subst e
  exact fun hs => Nat.lt_irrefl _ (h.t.lt _ hs)
theorem Kst.take (h : Kst w g W M s) (hn : s.n ≤ 1000) {o : Int} (o1 : 1 ≤ o) (o2 : o ≤ 9223372036854775807) (x y : D.Ky) {H : Nat} (hH : H = W.heap.size) : Calls Tryz.prog 9 #[.pointer (some ⟨g, 0, none⟩), .int .i64 o, .slice (some ⟨H, 0, none⟩) 2 2] (W.alloc (.cells (kcs2 x y) 30))
    fun e w' => e = .returned (.tuple #[.int .i64 (((s.take o [x, y]).1.n : Int) - (s.n : Int)), .int .i64 ((s.take o [x, y]).2 : Nat)]) ∧ ∃ M', Kst w g w' M' (s.take o [x, y]).1 := by
  subst hH
  have h1 := h.on (below_alloc_ W (.cells (kcs2 x y) 30))
  exact (take_any h1.t o1 o2 (krow2 W x y) h.away (by omega) (by omega)).mono fun e w' ⟨h2, M', h3, h4, h5⟩ => ⟨h2, M', h1.only h3 h4 h5⟩
theorem Kst.drop (h : Kst w g W M s) (o : Int) (x y : D.Ky) {H : Nat} (hH : H = W.heap.size) : Calls Tryz.prog 8 #[.pointer (some ⟨g, 0, none⟩), .int .i64 o, .slice (some ⟨H, 0, none⟩) 2 2] (W.alloc (.cells (kcs2 x y) 30))
    fun e w' => e = .returned (.int .i64 ((s.drop o [x, y]).2 : Nat)) ∧ Kst w g w' M (s.drop o [x, y]).1 := by
  subst hH
  have h1 := h.on (below_alloc_ W (.cells (kcs2 x y) 30))
  exact (drop_any h1.t o (krow2 W x y) h.away (by omega)).mono fun e w' ⟨h2, h3, h4⟩ => ⟨h2, h1.only h3 h4 (.inl rfl)⟩
end
set_option maxHeartbeats 4000000 in
theorem known_any (w : World) : Calls Tryz.prog 18 #[] w fun e w' => e = .returned (.bool true) ∧ Below w.heap.size w w' := by
  obtain ⟨g, hg⟩ : ∃ g, w.heap.size = g := ⟨_, rfl⟩
  have t0 := tabi_new w g (by omega)
  rw [hg] at t0
  have b0 := below_alloc_ w (.cells #[.map none] 33)
  obtain ⟨W0, hW0⟩ : ∃ W0, w.alloc (.cells #[.map none] 33) = W0 := ⟨_, rfl⟩
  have z0 : W0.heap.size = g + 1 := by rw [← hW0]; simp [hg]
  rw [hW0, hg] at b0
  rw [hW0] at t0
  obtain ⟨W1, hW1⟩ : ∃ W1, ((W0.alloc (.cells z25 30)).alloc (.cells z25 30)).alloc (.cells z25 30) = W1 := ⟨_, rfl⟩
  have b1 : Below (g + 1) W0 W1 := by
    rw [← hW1, ← z0]
    exact ((below_alloc_ _ _).alloc (by simp) _).alloc (by simp; omega) _
  have z1 : W1.heap.size = g + 4 := by rw [← hW1]; simp [z0]
  have BA : Blk W1 (g + 1) 30 z25 := by
    rw [← hW1, ← z0]
    exact ((Blk.new _ _ _).alloc _).alloc _
  have BB : Blk W1 (g + 1 + 1) 30 z25 := by
    have := (Blk.new (W0.alloc (.cells z25 30)) 30 z25).alloc (.cells z25 30)
    rw [← hW1]
    simp only [World.size_alloc, z0] at this
    exact this
  have BC : Blk W1 (g + 1 + 1 + 1) 30 z25 := by
    have := Blk.new ((W0.alloc (.cells z25 30)).alloc (.cells z25 30)) 30 z25
    rw [← hW1]
    simp only [World.size_alloc, z0] at this
    exact this
  have s1 : Shp.tn 25 W1 (g + 1) = true := Shp.tn_of BA rfl
  have B2 : Blk (W1.setRow (g + 1) (kS.v kA)) (g + 1 + 1) 30 z25 := ⟨by rw [heap_setRow _ _ _ _ (by omega)]; exact BB.out⟩
  have s2 : Shp.tn 25 (W1.setRow (g + 1) (kS.v kA)) (g + 1 + 1) = true := Shp.tn_of B2 rfl
  have B3 : Blk ((W1.setRow (g + 1) (kS.v kA)).setRow (g + 1 + 1) (kS.v kB)) (g + 1 + 1 + 1) 30 z25 := ⟨by rw [heap_setRow _ _ _ _ (by omega), heap_setRow _ _ _ _ (by omega)]; exact BC.out⟩
  have s3 : Shp.tn 25 ((W1.setRow (g + 1) (kS.v kA)).setRow (g + 1 + 1) (kS.v kB)) (g + 1 + 1 + 1) = true := Shp.tn_of B3 rfl
  obtain ⟨W2, hW2⟩ : ∃ W2, ((W1.setRow (g + 1) (kS.v kA)).setRow (g + 1 + 1) (kS.v kB)).setRow (g + 1 + 1 + 1) (kS.v kC) = W2 := ⟨_, rfl⟩
  have r1 : kS.rd W2 ⟨g + 1, 0, none⟩ = some kA := by
    rw [← hW2, Shp.rd_far _ _ _ _ (by simp only; omega), Shp.rd_far _ _ _ _ (by simp only; omega)]
    exact Shp.rd_set _ _ _ s1
  have r2 : kS.rd W2 ⟨g + 1 + 1, 0, none⟩ = some kB := by
    rw [← hW2, Shp.rd_far _ _ _ _ (by simp only; omega)]
    exact Shp.rd_set _ _ _ s2
  have r3 : kS.rd W2 ⟨g + 1 + 1 + 1, 0, none⟩ = some kC := by
    rw [← hW2]
    exact Shp.rd_set _ _ _ s3
  have z2 : W2.heap.size = g + 4 := by rw [← hW2]; simp [z1]
  have b2 : Below (g + 1) W0 W2 := by
    rw [← hW2]
    exact bel_setRow (bel_setRow (bel_setRow b1 (by omega) _) (by omega) _) (by omega) _
  have t2 : TabI g W2 g none D.It.zero := t0.on (by rw [z0]; exact b2)
  have k2 : Kst w g W2 none D.It.zero := ⟨t2, fun b e => (by cases e), by omega, b0.trans (b2.mono (by omega)), r1, r2, r3⟩
  have CT1 : Hid (Calls Tryz.prog 9 #[.pointer (some ⟨g, 0, none⟩), .int .i64 1, .slice (some ⟨g + 4, 0, none⟩) 2 2] (W2.alloc (.cells (kcs2 kA kB) 30)) fun e w' => e = .returned (.tuple #[.int .i64 2, .int .i64 0]) ∧ ∃ M', Kst w g w' M' D.I1) := Lib.hid (by
    have := k2.take (o := 1) (by decide) (by decide) (by decide) kA kB (H := g + 4) z2.symm
    rw [k_take1] at this
    simp only [k_n1] at this
    exact this)
  have CT2 : Hid (∀ W M, Kst w g W M D.I1 → ∀ H, H = W.heap.size → Calls Tryz.prog 9 #[.pointer (some ⟨g, 0, none⟩), .int .i64 2, .slice (some ⟨H, 0, none⟩) 2 2] (W.alloc (.cells (kcs2 kC kB) 30)) fun e w' => e = .returned (.tuple #[.int .i64 1, .int .i64 11]) ∧ ∃ M', Kst w g w' M' D.I2) := Lib.hid fun W M h H hH => by
    have := h.take (o := 2) (by rw [k_n1]; omega) (by decide) (by decide) kC kB hH
    rw [k_take2] at this
    simp only [k_n1, k_n2] at this
    exact this
  have CO : Hid (∀ W M, Kst w g W M D.I2 → Calls Tryz.prog 10 #[.pointer (some ⟨g, 0, none⟩), .agg (kS.v kC)] W fun e w' => e = .returned (.tuple #[.int .i64 2, .bool true]) ∧ Below W.heap.size W w') := Lib.hid fun W M h => by
    have := owner_any h.t kC
    rw [k_own] at this
    exact this
  have CD : Hid (∀ W M, Kst w g W M D.I2 → ∀ H, H = W.heap.size → Calls Tryz.prog 8 #[.pointer (some ⟨g, 0, none⟩), .int .i64 2, .slice (some ⟨H, 0, none⟩) 2 2] (W.alloc (.cells (kcs2 kB kC) 30)) fun e w' => e = .returned (.int .i64 1) ∧ Below g w w') := Lib.hid fun W M h H hH => by
    have := h.drop 2 kB kC hH
    rw [k_drop] at this
    exact this.mono fun e w' ⟨h1, h2⟩ => ⟨h1, h2.b⟩
  clear b0 b1 b2 t0 t2 k2 BA BB BC B2 B3 z1
  go_enter Tryz.func18, Tryz.ntmps18
  unfold z25 at hW1
  go_wp2_with fail
  try simp only [hg]
  try simp only [hW0]
  try simp only [hW1]
  go_wp2_with (first
    | (go_at_call 9; (with_reducible refine CT1.out.mono ?_); rintro e w3 ⟨rfl, M3, k3⟩; have K3 := Lib.hid k3; have c1 := k3.r1; have c2 := k3.r2; have c3 := k3.r3; clear k3)
    | (go_at_call 9; (with_reducible refine (CT2.out _ _ K3.out _ rfl).mono ?_); rintro e w4 ⟨rfl, M4, k4⟩; have K4 := Lib.hid k4; have d1 := k4.r1; have d2 := k4.r2; have d3 := k4.r3; clear k4)
    | (go_at_call 10; (with_reducible refine (CO.out _ _ K4.out).mono ?_); rintro e w5 ⟨rfl, b5⟩; have K5 := Lib.hid (K4.out.on b5); have e1 := K5.out.r1; have e2 := K5.out.r2; have e3 := K5.out.r3; clear b5)
    | (go_at_call 8; (with_reducible refine (CD.out _ _ K5.out _ rfl).mono ?_); rintro e w6 ⟨rfl, b6⟩))
  go_ret
  exact ⟨rfl, by rw [hg]; exact b6⟩
end Go.Proofs.YtgobbdfgjgjigaaGreatDoor
