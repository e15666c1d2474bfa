/-
  A name's text out of its bytes: the library's Cut at one byte 0; which name comes first.
  The program's Of: the key of parts.
  Regions that draw their order and only read, whose calls may lay blocks: one walk, in the class of the worlds that only have grown.
-/
import Derived.Test.YteiikacgcfidmaaGreatDoorG09
import Derived.Lib.BytesEntry
import Derived.Lib.IndexLaws
import Derived.Laws.BytesString
import Derived.Laws.IdiomElems
import Derived.Lib.BufferRead
import Derived.Test.YteiikacgcfidmaaGreatDoorG04
import Derived.Laws.CopyOwn
import Derived.Laws.ResultCell
import Derived.Deep.Light
import Derived.Sort.Grow
import Derived.Test.YteiikacgcfidmaaGreatDoorARow
import Derived.BigQuiet
set_option linter.unusedVariables false
set_option linter.unusedSimpArgs false
set_option maxRecDepth 100000
namespace Go.Proofs.YteiikacgcfidmaaGreatDoor.Nm
open Go.RowKit
attribute [local go_sem ↓] Go.wp_at_zero Go.wp_at_succ ld_a ld_n st_a st_n eq_a eq_n ne_a ne_n lv_a lv_n
attribute [local go_sem] run_ld_a run_ld_n run_st_n run_eq_a run_eq_n run_ne_a run_ne_n run_lv_a run_lv_n st_z ne_z rd_new rd_old rd_drew rd_drewN

/-- Where the first byte 0 lies. -/
def ix (l : List Nat) : Int := if (D.hd l).length = l.length then -1 else ((D.hd l).length : Int)
theorem ix_of : ∀ l : List Nat, (∀ b ∈ l, b < 256) → Lib.indexByte (Lib.bytesOf (l.map fun b : Nat => (b : Int))) 0 = ix l
  | [], _ => rfl
  | a :: l, h => by
    have ih := ix_of l fun b hb => h b (by simp [hb])
    have ha := h a (by simp)
    simp only [List.map_cons, Lib.bytesOf, Lib.indexByte] at ih ⊢
    by_cases e : a = 0
    · subst e
      simp [ix, D.hd]
    · have hne : ¬ (UInt8.ofNat (a : Int).toNat == 0) = true := by
        simp
        intro h0
        have := congrArg UInt8.toNat h0
        simp at this
        omega
      have hh : D.hd (a :: l) = a :: D.hd l := by simp [D.hd, e]
      have hx : ix (a :: l) = if (D.hd l).length + 1 = l.length + 1 then -1 else (((D.hd l).length + 1 : Nat) : Int) := by simp only [ix, hh, List.length_cons]
      simp only [ih]
      rw [if_neg hne, hx]
      by_cases h2 : (D.hd l).length = l.length
      · have e1 : ix l = -1 := by simp only [ix, h2, if_true]
        simp only [e1]
        have h3 : (D.hd l).length + 1 = l.length + 1 := by omega
        rw [if_pos h3]; rfl
      · have e1 : ix l = ((D.hd l).length : Int) := if_neg h2
        simp only [e1]
        rw [if_neg (by rw [beq_iff_eq]; omega), if_neg (by omega)]
        simp
theorem index_byte (g n c : Nat) (l : List Nat) (z : Int) (w : World) (hr : Row w (some ⟨g, 0, none⟩) n (bys l)) (hl : Kept (∀ b ∈ l, b < 256)) (hz : Kept (ix l = z)) :
    Calls Tryz.prog 206 #[.slice (some ⟨g, 0, none⟩) n c, .int .u8 0] w fun e w' => e = .returned (.int .i64 z) ∧ w = w' := by
  have hlen := hr.len
  rw [bys_len] at hlen
  have hrun := Lib.run_indexByteSlice (P := Tryz.prog) w g 0 n c (l.map fun b : Nat => (b : Int)) (by simpa using hlen) (fun i hi => by
    obtain ⟨b, hb, _⟩ := at_lt (l := l) (i := i) (by omega)
    obtain ⟨ad, e, hc⟩ := hr.cell (bys_at hb)
    injection e with e
    subst e
    rw [Addr.add_lit] at hc
    rw [hc]
    simp [List.getD, hb]) 0
  rw [show (0 : Int).toNat.toUInt8 = 0 from rfl, ix_of l hl.out, hz.out] at hrun
  have HR := Lib.hid hrun
  clear hrun hlen
  go_enter Tryz.func206, Tryz.ntmps206
  go_wp2
  rw [run_callFunc_extern Tryz.func226 (by kernel_rfl) (by kernel_rfl) (by kernel_rfl) (e := Extern.BytealgIndexByte.indexByte) (by kernel_rfl), HR.out]
  simp only [Result.andThen]
  rw [Oper.upon_value]
  go_wp2
  go_ret
  exact ⟨rfl, rfl⟩
theorem index_any (g s n c : Nat) (l : List Nat) (z : Int) (w : World) (hr : Row w (some ⟨g, 0, none⟩) n (bys l)) (hs : w.cell? ⟨s, 0, none⟩ = some (.int .u8 0)) (hl : Kept (∀ b ∈ l, b < 256)) (hz : Kept (ix l = z)) :
    Calls Tryz.prog 189 #[.slice (some ⟨g, 0, none⟩) n c, .slice (some ⟨s, 0, none⟩) 1 1] w fun e w' => e = .returned (.int .i64 z) ∧ w = w' := by
  have H := Lib.hid (index_byte g n c l z w hr hl hz)
  clear hr hl hz
  set_option maxRecDepth 100000 in
  go_enter Tryz.func189, Tryz.ntmps189
  go_wp2_with (go_at_call 206; (with_reducible refine H.out.mono ?_); rintro e w1 ⟨rfl, rfl⟩)
  go_ret
  exact ⟨rfl, rfl⟩

theorem str_run (W : World) (A : Option Addr) (n c : Nat) (l : List Nat) (h : Row W A n (bys l)) (hl : ∀ b ∈ l, b < 256) :
    (convert 71 9 (.slice A n c)).run Tryz.prog W = .ok (.string (D.sb l)) W := by
  have hlen := h.len
  rw [bys_len] at hlen
  rcases A with _ | ad
  · have : l = [] := by
      rcases Nat.eq_zero_or_pos n with h0 | h0
      · exact List.eq_nil_of_length_eq_zero (by omega)
      · obtain ⟨ad, e, _⟩ := h.tow h0
        cases e
    subst this
    have : n = 0 := by simpa using hlen.symm
    subst this
    exact Lib.run_convert_nil_bytes W _ _ 5 c Tryz.underlying71 Tryz.underlying5 Tryz.underlying9
  · have hr := run_convert_bytes_back (P := Tryz.prog) W 71 9 5 ad c (l.map UInt8.ofNat) Tryz.underlying71 Tryz.underlying5 Tryz.underlying9 (fun j hj => by
      have hj' : j < l.length := by simpa using hj
      have hq : l[j]? = some l[j] := List.getElem?_eq_getElem hj'
      obtain ⟨ad', e, hc⟩ := h.cell (bys_at hq)
      injection e with e
      subst e
      rw [hc]
      have := hl _ (List.getElem_mem hj')
      simp
      omega)
    rw [List.length_map, hlen] at hr
    exact hr
theorem upto_same (A : Option Addr) (n c k : Nat) (hk : k ≤ c) : ∀ W, (Instr.slice 71 (.slice A n c) none (some (.int .i64 (k : Int))) none).run Tryz.prog W = .ok (.slice A k c) W := by
  intro W
  rw [run_slice_h W 71 A n c (by kernel_rfl) .i64 k (by omega) (by omega)]
  have : ∀ a : Addr, a.add 0 = a := add_zero_
  simp [Result.andThen, sliced, go_sem]
/-- What Cut answers. -/
def Cutted (g m : Nat) (w : World) (e : Ending) (w' : World) : Prop := ∃ v b, e = .returned (.tuple #[.slice (some ⟨g, 0, none⟩) m 12, v, .bool b]) ∧ ∃ q, w' = w.drewN q
set_option maxHeartbeats 1000000 in
theorem cut_any (g s m : Nat) (l : List Nat) (w : World) (hr : Row w (some ⟨g, 0, none⟩) 12 (bys l)) (hs : w.cell? ⟨s, 0, none⟩ = some (.int .u8 0)) (hl : Kept (∀ b ∈ l, b < 256)) (hm : Kept ((D.hd l).length = m)) :
    Calls Tryz.prog 161 #[.slice (some ⟨g, 0, none⟩) 12 12, .slice (some ⟨s, 0, none⟩) 1 1] w (Cutted g m w) := by
  have hlen := hr.len
  rw [bys_len] at hlen
  have hle := D.hd_le l
  rw [hm.out, hlen] at hle
  have H := fun z hz => index_any g s 12 12 l z w hr hs hl ⟨hz⟩
  by_cases h12 : m = 12
  · have H1 := Lib.hid (H (-1) (by rw [ix, if_pos (by rw [hm.out, hlen, h12])]))
    subst h12
    clear H hlen hle hm hr hs
    go_enter Tryz.func161, Tryz.ntmps161
    go_wp2_with (go_at_call 189; (with_reducible refine H1.out.mono ?_); rintro e w1 ⟨rfl, rfl⟩)
    go_ret3
    exact ⟨_, _, rfl, 0, rfl⟩
  · have H1 := Lib.hid (H (m : Int) (by rw [ix, if_neg (by rw [hm.out, hlen]; exact h12), hm.out]))
    have i1 : (0 : Int) ≤ (m : Int) := by omega
    have i2 : (m : Int) < 12 := by omega
    have hx : IntKind.i64.wrap ((m : Int) + 1) = ((m + 1 : Nat) : Int) := by rw [IntKind.wrap_i64]; omega
    have hup := upto_same (some ⟨g, 0, none⟩) 12 12 m (by omega)
    obtain ⟨A2, hfr, _⟩ := from_run_b (some ⟨g, 0, none⟩) 12 12 (m + 1) ((m : Int) + 1) (by omega) (by omega)
    clear H hlen hle hm hr hs hx
    go_enter Tryz.func161, Tryz.ntmps161
    go_wp2_with (go_at_call 189; (with_reducible refine H1.out.mono ?_); rintro e w1 ⟨rfl, rfl⟩)
    go_quiet (fail)
    go_wp2
    go_ret3
    exact ⟨_, _, rfl, _, rfl⟩
theorem row_head {w : World} {g m : Nat} {l : List Nat} (h : Row w (some ⟨g, 0, none⟩) 12 (bys l)) (hm : (D.hd l).length = m) (hl : l.length = 12) : Row w (some ⟨g, 0, none⟩) m (bys (D.hd l)) := by
  have hle := D.hd_le l
  have e : D.hd l = l.take m := by
    subst hm
    have h1 := List.takeWhile_append_dropWhile (p := fun b => decide (b ≠ 0)) (l := l)
    have h2 : (D.hd l ++ l.dropWhile fun b => decide (b ≠ 0)).take (D.hd l).length = D.hd l := List.take_left
    rw [show D.hd l ++ l.dropWhile (fun b => decide (b ≠ 0)) = l from h1] at h2
    exact h2.symm
  have := h.take (k := m) (by omega)
  rw [e, ← bys_take]
  exact this
theorem row_name {w : World} {g : Nat} {t : TypeId} {x : D.Nm} (h : Blk w g t (nc x)) : Row w (some ⟨g, 0, none⟩) 12 (bys x.l) := ⟨by rw [bys_len, x.len], fun _ => ⟨_, rfl, h.lt, at_of (rd_blk h)⟩⟩
set_option maxHeartbeats 1000000 in
theorem begin_any (x : D.Nm) (w : World) :
    Calls Tryz.prog 114 #[.agg (nc x)] w fun e w' => e = .returned (.string (D.sb (D.hd x.l))) ∧ Below w.heap.size w w' := by
  obtain ⟨m, hm⟩ : ∃ m, (D.hd x.l).length = m := ⟨_, rfl⟩
  have B0 : Blk ((w.alloc (.cells (nc x) 33)).alloc (.cells #[.int .u8 0] 5)) w.heap.size 33 (nc x) := (Blk.new w _ (nc x)).alloc _
  have B1 := Blk.new (w.alloc (.cells (nc x) 33)) 5 #[.int .u8 0]
  simp only [World.size_alloc] at B1
  have hc := Lib.hid (cut_any w.heap.size (w.heap.size + 1) m x.l _ (row_name B0) B1.cell ⟨x.lt⟩ ⟨hm⟩)
  have hs := Lib.hid (fun q => str_run (((w.alloc (.cells (nc x) 33)).alloc (.cells #[.int .u8 0] 5)).drewN q) (some ⟨w.heap.size, 0, none⟩) m 12 (D.hd x.l) ((row_head (row_name B0) hm x.len).drewN q) (fun b hb => x.lt b (D.hd_mem hb)))
  clear B0 B1 hm
  go_enter Tryz.func114, Tryz.ntmps114
  go_wp2_with (go_at_call 161; (with_reducible refine hc.out.mono ?_); rintro e w1 ⟨v, b, rfl, q, rfl⟩; have hs1 := hs.out q)
  go_ret
  exact ⟨rfl, below_drewN (((Below.refl _ _).alloc (Nat.le_refl _) _).alloc (by simp) _) q⟩

theorem hdp_pad (x : D.Nm) : D.pad (D.sb (D.hd x.l)) = D.hdp x := by
  have := D.ns_sb (l := D.hd x.l) fun b hb => x.lt b (D.hd_mem hb)
  refine D.Nm.eq ?_
  show D.padl (D.ns (D.sb (D.hd x.l))) 12 = D.padl (D.hd x.l) 12
  rw [this]
theorem ns_hd (x : D.Nm) : D.ns (D.sb (D.hd x.l)) = D.hd x.l := D.ns_sb fun b hb => x.lt b (D.hd_mem hb)
set_option maxHeartbeats 1000000 in
theorem right_any (x : D.Nm) (w : World) :
    Calls Tryz.prog 111 #[.agg (nc x)] w fun e w' => e = .returned (.bool (D.right x)) ∧ Below w.heap.size w w' := by
  have hb := begin_any x
  obtain ⟨s, hs⟩ : ∃ s, D.sb (D.hd x.l) = s := ⟨_, rfl⟩
  have hn := ns_hd x
  have hp := hdp_pad x
  rw [hs] at hb hn hp
  have HB := Lib.hid hb
  clear hb
  cases h : D.isB (D.hd x.l)
  · have HP := Lib.hid (fun w => parse_no s w (by rw [hn, h]))
    have HR := Lib.hid (show false = D.right x by simp [D.right, h])
    clear hs hn hp h
    go_enter Tryz.func111, Tryz.ntmps111
    go_wp2_with (first
      | (go_at_call 114; (with_reducible refine (HB.out _).mono ?_); rintro e w1 ⟨rfl, b1⟩)
      | (go_at_call 70; (with_reducible refine (HP.out _).mono ?_); rintro e w2 ⟨rfl, b2⟩))
    go_ret
    have z1 := b1.size
    have z2 := b2.size
    simp only [World.size_alloc] at z1
    exact ⟨bool_of HR.out, (((below_alloc_ _ _).trans (b1.mono (by simp))).trans (b2.mono (by omega))).alloc (by omega) _⟩
  · have HP := Lib.hid (fun w => parse_yes s w (by rw [hn, h]))
    have HR := Lib.hid (show sm (D.hdp x) x = D.right x by simp [D.right, h, sm])
    rw [hp] at HP
    clear hs hn hp h
    go_enter Tryz.func111, Tryz.ntmps111
    go_wp2_with (first
      | (go_at_call 114; (with_reducible refine (HB.out _).mono ?_); rintro e w1 ⟨rfl, b1⟩)
      | (go_at_call 70; (with_reducible refine (HP.out _).mono ?_); rintro e w2 ⟨rfl, b2⟩; have f2 := rd_on (rd_on (rd_new w _ 33 x rfl) b1) b2; have z2 : w.heap.size < w2.heap.size := (by have := b1.size; have := b2.size; simp at *; omega)))
    go_ret
    have z1 := b1.size
    simp only [World.size_alloc] at z1
    exact ⟨bool_of HR.out, (((below_alloc_ _ _).trans (b1.mono (by simp))).trans (b2.mono (by omega))).alloc (by omega) _⟩
/-- A name's text. -/
def ts (x : D.Nm) : ByteArray := D.sb (D.txt x)
set_option maxHeartbeats 1000000 in
theorem text_any (x : D.Nm) (w : World) :
    Calls Tryz.prog 74 #[.agg (nc x)] w fun e w' => e = .returned (.string (ts x)) ∧ Below w.heap.size w w' := by
  have HR := Lib.hid (right_any x)
  have HB := Lib.hid (begin_any x)
  cases h : D.right x
  · rw [h] at HR
    have HT := Lib.hid (show ByteArray.empty = ts x by rw [ts, D.txt_no h]; rfl)
    clear h
    go_enter Tryz.func74, Tryz.ntmps74
    go_wp2_with (go_at_call 111; (with_reducible refine (HR.out _).mono ?_); rintro e w1 ⟨rfl, b1⟩)
    go_ret
    exact ⟨by rw [← HT.out]; rfl, (below_alloc_ _ _).trans (b1.mono (by simp))⟩
  · rw [h] at HR
    have HT := Lib.hid (show D.sb (D.hd x.l) = ts x by rw [ts, D.txt_yes h])
    rw [HT.out] at HB
    clear h
    go_enter Tryz.func74, Tryz.ntmps74
    go_wp2_with (first
      | (go_at_call 111; (with_reducible refine (HR.out _).mono ?_); rintro e w1 ⟨rfl, b1⟩; have f1 := rd_on (rd_new w _ 33 x rfl) b1)
      | (go_at_call 114; (with_reducible refine (HB.out _).mono ?_); rintro e w2 ⟨rfl, b2⟩))
    go_ret
    have z1 := b1.size
    simp only [World.size_alloc] at z1
    exact ⟨rfl, ((below_alloc_ _ _).trans (b1.mono (by simp))).trans (b2.mono (by omega))⟩
end Go.Proofs.YteiikacgcfidmaaGreatDoor.Nm
set_option linter.unusedVariables false
set_option linter.unusedSimpArgs false
set_option maxRecDepth 100000
namespace Go.Proofs.YteiikacgcfidmaaGreatDoor
open Go.RowKit
attribute [local go_sem ↓] Go.wp_at_zero Go.wp_at_succ ld_k lv_k st_k eq_k ne_k bd_k Nm.ld_a Nm.ld_n Nm.st_a Nm.st_n ld_a ld_n st_a st_n eq_a eq_n ne_a ne_n lv_a lv_n
attribute [local go_sem] run_ldk run_lvk run_stk run_eqk run_nek run_bdk_z Nm.run_ld_a Nm.run_ld_n Nm.run_st_n Nm.rd_new Nm.rd_old Nm.rd_drew Nm.rd_drewN run_ld_a run_ld_n run_sw_a run_sw_n run_eq_a run_eq_n run_ne_a run_ne_n run_lv_a run_lv_n st_z ne_z eq_z rd_new rd_old rd_drew rd_drewN Shp.rd_new Shp.rd_old Shp.rd_drew Shp.rd_drewN Shp.tn_new Shp.tn_old Shp.tn_drew Shp.tn_drewN setRow_alloc run_stn3 run_stt15

theorem lvk_of {w : World} {g : Nat} {x : D.Ky} (h : kS.rd w ⟨g, 0, none⟩ = some x) : (loadVar 39 ⟨g, 0, none⟩).run Tryz.prog w = .ok (.agg (kS.v x)) w := (run_lvk w ⟨g, 0, none⟩).trans (by rw [h]; rfl)

set_option maxHeartbeats 4000000 in
theorem kof_none (cT : ∀ (x : D.Tg) (w : World), Calls Tryz.prog 112 #[.agg (nc x)] w fun e w' => e = .returned (.bool (D.right x)) ∧ Below w.heap.size w w') (k : Int) (hk : ¬ (1 ≤ k ∧ k ≤ 6)) (p : Int) (a : Int) (n : Nm.D.Nm) (t : D.Tg) (w : World) :
    Calls Tryz.prog 72 #[.int .i64 k, .int .i64 p, .int .i64 a, .agg (Nm.nc n), .agg (nc t)] w fun e w' => e = .returned (.tuple #[.agg (kS.v D.zK), .int .i64 16]) ∧ Below w.heap.size w w' := by
  obtain ⟨W0, hW0⟩ : ∃ W, ((w.alloc (.cells (Nm.nc n) 33)).alloc (.cells (nc t) 37)).alloc (.cells z25 39) = W := ⟨_, rfl⟩
  have f0 : Nm.rd W0 ⟨w.heap.size, 0, none⟩ = some n := by rw [← hW0]; exact Nm.rd_on (Nm.rd_on (Nm.rd_new w _ _ n rfl) (below_alloc_ _ _)) (below_alloc_ _ _)
  have g0 : rd W0 ⟨w.heap.size + 1, 0, none⟩ = some t := by rw [← hW0]; exact rd_on (rd_new _ _ _ t (by simp)) (below_alloc_ _ _)
  have k0 : Shp.tn 25 W0 (w.heap.size + 2) = true := by rw [← hW0]; exact Shp.tn_new _ _ _ _ _ (by simp) rfl
  have s0 : w.heap.size + 2 < W0.heap.size := by rw [← hW0]; simp
  have z0 : Below w.heap.size w W0 := by rw [← hW0]; exact (((Below.refl _ _).alloc (Nat.le_refl _) _).alloc (by simp) _).alloc (by simp; omega) _
  have CU := Lib.hid (fun w => (show Calls Tryz.prog 67 #[.int .i64 k] w fun e w' => e = .returned (.tuple #[.agg #[.int .i64 0, .bool false, .bool false], .bool false]) ∧ Below w.heap.size w w' from by have := useOf_any k w; rwa [decide_eq_false hk, usev_none hk] at this))
  clear cT hk
  go_enter Tryz.func72, Tryz.ntmps72
  unfold z25 at hW0
  go_wp2_with fail
  try rw [hW0]
  clear hW0
  go_wp2_with (go_at_call 67; (with_reducible refine (CU.out _).mono ?_); rintro e w1 ⟨rfl, b1⟩; have k0 := Shp.tn_on k0 b1; have s1 := Nat.lt_of_lt_of_le s0 b1.size; have z1 := below_up z0 z0.size b1; have f0 := Nm.rd_on f0 b1; have g0 := rd_on g0 b1)
  have hset := Shp.rd_set (S := kS) (w1.alloc (.cells #[.int .i64 0, .bool false, .bool false] 140)) (w.heap.size + 2) D.zK (Shp.tn_on k0 (below_alloc_ _ _))
  have z9 := below_setRow (z1.alloc z1.size (.cells #[.int .i64 0, .bool false, .bool false] 140)) (g := w.heap.size + 2) (by omega) (kS.v D.zK)
  exact bodyPost_ret (v := .tuple #[.agg (kS.v D.zK), .int .i64 16]) (by rw [results_cell_tmp rfl]; simp [asAddr, Result.andThen, lvk_of hset]) rfl ⟨rfl, z9⟩

set_option maxHeartbeats 4000000 in
theorem kof_p1 (cT : ∀ (x : D.Tg) (w : World), Calls Tryz.prog 112 #[.agg (nc x)] w fun e w' => e = .returned (.bool (D.right x)) ∧ Below w.heap.size w w') (p : Int) (hp : ¬ (0 ≤ p ∧ p < 4)) (a : Int) (n : Nm.D.Nm) (t : D.Tg) (w : World) :
    Calls Tryz.prog 72 #[.int .i64 1, .int .i64 p, .int .i64 a, .agg (Nm.nc n), .agg (nc t)] w fun e w' => e = .returned (.tuple #[.agg (kS.v D.zK), .int .i64 5]) ∧ Below w.heap.size w w' := by
  obtain ⟨W0, hW0⟩ : ∃ W, ((w.alloc (.cells (Nm.nc n) 33)).alloc (.cells (nc t) 37)).alloc (.cells z25 39) = W := ⟨_, rfl⟩
  have f0 : Nm.rd W0 ⟨w.heap.size, 0, none⟩ = some n := by rw [← hW0]; exact Nm.rd_on (Nm.rd_on (Nm.rd_new w _ _ n rfl) (below_alloc_ _ _)) (below_alloc_ _ _)
  have g0 : rd W0 ⟨w.heap.size + 1, 0, none⟩ = some t := by rw [← hW0]; exact rd_on (rd_new _ _ _ t (by simp)) (below_alloc_ _ _)
  have k0 : Shp.tn 25 W0 (w.heap.size + 2) = true := by rw [← hW0]; exact Shp.tn_new _ _ _ _ _ (by simp) rfl
  have s0 : w.heap.size + 2 < W0.heap.size := by rw [← hW0]; simp
  have z0 : Below w.heap.size w W0 := by rw [← hW0]; exact (((Below.refl _ _).alloc (Nat.le_refl _) _).alloc (by simp) _).alloc (by simp; omega) _
  have CU := Lib.hid (fun w => (show Calls Tryz.prog 67 #[.int .i64 1] w fun e w' => e = .returned (.tuple #[.agg #[.int .i64 0, .bool false, .bool false], .bool true]) ∧ Below w.heap.size w w' from useOf_any 1 w))
  have CP := Lib.hid (fun w => (show Calls Tryz.prog 110 #[.int .i64 p, .int .i64 4] w fun e w' => e = .returned (.bool false) ∧ w = w' from by have := below_num p 4 w; rwa [decide_eq_false (by omega)] at this))
  clear cT hp
  go_enter Tryz.func72, Tryz.ntmps72
  unfold z25 at hW0
  go_wp2_with fail
  try rw [hW0]
  clear hW0
  go_wp2_with (go_at_call 67; (with_reducible refine (CU.out _).mono ?_); rintro e w1 ⟨rfl, b1⟩; have k0 := Shp.tn_on k0 b1; have s1 := Nat.lt_of_lt_of_le s0 b1.size; have z1 := below_up z0 z0.size b1; have f0 := Nm.rd_on f0 b1; have g0 := rd_on g0 b1)
  obtain ⟨W1, hW1⟩ : ∃ W, w1.alloc (.cells #[.int .i64 0, .bool false, .bool false] 140) = W := ⟨_, rfl⟩
  have B1 := Blk.new w1 140 #[.int .i64 0, .bool false, .bool false]
  have k1 := Shp.tn_on k0 (below_alloc_ w1 (.cells #[.int .i64 0, .bool false, .bool false] 140))
  have f1 := Nm.rd_on f0 (below_alloc_ w1 (.cells #[.int .i64 0, .bool false, .bool false] 140))
  have g1 := rd_on g0 (below_alloc_ w1 (.cells #[.int .i64 0, .bool false, .bool false] 140))
  have z1' := z1.alloc z1.size (.cells #[.int .i64 0, .bool false, .bool false] 140)
  have s1' : w1.heap.size < (w1.alloc (.cells #[.int .i64 0, .bool false, .bool false] 140)).heap.size := by simp
  rw [hW1] at B1 k1 f1 g1 z1' s1'
  rw [hW1]
  clear hW1 k0 f0 g0 z1 s0 z0
  obtain ⟨m, hm⟩ : ∃ m, w1.heap.size = m := ⟨_, rfl⟩
  rw [hm] at B1 s1 s1'
  rw [hm]
  clear hm b1
  have q1 : w.heap.size + 2 < W1.heap.size := by omega
  have r1 : w.heap.size + 1 < W1.heap.size := by omega
  have t1 : w.heap.size < W1.heap.size := by omega
  have u0 := B1.c 0
  have u1 := B1.c 1
  have u2 := B1.c 2
  simp at u0 u1 u2
  go_wp2_with (first
    | (go_at_call 110; (with_reducible refine (CP.out _).mono ?_); rintro e w2 ⟨rfl, rfl⟩))
  have hset := Shp.rd_set (S := kS) W1 (w.heap.size + 2) D.zK k1
  have z9 := below_setRow z1' (g := w.heap.size + 2) (by omega) (kS.v D.zK)
  exact bodyPost_ret (v := .tuple #[.agg (kS.v D.zK), .int .i64 5]) (by rw [results_cell_tmp rfl]; simp [asAddr, Result.andThen, lvk_of hset]) rfl ⟨rfl, z9⟩

set_option maxHeartbeats 4000000 in
theorem kof_ok1 (cT : ∀ (x : D.Tg) (w : World), Calls Tryz.prog 112 #[.agg (nc x)] w fun e w' => e = .returned (.bool (D.right x)) ∧ Below w.heap.size w w') (q : Nat) (hp : q < 4) (a : Int) (n : Nm.D.Nm) (t : D.Tg) (w : World) :
    Calls Tryz.prog 72 #[.int .i64 1, .int .i64 (q : Int), .int .i64 a, .agg (Nm.nc n), .agg (nc t)] w fun e w' => e = .returned (.tuple #[.agg (kS.v (D.mkK 1 q 0 Nm.D.zero D.zero)), .int .i64 0]) ∧ Below w.heap.size w w' := by
  obtain ⟨W0, hW0⟩ : ∃ W, ((w.alloc (.cells (Nm.nc n) 33)).alloc (.cells (nc t) 37)).alloc (.cells z25 39) = W := ⟨_, rfl⟩
  have f0 : Nm.rd W0 ⟨w.heap.size, 0, none⟩ = some n := by rw [← hW0]; exact Nm.rd_on (Nm.rd_on (Nm.rd_new w _ _ n rfl) (below_alloc_ _ _)) (below_alloc_ _ _)
  have g0 : rd W0 ⟨w.heap.size + 1, 0, none⟩ = some t := by rw [← hW0]; exact rd_on (rd_new _ _ _ t (by simp)) (below_alloc_ _ _)
  have k0 : Shp.tn 25 W0 (w.heap.size + 2) = true := by rw [← hW0]; exact Shp.tn_new _ _ _ _ _ (by simp) rfl
  have s0 : w.heap.size + 2 < W0.heap.size := by rw [← hW0]; simp
  have z0 : Below w.heap.size w W0 := by rw [← hW0]; exact (((Below.refl _ _).alloc (Nat.le_refl _) _).alloc (by simp) _).alloc (by simp; omega) _
  have CU := Lib.hid (fun w => (show Calls Tryz.prog 67 #[.int .i64 1] w fun e w' => e = .returned (.tuple #[.agg #[.int .i64 0, .bool false, .bool false], .bool true]) ∧ Below w.heap.size w w' from useOf_any 1 w))
  have CP := Lib.hid (fun w => (show Calls Tryz.prog 110 #[.int .i64 (q : Int), .int .i64 4] w fun e w' => e = .returned (.bool true) ∧ w = w' from by have := below_num (q : Int) 4 w; rwa [decide_eq_true (by omega)] at this))
  have hb : ∀ W, (bdk #[(0, .int .u8 1), (1, .int .u8 (q : Int))]).run Tryz.prog W = .ok (.agg (kS.v (D.mkK 1 q 0 Nm.D.zero D.zero))) W := fun W => run_bdk_2 W 1 q (by omega) (by omega)
  have hq : q % 256 = q := Nat.mod_eq_of_lt (by omega)
  have hqi : (q : Int) % 256 = q := by omega
  clear cT hp
  go_enter Tryz.func72, Tryz.ntmps72
  unfold z25 at hW0
  go_wp2_with fail
  try rw [hW0]
  clear hW0
  go_wp2_with (go_at_call 67; (with_reducible refine (CU.out _).mono ?_); rintro e w1 ⟨rfl, b1⟩; have k0 := Shp.tn_on k0 b1; have s1 := Nat.lt_of_lt_of_le s0 b1.size; have z1 := below_up z0 z0.size b1; have f0 := Nm.rd_on f0 b1; have g0 := rd_on g0 b1)
  obtain ⟨W1, hW1⟩ : ∃ W, w1.alloc (.cells #[.int .i64 0, .bool false, .bool false] 140) = W := ⟨_, rfl⟩
  have B1 := Blk.new w1 140 #[.int .i64 0, .bool false, .bool false]
  have k1 := Shp.tn_on k0 (below_alloc_ w1 (.cells #[.int .i64 0, .bool false, .bool false] 140))
  have f1 := Nm.rd_on f0 (below_alloc_ w1 (.cells #[.int .i64 0, .bool false, .bool false] 140))
  have g1 := rd_on g0 (below_alloc_ w1 (.cells #[.int .i64 0, .bool false, .bool false] 140))
  have z1' := z1.alloc z1.size (.cells #[.int .i64 0, .bool false, .bool false] 140)
  have s1' : w1.heap.size < (w1.alloc (.cells #[.int .i64 0, .bool false, .bool false] 140)).heap.size := by simp
  rw [hW1] at B1 k1 f1 g1 z1' s1'
  rw [hW1]
  clear hW1 k0 f0 g0 z1 s0 z0
  obtain ⟨m, hm⟩ : ∃ m, w1.heap.size = m := ⟨_, rfl⟩
  rw [hm] at B1 s1 s1'
  rw [hm]
  clear hm b1
  have q1 : w.heap.size + 2 < W1.heap.size := by omega
  have r1 : w.heap.size + 1 < W1.heap.size := by omega
  have t1 : w.heap.size < W1.heap.size := by omega
  have u0 := B1.c 0
  have u1 := B1.c 1
  have u2 := B1.c 2
  simp at u0 u1 u2
  go_wp2_with (first
    | (go_at_call 110; (with_reducible refine (CP.out _).mono ?_); rintro e w2 ⟨rfl, rfl⟩))
  have hset := Shp.rd_set (S := kS) (W1.alloc (.cells (kS.v (D.mkK 1 q 0 Nm.D.zero D.zero)) 39)) (w.heap.size + 2) (D.mkK 1 q 0 Nm.D.zero D.zero) (Shp.tn_on k1 (below_alloc_ _ _))
  have z9 := below_setRow (z1'.alloc z1'.size (.cells (kS.v (D.mkK 1 q 0 Nm.D.zero D.zero)) 39)) (g := w.heap.size + 2) (by omega) (kS.v (D.mkK 1 q 0 Nm.D.zero D.zero))
  exact bodyPost_ret (v := .tuple #[.agg (kS.v (D.mkK 1 q 0 Nm.D.zero D.zero)), .int .i64 0]) (by rw [results_cell_tmp rfl]; simp [asAddr, Result.andThen, lvk_of hset]) rfl ⟨rfl, z9⟩

set_option maxHeartbeats 4000000 in
theorem kof_p2 (cT : ∀ (x : D.Tg) (w : World), Calls Tryz.prog 112 #[.agg (nc x)] w fun e w' => e = .returned (.bool (D.right x)) ∧ Below w.heap.size w w') (p : Int) (hp : ¬ (0 ≤ p ∧ p < 4)) (a : Int) (n : Nm.D.Nm) (t : D.Tg) (w : World) :
    Calls Tryz.prog 72 #[.int .i64 2, .int .i64 p, .int .i64 a, .agg (Nm.nc n), .agg (nc t)] w fun e w' => e = .returned (.tuple #[.agg (kS.v D.zK), .int .i64 5]) ∧ Below w.heap.size w w' := by
  obtain ⟨W0, hW0⟩ : ∃ W, ((w.alloc (.cells (Nm.nc n) 33)).alloc (.cells (nc t) 37)).alloc (.cells z25 39) = W := ⟨_, rfl⟩
  have f0 : Nm.rd W0 ⟨w.heap.size, 0, none⟩ = some n := by rw [← hW0]; exact Nm.rd_on (Nm.rd_on (Nm.rd_new w _ _ n rfl) (below_alloc_ _ _)) (below_alloc_ _ _)
  have g0 : rd W0 ⟨w.heap.size + 1, 0, none⟩ = some t := by rw [← hW0]; exact rd_on (rd_new _ _ _ t (by simp)) (below_alloc_ _ _)
  have k0 : Shp.tn 25 W0 (w.heap.size + 2) = true := by rw [← hW0]; exact Shp.tn_new _ _ _ _ _ (by simp) rfl
  have s0 : w.heap.size + 2 < W0.heap.size := by rw [← hW0]; simp
  have z0 : Below w.heap.size w W0 := by rw [← hW0]; exact (((Below.refl _ _).alloc (Nat.le_refl _) _).alloc (by simp) _).alloc (by simp; omega) _
  have CU := Lib.hid (fun w => (show Calls Tryz.prog 67 #[.int .i64 2] w fun e w' => e = .returned (.tuple #[.agg #[.int .i64 16, .bool false, .bool false], .bool true]) ∧ Below w.heap.size w w' from useOf_any 2 w))
  have CP := Lib.hid (fun w => (show Calls Tryz.prog 110 #[.int .i64 p, .int .i64 4] w fun e w' => e = .returned (.bool false) ∧ w = w' from by have := below_num p 4 w; rwa [decide_eq_false (by omega)] at this))
  clear cT hp
  go_enter Tryz.func72, Tryz.ntmps72
  unfold z25 at hW0
  go_wp2_with fail
  try rw [hW0]
  clear hW0
  go_wp2_with (go_at_call 67; (with_reducible refine (CU.out _).mono ?_); rintro e w1 ⟨rfl, b1⟩; have k0 := Shp.tn_on k0 b1; have s1 := Nat.lt_of_lt_of_le s0 b1.size; have z1 := below_up z0 z0.size b1; have f0 := Nm.rd_on f0 b1; have g0 := rd_on g0 b1)
  obtain ⟨W1, hW1⟩ : ∃ W, w1.alloc (.cells #[.int .i64 16, .bool false, .bool false] 140) = W := ⟨_, rfl⟩
  have B1 := Blk.new w1 140 #[.int .i64 16, .bool false, .bool false]
  have k1 := Shp.tn_on k0 (below_alloc_ w1 (.cells #[.int .i64 16, .bool false, .bool false] 140))
  have f1 := Nm.rd_on f0 (below_alloc_ w1 (.cells #[.int .i64 16, .bool false, .bool false] 140))
  have g1 := rd_on g0 (below_alloc_ w1 (.cells #[.int .i64 16, .bool false, .bool false] 140))
  have z1' := z1.alloc z1.size (.cells #[.int .i64 16, .bool false, .bool false] 140)
  have s1' : w1.heap.size < (w1.alloc (.cells #[.int .i64 16, .bool false, .bool false] 140)).heap.size := by simp
  rw [hW1] at B1 k1 f1 g1 z1' s1'
  rw [hW1]
  clear hW1 k0 f0 g0 z1 s0 z0
  obtain ⟨m, hm⟩ : ∃ m, w1.heap.size = m := ⟨_, rfl⟩
  rw [hm] at B1 s1 s1'
  rw [hm]
  clear hm b1
  have q1 : w.heap.size + 2 < W1.heap.size := by omega
  have r1 : w.heap.size + 1 < W1.heap.size := by omega
  have t1 : w.heap.size < W1.heap.size := by omega
  have u0 := B1.c 0
  have u1 := B1.c 1
  have u2 := B1.c 2
  simp at u0 u1 u2
  go_wp2_with (first
    | (go_at_call 110; (with_reducible refine (CP.out _).mono ?_); rintro e w2 ⟨rfl, rfl⟩))
  have hset := Shp.rd_set (S := kS) W1 (w.heap.size + 2) D.zK k1
  have z9 := below_setRow z1' (g := w.heap.size + 2) (by omega) (kS.v D.zK)
  exact bodyPost_ret (v := .tuple #[.agg (kS.v D.zK), .int .i64 5]) (by rw [results_cell_tmp rfl]; simp [asAddr, Result.andThen, lvk_of hset]) rfl ⟨rfl, z9⟩

set_option maxHeartbeats 4000000 in
theorem kof_a2 (cT : ∀ (x : D.Tg) (w : World), Calls Tryz.prog 112 #[.agg (nc x)] w fun e w' => e = .returned (.bool (D.right x)) ∧ Below w.heap.size w w') (q : Nat) (hp : q < 4) (a : Int) (ha : ¬ (0 ≤ a ∧ a < 16)) (n : Nm.D.Nm) (t : D.Tg) (w : World) :
    Calls Tryz.prog 72 #[.int .i64 2, .int .i64 (q : Int), .int .i64 a, .agg (Nm.nc n), .agg (nc t)] w fun e w' => e = .returned (.tuple #[.agg (kS.v D.zK), .int .i64 5]) ∧ Below w.heap.size w w' := by
  obtain ⟨W0, hW0⟩ : ∃ W, ((w.alloc (.cells (Nm.nc n) 33)).alloc (.cells (nc t) 37)).alloc (.cells z25 39) = W := ⟨_, rfl⟩
  have f0 : Nm.rd W0 ⟨w.heap.size, 0, none⟩ = some n := by rw [← hW0]; exact Nm.rd_on (Nm.rd_on (Nm.rd_new w _ _ n rfl) (below_alloc_ _ _)) (below_alloc_ _ _)
  have g0 : rd W0 ⟨w.heap.size + 1, 0, none⟩ = some t := by rw [← hW0]; exact rd_on (rd_new _ _ _ t (by simp)) (below_alloc_ _ _)
  have k0 : Shp.tn 25 W0 (w.heap.size + 2) = true := by rw [← hW0]; exact Shp.tn_new _ _ _ _ _ (by simp) rfl
  have s0 : w.heap.size + 2 < W0.heap.size := by rw [← hW0]; simp
  have z0 : Below w.heap.size w W0 := by rw [← hW0]; exact (((Below.refl _ _).alloc (Nat.le_refl _) _).alloc (by simp) _).alloc (by simp; omega) _
  have CU := Lib.hid (fun w => (show Calls Tryz.prog 67 #[.int .i64 2] w fun e w' => e = .returned (.tuple #[.agg #[.int .i64 16, .bool false, .bool false], .bool true]) ∧ Below w.heap.size w w' from useOf_any 2 w))
  have CP := Lib.hid (fun w => (show Calls Tryz.prog 110 #[.int .i64 (q : Int), .int .i64 4] w fun e w' => e = .returned (.bool true) ∧ w = w' from by have := below_num (q : Int) 4 w; rwa [decide_eq_true (by omega)] at this))
  have CA := Lib.hid (fun w => (show Calls Tryz.prog 110 #[.int .i64 a, .int .i64 16] w fun e w' => e = .returned (.bool false) ∧ w = w' from by have := below_num a 16 w; rwa [decide_eq_false (by omega)] at this))
  have hb : ∀ W, (bdk #[(0, .int .u8 2), (1, .int .u8 (q : Int))]).run Tryz.prog W = .ok (.agg (kS.v (D.mkK 2 q 0 Nm.D.zero D.zero))) W := fun W => run_bdk_2 W 2 q (by omega) (by omega)
  have hq : q % 256 = q := Nat.mod_eq_of_lt (by omega)
  have hqi : (q : Int) % 256 = q := by omega
  clear cT hp ha
  go_enter Tryz.func72, Tryz.ntmps72
  unfold z25 at hW0
  go_wp2_with fail
  try rw [hW0]
  clear hW0
  go_wp2_with (go_at_call 67; (with_reducible refine (CU.out _).mono ?_); rintro e w1 ⟨rfl, b1⟩; have k0 := Shp.tn_on k0 b1; have s1 := Nat.lt_of_lt_of_le s0 b1.size; have z1 := below_up z0 z0.size b1; have f0 := Nm.rd_on f0 b1; have g0 := rd_on g0 b1)
  obtain ⟨W1, hW1⟩ : ∃ W, w1.alloc (.cells #[.int .i64 16, .bool false, .bool false] 140) = W := ⟨_, rfl⟩
  have B1 := Blk.new w1 140 #[.int .i64 16, .bool false, .bool false]
  have k1 := Shp.tn_on k0 (below_alloc_ w1 (.cells #[.int .i64 16, .bool false, .bool false] 140))
  have f1 := Nm.rd_on f0 (below_alloc_ w1 (.cells #[.int .i64 16, .bool false, .bool false] 140))
  have g1 := rd_on g0 (below_alloc_ w1 (.cells #[.int .i64 16, .bool false, .bool false] 140))
  have z1' := z1.alloc z1.size (.cells #[.int .i64 16, .bool false, .bool false] 140)
  have s1' : w1.heap.size < (w1.alloc (.cells #[.int .i64 16, .bool false, .bool false] 140)).heap.size := by simp
  rw [hW1] at B1 k1 f1 g1 z1' s1'
  rw [hW1]
  clear hW1 k0 f0 g0 z1 s0 z0
  obtain ⟨m, hm⟩ : ∃ m, w1.heap.size = m := ⟨_, rfl⟩
  rw [hm] at B1 s1 s1'
  rw [hm]
  clear hm b1
  have q1 : w.heap.size + 2 < W1.heap.size := by omega
  have r1 : w.heap.size + 1 < W1.heap.size := by omega
  have t1 : w.heap.size < W1.heap.size := by omega
  have u0 := B1.c 0
  have u1 := B1.c 1
  have u2 := B1.c 2
  simp at u0 u1 u2
  go_wp2_with (first
    | (go_at_call 110; (with_reducible refine (CP.out _).mono ?_); rintro e w2 ⟨rfl, rfl⟩)
    | (go_at_call 110; (with_reducible refine (CA.out _).mono ?_); rintro e w3 ⟨rfl, rfl⟩))
  have hset := Shp.rd_set (S := kS) W1 (w.heap.size + 2) D.zK k1
  have z9 := below_setRow z1' (g := w.heap.size + 2) (by omega) (kS.v D.zK)
  exact bodyPost_ret (v := .tuple #[.agg (kS.v D.zK), .int .i64 5]) (by rw [results_cell_tmp rfl]; simp [asAddr, Result.andThen, lvk_of hset]) rfl ⟨rfl, z9⟩

set_option maxHeartbeats 4000000 in
theorem kof_ok2 (cT : ∀ (x : D.Tg) (w : World), Calls Tryz.prog 112 #[.agg (nc x)] w fun e w' => e = .returned (.bool (D.right x)) ∧ Below w.heap.size w w') (q : Nat) (hp : q < 4) (b : Nat) (ha : b < 16) (n : Nm.D.Nm) (t : D.Tg) (w : World) :
    Calls Tryz.prog 72 #[.int .i64 2, .int .i64 (q : Int), .int .i64 (b : Int), .agg (Nm.nc n), .agg (nc t)] w fun e w' => e = .returned (.tuple #[.agg (kS.v (D.mkK 2 q b Nm.D.zero D.zero)), .int .i64 0]) ∧ Below w.heap.size w w' := by
  obtain ⟨W0, hW0⟩ : ∃ W, ((w.alloc (.cells (Nm.nc n) 33)).alloc (.cells (nc t) 37)).alloc (.cells z25 39) = W := ⟨_, rfl⟩
  have f0 : Nm.rd W0 ⟨w.heap.size, 0, none⟩ = some n := by rw [← hW0]; exact Nm.rd_on (Nm.rd_on (Nm.rd_new w _ _ n rfl) (below_alloc_ _ _)) (below_alloc_ _ _)
  have g0 : rd W0 ⟨w.heap.size + 1, 0, none⟩ = some t := by rw [← hW0]; exact rd_on (rd_new _ _ _ t (by simp)) (below_alloc_ _ _)
  have k0 : Shp.tn 25 W0 (w.heap.size + 2) = true := by rw [← hW0]; exact Shp.tn_new _ _ _ _ _ (by simp) rfl
  have s0 : w.heap.size + 2 < W0.heap.size := by rw [← hW0]; simp
  have z0 : Below w.heap.size w W0 := by rw [← hW0]; exact (((Below.refl _ _).alloc (Nat.le_refl _) _).alloc (by simp) _).alloc (by simp; omega) _
  have CU := Lib.hid (fun w => (show Calls Tryz.prog 67 #[.int .i64 2] w fun e w' => e = .returned (.tuple #[.agg #[.int .i64 16, .bool false, .bool false], .bool true]) ∧ Below w.heap.size w w' from useOf_any 2 w))
  have CP := Lib.hid (fun w => (show Calls Tryz.prog 110 #[.int .i64 (q : Int), .int .i64 4] w fun e w' => e = .returned (.bool true) ∧ w = w' from by have := below_num (q : Int) 4 w; rwa [decide_eq_true (by omega)] at this))
  have CA := Lib.hid (fun w => (show Calls Tryz.prog 110 #[.int .i64 (b : Int), .int .i64 16] w fun e w' => e = .returned (.bool true) ∧ w = w' from by have := below_num (b : Int) 16 w; rwa [decide_eq_true (by omega)] at this))
  have hb : ∀ W, (bdk #[(0, .int .u8 2), (1, .int .u8 (q : Int))]).run Tryz.prog W = .ok (.agg (kS.v (D.mkK 2 q 0 Nm.D.zero D.zero))) W := fun W => run_bdk_2 W 2 q (by omega) (by omega)
  have hq : q % 256 = q := Nat.mod_eq_of_lt (by omega)
  have hqi : (q : Int) % 256 = q := by omega
  have hbi : (b : Int) % 256 = b := by omega
  have hs := fun (n : Nm.D.Nm) (t : D.Tg) => kset_a 2 q 0 n t b (by omega)
  clear cT hp ha
  go_enter Tryz.func72, Tryz.ntmps72
  unfold z25 at hW0
  go_wp2_with fail
  try rw [hW0]
  clear hW0
  go_wp2_with (go_at_call 67; (with_reducible refine (CU.out _).mono ?_); rintro e w1 ⟨rfl, b1⟩; have k0 := Shp.tn_on k0 b1; have s1 := Nat.lt_of_lt_of_le s0 b1.size; have z1 := below_up z0 z0.size b1; have f0 := Nm.rd_on f0 b1; have g0 := rd_on g0 b1)
  obtain ⟨W1, hW1⟩ : ∃ W, w1.alloc (.cells #[.int .i64 16, .bool false, .bool false] 140) = W := ⟨_, rfl⟩
  have B1 := Blk.new w1 140 #[.int .i64 16, .bool false, .bool false]
  have k1 := Shp.tn_on k0 (below_alloc_ w1 (.cells #[.int .i64 16, .bool false, .bool false] 140))
  have f1 := Nm.rd_on f0 (below_alloc_ w1 (.cells #[.int .i64 16, .bool false, .bool false] 140))
  have g1 := rd_on g0 (below_alloc_ w1 (.cells #[.int .i64 16, .bool false, .bool false] 140))
  have z1' := z1.alloc z1.size (.cells #[.int .i64 16, .bool false, .bool false] 140)
  have s1' : w1.heap.size < (w1.alloc (.cells #[.int .i64 16, .bool false, .bool false] 140)).heap.size := by simp
  rw [hW1] at B1 k1 f1 g1 z1' s1'
  rw [hW1]
  clear hW1 k0 f0 g0 z1 s0 z0
  obtain ⟨m, hm⟩ : ∃ m, w1.heap.size = m := ⟨_, rfl⟩
  rw [hm] at B1 s1 s1'
  rw [hm]
  clear hm b1
  have q1 : w.heap.size + 2 < W1.heap.size := by omega
  have r1 : w.heap.size + 1 < W1.heap.size := by omega
  have t1 : w.heap.size < W1.heap.size := by omega
  have u0 := B1.c 0
  have u1 := B1.c 1
  have u2 := B1.c 2
  simp at u0 u1 u2
  go_wp2_with (first
    | (go_at_call 110; (with_reducible refine (CP.out _).mono ?_); rintro e w2 ⟨rfl, rfl⟩)
    | (go_at_call 110; (with_reducible refine (CA.out _).mono ?_); rintro e w3 ⟨rfl, rfl⟩))
  have hset := Shp.rd_set (S := kS) (W1.alloc (.cells (kS.v (D.mkK 2 q b Nm.D.zero D.zero)) 39)) (w.heap.size + 2) (D.mkK 2 q b Nm.D.zero D.zero) (Shp.tn_on k1 (below_alloc_ _ _))
  have z9 := below_setRow (z1'.alloc z1'.size (.cells (kS.v (D.mkK 2 q b Nm.D.zero D.zero)) 39)) (g := w.heap.size + 2) (by omega) (kS.v (D.mkK 2 q b Nm.D.zero D.zero))
  exact bodyPost_ret (v := .tuple #[.agg (kS.v (D.mkK 2 q b Nm.D.zero D.zero)), .int .i64 0]) (by rw [results_cell_tmp rfl]; simp [asAddr, Result.andThen, lvk_of hset]) rfl ⟨rfl, z9⟩

set_option maxHeartbeats 4000000 in
theorem kof_p3 (cT : ∀ (x : D.Tg) (w : World), Calls Tryz.prog 112 #[.agg (nc x)] w fun e w' => e = .returned (.bool (D.right x)) ∧ Below w.heap.size w w') (p : Int) (hp : ¬ (0 ≤ p ∧ p < 4)) (a : Int) (n : Nm.D.Nm) (t : D.Tg) (w : World) :
    Calls Tryz.prog 72 #[.int .i64 3, .int .i64 p, .int .i64 a, .agg (Nm.nc n), .agg (nc t)] w fun e w' => e = .returned (.tuple #[.agg (kS.v D.zK), .int .i64 5]) ∧ Below w.heap.size w w' := by
  obtain ⟨W0, hW0⟩ : ∃ W, ((w.alloc (.cells (Nm.nc n) 33)).alloc (.cells (nc t) 37)).alloc (.cells z25 39) = W := ⟨_, rfl⟩
  have f0 : Nm.rd W0 ⟨w.heap.size, 0, none⟩ = some n := by rw [← hW0]; exact Nm.rd_on (Nm.rd_on (Nm.rd_new w _ _ n rfl) (below_alloc_ _ _)) (below_alloc_ _ _)
  have g0 : rd W0 ⟨w.heap.size + 1, 0, none⟩ = some t := by rw [← hW0]; exact rd_on (rd_new _ _ _ t (by simp)) (below_alloc_ _ _)
  have k0 : Shp.tn 25 W0 (w.heap.size + 2) = true := by rw [← hW0]; exact Shp.tn_new _ _ _ _ _ (by simp) rfl
  have s0 : w.heap.size + 2 < W0.heap.size := by rw [← hW0]; simp
  have z0 : Below w.heap.size w W0 := by rw [← hW0]; exact (((Below.refl _ _).alloc (Nat.le_refl _) _).alloc (by simp) _).alloc (by simp; omega) _
  have CU := Lib.hid (fun w => (show Calls Tryz.prog 67 #[.int .i64 3] w fun e w' => e = .returned (.tuple #[.agg #[.int .i64 0, .bool false, .bool true], .bool true]) ∧ Below w.heap.size w w' from useOf_any 3 w))
  have CP := Lib.hid (fun w => (show Calls Tryz.prog 110 #[.int .i64 p, .int .i64 4] w fun e w' => e = .returned (.bool false) ∧ w = w' from by have := below_num p 4 w; rwa [decide_eq_false (by omega)] at this))
  clear cT hp
  go_enter Tryz.func72, Tryz.ntmps72
  unfold z25 at hW0
  go_wp2_with fail
  try rw [hW0]
  clear hW0
  go_wp2_with (go_at_call 67; (with_reducible refine (CU.out _).mono ?_); rintro e w1 ⟨rfl, b1⟩; have k0 := Shp.tn_on k0 b1; have s1 := Nat.lt_of_lt_of_le s0 b1.size; have z1 := below_up z0 z0.size b1; have f0 := Nm.rd_on f0 b1; have g0 := rd_on g0 b1)
  obtain ⟨W1, hW1⟩ : ∃ W, w1.alloc (.cells #[.int .i64 0, .bool false, .bool true] 140) = W := ⟨_, rfl⟩
  have B1 := Blk.new w1 140 #[.int .i64 0, .bool false, .bool true]
  have k1 := Shp.tn_on k0 (below_alloc_ w1 (.cells #[.int .i64 0, .bool false, .bool true] 140))
  have f1 := Nm.rd_on f0 (below_alloc_ w1 (.cells #[.int .i64 0, .bool false, .bool true] 140))
  have g1 := rd_on g0 (below_alloc_ w1 (.cells #[.int .i64 0, .bool false, .bool true] 140))
  have z1' := z1.alloc z1.size (.cells #[.int .i64 0, .bool false, .bool true] 140)
  have s1' : w1.heap.size < (w1.alloc (.cells #[.int .i64 0, .bool false, .bool true] 140)).heap.size := by simp
  rw [hW1] at B1 k1 f1 g1 z1' s1'
  rw [hW1]
  clear hW1 k0 f0 g0 z1 s0 z0
  obtain ⟨m, hm⟩ : ∃ m, w1.heap.size = m := ⟨_, rfl⟩
  rw [hm] at B1 s1 s1'
  rw [hm]
  clear hm b1
  have q1 : w.heap.size + 2 < W1.heap.size := by omega
  have r1 : w.heap.size + 1 < W1.heap.size := by omega
  have t1 : w.heap.size < W1.heap.size := by omega
  have u0 := B1.c 0
  have u1 := B1.c 1
  have u2 := B1.c 2
  simp at u0 u1 u2
  go_wp2_with (first
    | (go_at_call 110; (with_reducible refine (CP.out _).mono ?_); rintro e w2 ⟨rfl, rfl⟩))
  have hset := Shp.rd_set (S := kS) W1 (w.heap.size + 2) D.zK k1
  have z9 := below_setRow z1' (g := w.heap.size + 2) (by omega) (kS.v D.zK)
  exact bodyPost_ret (v := .tuple #[.agg (kS.v D.zK), .int .i64 5]) (by rw [results_cell_tmp rfl]; simp [asAddr, Result.andThen, lvk_of hset]) rfl ⟨rfl, z9⟩

set_option maxHeartbeats 4000000 in
theorem kof_z3 (cT : ∀ (x : D.Tg) (w : World), Calls Tryz.prog 112 #[.agg (nc x)] w fun e w' => e = .returned (.bool (D.right x)) ∧ Below w.heap.size w w') (q : Nat) (hp : q < 4) (a : Int) (n : Nm.D.Nm) (t : D.Tg) (ht : sm t D.zero = true) (w : World) :
    Calls Tryz.prog 72 #[.int .i64 3, .int .i64 (q : Int), .int .i64 a, .agg (Nm.nc n), .agg (nc t)] w fun e w' => e = .returned (.tuple #[.agg (kS.v D.zK), .int .i64 14]) ∧ Below w.heap.size w w' := by
  obtain ⟨W0, hW0⟩ : ∃ W, ((w.alloc (.cells (Nm.nc n) 33)).alloc (.cells (nc t) 37)).alloc (.cells z25 39) = W := ⟨_, rfl⟩
  have f0 : Nm.rd W0 ⟨w.heap.size, 0, none⟩ = some n := by rw [← hW0]; exact Nm.rd_on (Nm.rd_on (Nm.rd_new w _ _ n rfl) (below_alloc_ _ _)) (below_alloc_ _ _)
  have g0 : rd W0 ⟨w.heap.size + 1, 0, none⟩ = some t := by rw [← hW0]; exact rd_on (rd_new _ _ _ t (by simp)) (below_alloc_ _ _)
  have k0 : Shp.tn 25 W0 (w.heap.size + 2) = true := by rw [← hW0]; exact Shp.tn_new _ _ _ _ _ (by simp) rfl
  have s0 : w.heap.size + 2 < W0.heap.size := by rw [← hW0]; simp
  have z0 : Below w.heap.size w W0 := by rw [← hW0]; exact (((Below.refl _ _).alloc (Nat.le_refl _) _).alloc (by simp) _).alloc (by simp; omega) _
  have CU := Lib.hid (fun w => (show Calls Tryz.prog 67 #[.int .i64 3] w fun e w' => e = .returned (.tuple #[.agg #[.int .i64 0, .bool false, .bool true], .bool true]) ∧ Below w.heap.size w w' from useOf_any 3 w))
  have CP := Lib.hid (fun w => (show Calls Tryz.prog 110 #[.int .i64 (q : Int), .int .i64 4] w fun e w' => e = .returned (.bool true) ∧ w = w' from by have := below_num (q : Int) 4 w; rwa [decide_eq_true (by omega)] at this))
  have hb : ∀ W, (bdk #[(0, .int .u8 3), (1, .int .u8 (q : Int))]).run Tryz.prog W = .ok (.agg (kS.v (D.mkK 3 q 0 Nm.D.zero D.zero))) W := fun W => run_bdk_2 W 3 q (by omega) (by omega)
  have hq : q % 256 = q := Nat.mod_eq_of_lt (by omega)
  have hqi : (q : Int) % 256 = q := by omega
  clear cT hp
  go_enter Tryz.func72, Tryz.ntmps72
  unfold z25 at hW0
  go_wp2_with fail
  try rw [hW0]
  clear hW0
  go_wp2_with (go_at_call 67; (with_reducible refine (CU.out _).mono ?_); rintro e w1 ⟨rfl, b1⟩; have k0 := Shp.tn_on k0 b1; have s1 := Nat.lt_of_lt_of_le s0 b1.size; have z1 := below_up z0 z0.size b1; have f0 := Nm.rd_on f0 b1; have g0 := rd_on g0 b1)
  obtain ⟨W1, hW1⟩ : ∃ W, w1.alloc (.cells #[.int .i64 0, .bool false, .bool true] 140) = W := ⟨_, rfl⟩
  have B1 := Blk.new w1 140 #[.int .i64 0, .bool false, .bool true]
  have k1 := Shp.tn_on k0 (below_alloc_ w1 (.cells #[.int .i64 0, .bool false, .bool true] 140))
  have f1 := Nm.rd_on f0 (below_alloc_ w1 (.cells #[.int .i64 0, .bool false, .bool true] 140))
  have g1 := rd_on g0 (below_alloc_ w1 (.cells #[.int .i64 0, .bool false, .bool true] 140))
  have z1' := z1.alloc z1.size (.cells #[.int .i64 0, .bool false, .bool true] 140)
  have s1' : w1.heap.size < (w1.alloc (.cells #[.int .i64 0, .bool false, .bool true] 140)).heap.size := by simp
  rw [hW1] at B1 k1 f1 g1 z1' s1'
  rw [hW1]
  clear hW1 k0 f0 g0 z1 s0 z0
  obtain ⟨m, hm⟩ : ∃ m, w1.heap.size = m := ⟨_, rfl⟩
  rw [hm] at B1 s1 s1'
  rw [hm]
  clear hm b1
  have q1 : w.heap.size + 2 < W1.heap.size := by omega
  have r1 : w.heap.size + 1 < W1.heap.size := by omega
  have t1 : w.heap.size < W1.heap.size := by omega
  have u0 := B1.c 0
  have u1 := B1.c 1
  have u2 := B1.c 2
  simp at u0 u1 u2
  go_wp2_with (first
    | (go_at_call 110; (with_reducible refine (CP.out _).mono ?_); rintro e w2 ⟨rfl, rfl⟩))
  have hset := Shp.rd_set (S := kS) W1 (w.heap.size + 2) D.zK k1
  have z9 := below_setRow z1' (g := w.heap.size + 2) (by omega) (kS.v D.zK)
  exact bodyPost_ret (v := .tuple #[.agg (kS.v D.zK), .int .i64 14]) (by rw [results_cell_tmp rfl]; simp [asAddr, Result.andThen, lvk_of hset]) rfl ⟨rfl, z9⟩

set_option maxHeartbeats 4000000 in
theorem kof_w3 (cT : ∀ (x : D.Tg) (w : World), Calls Tryz.prog 112 #[.agg (nc x)] w fun e w' => e = .returned (.bool (D.right x)) ∧ Below w.heap.size w w') (q : Nat) (hp : q < 4) (a : Int) (n : Nm.D.Nm) (t : D.Tg) (ht : sm t D.zero = false) (hr : D.right t = false) (w : World) :
    Calls Tryz.prog 72 #[.int .i64 3, .int .i64 (q : Int), .int .i64 a, .agg (Nm.nc n), .agg (nc t)] w fun e w' => e = .returned (.tuple #[.agg (kS.v D.zK), .int .i64 14]) ∧ Below w.heap.size w w' := by
  obtain ⟨W0, hW0⟩ : ∃ W, ((w.alloc (.cells (Nm.nc n) 33)).alloc (.cells (nc t) 37)).alloc (.cells z25 39) = W := ⟨_, rfl⟩
  have f0 : Nm.rd W0 ⟨w.heap.size, 0, none⟩ = some n := by rw [← hW0]; exact Nm.rd_on (Nm.rd_on (Nm.rd_new w _ _ n rfl) (below_alloc_ _ _)) (below_alloc_ _ _)
  have g0 : rd W0 ⟨w.heap.size + 1, 0, none⟩ = some t := by rw [← hW0]; exact rd_on (rd_new _ _ _ t (by simp)) (below_alloc_ _ _)
  have k0 : Shp.tn 25 W0 (w.heap.size + 2) = true := by rw [← hW0]; exact Shp.tn_new _ _ _ _ _ (by simp) rfl
  have s0 : w.heap.size + 2 < W0.heap.size := by rw [← hW0]; simp
  have z0 : Below w.heap.size w W0 := by rw [← hW0]; exact (((Below.refl _ _).alloc (Nat.le_refl _) _).alloc (by simp) _).alloc (by simp; omega) _
  have CU := Lib.hid (fun w => (show Calls Tryz.prog 67 #[.int .i64 3] w fun e w' => e = .returned (.tuple #[.agg #[.int .i64 0, .bool false, .bool true], .bool true]) ∧ Below w.heap.size w w' from useOf_any 3 w))
  have CP := Lib.hid (fun w => (show Calls Tryz.prog 110 #[.int .i64 (q : Int), .int .i64 4] w fun e w' => e = .returned (.bool true) ∧ w = w' from by have := below_num (q : Int) 4 w; rwa [decide_eq_true (by omega)] at this))
  have CT := Lib.hid (fun w => (show Calls Tryz.prog 112 #[.agg (nc t)] w fun e w' => e = .returned (.bool false) ∧ Below w.heap.size w w' from by have := cT t w; rwa [hr] at this))
  have hb : ∀ W, (bdk #[(0, .int .u8 3), (1, .int .u8 (q : Int))]).run Tryz.prog W = .ok (.agg (kS.v (D.mkK 3 q 0 Nm.D.zero D.zero))) W := fun W => run_bdk_2 W 3 q (by omega) (by omega)
  have hq : q % 256 = q := Nat.mod_eq_of_lt (by omega)
  have hqi : (q : Int) % 256 = q := by omega
  clear cT hp hr
  go_enter Tryz.func72, Tryz.ntmps72
  unfold z25 at hW0
  go_wp2_with fail
  try rw [hW0]
  clear hW0
  go_wp2_with (go_at_call 67; (with_reducible refine (CU.out _).mono ?_); rintro e w1 ⟨rfl, b1⟩; have k0 := Shp.tn_on k0 b1; have s1 := Nat.lt_of_lt_of_le s0 b1.size; have z1 := below_up z0 z0.size b1; have f0 := Nm.rd_on f0 b1; have g0 := rd_on g0 b1)
  obtain ⟨W1, hW1⟩ : ∃ W, w1.alloc (.cells #[.int .i64 0, .bool false, .bool true] 140) = W := ⟨_, rfl⟩
  have B1 := Blk.new w1 140 #[.int .i64 0, .bool false, .bool true]
  have k1 := Shp.tn_on k0 (below_alloc_ w1 (.cells #[.int .i64 0, .bool false, .bool true] 140))
  have f1 := Nm.rd_on f0 (below_alloc_ w1 (.cells #[.int .i64 0, .bool false, .bool true] 140))
  have g1 := rd_on g0 (below_alloc_ w1 (.cells #[.int .i64 0, .bool false, .bool true] 140))
  have z1' := z1.alloc z1.size (.cells #[.int .i64 0, .bool false, .bool true] 140)
  have s1' : w1.heap.size < (w1.alloc (.cells #[.int .i64 0, .bool false, .bool true] 140)).heap.size := by simp
  rw [hW1] at B1 k1 f1 g1 z1' s1'
  rw [hW1]
  clear hW1 k0 f0 g0 z1 s0 z0
  obtain ⟨m, hm⟩ : ∃ m, w1.heap.size = m := ⟨_, rfl⟩
  rw [hm] at B1 s1 s1'
  rw [hm]
  clear hm b1
  have q1 : w.heap.size + 2 < W1.heap.size := by omega
  have r1 : w.heap.size + 1 < W1.heap.size := by omega
  have t1 : w.heap.size < W1.heap.size := by omega
  have u0 := B1.c 0
  have u1 := B1.c 1
  have u2 := B1.c 2
  simp at u0 u1 u2
  go_wp2_with (first
    | (go_at_call 110; (with_reducible refine (CP.out _).mono ?_); rintro e w2 ⟨rfl, rfl⟩)
    | (go_at_call 112; (with_reducible refine (CT.out _).mono ?_); rintro e w5 ⟨rfl, b5⟩; have B5 := B1.on b5; have k5 := Shp.tn_on k1 b5; have f5 := Nm.rd_on f1 b5; have g5 := rd_on g1 b5; have z5' := below_up z1' z1'.size b5; have s5' := Nat.lt_of_lt_of_le s1' b5.size; have q5 := Nat.lt_of_lt_of_le q1 b5.size; have r5 := Nat.lt_of_lt_of_le r1 b5.size; have t5 := Nat.lt_of_lt_of_le t1 b5.size; have v0 := B5.c 0; have v1 := B5.c 1; have v2 := B5.c 2; simp at v0 v1 v2))
  have hset := Shp.rd_set (S := kS) w5 (w.heap.size + 2) D.zK k5
  have z9 := below_setRow z5' (g := w.heap.size + 2) (by omega) (kS.v D.zK)
  exact bodyPost_ret (v := .tuple #[.agg (kS.v D.zK), .int .i64 14]) (by rw [results_cell_tmp rfl]; simp [asAddr, Result.andThen, lvk_of hset]) rfl ⟨rfl, z9⟩

set_option maxHeartbeats 4000000 in
theorem kof_ok3 (cT : ∀ (x : D.Tg) (w : World), Calls Tryz.prog 112 #[.agg (nc x)] w fun e w' => e = .returned (.bool (D.right x)) ∧ Below w.heap.size w w') (q : Nat) (hp : q < 4) (a : Int) (n : Nm.D.Nm) (t : D.Tg) (ht : sm t D.zero = false) (hr : D.right t = true) (w : World) :
    Calls Tryz.prog 72 #[.int .i64 3, .int .i64 (q : Int), .int .i64 a, .agg (Nm.nc n), .agg (nc t)] w fun e w' => e = .returned (.tuple #[.agg (kS.v (D.mkK 3 q 0 Nm.D.zero t)), .int .i64 0]) ∧ Below w.heap.size w w' := by
  obtain ⟨W0, hW0⟩ : ∃ W, ((w.alloc (.cells (Nm.nc n) 33)).alloc (.cells (nc t) 37)).alloc (.cells z25 39) = W := ⟨_, rfl⟩
  have f0 : Nm.rd W0 ⟨w.heap.size, 0, none⟩ = some n := by rw [← hW0]; exact Nm.rd_on (Nm.rd_on (Nm.rd_new w _ _ n rfl) (below_alloc_ _ _)) (below_alloc_ _ _)
  have g0 : rd W0 ⟨w.heap.size + 1, 0, none⟩ = some t := by rw [← hW0]; exact rd_on (rd_new _ _ _ t (by simp)) (below_alloc_ _ _)
  have k0 : Shp.tn 25 W0 (w.heap.size + 2) = true := by rw [← hW0]; exact Shp.tn_new _ _ _ _ _ (by simp) rfl
  have s0 : w.heap.size + 2 < W0.heap.size := by rw [← hW0]; simp
  have z0 : Below w.heap.size w W0 := by rw [← hW0]; exact (((Below.refl _ _).alloc (Nat.le_refl _) _).alloc (by simp) _).alloc (by simp; omega) _
  have CU := Lib.hid (fun w => (show Calls Tryz.prog 67 #[.int .i64 3] w fun e w' => e = .returned (.tuple #[.agg #[.int .i64 0, .bool false, .bool true], .bool true]) ∧ Below w.heap.size w w' from useOf_any 3 w))
  have CP := Lib.hid (fun w => (show Calls Tryz.prog 110 #[.int .i64 (q : Int), .int .i64 4] w fun e w' => e = .returned (.bool true) ∧ w = w' from by have := below_num (q : Int) 4 w; rwa [decide_eq_true (by omega)] at this))
  have CT := Lib.hid (fun w => (show Calls Tryz.prog 112 #[.agg (nc t)] w fun e w' => e = .returned (.bool true) ∧ Below w.heap.size w w' from by have := cT t w; rwa [hr] at this))
  have hb : ∀ W, (bdk #[(0, .int .u8 3), (1, .int .u8 (q : Int))]).run Tryz.prog W = .ok (.agg (kS.v (D.mkK 3 q 0 Nm.D.zero D.zero))) W := fun W => run_bdk_2 W 3 q (by omega) (by omega)
  have hq : q % 256 = q := Nat.mod_eq_of_lt (by omega)
  have hqi : (q : Int) % 256 = q := by omega
  clear cT hp hr
  go_enter Tryz.func72, Tryz.ntmps72
  unfold z25 at hW0
  go_wp2_with fail
  try rw [hW0]
  clear hW0
  go_wp2_with (go_at_call 67; (with_reducible refine (CU.out _).mono ?_); rintro e w1 ⟨rfl, b1⟩; have k0 := Shp.tn_on k0 b1; have s1 := Nat.lt_of_lt_of_le s0 b1.size; have z1 := below_up z0 z0.size b1; have f0 := Nm.rd_on f0 b1; have g0 := rd_on g0 b1)
  obtain ⟨W1, hW1⟩ : ∃ W, w1.alloc (.cells #[.int .i64 0, .bool false, .bool true] 140) = W := ⟨_, rfl⟩
  have B1 := Blk.new w1 140 #[.int .i64 0, .bool false, .bool true]
  have k1 := Shp.tn_on k0 (below_alloc_ w1 (.cells #[.int .i64 0, .bool false, .bool true] 140))
  have f1 := Nm.rd_on f0 (below_alloc_ w1 (.cells #[.int .i64 0, .bool false, .bool true] 140))
  have g1 := rd_on g0 (below_alloc_ w1 (.cells #[.int .i64 0, .bool false, .bool true] 140))
  have z1' := z1.alloc z1.size (.cells #[.int .i64 0, .bool false, .bool true] 140)
  have s1' : w1.heap.size < (w1.alloc (.cells #[.int .i64 0, .bool false, .bool true] 140)).heap.size := by simp
  rw [hW1] at B1 k1 f1 g1 z1' s1'
  rw [hW1]
  clear hW1 k0 f0 g0 z1 s0 z0
  obtain ⟨m, hm⟩ : ∃ m, w1.heap.size = m := ⟨_, rfl⟩
  rw [hm] at B1 s1 s1'
  rw [hm]
  clear hm b1
  have q1 : w.heap.size + 2 < W1.heap.size := by omega
  have r1 : w.heap.size + 1 < W1.heap.size := by omega
  have t1 : w.heap.size < W1.heap.size := by omega
  have u0 := B1.c 0
  have u1 := B1.c 1
  have u2 := B1.c 2
  simp at u0 u1 u2
  go_wp2_with (first
    | (go_at_call 110; (with_reducible refine (CP.out _).mono ?_); rintro e w2 ⟨rfl, rfl⟩)
    | (go_at_call 112; (with_reducible refine (CT.out _).mono ?_); rintro e w5 ⟨rfl, b5⟩; have B5 := B1.on b5; have k5 := Shp.tn_on k1 b5; have f5 := Nm.rd_on f1 b5; have g5 := rd_on g1 b5; have z5' := below_up z1' z1'.size b5; have s5' := Nat.lt_of_lt_of_le s1' b5.size; have q5 := Nat.lt_of_lt_of_le q1 b5.size; have r5 := Nat.lt_of_lt_of_le r1 b5.size; have t5 := Nat.lt_of_lt_of_le t1 b5.size; have v0 := B5.c 0; have v1 := B5.c 1; have v2 := B5.c 2; simp at v0 v1 v2))
  have hset := Shp.rd_set (S := kS) (w5.alloc (.cells (kS.v (D.mkK 3 q 0 Nm.D.zero t)) 39)) (w.heap.size + 2) (D.mkK 3 q 0 Nm.D.zero t) (Shp.tn_on k5 (below_alloc_ _ _))
  have z9 := below_setRow (z5'.alloc z5'.size (.cells (kS.v (D.mkK 3 q 0 Nm.D.zero t)) 39)) (g := w.heap.size + 2) (by omega) (kS.v (D.mkK 3 q 0 Nm.D.zero t))
  exact bodyPost_ret (v := .tuple #[.agg (kS.v (D.mkK 3 q 0 Nm.D.zero t)), .int .i64 0]) (by rw [results_cell_tmp rfl]; simp [asAddr, Result.andThen, lvk_of hset]) rfl ⟨rfl, z9⟩

set_option maxHeartbeats 4000000 in
theorem kof_p4 (cT : ∀ (x : D.Tg) (w : World), Calls Tryz.prog 112 #[.agg (nc x)] w fun e w' => e = .returned (.bool (D.right x)) ∧ Below w.heap.size w w') (p : Int) (hp : ¬ (0 ≤ p ∧ p < 4)) (a : Int) (n : Nm.D.Nm) (t : D.Tg) (w : World) :
    Calls Tryz.prog 72 #[.int .i64 4, .int .i64 p, .int .i64 a, .agg (Nm.nc n), .agg (nc t)] w fun e w' => e = .returned (.tuple #[.agg (kS.v D.zK), .int .i64 5]) ∧ Below w.heap.size w w' := by
  obtain ⟨W0, hW0⟩ : ∃ W, ((w.alloc (.cells (Nm.nc n) 33)).alloc (.cells (nc t) 37)).alloc (.cells z25 39) = W := ⟨_, rfl⟩
  have f0 : Nm.rd W0 ⟨w.heap.size, 0, none⟩ = some n := by rw [← hW0]; exact Nm.rd_on (Nm.rd_on (Nm.rd_new w _ _ n rfl) (below_alloc_ _ _)) (below_alloc_ _ _)
  have g0 : rd W0 ⟨w.heap.size + 1, 0, none⟩ = some t := by rw [← hW0]; exact rd_on (rd_new _ _ _ t (by simp)) (below_alloc_ _ _)
  have k0 : Shp.tn 25 W0 (w.heap.size + 2) = true := by rw [← hW0]; exact Shp.tn_new _ _ _ _ _ (by simp) rfl
  have s0 : w.heap.size + 2 < W0.heap.size := by rw [← hW0]; simp
  have z0 : Below w.heap.size w W0 := by rw [← hW0]; exact (((Below.refl _ _).alloc (Nat.le_refl _) _).alloc (by simp) _).alloc (by simp; omega) _
  have CU := Lib.hid (fun w => (show Calls Tryz.prog 67 #[.int .i64 4] w fun e w' => e = .returned (.tuple #[.agg #[.int .i64 4, .bool false, .bool false], .bool true]) ∧ Below w.heap.size w w' from useOf_any 4 w))
  have CP := Lib.hid (fun w => (show Calls Tryz.prog 110 #[.int .i64 p, .int .i64 4] w fun e w' => e = .returned (.bool false) ∧ w = w' from by have := below_num p 4 w; rwa [decide_eq_false (by omega)] at this))
  clear cT hp
  go_enter Tryz.func72, Tryz.ntmps72
  unfold z25 at hW0
  go_wp2_with fail
  try rw [hW0]
  clear hW0
  go_wp2_with (go_at_call 67; (with_reducible refine (CU.out _).mono ?_); rintro e w1 ⟨rfl, b1⟩; have k0 := Shp.tn_on k0 b1; have s1 := Nat.lt_of_lt_of_le s0 b1.size; have z1 := below_up z0 z0.size b1; have f0 := Nm.rd_on f0 b1; have g0 := rd_on g0 b1)
  obtain ⟨W1, hW1⟩ : ∃ W, w1.alloc (.cells #[.int .i64 4, .bool false, .bool false] 140) = W := ⟨_, rfl⟩
  have B1 := Blk.new w1 140 #[.int .i64 4, .bool false, .bool false]
  have k1 := Shp.tn_on k0 (below_alloc_ w1 (.cells #[.int .i64 4, .bool false, .bool false] 140))
  have f1 := Nm.rd_on f0 (below_alloc_ w1 (.cells #[.int .i64 4, .bool false, .bool false] 140))
  have g1 := rd_on g0 (below_alloc_ w1 (.cells #[.int .i64 4, .bool false, .bool false] 140))
  have z1' := z1.alloc z1.size (.cells #[.int .i64 4, .bool false, .bool false] 140)
  have s1' : w1.heap.size < (w1.alloc (.cells #[.int .i64 4, .bool false, .bool false] 140)).heap.size := by simp
  rw [hW1] at B1 k1 f1 g1 z1' s1'
  rw [hW1]
  clear hW1 k0 f0 g0 z1 s0 z0
  obtain ⟨m, hm⟩ : ∃ m, w1.heap.size = m := ⟨_, rfl⟩
  rw [hm] at B1 s1 s1'
  rw [hm]
  clear hm b1
  have q1 : w.heap.size + 2 < W1.heap.size := by omega
  have r1 : w.heap.size + 1 < W1.heap.size := by omega
  have t1 : w.heap.size < W1.heap.size := by omega
  have u0 := B1.c 0
  have u1 := B1.c 1
  have u2 := B1.c 2
  simp at u0 u1 u2
  go_wp2_with (first
    | (go_at_call 110; (with_reducible refine (CP.out _).mono ?_); rintro e w2 ⟨rfl, rfl⟩))
  have hset := Shp.rd_set (S := kS) W1 (w.heap.size + 2) D.zK k1
  have z9 := below_setRow z1' (g := w.heap.size + 2) (by omega) (kS.v D.zK)
  exact bodyPost_ret (v := .tuple #[.agg (kS.v D.zK), .int .i64 5]) (by rw [results_cell_tmp rfl]; simp [asAddr, Result.andThen, lvk_of hset]) rfl ⟨rfl, z9⟩

set_option maxHeartbeats 4000000 in
theorem kof_a4 (cT : ∀ (x : D.Tg) (w : World), Calls Tryz.prog 112 #[.agg (nc x)] w fun e w' => e = .returned (.bool (D.right x)) ∧ Below w.heap.size w w') (q : Nat) (hp : q < 4) (a : Int) (ha : ¬ (0 ≤ a ∧ a < 4)) (n : Nm.D.Nm) (t : D.Tg) (w : World) :
    Calls Tryz.prog 72 #[.int .i64 4, .int .i64 (q : Int), .int .i64 a, .agg (Nm.nc n), .agg (nc t)] w fun e w' => e = .returned (.tuple #[.agg (kS.v D.zK), .int .i64 5]) ∧ Below w.heap.size w w' := by
  obtain ⟨W0, hW0⟩ : ∃ W, ((w.alloc (.cells (Nm.nc n) 33)).alloc (.cells (nc t) 37)).alloc (.cells z25 39) = W := ⟨_, rfl⟩
  have f0 : Nm.rd W0 ⟨w.heap.size, 0, none⟩ = some n := by rw [← hW0]; exact Nm.rd_on (Nm.rd_on (Nm.rd_new w _ _ n rfl) (below_alloc_ _ _)) (below_alloc_ _ _)
  have g0 : rd W0 ⟨w.heap.size + 1, 0, none⟩ = some t := by rw [← hW0]; exact rd_on (rd_new _ _ _ t (by simp)) (below_alloc_ _ _)
  have k0 : Shp.tn 25 W0 (w.heap.size + 2) = true := by rw [← hW0]; exact Shp.tn_new _ _ _ _ _ (by simp) rfl
  have s0 : w.heap.size + 2 < W0.heap.size := by rw [← hW0]; simp
  have z0 : Below w.heap.size w W0 := by rw [← hW0]; exact (((Below.refl _ _).alloc (Nat.le_refl _) _).alloc (by simp) _).alloc (by simp; omega) _
  have CU := Lib.hid (fun w => (show Calls Tryz.prog 67 #[.int .i64 4] w fun e w' => e = .returned (.tuple #[.agg #[.int .i64 4, .bool false, .bool false], .bool true]) ∧ Below w.heap.size w w' from useOf_any 4 w))
  have CP := Lib.hid (fun w => (show Calls Tryz.prog 110 #[.int .i64 (q : Int), .int .i64 4] w fun e w' => e = .returned (.bool true) ∧ w = w' from by have := below_num (q : Int) 4 w; rwa [decide_eq_true (by omega)] at this))
  have CA := Lib.hid (fun w => (show Calls Tryz.prog 110 #[.int .i64 a, .int .i64 4] w fun e w' => e = .returned (.bool false) ∧ w = w' from by have := below_num a 4 w; rwa [decide_eq_false (by omega)] at this))
  have hb : ∀ W, (bdk #[(0, .int .u8 4), (1, .int .u8 (q : Int))]).run Tryz.prog W = .ok (.agg (kS.v (D.mkK 4 q 0 Nm.D.zero D.zero))) W := fun W => run_bdk_2 W 4 q (by omega) (by omega)
  have hq : q % 256 = q := Nat.mod_eq_of_lt (by omega)
  have hqi : (q : Int) % 256 = q := by omega
  clear cT hp ha
  go_enter Tryz.func72, Tryz.ntmps72
  unfold z25 at hW0
  go_wp2_with fail
  try rw [hW0]
  clear hW0
  go_wp2_with (go_at_call 67; (with_reducible refine (CU.out _).mono ?_); rintro e w1 ⟨rfl, b1⟩; have k0 := Shp.tn_on k0 b1; have s1 := Nat.lt_of_lt_of_le s0 b1.size; have z1 := below_up z0 z0.size b1; have f0 := Nm.rd_on f0 b1; have g0 := rd_on g0 b1)
  obtain ⟨W1, hW1⟩ : ∃ W, w1.alloc (.cells #[.int .i64 4, .bool false, .bool false] 140) = W := ⟨_, rfl⟩
  have B1 := Blk.new w1 140 #[.int .i64 4, .bool false, .bool false]
  have k1 := Shp.tn_on k0 (below_alloc_ w1 (.cells #[.int .i64 4, .bool false, .bool false] 140))
  have f1 := Nm.rd_on f0 (below_alloc_ w1 (.cells #[.int .i64 4, .bool false, .bool false] 140))
  have g1 := rd_on g0 (below_alloc_ w1 (.cells #[.int .i64 4, .bool false, .bool false] 140))
  have z1' := z1.alloc z1.size (.cells #[.int .i64 4, .bool false, .bool false] 140)
  have s1' : w1.heap.size < (w1.alloc (.cells #[.int .i64 4, .bool false, .bool false] 140)).heap.size := by simp
  rw [hW1] at B1 k1 f1 g1 z1' s1'
  rw [hW1]
  clear hW1 k0 f0 g0 z1 s0 z0
  obtain ⟨m, hm⟩ : ∃ m, w1.heap.size = m := ⟨_, rfl⟩
  rw [hm] at B1 s1 s1'
  rw [hm]
  clear hm b1
  have q1 : w.heap.size + 2 < W1.heap.size := by omega
  have r1 : w.heap.size + 1 < W1.heap.size := by omega
  have t1 : w.heap.size < W1.heap.size := by omega
  have u0 := B1.c 0
  have u1 := B1.c 1
  have u2 := B1.c 2
  simp at u0 u1 u2
  go_wp2_with (first
    | (go_at_call 110; (with_reducible refine (CP.out _).mono ?_); rintro e w2 ⟨rfl, rfl⟩)
    | (go_at_call 110; (with_reducible refine (CA.out _).mono ?_); rintro e w3 ⟨rfl, rfl⟩))
  have hset := Shp.rd_set (S := kS) W1 (w.heap.size + 2) D.zK k1
  have z9 := below_setRow z1' (g := w.heap.size + 2) (by omega) (kS.v D.zK)
  exact bodyPost_ret (v := .tuple #[.agg (kS.v D.zK), .int .i64 5]) (by rw [results_cell_tmp rfl]; simp [asAddr, Result.andThen, lvk_of hset]) rfl ⟨rfl, z9⟩

set_option maxHeartbeats 4000000 in
theorem kof_ok4 (cT : ∀ (x : D.Tg) (w : World), Calls Tryz.prog 112 #[.agg (nc x)] w fun e w' => e = .returned (.bool (D.right x)) ∧ Below w.heap.size w w') (q : Nat) (hp : q < 4) (b : Nat) (ha : b < 4) (n : Nm.D.Nm) (t : D.Tg) (w : World) :
    Calls Tryz.prog 72 #[.int .i64 4, .int .i64 (q : Int), .int .i64 (b : Int), .agg (Nm.nc n), .agg (nc t)] w fun e w' => e = .returned (.tuple #[.agg (kS.v (D.mkK 4 q b Nm.D.zero D.zero)), .int .i64 0]) ∧ Below w.heap.size w w' := by
  obtain ⟨W0, hW0⟩ : ∃ W, ((w.alloc (.cells (Nm.nc n) 33)).alloc (.cells (nc t) 37)).alloc (.cells z25 39) = W := ⟨_, rfl⟩
  have f0 : Nm.rd W0 ⟨w.heap.size, 0, none⟩ = some n := by rw [← hW0]; exact Nm.rd_on (Nm.rd_on (Nm.rd_new w _ _ n rfl) (below_alloc_ _ _)) (below_alloc_ _ _)
  have g0 : rd W0 ⟨w.heap.size + 1, 0, none⟩ = some t := by rw [← hW0]; exact rd_on (rd_new _ _ _ t (by simp)) (below_alloc_ _ _)
  have k0 : Shp.tn 25 W0 (w.heap.size + 2) = true := by rw [← hW0]; exact Shp.tn_new _ _ _ _ _ (by simp) rfl
  have s0 : w.heap.size + 2 < W0.heap.size := by rw [← hW0]; simp
  have z0 : Below w.heap.size w W0 := by rw [← hW0]; exact (((Below.refl _ _).alloc (Nat.le_refl _) _).alloc (by simp) _).alloc (by simp; omega) _
  have CU := Lib.hid (fun w => (show Calls Tryz.prog 67 #[.int .i64 4] w fun e w' => e = .returned (.tuple #[.agg #[.int .i64 4, .bool false, .bool false], .bool true]) ∧ Below w.heap.size w w' from useOf_any 4 w))
  have CP := Lib.hid (fun w => (show Calls Tryz.prog 110 #[.int .i64 (q : Int), .int .i64 4] w fun e w' => e = .returned (.bool true) ∧ w = w' from by have := below_num (q : Int) 4 w; rwa [decide_eq_true (by omega)] at this))
  have CA := Lib.hid (fun w => (show Calls Tryz.prog 110 #[.int .i64 (b : Int), .int .i64 4] w fun e w' => e = .returned (.bool true) ∧ w = w' from by have := below_num (b : Int) 4 w; rwa [decide_eq_true (by omega)] at this))
  have hb : ∀ W, (bdk #[(0, .int .u8 4), (1, .int .u8 (q : Int))]).run Tryz.prog W = .ok (.agg (kS.v (D.mkK 4 q 0 Nm.D.zero D.zero))) W := fun W => run_bdk_2 W 4 q (by omega) (by omega)
  have hq : q % 256 = q := Nat.mod_eq_of_lt (by omega)
  have hqi : (q : Int) % 256 = q := by omega
  have hbi : (b : Int) % 256 = b := by omega
  have hs := fun (n : Nm.D.Nm) (t : D.Tg) => kset_a 4 q 0 n t b (by omega)
  clear cT hp ha
  go_enter Tryz.func72, Tryz.ntmps72
  unfold z25 at hW0
  go_wp2_with fail
  try rw [hW0]
  clear hW0
  go_wp2_with (go_at_call 67; (with_reducible refine (CU.out _).mono ?_); rintro e w1 ⟨rfl, b1⟩; have k0 := Shp.tn_on k0 b1; have s1 := Nat.lt_of_lt_of_le s0 b1.size; have z1 := below_up z0 z0.size b1; have f0 := Nm.rd_on f0 b1; have g0 := rd_on g0 b1)
  obtain ⟨W1, hW1⟩ : ∃ W, w1.alloc (.cells #[.int .i64 4, .bool false, .bool false] 140) = W := ⟨_, rfl⟩
  have B1 := Blk.new w1 140 #[.int .i64 4, .bool false, .bool false]
  have k1 := Shp.tn_on k0 (below_alloc_ w1 (.cells #[.int .i64 4, .bool false, .bool false] 140))
  have f1 := Nm.rd_on f0 (below_alloc_ w1 (.cells #[.int .i64 4, .bool false, .bool false] 140))
  have g1 := rd_on g0 (below_alloc_ w1 (.cells #[.int .i64 4, .bool false, .bool false] 140))
  have z1' := z1.alloc z1.size (.cells #[.int .i64 4, .bool false, .bool false] 140)
  have s1' : w1.heap.size < (w1.alloc (.cells #[.int .i64 4, .bool false, .bool false] 140)).heap.size := by simp
  rw [hW1] at B1 k1 f1 g1 z1' s1'
  rw [hW1]
  clear hW1 k0 f0 g0 z1 s0 z0
  obtain ⟨m, hm⟩ : ∃ m, w1.heap.size = m := ⟨_, rfl⟩
  rw [hm] at B1 s1 s1'
  rw [hm]
  clear hm b1
  have q1 : w.heap.size + 2 < W1.heap.size := by omega
  have r1 : w.heap.size + 1 < W1.heap.size := by omega
  have t1 : w.heap.size < W1.heap.size := by omega
  have u0 := B1.c 0
  have u1 := B1.c 1
  have u2 := B1.c 2
  simp at u0 u1 u2
  go_wp2_with (first
    | (go_at_call 110; (with_reducible refine (CP.out _).mono ?_); rintro e w2 ⟨rfl, rfl⟩)
    | (go_at_call 110; (with_reducible refine (CA.out _).mono ?_); rintro e w3 ⟨rfl, rfl⟩))
  have hset := Shp.rd_set (S := kS) (W1.alloc (.cells (kS.v (D.mkK 4 q b Nm.D.zero D.zero)) 39)) (w.heap.size + 2) (D.mkK 4 q b Nm.D.zero D.zero) (Shp.tn_on k1 (below_alloc_ _ _))
  have z9 := below_setRow (z1'.alloc z1'.size (.cells (kS.v (D.mkK 4 q b Nm.D.zero D.zero)) 39)) (g := w.heap.size + 2) (by omega) (kS.v (D.mkK 4 q b Nm.D.zero D.zero))
  exact bodyPost_ret (v := .tuple #[.agg (kS.v (D.mkK 4 q b Nm.D.zero D.zero)), .int .i64 0]) (by rw [results_cell_tmp rfl]; simp [asAddr, Result.andThen, lvk_of hset]) rfl ⟨rfl, z9⟩

set_option maxHeartbeats 4000000 in
theorem kof_p5 (cT : ∀ (x : D.Tg) (w : World), Calls Tryz.prog 112 #[.agg (nc x)] w fun e w' => e = .returned (.bool (D.right x)) ∧ Below w.heap.size w w') (p : Int) (hp : ¬ (0 ≤ p ∧ p < 4)) (a : Int) (n : Nm.D.Nm) (t : D.Tg) (w : World) :
    Calls Tryz.prog 72 #[.int .i64 5, .int .i64 p, .int .i64 a, .agg (Nm.nc n), .agg (nc t)] w fun e w' => e = .returned (.tuple #[.agg (kS.v D.zK), .int .i64 5]) ∧ Below w.heap.size w w' := by
  obtain ⟨W0, hW0⟩ : ∃ W, ((w.alloc (.cells (Nm.nc n) 33)).alloc (.cells (nc t) 37)).alloc (.cells z25 39) = W := ⟨_, rfl⟩
  have f0 : Nm.rd W0 ⟨w.heap.size, 0, none⟩ = some n := by rw [← hW0]; exact Nm.rd_on (Nm.rd_on (Nm.rd_new w _ _ n rfl) (below_alloc_ _ _)) (below_alloc_ _ _)
  have g0 : rd W0 ⟨w.heap.size + 1, 0, none⟩ = some t := by rw [← hW0]; exact rd_on (rd_new _ _ _ t (by simp)) (below_alloc_ _ _)
  have k0 : Shp.tn 25 W0 (w.heap.size + 2) = true := by rw [← hW0]; exact Shp.tn_new _ _ _ _ _ (by simp) rfl
  have s0 : w.heap.size + 2 < W0.heap.size := by rw [← hW0]; simp
  have z0 : Below w.heap.size w W0 := by rw [← hW0]; exact (((Below.refl _ _).alloc (Nat.le_refl _) _).alloc (by simp) _).alloc (by simp; omega) _
  have CU := Lib.hid (fun w => (show Calls Tryz.prog 67 #[.int .i64 5] w fun e w' => e = .returned (.tuple #[.agg #[.int .i64 4, .bool true, .bool false], .bool true]) ∧ Below w.heap.size w w' from useOf_any 5 w))
  have CP := Lib.hid (fun w => (show Calls Tryz.prog 110 #[.int .i64 p, .int .i64 4] w fun e w' => e = .returned (.bool false) ∧ w = w' from by have := below_num p 4 w; rwa [decide_eq_false (by omega)] at this))
  clear cT hp
  go_enter Tryz.func72, Tryz.ntmps72
  unfold z25 at hW0
  go_wp2_with fail
  try rw [hW0]
  clear hW0
  go_wp2_with (go_at_call 67; (with_reducible refine (CU.out _).mono ?_); rintro e w1 ⟨rfl, b1⟩; have k0 := Shp.tn_on k0 b1; have s1 := Nat.lt_of_lt_of_le s0 b1.size; have z1 := below_up z0 z0.size b1; have f0 := Nm.rd_on f0 b1; have g0 := rd_on g0 b1)
  obtain ⟨W1, hW1⟩ : ∃ W, w1.alloc (.cells #[.int .i64 4, .bool true, .bool false] 140) = W := ⟨_, rfl⟩
  have B1 := Blk.new w1 140 #[.int .i64 4, .bool true, .bool false]
  have k1 := Shp.tn_on k0 (below_alloc_ w1 (.cells #[.int .i64 4, .bool true, .bool false] 140))
  have f1 := Nm.rd_on f0 (below_alloc_ w1 (.cells #[.int .i64 4, .bool true, .bool false] 140))
  have g1 := rd_on g0 (below_alloc_ w1 (.cells #[.int .i64 4, .bool true, .bool false] 140))
  have z1' := z1.alloc z1.size (.cells #[.int .i64 4, .bool true, .bool false] 140)
  have s1' : w1.heap.size < (w1.alloc (.cells #[.int .i64 4, .bool true, .bool false] 140)).heap.size := by simp
  rw [hW1] at B1 k1 f1 g1 z1' s1'
  rw [hW1]
  clear hW1 k0 f0 g0 z1 s0 z0
  obtain ⟨m, hm⟩ : ∃ m, w1.heap.size = m := ⟨_, rfl⟩
  rw [hm] at B1 s1 s1'
  rw [hm]
  clear hm b1
  have q1 : w.heap.size + 2 < W1.heap.size := by omega
  have r1 : w.heap.size + 1 < W1.heap.size := by omega
  have t1 : w.heap.size < W1.heap.size := by omega
  have u0 := B1.c 0
  have u1 := B1.c 1
  have u2 := B1.c 2
  simp at u0 u1 u2
  go_wp2_with (first
    | (go_at_call 110; (with_reducible refine (CP.out _).mono ?_); rintro e w2 ⟨rfl, rfl⟩))
  have hset := Shp.rd_set (S := kS) W1 (w.heap.size + 2) D.zK k1
  have z9 := below_setRow z1' (g := w.heap.size + 2) (by omega) (kS.v D.zK)
  exact bodyPost_ret (v := .tuple #[.agg (kS.v D.zK), .int .i64 5]) (by rw [results_cell_tmp rfl]; simp [asAddr, Result.andThen, lvk_of hset]) rfl ⟨rfl, z9⟩

set_option maxHeartbeats 4000000 in
theorem kof_a5 (cT : ∀ (x : D.Tg) (w : World), Calls Tryz.prog 112 #[.agg (nc x)] w fun e w' => e = .returned (.bool (D.right x)) ∧ Below w.heap.size w w') (q : Nat) (hp : q < 4) (a : Int) (ha : ¬ (0 ≤ a ∧ a < 4)) (n : Nm.D.Nm) (t : D.Tg) (w : World) :
    Calls Tryz.prog 72 #[.int .i64 5, .int .i64 (q : Int), .int .i64 a, .agg (Nm.nc n), .agg (nc t)] w fun e w' => e = .returned (.tuple #[.agg (kS.v D.zK), .int .i64 5]) ∧ Below w.heap.size w w' := by
  obtain ⟨W0, hW0⟩ : ∃ W, ((w.alloc (.cells (Nm.nc n) 33)).alloc (.cells (nc t) 37)).alloc (.cells z25 39) = W := ⟨_, rfl⟩
  have f0 : Nm.rd W0 ⟨w.heap.size, 0, none⟩ = some n := by rw [← hW0]; exact Nm.rd_on (Nm.rd_on (Nm.rd_new w _ _ n rfl) (below_alloc_ _ _)) (below_alloc_ _ _)
  have g0 : rd W0 ⟨w.heap.size + 1, 0, none⟩ = some t := by rw [← hW0]; exact rd_on (rd_new _ _ _ t (by simp)) (below_alloc_ _ _)
  have k0 : Shp.tn 25 W0 (w.heap.size + 2) = true := by rw [← hW0]; exact Shp.tn_new _ _ _ _ _ (by simp) rfl
  have s0 : w.heap.size + 2 < W0.heap.size := by rw [← hW0]; simp
  have z0 : Below w.heap.size w W0 := by rw [← hW0]; exact (((Below.refl _ _).alloc (Nat.le_refl _) _).alloc (by simp) _).alloc (by simp; omega) _
  have CU := Lib.hid (fun w => (show Calls Tryz.prog 67 #[.int .i64 5] w fun e w' => e = .returned (.tuple #[.agg #[.int .i64 4, .bool true, .bool false], .bool true]) ∧ Below w.heap.size w w' from useOf_any 5 w))
  have CP := Lib.hid (fun w => (show Calls Tryz.prog 110 #[.int .i64 (q : Int), .int .i64 4] w fun e w' => e = .returned (.bool true) ∧ w = w' from by have := below_num (q : Int) 4 w; rwa [decide_eq_true (by omega)] at this))
  have CA := Lib.hid (fun w => (show Calls Tryz.prog 110 #[.int .i64 a, .int .i64 4] w fun e w' => e = .returned (.bool false) ∧ w = w' from by have := below_num a 4 w; rwa [decide_eq_false (by omega)] at this))
  have hb : ∀ W, (bdk #[(0, .int .u8 5), (1, .int .u8 (q : Int))]).run Tryz.prog W = .ok (.agg (kS.v (D.mkK 5 q 0 Nm.D.zero D.zero))) W := fun W => run_bdk_2 W 5 q (by omega) (by omega)
  have hq : q % 256 = q := Nat.mod_eq_of_lt (by omega)
  have hqi : (q : Int) % 256 = q := by omega
  clear cT hp ha
  go_enter Tryz.func72, Tryz.ntmps72
  unfold z25 at hW0
  go_wp2_with fail
  try rw [hW0]
  clear hW0
  go_wp2_with (go_at_call 67; (with_reducible refine (CU.out _).mono ?_); rintro e w1 ⟨rfl, b1⟩; have k0 := Shp.tn_on k0 b1; have s1 := Nat.lt_of_lt_of_le s0 b1.size; have z1 := below_up z0 z0.size b1; have f0 := Nm.rd_on f0 b1; have g0 := rd_on g0 b1)
  obtain ⟨W1, hW1⟩ : ∃ W, w1.alloc (.cells #[.int .i64 4, .bool true, .bool false] 140) = W := ⟨_, rfl⟩
  have B1 := Blk.new w1 140 #[.int .i64 4, .bool true, .bool false]
  have k1 := Shp.tn_on k0 (below_alloc_ w1 (.cells #[.int .i64 4, .bool true, .bool false] 140))
  have f1 := Nm.rd_on f0 (below_alloc_ w1 (.cells #[.int .i64 4, .bool true, .bool false] 140))
  have g1 := rd_on g0 (below_alloc_ w1 (.cells #[.int .i64 4, .bool true, .bool false] 140))
  have z1' := z1.alloc z1.size (.cells #[.int .i64 4, .bool true, .bool false] 140)
  have s1' : w1.heap.size < (w1.alloc (.cells #[.int .i64 4, .bool true, .bool false] 140)).heap.size := by simp
  rw [hW1] at B1 k1 f1 g1 z1' s1'
  rw [hW1]
  clear hW1 k0 f0 g0 z1 s0 z0
  obtain ⟨m, hm⟩ : ∃ m, w1.heap.size = m := ⟨_, rfl⟩
  rw [hm] at B1 s1 s1'
  rw [hm]
  clear hm b1
  have q1 : w.heap.size + 2 < W1.heap.size := by omega
  have r1 : w.heap.size + 1 < W1.heap.size := by omega
  have t1 : w.heap.size < W1.heap.size := by omega
  have u0 := B1.c 0
  have u1 := B1.c 1
  have u2 := B1.c 2
  simp at u0 u1 u2
  go_wp2_with (first
    | (go_at_call 110; (with_reducible refine (CP.out _).mono ?_); rintro e w2 ⟨rfl, rfl⟩)
    | (go_at_call 110; (with_reducible refine (CA.out _).mono ?_); rintro e w3 ⟨rfl, rfl⟩))
  have hset := Shp.rd_set (S := kS) W1 (w.heap.size + 2) D.zK k1
  have z9 := below_setRow z1' (g := w.heap.size + 2) (by omega) (kS.v D.zK)
  exact bodyPost_ret (v := .tuple #[.agg (kS.v D.zK), .int .i64 5]) (by rw [results_cell_tmp rfl]; simp [asAddr, Result.andThen, lvk_of hset]) rfl ⟨rfl, z9⟩

set_option maxHeartbeats 4000000 in
theorem kof_n5 (cT : ∀ (x : D.Tg) (w : World), Calls Tryz.prog 112 #[.agg (nc x)] w fun e w' => e = .returned (.bool (D.right x)) ∧ Below w.heap.size w w') (q : Nat) (hp : q < 4) (b : Nat) (ha : b < 4) (n : Nm.D.Nm) (t : D.Tg) (hn : Nm.D.right n = false) (w : World) :
    Calls Tryz.prog 72 #[.int .i64 5, .int .i64 (q : Int), .int .i64 (b : Int), .agg (Nm.nc n), .agg (nc t)] w fun e w' => e = .returned (.tuple #[.agg (kS.v D.zK), .int .i64 15]) ∧ Below w.heap.size w w' := by
  obtain ⟨W0, hW0⟩ : ∃ W, ((w.alloc (.cells (Nm.nc n) 33)).alloc (.cells (nc t) 37)).alloc (.cells z25 39) = W := ⟨_, rfl⟩
  have f0 : Nm.rd W0 ⟨w.heap.size, 0, none⟩ = some n := by rw [← hW0]; exact Nm.rd_on (Nm.rd_on (Nm.rd_new w _ _ n rfl) (below_alloc_ _ _)) (below_alloc_ _ _)
  have g0 : rd W0 ⟨w.heap.size + 1, 0, none⟩ = some t := by rw [← hW0]; exact rd_on (rd_new _ _ _ t (by simp)) (below_alloc_ _ _)
  have k0 : Shp.tn 25 W0 (w.heap.size + 2) = true := by rw [← hW0]; exact Shp.tn_new _ _ _ _ _ (by simp) rfl
  have s0 : w.heap.size + 2 < W0.heap.size := by rw [← hW0]; simp
  have z0 : Below w.heap.size w W0 := by rw [← hW0]; exact (((Below.refl _ _).alloc (Nat.le_refl _) _).alloc (by simp) _).alloc (by simp; omega) _
  have CU := Lib.hid (fun w => (show Calls Tryz.prog 67 #[.int .i64 5] w fun e w' => e = .returned (.tuple #[.agg #[.int .i64 4, .bool true, .bool false], .bool true]) ∧ Below w.heap.size w w' from useOf_any 5 w))
  have CP := Lib.hid (fun w => (show Calls Tryz.prog 110 #[.int .i64 (q : Int), .int .i64 4] w fun e w' => e = .returned (.bool true) ∧ w = w' from by have := below_num (q : Int) 4 w; rwa [decide_eq_true (by omega)] at this))
  have CA := Lib.hid (fun w => (show Calls Tryz.prog 110 #[.int .i64 (b : Int), .int .i64 4] w fun e w' => e = .returned (.bool true) ∧ w = w' from by have := below_num (b : Int) 4 w; rwa [decide_eq_true (by omega)] at this))
  have CN := Lib.hid (fun w => (show Calls Tryz.prog 111 #[.agg (Nm.nc n)] w fun e w' => e = .returned (.bool false) ∧ Below w.heap.size w w' from by have := Nm.right_any n w; rwa [hn] at this))
  have hb : ∀ W, (bdk #[(0, .int .u8 5), (1, .int .u8 (q : Int))]).run Tryz.prog W = .ok (.agg (kS.v (D.mkK 5 q 0 Nm.D.zero D.zero))) W := fun W => run_bdk_2 W 5 q (by omega) (by omega)
  have hq : q % 256 = q := Nat.mod_eq_of_lt (by omega)
  have hqi : (q : Int) % 256 = q := by omega
  have hbi : (b : Int) % 256 = b := by omega
  have hs := fun (n : Nm.D.Nm) (t : D.Tg) => kset_a 5 q 0 n t b (by omega)
  clear cT hp ha hn
  go_enter Tryz.func72, Tryz.ntmps72
  unfold z25 at hW0
  go_wp2_with fail
  try rw [hW0]
  clear hW0
  go_wp2_with (go_at_call 67; (with_reducible refine (CU.out _).mono ?_); rintro e w1 ⟨rfl, b1⟩; have k0 := Shp.tn_on k0 b1; have s1 := Nat.lt_of_lt_of_le s0 b1.size; have z1 := below_up z0 z0.size b1; have f0 := Nm.rd_on f0 b1; have g0 := rd_on g0 b1)
  obtain ⟨W1, hW1⟩ : ∃ W, w1.alloc (.cells #[.int .i64 4, .bool true, .bool false] 140) = W := ⟨_, rfl⟩
  have B1 := Blk.new w1 140 #[.int .i64 4, .bool true, .bool false]
  have k1 := Shp.tn_on k0 (below_alloc_ w1 (.cells #[.int .i64 4, .bool true, .bool false] 140))
  have f1 := Nm.rd_on f0 (below_alloc_ w1 (.cells #[.int .i64 4, .bool true, .bool false] 140))
  have g1 := rd_on g0 (below_alloc_ w1 (.cells #[.int .i64 4, .bool true, .bool false] 140))
  have z1' := z1.alloc z1.size (.cells #[.int .i64 4, .bool true, .bool false] 140)
  have s1' : w1.heap.size < (w1.alloc (.cells #[.int .i64 4, .bool true, .bool false] 140)).heap.size := by simp
  rw [hW1] at B1 k1 f1 g1 z1' s1'
  rw [hW1]
  clear hW1 k0 f0 g0 z1 s0 z0
  obtain ⟨m, hm⟩ : ∃ m, w1.heap.size = m := ⟨_, rfl⟩
  rw [hm] at B1 s1 s1'
  rw [hm]
  clear hm b1
  have q1 : w.heap.size + 2 < W1.heap.size := by omega
  have r1 : w.heap.size + 1 < W1.heap.size := by omega
  have t1 : w.heap.size < W1.heap.size := by omega
  have u0 := B1.c 0
  have u1 := B1.c 1
  have u2 := B1.c 2
  simp at u0 u1 u2
  go_wp2_with (first
    | (go_at_call 110; (with_reducible refine (CP.out _).mono ?_); rintro e w2 ⟨rfl, rfl⟩)
    | (go_at_call 110; (with_reducible refine (CA.out _).mono ?_); rintro e w3 ⟨rfl, rfl⟩)
    | (go_at_call 111; (with_reducible refine (CN.out _).mono ?_); rintro e w4 ⟨rfl, b4⟩; have B4 := B1.on b4; have k4 := Shp.tn_on k1 b4; have f4 := Nm.rd_on f1 b4; have g4 := rd_on g1 b4; have z4' := below_up z1' z1'.size b4; have s4' := Nat.lt_of_lt_of_le s1' b4.size; have q4 := Nat.lt_of_lt_of_le q1 b4.size; have r4 := Nat.lt_of_lt_of_le r1 b4.size; have t4 := Nat.lt_of_lt_of_le t1 b4.size; have v0 := B4.c 0; have v1 := B4.c 1; have v2 := B4.c 2; simp at v0 v1 v2))
  have hset := Shp.rd_set (S := kS) w4 (w.heap.size + 2) D.zK k4
  have z9 := below_setRow z4' (g := w.heap.size + 2) (by omega) (kS.v D.zK)
  exact bodyPost_ret (v := .tuple #[.agg (kS.v D.zK), .int .i64 15]) (by rw [results_cell_tmp rfl]; simp [asAddr, Result.andThen, lvk_of hset]) rfl ⟨rfl, z9⟩

set_option maxHeartbeats 4000000 in
theorem kof_ok5 (cT : ∀ (x : D.Tg) (w : World), Calls Tryz.prog 112 #[.agg (nc x)] w fun e w' => e = .returned (.bool (D.right x)) ∧ Below w.heap.size w w') (q : Nat) (hp : q < 4) (b : Nat) (ha : b < 4) (n : Nm.D.Nm) (t : D.Tg) (hn : Nm.D.right n = true) (w : World) :
    Calls Tryz.prog 72 #[.int .i64 5, .int .i64 (q : Int), .int .i64 (b : Int), .agg (Nm.nc n), .agg (nc t)] w fun e w' => e = .returned (.tuple #[.agg (kS.v (D.mkK 5 q b n D.zero)), .int .i64 0]) ∧ Below w.heap.size w w' := by
  obtain ⟨W0, hW0⟩ : ∃ W, ((w.alloc (.cells (Nm.nc n) 33)).alloc (.cells (nc t) 37)).alloc (.cells z25 39) = W := ⟨_, rfl⟩
  have f0 : Nm.rd W0 ⟨w.heap.size, 0, none⟩ = some n := by rw [← hW0]; exact Nm.rd_on (Nm.rd_on (Nm.rd_new w _ _ n rfl) (below_alloc_ _ _)) (below_alloc_ _ _)
  have g0 : rd W0 ⟨w.heap.size + 1, 0, none⟩ = some t := by rw [← hW0]; exact rd_on (rd_new _ _ _ t (by simp)) (below_alloc_ _ _)
  have k0 : Shp.tn 25 W0 (w.heap.size + 2) = true := by rw [← hW0]; exact Shp.tn_new _ _ _ _ _ (by simp) rfl
  have s0 : w.heap.size + 2 < W0.heap.size := by rw [← hW0]; simp
  have z0 : Below w.heap.size w W0 := by rw [← hW0]; exact (((Below.refl _ _).alloc (Nat.le_refl _) _).alloc (by simp) _).alloc (by simp; omega) _
  have CU := Lib.hid (fun w => (show Calls Tryz.prog 67 #[.int .i64 5] w fun e w' => e = .returned (.tuple #[.agg #[.int .i64 4, .bool true, .bool false], .bool true]) ∧ Below w.heap.size w w' from useOf_any 5 w))
  have CP := Lib.hid (fun w => (show Calls Tryz.prog 110 #[.int .i64 (q : Int), .int .i64 4] w fun e w' => e = .returned (.bool true) ∧ w = w' from by have := below_num (q : Int) 4 w; rwa [decide_eq_true (by omega)] at this))
  have CA := Lib.hid (fun w => (show Calls Tryz.prog 110 #[.int .i64 (b : Int), .int .i64 4] w fun e w' => e = .returned (.bool true) ∧ w = w' from by have := below_num (b : Int) 4 w; rwa [decide_eq_true (by omega)] at this))
  have CN := Lib.hid (fun w => (show Calls Tryz.prog 111 #[.agg (Nm.nc n)] w fun e w' => e = .returned (.bool true) ∧ Below w.heap.size w w' from by have := Nm.right_any n w; rwa [hn] at this))
  have hb : ∀ W, (bdk #[(0, .int .u8 5), (1, .int .u8 (q : Int))]).run Tryz.prog W = .ok (.agg (kS.v (D.mkK 5 q 0 Nm.D.zero D.zero))) W := fun W => run_bdk_2 W 5 q (by omega) (by omega)
  have hq : q % 256 = q := Nat.mod_eq_of_lt (by omega)
  have hqi : (q : Int) % 256 = q := by omega
  have hbi : (b : Int) % 256 = b := by omega
  have hs := fun (n : Nm.D.Nm) (t : D.Tg) => kset_a 5 q 0 n t b (by omega)
  clear cT hp ha hn
  go_enter Tryz.func72, Tryz.ntmps72
  unfold z25 at hW0
  go_wp2_with fail
  try rw [hW0]
  clear hW0
  go_wp2_with (go_at_call 67; (with_reducible refine (CU.out _).mono ?_); rintro e w1 ⟨rfl, b1⟩; have k0 := Shp.tn_on k0 b1; have s1 := Nat.lt_of_lt_of_le s0 b1.size; have z1 := below_up z0 z0.size b1; have f0 := Nm.rd_on f0 b1; have g0 := rd_on g0 b1)
  obtain ⟨W1, hW1⟩ : ∃ W, w1.alloc (.cells #[.int .i64 4, .bool true, .bool false] 140) = W := ⟨_, rfl⟩
  have B1 := Blk.new w1 140 #[.int .i64 4, .bool true, .bool false]
  have k1 := Shp.tn_on k0 (below_alloc_ w1 (.cells #[.int .i64 4, .bool true, .bool false] 140))
  have f1 := Nm.rd_on f0 (below_alloc_ w1 (.cells #[.int .i64 4, .bool true, .bool false] 140))
  have g1 := rd_on g0 (below_alloc_ w1 (.cells #[.int .i64 4, .bool true, .bool false] 140))
  have z1' := z1.alloc z1.size (.cells #[.int .i64 4, .bool true, .bool false] 140)
  have s1' : w1.heap.size < (w1.alloc (.cells #[.int .i64 4, .bool true, .bool false] 140)).heap.size := by simp
  rw [hW1] at B1 k1 f1 g1 z1' s1'
  rw [hW1]
  clear hW1 k0 f0 g0 z1 s0 z0
  obtain ⟨m, hm⟩ : ∃ m, w1.heap.size = m := ⟨_, rfl⟩
  rw [hm] at B1 s1 s1'
  rw [hm]
  clear hm b1
  have q1 : w.heap.size + 2 < W1.heap.size := by omega
  have r1 : w.heap.size + 1 < W1.heap.size := by omega
  have t1 : w.heap.size < W1.heap.size := by omega
  have u0 := B1.c 0
  have u1 := B1.c 1
  have u2 := B1.c 2
  simp at u0 u1 u2
  go_wp2_with (first
    | (go_at_call 110; (with_reducible refine (CP.out _).mono ?_); rintro e w2 ⟨rfl, rfl⟩)
    | (go_at_call 110; (with_reducible refine (CA.out _).mono ?_); rintro e w3 ⟨rfl, rfl⟩)
    | (go_at_call 111; (with_reducible refine (CN.out _).mono ?_); rintro e w4 ⟨rfl, b4⟩; have B4 := B1.on b4; have k4 := Shp.tn_on k1 b4; have f4 := Nm.rd_on f1 b4; have g4 := rd_on g1 b4; have z4' := below_up z1' z1'.size b4; have s4' := Nat.lt_of_lt_of_le s1' b4.size; have q4 := Nat.lt_of_lt_of_le q1 b4.size; have r4 := Nat.lt_of_lt_of_le r1 b4.size; have t4 := Nat.lt_of_lt_of_le t1 b4.size; have v0 := B4.c 0; have v1 := B4.c 1; have v2 := B4.c 2; simp at v0 v1 v2))
  have hset := Shp.rd_set (S := kS) (w4.alloc (.cells (kS.v (D.mkK 5 q b n D.zero)) 39)) (w.heap.size + 2) (D.mkK 5 q b n D.zero) (Shp.tn_on k4 (below_alloc_ _ _))
  have z9 := below_setRow (z4'.alloc z4'.size (.cells (kS.v (D.mkK 5 q b n D.zero)) 39)) (g := w.heap.size + 2) (by omega) (kS.v (D.mkK 5 q b n D.zero))
  exact bodyPost_ret (v := .tuple #[.agg (kS.v (D.mkK 5 q b n D.zero)), .int .i64 0]) (by rw [results_cell_tmp rfl]; simp [asAddr, Result.andThen, lvk_of hset]) rfl ⟨rfl, z9⟩

set_option maxHeartbeats 4000000 in
theorem kof_p6 (cT : ∀ (x : D.Tg) (w : World), Calls Tryz.prog 112 #[.agg (nc x)] w fun e w' => e = .returned (.bool (D.right x)) ∧ Below w.heap.size w w') (p : Int) (hp : ¬ (0 ≤ p ∧ p < 4)) (a : Int) (n : Nm.D.Nm) (t : D.Tg) (w : World) :
    Calls Tryz.prog 72 #[.int .i64 6, .int .i64 p, .int .i64 a, .agg (Nm.nc n), .agg (nc t)] w fun e w' => e = .returned (.tuple #[.agg (kS.v D.zK), .int .i64 5]) ∧ Below w.heap.size w w' := by
  obtain ⟨W0, hW0⟩ : ∃ W, ((w.alloc (.cells (Nm.nc n) 33)).alloc (.cells (nc t) 37)).alloc (.cells z25 39) = W := ⟨_, rfl⟩
  have f0 : Nm.rd W0 ⟨w.heap.size, 0, none⟩ = some n := by rw [← hW0]; exact Nm.rd_on (Nm.rd_on (Nm.rd_new w _ _ n rfl) (below_alloc_ _ _)) (below_alloc_ _ _)
  have g0 : rd W0 ⟨w.heap.size + 1, 0, none⟩ = some t := by rw [← hW0]; exact rd_on (rd_new _ _ _ t (by simp)) (below_alloc_ _ _)
  have k0 : Shp.tn 25 W0 (w.heap.size + 2) = true := by rw [← hW0]; exact Shp.tn_new _ _ _ _ _ (by simp) rfl
  have s0 : w.heap.size + 2 < W0.heap.size := by rw [← hW0]; simp
  have z0 : Below w.heap.size w W0 := by rw [← hW0]; exact (((Below.refl _ _).alloc (Nat.le_refl _) _).alloc (by simp) _).alloc (by simp; omega) _
  have CU := Lib.hid (fun w => (show Calls Tryz.prog 67 #[.int .i64 6] w fun e w' => e = .returned (.tuple #[.agg #[.int .i64 4, .bool true, .bool true], .bool true]) ∧ Below w.heap.size w w' from useOf_any 6 w))
  have CP := Lib.hid (fun w => (show Calls Tryz.prog 110 #[.int .i64 p, .int .i64 4] w fun e w' => e = .returned (.bool false) ∧ w = w' from by have := below_num p 4 w; rwa [decide_eq_false (by omega)] at this))
  clear cT hp
  go_enter Tryz.func72, Tryz.ntmps72
  unfold z25 at hW0
  go_wp2_with fail
  try rw [hW0]
  clear hW0
  go_wp2_with (go_at_call 67; (with_reducible refine (CU.out _).mono ?_); rintro e w1 ⟨rfl, b1⟩; have k0 := Shp.tn_on k0 b1; have s1 := Nat.lt_of_lt_of_le s0 b1.size; have z1 := below_up z0 z0.size b1; have f0 := Nm.rd_on f0 b1; have g0 := rd_on g0 b1)
  obtain ⟨W1, hW1⟩ : ∃ W, w1.alloc (.cells #[.int .i64 4, .bool true, .bool true] 140) = W := ⟨_, rfl⟩
  have B1 := Blk.new w1 140 #[.int .i64 4, .bool true, .bool true]
  have k1 := Shp.tn_on k0 (below_alloc_ w1 (.cells #[.int .i64 4, .bool true, .bool true] 140))
  have f1 := Nm.rd_on f0 (below_alloc_ w1 (.cells #[.int .i64 4, .bool true, .bool true] 140))
  have g1 := rd_on g0 (below_alloc_ w1 (.cells #[.int .i64 4, .bool true, .bool true] 140))
  have z1' := z1.alloc z1.size (.cells #[.int .i64 4, .bool true, .bool true] 140)
  have s1' : w1.heap.size < (w1.alloc (.cells #[.int .i64 4, .bool true, .bool true] 140)).heap.size := by simp
  rw [hW1] at B1 k1 f1 g1 z1' s1'
  rw [hW1]
  clear hW1 k0 f0 g0 z1 s0 z0
  obtain ⟨m, hm⟩ : ∃ m, w1.heap.size = m := ⟨_, rfl⟩
  rw [hm] at B1 s1 s1'
  rw [hm]
  clear hm b1
  have q1 : w.heap.size + 2 < W1.heap.size := by omega
  have r1 : w.heap.size + 1 < W1.heap.size := by omega
  have t1 : w.heap.size < W1.heap.size := by omega
  have u0 := B1.c 0
  have u1 := B1.c 1
  have u2 := B1.c 2
  simp at u0 u1 u2
  go_wp2_with (first
    | (go_at_call 110; (with_reducible refine (CP.out _).mono ?_); rintro e w2 ⟨rfl, rfl⟩))
  have hset := Shp.rd_set (S := kS) W1 (w.heap.size + 2) D.zK k1
  have z9 := below_setRow z1' (g := w.heap.size + 2) (by omega) (kS.v D.zK)
  exact bodyPost_ret (v := .tuple #[.agg (kS.v D.zK), .int .i64 5]) (by rw [results_cell_tmp rfl]; simp [asAddr, Result.andThen, lvk_of hset]) rfl ⟨rfl, z9⟩

set_option maxHeartbeats 4000000 in
theorem kof_a6 (cT : ∀ (x : D.Tg) (w : World), Calls Tryz.prog 112 #[.agg (nc x)] w fun e w' => e = .returned (.bool (D.right x)) ∧ Below w.heap.size w w') (q : Nat) (hp : q < 4) (a : Int) (ha : ¬ (0 ≤ a ∧ a < 4)) (n : Nm.D.Nm) (t : D.Tg) (w : World) :
    Calls Tryz.prog 72 #[.int .i64 6, .int .i64 (q : Int), .int .i64 a, .agg (Nm.nc n), .agg (nc t)] w fun e w' => e = .returned (.tuple #[.agg (kS.v D.zK), .int .i64 5]) ∧ Below w.heap.size w w' := by
  obtain ⟨W0, hW0⟩ : ∃ W, ((w.alloc (.cells (Nm.nc n) 33)).alloc (.cells (nc t) 37)).alloc (.cells z25 39) = W := ⟨_, rfl⟩
  have f0 : Nm.rd W0 ⟨w.heap.size, 0, none⟩ = some n := by rw [← hW0]; exact Nm.rd_on (Nm.rd_on (Nm.rd_new w _ _ n rfl) (below_alloc_ _ _)) (below_alloc_ _ _)
  have g0 : rd W0 ⟨w.heap.size + 1, 0, none⟩ = some t := by rw [← hW0]; exact rd_on (rd_new _ _ _ t (by simp)) (below_alloc_ _ _)
  have k0 : Shp.tn 25 W0 (w.heap.size + 2) = true := by rw [← hW0]; exact Shp.tn_new _ _ _ _ _ (by simp) rfl
  have s0 : w.heap.size + 2 < W0.heap.size := by rw [← hW0]; simp
  have z0 : Below w.heap.size w W0 := by rw [← hW0]; exact (((Below.refl _ _).alloc (Nat.le_refl _) _).alloc (by simp) _).alloc (by simp; omega) _
  have CU := Lib.hid (fun w => (show Calls Tryz.prog 67 #[.int .i64 6] w fun e w' => e = .returned (.tuple #[.agg #[.int .i64 4, .bool true, .bool true], .bool true]) ∧ Below w.heap.size w w' from useOf_any 6 w))
  have CP := Lib.hid (fun w => (show Calls Tryz.prog 110 #[.int .i64 (q : Int), .int .i64 4] w fun e w' => e = .returned (.bool true) ∧ w = w' from by have := below_num (q : Int) 4 w; rwa [decide_eq_true (by omega)] at this))
  have CA := Lib.hid (fun w => (show Calls Tryz.prog 110 #[.int .i64 a, .int .i64 4] w fun e w' => e = .returned (.bool false) ∧ w = w' from by have := below_num a 4 w; rwa [decide_eq_false (by omega)] at this))
  have hb : ∀ W, (bdk #[(0, .int .u8 6), (1, .int .u8 (q : Int))]).run Tryz.prog W = .ok (.agg (kS.v (D.mkK 6 q 0 Nm.D.zero D.zero))) W := fun W => run_bdk_2 W 6 q (by omega) (by omega)
  have hq : q % 256 = q := Nat.mod_eq_of_lt (by omega)
  have hqi : (q : Int) % 256 = q := by omega
  clear cT hp ha
  go_enter Tryz.func72, Tryz.ntmps72
  unfold z25 at hW0
  go_wp2_with fail
  try rw [hW0]
  clear hW0
  go_wp2_with (go_at_call 67; (with_reducible refine (CU.out _).mono ?_); rintro e w1 ⟨rfl, b1⟩; have k0 := Shp.tn_on k0 b1; have s1 := Nat.lt_of_lt_of_le s0 b1.size; have z1 := below_up z0 z0.size b1; have f0 := Nm.rd_on f0 b1; have g0 := rd_on g0 b1)
  obtain ⟨W1, hW1⟩ : ∃ W, w1.alloc (.cells #[.int .i64 4, .bool true, .bool true] 140) = W := ⟨_, rfl⟩
  have B1 := Blk.new w1 140 #[.int .i64 4, .bool true, .bool true]
  have k1 := Shp.tn_on k0 (below_alloc_ w1 (.cells #[.int .i64 4, .bool true, .bool true] 140))
  have f1 := Nm.rd_on f0 (below_alloc_ w1 (.cells #[.int .i64 4, .bool true, .bool true] 140))
  have g1 := rd_on g0 (below_alloc_ w1 (.cells #[.int .i64 4, .bool true, .bool true] 140))
  have z1' := z1.alloc z1.size (.cells #[.int .i64 4, .bool true, .bool true] 140)
  have s1' : w1.heap.size < (w1.alloc (.cells #[.int .i64 4, .bool true, .bool true] 140)).heap.size := by simp
  rw [hW1] at B1 k1 f1 g1 z1' s1'
  rw [hW1]
  clear hW1 k0 f0 g0 z1 s0 z0
  obtain ⟨m, hm⟩ : ∃ m, w1.heap.size = m := ⟨_, rfl⟩
  rw [hm] at B1 s1 s1'
  rw [hm]
  clear hm b1
  have q1 : w.heap.size + 2 < W1.heap.size := by omega
  have r1 : w.heap.size + 1 < W1.heap.size := by omega
  have t1 : w.heap.size < W1.heap.size := by omega
  have u0 := B1.c 0
  have u1 := B1.c 1
  have u2 := B1.c 2
  simp at u0 u1 u2
  go_wp2_with (first
    | (go_at_call 110; (with_reducible refine (CP.out _).mono ?_); rintro e w2 ⟨rfl, rfl⟩)
    | (go_at_call 110; (with_reducible refine (CA.out _).mono ?_); rintro e w3 ⟨rfl, rfl⟩))
  have hset := Shp.rd_set (S := kS) W1 (w.heap.size + 2) D.zK k1
  have z9 := below_setRow z1' (g := w.heap.size + 2) (by omega) (kS.v D.zK)
  exact bodyPost_ret (v := .tuple #[.agg (kS.v D.zK), .int .i64 5]) (by rw [results_cell_tmp rfl]; simp [asAddr, Result.andThen, lvk_of hset]) rfl ⟨rfl, z9⟩

set_option maxHeartbeats 4000000 in
theorem kof_n6 (cT : ∀ (x : D.Tg) (w : World), Calls Tryz.prog 112 #[.agg (nc x)] w fun e w' => e = .returned (.bool (D.right x)) ∧ Below w.heap.size w w') (q : Nat) (hp : q < 4) (b : Nat) (ha : b < 4) (n : Nm.D.Nm) (t : D.Tg) (hn : Nm.D.right n = false) (w : World) :
    Calls Tryz.prog 72 #[.int .i64 6, .int .i64 (q : Int), .int .i64 (b : Int), .agg (Nm.nc n), .agg (nc t)] w fun e w' => e = .returned (.tuple #[.agg (kS.v D.zK), .int .i64 15]) ∧ Below w.heap.size w w' := by
  obtain ⟨W0, hW0⟩ : ∃ W, ((w.alloc (.cells (Nm.nc n) 33)).alloc (.cells (nc t) 37)).alloc (.cells z25 39) = W := ⟨_, rfl⟩
  have f0 : Nm.rd W0 ⟨w.heap.size, 0, none⟩ = some n := by rw [← hW0]; exact Nm.rd_on (Nm.rd_on (Nm.rd_new w _ _ n rfl) (below_alloc_ _ _)) (below_alloc_ _ _)
  have g0 : rd W0 ⟨w.heap.size + 1, 0, none⟩ = some t := by rw [← hW0]; exact rd_on (rd_new _ _ _ t (by simp)) (below_alloc_ _ _)
  have k0 : Shp.tn 25 W0 (w.heap.size + 2) = true := by rw [← hW0]; exact Shp.tn_new _ _ _ _ _ (by simp) rfl
  have s0 : w.heap.size + 2 < W0.heap.size := by rw [← hW0]; simp
  have z0 : Below w.heap.size w W0 := by rw [← hW0]; exact (((Below.refl _ _).alloc (Nat.le_refl _) _).alloc (by simp) _).alloc (by simp; omega) _
  have CU := Lib.hid (fun w => (show Calls Tryz.prog 67 #[.int .i64 6] w fun e w' => e = .returned (.tuple #[.agg #[.int .i64 4, .bool true, .bool true], .bool true]) ∧ Below w.heap.size w w' from useOf_any 6 w))
  have CP := Lib.hid (fun w => (show Calls Tryz.prog 110 #[.int .i64 (q : Int), .int .i64 4] w fun e w' => e = .returned (.bool true) ∧ w = w' from by have := below_num (q : Int) 4 w; rwa [decide_eq_true (by omega)] at this))
  have CA := Lib.hid (fun w => (show Calls Tryz.prog 110 #[.int .i64 (b : Int), .int .i64 4] w fun e w' => e = .returned (.bool true) ∧ w = w' from by have := below_num (b : Int) 4 w; rwa [decide_eq_true (by omega)] at this))
  have CN := Lib.hid (fun w => (show Calls Tryz.prog 111 #[.agg (Nm.nc n)] w fun e w' => e = .returned (.bool false) ∧ Below w.heap.size w w' from by have := Nm.right_any n w; rwa [hn] at this))
  have hb : ∀ W, (bdk #[(0, .int .u8 6), (1, .int .u8 (q : Int))]).run Tryz.prog W = .ok (.agg (kS.v (D.mkK 6 q 0 Nm.D.zero D.zero))) W := fun W => run_bdk_2 W 6 q (by omega) (by omega)
  have hq : q % 256 = q := Nat.mod_eq_of_lt (by omega)
  have hqi : (q : Int) % 256 = q := by omega
  have hbi : (b : Int) % 256 = b := by omega
  have hs := fun (n : Nm.D.Nm) (t : D.Tg) => kset_a 6 q 0 n t b (by omega)
  clear cT hp ha hn
  go_enter Tryz.func72, Tryz.ntmps72
  unfold z25 at hW0
  go_wp2_with fail
  try rw [hW0]
  clear hW0
  go_wp2_with (go_at_call 67; (with_reducible refine (CU.out _).mono ?_); rintro e w1 ⟨rfl, b1⟩; have k0 := Shp.tn_on k0 b1; have s1 := Nat.lt_of_lt_of_le s0 b1.size; have z1 := below_up z0 z0.size b1; have f0 := Nm.rd_on f0 b1; have g0 := rd_on g0 b1)
  obtain ⟨W1, hW1⟩ : ∃ W, w1.alloc (.cells #[.int .i64 4, .bool true, .bool true] 140) = W := ⟨_, rfl⟩
  have B1 := Blk.new w1 140 #[.int .i64 4, .bool true, .bool true]
  have k1 := Shp.tn_on k0 (below_alloc_ w1 (.cells #[.int .i64 4, .bool true, .bool true] 140))
  have f1 := Nm.rd_on f0 (below_alloc_ w1 (.cells #[.int .i64 4, .bool true, .bool true] 140))
  have g1 := rd_on g0 (below_alloc_ w1 (.cells #[.int .i64 4, .bool true, .bool true] 140))
  have z1' := z1.alloc z1.size (.cells #[.int .i64 4, .bool true, .bool true] 140)
  have s1' : w1.heap.size < (w1.alloc (.cells #[.int .i64 4, .bool true, .bool true] 140)).heap.size := by simp
  rw [hW1] at B1 k1 f1 g1 z1' s1'
  rw [hW1]
  clear hW1 k0 f0 g0 z1 s0 z0
  obtain ⟨m, hm⟩ : ∃ m, w1.heap.size = m := ⟨_, rfl⟩
  rw [hm] at B1 s1 s1'
  rw [hm]
  clear hm b1
  have q1 : w.heap.size + 2 < W1.heap.size := by omega
  have r1 : w.heap.size + 1 < W1.heap.size := by omega
  have t1 : w.heap.size < W1.heap.size := by omega
  have u0 := B1.c 0
  have u1 := B1.c 1
  have u2 := B1.c 2
  simp at u0 u1 u2
  go_wp2_with (first
    | (go_at_call 110; (with_reducible refine (CP.out _).mono ?_); rintro e w2 ⟨rfl, rfl⟩)
    | (go_at_call 110; (with_reducible refine (CA.out _).mono ?_); rintro e w3 ⟨rfl, rfl⟩)
    | (go_at_call 111; (with_reducible refine (CN.out _).mono ?_); rintro e w4 ⟨rfl, b4⟩; have B4 := B1.on b4; have k4 := Shp.tn_on k1 b4; have f4 := Nm.rd_on f1 b4; have g4 := rd_on g1 b4; have z4' := below_up z1' z1'.size b4; have s4' := Nat.lt_of_lt_of_le s1' b4.size; have q4 := Nat.lt_of_lt_of_le q1 b4.size; have r4 := Nat.lt_of_lt_of_le r1 b4.size; have t4 := Nat.lt_of_lt_of_le t1 b4.size; have v0 := B4.c 0; have v1 := B4.c 1; have v2 := B4.c 2; simp at v0 v1 v2))
  have hset := Shp.rd_set (S := kS) w4 (w.heap.size + 2) D.zK k4
  have z9 := below_setRow z4' (g := w.heap.size + 2) (by omega) (kS.v D.zK)
  exact bodyPost_ret (v := .tuple #[.agg (kS.v D.zK), .int .i64 15]) (by rw [results_cell_tmp rfl]; simp [asAddr, Result.andThen, lvk_of hset]) rfl ⟨rfl, z9⟩

set_option maxHeartbeats 4000000 in
theorem kof_z6 (cT : ∀ (x : D.Tg) (w : World), Calls Tryz.prog 112 #[.agg (nc x)] w fun e w' => e = .returned (.bool (D.right x)) ∧ Below w.heap.size w w') (q : Nat) (hp : q < 4) (b : Nat) (ha : b < 4) (n : Nm.D.Nm) (t : D.Tg) (hn : Nm.D.right n = true) (ht : sm t D.zero = true) (w : World) :
    Calls Tryz.prog 72 #[.int .i64 6, .int .i64 (q : Int), .int .i64 (b : Int), .agg (Nm.nc n), .agg (nc t)] w fun e w' => e = .returned (.tuple #[.agg (kS.v D.zK), .int .i64 14]) ∧ Below w.heap.size w w' := by
  obtain ⟨W0, hW0⟩ : ∃ W, ((w.alloc (.cells (Nm.nc n) 33)).alloc (.cells (nc t) 37)).alloc (.cells z25 39) = W := ⟨_, rfl⟩
  have f0 : Nm.rd W0 ⟨w.heap.size, 0, none⟩ = some n := by rw [← hW0]; exact Nm.rd_on (Nm.rd_on (Nm.rd_new w _ _ n rfl) (below_alloc_ _ _)) (below_alloc_ _ _)
  have g0 : rd W0 ⟨w.heap.size + 1, 0, none⟩ = some t := by rw [← hW0]; exact rd_on (rd_new _ _ _ t (by simp)) (below_alloc_ _ _)
  have k0 : Shp.tn 25 W0 (w.heap.size + 2) = true := by rw [← hW0]; exact Shp.tn_new _ _ _ _ _ (by simp) rfl
  have s0 : w.heap.size + 2 < W0.heap.size := by rw [← hW0]; simp
  have z0 : Below w.heap.size w W0 := by rw [← hW0]; exact (((Below.refl _ _).alloc (Nat.le_refl _) _).alloc (by simp) _).alloc (by simp; omega) _
  have CU := Lib.hid (fun w => (show Calls Tryz.prog 67 #[.int .i64 6] w fun e w' => e = .returned (.tuple #[.agg #[.int .i64 4, .bool true, .bool true], .bool true]) ∧ Below w.heap.size w w' from useOf_any 6 w))
  have CP := Lib.hid (fun w => (show Calls Tryz.prog 110 #[.int .i64 (q : Int), .int .i64 4] w fun e w' => e = .returned (.bool true) ∧ w = w' from by have := below_num (q : Int) 4 w; rwa [decide_eq_true (by omega)] at this))
  have CA := Lib.hid (fun w => (show Calls Tryz.prog 110 #[.int .i64 (b : Int), .int .i64 4] w fun e w' => e = .returned (.bool true) ∧ w = w' from by have := below_num (b : Int) 4 w; rwa [decide_eq_true (by omega)] at this))
  have CN := Lib.hid (fun w => (show Calls Tryz.prog 111 #[.agg (Nm.nc n)] w fun e w' => e = .returned (.bool true) ∧ Below w.heap.size w w' from by have := Nm.right_any n w; rwa [hn] at this))
  have hb : ∀ W, (bdk #[(0, .int .u8 6), (1, .int .u8 (q : Int))]).run Tryz.prog W = .ok (.agg (kS.v (D.mkK 6 q 0 Nm.D.zero D.zero))) W := fun W => run_bdk_2 W 6 q (by omega) (by omega)
  have hq : q % 256 = q := Nat.mod_eq_of_lt (by omega)
  have hqi : (q : Int) % 256 = q := by omega
  have hbi : (b : Int) % 256 = b := by omega
  have hs := fun (n : Nm.D.Nm) (t : D.Tg) => kset_a 6 q 0 n t b (by omega)
  clear cT hp ha hn
  go_enter Tryz.func72, Tryz.ntmps72
  unfold z25 at hW0
  go_wp2_with fail
  try rw [hW0]
  clear hW0
  go_wp2_with (go_at_call 67; (with_reducible refine (CU.out _).mono ?_); rintro e w1 ⟨rfl, b1⟩; have k0 := Shp.tn_on k0 b1; have s1 := Nat.lt_of_lt_of_le s0 b1.size; have z1 := below_up z0 z0.size b1; have f0 := Nm.rd_on f0 b1; have g0 := rd_on g0 b1)
  obtain ⟨W1, hW1⟩ : ∃ W, w1.alloc (.cells #[.int .i64 4, .bool true, .bool true] 140) = W := ⟨_, rfl⟩
  have B1 := Blk.new w1 140 #[.int .i64 4, .bool true, .bool true]
  have k1 := Shp.tn_on k0 (below_alloc_ w1 (.cells #[.int .i64 4, .bool true, .bool true] 140))
  have f1 := Nm.rd_on f0 (below_alloc_ w1 (.cells #[.int .i64 4, .bool true, .bool true] 140))
  have g1 := rd_on g0 (below_alloc_ w1 (.cells #[.int .i64 4, .bool true, .bool true] 140))
  have z1' := z1.alloc z1.size (.cells #[.int .i64 4, .bool true, .bool true] 140)
  have s1' : w1.heap.size < (w1.alloc (.cells #[.int .i64 4, .bool true, .bool true] 140)).heap.size := by simp
  rw [hW1] at B1 k1 f1 g1 z1' s1'
  rw [hW1]
  clear hW1 k0 f0 g0 z1 s0 z0
  obtain ⟨m, hm⟩ : ∃ m, w1.heap.size = m := ⟨_, rfl⟩
  rw [hm] at B1 s1 s1'
  rw [hm]
  clear hm b1
  have q1 : w.heap.size + 2 < W1.heap.size := by omega
  have r1 : w.heap.size + 1 < W1.heap.size := by omega
  have t1 : w.heap.size < W1.heap.size := by omega
  have u0 := B1.c 0
  have u1 := B1.c 1
  have u2 := B1.c 2
  simp at u0 u1 u2
  go_wp2_with (first
    | (go_at_call 110; (with_reducible refine (CP.out _).mono ?_); rintro e w2 ⟨rfl, rfl⟩)
    | (go_at_call 110; (with_reducible refine (CA.out _).mono ?_); rintro e w3 ⟨rfl, rfl⟩)
    | (go_at_call 111; (with_reducible refine (CN.out _).mono ?_); rintro e w4 ⟨rfl, b4⟩; have B4 := B1.on b4; have k4 := Shp.tn_on k1 b4; have f4 := Nm.rd_on f1 b4; have g4 := rd_on g1 b4; have z4' := below_up z1' z1'.size b4; have s4' := Nat.lt_of_lt_of_le s1' b4.size; have q4 := Nat.lt_of_lt_of_le q1 b4.size; have r4 := Nat.lt_of_lt_of_le r1 b4.size; have t4 := Nat.lt_of_lt_of_le t1 b4.size; have v0 := B4.c 0; have v1 := B4.c 1; have v2 := B4.c 2; simp at v0 v1 v2))
  have hset := Shp.rd_set (S := kS) w4 (w.heap.size + 2) D.zK k4
  have z9 := below_setRow z4' (g := w.heap.size + 2) (by omega) (kS.v D.zK)
  exact bodyPost_ret (v := .tuple #[.agg (kS.v D.zK), .int .i64 14]) (by rw [results_cell_tmp rfl]; simp [asAddr, Result.andThen, lvk_of hset]) rfl ⟨rfl, z9⟩

set_option maxHeartbeats 4000000 in
theorem kof_w6 (cT : ∀ (x : D.Tg) (w : World), Calls Tryz.prog 112 #[.agg (nc x)] w fun e w' => e = .returned (.bool (D.right x)) ∧ Below w.heap.size w w') (q : Nat) (hp : q < 4) (b : Nat) (ha : b < 4) (n : Nm.D.Nm) (t : D.Tg) (hn : Nm.D.right n = true) (ht : sm t D.zero = false) (hr : D.right t = false) (w : World) :
    Calls Tryz.prog 72 #[.int .i64 6, .int .i64 (q : Int), .int .i64 (b : Int), .agg (Nm.nc n), .agg (nc t)] w fun e w' => e = .returned (.tuple #[.agg (kS.v D.zK), .int .i64 14]) ∧ Below w.heap.size w w' := by
  obtain ⟨W0, hW0⟩ : ∃ W, ((w.alloc (.cells (Nm.nc n) 33)).alloc (.cells (nc t) 37)).alloc (.cells z25 39) = W := ⟨_, rfl⟩
  have f0 : Nm.rd W0 ⟨w.heap.size, 0, none⟩ = some n := by rw [← hW0]; exact Nm.rd_on (Nm.rd_on (Nm.rd_new w _ _ n rfl) (below_alloc_ _ _)) (below_alloc_ _ _)
  have g0 : rd W0 ⟨w.heap.size + 1, 0, none⟩ = some t := by rw [← hW0]; exact rd_on (rd_new _ _ _ t (by simp)) (below_alloc_ _ _)
  have k0 : Shp.tn 25 W0 (w.heap.size + 2) = true := by rw [← hW0]; exact Shp.tn_new _ _ _ _ _ (by simp) rfl
  have s0 : w.heap.size + 2 < W0.heap.size := by rw [← hW0]; simp
  have z0 : Below w.heap.size w W0 := by rw [← hW0]; exact (((Below.refl _ _).alloc (Nat.le_refl _) _).alloc (by simp) _).alloc (by simp; omega) _
  have CU := Lib.hid (fun w => (show Calls Tryz.prog 67 #[.int .i64 6] w fun e w' => e = .returned (.tuple #[.agg #[.int .i64 4, .bool true, .bool true], .bool true]) ∧ Below w.heap.size w w' from useOf_any 6 w))
  have CP := Lib.hid (fun w => (show Calls Tryz.prog 110 #[.int .i64 (q : Int), .int .i64 4] w fun e w' => e = .returned (.bool true) ∧ w = w' from by have := below_num (q : Int) 4 w; rwa [decide_eq_true (by omega)] at this))
  have CA := Lib.hid (fun w => (show Calls Tryz.prog 110 #[.int .i64 (b : Int), .int .i64 4] w fun e w' => e = .returned (.bool true) ∧ w = w' from by have := below_num (b : Int) 4 w; rwa [decide_eq_true (by omega)] at this))
  have CN := Lib.hid (fun w => (show Calls Tryz.prog 111 #[.agg (Nm.nc n)] w fun e w' => e = .returned (.bool true) ∧ Below w.heap.size w w' from by have := Nm.right_any n w; rwa [hn] at this))
  have CT := Lib.hid (fun w => (show Calls Tryz.prog 112 #[.agg (nc t)] w fun e w' => e = .returned (.bool false) ∧ Below w.heap.size w w' from by have := cT t w; rwa [hr] at this))
  have hb : ∀ W, (bdk #[(0, .int .u8 6), (1, .int .u8 (q : Int))]).run Tryz.prog W = .ok (.agg (kS.v (D.mkK 6 q 0 Nm.D.zero D.zero))) W := fun W => run_bdk_2 W 6 q (by omega) (by omega)
  have hq : q % 256 = q := Nat.mod_eq_of_lt (by omega)
  have hqi : (q : Int) % 256 = q := by omega
  have hbi : (b : Int) % 256 = b := by omega
  have hs := fun (n : Nm.D.Nm) (t : D.Tg) => kset_a 6 q 0 n t b (by omega)
  clear cT hp ha hn hr
  go_enter Tryz.func72, Tryz.ntmps72
  unfold z25 at hW0
  go_wp2_with fail
  try rw [hW0]
  clear hW0
  go_wp2_with (go_at_call 67; (with_reducible refine (CU.out _).mono ?_); rintro e w1 ⟨rfl, b1⟩; have k0 := Shp.tn_on k0 b1; have s1 := Nat.lt_of_lt_of_le s0 b1.size; have z1 := below_up z0 z0.size b1; have f0 := Nm.rd_on f0 b1; have g0 := rd_on g0 b1)
  obtain ⟨W1, hW1⟩ : ∃ W, w1.alloc (.cells #[.int .i64 4, .bool true, .bool true] 140) = W := ⟨_, rfl⟩
  have B1 := Blk.new w1 140 #[.int .i64 4, .bool true, .bool true]
  have k1 := Shp.tn_on k0 (below_alloc_ w1 (.cells #[.int .i64 4, .bool true, .bool true] 140))
  have f1 := Nm.rd_on f0 (below_alloc_ w1 (.cells #[.int .i64 4, .bool true, .bool true] 140))
  have g1 := rd_on g0 (below_alloc_ w1 (.cells #[.int .i64 4, .bool true, .bool true] 140))
  have z1' := z1.alloc z1.size (.cells #[.int .i64 4, .bool true, .bool true] 140)
  have s1' : w1.heap.size < (w1.alloc (.cells #[.int .i64 4, .bool true, .bool true] 140)).heap.size := by simp
  rw [hW1] at B1 k1 f1 g1 z1' s1'
  rw [hW1]
  clear hW1 k0 f0 g0 z1 s0 z0
  obtain ⟨m, hm⟩ : ∃ m, w1.heap.size = m := ⟨_, rfl⟩
  rw [hm] at B1 s1 s1'
  rw [hm]
  clear hm b1
  have q1 : w.heap.size + 2 < W1.heap.size := by omega
  have r1 : w.heap.size + 1 < W1.heap.size := by omega
  have t1 : w.heap.size < W1.heap.size := by omega
  have u0 := B1.c 0
  have u1 := B1.c 1
  have u2 := B1.c 2
  simp at u0 u1 u2
  go_wp2_with (first
    | (go_at_call 110; (with_reducible refine (CP.out _).mono ?_); rintro e w2 ⟨rfl, rfl⟩)
    | (go_at_call 110; (with_reducible refine (CA.out _).mono ?_); rintro e w3 ⟨rfl, rfl⟩)
    | (go_at_call 111; (with_reducible refine (CN.out _).mono ?_); rintro e w4 ⟨rfl, b4⟩; have B4 := B1.on b4; have k4 := Shp.tn_on k1 b4; have f4 := Nm.rd_on f1 b4; have g4 := rd_on g1 b4; have z4' := below_up z1' z1'.size b4; have s4' := Nat.lt_of_lt_of_le s1' b4.size; have q4 := Nat.lt_of_lt_of_le q1 b4.size; have r4 := Nat.lt_of_lt_of_le r1 b4.size; have t4 := Nat.lt_of_lt_of_le t1 b4.size; have v0 := B4.c 0; have v1 := B4.c 1; have v2 := B4.c 2; simp at v0 v1 v2)
    | (go_at_call 112; (with_reducible refine (CT.out _).mono ?_); rintro e w5 ⟨rfl, b5⟩; have B5 := B4.on b5; have k5 := Shp.tn_on k4 b5; have f5 := Nm.rd_on f4 b5; have g5 := rd_on g4 b5; have z5' := below_up z4' z4'.size b5; have s5' := Nat.lt_of_lt_of_le s4' b5.size; have q5 := Nat.lt_of_lt_of_le q4 b5.size; have r5 := Nat.lt_of_lt_of_le r4 b5.size; have t5 := Nat.lt_of_lt_of_le t4 b5.size; have v0 := B5.c 0; have v1 := B5.c 1; have v2 := B5.c 2; simp at v0 v1 v2))
  have hset := Shp.rd_set (S := kS) w5 (w.heap.size + 2) D.zK k5
  have z9 := below_setRow z5' (g := w.heap.size + 2) (by omega) (kS.v D.zK)
  exact bodyPost_ret (v := .tuple #[.agg (kS.v D.zK), .int .i64 14]) (by rw [results_cell_tmp rfl]; simp [asAddr, Result.andThen, lvk_of hset]) rfl ⟨rfl, z9⟩

set_option maxHeartbeats 4000000 in
theorem kof_ok6 (cT : ∀ (x : D.Tg) (w : World), Calls Tryz.prog 112 #[.agg (nc x)] w fun e w' => e = .returned (.bool (D.right x)) ∧ Below w.heap.size w w') (q : Nat) (hp : q < 4) (b : Nat) (ha : b < 4) (n : Nm.D.Nm) (t : D.Tg) (hn : Nm.D.right n = true) (ht : sm t D.zero = false) (hr : D.right t = true) (w : World) :
    Calls Tryz.prog 72 #[.int .i64 6, .int .i64 (q : Int), .int .i64 (b : Int), .agg (Nm.nc n), .agg (nc t)] w fun e w' => e = .returned (.tuple #[.agg (kS.v (D.mkK 6 q b n t)), .int .i64 0]) ∧ Below w.heap.size w w' := by
  obtain ⟨W0, hW0⟩ : ∃ W, ((w.alloc (.cells (Nm.nc n) 33)).alloc (.cells (nc t) 37)).alloc (.cells z25 39) = W := ⟨_, rfl⟩
  have f0 : Nm.rd W0 ⟨w.heap.size, 0, none⟩ = some n := by rw [← hW0]; exact Nm.rd_on (Nm.rd_on (Nm.rd_new w _ _ n rfl) (below_alloc_ _ _)) (below_alloc_ _ _)
  have g0 : rd W0 ⟨w.heap.size + 1, 0, none⟩ = some t := by rw [← hW0]; exact rd_on (rd_new _ _ _ t (by simp)) (below_alloc_ _ _)
  have k0 : Shp.tn 25 W0 (w.heap.size + 2) = true := by rw [← hW0]; exact Shp.tn_new _ _ _ _ _ (by simp) rfl
  have s0 : w.heap.size + 2 < W0.heap.size := by rw [← hW0]; simp
  have z0 : Below w.heap.size w W0 := by rw [← hW0]; exact (((Below.refl _ _).alloc (Nat.le_refl _) _).alloc (by simp) _).alloc (by simp; omega) _
  have CU := Lib.hid (fun w => (show Calls Tryz.prog 67 #[.int .i64 6] w fun e w' => e = .returned (.tuple #[.agg #[.int .i64 4, .bool true, .bool true], .bool true]) ∧ Below w.heap.size w w' from useOf_any 6 w))
  have CP := Lib.hid (fun w => (show Calls Tryz.prog 110 #[.int .i64 (q : Int), .int .i64 4] w fun e w' => e = .returned (.bool true) ∧ w = w' from by have := below_num (q : Int) 4 w; rwa [decide_eq_true (by omega)] at this))
  have CA := Lib.hid (fun w => (show Calls Tryz.prog 110 #[.int .i64 (b : Int), .int .i64 4] w fun e w' => e = .returned (.bool true) ∧ w = w' from by have := below_num (b : Int) 4 w; rwa [decide_eq_true (by omega)] at this))
  have CN := Lib.hid (fun w => (show Calls Tryz.prog 111 #[.agg (Nm.nc n)] w fun e w' => e = .returned (.bool true) ∧ Below w.heap.size w w' from by have := Nm.right_any n w; rwa [hn] at this))
  have CT := Lib.hid (fun w => (show Calls Tryz.prog 112 #[.agg (nc t)] w fun e w' => e = .returned (.bool true) ∧ Below w.heap.size w w' from by have := cT t w; rwa [hr] at this))
  have hb : ∀ W, (bdk #[(0, .int .u8 6), (1, .int .u8 (q : Int))]).run Tryz.prog W = .ok (.agg (kS.v (D.mkK 6 q 0 Nm.D.zero D.zero))) W := fun W => run_bdk_2 W 6 q (by omega) (by omega)
  have hq : q % 256 = q := Nat.mod_eq_of_lt (by omega)
  have hqi : (q : Int) % 256 = q := by omega
  have hbi : (b : Int) % 256 = b := by omega
  have hs := fun (n : Nm.D.Nm) (t : D.Tg) => kset_a 6 q 0 n t b (by omega)
  clear cT hp ha hn hr
  go_enter Tryz.func72, Tryz.ntmps72
  unfold z25 at hW0
  go_wp2_with fail
  try rw [hW0]
  clear hW0
  go_wp2_with (go_at_call 67; (with_reducible refine (CU.out _).mono ?_); rintro e w1 ⟨rfl, b1⟩; have k0 := Shp.tn_on k0 b1; have s1 := Nat.lt_of_lt_of_le s0 b1.size; have z1 := below_up z0 z0.size b1; have f0 := Nm.rd_on f0 b1; have g0 := rd_on g0 b1)
  obtain ⟨W1, hW1⟩ : ∃ W, w1.alloc (.cells #[.int .i64 4, .bool true, .bool true] 140) = W := ⟨_, rfl⟩
  have B1 := Blk.new w1 140 #[.int .i64 4, .bool true, .bool true]
  have k1 := Shp.tn_on k0 (below_alloc_ w1 (.cells #[.int .i64 4, .bool true, .bool true] 140))
  have f1 := Nm.rd_on f0 (below_alloc_ w1 (.cells #[.int .i64 4, .bool true, .bool true] 140))
  have g1 := rd_on g0 (below_alloc_ w1 (.cells #[.int .i64 4, .bool true, .bool true] 140))
  have z1' := z1.alloc z1.size (.cells #[.int .i64 4, .bool true, .bool true] 140)
  have s1' : w1.heap.size < (w1.alloc (.cells #[.int .i64 4, .bool true, .bool true] 140)).heap.size := by simp
  rw [hW1] at B1 k1 f1 g1 z1' s1'
  rw [hW1]
  clear hW1 k0 f0 g0 z1 s0 z0
  obtain ⟨m, hm⟩ : ∃ m, w1.heap.size = m := ⟨_, rfl⟩
  rw [hm] at B1 s1 s1'
  rw [hm]
  clear hm b1
  have q1 : w.heap.size + 2 < W1.heap.size := by omega
  have r1 : w.heap.size + 1 < W1.heap.size := by omega
  have t1 : w.heap.size < W1.heap.size := by omega
  have u0 := B1.c 0
  have u1 := B1.c 1
  have u2 := B1.c 2
  simp at u0 u1 u2
  go_wp2_with (first
    | (go_at_call 110; (with_reducible refine (CP.out _).mono ?_); rintro e w2 ⟨rfl, rfl⟩)
    | (go_at_call 110; (with_reducible refine (CA.out _).mono ?_); rintro e w3 ⟨rfl, rfl⟩)
    | (go_at_call 111; (with_reducible refine (CN.out _).mono ?_); rintro e w4 ⟨rfl, b4⟩; have B4 := B1.on b4; have k4 := Shp.tn_on k1 b4; have f4 := Nm.rd_on f1 b4; have g4 := rd_on g1 b4; have z4' := below_up z1' z1'.size b4; have s4' := Nat.lt_of_lt_of_le s1' b4.size; have q4 := Nat.lt_of_lt_of_le q1 b4.size; have r4 := Nat.lt_of_lt_of_le r1 b4.size; have t4 := Nat.lt_of_lt_of_le t1 b4.size; have v0 := B4.c 0; have v1 := B4.c 1; have v2 := B4.c 2; simp at v0 v1 v2)
    | (go_at_call 112; (with_reducible refine (CT.out _).mono ?_); rintro e w5 ⟨rfl, b5⟩; have B5 := B4.on b5; have k5 := Shp.tn_on k4 b5; have f5 := Nm.rd_on f4 b5; have g5 := rd_on g4 b5; have z5' := below_up z4' z4'.size b5; have s5' := Nat.lt_of_lt_of_le s4' b5.size; have q5 := Nat.lt_of_lt_of_le q4 b5.size; have r5 := Nat.lt_of_lt_of_le r4 b5.size; have t5 := Nat.lt_of_lt_of_le t4 b5.size; have v0 := B5.c 0; have v1 := B5.c 1; have v2 := B5.c 2; simp at v0 v1 v2))
  have hset := Shp.rd_set (S := kS) (w5.alloc (.cells (kS.v (D.mkK 6 q b n t)) 39)) (w.heap.size + 2) (D.mkK 6 q b n t) (Shp.tn_on k5 (below_alloc_ _ _))
  have z9 := below_setRow (z5'.alloc z5'.size (.cells (kS.v (D.mkK 6 q b n t)) 39)) (g := w.heap.size + 2) (by omega) (kS.v (D.mkK 6 q b n t))
  exact bodyPost_ret (v := .tuple #[.agg (kS.v (D.mkK 6 q b n t)), .int .i64 0]) (by rw [results_cell_tmp rfl]; simp [asAddr, Result.andThen, lvk_of hset]) rfl ⟨rfl, z9⟩

namespace D
theorem kof_k {k p a : Int} {n : Nm.D.Nm} {t : Tg} (h : ¬ (1 ≤ k ∧ k ≤ 6)) : kof k p a n t = (zK, 16) := by
  have e : err k p a n t = 16 := by unfold err; rw [if_pos (by omega)]
  unfold kof; rw [e, if_neg (by decide)]
theorem kof_r {k p a : Int} {n : Nm.D.Nm} {t : Tg} (hk : 1 ≤ k ∧ k ≤ 6) (h : ¬ (0 ≤ p ∧ p < 4) ∨ (0 < ats k ∧ ¬ (0 ≤ a ∧ a < ats k))) : kof k p a n t = (zK, 5) := by
  have e : err k p a n t = 5 := by
    unfold err
    rw [if_neg (by omega), if_pos]
    rcases h with h | ⟨h, h'⟩
    · exact .inl (by omega)
    · exact .inr ⟨h, by omega⟩
  unfold kof; rw [e, if_neg (by decide)]
theorem kof_n {k p a : Int} {n : Nm.D.Nm} {t : Tg} (hk : 1 ≤ k ∧ k ≤ 6) (hp : 0 ≤ p ∧ p < 4) (ha : 0 < ats k → 0 ≤ a ∧ a < ats k) (hm : nmd k = true) (hn : Nm.D.right n = false) : kof k p a n t = (zK, 15) := by
  have e : err k p a n t = 15 := by
    unfold err
    rw [if_neg (by omega), if_neg, if_pos ⟨hm, hn⟩]
    rintro (h | ⟨h, h'⟩)
    · omega
    · have := ha h; omega
  unfold kof; rw [e, if_neg (by decide)]
theorem kof_t {k p a : Int} {n : Nm.D.Nm} {t : Tg} (hk : 1 ≤ k ∧ k ≤ 6) (hp : 0 ≤ p ∧ p < 4) (ha : 0 < ats k → 0 ≤ a ∧ a < ats k) (hn : nmd k = true → Nm.D.right n = true) (hm : tgd k = true) (ht : t = zero ∨ right t = false) : kof k p a n t = (zK, 14) := by
  have e : err k p a n t = 14 := by
    unfold err
    rw [if_neg (by omega), if_neg, if_neg, if_pos ⟨hm, ht⟩]
    · rintro ⟨h, h'⟩; rw [hn h] at h'; cases h'
    · rintro (h | ⟨h, h'⟩)
      · omega
      · have := ha h; omega
  unfold kof; rw [e, if_neg (by decide)]
theorem kof_ok {k p a : Int} {n : Nm.D.Nm} {t : Tg} (hk : 1 ≤ k ∧ k ≤ 6) (hp : 0 ≤ p ∧ p < 4) (ha : 0 < ats k → 0 ≤ a ∧ a < ats k) (hn : nmd k = true → Nm.D.right n = true) (ht : tgd k = true → t ≠ zero ∧ right t = true) : kof k p a n t = (mkI k p a n t, 0) := by
  have e : err k p a n t = 0 := err_of hk (by omega) ha hn ht
  unfold kof; rw [e, if_pos rfl]
end D
theorem sm_t {t u : D.Tg} (h : sm t u = true) : t = u := by simpa [sm] using h
theorem sm_f {t u : D.Tg} (h : sm t u = false) : t ≠ u := by simpa [sm] using h
theorem key_of_gen (cT : ∀ (x : D.Tg) (w : World), Calls Tryz.prog 112 #[.agg (nc x)] w fun e w' => e = .returned (.bool (D.right x)) ∧ Below w.heap.size w w') (k p a : Int) (n : Nm.D.Nm) (t : D.Tg) (w : World) :
    Calls Tryz.prog 72 #[.int .i64 k, .int .i64 p, .int .i64 a, .agg (Nm.nc n), .agg (nc t)] w fun e w' => e = .returned (.tuple #[.agg (kS.v (D.kof k p a n t).1), .int .i64 (D.kof k p a n t).2]) ∧ Below w.heap.size w w' := by
  by_cases hk : 1 ≤ k ∧ k ≤ 6
  · by_cases hp : 0 ≤ p ∧ p < 4
    · obtain ⟨q, rfl⟩ : ∃ q : Nat, p = q := ⟨p.toNat, by omega⟩
      rcases (isk k).1 hk with rfl | rfl | rfl | rfl | rfl | rfl
      · rw [D.kof_ok hk hp (fun h => absurd h (by decide)) (fun h => by cases h) (fun h => by cases h)]; exact kof_ok1 cT q (by omega) a n t w
      · by_cases ha : 0 ≤ a ∧ a < 16
        · obtain ⟨b, rfl⟩ : ∃ b : Nat, a = b := ⟨a.toNat, by omega⟩
          rw [D.kof_ok hk hp (fun _ => ha) (fun h => by cases h) (fun h => by cases h)]; exact kof_ok2 cT q (by omega) b (by omega) n t w
        · rw [D.kof_r hk (.inr ⟨by decide, ha⟩)]; exact kof_a2 cT q (by omega) a ha n t w
      · cases hz : sm t D.zero
        · cases hr : D.right t
          · rw [D.kof_t hk hp (fun h => absurd h (by decide)) (fun h => by cases h) rfl (.inr hr)]; exact kof_w3 cT q (by omega) a n t hz hr w
          · rw [D.kof_ok hk hp (fun h => absurd h (by decide)) (fun h => by cases h) (fun _ => ⟨sm_f hz, hr⟩)]; exact kof_ok3 cT q (by omega) a n t hz hr w
        · rw [D.kof_t hk hp (fun h => absurd h (by decide)) (fun h => by cases h) rfl (.inl (sm_t hz))]; exact kof_z3 cT q (by omega) a n t hz w
      · by_cases ha : 0 ≤ a ∧ a < 4
        · obtain ⟨b, rfl⟩ : ∃ b : Nat, a = b := ⟨a.toNat, by omega⟩
          rw [D.kof_ok hk hp (fun _ => ha) (fun h => by cases h) (fun h => by cases h)]; exact kof_ok4 cT q (by omega) b (by omega) n t w
        · rw [D.kof_r hk (.inr ⟨by decide, ha⟩)]; exact kof_a4 cT q (by omega) a ha n t w
      · by_cases ha : 0 ≤ a ∧ a < 4
        · obtain ⟨b, rfl⟩ : ∃ b : Nat, a = b := ⟨a.toNat, by omega⟩
          cases hn : Nm.D.right n
          · rw [D.kof_n hk hp (fun _ => ha) rfl hn]; exact kof_n5 cT q (by omega) b (by omega) n t hn w
          · rw [D.kof_ok hk hp (fun _ => ha) (fun _ => hn) (fun h => by cases h)]; exact kof_ok5 cT q (by omega) b (by omega) n t hn w
        · rw [D.kof_r hk (.inr ⟨by decide, ha⟩)]; exact kof_a5 cT q (by omega) a ha n t w
      · by_cases ha : 0 ≤ a ∧ a < 4
        · obtain ⟨b, rfl⟩ : ∃ b : Nat, a = b := ⟨a.toNat, by omega⟩
          cases hn : Nm.D.right n
          · rw [D.kof_n hk hp (fun _ => ha) rfl hn]; exact kof_n6 cT q (by omega) b (by omega) n t hn w
          · cases hz : sm t D.zero
            · cases hr : D.right t
              · rw [D.kof_t hk hp (fun _ => ha) (fun _ => hn) rfl (.inr hr)]; exact kof_w6 cT q (by omega) b (by omega) n t hn hz hr w
              · rw [D.kof_ok hk hp (fun _ => ha) (fun _ => hn) (fun _ => ⟨sm_f hz, hr⟩)]; exact kof_ok6 cT q (by omega) b (by omega) n t hn hz hr w
            · rw [D.kof_t hk hp (fun _ => ha) (fun _ => hn) rfl (.inl (sm_t hz))]; exact kof_z6 cT q (by omega) b (by omega) n t hn hz w
        · rw [D.kof_r hk (.inr ⟨by decide, ha⟩)]; exact kof_a6 cT q (by omega) a ha n t w
    · rcases (isk k).1 hk with rfl | rfl | rfl | rfl | rfl | rfl
      · rw [D.kof_r hk (.inl hp)]; exact kof_p1 cT p hp a n t w
      · rw [D.kof_r hk (.inl hp)]; exact kof_p2 cT p hp a n t w
      · rw [D.kof_r hk (.inl hp)]; exact kof_p3 cT p hp a n t w
      · rw [D.kof_r hk (.inl hp)]; exact kof_p4 cT p hp a n t w
      · rw [D.kof_r hk (.inl hp)]; exact kof_p5 cT p hp a n t w
      · rw [D.kof_r hk (.inl hp)]; exact kof_p6 cT p hp a n t w
  · rw [D.kof_k hk]; exact kof_none cT k hk p a n t w

end Go.Proofs.YteiikacgcfidmaaGreatDoor
set_option linter.unusedVariables false
set_option linter.unusedSimpArgs false
set_option maxRecDepth 100000
namespace Go.Proofs.YteiikacgcfidmaaGreatDoor.Nm
open Go.RowKit

/-- How far on a world is: its draws, and its new blocks. -/
structure On where
  n : Nat
  os : Array Obj
  deriving Inhabited
def ext (w : World) (p : On) : World := { w with heap := w.heap ++ p.os, drawn := p.n }
theorem ext_heap (w : World) (p : On) {k : Nat} (h : k < w.heap.size) : (ext w p).heap[k]? = w.heap[k]? := by simp [ext, Array.getElem?_append, h]
theorem ext_size (w : World) (p : On) : w.heap.size ≤ (ext w p).heap.size := by simp [ext]
theorem ext_below (w : World) (p : On) : Below w.heap.size w (ext w p) := ⟨rfl, rfl, rfl, ext_size w p, fun k hk => ext_heap w p hk⟩
theorem ext_of {w w' : World} (h : Below w.heap.size w w') : ∃ p, w' = ext w p := by
  obtain ⟨heap, tape, drawn, os, output⟩ := w
  obtain ⟨heap', tape', drawn', os', output'⟩ := w'
  obtain ⟨h1, h2, h3, h4, h5⟩ := h
  simp only at h1 h2 h3 h4 h5
  subst h1 h2 h3
  refine ⟨⟨drawn', heap'.extract heap.size heap'.size⟩, ?_⟩
  simp only [ext]
  congr 1
  apply Array.ext_getElem?
  intro i
  rw [Array.getElem?_append]
  by_cases hi : i < heap.size
  · rw [if_pos hi]; exact h5 i hi
  · rw [if_neg hi, Array.getElem?_extract]
    split
    · congr 1; omega
    · rw [Array.getElem?_eq_none (by omega)]
theorem ext_to {w w' : World} (h : ∃ p, w' = ext w p) : Below w.heap.size w w' := by
  obtain ⟨p, rfl⟩ := h
  exact ext_below w p
theorem wp_region_ext {P : Program} {id : Nat} {Q : Exit → Act → World → Prop} {a : Act} {w : World} {l : List Oper} (hm : P.follows .mixedOrders = true) (hB : Region.lexB .any l.toArray = true)
    (h : wpQuiet P l.toArray (fun w' => ∃ p : On, w' = ext w p) (fun a' => ∀ w', (∃ p : On, w' = ext w p) → Q .normal a' w') l a) : (Code.region id l.toArray true).wp P Q a w :=
  wp_region_quiet (C := fun w' => ∃ p : On, w' = ext w p) hm hB ⟨⟨w.drawn + 1, #[]⟩, by simp [ext]⟩ (by simpa using h)
theorem calls_ext {P : Program} {f : FuncId} {args : Array Value} {w : World} {p : On} {v : Value}
    (h : Calls P f args (ext w p) fun e w' => e = .returned v ∧ Below (ext w p).heap.size (ext w p) w') : Calls P f args (ext w p) fun e w'' => e = .returned v ∧ ∃ p : On, w'' = ext w p :=
  h.mono fun _ _ ⟨he, hb⟩ => ⟨he, ext_of ((ext_below w p).trans (hb.mono (ext_size w p)))⟩
theorem rd_ext (w : World) (p : On) (a : Addr) (h : a.block < w.heap.size) : rd (ext w p) a = rd w a := rd_to (ext_heap w p h)
theorem cell_ext (w : World) (p : On) (a : Addr) (h : a.block < w.heap.size) : (ext w p).cell? a = w.cell? a := World.cell?_of_block (ext_heap w p h)
end Go.Proofs.YteiikacgcfidmaaGreatDoor.Nm
