/-
  A name's text out of its bytes: the library's Cut at one byte 0; which name comes first.
-/
import Derived.Test.YtgobbdfgjgjigaaGreatDoorAPar
import Derived.Lib.BytesEntry
import Derived.Lib.IndexLaws
import Derived.Laws.BytesString
import Derived.Laws.IdiomElems
import Derived.Lib.BufferRead
set_option linter.unusedVariables false
set_option linter.unusedSimpArgs false
set_option maxRecDepth 100000
namespace Go.Proofs.YtgobbdfgjgjigaaGreatDoor.Nm
open Go.RowKit
attribute [local go_sem ↓] Go.wp_at_zero Go.wp_at_succ ld_a ld_n st_a st_n eq_a eq_n ne_a ne_n lv_a lv_n
attribute [local go_sem] run_ld_a run_ld_n run_st_n run_eq_a run_eq_n run_ne_a run_ne_n run_lv_a run_lv_n st_z ne_z rd_new rd_old rd_drew rd_drewN

/-- Where the first byte 0 lies. -/
def ix (l : List Nat) : Int := if (D.hd l).length = l.length then -1 else ((D.hd l).length : Int)
theorem ix_of : ∀ l : List Nat, (∀ b ∈ l, b < 256) → Lib.indexByte (Lib.bytesOf (l.map fun b : Nat => (b : Int))) 0 = ix l
  | [], _ => rfl
  | a :: l, h => by
    have ih := ix_of l fun b hb => h b (by simp [hb])
    have ha := h a (by simp)
    simp only [List.map_cons, Lib.bytesOf, Lib.indexByte] at ih ⊢
    by_cases e : a = 0
    · subst e
      simp [ix, D.hd]
    · have hne : ¬ (UInt8.ofNat (a : Int).toNat == 0) = true := by
        simp
        intro h0
        have := congrArg UInt8.toNat h0
        simp at this
        omega
      have hh : D.hd (a :: l) = a :: D.hd l := by simp [D.hd, e]
      have hx : ix (a :: l) = if (D.hd l).length + 1 = l.length + 1 then -1 else (((D.hd l).length + 1 : Nat) : Int) := by simp only [ix, hh, List.length_cons]
      simp only [ih]
      rw [if_neg hne, hx]
      by_cases h2 : (D.hd l).length = l.length
      · have e1 : ix l = -1 := by simp only [ix, h2, if_true]
        simp only [e1]
        have h3 : (D.hd l).length + 1 = l.length + 1 := by omega
        rw [if_pos h3]; rfl
      · have e1 : ix l = ((D.hd l).length : Int) := if_neg h2
        simp only [e1]
        rw [if_neg (by rw [beq_iff_eq]; omega), if_neg (by omega)]
        simp
theorem index_byte (g n c : Nat) (l : List Nat) (z : Int) (w : World) (hr : Row w (some ⟨g, 0, none⟩) n (bys l)) (hl : Kept (∀ b ∈ l, b < 256)) (hz : Kept (ix l = z)) :
    Calls Tryz.prog 129 #[.slice (some ⟨g, 0, none⟩) n c, .int .u8 0] w fun e w' => e = .returned (.int .i64 z) ∧ w = w' := by
  have hlen := hr.len
  rw [bys_len] at hlen
  have hrun := Lib.run_indexByteSlice (P := Tryz.prog) w g 0 n c (l.map fun b : Nat => (b : Int)) (by simpa using hlen) (fun i hi => by
    obtain ⟨b, hb, _⟩ := at_lt (l := l) (i := i) (by omega)
    obtain ⟨ad, e, hc⟩ := hr.cell (bys_at hb)
    injection e with e
    subst e
    rw [Addr.add_lit] at hc
    rw [hc]
    simp [List.getD, hb]) 0
  rw [show (0 : Int).toNat.toUInt8 = 0 from rfl, ix_of l hl.out, hz.out] at hrun
  have HR := Lib.hid hrun
  clear hrun hlen
  go_enter Tryz.func129, Tryz.ntmps129
  go_wp2
  rw [run_callFunc_extern Tryz.func144 (by kernel_rfl) (by kernel_rfl) (by kernel_rfl) (e := Extern.BytealgIndexByte.indexByte) (by kernel_rfl), HR.out]
  simp only [Result.andThen]
  rw [Oper.upon_value]
  go_wp2
  go_ret
  exact ⟨rfl, rfl⟩
theorem index_any (g s n c : Nat) (l : List Nat) (z : Int) (w : World) (hr : Row w (some ⟨g, 0, none⟩) n (bys l)) (hs : w.cell? ⟨s, 0, none⟩ = some (.int .u8 0)) (hl : Kept (∀ b ∈ l, b < 256)) (hz : Kept (ix l = z)) :
    Calls Tryz.prog 117 #[.slice (some ⟨g, 0, none⟩) n c, .slice (some ⟨s, 0, none⟩) 1 1] w fun e w' => e = .returned (.int .i64 z) ∧ w = w' := by
  have H := Lib.hid (index_byte g n c l z w hr hl hz)
  clear hr hl hz
  set_option maxRecDepth 100000 in
  go_enter Tryz.func117, Tryz.ntmps117
  go_wp2_with (go_at_call 129; (with_reducible refine H.out.mono ?_); rintro e w1 ⟨rfl, rfl⟩)
  go_ret
  exact ⟨rfl, rfl⟩

theorem str_run (W : World) (A : Option Addr) (n c : Nat) (l : List Nat) (h : Row W A n (bys l)) (hl : ∀ b ∈ l, b < 256) :
    (convert 88 9 (.slice A n c)).run Tryz.prog W = .ok (.string (D.sb l)) W := by
  have hlen := h.len
  rw [bys_len] at hlen
  rcases A with _ | ad
  · have : l = [] := by
      rcases Nat.eq_zero_or_pos n with h0 | h0
      · exact List.eq_nil_of_length_eq_zero (by omega)
      · obtain ⟨ad, e, _⟩ := h.tow h0
        cases e
    subst this
    have : n = 0 := by simpa using hlen.symm
    subst this
    exact Lib.run_convert_nil_bytes W _ _ 5 c Tryz.underlying88 Tryz.underlying5 Tryz.underlying9
  · have hr := run_convert_bytes_back (P := Tryz.prog) W 88 9 5 ad c (l.map UInt8.ofNat) Tryz.underlying88 Tryz.underlying5 Tryz.underlying9 (fun j hj => by
      have hj' : j < l.length := by simpa using hj
      have hq : l[j]? = some l[j] := List.getElem?_eq_getElem hj'
      obtain ⟨ad', e, hc⟩ := h.cell (bys_at hq)
      injection e with e
      subst e
      rw [hc]
      have := hl _ (List.getElem_mem hj')
      simp
      omega)
    rw [List.length_map, hlen] at hr
    exact hr
theorem upto_same (A : Option Addr) (n c k : Nat) (hk : k ≤ c) : ∀ W, (Instr.slice 88 (.slice A n c) none (some (.int .i64 (k : Int))) none).run Tryz.prog W = .ok (.slice A k c) W := by
  intro W
  rw [run_slice_h W 88 A n c (by kernel_rfl) .i64 k (by omega) (by omega)]
  have : ∀ a : Addr, a.add 0 = a := add_zero_
  simp [Result.andThen, sliced, go_sem]
/-- What Cut answers. -/
def Cutted (g m : Nat) (w : World) (e : Ending) (w' : World) : Prop := ∃ v b, e = .returned (.tuple #[.slice (some ⟨g, 0, none⟩) m 12, v, .bool b]) ∧ ∃ q, w' = w.drewN q
set_option maxHeartbeats 1000000 in
theorem cut_any (g s m : Nat) (l : List Nat) (w : World) (hr : Row w (some ⟨g, 0, none⟩) 12 (bys l)) (hs : w.cell? ⟨s, 0, none⟩ = some (.int .u8 0)) (hl : Kept (∀ b ∈ l, b < 256)) (hm : Kept ((D.hd l).length = m)) :
    Calls Tryz.prog 108 #[.slice (some ⟨g, 0, none⟩) 12 12, .slice (some ⟨s, 0, none⟩) 1 1] w (Cutted g m w) := by
  have hlen := hr.len
  rw [bys_len] at hlen
  have hle := D.hd_le l
  rw [hm.out, hlen] at hle
  have H := fun z hz => index_any g s 12 12 l z w hr hs hl ⟨hz⟩
  by_cases h12 : m = 12
  · have H1 := Lib.hid (H (-1) (by rw [ix, if_pos (by rw [hm.out, hlen, h12])]))
    subst h12
    clear H hlen hle hm hr hs
    go_enter Tryz.func108, Tryz.ntmps108
    go_wp2_with (go_at_call 117; (with_reducible refine H1.out.mono ?_); rintro e w1 ⟨rfl, rfl⟩)
    go_ret3
    exact ⟨_, _, rfl, 0, rfl⟩
  · have H1 := Lib.hid (H (m : Int) (by rw [ix, if_neg (by rw [hm.out, hlen]; exact h12), hm.out]))
    have i1 : (0 : Int) ≤ (m : Int) := by omega
    have i2 : (m : Int) < 12 := by omega
    have hx : IntKind.i64.wrap ((m : Int) + 1) = ((m + 1 : Nat) : Int) := by rw [IntKind.wrap_i64]; omega
    have hup := upto_same (some ⟨g, 0, none⟩) 12 12 m (by omega)
    obtain ⟨A2, hfr, _⟩ := from_run_b (some ⟨g, 0, none⟩) 12 12 (m + 1) ((m : Int) + 1) (by omega) (by omega)
    clear H hlen hle hm hr hs hx
    go_enter Tryz.func108, Tryz.ntmps108
    go_wp2_with (go_at_call 117; (with_reducible refine H1.out.mono ?_); rintro e w1 ⟨rfl, rfl⟩)
    go_quiet (fail)
    go_wp2
    go_ret3
    exact ⟨_, _, rfl, _, rfl⟩
theorem row_head {w : World} {g m : Nat} {l : List Nat} (h : Row w (some ⟨g, 0, none⟩) 12 (bys l)) (hm : (D.hd l).length = m) (hl : l.length = 12) : Row w (some ⟨g, 0, none⟩) m (bys (D.hd l)) := by
  have hle := D.hd_le l
  have e : D.hd l = l.take m := by
    subst hm
    have h1 := List.takeWhile_append_dropWhile (p := fun b => decide (b ≠ 0)) (l := l)
    have h2 : (D.hd l ++ l.dropWhile fun b => decide (b ≠ 0)).take (D.hd l).length = D.hd l := List.take_left
    rw [show D.hd l ++ l.dropWhile (fun b => decide (b ≠ 0)) = l from h1] at h2
    exact h2.symm
  have := h.take (k := m) (by omega)
  rw [e, ← bys_take]
  exact this
theorem row_name {w : World} {g : Nat} {t : TypeId} {x : D.Nm} (h : Blk w g t (nc x)) : Row w (some ⟨g, 0, none⟩) 12 (bys x.l) := ⟨by rw [bys_len, x.len], fun _ => ⟨_, rfl, h.lt, at_of (rd_blk h)⟩⟩
set_option maxHeartbeats 1000000 in
theorem begin_any (x : D.Nm) (w : World) :
    Calls Tryz.prog 96 #[.agg (nc x)] w fun e w' => e = .returned (.string (D.sb (D.hd x.l))) ∧ Below w.heap.size w w' := by
  obtain ⟨m, hm⟩ : ∃ m, (D.hd x.l).length = m := ⟨_, rfl⟩
  have B0 : Blk ((w.alloc (.cells (nc x) 24)).alloc (.cells #[.int .u8 0] 5)) w.heap.size 24 (nc x) := (Blk.new w _ (nc x)).alloc _
  have B1 := Blk.new (w.alloc (.cells (nc x) 24)) 5 #[.int .u8 0]
  simp only [World.size_alloc] at B1
  have hc := Lib.hid (cut_any w.heap.size (w.heap.size + 1) m x.l _ (row_name B0) B1.cell ⟨x.lt⟩ ⟨hm⟩)
  have hs := Lib.hid (fun q => str_run (((w.alloc (.cells (nc x) 24)).alloc (.cells #[.int .u8 0] 5)).drewN q) (some ⟨w.heap.size, 0, none⟩) m 12 (D.hd x.l) ((row_head (row_name B0) hm x.len).drewN q) (fun b hb => x.lt b (D.hd_mem hb)))
  clear B0 B1 hm
  go_enter Tryz.func96, Tryz.ntmps96
  go_wp2_with (go_at_call 108; (with_reducible refine hc.out.mono ?_); rintro e w1 ⟨v, b, rfl, q, rfl⟩; have hs1 := hs.out q)
  go_ret
  exact ⟨rfl, below_drewN (((Below.refl _ _).alloc (Nat.le_refl _) _).alloc (by simp) _) q⟩

theorem hdp_pad (x : D.Nm) : D.pad (D.sb (D.hd x.l)) = D.hdp x := by
  have := D.ns_sb (l := D.hd x.l) fun b hb => x.lt b (D.hd_mem hb)
  refine D.Nm.eq ?_
  show D.padl (D.ns (D.sb (D.hd x.l))) 12 = D.padl (D.hd x.l) 12
  rw [this]
theorem ns_hd (x : D.Nm) : D.ns (D.sb (D.hd x.l)) = D.hd x.l := D.ns_sb fun b hb => x.lt b (D.hd_mem hb)
set_option maxHeartbeats 1000000 in
theorem right_any (x : D.Nm) (w : World) :
    Calls Tryz.prog 76 #[.agg (nc x)] w fun e w' => e = .returned (.bool (D.right x)) ∧ Below w.heap.size w w' := by
  have hb := begin_any x
  obtain ⟨s, hs⟩ : ∃ s, D.sb (D.hd x.l) = s := ⟨_, rfl⟩
  have hn := ns_hd x
  have hp := hdp_pad x
  rw [hs] at hb hn hp
  have HB := Lib.hid hb
  clear hb
  cases h : D.isB (D.hd x.l)
  · have HP := Lib.hid (fun w => parse_no s w (by rw [hn, h]))
    have HR := Lib.hid (show false = D.right x by simp [D.right, h])
    clear hs hn hp h
    go_enter Tryz.func76, Tryz.ntmps76
    go_wp2_with (first
      | (go_at_call 96; (with_reducible refine (HB.out _).mono ?_); rintro e w1 ⟨rfl, b1⟩)
      | (go_at_call 95; (with_reducible refine (HP.out _).mono ?_); rintro e w2 ⟨rfl, b2⟩))
    go_ret
    have z1 := b1.size
    have z2 := b2.size
    simp only [World.size_alloc] at z1
    exact ⟨bool_of HR.out, (((below_alloc_ _ _).trans (b1.mono (by simp))).trans (b2.mono (by omega))).alloc (by omega) _⟩
  · have HP := Lib.hid (fun w => parse_yes s w (by rw [hn, h]))
    have HR := Lib.hid (show sm (D.hdp x) x = D.right x by simp [D.right, h, sm])
    rw [hp] at HP
    clear hs hn hp h
    go_enter Tryz.func76, Tryz.ntmps76
    go_wp2_with (first
      | (go_at_call 96; (with_reducible refine (HB.out _).mono ?_); rintro e w1 ⟨rfl, b1⟩)
      | (go_at_call 95; (with_reducible refine (HP.out _).mono ?_); rintro e w2 ⟨rfl, b2⟩; have f2 := rd_on (rd_on (rd_new w _ 24 x rfl) b1) b2; have z2 : w.heap.size < w2.heap.size := (by have := b1.size; have := b2.size; simp at *; omega)))
    go_ret
    have z1 := b1.size
    simp only [World.size_alloc] at z1
    exact ⟨bool_of HR.out, (((below_alloc_ _ _).trans (b1.mono (by simp))).trans (b2.mono (by omega))).alloc (by omega) _⟩
end Go.Proofs.YtgobbdfgjgjigaaGreatDoor.Nm
