/-
  The program writes a place.
  The program's Print, of right parts.
  The library's texts in this program are those that the library's contracts were proved of.
-/
import Derived.Test.YtohhfcfnclafdaaGreatDoorG28
import Derived.Shelf.Strings.Builder1
import Derived.Shelf.Small.Utf8
import Derived.Shelf.Small.Strs
import Derived.Shelf.Strconv.Itoa0
import Derived.Shelf.Strconv.Itoa1
import Derived.Shelf.LaysM
import Derived.Shelf.Strconv.Itoa2
import Derived.Shelf.Strings.Search1
import Derived.Shelf.Strings.Search2
import Derived.Shelf.Strings.Search3
import Derived.Shelf.Strings.Count
import Derived.Shelf.Strings.Shaped
import Derived.Shelf.Unicode.Latin
import Derived.Shelf.Unicode.DecodeSlow
import Derived.Shelf.Unicode.CaseLookup
import Derived.Shelf.Unicode.CaseConvert
import Derived.Shelf.Unicode.CaseTo
import Derived.Shelf.Unicode.CaseLaid
import Derived.Test.YtohhfcfnclafdaaGreatDoorProg
set_option linter.unusedVariables false
set_option linter.unusedSimpArgs false
set_option maxRecDepth 100000
namespace Go.Proofs.YtohhfcfnclafdaaGreatDoor
open Go.RowKit
attribute [local go_sem ↓] Go.wp_at_zero Go.wp_at_succ Nm.ld_a Nm.ld_n Nm.st_a Nm.st_n Nm.lv_a Nm.lv_n ld_nd lv_nd st_nd bd_nd bs_nd
attribute [local go_sem] Nm.run_ld_a Nm.run_ld_n Nm.run_lv_a Nm.run_lv_n Nm.rd_new Nm.rd_old Nm.rd_drew Nm.rd_drewN Nm.st_z run_lvnd run_ldnd run_stnd_new run_bsnd run_bdnd_1 run_bdnd_5 run_bdnd_0 Shp.rd_new Shp.rd_old Shp.rd_drew Shp.rd_drewN

theorem ts_pad {n : List Nat} (h : Nm.D.isB n = true) (hn : ∀ c ∈ n, c < 256) : Nm.ts (Nm.D.pad (D.sb n)) = D.sb n := by
  have h1 := Nm.D.pad_txt h hn
  have e : Nm.D.pad (D.sb n) = Nm.D.padN n hn := Nm.D.Nm.eq (by show Nm.D.padl (D.ns (D.sb n)) 12 = Nm.D.padl n 12; rw [D.ns_sb hn])
  rw [Nm.ts, e, h1]
theorem D.prC_snoc : ∀ (ws : List (List Nat)) (ks : List (List D.Nd)) (j : Nat) (t : List Nat) (q : List D.Nd), ws[j]? = some t → ks[j]? = some q → ws.length = ks.length → D.prC (ws.take (j + 1)) (ks.take (j + 1)) = D.prC (ws.take j) (ks.take j) ++ (32 :: (t ++ 123 :: (D.prL q ++ [125])))
  | [], ks, j, t, q, h, _, _ => by simp at h
  | w :: ws, [], j, t, q, _, h, _ => by simp at h
  | w :: ws, k :: ks, 0, t, q, h1, h2, _ => by
    simp at h1 h2
    subst h1 h2
    simp [D.prC]
  | w :: ws, k :: ks, j + 1, t, q, h1, h2, hl => by
    have := D.prC_snoc ws ks j t q (by simpa using h1) (by simpa using h2) (by simpa using hl)
    simp [D.prC] at this ⊢
    exact this
theorem D.prC_part (ws : List (List Nat)) (ks : List (List D.Nd)) (j : Nat) (hl : ws.length = ks.length) : (D.prC (ws.take j) (ks.take j)).length ≤ (D.prC ws ks).length := by
  induction ws generalizing ks j with
  | nil => simp [D.prC]
  | cons w ws ih =>
    cases ks with
    | nil => simp at hl
    | cons k ks =>
      cases j with
      | zero => simp [D.prC]
      | succ j =>
        have := ih ks j (by simpa using hl)
        simp [D.prC]; omega
theorem hws (b : Nat) (W : World) (L : List Nat) (s : ByteArray) (hW : Bs b W L) (h0 : D.ns s ≠ []) (hz : L.length + (D.ns s).length ≤ 1000000) : Calls Tryz.prog 86 #[vr b, .string s] W fun x w' => x = .returned (.tuple #[.int .i64 (s.size : Nat), .nilIface]) ∧ Bs b w' (L ++ D.ns s) ∧ Nu b W w' :=
  writeS_any bt_self s hW h0 (by rw [size_ns]; exact hz)
theorem hwl (b : Nat) (W : World) (L l : List Nat) (s : ByteArray) (hs : D.ns s = l) (h0 : l ≠ []) (hz : L.length + l.length ≤ 1000000) (hW : Bs b W L) : Calls Tryz.prog 86 #[vr b, .string s] W fun x w' => x = .returned (.tuple #[.int .i64 (s.size : Nat), .nilIface]) ∧ Bs b w' (L ++ l) ∧ Nu b W w' := by
  subst hs
  exact hws b W L s hW h0 hz
theorem hwb (b : Nat) (W : World) (L : List Nat) (x : Nat) (z : Int) (hz : z = x) (hW : Bs b W L) (hl : L.length ≤ 999999) : Calls Tryz.prog 87 #[vr b, .int .u8 z] W fun e w' => e = .returned .nilIface ∧ Bs b w' (L ++ [x]) ∧ Nu b W w' := writeB_any bt_self x hW hl z hz
set_option maxHeartbeats 8000000 in
theorem writePlace_arg (b k c : Nat) (A : Option Addr) (n : List Nat) (w : World) (hk : k = 1) (hn : Nm.D.isB n = true) (hn8 : ∀ c ∈ n, c < 256) (hbl : b ≤ w.heap.size) (hkb : 0 < b) (hKn : Knd w) : WrC 88 b (.agg (nS.v ⟨k, ⟨#[]⟩, Nm.D.pad (D.sb n), A, 0, c⟩)) w (D.prN (.mk 1 [] n [] [])) := by
  intro W L hNu hB hsz
  have hts := ts_pad hn hn8
  have hnl : n ≠ [] := fun e => by rw [e] at hn; exact absurd hn (by decide)
  have hns := D.ns_sb hn8
  have HTX := Lib.hid (fun W' => Nm.text_any (Nm.D.pad (D.sb n)) W')
  rw [hts] at HTX
  obtain ⟨M, hM⟩ : ∃ M, Nm.D.pad (D.sb n) = M := ⟨_, rfl⟩
  rw [hM] at HTX ⊢
  have hlt := hB.lt
  have i1 : ((k : Int) != 1) = false := by simp; omega
  have HWS := Lib.hid (hws b)
  have HWB := Lib.hid (hwb b)
  have hkW := Nu.knd hKn hNu hkb hbl
  have hblW : b ≤ W.heap.size := Nat.le_trans hbl hNu.size
  obtain ⟨Y, hY⟩ : ∃ Y : D.Nv, ⟨k, ⟨#[]⟩, M, A, 0, c⟩ = Y := ⟨_, rfl⟩
  have hY1 : Y.k = k := by rw [← hY]
  have hY2 : Y.n = M := by rw [← hY]
  have hY3 : Value.slice Y.A Y.m Y.c = .slice A 0 c := by rw [← hY]
  rw [hY]
  clear hM hts hY
  obtain ⟨W1, hW1⟩ : ∃ W1, W.alloc (.cells (nS.v Y) 116) = W1 := ⟨_, rfl⟩
  have hG1 : Blk W1 W.heap.size 116 (nS.v Y) := by rw [← hW1]; exact Blk.new _ _ _
  have hB1 : Bs b W1 L := by rw [← hW1]; exact hB.on (below_alloc_ _ _)
  have hN1 : Nu b W W1 := by rw [← hW1]; exact Nu.of_below (below_alloc_ _ _)
  have fG : ∀ W', Nu b W1 W' → W'.cell? ⟨W.heap.size, 0, none⟩ = some (.int .i64 (k : Nat)) ∧ Nm.rd W' ⟨W.heap.size, 2, none⟩ = some M ∧ W'.cell? ⟨W.heap.size, 14, none⟩ = some (.slice A 0 c) ∧ W.heap.size < W'.heap.size := by
    intro W' h
    have hb := h.keep _ _ _ (by omega) (by decide) hG1
    have f := nf_blk hb
    have f1 := f.k; have f2 := f.n; have f3 := f.c
    simp only [Nat.zero_add] at f1 f2 f3
    rw [hY1] at f1; rw [hY2] at f2; rw [hY3] at f3
    exact ⟨f1, f2, f3, hb.lt⟩
  have FG := Lib.hid fG
  obtain ⟨g0, g1, g2, g3⟩ := fG W1 (Nu.refl _ _)
  subst hW1
  have HB1 := Lib.hid hB1
  have HN1 := Lib.hid hN1
  have HNS := Lib.hid hns
  have HNL := Lib.hid hnl
  have HKW := Lib.hid hkW
  have hlW : b ≤ (W.alloc (.cells (nS.v Y) 116)).heap.size := by simp; omega
  have HLW := Lib.hid hblW
  have HKB := Lib.hid hkb
  have e_ : (D.prN (.mk 1 [] n [] [])).length = n.length + 2 := by simp [D.prN]
  have hsz' : L.length + (n.length + 2) ≤ 100000 := by omega
  clear e_
  have hc1 : ¬ 9223372036854775807 < 1 + (D.sb n).size := by rw [D.sb_len]; omega
  have hc2 : 1 + (D.sb n).size ≤ 9223372036854775807 := by rw [D.sb_len]; omega
  have HKE := Kept.mk hk
  have HA1 := Lib.hid (fun W' hW => hwl b W' L (123 :: n) (⟨#[123]⟩ ++ D.sb n) (by rw [ns_app_, hns]; rfl) (List.cons_ne_nil _ _) (by simp; omega) hW)
  clear hB hNu hB1 hN1 fG hG1 hns hnl hkW hblW hlW hY1 hY2 hY3 hn hn8 hsz hKn hbl hkb hk
  go_enter Tryz.func88, Tryz.ntmps88
  go_wp2_with (first
    | (go_at_call 135; (with_reducible refine (HTX.out _).mono ?_); rintro e w2 ⟨rfl, b2⟩
       have N2 := Lib.hid (Nu.of_below (b := b) b2)
       have B2 := Lib.hid (HB1.out.on b2)
       clear b2)
    | (go_at_call 86; (with_reducible refine (HA1.out _ B2.out).mono ?_); rintro e w3 ⟨rfl, b3, n3⟩
       have N3 := Lib.hid (N2.out.trans n3)
       have B3 := Lib.hid b3
       obtain ⟨h0_, h1_, h2_, h3_⟩ := FG.out w3 (N2.out.trans n3)
       have hk3 := Nu.knd HKW.out (HN1.out.trans (N2.out.trans n3)) HKB.out HLW.out
       skip
       clear b3 n3 h1_ hk3))
  go_loopw [25] (fun i wr => i = .int .i64 0 ∧ Hid (Bs b wr (L ++ 123 :: n)) ∧ Hid (Nu b (W.alloc (.cells (nS.v Y) 116)) wr)) (fun _ _ => 0)
  case atStart => exact ⟨rfl, B3, N3⟩
  case round =>
    obtain ⟨rfl, HBj, HNj⟩ := hrel
    obtain ⟨wo, rfl⟩ : ∃ wo : World, wo = wr := ⟨_, rfl⟩
    have HE1 := Lib.hid (hwb b wo _ 125 125 rfl HBj.out (by simp; omega))
    go_wp2_with (go_at_call 87; (with_reducible refine HE1.out.mono ?_); rintro e w9 ⟨rfl, b9, n9⟩)
    go_end0
    refine ⟨rfl, ?_, (HN1.out.trans HNj.out).trans n9⟩
    have e : L ++ D.prN (.mk 1 [] n [] []) = (L ++ 123 :: n) ++ [125] := by simp [D.prN]
    rw [e]
    exact b9
set_option maxHeartbeats 8000000 in
theorem writePlace_num (b k c : Nat) (A : Option Addr) (n : List Nat) (w : World) (hk : k = 2) (hn : Nm.D.isB n = true) (hn8 : ∀ c ∈ n, c < 256) (hbl : b ≤ w.heap.size) (hkb : 0 < b) (hKn : Knd w) : WrC 88 b (.agg (nS.v ⟨k, ⟨#[]⟩, Nm.D.pad (D.sb n), A, 0, c⟩)) w (D.prN (.mk 2 [] n [] [])) := by
  intro W L hNu hB hsz
  have hts := ts_pad hn hn8
  have hnl : n ≠ [] := fun e => by rw [e] at hn; exact absurd hn (by decide)
  have hns := D.ns_sb hn8
  have HTX := Lib.hid (fun W' => Nm.text_any (Nm.D.pad (D.sb n)) W')
  rw [hts] at HTX
  obtain ⟨M, hM⟩ : ∃ M, Nm.D.pad (D.sb n) = M := ⟨_, rfl⟩
  rw [hM] at HTX ⊢
  have hlt := hB.lt
  have i1 : ((k : Int) != 1) = true := by simp; omega
  have HWS := Lib.hid (hws b)
  have HWB := Lib.hid (hwb b)
  have hkW := Nu.knd hKn hNu hkb hbl
  have hblW : b ≤ W.heap.size := Nat.le_trans hbl hNu.size
  obtain ⟨Y, hY⟩ : ∃ Y : D.Nv, ⟨k, ⟨#[]⟩, M, A, 0, c⟩ = Y := ⟨_, rfl⟩
  have hY1 : Y.k = k := by rw [← hY]
  have hY2 : Y.n = M := by rw [← hY]
  have hY3 : Value.slice Y.A Y.m Y.c = .slice A 0 c := by rw [← hY]
  rw [hY]
  clear hM hts hY
  obtain ⟨W1, hW1⟩ : ∃ W1, W.alloc (.cells (nS.v Y) 116) = W1 := ⟨_, rfl⟩
  have hG1 : Blk W1 W.heap.size 116 (nS.v Y) := by rw [← hW1]; exact Blk.new _ _ _
  have hB1 : Bs b W1 L := by rw [← hW1]; exact hB.on (below_alloc_ _ _)
  have hN1 : Nu b W W1 := by rw [← hW1]; exact Nu.of_below (below_alloc_ _ _)
  have fG : ∀ W', Nu b W1 W' → W'.cell? ⟨W.heap.size, 0, none⟩ = some (.int .i64 (k : Nat)) ∧ Nm.rd W' ⟨W.heap.size, 2, none⟩ = some M ∧ W'.cell? ⟨W.heap.size, 14, none⟩ = some (.slice A 0 c) ∧ W.heap.size < W'.heap.size := by
    intro W' h
    have hb := h.keep _ _ _ (by omega) (by decide) hG1
    have f := nf_blk hb
    have f1 := f.k; have f2 := f.n; have f3 := f.c
    simp only [Nat.zero_add] at f1 f2 f3
    rw [hY1] at f1; rw [hY2] at f2; rw [hY3] at f3
    exact ⟨f1, f2, f3, hb.lt⟩
  have FG := Lib.hid fG
  obtain ⟨g0, g1, g2, g3⟩ := fG W1 (Nu.refl _ _)
  subst hW1
  have HB1 := Lib.hid hB1
  have HN1 := Lib.hid hN1
  have HNS := Lib.hid hns
  have HNL := Lib.hid hnl
  have HKW := Lib.hid hkW
  have hlW : b ≤ (W.alloc (.cells (nS.v Y) 116)).heap.size := by simp; omega
  have HLW := Lib.hid hblW
  have HKB := Lib.hid hkb
  have e_ : (D.prN (.mk 2 [] n [] [])).length = n.length + 10 := by simp [D.prN, D.numP]
  have hsz' : L.length + (n.length + 10) ≤ 100000 := by omega
  clear e_
  have hc1 : ¬ 9223372036854775807 < 1 + (D.sb n).size := by rw [D.sb_len]; omega
  have hc2 : 1 + (D.sb n).size ≤ 9223372036854775807 := by rw [D.sb_len]; omega
  have ik : (k : Int) < 5 := by omega
  have ik' : k < 5 := by omega
  have HKE := Kept.mk hk
  have HA1 := Lib.hid (fun W' hW => hwl b W' L (123 :: n) (⟨#[123]⟩ ++ D.sb n) (by rw [ns_app_, hns]; rfl) (List.cons_ne_nil _ _) (by simp; omega) hW)
  have HA2 := Lib.hid (fun W' hW => hwl b W' (L ++ 123 :: n) [44, 32, 110, 117, 109, 98, 101, 114] (⟨#[44, 32]⟩ ++ ⟨#[110, 117, 109, 98, 101, 114]⟩) (by rw [ns_app_]; rfl) (List.cons_ne_nil _ _) (by simp; omega) hW)
  clear hB hNu hB1 hN1 fG hG1 hns hnl hkW hblW hlW hY1 hY2 hY3 hn hn8 hsz hKn hbl hkb hk
  go_enter Tryz.func88, Tryz.ntmps88
  go_wp2_with (first
    | (go_at_call 135; (with_reducible refine (HTX.out _).mono ?_); rintro e w2 ⟨rfl, b2⟩
       have N2 := Lib.hid (Nu.of_below (b := b) b2)
       have B2 := Lib.hid (HB1.out.on b2)
       clear b2)
    | (go_at_call 86; (with_reducible refine (HA1.out _ B2.out).mono ?_); rintro e w3 ⟨rfl, b3, n3⟩
       have N3 := Lib.hid (N2.out.trans n3)
       have B3 := Lib.hid b3
       obtain ⟨h0_, h1_, h2_, h3_⟩ := FG.out w3 (N2.out.trans n3)
       have hk3 := Nu.knd HKW.out (HN1.out.trans (N2.out.trans n3)) HKB.out HLW.out
       have kc : w3.cell? ⟨0, k, none⟩ = some (.string ⟨#[110, 117, 109, 98, 101, 114]⟩) := by rw [HKE.out]; exact hk3.c2
       clear b3 n3 h1_ hk3)
    | (go_at_call 86; (with_reducible refine (HA2.out _ B3.out).mono ?_); rintro e w4 ⟨rfl, b4, n4⟩
       have N4 := Lib.hid (N3.out.trans n4)
       have B4 := Lib.hid b4
       obtain ⟨j0_, j1_, j2_, j3_⟩ := FG.out w4 (N3.out.trans n4)
       clear b4 n4 j1_))
  go_loopw [25] (fun i wr => i = .int .i64 0 ∧ Hid (Bs b wr (L ++ 123 :: n ++ [44, 32, 110, 117, 109, 98, 101, 114])) ∧ Hid (Nu b (W.alloc (.cells (nS.v Y) 116)) wr)) (fun _ _ => 0)
  case atStart => exact ⟨rfl, B4, N4⟩
  case round =>
    obtain ⟨rfl, HBj, HNj⟩ := hrel
    obtain ⟨wo, rfl⟩ : ∃ wo : World, wo = wr := ⟨_, rfl⟩
    have HE1 := Lib.hid (hwb b wo _ 125 125 rfl HBj.out (by simp; omega))
    go_wp2_with (go_at_call 87; (with_reducible refine HE1.out.mono ?_); rintro e w9 ⟨rfl, b9, n9⟩)
    go_end0
    refine ⟨rfl, ?_, (HN1.out.trans HNj.out).trans n9⟩
    have e : L ++ D.prN (.mk 2 [] n [] []) = (L ++ 123 :: n ++ [44, 32, 110, 117, 109, 98, 101, 114]) ++ [125] := by simp [D.prN, D.numP]
    rw [e]
    exact b9
set_option maxHeartbeats 8000000 in
theorem writePlace_plu (b k m c : Nat) (A : Option Addr) (n : List Nat) (ws : List (List Nat)) (ks : List (List D.Nd)) (cs : List (List Nat × Value)) (w : World) (hk : k = 3) (hn : Nm.D.isB n = true) (hn8 : ∀ c ∈ n, c < 256) (hbl : b ≤ w.heap.size) (hkb : 0 < b) (hKn : Knd w)
    (hr : RF 2 (fun i => i < b) w A m (ccs cs)) (hmn : m ≤ 1000) (hcw : cs.map (·.1) = ws) (hB8 : D.B8 ws) (hl : ws.length = ks.length) (h0 : ws ≠ []) (h1 : ∀ x ∈ cs, ∃ (A : Option Addr) (n c : Nat), x.2 = .slice A n c)
    (hK : ∀ (j : Nat) (t : List Nat) (u : Value) (q : List D.Nd), cs[j]? = some (t, u) → ks[j]? = some q → WrC 41 b u w (D.prL q)) : WrC 88 b (.agg (nS.v ⟨k, ⟨#[]⟩, Nm.D.pad (D.sb n), A, m, c⟩)) w (D.prN (.mk 3 [] n ws ks)) := by
  intro W L hNu hB hsz
  have hts := ts_pad hn hn8
  have hnl : n ≠ [] := fun e => by rw [e] at hn; exact absurd hn (by decide)
  have hns := D.ns_sb hn8
  have HTX := Lib.hid (fun W' => Nm.text_any (Nm.D.pad (D.sb n)) W')
  rw [hts] at HTX
  obtain ⟨M, hM⟩ : ∃ M, Nm.D.pad (D.sb n) = M := ⟨_, rfl⟩
  rw [hM] at HTX ⊢
  have hlt := hB.lt
  have i1 : ((k : Int) != 1) = true := by simp; omega
  have HWS := Lib.hid (hws b)
  have HWB := Lib.hid (hwb b)
  have hkW := Nu.knd hKn hNu hkb hbl
  have hblW : b ≤ W.heap.size := Nat.le_trans hbl hNu.size
  obtain ⟨Y, hY⟩ : ∃ Y : D.Nv, ⟨k, ⟨#[]⟩, M, A, m, c⟩ = Y := ⟨_, rfl⟩
  have hY1 : Y.k = k := by rw [← hY]
  have hY2 : Y.n = M := by rw [← hY]
  have hY3 : Value.slice Y.A Y.m Y.c = .slice A m c := by rw [← hY]
  rw [hY]
  clear hM hts hY
  obtain ⟨W1, hW1⟩ : ∃ W1, W.alloc (.cells (nS.v Y) 116) = W1 := ⟨_, rfl⟩
  have hG1 : Blk W1 W.heap.size 116 (nS.v Y) := by rw [← hW1]; exact Blk.new _ _ _
  have hB1 : Bs b W1 L := by rw [← hW1]; exact hB.on (below_alloc_ _ _)
  have hN1 : Nu b W W1 := by rw [← hW1]; exact Nu.of_below (below_alloc_ _ _)
  have fG : ∀ W', Nu b W1 W' → W'.cell? ⟨W.heap.size, 0, none⟩ = some (.int .i64 (k : Nat)) ∧ Nm.rd W' ⟨W.heap.size, 2, none⟩ = some M ∧ W'.cell? ⟨W.heap.size, 14, none⟩ = some (.slice A m c) ∧ W.heap.size < W'.heap.size := by
    intro W' h
    have hb := h.keep _ _ _ (by omega) (by decide) hG1
    have f := nf_blk hb
    have f1 := f.k; have f2 := f.n; have f3 := f.c
    simp only [Nat.zero_add] at f1 f2 f3
    rw [hY1] at f1; rw [hY2] at f2; rw [hY3] at f3
    exact ⟨f1, f2, f3, hb.lt⟩
  have FG := Lib.hid fG
  obtain ⟨g0, g1, g2, g3⟩ := fG W1 (Nu.refl _ _)
  subst hW1
  have HB1 := Lib.hid hB1
  have HN1 := Lib.hid hN1
  have HNS := Lib.hid hns
  have HNL := Lib.hid hnl
  have HKW := Lib.hid hkW
  have hlW : b ≤ (W.alloc (.cells (nS.v Y) 116)).heap.size := by simp; omega
  have HLW := Lib.hid hblW
  have HKB := Lib.hid hkb
  have HR := Lib.hid hr
  have HK := Lib.hid hK
  have HNW := Lib.hid hNu
  have H1 := Lib.hid h1
  have HB8 := Lib.hid hB8
  have HCW := Kept.mk hcw
  have HL := Lib.hid hl
  have H0 := Lib.hid h0
  have e_ : (D.prN (.mk 3 [] n ws ks)).length = n.length + 11 + (D.prC ws ks).length := by (simp [D.prN, D.pluP]; omega)
  have hsz' : L.length + (n.length + 11 + (D.prC ws ks).length) ≤ 100000 := by omega
  clear e_
  clear hr hK h1 hB8 hcw hl h0
  have hc1 : ¬ 9223372036854775807 < 1 + (D.sb n).size := by rw [D.sb_len]; omega
  have hc2 : 1 + (D.sb n).size ≤ 9223372036854775807 := by rw [D.sb_len]; omega
  have ik : (k : Int) < 5 := by omega
  have ik' : k < 5 := by omega
  have HKE := Kept.mk hk
  have HA1 := Lib.hid (fun W' hW => hwl b W' L (123 :: n) (⟨#[123]⟩ ++ D.sb n) (by rw [ns_app_, hns]; rfl) (List.cons_ne_nil _ _) (by simp; omega) hW)
  have HA2 := Lib.hid (fun W' hW => hwl b W' (L ++ 123 :: n) [44, 32, 112, 108, 117, 114, 97, 108] (⟨#[44, 32]⟩ ++ ⟨#[112, 108, 117, 114, 97, 108]⟩) (by rw [ns_app_]; rfl) (List.cons_ne_nil _ _) (by simp; omega) hW)
  clear hB hNu hB1 hN1 fG hG1 hns hnl hkW hblW hlW hY1 hY2 hY3 hn hn8 hsz hKn hbl hkb hk
  go_enter Tryz.func88, Tryz.ntmps88
  go_wp2_with (first
    | (go_at_call 135; (with_reducible refine (HTX.out _).mono ?_); rintro e w2 ⟨rfl, b2⟩
       have N2 := Lib.hid (Nu.of_below (b := b) b2)
       have B2 := Lib.hid (HB1.out.on b2)
       clear b2)
    | (go_at_call 86; (with_reducible refine (HA1.out _ B2.out).mono ?_); rintro e w3 ⟨rfl, b3, n3⟩
       have N3 := Lib.hid (N2.out.trans n3)
       have B3 := Lib.hid b3
       obtain ⟨h0_, h1_, h2_, h3_⟩ := FG.out w3 (N2.out.trans n3)
       have hk3 := Nu.knd HKW.out (HN1.out.trans (N2.out.trans n3)) HKB.out HLW.out
       have kc : w3.cell? ⟨0, k, none⟩ = some (.string ⟨#[112, 108, 117, 114, 97, 108]⟩) := by rw [HKE.out]; exact hk3.c3
       clear b3 n3 h1_ hk3)
    | (go_at_call 86; (with_reducible refine (HA2.out _ B3.out).mono ?_); rintro e w4 ⟨rfl, b4, n4⟩
       have N4 := Lib.hid (N3.out.trans n4)
       have B4 := Lib.hid b4
       obtain ⟨j0_, j1_, j2_, j3_⟩ := FG.out w4 (N3.out.trans n4)
       clear b4 n4 j1_))
  have hcl : cs.length = m := by have := HR.out.row.len; rw [ccs_len] at this; omega
  have hwl_ : ws.length = m := by rw [← HCW.out, List.length_map]; exact hcl
  go_loopw [25] (fun i wr => ∃ j : Nat, j ≤ m ∧ i = .int .i64 j ∧ Hid (Bs b wr ((L ++ 123 :: n ++ [44, 32, 112, 108, 117, 114, 97, 108]) ++ (if j = 0 then [] else 44 :: D.prC (ws.take (j)) (ks.take (j))))) ∧ Hid (Nu b (W.alloc (.cells (nS.v Y) 116)) wr)) (fun i _ => m - (intOf i).toNat)
  case atStart => exact ⟨0, Nat.zero_le _, rfl, Lib.hid (by simpa using B4.out), N4⟩
  case round =>
    obtain ⟨j, hj, rfl, HBj, HNj⟩ := hrel
    obtain ⟨wo, rfl⟩ : ∃ wo : World, wo = wr := ⟨_, rfl⟩
    have hNw := (HNW.out.trans HN1.out).trans HNj.out
    by_cases hlt2 : j < m
    · obtain ⟨⟨t, u⟩, ht⟩ : ∃ a, cs[j]? = some a := ⟨_, List.getElem?_eq_getElem (by omega)⟩
      have hlk := HL.out
      obtain ⟨q, hq⟩ : ∃ q, ks[j]? = some q := ⟨_, List.getElem?_eq_getElem (by omega)⟩
      have hm : ws[j]? = some t := by rw [← HCW.out]; simp [ht]
      have ht8 := HB8.out t (List.mem_of_getElem? hm)
      obtain ⟨Au, nu, cu, hu⟩ := H1.out _ (List.mem_of_getElem? ht)
      have hu : u = .slice Au nu cu := hu
      subst hu
      obtain ⟨e0, e1⟩ := ccs_at ht
      have HR' := (Nu.row HR.out hNw).row
      obtain ⟨ad, rfl, hbk, hc0⟩ := HR'.cell e0
      obtain ⟨ad', ead, _, hc1⟩ := HR'.cell e1
      cases ead
      have hI : (j : Int) < m := by omega
      have hc1' : wo.cell? ⟨(ad.add (j * 2)).block, (ad.add (j * 2)).off + 1, none⟩ = some (.slice Au nu cu) := by
        rw [← hc1]
        unfold Addr.add
        by_cases h0 : j * 2 = 0
        · simp [h0]
        · simp [h0, Nat.add_assoc]
      have hsn := D.prC_snoc ws ks j t q hm hq hlk
      have hpart := D.prC_part ws ks (j + 1) hlk
      rw [hsn] at hpart
      simp only [List.length_append, List.length_cons, List.length_nil] at hpart
      have hd1 : ¬ 9223372036854775807 < 1 + (D.sb t).size := by rw [D.sb_len]; omega
      have hd2 : 1 + (D.sb t).size ≤ 9223372036854775807 := by rw [D.sb_len]; omega
      have hd3 : ¬ 9223372036854775807 < 1 + (D.sb t).size + 1 := by rw [D.sb_len]; omega
      have hd4 : 1 + (D.sb t).size + 1 ≤ 9223372036854775807 := by rw [D.sb_len]; omega
      have hC2 : Blk (wo.alloc (.cells #[.string (D.sb t), .slice Au nu cu] 149)) wo.heap.size 149 #[.string (D.sb t), .slice Au nu cu] := Blk.new _ _ _
      have hwo : b < wo.heap.size := HBj.out.lt
      have fC : ∀ W', Nu b (wo.alloc (.cells #[.string (D.sb t), .slice Au nu cu] 149)) W' → W'.cell? ⟨wo.heap.size, 0, none⟩ = some (.string (D.sb t)) ∧ W'.cell? ⟨wo.heap.size, 1, none⟩ = some (.slice Au nu cu) ∧ wo.heap.size < W'.heap.size := fun W' h => by
        have hb := h.keep _ _ _ (by omega) (by decide) hC2
        exact ⟨hb.c_ 0, hb.c_ 1, hb.lt⟩
      have FC := Lib.hid fC
      obtain ⟨q0, q1, q2⟩ := fC _ (Nu.refl _ _)
      have hB2 := HBj.out.on (below_alloc_ wo (.cells #[.string (D.sb t), .slice Au nu cu] 149))
      have hN2 : Nu b wo (wo.alloc (.cells #[.string (D.sb t), .slice Au nu cu] 149)) := Nu.of_below (below_alloc_ _ _)
      have HB2 := Lib.hid hB2
      have HN2 := Lib.hid hN2
      have HNw := Lib.hid (hNw.trans hN2)
      have hll : (L ++ 123 :: n ++ [44, 32, 112, 108, 117, 114, 97, 108]).length = L.length + n.length + 9 := by simp; omega
      have HWA := Lib.hid (fun W' hW => hwl b W' ((L ++ 123 :: n ++ [44, 32, 112, 108, 117, 114, 97, 108]) ++ 44 :: D.prC (ws.take j) (ks.take j)) (32 :: (t ++ [123])) (⟨#[32]⟩ ++ D.sb t ++ ⟨#[123]⟩) (by rw [ns_app_, ns_app_, D.ns_sb ht8]; rfl) (List.cons_ne_nil _ _) (by rw [List.length_append, hll]; simp; omega) hW)
      have HWK := Lib.hid (fun W' hn hW => HK.out j t _ q ht hq W' ((L ++ 123 :: n ++ [44, 32, 112, 108, 117, 114, 97, 108]) ++ 44 :: D.prC (ws.take j) (ks.take j) ++ 32 :: (t ++ [123])) hn hW (by rw [List.length_append, List.length_append, hll]; simp; omega))
      have HWE := Lib.hid (fun W' hW => hwb b W' ((L ++ 123 :: n ++ [44, 32, 112, 108, 117, 114, 97, 108]) ++ 44 :: D.prC (ws.take j) (ks.take j) ++ 32 :: (t ++ [123]) ++ D.prL q) 125 125 rfl hW (by rw [List.length_append, List.length_append, List.length_append, hll]; simp; omega))
      have hfin : (L ++ 123 :: n ++ [44, 32, 112, 108, 117, 114, 97, 108]) ++ (if j + 1 = 0 then [] else 44 :: D.prC (ws.take (j + 1)) (ks.take (j + 1))) = (L ++ 123 :: n ++ [44, 32, 112, 108, 117, 114, 97, 108]) ++ 44 :: D.prC (ws.take j) (ks.take j) ++ 32 :: (t ++ [123]) ++ D.prL q ++ [125] := by
        rw [if_neg (by omega), hsn]
        simp
      have HFIN := Kept.mk hfin
      clear HR' e0 e1 hc1 hm ht8 ht hq hsn hpart hC2 fC hB2 hN2 hfin hlk hNw
      by_cases hj0 : j = 0
      · have i0 : ((j : Int) == 0) = true := by simp; omega
        have hx0 : (L ++ 123 :: n ++ [44, 32, 112, 108, 117, 114, 97, 108]) ++ (if j = 0 then [] else 44 :: D.prC (ws.take (j)) (ks.take (j))) ++ [44] = (L ++ 123 :: n ++ [44, 32, 112, 108, 117, 114, 97, 108]) ++ 44 :: D.prC (ws.take j) (ks.take j) := by
          rw [if_pos hj0, hj0]
          simp [D.prC]
        have HX0 := Kept.mk hx0
        have HW4 := Lib.hid (hwb b _ _ 44 44 rfl HB2.out (by rw [List.length_append, hll, if_pos hj0]; simp; omega))
        clear hj0 hx0
        go_wp2_with (first
          | (go_at_call 87; (with_reducible refine HW4.out.mono ?_); rintro e w5 ⟨rfl, b5, n5⟩
             have N5 := Lib.hid n5
             have B5 := Lib.hid (show Bs b w5 ((L ++ 123 :: n ++ [44, 32, 112, 108, 117, 114, 97, 108]) ++ 44 :: D.prC (ws.take j) (ks.take j)) by rw [← HX0.out]; exact b5)
             obtain ⟨r0, r1, r2⟩ := FC.out w5 n5
             clear b5 n5)
          | (go_at_call 86; (with_reducible refine (HWA.out _ B5.out).mono ?_); rintro e w6 ⟨rfl, b6, n6⟩
             have N6 := Lib.hid (N5.out.trans n6)
             have B6 := Lib.hid b6
             obtain ⟨s0, s1, s2⟩ := FC.out w6 (N5.out.trans n6)
             clear b6 n6)
          | (go_at_call 41; (with_reducible refine (HWK.out _ (HNw.out.trans N6.out) B6.out).mono ?_); rintro e w7 ⟨rfl, b7, n7⟩
             have N7 := Lib.hid (N6.out.trans n7)
             have B7 := Lib.hid b7
             clear b7 n7)
          | (go_at_call 87; (with_reducible refine (HWE.out _ B7.out).mono ?_); rintro e w8 ⟨rfl, b8, n8⟩
             have N8 := Lib.hid (N7.out.trans n8)
             have B8 := Lib.hid b8
             clear b8 n8))
        go_roundw
        case rel => exact ⟨j + 1, by omega, by go_num, Lib.hid (by rw [HFIN.out]; exact B8.out), Lib.hid (HNj.out.trans (HN2.out.trans N8.out))⟩
        case measure => simp [intOf]; omega
      · have i0 : ((j : Int) == 0) = false := by simp; omega
        have hx0 : (L ++ 123 :: n ++ [44, 32, 112, 108, 117, 114, 97, 108]) ++ (if j = 0 then [] else 44 :: D.prC (ws.take (j)) (ks.take (j))) = (L ++ 123 :: n ++ [44, 32, 112, 108, 117, 114, 97, 108]) ++ 44 :: D.prC (ws.take j) (ks.take j) := by rw [if_neg hj0]
        rw [hx0] at HB2
        have B5 := HB2
        have N5 : Hid (Nu b (wo.alloc (.cells #[.string (D.sb t), .slice Au nu cu] 149)) (wo.alloc (.cells #[.string (D.sb t), .slice Au nu cu] 149))) := Lib.hid (Nu.refl _ _)
        clear hj0 hx0
        go_wp2_with (first
          | (go_at_call 86; (with_reducible refine (HWA.out _ B5.out).mono ?_); rintro e w6 ⟨rfl, b6, n6⟩
             have N6 := Lib.hid (N5.out.trans n6)
             have B6 := Lib.hid b6
             obtain ⟨s0, s1, s2⟩ := FC.out w6 (N5.out.trans n6)
             clear b6 n6)
          | (go_at_call 41; (with_reducible refine (HWK.out _ (HNw.out.trans N6.out) B6.out).mono ?_); rintro e w7 ⟨rfl, b7, n7⟩
             have N7 := Lib.hid (N6.out.trans n7)
             have B7 := Lib.hid b7
             clear b7 n7)
          | (go_at_call 87; (with_reducible refine (HWE.out _ B7.out).mono ?_); rintro e w8 ⟨rfl, b8, n8⟩
             have N8 := Lib.hid (N7.out.trans n8)
             have B8 := Lib.hid b8
             clear b8 n8))
        go_roundw
        case rel => exact ⟨j + 1, by omega, by go_num, Lib.hid (by rw [HFIN.out]; exact B8.out), Lib.hid (HNj.out.trans (HN2.out.trans N8.out))⟩
        case measure => simp [intOf]; omega
    · obtain rfl : j = m := by omega
      have h0m : ¬ j = 0 := fun e => H0.out (List.eq_nil_of_length_eq_zero (by omega))
      have hwall : ws.take j = ws := List.take_of_length_le (by omega)
      have hkall : ks.take j = ks := List.take_of_length_le (by have := HL.out; omega)
      have hb1 := HBj.out
      rw [if_neg h0m, hwall, hkall] at hb1
      have HE1 := Lib.hid (hwb b wo _ 125 125 rfl hb1 (by simp; omega))
      clear hb1 hwall hkall h0m
      go_wp2_with (go_at_call 87; (with_reducible refine HE1.out.mono ?_); rintro e w9 ⟨rfl, b9, n9⟩)
      go_end0
      refine ⟨rfl, ?_, (HN1.out.trans HNj.out).trans n9⟩
      have e : L ++ D.prN (.mk 3 [] n ws ks) = (L ++ 123 :: n ++ [44, 32, 112, 108, 117, 114, 97, 108]) ++ 44 :: D.prC ws ks ++ [125] := by simp [D.prN, D.pluP]
      rw [e]
      exact b9
set_option maxHeartbeats 8000000 in
theorem writePlace_sel (b k m c : Nat) (A : Option Addr) (n : List Nat) (ws : List (List Nat)) (ks : List (List D.Nd)) (cs : List (List Nat × Value)) (w : World) (hk : k = 4) (hn : Nm.D.isB n = true) (hn8 : ∀ c ∈ n, c < 256) (hbl : b ≤ w.heap.size) (hkb : 0 < b) (hKn : Knd w)
    (hr : RF 2 (fun i => i < b) w A m (ccs cs)) (hmn : m ≤ 1000) (hcw : cs.map (·.1) = ws) (hB8 : D.B8 ws) (hl : ws.length = ks.length) (h0 : ws ≠ []) (h1 : ∀ x ∈ cs, ∃ (A : Option Addr) (n c : Nat), x.2 = .slice A n c)
    (hK : ∀ (j : Nat) (t : List Nat) (u : Value) (q : List D.Nd), cs[j]? = some (t, u) → ks[j]? = some q → WrC 41 b u w (D.prL q)) : WrC 88 b (.agg (nS.v ⟨k, ⟨#[]⟩, Nm.D.pad (D.sb n), A, m, c⟩)) w (D.prN (.mk 4 [] n ws ks)) := by
  intro W L hNu hB hsz
  have hts := ts_pad hn hn8
  have hnl : n ≠ [] := fun e => by rw [e] at hn; exact absurd hn (by decide)
  have hns := D.ns_sb hn8
  have HTX := Lib.hid (fun W' => Nm.text_any (Nm.D.pad (D.sb n)) W')
  rw [hts] at HTX
  obtain ⟨M, hM⟩ : ∃ M, Nm.D.pad (D.sb n) = M := ⟨_, rfl⟩
  rw [hM] at HTX ⊢
  have hlt := hB.lt
  have i1 : ((k : Int) != 1) = true := by simp; omega
  have HWS := Lib.hid (hws b)
  have HWB := Lib.hid (hwb b)
  have hkW := Nu.knd hKn hNu hkb hbl
  have hblW : b ≤ W.heap.size := Nat.le_trans hbl hNu.size
  obtain ⟨Y, hY⟩ : ∃ Y : D.Nv, ⟨k, ⟨#[]⟩, M, A, m, c⟩ = Y := ⟨_, rfl⟩
  have hY1 : Y.k = k := by rw [← hY]
  have hY2 : Y.n = M := by rw [← hY]
  have hY3 : Value.slice Y.A Y.m Y.c = .slice A m c := by rw [← hY]
  rw [hY]
  clear hM hts hY
  obtain ⟨W1, hW1⟩ : ∃ W1, W.alloc (.cells (nS.v Y) 116) = W1 := ⟨_, rfl⟩
  have hG1 : Blk W1 W.heap.size 116 (nS.v Y) := by rw [← hW1]; exact Blk.new _ _ _
  have hB1 : Bs b W1 L := by rw [← hW1]; exact hB.on (below_alloc_ _ _)
  have hN1 : Nu b W W1 := by rw [← hW1]; exact Nu.of_below (below_alloc_ _ _)
  have fG : ∀ W', Nu b W1 W' → W'.cell? ⟨W.heap.size, 0, none⟩ = some (.int .i64 (k : Nat)) ∧ Nm.rd W' ⟨W.heap.size, 2, none⟩ = some M ∧ W'.cell? ⟨W.heap.size, 14, none⟩ = some (.slice A m c) ∧ W.heap.size < W'.heap.size := by
    intro W' h
    have hb := h.keep _ _ _ (by omega) (by decide) hG1
    have f := nf_blk hb
    have f1 := f.k; have f2 := f.n; have f3 := f.c
    simp only [Nat.zero_add] at f1 f2 f3
    rw [hY1] at f1; rw [hY2] at f2; rw [hY3] at f3
    exact ⟨f1, f2, f3, hb.lt⟩
  have FG := Lib.hid fG
  obtain ⟨g0, g1, g2, g3⟩ := fG W1 (Nu.refl _ _)
  subst hW1
  have HB1 := Lib.hid hB1
  have HN1 := Lib.hid hN1
  have HNS := Lib.hid hns
  have HNL := Lib.hid hnl
  have HKW := Lib.hid hkW
  have hlW : b ≤ (W.alloc (.cells (nS.v Y) 116)).heap.size := by simp; omega
  have HLW := Lib.hid hblW
  have HKB := Lib.hid hkb
  have HR := Lib.hid hr
  have HK := Lib.hid hK
  have HNW := Lib.hid hNu
  have H1 := Lib.hid h1
  have HB8 := Lib.hid hB8
  have HCW := Kept.mk hcw
  have HL := Lib.hid hl
  have H0 := Lib.hid h0
  have e_ : (D.prN (.mk 4 [] n ws ks)).length = n.length + 11 + (D.prC ws ks).length := by (simp [D.prN, D.selP]; omega)
  have hsz' : L.length + (n.length + 11 + (D.prC ws ks).length) ≤ 100000 := by omega
  clear e_
  clear hr hK h1 hB8 hcw hl h0
  have hc1 : ¬ 9223372036854775807 < 1 + (D.sb n).size := by rw [D.sb_len]; omega
  have hc2 : 1 + (D.sb n).size ≤ 9223372036854775807 := by rw [D.sb_len]; omega
  have ik : (k : Int) < 5 := by omega
  have ik' : k < 5 := by omega
  have HKE := Kept.mk hk
  have HA1 := Lib.hid (fun W' hW => hwl b W' L (123 :: n) (⟨#[123]⟩ ++ D.sb n) (by rw [ns_app_, hns]; rfl) (List.cons_ne_nil _ _) (by simp; omega) hW)
  have HA2 := Lib.hid (fun W' hW => hwl b W' (L ++ 123 :: n) [44, 32, 115, 101, 108, 101, 99, 116] (⟨#[44, 32]⟩ ++ ⟨#[115, 101, 108, 101, 99, 116]⟩) (by rw [ns_app_]; rfl) (List.cons_ne_nil _ _) (by simp; omega) hW)
  clear hB hNu hB1 hN1 fG hG1 hns hnl hkW hblW hlW hY1 hY2 hY3 hn hn8 hsz hKn hbl hkb hk
  go_enter Tryz.func88, Tryz.ntmps88
  go_wp2_with (first
    | (go_at_call 135; (with_reducible refine (HTX.out _).mono ?_); rintro e w2 ⟨rfl, b2⟩
       have N2 := Lib.hid (Nu.of_below (b := b) b2)
       have B2 := Lib.hid (HB1.out.on b2)
       clear b2)
    | (go_at_call 86; (with_reducible refine (HA1.out _ B2.out).mono ?_); rintro e w3 ⟨rfl, b3, n3⟩
       have N3 := Lib.hid (N2.out.trans n3)
       have B3 := Lib.hid b3
       obtain ⟨h0_, h1_, h2_, h3_⟩ := FG.out w3 (N2.out.trans n3)
       have hk3 := Nu.knd HKW.out (HN1.out.trans (N2.out.trans n3)) HKB.out HLW.out
       have kc : w3.cell? ⟨0, k, none⟩ = some (.string ⟨#[115, 101, 108, 101, 99, 116]⟩) := by rw [HKE.out]; exact hk3.c4
       clear b3 n3 h1_ hk3)
    | (go_at_call 86; (with_reducible refine (HA2.out _ B3.out).mono ?_); rintro e w4 ⟨rfl, b4, n4⟩
       have N4 := Lib.hid (N3.out.trans n4)
       have B4 := Lib.hid b4
       obtain ⟨j0_, j1_, j2_, j3_⟩ := FG.out w4 (N3.out.trans n4)
       clear b4 n4 j1_))
  have hcl : cs.length = m := by have := HR.out.row.len; rw [ccs_len] at this; omega
  have hwl_ : ws.length = m := by rw [← HCW.out, List.length_map]; exact hcl
  go_loopw [25] (fun i wr => ∃ j : Nat, j ≤ m ∧ i = .int .i64 j ∧ Hid (Bs b wr ((L ++ 123 :: n ++ [44, 32, 115, 101, 108, 101, 99, 116]) ++ (if j = 0 then [] else 44 :: D.prC (ws.take (j)) (ks.take (j))))) ∧ Hid (Nu b (W.alloc (.cells (nS.v Y) 116)) wr)) (fun i _ => m - (intOf i).toNat)
  case atStart => exact ⟨0, Nat.zero_le _, rfl, Lib.hid (by simpa using B4.out), N4⟩
  case round =>
    obtain ⟨j, hj, rfl, HBj, HNj⟩ := hrel
    obtain ⟨wo, rfl⟩ : ∃ wo : World, wo = wr := ⟨_, rfl⟩
    have hNw := (HNW.out.trans HN1.out).trans HNj.out
    by_cases hlt2 : j < m
    · obtain ⟨⟨t, u⟩, ht⟩ : ∃ a, cs[j]? = some a := ⟨_, List.getElem?_eq_getElem (by omega)⟩
      have hlk := HL.out
      obtain ⟨q, hq⟩ : ∃ q, ks[j]? = some q := ⟨_, List.getElem?_eq_getElem (by omega)⟩
      have hm : ws[j]? = some t := by rw [← HCW.out]; simp [ht]
      have ht8 := HB8.out t (List.mem_of_getElem? hm)
      obtain ⟨Au, nu, cu, hu⟩ := H1.out _ (List.mem_of_getElem? ht)
      have hu : u = .slice Au nu cu := hu
      subst hu
      obtain ⟨e0, e1⟩ := ccs_at ht
      have HR' := (Nu.row HR.out hNw).row
      obtain ⟨ad, rfl, hbk, hc0⟩ := HR'.cell e0
      obtain ⟨ad', ead, _, hc1⟩ := HR'.cell e1
      cases ead
      have hI : (j : Int) < m := by omega
      have hc1' : wo.cell? ⟨(ad.add (j * 2)).block, (ad.add (j * 2)).off + 1, none⟩ = some (.slice Au nu cu) := by
        rw [← hc1]
        unfold Addr.add
        by_cases h0 : j * 2 = 0
        · simp [h0]
        · simp [h0, Nat.add_assoc]
      have hsn := D.prC_snoc ws ks j t q hm hq hlk
      have hpart := D.prC_part ws ks (j + 1) hlk
      rw [hsn] at hpart
      simp only [List.length_append, List.length_cons, List.length_nil] at hpart
      have hd1 : ¬ 9223372036854775807 < 1 + (D.sb t).size := by rw [D.sb_len]; omega
      have hd2 : 1 + (D.sb t).size ≤ 9223372036854775807 := by rw [D.sb_len]; omega
      have hd3 : ¬ 9223372036854775807 < 1 + (D.sb t).size + 1 := by rw [D.sb_len]; omega
      have hd4 : 1 + (D.sb t).size + 1 ≤ 9223372036854775807 := by rw [D.sb_len]; omega
      have hC2 : Blk (wo.alloc (.cells #[.string (D.sb t), .slice Au nu cu] 149)) wo.heap.size 149 #[.string (D.sb t), .slice Au nu cu] := Blk.new _ _ _
      have hwo : b < wo.heap.size := HBj.out.lt
      have fC : ∀ W', Nu b (wo.alloc (.cells #[.string (D.sb t), .slice Au nu cu] 149)) W' → W'.cell? ⟨wo.heap.size, 0, none⟩ = some (.string (D.sb t)) ∧ W'.cell? ⟨wo.heap.size, 1, none⟩ = some (.slice Au nu cu) ∧ wo.heap.size < W'.heap.size := fun W' h => by
        have hb := h.keep _ _ _ (by omega) (by decide) hC2
        exact ⟨hb.c_ 0, hb.c_ 1, hb.lt⟩
      have FC := Lib.hid fC
      obtain ⟨q0, q1, q2⟩ := fC _ (Nu.refl _ _)
      have hB2 := HBj.out.on (below_alloc_ wo (.cells #[.string (D.sb t), .slice Au nu cu] 149))
      have hN2 : Nu b wo (wo.alloc (.cells #[.string (D.sb t), .slice Au nu cu] 149)) := Nu.of_below (below_alloc_ _ _)
      have HB2 := Lib.hid hB2
      have HN2 := Lib.hid hN2
      have HNw := Lib.hid (hNw.trans hN2)
      have hll : (L ++ 123 :: n ++ [44, 32, 115, 101, 108, 101, 99, 116]).length = L.length + n.length + 9 := by simp; omega
      have HWA := Lib.hid (fun W' hW => hwl b W' ((L ++ 123 :: n ++ [44, 32, 115, 101, 108, 101, 99, 116]) ++ 44 :: D.prC (ws.take j) (ks.take j)) (32 :: (t ++ [123])) (⟨#[32]⟩ ++ D.sb t ++ ⟨#[123]⟩) (by rw [ns_app_, ns_app_, D.ns_sb ht8]; rfl) (List.cons_ne_nil _ _) (by rw [List.length_append, hll]; simp; omega) hW)
      have HWK := Lib.hid (fun W' hn hW => HK.out j t _ q ht hq W' ((L ++ 123 :: n ++ [44, 32, 115, 101, 108, 101, 99, 116]) ++ 44 :: D.prC (ws.take j) (ks.take j) ++ 32 :: (t ++ [123])) hn hW (by rw [List.length_append, List.length_append, hll]; simp; omega))
      have HWE := Lib.hid (fun W' hW => hwb b W' ((L ++ 123 :: n ++ [44, 32, 115, 101, 108, 101, 99, 116]) ++ 44 :: D.prC (ws.take j) (ks.take j) ++ 32 :: (t ++ [123]) ++ D.prL q) 125 125 rfl hW (by rw [List.length_append, List.length_append, List.length_append, hll]; simp; omega))
      have hfin : (L ++ 123 :: n ++ [44, 32, 115, 101, 108, 101, 99, 116]) ++ (if j + 1 = 0 then [] else 44 :: D.prC (ws.take (j + 1)) (ks.take (j + 1))) = (L ++ 123 :: n ++ [44, 32, 115, 101, 108, 101, 99, 116]) ++ 44 :: D.prC (ws.take j) (ks.take j) ++ 32 :: (t ++ [123]) ++ D.prL q ++ [125] := by
        rw [if_neg (by omega), hsn]
        simp
      have HFIN := Kept.mk hfin
      clear HR' e0 e1 hc1 hm ht8 ht hq hsn hpart hC2 fC hB2 hN2 hfin hlk hNw
      by_cases hj0 : j = 0
      · have i0 : ((j : Int) == 0) = true := by simp; omega
        have hx0 : (L ++ 123 :: n ++ [44, 32, 115, 101, 108, 101, 99, 116]) ++ (if j = 0 then [] else 44 :: D.prC (ws.take (j)) (ks.take (j))) ++ [44] = (L ++ 123 :: n ++ [44, 32, 115, 101, 108, 101, 99, 116]) ++ 44 :: D.prC (ws.take j) (ks.take j) := by
          rw [if_pos hj0, hj0]
          simp [D.prC]
        have HX0 := Kept.mk hx0
        have HW4 := Lib.hid (hwb b _ _ 44 44 rfl HB2.out (by rw [List.length_append, hll, if_pos hj0]; simp; omega))
        clear hj0 hx0
        go_wp2_with (first
          | (go_at_call 87; (with_reducible refine HW4.out.mono ?_); rintro e w5 ⟨rfl, b5, n5⟩
             have N5 := Lib.hid n5
             have B5 := Lib.hid (show Bs b w5 ((L ++ 123 :: n ++ [44, 32, 115, 101, 108, 101, 99, 116]) ++ 44 :: D.prC (ws.take j) (ks.take j)) by rw [← HX0.out]; exact b5)
             obtain ⟨r0, r1, r2⟩ := FC.out w5 n5
             clear b5 n5)
          | (go_at_call 86; (with_reducible refine (HWA.out _ B5.out).mono ?_); rintro e w6 ⟨rfl, b6, n6⟩
             have N6 := Lib.hid (N5.out.trans n6)
             have B6 := Lib.hid b6
             obtain ⟨s0, s1, s2⟩ := FC.out w6 (N5.out.trans n6)
             clear b6 n6)
          | (go_at_call 41; (with_reducible refine (HWK.out _ (HNw.out.trans N6.out) B6.out).mono ?_); rintro e w7 ⟨rfl, b7, n7⟩
             have N7 := Lib.hid (N6.out.trans n7)
             have B7 := Lib.hid b7
             clear b7 n7)
          | (go_at_call 87; (with_reducible refine (HWE.out _ B7.out).mono ?_); rintro e w8 ⟨rfl, b8, n8⟩
             have N8 := Lib.hid (N7.out.trans n8)
             have B8 := Lib.hid b8
             clear b8 n8))
        go_roundw
        case rel => exact ⟨j + 1, by omega, by go_num, Lib.hid (by rw [HFIN.out]; exact B8.out), Lib.hid (HNj.out.trans (HN2.out.trans N8.out))⟩
        case measure => simp [intOf]; omega
      · have i0 : ((j : Int) == 0) = false := by simp; omega
        have hx0 : (L ++ 123 :: n ++ [44, 32, 115, 101, 108, 101, 99, 116]) ++ (if j = 0 then [] else 44 :: D.prC (ws.take (j)) (ks.take (j))) = (L ++ 123 :: n ++ [44, 32, 115, 101, 108, 101, 99, 116]) ++ 44 :: D.prC (ws.take j) (ks.take j) := by rw [if_neg hj0]
        rw [hx0] at HB2
        have B5 := HB2
        have N5 : Hid (Nu b (wo.alloc (.cells #[.string (D.sb t), .slice Au nu cu] 149)) (wo.alloc (.cells #[.string (D.sb t), .slice Au nu cu] 149))) := Lib.hid (Nu.refl _ _)
        clear hj0 hx0
        go_wp2_with (first
          | (go_at_call 86; (with_reducible refine (HWA.out _ B5.out).mono ?_); rintro e w6 ⟨rfl, b6, n6⟩
             have N6 := Lib.hid (N5.out.trans n6)
             have B6 := Lib.hid b6
             obtain ⟨s0, s1, s2⟩ := FC.out w6 (N5.out.trans n6)
             clear b6 n6)
          | (go_at_call 41; (with_reducible refine (HWK.out _ (HNw.out.trans N6.out) B6.out).mono ?_); rintro e w7 ⟨rfl, b7, n7⟩
             have N7 := Lib.hid (N6.out.trans n7)
             have B7 := Lib.hid b7
             clear b7 n7)
          | (go_at_call 87; (with_reducible refine (HWE.out _ B7.out).mono ?_); rintro e w8 ⟨rfl, b8, n8⟩
             have N8 := Lib.hid (N7.out.trans n8)
             have B8 := Lib.hid b8
             clear b8 n8))
        go_roundw
        case rel => exact ⟨j + 1, by omega, by go_num, Lib.hid (by rw [HFIN.out]; exact B8.out), Lib.hid (HNj.out.trans (HN2.out.trans N8.out))⟩
        case measure => simp [intOf]; omega
    · obtain rfl : j = m := by omega
      have h0m : ¬ j = 0 := fun e => H0.out (List.eq_nil_of_length_eq_zero (by omega))
      have hwall : ws.take j = ws := List.take_of_length_le (by omega)
      have hkall : ks.take j = ks := List.take_of_length_le (by have := HL.out; omega)
      have hb1 := HBj.out
      rw [if_neg h0m, hwall, hkall] at hb1
      have HE1 := Lib.hid (hwb b wo _ 125 125 rfl hb1 (by simp; omega))
      clear hb1 hwall hkall h0m
      go_wp2_with (go_at_call 87; (with_reducible refine HE1.out.mono ?_); rintro e w9 ⟨rfl, b9, n9⟩)
      go_end0
      refine ⟨rfl, ?_, (HN1.out.trans HNj.out).trans n9⟩
      have e : L ++ D.prN (.mk 4 [] n ws ks) = (L ++ 123 :: n ++ [44, 32, 115, 101, 108, 101, 99, 116]) ++ 44 :: D.prC ws ks ++ [125] := by simp [D.prN, D.selP]
      rw [e]
      exact b9
end Go.Proofs.YtohhfcfnclafdaaGreatDoor
set_option linter.unusedVariables false
set_option linter.unusedSimpArgs false
set_option maxRecDepth 100000
namespace Go.Proofs.YtohhfcfnclafdaaGreatDoor
open Go.RowKit
attribute [local go_sem ↓] Go.wp_at_zero Go.wp_at_succ

theorem prC_256 : ∀ {ws : List (List Nat)} {ks : List (List D.Nd)}, D.B8 ws → (∀ q ∈ ks, ∀ c ∈ D.prL q, c < 256) → ∀ c ∈ D.prC ws ks, c < 256
  | [], _, _, _, c, h => by simp [D.prC] at h
  | w :: ws, [], _, _, c, h => by simp [D.prC] at h
  | w :: ws, k :: ks, hw, hk, c, h => by
    simp [D.prC] at h
    rcases h with rfl | h | rfl | h | rfl | h
    · decide
    · exact hw w (by simp) c h
    · decide
    · exact hk k (by simp) c h
    · decide
    · exact prC_256 (fun x hx => hw x (by simp [hx])) (fun q hq => hk q (by simp [hq])) c h
theorem prN_256 {ch : Bool} {kids : Bool → List D.Nd → Prop} {v : Bool} {x : D.Nd} (hx : D.okNd ch kids v x) (hb : D.Bt x) (hk : ∀ q ∈ x.ks, ∀ c ∈ D.prL q, c < 256) : ∀ c ∈ D.prN x, c < 256 := by
  obtain ⟨k, t, n, ws, ks⟩ := x
  obtain ⟨h1, h2, h3⟩ := hb
  simp only [D.Nd.t, D.Nd.n, D.Nd.ws, D.Nd.ks] at h1 h2 h3 hk
  intro c hc
  have hcc := prC_256 h3 hk c
  rcases hx with ⟨e, _⟩ | ⟨e, _⟩ | ⟨e, _⟩ | ⟨e, _⟩
  · simp only [D.Nd.k] at e
    subst e
    simp [D.prN] at hc
    exact h1 c hc
  · injection e with e1 e2 e3 e4 e5
    subst e1
    simp [D.prN] at hc
    omega
  · simp only [D.Nd.k] at e
    rcases e with rfl | rfl
    · simp [D.prN] at hc
      rcases hc with rfl | hc | rfl
      · decide
      · exact h2 c hc
      · decide
    · simp [D.prN, D.numP] at hc
      rcases hc with rfl | hc | hc
      · decide
      · exact h2 c hc
      · omega
  · simp only [D.Nd.k] at e
    rcases e with rfl | rfl
    · simp [D.prN, D.pluP] at hc
      rcases hc with rfl | hc | hc
      · decide
      · exact h2 c hc
      · rcases hc with hc | hc | hc | hc | hc | hc | hc | hc | hc | hc | hc <;> first | omega | exact hcc hc
    · simp [D.prN, D.selP] at hc
      rcases hc with rfl | hc | hc
      · decide
      · exact h2 c hc
      · rcases hc with hc | hc | hc | hc | hc | hc | hc | hc | hc | hc | hc <;> first | omega | exact hcc hc
theorem prL_256l : ∀ {l : List D.Nd}, (∀ x ∈ l, ∀ c ∈ D.prN x, c < 256) → ∀ c ∈ D.prL l, c < 256
  | [], _, c, h => by simp [D.prL] at h
  | x :: l, hl, c, h => by
    rw [D.prL, List.mem_append] at h
    rcases h with h | h
    · exact hl x (by simp) c h
    · exact prL_256l (fun y hy => hl y (by simp [hy])) c h
theorem prL_256 {F : Nat → Prop} {w : World} : ∀ (r : Nat) {v : Bool} {u : Value} {l : List D.Nd}, Pm F w r u l → D.Rt r v l → ∀ c ∈ D.prL l, c < 256
  | 0, v, u, l, hP, hR => by
    obtain ⟨A, n, c, vs, rfl, hc, hr, hl, hb⟩ := (Pm_eq F w 0 _ _).1 hP
    refine prL_256l fun x hx => ?_
    obtain ⟨j, hj, e⟩ := List.mem_iff_getElem.1 hx
    have hj' : l[j]? = some x := by rw [List.getElem?_eq_getElem hj, e]
    obtain ⟨p, hp⟩ : ∃ p, vs[j]? = some (x, p) := by
      rw [← hl] at hj'
      simp at hj'
      obtain ⟨a, ha⟩ := hj'
      exact ⟨_, ha⟩
    have h1 := (D.okLs_at hR hj').1
    have h2 := hb j x p hp
    refine prN_256 h1 h2.1 fun q hq => ?_
    rcases h1 with ⟨_, _, _, h, _⟩ | ⟨h, _⟩ | ⟨_, _, _, h, _⟩ | ⟨_, h, _⟩
    · rw [h] at hq; cases hq
    · rw [h] at hq; cases hq
    · rw [h] at hq; cases hq
    · cases h
  | r + 1, v, u, l, hP, hR => by
    obtain ⟨A, n, c, vs, rfl, hc, hr, hl, hb⟩ := (Pm_eq F w (r + 1) _ _).1 hP
    refine prL_256l fun x hx => ?_
    obtain ⟨j, hj, e⟩ := List.mem_iff_getElem.1 hx
    have hj' : l[j]? = some x := by rw [List.getElem?_eq_getElem hj, e]
    obtain ⟨p, hp⟩ : ∃ p, vs[j]? = some (x, p) := by
      rw [← hl] at hj'
      simp at hj'
      obtain ⟨a, ha⟩ := hj'
      exact ⟨_, ha⟩
    have h1 := (D.okLs_at hR hj').1
    have h2 := hb j x p hp
    refine prN_256 h1 h2.1 fun q hq => ?_
    rcases h1 with ⟨_, _, _, h, _⟩ | ⟨h, _⟩ | ⟨_, _, _, h, _⟩ | ⟨_, _, _, _, _, _, _, h⟩
    · rw [h] at hq; cases hq
    · rw [h] at hq; cases hq
    · rw [h] at hq; cases hq
    · obtain ⟨i, hi, e⟩ := List.mem_iff_getElem.1 hq
      obtain ⟨_, _, cs, _, _, _, hcl, hkk⟩ := h2
      have hi' : x.ks[i]? = some q := by rw [List.getElem?_eq_getElem hi, e]
      have hci : cs[i]? = some (cs[i]'(by omega)) := List.getElem?_eq_getElem _
      exact prL_256 r (hkk i _ _ q hci hi') (h q hq)
theorem write_any (b : Nat) : ∀ (r : Nat) (v : Bool) (w : World) (u : Value) (l : List D.Nd), Pm (fun i => i < b) w r u l → D.Rt r v l → (D.prL l).length ≤ 1000 → b ≤ w.heap.size → 0 < b → Knd w → WrC 41 b u w (D.prL l)
  | 0, v, w, u, l, hP, hR, hsz, hbl, hkb, hKn => by
    obtain ⟨A, n, c, vs, rfl, hc, hr, hl, hb⟩ := (Pm_eq _ w 0 _ _).1 hP
    have hn : n ≤ 1000 := by
      have h1 := hr.row.len
      rw [Shp.rcs_len, nvs_len, show nS.n = 15 from rfl] at h1
      have h2 := D.len_le hR
      have h3 : l.length = vs.length := by rw [← hl]; simp
      omega
    rw [← hl]
    refine write_row b n c A vs w hr hn hbl (fun j x p hj hk => ?_) (fun j x p hj hk => ?_) (fun j x p hj h0 h5 => ?_)
    · have h1 := (D.okLs_at hR (vs_list hl hj)).1
      rcases h1 with ⟨_, _, _, _, h, _⟩ | ⟨h, _⟩ | ⟨h, _⟩ | ⟨h, _⟩
      · exact ⟨h, (hb j x p hj).1.1⟩
      · rw [h] at hk; cases hk
      · omega
      · omega
    · have h1 := (D.okLs_at hR (vs_list hl hj)).1
      rcases h1 with ⟨h, _⟩ | ⟨h, _⟩ | ⟨h, _⟩ | ⟨h, _⟩
      · omega
      · rw [h]; exact D.prN_sign
      · omega
      · omega
    · have h1 := (D.okLs_at hR (vs_list hl hj)).1
      have h2 := hb j x p hj
      obtain ⟨k, t, nm, ws, ks⟩ := x
      obtain ⟨A', m, c'⟩ := p
      rcases h1 with ⟨h, _⟩ | ⟨h, _⟩ | ⟨hk, ht, hws, hks, hnb⟩ | ⟨_, h, _⟩
      · exact absurd h h0
      · rw [h] at h5; exact absurd rfl h5
      · simp only [D.Nd.k, D.Nd.t, D.Nd.n, D.Nd.ws, D.Nd.ks] at hk ht hws hks hnb
        subst ht hws hks
        have hm := leaf_m h2 rfl
        simp only at hm
        subst hm
        rcases hk with rfl | rfl
        · exact writePlace_arg b 1 c' A' nm w rfl hnb h2.1.2.1 hbl hkb hKn
        · exact writePlace_num b 2 c' A' nm w rfl hnb h2.1.2.1 hbl hkb hKn
      · cases h
  | r + 1, v, w, u, l, hP, hR, hsz, hbl, hkb, hKn => by
    obtain ⟨A, n, c, vs, rfl, hc, hr, hl, hb⟩ := (Pm_eq _ w (r + 1) _ _).1 hP
    have hn : n ≤ 1000 := by
      have h1 := hr.row.len
      rw [Shp.rcs_len, nvs_len, show nS.n = 15 from rfl] at h1
      have h2 := D.len_le hR
      have h3 : l.length = vs.length := by rw [← hl]; simp
      omega
    have hl' := hl
    rw [← hl]
    refine write_row b n c A vs w hr hn hbl (fun j x p hj hk => ?_) (fun j x p hj hk => ?_) (fun j x p hj h0 h5 => ?_)
    · have h1 := (D.okLs_at hR (vs_list hl hj)).1
      rcases h1 with ⟨_, _, _, _, h, _⟩ | ⟨h, _⟩ | ⟨h, _⟩ | ⟨h, _⟩
      · exact ⟨h, (hb j x p hj).1.1⟩
      · rw [h] at hk; cases hk
      · omega
      · omega
    · have h1 := (D.okLs_at hR (vs_list hl hj)).1
      rcases h1 with ⟨h, _⟩ | ⟨h, _⟩ | ⟨h, _⟩ | ⟨h, _⟩
      · omega
      · rw [h]; exact D.prN_sign
      · omega
      · omega
    · have hx := vs_list hl hj
      have h1 := (D.okLs_at hR hx).1
      have h2 := hb j x p hj
      have hxs := D.prL_mem (List.mem_of_getElem? hx)
      obtain ⟨k, t, nm, ws, ks⟩ := x
      obtain ⟨A', m, c'⟩ := p
      rcases h1 with ⟨h, _⟩ | ⟨h, _⟩ | ⟨hk, ht, hws, hks, hnb⟩ | ⟨hk, _, ht, hnb, hll, ho, hwd, hkd⟩
      · exact absurd h h0
      · rw [h] at h5; exact absurd rfl h5
      · simp only [D.Nd.k, D.Nd.t, D.Nd.n, D.Nd.ws, D.Nd.ks] at hk ht hws hks hnb
        subst ht hws hks
        have hm := leaf_m h2 rfl
        simp only at hm
        subst hm
        rcases hk with rfl | rfl
        · exact writePlace_arg b 1 c' A' nm w rfl hnb h2.1.2.1 hbl hkb hKn
        · exact writePlace_num b 2 c' A' nm w rfl hnb h2.1.2.1 hbl hkb hKn
      · simp only [D.Nd.k, D.Nd.t, D.Nd.n, D.Nd.ws, D.Nd.ks] at hk ht hnb hll ho hwd hkd
        subst ht
        obtain ⟨hbt, hcap, cs, hrc, hcw, h1c, hcl, hkk⟩ := h2
        simp only [D.Nd.ks, D.Nd.ws] at hcw hcl hkk hrc hcap
        have hcz : (D.prC ws ks).length ≤ 1000 := by
          have := D.prN_cas (x := .mk k [] nm ws ks) hk
          simp only [D.Nd.ks, D.Nd.ws] at this
          omega
        have hmn : m ≤ 1000 := by
          have h1 := hrc.row.len
          simp only [ccs_len] at h1
          have h2 := D.prC_lenw hll
          omega
        have hK : ∀ (j : Nat) (t : List Nat) (u : Value) (q : List D.Nd), cs[j]? = some (t, u) → ks[j]? = some q → WrC 41 b u w (D.prL q) := fun j t u q hc hq =>
          write_any b r (v || k == 3) w u q (hkk j t u q hc hq) (hkd q (List.mem_of_getElem? hq)) (by have := D.prC_at hll hq; omega) hbl hkb hKn
        have hne : ws ≠ [] := fun e => by rw [e] at ho; cases ho
        rcases hk with rfl | rfl
        · exact writePlace_plu b 3 m c' A' nm ws ks cs w rfl hnb hbt.2.1 hbl hkb hKn hrc hmn hcw hbt.2.2 hll hne (ccs_kids hcl hkk) hK
        · exact writePlace_sel b 4 m c' A' nm ws ks cs w rfl hnb hbt.2.1 hbl hkb hKn hrc hmn hcw hbt.2.2 hll hne (ccs_kids hcl hkk) hK
/-- What Print answers of right parts. -/
def D.prT (l : List D.Nd) : List Nat × Nat := if 60 < (D.prL l).length then ([], 2) else (D.prL l, 0)
set_option maxHeartbeats 4000000 in
theorem print_any (F : Nat → Prop) (w : World) (u : Value) (l : List D.Nd) (hP : Pm F w 3 u l) (hR : D.Rt 3 false l) (hsz : (D.prL l).length ≤ 1000) (hG : Gv w) :
    Calls Tryz.prog 15 #[u] w fun e w' => e = .returned (.tuple #[.string (D.sb (D.prT l).1), .int .i64 ((D.prT l).2 : Nat)]) ∧ Below w.heap.size w w' := by
  have hT : Calls Tryz.prog 40 #[.agg #[.int .i64 0, .bool false], u] w fun e w' => e = .returned (.bool true) ∧ Below w.heap.size w w' := tell_any 3 0 (by omega) false F w u l hP hR hsz hG.e
  have h256 := prL_256 3 hP hR
  have hW := fun W (hb : Below w.heap.size w W) => write_any W.heap.size 3 false (W.alloc (.cells #[.pointer none, .slice none 0 0] 105)) u l (((hP.keep (keeps_below hb)).weaken (fun i hi _ => hi)).keep (keeps_below (below_alloc_ _ _))) hR hsz (by simp) (by have := (hG.on hb).lt; exact this.2) ((hG.on hb).on (below_alloc_ _ _)).k _ [] (Nu.refl _ _) (bd_new _ _ rfl) (by simp; omega)
  obtain ⟨L, hL⟩ : ∃ L, D.prL l = L := ⟨_, rfl⟩
  unfold D.prT
  rw [hL] at hW h256 hsz ⊢
  have HT := Lib.hid hT
  have HW := Lib.hid hW
  have H2 := Lib.hid h256
  clear hT hW h256 hP hR hG hL
  by_cases h60 : 60 < L.length
  · rw [if_pos h60]
    have i60 : (60 : Int) < L.length := by omega
    clear h60
    go_enter Tryz.func15, Tryz.ntmps15
    go_wp2_with (first
      | (go_at_call 40; (with_reducible refine HT.out.mono ?_); rintro e w1 ⟨rfl, b1⟩; have B1 := Lib.hid b1; clear b1)
      | (go_at_call 41; (with_reducible refine (HW.out _ B1.out).mono ?_); rintro e w2 ⟨rfl, b2, n2⟩
         have B2 := Lib.hid (show Bs w1.heap.size w2 L from b2)
         have N2 := Lib.hid n2
         clear b2 n2)
      | (go_at_call 42; (with_reducible refine (lenB_any B2.out).mono ?_); rintro e w3 ⟨rfl, rfl⟩))
    refine bodyPost_ret (v := .tuple #[.string ⟨#[]⟩, .int .i64 2]) (by simp [results, Tryz.results15, go_sem]) rfl ⟨rfl, ?_⟩
    exact B1.out.trans (((below_alloc_ w1 _).trans (N2.out.below (by simp))).mono B1.out.size)
  · rw [if_neg h60]
    have i60 : ¬ (60 : Int) < L.length := by omega
    have i60' : (L.length : Int) ≤ 60 := by omega
    clear h60
    go_enter Tryz.func15, Tryz.ntmps15
    go_wp2_with (first
      | (go_at_call 40; (with_reducible refine HT.out.mono ?_); rintro e w1 ⟨rfl, b1⟩; have B1 := Lib.hid b1; clear b1)
      | (go_at_call 41; (with_reducible refine (HW.out _ B1.out).mono ?_); rintro e w2 ⟨rfl, b2, n2⟩
         have B2 := Lib.hid (show Bs w1.heap.size w2 L from b2)
         have N2 := Lib.hid n2
         clear b2 n2)
      | (go_at_call 42; (with_reducible refine (lenB_any B2.out).mono ?_); rintro e w3 ⟨rfl, rfl⟩)
      | (go_at_call 43; (with_reducible refine (textB_any B2.out H2.out).mono ?_); rintro e w3 ⟨rfl, b3⟩))
    refine bodyPost_ret (v := .tuple #[.string (D.sb L), .int .i64 0]) (by simp [results, Tryz.results15, go_sem]) rfl ⟨rfl, ?_⟩
    have hs := N2.out.size
    simp at hs
    exact B1.out.trans (((below_alloc_ w1 _).trans ((N2.out.below (by simp)).trans (b3.mono (Nat.le_succ _)))).mono B1.out.size)
end Go.Proofs.YtohhfcfnclafdaaGreatDoor
namespace Go.Proofs.YtohhfcfnclafdaaGreatDoor
open Go.Shelf Go.RowKit
def lays283_ren : Go.Shelf.Ren := ⟨fun | 283 => 227 | n => n, fun | 3 => 3 | 9 => 9 | 4 => 4 | n => n, fun | n => n⟩
theorem lays283 : Go.Proofs.Lays.n283 Tryz.prog lays283_ren := {
  mixed := by kernel_rfl
  f283 := Tryz.func227.trans (congrArg some (by kernel_rfl))
  t3 := Tryz.underlying3
  a3 := Tryz.isAgg3
  z3 := Tryz.sizeOf3
  v3 := Tryz.zeroValue3
  t4 := Tryz.underlying4
  a4 := Tryz.isAgg4
  z4 := Tryz.sizeOf4
  v4 := Tryz.zeroValue4
  t9 := Tryz.underlying9
  a9 := Tryz.isAgg9
  z9 := Tryz.sizeOf9
  v9 := Tryz.zeroValue9 }
def laysM284_ren : Go.Shelf.Ren := ⟨fun | 284 => 228 | 129 => 191 | 317 => 246 | 318 => 247 | n => n, fun | 53 => 59 | 3 => 3 | 212 => 322 | 0 => 0 | 4 => 4 | 46 => 166 | 5 => 5 | 9 => 9 | n => n, fun | 17 => 6 | n => n⟩
theorem laysM284 : Go.Proofs.LaysM.n284 Tryz.prog laysM284_ren := {
  mixed := by kernel_rfl
  f129 := Tryz.func191.trans (congrArg some (by kernel_rfl))
  f284 := Tryz.func228.trans (congrArg some (by kernel_rfl))
  f317 := Tryz.func246.trans (congrArg some (by kernel_rfl))
  f318 := Tryz.func247.trans (congrArg some (by kernel_rfl))
  t0 := Tryz.underlying0
  a0 := Tryz.isAgg0
  z0 := Tryz.sizeOf0
  v0 := Tryz.zeroValue0
  t3 := Tryz.underlying3
  a3 := Tryz.isAgg3
  z3 := Tryz.sizeOf3
  v3 := Tryz.zeroValue3
  t4 := Tryz.underlying4
  a4 := Tryz.isAgg4
  z4 := Tryz.sizeOf4
  v4 := Tryz.zeroValue4
  t5 := Tryz.underlying5
  a5 := Tryz.isAgg5
  z5 := Tryz.sizeOf5
  v5 := Tryz.zeroValue5
  t9 := Tryz.underlying9
  a9 := Tryz.isAgg9
  z9 := Tryz.sizeOf9
  v9 := Tryz.zeroValue9
  t46 := Tryz.underlying166
  a46 := Tryz.isAgg166
  z46 := Tryz.sizeOf166
  v46 := Tryz.zeroValue166
  t53 := Tryz.underlying59
  a53 := Tryz.isAgg59
  z53 := Tryz.sizeOf59
  v53 := Tryz.zeroValue59
  t212 := Tryz.underlying322
  a212 := Tryz.isAgg322
  z212 := Tryz.sizeOf322
  v212 := Tryz.zeroValue322
  g17 := by kernel_rfl
  i0 := by kernel_rfl
  i3 := by kernel_rfl
  i4 := by kernel_rfl
  i5 := by kernel_rfl
  i9 := by kernel_rfl
  i46 := by kernel_rfl
  i53 := by kernel_rfl
  i212 := by kernel_rfl
  m17 := by kernel_rfl }
def lays285_ren : Go.Shelf.Ren := ⟨fun | 285 => 229 | n => n, fun | 37 => 103 | 53 => 59 | 3 => 3 | 4 => 4 | 51 => 268 | 9 => 9 | 5 => 5 | 0 => 0 | n => n, fun | n => n⟩
theorem lays285 : Go.Proofs.Lays.n285 Tryz.prog lays285_ren := {
  mixed := by kernel_rfl
  f285 := Tryz.func229.trans (congrArg some (by kernel_rfl))
  t0 := Tryz.underlying0
  a0 := Tryz.isAgg0
  z0 := Tryz.sizeOf0
  v0 := Tryz.zeroValue0
  t3 := Tryz.underlying3
  a3 := Tryz.isAgg3
  z3 := Tryz.sizeOf3
  v3 := Tryz.zeroValue3
  t4 := Tryz.underlying4
  a4 := Tryz.isAgg4
  z4 := Tryz.sizeOf4
  v4 := Tryz.zeroValue4
  t5 := Tryz.underlying5
  a5 := Tryz.isAgg5
  z5 := Tryz.sizeOf5
  v5 := Tryz.zeroValue5
  t9 := Tryz.underlying9
  a9 := Tryz.isAgg9
  z9 := Tryz.sizeOf9
  v9 := Tryz.zeroValue9
  t37 := Tryz.underlying103
  a37 := Tryz.isAgg103
  z37 := Tryz.sizeOf103
  v37 := Tryz.zeroValue103
  t51 := Tryz.underlying268
  a51 := Tryz.isAgg268
  z51 := Tryz.sizeOf268
  v51 := Tryz.zeroValue268
  t53 := Tryz.underlying59
  a53 := Tryz.isAgg59
  z53 := Tryz.sizeOf59
  v53 := Tryz.zeroValue59 }
end Go.Proofs.YtohhfcfnclafdaaGreatDoor
