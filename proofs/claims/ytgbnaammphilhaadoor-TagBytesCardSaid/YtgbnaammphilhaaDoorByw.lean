/-
  The law of tags' bytes: its walk.
-/
import Derived.Test.YtgbnaammphilhaaDoorCow
import Derived.Test.YtgbnaammphilhaaDoorByt
import Derived.Test.YtgbnaammphilhaaDoorRch
set_option linter.unusedVariables false
set_option linter.unusedSimpArgs false
namespace Go.Proofs.YtgbnaammphilhaaDoor
open Go.RowKit
attribute [local go_sem ↓] Go.wp_at_zero Go.wp_at_succ ld_a ld_n st_a st_n eq_a eq_n ne_a ne_n bsl_n lv_a lv_n lp_3 lp_4
attribute [local go_sem] run_ld_a run_ld_n run_sw_a run_sw_n run_eq_a run_eq_n run_ne_a run_ne_n run_bsl1_n run_lv_a run_lv_n st_z ne_z eq_z rd_new rd_old rd_drew rd_drewN rd_set tn_new tn_old tn_drew tn_drewN setRow_alloc run_lp_3 run_lp_4 rd_ext cell_ext blk_add

set_option maxRecDepth 100000 in
set_option maxHeartbeats 8000000 in
theorem bytes_law (b t : D.Tg) (w : World) : Calls Tryd.prog 4 #[.agg (nc b), .agg (nc t)] w fun e w' => e = .returned (.bool true) ∧ Below w.heap.size w w' := by
  have cK := Lib.hid known_any
  have cW := Lib.hid (raw_any t)
  have cY := Lib.hid (bytes_any t)
  have cP := Lib.hid (parent_any t)
  have z0 := ((from_self w).alloc (.cells (nc b) 39)).alloc (.cells (nc t) 29)
  have fb := rd_on (rd_new w _ 39 b rfl) (below_alloc_ _ (.cells (nc t) 29))
  have ft := rd_new (w.alloc (.cells (nc b) 39)) (w.heap.size + 1) 29 t (by simp)
  obtain ⟨W0, hW0⟩ : ∃ W0, (w.alloc (.cells (nc b) 39)).alloc (.cells (nc t) 29) = W0 := ⟨_, rfl⟩
  rw [hW0] at z0 fb ft
  have cR := rof_any b
  have cO := of_any b
  rw [D.rof_eq] at cR
  cases hb : D.pt b with
  | none =>
    have hrt : D.right b = false := by unfold D.right; rw [hb]; rfl
    have htof : D.tof b = (D.zero, 14) := by unfold D.tof; rw [hrt]; rfl
    rw [hb] at cR
    rw [htof] at cO
    have CR := Lib.hid (fun W => (show Calls Tryd.prog 14 #[.agg (nc b)] W fun e w' => e = .returned (.tuple #[.agg #[.string ⟨#[]⟩, .string ⟨#[]⟩, .string ⟨#[]⟩], .bool false]) ∧ Below W.heap.size W w' from by exact cR W))
    have CO := Lib.hid (fun W => (show Calls Tryd.prog 15 #[.agg (nc b)] W fun e w' => e = .returned (.tuple #[.agg (nc D.zero), .int .i64 14]) ∧ Below W.heap.size W w' from cO W))
    have hsm : sm D.zero D.zero = true := by simp [sm]
    clear cR cO hrt htof hb
    go_enter Tryd.func4, Tryd.ntmps4
    go_wp2_with (first
      | (go_at_call 14; (with_reducible refine (CR.out _).mono ?_); rintro e w1 ⟨rfl, b1⟩; have z1 := z0.on b1; have fb1 := rd_on fb b1; have ft1 := rd_on ft b1; have sb1 : w.heap.size < w1.heap.size := rd_lt fb1; have st1 : w.heap.size + 1 < w1.heap.size := rd_lt ft1; have g1 := Blk.new w1 23 #[.string ⟨#[]⟩, .string ⟨#[]⟩, .string ⟨#[]⟩])
      | (go_at_call 15; (with_reducible refine (CO.out _).mono ?_); rintro e w2 ⟨rfl, b2⟩; have z2 := (z1.alloc (.cells #[.string ⟨#[]⟩, .string ⟨#[]⟩, .string ⟨#[]⟩] 23)).on b2; have fb2 := rd_on (rd_on fb1 (below_alloc_ _ (.cells #[.string ⟨#[]⟩, .string ⟨#[]⟩, .string ⟨#[]⟩] 23))) b2; have ft2 := rd_on (rd_on ft1 (below_alloc_ _ (.cells #[.string ⟨#[]⟩, .string ⟨#[]⟩, .string ⟨#[]⟩] 23))) b2; have g2 := g1.on b2))
    have z3 := z2.alloc (.cells (nc D.zero) 29)
    have fb3 := rd_on fb2 (below_alloc_ _ (.cells (nc D.zero) 29))
    have ft3 := rd_on ft2 (below_alloc_ _ (.cells (nc D.zero) 29))
    have g3 := g2.alloc (.cells (nc D.zero) 29)
    have x3 := rd_new w2 _ 29 D.zero rfl
    obtain ⟨w3, hw3⟩ : ∃ w3, w2.alloc (.cells (nc D.zero) 29) = w3 := ⟨_, rfl⟩
    rw [hw3] at z3 fb3 ft3 g3 x3
    try rw [hw3]
    clear hw3 z1 z2 sb1 st1 fb1 fb2 ft1 ft2 g1 g2 z0 fb ft b1 b2 hW0
    obtain ⟨⟨k0, k1, k2⟩, -⟩ := blk3 g3
    have sb3 := rd_lt fb3
    have st3 := rd_lt ft3
    have sx3 := rd_lt x3
    have sg3 := g3.lt
    simp only at sb3 st3 sx3
    refine wp_region_ext (by kernel_rfl) (by kernel_rfl) ?_
    repeat (go_big_quiet_step (fail))
    refine wpQuiet_nil ?_
    intro w4 hw4
    have b4 := ext_to hw4
    clear hw4
    have z4 := z3.on b4
    have ft4 := rd_on ft3 b4
    clear z3 ft3 fb3 g3 x3 b4 k0 k1 k2 sb3 st3 sx3 sg3
    have hst : sm t t = true := by simp [sm]
    have cR := rof_any t
    rw [D.rof_eq] at cR
    have cI := right_any t
    have cT := text_any t
    cases ht : D.pt t with
    | none =>
      have hrt : D.right t = false := by unfold D.right; rw [ht]; rfl
      have htp : D.tpar t = (D.zero, false) := by unfold D.tpar; rw [ht]
      have htx : D.sb (D.tx t) = ⟨#[]⟩ := by unfold D.tx; rw [hrt]; rfl
      have cC := chain_any t
      rw [cht_none hrt] at cC
      rw [ht] at cR
      rw [hrt] at cI
      have CR := Lib.hid (fun W => (show Calls Tryd.prog 14 #[.agg (nc t)] W fun e w' => e = .returned (.tuple #[.agg #[.string ⟨#[]⟩, .string ⟨#[]⟩, .string ⟨#[]⟩], .bool false]) ∧ Below W.heap.size W w' from by exact cR W))
      have CP := Lib.hid (fun W => (show Calls Tryd.prog 18 #[.agg (nc t)] W fun e w' => e = .returned (.tuple #[.agg (nc D.zero), .bool false]) ∧ Below W.heap.size W w' from by have := cP.out W; rw [htp] at this; exact this))
      have CC := Lib.hid cC
      have CI := Lib.hid cI
      obtain ⟨τ, hτ⟩ : ∃ τ, D.sb (D.tx t) = τ := ⟨_, rfl⟩
      rw [hτ] at cT
      have hem : τ.toList.isEmpty = true := by rw [← hτ, htx]; kernel_rfl
      have CT := Lib.hid cT
      have hsz : sm D.zero D.zero = true := rfl
      clear cR cI cT cC hrt htp htx ht hτ cP
      go_wp2_with (first
        | (go_at_call 17; (with_reducible refine (cW.out _).mono ?_); rintro e w5 ⟨rfl, b5⟩; have z5 := z4.on b5; have ft5 := rd_on ft4 b5)
        | (go_at_call 14; (with_reducible refine (CR.out _).mono ?_); rintro e w6 ⟨rfl, b6⟩; have z6 := z5.on b6; have ft6 := rd_on ft5 b6; have st6 : w.heap.size + 1 < w6.heap.size := rd_lt ft6; have g6 := Blk.new w6 23 #[.string ⟨#[]⟩, .string ⟨#[]⟩, .string ⟨#[]⟩])
        | (go_at_call 18; (with_reducible refine (CP.out _).mono ?_); rintro e w7 ⟨rfl, b7⟩; have z7 := (z6.alloc (.cells #[.string ⟨#[]⟩, .string ⟨#[]⟩, .string ⟨#[]⟩] 23)).on b7; have ft7 := rd_on (rd_on ft6 (below_alloc_ _ (.cells #[.string ⟨#[]⟩, .string ⟨#[]⟩, .string ⟨#[]⟩] 23))) b7; have st7 : w.heap.size + 1 < w7.heap.size := rd_lt ft7; have g7 := g6.on b7; have p7 := rd_new w7 w7.heap.size 29 D.zero rfl)
        | (go_at_call 19; (with_reducible refine (CC.out _).mono ?_); rintro e w8 ⟨A, c0, rfl, ho, b8⟩; have z8 := (z7.alloc (.cells (nc D.zero) 29)).on b8; have ft8 := rd_on (rd_on ft7 (below_alloc_ _ (.cells (nc D.zero) 29))) b8; have g8 := (g7.alloc (.cells (nc D.zero) 29)).on b8; have p8 := rd_on p7 b8))
      have st8 : w.heap.size + 1 < w8.heap.size := rd_lt ft8
      refine wp_region_ext (by kernel_rfl) (by kernel_rfl) ?_
      repeat (go_big_quiet_step ((first
        | (go_at_call 16; exact calls_ext (cY.out _))
        | (go_at_call 17; exact calls_ext (cW.out _))
        | (go_at_call 13; exact calls_ext (CI.out _)))))
      refine wpQuiet_nil ?_
      intro w9 hw9
      have b9 := ext_to hw9
      clear hw9
      have z9 := z8.on b9
      have ft9 := rd_on ft8 b9
      have p9 := rd_on p8 b9
      have g9 := g8.on b9
      go_wp2_with (first
        | (go_at_call 9; (with_reducible refine (cK.out _).mono ?_); rintro e w10 ⟨rfl, b10⟩; have z10' := z9.on b10; have ft10 := rd_on ft9 b10; have p10 := rd_on p9 b10)
        | (go_at_call 11; (with_reducible refine (CT.out _).mono ?_); rintro e w11 ⟨rfl, b11⟩; have z11 := z10'.on b11; have p11 := rd_on p10 b11))
      go_ret
      exact ⟨rfl, z11.below⟩
    | some q =>
      obtain ⟨hc, htb⟩ := D.pt_some ht
      have hrt : D.right t = true := by unfold D.right; rw [ht]; rfl
      have htx : D.tx t = D.txt q := by rw [← htb]; exact D.tx_tb hc
      have hch : D.cht t = (D.chain q).map D.tb := by rw [← htb]; exact D.cht_tb hc
      have hcn := D.chain_can hc
      have hlen := (D.chain_len q).1
      have hl4 := (D.chain_len q).2
      obtain ⟨n, hn⟩ : ∃ n, (D.chain q).length = n + 1 := ⟨(D.chain q).length - 1, by omega⟩
      have hn2 : (D.cht t).length = n + 1 := by rw [hch, List.length_map, hn]
      have hn3 : n ≤ 3 := by omega
      have cC := chain_any t
      simp only [hn2] at cC
      have cH := rch_any q
      unfold Rch at cH
      simp only [hn] at cH
      have hlnk := lnk_has (lnk_any hrt 0 t (cht_first hrt))
      obtain ⟨e1, e2, e3⟩ := hlnk
      rw [hn2, Nat.zero_add] at e1
      have cX := rtx_can hc
      rw [ht] at cR
      rw [hrt] at cI
      rw [htx] at cT
      obtain ⟨τ, hτ⟩ : ∃ τ, D.sb (D.txt q) = τ := ⟨_, rfl⟩
      rw [hτ] at cT cX
      unfold av at cX cH
      obtain ⟨a2, ha⟩ : ∃ a2, D.sb q.l = a2 := ⟨_, rfl⟩
      obtain ⟨b2', hb'⟩ : ∃ b2', D.sb q.s = b2' := ⟨_, rfl⟩
      obtain ⟨c2, hc'⟩ : ∃ c2, D.sb q.r = c2 := ⟨_, rfl⟩
      rw [ha, hb', hc'] at cX cH
      have CR := Lib.hid (fun W => (show Calls Tryd.prog 14 #[.agg (nc t)] W fun e w' => e = .returned (.tuple #[.agg #[.string a2, .string b2', .string c2], .bool true]) ∧ Below W.heap.size W w' from by rw [← ha, ← hb', ← hc']; exact cR W))
      obtain ⟨pz, hpz⟩ : ∃ pz, (D.tpar t).1 = pz := ⟨_, rfl⟩
      obtain ⟨h, hh⟩ : ∃ h, (D.tpar t).2 = h := ⟨_, rfl⟩
      have CP := Lib.hid (fun W => (show Calls Tryd.prog 18 #[.agg (nc t)] W fun e w' => e = .returned (.tuple #[.agg (nc pz), .bool h]) ∧ Below W.heap.size W w' from by have := cP.out W; rw [hpz, hh] at this; exact this))
      rw [hh] at e1
      rw [hpz, hh] at e2 e3
      have E1 := Lib.hid e1
      have E2 := Lib.hid e2
      have E3 := Lib.hid e3
      have HCH := Lib.hid hch
      have HCN := Lib.hid hcn
      have HN := Lib.hid hn
      have CC := Lib.hid cC
      have CI := Lib.hid cI
      have CT := Lib.hid cT
      have CX := Lib.hid cX
      have CH := Lib.hid cH
      have hsz : sm D.zero D.zero = true := rfl
      clear e1 e2 e3 cR cI cT cC cX cH hrt htx hch hcn hlen hl4 hn hn2 ht hτ ha hb' hc' hpz hh hc htb cP
      go_wp2_with (first
        | (go_at_call 17; (with_reducible refine (cW.out _).mono ?_); rintro e w5 ⟨rfl, b5⟩; have z5 := z4.on b5; have ft5 := rd_on ft4 b5)
        | (go_at_call 14; (with_reducible refine (CR.out _).mono ?_); rintro e w6 ⟨rfl, b6⟩; have z6 := z5.on b6; have ft6 := rd_on ft5 b6; have st6 : w.heap.size + 1 < w6.heap.size := rd_lt ft6; have g6 := Blk.new w6 23 #[.string a2, .string b2', .string c2])
        | (go_at_call 18; (with_reducible refine (CP.out _).mono ?_); rintro e w7 ⟨rfl, b7⟩; have z7 := (z6.alloc (.cells #[.string a2, .string b2', .string c2] 23)).on b7; have ft7 := rd_on (rd_on ft6 (below_alloc_ _ (.cells #[.string a2, .string b2', .string c2] 23))) b7; have st7 : w.heap.size + 1 < w7.heap.size := rd_lt ft7; have g7 := g6.on b7; have p7 := rd_new w7 w7.heap.size 29 pz rfl)
        | (go_at_call 19; (with_reducible refine (CC.out _).mono ?_); rintro e w8 ⟨A, c0, rfl, ho, b8⟩; have z8 := (z7.alloc (.cells (nc pz) 29)).on b8; have ft8 := rd_on (rd_on ft7 (below_alloc_ _ (.cells (nc pz) 29))) b8; have g8 := (g7.alloc (.cells (nc pz) 29)).on b8; have p8 := rd_on p7 b8))
      have r8 := ho.to_row
      have st8 : w.heap.size + 1 < w8.heap.size := rd_lt ft8
      refine wp_region_ext (by kernel_rfl) (by kernel_rfl) ?_
      repeat (go_big_quiet_step ((first
        | (go_at_call 16; exact calls_ext (cY.out _))
        | (go_at_call 17; exact calls_ext (cW.out _))
        | (go_at_call 13; exact calls_ext (CI.out _)))))
      refine wpQuiet_nil ?_
      intro w9 hw9
      have b9 := ext_to hw9
      clear hw9
      have z9 := z8.on b9
      have ft9 := rd_on ft8 b9
      have p9 := rd_on p8 b9
      have g9 := g8.on b9
      have r9 := r8.on b9
      clear z8 ft8 p8 g8 b9 z4 ft4 ho r8
      obtain ⟨⟨y0, y1, y2⟩, -⟩ := blk3 g9
      go_wp2_with (first
        | (go_at_call 20; (with_reducible refine (CH.out _).mono ?_); rintro e w10 ⟨A2, c3, rfl, hf, b10⟩; have z10' := z9.on b10; have ft10 := rd_on ft9 b10; have p10 := rd_on p9 b10; have r10 := r9.on b10; have g10 := g9.on b10; have f10 := hf.to_row))
      clear z9 ft9 p9 r9 g9 y0 y1 y2 hf b10
      obtain ⟨x0, hx0⟩ := nat_lt (l := D.cht t) (i := 0) (by rw [r10.len]; omega)
      obtain ⟨ad, rfl, hadl, -⟩ := r10.rd hx0
      obtain ⟨ae, rfl, hael, -⟩ := f10.ats (Nat.succ_pos n)
      obtain ⟨⟨y0, y1, y2⟩, -⟩ := blk3 g10
      have st10 : w.heap.size + 1 < w10.heap.size := rd_lt ft10
      have sp10 : w7.heap.size < w10.heap.size := rd_lt p10
      have sg10 : w6.heap.size < w10.heap.size := g10.lt
      clear hx0 x0
      cases h with
      | true =>
        have h1 : 1 < n + 1 := of_decide_eq_true E1.out.symm
        obtain ⟨q1, hq1, hqm⟩ := fat_lt (l := D.chain q) (i := 0 + 1) (by rw [f10.len]; omega)
        have hz1 : D.tb q1 = pz := by
          have := E2.out rfl
          rw [HCH.out, List.getElem?_map, hq1] at this
          simpa using this
        have cT1 := to_can (HCN.out q1 hqm)
        rw [hz1] at cT1
        unfold av at cT1
        obtain ⟨ae', e', d0, d1, d2⟩ := f10.at_ hq1
        injection e' with e'
        subst e'
        obtain ⟨a3, ha⟩ : ∃ a3, D.sb q1.l = a3 := ⟨_, rfl⟩
        obtain ⟨b3, hb'⟩ : ∃ b3, D.sb q1.s = b3 := ⟨_, rfl⟩
        obtain ⟨c3', hc'⟩ : ∃ c3', D.sb q1.r = c3' := ⟨_, rfl⟩
        rw [ha] at d0 cT1
        rw [hb'] at d1 cT1
        rw [hc'] at d2 cT1
        have k0 : w10.cell? (ae.add 3) = some (.string a3) := d0
        have k1 : w10.cell? ⟨(ae.add 3).block, (ae.add 3).off + 1, none⟩ = some (.string b3) := d1
        have k2 : w10.cell? ⟨(ae.add 3).block, (ae.add 3).off + 2, none⟩ = some (.string c3') := d2
        have hadd : ae.add 3 = ⟨ae.block, ae.off + 3, none⟩ := by simp [Addr.add]
        have m0 : w10.cell? ⟨ae.block, ae.off + 3, none⟩ = some (.string a3) := by rw [hadd] at k0; exact k0
        have m1 : w10.cell? ⟨ae.block, ae.off + 3 + 1, none⟩ = some (.string b3) := by rw [hadd] at k1; exact k1
        have m2 : w10.cell? ⟨ae.block, ae.off + 3 + 2, none⟩ = some (.string c3') := by rw [hadd] at k2; exact k2
        have m1' : w10.cell? ⟨ae.block, ae.off + 4, none⟩ = some (.string b3) := m1
        have m2' : w10.cell? ⟨ae.block, ae.off + 5, none⟩ = some (.string c3') := m2
        clear hadd k0 k1 k2
        have CT1 := Lib.hid cT1
        have hsp : sm pz pz = true := by simp [sm]
        have i1 : (1 : Int) < (n : Int) + 1 := by omega
        have i1' : 0 < n := by omega
        clear cT1 ha hb' hc' hz1 hq1 hqm d0 d1 d2
        refine wp_region_ext (by kernel_rfl) (by kernel_rfl) ?_
        repeat (go_big_quiet_step ((first
          | (go_at_call 11; exact calls_ext (CT.out _))
          | (go_at_call 12; exact calls_ext (CX.out _))
          | (go_at_call 10; exact calls_ext (CT1.out _)))))
        refine wpQuiet_nil ?_
        intro w12 hw12
        have b12 := ext_to hw12
        clear hw12
        have z12 := z10'.on b12
        have r12 := r10.on b12
        have f12 := f10.on b12
        clear z10' r10 f10 b12 ft10 p10 g10 y0 y1 y2 st10 sp10 sg10 hadl hael
        go_wp2
        go_loopw [15] (fun i wr => ∃ k : Nat, k ≤ n + 1 ∧ i = .int .i64 k ∧ NRow wr (some ad) (n + 1) (D.cht t) ∧ FRow wr (some ae) (n + 1) (D.chain q) ∧ From w wr) (fun i _ => n + 1 - (intOf i).toNat)
        case atStart => exact ⟨0, Nat.zero_le _, rfl, r12, f12, z12⟩
        case round =>
          clear r12 f12 z12
          obtain ⟨k, hk, rfl, rr, rf, zr⟩ := hrel
          by_cases hlt : k < n + 1
          · obtain ⟨v, hv⟩ := nat_lt (l := D.cht t) (i := k) (by rw [rr.len]; exact hlt)
            obtain ⟨qk, hqk, hqm⟩ := fat_lt (l := D.chain q) (i := k) (by rw [rf.len]; exact hlt)
            have hkv : D.tb qk = v := by
              have := hv
              rw [HCH.out, List.getElem?_map, hqk] at this
              simpa using this
            have cT1 := to_can (HCN.out qk hqm)
            rw [hkv] at cT1
            unfold av at cT1
            obtain ⟨ad', e', hadl, rk⟩ := rr.rd hv
            injection e' with e'
            subst e'
            obtain ⟨ae', e', hael, -⟩ := rf.ats (Nat.succ_pos n)
            injection e' with e'
            subst e'
            obtain ⟨ae', e', d0, d1, d2⟩ := rf.at_ hqk
            injection e' with e'
            subst e'
            obtain ⟨a3, ha⟩ : ∃ a3, D.sb qk.l = a3 := ⟨_, rfl⟩
            obtain ⟨b3, hb'⟩ : ∃ b3, D.sb qk.s = b3 := ⟨_, rfl⟩
            obtain ⟨c3', hc'⟩ : ∃ c3', D.sb qk.r = c3' := ⟨_, rfl⟩
            rw [ha] at d0 cT1
            rw [hb'] at d1 cT1
            rw [hc'] at d2 cT1
            have d1' := d1
            have d2' := d2
            rw [blk_add] at d1' d2'
            have CT1 := Lib.hid cT1
            have hsv : sm v v = true := by simp [sm]
            have i0 : (0 : Int) ≤ (k : Int) := by omega
            have i2 : (k : Int) < (n : Int) + 1 := by omega
            clear cT1 ha hb' hc' hkv hv hqk hqm
            go_wp2_with fail
            refine wp_region_ext (by kernel_rfl) (by kernel_rfl) ?_
            repeat (go_big_quiet_step ((go_at_call 10; exact calls_ext (CT1.out _))))
            refine wpQuiet_nil ?_
            intro w13 hw13
            have b13 := ext_to hw13
            clear hw13
            have z13 := zr.on b13
            have r13 := rr.on b13
            have f13 := rf.on b13
            clear zr rr rf b13 rk d0 d1 d2 d1' d2'
            go_wp2
            go_roundw
            case rel => exact ⟨k + 1, by omega, by go_num, r13, f13, z13⟩
            case measure => simp [intOf]; omega
          · have i2 : ¬ ((k : Int) < (n : Int) + 1) := by omega
            go_wp2_with (first
              | (go_at_call 9; (with_reducible refine (cK.out _).mono ?_); rintro e w14 ⟨rfl, b14⟩; have z14 := zr.on b14))
            go_ret
            exact ⟨rfl, z14.below⟩
      | false =>
        have h1 : ¬ 1 < n + 1 := of_decide_eq_false E1.out.symm
        have hz := E3.out rfl
        subst hz
        have i1 : ¬ ((1 : Int) < (n : Int) + 1) := by omega
        have i1' : n = 0 := by omega
        have I1 := Lib.hid i1'
        clear i1'
        refine wp_region_ext (by kernel_rfl) (by kernel_rfl) ?_
        repeat (go_big_quiet_step ((first
          | (go_at_call 11; exact calls_ext (CT.out _))
          | (go_at_call 12; exact calls_ext (CX.out _)))))
        refine wpQuiet_nil ?_
        intro w12 hw12
        have b12 := ext_to hw12
        clear hw12
        have z12 := z10'.on b12
        have r12 := r10.on b12
        have f12 := f10.on b12
        clear z10' r10 f10 b12 ft10 p10 g10 y0 y1 y2 st10 sp10 sg10 hadl hael
        go_wp2
        go_loopw [15] (fun i wr => ∃ k : Nat, k ≤ n + 1 ∧ i = .int .i64 k ∧ NRow wr (some ad) (n + 1) (D.cht t) ∧ FRow wr (some ae) (n + 1) (D.chain q) ∧ From w wr) (fun i _ => n + 1 - (intOf i).toNat)
        case atStart => exact ⟨0, Nat.zero_le _, rfl, r12, f12, z12⟩
        case round =>
          clear r12 f12 z12
          obtain ⟨k, hk, rfl, rr, rf, zr⟩ := hrel
          by_cases hlt : k < n + 1
          · obtain ⟨v, hv⟩ := nat_lt (l := D.cht t) (i := k) (by rw [rr.len]; exact hlt)
            obtain ⟨qk, hqk, hqm⟩ := fat_lt (l := D.chain q) (i := k) (by rw [rf.len]; exact hlt)
            have hkv : D.tb qk = v := by
              have := hv
              rw [HCH.out, List.getElem?_map, hqk] at this
              simpa using this
            have cT1 := to_can (HCN.out qk hqm)
            rw [hkv] at cT1
            unfold av at cT1
            obtain ⟨ad', e', hadl, rk⟩ := rr.rd hv
            injection e' with e'
            subst e'
            obtain ⟨ae', e', hael, -⟩ := rf.ats (Nat.succ_pos n)
            injection e' with e'
            subst e'
            obtain ⟨ae', e', d0, d1, d2⟩ := rf.at_ hqk
            injection e' with e'
            subst e'
            obtain ⟨a3, ha⟩ : ∃ a3, D.sb qk.l = a3 := ⟨_, rfl⟩
            obtain ⟨b3, hb'⟩ : ∃ b3, D.sb qk.s = b3 := ⟨_, rfl⟩
            obtain ⟨c3', hc'⟩ : ∃ c3', D.sb qk.r = c3' := ⟨_, rfl⟩
            rw [ha] at d0 cT1
            rw [hb'] at d1 cT1
            rw [hc'] at d2 cT1
            have d1' := d1
            have d2' := d2
            rw [blk_add] at d1' d2'
            have CT1 := Lib.hid cT1
            have hsv : sm v v = true := by simp [sm]
            have i0 : (0 : Int) ≤ (k : Int) := by omega
            have i2 : (k : Int) < (n : Int) + 1 := by omega
            clear cT1 ha hb' hc' hkv hv hqk hqm
            go_wp2_with fail
            refine wp_region_ext (by kernel_rfl) (by kernel_rfl) ?_
            repeat (go_big_quiet_step ((go_at_call 10; exact calls_ext (CT1.out _))))
            refine wpQuiet_nil ?_
            intro w13 hw13
            have b13 := ext_to hw13
            clear hw13
            have z13 := zr.on b13
            have r13 := rr.on b13
            have f13 := rf.on b13
            clear zr rr rf b13 rk d0 d1 d2 d1' d2'
            go_wp2
            go_roundw
            case rel => exact ⟨k + 1, by omega, by go_num, r13, f13, z13⟩
            case measure => simp [intOf]; omega
          · have i2 : ¬ ((k : Int) < (n : Int) + 1) := by omega
            go_wp2_with (first
              | (go_at_call 9; (with_reducible refine (cK.out _).mono ?_); rintro e w14 ⟨rfl, b14⟩; have z14 := zr.on b14))
            go_ret
            exact ⟨rfl, z14.below⟩
  | some p =>
    obtain ⟨hc, htb⟩ := D.pt_some hb
    have hrt : D.right b = true := by unfold D.right; rw [hb]; rfl
    have htof : D.tof b = (b, 0) := by unfold D.tof; rw [hrt]; rfl
    have cT := to_can hc
    rw [htb] at cT
    have cY2 := bytes_any b
    unfold av at cT
    obtain ⟨a, ha⟩ : ∃ a, D.sb p.l = a := ⟨_, rfl⟩
    obtain ⟨b', hb'⟩ : ∃ b', D.sb p.s = b' := ⟨_, rfl⟩
    obtain ⟨c, hc'⟩ : ∃ c, D.sb p.r = c := ⟨_, rfl⟩
    rw [ha, hb', hc'] at cT
    rw [hb] at cR
    rw [htof] at cO
    have CR := Lib.hid (fun W => (show Calls Tryd.prog 14 #[.agg (nc b)] W fun e w' => e = .returned (.tuple #[.agg #[.string a, .string b', .string c], .bool true]) ∧ Below W.heap.size W w' from by rw [← ha, ← hb', ← hc']; exact cR W))
    have CO := Lib.hid (fun W => (show Calls Tryd.prog 15 #[.agg (nc b)] W fun e w' => e = .returned (.tuple #[.agg (nc b), .int .i64 0]) ∧ Below W.heap.size W w' from cO W))
    have CT := Lib.hid cT
    have CY2 := Lib.hid cY2
    clear cT cY2 htb hc ha hb' hc'
    have hsm : sm b b = true := by simp [sm]
    clear cR cO hrt htof hb
    go_enter Tryd.func4, Tryd.ntmps4
    go_wp2_with (first
      | (go_at_call 14; (with_reducible refine (CR.out _).mono ?_); rintro e w1 ⟨rfl, b1⟩; have z1 := z0.on b1; have fb1 := rd_on fb b1; have ft1 := rd_on ft b1; have sb1 : w.heap.size < w1.heap.size := rd_lt fb1; have st1 : w.heap.size + 1 < w1.heap.size := rd_lt ft1; have g1 := Blk.new w1 23 #[.string a, .string b', .string c])
      | (go_at_call 15; (with_reducible refine (CO.out _).mono ?_); rintro e w2 ⟨rfl, b2⟩; have z2 := (z1.alloc (.cells #[.string a, .string b', .string c] 23)).on b2; have fb2 := rd_on (rd_on fb1 (below_alloc_ _ (.cells #[.string a, .string b', .string c] 23))) b2; have ft2 := rd_on (rd_on ft1 (below_alloc_ _ (.cells #[.string a, .string b', .string c] 23))) b2; have g2 := g1.on b2))
    have z3 := z2.alloc (.cells (nc b) 29)
    have fb3 := rd_on fb2 (below_alloc_ _ (.cells (nc b) 29))
    have ft3 := rd_on ft2 (below_alloc_ _ (.cells (nc b) 29))
    have g3 := g2.alloc (.cells (nc b) 29)
    have x3 := rd_new w2 _ 29 b rfl
    obtain ⟨w3, hw3⟩ : ∃ w3, w2.alloc (.cells (nc b) 29) = w3 := ⟨_, rfl⟩
    rw [hw3] at z3 fb3 ft3 g3 x3
    try rw [hw3]
    clear hw3 z1 z2 sb1 st1 fb1 fb2 ft1 ft2 g1 g2 z0 fb ft b1 b2 hW0
    obtain ⟨⟨k0, k1, k2⟩, -⟩ := blk3 g3
    have sb3 := rd_lt fb3
    have st3 := rd_lt ft3
    have sx3 := rd_lt x3
    have sg3 := g3.lt
    simp only at sb3 st3 sx3
    refine wp_region_ext (by kernel_rfl) (by kernel_rfl) ?_
    repeat (go_big_quiet_step ((first
      | (go_at_call 10; exact calls_ext (CT.out _))
      | (go_at_call 16; exact calls_ext (CY2.out _)))))
    refine wpQuiet_nil ?_
    intro w4 hw4
    have b4 := ext_to hw4
    clear hw4
    have z4 := z3.on b4
    have ft4 := rd_on ft3 b4
    clear z3 ft3 fb3 g3 x3 b4 k0 k1 k2 sb3 st3 sx3 sg3
    have hst : sm t t = true := by simp [sm]
    have cR := rof_any t
    rw [D.rof_eq] at cR
    have cI := right_any t
    have cT := text_any t
    cases ht : D.pt t with
    | none =>
      have hrt : D.right t = false := by unfold D.right; rw [ht]; rfl
      have htp : D.tpar t = (D.zero, false) := by unfold D.tpar; rw [ht]
      have htx : D.sb (D.tx t) = ⟨#[]⟩ := by unfold D.tx; rw [hrt]; rfl
      have cC := chain_any t
      rw [cht_none hrt] at cC
      rw [ht] at cR
      rw [hrt] at cI
      have CR := Lib.hid (fun W => (show Calls Tryd.prog 14 #[.agg (nc t)] W fun e w' => e = .returned (.tuple #[.agg #[.string ⟨#[]⟩, .string ⟨#[]⟩, .string ⟨#[]⟩], .bool false]) ∧ Below W.heap.size W w' from by exact cR W))
      have CP := Lib.hid (fun W => (show Calls Tryd.prog 18 #[.agg (nc t)] W fun e w' => e = .returned (.tuple #[.agg (nc D.zero), .bool false]) ∧ Below W.heap.size W w' from by have := cP.out W; rw [htp] at this; exact this))
      have CC := Lib.hid cC
      have CI := Lib.hid cI
      obtain ⟨τ, hτ⟩ : ∃ τ, D.sb (D.tx t) = τ := ⟨_, rfl⟩
      rw [hτ] at cT
      have hem : τ.toList.isEmpty = true := by rw [← hτ, htx]; kernel_rfl
      have CT := Lib.hid cT
      have hsz : sm D.zero D.zero = true := rfl
      clear cR cI cT cC hrt htp htx ht hτ cP
      go_wp2_with (first
        | (go_at_call 17; (with_reducible refine (cW.out _).mono ?_); rintro e w5 ⟨rfl, b5⟩; have z5 := z4.on b5; have ft5 := rd_on ft4 b5)
        | (go_at_call 14; (with_reducible refine (CR.out _).mono ?_); rintro e w6 ⟨rfl, b6⟩; have z6 := z5.on b6; have ft6 := rd_on ft5 b6; have st6 : w.heap.size + 1 < w6.heap.size := rd_lt ft6; have g6 := Blk.new w6 23 #[.string ⟨#[]⟩, .string ⟨#[]⟩, .string ⟨#[]⟩])
        | (go_at_call 18; (with_reducible refine (CP.out _).mono ?_); rintro e w7 ⟨rfl, b7⟩; have z7 := (z6.alloc (.cells #[.string ⟨#[]⟩, .string ⟨#[]⟩, .string ⟨#[]⟩] 23)).on b7; have ft7 := rd_on (rd_on ft6 (below_alloc_ _ (.cells #[.string ⟨#[]⟩, .string ⟨#[]⟩, .string ⟨#[]⟩] 23))) b7; have st7 : w.heap.size + 1 < w7.heap.size := rd_lt ft7; have g7 := g6.on b7; have p7 := rd_new w7 w7.heap.size 29 D.zero rfl)
        | (go_at_call 19; (with_reducible refine (CC.out _).mono ?_); rintro e w8 ⟨A, c0, rfl, ho, b8⟩; have z8 := (z7.alloc (.cells (nc D.zero) 29)).on b8; have ft8 := rd_on (rd_on ft7 (below_alloc_ _ (.cells (nc D.zero) 29))) b8; have g8 := (g7.alloc (.cells (nc D.zero) 29)).on b8; have p8 := rd_on p7 b8))
      have st8 : w.heap.size + 1 < w8.heap.size := rd_lt ft8
      refine wp_region_ext (by kernel_rfl) (by kernel_rfl) ?_
      repeat (go_big_quiet_step ((first
        | (go_at_call 16; exact calls_ext (cY.out _))
        | (go_at_call 17; exact calls_ext (cW.out _))
        | (go_at_call 13; exact calls_ext (CI.out _)))))
      refine wpQuiet_nil ?_
      intro w9 hw9
      have b9 := ext_to hw9
      clear hw9
      have z9 := z8.on b9
      have ft9 := rd_on ft8 b9
      have p9 := rd_on p8 b9
      have g9 := g8.on b9
      go_wp2_with (first
        | (go_at_call 9; (with_reducible refine (cK.out _).mono ?_); rintro e w10 ⟨rfl, b10⟩; have z10' := z9.on b10; have ft10 := rd_on ft9 b10; have p10 := rd_on p9 b10)
        | (go_at_call 11; (with_reducible refine (CT.out _).mono ?_); rintro e w11 ⟨rfl, b11⟩; have z11 := z10'.on b11; have p11 := rd_on p10 b11))
      go_ret
      exact ⟨rfl, z11.below⟩
    | some q =>
      obtain ⟨hc, htb⟩ := D.pt_some ht
      have hrt : D.right t = true := by unfold D.right; rw [ht]; rfl
      have htx : D.tx t = D.txt q := by rw [← htb]; exact D.tx_tb hc
      have hch : D.cht t = (D.chain q).map D.tb := by rw [← htb]; exact D.cht_tb hc
      have hcn := D.chain_can hc
      have hlen := (D.chain_len q).1
      have hl4 := (D.chain_len q).2
      obtain ⟨n, hn⟩ : ∃ n, (D.chain q).length = n + 1 := ⟨(D.chain q).length - 1, by omega⟩
      have hn2 : (D.cht t).length = n + 1 := by rw [hch, List.length_map, hn]
      have hn3 : n ≤ 3 := by omega
      have cC := chain_any t
      simp only [hn2] at cC
      have cH := rch_any q
      unfold Rch at cH
      simp only [hn] at cH
      have hlnk := lnk_has (lnk_any hrt 0 t (cht_first hrt))
      obtain ⟨e1, e2, e3⟩ := hlnk
      rw [hn2, Nat.zero_add] at e1
      have cX := rtx_can hc
      rw [ht] at cR
      rw [hrt] at cI
      rw [htx] at cT
      obtain ⟨τ, hτ⟩ : ∃ τ, D.sb (D.txt q) = τ := ⟨_, rfl⟩
      rw [hτ] at cT cX
      unfold av at cX cH
      obtain ⟨a2, ha⟩ : ∃ a2, D.sb q.l = a2 := ⟨_, rfl⟩
      obtain ⟨b2', hb'⟩ : ∃ b2', D.sb q.s = b2' := ⟨_, rfl⟩
      obtain ⟨c2, hc'⟩ : ∃ c2, D.sb q.r = c2 := ⟨_, rfl⟩
      rw [ha, hb', hc'] at cX cH
      have CR := Lib.hid (fun W => (show Calls Tryd.prog 14 #[.agg (nc t)] W fun e w' => e = .returned (.tuple #[.agg #[.string a2, .string b2', .string c2], .bool true]) ∧ Below W.heap.size W w' from by rw [← ha, ← hb', ← hc']; exact cR W))
      obtain ⟨pz, hpz⟩ : ∃ pz, (D.tpar t).1 = pz := ⟨_, rfl⟩
      obtain ⟨h, hh⟩ : ∃ h, (D.tpar t).2 = h := ⟨_, rfl⟩
      have CP := Lib.hid (fun W => (show Calls Tryd.prog 18 #[.agg (nc t)] W fun e w' => e = .returned (.tuple #[.agg (nc pz), .bool h]) ∧ Below W.heap.size W w' from by have := cP.out W; rw [hpz, hh] at this; exact this))
      rw [hh] at e1
      rw [hpz, hh] at e2 e3
      have E1 := Lib.hid e1
      have E2 := Lib.hid e2
      have E3 := Lib.hid e3
      have HCH := Lib.hid hch
      have HCN := Lib.hid hcn
      have HN := Lib.hid hn
      have CC := Lib.hid cC
      have CI := Lib.hid cI
      have CT := Lib.hid cT
      have CX := Lib.hid cX
      have CH := Lib.hid cH
      have hsz : sm D.zero D.zero = true := rfl
      clear e1 e2 e3 cR cI cT cC cX cH hrt htx hch hcn hlen hl4 hn hn2 ht hτ ha hb' hc' hpz hh hc htb cP
      go_wp2_with (first
        | (go_at_call 17; (with_reducible refine (cW.out _).mono ?_); rintro e w5 ⟨rfl, b5⟩; have z5 := z4.on b5; have ft5 := rd_on ft4 b5)
        | (go_at_call 14; (with_reducible refine (CR.out _).mono ?_); rintro e w6 ⟨rfl, b6⟩; have z6 := z5.on b6; have ft6 := rd_on ft5 b6; have st6 : w.heap.size + 1 < w6.heap.size := rd_lt ft6; have g6 := Blk.new w6 23 #[.string a2, .string b2', .string c2])
        | (go_at_call 18; (with_reducible refine (CP.out _).mono ?_); rintro e w7 ⟨rfl, b7⟩; have z7 := (z6.alloc (.cells #[.string a2, .string b2', .string c2] 23)).on b7; have ft7 := rd_on (rd_on ft6 (below_alloc_ _ (.cells #[.string a2, .string b2', .string c2] 23))) b7; have st7 : w.heap.size + 1 < w7.heap.size := rd_lt ft7; have g7 := g6.on b7; have p7 := rd_new w7 w7.heap.size 29 pz rfl)
        | (go_at_call 19; (with_reducible refine (CC.out _).mono ?_); rintro e w8 ⟨A, c0, rfl, ho, b8⟩; have z8 := (z7.alloc (.cells (nc pz) 29)).on b8; have ft8 := rd_on (rd_on ft7 (below_alloc_ _ (.cells (nc pz) 29))) b8; have g8 := (g7.alloc (.cells (nc pz) 29)).on b8; have p8 := rd_on p7 b8))
      have r8 := ho.to_row
      have st8 : w.heap.size + 1 < w8.heap.size := rd_lt ft8
      refine wp_region_ext (by kernel_rfl) (by kernel_rfl) ?_
      repeat (go_big_quiet_step ((first
        | (go_at_call 16; exact calls_ext (cY.out _))
        | (go_at_call 17; exact calls_ext (cW.out _))
        | (go_at_call 13; exact calls_ext (CI.out _)))))
      refine wpQuiet_nil ?_
      intro w9 hw9
      have b9 := ext_to hw9
      clear hw9
      have z9 := z8.on b9
      have ft9 := rd_on ft8 b9
      have p9 := rd_on p8 b9
      have g9 := g8.on b9
      have r9 := r8.on b9
      clear z8 ft8 p8 g8 b9 z4 ft4 ho r8
      obtain ⟨⟨y0, y1, y2⟩, -⟩ := blk3 g9
      go_wp2_with (first
        | (go_at_call 20; (with_reducible refine (CH.out _).mono ?_); rintro e w10 ⟨A2, c3, rfl, hf, b10⟩; have z10' := z9.on b10; have ft10 := rd_on ft9 b10; have p10 := rd_on p9 b10; have r10 := r9.on b10; have g10 := g9.on b10; have f10 := hf.to_row))
      clear z9 ft9 p9 r9 g9 y0 y1 y2 hf b10
      obtain ⟨x0, hx0⟩ := nat_lt (l := D.cht t) (i := 0) (by rw [r10.len]; omega)
      obtain ⟨ad, rfl, hadl, -⟩ := r10.rd hx0
      obtain ⟨ae, rfl, hael, -⟩ := f10.ats (Nat.succ_pos n)
      obtain ⟨⟨y0, y1, y2⟩, -⟩ := blk3 g10
      have st10 : w.heap.size + 1 < w10.heap.size := rd_lt ft10
      have sp10 : w7.heap.size < w10.heap.size := rd_lt p10
      have sg10 : w6.heap.size < w10.heap.size := g10.lt
      clear hx0 x0
      cases h with
      | true =>
        have h1 : 1 < n + 1 := of_decide_eq_true E1.out.symm
        obtain ⟨q1, hq1, hqm⟩ := fat_lt (l := D.chain q) (i := 0 + 1) (by rw [f10.len]; omega)
        have hz1 : D.tb q1 = pz := by
          have := E2.out rfl
          rw [HCH.out, List.getElem?_map, hq1] at this
          simpa using this
        have cT1 := to_can (HCN.out q1 hqm)
        rw [hz1] at cT1
        unfold av at cT1
        obtain ⟨ae', e', d0, d1, d2⟩ := f10.at_ hq1
        injection e' with e'
        subst e'
        obtain ⟨a3, ha⟩ : ∃ a3, D.sb q1.l = a3 := ⟨_, rfl⟩
        obtain ⟨b3, hb'⟩ : ∃ b3, D.sb q1.s = b3 := ⟨_, rfl⟩
        obtain ⟨c3', hc'⟩ : ∃ c3', D.sb q1.r = c3' := ⟨_, rfl⟩
        rw [ha] at d0 cT1
        rw [hb'] at d1 cT1
        rw [hc'] at d2 cT1
        have k0 : w10.cell? (ae.add 3) = some (.string a3) := d0
        have k1 : w10.cell? ⟨(ae.add 3).block, (ae.add 3).off + 1, none⟩ = some (.string b3) := d1
        have k2 : w10.cell? ⟨(ae.add 3).block, (ae.add 3).off + 2, none⟩ = some (.string c3') := d2
        have hadd : ae.add 3 = ⟨ae.block, ae.off + 3, none⟩ := by simp [Addr.add]
        have m0 : w10.cell? ⟨ae.block, ae.off + 3, none⟩ = some (.string a3) := by rw [hadd] at k0; exact k0
        have m1 : w10.cell? ⟨ae.block, ae.off + 3 + 1, none⟩ = some (.string b3) := by rw [hadd] at k1; exact k1
        have m2 : w10.cell? ⟨ae.block, ae.off + 3 + 2, none⟩ = some (.string c3') := by rw [hadd] at k2; exact k2
        have m1' : w10.cell? ⟨ae.block, ae.off + 4, none⟩ = some (.string b3) := m1
        have m2' : w10.cell? ⟨ae.block, ae.off + 5, none⟩ = some (.string c3') := m2
        clear hadd k0 k1 k2
        have CT1 := Lib.hid cT1
        have hsp : sm pz pz = true := by simp [sm]
        have i1 : (1 : Int) < (n : Int) + 1 := by omega
        have i1' : 0 < n := by omega
        clear cT1 ha hb' hc' hz1 hq1 hqm d0 d1 d2
        refine wp_region_ext (by kernel_rfl) (by kernel_rfl) ?_
        repeat (go_big_quiet_step ((first
          | (go_at_call 11; exact calls_ext (CT.out _))
          | (go_at_call 12; exact calls_ext (CX.out _))
          | (go_at_call 10; exact calls_ext (CT1.out _)))))
        refine wpQuiet_nil ?_
        intro w12 hw12
        have b12 := ext_to hw12
        clear hw12
        have z12 := z10'.on b12
        have r12 := r10.on b12
        have f12 := f10.on b12
        clear z10' r10 f10 b12 ft10 p10 g10 y0 y1 y2 st10 sp10 sg10 hadl hael
        go_wp2
        go_loopw [15] (fun i wr => ∃ k : Nat, k ≤ n + 1 ∧ i = .int .i64 k ∧ NRow wr (some ad) (n + 1) (D.cht t) ∧ FRow wr (some ae) (n + 1) (D.chain q) ∧ From w wr) (fun i _ => n + 1 - (intOf i).toNat)
        case atStart => exact ⟨0, Nat.zero_le _, rfl, r12, f12, z12⟩
        case round =>
          clear r12 f12 z12
          obtain ⟨k, hk, rfl, rr, rf, zr⟩ := hrel
          by_cases hlt : k < n + 1
          · obtain ⟨v, hv⟩ := nat_lt (l := D.cht t) (i := k) (by rw [rr.len]; exact hlt)
            obtain ⟨qk, hqk, hqm⟩ := fat_lt (l := D.chain q) (i := k) (by rw [rf.len]; exact hlt)
            have hkv : D.tb qk = v := by
              have := hv
              rw [HCH.out, List.getElem?_map, hqk] at this
              simpa using this
            have cT1 := to_can (HCN.out qk hqm)
            rw [hkv] at cT1
            unfold av at cT1
            obtain ⟨ad', e', hadl, rk⟩ := rr.rd hv
            injection e' with e'
            subst e'
            obtain ⟨ae', e', hael, -⟩ := rf.ats (Nat.succ_pos n)
            injection e' with e'
            subst e'
            obtain ⟨ae', e', d0, d1, d2⟩ := rf.at_ hqk
            injection e' with e'
            subst e'
            obtain ⟨a3, ha⟩ : ∃ a3, D.sb qk.l = a3 := ⟨_, rfl⟩
            obtain ⟨b3, hb'⟩ : ∃ b3, D.sb qk.s = b3 := ⟨_, rfl⟩
            obtain ⟨c3', hc'⟩ : ∃ c3', D.sb qk.r = c3' := ⟨_, rfl⟩
            rw [ha] at d0 cT1
            rw [hb'] at d1 cT1
            rw [hc'] at d2 cT1
            have d1' := d1
            have d2' := d2
            rw [blk_add] at d1' d2'
            have CT1 := Lib.hid cT1
            have hsv : sm v v = true := by simp [sm]
            have i0 : (0 : Int) ≤ (k : Int) := by omega
            have i2 : (k : Int) < (n : Int) + 1 := by omega
            clear cT1 ha hb' hc' hkv hv hqk hqm
            go_wp2_with fail
            refine wp_region_ext (by kernel_rfl) (by kernel_rfl) ?_
            repeat (go_big_quiet_step ((go_at_call 10; exact calls_ext (CT1.out _))))
            refine wpQuiet_nil ?_
            intro w13 hw13
            have b13 := ext_to hw13
            clear hw13
            have z13 := zr.on b13
            have r13 := rr.on b13
            have f13 := rf.on b13
            clear zr rr rf b13 rk d0 d1 d2 d1' d2'
            go_wp2
            go_roundw
            case rel => exact ⟨k + 1, by omega, by go_num, r13, f13, z13⟩
            case measure => simp [intOf]; omega
          · have i2 : ¬ ((k : Int) < (n : Int) + 1) := by omega
            go_wp2_with (first
              | (go_at_call 9; (with_reducible refine (cK.out _).mono ?_); rintro e w14 ⟨rfl, b14⟩; have z14 := zr.on b14))
            go_ret
            exact ⟨rfl, z14.below⟩
      | false =>
        have h1 : ¬ 1 < n + 1 := of_decide_eq_false E1.out.symm
        have hz := E3.out rfl
        subst hz
        have i1 : ¬ ((1 : Int) < (n : Int) + 1) := by omega
        have i1' : n = 0 := by omega
        have I1 := Lib.hid i1'
        clear i1'
        refine wp_region_ext (by kernel_rfl) (by kernel_rfl) ?_
        repeat (go_big_quiet_step ((first
          | (go_at_call 11; exact calls_ext (CT.out _))
          | (go_at_call 12; exact calls_ext (CX.out _)))))
        refine wpQuiet_nil ?_
        intro w12 hw12
        have b12 := ext_to hw12
        clear hw12
        have z12 := z10'.on b12
        have r12 := r10.on b12
        have f12 := f10.on b12
        clear z10' r10 f10 b12 ft10 p10 g10 y0 y1 y2 st10 sp10 sg10 hadl hael
        go_wp2
        go_loopw [15] (fun i wr => ∃ k : Nat, k ≤ n + 1 ∧ i = .int .i64 k ∧ NRow wr (some ad) (n + 1) (D.cht t) ∧ FRow wr (some ae) (n + 1) (D.chain q) ∧ From w wr) (fun i _ => n + 1 - (intOf i).toNat)
        case atStart => exact ⟨0, Nat.zero_le _, rfl, r12, f12, z12⟩
        case round =>
          clear r12 f12 z12
          obtain ⟨k, hk, rfl, rr, rf, zr⟩ := hrel
          by_cases hlt : k < n + 1
          · obtain ⟨v, hv⟩ := nat_lt (l := D.cht t) (i := k) (by rw [rr.len]; exact hlt)
            obtain ⟨qk, hqk, hqm⟩ := fat_lt (l := D.chain q) (i := k) (by rw [rf.len]; exact hlt)
            have hkv : D.tb qk = v := by
              have := hv
              rw [HCH.out, List.getElem?_map, hqk] at this
              simpa using this
            have cT1 := to_can (HCN.out qk hqm)
            rw [hkv] at cT1
            unfold av at cT1
            obtain ⟨ad', e', hadl, rk⟩ := rr.rd hv
            injection e' with e'
            subst e'
            obtain ⟨ae', e', hael, -⟩ := rf.ats (Nat.succ_pos n)
            injection e' with e'
            subst e'
            obtain ⟨ae', e', d0, d1, d2⟩ := rf.at_ hqk
            injection e' with e'
            subst e'
            obtain ⟨a3, ha⟩ : ∃ a3, D.sb qk.l = a3 := ⟨_, rfl⟩
            obtain ⟨b3, hb'⟩ : ∃ b3, D.sb qk.s = b3 := ⟨_, rfl⟩
            obtain ⟨c3', hc'⟩ : ∃ c3', D.sb qk.r = c3' := ⟨_, rfl⟩
            rw [ha] at d0 cT1
            rw [hb'] at d1 cT1
            rw [hc'] at d2 cT1
            have d1' := d1
            have d2' := d2
            rw [blk_add] at d1' d2'
            have CT1 := Lib.hid cT1
            have hsv : sm v v = true := by simp [sm]
            have i0 : (0 : Int) ≤ (k : Int) := by omega
            have i2 : (k : Int) < (n : Int) + 1 := by omega
            clear cT1 ha hb' hc' hkv hv hqk hqm
            go_wp2_with fail
            refine wp_region_ext (by kernel_rfl) (by kernel_rfl) ?_
            repeat (go_big_quiet_step ((go_at_call 10; exact calls_ext (CT1.out _))))
            refine wpQuiet_nil ?_
            intro w13 hw13
            have b13 := ext_to hw13
            clear hw13
            have z13 := zr.on b13
            have r13 := rr.on b13
            have f13 := rf.on b13
            clear zr rr rf b13 rk d0 d1 d2 d1' d2'
            go_wp2
            go_roundw
            case rel => exact ⟨k + 1, by omega, by go_num, r13, f13, z13⟩
            case measure => simp [intOf]; omega
          · have i2 : ¬ ((k : Int) < (n : Int) + 1) := by omega
            go_wp2_with (first
              | (go_at_call 9; (with_reducible refine (cK.out _).mono ?_); rintro e w14 ⟨rfl, b14⟩; have z14 := zr.on b14))
            go_ret
            exact ⟨rfl, z14.below⟩
end Go.Proofs.YtgbnaammphilhaaDoor
