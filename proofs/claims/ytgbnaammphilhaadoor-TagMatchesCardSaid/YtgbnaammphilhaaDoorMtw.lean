/-
  The law of matches: its walk.
-/
import Derived.Test.YtgbnaammphilhaaDoorIdx
import Derived.Test.YtgbnaammphilhaaDoorCom
import Derived.Test.YtgbnaammphilhaaDoorRch
import Derived.Test.YtgbnaammphilhaaDoorByt
import Derived.Test.YtgbnaammphilhaaDoorTpw
import Derived.Deep.CutRange
set_option linter.unusedVariables false
set_option linter.unusedSimpArgs false
namespace Go.Proofs.YtgbnaammphilhaaDoor
open Go.RowKit
theorem blk_add (a : Addr) (i : Nat) : (a.add i).block = a.block := block_of_add a i
attribute [local go_sem ↓] Go.wp_at_zero Go.wp_at_succ ld_a ld_n st_a st_n eq_a eq_n ne_a ne_n bsl_n lv_a lv_n lp_3 lp_4
attribute [local go_sem] run_ld_a run_ld_n run_sw_a run_sw_n run_eq_a run_eq_n run_ne_a run_ne_n run_bsl1_n run_lv_a run_lv_n st_z ne_z eq_z rd_new rd_old rd_drew rd_drewN rd_set tn_new tn_old tn_drew tn_drewN setRow_alloc run_lp_3 run_lp_4 rd_ext cell_ext blk_add

theorem upto_t (A : Option Addr) (n c k : Nat) (hk : k ≤ c) : ∀ W, (Instr.slice 46 (.slice A n c) none (some (.int .i64 (k : Int))) none).run Tryd.prog W = .ok (.slice A k c) W := by
  intro W
  have : ∀ a : Addr, a.add 0 = a := add_zero_
  rw [run_slice_h W 46 A n c (by kernel_rfl) .i64 k (by omega) (by omega)]
  simp [Result.andThen, sliced, go_sem]
theorem parse_none {u : ByteArray} (hu : u.size ≤ 30) (h : D.parse (D.ns u) = none) (w : World) : Calls Tryd.prog 8 #[.string u] w fun e w' => e = .returned (.tuple #[.agg (nc D.zero), .int .i64 14]) ∧ Below w.heap.size w w' := by
  have := tag_parse u w (by omega)
  rw [h] at this
  exact this
theorem parse_some {u : ByteArray} {p : D.Pt} (hu : u.size ≤ 30) (h : D.parse (D.ns u) = some p) (w : World) : Calls Tryd.prog 8 #[.string u] w fun e w' => e = .returned (.tuple #[.agg (nc (D.tb p)), .int .i64 0]) ∧ Below w.heap.size w w' := by
  have := tag_parse u w (by omega)
  rw [h] at this
  exact this
theorem parse_any {u : ByteArray} (hu : u.size ≤ 30) : ∃ (x : D.Tg) (e : Int), (∀ w : World, Calls Tryd.prog 8 #[.string u] w fun e' w' => e' = .returned (.tuple #[.agg (nc x), .int .i64 e]) ∧ Below w.heap.size w w') := ⟨_, _, fun w => tag_parse u w (by omega)⟩
theorem rparse_some {u : ByteArray} {p : D.Pt} (hu : u.size ≤ 30) (h : D.parse (D.ns u) = some p) (w : World) : Calls Tryd.prog 7 #[.string u] w fun e w' => e = .returned (.tuple #[.agg #[.string (D.sb p.l), .string (D.sb p.s), .string (D.sb p.r)], .bool true]) ∧ Below w.heap.size w w' := by
  have := ref_parse u w (by omega)
  rw [h] at this
  exact this
theorem hg_of {e : D.Pt} {a b c : ByteArray} (ha : D.sb e.l = a) (hb : D.sb e.s = b) (hc : D.sb e.r = c) (W : World) (k : Nat) (hk : k = W.heap.size) : (W.alloc (.cells #[.string a, .string b, .string c] 23)).heap[k]? = some (.cells #[.string (D.sb e.l), .string (D.sb e.s), .string (D.sb e.r)] 23 (0, 0)) := by
  subst hk
  rw [ha, hb, hc]
  exact heap_alloc_new W _
theorem add_of (k j : Nat) : (⟨k, 0, none⟩ : Addr).add j = ⟨k, j, none⟩ := by
  unfold Addr.add
  split
  · subst_vars; rfl
  · simp
theorem cell_on {w w' : World} {a : Addr} {v : Value} (h : w.cell? a = some v) (hl : a.block < w.heap.size) (hb : Below w.heap.size w w') : w'.cell? a = some v := (World.cell?_of_block (hb.block _ hl)).trans h
theorem rch_of (p : D.Pt) (w : World) : Calls Tryd.prog 20 #[.agg #[.string (D.sb p.l), .string (D.sb p.s), .string (D.sb p.r)]] w fun e w' => ∃ A c, e = .returned (.slice A (D.chain p).length c) ∧ FOwn (w.heap.size + 1) w' A (D.chain p).length c (D.chain p) ∧ Below w.heap.size w w' := rch_any p w

set_option maxRecDepth 100000 in
set_option maxHeartbeats 8000000 in
theorem matches_all (s0 s1 : ByteArray) (A : Option Addr) (len cap : Nat) (l : List D.Tg) (w : World) (hs0 : s0.size ≤ 9223372036854775807) (hs1 : s1.size ≤ 9223372036854775807) (hrow : NRow w A len l) (hcap : len ≤ cap) (hmax : cap ≤ maxLen) :
    Calls Tryd.prog 5 #[.string s0, .string s1, .slice A len cap] w fun e w' => e = .returned (.bool true) ∧ Below w.heap.size w w' := by
  obtain ⟨m0, hm0, hm0', hmin0⟩ := min_run s0.size 30 30 rfl
  obtain ⟨m1, hm1, hm1', hmin1⟩ := min_run s1.size 30 30 rfl
  obtain ⟨m, hm, hm', hmin2⟩ := min_run len 20 20 rfl
  have hcut := upto_t A len cap m (by omega)
  have hl := hrow.take hm
  have hmc : m ≤ cap := by omega
  obtain ⟨L, hL⟩ : ∃ L, l.take m = L := ⟨_, rfl⟩
  rw [hL] at hl
  have hus := ext_size_le s0 m0
  have hvs := ext_size_le s1 m1
  obtain ⟨u, hu⟩ : ∃ u, s0.extract 0 m0 = u := ⟨_, rfl⟩
  obtain ⟨v, hv⟩ : ∃ v, s1.extract 0 m1 = v := ⟨_, rfl⟩
  rw [hu] at hus
  rw [hv] at hvs
  have hus : u.size ≤ 30 := by omega
  have hvs : v.size ≤ 30 := by omega
  have z0 := from_self w
  have cK := Lib.hid known_any
  clear hrow hL hmax
  cases hp : D.parse (D.ns u) with
  | none =>
    have CP := Lib.hid (parse_none hus hp)
    obtain ⟨y, ey, cQ⟩ := parse_any hvs
    have CQ := Lib.hid cQ
    clear cQ hp hus hvs
    go_enter Tryd.func5, Tryd.ntmps5
    go_wp2_with fail
    refine wp_region_ext (by kernel_rfl) (by kernel_rfl) ?_
    repeat (go_big_quiet_step (fail))
    refine wpQuiet_nil ?_
    intro w1 hw1
    have b1 := ext_to hw1
    clear hw1
    have z1 := z0.on b1
    have hl1 := hl.on b1
    clear z0 hl b1 hcut hmin0 hmin1 hmin2 hu hv
    go_wp2_with (first
      | (go_at_call 8; (with_reducible refine (CP.out _).mono ?_); rintro e w2 ⟨rfl, b2⟩; have z2 := z1.on b2)
      | (go_at_call 8; (with_reducible refine (CQ.out _).mono ?_); rintro e w3 ⟨rfl, b3⟩; have z3 := (z2.alloc (.cells (nc D.zero) 29)).on b3)
      | (go_at_call 9; (with_reducible refine (cK.out _).mono ?_); rintro e w4 ⟨rfl, b4⟩; have z4 := (z3.alloc (.cells (nc y) 29)).on b4))
    go_ret
    exact ⟨rfl, z4.below⟩
  | some p =>
    cases hq : D.parse (D.ns v) with
    | none =>
      have CP := Lib.hid (parse_some hus hp)
      have CQ := Lib.hid (parse_none hvs hq)
      obtain ⟨x, hx⟩ : ∃ x, D.tb p = x := ⟨_, rfl⟩
      rw [hx] at CP
      clear hx hp hq hus hvs
      go_enter Tryd.func5, Tryd.ntmps5
      go_wp2_with fail
      refine wp_region_ext (by kernel_rfl) (by kernel_rfl) ?_
      repeat (go_big_quiet_step (fail))
      refine wpQuiet_nil ?_
      intro w1 hw1
      have b1 := ext_to hw1
      clear hw1
      have z1 := z0.on b1
      have hl1 := hl.on b1
      clear z0 hl b1 hcut hmin0 hmin1 hmin2 hu hv
      go_wp2_with (first
        | (go_at_call 8; (with_reducible refine (CP.out _).mono ?_); rintro e w2 ⟨rfl, b2⟩; have z2 := z1.on b2)
        | (go_at_call 8; (with_reducible refine (CQ.out _).mono ?_); rintro e w3 ⟨rfl, b3⟩; have z3 := (z2.alloc (.cells (nc x) 29)).on b3)
        | (go_at_call 9; (with_reducible refine (cK.out _).mono ?_); rintro e w4 ⟨rfl, b4⟩; have z4 := (z3.alloc (.cells (nc D.zero) 29)).on b4))
      go_ret
      exact ⟨rfl, z4.below⟩
    | some q =>
      have hc := D.parse_can hp
      have hd := D.parse_can hq
      have cHp := rch_of p
      have cHq := rch_of q
      have cBp := rby_can hc
      have cBq := rby_can hd
      unfold av at cBp cBq
      have CRp := rparse_some hus hp
      have CRq := rparse_some hvs hq
      have cP := parse_some hus hp
      have cQ := parse_some hvs hq
      have cCa := common_any (D.tb p) (D.tb q)
      have cCb := common_any (D.tb q) (D.tb p)
      have cB := below_any (D.tb p) (D.tb q)
      have cL := less_any (D.tb p) (D.tb q)
      have IXM := ix_match hc L
      obtain ⟨jc, ec, hjc, hic, hco1, hco2⟩ := ix_common hc hd
      have HB := below_in hc hd
      have hcn := D.chain_can hc
      have hn4 := (D.chain_len p).2
      have hn4' := (D.chain_len q).2
      have hn0 := (D.chain_len p).1
      have cTc := to_can (hcn ec (List.mem_of_getElem? hjc))
      unfold av at cTc
      obtain ⟨ac, hac⟩ : ∃ a, D.sb ec.l = a := ⟨_, rfl⟩
      obtain ⟨bc, hbc⟩ : ∃ a, D.sb ec.s = a := ⟨_, rfl⟩
      obtain ⟨cc, hcc⟩ : ∃ a, D.sb ec.r = a := ⟨_, rfl⟩
      rw [hac, hbc, hcc] at cTc
      obtain ⟨C, hC⟩ : ∃ C, D.chain p = C := ⟨_, rfl⟩
      obtain ⟨E, hE⟩ : ∃ E, D.chain q = E := ⟨_, rfl⟩
      rw [hC] at cHp IXM hjc hic HB hcn hn4 hn0
      rw [hE] at cHq hic hn4'
      obtain ⟨n1, hn1⟩ : ∃ n, C.length = n := ⟨_, rfl⟩
      obtain ⟨n2, hn2⟩ : ∃ n, E.length = n := ⟨_, rfl⟩
      rw [hn1] at hn4 hn0
      simp only [hn1] at cHp
      rw [hn2] at hn4'
      simp only [hn2] at cHq
      obtain ⟨x, hx⟩ : ∃ x, D.tb p = x := ⟨_, rfl⟩
      obtain ⟨y, hy⟩ : ∃ y, D.tb q = y := ⟨_, rfl⟩
      obtain ⟨xc, hxc⟩ : ∃ z, D.tb ec = z := ⟨_, rfl⟩
      rw [hx] at cBp cP cCa cCb cB cL IXM hco1 hco2 HB
      rw [hy] at cBq cQ cCa cCb cB cL hco1 hco2 HB
      rw [hxc] at cTc hco1 hco2
      rw [hco1] at cCa
      rw [hco2] at cCb
      rw [HB] at cB
      unfold D.G at cB
      obtain ⟨a, ha⟩ : ∃ a, D.sb p.l = a := ⟨_, rfl⟩
      obtain ⟨b, hb⟩ : ∃ b, D.sb p.s = b := ⟨_, rfl⟩
      obtain ⟨c, hc3⟩ : ∃ c, D.sb p.r = c := ⟨_, rfl⟩
      obtain ⟨a', ha'⟩ : ∃ a, D.sb q.l = a := ⟨_, rfl⟩
      obtain ⟨b', hb'⟩ : ∃ b, D.sb q.s = b := ⟨_, rfl⟩
      obtain ⟨c', hc3'⟩ : ∃ c, D.sb q.r = c := ⟨_, rfl⟩
      rw [ha, hb, hc3] at cHp cBp CRp
      rw [ha', hb', hc3'] at cHq cBq CRq cB
      obtain ⟨hbel, hhb⟩ : ∃ h, inr C a' b' c' = h := ⟨_, rfl⟩
      rw [hhb] at cB
      obtain ⟨les, hles⟩ : ∃ h, decide (D.cmp x.l y.l < 0) = h := ⟨_, rfl⟩
      rw [hles] at cL
      have CP := Lib.hid cP
      have CQ := Lib.hid cQ
      have RP := Lib.hid CRp
      have RQ := Lib.hid CRq
      have CHp := Lib.hid cHp
      have CHq := Lib.hid cHq
      have CBp := Lib.hid cBp
      have CBq := Lib.hid cBq
      have CCa := Lib.hid cCa
      have CCb := Lib.hid cCb
      have CB := Lib.hid cB
      have CL := Lib.hid cL
      have CTc := Lib.hid cTc
      have IX := Lib.hid IXM
      have JC := Lib.hid hjc
      have IC := Lib.hid hic
      have HCN := Lib.hid hcn
      have HN1 := Lib.hid hn1
      have HN2 := Lib.hid hn2
      have HHB := Lib.hid hhb
      have HLES := Lib.hid hles
      have HAC := Lib.hid hac
      have HBC := Lib.hid hbc
      have HCC := Lib.hid hcc
      clear hac hbc hcc cP cQ CRp CRq cHp cHq cBp cBq cCa cCb cB cL cTc IXM hjc hic hcn hn1 hn2 hhb hles hco1 hco2 HB hx hy hxc ha hb hc3 ha' hb' hc3' hC hE hc hd hp hq hus hvs
      go_enter Tryd.func5, Tryd.ntmps5
      go_wp2_with fail
      refine wp_region_ext (by kernel_rfl) (by kernel_rfl) ?_
      repeat (go_big_quiet_step (fail))
      refine wpQuiet_nil ?_
      intro w1 hw1
      have b1 := ext_to hw1
      clear hw1
      have z1 := z0.on b1
      have hl1 := hl.on b1
      clear z0 hl b1 hcut hmin0 hmin1 hmin2 hu hv
      go_wp2_with (first
        | (go_at_call 8; (with_reducible refine (CP.out _).mono ?_); rintro e w2 ⟨rfl, b2⟩; have z2 := z1.on b2; have hl2 := hl1.on b2; have f2 := rd_new w2 _ 29 x rfl)
        | (go_at_call 8; (with_reducible refine (CQ.out _).mono ?_); rintro e w3 ⟨rfl, b3⟩; have z3 := (z2.alloc (.cells (nc x) 29)).on b3; have hl3 := (hl2.alloc (.cells (nc x) 29)).on b3; have f3 := rd_on f2 b3; have g3 := rd_new w3 _ 29 y rfl)
        | (go_at_call 7; (with_reducible refine (RP.out _).mono ?_); rintro e w4 ⟨rfl, b4⟩; have z4 := (z3.alloc (.cells (nc y) 29)).on b4; have hl4 := (hl3.alloc (.cells (nc y) 29)).on b4; have f4 := rd_on (rd_on f3 (below_alloc_ _ (.cells (nc y) 29))) b4; have g4 := rd_on g3 b4; have B4 := Blk.new w4 23 #[.string a, .string b, .string c])
        | (go_at_call 7; (with_reducible refine (RQ.out _).mono ?_); rintro e w5 ⟨rfl, b5⟩; have z5 := (z4.alloc (.cells #[.string a, .string b, .string c] 23)).on b5; have hl5 := (hl4.alloc (.cells #[.string a, .string b, .string c] 23)).on b5; have f5 := rd_on (rd_on f4 (below_alloc_ _ (.cells #[.string a, .string b, .string c] 23))) b5; have g5 := rd_on (rd_on g4 (below_alloc_ _ (.cells #[.string a, .string b, .string c] 23))) b5; have B5 := B4.on b5; have D5 := Blk.new w5 23 #[.string a', .string b', .string c']))
      have z6 := z5.alloc (.cells #[.string a', .string b', .string c'] 23)
      have hl6 := hl5.alloc (.cells #[.string a', .string b', .string c'] 23)
      have f6 := rd_on f5 (below_alloc_ _ (.cells #[.string a', .string b', .string c'] 23))
      have g6 := rd_on g5 (below_alloc_ _ (.cells #[.string a', .string b', .string c'] 23))
      have B6 := B5.alloc (.cells #[.string a', .string b', .string c'] 23)
      obtain ⟨w6, hw6⟩ : ∃ W, w5.alloc (.cells #[.string a', .string b', .string c'] 23) = W := ⟨_, rfl⟩
      rw [hw6] at z6 hl6 f6 g6 B6 D5
      try rw [hw6]
      clear hw6 z1 hl1 z2 hl2 f2 z3 hl3 f3 g3 z4 hl4 f4 g4 B4 z5 hl5 f5 g5 B5 b2 b3 b4 b5 CP CQ RP RQ
      refine wp_region_noPanic ?_
      refine wp_region_held_drew (S := fun W => Below w6.heap.size w6 W) (by kernel_rfl) (Below.refl _ _).drew (fun _ => ?_)
      obtain ⟨wd, hwd⟩ : ∃ wd, w6.drew = wd := ⟨_, rfl⟩
      have sd : Below w6.heap.size w6 wd := by rw [← hwd]; exact (Below.refl _ _).drew
      rw [hwd]
      clear hwd
      refine takeS 0 (some 72) ?va0 (by kernel_rfl) (by kernel_rfl) (by kernel_rfl) (by kernel_rfl) (fun _ _ _ h => h) (by rfl) ?hya0 sd ?resta0
      case hya0 => (intro o ho W hW; simp only [List.getElem?_toArray, List.getElem?_cons_succ, List.getElem?_cons_zero, Option.some.injEq] at ho; subst ho; (try dsimp only at hW); obtain ⟨⟨y0, y1, y2⟩, -⟩ := blk3 (B6.on hW); go_simp; try rfl)
      try simp only [Act.put, List.setIfInBounds_toArray, List.set_cons_zero, List.set_cons_succ]
      refine takeS 2 (some 74) ?va2 (by kernel_rfl) (by kernel_rfl) (by kernel_rfl) (by kernel_rfl) (fun _ _ _ h => h) (by rfl) ?hya2 sd ?resta2
      case hya2 => (intro o ho W hW; simp only [List.getElem?_toArray, List.getElem?_cons_succ, List.getElem?_cons_zero, Option.some.injEq] at ho; subst ho; (try dsimp only at hW); obtain ⟨⟨y0, y1, y2⟩, -⟩ := blk3 (D5.on hW); go_simp; try rfl)
      try simp only [Act.put, List.setIfInBounds_toArray, List.set_cons_zero, List.set_cons_succ]
      refine nextS 1 (by kernel_rfl) (by rfl) (fun o ho K hK => ?_)
      simp only [List.getElem?_toArray, List.getElem?_cons_succ, List.getElem?_cons_zero, Option.some.injEq] at ho; subst ho
      go_simp
      (go_at_call 20; (with_reducible refine (CHp.out _).mono ?_); rintro e v1 ⟨A1, c1, rfl, ho1, h1⟩)
      have s1 : Below w6.heap.size w6 v1 := below_on sd sd.size h1
      refine hK.out _ _ s1 (fun _ => ?_)
      clear hK K
      try simp only [Act.put, List.setIfInBounds_toArray, List.set_cons_zero, List.set_cons_succ]
      refine nextS 3 (by kernel_rfl) (by rfl) (fun o ho K hK => ?_)
      simp only [List.getElem?_toArray, List.getElem?_cons_succ, List.getElem?_cons_zero, Option.some.injEq] at ho; subst ho
      go_simp
      (go_at_call 20; (with_reducible refine (CHq.out _).mono ?_); rintro e v2 ⟨A2, c2, rfl, ho2, h2⟩)
      have s2 : Below w6.heap.size w6 v2 := below_on s1 s1.size h2
      refine hK.out _ _ s2 (fun _ => ?_)
      clear hK K
      try simp only [Act.put, List.setIfInBounds_toArray, List.set_cons_zero, List.set_cons_succ]
      refine takeS 4 (some 15) ?vb4 (by kernel_rfl) (by kernel_rfl) (by kernel_rfl) (by kernel_rfl) (fun _ _ _ h => h) (by rfl) ?hyb4 s2 ?restb4
      case hyb4 => (intro o ho W hW; simp only [List.getElem?_toArray, List.getElem?_cons_succ, List.getElem?_cons_zero, Option.some.injEq] at ho; subst ho; (try dsimp only at hW); skip; go_simp; try rfl)
      try simp only [Act.put, List.setIfInBounds_toArray, List.set_cons_zero, List.set_cons_succ]
      refine takeS 5 (some 16) ?vb5 (by kernel_rfl) (by kernel_rfl) (by kernel_rfl) (by kernel_rfl) (fun _ _ _ h => h) (by rfl) ?hyb5 s2 ?restb5
      case hyb5 => (intro o ho W hW; simp only [List.getElem?_toArray, List.getElem?_cons_succ, List.getElem?_cons_zero, Option.some.injEq] at ho; subst ho; (try dsimp only at hW); skip; go_simp; try rfl)
      try simp only [Act.put, List.setIfInBounds_toArray, List.set_cons_zero, List.set_cons_succ]
      refine wpAnyH_done (by kernel_rfl) ?_ _
      refine NoPanic.normal ?_
      have F1 := (ho1.to_row).on h2
      have F2 := ho2.to_row
      have z8 := z6.on s2
      have hl8 := hl6.on s2
      have f8 := rd_on f6 s2
      have g8 := rd_on g6 s2
      have B8 := B6.on s2
      have D8 := D5.on s2
      clear ho1 ho2 h1 h2 s1 s2 sd z6 hl6 f6 g6 B6 D5 CHp CHq
      go_wp2
      go_loopw [17, 18] (fun s17 s18 wr => ∃ (k : Nat) (A3 : Option Addr) (n3 c3 : Nat), k ≤ m ∧ n3 ≤ k ∧ s18 = .int .i64 k ∧ s17 = .slice A3 n3 c3 ∧ FOwn v2.heap.size wr A3 n3 c3 (rights (L.take k)) ∧ Below v2.heap.size v2 wr) (fun _ i _ => m - (intOf i).toNat)
      case atStart => exact ⟨0, none, 0, 0, Nat.zero_le _, Nat.le_refl _, rfl, rfl, FOwn.nil (Nat.le_refl _), Below.refl _ _⟩
      case round =>
        obtain ⟨k, A3, n3, c3, hk, hn3, rfl, rfl, ho, bb⟩ := hrel
        by_cases hlt : k < m
        · obtain ⟨t, ht⟩ := nat_lt (l := L) (i := k) (by rw [hl8.len]; exact hlt)
          obtain ⟨ad, rfl, hadl, rt⟩ := (hl8.on bb).rd ht
          have hnx := rights_next ht
          have cR := rof_any t
          rw [D.rof_eq] at cR
          have cW := Lib.hid (raw_any t)
          have i0 : (0 : Int) ≤ (k : Int) := by omega
          have i1 : (k : Int) < (m : Int) := by omega
          cases hx : D.pt t with
          | none =>
            rw [hx] at cR hnx
            have CR := Lib.hid (fun W => (show Calls Tryd.prog 14 #[.agg (nc t)] W fun e w' => e = .returned (.tuple #[.agg #[.string ⟨#[]⟩, .string ⟨#[]⟩, .string ⟨#[]⟩], .bool false]) ∧ Below W.heap.size W w' from by exact cR W))
            have HX : Kept (rights (L.take (k + 1)) = rights (L.take k)) := ⟨by rw [hnx]; simp⟩
            clear cR hnx hx ht
            go_wp2_with (first
              | (go_at_call 17; (with_reducible refine (cW.out _).mono ?_); rintro e w9 ⟨rfl, b9⟩; have o9 := ho.more b9; have bb9 := bb.trans (b9.mono bb.size))
              | (go_at_call 14; (with_reducible refine (CR.out _).mono ?_); rintro e w10 ⟨rfl, b10⟩; have o10 := o9.more b10; have bb10 := bb9.trans (b10.mono bb9.size))
              )
            go_roundw
            case rel => exact ⟨k + 1, A3, n3, c3, by omega, by omega, by go_num, rfl, by rw [HX.out]; exact o10.more (below_alloc_ _ (.cells #[.string ⟨#[]⟩, .string ⟨#[]⟩, .string ⟨#[]⟩] 23)), bb10.alloc bb10.size (.cells #[.string ⟨#[]⟩, .string ⟨#[]⟩, .string ⟨#[]⟩] 23)⟩
            case measure => simp [intOf]; omega
          | some e =>
            rw [hx] at cR hnx
            obtain ⟨a3, ha3⟩ : ∃ a, D.sb e.l = a := ⟨_, rfl⟩
            obtain ⟨b3, hb3⟩ : ∃ a, D.sb e.s = a := ⟨_, rfl⟩
            obtain ⟨c3', hc3⟩ : ∃ a, D.sb e.r = a := ⟨_, rfl⟩
            have CR := Lib.hid (fun W => (show Calls Tryd.prog 14 #[.agg (nc t)] W fun e w' => e = .returned (.tuple #[.agg #[.string a3, .string b3, .string c3'], .bool true]) ∧ Below W.heap.size W w' from by rw [← ha3, ← hb3, ← hc3]; exact cR W))
            have HX : Kept (rights (L.take (k + 1)) = rights (L.take k) ++ [e]) := ⟨hnx⟩
            have HG := hg_of ha3 hb3 hc3
            have HG2 := Lib.hid HG
            clear cR hnx hx ht ha3 hb3 hc3 HG
            go_wp2_with (first
              | (go_at_call 17; (with_reducible refine (cW.out _).mono ?_); rintro e w9 ⟨rfl, b9⟩; have o9 := ho.more b9; have bb9 := bb.trans (b9.mono bb.size))
              | (go_at_call 14; (with_reducible refine (CR.out _).mono ?_); rintro e w10 ⟨rfl, b10⟩; have o10 := o9.more b10; have bb10 := bb9.trans (b10.mono bb9.size); have B10 := Blk.new w10 23 #[.string a3, .string b3, .string c3']; have sB10 := B10.lt; have k10 := (blk3 B10).1; obtain ⟨k0, k1, k2⟩ := k10)
              | (at_builtin; have p2 := (o10.more (below_alloc_ _ (.cells #[.string a3, .string b3, .string c3'] 23))).more (below_alloc_ _ (.cells #[.string a3, .string b3, .string c3'] 23)); have x2 := (bb10.alloc bb10.size (.cells #[.string a3, .string b3, .string c3'] 23)).alloc (by have := bb10.size; simp; omega) (.cells #[.string a3, .string b3, .string c3'] 23); refine fapp _ rfl (.tmp 92) (.tmp 94) (by rfl) (f := e) (by rfl) p2 (by rfl) (HG2.out (w10.alloc (.cells #[.string a3, .string b3, .string c3'] 23)) (w10.heap.size + 1) (by simp)) (by omega) ?_; intro A4 c4 w12 q4 e4; have x4 := below_own x2 (Nat.le_trans bb10.size (by simp; omega)) e4 p2 (Nat.le_refl _))
              )
            go_roundw
            case rel => exact ⟨k + 1, A4, n3 + 1, c4, by omega, by omega, by go_num, rfl, by rw [HX.out]; exact q4, x4⟩
            case measure => simp [intOf]; omega
        · have hkm : m = k := by omega
          subst hkm
          have htk : L.take m = L := List.take_of_length_le (by rw [hl8.len]; exact Nat.le_refl _)
          rw [htk] at ho
          have F3 := ho.to_row
          have hn3t : n3 ≤ 1000 := by omega
          have i1 : ¬ ((m : Int) < (m : Int)) := by omega
          have z16 := z8.on bb
          have hl16 := hl8.on bb
          have f16 := rd_on f8 bb
          have g16 := rd_on g8 bb
          have B16 := B8.on bb
          have D16 := D8.on bb
          have F1' := F1.on bb
          have F2' := F2.on bb
          clear z8 hl8 f8 g8 B8 D8 F1 F2 bb ho htk hn3
          obtain ⟨R, hR⟩ : ∃ R, rights L = R := ⟨_, rfl⟩
          have IX' := IX
          rw [hR] at F3 IX'
          clear IX hR
          obtain ⟨w16, rfl⟩ : ∃ W, W = wr := ⟨_, rfl⟩
          obtain ⟨ae, rfl, hael, -⟩ := F1'.ats (by omega)
          go_wp2
          go_loopw [21, 22, 23] (fun s21 s22 s23 wr => ∃ (k : Nat) (z i1 i2 : Int), k ≤ n1 ∧ Kept (z = (k : Int) - 1) ∧ Kept (i1 = D.ix (D.G R) (C.drop k) k) ∧ Kept (i2 = D.ix (D.G E) (C.drop k) k) ∧ s21 = .int .i64 i1 ∧ s22 = .int .i64 i2 ∧ s23 = .int .i64 z ∧ Below w16.heap.size w16 wr) (fun _ _ i _ => (intOf i + 1).toNat)
          case atStart => exact ⟨n1, (n1 : Int) - 1, -1, -1, Nat.le_refl _, ⟨rfl⟩, ⟨by rw [List.drop_of_length_le (by rw [HN1.out]; exact Nat.le_refl _)]; rfl⟩, ⟨by rw [List.drop_of_length_le (by rw [HN1.out]; exact Nat.le_refl _)]; rfl⟩, rfl, rfl, by go_num, Below.refl _ _⟩
          case round =>
            obtain ⟨k, z, i1, i2, hk, hz, hi1, hi2, rfl, rfl, rfl, bb⟩ := hrel
            by_cases hk0 : k = 0
            · subst hk0
              have hz0 : ¬ ((0 : Int) ≤ z) := by have := hz.out; omega
              have hz1 : z < 0 := by omega
              have hm1 := hi1.out
              have hm2 := hi2.out
              rw [List.drop_zero] at hm1 hm2
              rw [IC.out] at hm2
              subst hm2
              clear hi1 hi2 hz
              have z17 := z16.on bb
              have hl17 := hl16.on bb
              have f17 := rd_on f16 bb
              have g17 := rd_on g16 bb
              have B17 := B16.on bb
              have D17 := D16.on bb
              have F17 := F1'.on bb
              have haew : ae.block < wr.heap.size := Nat.lt_of_lt_of_le hael bb.size
              obtain ⟨w17, rfl⟩ : ∃ W, W = wr := ⟨_, rfl⟩
              clear z16 hl16 f16 g16 B16 D16 F1' F2' F3 bb
              have cM := fun W (h : NRow W A m L) => match_any x A m cap L W h hmc (by omega)
              obtain ⟨t1, ht1⟩ : ∃ t, (D.find (D.cht x) L).getD D.zero = t := ⟨_, rfl⟩
              obtain ⟨hh, hhh⟩ : ∃ h, (D.find (D.cht x) L).isSome = h := ⟨_, rfl⟩
              rw [ht1, hhh] at cM
              have CM := Lib.hid cM
              have IX2 : Kept ((t1 = D.zero ∧ hh = false ∧ i1 = -1) ∨ ∃ (j : Nat) (e : D.Pt), C[j]? = some e ∧ D.tb e = t1 ∧ hh = true ∧ i1 = (j : Int)) := ⟨by
                rcases IX'.out with ⟨h1, h2⟩ | ⟨j, e, h1, h2, h3⟩
                · exact .inl ⟨by rw [← ht1, h1]; rfl, by rw [← hhh, h1]; rfl, by rw [hm1, h2]⟩
                · exact .inr ⟨j, e, h1, by rw [← ht1, h2]; rfl, by rw [← hhh, h2]; rfl, by rw [hm1, h3]⟩⟩
              clear cM ht1 hhh hm1 IX' IC
              go_upto_region 25 with (first
                | (go_at_call 22; (with_reducible refine (CM.out _ hl17).mono ?_); rintro e w18 ⟨rfl, b18⟩; have z18 := z17.on b18; have f18 := rd_on f17 b18; have g18 := rd_on g17 b18; have B18 := B17.on b18; have D18 := D17.on b18; have F18 := F17.on b18))
              have z19 := z18.alloc (.cells (nc t1) 29)
              have f19 := rd_on f18 (below_alloc_ _ (.cells (nc t1) 29))
              have g19 := rd_on g18 (below_alloc_ _ (.cells (nc t1) 29))
              have B19 := B18.alloc (.cells (nc t1) 29)
              have D19 := D18.alloc (.cells (nc t1) 29)
              have F19 := F18.on (below_alloc_ _ (.cells (nc t1) 29))
              have t19 := rd_new w18 _ 29 t1 rfl
              obtain ⟨w19, hw19⟩ : ∃ W, w18.alloc (.cells (nc t1) 29) = W := ⟨_, rfl⟩
              rw [hw19] at z19 f19 g19 B19 D19 F19 t19
              try rw [hw19]
              clear hw19 z17 z18 f17 f18 g17 g18 B17 B18 D17 D18 F17 F18 hl17 b18 CM haew
              obtain ⟨ae', e', hael', -⟩ := F19.ats (by omega)
              injection e' with e'
              subst e'
              have st19 : w18.heap.size < w19.heap.size := rd_lt t19
              go_cut [151] from 123 (fun s151 wx => s151 = .bool false ∧ Below w19.heap.size w19 wx)
              case first =>
                have jc0 : (0 : Int) ≤ (jc : Int) := by omega
                have jc1 : ¬ ((jc : Int) < 0) := by omega
                rcases IX2.out with ⟨rfl, rfl, rfl⟩ | ⟨j, e, hj, ht, rfl, rfl⟩
                · have hsm : sm D.zero D.zero = true := rfl
                  refine wp_region_ext (by kernel_rfl) (by kernel_rfl) ?_
                  repeat (go_big_quiet_step (fail))
                  refine wpQuiet_nil ?_
                  intro w20 hw20
                  have b20 := ext_to hw20
                  clear hw20
                  go_wp2_with fail
                  go_meet
                  exact ⟨rfl, b20⟩
                · have cT := to_can (HCN.out e (List.mem_of_getElem? hj))
                  unfold av at cT
                  rw [ht] at cT
                  obtain ⟨ae', e', d0, d1, d2⟩ := F19.at_ hj
                  injection e' with e'
                  subst e'
                  obtain ⟨a3, ha3⟩ : ∃ a, D.sb e.l = a := ⟨_, rfl⟩
                  obtain ⟨b3, hb3⟩ : ∃ a, D.sb e.s = a := ⟨_, rfl⟩
                  obtain ⟨c3', hc3⟩ : ∃ a, D.sb e.r = a := ⟨_, rfl⟩
                  rw [ha3] at d0 cT
                  rw [hb3] at d1 cT
                  rw [hc3] at d2 cT
                  have d1' := d1
                  have d2' := d2
                  rw [blk_add] at d1' d2'
                  have CT := Lib.hid cT
                  have hjn := (List.getElem?_eq_some_iff.1 hj).1
                  rw [HN1.out] at hjn
                  have j0 : (0 : Int) ≤ (j : Int) := by omega
                  have j1 : (j : Int) < (n1 : Int) := by omega
                  have hst : sm t1 t1 = true := by simp [sm]
                  clear cT ha3 hb3 hc3 ht hj
                  refine wp_region_ext (by kernel_rfl) (by kernel_rfl) ?_
                  repeat (go_big_quiet_step ((go_at_call 10; exact calls_ext (CT.out _))))
                  refine wpQuiet_nil ?_
                  intro w20 hw20
                  have b20 := ext_to hw20
                  clear hw20
                  go_wp2_with fail
                  go_meet
                  exact ⟨rfl, b20⟩
              case rest =>
              obtain ⟨rfl, b20⟩ := hcut
              have z20 := z19.on b20
              have f20 := rd_on f19 b20
              have g20 := rd_on g19 b20
              have B20 := B19.on b20
              have D20 := D19.on b20
              have F20 := F19.on b20
              clear z19 f19 g19 B19 D19 F19 t19 st19 hael' IX2 b20
              go_upto_region 27 with fail
              go_cut [26, 27] from 152 (fun s26 s27 wx => ∃ k26 k27 : Nat, s26 = .pointer (some ⟨k26, 0, none⟩) ∧ s27 = .pointer (some ⟨k27, 0, none⟩) ∧ rd wx ⟨k26, 0, none⟩ = some x ∧ rd wx ⟨k27, 0, none⟩ = some y ∧ Below wc.heap.size wc wx)
              case first =>
                refine wp_region_noPanic ?_
                refine wp_region_held_drew (S := fun W => Below wc.heap.size wc W) (by kernel_rfl) (Below.refl _ _).drew (fun _ => ?_)
                obtain ⟨wd, hwd⟩ : ∃ wd, wc.drew = wd := ⟨_, rfl⟩
                have sd : Below wc.heap.size wc wd := by rw [← hwd]; exact (Below.refl _ _).drew
                rw [hwd]
                clear hwd
                refine takeS 0 (some 152) ?vr0 (by kernel_rfl) (by kernel_rfl) (by kernel_rfl) (by kernel_rfl) (fun _ _ _ h => h) (by rfl) ?hyr0 sd ?restr0
                case hyr0 => (intro o ho W hW; simp only [List.getElem?_toArray, List.getElem?_cons_succ, List.getElem?_cons_zero, Option.some.injEq] at ho; subst ho; (try dsimp only at hW); obtain ⟨⟨y0, y1, y2⟩, -⟩ := blk3 (B20.on hW); go_simp; try rfl)
                try simp only [Act.put, List.setIfInBounds_toArray, List.set_cons_zero, List.set_cons_succ]
                refine takeS 2 (some 154) ?vr2 (by kernel_rfl) (by kernel_rfl) (by kernel_rfl) (by kernel_rfl) (fun _ _ _ h => h) (by rfl) ?hyr2 sd ?restr2
                case hyr2 => (intro o ho W hW; simp only [List.getElem?_toArray, List.getElem?_cons_succ, List.getElem?_cons_zero, Option.some.injEq] at ho; subst ho; (try dsimp only at hW); obtain ⟨⟨y0, y1, y2⟩, -⟩ := blk3 (D20.on hW); go_simp; try rfl)
                try simp only [Act.put, List.setIfInBounds_toArray, List.set_cons_zero, List.set_cons_succ]
                refine fork3 1 4 5 (by kernel_rfl) (by rfl) (by rfl) (by rfl) (fun o ho K hK => ?_) (fun o ho K hK => ?_) (fun o ho K hK => ?_)
                · simp only [List.getElem?_toArray, List.getElem?_cons_succ, List.getElem?_cons_zero, Option.some.injEq] at ho; subst ho
                  go_simp
                  (go_at_call 23; (with_reducible refine (CBp.out _).mono ?_); rintro e u1w ⟨rfl, b1⟩)
                  have s1 : Below wc.heap.size wc u1w := below_on sd sd.size b1
                  refine hK.out _ _ s1 (fun _ => ?_)
                  clear hK K
                  try simp only [Act.put, List.setIfInBounds_toArray, List.set_cons_zero, List.set_cons_succ]
                  refine fork3 3 4 5 (by kernel_rfl) (by rfl) (by rfl) (by rfl) (fun o ho K hK => ?_) (fun o ho K hK => ?_) (fun o ho K hK => ?_)
                  · simp only [List.getElem?_toArray, List.getElem?_cons_succ, List.getElem?_cons_zero, Option.some.injEq] at ho; subst ho
                    go_simp
                    (go_at_call 23; (with_reducible refine (CBq.out _).mono ?_); rintro e u2w ⟨rfl, b2⟩)
                    have s2 : Below wc.heap.size wc u2w := below_on s1 s1.size b2
                    refine hK.out _ _ s2 (fun _ => ?_)
                    clear hK K
                    try simp only [Act.put, List.setIfInBounds_toArray, List.set_cons_zero, List.set_cons_succ]
                    refine forkS 4 5 (by kernel_rfl) (by rfl) (by rfl) (fun o ho K hK => ?_) (fun o ho K hK => ?_)
                    · simp only [List.getElem?_toArray, List.getElem?_cons_succ, List.getElem?_cons_zero, Option.some.injEq] at ho; subst ho
                      go_simp
                      have s3 : Below wc.heap.size wc (u2w.alloc (.cells #[.int .u8 0, .int .u8 0, .int .u8 0, .int .u8 0, .int .u8 0, .int .u8 0, .int .u8 0, .int .u8 0, .int .u8 0, .int .u8 0] 39)) := s2.alloc s2.size _
                      have q3 : tn (u2w.alloc (.cells #[.int .u8 0, .int .u8 0, .int .u8 0, .int .u8 0, .int .u8 0, .int .u8 0, .int .u8 0, .int .u8 0, .int .u8 0, .int .u8 0] 39)) u2w.heap.size = true := tn_of (Blk.new u2w _ _) rfl
                      refine hK.out _ _ s3 (fun _ => ?_)
                      clear hK K
                      try simp only [Act.put, List.setIfInBounds_toArray, List.set_cons_zero, List.set_cons_succ]
                      obtain ⟨u3w, hu3w⟩ : ∃ V, u2w.alloc (.cells #[.int .u8 0, .int .u8 0, .int .u8 0, .int .u8 0, .int .u8 0, .int .u8 0, .int .u8 0, .int .u8 0, .int .u8 0, .int .u8 0] 39) = V := ⟨_, rfl⟩
                      rw [hu3w] at s3 q3
                      rw [hu3w]
                      clear hu3w
                      refine nextS 5 (by kernel_rfl) (by rfl) (fun o ho K hK => ?_)
                      simp only [List.getElem?_toArray, List.getElem?_cons_succ, List.getElem?_cons_zero, Option.some.injEq] at ho; subst ho
                      go_simp
                      have s4 : Below wc.heap.size wc (u3w.alloc (.cells #[.int .u8 0, .int .u8 0, .int .u8 0, .int .u8 0, .int .u8 0, .int .u8 0, .int .u8 0, .int .u8 0, .int .u8 0, .int .u8 0] 39)) := s3.alloc s3.size _
                      have q4 : tn (u3w.alloc (.cells #[.int .u8 0, .int .u8 0, .int .u8 0, .int .u8 0, .int .u8 0, .int .u8 0, .int .u8 0, .int .u8 0, .int .u8 0, .int .u8 0] 39)) u3w.heap.size = true := tn_of (Blk.new u3w _ _) rfl
                      have t4_4 := tn_on q3 (below_alloc_ u3w (.cells #[.int .u8 0, .int .u8 0, .int .u8 0, .int .u8 0, .int .u8 0, .int .u8 0, .int .u8 0, .int .u8 0, .int .u8 0, .int .u8 0] 39))
                      have ne : u2w.heap.size ≠ u3w.heap.size := Nat.ne_of_lt (tn_lt q3)
                      refine hK.out _ _ s4 (fun _ => ?_)
                      clear hK K
                      try simp only [Act.put, List.setIfInBounds_toArray, List.set_cons_zero, List.set_cons_succ]
                      obtain ⟨u4w, hu4w⟩ : ∃ V, u3w.alloc (.cells #[.int .u8 0, .int .u8 0, .int .u8 0, .int .u8 0, .int .u8 0, .int .u8 0, .int .u8 0, .int .u8 0, .int .u8 0, .int .u8 0] 39) = V := ⟨_, rfl⟩
                      rw [hu4w] at s4 q4 t4_4
                      rw [hu4w]
                      clear hu4w
                      have t6 := tn_setRow u4w (u3w.heap.size) (u2w.heap.size) x q4
                      refine nextS 6 (by kernel_rfl) (by rfl) (fun o ho K hK => ?_)
                      simp only [List.getElem?_toArray, List.getElem?_cons_succ, List.getElem?_cons_zero, Option.some.injEq] at ho; subst ho
                      go_simp
                      have s6 : Below wc.heap.size wc (u4w.setRow (u2w.heap.size) (nc x)) := below_setRow s4 s2.size _
                      refine hK.out _ _ s6 (fun _ => ?_)
                      clear hK K
                      try simp only [Act.put, List.setIfInBounds_toArray, List.set_cons_zero, List.set_cons_succ]
                      refine nextS 7 (by kernel_rfl) (by rfl) (fun o ho K hK => ?_)
                      simp only [List.getElem?_toArray, List.getElem?_cons_succ, List.getElem?_cons_zero, Option.some.injEq] at ho; subst ho
                      go_simp
                      have s7 : Below wc.heap.size wc ((u4w.setRow (u2w.heap.size) (nc x)).setRow (u3w.heap.size) (nc y)) := below_setRow s6 s3.size _
                      refine hK.out _ _ s7 (fun _ => ?_)
                      clear hK K
                      try simp only [Act.put, List.setIfInBounds_toArray, List.set_cons_zero, List.set_cons_succ]
                      refine wpAnyH_done (by kernel_rfl) ?_ _
                      refine NoPanic.normal ?_
                      have RB := rd_set (u4w.setRow (u2w.heap.size) (nc x)) (u3w.heap.size) y t6
                      have RA : rd ((u4w.setRow (u2w.heap.size) (nc x)).setRow (u3w.heap.size) (nc y)) ⟨u2w.heap.size, 0, none⟩ = some x := by rw [rd_far _ _ _ _ ne]; exact rd_set _ _ _ t4_4
                      go_wp2_with fail
                      go_meet
                      exact ⟨_, _, rfl, rfl, RA, RB, s7⟩
                    · simp only [List.getElem?_toArray, List.getElem?_cons_succ, List.getElem?_cons_zero, Option.some.injEq] at ho; subst ho
                      go_simp
                      have s5 : Below wc.heap.size wc (u2w.alloc (.cells #[.int .u8 0, .int .u8 0, .int .u8 0, .int .u8 0, .int .u8 0, .int .u8 0, .int .u8 0, .int .u8 0, .int .u8 0, .int .u8 0] 39)) := s2.alloc s2.size _
                      have q5 : tn (u2w.alloc (.cells #[.int .u8 0, .int .u8 0, .int .u8 0, .int .u8 0, .int .u8 0, .int .u8 0, .int .u8 0, .int .u8 0, .int .u8 0, .int .u8 0] 39)) u2w.heap.size = true := tn_of (Blk.new u2w _ _) rfl
                      refine hK.out _ _ s5 (fun _ => ?_)
                      clear hK K
                      try simp only [Act.put, List.setIfInBounds_toArray, List.set_cons_zero, List.set_cons_succ]
                      obtain ⟨u5w, hu5w⟩ : ∃ V, u2w.alloc (.cells #[.int .u8 0, .int .u8 0, .int .u8 0, .int .u8 0, .int .u8 0, .int .u8 0, .int .u8 0, .int .u8 0, .int .u8 0, .int .u8 0] 39) = V := ⟨_, rfl⟩
                      rw [hu5w] at s5 q5
                      rw [hu5w]
                      clear hu5w
                      refine nextS 4 (by kernel_rfl) (by rfl) (fun o ho K hK => ?_)
                      simp only [List.getElem?_toArray, List.getElem?_cons_succ, List.getElem?_cons_zero, Option.some.injEq] at ho; subst ho
                      go_simp
                      have s6 : Below wc.heap.size wc (u5w.alloc (.cells #[.int .u8 0, .int .u8 0, .int .u8 0, .int .u8 0, .int .u8 0, .int .u8 0, .int .u8 0, .int .u8 0, .int .u8 0, .int .u8 0] 39)) := s5.alloc s5.size _
                      have q6 : tn (u5w.alloc (.cells #[.int .u8 0, .int .u8 0, .int .u8 0, .int .u8 0, .int .u8 0, .int .u8 0, .int .u8 0, .int .u8 0, .int .u8 0, .int .u8 0] 39)) u5w.heap.size = true := tn_of (Blk.new u5w _ _) rfl
                      have t5_6 := tn_on q5 (below_alloc_ u5w (.cells #[.int .u8 0, .int .u8 0, .int .u8 0, .int .u8 0, .int .u8 0, .int .u8 0, .int .u8 0, .int .u8 0, .int .u8 0, .int .u8 0] 39))
                      have ne : u5w.heap.size ≠ u2w.heap.size := Nat.ne_of_gt (tn_lt q5)
                      refine hK.out _ _ s6 (fun _ => ?_)
                      clear hK K
                      try simp only [Act.put, List.setIfInBounds_toArray, List.set_cons_zero, List.set_cons_succ]
                      obtain ⟨u6w, hu6w⟩ : ∃ V, u5w.alloc (.cells #[.int .u8 0, .int .u8 0, .int .u8 0, .int .u8 0, .int .u8 0, .int .u8 0, .int .u8 0, .int .u8 0, .int .u8 0, .int .u8 0] 39) = V := ⟨_, rfl⟩
                      rw [hu6w] at s6 q6 t5_6
                      rw [hu6w]
                      clear hu6w
                      have t6 := tn_setRow u6w (u2w.heap.size) (u5w.heap.size) x t5_6
                      refine nextS 6 (by kernel_rfl) (by rfl) (fun o ho K hK => ?_)
                      simp only [List.getElem?_toArray, List.getElem?_cons_succ, List.getElem?_cons_zero, Option.some.injEq] at ho; subst ho
                      go_simp
                      have s6 : Below wc.heap.size wc (u6w.setRow (u5w.heap.size) (nc x)) := below_setRow s6 s5.size _
                      refine hK.out _ _ s6 (fun _ => ?_)
                      clear hK K
                      try simp only [Act.put, List.setIfInBounds_toArray, List.set_cons_zero, List.set_cons_succ]
                      refine nextS 7 (by kernel_rfl) (by rfl) (fun o ho K hK => ?_)
                      simp only [List.getElem?_toArray, List.getElem?_cons_succ, List.getElem?_cons_zero, Option.some.injEq] at ho; subst ho
                      go_simp
                      have s7 : Below wc.heap.size wc ((u6w.setRow (u5w.heap.size) (nc x)).setRow (u2w.heap.size) (nc y)) := below_setRow s6 s2.size _
                      refine hK.out _ _ s7 (fun _ => ?_)
                      clear hK K
                      try simp only [Act.put, List.setIfInBounds_toArray, List.set_cons_zero, List.set_cons_succ]
                      refine wpAnyH_done (by kernel_rfl) ?_ _
                      refine NoPanic.normal ?_
                      have RB := rd_set (u6w.setRow (u5w.heap.size) (nc x)) (u2w.heap.size) y t6
                      have RA : rd ((u6w.setRow (u5w.heap.size) (nc x)).setRow (u2w.heap.size) (nc y)) ⟨u5w.heap.size, 0, none⟩ = some x := by rw [rd_far _ _ _ _ ne]; exact rd_set _ _ _ q6
                      go_wp2_with fail
                      go_meet
                      exact ⟨_, _, rfl, rfl, RA, RB, s7⟩
                  · simp only [List.getElem?_toArray, List.getElem?_cons_succ, List.getElem?_cons_zero, Option.some.injEq] at ho; subst ho
                    go_simp
                    have s7 : Below wc.heap.size wc (u1w.alloc (.cells #[.int .u8 0, .int .u8 0, .int .u8 0, .int .u8 0, .int .u8 0, .int .u8 0, .int .u8 0, .int .u8 0, .int .u8 0, .int .u8 0] 39)) := s1.alloc s1.size _
                    have q7 : tn (u1w.alloc (.cells #[.int .u8 0, .int .u8 0, .int .u8 0, .int .u8 0, .int .u8 0, .int .u8 0, .int .u8 0, .int .u8 0, .int .u8 0, .int .u8 0] 39)) u1w.heap.size = true := tn_of (Blk.new u1w _ _) rfl
                    refine hK.out _ _ s7 (fun _ => ?_)
                    clear hK K
                    try simp only [Act.put, List.setIfInBounds_toArray, List.set_cons_zero, List.set_cons_succ]
                    obtain ⟨u7w, hu7w⟩ : ∃ V, u1w.alloc (.cells #[.int .u8 0, .int .u8 0, .int .u8 0, .int .u8 0, .int .u8 0, .int .u8 0, .int .u8 0, .int .u8 0, .int .u8 0, .int .u8 0] 39) = V := ⟨_, rfl⟩
                    rw [hu7w] at s7 q7
                    rw [hu7w]
                    clear hu7w
                    refine forkS 3 5 (by kernel_rfl) (by rfl) (by rfl) (fun o ho K hK => ?_) (fun o ho K hK => ?_)
                    · simp only [List.getElem?_toArray, List.getElem?_cons_succ, List.getElem?_cons_zero, Option.some.injEq] at ho; subst ho
                      go_simp
                      (go_at_call 23; (with_reducible refine (CBq.out _).mono ?_); rintro e u8w ⟨rfl, b8⟩)
                      have s8 : Below wc.heap.size wc u8w := below_on s7 s7.size b8
                      have t4_8 := tn_on q7 b8
                      refine hK.out _ _ s8 (fun _ => ?_)
                      clear hK K
                      try simp only [Act.put, List.setIfInBounds_toArray, List.set_cons_zero, List.set_cons_succ]
                      refine nextS 5 (by kernel_rfl) (by rfl) (fun o ho K hK => ?_)
                      simp only [List.getElem?_toArray, List.getElem?_cons_succ, List.getElem?_cons_zero, Option.some.injEq] at ho; subst ho
                      go_simp
                      have s9 : Below wc.heap.size wc (u8w.alloc (.cells #[.int .u8 0, .int .u8 0, .int .u8 0, .int .u8 0, .int .u8 0, .int .u8 0, .int .u8 0, .int .u8 0, .int .u8 0, .int .u8 0] 39)) := s8.alloc s8.size _
                      have q9 : tn (u8w.alloc (.cells #[.int .u8 0, .int .u8 0, .int .u8 0, .int .u8 0, .int .u8 0, .int .u8 0, .int .u8 0, .int .u8 0, .int .u8 0, .int .u8 0] 39)) u8w.heap.size = true := tn_of (Blk.new u8w _ _) rfl
                      have t4_9 := tn_on t4_8 (below_alloc_ u8w (.cells #[.int .u8 0, .int .u8 0, .int .u8 0, .int .u8 0, .int .u8 0, .int .u8 0, .int .u8 0, .int .u8 0, .int .u8 0, .int .u8 0] 39))
                      have ne : u1w.heap.size ≠ u8w.heap.size := Nat.ne_of_lt (tn_lt t4_8)
                      refine hK.out _ _ s9 (fun _ => ?_)
                      clear hK K
                      try simp only [Act.put, List.setIfInBounds_toArray, List.set_cons_zero, List.set_cons_succ]
                      obtain ⟨u9w, hu9w⟩ : ∃ V, u8w.alloc (.cells #[.int .u8 0, .int .u8 0, .int .u8 0, .int .u8 0, .int .u8 0, .int .u8 0, .int .u8 0, .int .u8 0, .int .u8 0, .int .u8 0] 39) = V := ⟨_, rfl⟩
                      rw [hu9w] at s9 q9 t4_9
                      rw [hu9w]
                      clear hu9w
                      have t6 := tn_setRow u9w (u8w.heap.size) (u1w.heap.size) x q9
                      refine nextS 6 (by kernel_rfl) (by rfl) (fun o ho K hK => ?_)
                      simp only [List.getElem?_toArray, List.getElem?_cons_succ, List.getElem?_cons_zero, Option.some.injEq] at ho; subst ho
                      go_simp
                      have s6 : Below wc.heap.size wc (u9w.setRow (u1w.heap.size) (nc x)) := below_setRow s9 s1.size _
                      refine hK.out _ _ s6 (fun _ => ?_)
                      clear hK K
                      try simp only [Act.put, List.setIfInBounds_toArray, List.set_cons_zero, List.set_cons_succ]
                      refine nextS 7 (by kernel_rfl) (by rfl) (fun o ho K hK => ?_)
                      simp only [List.getElem?_toArray, List.getElem?_cons_succ, List.getElem?_cons_zero, Option.some.injEq] at ho; subst ho
                      go_simp
                      have s7 : Below wc.heap.size wc ((u9w.setRow (u1w.heap.size) (nc x)).setRow (u8w.heap.size) (nc y)) := below_setRow s6 s8.size _
                      refine hK.out _ _ s7 (fun _ => ?_)
                      clear hK K
                      try simp only [Act.put, List.setIfInBounds_toArray, List.set_cons_zero, List.set_cons_succ]
                      refine wpAnyH_done (by kernel_rfl) ?_ _
                      refine NoPanic.normal ?_
                      have RB := rd_set (u9w.setRow (u1w.heap.size) (nc x)) (u8w.heap.size) y t6
                      have RA : rd ((u9w.setRow (u1w.heap.size) (nc x)).setRow (u8w.heap.size) (nc y)) ⟨u1w.heap.size, 0, none⟩ = some x := by rw [rd_far _ _ _ _ ne]; exact rd_set _ _ _ t4_9
                      go_wp2_with fail
                      go_meet
                      exact ⟨_, _, rfl, rfl, RA, RB, s7⟩
                    · simp only [List.getElem?_toArray, List.getElem?_cons_succ, List.getElem?_cons_zero, Option.some.injEq] at ho; subst ho
                      go_simp
                      have s10 : Below wc.heap.size wc (u7w.alloc (.cells #[.int .u8 0, .int .u8 0, .int .u8 0, .int .u8 0, .int .u8 0, .int .u8 0, .int .u8 0, .int .u8 0, .int .u8 0, .int .u8 0] 39)) := s7.alloc s7.size _
                      have q10 : tn (u7w.alloc (.cells #[.int .u8 0, .int .u8 0, .int .u8 0, .int .u8 0, .int .u8 0, .int .u8 0, .int .u8 0, .int .u8 0, .int .u8 0, .int .u8 0] 39)) u7w.heap.size = true := tn_of (Blk.new u7w _ _) rfl
                      have t4_10 := tn_on q7 (below_alloc_ u7w (.cells #[.int .u8 0, .int .u8 0, .int .u8 0, .int .u8 0, .int .u8 0, .int .u8 0, .int .u8 0, .int .u8 0, .int .u8 0, .int .u8 0] 39))
                      have ne : u1w.heap.size ≠ u7w.heap.size := Nat.ne_of_lt (tn_lt q7)
                      refine hK.out _ _ s10 (fun _ => ?_)
                      clear hK K
                      try simp only [Act.put, List.setIfInBounds_toArray, List.set_cons_zero, List.set_cons_succ]
                      obtain ⟨u10w, hu10w⟩ : ∃ V, u7w.alloc (.cells #[.int .u8 0, .int .u8 0, .int .u8 0, .int .u8 0, .int .u8 0, .int .u8 0, .int .u8 0, .int .u8 0, .int .u8 0, .int .u8 0] 39) = V := ⟨_, rfl⟩
                      rw [hu10w] at s10 q10 t4_10
                      rw [hu10w]
                      clear hu10w
                      refine nextS 3 (by kernel_rfl) (by rfl) (fun o ho K hK => ?_)
                      simp only [List.getElem?_toArray, List.getElem?_cons_succ, List.getElem?_cons_zero, Option.some.injEq] at ho; subst ho
                      go_simp
                      (go_at_call 23; (with_reducible refine (CBq.out _).mono ?_); rintro e u11w ⟨rfl, b11⟩)
                      have s11 : Below wc.heap.size wc u11w := below_on s10 s10.size b11
                      have t4_11 := tn_on t4_10 b11
                      have t5_11 := tn_on q10 b11
                      refine hK.out _ _ s11 (fun _ => ?_)
                      clear hK K
                      try simp only [Act.put, List.setIfInBounds_toArray, List.set_cons_zero, List.set_cons_succ]
                      have t6 := tn_setRow u11w (u7w.heap.size) (u1w.heap.size) x t5_11
                      refine nextS 6 (by kernel_rfl) (by rfl) (fun o ho K hK => ?_)
                      simp only [List.getElem?_toArray, List.getElem?_cons_succ, List.getElem?_cons_zero, Option.some.injEq] at ho; subst ho
                      go_simp
                      have s6 : Below wc.heap.size wc (u11w.setRow (u1w.heap.size) (nc x)) := below_setRow s11 s1.size _
                      refine hK.out _ _ s6 (fun _ => ?_)
                      clear hK K
                      try simp only [Act.put, List.setIfInBounds_toArray, List.set_cons_zero, List.set_cons_succ]
                      refine nextS 7 (by kernel_rfl) (by rfl) (fun o ho K hK => ?_)
                      simp only [List.getElem?_toArray, List.getElem?_cons_succ, List.getElem?_cons_zero, Option.some.injEq] at ho; subst ho
                      go_simp
                      have s7 : Below wc.heap.size wc ((u11w.setRow (u1w.heap.size) (nc x)).setRow (u7w.heap.size) (nc y)) := below_setRow s6 s7.size _
                      refine hK.out _ _ s7 (fun _ => ?_)
                      clear hK K
                      try simp only [Act.put, List.setIfInBounds_toArray, List.set_cons_zero, List.set_cons_succ]
                      refine wpAnyH_done (by kernel_rfl) ?_ _
                      refine NoPanic.normal ?_
                      have RB := rd_set (u11w.setRow (u1w.heap.size) (nc x)) (u7w.heap.size) y t6
                      have RA : rd ((u11w.setRow (u1w.heap.size) (nc x)).setRow (u7w.heap.size) (nc y)) ⟨u1w.heap.size, 0, none⟩ = some x := by rw [rd_far _ _ _ _ ne]; exact rd_set _ _ _ t4_11
                      go_wp2_with fail
                      go_meet
                      exact ⟨_, _, rfl, rfl, RA, RB, s7⟩
                  · simp only [List.getElem?_toArray, List.getElem?_cons_succ, List.getElem?_cons_zero, Option.some.injEq] at ho; subst ho
                    go_simp
                    have s12 : Below wc.heap.size wc (u1w.alloc (.cells #[.int .u8 0, .int .u8 0, .int .u8 0, .int .u8 0, .int .u8 0, .int .u8 0, .int .u8 0, .int .u8 0, .int .u8 0, .int .u8 0] 39)) := s1.alloc s1.size _
                    have q12 : tn (u1w.alloc (.cells #[.int .u8 0, .int .u8 0, .int .u8 0, .int .u8 0, .int .u8 0, .int .u8 0, .int .u8 0, .int .u8 0, .int .u8 0, .int .u8 0] 39)) u1w.heap.size = true := tn_of (Blk.new u1w _ _) rfl
                    refine hK.out _ _ s12 (fun _ => ?_)
                    clear hK K
                    try simp only [Act.put, List.setIfInBounds_toArray, List.set_cons_zero, List.set_cons_succ]
                    obtain ⟨u12w, hu12w⟩ : ∃ V, u1w.alloc (.cells #[.int .u8 0, .int .u8 0, .int .u8 0, .int .u8 0, .int .u8 0, .int .u8 0, .int .u8 0, .int .u8 0, .int .u8 0, .int .u8 0] 39) = V := ⟨_, rfl⟩
                    rw [hu12w] at s12 q12
                    rw [hu12w]
                    clear hu12w
                    refine forkS 3 4 (by kernel_rfl) (by rfl) (by rfl) (fun o ho K hK => ?_) (fun o ho K hK => ?_)
                    · simp only [List.getElem?_toArray, List.getElem?_cons_succ, List.getElem?_cons_zero, Option.some.injEq] at ho; subst ho
                      go_simp
                      (go_at_call 23; (with_reducible refine (CBq.out _).mono ?_); rintro e u13w ⟨rfl, b13⟩)
                      have s13 : Below wc.heap.size wc u13w := below_on s12 s12.size b13
                      have t5_13 := tn_on q12 b13
                      refine hK.out _ _ s13 (fun _ => ?_)
                      clear hK K
                      try simp only [Act.put, List.setIfInBounds_toArray, List.set_cons_zero, List.set_cons_succ]
                      refine nextS 4 (by kernel_rfl) (by rfl) (fun o ho K hK => ?_)
                      simp only [List.getElem?_toArray, List.getElem?_cons_succ, List.getElem?_cons_zero, Option.some.injEq] at ho; subst ho
                      go_simp
                      have s14 : Below wc.heap.size wc (u13w.alloc (.cells #[.int .u8 0, .int .u8 0, .int .u8 0, .int .u8 0, .int .u8 0, .int .u8 0, .int .u8 0, .int .u8 0, .int .u8 0, .int .u8 0] 39)) := s13.alloc s13.size _
                      have q14 : tn (u13w.alloc (.cells #[.int .u8 0, .int .u8 0, .int .u8 0, .int .u8 0, .int .u8 0, .int .u8 0, .int .u8 0, .int .u8 0, .int .u8 0, .int .u8 0] 39)) u13w.heap.size = true := tn_of (Blk.new u13w _ _) rfl
                      have t5_14 := tn_on t5_13 (below_alloc_ u13w (.cells #[.int .u8 0, .int .u8 0, .int .u8 0, .int .u8 0, .int .u8 0, .int .u8 0, .int .u8 0, .int .u8 0, .int .u8 0, .int .u8 0] 39))
                      have ne : u13w.heap.size ≠ u1w.heap.size := Nat.ne_of_gt (tn_lt t5_13)
                      refine hK.out _ _ s14 (fun _ => ?_)
                      clear hK K
                      try simp only [Act.put, List.setIfInBounds_toArray, List.set_cons_zero, List.set_cons_succ]
                      obtain ⟨u14w, hu14w⟩ : ∃ V, u13w.alloc (.cells #[.int .u8 0, .int .u8 0, .int .u8 0, .int .u8 0, .int .u8 0, .int .u8 0, .int .u8 0, .int .u8 0, .int .u8 0, .int .u8 0] 39) = V := ⟨_, rfl⟩
                      rw [hu14w] at s14 q14 t5_14
                      rw [hu14w]
                      clear hu14w
                      have t6 := tn_setRow u14w (u1w.heap.size) (u13w.heap.size) x t5_14
                      refine nextS 6 (by kernel_rfl) (by rfl) (fun o ho K hK => ?_)
                      simp only [List.getElem?_toArray, List.getElem?_cons_succ, List.getElem?_cons_zero, Option.some.injEq] at ho; subst ho
                      go_simp
                      have s6 : Below wc.heap.size wc (u14w.setRow (u13w.heap.size) (nc x)) := below_setRow s14 s13.size _
                      refine hK.out _ _ s6 (fun _ => ?_)
                      clear hK K
                      try simp only [Act.put, List.setIfInBounds_toArray, List.set_cons_zero, List.set_cons_succ]
                      refine nextS 7 (by kernel_rfl) (by rfl) (fun o ho K hK => ?_)
                      simp only [List.getElem?_toArray, List.getElem?_cons_succ, List.getElem?_cons_zero, Option.some.injEq] at ho; subst ho
                      go_simp
                      have s7 : Below wc.heap.size wc ((u14w.setRow (u13w.heap.size) (nc x)).setRow (u1w.heap.size) (nc y)) := below_setRow s6 s1.size _
                      refine hK.out _ _ s7 (fun _ => ?_)
                      clear hK K
                      try simp only [Act.put, List.setIfInBounds_toArray, List.set_cons_zero, List.set_cons_succ]
                      refine wpAnyH_done (by kernel_rfl) ?_ _
                      refine NoPanic.normal ?_
                      have RB := rd_set (u14w.setRow (u13w.heap.size) (nc x)) (u1w.heap.size) y t6
                      have RA : rd ((u14w.setRow (u13w.heap.size) (nc x)).setRow (u1w.heap.size) (nc y)) ⟨u13w.heap.size, 0, none⟩ = some x := by rw [rd_far _ _ _ _ ne]; exact rd_set _ _ _ q14
                      go_wp2_with fail
                      go_meet
                      exact ⟨_, _, rfl, rfl, RA, RB, s7⟩
                    · simp only [List.getElem?_toArray, List.getElem?_cons_succ, List.getElem?_cons_zero, Option.some.injEq] at ho; subst ho
                      go_simp
                      have s15 : Below wc.heap.size wc (u12w.alloc (.cells #[.int .u8 0, .int .u8 0, .int .u8 0, .int .u8 0, .int .u8 0, .int .u8 0, .int .u8 0, .int .u8 0, .int .u8 0, .int .u8 0] 39)) := s12.alloc s12.size _
                      have q15 : tn (u12w.alloc (.cells #[.int .u8 0, .int .u8 0, .int .u8 0, .int .u8 0, .int .u8 0, .int .u8 0, .int .u8 0, .int .u8 0, .int .u8 0, .int .u8 0] 39)) u12w.heap.size = true := tn_of (Blk.new u12w _ _) rfl
                      have t5_15 := tn_on q12 (below_alloc_ u12w (.cells #[.int .u8 0, .int .u8 0, .int .u8 0, .int .u8 0, .int .u8 0, .int .u8 0, .int .u8 0, .int .u8 0, .int .u8 0, .int .u8 0] 39))
                      have ne : u12w.heap.size ≠ u1w.heap.size := Nat.ne_of_gt (tn_lt q12)
                      refine hK.out _ _ s15 (fun _ => ?_)
                      clear hK K
                      try simp only [Act.put, List.setIfInBounds_toArray, List.set_cons_zero, List.set_cons_succ]
                      obtain ⟨u15w, hu15w⟩ : ∃ V, u12w.alloc (.cells #[.int .u8 0, .int .u8 0, .int .u8 0, .int .u8 0, .int .u8 0, .int .u8 0, .int .u8 0, .int .u8 0, .int .u8 0, .int .u8 0] 39) = V := ⟨_, rfl⟩
                      rw [hu15w] at s15 q15 t5_15
                      rw [hu15w]
                      clear hu15w
                      refine nextS 3 (by kernel_rfl) (by rfl) (fun o ho K hK => ?_)
                      simp only [List.getElem?_toArray, List.getElem?_cons_succ, List.getElem?_cons_zero, Option.some.injEq] at ho; subst ho
                      go_simp
                      (go_at_call 23; (with_reducible refine (CBq.out _).mono ?_); rintro e u16w ⟨rfl, b16⟩)
                      have s16 : Below wc.heap.size wc u16w := below_on s15 s15.size b16
                      have t4_16 := tn_on q15 b16
                      have t5_16 := tn_on t5_15 b16
                      refine hK.out _ _ s16 (fun _ => ?_)
                      clear hK K
                      try simp only [Act.put, List.setIfInBounds_toArray, List.set_cons_zero, List.set_cons_succ]
                      have t6 := tn_setRow u16w (u1w.heap.size) (u12w.heap.size) x t5_16
                      refine nextS 6 (by kernel_rfl) (by rfl) (fun o ho K hK => ?_)
                      simp only [List.getElem?_toArray, List.getElem?_cons_succ, List.getElem?_cons_zero, Option.some.injEq] at ho; subst ho
                      go_simp
                      have s6 : Below wc.heap.size wc (u16w.setRow (u12w.heap.size) (nc x)) := below_setRow s16 s12.size _
                      refine hK.out _ _ s6 (fun _ => ?_)
                      clear hK K
                      try simp only [Act.put, List.setIfInBounds_toArray, List.set_cons_zero, List.set_cons_succ]
                      refine nextS 7 (by kernel_rfl) (by rfl) (fun o ho K hK => ?_)
                      simp only [List.getElem?_toArray, List.getElem?_cons_succ, List.getElem?_cons_zero, Option.some.injEq] at ho; subst ho
                      go_simp
                      have s7 : Below wc.heap.size wc ((u16w.setRow (u12w.heap.size) (nc x)).setRow (u1w.heap.size) (nc y)) := below_setRow s6 s1.size _
                      refine hK.out _ _ s7 (fun _ => ?_)
                      clear hK K
                      try simp only [Act.put, List.setIfInBounds_toArray, List.set_cons_zero, List.set_cons_succ]
                      refine wpAnyH_done (by kernel_rfl) ?_ _
                      refine NoPanic.normal ?_
                      have RB := rd_set (u16w.setRow (u12w.heap.size) (nc x)) (u1w.heap.size) y t6
                      have RA : rd ((u16w.setRow (u12w.heap.size) (nc x)).setRow (u1w.heap.size) (nc y)) ⟨u12w.heap.size, 0, none⟩ = some x := by rw [rd_far _ _ _ _ ne]; exact rd_set _ _ _ t4_16
                      go_wp2_with fail
                      go_meet
                      exact ⟨_, _, rfl, rfl, RA, RB, s7⟩
                · simp only [List.getElem?_toArray, List.getElem?_cons_succ, List.getElem?_cons_zero, Option.some.injEq] at ho; subst ho
                  go_simp
                  have s17 : Below wc.heap.size wc (wd.alloc (.cells #[.int .u8 0, .int .u8 0, .int .u8 0, .int .u8 0, .int .u8 0, .int .u8 0, .int .u8 0, .int .u8 0, .int .u8 0, .int .u8 0] 39)) := sd.alloc sd.size _
                  have q17 : tn (wd.alloc (.cells #[.int .u8 0, .int .u8 0, .int .u8 0, .int .u8 0, .int .u8 0, .int .u8 0, .int .u8 0, .int .u8 0, .int .u8 0, .int .u8 0] 39)) wd.heap.size = true := tn_of (Blk.new wd _ _) rfl
                  refine hK.out _ _ s17 (fun _ => ?_)
                  clear hK K
                  try simp only [Act.put, List.setIfInBounds_toArray, List.set_cons_zero, List.set_cons_succ]
                  obtain ⟨u17w, hu17w⟩ : ∃ V, wd.alloc (.cells #[.int .u8 0, .int .u8 0, .int .u8 0, .int .u8 0, .int .u8 0, .int .u8 0, .int .u8 0, .int .u8 0, .int .u8 0, .int .u8 0] 39) = V := ⟨_, rfl⟩
                  rw [hu17w] at s17 q17
                  rw [hu17w]
                  clear hu17w
                  refine forkS 1 5 (by kernel_rfl) (by rfl) (by rfl) (fun o ho K hK => ?_) (fun o ho K hK => ?_)
                  · simp only [List.getElem?_toArray, List.getElem?_cons_succ, List.getElem?_cons_zero, Option.some.injEq] at ho; subst ho
                    go_simp
                    (go_at_call 23; (with_reducible refine (CBp.out _).mono ?_); rintro e u18w ⟨rfl, b18⟩)
                    have s18 : Below wc.heap.size wc u18w := below_on s17 s17.size b18
                    have t4_18 := tn_on q17 b18
                    refine hK.out _ _ s18 (fun _ => ?_)
                    clear hK K
                    try simp only [Act.put, List.setIfInBounds_toArray, List.set_cons_zero, List.set_cons_succ]
                    refine forkS 3 5 (by kernel_rfl) (by rfl) (by rfl) (fun o ho K hK => ?_) (fun o ho K hK => ?_)
                    · simp only [List.getElem?_toArray, List.getElem?_cons_succ, List.getElem?_cons_zero, Option.some.injEq] at ho; subst ho
                      go_simp
                      (go_at_call 23; (with_reducible refine (CBq.out _).mono ?_); rintro e u19w ⟨rfl, b19⟩)
                      have s19 : Below wc.heap.size wc u19w := below_on s18 s18.size b19
                      have t4_19 := tn_on t4_18 b19
                      refine hK.out _ _ s19 (fun _ => ?_)
                      clear hK K
                      try simp only [Act.put, List.setIfInBounds_toArray, List.set_cons_zero, List.set_cons_succ]
                      refine nextS 5 (by kernel_rfl) (by rfl) (fun o ho K hK => ?_)
                      simp only [List.getElem?_toArray, List.getElem?_cons_succ, List.getElem?_cons_zero, Option.some.injEq] at ho; subst ho
                      go_simp
                      have s20 : Below wc.heap.size wc (u19w.alloc (.cells #[.int .u8 0, .int .u8 0, .int .u8 0, .int .u8 0, .int .u8 0, .int .u8 0, .int .u8 0, .int .u8 0, .int .u8 0, .int .u8 0] 39)) := s19.alloc s19.size _
                      have q20 : tn (u19w.alloc (.cells #[.int .u8 0, .int .u8 0, .int .u8 0, .int .u8 0, .int .u8 0, .int .u8 0, .int .u8 0, .int .u8 0, .int .u8 0, .int .u8 0] 39)) u19w.heap.size = true := tn_of (Blk.new u19w _ _) rfl
                      have t4_20 := tn_on t4_19 (below_alloc_ u19w (.cells #[.int .u8 0, .int .u8 0, .int .u8 0, .int .u8 0, .int .u8 0, .int .u8 0, .int .u8 0, .int .u8 0, .int .u8 0, .int .u8 0] 39))
                      have ne : wd.heap.size ≠ u19w.heap.size := Nat.ne_of_lt (tn_lt t4_19)
                      refine hK.out _ _ s20 (fun _ => ?_)
                      clear hK K
                      try simp only [Act.put, List.setIfInBounds_toArray, List.set_cons_zero, List.set_cons_succ]
                      obtain ⟨u20w, hu20w⟩ : ∃ V, u19w.alloc (.cells #[.int .u8 0, .int .u8 0, .int .u8 0, .int .u8 0, .int .u8 0, .int .u8 0, .int .u8 0, .int .u8 0, .int .u8 0, .int .u8 0] 39) = V := ⟨_, rfl⟩
                      rw [hu20w] at s20 q20 t4_20
                      rw [hu20w]
                      clear hu20w
                      have t6 := tn_setRow u20w (u19w.heap.size) (wd.heap.size) x q20
                      refine nextS 6 (by kernel_rfl) (by rfl) (fun o ho K hK => ?_)
                      simp only [List.getElem?_toArray, List.getElem?_cons_succ, List.getElem?_cons_zero, Option.some.injEq] at ho; subst ho
                      go_simp
                      have s6 : Below wc.heap.size wc (u20w.setRow (wd.heap.size) (nc x)) := below_setRow s20 sd.size _
                      refine hK.out _ _ s6 (fun _ => ?_)
                      clear hK K
                      try simp only [Act.put, List.setIfInBounds_toArray, List.set_cons_zero, List.set_cons_succ]
                      refine nextS 7 (by kernel_rfl) (by rfl) (fun o ho K hK => ?_)
                      simp only [List.getElem?_toArray, List.getElem?_cons_succ, List.getElem?_cons_zero, Option.some.injEq] at ho; subst ho
                      go_simp
                      have s7 : Below wc.heap.size wc ((u20w.setRow (wd.heap.size) (nc x)).setRow (u19w.heap.size) (nc y)) := below_setRow s6 s19.size _
                      refine hK.out _ _ s7 (fun _ => ?_)
                      clear hK K
                      try simp only [Act.put, List.setIfInBounds_toArray, List.set_cons_zero, List.set_cons_succ]
                      refine wpAnyH_done (by kernel_rfl) ?_ _
                      refine NoPanic.normal ?_
                      have RB := rd_set (u20w.setRow (wd.heap.size) (nc x)) (u19w.heap.size) y t6
                      have RA : rd ((u20w.setRow (wd.heap.size) (nc x)).setRow (u19w.heap.size) (nc y)) ⟨wd.heap.size, 0, none⟩ = some x := by rw [rd_far _ _ _ _ ne]; exact rd_set _ _ _ t4_20
                      go_wp2_with fail
                      go_meet
                      exact ⟨_, _, rfl, rfl, RA, RB, s7⟩
                    · simp only [List.getElem?_toArray, List.getElem?_cons_succ, List.getElem?_cons_zero, Option.some.injEq] at ho; subst ho
                      go_simp
                      have s21 : Below wc.heap.size wc (u18w.alloc (.cells #[.int .u8 0, .int .u8 0, .int .u8 0, .int .u8 0, .int .u8 0, .int .u8 0, .int .u8 0, .int .u8 0, .int .u8 0, .int .u8 0] 39)) := s18.alloc s18.size _
                      have q21 : tn (u18w.alloc (.cells #[.int .u8 0, .int .u8 0, .int .u8 0, .int .u8 0, .int .u8 0, .int .u8 0, .int .u8 0, .int .u8 0, .int .u8 0, .int .u8 0] 39)) u18w.heap.size = true := tn_of (Blk.new u18w _ _) rfl
                      have t4_21 := tn_on t4_18 (below_alloc_ u18w (.cells #[.int .u8 0, .int .u8 0, .int .u8 0, .int .u8 0, .int .u8 0, .int .u8 0, .int .u8 0, .int .u8 0, .int .u8 0, .int .u8 0] 39))
                      have ne : wd.heap.size ≠ u18w.heap.size := Nat.ne_of_lt (tn_lt t4_18)
                      refine hK.out _ _ s21 (fun _ => ?_)
                      clear hK K
                      try simp only [Act.put, List.setIfInBounds_toArray, List.set_cons_zero, List.set_cons_succ]
                      obtain ⟨u21w, hu21w⟩ : ∃ V, u18w.alloc (.cells #[.int .u8 0, .int .u8 0, .int .u8 0, .int .u8 0, .int .u8 0, .int .u8 0, .int .u8 0, .int .u8 0, .int .u8 0, .int .u8 0] 39) = V := ⟨_, rfl⟩
                      rw [hu21w] at s21 q21 t4_21
                      rw [hu21w]
                      clear hu21w
                      refine nextS 3 (by kernel_rfl) (by rfl) (fun o ho K hK => ?_)
                      simp only [List.getElem?_toArray, List.getElem?_cons_succ, List.getElem?_cons_zero, Option.some.injEq] at ho; subst ho
                      go_simp
                      (go_at_call 23; (with_reducible refine (CBq.out _).mono ?_); rintro e u22w ⟨rfl, b22⟩)
                      have s22 : Below wc.heap.size wc u22w := below_on s21 s21.size b22
                      have t4_22 := tn_on t4_21 b22
                      have t5_22 := tn_on q21 b22
                      refine hK.out _ _ s22 (fun _ => ?_)
                      clear hK K
                      try simp only [Act.put, List.setIfInBounds_toArray, List.set_cons_zero, List.set_cons_succ]
                      have t6 := tn_setRow u22w (u18w.heap.size) (wd.heap.size) x t5_22
                      refine nextS 6 (by kernel_rfl) (by rfl) (fun o ho K hK => ?_)
                      simp only [List.getElem?_toArray, List.getElem?_cons_succ, List.getElem?_cons_zero, Option.some.injEq] at ho; subst ho
                      go_simp
                      have s6 : Below wc.heap.size wc (u22w.setRow (wd.heap.size) (nc x)) := below_setRow s22 sd.size _
                      refine hK.out _ _ s6 (fun _ => ?_)
                      clear hK K
                      try simp only [Act.put, List.setIfInBounds_toArray, List.set_cons_zero, List.set_cons_succ]
                      refine nextS 7 (by kernel_rfl) (by rfl) (fun o ho K hK => ?_)
                      simp only [List.getElem?_toArray, List.getElem?_cons_succ, List.getElem?_cons_zero, Option.some.injEq] at ho; subst ho
                      go_simp
                      have s7 : Below wc.heap.size wc ((u22w.setRow (wd.heap.size) (nc x)).setRow (u18w.heap.size) (nc y)) := below_setRow s6 s18.size _
                      refine hK.out _ _ s7 (fun _ => ?_)
                      clear hK K
                      try simp only [Act.put, List.setIfInBounds_toArray, List.set_cons_zero, List.set_cons_succ]
                      refine wpAnyH_done (by kernel_rfl) ?_ _
                      refine NoPanic.normal ?_
                      have RB := rd_set (u22w.setRow (wd.heap.size) (nc x)) (u18w.heap.size) y t6
                      have RA : rd ((u22w.setRow (wd.heap.size) (nc x)).setRow (u18w.heap.size) (nc y)) ⟨wd.heap.size, 0, none⟩ = some x := by rw [rd_far _ _ _ _ ne]; exact rd_set _ _ _ t4_22
                      go_wp2_with fail
                      go_meet
                      exact ⟨_, _, rfl, rfl, RA, RB, s7⟩
                  · simp only [List.getElem?_toArray, List.getElem?_cons_succ, List.getElem?_cons_zero, Option.some.injEq] at ho; subst ho
                    go_simp
                    have s23 : Below wc.heap.size wc (u17w.alloc (.cells #[.int .u8 0, .int .u8 0, .int .u8 0, .int .u8 0, .int .u8 0, .int .u8 0, .int .u8 0, .int .u8 0, .int .u8 0, .int .u8 0] 39)) := s17.alloc s17.size _
                    have q23 : tn (u17w.alloc (.cells #[.int .u8 0, .int .u8 0, .int .u8 0, .int .u8 0, .int .u8 0, .int .u8 0, .int .u8 0, .int .u8 0, .int .u8 0, .int .u8 0] 39)) u17w.heap.size = true := tn_of (Blk.new u17w _ _) rfl
                    have t4_23 := tn_on q17 (below_alloc_ u17w (.cells #[.int .u8 0, .int .u8 0, .int .u8 0, .int .u8 0, .int .u8 0, .int .u8 0, .int .u8 0, .int .u8 0, .int .u8 0, .int .u8 0] 39))
                    have ne : wd.heap.size ≠ u17w.heap.size := Nat.ne_of_lt (tn_lt q17)
                    refine hK.out _ _ s23 (fun _ => ?_)
                    clear hK K
                    try simp only [Act.put, List.setIfInBounds_toArray, List.set_cons_zero, List.set_cons_succ]
                    obtain ⟨u23w, hu23w⟩ : ∃ V, u17w.alloc (.cells #[.int .u8 0, .int .u8 0, .int .u8 0, .int .u8 0, .int .u8 0, .int .u8 0, .int .u8 0, .int .u8 0, .int .u8 0, .int .u8 0] 39) = V := ⟨_, rfl⟩
                    rw [hu23w] at s23 q23 t4_23
                    rw [hu23w]
                    clear hu23w
                    refine nextS 1 (by kernel_rfl) (by rfl) (fun o ho K hK => ?_)
                    simp only [List.getElem?_toArray, List.getElem?_cons_succ, List.getElem?_cons_zero, Option.some.injEq] at ho; subst ho
                    go_simp
                    (go_at_call 23; (with_reducible refine (CBp.out _).mono ?_); rintro e u24w ⟨rfl, b24⟩)
                    have s24 : Below wc.heap.size wc u24w := below_on s23 s23.size b24
                    have t4_24 := tn_on t4_23 b24
                    have t5_24 := tn_on q23 b24
                    refine hK.out _ _ s24 (fun _ => ?_)
                    clear hK K
                    try simp only [Act.put, List.setIfInBounds_toArray, List.set_cons_zero, List.set_cons_succ]
                    refine nextS 3 (by kernel_rfl) (by rfl) (fun o ho K hK => ?_)
                    simp only [List.getElem?_toArray, List.getElem?_cons_succ, List.getElem?_cons_zero, Option.some.injEq] at ho; subst ho
                    go_simp
                    (go_at_call 23; (with_reducible refine (CBq.out _).mono ?_); rintro e u25w ⟨rfl, b25⟩)
                    have s25 : Below wc.heap.size wc u25w := below_on s24 s24.size b25
                    have t4_25 := tn_on t4_24 b25
                    have t5_25 := tn_on t5_24 b25
                    refine hK.out _ _ s25 (fun _ => ?_)
                    clear hK K
                    try simp only [Act.put, List.setIfInBounds_toArray, List.set_cons_zero, List.set_cons_succ]
                    have t6 := tn_setRow u25w (u17w.heap.size) (wd.heap.size) x t5_25
                    refine nextS 6 (by kernel_rfl) (by rfl) (fun o ho K hK => ?_)
                    simp only [List.getElem?_toArray, List.getElem?_cons_succ, List.getElem?_cons_zero, Option.some.injEq] at ho; subst ho
                    go_simp
                    have s6 : Below wc.heap.size wc (u25w.setRow (wd.heap.size) (nc x)) := below_setRow s25 sd.size _
                    refine hK.out _ _ s6 (fun _ => ?_)
                    clear hK K
                    try simp only [Act.put, List.setIfInBounds_toArray, List.set_cons_zero, List.set_cons_succ]
                    refine nextS 7 (by kernel_rfl) (by rfl) (fun o ho K hK => ?_)
                    simp only [List.getElem?_toArray, List.getElem?_cons_succ, List.getElem?_cons_zero, Option.some.injEq] at ho; subst ho
                    go_simp
                    have s7 : Below wc.heap.size wc ((u25w.setRow (wd.heap.size) (nc x)).setRow (u17w.heap.size) (nc y)) := below_setRow s6 s17.size _
                    refine hK.out _ _ s7 (fun _ => ?_)
                    clear hK K
                    try simp only [Act.put, List.setIfInBounds_toArray, List.set_cons_zero, List.set_cons_succ]
                    refine wpAnyH_done (by kernel_rfl) ?_ _
                    refine NoPanic.normal ?_
                    have RB := rd_set (u25w.setRow (wd.heap.size) (nc x)) (u17w.heap.size) y t6
                    have RA : rd ((u25w.setRow (wd.heap.size) (nc x)).setRow (u17w.heap.size) (nc y)) ⟨wd.heap.size, 0, none⟩ = some x := by rw [rd_far _ _ _ _ ne]; exact rd_set _ _ _ t4_25
                    go_wp2_with fail
                    go_meet
                    exact ⟨_, _, rfl, rfl, RA, RB, s7⟩
                · simp only [List.getElem?_toArray, List.getElem?_cons_succ, List.getElem?_cons_zero, Option.some.injEq] at ho; subst ho
                  go_simp
                  have s26 : Below wc.heap.size wc (wd.alloc (.cells #[.int .u8 0, .int .u8 0, .int .u8 0, .int .u8 0, .int .u8 0, .int .u8 0, .int .u8 0, .int .u8 0, .int .u8 0, .int .u8 0] 39)) := sd.alloc sd.size _
                  have q26 : tn (wd.alloc (.cells #[.int .u8 0, .int .u8 0, .int .u8 0, .int .u8 0, .int .u8 0, .int .u8 0, .int .u8 0, .int .u8 0, .int .u8 0, .int .u8 0] 39)) wd.heap.size = true := tn_of (Blk.new wd _ _) rfl
                  refine hK.out _ _ s26 (fun _ => ?_)
                  clear hK K
                  try simp only [Act.put, List.setIfInBounds_toArray, List.set_cons_zero, List.set_cons_succ]
                  obtain ⟨u26w, hu26w⟩ : ∃ V, wd.alloc (.cells #[.int .u8 0, .int .u8 0, .int .u8 0, .int .u8 0, .int .u8 0, .int .u8 0, .int .u8 0, .int .u8 0, .int .u8 0, .int .u8 0] 39) = V := ⟨_, rfl⟩
                  rw [hu26w] at s26 q26
                  rw [hu26w]
                  clear hu26w
                  refine forkS 1 4 (by kernel_rfl) (by rfl) (by rfl) (fun o ho K hK => ?_) (fun o ho K hK => ?_)
                  · simp only [List.getElem?_toArray, List.getElem?_cons_succ, List.getElem?_cons_zero, Option.some.injEq] at ho; subst ho
                    go_simp
                    (go_at_call 23; (with_reducible refine (CBp.out _).mono ?_); rintro e u27w ⟨rfl, b27⟩)
                    have s27 : Below wc.heap.size wc u27w := below_on s26 s26.size b27
                    have t5_27 := tn_on q26 b27
                    refine hK.out _ _ s27 (fun _ => ?_)
                    clear hK K
                    try simp only [Act.put, List.setIfInBounds_toArray, List.set_cons_zero, List.set_cons_succ]
                    refine forkS 3 4 (by kernel_rfl) (by rfl) (by rfl) (fun o ho K hK => ?_) (fun o ho K hK => ?_)
                    · simp only [List.getElem?_toArray, List.getElem?_cons_succ, List.getElem?_cons_zero, Option.some.injEq] at ho; subst ho
                      go_simp
                      (go_at_call 23; (with_reducible refine (CBq.out _).mono ?_); rintro e u28w ⟨rfl, b28⟩)
                      have s28 : Below wc.heap.size wc u28w := below_on s27 s27.size b28
                      have t5_28 := tn_on t5_27 b28
                      refine hK.out _ _ s28 (fun _ => ?_)
                      clear hK K
                      try simp only [Act.put, List.setIfInBounds_toArray, List.set_cons_zero, List.set_cons_succ]
                      refine nextS 4 (by kernel_rfl) (by rfl) (fun o ho K hK => ?_)
                      simp only [List.getElem?_toArray, List.getElem?_cons_succ, List.getElem?_cons_zero, Option.some.injEq] at ho; subst ho
                      go_simp
                      have s29 : Below wc.heap.size wc (u28w.alloc (.cells #[.int .u8 0, .int .u8 0, .int .u8 0, .int .u8 0, .int .u8 0, .int .u8 0, .int .u8 0, .int .u8 0, .int .u8 0, .int .u8 0] 39)) := s28.alloc s28.size _
                      have q29 : tn (u28w.alloc (.cells #[.int .u8 0, .int .u8 0, .int .u8 0, .int .u8 0, .int .u8 0, .int .u8 0, .int .u8 0, .int .u8 0, .int .u8 0, .int .u8 0] 39)) u28w.heap.size = true := tn_of (Blk.new u28w _ _) rfl
                      have t5_29 := tn_on t5_28 (below_alloc_ u28w (.cells #[.int .u8 0, .int .u8 0, .int .u8 0, .int .u8 0, .int .u8 0, .int .u8 0, .int .u8 0, .int .u8 0, .int .u8 0, .int .u8 0] 39))
                      have ne : u28w.heap.size ≠ wd.heap.size := Nat.ne_of_gt (tn_lt t5_28)
                      refine hK.out _ _ s29 (fun _ => ?_)
                      clear hK K
                      try simp only [Act.put, List.setIfInBounds_toArray, List.set_cons_zero, List.set_cons_succ]
                      obtain ⟨u29w, hu29w⟩ : ∃ V, u28w.alloc (.cells #[.int .u8 0, .int .u8 0, .int .u8 0, .int .u8 0, .int .u8 0, .int .u8 0, .int .u8 0, .int .u8 0, .int .u8 0, .int .u8 0] 39) = V := ⟨_, rfl⟩
                      rw [hu29w] at s29 q29 t5_29
                      rw [hu29w]
                      clear hu29w
                      have t6 := tn_setRow u29w (wd.heap.size) (u28w.heap.size) x t5_29
                      refine nextS 6 (by kernel_rfl) (by rfl) (fun o ho K hK => ?_)
                      simp only [List.getElem?_toArray, List.getElem?_cons_succ, List.getElem?_cons_zero, Option.some.injEq] at ho; subst ho
                      go_simp
                      have s6 : Below wc.heap.size wc (u29w.setRow (u28w.heap.size) (nc x)) := below_setRow s29 s28.size _
                      refine hK.out _ _ s6 (fun _ => ?_)
                      clear hK K
                      try simp only [Act.put, List.setIfInBounds_toArray, List.set_cons_zero, List.set_cons_succ]
                      refine nextS 7 (by kernel_rfl) (by rfl) (fun o ho K hK => ?_)
                      simp only [List.getElem?_toArray, List.getElem?_cons_succ, List.getElem?_cons_zero, Option.some.injEq] at ho; subst ho
                      go_simp
                      have s7 : Below wc.heap.size wc ((u29w.setRow (u28w.heap.size) (nc x)).setRow (wd.heap.size) (nc y)) := below_setRow s6 sd.size _
                      refine hK.out _ _ s7 (fun _ => ?_)
                      clear hK K
                      try simp only [Act.put, List.setIfInBounds_toArray, List.set_cons_zero, List.set_cons_succ]
                      refine wpAnyH_done (by kernel_rfl) ?_ _
                      refine NoPanic.normal ?_
                      have RB := rd_set (u29w.setRow (u28w.heap.size) (nc x)) (wd.heap.size) y t6
                      have RA : rd ((u29w.setRow (u28w.heap.size) (nc x)).setRow (wd.heap.size) (nc y)) ⟨u28w.heap.size, 0, none⟩ = some x := by rw [rd_far _ _ _ _ ne]; exact rd_set _ _ _ q29
                      go_wp2_with fail
                      go_meet
                      exact ⟨_, _, rfl, rfl, RA, RB, s7⟩
                    · simp only [List.getElem?_toArray, List.getElem?_cons_succ, List.getElem?_cons_zero, Option.some.injEq] at ho; subst ho
                      go_simp
                      have s30 : Below wc.heap.size wc (u27w.alloc (.cells #[.int .u8 0, .int .u8 0, .int .u8 0, .int .u8 0, .int .u8 0, .int .u8 0, .int .u8 0, .int .u8 0, .int .u8 0, .int .u8 0] 39)) := s27.alloc s27.size _
                      have q30 : tn (u27w.alloc (.cells #[.int .u8 0, .int .u8 0, .int .u8 0, .int .u8 0, .int .u8 0, .int .u8 0, .int .u8 0, .int .u8 0, .int .u8 0, .int .u8 0] 39)) u27w.heap.size = true := tn_of (Blk.new u27w _ _) rfl
                      have t5_30 := tn_on t5_27 (below_alloc_ u27w (.cells #[.int .u8 0, .int .u8 0, .int .u8 0, .int .u8 0, .int .u8 0, .int .u8 0, .int .u8 0, .int .u8 0, .int .u8 0, .int .u8 0] 39))
                      have ne : u27w.heap.size ≠ wd.heap.size := Nat.ne_of_gt (tn_lt t5_27)
                      refine hK.out _ _ s30 (fun _ => ?_)
                      clear hK K
                      try simp only [Act.put, List.setIfInBounds_toArray, List.set_cons_zero, List.set_cons_succ]
                      obtain ⟨u30w, hu30w⟩ : ∃ V, u27w.alloc (.cells #[.int .u8 0, .int .u8 0, .int .u8 0, .int .u8 0, .int .u8 0, .int .u8 0, .int .u8 0, .int .u8 0, .int .u8 0, .int .u8 0] 39) = V := ⟨_, rfl⟩
                      rw [hu30w] at s30 q30 t5_30
                      rw [hu30w]
                      clear hu30w
                      refine nextS 3 (by kernel_rfl) (by rfl) (fun o ho K hK => ?_)
                      simp only [List.getElem?_toArray, List.getElem?_cons_succ, List.getElem?_cons_zero, Option.some.injEq] at ho; subst ho
                      go_simp
                      (go_at_call 23; (with_reducible refine (CBq.out _).mono ?_); rintro e u31w ⟨rfl, b31⟩)
                      have s31 : Below wc.heap.size wc u31w := below_on s30 s30.size b31
                      have t4_31 := tn_on q30 b31
                      have t5_31 := tn_on t5_30 b31
                      refine hK.out _ _ s31 (fun _ => ?_)
                      clear hK K
                      try simp only [Act.put, List.setIfInBounds_toArray, List.set_cons_zero, List.set_cons_succ]
                      have t6 := tn_setRow u31w (wd.heap.size) (u27w.heap.size) x t5_31
                      refine nextS 6 (by kernel_rfl) (by rfl) (fun o ho K hK => ?_)
                      simp only [List.getElem?_toArray, List.getElem?_cons_succ, List.getElem?_cons_zero, Option.some.injEq] at ho; subst ho
                      go_simp
                      have s6 : Below wc.heap.size wc (u31w.setRow (u27w.heap.size) (nc x)) := below_setRow s31 s27.size _
                      refine hK.out _ _ s6 (fun _ => ?_)
                      clear hK K
                      try simp only [Act.put, List.setIfInBounds_toArray, List.set_cons_zero, List.set_cons_succ]
                      refine nextS 7 (by kernel_rfl) (by rfl) (fun o ho K hK => ?_)
                      simp only [List.getElem?_toArray, List.getElem?_cons_succ, List.getElem?_cons_zero, Option.some.injEq] at ho; subst ho
                      go_simp
                      have s7 : Below wc.heap.size wc ((u31w.setRow (u27w.heap.size) (nc x)).setRow (wd.heap.size) (nc y)) := below_setRow s6 sd.size _
                      refine hK.out _ _ s7 (fun _ => ?_)
                      clear hK K
                      try simp only [Act.put, List.setIfInBounds_toArray, List.set_cons_zero, List.set_cons_succ]
                      refine wpAnyH_done (by kernel_rfl) ?_ _
                      refine NoPanic.normal ?_
                      have RB := rd_set (u31w.setRow (u27w.heap.size) (nc x)) (wd.heap.size) y t6
                      have RA : rd ((u31w.setRow (u27w.heap.size) (nc x)).setRow (wd.heap.size) (nc y)) ⟨u27w.heap.size, 0, none⟩ = some x := by rw [rd_far _ _ _ _ ne]; exact rd_set _ _ _ t4_31
                      go_wp2_with fail
                      go_meet
                      exact ⟨_, _, rfl, rfl, RA, RB, s7⟩
                  · simp only [List.getElem?_toArray, List.getElem?_cons_succ, List.getElem?_cons_zero, Option.some.injEq] at ho; subst ho
                    go_simp
                    have s32 : Below wc.heap.size wc (u26w.alloc (.cells #[.int .u8 0, .int .u8 0, .int .u8 0, .int .u8 0, .int .u8 0, .int .u8 0, .int .u8 0, .int .u8 0, .int .u8 0, .int .u8 0] 39)) := s26.alloc s26.size _
                    have q32 : tn (u26w.alloc (.cells #[.int .u8 0, .int .u8 0, .int .u8 0, .int .u8 0, .int .u8 0, .int .u8 0, .int .u8 0, .int .u8 0, .int .u8 0, .int .u8 0] 39)) u26w.heap.size = true := tn_of (Blk.new u26w _ _) rfl
                    have t5_32 := tn_on q26 (below_alloc_ u26w (.cells #[.int .u8 0, .int .u8 0, .int .u8 0, .int .u8 0, .int .u8 0, .int .u8 0, .int .u8 0, .int .u8 0, .int .u8 0, .int .u8 0] 39))
                    have ne : u26w.heap.size ≠ wd.heap.size := Nat.ne_of_gt (tn_lt q26)
                    refine hK.out _ _ s32 (fun _ => ?_)
                    clear hK K
                    try simp only [Act.put, List.setIfInBounds_toArray, List.set_cons_zero, List.set_cons_succ]
                    obtain ⟨u32w, hu32w⟩ : ∃ V, u26w.alloc (.cells #[.int .u8 0, .int .u8 0, .int .u8 0, .int .u8 0, .int .u8 0, .int .u8 0, .int .u8 0, .int .u8 0, .int .u8 0, .int .u8 0] 39) = V := ⟨_, rfl⟩
                    rw [hu32w] at s32 q32 t5_32
                    rw [hu32w]
                    clear hu32w
                    refine nextS 1 (by kernel_rfl) (by rfl) (fun o ho K hK => ?_)
                    simp only [List.getElem?_toArray, List.getElem?_cons_succ, List.getElem?_cons_zero, Option.some.injEq] at ho; subst ho
                    go_simp
                    (go_at_call 23; (with_reducible refine (CBp.out _).mono ?_); rintro e u33w ⟨rfl, b33⟩)
                    have s33 : Below wc.heap.size wc u33w := below_on s32 s32.size b33
                    have t4_33 := tn_on q32 b33
                    have t5_33 := tn_on t5_32 b33
                    refine hK.out _ _ s33 (fun _ => ?_)
                    clear hK K
                    try simp only [Act.put, List.setIfInBounds_toArray, List.set_cons_zero, List.set_cons_succ]
                    refine nextS 3 (by kernel_rfl) (by rfl) (fun o ho K hK => ?_)
                    simp only [List.getElem?_toArray, List.getElem?_cons_succ, List.getElem?_cons_zero, Option.some.injEq] at ho; subst ho
                    go_simp
                    (go_at_call 23; (with_reducible refine (CBq.out _).mono ?_); rintro e u34w ⟨rfl, b34⟩)
                    have s34 : Below wc.heap.size wc u34w := below_on s33 s33.size b34
                    have t4_34 := tn_on t4_33 b34
                    have t5_34 := tn_on t5_33 b34
                    refine hK.out _ _ s34 (fun _ => ?_)
                    clear hK K
                    try simp only [Act.put, List.setIfInBounds_toArray, List.set_cons_zero, List.set_cons_succ]
                    have t6 := tn_setRow u34w (wd.heap.size) (u26w.heap.size) x t5_34
                    refine nextS 6 (by kernel_rfl) (by rfl) (fun o ho K hK => ?_)
                    simp only [List.getElem?_toArray, List.getElem?_cons_succ, List.getElem?_cons_zero, Option.some.injEq] at ho; subst ho
                    go_simp
                    have s6 : Below wc.heap.size wc (u34w.setRow (u26w.heap.size) (nc x)) := below_setRow s34 s26.size _
                    refine hK.out _ _ s6 (fun _ => ?_)
                    clear hK K
                    try simp only [Act.put, List.setIfInBounds_toArray, List.set_cons_zero, List.set_cons_succ]
                    refine nextS 7 (by kernel_rfl) (by rfl) (fun o ho K hK => ?_)
                    simp only [List.getElem?_toArray, List.getElem?_cons_succ, List.getElem?_cons_zero, Option.some.injEq] at ho; subst ho
                    go_simp
                    have s7 : Below wc.heap.size wc ((u34w.setRow (u26w.heap.size) (nc x)).setRow (wd.heap.size) (nc y)) := below_setRow s6 sd.size _
                    refine hK.out _ _ s7 (fun _ => ?_)
                    clear hK K
                    try simp only [Act.put, List.setIfInBounds_toArray, List.set_cons_zero, List.set_cons_succ]
                    refine wpAnyH_done (by kernel_rfl) ?_ _
                    refine NoPanic.normal ?_
                    have RB := rd_set (u34w.setRow (u26w.heap.size) (nc x)) (wd.heap.size) y t6
                    have RA : rd ((u34w.setRow (u26w.heap.size) (nc x)).setRow (wd.heap.size) (nc y)) ⟨u26w.heap.size, 0, none⟩ = some x := by rw [rd_far _ _ _ _ ne]; exact rd_set _ _ _ t4_34
                    go_wp2_with fail
                    go_meet
                    exact ⟨_, _, rfl, rfl, RA, RB, s7⟩
              case rest =>
              obtain ⟨k26, k27, rfl, rfl, RA, RB, b21⟩ := hcut
              have z21 := z20.on b21
              have f21 := rd_on f20 b21
              have g21 := rd_on g20 b21
              have D21 := D20.on b21
              have F21 := F20.on b21
              clear z20 f20 g20 B20 D20 F20 b21
              obtain ⟨w22, hw22⟩ : ∃ W, W = wc := ⟨_, rfl⟩
              rw [← hw22] at z21 f21 g21 D21 F21 RA RB
              rw [← hw22]
              clear hw22
              go_wp2
              go_loopw [28, 29] (fun s28 s29 wr => ∃ (k : Nat) (z : Int) (h : Bool), k ≤ 10 ∧ Kept (z = (k : Int) - 1) ∧ Kept (decide (D.cmp (x.l.drop k) (y.l.drop k) < 0) = h) ∧ s28 = .bool h ∧ s29 = .int .i64 z ∧ Below w22.heap.size w22 wr) (fun _ i _ => (intOf i + 1).toNat)
              case atStart => exact ⟨10, 9, false, Nat.le_refl _, ⟨rfl⟩, ⟨cmp_end (Nat.le_of_eq x.len) (Nat.le_of_eq y.len)⟩, rfl, rfl, Below.refl _ _⟩
              case round =>
                obtain ⟨k, z, h, hk, hz, hh', rfl, rfl, bb⟩ := hrel
                by_cases hk0 : k = 0
                · subst hk0
                  have hz0 : ¬ ((0 : Int) ≤ z) := by have := hz.out; omega
                  have hz1 : z < 0 := by omega
                  have hhl : h = les := by rw [← hh'.out, ← HLES.out, List.drop_zero, List.drop_zero]
                  subst hhl
                  clear hz hh'
                  have z23 := z21.on bb
                  have f23 := rd_on f21 bb
                  have g23 := rd_on g21 bb
                  have D23 := D21.on bb
                  have F23 := F21.on bb
                  clear z21 f21 g21 D21 F21 RA RB bb
                  obtain ⟨ae', e', d0, d1, d2⟩ := F23.at_ JC.out
                  injection e' with e'
                  subst e'
                  rw [HAC.out] at d0
                  rw [HBC.out] at d1
                  rw [HCC.out] at d2
                  have d1' := d1
                  have d2' := d2
                  rw [blk_add] at d1' d2'
                  have hjn := (List.getElem?_eq_some_iff.1 JC.out).1
                  rw [HN1.out] at hjn
                  have j0 : (0 : Int) ≤ (jc : Int) := by omega
                  have j1 : (jc : Int) < (n1 : Int) := by omega
                  obtain ⟨ae', e', hael', -⟩ := F23.ats (by omega)
                  injection e' with e'
                  subst e'
                  obtain ⟨⟨y0, y1, y2⟩, -⟩ := blk3 D23
                  have sD := D23.lt
                  have sf := rd_lt f23
                  have sg := rd_lt g23
                  simp only at sf sg
                  have hsc : sm xc xc = true := by simp [sm]
                  have cIn := fun o : On => in_any (some ae) n1 c1 C a' b' c' (ext wr o) (F23.on (ext_below wr o)) (by omega)
                  rw [HHB.out] at cIn
                  have CIn := Lib.hid cIn
                  clear cIn F23 D23
                  go_wp2_with fail
                  refine wp_region_ext (by kernel_rfl) (by kernel_rfl) ?_
                  repeat (go_big_quiet_step ((first
                    | (go_at_call 9; with_reducible exact calls_ext (cK.out _))
                    | (go_at_call 24; with_reducible exact calls_ext (CCa.out _))
                    | (go_at_call 24; with_reducible exact calls_ext (CCb.out _))
                    | (go_at_call 10; with_reducible exact calls_ext (CTc.out _))
                    | (go_at_call 25; with_reducible exact calls_ext (CB.out _))
                    | (go_at_call 21; with_reducible exact calls_ext (CIn.out _))
                    | (go_at_call 26; with_reducible exact calls_ext (CL.out _)))))
                  refine wpQuiet_nil ?_
                  intro w24 hw24
                  have b24 := ext_to hw24
                  clear hw24
                  have z24 := z23.on b24
                  go_wp2
                  go_ret
                  exact ⟨rfl, z24.below⟩
                · obtain ⟨j, rfl⟩ : ∃ j, k = j + 1 := ⟨k - 1, by omega⟩
                  obtain rfl : z = (j : Int) := by have := hz.out; omega
                  clear hz
                  obtain ⟨p1, hp1⟩ : ∃ b, x.l[j]? = some b := ⟨_, List.getElem?_eq_getElem (by rw [x.len]; omega)⟩
                  obtain ⟨q1, hq1⟩ : ∃ b, y.l[j]? = some b := ⟨_, List.getElem?_eq_getElem (by rw [y.len]; omega)⟩
                  have hstep := cmp_step hp1 hq1
                  have k1 := at_of (rd_on RA bb) j _ (bys_at hp1)
                  have k2 := at_of (rd_on RB bb) j _ (bys_at hq1)
                  have hs1 := rd_lt (rd_on RA bb)
                  have hs2 := rd_lt (rd_on RB bb)
                  simp only at hs1 hs2
                  have j0 : (0 : Int) ≤ (j : Int) := by omega
                  have j1 : (j : Int) < 10 := by omega
                  have e26 : (⟨k26, 0, none⟩ : Addr).add j = ⟨k26, j, none⟩ := add_of k26 j
                  have e27 : (⟨k27, 0, none⟩ : Addr).add j = ⟨k27, j, none⟩ := add_of k27 j
                  have k1b := k1
                  have k2b := k2
                  rw [e26] at k1b
                  rw [e27] at k2b
                  have j2 : j < 10 := by omega
                  by_cases hpq : p1 = q1
                  · subst hpq
                    rw [if_pos rfl] at hstep
                    have HS := Lib.hid hstep
                    clear hstep hp1 hq1
                    go_wp2_with fail
                    refine wp_region_ext (by kernel_rfl) (by kernel_rfl) ?_
                    repeat (go_big_quiet_step (fail))
                    refine wpQuiet_nil ?_
                    intro w23 hw23
                    have b23 := ext_to hw23
                    clear hw23
                    go_wp2
                    go_roundw
                    case rel => exact ⟨j, (j : Int) - 1, h, by omega, ⟨rfl⟩, ⟨HS.out.trans hh'.out⟩, rfl, by go_num, bb.trans (b23.mono bb.size)⟩
                    case measure => first | (simp [intOf]; done) | (simp [intOf]; omega)
                  · rw [if_neg hpq] at hstep
                    have HS := Lib.hid hstep
                    have hpi : ¬ ((p1 : Int) = (q1 : Int)) := by omega
                    clear hstep hp1 hq1
                    go_wp2_with fail
                    refine wp_region_ext (by kernel_rfl) (by kernel_rfl) ?_
                    repeat (go_big_quiet_step (fail))
                    refine wpQuiet_nil ?_
                    intro w23 hw23
                    have b23 := ext_to hw23
                    clear hw23
                    have k1' := cell_on k1b hs1 b23
                    have k2' := cell_on k2b hs2 b23
                    have hs1' := Nat.lt_of_lt_of_le hs1 b23.size
                    have hs2' := Nat.lt_of_lt_of_le hs2 b23.size
                    have bb23 := bb.trans (b23.mono bb.size)
                    clear k1 k2 k1b k2b hs1 hs2 b23
                    go_wp2_with fail
                    refine wp_region_ext (by kernel_rfl) (by kernel_rfl) ?_
                    repeat (go_big_quiet_step (fail))
                    refine wpQuiet_nil ?_
                    intro w25 hw25
                    have b25 := ext_to hw25
                    clear hw25
                    go_wp2
                    go_roundw
                    case rel => exact ⟨j, (j : Int) - 1, decide (p1 < q1), by omega, ⟨rfl⟩, ⟨HS.out⟩, by simp, by go_num, bb23.trans (b25.mono bb23.size)⟩
                    case measure => first | (simp [intOf]; done) | (simp [intOf]; omega)
            · obtain ⟨j, rfl⟩ : ∃ j, k = j + 1 := ⟨k - 1, by omega⟩
              obtain rfl : z = (j : Int) := by have := hz.out; omega
              clear hz
              obtain ⟨e, he, hem⟩ := fat_lt (l := C) (i := j) (by have := HN1.out; omega)
              have hs1 := ix_step (D.G R) he
              have hs2 := ix_step (D.G E) he
              obtain ⟨ae', e', d0, d1, d2⟩ := (F1'.on bb).at_ he
              injection e' with e'
              subst e'
              obtain ⟨a3, ha3⟩ : ∃ a, D.sb e.l = a := ⟨_, rfl⟩
              obtain ⟨b3, hb3⟩ : ∃ a, D.sb e.s = a := ⟨_, rfl⟩
              obtain ⟨c3', hc3⟩ : ∃ a, D.sb e.r = a := ⟨_, rfl⟩
              unfold D.G at hs1 hs2
              rw [ha3, hb3, hc3] at hs1 hs2
              rw [ha3] at d0
              rw [hb3] at d1
              rw [hc3] at d2
              have d1' := d1
              have d2' := d2
              rw [blk_add] at d1' d2'
              have cI1 := fun W (h : FRow W A3 n3 R) => in_any A3 n3 c3 R a3 b3 c3' W h (by omega)
              have cI2 := fun W (h : FRow W A2 n2 E) => in_any A2 n2 c2 E a3 b3 c3' W h (by omega)
              obtain ⟨h1, hh1⟩ : ∃ h, inr R a3 b3 c3' = h := ⟨_, rfl⟩
              obtain ⟨h2, hh2⟩ : ∃ h, inr E a3 b3 c3' = h := ⟨_, rfl⟩
              rw [hh1] at cI1 hs1
              rw [hh2] at cI2 hs2
              have HS1 : Kept (D.ix (D.G R) (C.drop j) j = if h1 then (j : Int) else D.ix (D.G R) (C.drop (j + 1)) (j + 1)) := ⟨hs1⟩
              have HS2 : Kept (D.ix (D.G E) (C.drop j) j = if h2 then (j : Int) else D.ix (D.G E) (C.drop (j + 1)) (j + 1)) := ⟨hs2⟩
              have r3 := F3.on bb
              have r2 := F2'.on bb
              have haew : ae.block < wr.heap.size := Nat.lt_of_lt_of_le hael bb.size
              have j0 : (0 : Int) ≤ (j : Int) := by omega
              have j1 : (j : Int) < (n1 : Int) := by omega
              have jg : ¬ ((j : Int) < 0) := by omega
              have CI1 := Lib.hid cI1
              have CI2 := Lib.hid cI2
              clear cI1 cI2 hs1 hs2 ha3 hb3 hc3 hh1 hh2 he hem
              have hj0 : (ae.add (j * 3)).block = ae.block := block_of_add _ _
              cases h1 <;> cases h2
              · go_wp2_with (first
                  | (go_at_call 21; (with_reducible refine (CI1.out _ r3).mono ?_); rintro e w26 ⟨rfl, b26⟩; have r2' := r2.on b26; have k0 := cell_on d0 (by rw [hj0]; exact haew) b26; have k1 := cell_on d1 (by show (ae.add (j * 3)).block < _; rw [hj0]; exact haew) b26; have k2 := cell_on d2 (by show (ae.add (j * 3)).block < _; rw [hj0]; exact haew) b26; have k1' := k1; have k2' := k2; rw [blk_add] at k1' k2'; have haew' := Nat.lt_of_lt_of_le haew b26.size; have bb26 := bb.trans (b26.mono bb.size))
                  | (go_at_call 21; (with_reducible refine (CI2.out _ r2').mono ?_); rintro e w27 ⟨rfl, b27⟩; have bb27 := bb26.trans (b27.mono bb26.size)))
                go_roundw
                case rel => exact ⟨j, (j : Int) - 1, i1, i2, by omega, ⟨rfl⟩, ⟨by rw [HS1.out]; exact hi1.out⟩, ⟨by rw [HS2.out]; exact hi2.out⟩, rfl, rfl, by go_num, bb27⟩
                case measure => first | (simp [intOf]; done) | (simp [intOf]; omega)
              · go_wp2_with (first
                  | (go_at_call 21; (with_reducible refine (CI1.out _ r3).mono ?_); rintro e w26 ⟨rfl, b26⟩; have r2' := r2.on b26; have k0 := cell_on d0 (by rw [hj0]; exact haew) b26; have k1 := cell_on d1 (by show (ae.add (j * 3)).block < _; rw [hj0]; exact haew) b26; have k2 := cell_on d2 (by show (ae.add (j * 3)).block < _; rw [hj0]; exact haew) b26; have k1' := k1; have k2' := k2; rw [blk_add] at k1' k2'; have haew' := Nat.lt_of_lt_of_le haew b26.size; have bb26 := bb.trans (b26.mono bb.size))
                  | (go_at_call 21; (with_reducible refine (CI2.out _ r2').mono ?_); rintro e w27 ⟨rfl, b27⟩; have bb27 := bb26.trans (b27.mono bb26.size)))
                go_roundw
                case rel => exact ⟨j, (j : Int) - 1, i1, (j : Int), by omega, ⟨rfl⟩, ⟨by rw [HS1.out]; exact hi1.out⟩, ⟨by rw [HS2.out]; rfl⟩, rfl, rfl, by go_num, bb27⟩
                case measure => first | (simp [intOf]; done) | (simp [intOf]; omega)
              · go_wp2_with (first
                  | (go_at_call 21; (with_reducible refine (CI1.out _ r3).mono ?_); rintro e w26 ⟨rfl, b26⟩; have r2' := r2.on b26; have k0 := cell_on d0 (by rw [hj0]; exact haew) b26; have k1 := cell_on d1 (by show (ae.add (j * 3)).block < _; rw [hj0]; exact haew) b26; have k2 := cell_on d2 (by show (ae.add (j * 3)).block < _; rw [hj0]; exact haew) b26; have k1' := k1; have k2' := k2; rw [blk_add] at k1' k2'; have haew' := Nat.lt_of_lt_of_le haew b26.size; have bb26 := bb.trans (b26.mono bb.size))
                  | (go_at_call 21; (with_reducible refine (CI2.out _ r2').mono ?_); rintro e w27 ⟨rfl, b27⟩; have bb27 := bb26.trans (b27.mono bb26.size)))
                go_roundw
                case rel => exact ⟨j, (j : Int) - 1, (j : Int), i2, by omega, ⟨rfl⟩, ⟨by rw [HS1.out]; rfl⟩, ⟨by rw [HS2.out]; exact hi2.out⟩, rfl, rfl, by go_num, bb27⟩
                case measure => first | (simp [intOf]; done) | (simp [intOf]; omega)
              · go_wp2_with (first
                  | (go_at_call 21; (with_reducible refine (CI1.out _ r3).mono ?_); rintro e w26 ⟨rfl, b26⟩; have r2' := r2.on b26; have k0 := cell_on d0 (by rw [hj0]; exact haew) b26; have k1 := cell_on d1 (by show (ae.add (j * 3)).block < _; rw [hj0]; exact haew) b26; have k2 := cell_on d2 (by show (ae.add (j * 3)).block < _; rw [hj0]; exact haew) b26; have k1' := k1; have k2' := k2; rw [blk_add] at k1' k2'; have haew' := Nat.lt_of_lt_of_le haew b26.size; have bb26 := bb.trans (b26.mono bb.size))
                  | (go_at_call 21; (with_reducible refine (CI2.out _ r2').mono ?_); rintro e w27 ⟨rfl, b27⟩; have bb27 := bb26.trans (b27.mono bb26.size)))
                go_roundw
                case rel => exact ⟨j, (j : Int) - 1, (j : Int), (j : Int), by omega, ⟨rfl⟩, ⟨by rw [HS1.out]; rfl⟩, ⟨by rw [HS2.out]; rfl⟩, rfl, rfl, by go_num, bb27⟩
                case measure => first | (simp [intOf]; done) | (simp [intOf]; omega)
end Go.Proofs.YtgbnaammphilhaaDoor
