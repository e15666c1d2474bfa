/-
  
-/
import Derived.Test.YtgnjjlgmlokhmaaGreatDoorG21
import Derived.Test.YtgnjjlgmlokhmaaGreatDoorG03
set_option linter.unusedVariables false
set_option linter.unusedSimpArgs false
set_option maxRecDepth 100000
namespace Go.Proofs.YtgnjjlgmlokhmaaGreatDoor
open Go.RowKit
attribute [local go_sem ↓] Go.wp_at_zero Go.wp_at_succ
attribute [local go_sem] cell_ext

theorem D.okWd_at {k : Nat} : ∀ {a ws : List (List Nat)} {j : Nat} {t : List Nat}, D.okWd k a ws -> ws[j]? = some t -> D.lgl k t (a ++ ws.take j) = 0
 | a, [], j, t, h, e => by simp at e
 | a, w :: ws, 0, t, h, e => by
  simp at e
  subst e
  simpa using h.2.2.1
 | a, w :: ws, j + 1, t, h, e => by
  have := D.okWd_at (j := j) h.2.2.2 (by simpa using e)
  simpa [List.append_assoc] using this
theorem D.lgl_ok {k : Nat} {t : List Nat} {ws : List (List Nat)} (hk : k = 3 ∨ k = 4) (h : D.lgl k t ws = 0) : D.cwd k t = true ∧ t ∉ ws := by
 unfold D.lgl at h
 split at h
 ·cases h
 ·rename_i h1
  split at h
  ·cases h
  ·rename_i h2
   refine ⟨?_, h2⟩
   unfold D.cwd
   rcases hk with rfl | rfl
   ·rw [if_pos rfl]
    by_cases hc : t ∈ D.catW
    ·exact decide_eq_true hc
    ·exact absurd (Or.inl ⟨rfl, hc⟩) h1
   ·rw [if_neg (by decide)]
    cases hb : Nm.D.isB t with
    | true => rfl
    | false => exact absurd (Or.inr ⟨rfl, hb⟩) h1
theorem sb_inj {a b : List Nat} (ha : ∀ x ∈ a, x < 256) (hb : ∀ x ∈ b, x < 256) (h : D.sb a = D.sb b) : a = b := by
 rw [<- D.ns_sb ha, <- D.ns_sb hb, h]
theorem sb_mem {t : List Nat} {ws : List (List Nat)} (ht : ∀ x ∈ t, x < 256) (hw : D.B8 ws) : D.sb t ∈ ws.map D.sb ↔ t ∈ ws := by
 constructor
 ·intro h
  obtain ⟨u, hu, e⟩ := List.mem_map.1 h
  rw [<- sb_inj (hw u hu) ht e]; exact hu
 ·exact fun h => List.mem_map_of_mem h
theorem B8_take {ws : List (List Nat)} (h : D.B8 ws) (j : Nat) : D.B8 (ws.take j) := fun w hw => h w (List.mem_of_mem_take hw)
set_option maxHeartbeats 8000000 in
theorem tellCases_yes (A : Option Addr) (n c d k : Nat) (v : Bool) (cs : List (List Nat × Value)) (w : World) (hd : d < 3) (hk : k = 3 ∨ k = 4) (hr : Rw 2 w A n (ccs cs)) (hn : n <= 1000) (h1 : ∀ x ∈ cs, ∃ (A : Option Addr) (n c : Nat), x.2 = .slice A n c) (hb : D.B8 (cs.map (·.1))) (hsz : ∀ x ∈ cs, x.1.length <= 1000)
  (hw : D.okWd k [] (cs.map (·.1))) (ho : D.othT ∈ cs.map (·.1)) (hE : Env w)
  (hK : ∀ (j : Nat) (t : List Nat) (u : Value), cs[j]? = some (t, u) -> ∀ W, Below w.heap.size w W -> Calls Tryz.prog 32 #[.agg #[.int .i64 ((d : Int) + 1), .bool (v || k == 3)], u] W fun e w' => e = .returned (.bool true) ∧ Below W.heap.size W w') :
  Calls Tryz.prog 88 #[.agg #[.int .i64 (d : Nat), .bool v], .int .i64 (k : Nat), .slice A n c] w fun e w' => e = .returned (.bool true) ∧ Below w.heap.size w w' := by
 have hlen := hr.len
 rw [ccs_len] at hlen
 have hlen : cs.length = n := by omega
 have i3 : ((d : Int) == 3) = false := by simp; omega
 have HR := Lib.hid hr
 have H1 := Lib.hid h1
 have HB8 := Lib.hid hb
 have HSZ := Lib.hid hsz
 have HW := Lib.hid hw
 have HO := Lib.hid ho
 have HE := Lib.hid hE
 have HK := Lib.hid hK
 have HKK := Lib.hid hk
 have HI := Lib.hid (fun W => inside_any d k v W (by omega))
 have HC := Lib.hid (fun t W (hW : Env W) => caseWord_any k (D.sb t) W hW)
 have hmm := @run_makeMap Tryz.prog
 clear hr h1 hb hsz hw ho hE hK hk
 go_enter Tryz.func88, Tryz.ntmps88
 go_wp2_with fail
 clear hmm i3
 go_loopw [18] (fun i wr => ∃ j : Nat, j <= n ∧ i = .int .i64 j ∧ Hid (Blk wr w.heap.size 48 #[.int .i64 (d : Nat), .bool v]) ∧ Hid (SetAt sS wr (w.heap.size + 1) (((cs.map (·.1)).take j).map D.sb)) ∧ Hid (Below w.heap.size w wr)) (fun i _ => n - (intOf i).toNat)
 case atStart =>
  exact ⟨0, Nat.zero_le _, rfl, Lib.hid ((Blk.new w _ _).alloc _), Lib.hid (set_new _ _ _ (by simp)), Lib.hid (((Below.refl _ _).alloc (Nat.le_refl _) _).alloc (by simp) _)⟩
 case round =>
  obtain ⟨j, hj, rfl, HB, HS, HZ⟩ := hrel
  obtain ⟨wo, rfl⟩ : ∃ wo : World, wo = wr := ⟨_, rfl⟩
  by_cases hlt : j < n
  ·obtain ⟨⟨t, u⟩, ht⟩ : ∃ a, cs[j]? = some a := ⟨_, List.getElem?_eq_getElem (by omega)⟩
   have hm : (cs.map (·.1))[j]? = some t := by simp [ht]
   have ht8 := HB8.out t (List.mem_of_getElem? hm)
   obtain ⟨Au, nu, cu, hu⟩ := H1.out _ (List.mem_of_getElem? ht)
   have hu : u = .slice Au nu cu := hu
   subst hu
   have htz : t.length <= 1000 := HSZ.out _ (List.mem_of_getElem? ht)
   obtain ⟨e0, e1⟩ := ccs_at ht
   have HR' := HR.out.on HZ.out
   obtain ⟨ad, rfl, hbk, hc0⟩ := HR'.cell e0
   obtain ⟨ad', ead, _, hc1⟩ := HR'.cell e1
   cases ead
   have hI : (j : Int) < n := by omega
   have hc1' : wo.cell? ⟨(ad.add (j * 2)).block, (ad.add (j * 2)).off + 1, none⟩ = some (.slice Au nu cu) := by
    rw [<- hc1]
    unfold Addr.add
    by_cases h0 : j * 2 = 0
    ·simp [h0]
    ·simp [h0, Nat.add_assoc]
   obtain ⟨hcw, hnot⟩ := D.lgl_ok HKK.out (D.okWd_at HW.out hm)
   simp only [List.nil_append] at hnot
   obtain ⟨W1, hW1⟩ : ∃ W1, wo.alloc (.cells #[.string (D.sb t), .slice Au nu cu] 101) = W1 := ⟨_, rfl⟩
   have b01 : Below wo.heap.size wo W1 := by rw [<- hW1]; exact below_alloc_ _ _
   have s01 : W1.heap.size = wo.heap.size + 1 := by rw [<- hW1]; simp
   have hz1 : Below w.heap.size w W1 := HZ.out.trans (b01.mono HZ.out.size)
   have CC := Lib.hid (fun o : On => HC.out t (ext W1 o) (HE.out.on (hz1.trans ((ext_below _ o).mono hz1.size))))
   rw [D.ns_sb ht8, hcw] at CC
   have CI := Lib.hid (fun o : On => HI.out (ext W1 o))
   have CT := Lib.hid (fun o : On => HK.out j t _ ht (ext W1 o) (hz1.trans ((ext_below _ o).mono hz1.size)))
   obtain ⟨v', hv'⟩ : ∃ v', (v || k == 3) = v' := ⟨_, rfl⟩
   rw [hv'] at CI CT
   have hB1 := HB.out.on b01
   have hC1 : Blk W1 wo.heap.size 101 #[.string (D.sb t), .slice Au nu cu] := by rw [<- hW1]; exact Blk.new _ _ _
   have q0 : W1.cell? ⟨w.heap.size, 0, none⟩ = some (.int .i64 (d : Nat)) := hB1.c_ 0
   have q1 : W1.cell? ⟨w.heap.size, 1, none⟩ = some (.bool v) := hB1.c_ 1
   have q2 := hB1.lt
   have r0 := hC1.c_ 0
   have r1 := hC1.c_ 1
   have r2 := hC1.lt
   have HC1 := Lib.hid hC1
   have htk : ((cs.map (·.1)).take (j + 1)).map D.sb = ((cs.map (·.1)).take j).map D.sb ++ [D.sb t] := by rw [List.take_add_one, hm]; simp
   have hnm : D.sb t ∉ ((cs.map (·.1)).take j).map D.sb := fun h => hnot ((sb_mem ht8 (B8_take HB8.out j)).1 h)
   have HS1 := Lib.hid (HS.out.on b01)
   have HTK := Kept.mk htk
   have HNM := Lib.hid hnm
   have HB01 := Lib.hid b01
   have S01 := Lib.hid s01
   have HSZ1 : Hid ((D.sb t).size <= 100000) := Lib.hid (by rw [D.sb_len]; omega)
   clear HR' e0 e1 hc1 hm ht8 ht hv' hB1 hC1 hcw hnot htk hnm HC HI HK htz b01 hz1 s01
   go_upto_region 7 with fail
   try rw [hW1]
   clear hW1
   refine wp_region_ext (by kernel_rfl) (by kernel_rfl) ?_
   repeat (go_big_quiet_step (first
    | (go_at_call 76; with_reducible exact calls_ext (CC.out _))
    | (go_at_call 80; with_reducible exact calls_ext (CI.out _))
    | (go_at_call 32; with_reducible exact calls_ext (CT.out _))))
   refine wpQuiet_nil ?_
   intro w4 hw4
   have B4 := ext_to hw4
   clear hw4 q0 q1 q2 r0 r1 r2
   obtain ⟨w5, hput, hs5, hg5⟩ := (HS1.out.on B4).put map_set_str (by rw [List.length_map, List.length_take]; omega) (D.sb t) HSZ1.out (((cs.map (·.1)).take (j + 1)).map D.sb) (fun y => by rw [HTK.out]; simp [or_comm]) (by rw [if_neg HNM.out, HTK.out]; simp)
   have hput' : (Instr.mapUpdate 170 (.map (some (w.heap.size + 1))) (.string (D.sb t)) (.agg #[])).run Tryz.prog w4 = .ok () w5 := hput
   have hbl := (HC1.out.on B4).c_ 0
   have hbl2 := (HC1.out.on B4).lt
   have HS5 := Lib.hid hs5
   have HG5 := Lib.hid hg5
   have B4' := Lib.hid B4
   clear hs5 hg5 hput B4
   go_wp2_with fail
   go_roundw
   case rel =>
    have hZ := HZ.out.size
    have s01_ := S01.out
    have b4 : Below w.heap.size w w4 := (HZ.out.trans (HB01.out.mono hZ)).trans (B4'.out.mono (by omega))
    have hs4 := B4'.out.size
    have s01 := S01.out
    refine ⟨j + 1, by omega, by go_num, Lib.hid ?_, HS5, Lib.hid (Nm.bel_grown b4 HG5.out (by omega))⟩
    exact (((HB.out.on HB01.out).on B4'.out).grown HG5.out (by simp))
   case measure => simp [intOf]; omega
  ·obtain rfl : j = n := by omega
   have hall : (cs.map (·.1)).take j = cs.map (·.1) := List.take_of_length_le (by simp [hlen])
   have HS2 := HS.out
   rw [hall] at HS2
   have hlk := HS2.look_in map_set_str zero_unit (x := D.sb D.othT) (show (D.sb D.othT).size <= 100000 by decide) ((sb_mem (show ∀ x ∈ D.othT, x < 256 by decide) HB8.out).2 HO.out)
   have hlk' : (Instr.lookup 170 (.map (some (w.heap.size + 1))) (.string ⟨#[111, 116, 104, 101, 114]⟩) true).run Tryz.prog wo = .ok (.tuple #[.agg #[], .bool true]) wo := hlk
   have hln : ∀ ty, (Builtin.len_ #[170] ty #[.map (some (w.heap.size + 1))]).run Tryz.prog (wo.alloc (.cells #[] 72)) = .ok (.int .i64 (j : Nat)) (wo.alloc (.cells #[] 72)) := fun ty => by
    have := (HS2.alloc (.cells #[] 72)).len map_set_str ty
    rw [List.length_map, List.length_map, hlen] at this
    exact this
   clear hlk HS2 hall
   go_wp2
   go_ret
   exact ⟨rfl, (HZ.out.trans ((below_alloc_ _ _).mono HZ.out.size))⟩
end Go.Proofs.YtgnjjlgmlokhmaaGreatDoor
namespace Go.Proofs.YtgnjjlgmlokhmaaGreatDoor
open Go.RowKit
attribute [local go_sem ↓] Go.wp_at_zero Go.wp_at_succ Nm.ld_a Nm.ld_n Nm.st_a Nm.st_n Nm.lv_a Nm.lv_n Nm.eq_a Nm.eq_n Nm.ne_a Nm.ne_n ld_nd lv_nd st_nd bd_nd bs_nd
attribute [local go_sem] Nm.run_ld_a Nm.run_ld_n Nm.run_lv_a Nm.run_lv_n Nm.run_eq_a Nm.run_eq_n Nm.run_ne_a Nm.run_ne_n Nm.rd_new Nm.rd_old Nm.rd_drew Nm.rd_drewN Nm.st_z run_lvnd run_ldnd run_stnd_new run_bsnd run_bdnd_1 run_bdnd_5 run_bdnd_0 Shp.rd_new Shp.rd_old Shp.rd_drew Shp.rd_drewN

theorem eq_zn (v : Value) : Nm.eq12 39 v (.agg #[.int .u8 0, .int .u8 0, .int .u8 0, .int .u8 0, .int .u8 0, .int .u8 0, .int .u8 0, .int .u8 0, .int .u8 0, .int .u8 0, .int .u8 0, .int .u8 0]) = Nm.eq12 39 v (.agg (Nm.nc Nm.D.zero)) := rfl
attribute [local go_sem] eq_zn
structure NF (w : World) (g o : Nat) (y : D.Nv) : Prop where
 k : w.cell? ⟨g, o, none⟩ = some (.int .i64 (y.k : Nat))
 t : w.cell? ⟨g, o + 1, none⟩ = some (.string y.t)
 n : Nm.rd w ⟨g, o + 2, none⟩ = some y.n
 c : w.cell? ⟨g, o + 14, none⟩ = some (.slice y.A y.m y.c)
theorem nf_at {w : World} {g o : Nat} {y : D.Nv} (h : nS.At w ⟨g, o, none⟩ y) : NF w g o y := by
 have c : ∀ j u, (ncells y)[j]? = some u -> w.cell? ⟨g, o + j, none⟩ = some u := fun j u hu => by have := h j u hu; rwa [show (⟨g, o, none⟩ : Addr).add j = ⟨g, o + j, none⟩ by simp [Addr.add]] at this
 refine ⟨c 0 _ rfl, c 1 _ rfl, Nm.rd_of fun j u hu => ?_, c 14 _ ?_⟩
 ·rw [show (⟨g, o + 2, none⟩ : Addr).add j = ⟨g, o + (2 + j), none⟩ by simp [Addr.add, Nat.add_assoc]]
  refine c (2 + j) u ?_
  have hj := (List.getElem?_eq_some_iff.1 hu).1
  rw [show 2 + j = j + 2 by omega]
  show (bys y.n.l ++ [Value.slice y.A y.m y.c])[j]? = some u
  rw [List.getElem?_append_left hj, hu]
 ·show (bys y.n.l ++ [Value.slice y.A y.m y.c])[12]? = _
  have : (bys y.n.l).length = 12 := by rw [bys_len, y.n.len]
  rw [List.getElem?_append_right (by omega), this]
  rfl
theorem nf_blk {w : World} {g : Nat} {y : D.Nv} (h : Blk w g 80 (nS.v y)) : NF w g 0 y := nf_at (Shp.at_of (nd_rd h))
theorem right_pad {n : List Nat} (h : Nm.D.isB n = true) (hn : ∀ c ∈ n, c < 256) : Nm.D.right (Nm.D.pad (D.sb n)) = true := by
 have h1 := Nm.D.pad_right h hn
 have e : Nm.D.pad (D.sb n) = Nm.D.padN n hn := Nm.D.Nm.eq (by show Nm.D.padl (D.ns (D.sb n)) 12 = Nm.D.padl n 12; rw [D.ns_sb hn])
 rw [e]; exact h1
set_option maxHeartbeats 4000000 in
theorem tellPart_text (d k c : Nat) (v : Bool) (t : List Nat) (A : Option Addr) (w : World) (hk : k = 0) (hz : t.length <= 1000) (h8 : ∀ c ∈ t, c < 256) (h0 : t ≠ []) (hp : ∀ c ∈ t, D.plB v c = true) : Calls Tryz.prog 59 #[.agg #[.int .i64 (d : Nat), .bool v], .agg (nS.v ⟨k, (D.sb t), Nm.D.zero, A, 0, c⟩)] w fun e w' => e = .returned (.bool true) ∧ Below w.heap.size w w' := by
 have i0 : ((k : Int) == 0) = true := by simp; omega
 have HR := Lib.hid (fun W => Nm.right_any Nm.D.zero W)
 obtain ⟨rb, hrb⟩ : ∃ rb, Nm.D.right Nm.D.zero = rb := ⟨_, rfl⟩
 rw [hrb] at HR
 clear hrb
 have hsm : Nm.sm Nm.D.zero Nm.D.zero = true := by unfold Nm.sm; exact decide_eq_true rfl
 have CT := Lib.hid (fun W => tellText_yes (D.sb t) d v W (by rw [D.sb_len]; exact hz) (by rw [D.ns_sb h8]; exact h0) (by rw [D.ns_sb h8]; exact hp))
 clear hz h0 hp h8
 obtain ⟨Y, hY⟩ : ∃ Y : D.Nv, ⟨k, (D.sb t), Nm.D.zero, A, 0, c⟩ = Y := ⟨_, rfl⟩
 rw [hY]
 have hw2 : Blk ((w.alloc (.cells #[.int .i64 (d : Nat), .bool v] 48)).alloc (.cells (nS.v Y) 80)) (w.heap.size + 1) 80 (nS.v Y) := blk_new_ (by simp)
 have hw1 : Blk ((w.alloc (.cells #[.int .i64 (d : Nat), .bool v] 48)).alloc (.cells (nS.v Y) 80)) w.heap.size 48 #[.int .i64 (d : Nat), .bool v] := (Blk.new _ _ _).alloc _
 have hb0 : Below w.heap.size w ((w.alloc (.cells #[.int .i64 (d : Nat), .bool v] 48)).alloc (.cells (nS.v Y) 80)) := ((Below.refl _ _).alloc (Nat.le_refl _) _).alloc (by simp) _
 have f0 := nf_blk hw2
 subst hY
 obtain ⟨a0, a1, a2, a3⟩ := f0
 simp only [Nat.zero_add] at a0 a1 a2 a3
 have W2 := Lib.hid hw2
 have W1 := Lib.hid hw1
 have B0 := Lib.hid hb0
 clear hw2 hw1 hb0 hk
 go_enter Tryz.func59, Tryz.ntmps59
 go_wp2_with (first
  | (go_at_call 86; (with_reducible refine (HR.out _).mono ?_); rintro e w3 ⟨rfl, b3⟩; have n3 := W2.out.on b3; have r3 := W1.out.on b3; obtain ⟨c0, c1, c2, c3⟩ := nf_blk n3; simp only [Nat.zero_add] at c0 c1 c2 c3; have d0 : w3.cell? ⟨w.heap.size, 0, none⟩ = some (.int .i64 (d : Nat)) := r3.c_ 0; have d1 : w3.cell? ⟨w.heap.size, 1, none⟩ = some (.bool v) := r3.c_ 1; have d2 := r3.lt; have d3 := n3.lt; have B3 := Lib.hid (B0.out.trans (b3.mono B0.out.size)); clear b3 n3 r3)
  | (go_at_call 87; (with_reducible refine (CT.out _).mono ?_); rintro e w4 ⟨rfl, b4⟩))
 go_ret
 exact ⟨rfl, B3.out.trans (b4.mono B3.out.size)⟩
set_option maxHeartbeats 4000000 in
theorem tellPart_sign (d k c : Nat) (v : Bool) (A : Option Addr) (w : World) (hk : k = 5) (hv : v = true) : Calls Tryz.prog 59 #[.agg #[.int .i64 (d : Nat), .bool v], .agg (nS.v ⟨k, ⟨#[]⟩, Nm.D.zero, A, 0, c⟩)] w fun e w' => e = .returned (.bool true) ∧ Below w.heap.size w w' := by
 have i0 : ((k : Int) == 0) = false := by simp; omega
 have i5 : ((k : Int) == 5) = true := by simp; omega
 have HR := Lib.hid (fun W => Nm.right_any Nm.D.zero W)
 obtain ⟨rb, hrb⟩ : ∃ rb, Nm.D.right Nm.D.zero = rb := ⟨_, rfl⟩
 rw [hrb] at HR
 clear hrb
 have hsm : Nm.sm Nm.D.zero Nm.D.zero = true := by unfold Nm.sm; exact decide_eq_true rfl
 subst hv
 obtain ⟨Y, hY⟩ : ∃ Y : D.Nv, ⟨k, ⟨#[]⟩, Nm.D.zero, A, 0, c⟩ = Y := ⟨_, rfl⟩
 rw [hY]
 have hw2 : Blk ((w.alloc (.cells #[.int .i64 (d : Nat), .bool true] 48)).alloc (.cells (nS.v Y) 80)) (w.heap.size + 1) 80 (nS.v Y) := blk_new_ (by simp)
 have hw1 : Blk ((w.alloc (.cells #[.int .i64 (d : Nat), .bool true] 48)).alloc (.cells (nS.v Y) 80)) w.heap.size 48 #[.int .i64 (d : Nat), .bool true] := (Blk.new _ _ _).alloc _
 have hb0 : Below w.heap.size w ((w.alloc (.cells #[.int .i64 (d : Nat), .bool true] 48)).alloc (.cells (nS.v Y) 80)) := ((Below.refl _ _).alloc (Nat.le_refl _) _).alloc (by simp) _
 have f0 := nf_blk hw2
 subst hY
 obtain ⟨a0, a1, a2, a3⟩ := f0
 simp only [Nat.zero_add] at a0 a1 a2 a3
 have W2 := Lib.hid hw2
 have W1 := Lib.hid hw1
 have B0 := Lib.hid hb0
 clear hw2 hw1 hb0 hk
 go_enter Tryz.func59, Tryz.ntmps59
 go_wp2_with (first
  | (go_at_call 86; (with_reducible refine (HR.out _).mono ?_); rintro e w3 ⟨rfl, b3⟩; have n3 := W2.out.on b3; have r3 := W1.out.on b3; obtain ⟨c0, c1, c2, c3⟩ := nf_blk n3; simp only [Nat.zero_add] at c0 c1 c2 c3; have d0 : w3.cell? ⟨w.heap.size, 0, none⟩ = some (.int .i64 (d : Nat)) := r3.c_ 0; have d1 : w3.cell? ⟨w.heap.size, 1, none⟩ = some (.bool true) := r3.c_ 1; have d2 := r3.lt; have d3 := n3.lt; have B3 := Lib.hid (B0.out.trans (b3.mono B0.out.size)); clear b3 n3 r3))
 go_ret
 exact ⟨rfl, B3.out⟩
set_option maxHeartbeats 4000000 in
theorem tellPart_arg (d k c : Nat) (v : Bool) (n : List Nat) (A : Option Addr) (w : World) (hk : k = 1) (hn : Nm.D.isB n = true) (hn8 : ∀ c ∈ n, c < 256) : Calls Tryz.prog 59 #[.agg #[.int .i64 (d : Nat), .bool v], .agg (nS.v ⟨k, ⟨#[]⟩, (Nm.D.pad (D.sb n)), A, 0, c⟩)] w fun e w' => e = .returned (.bool true) ∧ Below w.heap.size w w' := by
 have i0 : ((k : Int) == 0) = false := by simp; omega
 have i5 : ((k : Int) == 5) = false := by simp; omega
 have i1 : ((k : Int) == 1) = true := by simp; omega
 have HR := Lib.hid (fun W => Nm.right_any (Nm.D.pad (D.sb n)) W)
 rw [right_pad hn hn8] at HR
 obtain ⟨M, hM⟩ : ∃ M, Nm.D.pad (D.sb n) = M := ⟨_, rfl⟩
 rw [hM] at HR ⊢
 obtain ⟨sb_, hsm⟩ : ∃ b, Nm.sm M Nm.D.zero = b := ⟨_, rfl⟩
 clear hM hn hn8
 obtain ⟨Y, hY⟩ : ∃ Y : D.Nv, ⟨k, ⟨#[]⟩, M, A, 0, c⟩ = Y := ⟨_, rfl⟩
 rw [hY]
 have hw2 : Blk ((w.alloc (.cells #[.int .i64 (d : Nat), .bool v] 48)).alloc (.cells (nS.v Y) 80)) (w.heap.size + 1) 80 (nS.v Y) := blk_new_ (by simp)
 have hw1 : Blk ((w.alloc (.cells #[.int .i64 (d : Nat), .bool v] 48)).alloc (.cells (nS.v Y) 80)) w.heap.size 48 #[.int .i64 (d : Nat), .bool v] := (Blk.new _ _ _).alloc _
 have hb0 : Below w.heap.size w ((w.alloc (.cells #[.int .i64 (d : Nat), .bool v] 48)).alloc (.cells (nS.v Y) 80)) := ((Below.refl _ _).alloc (Nat.le_refl _) _).alloc (by simp) _
 have f0 := nf_blk hw2
 subst hY
 obtain ⟨a0, a1, a2, a3⟩ := f0
 simp only [Nat.zero_add] at a0 a1 a2 a3
 have W2 := Lib.hid hw2
 have W1 := Lib.hid hw1
 have B0 := Lib.hid hb0
 clear hw2 hw1 hb0 hk
 go_enter Tryz.func59, Tryz.ntmps59
 go_wp2_with (first
  | (go_at_call 86; (with_reducible refine (HR.out _).mono ?_); rintro e w3 ⟨rfl, b3⟩; have n3 := W2.out.on b3; have r3 := W1.out.on b3; obtain ⟨c0, c1, c2, c3⟩ := nf_blk n3; simp only [Nat.zero_add] at c0 c1 c2 c3; have d0 : w3.cell? ⟨w.heap.size, 0, none⟩ = some (.int .i64 (d : Nat)) := r3.c_ 0; have d1 : w3.cell? ⟨w.heap.size, 1, none⟩ = some (.bool v) := r3.c_ 1; have d2 := r3.lt; have d3 := n3.lt; have B3 := Lib.hid (B0.out.trans (b3.mono B0.out.size)); clear b3 n3 r3))
 go_ret
 exact ⟨rfl, B3.out⟩
set_option maxHeartbeats 4000000 in
theorem tellPart_num (d k c : Nat) (v : Bool) (n : List Nat) (A : Option Addr) (w : World) (hk : k = 2) (hn : Nm.D.isB n = true) (hn8 : ∀ c ∈ n, c < 256) : Calls Tryz.prog 59 #[.agg #[.int .i64 (d : Nat), .bool v], .agg (nS.v ⟨k, ⟨#[]⟩, (Nm.D.pad (D.sb n)), A, 0, c⟩)] w fun e w' => e = .returned (.bool true) ∧ Below w.heap.size w w' := by
 have i0 : ((k : Int) == 0) = false := by simp; omega
 have i5 : ((k : Int) == 5) = false := by simp; omega
 have i1 : ((k : Int) == 1) = false := by simp; omega
 have i2 : ((k : Int) == 2) = true := by simp; omega
 have HR := Lib.hid (fun W => Nm.right_any (Nm.D.pad (D.sb n)) W)
 rw [right_pad hn hn8] at HR
 obtain ⟨M, hM⟩ : ∃ M, Nm.D.pad (D.sb n) = M := ⟨_, rfl⟩
 rw [hM] at HR ⊢
 obtain ⟨sb_, hsm⟩ : ∃ b, Nm.sm M Nm.D.zero = b := ⟨_, rfl⟩
 clear hM hn hn8
 obtain ⟨Y, hY⟩ : ∃ Y : D.Nv, ⟨k, ⟨#[]⟩, M, A, 0, c⟩ = Y := ⟨_, rfl⟩
 rw [hY]
 have hw2 : Blk ((w.alloc (.cells #[.int .i64 (d : Nat), .bool v] 48)).alloc (.cells (nS.v Y) 80)) (w.heap.size + 1) 80 (nS.v Y) := blk_new_ (by simp)
 have hw1 : Blk ((w.alloc (.cells #[.int .i64 (d : Nat), .bool v] 48)).alloc (.cells (nS.v Y) 80)) w.heap.size 48 #[.int .i64 (d : Nat), .bool v] := (Blk.new _ _ _).alloc _
 have hb0 : Below w.heap.size w ((w.alloc (.cells #[.int .i64 (d : Nat), .bool v] 48)).alloc (.cells (nS.v Y) 80)) := ((Below.refl _ _).alloc (Nat.le_refl _) _).alloc (by simp) _
 have f0 := nf_blk hw2
 subst hY
 obtain ⟨a0, a1, a2, a3⟩ := f0
 simp only [Nat.zero_add] at a0 a1 a2 a3
 have W2 := Lib.hid hw2
 have W1 := Lib.hid hw1
 have B0 := Lib.hid hb0
 clear hw2 hw1 hb0 hk
 go_enter Tryz.func59, Tryz.ntmps59
 go_wp2_with (first
  | (go_at_call 86; (with_reducible refine (HR.out _).mono ?_); rintro e w3 ⟨rfl, b3⟩; have n3 := W2.out.on b3; have r3 := W1.out.on b3; obtain ⟨c0, c1, c2, c3⟩ := nf_blk n3; simp only [Nat.zero_add] at c0 c1 c2 c3; have d0 : w3.cell? ⟨w.heap.size, 0, none⟩ = some (.int .i64 (d : Nat)) := r3.c_ 0; have d1 : w3.cell? ⟨w.heap.size, 1, none⟩ = some (.bool v) := r3.c_ 1; have d2 := r3.lt; have d3 := n3.lt; have B3 := Lib.hid (B0.out.trans (b3.mono B0.out.size)); clear b3 n3 r3))
 go_ret
 exact ⟨rfl, B3.out⟩
set_option maxHeartbeats 4000000 in
theorem tellPart_plu (d k m c : Nat) (v : Bool) (n : List Nat) (A : Option Addr) (w : World) (hk : k = 3) (hn : Nm.D.isB n = true) (hn8 : ∀ c ∈ n, c < 256) (hC : ∀ W, Below w.heap.size w W -> Calls Tryz.prog 88 #[.agg #[.int .i64 (d : Nat), .bool v], .int .i64 (k : Nat), .slice A m c] W fun e w' => e = .returned (.bool true) ∧ Below W.heap.size W w') : Calls Tryz.prog 59 #[.agg #[.int .i64 (d : Nat), .bool v], .agg (nS.v ⟨k, ⟨#[]⟩, (Nm.D.pad (D.sb n)), A, m, c⟩)] w fun e w' => e = .returned (.bool true) ∧ Below w.heap.size w w' := by
 have i0 : ((k : Int) == 0) = false := by simp; omega
 have i5 : ((k : Int) == 5) = false := by simp; omega
 have i1 : ((k : Int) == 1) = false := by simp; omega
 have i2 : ((k : Int) == 2) = false := by simp; omega
 have i3 : ((k : Int) == 3) = true := by simp; omega
 have HR := Lib.hid (fun W => Nm.right_any (Nm.D.pad (D.sb n)) W)
 rw [right_pad hn hn8] at HR
 obtain ⟨M, hM⟩ : ∃ M, Nm.D.pad (D.sb n) = M := ⟨_, rfl⟩
 rw [hM] at HR ⊢
 obtain ⟨sb_, hsm⟩ : ∃ b, Nm.sm M Nm.D.zero = b := ⟨_, rfl⟩
 clear hM hn hn8
 have CC := Lib.hid hC
 clear hC
 obtain ⟨Y, hY⟩ : ∃ Y : D.Nv, ⟨k, ⟨#[]⟩, M, A, m, c⟩ = Y := ⟨_, rfl⟩
 rw [hY]
 have hw2 : Blk ((w.alloc (.cells #[.int .i64 (d : Nat), .bool v] 48)).alloc (.cells (nS.v Y) 80)) (w.heap.size + 1) 80 (nS.v Y) := blk_new_ (by simp)
 have hw1 : Blk ((w.alloc (.cells #[.int .i64 (d : Nat), .bool v] 48)).alloc (.cells (nS.v Y) 80)) w.heap.size 48 #[.int .i64 (d : Nat), .bool v] := (Blk.new _ _ _).alloc _
 have hb0 : Below w.heap.size w ((w.alloc (.cells #[.int .i64 (d : Nat), .bool v] 48)).alloc (.cells (nS.v Y) 80)) := ((Below.refl _ _).alloc (Nat.le_refl _) _).alloc (by simp) _
 have f0 := nf_blk hw2
 subst hY
 obtain ⟨a0, a1, a2, a3⟩ := f0
 simp only [Nat.zero_add] at a0 a1 a2 a3
 have W2 := Lib.hid hw2
 have W1 := Lib.hid hw1
 have B0 := Lib.hid hb0
 clear hw2 hw1 hb0 hk
 go_enter Tryz.func59, Tryz.ntmps59
 go_wp2_with (first
  | (go_at_call 86; (with_reducible refine (HR.out _).mono ?_); rintro e w3 ⟨rfl, b3⟩; have n3 := W2.out.on b3; have r3 := W1.out.on b3; obtain ⟨c0, c1, c2, c3⟩ := nf_blk n3; simp only [Nat.zero_add] at c0 c1 c2 c3; have d0 : w3.cell? ⟨w.heap.size, 0, none⟩ = some (.int .i64 (d : Nat)) := r3.c_ 0; have d1 : w3.cell? ⟨w.heap.size, 1, none⟩ = some (.bool v) := r3.c_ 1; have d2 := r3.lt; have d3 := n3.lt; have B3 := Lib.hid (B0.out.trans (b3.mono B0.out.size)); clear b3 n3 r3)
  | (go_at_call 88; (with_reducible refine (CC.out _ B3.out).mono ?_); rintro e w4 ⟨rfl, b4⟩))
 go_ret
 exact ⟨rfl, B3.out.trans (b4.mono B3.out.size)⟩
set_option maxHeartbeats 4000000 in
theorem tellPart_sel (d k m c : Nat) (v : Bool) (n : List Nat) (A : Option Addr) (w : World) (hk : k = 4) (hn : Nm.D.isB n = true) (hn8 : ∀ c ∈ n, c < 256) (hC : ∀ W, Below w.heap.size w W -> Calls Tryz.prog 88 #[.agg #[.int .i64 (d : Nat), .bool v], .int .i64 (k : Nat), .slice A m c] W fun e w' => e = .returned (.bool true) ∧ Below W.heap.size W w') : Calls Tryz.prog 59 #[.agg #[.int .i64 (d : Nat), .bool v], .agg (nS.v ⟨k, ⟨#[]⟩, (Nm.D.pad (D.sb n)), A, m, c⟩)] w fun e w' => e = .returned (.bool true) ∧ Below w.heap.size w w' := by
 have i0 : ((k : Int) == 0) = false := by simp; omega
 have i5 : ((k : Int) == 5) = false := by simp; omega
 have i1 : ((k : Int) == 1) = false := by simp; omega
 have i2 : ((k : Int) == 2) = false := by simp; omega
 have i3 : ((k : Int) == 3) = false := by simp; omega
 have i4 : ((k : Int) == 4) = true := by simp; omega
 have HR := Lib.hid (fun W => Nm.right_any (Nm.D.pad (D.sb n)) W)
 rw [right_pad hn hn8] at HR
 obtain ⟨M, hM⟩ : ∃ M, Nm.D.pad (D.sb n) = M := ⟨_, rfl⟩
 rw [hM] at HR ⊢
 obtain ⟨sb_, hsm⟩ : ∃ b, Nm.sm M Nm.D.zero = b := ⟨_, rfl⟩
 clear hM hn hn8
 have CC := Lib.hid hC
 clear hC
 obtain ⟨Y, hY⟩ : ∃ Y : D.Nv, ⟨k, ⟨#[]⟩, M, A, m, c⟩ = Y := ⟨_, rfl⟩
 rw [hY]
 have hw2 : Blk ((w.alloc (.cells #[.int .i64 (d : Nat), .bool v] 48)).alloc (.cells (nS.v Y) 80)) (w.heap.size + 1) 80 (nS.v Y) := blk_new_ (by simp)
 have hw1 : Blk ((w.alloc (.cells #[.int .i64 (d : Nat), .bool v] 48)).alloc (.cells (nS.v Y) 80)) w.heap.size 48 #[.int .i64 (d : Nat), .bool v] := (Blk.new _ _ _).alloc _
 have hb0 : Below w.heap.size w ((w.alloc (.cells #[.int .i64 (d : Nat), .bool v] 48)).alloc (.cells (nS.v Y) 80)) := ((Below.refl _ _).alloc (Nat.le_refl _) _).alloc (by simp) _
 have f0 := nf_blk hw2
 subst hY
 obtain ⟨a0, a1, a2, a3⟩ := f0
 simp only [Nat.zero_add] at a0 a1 a2 a3
 have W2 := Lib.hid hw2
 have W1 := Lib.hid hw1
 have B0 := Lib.hid hb0
 clear hw2 hw1 hb0 hk
 go_enter Tryz.func59, Tryz.ntmps59
 go_wp2_with (first
  | (go_at_call 86; (with_reducible refine (HR.out _).mono ?_); rintro e w3 ⟨rfl, b3⟩; have n3 := W2.out.on b3; have r3 := W1.out.on b3; obtain ⟨c0, c1, c2, c3⟩ := nf_blk n3; simp only [Nat.zero_add] at c0 c1 c2 c3; have d0 : w3.cell? ⟨w.heap.size, 0, none⟩ = some (.int .i64 (d : Nat)) := r3.c_ 0; have d1 : w3.cell? ⟨w.heap.size, 1, none⟩ = some (.bool v) := r3.c_ 1; have d2 := r3.lt; have d3 := n3.lt; have B3 := Lib.hid (B0.out.trans (b3.mono B0.out.size)); clear b3 n3 r3)
  | (go_at_call 88; (with_reducible refine (CC.out _ B3.out).mono ?_); rintro e w4 ⟨rfl, b4⟩))
 go_ret
 exact ⟨rfl, B3.out.trans (b4.mono B3.out.size)⟩
end Go.Proofs.YtgnjjlgmlokhmaaGreatDoor
namespace Go.Proofs.YtgnjjlgmlokhmaaGreatDoor
namespace D
theorem prL_mem : ∀ {l : List Nd} {x : Nd}, x ∈ l -> (prN x).length <= (prL l).length
 | y :: l, x, h => by
  rw [prL, List.length_append]
  rcases List.mem_cons.1 h with rfl | h
  ·omega
  ·have := prL_mem h; omega
theorem prC_at : ∀ {ws : List (List Nat)} {ks : List (List Nd)} {j : Nat} {q : List Nd}, ws.length = ks.length -> ks[j]? = some q -> (prL q).length <= (prC ws ks).length
 | [], [], j, q, _, h => by simp at h
 | w :: ws, k :: ks, 0, q, _, h => by
  simp at h
  subst h
  simp [prC]; omega
 | w :: ws, k :: ks, j + 1, q, hl, h => by
  have := prC_at (ws := ws) (ks := ks) (j := j) (by simpa using hl) (by simpa using h)
  simp [prC]; omega
theorem prC_lenw : ∀ {ws : List (List Nat)} {ks : List (List Nd)}, ws.length = ks.length -> ws.length <= (prC ws ks).length
 | [], [], _ => by simp
 | w :: ws, k :: ks, hl => by
  have := prC_lenw (ws := ws) (ks := ks) (by simpa using hl)
  simp [prC]; omega
theorem prC_word : ∀ {ws : List (List Nat)} {ks : List (List Nd)} {t : List Nat}, ws.length = ks.length -> t ∈ ws -> t.length <= (prC ws ks).length
 | w :: ws, k :: ks, t, hl, h => by
  rcases List.mem_cons.1 h with rfl | h
  ·simp [prC]; omega
  ·have := prC_word (ws := ws) (ks := ks) (by simpa using hl) h
   simp [prC]; omega
theorem prN_cas {x : Nd} (hk : x.k = 3 ∨ x.k = 4) : (prC x.ws x.ks).length <= (prN x).length := by
 obtain ⟨k, t, n, ws, ks⟩ := x
 simp only [Nd.k] at hk
 rcases hk with rfl | rfl
 ·simp [prN, Nd.ws, Nd.ks]; omega
 ·simp [prN, Nd.ws, Nd.ks]; omega
theorem prN_txt {x : Nd} (hk : x.k = 0) : prN x = x.t := by
 obtain ⟨k, t, n, ws, ks⟩ := x
 simp only [Nd.k] at hk
 subst hk
 simp [prN, Nd.t]
theorem okLs_at {N : Nd -> Prop} : ∀ {pt : Bool} {l : List Nd} {j : Nat} {x : Nd}, okLs N pt l -> l[j]? = some x -> N x ∧ (j = 0 -> pt = true -> x.k ≠ 0) ∧ (∀ m y, j = m + 1 -> l[m]? = some y -> y.k = 0 -> x.k ≠ 0)
 | pt, [], j, x, h, e => by simp at e
 | pt, z :: l, 0, x, h, e => by
  simp at e
  subst e
  exact ⟨h.1, fun _ => h.2.1, fun m y e => by omega⟩
 | pt, z :: l, j + 1, x, h, e => by
  obtain ⟨h1, h2, h3⟩ := okLs_at (j := j) h.2.2 (by simpa using e)
  refine ⟨h1, fun e => by omega, fun m y e1 e2 e3 => ?_⟩
  obtain rfl : m = j := by omega
  cases m with
  | zero =>
   simp at e2
   subst e2
   exact h2 rfl (by simpa using e3)
  | succ m => exact h3 m y rfl (by simpa using e2) e3
def Szg (i : Nat) (o : Ot) : Prop := o.e = 0 -> i + (prL o.l).length <= i + 2 * (o.a - i) ∧ i <= o.a
theorem cas_sz {l : List Nat} {k : Nat} {nm : List Nat} {m : Nat -> Ot} (hk : k = 3 ∨ k = 4) (hm : ∀ q, q <= l.length -> Szg q (m q)) (hm2 : ∀ q, q <= l.length -> (m q).a <= l.length) : ∀ (f i : Nat) (ws : List (List Nat)) (ks : List (List Nd)), i <= l.length -> ws.length = ks.length ->
  (cas l k nm m f i ws ks).e = 0 -> ∃ x, (cas l k nm m f i ws ks).l = [x] ∧ i < (cas l k nm m f i ws ks).a ∧ (prN x).length + 2 * i <= 11 + nm.length + (prC ws ks).length + 2 * ((cas l k nm m f i ws ks).a - 1)
 | 0, i, ws, ks, _, _, h => by simp [cas, er_] at h
 | f + 1, i, ws, ks, hi, hl, h => by
  have hF : far wdB l i <= l.length := far_le hi
  have hG := far_ge wdB l i
  rw [cas] at h ⊢
  split at h
  ·rename_i h0
   rw [if_pos h0]
   split at h
   ·simp [er_] at h
   ·rename_i h1
    rw [if_neg h1]
    split at h
    ·simp [er_] at h
    ·rename_i h2
     rw [if_neg h2]
     refine ⟨_, rfl, Nat.lt_succ_self i, ?_⟩
     rcases hk with rfl | rfl
     ·simp [prN, pluP]; omega
     ·simp [prN, selP]; omega
  ·rename_i h0
   rw [if_neg h0]
   split at h
   ·rename_i h1
    simp [er_] at h
    exact absurd h h1
   ·rename_i h1
    rw [if_neg h1]
    split at h
    ·simp [er_] at h
    ·rename_i h2
     rw [if_neg h2]
     have h2' : l[far wdB l i]? = some 123 := by simpa using h2
     have hf := (List.getElem?_eq_some_iff.1 h2').1
     split at h
     ·rename_i h3; exact absurd h h3
     ·rename_i h3
      rw [if_neg h3]
      split at h
      ·simp [er_] at h
      ·rename_i h4
       rw [if_neg h4]
       have h4' : l[(m (far wdB l i + 1)).a]? = some 125 := by simpa using h4
       have hf4 := (List.getElem?_eq_some_iff.1 h4').1
       have hsz := hm (far wdB l i + 1) (by omega) (by simpa using h3)
       have hB := far_ge (· == 32) l ((m (far wdB l i + 1)).a + 1)
       obtain ⟨x, e1, e2, e3⟩ := cas_sz hk hm hm2 f (far (· == 32) l ((m (far wdB l i + 1)).a + 1)) (ws ++ [sub l i (far wdB l i)]) (ks ++ [(m (far wdB l i + 1)).l]) (far_le (by omega)) (by simp [hl]) h
       refine ⟨x, e1, by omega, ?_⟩
       have hc : (prC (ws ++ [sub l i (far wdB l i)]) (ks ++ [(m (far wdB l i + 1)).l])).length = (prC ws ks).length + ((far wdB l i - i) + 3 + (prL (m (far wdB l i + 1)).l).length) := by
        have happ : ∀ (ws : List (List Nat)) (ks : List (List Nd)) (w : List Nat) (q : List Nd), ws.length = ks.length -> (prC (ws ++ [w]) (ks ++ [q])).length = (prC ws ks).length + (w.length + 3 + (prL q).length) := by
         intro ws
         induction ws with
         | nil => intro ks w q hl; cases ks with
          | nil => simp [prC]; omega
          | cons _ _ => simp at hl
         | cons a ws ih => intro ks w q hl; cases ks with
          | nil => simp at hl
          | cons b ks =>
           have := ih ks w q (by simpa using hl)
           simp [prC] at this ⊢; omega
        rw [happ _ _ _ _ hl]
        have : (sub l i (far wdB l i)).length = far wdB l i - i := by simp [sub]; omega
        rw [this]
       rw [hc] at e3
       omega
theorem plc_sz {l : List Nat} {m : Bool -> Nat -> Ot} {dp w : Bool} (hm : dp = false -> ∀ v q, q <= l.length -> Szg q (m v q) ∧ (m v q).a <= l.length) {i : Nat} (hi : i <= l.length) (h : (plc l m dp w i).e = 0) : ∃ x, (plc l m dp w i).l = [x] ∧ i < (plc l m dp w i).a ∧ (prN x).length <= 1 + 2 * ((plc l m dp w i).a - i) := by
 have hK : far wdB l i <= l.length := far_le hi
 have hK1 := far_ge wdB l i
 unfold plc at h ⊢
 simp only at h ⊢
 have hsub : (sub l i (far wdB l i)).length = far wdB l i - i := by simp [sub]; omega
 split at h
 ·simp [er_] at h
 ·rename_i h1
  rw [if_neg h1]
  split at h
  ·simp [er_] at h
  ·rename_i h2
   rw [if_neg h2]
   split at h
   ·rename_i h3
    rw [if_pos h3]
    exact ⟨_, rfl, by show i < _ + 1; omega, by simp [prN, hsub]; omega⟩
   ·rename_i h3
    rw [if_neg h3]
    split at h
    ·simp [er_] at h
    ·rename_i h4
     rw [if_neg h4]
     have h4' : l[far wdB l i]? = some 44 := by simpa using h4
     have hf4 := (List.getElem?_eq_some_iff.1 h4').1
     have hJ : far (· == 32) l (far wdB l i + 1) <= l.length := far_le (by omega)
     have hJ1 := far_ge (· == 32) l (far wdB l i + 1)
     have hQ : far wdB l (far (· == 32) l (far wdB l i + 1)) <= l.length := far_le hJ
     have hQ1 := far_ge wdB l (far (· == 32) l (far wdB l i + 1))
     split at h
     ·simp [er_] at h
     ·rename_i h5
      rw [if_neg h5]
      split at h
      ·simp [er_] at h
      ·rename_i h6
       rw [if_neg h6]
       have hkl : ∀ k, kndT (sub l (far (· == 32) l (far wdB l i + 1)) (far wdB l (far (· == 32) l (far wdB l i + 1)))) = k -> k ≠ 0 -> far (· == 32) l (far wdB l i + 1) + 6 <= far wdB l (far (· == 32) l (far wdB l i + 1)) := by
        intro k hk hk0
        have hlen : (sub l (far (· == 32) l (far wdB l i + 1)) (far wdB l (far (· == 32) l (far wdB l i + 1)))).length = far wdB l (far (· == 32) l (far wdB l i + 1)) - far (· == 32) l (far wdB l i + 1) := by simp [sub]; omega
        have : (sub l (far (· == 32) l (far wdB l i + 1)) (far wdB l (far (· == 32) l (far wdB l i + 1)))).length = 6 := by
         unfold kndT at hk
         split at hk
         ·rename_i e; rw [e]; rfl
         ·split at hk
          ·rename_i e; rw [e]; rfl
          ·split at hk
           ·rename_i e; rw [e]; rfl
           ·exact absurd hk.symm hk0
        omega
       split at h
       ·rename_i h7
        rw [if_pos h7]
        have h66 := hkl 2 h7 (by decide)
        split at h
        ·simp [er_] at h
        ·rename_i h8
         rw [if_neg h8]
         exact ⟨_, rfl, by show i < _ + 1; omega, by simp [prN, numP, hsub]; omega⟩
       ·rename_i h7
        rw [if_neg h7]
        split at h
        ·simp [er_] at h
        ·rename_i h8
         rw [if_neg h8]
         split at h
         ·simp [er_] at h
         ·rename_i h9
          rw [if_neg h9]
          have h9' : l[far wdB l (far (· == 32) l (far wdB l i + 1))]? = some 44 := by simpa using h9
          have hf9 := (List.getElem?_eq_some_iff.1 h9').1
          have hk34 : kndT (sub l (far (· == 32) l (far wdB l i + 1)) (far wdB l (far (· == 32) l (far wdB l i + 1)))) = 3 ∨ kndT (sub l (far (· == 32) l (far wdB l i + 1)) (far wdB l (far (· == 32) l (far wdB l i + 1)))) = 4 := by
           rcases knd_cases (sub l (far (· == 32) l (far wdB l i + 1)) (far wdB l (far (· == 32) l (far wdB l i + 1)))) with e | e | e | e
           ·exact absurd e h6
           ·exact absurd e h7
           ·exact .inl e
           ·exact .inr e
          have h66 := hkl _ rfl h6
          have hB := far_ge (· == 32) l (far wdB l (far (· == 32) l (far wdB l i + 1)) + 1)
          have hmm := hm (by simpa using h8)
          obtain ⟨M, hM⟩ : ∃ M, m (w || kndT (sub l (far (· == 32) l (far wdB l i + 1)) (far wdB l (far (· == 32) l (far wdB l i + 1)))) == 3) = M := ⟨_, rfl⟩
          rw [hM] at h ⊢
          obtain ⟨kk, hkk⟩ : ∃ kk, kndT (sub l (far (· == 32) l (far wdB l i + 1)) (far wdB l (far (· == 32) l (far wdB l i + 1)))) = kk := ⟨_, rfl⟩
          rw [hkk] at h hk34 ⊢
          obtain ⟨B, hBB⟩ : ∃ B, far (· == 32) l (far wdB l (far (· == 32) l (far wdB l i + 1)) + 1) = B := ⟨_, rfl⟩
          have hBl : B <= l.length := by rw [<- hBB]; exact far_le (by omega)
          rw [hBB] at h hB ⊢
          obtain ⟨x, e1, e2, e3⟩ := cas_sz (nm := sub l i (far wdB l i)) (m := M) hk34 (fun q hq => by rw [<- hM]; exact (hmm _ q hq).1) (fun q hq => by rw [<- hM]; exact (hmm _ q hq).2) (l.length + 1) B [] [] hBl rfl h
          refine ⟨x, e1, by omega, ?_⟩
          simp only [prC, hsub, List.length_nil] at e3
          omega
theorem mes_sz {l : List Nat} {w : Bool} {p : Nat -> Ot} (hp : ∀ q, q <= l.length -> (p q).a <= l.length ∧ ((p q).e = 0 -> ∃ x, (p q).l = [x] ∧ q < (p q).a ∧ (prN x).length <= 1 + 2 * ((p q).a - q))) (i0 : Nat) : ∀ (f i : Nat) (acc : List Nd), i <= l.length -> i0 <= i -> (prL acc).length <= 2 * (i - i0) -> (mes l w p f i acc).e = 0 -> i0 <= (mes l w p f i acc).a ∧ (prL (mes l w p f i acc).l).length <= 2 * ((mes l w p f i acc).a - i0)
 | 0, i, acc, hi, h0, ha, h => by rw [mes]; exact ⟨h0, ha⟩
 | f + 1, i, acc, hi, h0, ha, h => by
  have hF : far (plB w) l i <= l.length := far_le hi
  have hG := far_ge (plB w) l i
  obtain ⟨X, hX⟩ : ∃ X, (if i < far (plB w) l i then acc ++ [.mk 0 (sub l i (far (plB w) l i)) [] [] []] else acc) = X := ⟨_, rfl⟩
  have hXl : (prL X).length <= 2 * (far (plB w) l i - i0) := by
   rw [<- hX]
   split
   ·have : (sub l i (far (plB w) l i)).length = far (plB w) l i - i := by simp [sub]; omega
    rw [prL_app]
    simp [prL, prN, this]; omega
   ·omega
  rw [mes_eq rfl hX] at h ⊢
  split at h
  ·rename_i h5
   rw [if_pos h5]
   have hl5 := (List.getElem?_eq_some_iff.1 h5).1
   exact mes_sz hp i0 f _ _ (by omega) (by omega) (by rw [prL_app]; simp [prL, prN]; omega) h
  ·rename_i h5
   rw [if_neg h5]
   split at h
   ·rename_i h6
    rw [if_pos h6]
    exact ⟨by show i0 <= far (plB w) l i; omega, hXl⟩
   ·rename_i h6
    rw [if_neg h6]
    have h6' : l[far (plB w) l i]? = some 123 := by simpa using h6
    have hl6 := (List.getElem?_eq_some_iff.1 h6').1
    split at h
    ·rename_i h7; exact absurd h h7
    ·rename_i h7
     rw [if_neg h7]
     obtain ⟨q1, q2⟩ := hp (far (plB w) l i + 1) (by omega)
     obtain ⟨x, e1, e2, e3⟩ := q2 (by simpa using h7)
     refine mes_sz hp i0 f _ _ q1 (by omega) ?_ h
     rw [e1, prL_app]
     simp [prL]; omega
end D
end Go.Proofs.YtgnjjlgmlokhmaaGreatDoor
namespace Go.Proofs.YtgnjjlgmlokhmaaGreatDoor
open Go.RowKit
attribute [local go_sem ↓] Go.wp_at_zero Go.wp_at_succ Nm.ld_a Nm.ld_n Nm.st_a Nm.st_n Nm.lv_a Nm.lv_n ld_nd lv_nd st_nd bd_nd bs_nd
attribute [local go_sem] Nm.run_ld_a Nm.run_ld_n Nm.run_lv_a Nm.run_lv_n Nm.rd_new Nm.rd_old Nm.rd_drew Nm.rd_drewN Nm.st_z run_lvnd run_ldnd run_stnd_new run_bsnd run_bdnd_1 run_bdnd_5 run_bdnd_0 Shp.rd_new Shp.rd_old Shp.rd_drew Shp.rd_drewN

theorem D.msg_szg (l : List Nat) : ∀ (r : Nat) (w : Bool) (i : Nat), i <= l.length -> D.Szg i (D.msg l r w i)
 | 0, w, i, hi => fun h => by
  have := D.mes_sz (l := l) (w := w) (p := D.plc l (fun _ i => D.er_ i 19) true w) (fun q hq => ⟨D.plc_le (fun h => by cases h) hq, fun h => D.plc_sz (fun h => by cases h) hq h⟩) i (l.length + 1) i [] hi (Nat.le_refl _) (by simp [D.prL]) h
  exact ⟨by have := this.2; rw [D.msg]; omega, this.1⟩
 | r + 1, w, i, hi => fun h => by
  have := D.mes_sz (l := l) (w := w) (p := D.plc l (D.msg l r) false w) (fun q hq => ⟨D.plc_le (fun _ v q' hq' => D.msg_le l r v q' hq') hq, fun h => D.plc_sz (fun _ v q' hq' => ⟨D.msg_szg l r v q' hq', D.msg_le l r v q' hq'⟩) hq h⟩) i (l.length + 1) i [] hi (Nat.le_refl _) (by simp [D.prL]) h
  exact ⟨by have := this.2; rw [D.msg]; omega, this.1⟩
theorem D.rdM_sz {l : List Nat} (h : (D.rdM l).e = 0) : (D.prL (D.rdM l).l).length <= 120 := by
 unfold D.rdM at h ⊢
 split at h
 ·cases h
 ·rename_i h60
  rw [if_neg h60]
  simp only at h ⊢
  split at h
  ·rename_i he; exact absurd h he
  ·rename_i he
   rw [if_neg he]
   split at h
   ·cases h
   ·rename_i hlt
    rw [if_neg hlt]
    have h1 := D.msg_szg l 3 false 0 (Nat.zero_le _) (by simpa using he)
    have h2 := D.msg_le l 3 false 0 (Nat.zero_le _)
    show (D.prL (D.msg l 3 false 0).l).length <= 120
    have := h1.1
    omega
theorem rw_at {w : World} {A : Option Addr} {n j : Nat} {ys : List D.Nv} {y : D.Nv} (h : Rw 15 w A n (nS.rcs ys)) (hj : ys[j]? = some y) : ∃ ad, A = some ad ∧ ad.block < w.heap.size ∧ nS.rd w (ad.add (j * 15)) = some y ∧ w.cell? (ad.add (j * 15)) = some (.int .i64 (y.k : Nat)) := by
 have h0 : (nS.cs y)[0]? = some (.int .i64 (y.k : Nat)) := rfl
 have h1 := Shp.rcs_at hj 0 _ h0
 obtain ⟨ad, rfl, hl, hc⟩ := h.cell h1
 refine ⟨ad, rfl, hl, Shp.rd_of fun i u hu => ?_, hc⟩
 obtain ⟨ad', e, _, hc'⟩ := h.cell (Shp.rcs_at hj i u hu)
 cases e
 rw [add_of_add]
 exact hc'
theorem nvs_at {vs : List (D.Nd × D.Sl)} {j : Nat} {x : D.Nd} {p : D.Sl} (h : vs[j]? = some (x, p)) : (nvs vs)[j]? = some (nv x p.A p.m p.c) := by simp [nvs, h]
theorem ccs_kids {r : Nat} {F : Nat -> Prop} {w : World} {cs : List (List Nat × Value)} {ks : List (List D.Nd)} (hl : cs.length = ks.length) (h : ∀ (j : Nat) (t : List Nat) (u : Value) (q : List D.Nd), cs[j]? = some (t, u) -> ks[j]? = some q -> Pm F w r u q) : ∀ x ∈ cs, ∃ (A : Option Addr) (n c : Nat), x.2 = .slice A n c := by
 intro x hx
 obtain ⟨j, hj, e⟩ := List.mem_iff_getElem.1 hx
 have h1 : cs[j]? = some (x.1, x.2) := by rw [List.getElem?_eq_getElem hj, e]
 have h2 : ks[j]? = some (ks[j]'(by omega)) := List.getElem?_eq_getElem _
 obtain ⟨A, n, c, _, e, _⟩ := (Pm_eq F w r _ _).1 (h j _ _ _ h1 h2)
 exact ⟨A, n, c, e⟩
def TellP (d : Nat) (v : Bool) (w : World) (y : D.Nv) : Prop := ∀ W, Below w.heap.size w W -> Calls Tryz.prog 59 #[.agg #[.int .i64 (d : Nat), .bool v], .agg (nS.v y)] W fun e w' => e = .returned (.bool true) ∧ Below W.heap.size W w'
theorem leaf_m {r : Nat} {F : Nat -> Prop} {w : World} {x : D.Nd} {p : D.Sl} (h : Pel (Pk F w r) F w x p) (hk : x.ks = []) : p.m = 0 := by
 obtain ⟨_, _, cs, hr, _, _, hl, _⟩ := h
 have := hr.row.len
 rw [ccs_len, hl, hk] at this
 simp at this
 omega
theorem tellP_any {F : Nat -> Prop} {w : World} {r d : Nat} {v ch : Bool} {kids : Bool -> List D.Nd -> Prop} {x : D.Nd} {p : D.Sl} (hx : D.okNd ch kids v x) (hp : Pel (Pk F w r) F w x p) (hch : ch = true -> ∃ r', r = r' + 1 ∧ d < 3) (hsz : (D.prN x).length <= 1000) (hE : Env w)
  (hK : ch = true -> ∀ r', r = r' + 1 -> ∀ (u : Value) (q : List D.Nd) (W : World), kids (v || x.k == 3) q -> (D.prL q).length <= 1000 -> Pm F W r' u q -> Env W -> Calls Tryz.prog 32 #[.agg #[.int .i64 ((d : Int) + 1), .bool (v || x.k == 3)], u] W fun e w' => e = .returned (.bool true) ∧ Below W.heap.size W w') :
  TellP d v w (nv x p.A p.m p.c) := by
 intro W hb
 obtain ⟨k, t, n, ws, ks⟩ := x
 obtain ⟨A, m, c⟩ := p
 rcases hx with ⟨e, e1, e2, e3, e4, e5⟩ | ⟨e, hw⟩ | ⟨hk, ht, hws, hks, hn⟩ | ⟨hk, hc, ht, hn, hl, ho, hwd, hkd⟩
 ·simp only [D.Nd.k, D.Nd.n, D.Nd.ws, D.Nd.ks, D.Nd.t] at e e1 e2 e3 e4 e5
  subst e e1 e2 e3
  have hm := leaf_m hp rfl
  simp only at hm
  subst hm
  have h8 := hp.1.1
  exact tellPart_text d 0 c v t A W rfl (by rw [D.prN_txt rfl] at hsz; exact hsz) h8 e4 e5
 ·injection e with e1 e2 e3 e4 e5
  subst e1 e2 e3 e4 e5
  have hm := leaf_m hp rfl
  simp only at hm
  subst hm
  exact tellPart_sign d 5 c v A W rfl hw
 ·simp only [D.Nd.k, D.Nd.n, D.Nd.ws, D.Nd.ks, D.Nd.t] at hk ht hws hks hn
  subst ht hws hks
  have hm := leaf_m hp rfl
  simp only at hm
  subst hm
  rcases hk with rfl | rfl
  ·exact tellPart_arg d 1 c v n A W rfl hn hp.1.2.1
  ·exact tellPart_num d 2 c v n A W rfl hn hp.1.2.1
 ·simp only [D.Nd.k, D.Nd.n, D.Nd.ws, D.Nd.ks, D.Nd.t] at hk ht hn hl ho hwd hkd hK
  subst ht
  obtain ⟨r', rfl, hd⟩ := hch hc
  obtain ⟨hbt, hcap, cs, hr, hcw, h1c, hcl, hkk⟩ := hp
  simp only [D.Nd.ks, D.Nd.ws] at hcw hcl hkk
  have hcz : (D.prC ws ks).length <= 1000 := by
   have := D.prN_cas (x := .mk k [] n ws ks) hk
   simp only [D.Nd.ks, D.Nd.ws] at this
   omega
  have hmn : m <= 1000 := by
   have h1 := hr.row.len
   simp only [ccs_len] at h1
   have h2 := D.prC_lenw hl
   omega
  have hC : ∀ W', Below W.heap.size W W' -> Calls Tryz.prog 88 #[.agg #[.int .i64 (d : Nat), .bool v], .int .i64 (k : Nat), .slice A m c] W' fun e w' => e = .returned (.bool true) ∧ Below W'.heap.size W' w' := by
   intro W' hb'
   have hb2 : Below w.heap.size w W' := hb.trans (hb'.mono hb.size)
   refine tellCases_yes A m c d k v cs W' hd hk (hr.row.on hb2) hmn (ccs_kids hcl hkk) (by rw [hcw]; exact hbt.2.2) (fun x hx => ?_) (by rw [hcw]; exact hwd) (by rw [hcw]; exact ho) (hE.on hb2) (fun j t u hj W'' hb'' => ?_)
   ·have : x.1 ∈ ws := by rw [<- hcw]; exact List.mem_map_of_mem hx
    have := D.prC_word hl this
    omega
   ·have hjl := (List.getElem?_eq_some_iff.1 hj).1
    have hq : ks[j]? = some (ks[j]'(by omega)) := List.getElem?_eq_getElem _
    have hb3 : Below w.heap.size w W'' := hb2.trans (hb''.mono hb2.size)
    exact hK hc r' rfl u _ W'' (hkd _ (List.getElem_mem _)) (by have := D.prC_at hl hq; omega) ((hkk j t u _ hj hq).keep (keeps_below hb3)) (hE.on hb3)
  rcases hk with rfl | rfl
  ·exact tellPart_plu d 3 m c v n A W rfl hn hbt.2.1 hC
  ·exact tellPart_sel d 4 m c v n A W rfl hn hbt.2.1 hC
set_option maxHeartbeats 4000000 in
theorem tell_row (d n c : Nat) (v : Bool) (A : Option Addr) (vs : List (D.Nd × D.Sl)) (w : World) (hd : d <= 3) (hr : Rw 15 w A n (nS.rcs (nvs vs))) (hn : n <= 1000)
  (hp : ∀ (j : Nat) (x : D.Nd) (p : D.Sl), vs[j]? = some (x, p) -> TellP d v w (nv x p.A p.m p.c)) (hadj : ∀ (j : Nat) (x y : D.Nd) (p q : D.Sl), vs[j]? = some (y, q) -> vs[j + 1]? = some (x, p) -> y.k = 0 -> x.k ≠ 0) :
  Calls Tryz.prog 32 #[.agg #[.int .i64 (d : Nat), .bool v], .slice A n c] w fun e w' => e = .returned (.bool true) ∧ Below w.heap.size w w' := by
 have hlen := hr.len
 rw [Shp.rcs_len, nvs_len, show nS.n = 15 from rfl] at hlen
 have hlen : vs.length = n := by omega
 have HR := Lib.hid hr
 have HP := Lib.hid hp
 have HA := Lib.hid hadj
 clear hr hp hadj
 go_enter Tryz.func32, Tryz.ntmps32
 go_wp2_with fail
 go_loopw [9] (fun i wr => ∃ j : Nat, j <= n ∧ i = .int .i64 j ∧ Hid (Blk wr w.heap.size 48 #[.int .i64 (d : Nat), .bool v]) ∧ Hid (Below w.heap.size w wr)) (fun i _ => n - (intOf i).toNat)
 case atStart => exact ⟨0, Nat.zero_le _, rfl, Lib.hid (Blk.new _ _ _), Lib.hid (below_alloc_ _ _)⟩
 case round =>
  obtain ⟨j, hj, rfl, HB, HZ⟩ := hrel
  obtain ⟨wo, rfl⟩ : ∃ wo : World, wo = wr := ⟨_, rfl⟩
  by_cases hlt : j < n
  ·obtain ⟨⟨x, p⟩, ht⟩ : ∃ a, vs[j]? = some a := ⟨_, List.getElem?_eq_getElem (by omega)⟩
   obtain ⟨ad, rfl, hbk, hrd, hck⟩ := rw_at (HR.out.on HZ.out) (nvs_at ht)
   obtain ⟨Y, hY⟩ : ∃ Y, nv x p.A p.m p.c = Y := ⟨_, rfl⟩
   have hpY := HP.out j x p ht
   have hYk : Y.k = x.k := by rw [<- hY]; rfl
   rw [hY] at hrd hck hpY
   have HT := Lib.hid hpY
   have hI : (j : Int) < n := by omega
   have hN : Blk (wo.alloc (.cells (nS.v Y) 80)) wo.heap.size 80 (nS.v Y) := Blk.new _ _ _
   have n0 : (wo.alloc (.cells (nS.v Y) 80)).cell? ⟨wo.heap.size, 0, none⟩ = some (.int .i64 (Y.k : Nat)) := nd_c0 hN
   have n1 := nd_rd hN
   have hB1 := HB.out.alloc (.cells (nS.v Y) 80)
   have q0 : (wo.alloc (.cells (nS.v Y) 80)).cell? ⟨w.heap.size, 0, none⟩ = some (.int .i64 (d : Nat)) := hB1.c_ 0
   have q1 : (wo.alloc (.cells (nS.v Y) 80)).cell? ⟨w.heap.size, 1, none⟩ = some (.bool v) := hB1.c_ 1
   have q2 := hB1.lt
   have CT := Lib.hid (hpY (wo.alloc (.cells (nS.v Y) 80)) (HZ.out.trans ((below_alloc_ _ _).mono HZ.out.size)))
   clear hpY HT hB1 hN HP
   by_cases hk0 : Y.k = 0
   ·have i0 : ((Y.k : Int) == 0) = true := by simp; omega
    by_cases hj0 : j = 0
    ·have iz : ¬ (0 : Int) < (j : Int) := by omega
     have iz' : (j : Int) <= 0 := by omega
     clear hk0 hYk ht HA hj0
     go_wp2_with (go_at_call 59; (with_reducible refine CT.out.mono ?_); rintro e w1 ⟨rfl, b1⟩; have B1 := Lib.hid b1; clear b1)
     go_roundw
     case rel => exact ⟨j + 1, by omega, by go_num, Lib.hid ((HB.out.alloc _).on B1.out), Lib.hid (HZ.out.trans (((below_alloc_ _ _).trans (B1.out.mono (by simp))).mono HZ.out.size))⟩
     case measure => simp [intOf]; omega
    ·obtain ⟨m, hm⟩ : ∃ m, j = m + 1 := ⟨j - 1, by omega⟩
     obtain ⟨⟨y, q⟩, hty⟩ : ∃ a, vs[m]? = some a := ⟨_, List.getElem?_eq_getElem (by omega)⟩
     obtain ⟨ad', hA', hbk', hrd', hck'⟩ := rw_at ((HR.out.on HZ.out).alloc (.cells (nS.v Y) 80)) (nvs_at hty)
     cases hA'
     have hyk : y.k ≠ 0 := fun e => HA.out m x y p q hty (by rw [<- hm]; exact ht) e (by omega)
     obtain ⟨ky, hky⟩ : ∃ ky, y.k = ky := ⟨_, rfl⟩
     have hck2 : (wo.alloc (.cells (nS.v Y) 80)).cell? (ad.add (m * 15)) = some (.int .i64 (ky : Nat)) := by rw [<- hky]; exact hck'
     have iy : ((ky : Int) == 0) = false := by simp; omega
     have im : (0 : Int) < (j : Int) := by omega
     have im1 : (j : Int) - 1 = (m : Int) := by omega
     have im2 : (m : Int) < n := by omega
     clear hk0 hYk ht HA hck' hrd' hbk' hky hyk hm hj0
     go_wp2_with (go_at_call 59; (with_reducible refine CT.out.mono ?_); rintro e w1 ⟨rfl, b1⟩; have B1 := Lib.hid b1; clear b1)
     go_roundw
     case rel => exact ⟨j + 1, by omega, by go_num, Lib.hid ((HB.out.alloc _).on B1.out), Lib.hid (HZ.out.trans (((below_alloc_ _ _).trans (B1.out.mono (by simp))).mono HZ.out.size))⟩
     case measure => simp [intOf]; omega
   ·have i0 : ((Y.k : Int) == 0) = false := by simp; omega
    clear hk0 hYk ht HA
    go_wp2_with (go_at_call 59; (with_reducible refine CT.out.mono ?_); rintro e w1 ⟨rfl, b1⟩; have B1 := Lib.hid b1; clear b1)
    go_roundw
    case rel => exact ⟨j + 1, by omega, by go_num, Lib.hid ((HB.out.alloc _).on B1.out), Lib.hid (HZ.out.trans (((below_alloc_ _ _).trans (B1.out.mono (by simp))).mono HZ.out.size))⟩
    case measure => simp [intOf]; omega
  ·obtain rfl : j = n := by omega
   go_wp2
   go_ret
   exact ⟨rfl, HZ.out⟩
theorem vs_list {vs : List (D.Nd × D.Sl)} {l : List D.Nd} {j : Nat} {x : D.Nd} {p : D.Sl} (hl : vs.map (·.1) = l) (h : vs[j]? = some (x, p)) : l[j]? = some x := by rw [<- hl]; simp [h]
theorem tell_any : ∀ (r d : Nat), d + r = 3 -> ∀ (v : Bool) (F : Nat -> Prop) (w : World) (u : Value) (l : List D.Nd), Pm F w r u l -> D.Rt r v l -> (D.prL l).length <= 1000 -> Env w ->
  Calls Tryz.prog 32 #[.agg #[.int .i64 (d : Nat), .bool v], u] w fun e w' => e = .returned (.bool true) ∧ Below w.heap.size w w'
 | 0, d, hdr, v, F, w, u, l, hP, hR, hsz, hE => by
  obtain ⟨A, n, c, vs, rfl, hc, hr, hl, hb⟩ := (Pm_eq F w 0 _ _).1 hP
  have hn : n <= 1000 := by
   have h1 := hr.row.len
   rw [Shp.rcs_len, nvs_len, show nS.n = 15 from rfl] at h1
   have h2 := D.len_le hR
   have h3 : l.length = vs.length := by rw [<- hl]; simp
   omega
  refine tell_row d n c v A vs w (by omega) hr.row hn (fun j x p hj => ?_) (fun j x y p q hy hx hk => ?_)
  ·have hx := vs_list hl hj
   have h1 := D.okLs_at hR hx
   exact tellP_any h1.1 (hb j x p hj) (fun h => by cases h) (by have := D.prL_mem (List.mem_of_getElem? hx); omega) hE (fun h => by cases h)
  ·exact (D.okLs_at hR (vs_list hl hx)).2.2 j y rfl (vs_list hl hy) hk
 | r + 1, d, hdr, v, F, w, u, l, hP, hR, hsz, hE => by
  obtain ⟨A, n, c, vs, rfl, hc, hr, hl, hb⟩ := (Pm_eq F w (r + 1) _ _).1 hP
  have hn : n <= 1000 := by
   have h1 := hr.row.len
   rw [Shp.rcs_len, nvs_len, show nS.n = 15 from rfl] at h1
   have h2 := D.len_le hR
   have h3 : l.length = vs.length := by rw [<- hl]; simp
   omega
  refine tell_row d n c v A vs w (by omega) hr.row hn (fun j x p hj => ?_) (fun j x y p q hy hx hk => ?_)
  ·have hx := vs_list hl hj
   have h1 := D.okLs_at hR hx
   refine tellP_any h1.1 (hb j x p hj) (fun _ => ⟨r, rfl, by omega⟩) (by have := D.prL_mem (List.mem_of_getElem? hx); omega) hE (fun _ r' hr' u q W hq hqs hP' hE' => ?_)
   obtain rfl : r = r' := by omega
   have := tell_any r (d + 1) (by omega) (v || x.k == 3) F W u q hP' hq hqs hE'
   rw [show ((d + 1 : Nat) : Int) = (d : Int) + 1 by omega] at this
   exact this
  ·exact (D.okLs_at hR (vs_list hl hx)).2.2 j y rfl (vs_list hl hy) hk
end Go.Proofs.YtgnjjlgmlokhmaaGreatDoor
