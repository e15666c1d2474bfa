/-
  The program holds two lists of parts against each other.
  The program: the first parts of a pair of lists.
  append, as one operation of a drawn region; a frame carried on.
-/
import Derived.Test.YtohhfcfnclafdaaGreatDoorG34
import Derived.Test.YtohhfcfnclafdaaGreatDoorG33
set_option linter.unusedVariables false
set_option linter.unusedSimpArgs false
set_option maxRecDepth 100000
namespace Go.Proofs.YtohhfcfnclafdaaGreatDoor
open Go.RowKit
attribute [local go_sem ↓] Go.wp_at_zero Go.wp_at_succ Nm.ld_a Nm.ld_n Nm.st_a Nm.st_n Nm.lv_a Nm.lv_n Nm.eq_a Nm.eq_n Nm.ne_a Nm.ne_n ld_nd lv_nd st_nd bd_nd bs_nd
attribute [local go_sem] Nm.run_ld_a Nm.run_ld_n Nm.run_lv_a Nm.run_lv_n Nm.run_eq_a Nm.run_eq_n Nm.run_ne_a Nm.run_ne_n Nm.rd_new Nm.rd_old Nm.rd_drew Nm.rd_drewN Nm.st_z run_lvnd run_ldnd run_stnd_new run_bsnd run_bdnd_1 run_bdnd_5 run_bdnd_0 Shp.rd_new Shp.rd_old Shp.rd_drew Shp.rd_drewN

set_option maxHeartbeats 4000000 in
theorem eqNodes_row (A B : Option Addr) (n m c d : Nat) (vs us : List D.Nv) (eq : Nat → Bool) (w : World) (hr : Rw 15 w A n (nS.rcs vs)) (hs : Rw 15 w B m (nS.rcs us)) (hn : n ≤ 1000000)
    (hp : ∀ (j : Nat) (y y' : D.Nv), vs[j]? = some y → us[j]? = some y' → ∀ W, Below w.heap.size w W → Calls Tryz.prog 45 #[.agg (nS.v y), .agg (nS.v y')] W fun e w' => e = .returned (.bool (eq j)) ∧ Below W.heap.size W w') :
    Calls Tryz.prog 44 #[.slice A n c, .slice B m d, .func (.func 45) #[] #[]] w fun e w' => (∃ b, (b = true ↔ n = m ∧ ∀ j, j < n → eq j = true) ∧ e = .returned (.bool b)) ∧ Below w.heap.size w w' := by
  have hlen := hr.len
  rw [Shp.rcs_len, show nS.n = 15 from rfl] at hlen
  have hlen : vs.length = n := by omega
  have hlen2 := hs.len
  rw [Shp.rcs_len, show nS.n = 15 from rfl] at hlen2
  have hlen2 : us.length = m := by omega
  have HR := Lib.hid hr
  have HS := Lib.hid hs
  have HP := Lib.hid hp
  clear hr hs hp
  by_cases hnm : n = m
  · have i0 : ((n : Int) != (m : Int)) = false := by simp [hnm]
    go_enter Tryz.func44, Tryz.ntmps44
    go_wp2_with fail
    go_loopw [17] (fun a wr => ∃ k : Nat, k ≤ n ∧ a = .int .i64 k ∧ Kept (∀ j, j < k → eq j = true) ∧ Hid (Below w.heap.size w wr)) (fun a _ => n - (intOf a).toNat)
    case atStart => exact ⟨0, Nat.zero_le _, rfl, ⟨fun j hj => by omega⟩, Lib.hid (Below.refl _ _)⟩
    case round =>
      obtain ⟨k, hk, rfl, HN, Z⟩ := hrel
      obtain ⟨wo, rfl⟩ : ∃ wo : World, wo = wr := ⟨_, rfl⟩
      by_cases hlt : k < n
      · obtain ⟨Y, ha⟩ : ∃ a, vs[k]? = some a := ⟨_, List.getElem?_eq_getElem (by omega)⟩
        obtain ⟨Y', ha'⟩ : ∃ a, us[k]? = some a := ⟨_, List.getElem?_eq_getElem (by omega)⟩
        have C := Lib.hid (HP.out k Y Y' ha ha')
        obtain ⟨ad, rfl, hbk, hrd, _⟩ := rw_at (HR.out.on Z.out) ha
        obtain ⟨ae, rfl, hbk', hrd', _⟩ := rw_at (HS.out.on Z.out) ha'
        have hI : (k : Int) < n := by omega
        have hI' : (k : Int) < m := by omega
        have n1 : nS.rd (wo.alloc (.cells (nS.v Y) 116)) (ae.add (k * 15)) = some Y' := (Shp.rd_old _ _ _ (by rw [block_of_add]; exact hbk')).trans hrd'
        have n2 : nS.rd ((wo.alloc (.cells (nS.v Y) 116)).alloc (.cells (nS.v Y') 116)) ⟨wo.heap.size, 0, none⟩ = some Y := (Shp.rd_old _ _ _ (by simp)).trans (Shp.rd_new _ _ _ _ rfl)
        have n3 : nS.rd ((wo.alloc (.cells (nS.v Y) 116)).alloc (.cells (nS.v Y') 116)) ⟨wo.heap.size + 1, 0, none⟩ = some Y' := Shp.rd_new _ _ _ _ (by simp)
        have B2 := Lib.hid (Z.out.trans ((((below_alloc_ wo (.cells (nS.v Y) 116)).alloc (by simp) (.cells (nS.v Y') 116))).mono Z.out.size))
        clear ha ha' hnm
        cases e : eq k
        · rw [e] at C
          have HF : Kept (¬ ∀ j, j < n → eq j = true) := ⟨fun h => by have := h k hlt; rw [e] at this; cases this⟩
          clear HN e HP
          go_wp2_with (go_at_call 45; (with_reducible refine (C.out _ B2.out).mono ?_); rintro e w1 ⟨rfl, b1⟩; have B1 := Lib.hid b1; clear b1)
          go_ret
          exact ⟨⟨false, ⟨(fun h => by cases h), fun h => absurd h.2 HF.out⟩, rfl⟩, B2.out.trans (B1.out.mono B2.out.size)⟩
        · rw [e] at C
          have HN' : Kept (∀ j, j < k + 1 → eq j = true) := ⟨fun j hj => by
            obtain h | rfl : j < k ∨ j = k := by omega
            · exact HN.out j h
            · exact e⟩
          clear HN e HP
          go_wp2_with (go_at_call 45; (with_reducible refine (C.out _ B2.out).mono ?_); rintro e w1 ⟨rfl, b1⟩; have B1 := Lib.hid b1; clear b1)
          go_roundw
          case rel => exact ⟨k + 1, by omega, by go_num, HN', Lib.hid (B2.out.trans (B1.out.mono B2.out.size))⟩
          case measure => simp [intOf]; omega
      · obtain rfl : k = n := by omega
        clear HP
        go_wp2
        go_ret
        exact ⟨⟨true, ⟨fun _ => ⟨hnm, HN.out⟩, fun _ => rfl⟩, rfl⟩, Z.out⟩
  · have i0 : ((n : Int) != (m : Int)) = true := by simp; omega
    have HF := Kept.mk hnm
    clear hnm HP
    go_enter Tryz.func44, Tryz.ntmps44
    go_wp2
    go_ret
    exact ⟨⟨false, ⟨(fun h => by cases h), fun h => absurd h.1 HF.out⟩, rfl⟩, Below.refl _ _⟩
theorem D.smp_hd {ch v ch' v' : Bool} {kids kids' : Bool → List D.Nd → Prop} {x y : D.Nd} (h : D.okNd ch kids v x) (h' : D.okNd ch' kids' v' y) (hb : D.Bt x) (hb' : D.Bt y) (A B : Option Addr) (m c m' c' : Nat) :
    D.smp (nv x A m c) (nv y B m' c') x.ws y.ws = true ↔ D.hd x = D.hd y := by
  unfold D.smp
  rw [Bool.and_eq_true, Bool.and_eq_true, Bool.and_eq_true]
  constructor
  · rintro ⟨h1, h2, h3, h4⟩
    have h1 : x.k = y.k := of_decide_eq_true h1
    have h2 : D.ns (D.sb x.t) = D.ns (D.sb y.t) := of_decide_eq_true h2
    have h3 : D.pnm x = D.pnm y := of_decide_eq_true h3
    have h4 := of_decide_eq_true h4
    rw [D.ns_sb hb.1, D.ns_sb hb'.1] at h2
    simp only [D.hd, Prod.mk.injEq]
    exact ⟨h1, h2, D.pnm_inj h h' hb.2.1 hb'.2.1 h1 h3, h4⟩
  · intro he
    simp only [D.hd, Prod.mk.injEq] at he
    obtain ⟨h1, h2, h3, h4⟩ := he
    exact ⟨decide_eq_true (show x.k = y.k from h1), decide_eq_true (show D.ns (D.sb x.t) = D.ns (D.sb y.t) by rw [h2]), decide_eq_true (show D.pnm x = D.pnm y by unfold D.pnm; rw [h3]), decide_eq_true h4⟩
theorem pel_slices {r : Nat} {F : Nat → Prop} {w : World} {cs : List (List Nat × Value)} {ks : List (List D.Nd)} (hl : cs.length = ks.length) (h : ∀ (j : Nat) (t : List Nat) (u : Value) (q : List D.Nd), cs[j]? = some (t, u) → ks[j]? = some q → Pk F w r u q) : ∀ x ∈ cs, ∃ (A : Option Addr) (n c : Nat), x.2 = .slice A n c := by
  cases r with
  | zero =>
    intro x hx
    obtain ⟨j, hj, e⟩ := List.mem_iff_getElem.1 hx
    exact (h j x.1 x.2 _ (by rw [List.getElem?_eq_getElem hj, e]) (List.getElem?_eq_getElem (by omega))).elim
  | succ r => exact ccs_kids hl h
/-- Two lists of right parts, part by part. -/
theorem eqNodes_any {F F' : Nat → Prop} {w : World} {r r' : Nat} {v v' : Bool} {A B : Option Addr} {n m c d : Nat} {x y : List D.Nd} (h : Pm F w r (.slice A n c) x) (h' : Pm F' w r' (.slice B m d) y) (hR : D.Rt r v x) (hR' : D.Rt r' v' y) (hsz : (D.prL x).length ≤ 1000) :
    Calls Tryz.prog 44 #[.slice A n c, .slice B m d, .func (.func 45) #[] #[]] w fun e w' => e = .returned (.bool (decide (x.map D.hd = y.map D.hd))) ∧ Below w.heap.size w w' := by
  obtain ⟨_, _, _, vs, e, _, hr, rfl, hx⟩ := (Pm_eq F w r _ _).1 h
  cases e
  obtain ⟨_, _, _, us, e, _, hr', rfl, hx'⟩ := (Pm_eq F' w r' _ _).1 h'
  cases e
  obtain ⟨ch, ho⟩ := D.rt_ok hR
  obtain ⟨ch', ho'⟩ := D.rt_ok hR'
  have hlen := hr.row.len
  rw [Shp.rcs_len, nvs_len, show nS.n = 15 from rfl] at hlen
  have hlen : vs.length = n := by omega
  have hlen2 := hr'.row.len
  rw [Shp.rcs_len, nvs_len, show nS.n = 15 from rfl] at hlen2
  have hlen2 : us.length = m := by omega
  have hll := D.len_le ho
  have hll : vs.length ≤ 1000 := by have : (vs.map (·.1)).length = vs.length := by simp
                                    omega
  let eq : Nat → Bool := fun j => match vs[j]?, us[j]? with
    | some (x, _), some (y, _) => decide (D.hd x = D.hd y)
    | _, _ => false
  refine (eqNodes_row A B n m c d (nvs vs) (nvs us) eq w hr.row hr'.row (by omega) fun j Y Y' hj hj' W hW => ?_).mono ?_
  · obtain ⟨⟨a, p⟩, ea⟩ : ∃ a, vs[j]? = some a := ⟨_, List.getElem?_eq_getElem (by have := (List.getElem?_eq_some_iff.1 hj).1; rwa [nvs_len] at this)⟩
    obtain ⟨⟨b, p'⟩, eb⟩ : ∃ a, us[j]? = some a := ⟨_, List.getElem?_eq_getElem (by have := (List.getElem?_eq_some_iff.1 hj').1; rwa [nvs_len] at this)⟩
    have e1 := nvs_at ea
    rw [hj] at e1
    injection e1 with e1
    have e2 := nvs_at eb
    rw [hj'] at e2
    injection e2 with e2
    have oa := (D.okLs_at ho (vs_list rfl ea)).1
    have ob := (D.okLs_at ho' (vs_list rfl eb)).1
    obtain ⟨ba, _, cs, hc, hw, _, hcl, hkk⟩ := hx j a p ea
    have h1c := pel_slices hcl hkk
    obtain ⟨bb, _, cs', hc', hw', _, hcl', hkk'⟩ := hx' j b p' eb
    have h1c' := pel_slices hcl' hkk'
    have hpm : p.m ≤ 1000 := by
      have h1 := hc.row.len
      rw [ccs_len] at h1
      have h2 := D.kids_le_ oa (by have := D.prL_mem (List.mem_of_getElem? (vs_list rfl ea : (vs.map (·.1))[j]? = some a)); omega)
      omega
    have C := samePart_any (nv a p.A p.m p.c) (nv b p'.A p'.m p'.c) cs cs' W (hc.row.on hW) (hc'.row.on hW) (by rw [hw]; exact ba.2.2) (by rw [hw']; exact bb.2.2) h1c h1c' (by show p.m ≤ 1000000; omega)
    rw [hw, hw'] at C
    have e3 : D.smp (nv a p.A p.m p.c) (nv b p'.A p'.m p'.c) a.ws b.ws = eq j := by
      have : eq j = decide (D.hd a = D.hd b) := by simp only [eq, ea, eb]
      rw [this]
      exact Bool.eq_iff_iff.2 ((D.smp_hd oa ob ba bb _ _ _ _ _ _).trans (by simp))
    rw [e3] at C
    rw [e1, e2]
    exact C
  · rintro e w' ⟨⟨b, hb, rfl⟩, hB⟩
    refine ⟨?_, hB⟩
    have : b = decide ((vs.map (·.1)).map D.hd = (us.map (·.1)).map D.hd) := by
      refine Bool.eq_iff_iff.2 (hb.trans ?_)
      rw [decide_eq_true_iff]
      constructor
      · rintro ⟨hnm, hall⟩
        refine List.ext_getElem (by simp; omega) fun j h1 h2 => ?_
        have hj : j < vs.length := by simpa using h1
        have hj' : j < us.length := by simpa using h2
        have := hall j (by omega)
        simp only [eq, List.getElem?_eq_getElem hj, List.getElem?_eq_getElem hj'] at this
        simpa using this
      · intro he
        have hl := congrArg List.length he
        simp at hl
        refine ⟨by omega, fun j hj => ?_⟩
        have hj1 : j < vs.length := by omega
        have hj2 : j < us.length := by omega
        have := congrArg (·[j]?) he
        simp [List.getElem?_eq_getElem hj1, List.getElem?_eq_getElem hj2] at this
        simp only [eq, List.getElem?_eq_getElem hj1, List.getElem?_eq_getElem hj2]
        simpa using this
    rw [this]
end Go.Proofs.YtohhfcfnclafdaaGreatDoor
set_option linter.unusedVariables false
set_option linter.unusedSimpArgs false
set_option maxRecDepth 100000
namespace Go.Proofs.YtohhfcfnclafdaaGreatDoor
open Go.RowKit
attribute [local go_sem ↓] Go.wp_at_zero Go.wp_at_succ

theorem firsts_zero (A B : Option Addr) (m c d : Nat) (w : World) :
    Calls Tryz.prog 46 #[.agg #[.slice A 0 c, .slice B m d]] w fun e w' => e = .returned (.agg #[.pointer none, .pointer none, .int .i64 0]) ∧ Below w.heap.size w w' := by
  go_enter Tryz.func46, Tryz.ntmps46
  go_wp2
  refine bodyPost_ret (v := .agg #[.pointer none, .pointer none, .int .i64 0]) (by simp [results, Tryz.results46, go_sem]) rfl ⟨rfl, ?_⟩
  exact ((Below.refl _ _).alloc (Nat.le_refl _) _).alloc (by simp) _
set_option maxHeartbeats 4000000 in
theorem firsts_any (a b : Addr) (n m c d : Nat) (w : World) (hn : 0 < n) (hm : 0 < m) :
    Calls Tryz.prog 46 #[.agg #[.slice (some a) n c, .slice (some b) m d]] w fun e w' => e = .returned (.agg #[.pointer (some a), .pointer (some b), .int .i64 (n : Nat)]) ∧ Below w.heap.size w w' := by
  have i0 : ((n : Int) == 0) = false := by simp; omega
  have i1 : (0 : Int) < n := by omega
  have i2 : (0 : Int) < m := by omega
  have a0 := add_zero_ a
  have b0 := add_zero_ b
  go_enter Tryz.func46, Tryz.ntmps46
  go_wp2_with fail
  go_region
  go_wp2
  refine bodyPost_ret (v := .agg #[.pointer (some a), .pointer (some b), .int .i64 (n : Nat)]) (by simp [results, Tryz.results46, go_sem]) rfl ⟨rfl, ?_⟩
  exact (((Below.refl _ _).alloc (Nat.le_refl _) _).alloc (by simp) _).drew
end Go.Proofs.YtohhfcfnclafdaaGreatDoor
set_option linter.unusedVariables false
set_option linter.unusedSimpArgs false
set_option maxRecDepth 100000
namespace Go.Proofs.YtohhfcfnclafdaaGreatDoor
open Go.RowKit

/-- A part's fields, in a row of parts. -/
structure PC (w : World) (ad : Addr) (i : Nat) (y : D.Nv) : Prop where
  l : ad.block < w.heap.size
  k : w.cell? (ad.add (i * 15)) = some (.int .i64 (y.k : Nat))
  t : w.cell? ⟨(ad.add (i * 15)).block, (ad.add (i * 15)).off + 1, none⟩ = some (.string y.t)
  n : Nm.rd w ⟨(ad.add (i * 15)).block, (ad.add (i * 15)).off + 2, none⟩ = some y.n
  c : w.cell? ⟨(ad.add (i * 15)).block, (ad.add (i * 15)).off + 14, none⟩ = some (.slice y.A y.m y.c)
theorem pc_at {w : World} {A : Option Addr} {n j : Nat} {ys : List D.Nv} {y : D.Nv} (h : Rw 15 w A n (nS.rcs ys)) (hj : ys[j]? = some y) : ∃ ad, A = some ad ∧ PC w ad j y := by
  obtain ⟨ad, rfl, hl, hrd, hc⟩ := rw_at h hj
  have hA := Shp.at_of hrd
  have c : ∀ i u, (ncells y)[i + 1]? = some u → w.cell? ⟨(ad.add (j * 15)).block, (ad.add (j * 15)).off + (i + 1), none⟩ = some u := fun i u hu => by
    rw [← add_succ]; exact hA (i + 1) u hu
  refine ⟨ad, rfl, hl, hc, c 0 _ rfl, Nm.rd_of fun i u hu => ?_, c 13 _ ?_⟩
  · have hj := (List.getElem?_eq_some_iff.1 hu).1
    rw [show (⟨(ad.add (j * 15)).block, (ad.add (j * 15)).off + 2, none⟩ : Addr).add i = ⟨(ad.add (j * 15)).block, (ad.add (j * 15)).off + (2 + i), none⟩ by simp [Addr.add, Nat.add_assoc], show 2 + i = i + 1 + 1 by omega]
    refine c (i + 1) u ?_
    show (bys y.n.l ++ [Value.slice y.A y.m y.c])[i]? = some u
    rw [List.getElem?_append_left hj, hu]
  · show (bys y.n.l ++ [Value.slice y.A y.m y.c])[12]? = _
    have : (bys y.n.l).length = 12 := by rw [bys_len, y.n.len]
    rw [List.getElem?_append_right (by omega), this]
    rfl
section
variable {ST T : TypeId} {z : Value} {sz by_ : Nat}
/-- append, where it stands by itself. -/
theorem gappO {w : World} (hu : Tryz.prog.underlying ST = some (.slice T)) (hi : (Tryz.prog.info? T).map (fun i => (i.zero, i.size, i.bytes)) = some (some z, sz, by_)) (hz : z.cells.size = sz) (hs : 0 < sz) (hby : by_ ≤ 1000)
    {o : Oper} {a : Act} {K : Act → World → Prop} {Q : Exit → Act → World → Prop} (s x : Operand)
    (hop : o.op = .call { callee := .builtin .append, args := #[s, x], argTypes := #[ST, ST] })
    {base : Nat} {A B : Option Addr} {n c m d : Nat} {l k : List Value} (hes : a.eval s = .slice A n c) (ho : Ow T sz base w A n c l) (hx : a.eval x = .slice B m d) (hr : Rw sz w B m k) (h1 : ∀ u ∈ k, u.oneCell' = true) (h63 : n + m ≤ 1000000)
    (h : ∀ A' c' w', Ow T sz base w' A' (n + m) c' (l ++ k) → w.grownBy w' (Value.slice A n c).ownBlock → ((Value.slice A' (n + m) c').ownBlock = (Value.slice A n c).ownBlock ∨ (Value.slice A' (n + m) c').ownBlock = some w.heap.size) →
      K (a.put o.dst (.slice A' (n + m) c')) w') : Oper.wp Tryz.prog o a w K Q := by
  obtain ⟨A', c', w', hrun, h2, h3, h4⟩ := run_gapp w hu hi hz hs o.type ho hr h1 h63 hby (d := d)
  unfold Oper.wp execOp
  simp only [hop, resolve, invoke, builtin, Sem.run_bind, Sem.run_pure, Result.andThen_ok, List.map_toArray, List.map_cons, List.map_nil, hes, hx, hrun]
  exact h A' c' w' h2 h3 h4
end
end Go.Proofs.YtohhfcfnclafdaaGreatDoor
