/-
  The law's Of at every depth.
  The law's same, of the same parts: yes.
  The law on parsing.
-/
import Derived.Test.YtlheaabmpcnchaaGreatDoorG38
import Derived.BigQuiet
set_option linter.unusedVariables false
set_option linter.unusedSimpArgs false
set_option maxRecDepth 100000
namespace Go.Proofs.YtlheaabmpcnchaaGreatDoor
open Go.RowKit

theorem opt_of {r rr : Nat} {F : Nat → Prop} {w : World} {ch : Bool} {kids : Bool → List D.Nd → Prop} {v : Bool} {x : D.Nd} {p : D.Sl} (hx : D.okNd ch kids v x) (hP : Pel (Pk F w rr) F w x p) (hsz : (D.prN x).length ≤ 1000)
    (hK : ch = true → ∀ u q, q ∈ x.ks → Pk F w rr u q → (D.prL q).length ≤ 1000 → OfC r u w q) (hsl : ∀ u q, Pk F w rr u q → ∃ (A : Option Addr) (n c : Nat), u = .slice A n c) : Opt r w x p := by
  have hl := fun h => leaf_m hP h
  obtain ⟨hbt, hcap, cs, hrc, hcw, h1c, hcl, hkk⟩ := hP
  rcases hx with ⟨hk, h1, h2, h3, h4, h5⟩ | ⟨h, _⟩ | ⟨hk, h1, h2, h3, h4⟩ | ⟨hk, hch, ht, hnb, hll, ho, hwd, hkd⟩
  · exact ⟨hbt, .inl h1, by rw [hl h3]; omega, .inl ⟨h2, h3, hl h3⟩⟩
  · exact ⟨hbt, .inl (by rw [h]; rfl), by rw [hl (by rw [h]; rfl)]; omega, .inl ⟨by rw [h]; rfl, by rw [h]; rfl, hl (by rw [h]; rfl)⟩⟩
  · exact ⟨hbt, .inr h4, by rw [hl h3]; omega, .inl ⟨h2, h3, hl h3⟩⟩
  · have hpc := D.prN_cas hk
    refine ⟨hbt, .inr hnb, ?_, .inr ⟨ht, hnb, cs, hrc.row, hcw, fun u hu => ?_, hcl, fun j t u q hc hq => ?_⟩⟩
    · have h1 := hrc.row.len
      simp only [ccs_len] at h1
      have h2 := D.prC_lenw hll
      omega
    · obtain ⟨j, hj, e⟩ := List.mem_iff_getElem.1 hu
      have hu' : cs[j]? = some (u.1, u.2) := by rw [List.getElem?_eq_getElem hj, e]
      exact hsl _ _ (hkk j _ _ _ hu' (List.getElem?_eq_getElem (by omega)))
    · have h2 := D.prC_at hll hq
      exact hK hch u q (List.mem_of_getElem? hq) (hkk j t u q hc hq) (by omega)
theorem lof_any : ∀ (r : Nat) (v : Bool) (F : Nat → Prop) (w : World) (u : Value) (l : List D.Nd), Pm F w r u l → D.Rt r v l → (D.prL l).length ≤ 1000 → OfC (r + 1) u w l
  | 0, v, F, w, u, l, hP, hR, hsz => by
    obtain ⟨A, n, c, vs, rfl, hc, hr, hl, hb⟩ := (Pm_eq _ w 0 _ _).1 hP
    have hn : n ≤ 1000 := by
      have h1 := hr.row.len
      rw [Shp.rcs_len, nvs_len, show nS.n = 15 from rfl] at h1
      have h2 := D.len_le hR
      have h3 : l.length = vs.length := by rw [← hl]; simp
      omega
    rw [← hl]
    refine of_row 0 A n c vs w hr.row hn fun j x p hj => ?_
    have hx := vs_list hl hj
    have hxs := D.prL_mem (List.mem_of_getElem? hx)
    exact opt_of (D.okLs_at hR hx).1 (hb j x p hj) (by omega) (fun h => by cases h) (fun u q h => h.elim)
  | r + 1, v, F, w, u, l, hP, hR, hsz => by
    obtain ⟨A, n, c, vs, rfl, hc, hr, hl, hb⟩ := (Pm_eq _ w (r + 1) _ _).1 hP
    have hn : n ≤ 1000 := by
      have h1 := hr.row.len
      rw [Shp.rcs_len, nvs_len, show nS.n = 15 from rfl] at h1
      have h2 := D.len_le hR
      have h3 : l.length = vs.length := by rw [← hl]; simp
      omega
    have hkd : ∀ (j : Nat) (y : D.Nd) (p : D.Sl), vs[j]? = some (y, p) → ∀ q ∈ y.ks, D.Rt r (v || y.k == 3) q := fun j y p hj q hq => by
      rcases (D.okLs_at hR (vs_list hl hj)).1 with ⟨_, _, _, h, _⟩ | ⟨h, _⟩ | ⟨_, _, _, h, _⟩ | ⟨_, _, _, _, _, _, _, h⟩
      · rw [h] at hq; cases hq
      · rw [h] at hq; cases hq
      · rw [h] at hq; cases hq
      · exact h q hq
    rw [← hl]
    refine of_row (r + 1) A n c vs w hr.row hn fun j x p hj => ?_
    have hx := vs_list hl hj
    have hxs := D.prL_mem (List.mem_of_getElem? hx)
    exact opt_of (D.okLs_at hR hx).1 (hb j x p hj) (by omega) (fun _ u q hq hPq hle => lof_any r (v || x.k == 3) F w u q hPq (hkd j x p hj q hq) hle) (fun u q h => pm_slice (show Pm _ w r u q from h))
end Go.Proofs.YtlheaabmpcnchaaGreatDoor
set_option linter.unusedVariables false
set_option linter.unusedSimpArgs false
set_option maxRecDepth 100000
namespace Go.Proofs.YtlheaabmpcnchaaGreatDoor
open Go.RowKit
attribute [local go_sem ↓] Go.wp_at_zero Go.wp_at_succ

/-- Only draws lie between. -/
def Dr (w W : World) : Prop := ∃ k, W = w.drewN k
theorem Dr.refl (w : World) : Dr w w := ⟨0, rfl⟩
theorem Dr.below {w W : World} (h : Dr w W) : Below w.heap.size w W := by
  obtain ⟨k, rfl⟩ := h
  exact ⟨rfl, rfl, rfl, Nat.le_refl _, fun _ _ => rfl⟩
theorem dr_add (w : World) (a b : Nat) : (w.drewN a).drewN b = w.drewN (a + b) := by simp [World.drewN, Nat.add_assoc]
theorem Dr.next {w W : World} (h : Dr w W) (k : Nat) : Dr w (W.drewN k) := by
  obtain ⟨q, rfl⟩ := h
  exact ⟨q + k, dr_add w q k⟩
/-- A part's fields, in a row of the document's parts. -/
structure MC (w : World) (ad : Addr) (i : Nat) (x : D.Nd) (a b : Value) : Prop where
  l : ad.block < w.heap.size
  k : w.cell? (ad.add (i * 5)) = some (.int .i64 (x.k : Nat))
  t : w.cell? ⟨(ad.add (i * 5)).block, (ad.add (i * 5)).off + 1, none⟩ = some (.string (D.sb x.t))
  n : w.cell? ⟨(ad.add (i * 5)).block, (ad.add (i * 5)).off + 2, none⟩ = some (.string (D.sb x.n))
  a : w.cell? ⟨(ad.add (i * 5)).block, (ad.add (i * 5)).off + 3, none⟩ = some a
  b : w.cell? ⟨(ad.add (i * 5)).block, (ad.add (i * 5)).off + 4, none⟩ = some b
theorem mc_at {w : World} {A : Option Addr} {n j : Nat} {vs : List (D.Nd × Value × Value)} {x : D.Nd} {a b : Value} (h : Rw 5 w A n (pcl vs)) (hj : vs[j]? = some (x, a, b)) : ∃ ad, A = some ad ∧ MC w ad j x a b := by
  obtain ⟨c0, c1, c2, c3, c4⟩ := cls_at hj
  obtain ⟨ad, rfl, hl, h0⟩ := h.cell c0
  have g : ∀ i u, (pcl vs)[j * 5 + (i + 1)]? = some u → w.cell? ⟨(ad.add (j * 5)).block, (ad.add (j * 5)).off + (i + 1), none⟩ = some u := fun i u hu => by
    obtain ⟨ad', e, _, hc⟩ := h.cell hu
    cases e
    rw [← add_succ, add_of_add]
    exact hc
  exact ⟨ad, rfl, hl, h0, g 0 _ c1, g 1 _ c2, g 2 _ c3, g 3 _ c4⟩
theorem MC.to {w W : World} {ad : Addr} {i : Nat} {x : D.Nd} {a b : Value} (h : MC w ad i x a b) (hb : Below w.heap.size w W) : MC W ad i x a b :=
  ⟨Nat.lt_of_lt_of_le h.l hb.size, cell_kept_ hb h.k, cell_kept_ hb h.t, cell_kept_ hb h.n, cell_kept_ hb h.a, cell_kept_ hb h.b⟩
/-- The contract of two messages that are the same. -/
def SmC (u v : Value) (w : World) : Prop := ∀ W, Dr w W → Calls Tryz.prog 11 #[u, v] W fun e W' => e = .returned (.bool true) ∧ ∃ m, W' = W.drewN m
/-- What hangs below two parts that are the same. -/
structure Smp (w : World) (x : D.Nd) (a b a' b' : Value) : Prop where
  out : ∃ (A1 : Option Addr) (c1 : Nat) (A2 : Option Addr) (c2 : Nat) (B1 : Option Addr) (e1 : Nat) (B2 : Option Addr) (e2 : Nat) (k1 k2 : List Value),
    a = .slice A1 x.ws.length c1 ∧ a' = .slice A2 x.ws.length c2 ∧ b = .slice B1 x.ks.length e1 ∧ b' = .slice B2 x.ks.length e2 ∧
    Rw 1 w A1 x.ws.length (strs x.ws) ∧ Rw 1 w A2 x.ws.length (strs x.ws) ∧ Rw 1 w B1 x.ks.length k1 ∧ Rw 1 w B2 x.ks.length k2 ∧ x.ws.length ≤ 1000 ∧ x.ks.length ≤ 1000 ∧
    ∀ (q : Nat) (u v : Value), k1[q]? = some u → k2[q]? = some v → SmC u v w
set_option maxHeartbeats 16000000 in
theorem same_row (A B : Option Addr) (n c d : Nat) (vs us : List (D.Nd × Value × Value)) (w : World) (hr : Rw 5 w A n (pcl vs)) (hs : Rw 5 w B n (pcl us)) (hv : vs.map (·.1) = us.map (·.1)) (hn : n ≤ 1000)
    (hp : ∀ (j : Nat) (x : D.Nd) (a b a' b' : Value), vs[j]? = some (x, a, b) → us[j]? = some (x, a', b') → Smp w x a b a' b') : SmC (.slice A n c) (.slice B n d) w := by
  intro W hW
  have hlen := hr.len
  rw [cls_len] at hlen
  have hlen : vs.length = n := by omega
  have hlen2 : us.length = n := by have := congrArg List.length hv; simp at this; omega
  have HR := Lib.hid hr
  have HS := Lib.hid hs
  have HP := Lib.hid hp
  have HV := Kept.mk hv
  have HW := Lib.hid hW
  clear hr hs hp hv hW
  go_enter Tryz.func11, Tryz.ntmps11
  go_wp2_with fail
  go_loopw [5] (fun s5 wr => ∃ j : Nat, j ≤ n ∧ s5 = .int .i64 j ∧ Hid (Dr W wr)) (fun i _ => n - (intOf i).toNat)
  case atStart => exact ⟨0, Nat.zero_le _, rfl, Lib.hid (Dr.refl _)⟩
  case round =>
    obtain ⟨j, hj, rfl, HD⟩ := hrel
    obtain ⟨wo, rfl⟩ : ∃ wo : World, wo = wr := ⟨_, rfl⟩
    have hwo : Dr w wo := by
      obtain ⟨k1, e1⟩ := HW.out
      obtain ⟨k2, e2⟩ := HD.out
      exact ⟨k1 + k2, by rw [e2, e1, dr_add]⟩
    by_cases hlt : j < n
    · obtain ⟨⟨x, a, b⟩, hx⟩ : ∃ a, vs[j]? = some a := ⟨_, List.getElem?_eq_getElem (by omega)⟩
      obtain ⟨⟨x', a', b'⟩, hx'⟩ : ∃ a, us[j]? = some a := ⟨_, List.getElem?_eq_getElem (by omega)⟩
      obtain rfl : x = x' := by
        have h1 : (vs.map (·.1))[j]? = some x := by simp [hx]
        have h2 : (us.map (·.1))[j]? = some x' := by simp [hx']
        rw [HV.out, h2] at h1
        injection h1 with h1
        exact h1.symm
      obtain ⟨A1, c1, A2, c2, B1, e1, B2, e2, k1, k2, rfl, rfl, rfl, rfl, r1, r2, r3, r4, l1, l2, hk⟩ := (HP.out j x a b a' b' hx hx').out
      obtain ⟨ad, rfl, m1⟩ := mc_at HR.out hx
      obtain ⟨ae, rfl, m2⟩ := mc_at HS.out hx'
      have hI : (j : Int) < n := by omega
      have M1 := Lib.hid m1
      have M2 := Lib.hid m2
      have R1 := Lib.hid r1
      have R2 := Lib.hid r2
      have R3 := Lib.hid r3
      have R4 := Lib.hid r4
      have HK := Lib.hid hk
      obtain ⟨nw, hnw⟩ : ∃ nw, x.ws.length = nw := ⟨_, rfl⟩
      obtain ⟨nk, hnk⟩ : ∃ nk, x.ks.length = nk := ⟨_, rfl⟩
      have HNW := Kept.mk hnw
      have HNK := Kept.mk hnk
      obtain ⟨p1, p2, p3, p4, p5, p6⟩ := m1.to hwo.below
      obtain ⟨q1, q2, q3, q4, q5, q6⟩ := m2.to hwo.below
      rw [hnw] at l1 R1 R2 p5 q5
      rw [hnk] at l2 R3 R4 p6 q6
      have HWO := Lib.hid hwo
      clear hx hx' m1 m2 r1 r2 r3 r4 hk hnw hnk hwo
      go_wp2_with fail
      go_quiet (fail)
      go_wp2_with fail
      go_loopw [6] (fun s6 wr => ∃ q : Nat, q ≤ nw ∧ s6 = .int .i64 q ∧ Hid (Dr wo wr)) (fun i _ => nw - (intOf i).toNat)
      case atStart => exact ⟨0, Nat.zero_le _, rfl, Lib.hid ⟨_, rfl⟩⟩
      case round =>
        obtain ⟨q, hq, rfl, HE⟩ := hrel
        obtain ⟨wi, rfl⟩ : ∃ wi : World, wi = wr := ⟨_, rfl⟩
        have hwi : Dr w wi := by
          obtain ⟨k1, e1⟩ := HWO.out
          obtain ⟨k2, e2⟩ := HE.out
          exact ⟨k1 + k2, by rw [e2, e1, dr_add]⟩
        have HWI := Lib.hid hwi
        clear p1 p2 p3 p4 p5 p6 q1 q2 q3 q4 q5 q6
        obtain ⟨p1, p2, p3, p4, p5, p6⟩ := M1.out.to hwi.below
        obtain ⟨q1, q2, q3, q4, q5, q6⟩ := M2.out.to hwi.below
        rw [HNW.out] at p5 q5
        rw [HNK.out] at p6 q6
        by_cases hlq : q < nw
        · obtain ⟨t, ht⟩ : ∃ t, x.ws[q]? = some t := ⟨_, List.getElem?_eq_getElem (by rw [HNW.out]; exact hlq)⟩
          obtain ⟨a1, rfl, b1, t1⟩ := (R1.out.on hwi.below).cell (strs_at ht)
          obtain ⟨a2, rfl, b2, t2⟩ := (R2.out.on hwi.below).cell (strs_at ht)
          have hIq : (q : Int) < nw := by omega
          clear ht hwi
          go_wp2_with fail
          go_quiet (fail)
          go_wp2_with fail
          go_roundw
          case rel => exact ⟨q + 1, by omega, by go_num, Lib.hid (HE.out.next _)⟩
          case measure => simp [intOf]; omega
        · obtain rfl : q = nw := by omega
          clear hwi
          go_wp2_with fail
          go_loopw [7] (fun s7 wr => ∃ q : Nat, q ≤ nk ∧ s7 = .int .i64 q ∧ Hid (Dr wi wr)) (fun i _ => nk - (intOf i).toNat)
          case atStart => exact ⟨0, Nat.zero_le _, rfl, Lib.hid (Dr.refl _)⟩
          case round =>
            obtain ⟨h, hh, rfl, HF⟩ := hrel
            obtain ⟨wk, rfl⟩ : ∃ wk : World, wk = wr := ⟨_, rfl⟩
            have hwk : Dr w wk := by
              obtain ⟨k1, e1⟩ := HWI.out
              obtain ⟨k2, e2⟩ := HF.out
              exact ⟨k1 + k2, by rw [e2, e1, dr_add]⟩
            clear p1 p2 p3 p4 p5 p6 q1 q2 q3 q4 q5 q6
            obtain ⟨p1, p2, p3, p4, p5, p6⟩ := M1.out.to hwk.below
            obtain ⟨q1, q2, q3, q4, q5, q6⟩ := M2.out.to hwk.below
            rw [HNW.out] at p5 q5
            rw [HNK.out] at p6 q6
            by_cases hlh : h < nk
            · obtain ⟨u, hu⟩ : ∃ u, k1[h]? = some u := ⟨_, List.getElem?_eq_getElem (by have := R3.out.len; omega)⟩
              obtain ⟨v, hv⟩ : ∃ u, k2[h]? = some u := ⟨_, List.getElem?_eq_getElem (by have := R4.out.len; omega)⟩
              obtain ⟨a1, rfl, b1, t1⟩ := (R3.out.on hwk.below).cell hu
              obtain ⟨a2, rfl, b2, t2⟩ := (R4.out.on hwk.below).cell hv
              have hIh : (h : Int) < nk := by omega
              have CS := Lib.hid (fun m => (HK.out h u v hu hv (wk.drewN m) (hwk.next m)).mono fun e w' (h : e = .returned (.bool true) ∧ ∃ q, w' = (wk.drewN m).drewN q) => (⟨h.1, by obtain ⟨q, e⟩ := h.2; exact ⟨m + q, by rw [e, dr_add]⟩⟩ : e = .returned (.bool true) ∧ ∃ q, w' = wk.drewN q))
              clear hu hv hwk
              go_wp2_with fail
              go_quiet (first | (go_at_call 11; exact CS.out _))
              go_wp2_with fail
              go_roundw
              case rel => exact ⟨h + 1, by omega, by go_num, Lib.hid (HF.out.next _)⟩
              case measure => simp [intOf]; omega
            · obtain rfl : h = nk := by omega
              clear hwk
              go_wp2_with fail
              go_roundw
              case rel =>
                refine ⟨j + 1, by omega, by go_num, Lib.hid ?_⟩
                obtain ⟨x1, e1⟩ := HD.out
                obtain ⟨x2, e2⟩ := HE.out
                obtain ⟨x3, e3⟩ := HF.out
                exact ⟨x1 + x2 + x3, by rw [e3, e2, e1, dr_add, dr_add, Nat.add_assoc]⟩
              case measure => simp [intOf]; omega
    · obtain rfl : j = n := by omega
      go_wp2
      go_ret
      exact ⟨rfl, HD.out⟩
/-- Messages that are the same, in memory twice. -/
theorem smp_of {r : Nat} {F F' : Nat → Prop} {w : World} {x : D.Nd} {a b a' b' : Value} (h : Bel (Kd F w r) F w x a b) (h' : Bel (Kd F' w r) F' w x a' b') (hw : x.ws.length ≤ 1000) (hk : x.ks.length ≤ 1000)
    (hK : ∀ u v q, q ∈ x.ks → Kd F w r u q → Kd F' w r v q → SmC u v w) : Smp w x a b a' b' := by
  obtain ⟨_, ⟨A1, n1, c1, rfl, _, r1⟩, B1, m1, e1, k1, rfl, _, r3, l1, _, g1⟩ := h
  obtain ⟨_, ⟨A2, n2, c2, rfl, _, r2⟩, B2, m2, e2, k2, rfl, _, r4, l2, _, g2⟩ := h'
  have y1 := r1.row.len
  have y2 := r2.row.len
  have y3 := r3.row.len
  have y4 := r4.row.len
  rw [strs_len] at y1 y2
  obtain rfl : n1 = x.ws.length := by omega
  obtain rfl : n2 = x.ws.length := by omega
  obtain rfl : m1 = x.ks.length := by omega
  obtain rfl : m2 = x.ks.length := by omega
  refine ⟨A1, c1, A2, c2, B1, e1, B2, e2, k1, k2, rfl, rfl, rfl, rfl, r1.row, r2.row, r3.row, r4.row, hw, hk, fun q u v hu hv => ?_⟩
  have hq : q < x.ks.length := by have := (List.getElem?_eq_some_iff.1 hu).1; omega
  exact hK u v _ (List.getElem_mem hq) (g1 q u _ hu (List.getElem?_eq_getElem hq)) (g2 q v _ hv (List.getElem?_eq_getElem hq))
theorem D.kids_le {k : Bool → List D.Nd → Prop} {ch v : Bool} {x : D.Nd} (hx : D.okNd ch k v x) (hz : (D.prN x).length ≤ 1000) : x.ws.length ≤ 1000 ∧ x.ks.length ≤ 1000 := by
  rcases hx with ⟨_, _, h2, h3, _⟩ | ⟨h, _⟩ | ⟨_, _, h2, h3, _⟩ | ⟨hk, _, _, _, hll, _, _, _⟩
  · rw [h2, h3]; exact ⟨by simp, by simp⟩
  · rw [h]; exact ⟨by simp [D.Nd.ws], by simp [D.Nd.ks]⟩
  · rw [h2, h3]; exact ⟨by simp, by simp⟩
  · have h1 := D.prN_cas hk
    have h2 := D.prC_lenw hll
    omega
theorem same_any {F F' : Nat → Prop} {w : World} : ∀ (r : Nat) {v : Bool} {a b : Value} {l : List D.Nd}, Ms F w r a l → Ms F' w r b l → D.Rt r v l → (D.prL l).length ≤ 1000 → SmC a b w
  | 0, v, a, b, l, ha, hb, hR, hz => by
    obtain ⟨A, n, c, vs, rfl, _, hr, hl, hx⟩ := (Ms_eq _ w 0 _ _).1 ha
    obtain ⟨B, m, d, us, rfl, _, hs, hl', hy⟩ := (Ms_eq _ w 0 _ _).1 hb
    have h1 := hr.row.len
    have h2 := hs.row.len
    rw [cls_len] at h1 h2
    have h3 : vs.length = us.length := by have := congrArg List.length (hl.trans hl'.symm); simpa using this
    have h4 := D.len_le hR
    have h5 : l.length = vs.length := by rw [← hl]; simp
    obtain rfl : m = n := by omega
    refine same_row A B m c d vs us w hr.row hs.row (hl.trans hl'.symm) (by omega) fun j x p q p' q' h h' => ?_
    have hxl : l[j]? = some x := by rw [← hl]; simp [h]
    have ho := (D.okLs_at hR hxl).1
    have hz1 := D.prL_mem (List.mem_of_getElem? hxl)
    obtain ⟨k1, k2⟩ := D.kids_le ho (by omega)
    exact smp_of (hx j x p q h).2.2 (hy j x p' q' h').2.2 k1 k2 (fun u v q _ h => h.elim)
  | r + 1, v, a, b, l, ha, hb, hR, hz => by
    obtain ⟨A, n, c, vs, rfl, _, hr, hl, hx⟩ := (Ms_eq _ w (r + 1) _ _).1 ha
    obtain ⟨B, m, d, us, rfl, _, hs, hl', hy⟩ := (Ms_eq _ w (r + 1) _ _).1 hb
    have h1 := hr.row.len
    have h2 := hs.row.len
    rw [cls_len] at h1 h2
    have h3 : vs.length = us.length := by have := congrArg List.length (hl.trans hl'.symm); simpa using this
    have h4 := D.len_le hR
    have h5 : l.length = vs.length := by rw [← hl]; simp
    obtain rfl : m = n := by omega
    refine same_row A B m c d vs us w hr.row hs.row (hl.trans hl'.symm) (by omega) fun j x p q p' q' h h' => ?_
    have hxl : l[j]? = some x := by rw [← hl]; simp [h]
    have ho := (D.okLs_at hR hxl).1
    have hz1 := D.prL_mem (List.mem_of_getElem? hxl)
    obtain ⟨k1, k2⟩ := D.kids_le ho (by omega)
    refine smp_of (hx j x p q h).2.2 (hy j x p' q' h').2.2 k1 k2 (fun u v' q hq h1 h2 => ?_)
    rcases ho with ⟨_, _, _, h, _⟩ | ⟨h, _⟩ | ⟨_, _, _, h, _⟩ | ⟨hk, _, _, _, hll, _, _, hkd⟩
    · rw [h] at hq; cases hq
    · rw [h] at hq; cases hq
    · rw [h] at hq; cases hq
    · obtain ⟨i, hi, e⟩ := List.mem_iff_getElem.1 hq
      have hqi : x.ks[i]? = some q := by rw [List.getElem?_eq_getElem hi, e]
      have hz2 := D.prC_at hll hqi
      have hz3 := D.prN_cas hk
      exact same_any r h1 h2 (hkd q hq) (by omega)
end Go.Proofs.YtlheaabmpcnchaaGreatDoor
set_option linter.unusedVariables false
set_option linter.unusedSimpArgs false
set_option maxRecDepth 100000
namespace Go.Proofs.YtlheaabmpcnchaaGreatDoor
open Go.RowKit
attribute [local go_sem ↓] Go.wp_at_zero Go.wp_at_succ

theorem D.rdM_rt (l : List Nat) : D.Rt 3 false (D.rdM l).l ∧ (D.prL (D.rdM l).l).length ≤ 1000 := by
  by_cases h : (D.rdM l).e = 0
  · exact ⟨D.rdM_good h, by have := D.rdM_sz h; omega⟩
  · have e : (D.rdM l).l = [] := by
      revert h
      unfold D.rdM
      split
      · intro _; rfl
      · dsimp only
        split
        · intro _; rfl
        · split
          · intro _; rfl
          · intro h; exact absurd rfl h
    rw [e]
    exact ⟨trivial, by simp [D.prL]⟩
theorem D.okLs_mono {N N' : D.Nd → Prop} (h : ∀ x, N x → N' x) : ∀ {pt : Bool} {l : List D.Nd}, D.okLs N pt l → D.okLs N' pt l
  | _, [], _ => trivial
  | pt, x :: l, ⟨h1, h2, h3⟩ => ⟨h x h1, h2, D.okLs_mono h h3⟩
theorem D.Rt_up : ∀ (r : Nat) {v : Bool} {l : List D.Nd}, D.Rt r v l → D.Rt (r + 1) v l
  | 0, v, l, h => D.okLs_mono (fun x hx => by
      rcases hx with h | h | h | ⟨_, h, _⟩
      · exact .inl h
      · exact .inr (.inl h)
      · exact .inr (.inr (.inl h))
      · cases h) h
  | r + 1, v, l, h => D.okLs_mono (fun x hx => by
      rcases hx with h | h | h | ⟨h1, h2, h3, h4, h5, h6, h7, h8⟩
      · exact .inl h
      · exact .inr (.inl h)
      · exact .inr (.inr (.inl h))
      · exact .inr (.inr (.inr ⟨h1, h2, h3, h4, h5, h6, h7, fun q hq => D.Rt_up r (h8 q hq)⟩))) h
/-- The text's first bytes. -/
theorem cut_le (s : ByteArray) (m : Nat) (h : m ≤ s.size) : (s.extract 0 m).size ≤ m := by simp; omega
set_option maxHeartbeats 8000000 in
theorem law_parses (s : ByteArray) (w : World) (hG : Gw w) (hm : s.size ≤ 9223372036854775807) : Calls Tryz.prog 3 #[.string s] w fun e w' => e = .returned (.bool true) ∧ Below w.heap.size w w' := by
  obtain ⟨q, hq, hqm⟩ : ∃ q : Nat, q ≤ 80 ∧ q = min s.size 80 := ⟨_, Nat.min_le_right _ _, rfl⟩
  have hqs : q ≤ s.size := by omega
  have hmin : (min (s.size : Int) 80) = (q : Int) := by omega
  obtain ⟨t, ht⟩ : ∃ t, s.extract 0 q = t := ⟨_, rfl⟩
  have hts : t.size ≤ 1000 := by rw [← ht]; have := cut_le s q hqs; omega
  obtain ⟨o, ho⟩ : ∃ o, D.rdM (D.ns t) = o := ⟨_, rfl⟩
  obtain ⟨hrt, hpz⟩ := D.rdM_rt (D.ns t)
  have C1 := Lib.hid (fun W (h : Below w.heap.size w W) => parse_any t W (hG.on h).g hts)
  have C2 := Lib.hid (fun W => refparse_any t W hts)
  rw [ho] at C1 C2 hrt hpz
  have HRT := Lib.hid hrt
  have HPZ := Lib.hid hpz
  have HG := Lib.hid hG
  have HB0 := Lib.hid (Below.refl w.heap.size w)
  have C3 := Lib.hid (fun W (h : Below w.heap.size w W) => known_any W (hG.on h))
  have i1 : ((q : Int)).toNat = q := by omega
  clear ho hG hrt hpz hqm
  go_enter Tryz.func3, Tryz.ntmps3
  go_wp2_with (first
    | (go_at_call 8; (with_reducible refine (C1.out _ HB0.out).mono ?_); rintro e w1 ⟨b1, A1, n1, c1, rfl, p1⟩; have B1 := Lib.hid b1; have P1 := Lib.hid p1; clear b1 p1)
    | (go_at_call 9; (with_reducible refine (C2.out _).mono ?_); rintro e w2 ⟨b2, A2, n2, c2, rfl, m2⟩; have B2 := Lib.hid (B1.out.trans (b2.mono B1.out.size)); have S2 := Lib.hid b2; have M2 := Lib.hid m2; clear b2 m2)
    | (go_at_call 10; (with_reducible refine (C3.out _ B2.out).mono ?_); rintro e w3 ⟨rfl, b3⟩; have B3 := Lib.hid (B2.out.trans (b3.mono B2.out.size)); have S3 := Lib.hid (S2.out.trans (b3.mono S2.out.size)); have M3 := Lib.hid (M2.out.keep (keeps_below b3)); clear b3)
    | (go_at_call 12; refine (lof_any 3 false _ _ _ _ P1.out HRT.out HPZ.out _ S3.out).mono ?_; rintro e w4 ⟨b4, A4, n4, c4, rfl, m4⟩; have B4 := Lib.hid (B3.out.trans (b4.mono B3.out.size)); have M4 := Lib.hid m4; have M5 := Lib.hid (M3.out.keep (keeps_below b4)); clear b4 m4)
    | (go_at_call 11; refine (same_any 4 M4.out (Ms.up 3 M5.out) (D.Rt_up 3 HRT.out) HPZ.out _ (Dr.refl _)).mono ?_; rintro e w5 ⟨rfl, k5, rfl⟩))
  go_ret
  exact ⟨rfl, B4.out.trans ⟨rfl, rfl, rfl, Nat.le_refl _, fun _ _ => rfl⟩⟩
end Go.Proofs.YtlheaabmpcnchaaGreatDoor
