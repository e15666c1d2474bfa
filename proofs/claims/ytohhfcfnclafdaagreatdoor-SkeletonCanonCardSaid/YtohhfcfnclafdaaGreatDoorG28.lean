/-
  The program tells whether a text could tell of parts: of right ones, yes.
  Builders of texts in memory, by themselves or as another value's first part: what they hold, writes, their text.
  The program writes parts.
-/
import Derived.Test.YtohhfcfnclafdaaGreatDoorG27
import Derived.Lib.Builder
import Derived.Shelf.Strings.Builder1
set_option linter.unusedVariables false
set_option linter.unusedSimpArgs false
set_option maxRecDepth 100000
namespace Go.Proofs.YtohhfcfnclafdaaGreatDoor
open Go.RowKit
attribute [local go_sem ↓] Go.wp_at_zero Go.wp_at_succ Nm.ld_a Nm.ld_n Nm.st_a Nm.st_n Nm.lv_a Nm.lv_n ld_nd lv_nd st_nd bd_nd bs_nd
attribute [local go_sem] Nm.run_ld_a Nm.run_ld_n Nm.run_lv_a Nm.run_lv_n Nm.rd_new Nm.rd_old Nm.rd_drew Nm.rd_drewN Nm.st_z run_lvnd run_ldnd run_stnd_new run_bsnd run_bdnd_1 run_bdnd_5 run_bdnd_0 Shp.rd_new Shp.rd_old Shp.rd_drew Shp.rd_drewN

theorem D.msg_szg (l : List Nat) : ∀ (r : Nat) (w : Bool) (i : Nat), i ≤ l.length → D.Szg i (D.msg l r w i)
  | 0, w, i, hi => fun h => by
    have := D.mes_sz (l := l) (w := w) (p := D.plc l (fun _ i => D.er_ i 19) true w) (fun q hq => ⟨D.plc_le (fun h => by cases h) hq, fun h => D.plc_sz (fun h => by cases h) hq h⟩) i (l.length + 1) i [] hi (Nat.le_refl _) (by simp [D.prL]) h
    exact ⟨by have := this.2; rw [D.msg]; omega, this.1⟩
  | r + 1, w, i, hi => fun h => by
    have := D.mes_sz (l := l) (w := w) (p := D.plc l (D.msg l r) false w) (fun q hq => ⟨D.plc_le (fun _ v q' hq' => D.msg_le l r v q' hq') hq, fun h => D.plc_sz (fun _ v q' hq' => ⟨D.msg_szg l r v q' hq', D.msg_le l r v q' hq'⟩) hq h⟩) i (l.length + 1) i [] hi (Nat.le_refl _) (by simp [D.prL]) h
    exact ⟨by have := this.2; rw [D.msg]; omega, this.1⟩
/-- What is read is short. -/
theorem D.rdM_sz {l : List Nat} (h : (D.rdM l).e = 0) : (D.prL (D.rdM l).l).length ≤ 120 := by
  unfold D.rdM at h ⊢
  split at h
  · cases h
  · rename_i h60
    rw [if_neg h60]
    simp only at h ⊢
    split at h
    · rename_i he; exact absurd h he
    · rename_i he
      rw [if_neg he]
      split at h
      · cases h
      · rename_i hlt
        rw [if_neg hlt]
        have h1 := D.msg_szg l 3 false 0 (Nat.zero_le _) (by simpa using he)
        have h2 := D.msg_le l 3 false 0 (Nat.zero_le _)
        show (D.prL (D.msg l 3 false 0).l).length ≤ 120
        have := h1.1
        omega
theorem rw_at {w : World} {A : Option Addr} {n j : Nat} {ys : List D.Nv} {y : D.Nv} (h : Rw 15 w A n (nS.rcs ys)) (hj : ys[j]? = some y) : ∃ ad, A = some ad ∧ ad.block < w.heap.size ∧ nS.rd w (ad.add (j * 15)) = some y ∧ w.cell? (ad.add (j * 15)) = some (.int .i64 (y.k : Nat)) := by
  have h0 : (nS.cs y)[0]? = some (.int .i64 (y.k : Nat)) := rfl
  have h1 := Shp.rcs_at hj 0 _ h0
  obtain ⟨ad, rfl, hl, hc⟩ := h.cell h1
  refine ⟨ad, rfl, hl, Shp.rd_of fun i u hu => ?_, hc⟩
  obtain ⟨ad', e, _, hc'⟩ := h.cell (Shp.rcs_at hj i u hu)
  cases e
  rw [add_of_add]
  exact hc'
theorem nvs_at {vs : List (D.Nd × D.Sl)} {j : Nat} {x : D.Nd} {p : D.Sl} (h : vs[j]? = some (x, p)) : (nvs vs)[j]? = some (nv x p.A p.m p.c) := by simp [nvs, h]
theorem ccs_kids {r : Nat} {F : Nat → Prop} {w : World} {cs : List (List Nat × Value)} {ks : List (List D.Nd)} (hl : cs.length = ks.length) (h : ∀ (j : Nat) (t : List Nat) (u : Value) (q : List D.Nd), cs[j]? = some (t, u) → ks[j]? = some q → Pm F w r u q) : ∀ x ∈ cs, ∃ (A : Option Addr) (n c : Nat), x.2 = .slice A n c := by
  intro x hx
  obtain ⟨j, hj, e⟩ := List.mem_iff_getElem.1 hx
  have h1 : cs[j]? = some (x.1, x.2) := by rw [List.getElem?_eq_getElem hj, e]
  have h2 : ks[j]? = some (ks[j]'(by omega)) := List.getElem?_eq_getElem _
  obtain ⟨A, n, c, _, e, _⟩ := (Pm_eq F w r _ _).1 (h j _ _ _ h1 h2)
  exact ⟨A, n, c, e⟩
/-- The contract of one part. -/
def TellP (d : Nat) (v : Bool) (w : World) (y : D.Nv) : Prop := ∀ W, Below w.heap.size w W → Calls Tryz.prog 85 #[.agg #[.int .i64 (d : Nat), .bool v], .agg (nS.v y)] W fun e w' => e = .returned (.bool true) ∧ Below W.heap.size W w'
theorem leaf_m {r : Nat} {F : Nat → Prop} {w : World} {x : D.Nd} {p : D.Sl} (h : Pel (Pk F w r) F w x p) (hk : x.ks = []) : p.m = 0 := by
  obtain ⟨_, _, cs, hr, _, _, hl, _⟩ := h
  have := hr.row.len
  rw [ccs_len, hl, hk] at this
  simp at this
  omega
theorem tellP_any {F : Nat → Prop} {w : World} {r d : Nat} {v ch : Bool} {kids : Bool → List D.Nd → Prop} {x : D.Nd} {p : D.Sl} (hx : D.okNd ch kids v x) (hp : Pel (Pk F w r) F w x p) (hch : ch = true → ∃ r', r = r' + 1 ∧ d < 3) (hsz : (D.prN x).length ≤ 1000) (hE : Env w)
    (hK : ch = true → ∀ r', r = r' + 1 → ∀ (u : Value) (q : List D.Nd) (W : World), kids (v || x.k == 3) q → (D.prL q).length ≤ 1000 → Pm F W r' u q → Env W → Calls Tryz.prog 40 #[.agg #[.int .i64 ((d : Int) + 1), .bool (v || x.k == 3)], u] W fun e w' => e = .returned (.bool true) ∧ Below W.heap.size W w') :
    TellP d v w (nv x p.A p.m p.c) := by
  intro W hb
  obtain ⟨k, t, n, ws, ks⟩ := x
  obtain ⟨A, m, c⟩ := p
  rcases hx with ⟨e, e1, e2, e3, e4, e5⟩ | ⟨e, hw⟩ | ⟨hk, ht, hws, hks, hn⟩ | ⟨hk, hc, ht, hn, hl, ho, hwd, hkd⟩
  · simp only [D.Nd.k, D.Nd.n, D.Nd.ws, D.Nd.ks, D.Nd.t] at e e1 e2 e3 e4 e5
    subst e e1 e2 e3
    have hm := leaf_m hp rfl
    simp only at hm
    subst hm
    have h8 := hp.1.1
    exact tellPart_text d 0 c v t A W rfl (by rw [D.prN_txt rfl] at hsz; exact hsz) h8 e4 e5
  · injection e with e1 e2 e3 e4 e5
    subst e1 e2 e3 e4 e5
    have hm := leaf_m hp rfl
    simp only at hm
    subst hm
    exact tellPart_sign d 5 c v A W rfl hw
  · simp only [D.Nd.k, D.Nd.n, D.Nd.ws, D.Nd.ks, D.Nd.t] at hk ht hws hks hn
    subst ht hws hks
    have hm := leaf_m hp rfl
    simp only at hm
    subst hm
    rcases hk with rfl | rfl
    · exact tellPart_arg d 1 c v n A W rfl hn hp.1.2.1
    · exact tellPart_num d 2 c v n A W rfl hn hp.1.2.1
  · simp only [D.Nd.k, D.Nd.n, D.Nd.ws, D.Nd.ks, D.Nd.t] at hk ht hn hl ho hwd hkd hK
    subst ht
    obtain ⟨r', rfl, hd⟩ := hch hc
    obtain ⟨hbt, hcap, cs, hr, hcw, h1c, hcl, hkk⟩ := hp
    simp only [D.Nd.ks, D.Nd.ws] at hcw hcl hkk
    have hcz : (D.prC ws ks).length ≤ 1000 := by
      have := D.prN_cas (x := .mk k [] n ws ks) hk
      simp only [D.Nd.ks, D.Nd.ws] at this
      omega
    have hmn : m ≤ 1000 := by
      have h1 := hr.row.len
      simp only [ccs_len] at h1
      have h2 := D.prC_lenw hl
      omega
    have hC : ∀ W', Below W.heap.size W W' → Calls Tryz.prog 133 #[.agg #[.int .i64 (d : Nat), .bool v], .int .i64 (k : Nat), .slice A m c] W' fun e w' => e = .returned (.bool true) ∧ Below W'.heap.size W' w' := by
      intro W' hb'
      have hb2 : Below w.heap.size w W' := hb.trans (hb'.mono hb.size)
      refine tellCases_yes A m c d k v cs W' hd hk (hr.row.on hb2) hmn (ccs_kids hcl hkk) (by rw [hcw]; exact hbt.2.2) (fun x hx => ?_) (by rw [hcw]; exact hwd) (by rw [hcw]; exact ho) (hE.on hb2) (fun j t u hj W'' hb'' => ?_)
      · have : x.1 ∈ ws := by rw [← hcw]; exact List.mem_map_of_mem hx
        have := D.prC_word hl this
        omega
      · have hjl := (List.getElem?_eq_some_iff.1 hj).1
        have hq : ks[j]? = some (ks[j]'(by omega)) := List.getElem?_eq_getElem _
        have hb3 : Below w.heap.size w W'' := hb2.trans (hb''.mono hb2.size)
        exact hK hc r' rfl u _ W'' (hkd _ (List.getElem_mem _)) (by have := D.prC_at hl hq; omega) ((hkk j t u _ hj hq).keep (keeps_below hb3)) (hE.on hb3)
    rcases hk with rfl | rfl
    · exact tellPart_plu d 3 m c v n A W rfl hn hbt.2.1 hC
    · exact tellPart_sel d 4 m c v n A W rfl hn hbt.2.1 hC
set_option maxHeartbeats 4000000 in
/-- A row of parts, each of which is right. -/
theorem tell_row (d n c : Nat) (v : Bool) (A : Option Addr) (vs : List (D.Nd × D.Sl)) (w : World) (hd : d ≤ 3) (hr : Rw 15 w A n (nS.rcs (nvs vs))) (hn : n ≤ 1000)
    (hp : ∀ (j : Nat) (x : D.Nd) (p : D.Sl), vs[j]? = some (x, p) → TellP d v w (nv x p.A p.m p.c)) (hadj : ∀ (j : Nat) (x y : D.Nd) (p q : D.Sl), vs[j]? = some (y, q) → vs[j + 1]? = some (x, p) → y.k = 0 → x.k ≠ 0) :
    Calls Tryz.prog 40 #[.agg #[.int .i64 (d : Nat), .bool v], .slice A n c] w fun e w' => e = .returned (.bool true) ∧ Below w.heap.size w w' := by
  have hlen := hr.len
  rw [Shp.rcs_len, nvs_len, show nS.n = 15 from rfl] at hlen
  have hlen : vs.length = n := by omega
  have HR := Lib.hid hr
  have HP := Lib.hid hp
  have HA := Lib.hid hadj
  clear hr hp hadj
  go_enter Tryz.func40, Tryz.ntmps40
  go_wp2_with fail
  go_loopw [9] (fun i wr => ∃ j : Nat, j ≤ n ∧ i = .int .i64 j ∧ Hid (Blk wr w.heap.size 99 #[.int .i64 (d : Nat), .bool v]) ∧ Hid (Below w.heap.size w wr)) (fun i _ => n - (intOf i).toNat)
  case atStart => exact ⟨0, Nat.zero_le _, rfl, Lib.hid (Blk.new _ _ _), Lib.hid (below_alloc_ _ _)⟩
  case round =>
    obtain ⟨j, hj, rfl, HB, HZ⟩ := hrel
    obtain ⟨wo, rfl⟩ : ∃ wo : World, wo = wr := ⟨_, rfl⟩
    by_cases hlt : j < n
    · obtain ⟨⟨x, p⟩, ht⟩ : ∃ a, vs[j]? = some a := ⟨_, List.getElem?_eq_getElem (by omega)⟩
      obtain ⟨ad, rfl, hbk, hrd, hck⟩ := rw_at (HR.out.on HZ.out) (nvs_at ht)
      obtain ⟨Y, hY⟩ : ∃ Y, nv x p.A p.m p.c = Y := ⟨_, rfl⟩
      have hpY := HP.out j x p ht
      have hYk : Y.k = x.k := by rw [← hY]; rfl
      rw [hY] at hrd hck hpY
      have HT := Lib.hid hpY
      have hI : (j : Int) < n := by omega
      have hN : Blk (wo.alloc (.cells (nS.v Y) 116)) wo.heap.size 116 (nS.v Y) := Blk.new _ _ _
      have n0 : (wo.alloc (.cells (nS.v Y) 116)).cell? ⟨wo.heap.size, 0, none⟩ = some (.int .i64 (Y.k : Nat)) := nd_c0 hN
      have n1 := nd_rd hN
      have hB1 := HB.out.alloc (.cells (nS.v Y) 116)
      have q0 : (wo.alloc (.cells (nS.v Y) 116)).cell? ⟨w.heap.size, 0, none⟩ = some (.int .i64 (d : Nat)) := hB1.c_ 0
      have q1 : (wo.alloc (.cells (nS.v Y) 116)).cell? ⟨w.heap.size, 1, none⟩ = some (.bool v) := hB1.c_ 1
      have q2 := hB1.lt
      have CT := Lib.hid (hpY (wo.alloc (.cells (nS.v Y) 116)) (HZ.out.trans ((below_alloc_ _ _).mono HZ.out.size)))
      clear hpY HT hB1 hN HP
      by_cases hk0 : Y.k = 0
      · have i0 : ((Y.k : Int) == 0) = true := by simp; omega
        by_cases hj0 : j = 0
        · have iz : ¬ (0 : Int) < (j : Int) := by omega
          have iz' : (j : Int) ≤ 0 := by omega
          clear hk0 hYk ht HA hj0
          go_wp2_with (go_at_call 85; (with_reducible refine CT.out.mono ?_); rintro e w1 ⟨rfl, b1⟩; have B1 := Lib.hid b1; clear b1)
          go_roundw
          case rel => exact ⟨j + 1, by omega, by go_num, Lib.hid ((HB.out.alloc _).on B1.out), Lib.hid (HZ.out.trans (((below_alloc_ _ _).trans (B1.out.mono (by simp))).mono HZ.out.size))⟩
          case measure => simp [intOf]; omega
        · obtain ⟨m, hm⟩ : ∃ m, j = m + 1 := ⟨j - 1, by omega⟩
          obtain ⟨⟨y, q⟩, hty⟩ : ∃ a, vs[m]? = some a := ⟨_, List.getElem?_eq_getElem (by omega)⟩
          obtain ⟨ad', hA', hbk', hrd', hck'⟩ := rw_at ((HR.out.on HZ.out).alloc (.cells (nS.v Y) 116)) (nvs_at hty)
          cases hA'
          have hyk : y.k ≠ 0 := fun e => HA.out m x y p q hty (by rw [← hm]; exact ht) e (by omega)
          obtain ⟨ky, hky⟩ : ∃ ky, y.k = ky := ⟨_, rfl⟩
          have hck2 : (wo.alloc (.cells (nS.v Y) 116)).cell? (ad.add (m * 15)) = some (.int .i64 (ky : Nat)) := by rw [← hky]; exact hck'
          have iy : ((ky : Int) == 0) = false := by simp; omega
          have im : (0 : Int) < (j : Int) := by omega
          have im1 : (j : Int) - 1 = (m : Int) := by omega
          have im2 : (m : Int) < n := by omega
          clear hk0 hYk ht HA hck' hrd' hbk' hky hyk hm hj0
          go_wp2_with (go_at_call 85; (with_reducible refine CT.out.mono ?_); rintro e w1 ⟨rfl, b1⟩; have B1 := Lib.hid b1; clear b1)
          go_roundw
          case rel => exact ⟨j + 1, by omega, by go_num, Lib.hid ((HB.out.alloc _).on B1.out), Lib.hid (HZ.out.trans (((below_alloc_ _ _).trans (B1.out.mono (by simp))).mono HZ.out.size))⟩
          case measure => simp [intOf]; omega
      · have i0 : ((Y.k : Int) == 0) = false := by simp; omega
        clear hk0 hYk ht HA
        go_wp2_with (go_at_call 85; (with_reducible refine CT.out.mono ?_); rintro e w1 ⟨rfl, b1⟩; have B1 := Lib.hid b1; clear b1)
        go_roundw
        case rel => exact ⟨j + 1, by omega, by go_num, Lib.hid ((HB.out.alloc _).on B1.out), Lib.hid (HZ.out.trans (((below_alloc_ _ _).trans (B1.out.mono (by simp))).mono HZ.out.size))⟩
        case measure => simp [intOf]; omega
    · obtain rfl : j = n := by omega
      go_wp2
      go_ret
      exact ⟨rfl, HZ.out⟩
theorem vs_list {vs : List (D.Nd × D.Sl)} {l : List D.Nd} {j : Nat} {x : D.Nd} {p : D.Sl} (hl : vs.map (·.1) = l) (h : vs[j]? = some (x, p)) : l[j]? = some x := by rw [← hl]; simp [h]
theorem tell_any : ∀ (r d : Nat), d + r = 3 → ∀ (v : Bool) (F : Nat → Prop) (w : World) (u : Value) (l : List D.Nd), Pm F w r u l → D.Rt r v l → (D.prL l).length ≤ 1000 → Env w →
    Calls Tryz.prog 40 #[.agg #[.int .i64 (d : Nat), .bool v], u] w fun e w' => e = .returned (.bool true) ∧ Below w.heap.size w w'
  | 0, d, hdr, v, F, w, u, l, hP, hR, hsz, hE => by
    obtain ⟨A, n, c, vs, rfl, hc, hr, hl, hb⟩ := (Pm_eq F w 0 _ _).1 hP
    have hn : n ≤ 1000 := by
      have h1 := hr.row.len
      rw [Shp.rcs_len, nvs_len, show nS.n = 15 from rfl] at h1
      have h2 := D.len_le hR
      have h3 : l.length = vs.length := by rw [← hl]; simp
      omega
    refine tell_row d n c v A vs w (by omega) hr.row hn (fun j x p hj => ?_) (fun j x y p q hy hx hk => ?_)
    · have hx := vs_list hl hj
      have h1 := D.okLs_at hR hx
      exact tellP_any h1.1 (hb j x p hj) (fun h => by cases h) (by have := D.prL_mem (List.mem_of_getElem? hx); omega) hE (fun h => by cases h)
    · exact (D.okLs_at hR (vs_list hl hx)).2.2 j y rfl (vs_list hl hy) hk
  | r + 1, d, hdr, v, F, w, u, l, hP, hR, hsz, hE => by
    obtain ⟨A, n, c, vs, rfl, hc, hr, hl, hb⟩ := (Pm_eq F w (r + 1) _ _).1 hP
    have hn : n ≤ 1000 := by
      have h1 := hr.row.len
      rw [Shp.rcs_len, nvs_len, show nS.n = 15 from rfl] at h1
      have h2 := D.len_le hR
      have h3 : l.length = vs.length := by rw [← hl]; simp
      omega
    refine tell_row d n c v A vs w (by omega) hr.row hn (fun j x p hj => ?_) (fun j x y p q hy hx hk => ?_)
    · have hx := vs_list hl hj
      have h1 := D.okLs_at hR hx
      refine tellP_any h1.1 (hb j x p hj) (fun _ => ⟨r, rfl, by omega⟩) (by have := D.prL_mem (List.mem_of_getElem? hx); omega) hE (fun _ r' hr' u q W hq hqs hP' hE' => ?_)
      obtain rfl : r = r' := by omega
      have := tell_any r (d + 1) (by omega) (v || x.k == 3) F W u q hP' hq hqs hE'
      rw [show ((d + 1 : Nat) : Int) = (d : Int) + 1 by omega] at this
      exact this
    · exact (D.okLs_at hR (vs_list hl hx)).2.2 j y rfl (vs_list hl hy) hk
end Go.Proofs.YtohhfcfnclafdaaGreatDoor
set_option linter.unusedVariables false
set_option linter.unusedSimpArgs false
set_option maxRecDepth 100000
namespace Go.Proofs.YtohhfcfnclafdaaGreatDoor
open Go.RowKit
attribute [local go_sem ↓] Go.wp_at_zero Go.wp_at_succ

/-- What a builder's writes leave: all below it, and all other blocks but bytes. -/
structure Nu (b : Nat) (w w' : World) : Prop where
  os : w'.os = w.os
  tape : w'.tape = w.tape
  output : w'.output = w.output
  size : w.heap.size ≤ w'.heap.size
  low : ∀ i, i < b → i < w.heap.size → w'.heap[i]? = w.heap[i]?
  keep : ∀ (g : Nat) (T : TypeId) (cs : Array Value), g ≠ b → T ≠ 5 → Blk w g T cs → Blk w' g T cs
theorem Nu.refl (b : Nat) (w : World) : Nu b w w := ⟨rfl, rfl, rfl, Nat.le_refl _, fun _ _ _ => rfl, fun _ _ _ _ _ h => h⟩
theorem Nu.trans {b : Nat} {w w1 w2 : World} (h : Nu b w w1) (k : Nu b w1 w2) : Nu b w w2 :=
  ⟨k.os.trans h.os, k.tape.trans h.tape, k.output.trans h.output, Nat.le_trans h.size k.size, fun i hi hl => (k.low i hi (Nat.lt_of_lt_of_le hl h.size)).trans (h.low i hi hl), fun g T cs hg hT hb => k.keep g T cs hg hT (h.keep g T cs hg hT hb)⟩
theorem Nu.of_below {b : Nat} {w w' : World} (h : Below w.heap.size w w') : Nu b w w' := ⟨h.os, h.tape, h.output, h.size, fun i _ hl => h.block i hl, fun g T cs _ _ hb => hb.on h⟩
theorem Nu.below {b : Nat} {w w' : World} (h : Nu b w w') (hb : b ≤ w.heap.size) : Below b w w' := ⟨h.os, h.tape, h.output, h.size, fun i hi => h.low i hi (Nat.lt_of_lt_of_le hi hb)⟩
theorem Nu.keeps {b : Nat} {w w' : World} (h : Nu b w w') : Keeps (fun i => i < b) w w' := ⟨h.size, fun i hi hl => h.low i hi hl⟩
/-- Kinds of variables that begin with a builder: of so many cells. -/
structure Bt (T : TypeId) (n : Nat) : Prop where
  lies : liesAt Tryz.prog Tryz.prog.depth T (n / Tryz.prog.cellsOf T) 0 105 1 = true
  ne : T ≠ 5
theorem bt_self : Bt 105 2 := ⟨by kernel_rfl, by decide⟩
theorem bt_rend : Bt 146 13 := ⟨by kernel_rfl, by decide⟩
/-- A builder that holds these bytes. -/
structure Bd (T : TypeId) (rest : List Value) (b : Nat) (w : World) (l : List Nat) : Prop where
  out : ∃ (p : Value) (A : Option Addr) (n c : Nat), (p = .pointer none ∨ p = .pointer (some ⟨b, 0, none⟩)) ∧ Blk w b T (p :: .slice A n c :: rest).toArray ∧ Ow 5 1 (b + 1) w A n c (bys l) ∧ (l = [] → A = none ∧ n = 0 ∧ c = 0)
theorem Bd.lt {T : TypeId} {rest : List Value} {b : Nat} {w : World} {l : List Nat} (h : Bd T rest b w l) : b < w.heap.size := by
  obtain ⟨p, A, n, c, _, hb, _, _⟩ := h.out
  exact hb.lt
theorem Bd.on {T : TypeId} {rest : List Value} {b : Nat} {w w' : World} {l : List Nat} (h : Bd T rest b w l) (k : Below w.heap.size w w') : Bd T rest b w' l := by
  obtain ⟨p, A, n, c, hp, hb, ho, hz⟩ := h.out
  exact ⟨p, A, n, c, hp, hb.on k, ho.on k, hz⟩
theorem bd_new (w : World) (g : Nat) (hg : g = w.heap.size) : Bd 105 [] g (w.alloc (.cells #[.pointer none, .slice none 0 0] 105)) [] :=
  ⟨_, none, 0, 0, .inl rfl, blk_new_ hg, Ow.nil _ _ (by subst hg; simp), fun _ => ⟨rfl, rfl, rfl⟩⟩
theorem Ow.not_blk {T T' : TypeId} {sz base n c : Nat} {w : World} {A : Option Addr} {xs : List Value} {g : Nat} {cs : Array Value} (h : Ow T sz base w A n c xs) (hb : Blk w g T' cs) (hne : T' ≠ T) : (Value.slice A n c).ownBlock ≠ some g := by
  intro e
  rcases h.row.2 with ⟨e1, _⟩ | ⟨q, cap, cur, e1, _, hh, _⟩
  · rw [e1] at e; simp [Value.ownBlock] at e
  · rw [e1] at e
    have : q = g := by simpa [Value.ownBlock] using e
    subst this
    rw [hb.out] at hh
    injection hh with hh
    injection hh with _ ht
    exact hne ht
theorem blk_shape {w : World} {g : Nat} {t : TypeId} {cs : Array Value} (h : Blk w g t cs) : w.shape? g = some (t, cs.size) := by
  have := h.out
  simp [World.shape?, this]
theorem bld_info : (Tryz.prog.info? 105).map (·.size) = some 2 := by kernel_rfl
set_option maxHeartbeats 1000000 in
/-- The check that each write begins with. -/
theorem copyCheck_any {T : TypeId} {rest : List Value} {b : Nat} {w : World} (hT : Bt T (rest.length + 2)) (p : Value) (A : Option Addr) (n c : Nat) (hp : p = .pointer none ∨ p = .pointer (some ⟨b, 0, none⟩)) (hb : Blk w b T (p :: .slice A n c :: rest).toArray) :
    Calls Tryz.prog 134 #[vr b] w fun x w' => x = .returned (.tuple #[]) ∧ Blk w' b T (.pointer (some ⟨b, 0, none⟩) :: .slice A n c :: rest).toArray ∧ Fr (· = b) w w' := by
  obtain ⟨j, hj, hjs⟩ := Option.map_eq_some_iff.1 bld_info
  have h0 : w.cell? ⟨b, 0, none⟩ = some p := by rw [hb.c_ 0]; simp
  have hfz := hb.f_ 0
  have hlt := hb.lt
  have hsh : w.shape? (⟨b, 0, none⟩ : Addr).block = some (T, rest.length + 2) := by rw [blk_shape hb]; simp
  have HB := Lib.hid hb
  rcases hp with rfl | rfl
  · have hput := hb.put_ 0 (.pointer (some ⟨b, 0, none⟩))
    simp at hput
    have HP := Lib.hid hput
    clear hput hb
    go_enter Tryz.func134, Tryz.ntmps134
    go_wp2
    rw [Lib.run_to_unsafe w ⟨b, 0, none⟩ Tryz.underlying102 Tryz.underlying257 hj (by rw [hjs]; decide) hsh (by show 0 < rest.length + 2; omega)]
    simp only [Result.andThen]
    rw [Oper.upon_value]
    go_wp2
    rw [run_callFunc_extern Tryz.func181 (by kernel_rfl) (by kernel_rfl) (by kernel_rfl) (e := Extern.AbiNoEscape.same) (by kernel_rfl)]
    rw [Lib.run_noEscape]
    simp only [Result.andThen]
    rw [Oper.upon_value]
    go_wp2
    rw [Lib.run_from_unsafe w ⟨b, 0, none⟩ Tryz.underlying257 Tryz.underlying102 hj hsh hT.lies]
    simp only [Result.andThen]
    rw [Oper.upon_value]
    go_wp2
    go_end0
    exact ⟨rfl, HP.out, (Fr.refl _ _).setCell _ _ fun _ => rfl⟩
  · clear hb
    go_enter Tryz.func134, Tryz.ntmps134
    go_wp2
    rw [Lib.run_neq_ptr_same w _ Tryz.underlying102 hj]
    go_wp2
    go_end0
    exact ⟨rfl, HB.out, Fr.refl _ _⟩
theorem strCells_bys (s : ByteArray) : Lib.strCells s = bys (D.ns s) := by simp [Lib.strCells, bys, D.ns]
theorem u8_infob : (Tryz.prog.info? 5).map (fun i => (i.zero, i.size, i.bytes)) = some (some (.int .u8 0), 1, 1) := by kernel_rfl
theorem u8_cells : Tryz.prog.cellsOf 5 = 1 := by kernel_rfl
/-- What a write leaves but the builder's own block. -/
theorem nu_write {b n c : Nat} {w w' : World} {A : Option Addr} {xs : List Value} (ho : Ow 5 1 (b + 1) w A n c xs) (hg : w.grownBy w' (Value.slice A n c).ownBlock) : Nu b w w' :=
  ⟨hg.os, hg.tape, hg.output, hg.size, fun i hi hl => hg.block i hl fun e => by have := (ho.lt i e.symm).1; omega, fun g T cs _ hT hb => ⟨(hg.block g hb.lt fun e => ho.not_blk hb hT e.symm).trans hb.out⟩⟩
theorem Nu.fr {b : Nat} {w w' : World} (h : Fr (· = b) w w') : Nu b w w' := ⟨h.os, h.tape, h.output, h.size, fun i hi hl => h.same i hl (by omega), fun g T cs hg _ hb => h.blk hb hg⟩
set_option maxHeartbeats 2000000 in
theorem writeS_any {T : TypeId} {rest : List Value} {b : Nat} {w : World} {l : List Nat} (hT : Bt T (rest.length + 2)) (s : ByteArray) (h : Bd T rest b w l) (h0 : D.ns s ≠ []) (hsz : l.length + s.size ≤ 1000000) :
    Calls Tryz.prog 86 #[vr b, .string s] w fun x w' => x = .returned (.tuple #[.int .i64 (s.size : Nat), .nilIface]) ∧ Bd T rest b w' (l ++ D.ns s) ∧ Nu b w w' := by
  obtain ⟨p, A, n, c, hp, hb, ho, hz⟩ := h.out
  have hln := ho.len
  rw [bys_len, Nat.mul_one] at hln
  have cC := Lib.hid (copyCheck_any hT p A n c hp hb)
  have HO := Lib.hid ho
  obtain ⟨i0, hi, hz0, hz1, hz2⟩ := info_parts u8_infob
  have HT := Lib.hid hT
  have H0 := Lib.hid h0
  have hn : D.ns s = D.ns s := rfl
  clear hp hb ho hz h h0 hn
  go_enter Tryz.func86, Tryz.ntmps86
  go_wp2_with (first
    | (go_at_call 134; (with_reducible refine cC.out.mono ?_); rintro e w1 ⟨rfl, hb1, f1⟩
       have ho1 := HO.out.fr f1 (fun i h1 h2 e => by have e' : i = b := e; omega)
       have HB1 := Lib.hid hb1
       have HO1 := Lib.hid ho1
       have F1 := Lib.hid f1
       have c1 : w1.cell? ⟨b, 1, none⟩ = some (.slice A n c) := by rw [hb1.c_ 1]; simp
       have c2 := hb1.lt
       clear f1 ho1 hb1)
    | (at_builtin; refine Lib.wpList_append_own_string _ rfl _ _ 103 9 rfl (b + 1) 5 i0 Tryz.underlying103 Tryz.underlying9 hi hz0 hz1 hz2 _ _ _ rfl HO1.out.row s rfl ?c3 ?c4 ?c5 ?_))
  case c3 => simp only [maxLen]; omega
  case c4 => omega
  case c5 => exact HO1.out.base
  intro v' w2 hown' hgrow _
  have hlt := HB1.out.lt
  have hb2 : Blk w2 b T (.pointer (some ⟨b, 0, none⟩) :: .slice A n c :: rest).toArray := ⟨(hgrow.block b hlt (fun e => by have := (HO1.out.lt b e.symm).1; omega)).trans HB1.out.out⟩
  have d1 : w2.cell? ⟨b, 1, none⟩ = some (.slice A n c) := by rw [hb2.c_ 1]; simp
  have f1 := hb2.f_ 1
  have d2 := hb2.lt
  obtain ⟨A', c', rfl⟩ : ∃ A' c', v' = .slice A' (n + s.size) c' := by
    rcases hown'.2 with ⟨hv, hz⟩ | ⟨g, cap, cur, hv, _⟩
    · exact ⟨none, 0, by rw [hv, hz]⟩
    · exact ⟨_, _, hv⟩
  have hput := hb2.put_ 1 (.slice A' (n + s.size) c')
  simp at hput
  have HP := Lib.hid hput
  have ho2 : Ow 5 1 (b + 1) w2 A' (n + s.size) c' (bys (l ++ D.ns s)) := ⟨by rw [show bys (l ++ D.ns s) = bys l ++ Lib.strCells s by rw [strCells_bys]; simp [bys]]; exact hown', Nat.le_trans HO1.out.base hgrow.size⟩
  have HO2 := Lib.hid ho2
  have HG := Lib.hid hgrow
  clear hput ho2 hgrow hown' hb2
  go_wp2
  refine bodyPost_ret (v := .tuple #[.int .i64 (s.size : Nat), .nilIface]) (by simp [results, Tryz.results86, go_sem]) rfl ?_
  have fs : Fr (· = b) w2 (w2.setCell ⟨b, 1, none⟩ (.slice A' (n + s.size) c')) := (Fr.refl _ _).setCell _ _ fun _ => rfl
  exact ⟨rfl, ⟨_, A', _, c', .inr rfl, HP.out, HO2.out.fr fs (fun i h1 h2 e => by have e' : i = b := e; omega), fun e => absurd (List.append_eq_nil_iff.1 e).2 H0.out⟩, ((Nu.fr F1.out).trans (nu_write HO1.out HG.out)).trans (Nu.fr fs)⟩
set_option maxHeartbeats 2000000 in
theorem writeB_any {T : TypeId} {rest : List Value} {b : Nat} {w : World} {l : List Nat} (hT : Bt T (rest.length + 2)) (x : Nat) (h : Bd T rest b w l) (hsz : l.length ≤ 999999) (z : Int) (hz : z = x) :
    Calls Tryz.prog 87 #[vr b, .int .u8 z] w fun e w' => e = .returned .nilIface ∧ Bd T rest b w' (l ++ [x]) ∧ Nu b w w' := by
  subst hz
  obtain ⟨p, A, n, c, hp, hb, ho, hz⟩ := h.out
  have hln := ho.len
  rw [bys_len, Nat.mul_one] at hln
  have cC := Lib.hid (copyCheck_any hT p A n c hp hb)
  have HO := Lib.hid ho
  have HT := Lib.hid hT
  clear hp hb ho hz h
  go_enter Tryz.func87, Tryz.ntmps87
  go_wp2_with (first
    | (go_at_call 134; (with_reducible refine cC.out.mono ?_); rintro e w1 ⟨rfl, hb1, f1⟩
       have ho1 := HO.out.fr f1 (fun i h1 h2 e => by have e' : i = b := e; omega)
       have HB1 := Lib.hid hb1
       have HO1 := Lib.hid ho1
       have F1 := Lib.hid f1
       have c1 : w1.cell? ⟨b, 1, none⟩ = some (.slice A n c) := by rw [hb1.c_ 1]; simp
       have c2 := hb1.lt
       clear f1 ho1 hb1)
    | (at_builtin; refine gapp _ Tryz.underlying103 u8_infob rfl (by decide) (by decide) rfl (.tmp 11) (.tmp 13) rfl rfl (HO1.out.alloc _) rfl (rw_one w1 _ rfl 5 (.int .u8 (x : Nat))) (fun u h => by simp at h; rw [h]; rfl) (by omega) ?_; intro A' c' w2 h5 hg5 hor5
       have hlt := HB1.out.lt
       have hb2 : Blk w2 b T (.pointer (some ⟨b, 0, none⟩) :: .slice A n c :: rest).toArray := (HB1.out.alloc _).grown hg5 (fun e => by have := (HO1.out.lt b e.symm).1; omega)
       have d1 : w2.cell? ⟨b, 1, none⟩ = some (.slice A n c) := by rw [hb2.c_ 1]; simp
       have d3 := hb2.f_ 1
       have d2 := hb2.lt
       have hput := hb2.put_ 1 (.slice A' (n + 1) c')
       simp at hput
       have HP := Lib.hid hput
       have H5 := Lib.hid h5
       have HG5 := Lib.hid hg5
       clear hput h5 hg5 hor5 hb2))
  go_ret
  have fs : Fr (· = b) w2 (w2.setCell ⟨b, 1, none⟩ (.slice A' (n + 1) c')) := (Fr.refl _ _).setCell _ _ fun _ => rfl
  refine ⟨rfl, ⟨_, A', _, c', .inr rfl, HP.out, ?_, fun e => absurd (List.append_eq_nil_iff.1 e).2 (by simp)⟩, (((Nu.fr F1.out).trans (Nu.of_below (below_alloc_ _ _))).trans (nu_write (HO1.out.alloc _) HG5.out)).trans (Nu.fr fs)⟩
  have h6 := H5.out
  rw [show bys l ++ [Value.int .u8 (x : Nat)] = bys (l ++ [x]) by simp [bys]] at h6
  exact h6.fr fs (fun i h1 h2 e => by have e' : i = b := e; omega)
theorem lenB_any {T : TypeId} {rest : List Value} {b : Nat} {w : World} {l : List Nat} (h : Bd T rest b w l) : Calls Tryz.prog 42 #[vr b] w fun e w' => e = .returned (.int .i64 (l.length : Nat)) ∧ w = w' := by
  obtain ⟨p, A, n, c, hp, hb, ho, hz⟩ := h.out
  have hln := ho.len
  rw [bys_len, Nat.mul_one] at hln
  have c1 : w.cell? ⟨b, 1, none⟩ = some (.slice A n c) := by rw [hb.c_ 1]; simp
  have c2 := hb.lt
  rw [hln]
  clear hp hb ho hz h
  go_enter Tryz.func42, Tryz.ntmps42
  go_wp2
  go_ret
  exact ⟨rfl, rfl⟩
set_option maxHeartbeats 2000000 in
theorem textB_any {T : TypeId} {rest : List Value} {b : Nat} {w : World} {l : List Nat} (h : Bd T rest b w l) (h256 : ∀ x ∈ l, x < 256) : Calls Tryz.prog 43 #[vr b] w fun e w' => e = .returned (.string (D.sb l)) ∧ Below (b + 1) w w' := by
  obtain ⟨p, A, n, c, hp, hb, ho, hz⟩ := h.out
  have hln := ho.len
  rw [bys_len, Nat.mul_one] at hln
  have c1 : w.drew.cell? ⟨b, 1, none⟩ = some (.slice A n c) := by have : w.cell? ⟨b, 1, none⟩ = some (.slice A n c) := by rw [hb.c_ 1]; simp
                                                                  exact this
  have c2 := hb.lt
  by_cases h0 : l = []
  · obtain ⟨rfl, rfl, rfl⟩ := hz h0
    subst h0
    have hUS : ∀ W q, (Builtin.unsafeString_ #[181, 3] 9 #[.pointer q, .int .i64 0]).run Tryz.prog W = .ok (.string .empty) W := fun W q => Lib.run_unsafeString_none W _ _ _ q
    have hSD : (Builtin.unsafeSliceData_ #[103] 181 #[.slice none 0 0]).run Tryz.prog w.drew = .ok (.pointer none) w.drew := rfl
    have mixed : Tryz.prog.follows .mixedOrders = true := by kernel_rfl
    clear hp hb ho hz h h256
    go_enter Tryz.func43, Tryz.ntmps43
    go_wp2
    go_region_o
    all_goals (go_wp2; go_ret; exact ⟨rfl, Below.drew (Below.refl _ w)⟩)
  · have hn0 : n ≠ 0 := fun e => h0 (List.eq_nil_of_length_eq_zero (by omega))
    obtain ⟨g, cap, cur, e, hbg, hg, hnc, hcm, hcs, htake⟩ : ∃ g cap cur, Value.slice A n c = .slice (some ⟨g, 0, none⟩) n cap ∧ b + 1 ≤ g ∧ w.heap[g]? = some (.cells cur 5 (0, 0)) ∧ n ≤ cap ∧ cap ≤ maxLen ∧ cur.size = cap * 1 ∧ cur.toList.take (n * 1) = bys l := by
      rcases ho.row.2 with ⟨_, hz⟩ | ⟨g, cap, cur, hv, r⟩
      · exact absurd hz hn0
      · exact ⟨g, cap, cur, hv, r⟩
    injection e with e1 _ e2
    subst e1 e2
    have hll : (l.map UInt8.ofNat).length = n := by simp [hln]
    have hSD : (Builtin.unsafeSliceData_ #[103] 181 #[.slice (some ⟨g, 0, none⟩) n c]).run Tryz.prog w.drew = .ok (.pointer (some ⟨g, 0, none⟩)) w.drew :=
      Lib.run_unsafeSliceData_row _ _ _ _ _ _ (by omega)
    have hUS : (Builtin.unsafeString_ #[181, 3] 9 #[.pointer (some ⟨g, 0, none⟩), .int .i64 (n : Nat)]).run Tryz.prog w.drew = .ok (.string ⟨(l.map UInt8.ofNat).toArray⟩) (w.drew.freeze ⟨g, 0, none⟩ n) := by
      have := Lib.run_unsafeString_row (P := Tryz.prog) w.drew 181 3 9 5 Tryz.underlying181 u8_cells g cur.size (by have hg' : w.drew.heap[g]? = some (.cells cur 5 (0, 0)) := hg; simp [World.shape?, hg']) (l.map UInt8.ofNat) (by simpa using h0) (by rw [hll]; omega) (by rw [hll]; simp only [maxLen] at hcm ⊢; omega) (by
        intro j x hx
        obtain ⟨y, hy, rfl⟩ : ∃ y, l[j]? = some y ∧ UInt8.ofNat y = x := by
          rw [List.getElem?_map] at hx
          cases hq : l[j]? with
          | none => rw [hq] at hx; cases hx
          | some y => rw [hq] at hx; injection hx with hx; exact ⟨y, rfl, hx⟩
        have hy8 := h256 y (List.mem_of_getElem? hy)
        have := ho.row.cells (g := g) rfl j (.int .u8 (y : Nat)) (by simp [bys, hy])
        have e : ((UInt8.ofNat y).toNat : Int) = (y : Int) := by simp; omega
        rw [e]
        exact this)
      rw [hll] at this
      exact this
    have hsb : (⟨(l.map UInt8.ofNat).toArray⟩ : ByteArray) = D.sb l := rfl
    rw [hsb] at hUS
    have mixed : Tryz.prog.follows .mixedOrders = true := by kernel_rfl
    clear hp hb ho hz h h256 hg htake hcs hln hll hsb
    go_enter Tryz.func43, Tryz.ntmps43
    go_wp2
    go_region_o
    all_goals (go_wp2; go_ret; exact ⟨rfl, Lib.below_freeze (Below.drew (Below.refl _ w)) (p := ⟨g, 0, none⟩) hbg _⟩)
end Go.Proofs.YtohhfcfnclafdaaGreatDoor
set_option linter.unusedVariables false
set_option linter.unusedSimpArgs false
set_option maxRecDepth 100000
namespace Go.Proofs.YtohhfcfnclafdaaGreatDoor
open Go.RowKit
attribute [local go_sem ↓] Go.wp_at_zero Go.wp_at_succ Nm.ld_a Nm.ld_n Nm.st_a Nm.st_n Nm.lv_a Nm.lv_n ld_nd lv_nd st_nd bd_nd bs_nd
attribute [local go_sem] Nm.run_ld_a Nm.run_ld_n Nm.run_lv_a Nm.run_lv_n Nm.rd_new Nm.rd_old Nm.rd_drew Nm.rd_drewN Nm.st_z run_lvnd run_ldnd run_stnd_new run_bsnd run_bdnd_1 run_bdnd_5 run_bdnd_0 Shp.rd_new Shp.rd_old Shp.rd_drew Shp.rd_drewN

theorem ns_app_ (a b : ByteArray) : D.ns (a ++ b) = D.ns a ++ D.ns b := by
  have e : a ++ b = D.sb (D.ns a ++ D.ns b) := by rw [sb_app, D.sb_ns, D.sb_ns]
  rw [e, D.ns_sb]
  intro c hc
  rcases List.mem_append.1 hc with h | h
  · exact ns_lt a c h
  · exact ns_lt b c h
theorem size_ns (s : ByteArray) : s.size = (D.ns s).length := (D.ns_len s).symm
/-- The builder of a text by itself. -/
abbrev Bs (b : Nat) (w : World) (l : List Nat) : Prop := Bd 105 [] b w l
theorem Nu.row {b n sz : Nat} {w w' : World} {A : Option Addr} {xs : List Value} (h : RF sz (fun i => i < b) w A n xs) (k : Nu b w w') : RF sz (fun i => i < b) w' A n xs := h.keep k.keeps
theorem Nu.knd {b : Nat} {w w' : World} (h : Knd w) (k : Nu b w w') (hb : 0 < b) (hl : b ≤ w.heap.size) : Knd w' := by
  have hk := (k.below hl)
  exact ⟨(hk.cell (p := ⟨0, 0, none⟩) hb).trans h.c0, (hk.cell (p := ⟨0, 1, none⟩) hb).trans h.c1, (hk.cell (p := ⟨0, 2, none⟩) hb).trans h.c2, (hk.cell (p := ⟨0, 3, none⟩) hb).trans h.c3, (hk.cell (p := ⟨0, 4, none⟩) hb).trans h.c4⟩
/-- The contract of a place, or of parts, that are written. -/
def WrC (f : FuncId) (b : Nat) (v : Value) (w : World) (s : List Nat) : Prop := ∀ W L, Nu b w W → Bs b W L → L.length + s.length ≤ 100000 → Calls Tryz.prog f #[vr b, v] W fun x w' => x = .returned (.tuple #[]) ∧ Bs b w' (L ++ s) ∧ Nu b W w'
set_option maxHeartbeats 4000000 in
/-- A row of parts. -/
theorem write_row (b n c : Nat) (A : Option Addr) (vs : List (D.Nd × D.Sl)) (w : World) (hr : RF 15 (fun i => i < b) w A n (nS.rcs (nvs vs))) (hn : n ≤ 1000) (hbl : b ≤ w.heap.size)
    (h8 : ∀ (j : Nat) (x : D.Nd) (p : D.Sl), vs[j]? = some (x, p) → x.k = 0 → x.t ≠ [] ∧ ∀ c ∈ x.t, c < 256) (h5 : ∀ (j : Nat) (x : D.Nd) (p : D.Sl), vs[j]? = some (x, p) → x.k = 5 → D.prN x = [35])
    (hp : ∀ (j : Nat) (x : D.Nd) (p : D.Sl), vs[j]? = some (x, p) → x.k ≠ 0 → x.k ≠ 5 → WrC 88 b (.agg (nS.v (nv x p.A p.m p.c))) w (D.prN x)) :
    WrC 41 b (.slice A n c) w (D.prL (vs.map (·.1))) := by
  intro W L hNu hB hsz
  have hlen := hr.row.len
  rw [Shp.rcs_len, nvs_len, show nS.n = 15 from rfl] at hlen
  have hlen : vs.length = n := by omega
  have HR := Lib.hid hr
  have H8 := Lib.hid h8
  have H5 := Lib.hid h5
  have HP := Lib.hid hp
  have HB := Lib.hid hB
  have HN := Lib.hid hNu
  have HWS := Lib.hid (fun W' L' t (hW : Bs b W' L') (h0 : t ≠ []) (h256 : ∀ c ∈ t, c < 256) (hz : L'.length + t.length ≤ 1000000) => (by have := writeS_any bt_self (D.sb t) hW (by rw [D.ns_sb h256]; exact h0) (by rw [D.sb_len]; exact hz); rw [D.ns_sb h256] at this; exact this : Calls Tryz.prog 86 #[vr b, .string (D.sb t)] W' fun x w' => x = .returned (.tuple #[.int .i64 ((D.sb t).size : Nat), .nilIface]) ∧ Bs b w' (L' ++ t) ∧ Nu b W' w'))
  have HWB := Lib.hid (fun W' L' (hW : Bs b W' L') (hz : L'.length ≤ 999999) => writeB_any bt_self 35 hW hz 35 rfl)
  clear hr h8 h5 hp hB hNu
  have HBL := Lib.hid hbl
  go_enter Tryz.func41, Tryz.ntmps41
  go_wp2_with fail
  go_loopw [8] (fun i wr => ∃ j : Nat, j ≤ n ∧ i = .int .i64 j ∧ Hid (Bs b wr (L ++ D.prL ((vs.map (·.1)).take j))) ∧ Hid (Nu b W wr)) (fun i _ => n - (intOf i).toNat)
  case atStart => exact ⟨0, Nat.zero_le _, rfl, Lib.hid (by simpa [D.prL] using HB.out), Lib.hid (Nu.refl _ _)⟩
  case round =>
    obtain ⟨j, hj, rfl, HBj, HNj⟩ := hrel
    obtain ⟨wo, rfl⟩ : ∃ wo : World, wo = wr := ⟨_, rfl⟩
    by_cases hlt : j < n
    · obtain ⟨⟨x, p⟩, ht⟩ : ∃ a, vs[j]? = some a := ⟨_, List.getElem?_eq_getElem (by omega)⟩
      have hx : (vs.map (·.1))[j]? = some x := by simp [ht]
      obtain ⟨ad, rfl, hbk, hrd, hck⟩ := rw_at ((Nu.row (Nu.row HR.out HN.out) HNj.out).row) (nvs_at ht)
      obtain ⟨Y, hY⟩ : ∃ Y, nv x p.A p.m p.c = Y := ⟨_, rfl⟩
      have hYk : Y.k = x.k := by rw [← hY]; rfl
      have hYt : Y.t = D.sb x.t := by rw [← hY]; rfl
      rw [hY] at hrd hck
      have hI : (j : Int) < n := by omega
      have hpx : D.prL ((vs.map (·.1)).take (j + 1)) = D.prL ((vs.map (·.1)).take j) ++ D.prN x := by rw [List.take_add_one, hx, D.prL_app]; simp [D.prL]
      have htot : (D.prL ((vs.map (·.1)).take (j + 1))).length ≤ (D.prL (vs.map (·.1))).length := by
        have := congrArg (fun l => (D.prL l).length) (List.take_append_drop (j + 1) (vs.map (·.1)))
        simp only [D.prL_app, List.length_append] at this
        omega
      rw [hpx, List.length_append] at htot
      have HPX := Kept.mk hpx
      have hN : Blk (wo.alloc (.cells (nS.v Y) 116)) wo.heap.size 116 (nS.v Y) := Blk.new _ _ _
      have n0 : (wo.alloc (.cells (nS.v Y) 116)).cell? ⟨wo.heap.size, 0, none⟩ = some (.int .i64 (Y.k : Nat)) := nd_c0 hN
      have n1 : (wo.alloc (.cells (nS.v Y) 116)).cell? ⟨wo.heap.size, 1, none⟩ = some (.string Y.t) := by have := (nf_blk hN).t; simpa using this
      have n2 := nd_rd hN
      have n3 := hN.lt
      obtain ⟨W1, hW1⟩ : ∃ W1, wo.alloc (.cells (nS.v Y) 116) = W1 := ⟨_, rfl⟩
      have hB1 : Bs b W1 (L ++ D.prL ((vs.map (·.1)).take j)) := by rw [← hW1]; exact HBj.out.on (below_alloc_ _ _)
      have hN1 : Nu b W W1 := by rw [← hW1]; exact HNj.out.trans (Nu.of_below (below_alloc_ _ _))
      have HB1 := Lib.hid hB1
      have HN1 := Lib.hid hN1
      have hll : (L ++ D.prL ((vs.map (·.1)).take j)).length + (D.prN x).length ≤ 100000 := by rw [List.length_append]; omega
      clear hN hB1 hN1 hpx htot hx
      by_cases hk0 : x.k = 0
      · have i0 : ((Y.k : Int) == 0) = true := by simp; omega
        obtain ⟨ht0, ht8⟩ := H8.out j x p ht hk0
        rw [D.prN_txt hk0] at HPX hll
        have CW := Lib.hid (HWS.out W1 _ x.t HB1.out ht0 ht8 (by omega))
        rw [← hYt] at CW
        subst hW1
        clear hk0 hYk ht ht0 ht8 HP H8 H5 hY hYt
        go_wp2_with (go_at_call 86; (with_reducible refine CW.out.mono ?_); rintro e w2 ⟨rfl, hb2, hn2⟩; have B2 := Lib.hid hb2; have N2 := Lib.hid hn2; clear hb2 hn2)
        go_roundw
        case rel => exact ⟨j + 1, by omega, by go_num, Lib.hid (by rw [HPX.out, ← List.append_assoc]; exact B2.out), Lib.hid (HN1.out.trans N2.out)⟩
        case measure => simp [intOf]; omega
      · have i0 : ((Y.k : Int) == 0) = false := by simp; omega
        by_cases hk5 : x.k = 5
        · have i5 : ((Y.k : Int) == 5) = true := by simp; omega
          have h35 := H5.out j x p ht hk5
          rw [h35] at HPX hll
          have CW := Lib.hid (HWB.out W1 _ HB1.out (by have : [35].length = 1 := rfl; omega))
          subst hW1
          clear hk0 hk5 hYk ht HP H8 H5 hY h35
          go_wp2_with (go_at_call 87; (with_reducible refine CW.out.mono ?_); rintro e w2 ⟨rfl, hb2, hn2⟩; have B2 := Lib.hid hb2; have N2 := Lib.hid hn2; clear hb2 hn2)
          go_roundw
          case rel => exact ⟨j + 1, by omega, by go_num, Lib.hid (by rw [HPX.out, ← List.append_assoc]; exact B2.out), Lib.hid (HN1.out.trans N2.out)⟩
          case measure => simp [intOf]; omega
        · have i5 : ((Y.k : Int) == 5) = false := by simp; omega
          have hpp := HP.out j x p ht hk0 hk5
          rw [hY] at hpp
          have CW := Lib.hid (hpp W1 _ (HN.out.trans HN1.out) HB1.out hll)
          subst hW1
          clear hk0 hk5 hYk ht HP H8 H5 hY hpp
          go_wp2_with (go_at_call 88; (with_reducible refine CW.out.mono ?_); rintro e w2 ⟨rfl, hb2, hn2⟩; have B2 := Lib.hid hb2; have N2 := Lib.hid hn2; clear hb2 hn2)
          go_roundw
          case rel => exact ⟨j + 1, by omega, by go_num, Lib.hid (by rw [HPX.out, ← List.append_assoc]; exact B2.out), Lib.hid (HN1.out.trans N2.out)⟩
          case measure => simp [intOf]; omega
    · obtain rfl : j = n := by omega
      have hall : (vs.map (·.1)).take j = vs.map (·.1) := List.take_of_length_le (by simp [hlen])
      have HA := Kept.mk hall
      clear hall
      go_wp2
      go_end0
      refine ⟨rfl, ?_, HNj.out⟩
      have := HBj.out
      rw [HA.out] at this
      exact this
end Go.Proofs.YtohhfcfnclafdaaGreatDoor
