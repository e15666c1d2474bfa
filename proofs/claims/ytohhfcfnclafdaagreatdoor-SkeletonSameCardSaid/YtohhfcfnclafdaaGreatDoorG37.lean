/-
  The program's Same: two messages are the same.
  The laws on canonical texts and on messages that are the same.
  What a law of messages is told of the variables: the way from its row to its call.
-/
import Derived.Test.YtohhfcfnclafdaaGreatDoorG36
import Derived.Test.YtohhfcfnclafdaaGreatDoorG33
import Derived.OpenShut
import Derived.ChangeArms
import Derived.Handed
import Derived.HandedShaped
import Derived.ProofKit
import Derived.LaidMore
import Derived.Lib.LaidTab
set_option linter.unusedVariables false
set_option linter.unusedSimpArgs false
set_option maxRecDepth 100000
namespace Go.Proofs.YtohhfcfnclafdaaGreatDoor
open Go.RowKit
attribute [local go_sem ↓] Go.wp_at_zero Go.wp_at_succ

/-- The least number of which something is said. -/
noncomputable def lk (R : Nat → Prop) : Nat := open Classical in if h : ∃ k, R k ∧ ∀ j, R j → k ≤ j then Classical.choose h else 0
theorem least_of {R : Nat → Prop} : ∀ (n k : Nat), k ≤ n → R k → ∃ k, R k ∧ ∀ j, R j → k ≤ j
  | 0, k, hk, h => ⟨k, h, fun j _ => by omega⟩
  | n + 1, k, hk, h => by
    by_cases hs : ∃ j, R j ∧ j ≤ n
    · obtain ⟨j, hj, hn⟩ := hs
      exact least_of n j hn hj
    · refine ⟨k, h, fun j hj => ?_⟩
      have : ¬ j ≤ n := fun e => hs ⟨j, hj, e⟩
      omega
theorem lk_is {R : Nat → Prop} (h : ∃ k, R k) : R (lk R) := by
  obtain ⟨k, hk⟩ := h
  have h := least_of k k (Nat.le_refl _) hk
  unfold lk
  rw [dif_pos h]
  exact (Classical.choose_spec h).1
theorem lk_le {R : Nat → Prop} {k : Nat} (hk : R k) : lk R ≤ k := by
  have h := least_of k k (Nat.le_refl _) hk
  unfold lk
  rw [dif_pos h]
  exact (Classical.choose_spec h).2 k hk
theorem Ow.cut {T : TypeId} {sz base : Nat} {w : World} {A : Option Addr} {n c : Nat} {xs ys : List Value} (h : Ow T sz base w A (n + 1) c (xs ++ ys)) (hy : ys.length = sz) : Ow T sz base w A n c xs := by
  have hl := h.row.1
  rw [List.length_append, hy, Nat.add_mul, Nat.one_mul] at hl
  refine ⟨⟨by omega, ?_⟩, h.base⟩
  rcases h.row.2 with ⟨_, h0⟩ | ⟨g, cap, cur, e, hg, hh, h1, h2, h3, h4⟩
  · omega
  · injection e with e1 e2 e3
    subst e1 e3
    refine .inr ⟨g, c, cur, rfl, hg, hh, by omega, h2, h3, ?_⟩
    have := congrArg (List.take (n * sz)) h4
    rw [List.take_take, List.take_append_of_le_length (by omega), List.take_of_length_le (l := xs) (by omega)] at this
    rwa [Nat.min_eq_left (by rw [Nat.add_mul]; omega)] at this
theorem Ow.lit {T : TypeId} {sz base : Nat} (w : World) (cs : Array Value) (hs : cs.size = sz) (h : base ≤ w.heap.size) : Ow T sz base (w.alloc (.cells cs T)) (some ⟨w.heap.size, 0, none⟩) 1 1 cs.toList := by
  subst hs
  exact ⟨World.ownsRow_lit w cs 1 h (by simp [maxLen]) (by simp), by simp; omega⟩
theorem Ow.nem {T : TypeId} {sz base : Nat} {w : World} {A : Option Addr} {n c g : Nat} {xs : List Value} {E : List Fk} (h : Ow T sz base w A n c xs) (hg : FkAt w g E) : (Value.slice A n c).ownBlock ≠ some g := by
  intro h1
  obtain ⟨es, clock, hb, _⟩ := hg.out
  rcases h.row.2 with ⟨e1, _⟩ | ⟨g', cap, cur, e1, _, hh, _⟩
  · rw [e1] at h1; simp [Value.ownBlock] at h1
  · rw [e1] at h1
    have a1 : g' = g := by simpa [Value.ownBlock] using h1
    subst a1
    rw [hb] at hh
    cases hh
theorem FkAt.neb {w : World} {g q : Nat} {E : List Fk} {t : TypeId} {cs : Array Value} (h : FkAt w g E) (hb : Blk w q t cs) : q ≠ g := by
  rintro rfl
  obtain ⟨es, clock, h1, _⟩ := h.out
  rw [hb.out] at h1
  cases h1
/-- The keys that are met are of pairs that are done. -/
def EM (w : World) (E : List Fk) (M : List (List D.Nd × List D.Nd)) : Prop := ∀ k ∈ E, ∃ p z, ky p = k ∧ It w p z ∧ z ∈ M ∧ z.1.length = z.2.length
theorem EM.plk {w W : World} {E : List Fk} {M : List (List D.Nd × List D.Nd)} (h : EM w E M) (b : Below w.heap.size w W) : ∀ k ∈ E, Plk W k := fun k hk => by
  obtain ⟨p, z, rfl, hi, _, hl⟩ := h k hk
  have := hi.plk hl
  exact ⟨this.1.on b, this.2.on b⟩
theorem EM.more {w : World} {E : List Fk} {M : List (List D.Nd × List D.Nd)} (h : EM w E M) {p : Pv} {z : List D.Nd × List D.Nd} (hi : It w p z) (hl : z.1.length = z.2.length) : EM w (E ++ [ky p]) (M ++ [z]) := fun k hk => by
  rcases List.mem_append.1 hk with hk | hk
  · obtain ⟨p', z', e, hi', hm, hl'⟩ := h k hk
    exact ⟨p', z', e, hi', List.mem_append.2 (.inl hm), hl'⟩
  · obtain rfl : k = ky p := by simpa using hk
    exact ⟨p, z, rfl, hi, by simp, hl⟩
/-- Where Same stands. -/
structure Sr (w : World) (x y : List D.Nd) (k : Nat) (s6 : Value) (wr : World) : Prop where
  out : ∃ (A : Option Addr) (c : Nat) (td : List Pv) (tz : List (List D.Nd × List D.Nd)) (E : List Fk) (M : List (List D.Nd × List D.Nd)), s6 = .slice A td.length c ∧ Ow 111 2 w.heap.size wr A td.length c (pcs td) ∧ All2 (It w) td tz ∧ FkAt wr w.heap.size E ∧ EM w E M ∧
    D.Clo tz M ∧ ((x, y) ∈ tz ∨ (x, y) ∈ M) ∧ (x = y → ∀ z ∈ tz, z.1 = z.2) ∧ D.wts tz = k ∧ k ≤ 1001 ∧ Below w.heap.size w wr
theorem upto_p (ad : Addr) (n c k : Nat) (hk : k ≤ c) (W : World) : (Instr.slice 112 (.slice (some ad) n c) none (some (.int .i64 (k : Nat))) none).run Tryz.prog W = .ok (.slice (some ad) k c) W := by
  rw [run_slice_h W 112 (some ad) n c (by kernel_rfl) .i64 k (by omega) (by omega)]
  have : ∀ a : Addr, a.add 0 = a := add_zero_
  simp [Result.andThen, sliced, go_sem, this]
theorem it_one {w : World} : ∀ {ps : List Pv} {m : List (List D.Nd × List D.Nd)}, All2 (It w) ps m → ∀ u ∈ pcs ps, u.oneCell' = true
  | [], _, _, u, h => by cases h
  | p :: ps, [], h, _, _ => h.elim
  | p :: ps, z :: m, h, u, hu => by
    obtain ⟨A, B, c, d, e⟩ := h.1.shape
    simp only [pcs, List.mem_cons] at hu
    rcases hu with rfl | rfl | hu
    · rw [e]; rfl
    · rw [e]; rfl
    · exact it_one h.2 u hu
set_option maxHeartbeats 16000000 in
theorem same_list (w : World) (u v : Value) (x y : List D.Nd) (h : It w (u, v) (x, y)) :
    Calls Tryz.prog 16 #[u, v] w fun e w' => (∃ b, (b = true ↔ x = y) ∧ e = .returned (.bool b)) ∧ Below w.heap.size w w' := by
  have hst : ∃ (A B : Option Addr) (n m c d : Nat), u = .slice A n c ∧ v = .slice B m d := by
    obtain ⟨A, B, c, d, e⟩ := h.shape
    injection e with e1 e2
    exact ⟨A, B, _, _, c, d, e1, e2⟩
  obtain ⟨Au, Bu, nu, mu, cu, du, rfl, rfl⟩ := hst
  have H := Lib.hid h
  have hx5 : (D.prL x).length ≤ 1000 := by obtain ⟨_, _, _, _, _, _, _, _, h5, _⟩ := h.out; exact h5
  have HX5 := Lib.hid hx5
  clear h hx5
  go_enter Tryz.func16, Tryz.ntmps16
  have hmm := @run_makeMap Tryz.prog
  go_wp2_with fail
  clear hmm
  go_loopw [6] (fun s6 wr => ∃ (A : Option Addr) (n c : Nat), s6 = .slice A n c ∧ ∃ k, Sr w x y k (.slice A n c) wr) (fun s6 wr => lk (fun k => Sr w x y k s6 wr))
  case atStart =>
    refine ⟨_, _, _, rfl, D.wt x, ⟨some ⟨w.heap.size + 1, 0, none⟩, 1, [(.slice Au nu cu, .slice Bu mu du)], [(x, y)], [], [], rfl, ?_, ⟨H.out, trivial⟩, ?_, (fun k hk => by cases hk), (fun p hp => by cases hp), .inl (by simp), ?_, ?_, ?_, ?_⟩⟩
    · have := Ow.lit (T := 111) (sz := 2) (base := w.heap.size) (w.alloc (.map #[] 0)) #[.slice Au nu cu, .slice Bu mu du] rfl (by simp)
      simpa [pcs] using this
    · exact (fk_new w _ rfl).on (below_alloc_ _ _)
    · intro e z hz
      simp at hz
      rw [hz]
      exact e
    · simp [D.wts]
    · have := HX5.out; unfold D.wt; omega
    · exact (below_alloc_ _ _).trans ((below_alloc_ _ _).mono (by simp))
  case round =>
    obtain ⟨A, N, c, rfl, hrel⟩ := hrel
    obtain ⟨wo, rfl⟩ : ∃ wo : World, wo = wr := ⟨_, rfl⟩
    have hk := lk_is hrel
    obtain ⟨k0, hk0⟩ : ∃ k0, lk (fun k => Sr w x y k (.slice A N c) wo) = k0 := ⟨_, rfl⟩
    rw [hk0] at hk
    obtain ⟨A', c', td, tz, E, M, e6, ho, ha, hf, hem, hcl, hin, hall, hwt, hk1, hbl⟩ := hk.out
    injection e6 with e1 hN e3
    subst e1 e3
    have KH := Kept.mk hk0
    clear hk0 hrel hk
    rcases List.eq_nil_or_concat td with rfl | ⟨td0, p, e⟩
    · have htz : tz = [] := by have := ha.len; simpa using this.symm
      subst htz
      simp only [List.length_nil] at hN
      subst hN
      have hxy : x = y := by
        rcases hin with h | h
        · cases h
        · exact D.Clo.done (p := (x, y)) hcl h
      have HXY := Kept.mk hxy
      have HB := Lib.hid hbl
      clear hxy hall hin hcl hbl ha ho hf hem
      go_wp2
      go_ret
      exact ⟨⟨true, ⟨fun _ => HXY.out, fun _ => rfl⟩, rfl⟩, HB.out⟩
    · rw [List.concat_eq_append] at e
      subst e
      obtain ⟨tz0, z, rfl, ha0, hi⟩ := All2.snoc ha
      obtain ⟨P1, P2, p3, p4, ep⟩ := hi.shape
      have hp1 : p.1 = .slice P1 z.1.length p3 := by rw [ep]
      have hp2 : p.2 = .slice P2 z.2.length p4 := by rw [ep]
      obtain ⟨L1, hL1⟩ : ∃ L, z.1.length = L := ⟨_, rfl⟩
      obtain ⟨L2, hL2⟩ : ∃ L, z.2.length = L := ⟨_, rfl⟩
      have CE := Lib.hid (fun W (hW : Below w.heap.size w W) => (hi.on hW).eqs)
      rw [hp1, hp2, hL1, hL2] at CE
      rw [← hN] at ho
      have hN1 : N = td0.length + 1 := by rw [hN]; simp
      obtain ⟨n1, hn1⟩ : ∃ n1, td0.length = n1 := ⟨_, rfl⟩
      rw [hn1] at hN1
      have hN2 : N ≤ 1001 := by
        have h1 := ha.len
        have h2 := D.wts_len (tz0 ++ [z])
        rw [hN]
        omega
      have c0 : (pcs (td0 ++ [p]))[n1 * 2]? = some (.slice P1 L1 p3) := by
        rw [pcs_app, List.getElem?_append_right (by rw [pcs_len]; omega), pcs_len, hn1, Nat.sub_self]
        show some p.1 = _
        rw [hp1, hL1]
      have c1 : (pcs (td0 ++ [p]))[n1 * 2 + 1]? = some (.slice P2 L2 p4) := by
        rw [pcs_app, List.getElem?_append_right (by rw [pcs_len]; omega), pcs_len, hn1, show n1 * 2 + 1 - n1 * 2 = 1 by omega]
        show some p.2 = _
        rw [hp2, hL2]
      obtain ⟨ad, rfl, hbk, k0c⟩ := ho.to_row.cell c0
      obtain ⟨ad', e', _, k1c⟩ := ho.to_row.cell c1
      cases e'
      have k2c : wo.cell? ⟨(ad.add (n1 * 2)).block, (ad.add (n1 * 2)).off + 1, none⟩ = some (.slice P2 L2 p4) := by
        rw [← add_succ, add_of_add]; exact k1c
      have hcap := ho.cap
      have hup := upto_p ad N c n1 (by omega)
      have hoc : Ow 111 2 w.heap.size wo (some ad) n1 c (pcs td0) := by
        rw [hN1, pcs_app] at ho
        exact ho.cut rfl
      have i0 : (0 : Int) < N := by omega
      have i1 : (N : Int) - 1 = (n1 : Int) := by omega
      have i2 : (n1 : Int) < N := by omega
      have i3 : (n1 : Int) ≤ c := by omega
      obtain ⟨W1, hW1⟩ : ∃ W, wo.alloc (.cells #[.slice P1 L1 p3, .slice P2 L2 p4] 111) = W := ⟨_, rfl⟩
      have b01 : Below wo.heap.size wo W1 := by rw [← hW1]; exact below_alloc_ _ _
      have B1 := Lib.hid (hbl.trans (b01.mono hbl.size))
      have HK1 : Hid (Blk W1 wo.heap.size 111 #[.slice P1 L1 p3, .slice P2 L2 p4]) := Lib.hid (by rw [← hW1]; exact Blk.new _ _ _)
      have HO1 := Lib.hid (hoc.on b01)
      have HF1 := Lib.hid (hf.on b01)
      have HB0 := Lib.hid hbl
      have q0 : (wo.alloc (.cells #[.slice P1 L1 p3, .slice P2 L2 p4] 111)).cell? ⟨wo.heap.size, 0, none⟩ = some (.slice P1 L1 p3) := by rw [hW1]; exact HK1.out.c_ 0
      have q1 : (wo.alloc (.cells #[.slice P1 L1 p3, .slice P2 L2 p4] 111)).cell? ⟨wo.heap.size, 1, none⟩ = some (.slice P2 L2 p4) := by rw [hW1]; exact HK1.out.c_ 1
      by_cases hh : z.1.map D.hd = z.2.map D.hd
      · have hl : z.1.length = z.2.length := by have := congrArg List.length hh; simpa using this
        rw [decide_eq_true hh] at CE
        have CE1 := Lib.hid (CE.out _ B1.out)
        obtain ⟨K, hK⟩ : ∃ K, ky p = K := ⟨_, rfl⟩
        have CF := Lib.hid (fun W => hi.firsts hl W)
        have hpk := hi.plk hl
        rw [hp1, hp2, hL1, hL2, hK] at CF
        rw [hK] at hpk
        have HPK : Hid (∀ W, Below w.heap.size w W → Plk W K) := Lib.hid fun W hW => ⟨hpk.1.on hW, hpk.2.on hW⟩
        have HEP := Lib.hid (fun W (hW : Below w.heap.size w W) => hem.plk hW)
        have hk2 : D.wts tz0 + D.wt z.1 = k0 := by rw [← hwt, D.wts_app]; simp [D.wts]
        have hwz : 1 ≤ D.wt z.1 := by unfold D.wt; omega
        have HKL : Hid (Blk (wo.alloc (.cells #[.slice P1 L1 p3, .slice P2 L2 p4] 111)) wo.heap.size 111 #[.slice P1 L1 p3, .slice P2 L2 p4]) := Lib.hid (Blk.new _ _ _)
        rw [← hW1] at HF1 HO1 B1 CE1
        by_cases hm : K ∈ E
        · have hzM : z ∈ M := by
            obtain ⟨p', z', e, hi', hmem, hl'⟩ := hem K hm
            rw [hi.same hi' hl hl' (hK.trans e.symm)]
            exact hmem
          have HS : Hid (∀ wf, Below wo.heap.size wo wf → Sr w x y (D.wts tz0) (.slice (some ad) n1 c) wf) := Lib.hid fun wf hwf => ⟨⟨some ad, c, td0, tz0, E, M, by rw [hn1], by rw [hn1]; exact hoc.on hwf, ha0, hf.on hwf, hem, hcl.skip hzM, by
            rcases hin with h | h
            · rcases List.mem_append.1 h with h | h
              · exact .inl h
              · rw [show (x, y) = z by simpa using h]; exact .inr hzM
            · exact .inr h, fun e q hq => hall e q (List.mem_append.2 (.inl hq)), rfl, by omega, hbl.trans (hwf.mono hbl.size)⟩⟩
          have HLK : Hid (∀ W, Below (wo.alloc (.cells #[.slice P1 L1 p3, .slice P2 L2 p4] 111)).heap.size (wo.alloc (.cells #[.slice P1 L1 p3, .slice P2 L2 p4] 111)) W → (Instr.lookup 109 (.map (some w.heap.size)) (kv K) true).run Tryz.prog W = .ok (.tuple #[.agg #[], .bool true]) W) := Lib.hid fun W hW => by
            have := (HF1.out.on hW).look (HPK.out W (B1.out.trans (hW.mono B1.out.size))) (HEP.out W (B1.out.trans (hW.mono B1.out.size)))
            rwa [decide_eq_true hm] at this
          have HLT : Kept (D.wts tz0 < k0) := ⟨by omega⟩
          clear hh hall hin hcl hbl ha ho hf hem c0 c1 hp1 hp2 ep hi ha0 hN hN1 hn1 hL1 hL2 hcap hoc hW1 k1c hl hK hpk hk2 hwz hwt hm hzM
          go_wp2_with (first
            | (go_at_call 44; (with_reducible refine CE1.out.mono ?_); rintro e w2 ⟨rfl, b2⟩; have B2 := Lib.hid b2; have r0 := (HKL.out.on b2).c_ 0; have r1 := (HKL.out.on b2).c_ 1; have r2 := (HKL.out.on b2).lt; clear b2)
            | (go_at_call 46; (with_reducible refine (CF.out _).mono ?_); rintro e w3 ⟨rfl, b3⟩; have B3 := Lib.hid (B2.out.trans (b3.mono B2.out.size)); have hlk := HLK.out w3 B3.out; clear b3))
          go_roundw
          case rel => exact ⟨_, _, _, rfl, _, HS.out _ ((below_alloc_ wo _).trans ((B3.out.trans ((below_alloc_ w3 _).mono B3.out.size)).mono (by simp)))⟩
          case measure => exact Nat.lt_of_le_of_lt (lk_le (HS.out _ ((below_alloc_ wo _).trans ((B3.out.trans ((below_alloc_ w3 _).mono B3.out.size)).mono (by simp))))) (by rw [KH.out]; exact HLT.out)
        · have CW := Lib.hid (fun W (hW : Below w.heap.size w W) => hi.within hh W hW)
          rw [hp1, hp2, hL1, hL2] at CW
          have hwl : D.Wl z.1 ∧ D.Wl z.2 := by
            obtain ⟨_, _, _, _, _, _, h3, h4, _⟩ := hi.out
            exact ⟨D.rt_wl h3, D.rt_wl h4⟩
          have hkw := D.kps_wt (m := z.2) hwl.1
          have hkl := D.wts_len (D.kps z.1 z.2)
          have hz5 : (D.prL z.1).length ≤ 1000 := by unfold D.wt at hk2; omega
          have hkb : D.wts tz0 + D.wts (D.kps z.1 z.2) ≤ 1001 := by unfold D.wt at hk2; omega
          have HPS : Hid (∀ ps : List Pv, All2 (It w) ps (D.kps z.1 z.2) → ps.length ≤ 1000) := Lib.hid fun ps h => by rw [h.len]; omega
          have HS : Hid (∀ (A7 : Option Addr) (c7 : Nat) (ps : List Pv) (w7 : World), All2 (It w) ps (D.kps z.1 z.2) → Ow 111 2 w.heap.size w7 A7 (n1 + ps.length) c7 (pcs td0 ++ pcs ps) → FkAt w7 w.heap.size (E ++ [K]) → Below w.heap.size w w7 → Sr w x y (D.wts tz0 + D.wts (D.kps z.1 z.2)) (.slice A7 (n1 + ps.length) c7) w7) := Lib.hid fun A7 c7 ps w7 hps h7 hf7 hb7 =>
            ⟨⟨A7, c7, td0 ++ ps, tz0 ++ D.kps z.1 z.2, E ++ [K], M ++ [z], by rw [List.length_append, hn1], by rw [List.length_append, hn1, pcs_app]; exact h7, All2.app ha0 hps, hf7, by rw [← hK]; exact hem.more hi hl, hcl.step hh hwl.1 hwl.2, by
              rcases hin with h | h
              · rcases List.mem_append.1 h with h | h
                · exact .inl (List.mem_append.2 (.inl h))
                · exact .inr (List.mem_append.2 (.inr h))
              · exact .inr (List.mem_append.2 (.inl h)), fun e q hq => by
              rcases List.mem_append.1 hq with hq | hq
              · exact hall e q (List.mem_append.2 (.inl hq))
              · have ez : z.1 = z.2 := hall e z (by simp)
                rw [ez] at hq
                exact D.kps_self _ q hq, D.wts_app _ _, hkb, hb7⟩⟩
          have HLT : Kept (D.wts tz0 + D.wts (D.kps z.1 z.2) < k0) := ⟨by unfold D.wt at hk2; omega⟩
          have HLK : Hid (∀ W, Below (wo.alloc (.cells #[.slice P1 L1 p3, .slice P2 L2 p4] 111)).heap.size (wo.alloc (.cells #[.slice P1 L1 p3, .slice P2 L2 p4] 111)) W → (Instr.lookup 109 (.map (some w.heap.size)) (kv K) true).run Tryz.prog W = .ok (.tuple #[.agg #[], .bool false]) W) := Lib.hid fun W hW => by
            have := (HF1.out.on hW).look (HPK.out W (B1.out.trans (hW.mono B1.out.size))) (HEP.out W (B1.out.trans (hW.mono B1.out.size)))
            rwa [decide_eq_false hm] at this
          have HPUT : Hid (∀ W, Below (wo.alloc (.cells #[.slice P1 L1 p3, .slice P2 L2 p4] 111)).heap.size (wo.alloc (.cells #[.slice P1 L1 p3, .slice P2 L2 p4] 111)) W → ∃ w5, (Instr.mapUpdate 109 (.map (some w.heap.size)) (kv K) (.agg #[])).run Tryz.prog W = .ok () w5 ∧ FkAt w5 w.heap.size (E ++ [K]) ∧ W.grownBy w5 (some w.heap.size) ∧ Blk w5 wo.heap.size 111 #[.slice P1 L1 p3, .slice P2 L2 p4] ∧ Ow 111 2 w.heap.size w5 (some ad) n1 c (pcs td0) ∧ Below w.heap.size w w5) := Lib.hid fun W hW => by
            obtain ⟨w5, h1, h2, h3⟩ := (HF1.out.on hW).put (HPK.out W (B1.out.trans (hW.mono B1.out.size))) (HEP.out W (B1.out.trans (hW.mono B1.out.size))) hm
            have hOW := HO1.out.on hW
            refine ⟨w5, h1, h2, h3, (HKL.out.on hW).grown h3 (fun e => (HF1.out.on hW).neb (HKL.out.on hW) (by injection e)), hOW.kept h3.size fun q hq => h3.block q (hOW.lt q hq).2 (fun e => hOW.nem (HF1.out.on hW) (by rw [hq]; exact e)), ?_⟩
            have hb2 := B1.out.trans (hW.mono B1.out.size)
            exact hb2.trans ⟨h3.os, h3.tape, h3.output, h3.size, fun i hi' => h3.block i (Nat.lt_of_lt_of_le hi' hb2.size) (fun e => by injection e with e; omega)⟩
          have hn1b : n1 ≤ 1001 := by omega
          clear hh hall hin hcl hbl ha ho hf hem c0 c1 hp1 hp2 ep hi ha0 hN hN1 hn1 hL1 hL2 hcap hoc hW1 k1c hl hK hpk hk2 hwz hwt hm hkw hkl hz5 hwl hkb
          go_wp2_with (first
            | (go_at_call 44; (with_reducible refine CE1.out.mono ?_); rintro e w2 ⟨rfl, b2⟩; have B2 := Lib.hid b2; have r0 := (HKL.out.on b2).c_ 0; have r1 := (HKL.out.on b2).c_ 1; have r2 := (HKL.out.on b2).lt; clear b2)
            | (go_at_call 46; (with_reducible refine (CF.out _).mono ?_); rintro e w3 ⟨rfl, b3⟩; have B3 := Lib.hid (B2.out.trans (b3.mono B2.out.size)); have hlk := HLK.out w3 B3.out; have hbx := (HKL.out.on B3.out).alloc (.cells #[] 118); have t0 := hbx.c_ 0; have t1 := hbx.c_ 1; have t2 := hbx.lt; clear b3 hbx)
            | (go_at_call 46; (with_reducible refine (CF.out _).mono ?_); rintro e w4 ⟨rfl, b4⟩; have B4 := Lib.hid (B3.out.trans (((below_alloc_ w3 _).trans (b4.mono (by simp))).mono B3.out.size)); obtain ⟨w5, hput, hf5, hg5, hk5, ho5, hb5⟩ := HPUT.out w4 B4.out; have HF5 := Lib.hid hf5; have HO5 := Lib.hid ho5; have HB5 := Lib.hid hb5; have v0 := hk5.c_ 0; have v1 := hk5.c_ 1; have v2 := hk5.lt; clear b4 hf5 hg5 hk5 ho5 hb5)
            | (go_at_call 47; (with_reducible refine (CW.out _ HB5.out).mono ?_); rintro e w6 ⟨A6, c6, ps, rfl, hrow, hal, b6⟩; have HRW := Lib.hid hrow; have HAL := Lib.hid hal; have HPL := HPS.out ps hal; have B6 := Lib.hid b6; clear hrow hal b6)
            | (at_builtin; refine gapp _ pair_under pair_info rfl (by decide) (by decide) rfl (.tmp 48) (.tmp 50) rfl rfl (HO5.out.on B6.out) rfl HRW.out (it_one HAL.out) (by omega) ?_; intro A7 c7 w7 h7 hg7 hor7))
          have HNEW := Lib.hid (HS.out A7 c7 ps w7 HAL.out h7 ((HF5.out.on B6.out).to (hg7.block _ (HF5.out.on B6.out).lt (fun e => (HO5.out.on B6.out).nem (HF5.out.on B6.out) e.symm))) (HB5.out.trans ((B6.out.mono HB5.out.size).trans (ow_below (HO5.out.on B6.out) hg7))))
          go_roundw
          case rel => exact ⟨_, _, _, rfl, _, HNEW.out⟩
          case measure => exact Nat.lt_of_le_of_lt (lk_le HNEW.out) (by rw [KH.out]; exact HLT.out)
      · rw [decide_eq_false hh] at CE
        have HNE : Kept (¬ x = y) := ⟨fun e => hh (by rw [hall e z (by simp)])⟩
        have CE1 := Lib.hid (CE.out _ B1.out)
        rw [← hW1] at CE1
        clear hh hall hin hcl hbl ha ho hf hem c0 c1 hp1 hp2 ep hi ha0 hN hN1 hn1 hL1 hL2 hcap hoc hW1 k1c KH
        go_wp2_with (go_at_call 44; (with_reducible refine CE1.out.mono ?_); rintro e w2 ⟨rfl, b2⟩; have B2 := Lib.hid b2; clear b2)
        go_ret
        exact ⟨⟨false, ⟨(fun h => by cases h), fun h => absurd h HNE.out⟩, rfl⟩, HB0.out.trans (((below_alloc_ wo _).trans (B2.out.mono (by simp))).mono HB0.out.size)⟩
end Go.Proofs.YtohhfcfnclafdaaGreatDoor
set_option linter.unusedVariables false
set_option linter.unusedSimpArgs false
set_option maxRecDepth 100000
namespace Go.Proofs.YtohhfcfnclafdaaGreatDoor
open Go.RowKit
attribute [local go_sem ↓] Go.wp_at_zero Go.wp_at_succ

theorem D.rdM_none {l : List Nat} (h : (D.rdM l).e ≠ 0) : (D.rdM l).l = [] := by
  revert h
  unfold D.rdM
  split
  · intro _; rfl
  · dsimp only
    split
    · intro _; rfl
    · split
      · intro _; rfl
      · intro h; exact absurd rfl h
/-- Parse of a text that right parts are printed as. -/
theorem parse_back {F : Nat → Prop} {w W : World} {u : Value} {l : List D.Nd} (hP : Pm F w 3 u l) (hR : D.Rt 3 false l) (hz : (D.prL l).length ≤ 60) (hG : Gv W) :
    Calls Tryz.prog 13 #[.string (D.sb (D.prL l))] W fun e w' => ∃ (A : Option Addr) (n c : Nat), e = .returned (.tuple #[.slice A n c, .int .i64 0, .int .i64 0]) ∧ Below W.heap.size W w' ∧ Pm (fun b => W.heap.size ≤ b) w' 3 (.slice A n c) l := by
  have h8 := prL_256 3 hP hR
  have h := parse_any (D.sb (D.prL l)) W hG (by rw [D.sb_len]; omega)
  rw [D.ns_sb h8, D.rd_pr hR hz] at h
  exact h.mono fun e w' ⟨h1, A, n, c, h2, h3⟩ => ⟨A, n, c, h2, h1, h3⟩
theorem same_pm {F F' : Nat → Prop} {w : World} {u v : Value} {x y : List D.Nd} (h : Pm F w 3 u x) (h' : Pm F' w 3 v y) (hR : D.Rt 3 false x) (hR' : D.Rt 3 false y) (hz : (D.prL x).length ≤ 1000) (hz' : (D.prL y).length ≤ 1000) :
    Calls Tryz.prog 16 #[u, v] w fun e w' => (∃ b, (b = true ↔ x = y) ∧ e = .returned (.bool b)) ∧ Below w.heap.size w w' :=
  same_list w u v x y ⟨3, 3, false, false, h.weaken (fun _ _ _ => trivial), h'.weaken (fun _ _ _ => trivial), hR, hR', hz, hz'⟩
set_option maxHeartbeats 8000000 in
theorem law_canon (s : ByteArray) (w : World) (hG : Gw w) (hm : s.size ≤ 9223372036854775807) : Calls Tryz.prog 3 #[.string s] w fun e w' => e = .returned (.bool true) ∧ Below w.heap.size w w' := by
  obtain ⟨q, hq, hqm⟩ : ∃ q : Nat, q ≤ 60 ∧ q = min s.size 60 := ⟨_, Nat.min_le_right _ _, rfl⟩
  have hqs : q ≤ s.size := by omega
  have hmin : (min (s.size : Int) 60) = (q : Int) := by omega
  obtain ⟨t, ht⟩ : ∃ t, s.extract 0 q = t := ⟨_, rfl⟩
  have hts : t.size ≤ 1000 := by rw [← ht]; have := cut_le s q hqs; omega
  obtain ⟨o, ho⟩ : ∃ o, D.rdM (D.ns t) = o := ⟨_, rfl⟩
  obtain ⟨hrt, hpz⟩ := D.rdM_rt (D.ns t)
  have hnone := D.rdM_none (l := D.ns t)
  have C1 := Lib.hid (fun W (h : Below w.heap.size w W) => parse_any t W (hG.on h).g hts)
  rw [ho] at C1 hrt hpz hnone
  have HG := Lib.hid hG
  have HB0 := Lib.hid (Below.refl w.heap.size w)
  have C3 := Lib.hid (fun W (h : Below w.heap.size w W) => known_any W (hG.on h))
  have HRT := Lib.hid hrt
  have HPZ := Lib.hid hpz
  have i1 : ((q : Int)).toNat = q := by omega
  clear ho hG hqm
  obtain ⟨l, oa, oe⟩ := o
  simp only at hrt hpz hnone HRT HPZ
  by_cases he : oe = 0
  · subst he
    have CP := Lib.hid (fun (F : Nat → Prop) W u (h : Pm F W 3 u l) (hb : Below w.heap.size w W) => print_any F W u l h hrt hpz (HG.out.on hb).g)
    unfold D.prT at CP
    by_cases h60 : 60 < (D.prL l).length
    · rw [if_pos h60] at CP
      have CP' : Hid (∀ (F : Nat → Prop) W u, Pm F W 3 u l → Below w.heap.size w W → Calls Tryz.prog 15 #[u] W fun e w' => e = .returned (.tuple #[.string ⟨#[]⟩, .int .i64 2]) ∧ Below W.heap.size W w') := CP
      clear CP h60 hrt hpz hnone
      go_enter Tryz.func3, Tryz.ntmps3
      go_wp2_with (first
        | (go_at_call 13; (with_reducible refine (C1.out _ HB0.out).mono ?_); rintro e w1 ⟨b1, A1, n1, c1, rfl, p1⟩; have B1 := Lib.hid b1; have P1 := Lib.hid p1; clear b1 p1)
        | (go_at_call 15; (with_reducible refine (CP'.out _ _ _ P1.out B1.out).mono ?_); rintro e w2 ⟨rfl, b2⟩; have B2 := Lib.hid (B1.out.trans (b2.mono B1.out.size)); clear b2)
        | (go_at_call 14; (with_reducible refine (C3.out _ B2.out).mono ?_); rintro e w3 ⟨rfl, b3⟩; have B3 := Lib.hid (B2.out.trans (b3.mono B2.out.size)); clear b3))
      go_ret
      exact ⟨rfl, B3.out⟩
    · rw [if_neg h60] at CP
      have hz : (D.prL l).length ≤ 60 := by omega
      have C4 := Lib.hid (fun (F : Nat → Prop) (w0 W : World) (u : Value) (h : Pm F w0 3 u l) (hb : Below w.heap.size w W) => parse_back h hrt hz (HG.out.on hb).g)
      have CS := Lib.hid (fun (F F' : Nat → Prop) (W : World) (u v : Value) (h : Pm F W 3 u l) (h' : Pm F' W 3 v l) => same_pm h h' hrt hrt hpz hpz)
      obtain ⟨X, hX⟩ : ∃ X, D.sb (D.prL l) = X := ⟨_, rfl⟩
      simp only [hX] at CP C4
      have CP' : Hid (∀ (F : Nat → Prop) W u, Pm F W 3 u l → Below w.heap.size w W → Calls Tryz.prog 15 #[u] W fun e w' => e = .returned (.tuple #[.string X, .int .i64 0]) ∧ Below W.heap.size W w') := CP
      have hxx : (X.toList == X.toList) = true := by simp
      clear CP h60 hrt hpz hnone hX hz
      go_enter Tryz.func3, Tryz.ntmps3
      go_wp2_with (first
        | (go_at_call 13; (with_reducible refine (C1.out _ HB0.out).mono ?_); rintro e w1 ⟨b1, A1, n1, c1, rfl, p1⟩; have B1 := Lib.hid b1; have P1 := Lib.hid p1; clear b1 p1)
        | (go_at_call 15; (with_reducible refine (CP'.out _ _ _ P1.out B1.out).mono ?_); rintro e w2 ⟨rfl, b2⟩; have B2 := Lib.hid (B1.out.trans (b2.mono B1.out.size)); have Q2 := Lib.hid (P1.out.keep (keeps_below b2)); clear b2)
        | (go_at_call 13; (with_reducible refine (C4.out _ _ _ _ P1.out B2.out).mono ?_); rintro e w3 ⟨A3, n3, c3, rfl, b3, p3⟩; have B3 := Lib.hid (B2.out.trans (b3.mono B2.out.size)); have Q3 := Lib.hid (Q2.out.keep (keeps_below b3)); have P3 := Lib.hid p3; clear b3 p3)
        | (go_at_call 15; (with_reducible refine (CP'.out _ _ _ P3.out B3.out).mono ?_); rintro e w4 ⟨rfl, b4⟩; have B4 := Lib.hid (B3.out.trans (b4.mono B3.out.size)); have Q4 := Lib.hid (Q3.out.keep (keeps_below b4)); have P4 := Lib.hid (P3.out.keep (keeps_below b4)); clear b4)
        | (go_at_call 14; (with_reducible refine (C3.out _ B4.out).mono ?_); rintro e w5 ⟨rfl, b5⟩; have B5 := Lib.hid (B4.out.trans (b5.mono B4.out.size)); have Q5 := Lib.hid (Q4.out.keep (keeps_below b5)); have P5 := Lib.hid (P4.out.keep (keeps_below b5)); clear b5)
        | (go_at_call 16; (with_reducible refine (CS.out _ _ _ _ _ Q5.out P5.out).mono ?_); rintro e w6 ⟨⟨b, hb, rfl⟩, b6⟩; obtain rfl := hb.2 (by trivial); have B6 := Lib.hid (B5.out.trans (b6.mono B5.out.size)); clear b6 hb))
      go_ret
      exact ⟨rfl, B6.out⟩
  · have ie : ((oe : Int) != 0) = true := by simp; omega
    have hnil := hnone he
    subst hnil
    clear hnone he hrt hpz
    go_enter Tryz.func3, Tryz.ntmps3
    go_wp2_with (first
      | (go_at_call 13; (with_reducible refine (C1.out _ HB0.out).mono ?_); rintro e w1 ⟨b1, A1, n1, c1, rfl, p1⟩; have B1 := Lib.hid b1; obtain rfl : 0 = n1 := pm_len p1; clear b1 p1)
      | (go_at_call 14; (with_reducible refine (C3.out _ B1.out).mono ?_); rintro e w3 ⟨rfl, b3⟩; have B3 := Lib.hid (B1.out.trans (b3.mono B1.out.size)); clear b3))
    go_ret
    exact ⟨rfl, B3.out⟩
set_option maxHeartbeats 16000000 in
theorem law_same (s t : ByteArray) (w : World) (hG : Gw w) (hm : s.size ≤ 9223372036854775807) (hm' : t.size ≤ 9223372036854775807) : Calls Tryz.prog 6 #[.string s, .string t] w fun e w' => e = .returned (.bool true) ∧ Below w.heap.size w w' := by
  obtain ⟨q, hq, hqm⟩ : ∃ q : Nat, q ≤ 60 ∧ q = min s.size 60 := ⟨_, Nat.min_le_right _ _, rfl⟩
  have hqs : q ≤ s.size := by omega
  have hmin : (min (s.size : Int) 60) = (q : Int) := by omega
  obtain ⟨p, hp, hpm⟩ : ∃ q : Nat, q ≤ 60 ∧ q = min t.size 60 := ⟨_, Nat.min_le_right _ _, rfl⟩
  have hps : p ≤ t.size := by omega
  have hmin' : (min (t.size : Int) 60) = (p : Int) := by omega
  obtain ⟨x, hx⟩ : ∃ x, s.extract 0 q = x := ⟨_, rfl⟩
  obtain ⟨y, hy⟩ : ∃ y, t.extract 0 p = y := ⟨_, rfl⟩
  have hxs : x.size ≤ 1000 := by rw [← hx]; have := cut_le s q hqs; omega
  have hys : y.size ≤ 1000 := by rw [← hy]; have := cut_le t p hps; omega
  obtain ⟨o, ho⟩ : ∃ o, D.rdM (D.ns x) = o := ⟨_, rfl⟩
  obtain ⟨o', ho'⟩ : ∃ o, D.rdM (D.ns y) = o := ⟨_, rfl⟩
  obtain ⟨hrt, hpz⟩ := D.rdM_rt (D.ns x)
  obtain ⟨hrt', hpz'⟩ := D.rdM_rt (D.ns y)
  have C1 := Lib.hid (fun W (h : Below w.heap.size w W) => parse_any x W (hG.on h).g hxs)
  have C2 := Lib.hid (fun W (h : Below w.heap.size w W) => parse_any y W (hG.on h).g hys)
  rw [ho] at C1 hrt hpz
  rw [ho'] at C2 hrt' hpz'
  have HG := Lib.hid hG
  have HB0 := Lib.hid (Below.refl w.heap.size w)
  have C3 := Lib.hid (fun W (h : Below w.heap.size w W) => known_any W (hG.on h))
  have i1 : ((q : Int)).toNat = q := by omega
  have i2 : ((p : Int)).toNat = p := by omega
  clear ho ho' hG hqm hpm
  obtain ⟨l, oa, oe⟩ := o
  obtain ⟨m, oa', oe'⟩ := o'
  simp only at hrt hpz hrt' hpz'
  have CP := Lib.hid (fun (F : Nat → Prop) W u (h : Pm F W 3 u l) (hb : Below w.heap.size w W) => print_any F W u l h hrt hpz (HG.out.on hb).g)
  have CQ := Lib.hid (fun (F : Nat → Prop) W u (h : Pm F W 3 u m) (hb : Below w.heap.size w W) => print_any F W u m h hrt' hpz' (HG.out.on hb).g)
  have CS := Lib.hid (fun (F F' : Nat → Prop) (W : World) (u v : Value) (h : Pm F W 3 u l) (h' : Pm F' W 3 v m) => same_pm h h' hrt hrt' hpz hpz')
  have CT := Lib.hid (fun (F F' : Nat → Prop) (W : World) (u v : Value) (h : Pm F W 3 u l) (h' : Pm F' W 3 v l) => same_pm h h' hrt hrt hpz hpz)
  obtain ⟨X, f, hX, hf⟩ : ∃ X f, (D.prT l).1 = X ∧ (D.prT l).2 = f := ⟨_, _, rfl, rfl⟩
  obtain ⟨Y, g, hY, hg⟩ : ∃ X f, (D.prT m).1 = X ∧ (D.prT m).2 = f := ⟨_, _, rfl, rfl⟩
  rw [hX, hf] at CP
  rw [hY, hg] at CQ
  have CP' : Hid (∀ (F : Nat → Prop) W u, Pm F W 3 u l → Below w.heap.size w W → Calls Tryz.prog 15 #[u] W fun e w' => e = .returned (.tuple #[.string (D.sb X), .int .i64 (f : Nat)]) ∧ Below W.heap.size W w') := CP
  have CQ' : Hid (∀ (F : Nat → Prop) W u, Pm F W 3 u m → Below w.heap.size w W → Calls Tryz.prog 15 #[u] W fun e w' => e = .returned (.tuple #[.string (D.sb Y), .int .i64 (g : Nat)]) ∧ Below W.heap.size W w') := CQ
  have HRT := Lib.hid hrt
  have HRT' := Lib.hid hrt'
  have KX := Kept.mk hX
  have KY := Kept.mk hY
  have KF := Kept.mk hf
  have KG := Kept.mk hg
  obtain ⟨X', hX'⟩ : ∃ X', D.sb X = X' := ⟨_, rfl⟩
  obtain ⟨Y', hY'⟩ : ∃ Y', D.sb Y = Y' := ⟨_, rfl⟩
  have KX' := Kept.mk hX'
  have KY' := Kept.mk hY'
  simp only [hX'] at CP'
  simp only [hY'] at CQ'
  clear CP CQ hX hY hf hg hrt hpz hrt' hpz' hX' hY'
  by_cases hall : oe = 0 ∧ oe' = 0 ∧ f = 0 ∧ g = 0
  · obtain ⟨rfl, rfl, rfl, rfl⟩ := hall
    have hl6 : (D.prL l).length ≤ 60 ∧ D.prL l = X := by
      have h1 := KX.out
      have h2 := KF.out
      unfold D.prT at h1 h2
      split at h2
      · cases h2
      · rename_i h
        rw [if_neg h] at h1
        exact ⟨by omega, h1⟩
    have hm6 : D.prL m = Y := by
      have h1 := KY.out
      have h2 := KG.out
      unfold D.prT at h1 h2
      split at h2
      · cases h2
      · rename_i h
        rw [if_neg h] at h1
        exact h1
    obtain ⟨z, hz⟩ : ∃ z, (X'.toList == Y'.toList) = z := ⟨_, rfl⟩
    have HZZ : Kept (∀ (F F' : Nat → Prop) (W W' : World) (u v : Value), Pm F W 3 u l → Pm F' W' 3 v m → (z = true ↔ l = m)) := ⟨fun F F' W W' u v h h' => by
      have e1 := prL_256 3 h HRT.out
      have e2 := prL_256 3 h' HRT'.out
      have e3 := txt_eq X' Y'
      rw [hz, ← KX'.out, ← KY'.out, ← hl6.2, ← hm6, D.ns_sb e1, D.ns_sb e2] at e3
      rw [e3, decide_eq_true_iff]
      exact ⟨fun e => D.pr_inj HRT.out HRT'.out hl6.1 e, fun e => by rw [e]⟩⟩
    clear hl6 hm6
    go_enter Tryz.func6, Tryz.ntmps6
    go_wp2_with (first
      | (go_at_call 13; (with_reducible refine (C1.out _ HB0.out).mono ?_); rintro e w1 ⟨b1, A1, n1, c1, rfl, p1⟩; have B1 := Lib.hid b1; have P1 := Lib.hid p1; clear b1 p1)
      | (go_at_call 13; (with_reducible refine (C2.out _ B1.out).mono ?_); rintro e w2 ⟨b2, A2, n2, c2, rfl, p2⟩; have B2 := Lib.hid (B1.out.trans (b2.mono B1.out.size)); have P2 := Lib.hid p2; have Q2 := Lib.hid (P1.out.keep (keeps_below b2)); clear b2 p2)
      | (go_at_call 15; (with_reducible refine (CP'.out _ _ _ Q2.out B2.out).mono ?_); rintro e w3 ⟨rfl, b3⟩; have B3 := Lib.hid (B2.out.trans (b3.mono B2.out.size)); have Q3 := Lib.hid (Q2.out.keep (keeps_below b3)); have P3 := Lib.hid (P2.out.keep (keeps_below b3)); clear b3)
      | (go_at_call 15; (with_reducible refine (CQ'.out _ _ _ P3.out B3.out).mono ?_); rintro e w4 ⟨rfl, b4⟩; have B4 := Lib.hid (B3.out.trans (b4.mono B3.out.size)); have Q4 := Lib.hid (Q3.out.keep (keeps_below b4)); have P4 := Lib.hid (P3.out.keep (keeps_below b4)); clear b4)
      | (go_at_call 14; (with_reducible refine (C3.out _ B4.out).mono ?_); rintro e w5 ⟨rfl, b5⟩; have B5 := Lib.hid (B4.out.trans (b5.mono B4.out.size)); have Q5 := Lib.hid (Q4.out.keep (keeps_below b5)); have P5 := Lib.hid (P4.out.keep (keeps_below b5)); clear b5)
      | (go_at_call 16; (with_reducible refine (CS.out _ _ _ _ _ Q5.out P5.out).mono ?_); rintro e w6 ⟨⟨b, hb, rfl⟩, b6⟩; obtain rfl : b = z := Bool.eq_iff_iff.2 (hb.trans (HZZ.out _ _ _ _ _ _ Q5.out P5.out).symm); have B6 := Lib.hid (B5.out.trans (b6.mono B5.out.size)); have Q6 := Lib.hid (Q5.out.keep (keeps_below b6)); clear b6 hb)
      | (go_at_call 16; (with_reducible refine (CT.out _ _ _ _ _ Q6.out Q6.out).mono ?_); rintro e w7 ⟨⟨b7, hb7, rfl⟩, x7⟩; obtain rfl := hb7.2 (by trivial); have B7 := Lib.hid (B6.out.trans (x7.mono B6.out.size)); clear x7 hb7))
    go_ret
    exact ⟨rfl, B7.out⟩
  · obtain ⟨b1, hb1⟩ : ∃ b, ((oe : Int) != 0) = b := ⟨_, rfl⟩
    obtain ⟨b2, hb2⟩ : ∃ b, ((oe' : Int) != 0) = b := ⟨_, rfl⟩
    obtain ⟨b3, hb3⟩ : ∃ b, ((f : Int) != 0) = b := ⟨_, rfl⟩
    obtain ⟨b4, hb4⟩ : ∃ b, ((g : Int) != 0) = b := ⟨_, rfl⟩
    have hor : b1 = true ∨ (b1 = false ∧ b2 = true) ∨ (b1 = false ∧ b2 = false ∧ b3 = true) ∨ (b1 = false ∧ b2 = false ∧ b3 = false ∧ b4 = true) := by
      rcases b1 with _ | _
      · rcases b2 with _ | _
        · rcases b3 with _ | _
          · rcases b4 with _ | _
            · refine absurd ⟨?_, ?_, ?_, ?_⟩ hall
              · simpa using hb1
              · simpa using hb2
              · simpa using hb3
              · simpa using hb4
            · simp
          · simp
        · simp
      · simp
    clear hall CS CT KX KY KF KG KX' KY'
    rcases hor with rfl | ⟨rfl, rfl⟩ | ⟨rfl, rfl, rfl⟩ | ⟨rfl, rfl, rfl, rfl⟩
    all_goals
      go_enter Tryz.func6, Tryz.ntmps6
      go_wp2_with (first
        | (go_at_call 13; (with_reducible refine (C1.out _ HB0.out).mono ?_); rintro e w1 ⟨b1, A1, n1, c1, rfl, p1⟩; have B1 := Lib.hid b1; have P1 := Lib.hid p1; clear b1 p1)
        | (go_at_call 13; (with_reducible refine (C2.out _ B1.out).mono ?_); rintro e w2 ⟨b2, A2, n2, c2, rfl, p2⟩; have B2 := Lib.hid (B1.out.trans (b2.mono B1.out.size)); have P2 := Lib.hid p2; have Q2 := Lib.hid (P1.out.keep (keeps_below b2)); clear b2 p2)
        | (go_at_call 15; (with_reducible refine (CP'.out _ _ _ Q2.out B2.out).mono ?_); rintro e w3 ⟨rfl, b3⟩; have B3 := Lib.hid (B2.out.trans (b3.mono B2.out.size)); have Q3 := Lib.hid (Q2.out.keep (keeps_below b3)); have P3 := Lib.hid (P2.out.keep (keeps_below b3)); clear b3)
        | (go_at_call 15; (with_reducible refine (CQ'.out _ _ _ P3.out B3.out).mono ?_); rintro e w4 ⟨rfl, b4⟩; have B4 := Lib.hid (B3.out.trans (b4.mono B3.out.size)); have Q4 := Lib.hid (Q3.out.keep (keeps_below b4)); have P4 := Lib.hid (P3.out.keep (keeps_below b4)); clear b4)
        | (go_at_call 14; (with_reducible refine (C3.out _ B4.out).mono ?_); rintro e w5 ⟨rfl, b5⟩; have B5 := Lib.hid (B4.out.trans (b5.mono B4.out.size)); have Q5 := Lib.hid (Q4.out.keep (keeps_below b5)); have P5 := Lib.hid (P4.out.keep (keeps_below b5)); clear b5))
      go_ret
      exact ⟨rfl, B5.out⟩
end Go.Proofs.YtohhfcfnclafdaaGreatDoor
set_option linter.unusedVariables false
set_option linter.unusedSimpArgs false
set_option maxRecDepth 100000
namespace Go.Proofs.YtohhfcfnclafdaaGreatDoor
open Go.ChangeShapes Go.WideShapes Go.ChangeAt Go.RowKit

/-- A row's call, told what was laid and how the world is shaped. -/
theorem returns_both {H : Type} {enc : TypeId × Value → H} {a : Assume} {C : Checked} {os : Os} {f : FuncId} {fn : Func} {s : ChangeSpec} {conds : List PathCond} {apart fresh handsOn again : Bool} {X : World → Array Value → Prop}
    (hX : ∀ (w w' : World) (args : Array Value), w.heap = w'.heap → X w args → X w' args)
    (own : ownKnob C.prog.godebug = none) (started : os.Started) (noInit : C.prog.inits.idxOf? f = none) (hfn : C.prog.funcs[f]? = some fn)
    (witness : ∃ (w : World) (tape : Tape) (i : Input), w.os = os ∧ (w.forCall tape i).Shaped C.prog ∧ i.vars = [] ∧ Input.okWide C.prog (w.forCall tape i) .any w.heap.size f i ∧
      ((s.pre enc C.prog fn conds apart (w.forCall tape i).memory i.args ∧ X (w.forCall tape i).memory i.args) ∧ sizedMet enc C.prog fn (OpenSpec.ofChange s) apart (w.forCall tape i).memory i.args) ∧ a.holds C.prog (lone (Frame.enter C.prog f i.args .normal) [] (w.forCall tape i)))
    (contract : ∀ (W : World) (base : Nat) (args : Array Value) (ds gs : List (DataW H)) (before : List MemPlace),
      (∀ (j : Nat) t v, fn.params[j]? = some t → args[j]? = some v → Value.okWide C.prog W .any base t v) →
      DataW.Whole enc C.prog fn.params.toList s.vars apart W args.toList ds gs before → X W args → W.ShapedOpen C.prog →
      Calls C.prog f args W fun e W' => ∃ v, e = .returned v ∧ s.post enc C.prog fn apart fresh handsOn again W args v W') :
    ReturnsInHanded a C os f .any (fun w args => (s.pre enc C.prog fn conds apart w args ∧ X w args) ∧ sizedMet enc C.prog fn (OpenSpec.ofChange s) apart w args) (s.post enc C.prog fn apart fresh handsOn again) := by
  refine returnsInHanded_of_calls own started noInit witness ?_
  intro w tape i _ hsh _ hok hpre _
  obtain ⟨_, _, _, fn', hfn', _, _, _, _, hval⟩ := hok
  obtain rfl : fn' = fn := Option.some.inj (hfn'.symm.trans hfn)
  obtain ⟨⟨⟨ds, gs, before, hw, _⟩, hx⟩, _⟩ := hpre
  refine (contract (w.forCall tape i) w.heap.size i.args ds gs before hval (DataW.Whole.of_heap (w' := w.forCall tape i) (by rfl) hw) (hX _ _ _ (by rfl) hx) hsh).mono fun e W' ⟨v, he, hp⟩ => ?_
  subst he
  exact ChangeSpec.post_blind hp
theorem laid_find {P : Program} {w : World} : ∀ {laid : List (String × DataW Unit)} {ps : List MemPlace} {n : String} {d : DataW Unit}, DataW.LaidVars P w laid ps → (n, d) ∈ laid →
    ∃ g t cs fuel p, P.globalNamed n = some g ∧ (P.globals[g]?).map (·.type) = some t ∧ w.var? P n = some cs ∧ DataW.trod (fun _ => ()) P w 0 (fun _ => true) false fuel t cs.toList = some (d, p)
  | [], ps, n, d, _, hm => by cases hm
  | (m, e) :: r, ps, n, d, h, hm => by
    obtain ⟨g, t, cs, fuel, p, q, h1, h2, h3, h4, h5, _⟩ := h
    rcases List.mem_cons.1 hm with hm | hm
    · injection hm with e1 e2
      subst e1 e2
      exact ⟨g, t, cs, fuel, p, h1, h2, h3, h4⟩
    · exact laid_find h5 hm
theorem str_at {w : World} {g : Nat} {nm : String} {cs : Array Value} {xs : List (DataW Unit × List MemPlace)} {m k : Nat} (hg : Tryz.prog.globalNamed nm = some g) (h3 : w.var? Tryz.prog nm = some cs)
    (hf : ∀ i, i < k → DataW.trod (fun _ => ()) Tryz.prog w 0 (fun _ => true) false m 9 ((cs.toList.drop (i * Tryz.prog.cellsOf 9)).take (Tryz.prog.cellsOf 9)) = xs[i]?) (i : Nat) (hi : i < k) {l : List UInt8}
    (hx : (xs.map (·.1))[i]? = some (.lit (.string l))) : w.cell? ⟨g, i, none⟩ = some (.string ⟨l.toArray⟩) := by
  have hC : Tryz.prog.cellsOf 9 = 1 := by kernel_rfl
  have h := hf i hi
  rw [hC, Nat.mul_one] at h
  rw [List.getElem?_map] at hx
  cases hq : xs[i]? with
  | none => rw [hq] at hx; cases hx
  | some q =>
    rw [hq] at hx h
    obtain ⟨s, e, e2, _⟩ := DataW.trod_string Tryz.underlying9 h
    rw [e2] at hx
    simp only [Option.map_some, Option.some.injEq] at hx
    have hl : s.data.toList = l := Lit.string.inj (DataW.lit.inj hx)
    have hs : s = ⟨l.toArray⟩ := by rw [← hl]
    rw [World.var?_cell hg h3 i, ← hs]
    have : ((cs.toList.drop i).take 1)[0]? = some (.string s) := by rw [e]; rfl
    rw [List.getElem?_take_of_lt (by omega), List.getElem?_drop, Nat.add_zero] at this
    simpa using this
theorem env_of {w : World} {laid : List (String × DataW Unit)} {d : DataW Unit} (hl : laidMetH Tryz.prog laid w) (hp : (laid.all fun x => x.2.handleName?.isNone) = true) (h1 : ("vulgate/plural.words", d) ∈ laid)
    (hd : d = .agg [.lit (.string [122, 101, 114, 111]), .lit (.string [111, 110, 101]), .lit (.string [116, 119, 111]), .lit (.string [102, 101, 119]), .lit (.string [109, 97, 110, 121]), .lit (.string [111, 116, 104, 101, 114])]) : Env w := by
  rw [MakeChecks.laidMetH_plain _ _ _ hp] at hl
  obtain ⟨ps, hv, _, _⟩ := hl
  obtain ⟨g', t, cs, fuel, p, q1, q2, q3, q4⟩ := laid_find hv h1
  have hg : Tryz.prog.globalNamed "vulgate/plural.words" = some 3 := by kernel_rfl
  rw [hg] at q1
  injection q1 with q1
  subst q1
  have ht : (Tryz.prog.globals[3]?).map (·.type) = some 278 := by kernel_rfl
  rw [ht] at q2
  injection q2 with q2
  subst q2
  obtain ⟨xs, m, _, hx, _, hn, hf⟩ := DataW.trod_array Tryz.underlying278 q4
  subst hd
  have hm : xs.map (·.1) = [.lit (.string [122, 101, 114, 111]), .lit (.string [111, 110, 101]), .lit (.string [116, 119, 111]), .lit (.string [102, 101, 119]), .lit (.string [109, 97, 110, 121]), .lit (.string [111, 116, 104, 101, 114])] := by
    have := (Prod.mk.inj hx).1
    exact (DataW.agg.inj this).symm
  refine ⟨?_, ?_, ?_, ?_, ?_, ?_⟩
  · exact str_at hg q3 hf 0 (by omega) (by rw [hm]; rfl)
  · exact str_at hg q3 hf 1 (by omega) (by rw [hm]; rfl)
  · exact str_at hg q3 hf 2 (by omega) (by rw [hm]; rfl)
  · exact str_at hg q3 hf 3 (by omega) (by rw [hm]; rfl)
  · exact str_at hg q3 hf 4 (by omega) (by rw [hm]; rfl)
  · exact str_at hg q3 hf 5 (by omega) (by rw [hm]; rfl)
theorem knd_of {w : World} {laid : List (String × DataW Unit)} {d : DataW Unit} (hl : laidMetH Tryz.prog laid w) (hp : (laid.all fun x => x.2.handleName?.isNone) = true) (h1 : ("vulgate/skeleton.kinds", d) ∈ laid)
    (hd : d = .agg [.lit (.string []), .lit (.string []), .lit (.string [110, 117, 109, 98, 101, 114]), .lit (.string [112, 108, 117, 114, 97, 108]), .lit (.string [115, 101, 108, 101, 99, 116])]) : Knd w := by
  rw [MakeChecks.laidMetH_plain _ _ _ hp] at hl
  obtain ⟨ps, hv, _, _⟩ := hl
  obtain ⟨g', t, cs, fuel, p, q1, q2, q3, q4⟩ := laid_find hv h1
  have hg : Tryz.prog.globalNamed "vulgate/skeleton.kinds" = some 0 := by kernel_rfl
  rw [hg] at q1
  injection q1 with q1
  subst q1
  have ht : (Tryz.prog.globals[0]?).map (·.type) = some 224 := by kernel_rfl
  rw [ht] at q2
  injection q2 with q2
  subst q2
  obtain ⟨xs, m, _, hx, _, hn, hf⟩ := DataW.trod_array Tryz.underlying224 q4
  subst hd
  have hm : xs.map (·.1) = [.lit (.string []), .lit (.string []), .lit (.string [110, 117, 109, 98, 101, 114]), .lit (.string [112, 108, 117, 114, 97, 108]), .lit (.string [115, 101, 108, 101, 99, 116])] := by
    have := (Prod.mk.inj hx).1
    exact (DataW.agg.inj this).symm
  refine ⟨?_, ?_, ?_, ?_, ?_⟩
  · exact str_at hg q3 hf 0 (by omega) (by rw [hm]; rfl)
  · exact str_at hg q3 hf 1 (by omega) (by rw [hm]; rfl)
  · exact str_at hg q3 hf 2 (by omega) (by rw [hm]; rfl)
  · exact str_at hg q3 hf 3 (by omega) (by rw [hm]; rfl)
  · exact str_at hg q3 hf 4 (by omega) (by rw [hm]; rfl)
theorem tp_of {w : World} {laid : List (String × DataW Unit)} {d : DataW Unit} (hl : laidMetH Tryz.prog laid w) (hp : (laid.all fun x => x.2.handleName?.isNone) = true) (h1 : ("internal/strconv.uint64pow10", d) ∈ laid) (hd : d = Lib.tabData .u64 Lib.pow10Tab) : Tp w := by
  rw [MakeChecks.laidMetH_plain _ _ _ hp] at hl
  obtain ⟨ps, hv, _, _⟩ := hl
  obtain ⟨g', t, cs, fuel, p, q1, q2, q3, q4⟩ := laid_find hv h1
  have hg : Tryz.prog.globalNamed "internal/strconv.uint64pow10" = some 6 := by kernel_rfl
  rw [hg] at q1
  injection q1 with q1
  subst q1
  have ht : (Tryz.prog.globals[6]?).map (·.type) = some 322 := by kernel_rfl
  rw [ht] at q2
  injection q2 with q2
  subst q2
  rw [hd] at q4
  have h := Lib.cells_of_tab Tryz.underlying322 Tryz.underlying59 (by kernel_rfl) (by kernel_rfl) q4
  unfold Tp Lib.TabIs
  rw [q3, ← h]
theorem gw_of {w : World} {laid : List (String × DataW Unit)} {d1 d2 d3 : DataW Unit} (hl : laidMetH Tryz.prog laid w) (hp : (laid.all fun x => x.2.handleName?.isNone) = true) (h1 : ("vulgate/plural.words", d1) ∈ laid) (h2 : ("vulgate/skeleton.kinds", d2) ∈ laid) (h3 : ("internal/strconv.uint64pow10", d3) ∈ laid)
    (e1 : d1 = .agg [.lit (.string [122, 101, 114, 111]), .lit (.string [111, 110, 101]), .lit (.string [116, 119, 111]), .lit (.string [102, 101, 119]), .lit (.string [109, 97, 110, 121]), .lit (.string [111, 116, 104, 101, 114])]) (e2 : d2 = .agg [.lit (.string []), .lit (.string []), .lit (.string [110, 117, 109, 98, 101, 114]), .lit (.string [112, 108, 117, 114, 97, 108]), .lit (.string [115, 101, 108, 101, 99, 116])]) (e3 : d3 = Lib.tabData .u64 Lib.pow10Tab) : Gw w := ⟨⟨env_of hl hp h1 e1, knd_of hl hp h2 e2⟩, tp_of hl hp h3 e3⟩
end Go.Proofs.YtohhfcfnclafdaaGreatDoor
