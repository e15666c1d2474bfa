/-
  
-/
import Derived.Test.YtgnjjlgmlokhmaaGreatDoorG26
import Derived.Test.YtgnjjlgmlokhmaaGreatDoorG22
set_option linter.unusedVariables false
set_option linter.unusedSimpArgs false
set_option maxRecDepth 100000
namespace Go.Proofs.YtgnjjlgmlokhmaaGreatDoor
open Go.RowKit
attribute [local go_sem ↓] Go.wp_at_zero Go.wp_at_succ

namespace D
def kn1 : List Nat := [123, 110, 44, 32, 112, 108, 117, 114, 97, 108, 44, 32, 111, 110, 101, 123, 35, 32, 102, 105, 108, 101, 125, 32, 111, 116, 104, 101, 114, 123, 35, 32, 102, 105, 108, 101, 115, 125, 125]
def kn2 : List Nat := [123, 110, 44, 32, 112, 108, 117, 114, 97, 108, 44, 32, 111, 110, 101, 123, 97, 125, 125]
def knL : List Nd := [.mk 3 [] [110] [[111, 110, 101], [111, 116, 104, 101, 114]] [[.mk 5 [] [] [] [], .mk 0 [32, 102, 105, 108, 101] [] [] []], [.mk 5 [] [] [] [], .mk 0 [32, 102, 105, 108, 101, 115] [] [] []]]]
theorem kn1_is : rdM kn1 = ⟨knL, 0, 0⟩ := by kernel_rfl
theorem kn2_is : rdM kn2 = ⟨[], 18, 13⟩ := by kernel_rfl
def knV : Vl := ⟨Nm.D.pad (sb [110]), 1, ⟨#[]⟩⟩
theorem knV_is : vS.v knV = #[.int .u8 110, .int .u8 0, .int .u8 0, .int .u8 0, .int .u8 0, .int .u8 0, .int .u8 0, .int .u8 0, .int .u8 0, .int .u8 0, .int .u8 0, .int .u8 0, .int .u64 1, .string ⟨#[]⟩] := by kernel_rfl
theorem dg1 : dg 1 = [49] := by unfold dg; rw [Lib.decDigits_one (by decide)]; rfl
theorem vfo_kn : vfo (fvs [knV]) [110] = some (1, []) := by
 unfold vfo
 have : fvs [knV] (Nm.D.pad (sb [110])) = some knV := by
  show (if Nm.D.pad (sb [110]) = knV.n then some knV else none) = some knV
  exact if_pos rfl
 rw [this]
 rfl
theorem kn_ren : renA (gr zero) (vfo (fvs [knV])) knL = ([49, 32, 102, 105, 108, 101], 0) := by
 have hp : catW.getD (pof (gr zero) 1) [] = [111, 110, 101] := by decide
 have e : rnd (gr zero) (vfo (fvs [knV])) 3 0 knL = some [49, 32, 102, 105, 108, 101] := by
  show rnL (rnN _ _ (rnd _ _ 2) 0) knL = _
  have e1 : rnN (gr zero) (vfo (fvs [knV])) (rnd (gr zero) (vfo (fvs [knV])) 2) 0 (.mk 3 [] [110] [[111, 110, 101], [111, 116, 104, 101, 114]] [[.mk 5 [] [] [] [], .mk 0 [32, 102, 105, 108, 101] [] [] []], [.mk 5 [] [] [] [], .mk 0 [32, 102, 105, 108, 101, 115] [] [] []]]) = some [49, 32, 102, 105, 108, 101] := by
   unfold rnN
   simp only [Nd.k, Nd.n, Nd.ws, Nd.ks, vfo_kn]
   show rnd _ _ 2 1 (kid _ _ (catW.getD (pof (gr zero) 1) [])) = _
   rw [hp]
   show rnL (rnN _ _ _ 1) [.mk 5 [] [] [] [], .mk 0 [32, 102, 105, 108, 101] [] [] []] = _
   have e2 : ∀ K, rnN (gr zero) (vfo (fvs [knV])) K 1 (.mk 5 [] [] [] []) = some (dg 1) := fun K => rfl
   have e3 : ∀ K, rnN (gr zero) (vfo (fvs [knV])) K 1 (.mk 0 [32, 102, 105, 108, 101] [] [] []) = some [32, 102, 105, 108, 101] := fun K => rfl
   simp only [rnL, e2, e3, dg1]
   rfl
  simp only [knL, rnL, e1]
  rfl
 unfold renA
 rw [e]
 rfl
end D
structure Gw (w : World) : Prop where
 g : Gv w
 t : Tp w
theorem Gw.on {w w' : World} (h : Gw w) (b : Below w.heap.size w w') : Gw w' := ⟨h.g.on b, h.t.on b⟩
theorem kn_render (W w0 : World) (A : Option Addr) (n c : Nat) (hP : Pm (fun b => w0.heap.size <= b) W 3 (.slice A n c) D.knL) (hG : Gw W) :
  Calls Tryz.prog 14 #[.slice A n c, .agg #[.int .u8 0, .int .u8 0, .int .u8 0, .int .u8 0, .int .u8 0, .int .u8 0, .int .u8 0, .int .u8 0, .int .u8 0, .int .u8 0], .slice (some ⟨W.heap.size, 0, none⟩) 1 1] (W.alloc (.cells #[.int .u8 110, .int .u8 0, .int .u8 0, .int .u8 0, .int .u8 0, .int .u8 0, .int .u8 0, .int .u8 0, .int .u8 0, .int .u8 0, .int .u8 0, .int .u8 0, .int .u64 1, .string ⟨#[]⟩] 64)) fun e w' => e = .returned (.tuple #[.string ⟨#[49, 32, 102, 105, 108, 101]⟩, .int .i64 0]) ∧ Below W.heap.size W w' := by
 have bA := below_alloc_ W (.cells (vS.v D.knV) 64)
 have hRt : D.Rt 3 false D.knL := by
  have := D.rdM_good (l := D.kn1) (by rw [D.kn1_is])
  rwa [D.kn1_is] at this
 have hRw : Rw 14 (W.alloc (.cells (vS.v D.knV) 64)) (some ⟨W.heap.size, 0, none⟩) 1 (vS.rcs [D.knV]) := by
  have := rw_new W 14 64 1 (vS.v D.knV) (by rw [vS.v_size]; rfl)
  simpa [Shp.v, Shp.rcs] using this
 have h := render_any (fun b => w0.heap.size <= b) _ _ D.knL D.zero _ 1 1 [D.knV] (hP.keep (keeps_below bA)) hRt (by decide) (hG.on bA).g (hG.on bA).t hRw (by omega) (fun z hz => by
  simp at hz
  subst hz
  exact ⟨by decide, by decide⟩)
 rw [D.kn_ren, D.knV_is] at h
 rw [D.knV_is] at bA
 exact h.mono fun e w' ⟨h1, h2⟩ => ⟨h1, bA.trans (h2.mono bA.size)⟩
set_option maxHeartbeats 2000000 in
theorem known_any (w : World) (hG : Gw w) : Calls Tryz.prog 7 #[] w fun e w' => e = .returned (.bool true) ∧ Below w.heap.size w w' := by
 have p1 := fun W (b : Below w.heap.size w W) => parse_any ⟨#[123, 110, 44, 32, 112, 108, 117, 114, 97, 108, 44, 32, 111, 110, 101, 123, 35, 32, 102, 105, 108, 101, 125, 32, 111, 116, 104, 101, 114, 123, 35, 32, 102, 105, 108, 101, 115, 125, 125]⟩ W (hG.on b).g (by decide)
 have p2 := fun W (b : Below w.heap.size w W) => parse_any ⟨#[123, 110, 44, 32, 112, 108, 117, 114, 97, 108, 44, 32, 111, 110, 101, 123, 97, 125, 125]⟩ W (hG.on b).g (by decide)
 have e1 : D.rdM (D.ns ⟨#[123, 110, 44, 32, 112, 108, 117, 114, 97, 108, 44, 32, 111, 110, 101, 123, 35, 32, 102, 105, 108, 101, 125, 32, 111, 116, 104, 101, 114, 123, 35, 32, 102, 105, 108, 101, 115, 125, 125]⟩) = ⟨D.knL, 0, 0⟩ := D.kn1_is
 have e2 : D.rdM (D.ns ⟨#[123, 110, 44, 32, 112, 108, 117, 114, 97, 108, 44, 32, 111, 110, 101, 123, 97, 125, 125]⟩) = ⟨[], 18, 13⟩ := D.kn2_is
 have P1 : Hid (∀ W, Below w.heap.size w W -> Calls Tryz.prog 4 #[.string ⟨#[123, 110, 44, 32, 112, 108, 117, 114, 97, 108, 44, 32, 111, 110, 101, 123, 35, 32, 102, 105, 108, 101, 125, 32, 111, 116, 104, 101, 114, 123, 35, 32, 102, 105, 108, 101, 115, 125, 125]⟩] W fun e w' => ∃ (A : Option Addr) (n c : Nat), e = .returned (.tuple #[.slice A n c, .int .i64 0, .int .i64 0]) ∧ Below W.heap.size W w' ∧ Pm (fun b => W.heap.size <= b) w' 3 (.slice A n c) D.knL) := Lib.hid fun W b => by
  have h := p1 W b
  rw [e1] at h
  exact h.mono fun e w' ⟨h1, A, n, c, h2, h3⟩ => ⟨A, n, c, h2, h1, h3⟩
 have P2 : Hid (∀ W, Below w.heap.size w W -> Calls Tryz.prog 4 #[.string ⟨#[123, 110, 44, 32, 112, 108, 117, 114, 97, 108, 44, 32, 111, 110, 101, 123, 97, 125, 125]⟩] W fun e w' => ∃ (A : Option Addr) (n c : Nat), e = .returned (.tuple #[.slice A n c, .int .i64 18, .int .i64 13]) ∧ Below W.heap.size W w') := Lib.hid fun W b => by
  have h := p2 W b
  rw [e2] at h
  exact h.mono fun e w' ⟨h1, A, n, c, h2, h3⟩ => ⟨A, n, c, h2, h1⟩
 have HG := Lib.hid hG
 have HR := Lib.hid (Below.refl w.heap.size w)
 clear p1 p2 e1 e2 hG
 go_enter Tryz.func7, Tryz.ntmps7
 go_wp2_with (first
  | (go_at_call 4; (with_reducible refine (P1.out _ HR.out).mono ?_); rintro e w1 ⟨A1, n1, c1, rfl, b1, pm1⟩; have B1 := Lib.hid b1; have PM1 := Lib.hid pm1; clear b1 pm1)
  | (go_at_call 4; (with_reducible refine (P2.out _ B1.out).mono ?_); rintro e w2 ⟨A2, n2, c2, rfl, b2⟩; have B2 := Lib.hid (B1.out.trans (b2.mono B1.out.size)); have PM2 := Lib.hid (PM1.out.keep (keeps_below b2)); clear b2)
  | (go_at_call 14; (with_reducible refine (kn_render _ _ _ _ _ PM2.out (HG.out.on B2.out)).mono ?_); rintro e w3 ⟨rfl, b3⟩; have B3 := Lib.hid (B2.out.trans (b3.mono B2.out.size)); clear b3))
 go_ret
 exact ⟨rfl, B3.out⟩
end Go.Proofs.YtgnjjlgmlokhmaaGreatDoor
namespace Go.Proofs.YtgnjjlgmlokhmaaGreatDoor
open Go.RowKit

theorem D.rdM_rt (l : List Nat) : D.Rt 3 false (D.rdM l).l ∧ (D.prL (D.rdM l).l).length <= 1000 := by
 by_cases h : (D.rdM l).e = 0
 ·exact ⟨D.rdM_good h, by have := D.rdM_sz h; omega⟩
 ·have e : (D.rdM l).l = [] := by
   revert h
   unfold D.rdM
   split
   ·intro _; rfl
   ·dsimp only
    split
    ·intro _; rfl
    ·split
     ·intro _; rfl
     ·intro h; exact absurd rfl h
  rw [e]
  exact ⟨trivial, by simp [D.prL]⟩
theorem cut_le (s : ByteArray) (m : Nat) (h : m <= s.size) : (s.extract 0 m).size <= m := by simp; omega
end Go.Proofs.YtgnjjlgmlokhmaaGreatDoor
namespace Go.Proofs.YtgnjjlgmlokhmaaGreatDoor
namespace D
def hd (x : Nd) : Nat × List Nat × List Nat × List (List Nat) := (x.k, x.t, x.n, x.ws)
def kps : List Nd -> List Nd -> List (List Nd × List Nd)
 | x :: l, y :: m => x.ks.zip y.ks ++ kps l m
 | [], _ => []
 | _ :: _, [] => []
def wt (l : List Nd) : Nat := 1 + (prL l).length
def wts : List (List Nd × List Nd) -> Nat
 | [] => 0
 | p :: z => wt p.1 + wts z
theorem wts_app : ∀ (a b : List (List Nd × List Nd)), wts (a ++ b) = wts a + wts b
 | [], b => by simp [wts]
 | p :: a, b => by simp [wts, wts_app a b, Nat.add_assoc]
theorem wts_mem : ∀ {a : List (List Nd × List Nd)} {p : List Nd × List Nd}, p ∈ a -> wt p.1 <= wts a
 | [], p, h => by cases h
 | q :: a, p, h => by
  rcases List.mem_cons.1 h with rfl | h
  ·simp [wts]
  ·have := wts_mem h; simp [wts]; omega
theorem prC_wts : ∀ {ws : List (List Nat)} {ks ks' : List (List Nd)}, ws.length = ks.length -> wts (ks.zip ks') <= (prC ws ks).length
 | [], [], ks', _ => by simp [wts]
 | [], k :: ks, ks', h => by simp at h
 | w :: ws, [], ks', h => by simp at h
 | w :: ws, k :: ks, [], _ => by simp [wts]
 | w :: ws, k :: ks, k' :: ks', h => by
  have := prC_wts (ws := ws) (ks := ks) (ks' := ks') (by simpa using h)
  simp [wts, prC, wt]; omega
def Wl (l : List Nd) : Prop := ∀ x ∈ l, x.ws.length = x.ks.length ∧ (x.ks = [] ∨ x.k = 3 ∨ x.k = 4)
theorem okLs_mem {N : Nd -> Prop} : ∀ {pt : Bool} {l : List Nd}, okLs N pt l -> ∀ x ∈ l, N x
 | pt, [], _, x, h => by cases h
 | pt, y :: l, h, x, hx => by
  rcases List.mem_cons.1 hx with rfl | hx
  ·exact h.1
  ·exact okLs_mem h.2.2 x hx
theorem kps_wt : ∀ {l m : List Nd}, Wl l -> wts (kps l m) <= (prL l).length
 | [], m, _ => by simp [kps, wts]
 | x :: l, [], _ => by simp [kps, wts]
 | x :: l, y :: m, h => by
  have h1 := kps_wt (l := l) (m := m) fun z hz => h z (by simp [hz])
  obtain ⟨h2, h3⟩ := h x (by simp)
  have h4 : wts (x.ks.zip y.ks) <= (prN x).length := by
   rcases h3 with e | hk
   ·rw [e]; simp [wts]
   ·exact Nat.le_trans (prC_wts h2) (prN_cas hk)
  simp only [kps, wts_app, prL, List.length_append]
  omega
theorem zip_eq {α : Type} : ∀ {a b : List α}, a.length = b.length -> (∀ p ∈ a.zip b, p.1 = p.2) -> a = b
 | [], [], _, _ => rfl
 | [], y :: b, h, _ => by simp at h
 | x :: a, [], h, _ => by simp at h
 | x :: a, y :: b, h, hp => by
  have h1 : x = y := hp (x, y) (by simp)
  have h2 := zip_eq (a := a) (b := b) (by simpa using h) fun p hq => hp p (by simp [hq])
  rw [h1, h2]
theorem nd_eq {x y : Nd} (h : hd x = hd y) (hk : x.ks = y.ks) : x = y := by
 obtain ⟨k, t, n, ws, ks⟩ := x
 obtain ⟨k', t', n', ws', ks'⟩ := y
 simp only [hd, Nd.k, Nd.t, Nd.n, Nd.ws, Nd.ks, Prod.mk.injEq] at h hk
 obtain ⟨rfl, rfl, rfl, rfl⟩ := h
 rw [hk]
theorem eq_of_kps : ∀ {l m : List Nd}, Wl l -> Wl m -> l.map hd = m.map hd -> (∀ p ∈ kps l m, p.1 = p.2) -> l = m
 | [], [], _, _, _, _ => rfl
 | [], y :: m, _, _, h, _ => by simp at h
 | x :: l, [], _, _, h, _ => by simp at h
 | x :: l, y :: m, hl, hm, h, hp => by
  simp only [List.map_cons, List.cons.injEq] at h
  have h1 := (hl x (by simp)).1
  have h2 := (hm y (by simp)).1
  have hw : x.ws = y.ws := by have := h.1; simp only [hd, Prod.mk.injEq] at this; exact this.2.2.2
  have hk : x.ks = y.ks := zip_eq (by rw [<- h1, <- h2, hw]) fun p hq => hp p (by simp [kps, hq])
  rw [nd_eq h.1 hk, eq_of_kps (l := l) (m := m) (fun z hz => hl z (by simp [hz])) (fun z hz => hm z (by simp [hz])) h.2 fun p hq => hp p (by simp [kps, hq])]
theorem met_eq {M : List (List Nd × List Nd)} (h : ∀ p ∈ M, p.1.map hd = p.2.map hd ∧ Wl p.1 ∧ Wl p.2 ∧ ∀ z ∈ kps p.1 p.2, z ∈ M) : ∀ (n : Nat), ∀ p ∈ M, wt p.1 <= n -> p.1 = p.2
 | 0, p, hp, hn => by unfold wt at hn; omega
 | n + 1, p, hp, hn => by
  obtain ⟨h1, h2, h3, h4⟩ := h p hp
  refine eq_of_kps h2 h3 h1 fun z hz => met_eq h n z (h4 z hz) ?_
  have e1 := wts_mem hz
  have e2 := kps_wt (m := p.2) h2
  unfold wt at hn ⊢
  unfold wt at e1
  omega
def Clo (T M : List (List Nd × List Nd)) : Prop := ∀ p ∈ M, p.1.map hd = p.2.map hd ∧ Wl p.1 ∧ Wl p.2 ∧ ∀ z ∈ kps p.1 p.2, z ∈ T ∨ z ∈ M
theorem Clo.step {T M : List (List Nd × List Nd)} {p : List Nd × List Nd} (h : Clo (T ++ [p]) M) (h1 : p.1.map hd = p.2.map hd) (h2 : Wl p.1) (h3 : Wl p.2) : Clo (T ++ kps p.1 p.2) (M ++ [p]) := by
 intro q hq
 rcases List.mem_append.1 hq with hq | hq
 ·obtain ⟨a, b, c, d⟩ := h q hq
  refine ⟨a, b, c, fun z hz => ?_⟩
  rcases d z hz with d | d
  ·rcases List.mem_append.1 d with d | d
   ·exact .inl (List.mem_append.2 (.inl d))
   ·exact .inr (List.mem_append.2 (.inr d))
  ·exact .inr (List.mem_append.2 (.inl d))
 ·obtain rfl : q = p := by simpa using hq
  exact ⟨h1, h2, h3, fun z hz => .inl (List.mem_append.2 (.inr hz))⟩
theorem Clo.skip {T M : List (List Nd × List Nd)} {p : List Nd × List Nd} (h : Clo (T ++ [p]) M) (hm : p ∈ M) : Clo T M := by
 intro q hq
 obtain ⟨a, b, c, d⟩ := h q hq
 refine ⟨a, b, c, fun z hz => ?_⟩
 rcases d z hz with d | d
 ·rcases List.mem_append.1 d with d | d
  ·exact .inl d
  ·obtain rfl : z = p := by simpa using d
   exact .inr hm
 ·exact .inr d
theorem Clo.done {M : List (List Nd × List Nd)} {p : List Nd × List Nd} (h : Clo [] M) (hm : p ∈ M) : p.1 = p.2 :=
 met_eq (fun q hq => by
  obtain ⟨a, b, c, d⟩ := h q hq
  exact ⟨a, b, c, fun z hz => (d z hz).resolve_left (by simp)⟩) _ p hm (Nat.le_refl _)
end D
end Go.Proofs.YtgnjjlgmlokhmaaGreatDoor
namespace Go.Proofs.YtgnjjlgmlokhmaaGreatDoor
open Go.RowKit

theorem rw_uniq {sz : Nat} {w : World} {A : Option Addr} {n : Nat} {xs ys : List Value} (h : Rw sz w A n xs) (k : Rw sz w A n ys) : xs = ys := by
 refine List.ext_getElem? fun j => ?_
 by_cases hj : j < n * sz
 ·have e1 : xs[j]? = some (xs[j]'(by rw [h.len]; exact hj)) := List.getElem?_eq_getElem _
  have e2 : ys[j]? = some (ys[j]'(by rw [k.len]; exact hj)) := List.getElem?_eq_getElem _
  obtain ⟨ad, ha, _, c1⟩ := h.cell e1
  obtain ⟨ad', ha', _, c2⟩ := k.cell e2
  rw [ha] at ha'
  injection ha' with ha'
  subst ha'
  rw [c1] at c2
  injection c2 with c2
  rw [e1, e2, c2]
 ·rw [List.getElem?_eq_none (by rw [h.len]; omega), List.getElem?_eq_none (by rw [k.len]; omega)]
theorem rcs_inj {α : Type} (S : Shp α) : ∀ {l k : List α}, S.rcs l = S.rcs k -> l = k
 | [], [], _ => rfl
 | [], y :: k, h => by
  have := congrArg List.length h
  rw [Shp.rcs_len, Shp.rcs_len] at this
  have := S.pos
  simp [Nat.add_mul] at *
  omega
 | x :: l, [], h => by
  have := congrArg List.length h
  rw [Shp.rcs_len, Shp.rcs_len] at this
  have := S.pos
  simp [Nat.add_mul] at *
  omega
 | x :: l, y :: k, h => by
  rw [Shp.rcs_cons, Shp.rcs_cons] at h
  obtain ⟨h1, h2⟩ := List.append_inj h (by rw [S.len, S.len])
  rw [S.inj h1, rcs_inj S h2]
theorem ccs_inj : ∀ {a b : List (List Nat × Value)}, D.B8 (a.map (·.1)) -> D.B8 (b.map (·.1)) -> ccs a = ccs b -> a = b
 | [], [], _, _, _ => rfl
 | [], (t, u) :: b, _, _, h => by simp [ccs] at h
 | (t, u) :: a, [], _, _, h => by simp [ccs] at h
 | (t, u) :: a, (t', u') :: b, ha, hb, h => by
  simp only [ccs, List.cons.injEq, Value.string.injEq] at h
  obtain ⟨h1, h2, h3⟩ := h
  have e : t = t' := D.sb_inj (ha t (by simp)) (hb t' (by simp)) h1
  rw [e, h2, ccs_inj (a := a) (b := b) (fun x hx => ha x (by simp only [List.map_cons, List.mem_cons]; exact .inr hx)) (fun x hx => hb x (by simp only [List.map_cons, List.mem_cons]; exact .inr hx)) h3]
theorem D.okNd_nm {ch v : Bool} {kids : Bool -> List D.Nd -> Prop} {x : D.Nd} (h : D.okNd ch kids v x) : ((x.k = 0 ∨ x.k = 5) ∧ x.n = []) ∨ ((x.k ≠ 0 ∧ x.k ≠ 5) ∧ Nm.D.isB x.n = true) := by
 rcases h with ⟨e, h, _⟩ | ⟨h, _⟩ | ⟨hk, _, _, _, h⟩ | ⟨hk, _, _, h, _⟩
 ·exact .inl ⟨.inl e, h⟩
 ·rw [h]; exact .inl ⟨.inr rfl, rfl⟩
 ·exact .inr ⟨by omega, h⟩
 ·exact .inr ⟨by omega, h⟩
theorem D.pnm_inj {ch v ch' v' : Bool} {kids kids' : Bool -> List D.Nd -> Prop} {x y : D.Nd} (h : D.okNd ch kids v x) (h' : D.okNd ch' kids' v' y) (hb : ∀ c ∈ x.n, c < 256) (hb' : ∀ c ∈ y.n, c < 256) (hk : x.k = y.k) (e : D.pnm x = D.pnm y) : x.n = y.n := by
 have e1 : Nm.D.padl (D.ns (D.sb x.n)) 12 = Nm.D.padl (D.ns (D.sb y.n)) 12 := congrArg Nm.D.Nm.l e
 rw [D.ns_sb hb, D.ns_sb hb'] at e1
 rcases D.okNd_nm h with ⟨a, b⟩ | ⟨a, b⟩ <;> rcases D.okNd_nm h' with ⟨a', b'⟩ | ⟨a', b'⟩
 ·rw [b, b']
 ·omega
 ·omega
 ·exact Nm.D.pad_inj b b' e1
theorem D.kids_le_ {k : Bool -> List D.Nd -> Prop} {ch v : Bool} {x : D.Nd} (hx : D.okNd ch k v x) (hz : (D.prN x).length <= 1000) : x.ws.length <= 1000 ∧ x.ks.length <= 1000 := by
 rcases hx with ⟨_, _, h2, h3, _⟩ | ⟨h, _⟩ | ⟨_, _, h2, h3, _⟩ | ⟨hk, _, _, _, hll, _, _, _⟩
 ·rw [h2, h3]; exact ⟨by simp, by simp⟩
 ·rw [h]; exact ⟨by simp [D.Nd.ws], by simp [D.Nd.ks]⟩
 ·rw [h2, h3]; exact ⟨by simp, by simp⟩
 ·have h1 := D.prN_cas hk
  have h2 := D.prC_lenw hll
  omega
def D.Rk : Nat -> Bool -> List D.Nd -> Prop
 | 0 => fun _ _ => False
 | r + 1 => D.Rt r
theorem D.rt_ok : ∀ {r : Nat} {v : Bool} {l : List D.Nd}, D.Rt r v l -> ∃ ch, D.okLs (D.okNd ch (D.Rk r) v) false l
 | 0, v, l, h => ⟨false, h⟩
 | r + 1, v, l, h => ⟨true, h⟩
theorem D.kid_rk {ch v : Bool} {r : Nat} {x : D.Nd} (h : D.okNd ch (D.Rk r) v x) {q : List D.Nd} (hq : q ∈ x.ks) : ∃ v', D.Rk r v' q := by
 rcases h with ⟨_, _, _, h, _⟩ | ⟨h, _⟩ | ⟨_, _, _, h, _⟩ | ⟨_, _, _, _, _, _, _, h⟩
 ·rw [h] at hq; cases hq
 ·rw [h] at hq; cases hq
 ·rw [h] at hq; cases hq
 ·exact ⟨_, h q hq⟩
theorem row_uniq {F F' : Nat -> Prop} {w : World} {r r' : Nat} {v v' : Bool} {A : Option Addr} {n c c' : Nat} {l l' : List D.Nd} (h : Pm F w r (.slice A n c) l) (h' : Pm F' w r' (.slice A n c') l') (hR : D.Rt r v l) (hR' : D.Rt r' v' l')
  (hK : ∀ u q q' a b, Pk F w r u q -> Pk F' w r' u q' -> D.Rk r a q -> D.Rk r' b q' -> q = q') : l = l' := by
 obtain ⟨_, _, _, vs, e, _, hr, rfl, hx⟩ := (Pm_eq F w r _ _).1 h
 cases e
 obtain ⟨_, _, _, us, e, _, hr', rfl, hx'⟩ := (Pm_eq F' w r' _ _).1 h'
 cases e
 obtain ⟨ch, ho⟩ := D.rt_ok hR
 obtain ⟨ch', ho'⟩ := D.rt_ok hR'
 have hv := rcs_inj nS (rw_uniq hr.row hr'.row)
 have hl : vs.length = us.length := by have := congrArg List.length hv; rwa [nvs_len, nvs_len] at this
 refine List.ext_getElem (by simp [hl]) fun j hj1 hj2 => ?_
 have hj1' : j < vs.length := by simpa using hj1
 have hj2' : j < us.length := by simpa using hj2
 obtain ⟨⟨x, p⟩, ex⟩ : ∃ a, vs[j]? = some a := ⟨_, List.getElem?_eq_getElem hj1'⟩
 obtain ⟨⟨y, p'⟩, ey⟩ : ∃ a, us[j]? = some a := ⟨_, List.getElem?_eq_getElem hj2'⟩
 have ex1 : (vs.map (·.1))[j] = x := by have := (List.getElem?_eq_some_iff.1 ex).2; simp [this]
 have ey1 : (us.map (·.1))[j] = y := by have := (List.getElem?_eq_some_iff.1 ey).2; simp [this]
 rw [ex1, ey1]
 have en : nv x p.A p.m p.c = nv y p'.A p'.m p'.c := by
  have e1 := nvs_at ex
  have e2 := nvs_at ey
  rw [hv, e2] at e1
  injection e1 with e1
  exact e1.symm
 have ox := (D.okLs_at ho (vs_list rfl ex)).1
 have oy := (D.okLs_at ho' (vs_list rfl ey)).1
 obtain ⟨⟨Bits.bt, bn, bw⟩, _, cs, hc, hw, _, hcl, hk⟩ := hx j x p ex
 obtain ⟨⟨bt', bn', bw'⟩, _, cs', hc', hw', _, hcl', hk'⟩ := hx' j y p' ey
 simp only [nv, D.Nv.mk.injEq] at en
 obtain ⟨e1, e2, e3, e4, e5, e6⟩ := en
 have hcs : cs = cs' := by
  refine ccs_inj (by rw [hw]; exact bw) (by rw [hw']; exact bw') ?_
  rw [<- e4, <- e5] at hc'
  exact rw_uniq hc.row hc'.row
 refine D.nd_eq ?_ ?_
 ·simp only [D.hd, Prod.mk.injEq]
  exact ⟨e1, D.sb_inj Bits.bt bt' e2, D.pnm_inj ox oy bn bn' e1 e3, by rw [<- hw, <- hw', hcs]⟩
 ·have hll := congrArg List.length hcs
  refine List.ext_getElem (by omega) fun i h1 h2 => ?_
  have hi : i < cs.length := by omega
  have ec : cs[i]? = some ((cs[i]'hi).1, (cs[i]'hi).2) := List.getElem?_eq_getElem hi
  have q1 := hk i _ _ _ ec (List.getElem?_eq_getElem h1)
  have q2 := hk' i (cs[i]'hi).1 (cs[i]'hi).2 _ (by rw [<- hcs]; exact ec) (List.getElem?_eq_getElem h2)
  obtain ⟨a, ha⟩ := D.kid_rk ox (List.getElem_mem h1)
  obtain ⟨b, hb⟩ := D.kid_rk oy (List.getElem_mem h2)
  exact hK _ _ _ a b q1 q2 ha hb
theorem pm_uniq {F F' : Nat -> Prop} {w : World} : ∀ (r r' : Nat) {v v' : Bool} {A : Option Addr} {n c c' : Nat} {l l' : List D.Nd}, Pm F w r (.slice A n c) l -> Pm F' w r' (.slice A n c') l' -> D.Rt r v l -> D.Rt r' v' l' -> l = l'
 | 0, r', v, v', A, n, c, c', l, l', h, h', hR, hR' => row_uniq h h' hR hR' fun _ _ _ _ _ h => h.elim
 | r + 1, r', v, v', A, n, c, c', l, l', h, h', hR, hR' => row_uniq h h' hR hR' fun u q q' a b k k' ha hb => by
  cases r' with
  | zero => exact k'.elim
  | succ r' =>
   obtain ⟨A, n, c, rfl⟩ := pm_slice (show Pm F w r u q from k)
   exact pm_uniq r r' (show Pm F w r _ q from k) (show Pm F' w r' _ q' from k') ha hb
end Go.Proofs.YtgnjjlgmlokhmaaGreatDoor
