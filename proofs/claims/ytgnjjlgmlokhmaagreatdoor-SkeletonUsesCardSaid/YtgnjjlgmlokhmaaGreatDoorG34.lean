/-
  
-/
import Derived.Test.YtgnjjlgmlokhmaaGreatDoorG33
import Derived.BigQuiet
import Derived.Deep.Light
import Derived.Sort.Grow
import Derived.Test.YtgnjjlgmlokhmaaGreatDoorG16
import Derived.Test.YtgnjjlgmlokhmaaGreatDoorG10
set_option linter.unusedVariables false
set_option linter.unusedSimpArgs false
set_option maxRecDepth 100000
namespace Go.Proofs.YtgnjjlgmlokhmaaGreatDoor
namespace D
structure Bd (N : Nat) (d : List Du) : Prop where
 len : d.length <= N
 ws : ∀ x ∈ d, x.ws.length <= N
theorem Bd.nil (N : Nat) : Bd N [] := ⟨Nat.zero_le _, by simp⟩
theorem Bd.up {N M : Nat} {d : List Du} (h : Bd N d) (k : N <= M) : Bd M d := ⟨Nat.le_trans h.len k, fun x hx => Nat.le_trans (h.ws x hx) k⟩
theorem addD_len : ∀ (d : List Du) (u : Du), (addD d u).length <= d.length + 1
 | [], u => by simp [addD]
 | x :: l, u => by
  have := addD_len l u
  rw [addD]
  split
  ·simp only [List.length_cons]; omega
  ·split <;> simp
theorem addD_ws {M : Nat} : ∀ {d : List Du} {u : Du}, (∀ x ∈ d, x.ws.length <= M) -> ∀ x ∈ addD d u, x.ws.length <= M + u.ws.length
 | [], u, _, x, hx => by
  simp [addD] at hx
  subst hx
  have := insWs_len u.ws []
  show (insWs [] u.ws).length <= _
  simp at this; omega
 | y :: l, u, h, x, hx => by
  rw [addD] at hx
  have hn : (newD u).ws.length <= u.ws.length := by
   have := insWs_len u.ws []
   show (insWs [] u.ws).length <= _
   simpa using this
  split at hx
  ·rcases List.mem_cons.1 hx with rfl | hx
   ·have := h x (by simp); omega
   ·exact addD_ws (fun z hz => h z (by simp [hz])) x hx
  ·split at hx
   ·rcases List.mem_cons.1 hx with rfl | hx
    ·have := insWs_len u.ws y.ws
     have h2 := h y (by simp)
     show (insWs y.ws u.ws).length <= _
     omega
    ·have := h x (by simp [hx]); omega
   ·rcases List.mem_cons.1 hx with rfl | hx
    ·omega
    ·have := h x hx; omega
theorem addD_bd {N : Nat} {d : List Du} {u : Du} (h : Bd N d) : Bd (N + 1 + u.ws.length) (addD d u) :=
 ⟨by have := addD_len d u; have := h.len; omega, fun x hx => by have := addD_ws h.ws x hx; omega⟩
theorem usO_bd {N : Nat} {d : List Du} {x : Nd} (h : Bd N d) : Bd (N + 1 + x.ws.length) (usO x d) := by
 unfold usO
 split
 ·exact (addD_bd h).up (by simp)
 ·split
  ·exact (addD_bd h).up (by simp)
  ·split
   ·exact addD_bd (u := ⟨pnm x, 4, x.ws⟩) h
   ·exact h.up (by omega)
def cK : List (List Nd) -> Nat
 | [] => 0
 | q :: ks => (prL q).length + cK ks
def cL : List Nd -> Nat
 | [] => 0
 | x :: l => 1 + x.ws.length + cK x.ks + cL l
theorem usK_bd {U : List Nd -> List Du -> List Du} : ∀ {ks : List (List Nd)} {N : Nat} {d : List Du}, (∀ q ∈ ks, ∀ N d, Bd N d -> Bd (N + (prL q).length) (U q d)) -> Bd N d -> Bd (N + cK ks) (usK U ks d)
 | [], N, d, _, h => h
 | q :: ks, N, d, hU, h => by
  have h1 := usK_bd (ks := ks) (fun q' hq' => hU q' (by simp [hq'])) (hU q (by simp) N d h)
  rw [usK, cK, <- Nat.add_assoc]
  exact h1
theorem usL_bd {U : List Nd -> List Du -> List Du} : ∀ {l : List Nd} {N : Nat} {d : List Du}, (∀ x ∈ l, ∀ q ∈ x.ks, ∀ N d, Bd N d -> Bd (N + (prL q).length) (U q d)) -> Bd N d -> Bd (N + cL l) (usL U l d)
 | [], N, d, _, h => h
 | x :: l, N, d, hU, h => by
  have h1 := usK_bd (hU x (by simp)) (usO_bd (x := x) h)
  have h2 := usL_bd (l := l) (fun y hy => hU y (by simp [hy])) h1
  rw [usL, cL]
  exact h2.up (by omega)
theorem prC_cK : ∀ {ws : List (List Nat)} {ks : List (List Nd)}, ws.length = ks.length -> ws.length + cK ks <= (prC ws ks).length
 | [], [], _ => by simp [cK]
 | [], _ :: _, h => by simp at h
 | _ :: _, [], h => by simp at h
 | w :: ws, q :: ks, h => by
  have := prC_cK (ws := ws) (ks := ks) (by simpa using h)
  simp only [prC, cK, List.length_cons, List.length_append]
  omega
theorem cP_le {ch v : Bool} {kids : Bool -> List Nd -> Prop} {x : Nd} (ho : okNd ch kids v x) : 1 + x.ws.length + cK x.ks <= (prN x).length := by
 have hne := List.length_pos_iff.2 (ne_nil ho)
 rcases ho with ⟨_, _, e2, e3, _⟩ | ⟨e, _⟩ | ⟨_, _, e2, e3, _⟩ | ⟨hk, _, _, _, hl, _⟩
 ·rw [e2, e3]; simp [cK]; omega
 ·rw [e] at hne ⊢; simp [cK, Nd.ws, Nd.ks]; omega
 ·rw [e2, e3]; simp [cK]; omega
 ·have h1 := prC_cK hl
  obtain ⟨k, t, n, ws, ks⟩ := x
  simp only [Nd.k] at hk
  simp only [Nd.ws, Nd.ks] at h1 ⊢
  rcases hk with rfl | rfl
  ·simp [prN]; omega
  ·simp [prN]; omega
theorem cL_le {ch v : Bool} {kids : Bool -> List Nd -> Prop} : ∀ {pt : Bool} {l : List Nd}, okLs (okNd ch kids v) pt l -> cL l <= (prL l).length
 | _, [], _ => by simp [cL]
 | _, x :: l, ho => by
  have h1 := cP_le ho.1
  have h2 := cL_le ho.2.2
  simp only [cL, prL, List.length_append]
  omega
theorem us_bd : ∀ (r : Nat) {v : Bool} {l : List Nd}, Rt r v l -> ∀ {N : Nat} {d : List Du}, Bd N d -> Bd (N + (prL l).length) (us r l d)
 | 0, v, l, h, N, d, hb => (usL_bd (fun x hx q hq N d hb => hb.up (by omega)) hb).up (by have := cL_le (ch := false) (v := v) (kids := fun _ _ => False) h; omega)
 | r + 1, v, l, h, N, d, hb => (usL_bd (fun x hx q hq N d hb => by
   have ho := okLs_mem (N := okNd true (Rt r) v) h x hx
   rcases ho with ⟨_, _, _, e, _⟩ | ⟨e, _⟩ | ⟨_, _, _, e, _⟩ | ⟨_, _, _, _, _, _, _, e⟩
   ·rw [e] at hq; cases hq
   ·rw [e] at hq; cases hq
   ·rw [e] at hq; cases hq
   ·exact us_bd r (e q hq) hb) hb).up (by have := cL_le (ch := true) (v := v) (kids := Rt r) h; omega)
theorem usK_take {U : List Nd -> List Du -> List Du} : ∀ {ks : List (List Nd)} {j : Nat} {q : List Nd} {d : List Du}, ks[j]? = some q -> usK U (ks.take (j + 1)) d = U q (usK U (ks.take j) d)
 | [], j, q, d, h => by simp at h
 | y :: ks, 0, q, d, h => by
  simp at h
  subst h
  simp [usK]
 | y :: ks, j + 1, q, d, h => by
  simp only [List.take_succ_cons, usK]
  exact usK_take (by simpa using h)
theorem usL_take {U : List Nd -> List Du -> List Du} : ∀ {l : List Nd} {j : Nat} {x : Nd} {d : List Du}, l[j]? = some x -> usL U (l.take (j + 1)) d = usK U x.ks (usO x (usL U (l.take j) d))
 | [], j, x, d, h => by simp at h
 | y :: l, 0, x, d, h => by
  simp at h
  subst h
  simp [usL]
 | y :: l, j + 1, x, d, h => by
  simp only [List.take_succ_cons, usL]
  exact usL_take (by simpa using h)
theorem pnm_rn {x : Nd} (h : Nm.D.isB x.n = true) : unp (pnm x) = x.n ∧ RnN (pnm x) := by
 have hb : ∀ c ∈ x.n, c < 256 := fun c hc => by
  obtain ⟨_, _, _, h4⟩ := Nm.D.isB_iff.1 h
  have := Nm.D.may_bd (h4 c hc)
  omega
 have e : (pnm x).l = Nm.D.padl x.n 12 := by
  show Nm.D.padl (ns (sb x.n)) 12 = _
  rw [ns_sb hb]
 have h1 : unp (pnm x) = x.n := by
  unfold unp
  rw [e]
  exact Nm.D.hd_padl h
 exact ⟨h1, ⟨by rw [h1]; exact h, by rw [h1, e]⟩⟩
end D
end Go.Proofs.YtgnjjlgmlokhmaaGreatDoor
namespace Go.Proofs.YtgnjjlgmlokhmaaGreatDoor
open Go.RowKit
attribute [local go_sem ↓] Go.wp_at_zero Go.wp_at_succ

structure MPt (w : World) (ad : Addr) (i : Nat) (x : D.Nd) (a b : Value) : Prop where
 l : ad.block < w.heap.size
 k : w.cell? (ad.add (i * 5)) = some (.int .i64 (x.k : Nat))
 t : w.cell? ⟨(ad.add (i * 5)).block, (ad.add (i * 5)).off + 1, none⟩ = some (.string (D.sb x.t))
 n : w.cell? ⟨(ad.add (i * 5)).block, (ad.add (i * 5)).off + 2, none⟩ = some (.string (D.sb x.n))
 a : w.cell? ⟨(ad.add (i * 5)).block, (ad.add (i * 5)).off + 3, none⟩ = some a
 b : w.cell? ⟨(ad.add (i * 5)).block, (ad.add (i * 5)).off + 4, none⟩ = some b
theorem mpt_at {w : World} {A : Option Addr} {n j : Nat} {vs : List (D.Nd × Value × Value)} {x : D.Nd} {a b : Value} (h : Rw 5 w A n (pcl vs)) (hj : vs[j]? = some (x, a, b)) : ∃ ad, A = some ad ∧ MPt w ad j x a b := by
 obtain ⟨c0, c1, c2, c3, c4⟩ := cls_at hj
 obtain ⟨ad, rfl, hl, h0⟩ := h.cell c0
 have g : ∀ i u, (pcl vs)[j * 5 + (i + 1)]? = some u -> w.cell? ⟨(ad.add (j * 5)).block, (ad.add (j * 5)).off + (i + 1), none⟩ = some u := fun i u hu => by
  obtain ⟨ad', e, _, hc⟩ := h.cell hu
  cases e
  rw [<- add_succ, add_of_add]
  exact hc
 exact ⟨ad, rfl, hl, h0, g 0 _ c1, g 1 _ c2, g 2 _ c3, g 3 _ c4⟩
def Tr (b : Nat) : Prop := True
theorem add_t (A : Option Addr) (n c : Nat) (d : List D.Du) (m : Nm.D.Nm) (h : Nat) (ws : List (List Nat)) (Au : Option Addr) (nu cu : Nat) (X : List Nat) (N : Nat) (W : World) (hD : Dus Tr W A n c d) (hB : D.Bd N d) (hN : N + ws.length <= 850) (hh : h = 1 ∨ h = 2 ∨ h = 4) (hx : D.unp m = X) (hr : D.RnN m) (hw : RF 1 Tr W Au nu (strs ws)) (hc : nu <= cu) (hb : D.B8 ws) :
  Calls Tryz.prog 21 #[.slice A n c, .agg #[.string (D.sb X), .int .i64 (h : Nat), .slice Au nu cu]] W fun e w' => ∃ (A' : Option Addr) (n' c' : Nat), e = .returned (.slice A' n' c') ∧ Dus Tr w' A' n' c' (D.addD d ⟨m, h, ws⟩) ∧ Below W.heap.size W w' := by
 have hl := hD.len
 have hl2 := hB.len
 have := add_any Tr A n c d ⟨m, h, ws⟩ Au nu cu W hD ⟨Au, nu, cu, rfl, hc, hw, hb, hr, by show h < 8; omega⟩ hh (by omega) (fun x hx => by have := hB.ws x hx; show x.ws.length + ws.length <= 900; omega) (by show ws.length <= 900; omega)
 unfold duc at this
 simp only [hx] at this
 exact this.mono fun e w' ⟨A', n', c', h1, h2, h3⟩ => ⟨A', n', c', h1, h2.weaken fun _ _ _ => trivial, h3⟩
def UsC (U : List D.Nd -> List D.Du -> List D.Du) (l : List D.Nd) (cost : Nat) (u : Value) (w : World) : Prop := ∀ (W : World) (A : Option Addr) (n c : Nat) (d : List D.Du) (N : Nat), Below w.heap.size w W -> Dus Tr W A n c d -> D.Bd N d -> N + cost <= 800 -> Calls Tryz.prog 9 #[u, .slice A n c] W fun e w' => ∃ (A' : Option Addr) (n' c' : Nat), e = .returned (.slice A' n' c') ∧ Dus Tr w' A' n' c' (U l d) ∧ Below W.heap.size W w'
structure Upt (w : World) (U : List D.Nd -> List D.Du -> List D.Du) (x : D.Nd) (a b : Value) : Prop where
 nm : x.k = 1 ∨ x.k = 2 ∨ x.k = 3 ∨ x.k = 4 -> D.unp (D.pnm x) = x.n ∧ D.RnN (D.pnm x)
 kn : x.ks.length <= 1000
 b8 : D.B8 x.ws
 bd : ∀ q ∈ x.ks, ∀ N d, D.Bd N d -> D.Bd (N + (D.prL q).length) (U q d)
 out : ∃ (A1 : Option Addr) (c1 : Nat) (B1 : Option Addr) (e1 : Nat) (k1 : List Value), a = .slice A1 x.ws.length c1 ∧ x.ws.length <= c1 ∧ RF 1 Tr w A1 x.ws.length (strs x.ws) ∧ b = .slice B1 x.ks.length e1 ∧ Rw 1 w B1 x.ks.length k1 ∧ ∀ (q : Nat) (u : Value) (k : List D.Nd), k1[q]? = some u -> x.ks[q]? = some k -> UsC U k (D.prL k).length u w
namespace D
theorem cL_take : ∀ {l : List Nd} {j : Nat} {x : Nd}, l[j]? = some x -> cL (l.take j) + (1 + x.ws.length + cK x.ks) <= cL l
 | [], j, x, h => by simp at h
 | y :: l, 0, x, h => by
  simp at h
  subst h
  simp [cL]
 | y :: l, j + 1, x, h => by
  have := cL_take (l := l) (j := j) (by simpa using h)
  simp only [List.take_succ_cons, cL]
  omega
theorem cK_take : ∀ {l : List (List Nd)} {j : Nat} {x : List Nd}, l[j]? = some x -> cK (l.take j) + (prL x).length <= cK l
 | [], j, x, h => by simp at h
 | y :: l, 0, x, h => by
  simp at h
  subst h
  simp [cK]
 | y :: l, j + 1, x, h => by
  have := cK_take (l := l) (j := j) (by simpa using h)
  simp only [List.take_succ_cons, cK]
  omega
end D
set_option maxHeartbeats 16000000 in
theorem uses_row (Ar : Option Addr) (n c : Nat) (vs : List (D.Nd × Value × Value)) (w : World) (U : List D.Nd -> List D.Du -> List D.Du) (C : Nat) (hr : Rw 5 w Ar n (pcl vs)) (hn : n <= 1000) (hp : ∀ (j : Nat) (x : D.Nd) (a b : Value), vs[j]? = some (x, a, b) -> Upt w U x a b) (hC : D.cL (vs.map (·.1)) <= C) :
  UsC (D.usL U) (vs.map (·.1)) C (.slice Ar n c) w := by
 intro W A0 n0 c0 d N hW hD hBd hN
 have hlen := hr.len
 rw [cls_len] at hlen
 have hlen : vs.length = n := by omega
 have HR := Lib.hid hr
 have HP := Lib.hid hp
 have HD := Lib.hid hD
 have HBd := Lib.hid hBd
 have HW := Lib.hid hW
 have HLN := Kept.mk hlen
 have HCC := Kept.mk hC
 have HNN := Kept.mk hN
 clear hr hp hD hBd hW hlen hC hN
 go_enter Tryz.func9, Tryz.ntmps9
 go_wp2_with fail
 go_loopw [1, 5] (fun s1 s5 wr => ∃ (j : Nat) (A7 : Option Addr) (n7 c7 : Nat), j <= n ∧ s5 = .int .i64 j ∧ s1 = .slice A7 n7 c7 ∧ Hid (Dus Tr wr A7 n7 c7 (D.usL U ((vs.map (·.1)).take j) d)) ∧ Hid (Below W.heap.size W wr)) (fun _ s5 _ => n - (intOf s5).toNat)
 case atStart => exact ⟨0, A0, n0, c0, Nat.zero_le _, rfl, rfl, Lib.hid (by simpa [D.usL] using HD.out), Lib.hid (Below.refl _ _)⟩
 case round =>
  obtain ⟨j, A7, n7, c7, hj, rfl, rfl, HDj, HZj⟩ := hrel
  obtain ⟨wo, rfl⟩ : ∃ wo : World, wo = wr := ⟨_, rfl⟩
  by_cases hlt : j < n
  ·obtain ⟨⟨x, a, b⟩, ht⟩ : ∃ a, vs[j]? = some a := ⟨_, List.getElem?_eq_getElem (by have := HLN.out; omega)⟩
   have hxl : (vs.map (·.1))[j]? = some x := by simp [ht]
   obtain ⟨hnm, hkn, hb8, hbd, A1, c1, B1, e1, k1, rfl, hc1, hA1, rfl, hk1, hkk⟩ := HP.out j x a b ht
   have hWo : Below w.heap.size w wo := HW.out.trans (HZj.out.mono HW.out.size)
   obtain ⟨ad, rfl, hmc⟩ := mpt_at (HR.out.on hWo) ht
   obtain ⟨m0, m1, m2, m3, m4, m5⟩ := hmc
   have hI : (j : Int) < n := by omega
   have HTK := Kept.mk (D.usL_take (U := U) (d := d) hxl)
   obtain ⟨dj, hdj⟩ : ∃ dj, D.usL U ((vs.map (·.1)).take j) d = dj := ⟨_, rfl⟩
   rw [hdj] at HDj HTK
   have hbj : D.Bd (N + D.cL ((vs.map (·.1)).take j)) dj := by
    rw [<- hdj]
    refine D.usL_bd (fun z hz => ?_) HBd.out
    obtain ⟨⟨z', a', b'⟩, hm, rfl⟩ := List.mem_map.1 (List.mem_of_mem_take hz)
    obtain ⟨i, hi⟩ := List.mem_iff_getElem?.1 hm
    exact (HP.out i z' a' b' hi).bd
   obtain ⟨Nj, hNj⟩ : ∃ Nj, N + D.cL ((vs.map (·.1)).take j) = Nj := ⟨_, rfl⟩
   rw [hNj] at hbj
   have HCO : Kept (Nj + 1 + x.ws.length + D.cK x.ks <= 800) := ⟨by
    have h1 := D.cL_take hxl
    have h2 := HCC.out
    have h3 := HNN.out
    omega⟩
   obtain ⟨nw, hnw⟩ : ∃ nw, x.ws.length = nw := ⟨_, rfl⟩
   obtain ⟨nk, hnk⟩ : ∃ nk, x.ks.length = nk := ⟨_, rfl⟩
   rw [hnk] at hkn
   rw [hnw] at hA1 hc1 m4
   rw [hnk] at hk1 m5
   have HNW := Kept.mk hnw
   have HNK := Kept.mk hnk
   have HA1 := Lib.hid (hA1.keep (keeps_below hWo))
   have HK1 := Lib.hid hk1
   have HKK := Lib.hid hkk
   have HBD := Lib.hid hbd
   have HB8 := Lib.hid hb8
   have HBj := Lib.hid hbj
   have HWo := Lib.hid hWo
   have HLT := Kept.mk hlt
   have HD1 : Hid (Dus Tr (wo.alloc (.cells #[.int .i64 (x.k : Nat), .string (D.sb x.t), .string (D.sb x.n), .slice A1 nw c1, .slice B1 nk e1] 55)) A7 n7 c7 dj) := Lib.hid (HDj.out.keep (keeps_below (below_alloc_ _ _)))
   have hN1 : Blk (wo.alloc (.cells #[.int .i64 (x.k : Nat), .string (D.sb x.t), .string (D.sb x.n), .slice A1 nw c1, .slice B1 nk e1] 55)) wo.heap.size 55 #[.int .i64 (x.k : Nat), .string (D.sb x.t), .string (D.sb x.n), .slice A1 nw c1, .slice B1 nk e1] := Blk.new _ _ _
   have HBX := Lib.hid hN1
   have x0 : (wo.alloc (.cells #[.int .i64 (x.k : Nat), .string (D.sb x.t), .string (D.sb x.n), .slice A1 nw c1, .slice B1 nk e1] 55)).cell? ⟨wo.heap.size, 0, none⟩ = some (.int .i64 (x.k : Nat)) := by rw [hN1.c_ 0]; rfl
   have x2 : (wo.alloc (.cells #[.int .i64 (x.k : Nat), .string (D.sb x.t), .string (D.sb x.n), .slice A1 nw c1, .slice B1 nk e1] 55)).cell? ⟨wo.heap.size, 2, none⟩ = some (.string (D.sb x.n)) := by rw [hN1.c_ 2]; rfl
   have x3 : (wo.alloc (.cells #[.int .i64 (x.k : Nat), .string (D.sb x.t), .string (D.sb x.n), .slice A1 nw c1, .slice B1 nk e1] 55)).cell? ⟨wo.heap.size, 3, none⟩ = some (.slice A1 nw c1) := by rw [hN1.c_ 3]; rfl
   have x5 := hN1.lt
   clear ht hxl hdj hbj hNj hnw hnk hA1 hk1 hkk hbd hb8 hWo hN1
   obtain hk | hk | hk | hk | hk : x.k = 1 ∨ x.k = 2 ∨ x.k = 3 ∨ x.k = 4 ∨ (x.k ≠ 1 ∧ x.k ≠ 2 ∧ x.k ≠ 3 ∧ x.k ≠ 4) := by omega
   ·have i1 : ((x.k : Int) == 1) = true := by simp; omega
    have i2 : ((x.k : Int) == 2) = false := by simp; omega
    have i3 : ((x.k : Int) == 3) = false := by simp; omega
    have i4 : ((x.k : Int) == 4) = false := by simp; omega
    have huo : D.usO x dj = D.addD dj ⟨D.pnm x, 1, []⟩ := by unfold D.usO; rw [if_pos hk]
    obtain ⟨hu1, hu2⟩ := hnm (by omega)
    have CA : Hid (Calls Tryz.prog 21 #[.slice A7 n7 c7, .agg #[.string (D.sb x.n), .int .i64 1, .slice none 0 0]] (wo.alloc (.cells #[.int .i64 (x.k : Nat), .string (D.sb x.t), .string (D.sb x.n), .slice A1 nw c1, .slice B1 nk e1] 55)) fun e w' => ∃ (A' : Option Addr) (n' c' : Nat), e = .returned (.slice A' n' c') ∧ Dus Tr w' A' n' c' (D.usO x dj) ∧ Below (wo.alloc (.cells #[.int .i64 (x.k : Nat), .string (D.sb x.t), .string (D.sb x.n), .slice A1 nw c1, .slice B1 nk e1] 55)).heap.size (wo.alloc (.cells #[.int .i64 (x.k : Nat), .string (D.sb x.t), .string (D.sb x.n), .slice A1 nw c1, .slice B1 nk e1] 55)) w') := Lib.hid (by
     rw [huo]
     exact add_t A7 n7 c7 dj (D.pnm x) 1 [] none 0 0 x.n Nj (wo.alloc (.cells #[.int .i64 (x.k : Nat), .string (D.sb x.t), .string (D.sb x.n), .slice A1 nw c1, .slice B1 nk e1] 55)) HD1.out HBj.out (by have := HCO.out; (try simp only [List.length_nil]); omega) (.inl rfl) hu1 hu2 (RF.nil _ _ _ _) (Nat.le_refl _) (fun w h => by cases h))
    clear huo hu1 hu2 hnm hk
    go_wp2_with (go_at_call 21; (with_reducible refine CA.out.mono ?_); rintro e w8 ⟨A8, n8, c8, rfl, hd8, hb8⟩; have HD8 := Lib.hid hd8; have HB8 := Lib.hid (HBX.out.on hb8); have HS8 : Hid (wo.heap.size <= w8.heap.size) := Lib.hid (Nat.le_trans (by simp) hb8.size); have HBo8 : Hid (Below wo.heap.size wo w8) := Lib.hid ((below_alloc_ _ _).trans (hb8.mono (by simp))); clear hd8 hb8)
    have HD8' := Lib.hid HD8.out
    go_loopw [1, 7] (fun s1 s7 wr => ∃ (q : Nat) (A9 : Option Addr) (n9 c9 : Nat), q <= nk ∧ s7 = .int .i64 q ∧ s1 = .slice A9 n9 c9 ∧ Hid (Dus Tr wr A9 n9 c9 (D.usK U (x.ks.take q) (D.usO x dj))) ∧ Hid (Below (w8).heap.size (w8) wr)) (fun _ s7 _ => nk - (intOf s7).toNat)
    case atStart => exact ⟨0, _, _, _, Nat.zero_le _, rfl, rfl, Lib.hid (by simpa [D.usK] using HD8.out), Lib.hid (Below.refl _ _)⟩
    case round =>
     obtain ⟨q, A9, n9, c9, hq, rfl, rfl, HD9, HZ9⟩ := hrel
     obtain ⟨wi, rfl⟩ : ∃ wi : World, wi = wr := ⟨_, rfl⟩
     have HBi := Lib.hid (HB8.out.on HZ9.out)
     have b4 : wi.cell? ⟨wo.heap.size, 4, none⟩ = some (.slice B1 nk e1) := by rw [HBi.out.c_ 4]; rfl
     have b5 := HBi.out.lt
     have hz8 := HS8.out
     by_cases hlq : q < nk
     ·obtain ⟨kq, hkq⟩ : ∃ kq, x.ks[q]? = some kq := ⟨_, List.getElem?_eq_getElem (by have := HNK.out; omega)⟩
      obtain ⟨vq, hvq⟩ : ∃ vq, k1[q]? = some vq := ⟨_, List.getElem?_eq_getElem (by have := HK1.out.len; omega)⟩
      have hWi : Below w.heap.size w wi := HWo.out.trans ((HBo8.out.trans (HZ9.out.mono HBo8.out.size)).mono HWo.out.size)
      obtain ⟨adk, rfl, hbk, hck⟩ := (HK1.out.on hWi).cell hvq
      have hIq : (q : Int) < nk := by omega
      have CU := Lib.hid (HKK.out q vq kq hvq hkq wi A9 n9 c9 _ (Nj + 1 + x.ws.length + D.cK (x.ks.take q)) hWi HD9.out (D.usK_bd (fun z hz => HBD.out z (List.mem_of_mem_take hz)) (D.usO_bd HBj.out)) (by
       have h1 := D.cK_take hkq
       have h2 := HCO.out
       omega))
      have hut := D.usK_take (U := U) (d := D.usO x dj) hkq
      have HUT := Kept.mk hut
      have HLQ := Kept.mk hlq
      clear hkq hvq hut hWi
      go_wp2_with (go_at_call 9; (with_reducible refine CU.out.mono ?_); rintro e w5 ⟨A5, n5, c5, rfl, hd5, hb5⟩; have HD5 := Lib.hid hd5; have HB5 := Lib.hid (HZ9.out.trans (hb5.mono HZ9.out.size)); clear hd5 hb5)
      go_roundw
      case rel => exact ⟨q + 1, A5, n5, c5, HLQ.out, by go_num, rfl, Lib.hid (by rw [HUT.out]; exact HD5.out), HB5⟩
      case measure => have := HLQ.out; simp [intOf]; omega
     ·obtain rfl : q = nk := by omega
      have e2 : x.ks.take q = x.ks := List.take_of_length_le (by have := HNK.out; omega)
      rw [e2] at HD9
      clear e2
      go_wp2_with fail
      go_roundw
      case rel => exact ⟨j + 1, A9, n9, c9, HLT.out, by go_num, rfl, Lib.hid (by rw [HTK.out]; exact HD9.out), Lib.hid (HZj.out.trans ((HBo8.out.trans (HZ9.out.mono HBo8.out.size)).mono HZj.out.size))⟩
      case measure => have := HLT.out; simp [intOf]; omega
   ·have i1 : ((x.k : Int) == 1) = false := by simp; omega
    have i2 : ((x.k : Int) == 2) = true := by simp; omega
    have i3 : ((x.k : Int) == 3) = false := by simp; omega
    have i4 : ((x.k : Int) == 4) = false := by simp; omega
    have huo : D.usO x dj = D.addD dj ⟨D.pnm x, 2, []⟩ := by unfold D.usO; rw [if_neg (by omega), if_pos (by omega)]
    obtain ⟨hu1, hu2⟩ := hnm (by omega)
    have CA : Hid (Calls Tryz.prog 21 #[.slice A7 n7 c7, .agg #[.string (D.sb x.n), .int .i64 2, .slice none 0 0]] (wo.alloc (.cells #[.int .i64 (x.k : Nat), .string (D.sb x.t), .string (D.sb x.n), .slice A1 nw c1, .slice B1 nk e1] 55)) fun e w' => ∃ (A' : Option Addr) (n' c' : Nat), e = .returned (.slice A' n' c') ∧ Dus Tr w' A' n' c' (D.usO x dj) ∧ Below (wo.alloc (.cells #[.int .i64 (x.k : Nat), .string (D.sb x.t), .string (D.sb x.n), .slice A1 nw c1, .slice B1 nk e1] 55)).heap.size (wo.alloc (.cells #[.int .i64 (x.k : Nat), .string (D.sb x.t), .string (D.sb x.n), .slice A1 nw c1, .slice B1 nk e1] 55)) w') := Lib.hid (by
     rw [huo]
     exact add_t A7 n7 c7 dj (D.pnm x) 2 [] none 0 0 x.n Nj (wo.alloc (.cells #[.int .i64 (x.k : Nat), .string (D.sb x.t), .string (D.sb x.n), .slice A1 nw c1, .slice B1 nk e1] 55)) HD1.out HBj.out (by have := HCO.out; (try simp only [List.length_nil]); omega) (.inr (.inl rfl)) hu1 hu2 (RF.nil _ _ _ _) (Nat.le_refl _) (fun w h => by cases h))
    clear huo hu1 hu2 hnm hk
    go_wp2_with (go_at_call 21; (with_reducible refine CA.out.mono ?_); rintro e w8 ⟨A8, n8, c8, rfl, hd8, hb8⟩; have HD8 := Lib.hid hd8; have HB8 := Lib.hid (HBX.out.on hb8); have HS8 : Hid (wo.heap.size <= w8.heap.size) := Lib.hid (Nat.le_trans (by simp) hb8.size); have HBo8 : Hid (Below wo.heap.size wo w8) := Lib.hid ((below_alloc_ _ _).trans (hb8.mono (by simp))); clear hd8 hb8)
    have HD8' := Lib.hid HD8.out
    go_loopw [1, 7] (fun s1 s7 wr => ∃ (q : Nat) (A9 : Option Addr) (n9 c9 : Nat), q <= nk ∧ s7 = .int .i64 q ∧ s1 = .slice A9 n9 c9 ∧ Hid (Dus Tr wr A9 n9 c9 (D.usK U (x.ks.take q) (D.usO x dj))) ∧ Hid (Below (w8).heap.size (w8) wr)) (fun _ s7 _ => nk - (intOf s7).toNat)
    case atStart => exact ⟨0, _, _, _, Nat.zero_le _, rfl, rfl, Lib.hid (by simpa [D.usK] using HD8.out), Lib.hid (Below.refl _ _)⟩
    case round =>
     obtain ⟨q, A9, n9, c9, hq, rfl, rfl, HD9, HZ9⟩ := hrel
     obtain ⟨wi, rfl⟩ : ∃ wi : World, wi = wr := ⟨_, rfl⟩
     have HBi := Lib.hid (HB8.out.on HZ9.out)
     have b4 : wi.cell? ⟨wo.heap.size, 4, none⟩ = some (.slice B1 nk e1) := by rw [HBi.out.c_ 4]; rfl
     have b5 := HBi.out.lt
     have hz8 := HS8.out
     by_cases hlq : q < nk
     ·obtain ⟨kq, hkq⟩ : ∃ kq, x.ks[q]? = some kq := ⟨_, List.getElem?_eq_getElem (by have := HNK.out; omega)⟩
      obtain ⟨vq, hvq⟩ : ∃ vq, k1[q]? = some vq := ⟨_, List.getElem?_eq_getElem (by have := HK1.out.len; omega)⟩
      have hWi : Below w.heap.size w wi := HWo.out.trans ((HBo8.out.trans (HZ9.out.mono HBo8.out.size)).mono HWo.out.size)
      obtain ⟨adk, rfl, hbk, hck⟩ := (HK1.out.on hWi).cell hvq
      have hIq : (q : Int) < nk := by omega
      have CU := Lib.hid (HKK.out q vq kq hvq hkq wi A9 n9 c9 _ (Nj + 1 + x.ws.length + D.cK (x.ks.take q)) hWi HD9.out (D.usK_bd (fun z hz => HBD.out z (List.mem_of_mem_take hz)) (D.usO_bd HBj.out)) (by
       have h1 := D.cK_take hkq
       have h2 := HCO.out
       omega))
      have hut := D.usK_take (U := U) (d := D.usO x dj) hkq
      have HUT := Kept.mk hut
      have HLQ := Kept.mk hlq
      clear hkq hvq hut hWi
      go_wp2_with (go_at_call 9; (with_reducible refine CU.out.mono ?_); rintro e w5 ⟨A5, n5, c5, rfl, hd5, hb5⟩; have HD5 := Lib.hid hd5; have HB5 := Lib.hid (HZ9.out.trans (hb5.mono HZ9.out.size)); clear hd5 hb5)
      go_roundw
      case rel => exact ⟨q + 1, A5, n5, c5, HLQ.out, by go_num, rfl, Lib.hid (by rw [HUT.out]; exact HD5.out), HB5⟩
      case measure => have := HLQ.out; simp [intOf]; omega
     ·obtain rfl : q = nk := by omega
      have e2 : x.ks.take q = x.ks := List.take_of_length_le (by have := HNK.out; omega)
      rw [e2] at HD9
      clear e2
      go_wp2_with fail
      go_roundw
      case rel => exact ⟨j + 1, A9, n9, c9, HLT.out, by go_num, rfl, Lib.hid (by rw [HTK.out]; exact HD9.out), Lib.hid (HZj.out.trans ((HBo8.out.trans (HZ9.out.mono HBo8.out.size)).mono HZj.out.size))⟩
      case measure => have := HLT.out; simp [intOf]; omega
   ·have i1 : ((x.k : Int) == 1) = false := by simp; omega
    have i2 : ((x.k : Int) == 2) = false := by simp; omega
    have i3 : ((x.k : Int) == 3) = true := by simp; omega
    have i4 : ((x.k : Int) == 4) = false := by simp; omega
    have huo : D.usO x dj = D.addD dj ⟨D.pnm x, 2, []⟩ := by unfold D.usO; rw [if_neg (by omega), if_pos (by omega)]
    obtain ⟨hu1, hu2⟩ := hnm (by omega)
    have CA : Hid (Calls Tryz.prog 21 #[.slice A7 n7 c7, .agg #[.string (D.sb x.n), .int .i64 2, .slice none 0 0]] (wo.alloc (.cells #[.int .i64 (x.k : Nat), .string (D.sb x.t), .string (D.sb x.n), .slice A1 nw c1, .slice B1 nk e1] 55)) fun e w' => ∃ (A' : Option Addr) (n' c' : Nat), e = .returned (.slice A' n' c') ∧ Dus Tr w' A' n' c' (D.usO x dj) ∧ Below (wo.alloc (.cells #[.int .i64 (x.k : Nat), .string (D.sb x.t), .string (D.sb x.n), .slice A1 nw c1, .slice B1 nk e1] 55)).heap.size (wo.alloc (.cells #[.int .i64 (x.k : Nat), .string (D.sb x.t), .string (D.sb x.n), .slice A1 nw c1, .slice B1 nk e1] 55)) w') := Lib.hid (by
     rw [huo]
     exact add_t A7 n7 c7 dj (D.pnm x) 2 [] none 0 0 x.n Nj (wo.alloc (.cells #[.int .i64 (x.k : Nat), .string (D.sb x.t), .string (D.sb x.n), .slice A1 nw c1, .slice B1 nk e1] 55)) HD1.out HBj.out (by have := HCO.out; (try simp only [List.length_nil]); omega) (.inr (.inl rfl)) hu1 hu2 (RF.nil _ _ _ _) (Nat.le_refl _) (fun w h => by cases h))
    clear huo hu1 hu2 hnm hk
    go_wp2_with (go_at_call 21; (with_reducible refine CA.out.mono ?_); rintro e w8 ⟨A8, n8, c8, rfl, hd8, hb8⟩; have HD8 := Lib.hid hd8; have HB8 := Lib.hid (HBX.out.on hb8); have HS8 : Hid (wo.heap.size <= w8.heap.size) := Lib.hid (Nat.le_trans (by simp) hb8.size); have HBo8 : Hid (Below wo.heap.size wo w8) := Lib.hid ((below_alloc_ _ _).trans (hb8.mono (by simp))); clear hd8 hb8)
    have HD8' := Lib.hid HD8.out
    go_loopw [1, 7] (fun s1 s7 wr => ∃ (q : Nat) (A9 : Option Addr) (n9 c9 : Nat), q <= nk ∧ s7 = .int .i64 q ∧ s1 = .slice A9 n9 c9 ∧ Hid (Dus Tr wr A9 n9 c9 (D.usK U (x.ks.take q) (D.usO x dj))) ∧ Hid (Below (w8).heap.size (w8) wr)) (fun _ s7 _ => nk - (intOf s7).toNat)
    case atStart => exact ⟨0, _, _, _, Nat.zero_le _, rfl, rfl, Lib.hid (by simpa [D.usK] using HD8.out), Lib.hid (Below.refl _ _)⟩
    case round =>
     obtain ⟨q, A9, n9, c9, hq, rfl, rfl, HD9, HZ9⟩ := hrel
     obtain ⟨wi, rfl⟩ : ∃ wi : World, wi = wr := ⟨_, rfl⟩
     have HBi := Lib.hid (HB8.out.on HZ9.out)
     have b4 : wi.cell? ⟨wo.heap.size, 4, none⟩ = some (.slice B1 nk e1) := by rw [HBi.out.c_ 4]; rfl
     have b5 := HBi.out.lt
     have hz8 := HS8.out
     by_cases hlq : q < nk
     ·obtain ⟨kq, hkq⟩ : ∃ kq, x.ks[q]? = some kq := ⟨_, List.getElem?_eq_getElem (by have := HNK.out; omega)⟩
      obtain ⟨vq, hvq⟩ : ∃ vq, k1[q]? = some vq := ⟨_, List.getElem?_eq_getElem (by have := HK1.out.len; omega)⟩
      have hWi : Below w.heap.size w wi := HWo.out.trans ((HBo8.out.trans (HZ9.out.mono HBo8.out.size)).mono HWo.out.size)
      obtain ⟨adk, rfl, hbk, hck⟩ := (HK1.out.on hWi).cell hvq
      have hIq : (q : Int) < nk := by omega
      have CU := Lib.hid (HKK.out q vq kq hvq hkq wi A9 n9 c9 _ (Nj + 1 + x.ws.length + D.cK (x.ks.take q)) hWi HD9.out (D.usK_bd (fun z hz => HBD.out z (List.mem_of_mem_take hz)) (D.usO_bd HBj.out)) (by
       have h1 := D.cK_take hkq
       have h2 := HCO.out
       omega))
      have hut := D.usK_take (U := U) (d := D.usO x dj) hkq
      have HUT := Kept.mk hut
      have HLQ := Kept.mk hlq
      clear hkq hvq hut hWi
      go_wp2_with (go_at_call 9; (with_reducible refine CU.out.mono ?_); rintro e w5 ⟨A5, n5, c5, rfl, hd5, hb5⟩; have HD5 := Lib.hid hd5; have HB5 := Lib.hid (HZ9.out.trans (hb5.mono HZ9.out.size)); clear hd5 hb5)
      go_roundw
      case rel => exact ⟨q + 1, A5, n5, c5, HLQ.out, by go_num, rfl, Lib.hid (by rw [HUT.out]; exact HD5.out), HB5⟩
      case measure => have := HLQ.out; simp [intOf]; omega
     ·obtain rfl : q = nk := by omega
      have e2 : x.ks.take q = x.ks := List.take_of_length_le (by have := HNK.out; omega)
      rw [e2] at HD9
      clear e2
      go_wp2_with fail
      go_roundw
      case rel => exact ⟨j + 1, A9, n9, c9, HLT.out, by go_num, rfl, Lib.hid (by rw [HTK.out]; exact HD9.out), Lib.hid (HZj.out.trans ((HBo8.out.trans (HZ9.out.mono HBo8.out.size)).mono HZj.out.size))⟩
      case measure => have := HLT.out; simp [intOf]; omega
   ·have i1 : ((x.k : Int) == 1) = false := by simp; omega
    have i2 : ((x.k : Int) == 2) = false := by simp; omega
    have i3 : ((x.k : Int) == 3) = false := by simp; omega
    have i4 : ((x.k : Int) == 4) = true := by simp; omega
    have huo : D.usO x dj = D.addD dj ⟨D.pnm x, 4, x.ws⟩ := by unfold D.usO; rw [if_neg (by omega), if_neg (by omega), if_pos hk]
    obtain ⟨hu1, hu2⟩ := hnm (by omega)
    have CA : Hid (Calls Tryz.prog 21 #[.slice A7 n7 c7, .agg #[.string (D.sb x.n), .int .i64 4, .slice A1 nw c1]] (wo.alloc (.cells #[.int .i64 (x.k : Nat), .string (D.sb x.t), .string (D.sb x.n), .slice A1 nw c1, .slice B1 nk e1] 55)) fun e w' => ∃ (A' : Option Addr) (n' c' : Nat), e = .returned (.slice A' n' c') ∧ Dus Tr w' A' n' c' (D.usO x dj) ∧ Below (wo.alloc (.cells #[.int .i64 (x.k : Nat), .string (D.sb x.t), .string (D.sb x.n), .slice A1 nw c1, .slice B1 nk e1] 55)).heap.size (wo.alloc (.cells #[.int .i64 (x.k : Nat), .string (D.sb x.t), .string (D.sb x.n), .slice A1 nw c1, .slice B1 nk e1] 55)) w') := Lib.hid (by
     rw [huo]
     exact add_t A7 n7 c7 dj (D.pnm x) 4 x.ws A1 nw c1 x.n Nj (wo.alloc (.cells #[.int .i64 (x.k : Nat), .string (D.sb x.t), .string (D.sb x.n), .slice A1 nw c1, .slice B1 nk e1] 55)) HD1.out HBj.out (by have := HCO.out; (try simp only [List.length_nil]); omega) (.inr (.inr rfl)) hu1 hu2 (HA1.out.keep (keeps_below (below_alloc_ _ _))) hc1 HB8.out)
    clear huo hu1 hu2 hnm hk
    go_wp2_with (go_at_call 21; (with_reducible refine CA.out.mono ?_); rintro e w8 ⟨A8, n8, c8, rfl, hd8, hb8⟩; have HD8 := Lib.hid hd8; have HB8 := Lib.hid (HBX.out.on hb8); have HS8 : Hid (wo.heap.size <= w8.heap.size) := Lib.hid (Nat.le_trans (by simp) hb8.size); have HBo8 : Hid (Below wo.heap.size wo w8) := Lib.hid ((below_alloc_ _ _).trans (hb8.mono (by simp))); clear hd8 hb8)
    have HD8' := Lib.hid HD8.out
    go_loopw [1, 7] (fun s1 s7 wr => ∃ (q : Nat) (A9 : Option Addr) (n9 c9 : Nat), q <= nk ∧ s7 = .int .i64 q ∧ s1 = .slice A9 n9 c9 ∧ Hid (Dus Tr wr A9 n9 c9 (D.usK U (x.ks.take q) (D.usO x dj))) ∧ Hid (Below (w8).heap.size (w8) wr)) (fun _ s7 _ => nk - (intOf s7).toNat)
    case atStart => exact ⟨0, _, _, _, Nat.zero_le _, rfl, rfl, Lib.hid (by simpa [D.usK] using HD8.out), Lib.hid (Below.refl _ _)⟩
    case round =>
     obtain ⟨q, A9, n9, c9, hq, rfl, rfl, HD9, HZ9⟩ := hrel
     obtain ⟨wi, rfl⟩ : ∃ wi : World, wi = wr := ⟨_, rfl⟩
     have HBi := Lib.hid (HB8.out.on HZ9.out)
     have b4 : wi.cell? ⟨wo.heap.size, 4, none⟩ = some (.slice B1 nk e1) := by rw [HBi.out.c_ 4]; rfl
     have b5 := HBi.out.lt
     have hz8 := HS8.out
     by_cases hlq : q < nk
     ·obtain ⟨kq, hkq⟩ : ∃ kq, x.ks[q]? = some kq := ⟨_, List.getElem?_eq_getElem (by have := HNK.out; omega)⟩
      obtain ⟨vq, hvq⟩ : ∃ vq, k1[q]? = some vq := ⟨_, List.getElem?_eq_getElem (by have := HK1.out.len; omega)⟩
      have hWi : Below w.heap.size w wi := HWo.out.trans ((HBo8.out.trans (HZ9.out.mono HBo8.out.size)).mono HWo.out.size)
      obtain ⟨adk, rfl, hbk, hck⟩ := (HK1.out.on hWi).cell hvq
      have hIq : (q : Int) < nk := by omega
      have CU := Lib.hid (HKK.out q vq kq hvq hkq wi A9 n9 c9 _ (Nj + 1 + x.ws.length + D.cK (x.ks.take q)) hWi HD9.out (D.usK_bd (fun z hz => HBD.out z (List.mem_of_mem_take hz)) (D.usO_bd HBj.out)) (by
       have h1 := D.cK_take hkq
       have h2 := HCO.out
       omega))
      have hut := D.usK_take (U := U) (d := D.usO x dj) hkq
      have HUT := Kept.mk hut
      have HLQ := Kept.mk hlq
      clear hkq hvq hut hWi
      go_wp2_with (go_at_call 9; (with_reducible refine CU.out.mono ?_); rintro e w5 ⟨A5, n5, c5, rfl, hd5, hb5⟩; have HD5 := Lib.hid hd5; have HB5 := Lib.hid (HZ9.out.trans (hb5.mono HZ9.out.size)); clear hd5 hb5)
      go_roundw
      case rel => exact ⟨q + 1, A5, n5, c5, HLQ.out, by go_num, rfl, Lib.hid (by rw [HUT.out]; exact HD5.out), HB5⟩
      case measure => have := HLQ.out; simp [intOf]; omega
     ·obtain rfl : q = nk := by omega
      have e2 : x.ks.take q = x.ks := List.take_of_length_le (by have := HNK.out; omega)
      rw [e2] at HD9
      clear e2
      go_wp2_with fail
      go_roundw
      case rel => exact ⟨j + 1, A9, n9, c9, HLT.out, by go_num, rfl, Lib.hid (by rw [HTK.out]; exact HD9.out), Lib.hid (HZj.out.trans ((HBo8.out.trans (HZ9.out.mono HBo8.out.size)).mono HZj.out.size))⟩
      case measure => have := HLT.out; simp [intOf]; omega
   ·have i1 : ((x.k : Int) == 1) = false := by simp; omega
    have i2 : ((x.k : Int) == 2) = false := by simp; omega
    have i3 : ((x.k : Int) == 3) = false := by simp; omega
    have i4 : ((x.k : Int) == 4) = false := by simp; omega
    have huo : D.usO x dj = dj := by unfold D.usO; rw [if_neg (by omega), if_neg (by omega), if_neg (by omega)]
    have HD8 : Hid (Dus Tr (wo.alloc (.cells #[.int .i64 (x.k : Nat), .string (D.sb x.t), .string (D.sb x.n), .slice A1 nw c1, .slice B1 nk e1] 55)) A7 n7 c7 (D.usO x dj)) := Lib.hid (by rw [huo]; exact HD1.out)
    have HB8 := HBX
    have HS8 : Hid (wo.heap.size <= (wo.alloc (.cells #[.int .i64 (x.k : Nat), .string (D.sb x.t), .string (D.sb x.n), .slice A1 nw c1, .slice B1 nk e1] 55)).heap.size) := Lib.hid (by simp)
    have HBo8 : Hid (Below wo.heap.size wo (wo.alloc (.cells #[.int .i64 (x.k : Nat), .string (D.sb x.t), .string (D.sb x.n), .slice A1 nw c1, .slice B1 nk e1] 55))) := Lib.hid (below_alloc_ _ _)
    clear huo hnm hk
    go_wp2_with fail
    have HD8' := Lib.hid HD8.out
    go_loopw [1, 7] (fun s1 s7 wr => ∃ (q : Nat) (A9 : Option Addr) (n9 c9 : Nat), q <= nk ∧ s7 = .int .i64 q ∧ s1 = .slice A9 n9 c9 ∧ Hid (Dus Tr wr A9 n9 c9 (D.usK U (x.ks.take q) (D.usO x dj))) ∧ Hid (Below ((wo.alloc (.cells #[.int .i64 (x.k : Nat), .string (D.sb x.t), .string (D.sb x.n), .slice A1 nw c1, .slice B1 nk e1] 55))).heap.size ((wo.alloc (.cells #[.int .i64 (x.k : Nat), .string (D.sb x.t), .string (D.sb x.n), .slice A1 nw c1, .slice B1 nk e1] 55))) wr)) (fun _ s7 _ => nk - (intOf s7).toNat)
    case atStart => exact ⟨0, _, _, _, Nat.zero_le _, rfl, rfl, Lib.hid (by simpa [D.usK] using HD8.out), Lib.hid (Below.refl _ _)⟩
    case round =>
     obtain ⟨q, A9, n9, c9, hq, rfl, rfl, HD9, HZ9⟩ := hrel
     obtain ⟨wi, rfl⟩ : ∃ wi : World, wi = wr := ⟨_, rfl⟩
     have HBi := Lib.hid (HB8.out.on HZ9.out)
     have b4 : wi.cell? ⟨wo.heap.size, 4, none⟩ = some (.slice B1 nk e1) := by rw [HBi.out.c_ 4]; rfl
     have b5 := HBi.out.lt
     have hz8 := HS8.out
     by_cases hlq : q < nk
     ·obtain ⟨kq, hkq⟩ : ∃ kq, x.ks[q]? = some kq := ⟨_, List.getElem?_eq_getElem (by have := HNK.out; omega)⟩
      obtain ⟨vq, hvq⟩ : ∃ vq, k1[q]? = some vq := ⟨_, List.getElem?_eq_getElem (by have := HK1.out.len; omega)⟩
      have hWi : Below w.heap.size w wi := HWo.out.trans ((HBo8.out.trans (HZ9.out.mono HBo8.out.size)).mono HWo.out.size)
      obtain ⟨adk, rfl, hbk, hck⟩ := (HK1.out.on hWi).cell hvq
      have hIq : (q : Int) < nk := by omega
      have CU := Lib.hid (HKK.out q vq kq hvq hkq wi A9 n9 c9 _ (Nj + 1 + x.ws.length + D.cK (x.ks.take q)) hWi HD9.out (D.usK_bd (fun z hz => HBD.out z (List.mem_of_mem_take hz)) (D.usO_bd HBj.out)) (by
       have h1 := D.cK_take hkq
       have h2 := HCO.out
       omega))
      have hut := D.usK_take (U := U) (d := D.usO x dj) hkq
      have HUT := Kept.mk hut
      have HLQ := Kept.mk hlq
      clear hkq hvq hut hWi
      go_wp2_with (go_at_call 9; (with_reducible refine CU.out.mono ?_); rintro e w5 ⟨A5, n5, c5, rfl, hd5, hb5⟩; have HD5 := Lib.hid hd5; have HB5 := Lib.hid (HZ9.out.trans (hb5.mono HZ9.out.size)); clear hd5 hb5)
      go_roundw
      case rel => exact ⟨q + 1, A5, n5, c5, HLQ.out, by go_num, rfl, Lib.hid (by rw [HUT.out]; exact HD5.out), HB5⟩
      case measure => have := HLQ.out; simp [intOf]; omega
     ·obtain rfl : q = nk := by omega
      have e2 : x.ks.take q = x.ks := List.take_of_length_le (by have := HNK.out; omega)
      rw [e2] at HD9
      clear e2
      go_wp2_with fail
      go_roundw
      case rel => exact ⟨j + 1, A9, n9, c9, HLT.out, by go_num, rfl, Lib.hid (by rw [HTK.out]; exact HD9.out), Lib.hid (HZj.out.trans ((HBo8.out.trans (HZ9.out.mono HBo8.out.size)).mono HZj.out.size))⟩
      case measure => have := HLT.out; simp [intOf]; omega
  ·obtain rfl : j = n := by omega
   have e1 : (vs.map (·.1)).take j = vs.map (·.1) := List.take_of_length_le (by simp; have := HLN.out; omega)
   rw [e1] at HDj
   clear e1
   go_wp2
   go_ret
   exact ⟨A7, n7, c7, rfl, HDj.out, HZj.out⟩
end Go.Proofs.YtgnjjlgmlokhmaaGreatDoor
namespace Go.Proofs.YtgnjjlgmlokhmaaGreatDoor
open Go.RowKit

theorem upt_of {F : Nat -> Prop} {r : Nat} {w : World} {v ch : Bool} {x : D.Nd} {a b : Value} {U : List D.Nd -> List D.Du -> List D.Du} {kids : Bool -> List D.Nd -> Prop} (ho : D.okNd ch kids v x) (h : Bel (Kd F w r) F w x a b) (hkn : x.ks.length <= 1000)
  (hbd : ∀ q ∈ x.ks, ∀ N d, D.Bd N d -> D.Bd (N + (D.prL q).length) (U q d)) (hK : ∀ u q, q ∈ x.ks -> Kd F w r u q -> UsC U q (D.prL q).length u w) : Upt w U x a b := by
 obtain ⟨hBt, ⟨A1, n1, c1, rfl, hc1, r1⟩, B1, m1, e1, k1, rfl, _, r3, l1, _, g1⟩ := h
 have y1 := r1.row.len
 have y3 := r3.row.len
 rw [strs_len] at y1
 obtain rfl : n1 = x.ws.length := by omega
 obtain rfl : m1 = x.ks.length := by omega
 refine ⟨fun hk => ?_, hkn, hBt.2.2, hbd, A1, c1, B1, e1, k1, rfl, hc1, r1.weaken fun _ _ _ => trivial, rfl, r3.row, fun q u k hu hq => hK u k (List.mem_of_getElem? hq) (g1 q u k hu hq)⟩
 rcases ho with ⟨e, _⟩ | ⟨e, _⟩ | ⟨_, _, _, _, e⟩ | ⟨_, _, _, e, _⟩
 ·omega
 ·rw [e] at hk; simp [D.Nd.k] at hk
 ·exact D.pnm_rn e
 ·exact D.pnm_rn e
theorem uses_doc {F : Nat -> Prop} {w : World} : ∀ (r : Nat) {v : Bool} {a : Value} {l : List D.Nd}, Ms F w r a l -> D.Rt r v l -> (D.prL l).length <= 700 -> UsC (D.us r) l (D.prL l).length a w
 | 0, v, a, l, ha, hR, hz => by
  obtain ⟨A, n, c, vs, rfl, _, hr, hl, hx⟩ := (Ms_eq _ w 0 _ _).1 ha
  have h1 := hr.row.len
  rw [cls_len] at h1
  have h4 := D.len_le hR
  have h5 : l.length = vs.length := by rw [<- hl]; simp
  have hc : D.cL l <= (D.prL l).length := D.cL_le (ch := false) (v := v) (kids := fun _ _ => False) hR
  have := uses_row A n c vs w (fun _ d => d) (D.prL l).length hr.row (by omega) (fun j x p q h => ?_) (by rw [hl]; exact hc)
  ·rw [hl] at this
   exact this
  ·have hxl : l[j]? = some x := by rw [<- hl]; simp [h]
   have ho : D.okNd false (fun _ _ => False) v x := (D.okLs_at (N := D.okNd false (fun _ _ => False) v) hR hxl).1
   have hz1 := D.prL_mem (List.mem_of_getElem? hxl)
   obtain ⟨k1, k2⟩ := D.kids_le_ ho (by omega)
   exact upt_of ho (hx j x p q h).2.2 k2 (fun q hq N d hb => hb.up (by omega)) (fun u q _ h => h.elim)
 | r + 1, v, a, l, ha, hR, hz => by
  obtain ⟨A, n, c, vs, rfl, _, hr, hl, hx⟩ := (Ms_eq _ w (r + 1) _ _).1 ha
  have h1 := hr.row.len
  rw [cls_len] at h1
  have h4 := D.len_le hR
  have h5 : l.length = vs.length := by rw [<- hl]; simp
  have hc : D.cL l <= (D.prL l).length := D.cL_le (ch := true) (v := v) (kids := D.Rt r) hR
  have := uses_row A n c vs w (D.us r) (D.prL l).length hr.row (by omega) (fun j x p q h => ?_) (by rw [hl]; exact hc)
  ·rw [hl] at this
   exact this
  ·have hxl : l[j]? = some x := by rw [<- hl]; simp [h]
   have ho : D.okNd true (D.Rt r) v x := (D.okLs_at (N := D.okNd true (D.Rt r) v) hR hxl).1
   have hz1 := D.prL_mem (List.mem_of_getElem? hxl)
   obtain ⟨k1, k2⟩ := D.kids_le_ ho (by omega)
   have hkr : ∀ q ∈ x.ks, ∃ v', D.Rt r v' q := fun q hq => by
    rcases ho with ⟨_, _, _, e, _⟩ | ⟨e, _⟩ | ⟨_, _, _, e, _⟩ | ⟨_, _, _, _, _, _, _, e⟩
    ·rw [e] at hq; cases hq
    ·rw [e] at hq; cases hq
    ·rw [e] at hq; cases hq
    ·exact ⟨_, e q hq⟩
   refine upt_of ho (hx j x p q h).2.2 k2 (fun q hq N d hb => ?_) (fun u q hq hu => ?_)
   ·obtain ⟨v', h'⟩ := hkr q hq
    exact D.us_bd r h' hb
   ·obtain ⟨v', h'⟩ := hkr q hq
    have hzq := D.kid_len (r := 0) ho hq
    exact uses_doc r hu h' (by omega)
end Go.Proofs.YtgnjjlgmlokhmaaGreatDoor
namespace Go.Proofs.YtgnjjlgmlokhmaaGreatDoor.Nm
open Go.RowKit Go.Sort

structure On where
 n : Nat
 os : Array Obj
 deriving Inhabited
def ext (w : World) (p : On) : World := { w with heap := w.heap ++ p.os, drawn := p.n }
theorem ext_heap (w : World) (p : On) {k : Nat} (h : k < w.heap.size) : (ext w p).heap[k]? = w.heap[k]? := by simp [ext, Array.getElem?_append, h]
theorem ext_size (w : World) (p : On) : w.heap.size <= (ext w p).heap.size := by simp [ext]
theorem ext_below (w : World) (p : On) : Below w.heap.size w (ext w p) := ⟨rfl, rfl, rfl, ext_size w p, fun k hk => ext_heap w p hk⟩
theorem ext_of {w w' : World} (h : Below w.heap.size w w') : ∃ p, w' = ext w p := by
 obtain ⟨heap, tape, drawn, os, output⟩ := w
 obtain ⟨heap', tape', drawn', os', output'⟩ := w'
 obtain ⟨h1, h2, h3, h4, h5⟩ := h
 simp only at h1 h2 h3 h4 h5
 subst h1 h2 h3
 refine ⟨⟨drawn', heap'.extract heap.size heap'.size⟩, ?_⟩
 simp only [ext]
 congr 1
 apply Array.ext_getElem?
 intro i
 rw [Array.getElem?_append]
 by_cases hi : i < heap.size
 ·rw [if_pos hi]; exact h5 i hi
 ·rw [if_neg hi, Array.getElem?_extract]
  split
  ·congr 1; omega
  ·rw [Array.getElem?_eq_none (by omega)]
theorem ext_to {w w' : World} (h : ∃ p, w' = ext w p) : Below w.heap.size w w' := by
 obtain ⟨p, rfl⟩ := h
 exact ext_below w p
theorem wp_region_ext {P : Program} {id : Nat} {Q : Exit -> Act -> World -> Prop} {a : Act} {w : World} {l : List Oper} (hm : P.follows .mixedOrders = true) (hB : Region.lexB .any l.toArray = true)
  (h : wpQuiet P l.toArray (fun w' => ∃ p : On, w' = ext w p) (fun a' => ∀ w', (∃ p : On, w' = ext w p) -> Q .normal a' w') l a) : (Code.region id l.toArray true).wp P Q a w :=
 wp_region_quiet (C := fun w' => ∃ p : On, w' = ext w p) hm hB ⟨⟨w.drawn + 1, #[]⟩, by simp [ext]⟩ (by simpa using h)
theorem calls_ext {P : Program} {f : FuncId} {args : Array Value} {w : World} {p : On} {v : Value}
  (h : Calls P f args (ext w p) fun e w' => e = .returned v ∧ Below (ext w p).heap.size (ext w p) w') : Calls P f args (ext w p) fun e w'' => e = .returned v ∧ ∃ p : On, w'' = ext w p :=
 h.mono fun _ _ ⟨he, hb⟩ => ⟨he, ext_of ((ext_below w p).trans (hb.mono (ext_size w p)))⟩
theorem rd_ext (w : World) (p : On) (a : Addr) (h : a.block < w.heap.size) : rd (ext w p) a = rd w a := rd_to (ext_heap w p h)
theorem cell_ext (w : World) (p : On) (a : Addr) (h : a.block < w.heap.size) : (ext w p).cell? a = w.cell? a := World.cell?_of_block (ext_heap w p h)
end Go.Proofs.YtgnjjlgmlokhmaaGreatDoor.Nm
