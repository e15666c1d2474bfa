/-
  
-/
import Derived.Test.YtjlaffgbmcpldaaGreatDoorG12
import Derived.Test.YtjlaffgbmcpldaaGreatDoorG09
import Derived.Shelf.LaySoft
import Derived.Lib.AtoiOr
import Derived.Lib.AtoiErrMem
import Derived.Test.YtjlaffgbmcpldaaGreatDoorProg
import Derived.Test.YtjlaffgbmcpldaaGreatDoorG11
import Derived.WalkSpells
import Derived.WalkLawsBesides
import Derived.Handy
import Derived.BigQuiet
import Derived.Deep.QuietTactic
import Derived.Laws.BitsAllLaws
import Derived.Lib.Zigzag
import Derived.Laws.OwnMore
import Derived.IntWalk
import Derived.Deep.RegionHeld3
import Derived.Deep.RegionLaw
import Derived.Deep.DrawnRows
import Derived.Deep.AppendLies
import Derived.Lib.BytesEntry
import Derived.Lib.Hide
import Derived.Maps.AppendAt
import Derived.OneCell
import Derived.OwnWalk
import Derived.Test.YtjlaffgbmcpldaaGreatDoorG10
import Derived.Test.YtjlaffgbmcpldaaGreatDoorG07
import Derived.Test.YtjlaffgbmcpldaaGreatDoorRow
import Derived.Test.YtjlaffgbmcpldaaGreatDoorG08
set_option linter.unusedVariables false
set_option linter.unusedSimpArgs false
namespace Go.Proofs.YtjlaffgbmcpldaaGreatDoor
namespace D

structure Wt where
 k : Ky
 d : Bool
 r : Rc
deriving DecidableEq
def wwg (x : Wt) : Nat := if kright x.k = false ∨ (x.d = true ∧ x.r ≠ zRc) then 3 else if x.d = true then 0 else if chk x.r ≠ 0 then chk x.r else if x.r.k ≠ x.k.k then 16 else 0
def wck : List Ky → List Wt → Nat
 | _, [] => 0
 | ks, x :: l => if wwg x ≠ 0 then wwg x else if x.k ∈ ks then 8 else wck (ks ++ [x.k]) l
def sck (l : List Wt) : Nat := if l.length = 0 then 1 else if 16 < l.length then 2 else wck [] l
theorem wck_ok : ∀ {l : List Wt} {ks : List Ky}, wck ks l = 0 → (∀ x ∈ l, wwg x = 0 ∧ x.k ∉ ks) ∧ (l.map (·.k)).Nodup
 | [], ks, _ => ⟨by simp, by simp⟩
 | x :: l, ks, h => by
  rw [wck] at h
  split at h
  ·rename_i h1; exact absurd h h1
  ·rename_i h1
   split at h
   ·cases h
   ·rename_i h2
    obtain ⟨h3, h4⟩ := wck_ok h
    refine ⟨fun y hy => ?_, ?_⟩
    ·rcases List.mem_cons.1 hy with rfl | hy
     ·exact ⟨by simpa using h1, h2⟩
     ·exact ⟨(h3 y hy).1, fun e => (h3 y hy).2 (by simp [e])⟩
    ·rw [List.map_cons, List.nodup_cons]
     refine ⟨fun e => ?_, h4⟩
     obtain ⟨y, hy, e⟩ := List.mem_map.1 e
     exact (h3 y hy).2 (by simp [e])
theorem sck_ok {l : List Wt} (h : sck l = 0) : l ≠ [] ∧ l.length ≤ 16 ∧ (∀ x ∈ l, wwg x = 0) ∧ (l.map (·.k)).Nodup := by
 unfold sck at h
 split at h
 ·cases h
 ·rename_i h0
  split at h
  ·cases h
  ·obtain ⟨h1, h2⟩ := wck_ok h
   exact ⟨fun e => by subst e; exact h0 rfl, by omega, fun x hx => (h1 x hx).1, h2⟩
def fkd (x : Wt) (t : Nat) : Rc := if x.r.k = 4 ∧ x.r.a = 0 ∧ x.k.a ≠ 0 then { x.r with a := t } else x.r
def vof (x : Wt) (t : Nat) : Vn := ⟨t, x.d, fkd x t⟩
theorem rinse_a (r : Rc) (t : Nat) (h : r.k = 4) : rinse { r with a := t } = rinse r := by
 obtain ⟨k, s, u, p, m, g, v, a, tx⟩ := r
 simp only at h
 subst h
 rfl
theorem chk_a (r : Rc) (t : Nat) (h : r.k = 4) : chk { r with a := t } = chk r := by
 have h1 := rinse_a r t h
 have h2 : amiss { r with a := t } = amiss r := by
  obtain ⟨k, s, u, p, m, g, v, a, tx⟩ := r
  simp only at h
  subst h
  rfl
 unfold chk
 rw [h1, h2]
theorem fkd_chk (x : Wt) (t : Nat) : chk (fkd x t) = chk x.r := by
 unfold fkd
 split
 ·rename_i h; exact chk_a x.r t h.1
 ·rfl
theorem fkd_wf {x : Wt} {t : Nat} (h : x.r.wf) (ht : t < 18446744073709551616) : (fkd x t).wf := by
 unfold fkd
 split
 ·exact ⟨h.k, h.s, h.u, h.p, h.m, h.v, ht⟩
 ·exact h
theorem vof_wgh {x : Wt} (h : wwg x = 0) (t : Nat) : wgh (vof x t) = 0 := by
 unfold wwg at h
 split at h
 ·cases h
 ·rename_i h1
  simp only [not_or, not_and, ne_eq, Decidable.not_not] at h1
  unfold wgh vof
  simp only
  split at h
  ·rename_i h2
   have h3 := h1.2 h2
   rw [if_pos h2]
   have : fkd x t = zRc := by
    unfold fkd
    rw [h3, if_neg (by simp [zRc])]
   rw [if_pos this]
  ·rename_i h2
   rw [if_neg h2, fkd_chk]
   split at h
   ·rename_i h3; exact absurd h h3
   ·rename_i h3; simpa using h3
def kins (k : Ky) : List Ky → List Ky
 | [] => [k]
 | e :: l => if Cr.lt e k then e :: kins k l else if e = k then k :: l else k :: e :: l
theorem kins_mem {k : Ky} (x : Ky) : ∀ {l : List Ky}, x ∈ kins k l ↔ x = k ∨ x ∈ l
 | [] => by simp [kins]
 | e :: l => by
  rw [kins]
  split
  ·rw [List.mem_cons, kins_mem x, List.mem_cons]
   constructor
   ·rintro (h | h | h)
    ·exact .inr (.inl h)
    ·exact .inl h
    ·exact .inr (.inr h)
   ·rintro (h | h | h)
    ·exact .inr (.inl h)
    ·exact .inl h
    ·exact .inr (.inr h)
  ·split
   ·rename_i h; subst h; simp
   ·simp
abbrev Kup (l : List Ky) : Prop := l.Pairwise (fun a b => Cr.lt a b = true)
theorem Kup.ne {k : Ky} {l : List Ky} (h : Kup (k :: l)) : ∀ x ∈ l, x ≠ k := fun x hx e => by
 have := (List.pairwise_cons.1 h).1 x hx
 rw [e, Cr.lt_irr] at this; cases this
theorem kins_up {k : Ky} : ∀ {l : List Ky}, Kup l → Kup (kins k l)
 | [], _ => List.pairwise_singleton _ _
 | e :: l, h => by
  obtain ⟨h1, h2⟩ := List.pairwise_cons.1 h
  rw [kins]
  split
  ·rename_i hl
   refine List.pairwise_cons.2 ⟨fun x hx => ?_, kins_up h2⟩
   rcases (kins_mem x).1 hx with rfl | hx
   ·exact hl
   ·exact h1 x hx
  ·rename_i hl
   split
   ·rename_i he; subst he; exact h
   ·rename_i he
    have hk := Cr.lt_tot he (by simpa using hl)
    refine List.pairwise_cons.2 ⟨fun x hx => ?_, h⟩
    rcases List.mem_cons.1 hx with rfl | hx
    ·exact hk
    ·exact Cr.lt_trans hk (h1 x hx)
theorem kins_old {k : Ky} : ∀ {l : List Ky}, Kup l → k ∈ l → kins k l = l
 | e :: l, h, hk => by
  obtain ⟨h1, h2⟩ := List.pairwise_cons.1 h
  rw [kins]
  rcases List.mem_cons.1 hk with rfl | hk
  ·rw [if_neg (by simp [Cr.lt_irr]), if_pos rfl]
  ·rw [if_pos (h1 k hk), kins_old h2 hk]
theorem kins_new {k : Ky} : ∀ {l : List Ky}, k ∉ l → (kins k l).Perm (k :: l)
 | [], _ => List.Perm.refl _
 | e :: l, h => by
  simp only [List.mem_cons, not_or] at h
  rw [kins]
  split
  ·exact (List.Perm.cons e (kins_new h.2)).trans (List.Perm.swap k e l)
  ·rw [if_neg (fun e => h.1 e.symm)]
theorem kins_len (k : Ky) : ∀ (l : List Ky), (kins k l).length ≤ l.length + 1
 | [] => by simp [kins]
 | e :: l => by
  rw [kins]
  have := kins_len k l
  split
  ·simp only [List.length_cons]; omega
  ·split <;> simp
theorem Kup.nodup {l : List Ky} (h : Kup l) : l.Nodup := h.imp fun {a b} hab e => by rw [e, Cr.lt_irr] at hab; cases hab
structure Sm where
 f : Ky → List Vn
 ks : List Ky
 last : Nat
def Sm.zero : Sm := ⟨fun _ => [], [], 0⟩
def lvn (l : List Vn) : Bool := match l.getLast? with
 | none => false
 | some v => !v.d
theorem lvn_snoc (l : List Vn) (v : Vn) : lvn (l ++ [v]) = !v.d := by simp [lvn]
def Sm.live (M : Sm) : Nat := M.ks.countP fun k => lvn (M.f k)
structure Sm.wf (M : Sm) : Prop where
 up : Kup M.ks
 mem : ∀ k, k ∈ M.ks ↔ M.f k ≠ []
 srt : ∀ k, Srt (M.f k)
 vw : ∀ k, ∀ v ∈ M.f k, v.wf ∧ v.a ≤ M.last
theorem Sm.zero_wf : Sm.zero.wf := ⟨List.Pairwise.nil, fun k => by simp [Sm.zero], fun k => Srt.nil, fun k v hv => by simp [Sm.zero] at hv⟩
theorem Sm.wf.none {M : Sm} (h : M.wf) {k : Ky} (hk : k ∉ M.ks) : M.f k = [] := by
 by_cases e : M.f k = []
 ·exact e
 ·exact absurd ((h.mem k).2 e) hk
theorem Srt.len {l : List Vn} (h : Srt l) {t : Nat} (ht : ∀ v ∈ l, v.a ≤ t) : l.length ≤ t := by
 have key : ∀ i (hi : i < l.length), i + 1 ≤ (l[i]'hi).a := by
  intro i
  induction i with
  | zero => intro hi; exact h.one _ (List.getElem_mem _)
  | succ i ih =>
   intro hi
   have h1 := ih (by omega)
   have h2 := List.pairwise_iff_getElem.1 h.up i (i + 1) (by omega) hi (by omega)
   omega
 by_cases h0 : l.length = 0
 ·omega
 ·have h1 := key (l.length - 1) (by omega)
  have h2 := ht _ (List.getElem_mem (show l.length - 1 < l.length by omega))
  omega
theorem Sm.wf.len {M : Sm} (h : M.wf) (k : Ky) : (M.f k).length ≤ M.last := (h.srt k).len fun v hv => (h.vw k v hv).2
theorem Sm.wf.nwt {M : Sm} (h : M.wf) (k : Ky) : nwt (M.f k) ≤ M.last := by
 unfold D.nwt
 cases hl : (M.f k).getLast? with
 | none => exact Nat.zero_le _
 | some v => exact (h.vw k v (List.mem_of_getLast? hl)).2
def Sm.put (M : Sm) (x : Wt) : Sm := ⟨fun y => if y = x.k then M.f y ++ [vof x M.last] else M.f y, kins x.k M.ks, M.last⟩
theorem Sm.put_at (M : Sm) (x : Wt) : (M.put x).f x.k = M.f x.k ++ [vof x M.last] := if_pos rfl
theorem Sm.put_ne (M : Sm) (x : Wt) {y : Ky} (h : y ≠ x.k) : (M.put x).f y = M.f y := if_neg h
def Sm.puts (M : Sm) (l : List Wt) : Sm := l.foldl Sm.put M
theorem Sm.puts_last (M : Sm) : ∀ (l : List Wt), (M.puts l).last = M.last := fun l => by
 induction l generalizing M with
 | nil => rfl
 | cons x l ih => exact ih (M.put x)
theorem Sm.puts_snoc (M : Sm) (l : List Wt) (x : Wt) : M.puts (l ++ [x]) = (M.puts l).put x := by simp [Sm.puts]
def Sm.tick (M : Sm) : Sm := ⟨M.f, M.ks, M.last + 1⟩
theorem Sm.tick_wf {M : Sm} (h : M.wf) : M.tick.wf := ⟨h.up, h.mem, h.srt, fun k v hv => ⟨(h.vw k v hv).1, Nat.le_succ_of_le (h.vw k v hv).2⟩⟩
def Sm.app (M : Sm) (l : List Wt) : Sm := M.tick.puts l
theorem Sm.app_last (M : Sm) (l : List Wt) : (M.app l).last = M.last + 1 := Sm.puts_last _ _
theorem per_of {l : List Vn} {x : Wt} {t : Nat} (h : wwg x = 0) (hn : D.nwt l < t) : per l (vof x t) = 0 := by
 unfold per
 rw [if_neg (by simp [vof_wgh h]), if_neg (by show ¬ t ≤ _; omega)]
theorem Sm.put_wf {M : Sm} {x : Wt} (h : M.wf) (hx : wwg x = 0) (hr : x.r.wf) (hn : D.nwt (M.f x.k) < M.last) (hl : M.last < 18446744073709551616) : (M.put x).wf := by
 refine ⟨kins_up h.up, fun k => ?_, fun k => ?_, fun k v hv => ?_⟩
 ·show k ∈ kins x.k M.ks ↔ _
  rw [kins_mem]
  by_cases e : k = x.k
  ·subst e; rw [Sm.put_at]; simp
  ·rw [Sm.put_ne _ _ e, h.mem k]; simp [e]
 ·by_cases e : k = x.k
  ·subst e; rw [Sm.put_at]; exact (h.srt _).snoc (per_of hx hn)
  ·rw [Sm.put_ne _ _ e]; exact h.srt k
 ·by_cases e : k = x.k
  ·subst e
   rw [Sm.put_at] at hv
   rcases List.mem_append.1 hv with hv | hv
   ·exact h.vw _ v hv
   ·simp only [List.mem_singleton] at hv
    subst hv
    exact ⟨⟨hl, fkd_wf hr hl⟩, Nat.le_refl _⟩
  ·rw [Sm.put_ne _ _ e] at hv; exact h.vw k v hv
structure Rts (M : Sm) (l : List Wt) : Prop where
 ok : ∀ x ∈ l, wwg x = 0
 rw : ∀ x ∈ l, x.r.wf
 nd : (l.map (·.k)).Nodup
 nw : ∀ x ∈ l, D.nwt (M.f x.k) < M.last
theorem Rts.next {M : Sm} {x : Wt} {l : List Wt} (h : Rts M (x :: l)) : Rts (M.put x) l := by
 have hn := h.nd
 rw [List.map_cons, List.nodup_cons] at hn
 refine ⟨fun y hy => h.ok y (by simp [hy]), fun y hy => h.rw y (by simp [hy]), hn.2, fun y hy => ?_⟩
 rw [Sm.put_ne _ _ (fun e => hn.1 (by rw [← e]; exact List.mem_map_of_mem hy))]
 exact h.nw y (by simp [hy])
theorem Sm.puts_wf : ∀ {l : List Wt} {M : Sm}, M.wf → Rts M l → M.last < 18446744073709551616 → (M.puts l).wf
 | [], M, h, _, _ => h
 | x :: l, M, h, hr, hl => Sm.puts_wf (M := M.put x) (Sm.put_wf h (hr.ok x (by simp)) (hr.rw x (by simp)) (hr.nw x (by simp)) hl) hr.next hl
theorem Sm.wf.rts {M : Sm} (h : M.wf) {l : List Wt} (hs : sck l = 0) (hr : ∀ x ∈ l, x.r.wf) : Rts M.tick l := by
 obtain ⟨_, _, h1, h2⟩ := sck_ok hs
 exact ⟨h1, hr, h2, fun x _ => Nat.lt_succ_of_le (h.nwt x.k)⟩
theorem Sm.app_wf {M : Sm} {l : List Wt} (h : M.wf) (hs : sck l = 0) (hr : ∀ x ∈ l, x.r.wf) (hl : M.last + 1 < 18446744073709551616) : (M.app l).wf := Sm.puts_wf (Sm.tick_wf h) (h.rts hs hr) hl
theorem Sm.puts_len : ∀ (l : List Wt) (M : Sm), (M.puts l).ks.length ≤ M.ks.length + l.length
 | [], M => by simp [Sm.puts]
 | x :: l, M => by
  have h1 := Sm.puts_len l (M.put x)
  have h2 := kins_len x.k M.ks
  have h3 : (M.puts (x :: l)) = (M.put x).puts l := rfl
  have h4 : (M.put x).ks = kins x.k M.ks := rfl
  rw [h3]
  rw [h4] at h1
  simp only [List.length_cons]
  omega
def dlt (M : Sm) (x : Wt) : Int := if lvn (M.f x.k) = true ∧ x.d = true then -1 else if lvn (M.f x.k) = false ∧ x.d = false then 1 else 0
def grw (M : Sm) (l : List Wt) : Int := l.foldl (fun n x => n + dlt M x) (M.live : Int)
def grs (M : Sm) (l : List Wt) : Int := (l.map (dlt M)).sum
theorem grw_eq (M : Sm) (l : List Wt) : grw M l = M.live + grs M l := by
 have key : ∀ (l : List Wt) (n : Int), l.foldl (fun n x => n + dlt M x) n = n + (l.map (dlt M)).sum := by
  intro l
  induction l with
  | nil => intro n; simp
  | cons x l ih => intro n; simp only [List.foldl_cons, List.map_cons, List.sum_cons]; rw [ih]; omega
 exact key l _
theorem grw_snoc (M : Sm) (l : List Wt) (x : Wt) : grw M (l ++ [x]) = grw M l + dlt M x := by simp [grw]
theorem dlt_bd (M : Sm) (x : Wt) : -1 ≤ dlt M x ∧ dlt M x ≤ 1 := by unfold dlt; split <;> (try split) <;> omega
theorem grs_bd (M : Sm) : ∀ l : List Wt, -(l.length : Int) ≤ grs M l ∧ grs M l ≤ l.length
 | [] => by simp [grs]
 | x :: l => by
  have h := grs_bd M l
  have h1 := dlt_bd M x
  unfold grs at h ⊢
  simp only [List.map_cons, List.sum_cons, List.length_cons]
  omega
theorem countP_upd {l : List Ky} (hn : l.Nodup) {p q : Ky → Bool} {k : Ky} (h : ∀ y, y ≠ k → p y = q y) : k ∈ l → (l.countP q : Int) = l.countP p + ((if q k then 1 else 0) - (if p k then 1 else 0)) := by
 induction l with
 | nil => intro h; cases h
 | cons a l ih =>
  intro hk
  obtain ⟨h1, h2⟩ := List.nodup_cons.1 hn
  rw [List.countP_cons, List.countP_cons]
  by_cases e : a = k
  ·subst e
   have : l.countP q = l.countP p := List.countP_congr fun y hy => by rw [h y (fun e => h1 (by rw [← e]; exact hy))]
   rw [this]
   split <;> split <;> omega
  ·rw [h a e]
   have hk2 : k ∈ l := by
    rcases List.mem_cons.1 hk with rfl | hk
    ·exact absurd rfl e
    ·exact hk
   have := ih h2 hk2
   split <;> omega
theorem Sm.put_live {M : Sm} (h : M.wf) (x : Wt) : ((M.put x).live : Int) = M.live + dlt M x := by
 have e1 : (M.put x).f x.k = M.f x.k ++ [vof x M.last] := Sm.put_at M x
 have hv : (vof x M.last).d = x.d := rfl
 have hne : ∀ y, y ≠ x.k → (fun k => lvn (M.f k)) y = (fun k => lvn ((M.put x).f k)) y := fun y hy => by simp only [Sm.put_ne M x hy]
 have hq : (fun k => lvn ((M.put x).f k)) x.k = !x.d := by simp only [e1, lvn_snoc, hv]
 by_cases hk : x.k ∈ M.ks
 ·have := countP_upd h.up.nodup hne hk
  have e : (M.put x).ks = M.ks := kins_old h.up hk
  unfold Sm.live
  rw [e, this]
  simp only [] at hq
  rw [hq]
  unfold dlt
  cases lvn (M.f x.k) <;> cases x.d <;> simp
 ·have e := kins_new hk
  have hl : lvn (M.f x.k) = false := by rw [h.none hk]; rfl
  have e2 : (M.put x).ks.countP (fun k => lvn ((M.put x).f k)) = (x.k :: M.ks).countP (fun k => lvn ((M.put x).f k)) := e.countP_eq _
  unfold Sm.live
  rw [e2, List.countP_cons]
  have e3 : M.ks.countP (fun k => lvn ((M.put x).f k)) = M.ks.countP (fun k => lvn (M.f k)) := List.countP_congr fun y hy => by have := hne y (fun e => hk (by rw [← e]; exact hy)); simp only [] at this; rw [this]
  rw [e3]
  have hq2 : lvn ((M.put x).f x.k) = !x.d := hq
  rw [hq2]
  unfold dlt
  rw [hl]
  cases x.d <;> simp
theorem dlt_put {M : Sm} {x y : Wt} (h : y.k ≠ x.k) : dlt (M.put x) y = dlt M y := by unfold dlt; rw [Sm.put_ne M x h]
theorem Sm.puts_live : ∀ {l : List Wt} {M : Sm}, M.wf → Rts M l → M.last < 18446744073709551616 → ((M.puts l).live : Int) = M.live + grs M l
 | [], M, _, _, _ => by simp [Sm.puts, grs]
 | x :: l, M, h, hr, hl => by
  have hw := Sm.put_wf h (hr.ok x (by simp)) (hr.rw x (by simp)) (hr.nw x (by simp)) hl
  have ih := Sm.puts_live hw hr.next hl
  have h1 := Sm.put_live h x
  have hn := hr.nd
  rw [List.map_cons, List.nodup_cons] at hn
  have e : grs (M.put x) l = grs M l := by
   unfold grs
   congr 1
   exact List.map_congr_left fun y hy => dlt_put fun e => hn.1 (by rw [← e]; exact List.mem_map_of_mem hy)
  show (((M.put x).puts l).live : Int) = _
  rw [ih, h1, e]
  simp only [grs, List.map_cons, List.sum_cons]
  omega
theorem Sm.app_live {M : Sm} {l : List Wt} (h : M.wf) (hs : sck l = 0) (hr : ∀ x ∈ l, x.r.wf) (hl : M.last + 1 < 18446744073709551616) : ((M.app l).live : Int) = grw M l := by
 rw [grw_eq]
 exact Sm.puts_live (Sm.tick_wf h) (h.rts hs hr) hl
def Sm.err (M : Sm) (l : List Wt) : Nat := if sck l ≠ 0 then sck l else if 200 < grw M l then 6 else 0
def Sm.pub (M : Sm) (l : List Wt) : Sm := if M.err l = 0 then M.app l else M
def Sm.time (M : Sm) (l : List Wt) : Nat := if M.err l = 0 then M.last + 1 else 0
theorem Sm.err_ok {M : Sm} {l : List Wt} (h : M.err l = 0) : sck l = 0 ∧ grw M l ≤ 200 := by
 unfold Sm.err at h
 split at h
 ·rename_i h1; exact absurd h h1
 ·rename_i h1
  split at h
  ·cases h
  ·exact ⟨by simpa using h1, by omega⟩
theorem Kup.ext {l m : List Ky} (h : Kup l) (k : Kup m) (e : ∀ x, x ∈ l ↔ x ∈ m) : l = m := by
 refine List.Perm.eq_of_pairwise (fun a b _ _ h1 h2 => ?_) h k ((List.perm_ext_iff_of_nodup h.nodup k.nodup).2 e)
 rw [Cr.lt_asym h1] at h2; cases h2
def Sm.vers (M : Sm) (q : Px) : Nat := ((M.ks.filter fun k => has q.x q.d k).map fun k => (M.f k).length).sum
def Sm.all (M : Sm) : Nat := (M.ks.map fun k => (M.f k).length).sum
theorem Sm.puts_out : ∀ (l : List Wt) (M : Sm) {k : Ky}, (∀ x ∈ l, x.k ≠ k) → (M.puts l).f k = M.f k
 | [], M, k, _ => rfl
 | x :: l, M, k, h => (Sm.puts_out l (M.put x) fun y hy => h y (by simp [hy])).trans (Sm.put_ne M x fun e => h x (by simp) e.symm)
theorem Sm.puts_in : ∀ {l : List Wt} (M : Sm), (l.map (·.k)).Nodup → ∀ x ∈ l, (M.puts l).f x.k = M.f x.k ++ [vof x M.last]
 | y :: l, M, hn, x, hx => by
  rw [List.map_cons, List.nodup_cons] at hn
  rcases List.mem_cons.1 hx with rfl | hx
  ·show ((M.put x).puts l).f x.k = _
   rw [Sm.puts_out l (M.put x) fun z hz e => hn.1 (by rw [← e]; exact List.mem_map_of_mem hz), Sm.put_at]
  ·show ((M.put y).puts l).f x.k = _
   rw [Sm.puts_in (M.put y) hn.2 x hx, Sm.put_ne M y fun e => hn.1 (by rw [← e]; exact List.mem_map_of_mem hx)]
   rfl
theorem Sm.app_in {M : Sm} {l : List Wt} (hs : sck l = 0) {x : Wt} (hx : x ∈ l) : (M.app l).f x.k = M.f x.k ++ [vof x (M.last + 1)] := Sm.puts_in M.tick (sck_ok hs).2.2.2 x hx
end D
end Go.Proofs.YtjlaffgbmcpldaaGreatDoor
namespace Go.Proofs.YtjlaffgbmcpldaaGreatDoor
open Go.RowKit Go.Shelf

theorem cell_kept_ {w w' : World} (hb : Below w.heap.size w w') {a : Addr} {v : Value} (h : w.cell? a = some v) : w'.cell? a = some v := (World.cell?_of_block (hb.block _ (World.block_lt_of_cell? w _ h))).trans h
end Go.Proofs.YtjlaffgbmcpldaaGreatDoor
namespace Go.Proofs.YtjlaffgbmcpldaaGreatDoor
open Go.RowKit

theorem cast_div_pow (x n : Nat) : (x : Int) / 2 ^ n = ((x / 2 ^ n : Nat) : Int) := by simp
end Go.Proofs.YtjlaffgbmcpldaaGreatDoor
set_option maxRecDepth 100000
namespace Go.Proofs.YtjlaffgbmcpldaaGreatDoor
open Go.RowKit

structure Only (S : Nat → Prop) (w w' : World) : Prop where
 os : w'.os = w.os
 tape : w'.tape = w.tape
 output : w'.output = w.output
 size : w.heap.size ≤ w'.heap.size
 block : ∀ i, i < w.heap.size → ¬ S i → w'.heap[i]? = w.heap[i]?
section
variable {S T : Nat → Prop} {a b c w w' : World}
theorem Only.self (S : Nat → Prop) (w : World) : Only S w w := ⟨rfl, rfl, rfl, Nat.le_refl _, fun _ _ _ => rfl⟩
theorem Only.trans (h : Only S a b) (k : Only T b c) (hT : ∀ i, T i → S i ∨ a.heap.size ≤ i) : Only S a c :=
 ⟨k.os.trans h.os, k.tape.trans h.tape, k.output.trans h.output, Nat.le_trans h.size k.size, fun i hi hS =>
  (k.block i (Nat.lt_of_lt_of_le hi h.size) (fun t => (hT i t).elim hS (fun h => absurd hi (Nat.not_lt.2 h)))).trans (h.block i hi hS)⟩
theorem Only.more (h : Only S a b) (hT : ∀ i, S i → T i) : Only T a b := ⟨h.os, h.tape, h.output, h.size, fun i hi hS => h.block i hi fun s => hS (hT i s)⟩
theorem only_below (h : Below w.heap.size w w') : Only S w w' := ⟨h.os, h.tape, h.output, h.size, fun i hi _ => h.block i hi⟩
theorem Only.on (h : Only S a b) (k : Below b.heap.size b c) : Only S a c := h.trans (T := fun _ => False) (only_below k) fun _ hf => hf.elim
theorem Only.off (h : Below a.heap.size a b) (k : Only S b c) : Only S a c := (only_below (S := S) h).trans k fun _ hs => .inl hs
theorem Only.below {B : Nat} (h : Only S w w') (hB : B ≤ w.heap.size) (hS : ∀ i, S i → B ≤ i) : Below B w w' :=
 ⟨h.os, h.tape, h.output, h.size, fun i hi => h.block i (Nat.lt_of_lt_of_le hi hB) fun s => absurd hi (Nat.not_lt.2 (hS i s))⟩
theorem Only.set {p : Addr} (h : Only S a b) (hp : S p.block ∨ a.heap.size ≤ p.block) (u : Value) : Only S a (b.setCell p u) :=
 ⟨h.os, h.tape, h.output, by simpa [World.setCell] using h.size, fun i hi hS => (Below.heap_setCell b p u i (by
  rintro rfl
  rcases hp with hp | hp
  ·exact hS hp
  ·omega)).trans (h.block i hi hS)⟩
theorem Only.grown {row : Option Nat} (h : Only S a b) (hg : b.grownBy c row) (hr : ∀ k, row = some k → S k ∨ a.heap.size ≤ k) : Only S a c :=
 h.trans (T := fun i => row = some i) ⟨hg.os, hg.tape, hg.output, hg.size, fun i hi hn => hg.block i hi (fun e => hn e.symm)⟩ fun i hi => hr i hi
theorem Only.alloc (h : Only S a b) (o : Obj) : Only S a (b.alloc o) := h.on ((Below.refl _ _).alloc (Nat.le_refl _) o)
theorem Only.drewN (h : Only S a b) (n : Nat) : Only S a (b.drewN n) := ⟨h.os, h.tape, h.output, h.size, h.block⟩
theorem Blk.only {g : Nat} {t : TypeId} {cs : Array Value} (h : Blk w g t cs) (k : Only S w w') (hg : ¬ S g) : Blk w' g t cs := ⟨(k.block g h.lt hg).trans h.out⟩
theorem Row.only {A : Option Addr} {n : Nat} {xs : List Value} (h : Row w A n xs) (k : Only S w w') (hA : ∀ ad, A = some ad → ¬ S ad.block) : Row w' A n xs := ⟨h.len, fun hn => by
 obtain ⟨ad, e, hl, hc⟩ := h.tow hn
 refine ⟨ad, e, Nat.lt_of_lt_of_le hl k.size, fun j u hu => ?_⟩
 have : (ad.add j).block = ad.block := block_of_add ad j
 rw [← hc j u hu]
 exact World.cell?_of_block (w := w) (by rw [this]; exact k.block _ hl (hA ad e))⟩
end

def at_ (A : Option Addr) (i : Nat) : Prop := ∃ ad, A = some ad ∧ ad.block = i
theorem own_at {n c k : Nat} {A : Option Addr} (h : (Value.slice A n c).ownBlock = some k) : at_ A k := by
 cases A with
 | none => simp [Value.ownBlock] at h
 | some ad => exact ⟨ad, rfl, by simpa [Value.ownBlock] using h⟩
theorem at_own {n c k : Nat} {A : Option Addr} (h : at_ A k) : (Value.slice A n c).ownBlock = some k := by
 obtain ⟨ad, rfl, rfl⟩ := h
 simp [Value.ownBlock]

def Wf (p : Nat) (A : Option Addr) (i : Nat) : Prop := i = p ∨ at_ A i
def Nx (H : Nat) (A A' : Option Addr) : Prop := ∀ i, at_ A' i → at_ A i ∨ H ≤ i
theorem Nx.self (H : Nat) (A : Option Addr) : Nx H A A := fun i h => .inl h
theorem Nx.trans {H H' : Nat} {A A' B : Option Addr} (h : Nx H A A') (k : Nx H' A' B) (hH : H ≤ H') : Nx H A B := fun i hi => (k i hi).elim (fun h' => h i h') (fun h' => .inr (Nat.le_trans hH h'))
section
variable {base p n c room : Nat} {w w' : World} {A A' : Option Addr} {s : D.St}
end
end Go.Proofs.YtjlaffgbmcpldaaGreatDoor
