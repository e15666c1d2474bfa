/-
  
-/
import Derived.Test.YtgnjjlgmlokhmaaGreatDoorG16
import Derived.Test.YtgnjjlgmlokhmaaGreatDoorG11
set_option linter.unusedVariables false
set_option linter.unusedSimpArgs false
set_option maxRecDepth 100000
namespace Go.Proofs.YtgnjjlgmlokhmaaGreatDoor
open Go.RowKit
attribute [local go_sem ↓] Go.wp_at_zero Go.wp_at_succ Nm.ld_a Nm.ld_n Nm.st_a Nm.st_n Nm.lv_a Nm.lv_n
attribute [local go_sem] Nm.run_ld_a Nm.run_ld_n Nm.run_lv_a Nm.run_lv_n Nm.rd_new Nm.rd_old Nm.rd_drew Nm.rd_drewN Nm.st_z

theorem blanks_any (s : ByteArray) (g a e : Nat) (w : World) (h : Rdr w g s a e) (ha : a <= s.size) (hs : s.size <= 1000) :
  Calls Tryz.prog 72 #[vr g] w fun x w' => x = .returned (.tuple #[]) ∧ Rdr w' g s (D.wf (· == 32) (D.ns s) a e) e ∧ Fr (· = g) w w' := by
 have cW := Lib.hid (while_blank s g a e w h ha hs)
 obtain ⟨Q, hQ⟩ : ∃ Q, D.wf (· == 32) (D.ns s) a e = Q := ⟨_, rfl⟩
 obtain ⟨u, hu⟩ : ∃ u, D.sb (D.sub (D.ns s) a Q) = u := ⟨_, rfl⟩
 rw [hQ] at cW ⊢
 rw [hu] at cW
 clear h hQ hu
 go_enter Tryz.func72, Tryz.ntmps72
 go_wp2_with (go_at_call 26; (with_reducible refine cW.out.mono ?_); rintro y w1 ⟨rfl, h1, f1⟩)
 go_end0
 exact ⟨rfl, h1, f1⟩
theorem D.tk_le {l : List Nat} {c a e : Nat} (hc : c ≠ 0) (h : a <= l.length) : (D.tk l c a e).1 <= l.length := by
 unfold D.tk
 split
 ·rename_i hn
  show a + 1 <= l.length
  unfold D.nb at hn
  split at hn
  ·by_cases hk : a < l.length
   ·omega
   ·rw [List.getD, List.getElem?_eq_none (by omega)] at hn
    exact absurd hn.symm hc
  ·exact absurd hn.symm hc
 ·unfold D.fl
  split <;> exact h
theorem D.tk_dead {l : List Nat} {c a e : Nat} (hc : c ≠ 0) (h : e ≠ 0) : D.tk l c a e = (a, e) := by
 unfold D.tk
 rw [D.nb_dead h, if_neg (Ne.symm hc), D.fl, if_neg h]
theorem D.tk_live {l : List Nat} {c a : Nat} (h : l[a]? = some c) : D.tk l c a 0 = (a + 1, 0) := by
 unfold D.tk
 rw [D.nb_live, List.getD, h]
 exact if_pos rfl
theorem D.tk_not {l : List Nat} {c a : Nat} (hc : c ≠ 0) (h : l[a]? ≠ some c) : D.tk l c a 0 = (a, 3) := by
 unfold D.tk
 rw [D.nb_live, List.getD]
 rw [if_neg ?_]
 ·rfl
 ·cases hx : l[a]? with
  | none => exact Ne.symm hc
  | some y => rw [hx] at h; exact fun e => h (by rw [<- e]; rfl)
theorem D.wf_dead {p : Nat -> Bool} {l : List Nat} {a e : Nat} (h : e ≠ 0) : D.wf p l a e = a := if_neg h
theorem D.wf_live {p : Nat -> Bool} {l : List Nat} {a : Nat} : D.wf p l a 0 = D.far p l a := if_pos rfl
def D.cm (l : List Nat) (a e : Nat) : Nat × Nat := (D.wf (· == 32) l (D.tk l 44 a e).1 (D.tk l 44 a e).2, (D.tk l 44 a e).2)
theorem comma_any (s : ByteArray) (g a e : Nat) (w : World) (h : Rdr w g s a e) (ha : a <= s.size) (hs : s.size <= 1000) :
  Calls Tryz.prog 47 #[vr g] w fun x w' => x = .returned (.tuple #[]) ∧ Rdr w' g s (D.cm (D.ns s) a e).1 (D.cm (D.ns s) a e).2 ∧ Fr (· = g) w w' := by
 have cT := Lib.hid (take_any s g a e 44 w h ha hs (by decide) 44 rfl)
 have hle := D.tk_le (l := D.ns s) (c := 44) (a := a) (e := e) (by decide) (by rw [D.ns_len]; exact ha)
 rw [D.ns_len] at hle
 unfold D.cm
 have cB := fun W (hW : Rdr W g s (D.tk (D.ns s) 44 a e).1 (D.tk (D.ns s) 44 a e).2) => blanks_any s g _ _ W hW hle hs
 obtain ⟨p, hp⟩ : ∃ p, D.tk (D.ns s) 44 a e = p := ⟨_, rfl⟩
 rw [hp] at cT cB ⊢
 obtain ⟨b, f⟩ := p
 simp only at cT cB ⊢
 have CB := Lib.hid cB
 clear hp hle cB h
 go_enter Tryz.func47, Tryz.ntmps47
 go_wp2_with (first
  | (go_at_call 24; (with_reducible refine cT.out.mono ?_); rintro y w1 ⟨rfl, h1_, f1_⟩; have HR1 := Lib.hid h1_; have HF1 := Lib.hid f1_; clear h1_ f1_)
  | (go_at_call 72; (with_reducible refine (CB.out _ HR1.out).mono ?_); rintro y w2 ⟨rfl, h2, f2⟩))
 go_end0
 exact ⟨rfl, h2, HF1.out.step f2⟩
def D.nx (a K F : Nat) : Nat × Nat := if K = a then (a, 3) else (if F = 0 then K else a, F)
def D.nmR (t : List Nat) : Nm.D.Nm := if t = [] then Nm.D.zero else D.nmV t
theorem sub_ex {l : List Nat} {a K : Nat} (h : K ≠ a) (h1 : a <= K) (h2 : K <= l.length) : D.sub l a K ≠ [] := sub_ne (by omega) h2
theorem rname_any (s : ByteArray) (g a : Nat) (w : World) (h : Rdr w g s a 0) (ha : a <= s.size) (hs : s.size <= 1000) :
  Calls Tryz.prog 46 #[vr g] w fun x w' => x = .returned (.agg (Nm.nc (D.nmR (D.sub (D.ns s) a (D.far D.wdB (D.ns s) a))))) ∧
   Rdr w' g s (D.nx a (D.far D.wdB (D.ns s) a) (D.nmE (D.sub (D.ns s) a (D.far D.wdB (D.ns s) a)))).1 (D.nx a (D.far D.wdB (D.ns s) a) (D.nmE (D.sub (D.ns s) a (D.far D.wdB (D.ns s) a)))).2 ∧ Fr (· = g) w w' := by
 have hlen := D.ns_len s
 have hgl := h.lt
 have cW := word_name s g a w.heap.size Nm.D.zero (w.alloc (.cells (Nm.nc Nm.D.zero) 39)) (h.on (below_alloc_ _ _)) ha hs (Blk.new w _ _) (by omega)
 have hF : Fr (· = g) w (w.alloc (.cells (Nm.nc Nm.D.zero) 39)) := (Fr.refl _ _).alloc _
 have hsz : (w.alloc (.cells (Nm.nc Nm.D.zero) 39)).heap.size = w.heap.size + 1 := by simp
 obtain ⟨l, hl⟩ : ∃ l, D.ns s = l := ⟨_, rfl⟩
 rw [hl] at cW hlen ⊢
 obtain ⟨K, hK⟩ : ∃ K, D.far D.wdB l a = K := ⟨_, rfl⟩
 have hK1 : a <= K := hK ▸ D.far_ge _ _ _
 have hK2 : K <= l.length := hK ▸ D.far_le (by rw [hlen]; exact ha)
 rw [hK] at cW ⊢
 obtain ⟨u, hu⟩ : ∃ u, u = (if K = a then (⟨#[]⟩ : ByteArray) else D.sb (D.sub l a K)) := ⟨_, rfl⟩
 have key : Calls Tryz.prog 69 #[vr g, .func (.func 70) #[] #[vr w.heap.size]] (w.alloc (.cells (Nm.nc Nm.D.zero) 39)) fun x w' => x = .returned (.string u) ∧
   Rdr w' g s (D.nx a K (D.nmE (D.sub l a K))).1 (D.nx a K (D.nmE (D.sub l a K))).2 ∧ Blk w' w.heap.size 39 (Nm.nc (D.nmR (D.sub l a K))) ∧ Fr (fun i => i = g ∨ i = w.heap.size) (w.alloc (.cells (Nm.nc Nm.D.zero) 39)) w' := by
  refine cW.mono fun x w' ⟨f, p, q⟩ => ?_
  by_cases hq : K = a
  ·obtain ⟨e, h1, h2⟩ := p hq
   refine ⟨by rw [e, hu, if_pos hq], ?_, ?_, f⟩
   ·rw [D.nx, if_pos hq]; exact h1
   ·subst hq; rw [sub_nil, D.nmR, if_pos rfl]; exact h2
  ·obtain ⟨e, h1, h2⟩ := q hq
   refine ⟨by rw [e, hu, if_neg hq], ?_, ?_, f⟩
   ·rw [D.nx, if_neg hq]; exact h1
   ·rw [D.nmR, if_neg (sub_ex hq hK1 hK2)]; exact h2
 obtain ⟨p, hp⟩ : ∃ p, D.nx a K (D.nmE (D.sub l a K)) = p := ⟨_, rfl⟩
 obtain ⟨m, hm⟩ : ∃ m, D.nmR (D.sub l a K) = m := ⟨_, rfl⟩
 rw [hp, hm] at key ⊢
 obtain ⟨b, f⟩ := p
 simp only at key ⊢
 rw [Nm.nc_zero] at key hF hsz
 have KEY := Lib.hid key
 have HF := Lib.hid hF
 clear key hF hp hm hu cW hK hl hK1 hK2 hlen h
 go_enter Tryz.func46, Tryz.ntmps46
 go_wp2_with (go_at_call 69; (with_reducible refine KEY.out.mono ?_); rintro y w1 ⟨rfl, h1_, b1_, f1_⟩; have HR1 := Lib.hid h1_; have HF1 := Lib.hid f1_; have hrd := Nm.rd_blk b1_; obtain ⟨w9, hst, B9, hg9⟩ := Nm.st_blk (.inr rfl) b1_ (Nm.nc_size m) m; have hrd9 := Nm.rd_blk B9; have hg := Lib.hid hg9; clear h1_ f1_ hg9)
 have hne : g ≠ w.heap.size := by omega
 refine bodyPost_ret (v := .agg (Nm.nc m)) (by have h1 := Nm.lv_of hrd9; simp only [results, Tryz.results46]; simp [Sem.run_bind, Result.andThen, asAddr, h1]) rfl ?_
 exact ⟨rfl, HR1.out.fr (fr_grown hg.out) hne, HF.out.trans (HF1.out.step ((fr_grown hg.out).mono fun i _ e => Or.inr e)) fun i hi e => by rcases e with e | e; exact e; omega⟩
theorem rkind_any (s : ByteArray) (g a d : Nat) (v : Bool) (w : World) (h : Rdr w g s a 0) (ha : a <= s.size) (hs : s.size <= 1000) (hK : Knd w) (hgk : g ≠ 0) (hd : d <= 3) :
  Calls Tryz.prog 48 #[vr g, .agg #[.int .i64 (d : Nat), .bool v]] w fun x w' => x = .returned (.int .i64 (D.kndT (D.sub (D.ns s) a (D.far D.wdB (D.ns s) a)) : Nat)) ∧
   Rdr w' g s (D.nx a (D.far D.wdB (D.ns s) a) (D.kdE d (D.kndT (D.sub (D.ns s) a (D.far D.wdB (D.ns s) a))))).1 (D.nx a (D.far D.wdB (D.ns s) a) (D.kdE d (D.kndT (D.sub (D.ns s) a (D.far D.wdB (D.ns s) a))))).2 ∧ Fr (· = g) w w' := by
 have hlen := D.ns_len s
 have hgl := h.lt
 obtain ⟨W, hW⟩ : ∃ W, (w.alloc (.cells #[.int .i64 (d : Nat), .bool v] 48)).alloc (.cells #[.int .i64 0] 3) = W := ⟨_, rfl⟩
 have hP : Blk W w.heap.size 48 #[.int .i64 (d : Nat), .bool v] := by rw [<- hW]; exact (Blk.new w _ _).alloc _
 have hB : Blk W (w.heap.size + 1) 3 #[.int .i64 ((0 : Nat) : Int)] := by rw [<- hW]; have := Blk.new (w.alloc (.cells #[.int .i64 (d : Nat), .bool v] 48)) 3 #[.int .i64 ((0 : Nat) : Int)]; simpa using this
 have hb : Below w.heap.size w W := by rw [<- hW]; exact ((Below.refl _ _).alloc (Nat.le_refl _) _).alloc (by simp) _
 have hsz : W.heap.size = w.heap.size + 2 := by rw [<- hW]; simp
 have cW := word_kind s g a (w.heap.size + 1) w.heap.size d 0 v W (h.on hb) ha hs hB hP (hK.on hb) (by omega) (by omega) hgk hd
 obtain ⟨l, hl⟩ : ∃ l, D.ns s = l := ⟨_, rfl⟩
 rw [hl] at cW hlen ⊢
 obtain ⟨K, hK⟩ : ∃ K, D.far D.wdB l a = K := ⟨_, rfl⟩
 have hK1 : a <= K := hK ▸ D.far_ge _ _ _
 rw [hK] at cW ⊢
 obtain ⟨u, hu⟩ : ∃ u, u = (if K = a then (⟨#[]⟩ : ByteArray) else D.sb (D.sub l a K)) := ⟨_, rfl⟩
 have key : Calls Tryz.prog 69 #[vr g, .func (.func 73) #[] #[vr (w.heap.size + 1), vr w.heap.size]] W fun x w' => x = .returned (.string u) ∧
   Rdr w' g s (D.nx a K (D.kdE d (D.kndT (D.sub l a K)))).1 (D.nx a K (D.kdE d (D.kndT (D.sub l a K)))).2 ∧ Blk w' (w.heap.size + 1) 3 #[.int .i64 (D.kndT (D.sub l a K) : Nat)] ∧ Fr (fun i => i = g ∨ i = w.heap.size + 1) W w' := by
  refine cW.mono fun x w' ⟨f, p, q⟩ => ?_
  by_cases hq : K = a
  ·obtain ⟨e, h1, h2⟩ := p hq
   refine ⟨by rw [e, hu, if_pos hq], ?_, ?_, f⟩
   ·rw [D.nx, if_pos hq]; exact h1
   ·subst hq; rw [sub_nil]; exact h2
  ·obtain ⟨e, h1, h2⟩ := q hq
   refine ⟨by rw [e, hu, if_neg hq], ?_, h2, f⟩
   rw [D.nx, if_neg hq]; exact h1
 obtain ⟨p, hp⟩ : ∃ p, D.nx a K (D.kdE d (D.kndT (D.sub l a K))) = p := ⟨_, rfl⟩
 obtain ⟨m, hm⟩ : ∃ m, D.kndT (D.sub l a K) = m := ⟨_, rfl⟩
 rw [hp, hm] at key
 rw [hm] at hp ⊢
 rw [hp]
 obtain ⟨b, f⟩ := p
 simp only at key ⊢
 subst hW
 have KEY := Lib.hid key
 have HB := Lib.hid hb
 clear key hb hp hm hu cW hK hl hK1 hlen h hP hB
 go_enter Tryz.func48, Tryz.ntmps48
 go_wp2_with (go_at_call 69; (with_reducible refine KEY.out.mono ?_); rintro y w1 ⟨rfl, h1_, b1_, f1_⟩; have HR1 := Lib.hid h1_; have HF1 := Lib.hid f1_; have B1 := Lib.hid b1_; have cc := b1_.c_ 0; have ff := b1_.f_; have hlt := b1_.lt; clear h1_ f1_ b1_)
 have hne : g ≠ w.heap.size + 1 := by omega
 refine bodyPost_ret (v := .int .i64 (m : Nat)) (by simp [results, Tryz.results48, go_sem, cc, ff, hlt]) rfl ?_
 have hf9 : Fr (· = w.heap.size + 1) w1 (w1.setCell ⟨w.heap.size + 1, 0, none⟩ (.int .i64 (m : Nat))) := (Fr.refl _ _).setCell _ _ fun _ => rfl
 exact ⟨rfl, HR1.out.fr hf9 hne, (Fr.of_below (S := (· = g)) HB.out (Nat.le_refl _)).trans (HF1.out.step (hf9.mono fun i _ e => Or.inr e)) fun i hi e => by rcases e with e | e; exact e; omega⟩
end Go.Proofs.YtgnjjlgmlokhmaaGreatDoor
namespace Go.Proofs.YtgnjjlgmlokhmaaGreatDoor
open Go.RowKit
attribute [local go_sem ↓] Go.wp_at_zero Go.wp_at_succ

def Mt (r : Nat) (o : D.Ot) (w : World) (e : Ending) (w' : World) : Prop :=
 Below w.heap.size w w' ∧ ∃ (A : Option Addr) (n c : Nat), e = .returned (.agg #[.slice A n c, .int .i64 (o.a : Nat), .int .i64 (o.e : Nat)]) ∧ Ms (fun b => w.heap.size <= b) w' r (.slice A n c) o.l
theorem D.plI_far {v : Bool} {l : List Nat} {q : Nat} (h : D.plI v (D.atI l q) = true) : q < l.length ∧ D.far (D.plB v) l q = D.far (D.plB v) l (q + 1) := by
 by_cases hq : q < l.length
 ·have e : l[q]? = some l[q] := List.getElem?_eq_getElem hq
  rw [D.atI_some e, D.plI_some] at h
  exact ⟨hq, D.far_step e h⟩
 ·rw [D.atI_none (by omega), D.plI_none] at h
  cases h
theorem D.plI_stop {v : Bool} {l : List Nat} {q : Nat} (h : D.plI v (D.atI l q) = false) : D.far (D.plB v) l q = q := by
 by_cases hq : q < l.length
 ·have e : l[q]? = some l[q] := List.getElem?_eq_getElem hq
  rw [D.atI_some e, D.plI_some] at h
  exact D.far_stop e h
 ·exact D.far_end (by omega)
theorem D.atI_is {l : List Nat} {q c : Nat} (h : D.atI l q = c) : l[q]? = some c := by
 unfold D.atI at h
 split at h
 ·rename_i d hd; rw [hd]; congr 1; omega
 ·omega
theorem D.atI_not {l : List Nat} {q c : Nat} (h : D.atI l q ≠ c) : l[q]? ≠ some c := fun e => h (D.atI_some e)
set_option maxHeartbeats 2000000 in
theorem message_any (s : ByteArray) (r d : Nat) (v : Bool) (p : Nat -> D.Ot) (w : World) (hs : s.size <= 60)
  (hp : ∀ i W, i <= s.size -> Calls Tryz.prog 29 #[.string s, .int .i64 i, .int .i64 d, .bool v] W (Mt r (p i) W))
  (hg : ∀ i, i <= s.size -> (p i).e = 0 -> ∃ y, (p i).l = [y] ∧ i < (p i).a ∧ (p i).a <= s.size)
  (i0 : Nat) (h0 : i0 <= s.size) :
  Calls Tryz.prog 13 #[.string s, .int .i64 i0, .int .i64 d, .bool v] w (Mt r (D.mes (D.ns s) v p (s.size + 1) i0 []) w) := by
 have cA := Lib.hid (fun k W => at_any s k W)
 have cP := Lib.hid hp
 have cG := Lib.hid hg
 have hlen := D.ns_len s
 have HX := Lib.hid (fun i k => ext_sub s i k)
 have H2 := Lib.hid (ns_lt s)
 obtain ⟨l, hl⟩ : ∃ l, D.ns s = l := ⟨_, rfl⟩
 obtain ⟨o, ho⟩ : ∃ o, D.mes l v p (s.size + 1) i0 [] = o := ⟨_, rfl⟩
 rw [hl] at cA hlen HX H2 ⊢
 rw [ho]
 have HO : Kept (D.mes l v p (s.size + 1) i0 [] = o) := ⟨ho⟩
 clear hp hg hl ho
 go_enter Tryz.func13, Tryz.ntmps13
 go_wp2_with fail
 go_loopw [1, 9] (fun i a wr => ∃ (k n c f : Nat) (A : Option Addr) (acc : List D.Nd), k <= s.size ∧ i = .int .i64 k ∧ a = .slice A n c ∧ n <= k ∧ Kept (s.size < k + f ∧ D.mes l v p f k acc = o) ∧ Ac 55 r (w.heap.size + 1) wr A n c acc ∧ Blk wr w.heap.size 51 #[.slice none 0 0, .int .i64 0, .int .i64 0] ∧ Below w.heap.size w wr) (fun i _ _ => s.size - (intOf i).toNat)
 case atStart => 
  refine ⟨i0, 0, 0, s.size + 1, none, [], h0, rfl, rfl, Nat.zero_le _, ⟨by omega, HO.out⟩, Ac.nil _ _ (by simp), Blk.new _ _ _, (Below.refl _ _).alloc (Nat.le_refl _) _⟩
 case round =>
  obtain ⟨k, n, c, f, A, acc, hk, rfl, rfl, hn, HF, hac, hblk, hbel⟩ := hrel
  obtain ⟨wo, rfl⟩ : ∃ wo : World, wo = wr := ⟨_, rfl⟩
  have HA := Lib.hid hac
  have HB := Lib.hid hblk
  have HZ := Lib.hid hbel
  clear hac hblk hbel
  go_wp2_with fail
  go_loop [10] (fun j => ∃ q : Nat, k <= q ∧ q <= s.size ∧ j = .int .i64 q ∧ Kept (D.far (D.plB v) l k = D.far (D.plB v) l q)) (fun j => s.size - (intOf j).toNat)
  case atStart => exact ⟨k, Nat.le_refl _, hk, rfl, ⟨rfl⟩⟩
  case round =>
   obtain ⟨q, hkq, hq, rfl, HQ⟩ := hrel
   obtain ⟨x, hx⟩ : ∃ x, D.atI l q = x := ⟨_, rfl⟩
   have CA := Lib.hid (cA.out q)
   rw [hx] at CA
   have CP := Lib.hid (fun W => plain_any x v W)
   cases hb : D.plI v x with
   | true =>
    have h1 := D.plI_far (v := v) (l := l) (q := q) (by rw [hx]; exact hb)
    have HQ' : Kept (D.far (D.plB v) l k = D.far (D.plB v) l (q + 1)) := ⟨HQ.out.trans h1.2⟩
    have hq1 := h1.1
    rw [hb] at CP
    clear h1 hb HQ hx
    go_wp2_with (first
     | (go_at_call 28; (with_reducible refine (CA.out _).mono ?_); rintro e w1 ⟨rfl, rfl⟩)
     | (go_at_call 27; (with_reducible refine (CP.out _).mono ?_); rintro e w1 ⟨rfl, rfl⟩))
    go_round
    case rel => exact ⟨q + 1, by omega, by omega, by go_num, HQ'⟩
    case measure => simp [intOf]; omega
   | false =>
    have h1 := D.plI_stop (v := v) (l := l) (q := q) (by rw [hx]; exact hb)
    have HQ' : Kept (D.far (D.plB v) l k = q) := ⟨HQ.out.trans h1⟩
    rw [hb] at CP
    have HX' : Kept (D.atI l q = x) := ⟨hx⟩
    clear h1 hb HQ hx
    go_upto_if 23 with (first
     | (go_at_call 28; (with_reducible refine (CA.out _).mono ?_); rintro e w1 ⟨rfl, rfl⟩)
     | (go_at_call 27; (with_reducible refine (CP.out _).mono ?_); rintro e w1 ⟨rfl, rfl⟩))
    obtain ⟨X, hX⟩ : ∃ X, (if k < q then acc ++ [D.Nd.mk 0 (D.sub l k q) [] [] []] else acc) = X := ⟨_, rfl⟩
    have HXX := Lib.hid hX
    clear hX
    go_cut [1, 9] from 21 to 32 (fun s1 s9 wx => ∃ (A' : Option Addr) (n' c' : Nat), s1 = .int .i64 q ∧ s9 = .slice A' n' c' ∧ n' <= q ∧ Ac 55 r (w.heap.size + 1) wx A' n' c' X ∧ Blk wx w.heap.size 51 #[.slice none 0 0, .int .i64 0, .int .i64 0] ∧ Below w.heap.size w wx)
    case first =>
     by_cases hlt : k < q
     ·have hI : (k : Int) < q := by omega
      have hI2 : (q : Int) <= s.size := by omega
      have HE : Kept (acc ++ [D.Nd.mk 0 (D.sub l k q) [] [] []] = X) := ⟨by rw [<- HXX.out, if_pos hlt]⟩
      have hbt := Lib.hid (sub_lt H2.out k q)
      clear HXX hlt
      go_wp2_with (at_builtin; refine papp rfl (.tmp 24) (.tmp 30) rfl rfl (HA.out.on ((Below.refl _ _).alloc (Nat.le_refl _) _)) rfl (rw_part _ _ rfl (D.Nd.mk 0 (D.sub l k q) [] [] []) (.slice none 0 0) (.slice none 0 0) _ (by simp [pcl, D.Nd.k, D.Nd.t, D.Nd.n, HX.out]; rfl)) rfl rfl (bel_leaf hbt.out (fun _ h => by cases h)) (by omega) ?_; intro A1 c1 w3 h3 hb3 _)
      go_meet
      have hlo : Below (w.heap.size + 1) wo w3 := ((Below.refl _ _).alloc HB.out.lt _).trans hb3
      exact ⟨A1, n + 1, c1, rfl, rfl, by omega, by rw [<- HE.out]; exact h3, ⟨(hlo.block _ (by omega)).trans HB.out.out⟩, HZ.out.trans (hlo.mono (by omega))⟩
     ·obtain rfl : k = q := by omega
      have HE : Kept (acc = X) := ⟨by rw [<- HXX.out, if_neg hlt]⟩
      clear HXX hlt
      go_wp2
      go_meet
      exact ⟨A, n, c, rfl, rfl, hn, by rw [<- HE.out]; exact HA.out, HB.out, HZ.out⟩
    case rest =>
     obtain ⟨A2, n2, c2, rfl, rfl, hn2, ha2, hb2, hz2⟩ := hcut
     obtain ⟨g, rfl⟩ : ∃ g, f = g + 1 := ⟨f - 1, by have := HF.out.1; omega⟩
     have HM := Lib.hid (D.mes_eq (l := l) (w := v) (p := p) (f := g) (i := k) (acc := acc) HQ'.out HXX.out)
     have HA2 := Lib.hid ha2
     have HB2 := Lib.hid hb2
     have HZ2 := Lib.hid hz2
     clear HXX ha2 hb2 hz2 HA HB HZ
     by_cases h35 : x = 35
     ·subst h35
      have HO' : Kept (D.mes l v p g (q + 1) (X ++ [D.Nd.mk 5 [] [] [] []]) = o) := ⟨by rw [<- HF.out.2, HM.out, if_pos (D.atI_is HX'.out)]⟩
      have hfu := HF.out.1
      have hq1 : q < s.size := by
       have := (List.getElem?_eq_some_iff.1 (D.atI_is HX'.out)).1
       omega
      clear HM
      go_wp2_with (first
       | (go_at_call 28; (with_reducible refine (CA.out _).mono ?_); rintro e w1 ⟨rfl, rfl⟩)
       | (at_builtin; refine papp rfl (.tmp 38) (.tmp 40) rfl rfl (HA2.out.on ((Below.refl _ _).alloc (Nat.le_refl _) _)) rfl (rw_part _ _ rfl (D.Nd.mk 5 [] [] [] []) (.slice none 0 0) (.slice none 0 0) _ rfl) rfl rfl (bel_leaf (fun _ h => by cases h) (fun _ h => by cases h)) (by omega) ?_; intro A3 c3 w3 h3 hb3 _))
      go_roundw
      case rel =>
       have hlo : Below (w.heap.size + 1) wc w3 := ((Below.refl _ _).alloc HB2.out.lt _).trans hb3
       exact ⟨q + 1, n2 + 1, c3, g, A3, _, by omega, by go_num, rfl, by omega, ⟨by omega, HO'.out⟩, h3, ⟨(hlo.block _ (by omega)).trans HB2.out.out⟩, HZ2.out.trans (hlo.mono (by omega))⟩
      case measure => simp [intOf]; omega
     ·have i35 : (x == 35) = false := by simpa using h35
      by_cases h123 : x = 123
      ·subst h123
       have H123 : Kept (l[q]? = some 123) := ⟨D.atI_is HX'.out⟩
       have hq1 : q < s.size := by
        have := (List.getElem?_eq_some_iff.1 H123.out).1
        omega
       have hM2 := HM.out
       rw [if_neg (D.atI_not (c := 35) (by rw [HX'.out]; exact h35)), if_neg (by rw [H123.out]; simp)] at hM2
       have HCP : Hid (∀ W, Calls Tryz.prog 29 #[.string s, .int .i64 ((q : Int) + 1), .int .i64 d, .bool v] W (Mt r (p (q + 1)) W)) := Lib.hid (fun W => cP.out (q + 1) W (by omega))
       have HCG := Lib.hid (cG.out (q + 1) (by omega))
       obtain ⟨y, hy⟩ : ∃ y, p (q + 1) = y := ⟨_, rfl⟩
       rw [hy] at hM2 HCP HCG
       by_cases he : y.e = 0
       ·obtain ⟨z, hz, hz1, hz2⟩ := HCG.out he
        have hzl := Lib.hid hz
        have HO' : Kept (D.mes l v p g y.a (X ++ [z]) = o) := ⟨by rw [<- HF.out.2, hM2, if_neg (by simpa using he), hz]; rfl⟩
        have ie : ((y.e : Int) != 0) = false := by simp; exact he
        have hfu := HF.out.1
        clear hM2 he hy HM HCG hz
        go_wp2_with (first
         | (go_at_call 28; (with_reducible refine (CA.out _).mono ?_); rintro e w1 ⟨rfl, rfl⟩)
         | (go_at_call 29; (with_reducible refine (HCP.out _).mono ?_); rintro e w1 ⟨hb4, A4, n4, c4, rfl, hm4⟩
            obtain ⟨ad, m4, c5, A5, n5, c6, A6, n6, c7, e5, hlt5, k0, k1, k2, k3, k4, hB⟩ := ms_first (by rw [<- hzl.out]; exact hm4)
            cases e5
            have HB := Lib.hid hB
            have HB4 := Lib.hid hb4
            have HA4 := Lib.hid (HA2.out.on hb4)
            have B4 := Lib.hid (HB2.out.on hb4)
            clear hm4 hb4 hB
            have h4 := B4.out.lt
            have i5 : (0 : Int) < (m4 : Int) + 1 := by omega)
         | (at_builtin; refine papp rfl (.tmp 59) (.tmp 64) rfl rfl ((HA4.out.on ((Below.refl _ _).alloc (Nat.le_refl _) _)).on ((Below.refl _ _).alloc (Nat.le_refl _) _)) rfl (rw_part (w1.alloc _) _ (by simp) z (.slice A5 n5 c6) (.slice A6 n6 c7) _ rfl) rfl rfl
              (((HB.out.keep (keeps_below ((Below.refl _ _).alloc (Nat.le_refl _) _))).keep (keeps_below ((Below.refl _ _).alloc (Nat.le_refl _) _))).weaken fun b _ hb => ⟨Nat.le_trans HB2.out.lt hb, fun e => Nat.lt_irrefl _ (Nat.lt_of_lt_of_le (HA2.out.own_lt b e).2 hb)⟩) (by omega) ?_; intro A3 c3 w3 h3 hb3 hg3
            have B5 := ((Blk.new w1 51 #[.slice (some ad) (m4 + 1) c4, .int .i64 (y.a : Nat), .int .i64 (y.e : Nat)]).alloc _).grown hg3 (fun e => Nat.lt_irrefl _ (Nat.lt_of_lt_of_le (HA2.out.own_lt _ e.symm).2 HB4.out.size))
            have cc := B5.c 1))
        go_roundw
        case rel =>
         have hlo : Below (w.heap.size + 1) wc w3 := (((HB4.out.mono HB2.out.lt).alloc (by omega) _).alloc (by simp; omega) _).trans hb3
         exact ⟨y.a, n2 + 1, c3, g, A3, _, by omega, rfl, rfl, by omega, ⟨by omega, HO'.out⟩, h3, ⟨(hlo.block _ (by omega)).trans HB2.out.out⟩, HZ2.out.trans (hlo.mono (by omega))⟩
        case measure => simp [intOf]; omega
       ·have HO' : Kept (o = y) := ⟨by rw [<- HF.out.2, hM2, if_pos he]⟩
        have ie : ((y.e : Int) != 0) = true := by simp; exact he
        clear hM2 he hy HM HCG
        go_wp2_with (first
         | (go_at_call 28; (with_reducible refine (CA.out _).mono ?_); rintro e w1 ⟨rfl, rfl⟩)
         | (go_at_call 29; (with_reducible refine (HCP.out _).mono ?_); rintro e w1 ⟨hb4, A4, n4, c4, rfl, hm4⟩; have HM4 := Lib.hid hm4; have HB4 := Lib.hid hb4; have B4 := Lib.hid (HB2.out.on hb4); clear hm4 hb4; have cc := B4.out.c; have cf := B4.out.f; have h4 := B4.out.lt))
        refine bodyPost_ret (v := .agg #[.slice A4 n4 c4, .int .i64 y.a, .int .i64 y.e]) (by simp [results, Tryz.results13, go_sem, cc, cf, h4]) rfl ⟨((((HZ2.out.trans (HB4.out.mono HZ2.out.size)).setCell (by simp) _).setCell (by simp) _).setCell (by simp) _).alloc (by simp; omega) _, A4, n4, c4, by rw [HO'.out], ?_⟩
        rw [HO'.out]
        have hw := HB2.out.lt
        exact ((((HM4.out.keep (keeps_setCell _ _ _ fun b hb => by simp; omega)).keep (keeps_setCell _ _ _ fun b hb => by simp; omega)).keep (keeps_setCell _ _ _ fun b hb => by simp; omega)).keep (keeps_below ((Below.refl _ _).alloc (Nat.le_refl _) _))).weaken fun b _ hb => by omega
      ·have i123 : (x != 123) = true := by simpa using h123
       have HO' : Kept (o = ⟨X, q, 0⟩) := ⟨by rw [<- HF.out.2, HM.out, if_neg (D.atI_not (c := 35) (by rw [HX'.out]; exact h35)), if_pos (D.atI_not (c := 123) (by rw [HX'.out]; exact h123))]⟩
       have cc := HB2.out.c
       have cf := HB2.out.f
       clear HM
       go_wp2_with (go_at_call 28; (with_reducible refine (CA.out _).mono ?_); rintro e w1 ⟨rfl, rfl⟩)
       refine bodyPost_ret (v := .agg #[.slice A2 n2 c2, .int .i64 q, .int .i64 0]) (by simp [results, Tryz.results13, go_sem, cc, cf]) rfl ⟨((HZ2.out.setCell (by simp) _).setCell (by simp) _).setCell (by simp) _, A2, n2, c2, by rw [HO'.out]; rfl, ?_⟩
       rw [HO'.out]
       exact (((HA2.out.done.keep (keeps_setCell _ _ _ fun b hb => by simp; omega)).keep (keeps_setCell _ _ _ fun b hb => by simp; omega)).keep (keeps_setCell _ _ _ fun b hb => by simp; omega)).weaken fun b _ hb => by omega
end Go.Proofs.YtgnjjlgmlokhmaaGreatDoor
namespace Go.Proofs.YtgnjjlgmlokhmaaGreatDoor
open Go.RowKit

theorem str_under : Tryz.prog.underlying 35 = some (.slice 9) := by kernel_rfl
theorem str_inf8 : (Tryz.prog.info? 9).map (fun i => (i.zero, i.size, i.bytes)) = some (some (.string ⟨#[]⟩), 1, 16) := by kernel_rfl
theorem cas_under : Tryz.prog.underlying 53 = some (.slice 26) := by kernel_rfl
theorem cas_info : (Tryz.prog.info? 26).map (fun i => (i.zero, i.size, i.bytes)) = some (some (.slice none 0 0), 1, 24) := by kernel_rfl
theorem Keeps.trans {F : Nat -> Prop} {w w1 w2 : World} (h : Keeps F w w1) (k : Keeps F w1 w2) : Keeps F w w2 :=
 ⟨Nat.le_trans h.size k.size, fun b hb hlt => (k.same b hb (Nat.lt_of_lt_of_le hlt h.size)).trans (h.same b hb hlt)⟩
theorem Ow.ne_ {T T' : TypeId} {sz sz' base base' : Nat} {w : World} {A B : Option Addr} {n c m e : Nat} {xs ys : List Value} (h : Ow T sz base w A n c xs) (h' : Ow T' sz' base' w B m e ys) (hne : T ≠ T') : ∀ q, (Value.slice A n c).ownBlock = some q -> (Value.slice B m e).ownBlock ≠ some q := by
 intro q h1 h2
 rcases h.row.2 with ⟨e1, _⟩ | ⟨g, cap, cur, e1, _, hh, _⟩
 ·rw [e1] at h1; simp [Value.ownBlock] at h1
 ·rcases h'.row.2 with ⟨e2, _⟩ | ⟨g', cap', cur', e2, _, hh', _⟩
  ·rw [e2] at h2; simp [Value.ownBlock] at h2
  ·rw [e1] at h1
   rw [e2] at h2
   have a1 : g = q := by simpa [Value.ownBlock] using h1
   have a2 : g' = q := by simpa [Value.ownBlock] using h2
   subst a1
   subst a2
   rw [hh] at hh'
   injection hh' with hh'
   injection hh' with _ ht
   exact hne ht
theorem Ow.set {T : TypeId} {sz base : Nat} {w : World} {A : Option Addr} {n c : Nat} {xs : List Value} (h : Ow T sz base w A n c xs) (p : Addr) (u : Value) (hp : p.block < base) : Ow T sz base (w.setCell p u) A n c xs :=
 h.kept (by simp) fun g hg => Below.heap_setCell w p u g (by have := (h.lt g hg).1; omega)
theorem Ms.up {F : Nat -> Prop} {w : World} : ∀ (r : Nat) {v : Value} {l : List D.Nd}, Ms F w r v l -> Ms F w (r + 1) v l
 | 0, v, l, h => by
  obtain ⟨A, n, c, vs, e, hc, hr, hl, hb⟩ := h
  exact ⟨A, n, c, vs, e, hc, hr, hl, fun i x a b hx => ⟨(hb i x a b hx).1, (hb i x a b hx).2.1, (hb i x a b hx).2.2.tow (fun _ _ _ _ h => h) (fun _ _ h => h.elim)⟩⟩
 | r + 1, v, l, h => by
  obtain ⟨A, n, c, vs, e, hc, hr, hl, hb⟩ := h
  exact ⟨A, n, c, vs, e, hc, hr, hl, fun i x a b hx => ⟨(hb i x a b hx).1, (hb i x a b hx).2.1, (hb i x a b hx).2.2.tow (fun _ _ _ _ h => h) (fun _ _ h => Ms.up r h)⟩⟩
theorem D.cas_eq {l : List Nat} {k : Nat} {nm : List Nat} {m : Nat -> D.Ot} {f i K : Nat} {ws : List (List Nat)} {ks : List (List D.Nd)} (hK : D.far D.wdB l i = K) : D.cas l k nm m (f + 1) i ws ks =
  (if K = i then (if l[i]? ≠ some 125 then D.er_ i 3 else if D.othT ∉ ws then D.er_ i 13 else (⟨[.mk k [] nm ws ks], i + 1, 0⟩ : D.Ot))
  else if D.lgl k (D.sub l i K) ws ≠ 0 then D.er_ i (D.lgl k (D.sub l i K) ws)
  else if l[K]? ≠ some 123 then D.er_ K 3
  else if (m (K + 1)).e ≠ 0 then m (K + 1)
  else if l[(m (K + 1)).a]? ≠ some 125 then D.er_ (m (K + 1)).a 3
  else D.cas l k nm m f (D.far (· == 32) l ((m (K + 1)).a + 1)) (ws ++ [D.sub l i K]) (ks ++ [(m (K + 1)).l])) := by
 subst hK
 rw [D.cas]
def Fz (base : Nat) (a b : Option Nat) (q : Nat) : Prop := base <= q ∧ a ≠ some q ∧ b ≠ some q
theorem rw_one (w : World) (g : Nat) (hg : g = w.heap.size) (T : TypeId) (u : Value) : Rw 1 (w.alloc (.cells #[u] T)) (some ⟨g, 0, none⟩) 1 [u] := by
 subst hg
 exact rw_new w 1 T 1 #[u] rfl
def Kz (r : Nat) (F : Nat -> Prop) (w : World) (us : List Value) (ks : List (List D.Nd)) : Prop :=
 us.length = ks.length ∧ (∀ u ∈ us, u.oneCell' = true) ∧ ∀ (j : Nat) (u : Value) (q : List D.Nd), us[j]? = some u -> ks[j]? = some q -> Ms F w r u q
theorem Kz.move {r : Nat} {F F' : Nat -> Prop} {w w' : World} {us : List Value} {ks : List (List D.Nd)} (h : Kz r F w us ks) (h1 : ∀ q, q < w.heap.size -> F q -> F' q) (k : Keeps (fun q => F q ∧ F' q) w w') : Kz r F' w' us ks :=
 ⟨h.1, h.2.1, fun j u q hu hq => (((h.2.2 j u q hu hq).weaken (F' := fun q => F q ∧ F' q) fun b hb hF => ⟨hF, h1 b hb hF⟩).keep k).weaken fun _ _ hF => hF.2⟩
theorem Kz.snoc {r : Nat} {F : Nat -> Prop} {w : World} {us : List Value} {ks : List (List D.Nd)} {v : Value} {x : List D.Nd} (h : Kz r F w us ks) (h1 : v.oneCell' = true) (hv : Ms F w r v x) : Kz r F w (us ++ [v]) (ks ++ [x]) := by
 refine ⟨by simp [h.1], ?_, ?_⟩
 ·intro u hu
  rcases List.mem_append.1 hu with hu | hu
  ·exact h.2.1 u hu
  ·simp at hu; rw [hu]; exact h1
 ·intro j u q hu hq
  by_cases hj : j < us.length
  ·rw [List.getElem?_append_left hj] at hu
   rw [List.getElem?_append_left (by rw [<- h.1]; exact hj)] at hq
   exact h.2.2 j u q hu hq
  ·have hj' := (List.getElem?_eq_some_iff.1 hu).1
   simp at hj'
   obtain rfl : j = us.length := by omega
   rw [List.getElem?_append_right (Nat.le_refl _)] at hu
   rw [List.getElem?_append_right (by rw [h.1]; exact Nat.le_refl _), h.1] at hq
   simp at hu hq
   subst hu hq
   exact hv
structure Cz (r base g : Nat) (w : World) (k : Nat) (nm : List Nat) (A : Option Addr) (n c : Nat) (B : Option Addr) (m e : Nat) (ws : List (List Nat)) (ks : List (List D.Nd)) : Prop where
 blk : Blk w g 55 #[.int .i64 (k : Nat), .string ⟨#[]⟩, .string (D.sb nm), .slice A n c, .slice B m e]
 low : g < base
 wds : Ow 9 1 base w A n c (strs ws)
 kds : ∃ us, Ow 26 1 base w B m e us ∧ Kz r (Fz base (Value.slice A n c).ownBlock (Value.slice B m e).ownBlock) w us ks
 b8 : D.B8 ws
section
variable {r base g k n c m e : Nat} {w w' : World} {nm : List Nat} {A B : Option Addr} {ws : List (List Nat)} {ks : List (List D.Nd)}
theorem Cz.lens (h : Cz r base g w k nm A n c B m e ws ks) : ws.length = n ∧ ks.length = m := by
 obtain ⟨us, ho, hk⟩ := h.kds
 have h1 := h.wds.len
 rw [strs_len] at h1
 have h2 := ho.len
 have h3 := hk.1
 omega
theorem Cz.on (h : Cz r base g w k nm A n c B m e ws ks) (hb : Below w.heap.size w w') : Cz r base g w' k nm A n c B m e ws ks := by
 obtain ⟨us, ho, hk⟩ := h.kds
 exact ⟨h.blk.on hb, h.low, h.wds.on hb, ⟨us, ho.on hb, hk.move (fun _ _ h => h) (keeps_below hb)⟩, h.b8⟩
theorem Cz.word {A' : Option Addr} {c' : Nat} {t : List Nat} (h : Cz r base g w k nm A n c B m e ws ks) (hg : w.grownBy w' (Value.slice A n c).ownBlock)
  (hor : (Value.slice A' (n + 1) c').ownBlock = (Value.slice A n c).ownBlock ∨ (Value.slice A' (n + 1) c').ownBlock = some w.heap.size)
  (ho : Ow 9 1 base w' A' (n + 1) c' (strs ws ++ strs [t])) (ht : ∀ b ∈ t, b < 256) : Cz r base g (w'.setCell ⟨g, 3, none⟩ (.slice A' (n + 1) c')) k nm A' (n + 1) c' B m e (ws ++ [t]) ks := by
 obtain ⟨us, hu, hk⟩ := h.kds
 have hne : (Value.slice A n c).ownBlock ≠ some g := fun e => by have := (h.wds.lt g e).1; have := h.low; omega
 refine ⟨?_, h.low, ?_, ⟨us, ?_, ?_⟩, ?_⟩
 ·exact ((h.blk.grown hg (Ne.symm hne)).put 3 (.slice A' (n + 1) c'))
 ·rw [strs_app]
  exact ho.set _ _ h.low
 ·exact (hu.kept hg.size fun q hq => hg.block q (hu.lt q hq).2 (fun e => h.wds.ne_ hu (by decide) q e.symm hq)).set _ _ h.low
 ·refine hk.move (fun q hq hF => ⟨hF.1, ?_, hF.2.2⟩) ?_
  ·rcases hor with e | e
   ·rw [e]; exact hF.2.1
   ·rw [e]; intro h; injection h with h; omega
  ·exact Keeps.trans (keeps_grown hg fun q hq => hq.1.2.1) (keeps_setCell _ _ _ fun q hq => by have := hq.1.1; have := h.low; simp; omega)
 ·intro x hx
  rcases List.mem_append.1 hx with hx | hx
  ·exact h.b8 x hx
  ·simp at hx; rw [hx]; exact ht
theorem Cz.case_ {B' : Option Addr} {e' : Nat} {v : Value} {x : List D.Nd} {us : List Value} (h : Cz r base g w k nm A n c B m e ws ks) (hk : Kz r (Fz base (Value.slice A n c).ownBlock (Value.slice B m e).ownBlock) w us ks) (hg : w.grownBy w' (Value.slice B m e).ownBlock)
  (hor : (Value.slice B' (m + 1) e').ownBlock = (Value.slice B m e).ownBlock ∨ (Value.slice B' (m + 1) e').ownBlock = some w.heap.size)
  (ho : Ow 26 1 base w' B' (m + 1) e' (us ++ [v])) (h1 : v.oneCell' = true) (hv : Ms (Fz base (Value.slice A n c).ownBlock (Value.slice B m e).ownBlock) w r v x) :
  Cz r base g (w'.setCell ⟨g, 4, none⟩ (.slice B' (m + 1) e')) k nm A n c B' (m + 1) e' ws (ks ++ [x]) := by
 obtain ⟨us0, hu, _⟩ := h.kds
 have hne : (Value.slice B m e).ownBlock ≠ some g := fun e => by have := (hu.lt g e).1; have := h.low; omega
 refine ⟨?_, h.low, ?_, ⟨_, ho.set _ _ h.low, ?_⟩, h.b8⟩
 ·exact ((h.blk.grown hg (Ne.symm hne)).put 4 (.slice B' (m + 1) e'))
 ·exact (h.wds.kept hg.size fun q hq => hg.block q (h.wds.lt q hq).2 (fun e => h.wds.ne_ hu (by decide) q hq e.symm)).set _ _ h.low
 ·refine (hk.snoc h1 hv).move (fun q hq hF => ⟨hF.1, hF.2.1, ?_⟩) ?_
  ·rcases hor with e | e
   ·rw [e]; exact hF.2.2
   ·rw [e]; intro h; injection h with h; omega
  ·exact Keeps.trans (keeps_grown hg fun q hq => hq.1.2.2) (keeps_setCell _ _ _ fun q hq => by have := hq.1.1; have := h.low; simp; omega)
theorem Cz.kid {w1 w2 W w3 W5 : World} {A5 : Option Addr} {n5 c5 : Nat} {u v : Value} {x : List D.Nd} (h : Cz r base g w1 k nm A n c B m e ws ks) (hv : Ms (fun b => w1.heap.size <= b) w2 r v x) (b : Below w2.heap.size w2 W)
  (hg : W.grownBy w3 (Value.slice A n c).ownBlock) (hor : (Value.slice A5 n5 c5).ownBlock = (Value.slice A n c).ownBlock ∨ (Value.slice A5 n5 c5).ownBlock = some W.heap.size) (b' : Below w3.heap.size (w3.setCell ⟨g, 3, none⟩ u) W5) :
  Ms (Fz base (Value.slice A5 n5 c5).ownBlock (Value.slice B m e).ownBlock) W5 r v x := by
 obtain ⟨us, hu, _⟩ := h.kds
 have hbase := h.wds.base
 have h1 := hv.weaken (F' := fun q => Fz base (Value.slice A5 n5 c5).ownBlock (Value.slice B m e).ownBlock q ∧ (Value.slice A n c).ownBlock ≠ some q) fun q hq hF => by
  have e1 : (Value.slice A n c).ownBlock ≠ some q := fun e => by have := (h.wds.lt q e).2; omega
  have e2 : (Value.slice B m e).ownBlock ≠ some q := fun e => by have := (hu.lt q e).2; omega
  refine ⟨⟨by omega, ?_, e2⟩, e1⟩
  rcases hor with e | e
  ·rw [e]; exact e1
  ·rw [e]; intro h; injection h with h; have := b.size; omega
 have k1 := h1.keep (keeps_below b)
 have k2 := k1.keep (keeps_grown hg fun q hq => hq.2)
 have k3 := k2.keep (keeps_setCell w3 ⟨g, 3, none⟩ u fun q hq => by have := hq.1.1; have := h.low; simp; omega)
 have k4 := k3.keep (w' := W5) ⟨by have := b'.size; simpa using this, fun q _ hq => b'.block q (by simpa using hq)⟩
 exact k4.weaken fun _ _ h => h.1
theorem Cz.bel {F : Nat -> Prop} (h : Cz r base g w k nm A n c B m e ws ks) (hn : ∀ b ∈ nm, b < 256) (hF : ∀ q, base <= q -> F q) : Bel (Kd F w (r + 1)) F w (.mk k [] nm ws ks) (.slice A n c) (.slice B m e) := by
 obtain ⟨us, ho, hk⟩ := h.kds
 refine ⟨⟨fun _ hh => absurd hh (by simp [D.Nd.t]), hn, h.b8⟩, ⟨A, n, c, rfl, h.wds.cap.1, (h.wds.rf fun g hg => hF _ (h.wds.block_le _ hg))⟩, B, m, e, us, rfl, ho.cap.1, (ho.rf fun g hg => hF _ (ho.block_le _ hg)), hk.1, hk.2.1, fun j u q hu hq => (hk.2.2 j u q hu hq).weaken fun b _ hb => hF b hb.1⟩
end
end Go.Proofs.YtgnjjlgmlokhmaaGreatDoor
