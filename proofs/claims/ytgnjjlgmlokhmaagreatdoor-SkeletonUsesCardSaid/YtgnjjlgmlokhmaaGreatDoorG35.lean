/-
  
-/
import Derived.Test.YtgnjjlgmlokhmaaGreatDoorG34
import Derived.Test.YtgnjjlgmlokhmaaGreatDoorG33
import Derived.Test.YtgnjjlgmlokhmaaGreatDoorG30
import Derived.Test.YtgnjjlgmlokhmaaGreatDoorG17
set_option linter.unusedVariables false
set_option linter.unusedSimpArgs false
set_option maxRecDepth 100000
namespace Go.Proofs.YtgnjjlgmlokhmaaGreatDoor.Nm
open Go.RowKit Go.Sort
attribute [local go_sem ↓] Go.wp_at_zero Go.wp_at_succ ld_a ld_n st_a st_n eq_a eq_n ne_a ne_n lv_a lv_n
attribute [local go_sem] run_ld_a run_ld_n run_st_n run_eq_a run_eq_n run_ne_a run_ne_n run_lv_a run_lv_n st_z ne_z rd_new rd_old rd_drew rd_drewN rd_ext

theorem pcs_last (s : ByteArray) (k : Nat) (h : k = s.size ∨ 12 <= k) (hk : k <= s.size) : pcs (D.ns s) k = nc (D.pad s) := by
 have : D.padl (D.ns s) k = D.padl (D.ns s) 12 := by
  rcases h with h | h
  ·by_cases h12 : s.size <= 12
   ·have := D.padl_all (t := D.ns s) 12 (by rw [D.ns_len]; exact h12)
    rw [D.ns_len] at this
    rw [h, this]
   ·exact D.padl_12 _ _ (by omega)
  ·exact D.padl_12 _ _ h
 rw [pcs, this]; rfl
theorem lv_of_a {w : World} {a : Addr} {x : D.Nm} (h : rd w a = some x) : (loadVar 38 a).run Tryz.prog w = .ok (.agg (nc x)) w := (run_lv_a w a).trans (by rw [h]; rfl)
theorem results_cell1 {fn : Func} {p : Tmp} {ty : TypeId} (h : fn.results = #[.cell p ty]) (tmps : Array Value) (P : Program) (w : World) :
  (results fn tmps).run P w = ((asAddr (tmps.getD p undef)).run P w).andThen fun a w₁ => (loadVar ty a).run P w₁ := by
 simp only [results, h]
 simp [Sem.run_bind, Result.andThen]
set_option maxHeartbeats 1000000 in
theorem ref_pad (s : ByteArray) (w : World) :
  Calls Tryz.prog 10 #[.string s] w fun e w' => e = .returned (.agg (nc (D.pad s))) ∧ Below w.heap.size w w' := by
 go_enter Tryz.func10, Tryz.ntmps10
 go_wp2
 go_loopw [4] (fun i wr => ∃ k : Nat, k <= s.size ∧ k <= 12 ∧ i = .int .i64 k ∧ Blk wr w.heap.size 38 z12 ∧ Blk wr (w.heap.size + 1) 38 (pcs (D.ns s) k) ∧ Below w.heap.size w wr) (fun i _ => s.size - (intOf i).toNat)
 case atStart =>
  refine ⟨0, Nat.zero_le _, Nat.zero_le _, rfl, ?_, ?_, ?_⟩
  ·exact (Blk.new w _ z12).alloc _
  ·rw [pcs_zero]
   have := Blk.new (w.alloc (.cells z12 38)) 38 z12
   simp only [World.size_alloc] at this
   exact this
  ·exact ((Below.refl _ _).alloc (Nat.le_refl _) _).alloc (by simp) _
 case round =>
  obtain ⟨k, hk, hk12, rfl, B0, B1, hbel⟩ := hrel
  by_cases hlt : k < s.size ∧ k < 12
  ·obtain ⟨h1, h2⟩ := hlt
   have hb := ns_at h1
   obtain ⟨b, hq⟩ : ∃ b, s[k].toNat = b := ⟨_, rfl⟩
   rw [hq] at hb
   have hbn := B1.put k (.int .u8 b)
   rw [pcs_next hb (by omega)] at hbn
   have hcs : ∃ v, wr.cell? ⟨w.heap.size + 1, k, none⟩ = some v := by
    rw [B1.c]
    exact ⟨_, Array.getElem?_eq_getElem (by rw [pcs_size]; omega)⟩
   obtain ⟨v0, hc⟩ := hcs
   have hf := B1.f k
   have hb0 := B0.far (p := ⟨w.heap.size + 1, k, none⟩) (by simp) (.int .u8 b)
   have i1 : (k : Int) < (s.size : Int) := by omega
   have i2 : (k : Int) < 12 := by omega
   clear hb B1 B0
   go_wp2
   go_roundw
   case rel => exact ⟨k + 1, by omega, by omega, by go_num, hb0, hbn, hbel.setCell (by simp) _⟩
   case measure => simp [intOf]; omega
  ·rw [pcs_last s k (by omega) hk] at B1
   have hx := rd_blk B1
   obtain ⟨w9, hst, B9, hg9⟩ := st_blk (.inl rfl) B0 rfl (D.pad s)
   have h9 := rd_blk B9
   clear B0 B1 B9
   by_cases h : k < s.size
   ·have j1 : (k : Int) < (s.size : Int) := by omega
    have j2 : (12 : Int) <= (k : Int) := by omega
    clear hlt
    go_wp2
    refine bodyPost_ret (v := .agg (nc (D.pad s))) (by rw [results_cell1 rfl]; simp [asAddr, Result.andThen, lv_of_a h9]) rfl ⟨rfl, bel_grown hbel hg9 (Nat.le_refl _)⟩
   ·have j1 : (s.size : Int) <= (k : Int) := by omega
    clear hlt
    go_wp2
    refine bodyPost_ret (v := .agg (nc (D.pad s))) (by rw [results_cell1 rfl]; simp [asAddr, Result.andThen, lv_of_a h9]) rfl ⟨rfl, bel_grown hbel hg9 (Nat.le_refl _)⟩

end Go.Proofs.YtgnjjlgmlokhmaaGreatDoor.Nm
namespace Go.Proofs.YtgnjjlgmlokhmaaGreatDoor
namespace D
theorem us_ne {l : List Nd} (hR : Rt 3 false l) : ∀ x ∈ us 3 l [], ∀ w ∈ x.ws, w ≠ [] := by
 intro x hx w hw
 have hrep := us_rep 3 hR Rep.nil
 rw [List.nil_append] at hrep
 obtain ⟨v, hv, _, h4, e⟩ := (hrep.wrd x hx w).1 hw
 rcases gth_gd 3 hR v hv with ⟨h, _⟩ | ⟨_, h⟩
 ·omega
 ·intro he
  rw [he] at e
  have := ns_len v.t
  rw [e] at this
  simp at this
  omega
theorem jn_pos {ws : List (List Nat)} (hn : ∀ w ∈ ws, w ≠ []) (h : ws ≠ []) : (jn ws).size ≠ 0 := by
 obtain ⟨L, w, rfl⟩ : ∃ L w, ws = L ++ [w] := ⟨ws.dropLast, ws.getLast h, (List.dropLast_concat_getLast h).symm⟩
 rw [jn_snoc, ByteArray.size_append, sb_len]
 have := List.length_pos_iff.2 (hn w (by simp))
 omega
theorem jn_next {ws : List (List Nat)} (hn : ∀ w ∈ ws, w ≠ []) {k : Nat} {w : List Nat} (h : ws[k]? = some w) : jn (ws.take (k + 1)) = (if k = 0 then ⟨#[]⟩ else jn (ws.take k) ++ ⟨#[44]⟩) ++ sb w := by
 rw [List.take_add_one, h]
 show jn (ws.take k ++ [w]) = _
 rw [jn_snoc]
 by_cases hk : k = 0
 ·subst hk
  rfl
 ·have hk2 : k < ws.length := (List.getElem?_eq_some_iff.1 h).1
  rw [if_neg hk, if_neg (jn_pos (fun y hy => hn y (List.mem_of_mem_take hy)) (by
   intro e
   rcases List.take_eq_nil_iff.1 e with h1 | h1
   ·exact hk h1
   ·rw [h1] at hk2
    simp at hk2))]
theorem jn_le {M : Nat} : ∀ {n : Nat} {ws : List (List Nat)}, ws.length = n -> (∀ w ∈ ws, w.length <= M) -> (jn ws).size <= n * (M + 1)
 | 0, ws, h, _ => by
  obtain rfl := List.eq_nil_of_length_eq_zero h
  rw [Nat.zero_mul]; exact Nat.le_of_eq (show (⟨#[]⟩ : ByteArray).size = 0 from rfl)
 | n + 1, ws, h, hM => by
  have hne : ws ≠ [] := by rintro rfl; simp at h
  obtain ⟨L, w, rfl⟩ : ∃ L w, ws = L ++ [w] := ⟨ws.dropLast, ws.getLast hne, (List.dropLast_concat_getLast hne).symm⟩
  have ih := jn_le (n := n) (ws := L) (by simpa using h) (fun y hy => hM y (by simp [hy]))
  have hw := hM w (by simp)
  rw [jn_snoc, ByteArray.size_append, sb_len, Nat.succ_mul]
  have : (if (jn L).size = 0 then jn L else jn L ++ ⟨#[44]⟩).size <= (jn L).size + 1 := by
   split
   ·omega
   ·rw [ByteArray.size_append]; exact Nat.le_refl _
  omega
theorem us_sz {l : List Nd} (hR : Rt 3 false l) (hz : (prL l).length <= 60) : ∀ x ∈ us 3 l [], x.ws.length <= 60 ∧ ∀ w ∈ x.ws, w.length <= 60 := by
 intro x hx
 refine ⟨by have := (us_bd 3 hR (Bd.nil 0)).ws x hx; omega, fun w hw => ?_⟩
 have hrep := us_rep 3 hR Rep.nil
 rw [List.nil_append] at hrep
 obtain ⟨v, hv, _, h4, e⟩ := (hrep.wrd x hx w).1 hw
 have h1 := (gth_sm 3 hR hz v hv).2
 rw [<- e, ns_len]
 exact h1
end D
theorem pad_unp {x : Nm.D.Nm} (h : D.RnN x) : Nm.D.pad (D.sb (D.unp x)) = x := by
 have h8 : ∀ c ∈ D.unp x, c < 256 := by
  intro c hc
  exact x.lt c (Nm.D.hd_mem hc)
 apply Nm.D.Nm.eq
 show Nm.D.padl (D.ns (D.sb (D.unp x))) 12 = x.l
 rw [D.ns_sb h8, h.p]
end Go.Proofs.YtgnjjlgmlokhmaaGreatDoor
namespace Go.Proofs.YtgnjjlgmlokhmaaGreatDoor
open Go.RowKit
attribute [local go_sem ↓] Go.wp_at_zero Go.wp_at_succ

theorem ns_ext (s : ByteArray) (i k : Nat) : D.ns (s.extract i k) = D.sub (D.ns s) i k := by rw [ext_sub, D.ns_sb (sub_lt (ns_lt s) i k)]
theorem ms_one {F : Nat -> Prop} {w : World} {r g c : Nat} {x : D.Nd} {a b : Value} {cs : Array Value} (h : cs = (pcl [(x, a, b)]).toArray) (hg : w.heap[g]? = some (.cells cs 55)) (hF : F g) (hc : 1 <= c) (ha : a.oneCell' = true) (hb : b.oneCell' = true) (hB : Bel (Kd F w r) F w x a b) :
  Ms F w r (.slice (some ⟨g, 0, none⟩) 1 c) [x] := by
 refine (Ms_eq F w r _ _).2 ⟨_, 1, c, [(x, a, b)], rfl, hc, ⟨⟨rfl, fun _ => ⟨_, rfl, lt_of_block hg, fun j u hu => World.news_of_block hg j u (by rw [h]; exact hu)⟩⟩, fun _ ad e => ?_, fun _ ad e => ?_⟩, rfl, fun i y p q hi => ?_⟩
 ·injection e with e
  rw [<- e]
  exact hF
 ·injection e with e
  rw [<- e]
  exact ⟨_, _, hg⟩
 ·rcases i with _ | i
  ·simp at hi
   obtain ⟨rfl, rfl, rfl⟩ := hi
   exact ⟨ha, hb, hB⟩
  ·simp at hi
theorem heap_new {w : World} {g : Nat} {o : Obj} (hg : g = w.heap.size) : (w.alloc o).heap[g]? = some o := by
 subst hg
 exact heap_alloc_new w o
theorem mt_err {r : Nat} {w w' : World} {a e : Nat} {o : D.Ot} (ho : o = D.er_ a e) (hb : Below w.heap.size w w') : Mt r o w (.returned (.agg #[.slice none 0 0, .int .i64 a, .int .i64 e])) w' := by
 subst ho
 exact ⟨hb, none, 0, 0, rfl, Ms.nil _ _ _ _ _⟩
theorem mt_one {r : Nat} {w w' : World} {a g : Nat} {o : D.Ot} {x : D.Nd} {p q : Value} {cs : Array Value} (ho : o = ⟨[x], a, 0⟩) (hb : Below w.heap.size w w') (h : cs = (pcl [(x, p, q)]).toArray) (hg : w'.heap[g]? = some (.cells cs 55)) (hF : w.heap.size <= g) (hp : p.oneCell' = true) (hq : q.oneCell' = true) (hB : Bel (Kd (fun b => w.heap.size <= b) w' r) (fun b => w.heap.size <= b) w' x p q) :
  Mt r o w (.returned (.agg #[.slice (some ⟨g, 0, none⟩) 1 1, .int .i64 a, .int .i64 0])) w' := by
 subst ho
 exact ⟨hb, _, 1, 1, rfl, ms_one h hg hF (Nat.le_refl _) hp hq hB⟩
theorem txt_lit (a : ByteArray) (k : List UInt8) (t : List Nat) (h : k.map (·.toNat) = t) : (a.toList == k) = decide (D.ns a = t) := by
 have := txt_eq a ⟨k.toArray⟩
 rw [ByteArray.toList_eq ⟨k.toArray⟩] at this
 rw [<- h, Bool.eq_iff_iff, decide_eq_true_eq]
 rw [Bool.eq_iff_iff, decide_eq_true_eq] at this
 simpa [D.ns] using this
theorem knd_0 {t : List Nat} (h : D.kndT t = 0) : t ≠ D.numT ∧ t ≠ D.pluT ∧ t ≠ D.selT := by
 unfold D.kndT at h
 refine ⟨?_, ?_, ?_⟩ <;> rintro rfl <;> revert h <;> decide
section
variable (s : ByteArray) (l : List Nat) (hl : D.ns s = l) (hs : s.size <= 60) (i d : Nat) (hi : i <= s.size) (v : Bool) (r : Nat) (o : D.Ot) (w : World)
include hl hs hi
set_option maxHeartbeats 1000000 in
theorem place_1 (K : Nat) (hK : D.far D.wdB l i = K) (h1 : K = i) (ho : o = D.er_ i 3) :
  Calls Tryz.prog 29 #[.string s, .int .i64 i, .int .i64 d, .bool v] w (Mt r o w) := by
 have R1 := Lib.hid (fun W => run_any s i W hi (by omega))
 rw [hl, hK] at R1
 have hKi : i <= K := by rw [<- hK]; exact D.far_ge _ _ _
 have hKs : K <= s.size := by rw [<- hK, <- D.ns_len s, hl]; exact D.far_le (by rw [<- hl, D.ns_len]; exact hi)
 subst h1
 clear hl hK
 go_enter Tryz.func29, Tryz.ntmps29
 go_wp2_with (first
  | (go_at_call 51; (with_reducible refine (R1.out _).mono ?_); rintro e w1 ⟨rfl, rfl⟩))
 exact bodyPost_ret (v := .agg #[.slice none 0 0, .int .i64 K, .int .i64 3]) (by simp [results, Tryz.results29, go_sem]) rfl (mt_err ho ((Below.refl _ _).alloc (Nat.le_refl _) _))
set_option maxHeartbeats 1000000 in
theorem place_2 (K : Nat) (hK : D.far D.wdB l i = K) (h1 : K ≠ i) (h2 : Nm.D.isB (D.sub l i K) = false) (ho : o = D.er_ i 15) :
  Calls Tryz.prog 29 #[.string s, .int .i64 i, .int .i64 d, .bool v] w (Mt r o w) := by
 have R1 := Lib.hid (fun W => run_any s i W hi (by omega))
 rw [hl, hK] at R1
 have hKi : i <= K := by rw [<- hK]; exact D.far_ge _ _ _
 have hKs : K <= s.size := by rw [<- hK, <- D.ns_len s, hl]; exact D.far_le (by rw [<- hl, D.ns_len]; exact hi)
 have i1 : ((K : Int) == i) = false := by rw [beq_eq_false_iff_ne]; omega
 have iK : (i : Int) <= K := by omega
 have iS : (K : Int) <= s.size := by omega
 have RI := Lib.hid (fun W => Nm.ref_is (s.extract i K) W)
 rw [ns_ext, hl] at RI
 rw [h2] at RI
 clear hl hK h2
 go_enter Tryz.func29, Tryz.ntmps29
 go_wp2_with (first
  | (go_at_call 51; (with_reducible refine (R1.out _).mono ?_); rintro e w1 ⟨rfl, rfl⟩)
  | (go_at_call 52; (with_reducible refine (RI.out _).mono ?_); rintro e w1 ⟨rfl, rfl⟩))
 exact bodyPost_ret (v := .agg #[.slice none 0 0, .int .i64 i, .int .i64 15]) (by simp [results, Tryz.results29, go_sem]) rfl (mt_err ho ((((Below.refl _ _).alloc (Nat.le_refl _) _)).alloc (by simp) _))
set_option maxHeartbeats 1000000 in
theorem place_3 (K : Nat) (hK : D.far D.wdB l i = K) (h1 : K ≠ i) (h2 : Nm.D.isB (D.sub l i K) = true) (h3 : l[K]? = some 125) (ho : o = ⟨[D.Nd.mk 1 [] (D.sub l i K) [] []], K + 1, 0⟩) :
  Calls Tryz.prog 29 #[.string s, .int .i64 i, .int .i64 d, .bool v] w (Mt r o w) := by
 have R1 := Lib.hid (fun W => run_any s i W hi (by omega))
 rw [hl, hK] at R1
 have hKi : i <= K := by rw [<- hK]; exact D.far_ge _ _ _
 have hKs : K <= s.size := by rw [<- hK, <- D.ns_len s, hl]; exact D.far_le (by rw [<- hl, D.ns_len]; exact hi)
 have i1 : ((K : Int) == i) = false := by rw [beq_eq_false_iff_ne]; omega
 have iK : (i : Int) <= K := by omega
 have iS : (K : Int) <= s.size := by omega
 have RI := Lib.hid (fun W => Nm.ref_is (s.extract i K) W)
 rw [ns_ext, hl] at RI
 rw [h2] at RI
 have RA := Lib.hid (fun W => at_any s K W)
 rw [hl] at RA
 rw [D.atI_some h3] at RA
 have hE := Lib.hid (ext_sub s i K)
 rw [hl] at hE
 have hbt := Lib.hid (sub_lt (ns_lt s) i K)
 rw [hl] at hbt
 clear hl hK h2 h3
 go_enter Tryz.func29, Tryz.ntmps29
 go_wp2_with (first
  | (go_at_call 51; (with_reducible refine (R1.out _).mono ?_); rintro e w1 ⟨rfl, rfl⟩)
  | (go_at_call 52; (with_reducible refine (RI.out _).mono ?_); rintro e w1 ⟨rfl, rfl⟩)
  | (go_at_call 28; (with_reducible refine (RA.out _).mono ?_); rintro e w1 ⟨rfl, rfl⟩))
 exact bodyPost_ret (v := .agg #[.slice (some ⟨w.heap.size + 1 + 1, 0, none⟩) 1 1, .int .i64 ((K : Int) + 1), .int .i64 0]) (by simp [results, Tryz.results29, go_sem]) rfl (mt_one ho ((((((Below.refl _ _).alloc (Nat.le_refl _) _)).alloc (by simp) _)).alloc (by simp; omega) _) (by simp [pcl, D.Nd.k, D.Nd.t, D.Nd.n, hE.out]; rfl) (heap_new (by simp)) (by omega) rfl rfl (bel_leaf (fun _ h => by cases h) hbt.out))
set_option maxHeartbeats 1000000 in
theorem place_4 (K : Nat) (hK : D.far D.wdB l i = K) (h1 : K ≠ i) (h2 : Nm.D.isB (D.sub l i K) = true) (h3 : l[K]? ≠ some 125) (h4 : l[K]? ≠ some 44) (ho : o = D.er_ K 3) :
  Calls Tryz.prog 29 #[.string s, .int .i64 i, .int .i64 d, .bool v] w (Mt r o w) := by
 have R1 := Lib.hid (fun W => run_any s i W hi (by omega))
 rw [hl, hK] at R1
 have hKi : i <= K := by rw [<- hK]; exact D.far_ge _ _ _
 have hKs : K <= s.size := by rw [<- hK, <- D.ns_len s, hl]; exact D.far_le (by rw [<- hl, D.ns_len]; exact hi)
 have i1 : ((K : Int) == i) = false := by rw [beq_eq_false_iff_ne]; omega
 have iK : (i : Int) <= K := by omega
 have iS : (K : Int) <= s.size := by omega
 have RI := Lib.hid (fun W => Nm.ref_is (s.extract i K) W)
 rw [ns_ext, hl] at RI
 rw [h2] at RI
 have RA := Lib.hid (fun W => at_any s K W)
 rw [hl] at RA
 obtain ⟨x, hx⟩ : ∃ x, D.atI l K = x := ⟨_, rfl⟩
 rw [hx] at RA
 have i3 : (x == 125) = false := by rw [beq_eq_false_iff_ne, <- hx]; exact fun h => h3 (D.atI_is h)
 have i4 : (x != 44) = true := by rw [bne_iff_ne, <- hx]; exact fun h => h4 (D.atI_is h)
 clear hl hK h2 h3 h4 hx
 go_enter Tryz.func29, Tryz.ntmps29
 go_wp2_with (first
  | (go_at_call 51; (with_reducible refine (R1.out _).mono ?_); rintro e w1 ⟨rfl, rfl⟩)
  | (go_at_call 52; (with_reducible refine (RI.out _).mono ?_); rintro e w1 ⟨rfl, rfl⟩)
  | (go_at_call 28; (with_reducible refine (RA.out _).mono ?_); rintro e w1 ⟨rfl, rfl⟩))
 exact bodyPost_ret (v := .agg #[.slice none 0 0, .int .i64 K, .int .i64 3]) (by simp [results, Tryz.results29, go_sem]) rfl (mt_err ho ((((Below.refl _ _).alloc (Nat.le_refl _) _)).alloc (by simp) _))
set_option maxHeartbeats 1000000 in
theorem place_5 (K : Nat) (hK : D.far D.wdB l i = K) (h1 : K ≠ i) (h2 : Nm.D.isB (D.sub l i K) = true) (h4 : l[K]? = some 44) (J Q : Nat) (hJ : D.far (· == 32) l (K + 1) = J) (hQ : D.far D.wdB l J = Q) (h5 : Q = J) (ho : o = D.er_ J 3) :
  Calls Tryz.prog 29 #[.string s, .int .i64 i, .int .i64 d, .bool v] w (Mt r o w) := by
 have R1 := Lib.hid (fun W => run_any s i W hi (by omega))
 rw [hl, hK] at R1
 have hKi : i <= K := by rw [<- hK]; exact D.far_ge _ _ _
 have hKs : K <= s.size := by rw [<- hK, <- D.ns_len s, hl]; exact D.far_le (by rw [<- hl, D.ns_len]; exact hi)
 have i1 : ((K : Int) == i) = false := by rw [beq_eq_false_iff_ne]; omega
 have iK : (i : Int) <= K := by omega
 have iS : (K : Int) <= s.size := by omega
 have RI := Lib.hid (fun W => Nm.ref_is (s.extract i K) W)
 rw [ns_ext, hl] at RI
 rw [h2] at RI
 have RA := Lib.hid (fun W => at_any s K W)
 rw [hl] at RA
 rw [D.atI_some h4] at RA
 have hK1 : K + 1 <= s.size := by have := (List.getElem?_eq_some_iff.1 h4).1; rw [<- D.ns_len s, hl]; omega
 have hJs : J <= s.size := by rw [<- hJ, <- D.ns_len s, hl]; exact D.far_le (by rw [<- hl, D.ns_len]; exact hK1)
 have RS : Hid (∀ W, Calls Tryz.prog 53 #[.string s, .int .i64 ((K : Int) + 1)] W fun e w' => e = .returned (.int .i64 (J : Int)) ∧ W = w') := Lib.hid (fun W => by have := skip_any s (K + 1) W hK1 (by omega); rw [hl, hJ] at this; exact this)
 have R2 := Lib.hid (fun W => run_any s J W hJs (by omega))
 rw [hl, hQ] at R2
 have hJQ : J <= Q := by rw [<- hQ]; exact D.far_ge _ _ _
 have hQs : Q <= s.size := by rw [<- hQ, <- D.ns_len s, hl]; exact D.far_le (by rw [<- hl, D.ns_len]; exact hJs)
 subst h5
 clear hl hK h2 h4 hJ hQ
 go_enter Tryz.func29, Tryz.ntmps29
 go_wp2_with (first
  | (go_at_call 51; (with_reducible refine (R1.out _).mono ?_); rintro e w1 ⟨rfl, rfl⟩)
  | (go_at_call 51; (with_reducible refine (R2.out _).mono ?_); rintro e w1 ⟨rfl, rfl⟩)
  | (go_at_call 52; (with_reducible refine (RI.out _).mono ?_); rintro e w1 ⟨rfl, rfl⟩)
  | (go_at_call 28; (with_reducible refine (RA.out _).mono ?_); rintro e w1 ⟨rfl, rfl⟩)
  | (go_at_call 53; (with_reducible refine (RS.out _).mono ?_); rintro e w1 ⟨rfl, rfl⟩))
 exact bodyPost_ret (v := .agg #[.slice none 0 0, .int .i64 Q, .int .i64 3]) (by simp [results, Tryz.results29, go_sem]) rfl (mt_err ho ((((Below.refl _ _).alloc (Nat.le_refl _) _)).alloc (by simp) _))
set_option maxHeartbeats 1000000 in
theorem place_6 (K : Nat) (hK : D.far D.wdB l i = K) (h1 : K ≠ i) (h2 : Nm.D.isB (D.sub l i K) = true) (h4 : l[K]? = some 44) (J Q : Nat) (hJ : D.far (· == 32) l (K + 1) = J) (hQ : D.far D.wdB l J = Q) (h5 : Q ≠ J) (h6 : D.kndT (D.sub l J Q) = 0) (ho : o = D.er_ J 16) :
  Calls Tryz.prog 29 #[.string s, .int .i64 i, .int .i64 d, .bool v] w (Mt r o w) := by
 have R1 := Lib.hid (fun W => run_any s i W hi (by omega))
 rw [hl, hK] at R1
 have hKi : i <= K := by rw [<- hK]; exact D.far_ge _ _ _
 have hKs : K <= s.size := by rw [<- hK, <- D.ns_len s, hl]; exact D.far_le (by rw [<- hl, D.ns_len]; exact hi)
 have i1 : ((K : Int) == i) = false := by rw [beq_eq_false_iff_ne]; omega
 have iK : (i : Int) <= K := by omega
 have iS : (K : Int) <= s.size := by omega
 have RI := Lib.hid (fun W => Nm.ref_is (s.extract i K) W)
 rw [ns_ext, hl] at RI
 rw [h2] at RI
 have RA := Lib.hid (fun W => at_any s K W)
 rw [hl] at RA
 rw [D.atI_some h4] at RA
 have hK1 : K + 1 <= s.size := by have := (List.getElem?_eq_some_iff.1 h4).1; rw [<- D.ns_len s, hl]; omega
 have hJs : J <= s.size := by rw [<- hJ, <- D.ns_len s, hl]; exact D.far_le (by rw [<- hl, D.ns_len]; exact hK1)
 have RS : Hid (∀ W, Calls Tryz.prog 53 #[.string s, .int .i64 ((K : Int) + 1)] W fun e w' => e = .returned (.int .i64 (J : Int)) ∧ W = w') := Lib.hid (fun W => by have := skip_any s (K + 1) W hK1 (by omega); rw [hl, hJ] at this; exact this)
 have R2 := Lib.hid (fun W => run_any s J W hJs (by omega))
 rw [hl, hQ] at R2
 have hJQ : J <= Q := by rw [<- hQ]; exact D.far_ge _ _ _
 have hQs : Q <= s.size := by rw [<- hQ, <- D.ns_len s, hl]; exact D.far_le (by rw [<- hl, D.ns_len]; exact hJs)
 have i5 : ((Q : Int) == J) = false := by rw [beq_eq_false_iff_ne]; omega
 have iJ : (J : Int) <= Q := by omega
 have iT : (Q : Int) <= s.size := by omega
 have T2 := txt_lit (s.extract J Q) [110, 117, 109, 98, 101, 114] D.numT rfl
 have T3 := txt_lit (s.extract J Q) [112, 108, 117, 114, 97, 108] D.pluT rfl
 have T4 := txt_lit (s.extract J Q) [115, 101, 108, 101, 99, 116] D.selT rfl
 rw [ns_ext, hl] at T2 T3 T4
 obtain ⟨n2, n3, n4⟩ := knd_0 h6
 rw [decide_eq_false n2] at T2
 rw [decide_eq_false n3] at T3
 rw [decide_eq_false n4] at T4
 clear hl hK h2 h4 hJ hQ h6 n2 n3 n4
 go_enter Tryz.func29, Tryz.ntmps29
 go_wp2_with (first
  | (go_at_call 51; (with_reducible refine (R1.out _).mono ?_); rintro e w1 ⟨rfl, rfl⟩)
  | (go_at_call 51; (with_reducible refine (R2.out _).mono ?_); rintro e w1 ⟨rfl, rfl⟩)
  | (go_at_call 52; (with_reducible refine (RI.out _).mono ?_); rintro e w1 ⟨rfl, rfl⟩)
  | (go_at_call 28; (with_reducible refine (RA.out _).mono ?_); rintro e w1 ⟨rfl, rfl⟩)
  | (go_at_call 53; (with_reducible refine (RS.out _).mono ?_); rintro e w1 ⟨rfl, rfl⟩))
 exact bodyPost_ret (v := .agg #[.slice none 0 0, .int .i64 J, .int .i64 16]) (by simp [results, Tryz.results29, go_sem]) rfl (mt_err ho ((((Below.refl _ _).alloc (Nat.le_refl _) _)).alloc (by simp) _))
set_option maxHeartbeats 1000000 in
theorem place_7 (K : Nat) (hK : D.far D.wdB l i = K) (h1 : K ≠ i) (h2 : Nm.D.isB (D.sub l i K) = true) (h4 : l[K]? = some 44) (J Q : Nat) (hJ : D.far (· == 32) l (K + 1) = J) (hQ : D.far D.wdB l J = Q) (h5 : Q ≠ J) (h6 : D.sub l J Q = D.numT) (h7 : l[Q]? ≠ some 125) (ho : o = D.er_ Q 3) :
  Calls Tryz.prog 29 #[.string s, .int .i64 i, .int .i64 d, .bool v] w (Mt r o w) := by
 have R1 := Lib.hid (fun W => run_any s i W hi (by omega))
 rw [hl, hK] at R1
 have hKi : i <= K := by rw [<- hK]; exact D.far_ge _ _ _
 have hKs : K <= s.size := by rw [<- hK, <- D.ns_len s, hl]; exact D.far_le (by rw [<- hl, D.ns_len]; exact hi)
 have i1 : ((K : Int) == i) = false := by rw [beq_eq_false_iff_ne]; omega
 have iK : (i : Int) <= K := by omega
 have iS : (K : Int) <= s.size := by omega
 have RI := Lib.hid (fun W => Nm.ref_is (s.extract i K) W)
 rw [ns_ext, hl] at RI
 rw [h2] at RI
 have RA := Lib.hid (fun W => at_any s K W)
 rw [hl] at RA
 rw [D.atI_some h4] at RA
 have hK1 : K + 1 <= s.size := by have := (List.getElem?_eq_some_iff.1 h4).1; rw [<- D.ns_len s, hl]; omega
 have hJs : J <= s.size := by rw [<- hJ, <- D.ns_len s, hl]; exact D.far_le (by rw [<- hl, D.ns_len]; exact hK1)
 have RS : Hid (∀ W, Calls Tryz.prog 53 #[.string s, .int .i64 ((K : Int) + 1)] W fun e w' => e = .returned (.int .i64 (J : Int)) ∧ W = w') := Lib.hid (fun W => by have := skip_any s (K + 1) W hK1 (by omega); rw [hl, hJ] at this; exact this)
 have R2 := Lib.hid (fun W => run_any s J W hJs (by omega))
 rw [hl, hQ] at R2
 have hJQ : J <= Q := by rw [<- hQ]; exact D.far_ge _ _ _
 have hQs : Q <= s.size := by rw [<- hQ, <- D.ns_len s, hl]; exact D.far_le (by rw [<- hl, D.ns_len]; exact hJs)
 have i5 : ((Q : Int) == J) = false := by rw [beq_eq_false_iff_ne]; omega
 have iJ : (J : Int) <= Q := by omega
 have iT : (Q : Int) <= s.size := by omega
 have T2 := txt_lit (s.extract J Q) [110, 117, 109, 98, 101, 114] D.numT rfl
 have T3 := txt_lit (s.extract J Q) [112, 108, 117, 114, 97, 108] D.pluT rfl
 have T4 := txt_lit (s.extract J Q) [115, 101, 108, 101, 99, 116] D.selT rfl
 rw [ns_ext, hl] at T2 T3 T4
 rw [h6, decide_eq_true rfl] at T2
 have hx : ∃ x, D.atI l Q = x := ⟨_, rfl⟩
 obtain ⟨x, hx⟩ := hx
 have RB := Lib.hid (fun W => at_any s Q W)
 rw [hl, hx] at RB
 have i7 : (x != 125) = true := by rw [bne_iff_ne, <- hx]; exact fun h => h7 (D.atI_is h)
 clear T3 T4 hl hK h2 h4 hJ hQ h6 h7 hx
 go_enter Tryz.func29, Tryz.ntmps29
 go_wp2_with (first
  | (go_at_call 51; (with_reducible refine (R1.out _).mono ?_); rintro e w1 ⟨rfl, rfl⟩)
  | (go_at_call 51; (with_reducible refine (R2.out _).mono ?_); rintro e w1 ⟨rfl, rfl⟩)
  | (go_at_call 52; (with_reducible refine (RI.out _).mono ?_); rintro e w1 ⟨rfl, rfl⟩)
  | (go_at_call 28; (with_reducible refine (RA.out _).mono ?_); rintro e w1 ⟨rfl, rfl⟩)
  | (go_at_call 53; (with_reducible refine (RS.out _).mono ?_); rintro e w1 ⟨rfl, rfl⟩)
  | (go_at_call 28; (with_reducible refine (RB.out _).mono ?_); rintro e w1 ⟨rfl, rfl⟩))
 exact bodyPost_ret (v := .agg #[.slice none 0 0, .int .i64 Q, .int .i64 3]) (by simp [results, Tryz.results29, go_sem]) rfl (mt_err ho ((((Below.refl _ _).alloc (Nat.le_refl _) _)).alloc (by simp) _))
set_option maxHeartbeats 1000000 in
theorem place_8 (K : Nat) (hK : D.far D.wdB l i = K) (h1 : K ≠ i) (h2 : Nm.D.isB (D.sub l i K) = true) (h4 : l[K]? = some 44) (J Q : Nat) (hJ : D.far (· == 32) l (K + 1) = J) (hQ : D.far D.wdB l J = Q) (h5 : Q ≠ J) (h6 : D.sub l J Q = D.numT) (h7 : l[Q]? = some 125) (ho : o = ⟨[D.Nd.mk 2 [] (D.sub l i K) [] []], Q + 1, 0⟩) :
  Calls Tryz.prog 29 #[.string s, .int .i64 i, .int .i64 d, .bool v] w (Mt r o w) := by
 have R1 := Lib.hid (fun W => run_any s i W hi (by omega))
 rw [hl, hK] at R1
 have hKi : i <= K := by rw [<- hK]; exact D.far_ge _ _ _
 have hKs : K <= s.size := by rw [<- hK, <- D.ns_len s, hl]; exact D.far_le (by rw [<- hl, D.ns_len]; exact hi)
 have i1 : ((K : Int) == i) = false := by rw [beq_eq_false_iff_ne]; omega
 have iK : (i : Int) <= K := by omega
 have iS : (K : Int) <= s.size := by omega
 have RI := Lib.hid (fun W => Nm.ref_is (s.extract i K) W)
 rw [ns_ext, hl] at RI
 rw [h2] at RI
 have RA := Lib.hid (fun W => at_any s K W)
 rw [hl] at RA
 rw [D.atI_some h4] at RA
 have hK1 : K + 1 <= s.size := by have := (List.getElem?_eq_some_iff.1 h4).1; rw [<- D.ns_len s, hl]; omega
 have hJs : J <= s.size := by rw [<- hJ, <- D.ns_len s, hl]; exact D.far_le (by rw [<- hl, D.ns_len]; exact hK1)
 have RS : Hid (∀ W, Calls Tryz.prog 53 #[.string s, .int .i64 ((K : Int) + 1)] W fun e w' => e = .returned (.int .i64 (J : Int)) ∧ W = w') := Lib.hid (fun W => by have := skip_any s (K + 1) W hK1 (by omega); rw [hl, hJ] at this; exact this)
 have R2 := Lib.hid (fun W => run_any s J W hJs (by omega))
 rw [hl, hQ] at R2
 have hJQ : J <= Q := by rw [<- hQ]; exact D.far_ge _ _ _
 have hQs : Q <= s.size := by rw [<- hQ, <- D.ns_len s, hl]; exact D.far_le (by rw [<- hl, D.ns_len]; exact hJs)
 have i5 : ((Q : Int) == J) = false := by rw [beq_eq_false_iff_ne]; omega
 have iJ : (J : Int) <= Q := by omega
 have iT : (Q : Int) <= s.size := by omega
 have T2 := txt_lit (s.extract J Q) [110, 117, 109, 98, 101, 114] D.numT rfl
 have T3 := txt_lit (s.extract J Q) [112, 108, 117, 114, 97, 108] D.pluT rfl
 have T4 := txt_lit (s.extract J Q) [115, 101, 108, 101, 99, 116] D.selT rfl
 rw [ns_ext, hl] at T2 T3 T4
 rw [h6, decide_eq_true rfl] at T2
 have hx : ∃ x, D.atI l Q = x := ⟨_, rfl⟩
 obtain ⟨x, hx⟩ := hx
 have RB := Lib.hid (fun W => at_any s Q W)
 rw [hl, hx] at RB
 rw [<- hx, D.atI_some h7] at RB
 have hE := Lib.hid (ext_sub s i K)
 rw [hl] at hE
 have hbt := Lib.hid (sub_lt (ns_lt s) i K)
 rw [hl] at hbt
 clear T3 T4 hl hK h2 h4 hJ hQ h6 h7 hx
 go_enter Tryz.func29, Tryz.ntmps29
 go_wp2_with (first
  | (go_at_call 51; (with_reducible refine (R1.out _).mono ?_); rintro e w1 ⟨rfl, rfl⟩)
  | (go_at_call 51; (with_reducible refine (R2.out _).mono ?_); rintro e w1 ⟨rfl, rfl⟩)
  | (go_at_call 52; (with_reducible refine (RI.out _).mono ?_); rintro e w1 ⟨rfl, rfl⟩)
  | (go_at_call 28; (with_reducible refine (RA.out _).mono ?_); rintro e w1 ⟨rfl, rfl⟩)
  | (go_at_call 53; (with_reducible refine (RS.out _).mono ?_); rintro e w1 ⟨rfl, rfl⟩)
  | (go_at_call 28; (with_reducible refine (RB.out _).mono ?_); rintro e w1 ⟨rfl, rfl⟩))
 exact bodyPost_ret (v := .agg #[.slice (some ⟨w.heap.size + 1 + 1, 0, none⟩) 1 1, .int .i64 ((Q : Int) + 1), .int .i64 0]) (by simp [results, Tryz.results29, go_sem]) rfl (mt_one ho ((((((Below.refl _ _).alloc (Nat.le_refl _) _)).alloc (by simp) _)).alloc (by simp; omega) _) (by simp [pcl, D.Nd.k, D.Nd.t, D.Nd.n, hE.out]; rfl) (heap_new (by simp)) (by omega) rfl rfl (bel_leaf (fun _ h => by cases h) hbt.out))
set_option maxHeartbeats 1000000 in
theorem place_9_3 (K : Nat) (hK : D.far D.wdB l i = K) (h1 : K ≠ i) (h2 : Nm.D.isB (D.sub l i K) = true) (h4 : l[K]? = some 44) (J Q : Nat) (hJ : D.far (· == 32) l (K + 1) = J) (hQ : D.far D.wdB l J = Q) (h5 : Q ≠ J) (h6 : D.sub l J Q = D.pluT) (h7 : 3 <= d) (ho : o = D.er_ J 19) :
  Calls Tryz.prog 29 #[.string s, .int .i64 i, .int .i64 d, .bool v] w (Mt r o w) := by
 have R1 := Lib.hid (fun W => run_any s i W hi (by omega))
 rw [hl, hK] at R1
 have hKi : i <= K := by rw [<- hK]; exact D.far_ge _ _ _
 have hKs : K <= s.size := by rw [<- hK, <- D.ns_len s, hl]; exact D.far_le (by rw [<- hl, D.ns_len]; exact hi)
 have i1 : ((K : Int) == i) = false := by rw [beq_eq_false_iff_ne]; omega
 have iK : (i : Int) <= K := by omega
 have iS : (K : Int) <= s.size := by omega
 have RI := Lib.hid (fun W => Nm.ref_is (s.extract i K) W)
 rw [ns_ext, hl] at RI
 rw [h2] at RI
 have RA := Lib.hid (fun W => at_any s K W)
 rw [hl] at RA
 rw [D.atI_some h4] at RA
 have hK1 : K + 1 <= s.size := by have := (List.getElem?_eq_some_iff.1 h4).1; rw [<- D.ns_len s, hl]; omega
 have hJs : J <= s.size := by rw [<- hJ, <- D.ns_len s, hl]; exact D.far_le (by rw [<- hl, D.ns_len]; exact hK1)
 have RS : Hid (∀ W, Calls Tryz.prog 53 #[.string s, .int .i64 ((K : Int) + 1)] W fun e w' => e = .returned (.int .i64 (J : Int)) ∧ W = w') := Lib.hid (fun W => by have := skip_any s (K + 1) W hK1 (by omega); rw [hl, hJ] at this; exact this)
 have R2 := Lib.hid (fun W => run_any s J W hJs (by omega))
 rw [hl, hQ] at R2
 have hJQ : J <= Q := by rw [<- hQ]; exact D.far_ge _ _ _
 have hQs : Q <= s.size := by rw [<- hQ, <- D.ns_len s, hl]; exact D.far_le (by rw [<- hl, D.ns_len]; exact hJs)
 have i5 : ((Q : Int) == J) = false := by rw [beq_eq_false_iff_ne]; omega
 have iJ : (J : Int) <= Q := by omega
 have iT : (Q : Int) <= s.size := by omega
 have T2 := txt_lit (s.extract J Q) [110, 117, 109, 98, 101, 114] D.numT rfl
 have T3 := txt_lit (s.extract J Q) [112, 108, 117, 114, 97, 108] D.pluT rfl
 have T4 := txt_lit (s.extract J Q) [115, 101, 108, 101, 99, 116] D.selT rfl
 rw [ns_ext, hl] at T2 T3 T4
 have n2 : D.sub l J Q ≠ D.numT := by rw [h6]; decide
 rw [decide_eq_false n2] at T2
 rw [h6, decide_eq_true rfl] at T3
 clear T4
 have i7 : (3 : Int) <= d := by omega
 clear hl hK h2 h4 hJ hQ h6 n2
 go_enter Tryz.func29, Tryz.ntmps29
 go_wp2_with (first
  | (go_at_call 51; (with_reducible refine (R1.out _).mono ?_); rintro e w1 ⟨rfl, rfl⟩)
  | (go_at_call 51; (with_reducible refine (R2.out _).mono ?_); rintro e w1 ⟨rfl, rfl⟩)
  | (go_at_call 52; (with_reducible refine (RI.out _).mono ?_); rintro e w1 ⟨rfl, rfl⟩)
  | (go_at_call 28; (with_reducible refine (RA.out _).mono ?_); rintro e w1 ⟨rfl, rfl⟩)
  | (go_at_call 53; (with_reducible refine (RS.out _).mono ?_); rintro e w1 ⟨rfl, rfl⟩))
 exact bodyPost_ret (v := .agg #[.slice none 0 0, .int .i64 J, .int .i64 19]) (by simp [results, Tryz.results29, go_sem]) rfl (mt_err ho ((((Below.refl _ _).alloc (Nat.le_refl _) _)).alloc (by simp) _))
set_option maxHeartbeats 1000000 in
theorem place_10_3 (K : Nat) (hK : D.far D.wdB l i = K) (h1 : K ≠ i) (h2 : Nm.D.isB (D.sub l i K) = true) (h4 : l[K]? = some 44) (J Q : Nat) (hJ : D.far (· == 32) l (K + 1) = J) (hQ : D.far D.wdB l J = Q) (h5 : Q ≠ J) (h6 : D.sub l J Q = D.pluT) (h7 : d < 3) (h8 : l[Q]? ≠ some 44) (ho : o = D.er_ Q 3) :
  Calls Tryz.prog 29 #[.string s, .int .i64 i, .int .i64 d, .bool v] w (Mt r o w) := by
 have R1 := Lib.hid (fun W => run_any s i W hi (by omega))
 rw [hl, hK] at R1
 have hKi : i <= K := by rw [<- hK]; exact D.far_ge _ _ _
 have hKs : K <= s.size := by rw [<- hK, <- D.ns_len s, hl]; exact D.far_le (by rw [<- hl, D.ns_len]; exact hi)
 have i1 : ((K : Int) == i) = false := by rw [beq_eq_false_iff_ne]; omega
 have iK : (i : Int) <= K := by omega
 have iS : (K : Int) <= s.size := by omega
 have RI := Lib.hid (fun W => Nm.ref_is (s.extract i K) W)
 rw [ns_ext, hl] at RI
 rw [h2] at RI
 have RA := Lib.hid (fun W => at_any s K W)
 rw [hl] at RA
 rw [D.atI_some h4] at RA
 have hK1 : K + 1 <= s.size := by have := (List.getElem?_eq_some_iff.1 h4).1; rw [<- D.ns_len s, hl]; omega
 have hJs : J <= s.size := by rw [<- hJ, <- D.ns_len s, hl]; exact D.far_le (by rw [<- hl, D.ns_len]; exact hK1)
 have RS : Hid (∀ W, Calls Tryz.prog 53 #[.string s, .int .i64 ((K : Int) + 1)] W fun e w' => e = .returned (.int .i64 (J : Int)) ∧ W = w') := Lib.hid (fun W => by have := skip_any s (K + 1) W hK1 (by omega); rw [hl, hJ] at this; exact this)
 have R2 := Lib.hid (fun W => run_any s J W hJs (by omega))
 rw [hl, hQ] at R2
 have hJQ : J <= Q := by rw [<- hQ]; exact D.far_ge _ _ _
 have hQs : Q <= s.size := by rw [<- hQ, <- D.ns_len s, hl]; exact D.far_le (by rw [<- hl, D.ns_len]; exact hJs)
 have i5 : ((Q : Int) == J) = false := by rw [beq_eq_false_iff_ne]; omega
 have iJ : (J : Int) <= Q := by omega
 have iT : (Q : Int) <= s.size := by omega
 have T2 := txt_lit (s.extract J Q) [110, 117, 109, 98, 101, 114] D.numT rfl
 have T3 := txt_lit (s.extract J Q) [112, 108, 117, 114, 97, 108] D.pluT rfl
 have T4 := txt_lit (s.extract J Q) [115, 101, 108, 101, 99, 116] D.selT rfl
 rw [ns_ext, hl] at T2 T3 T4
 have n2 : D.sub l J Q ≠ D.numT := by rw [h6]; decide
 rw [decide_eq_false n2] at T2
 rw [h6, decide_eq_true rfl] at T3
 clear T4
 have i7 : (d : Int) < 3 := by omega
 have hx : ∃ x, D.atI l Q = x := ⟨_, rfl⟩
 obtain ⟨x, hx⟩ := hx
 have RB := Lib.hid (fun W => at_any s Q W)
 rw [hl, hx] at RB
 have i8 : (x != 44) = true := by rw [bne_iff_ne, <- hx]; exact fun h => h8 (D.atI_is h)
 clear hl hK h2 h4 hJ hQ h6 h8 n2 hx
 go_enter Tryz.func29, Tryz.ntmps29
 go_wp2_with (first
  | (go_at_call 51; (with_reducible refine (R1.out _).mono ?_); rintro e w1 ⟨rfl, rfl⟩)
  | (go_at_call 51; (with_reducible refine (R2.out _).mono ?_); rintro e w1 ⟨rfl, rfl⟩)
  | (go_at_call 52; (with_reducible refine (RI.out _).mono ?_); rintro e w1 ⟨rfl, rfl⟩)
  | (go_at_call 28; (with_reducible refine (RA.out _).mono ?_); rintro e w1 ⟨rfl, rfl⟩)
  | (go_at_call 53; (with_reducible refine (RS.out _).mono ?_); rintro e w1 ⟨rfl, rfl⟩)
  | (go_at_call 28; (with_reducible refine (RB.out _).mono ?_); rintro e w1 ⟨rfl, rfl⟩))
 exact bodyPost_ret (v := .agg #[.slice none 0 0, .int .i64 Q, .int .i64 3]) (by simp [results, Tryz.results29, go_sem]) rfl (mt_err ho ((((Below.refl _ _).alloc (Nat.le_refl _) _)).alloc (by simp) _))
set_option maxHeartbeats 1000000 in
theorem place_9_4 (K : Nat) (hK : D.far D.wdB l i = K) (h1 : K ≠ i) (h2 : Nm.D.isB (D.sub l i K) = true) (h4 : l[K]? = some 44) (J Q : Nat) (hJ : D.far (· == 32) l (K + 1) = J) (hQ : D.far D.wdB l J = Q) (h5 : Q ≠ J) (h6 : D.sub l J Q = D.selT) (h7 : 3 <= d) (ho : o = D.er_ J 19) :
  Calls Tryz.prog 29 #[.string s, .int .i64 i, .int .i64 d, .bool v] w (Mt r o w) := by
 have R1 := Lib.hid (fun W => run_any s i W hi (by omega))
 rw [hl, hK] at R1
 have hKi : i <= K := by rw [<- hK]; exact D.far_ge _ _ _
 have hKs : K <= s.size := by rw [<- hK, <- D.ns_len s, hl]; exact D.far_le (by rw [<- hl, D.ns_len]; exact hi)
 have i1 : ((K : Int) == i) = false := by rw [beq_eq_false_iff_ne]; omega
 have iK : (i : Int) <= K := by omega
 have iS : (K : Int) <= s.size := by omega
 have RI := Lib.hid (fun W => Nm.ref_is (s.extract i K) W)
 rw [ns_ext, hl] at RI
 rw [h2] at RI
 have RA := Lib.hid (fun W => at_any s K W)
 rw [hl] at RA
 rw [D.atI_some h4] at RA
 have hK1 : K + 1 <= s.size := by have := (List.getElem?_eq_some_iff.1 h4).1; rw [<- D.ns_len s, hl]; omega
 have hJs : J <= s.size := by rw [<- hJ, <- D.ns_len s, hl]; exact D.far_le (by rw [<- hl, D.ns_len]; exact hK1)
 have RS : Hid (∀ W, Calls Tryz.prog 53 #[.string s, .int .i64 ((K : Int) + 1)] W fun e w' => e = .returned (.int .i64 (J : Int)) ∧ W = w') := Lib.hid (fun W => by have := skip_any s (K + 1) W hK1 (by omega); rw [hl, hJ] at this; exact this)
 have R2 := Lib.hid (fun W => run_any s J W hJs (by omega))
 rw [hl, hQ] at R2
 have hJQ : J <= Q := by rw [<- hQ]; exact D.far_ge _ _ _
 have hQs : Q <= s.size := by rw [<- hQ, <- D.ns_len s, hl]; exact D.far_le (by rw [<- hl, D.ns_len]; exact hJs)
 have i5 : ((Q : Int) == J) = false := by rw [beq_eq_false_iff_ne]; omega
 have iJ : (J : Int) <= Q := by omega
 have iT : (Q : Int) <= s.size := by omega
 have T2 := txt_lit (s.extract J Q) [110, 117, 109, 98, 101, 114] D.numT rfl
 have T3 := txt_lit (s.extract J Q) [112, 108, 117, 114, 97, 108] D.pluT rfl
 have T4 := txt_lit (s.extract J Q) [115, 101, 108, 101, 99, 116] D.selT rfl
 rw [ns_ext, hl] at T2 T3 T4
 have n2 : D.sub l J Q ≠ D.numT := by rw [h6]; decide
 rw [decide_eq_false n2] at T2
 have n3 : D.sub l J Q ≠ D.pluT := by rw [h6]; decide
 rw [decide_eq_false n3] at T3
 rw [h6, decide_eq_true rfl] at T4
 clear n3
 have i7 : (3 : Int) <= d := by omega
 clear hl hK h2 h4 hJ hQ h6 n2
 go_enter Tryz.func29, Tryz.ntmps29
 go_wp2_with (first
  | (go_at_call 51; (with_reducible refine (R1.out _).mono ?_); rintro e w1 ⟨rfl, rfl⟩)
  | (go_at_call 51; (with_reducible refine (R2.out _).mono ?_); rintro e w1 ⟨rfl, rfl⟩)
  | (go_at_call 52; (with_reducible refine (RI.out _).mono ?_); rintro e w1 ⟨rfl, rfl⟩)
  | (go_at_call 28; (with_reducible refine (RA.out _).mono ?_); rintro e w1 ⟨rfl, rfl⟩)
  | (go_at_call 53; (with_reducible refine (RS.out _).mono ?_); rintro e w1 ⟨rfl, rfl⟩))
 exact bodyPost_ret (v := .agg #[.slice none 0 0, .int .i64 J, .int .i64 19]) (by simp [results, Tryz.results29, go_sem]) rfl (mt_err ho ((((Below.refl _ _).alloc (Nat.le_refl _) _)).alloc (by simp) _))
set_option maxHeartbeats 1000000 in
theorem place_10_4 (K : Nat) (hK : D.far D.wdB l i = K) (h1 : K ≠ i) (h2 : Nm.D.isB (D.sub l i K) = true) (h4 : l[K]? = some 44) (J Q : Nat) (hJ : D.far (· == 32) l (K + 1) = J) (hQ : D.far D.wdB l J = Q) (h5 : Q ≠ J) (h6 : D.sub l J Q = D.selT) (h7 : d < 3) (h8 : l[Q]? ≠ some 44) (ho : o = D.er_ Q 3) :
  Calls Tryz.prog 29 #[.string s, .int .i64 i, .int .i64 d, .bool v] w (Mt r o w) := by
 have R1 := Lib.hid (fun W => run_any s i W hi (by omega))
 rw [hl, hK] at R1
 have hKi : i <= K := by rw [<- hK]; exact D.far_ge _ _ _
 have hKs : K <= s.size := by rw [<- hK, <- D.ns_len s, hl]; exact D.far_le (by rw [<- hl, D.ns_len]; exact hi)
 have i1 : ((K : Int) == i) = false := by rw [beq_eq_false_iff_ne]; omega
 have iK : (i : Int) <= K := by omega
 have iS : (K : Int) <= s.size := by omega
 have RI := Lib.hid (fun W => Nm.ref_is (s.extract i K) W)
 rw [ns_ext, hl] at RI
 rw [h2] at RI
 have RA := Lib.hid (fun W => at_any s K W)
 rw [hl] at RA
 rw [D.atI_some h4] at RA
 have hK1 : K + 1 <= s.size := by have := (List.getElem?_eq_some_iff.1 h4).1; rw [<- D.ns_len s, hl]; omega
 have hJs : J <= s.size := by rw [<- hJ, <- D.ns_len s, hl]; exact D.far_le (by rw [<- hl, D.ns_len]; exact hK1)
 have RS : Hid (∀ W, Calls Tryz.prog 53 #[.string s, .int .i64 ((K : Int) + 1)] W fun e w' => e = .returned (.int .i64 (J : Int)) ∧ W = w') := Lib.hid (fun W => by have := skip_any s (K + 1) W hK1 (by omega); rw [hl, hJ] at this; exact this)
 have R2 := Lib.hid (fun W => run_any s J W hJs (by omega))
 rw [hl, hQ] at R2
 have hJQ : J <= Q := by rw [<- hQ]; exact D.far_ge _ _ _
 have hQs : Q <= s.size := by rw [<- hQ, <- D.ns_len s, hl]; exact D.far_le (by rw [<- hl, D.ns_len]; exact hJs)
 have i5 : ((Q : Int) == J) = false := by rw [beq_eq_false_iff_ne]; omega
 have iJ : (J : Int) <= Q := by omega
 have iT : (Q : Int) <= s.size := by omega
 have T2 := txt_lit (s.extract J Q) [110, 117, 109, 98, 101, 114] D.numT rfl
 have T3 := txt_lit (s.extract J Q) [112, 108, 117, 114, 97, 108] D.pluT rfl
 have T4 := txt_lit (s.extract J Q) [115, 101, 108, 101, 99, 116] D.selT rfl
 rw [ns_ext, hl] at T2 T3 T4
 have n2 : D.sub l J Q ≠ D.numT := by rw [h6]; decide
 rw [decide_eq_false n2] at T2
 have n3 : D.sub l J Q ≠ D.pluT := by rw [h6]; decide
 rw [decide_eq_false n3] at T3
 rw [h6, decide_eq_true rfl] at T4
 clear n3
 have i7 : (d : Int) < 3 := by omega
 have hx : ∃ x, D.atI l Q = x := ⟨_, rfl⟩
 obtain ⟨x, hx⟩ := hx
 have RB := Lib.hid (fun W => at_any s Q W)
 rw [hl, hx] at RB
 have i8 : (x != 44) = true := by rw [bne_iff_ne, <- hx]; exact fun h => h8 (D.atI_is h)
 clear hl hK h2 h4 hJ hQ h6 h8 n2 hx
 go_enter Tryz.func29, Tryz.ntmps29
 go_wp2_with (first
  | (go_at_call 51; (with_reducible refine (R1.out _).mono ?_); rintro e w1 ⟨rfl, rfl⟩)
  | (go_at_call 51; (with_reducible refine (R2.out _).mono ?_); rintro e w1 ⟨rfl, rfl⟩)
  | (go_at_call 52; (with_reducible refine (RI.out _).mono ?_); rintro e w1 ⟨rfl, rfl⟩)
  | (go_at_call 28; (with_reducible refine (RA.out _).mono ?_); rintro e w1 ⟨rfl, rfl⟩)
  | (go_at_call 53; (with_reducible refine (RS.out _).mono ?_); rintro e w1 ⟨rfl, rfl⟩)
  | (go_at_call 28; (with_reducible refine (RB.out _).mono ?_); rintro e w1 ⟨rfl, rfl⟩))
 exact bodyPost_ret (v := .agg #[.slice none 0 0, .int .i64 Q, .int .i64 3]) (by simp [results, Tryz.results29, go_sem]) rfl (mt_err ho ((((Below.refl _ _).alloc (Nat.le_refl _) _)).alloc (by simp) _))
end

section
variable (s : ByteArray) (l : List Nat) (hl : D.ns s = l) (hs : s.size <= 60) (i d : Nat) (hi : i <= s.size) (v : Bool) (r : Nat) (o : D.Ot) (w : World)
include hl hs hi
set_option maxHeartbeats 4000000 in
theorem place_c3 (K : Nat) (hK : D.far D.wdB l i = K) (h1 : K ≠ i) (h2 : Nm.D.isB (D.sub l i K) = true) (h4 : l[K]? = some 44) (J Q : Nat) (hJ : D.far (· == 32) l (K + 1) = J) (hQ : D.far D.wdB l J = Q) (h5 : Q ≠ J) (h6 : D.sub l J Q = D.pluT) (h7 : d < 3) (h8 : l[Q]? = some 44) (mm : Nat -> D.Ot)
  (hm : ∀ q W, q <= s.size -> Calls Tryz.prog 13 #[.string s, .int .i64 q, .int .i64 ((d : Int) + 1), .bool true] W (Mt r (mm q) W))
  (hg : ∀ q, q <= s.size -> (mm q).e = 0 -> q <= (mm q).a ∧ (mm q).a <= s.size)
  (ho : D.cas l 3 (D.sub l i K) mm (l.length + 1) (D.far (· == 32) l (Q + 1)) [] [] = o) :
  Calls Tryz.prog 29 #[.string s, .int .i64 i, .int .i64 d, .bool v] w (Mt (r + 1) o w) := by
 have R1 := Lib.hid (fun W => run_any s i W hi (by omega))
 rw [hl, hK] at R1
 have hKi : i <= K := by rw [<- hK]; exact D.far_ge _ _ _
 have hKs : K <= s.size := by rw [<- hK, <- D.ns_len s, hl]; exact D.far_le (by rw [<- hl, D.ns_len]; exact hi)
 have i1 : ((K : Int) == i) = false := by rw [beq_eq_false_iff_ne]; omega
 have iK : (i : Int) <= K := by omega
 have iS : (K : Int) <= s.size := by omega
 have RI := Lib.hid (fun W => Nm.ref_is (s.extract i K) W)
 rw [ns_ext, hl] at RI
 rw [h2] at RI
 have RA := Lib.hid (fun W => at_any s K W)
 rw [hl] at RA
 rw [D.atI_some h4] at RA
 have hK1 : K + 1 <= s.size := by have := (List.getElem?_eq_some_iff.1 h4).1; rw [<- D.ns_len s, hl]; omega
 have hJs : J <= s.size := by rw [<- hJ, <- D.ns_len s, hl]; exact D.far_le (by rw [<- hl, D.ns_len]; exact hK1)
 have RS : Hid (∀ W, Calls Tryz.prog 53 #[.string s, .int .i64 ((K : Int) + 1)] W fun e w' => e = .returned (.int .i64 (J : Int)) ∧ W = w') := Lib.hid (fun W => by have := skip_any s (K + 1) W hK1 (by omega); rw [hl, hJ] at this; exact this)
 have R2 := Lib.hid (fun W => run_any s J W hJs (by omega))
 rw [hl, hQ] at R2
 have hJQ : J <= Q := by rw [<- hQ]; exact D.far_ge _ _ _
 have hQs : Q <= s.size := by rw [<- hQ, <- D.ns_len s, hl]; exact D.far_le (by rw [<- hl, D.ns_len]; exact hJs)
 have i5 : ((Q : Int) == J) = false := by rw [beq_eq_false_iff_ne]; omega
 have iJ : (J : Int) <= Q := by omega
 have iT : (Q : Int) <= s.size := by omega
 have T2 := txt_lit (s.extract J Q) [110, 117, 109, 98, 101, 114] D.numT rfl
 have T3 := txt_lit (s.extract J Q) [112, 108, 117, 114, 97, 108] D.pluT rfl
 have T4 := txt_lit (s.extract J Q) [115, 101, 108, 101, 99, 116] D.selT rfl
 rw [ns_ext, hl] at T2 T3 T4
 have n2 : D.sub l J Q ≠ D.numT := by rw [h6]; decide
 rw [decide_eq_false n2] at T2
 rw [h6, decide_eq_true rfl] at T3
 clear T4
 have i7 : (d : Int) < 3 := by omega
 have RB := Lib.hid (fun W => at_any s Q W)
 rw [hl, D.atI_some h8] at RB
 have hQ1 : Q + 1 <= s.size := by have := (List.getElem?_eq_some_iff.1 h8).1; rw [<- D.ns_len s, hl]; omega
 have hlen : l.length = s.size := by rw [<- hl, D.ns_len]
 obtain ⟨I0, hI0⟩ : ∃ I0, D.far (· == 32) l (Q + 1) = I0 := ⟨_, rfl⟩
 have hIs : I0 <= s.size := by rw [<- hI0, <- hlen]; exact D.far_le (by rw [hlen]; exact hQ1)
 have RT : Hid (∀ W, Calls Tryz.prog 53 #[.string s, .int .i64 ((Q : Int) + 1)] W fun e w' => e = .returned (.int .i64 (I0 : Int)) ∧ W = w') := Lib.hid (fun W => by have := skip_any s (Q + 1) W hQ1 (by omega); rw [hl, hI0] at this; exact this)
 obtain ⟨K0, hK0⟩ : ∃ K0, D.far D.wdB l I0 = K0 := ⟨_, rfl⟩
 have R3 := Lib.hid (fun W => run_any s I0 W hIs (by omega))
 rw [hl, hK0] at R3
 have hE := Lib.hid (ext_sub s i K)
 rw [hl] at hE
 have hbt := Lib.hid (sub_lt (ns_lt s) i K)
 rw [hl] at hbt
 have H2 := Lib.hid (ns_lt s)
 rw [hl] at H2
 have HX := Lib.hid (fun i k => ext_sub s i k)
 rw [hl] at HX
 have HN := Lib.hid (fun i k => ns_ext s i k)
 rw [hl] at HN
 have cA := Lib.hid (fun k W => at_any s k W)
 rw [hl] at cA
 have cR := Lib.hid (fun k W (h : k <= s.size) => run_any s k W h (by omega))
 rw [hl] at cR
 have cS := Lib.hid (fun k W (h : k <= s.size) => skip_any s k W h (by omega))
 rw [hl] at cS
 have cM := Lib.hid hm
 have cG := Lib.hid hg
 rw [hI0, hlen] at ho
 obtain ⟨nm, hnm⟩ : ∃ nm, D.sub l i K = nm := ⟨_, rfl⟩
 rw [hnm] at ho hE hbt
 have HO := Kept.mk ho
 have HK0 := Kept.mk hK0
 clear hm hg ho hl hK h2 h4 hJ hQ h6 h8 n2 hnm hK0 hI0
 go_enter Tryz.func29, Tryz.ntmps29
 go_wp2_with (first
  | (go_at_call 51; (with_reducible refine (R1.out _).mono ?_); rintro e w1 ⟨rfl, rfl⟩)
  | (go_at_call 51; (with_reducible refine (R2.out _).mono ?_); rintro e w1 ⟨rfl, rfl⟩)
  | (go_at_call 52; (with_reducible refine (RI.out _).mono ?_); rintro e w1 ⟨rfl, rfl⟩)
  | (go_at_call 28; (with_reducible refine (RA.out _).mono ?_); rintro e w1 ⟨rfl, rfl⟩)
  | (go_at_call 53; (with_reducible refine (RS.out _).mono ?_); rintro e w1 ⟨rfl, rfl⟩)
  | (go_at_call 28; (with_reducible refine (RB.out _).mono ?_); rintro e w1 ⟨rfl, rfl⟩)
  | (go_at_call 53; (with_reducible refine (RT.out _).mono ?_); rintro e w1 ⟨rfl, rfl⟩)
  | (go_at_call 51; (with_reducible refine (R3.out _).mono ?_); rintro e w1 ⟨rfl, rfl⟩))
 go_loopw [1, 9] (fun a b wr => ∃ (I L n c m e f : Nat) (A B : Option Addr) (ws : List (List Nat)) (ks : List (List D.Nd)), I <= s.size ∧ a = .int .i64 I ∧ b = .int .i64 L ∧ Kept (D.far D.wdB l I = L) ∧ n <= I ∧ m <= I ∧ Kept (s.size < I + f ∧ D.cas l 3 nm mm f I ws ks = o) ∧ Cz r (w.heap.size + 2) (w.heap.size + 1) wr 3 nm A n c B m e ws ks ∧ Blk wr w.heap.size 51 #[.slice none 0 0, .int .i64 0, .int .i64 0] ∧ Below w.heap.size w wr) (fun i _ _ => s.size - (intOf i).toNat)
 case atStart =>
  refine ⟨I0, K0, 0, 0, 0, 0, s.size + 1, none, none, [], [], hIs, rfl, rfl, HK0, Nat.zero_le _, Nat.zero_le _, ⟨by omega, HO.out⟩, ⟨⟨?_⟩, by omega, Ow.nil _ _ (by simp), ⟨[], Ow.nil _ _ (by simp), rfl, (fun u h => by cases h), fun j u q h => by simp at h⟩, fun w h => by cases h⟩, ⟨?_⟩, ((Below.refl _ _).alloc (Nat.le_refl _) _).alloc (by simp) _⟩
  ·rw [hE.out]
   exact heap_new (by simp)
  ·exact ((Blk.new w _ _).alloc _).out
 case round =>
  obtain ⟨I, L, n, c, m, e, f, A, B, ws, ks, hI, rfl, rfl, HL, hn, hmI, HF, hcz, hblk, hbel⟩ := hrel
  obtain ⟨g, rfl⟩ : ∃ g, f = g + 1 := ⟨f - 1, by have := HF.out.1; omega⟩
  have hIL : I <= L := by rw [<- HL.out]; exact D.far_ge _ _ _
  have hLs : L <= s.size := by rw [<- HL.out, <- hlen]; exact D.far_le (by rw [hlen]; exact hI)
  have hp := HF.out.2
  rw [D.cas_eq HL.out] at hp
  have hfu := HF.out.1
  have HC := Lib.hid hcz
  have HB := Lib.hid hblk
  have HZ := Lib.hid hbel
  have pc := hcz.blk.c
  have pf := hcz.blk.f
  have cc := hblk.c
  have cf := hblk.f
  have hgs := hcz.blk.lt
  have hws := hblk.lt
  have RA1 := Lib.hid (fun W => cA.out I W)
  clear HF hcz hblk hbel
  by_cases h1 : L = I
  ·subst h1
   rw [if_pos rfl] at hp
   by_cases h2 : l[L]? = some 125
   ·rw [if_neg (by simp [h2])] at hp
    rw [D.atI_some h2] at RA1
    have hfd := Lib.hid (fun W (h : Rw 1 W A n (strs ws)) => find_any A n c ws ⟨#[111, 116, 104, 101, 114]⟩ W h HC.out.b8 (by omega))
    rw [show D.ns ⟨#[111, 116, 104, 101, 114]⟩ = D.othT from rfl] at hfd
    have hrw := HC.out.wds.to_row
    by_cases h3 : D.othT ∈ ws
    ·rw [if_neg (by simp [h3])] at hp
     have HP := Kept.mk hp
     have i3 : 0 <= D.fnd ws D.othT := by unfold D.fnd; rw [if_pos h3]; omega
     obtain ⟨z, hz⟩ : ∃ z, D.fnd ws D.othT = z := ⟨_, rfl⟩
     rw [hz] at i3 hfd
     have HR := Lib.hid hrw
     clear hp h2 h3 hz hrw
     go_wp2_with (first
      | (go_at_call 28; (with_reducible refine (RA1.out _).mono ?_); rintro e w1 ⟨rfl, rfl⟩)
      | (go_at_call 55; (with_reducible refine (hfd.out _ HR.out).mono ?_); rintro e w1 ⟨rfl, rfl⟩))
     have HBL := HC.out.bel (F := fun q => w.heap.size + 2 <= q) hbt.out fun _ h => h
     refine bodyPost_ret (v := .agg #[.slice (some ⟨wr.heap.size, 0, none⟩) 1 1, .int .i64 ((L : Int) + 1), .int .i64 0]) (by simp [results, Tryz.results29, go_sem, cc, cf, hws]) rfl (mt_one (p := .slice A n c) (q := .slice B m e) HP.out.symm (by (repeat (first | exact HZ.out | refine Below.setCell ?_ (by first | omega | (simp; done) | (simp; omega)) _ | refine Below.alloc ?_ (by first | omega | (simp; done) | (simp; omega)) _))) (by simp [pcl, D.Nd.k, D.Nd.t, D.Nd.n]; rfl) (heap_new (by simp)) (by omega) rfl rfl ?_)
     exact ((((HBL.keep (keeps_setCell _ _ _ fun b hb => by simp; omega)).keep (keeps_setCell _ _ _ fun b hb => by simp; omega)).keep (keeps_setCell _ _ _ fun b hb => by simp; omega)).keep (keeps_below ((Below.refl _ _).alloc (Nat.le_refl _) _))).weaken fun b _ hb => by omega
    ·rw [if_pos h3] at hp
     have HP := Kept.mk hp
     have i3 : D.fnd ws D.othT < 0 := by unfold D.fnd; rw [if_neg h3]; omega
     obtain ⟨z, hz⟩ : ∃ z, D.fnd ws D.othT = z := ⟨_, rfl⟩
     rw [hz] at i3 hfd
     have HR := Lib.hid hrw
     clear hp h2 h3 hz hrw
     go_wp2_with (first
      | (go_at_call 28; (with_reducible refine (RA1.out _).mono ?_); rintro e w1 ⟨rfl, rfl⟩)
      | (go_at_call 55; (with_reducible refine (hfd.out _ HR.out).mono ?_); rintro e w1 ⟨rfl, rfl⟩))
     exact bodyPost_ret (v := .agg #[.slice none 0 0, .int .i64 L, .int .i64 13]) (by simp [results, Tryz.results29, go_sem, cc, cf]) rfl (mt_err HP.out.symm (by (repeat (first | exact HZ.out | refine Below.setCell ?_ (by first | omega | (simp; done) | (simp; omega)) _ | refine Below.alloc ?_ (by first | omega | (simp; done) | (simp; omega)) _))))
   ·rw [if_pos h2] at hp
    have HP := Kept.mk hp
    obtain ⟨x, hx⟩ : ∃ x, D.atI l L = x := ⟨_, rfl⟩
    rw [hx] at RA1
    have i2 : (x != 125) = true := by rw [bne_iff_ne, <- hx]; exact fun h => h2 (D.atI_is h)
    clear hp h2 hx
    go_wp2_with (go_at_call 28; (with_reducible refine (RA1.out _).mono ?_); rintro e w1 ⟨rfl, rfl⟩)
    exact bodyPost_ret (v := .agg #[.slice none 0 0, .int .i64 L, .int .i64 3]) (by simp [results, Tryz.results29, go_sem, cc, cf]) rfl (mt_err HP.out.symm (by (repeat (first | exact HZ.out | refine Below.setCell ?_ (by first | omega | (simp; done) | (simp; omega)) _ | refine Below.alloc ?_ (by first | omega | (simp; done) | (simp; omega)) _))))
  ·rw [if_neg h1] at hp
   have iL : (I : Int) < L := by omega
   have iS2 : (L : Int) <= s.size := by omega
   obtain ⟨y, hy⟩ : ∃ y, D.lgl 3 (D.sub l I L) ws = y := ⟨_, rfl⟩
   have CL : Hid (∀ W (h : Rw 1 W A n (strs ws)), Calls Tryz.prog 54 #[.int .i64 3, .string (s.extract I L), .slice A n c] W fun e w' => e = .returned (.int .i64 (y : Nat)) ∧ Below W.heap.size W w') := Lib.hid (fun W h => by have := legal_any 3 (s.extract I L) A n c ws W (by omega) h HC.out.b8 (by omega); rw [HN.out, hy] at this; exact this)
   rw [hy] at hp
   have hrw := Lib.hid HC.out.wds.to_row
   by_cases h2 : y = 0
   ·subst h2
    rw [if_neg (by simp)] at hp
    by_cases h3 : l[L]? = some 123
    ·rw [if_neg (by simp [h3])] at hp
     have RA2 := Lib.hid (fun W => cA.out L W)
     rw [D.atI_some h3] at RA2
     have hL1 : L + 1 <= s.size := by have := (List.getElem?_eq_some_iff.1 h3).1; omega
     have CM : Hid (∀ W, Calls Tryz.prog 13 #[.string s, .int .i64 ((L : Int) + 1), .int .i64 ((d : Int) + 1), .bool true] W (Mt r (mm (L + 1)) W)) := Lib.hid (fun W => cM.out (L + 1) W hL1)
     have CG := Lib.hid (cG.out (L + 1) hL1)
     obtain ⟨z, hz⟩ : ∃ z, mm (L + 1) = z := ⟨_, rfl⟩
     rw [hz] at hp CM CG
     have hp := Kept.mk hp
     clear h3 hy hz
     go_upto_region 40 with (first
      | (go_at_call 28; (with_reducible refine (RA2.out _).mono ?_); rintro e w2 ⟨rfl, rfl⟩)
      | (go_at_call 54; (with_reducible refine (CL.out _ hrw.out).mono ?_); rintro e w1 ⟨rfl, b1⟩; have HB1 := Lib.hid (HB.out.on b1); have HC1 := Lib.hid (HC.out.on b1); have Z1 := Lib.hid (HZ.out.trans (b1.mono HZ.out.size)); have p1 := HC1.out.blk.c; have q1 := HC1.out.blk.f; clear b1))
     go_cut [13] from 130 to 141 (fun s13 wx => ∃ (A4 : Option Addr) (n4 c4 : Nat) (w2 : World), s13 = .pointer (some ⟨w2.heap.size, 0, none⟩) ∧ wx = w2.alloc (.cells #[.slice A4 n4 c4, .int .i64 (z.a : Nat), .int .i64 (z.e : Nat)] 51) ∧ Below w1.heap.size w1 w2 ∧ Ms (fun b => w1.heap.size <= b) w2 r (.slice A4 n4 c4) z.l)
     case first =>
      cases v
      ·go_wp2_with (go_at_call 13; (with_reducible refine (CM.out _).mono ?_); rintro e w2 ⟨b2, A4, n4, c4, rfl, hm4⟩; have HM4 := Lib.hid hm4; have Hb2 := Lib.hid b2; clear b2 hm4)
       go_meet
       exact ⟨A4, n4, c4, w2, rfl, rfl, Hb2.out, HM4.out⟩
      ·go_wp2_with (go_at_call 13; (with_reducible refine (CM.out _).mono ?_); rintro e w2 ⟨b2, A4, n4, c4, rfl, hm4⟩; have HM4 := Lib.hid hm4; have Hb2 := Lib.hid b2; clear b2 hm4)
       go_meet
       exact ⟨A4, n4, c4, w2, rfl, rfl, Hb2.out, HM4.out⟩
     case rest =>
      obtain ⟨A4, n4, c4, w2, rfl, rfl, b2, hm4⟩ := hcut
      have HM4 := Lib.hid hm4
      have HB2 := Lib.hid (HB1.out.on b2)
      have HC2 := Lib.hid (HC1.out.on b2)
      have Z2 := Lib.hid (Z1.out.trans (b2.mono Z1.out.size))
      have c2 := HB2.out.c
      have f2 := HB2.out.f
      have p2 := HC2.out.blk.c
      have q2 := HC2.out.blk.f
      have hw2 := HB2.out.lt
      have hg2 := HC2.out.blk.lt
      have hs2 := b2.size
      clear b2 hm4 p1 q1 CM
      by_cases h4 : z.e = 0
      ·have hp1 := hp.out
       rw [if_neg (by simp [h4])] at hp1
       obtain ⟨g1, g2⟩ := CG.out h4
       have i4 : ((z.e : Int) != 0) = false := by simp [h4]
       have RA3 := Lib.hid (fun W => cA.out z.a W)
       by_cases h5 : l[z.a]? = some 125
       ·rw [if_neg (by simp [h5])] at hp1
        rw [D.atI_some h5] at RA3
        have g3 : z.a + 1 <= s.size := by have := (List.getElem?_eq_some_iff.1 h5).1; omega
        obtain ⟨I', hI'⟩ : ∃ I', D.far (· == 32) l (z.a + 1) = I' := ⟨_, rfl⟩
        have gI : z.a + 1 <= I' := by rw [<- hI']; exact D.far_ge _ _ _
        have gs : I' <= s.size := by rw [<- hI', <- hlen]; exact D.far_le (by rw [hlen]; exact g3)
        have RU : Hid (∀ W, Calls Tryz.prog 53 #[.string s, .int .i64 ((z.a : Int) + 1)] W fun e w' => e = .returned (.int .i64 (I' : Int)) ∧ W = w') := Lib.hid (fun W => by have := cS.out (z.a + 1) W g3; rw [hI'] at this; exact this)
        have RV := Lib.hid (fun W => cR.out I' W gs)
        rw [hI'] at hp1
        have HP := Kept.mk hp1
        have HW : Kept (∀ b ∈ D.sub l I L, b < 256) := ⟨sub_lt H2.out I L⟩
        have HBO : Kept (∀ q, (Value.slice B m e).ownBlock = some q -> q < w2.heap.size) := ⟨by obtain ⟨us, hu, _⟩ := HC2.out.kds; exact fun q hq => (hu.lt q hq).2⟩
        obtain ⟨ln, lm⟩ := HC2.out.lens
        have HNL := Lib.hid ln
        have HML := Lib.hid lm
        clear hp hp1 h4 h5 hI' CG ln lm
        go_wp2_with (first
         | (go_at_call 28; (with_reducible refine (RA3.out _).mono ?_); rintro e w3 ⟨rfl, rfl⟩)
         | (at_builtin; refine gapp _ str_under str_inf8 rfl (by decide) (by decide) rfl (.tmp 155) (.tmp 157) rfl rfl ((HC2.out.wds.alloc _).alloc _) rfl (rw_one (w2.alloc _) _ (by simp) 9 (.string (s.extract I L))) (fun u h => by simp at h; rw [h]; rfl) (by omega) ?_; intro A5 c5 w3 h3 hg3 hor3
            have HC3 := Lib.hid ((HC2.out.on ((Below.refl _ _).alloc (Nat.le_refl _) (.cells #[.slice A4 n4 c4, .int .i64 (z.a : Nat), .int .i64 (z.e : Nat)] 51))).on ((Below.refl _ _).alloc (Nat.le_refl _) (.cells #[.string (s.extract I L)] 9)))
            have P3 := Lib.hid (HC3.out.blk.grown hg3 (fun e => by have := (HC2.out.wds.lt _ e.symm).1; omega))
            have O3 := Lib.hid (((Blk.new w2 51 #[.slice A4 n4 c4, .int .i64 (z.a : Nat), .int .i64 (z.e : Nat)]).alloc (.cells #[.string (s.extract I L)] 9)).grown hg3 (fun e => by have := (HC2.out.wds.lt _ e.symm).2; omega))
            have p3 := P3.out.c
            have q3 := P3.out.f
            have o3 := O3.out.c
            have hs3 : w2.heap.size + 2 <= w3.heap.size := by have := hg3.size; simpa using this
            have HC4 := Lib.hid (HC3.out.word hg3 hor3 (t := D.sub l I L) (by rw [HX.out] at h3; exact h3) HW.out)
            have HG3 := Lib.hid hg3
            have HR3 := Lib.hid hor3
            clear h3 hg3 hor3
            obtain ⟨us, hu4, hk4⟩ := HC4.out.kds
            have HU4 := Lib.hid hu4
            have HK4 := Lib.hid hk4
            clear hu4 hk4)
         | (at_builtin; refine gapp _ cas_under cas_info rfl (by decide) (by decide) rfl (.tmp 161) (.tmp 164) rfl rfl (HU4.out.alloc _) rfl (rw_one _ _ (by simp) 26 (.slice A4 n4 c4)) (fun u h => by simp at h; rw [h]; rfl) (by omega) ?_; intro B5 e5 w4 h5 hg4 hor4
            have HC5 := Lib.hid (HC4.out.on ((Below.refl _ _).alloc (Nat.le_refl _) (.cells #[.slice A4 n4 c4] 26)))
            have P4 := Lib.hid (HC5.out.blk.grown hg4 (fun e => by have := (HU4.out.lt _ e.symm).1; omega))
            have O3s : Blk (w3.setCell ⟨w.heap.size + 1, 3, none⟩ (.slice A5 (n + 1) c5)) w2.heap.size 51 #[.slice A4 n4 c4, .int .i64 (z.a : Nat), .int .i64 (z.e : Nat)] := ⟨(Below.heap_setCell _ _ _ _ (by simp; omega)).trans O3.out.out⟩
            have O4 := Lib.hid ((O3s.alloc (.cells #[.slice A4 n4 c4] 26)).grown hg4 (fun e => by have := HBO.out _ e.symm; omega))
            clear O3s
            have p4 := P4.out.c
            have q4 := P4.out.f
            have o4 := O4.out.c
            have HG4 := Lib.hid hg4
            have HR4 := Lib.hid hor4
            have H5 := Lib.hid h5
            clear hg4 hor4 h5)
         | (go_at_call 53; (with_reducible refine (RU.out _).mono ?_); rintro e w5 ⟨rfl, rfl⟩)
         | (go_at_call 51; (with_reducible refine (RV.out _).mono ?_); rintro e w5 ⟨rfl, rfl⟩))
        go_roundw
        case rel =>
         have R3 := ((HB2.out.alloc (.cells #[.slice A4 n4 c4, .int .i64 (z.a : Nat), .int .i64 (z.e : Nat)] 51)).alloc (.cells #[.string (s.extract I L)] 9)).grown HG3.out (fun e => by have := (HC2.out.wds.lt _ e.symm).1; omega)
         have R3s : Blk (w3.setCell ⟨w.heap.size + 1, 3, none⟩ (.slice A5 (n + 1) c5)) w.heap.size 51 #[.slice none 0 0, .int .i64 0, .int .i64 0] := ⟨(Below.heap_setCell _ _ _ _ (by simp)).trans R3.out⟩
         have R4 := (R3s.alloc (.cells #[.slice A4 n4 c4] 26)).grown HG4.out (fun e => by have := (HU4.out.lt _ e.symm).1; omega)
         have b3 : Below w.heap.size w w3 := ((Z2.out.alloc (by omega) (.cells #[.slice A4 n4 c4, .int .i64 (z.a : Nat), .int .i64 (z.e : Nat)] 51)).alloc (by first | omega | (simp; done) | (simp; omega)) (.cells #[.string (s.extract I L)] 9)).trans ((ow_below HC3.out.wds HG3.out).mono (by omega))
         have b4 : Below w.heap.size w w4 := ((b3.setCell (p := ⟨w.heap.size + 1, 3, none⟩) (by simp) (.slice A5 (n + 1) c5)).alloc (by first | omega | (simp; done) | (simp; omega)) (.cells #[.slice A4 n4 c4] 26)).trans ((ow_below (HU4.out.alloc _) HG4.out).mono (by omega))
         have hv := HC1.out.kid HM4.out (((Below.refl _ _).alloc (Nat.le_refl _) (.cells #[.slice A4 n4 c4, .int .i64 (z.a : Nat), .int .i64 (z.e : Nat)] 51)).alloc (by first | omega | (simp; done) | (simp; omega)) (.cells #[.string (s.extract I L)] 9)) HG3.out HR3.out (u := .slice A5 (n + 1) c5) ((Below.refl _ _).alloc (by first | omega | (simp; done) | (simp; omega)) (.cells #[.slice A4 n4 c4] 26))
         have hc := HC5.out.case_ (HK4.out.move (fun _ _ h => h) (keeps_below ((Below.refl _ _).alloc (Nat.le_refl _) (.cells #[.slice A4 n4 c4] 26)))) HG4.out HR4.out H5.out rfl hv
         exact ⟨I', _, n + 1, c5, m + 1, e5, g, A5, B5, ws ++ [D.sub l I L], ks ++ [z.l], gs, rfl, rfl, ⟨rfl⟩, by omega, by omega, ⟨by omega, HP.out⟩, hc, ⟨(Below.heap_setCell _ _ _ _ (by simp)).trans R4.out⟩, b4.setCell (by simp) _⟩
        case measure => simp [intOf]; omega
       ·rw [if_pos h5] at hp1
        have HP := Kept.mk hp1
        obtain ⟨x, hx⟩ : ∃ x, D.atI l z.a = x := ⟨_, rfl⟩
        rw [hx] at RA3
        have i5 : (x != 125) = true := by rw [bne_iff_ne, <- hx]; exact fun h => h5 (D.atI_is h)
        clear hp hp1 h4 h5 hx CG
        go_wp2_with (go_at_call 28; (with_reducible refine (RA3.out _).mono ?_); rintro e w3 ⟨rfl, rfl⟩)
        exact bodyPost_ret (v := .agg #[.slice none 0 0, .int .i64 z.a, .int .i64 3]) (by simp [results, Tryz.results29, go_sem, c2, f2, hw2]) rfl (mt_err HP.out.symm (by (repeat (first | exact Z2.out | refine Below.setCell ?_ (by first | omega | (simp; done) | (simp; omega)) _ | refine Below.alloc ?_ (by first | omega | (simp; done) | (simp; omega)) _))))
      ·have hp1 := hp.out
       rw [if_pos h4] at hp1
       have HP := Kept.mk hp1
       have i4 : ((z.e : Int) != 0) = true := by simp; exact h4
       clear hp hp1 h4 CG
       go_wp2
       refine bodyPost_ret (v := .agg #[.slice A4 n4 c4, .int .i64 z.a, .int .i64 z.e]) (by simp [results, Tryz.results29, go_sem, c2, f2, hw2]) rfl ⟨by (repeat (first | exact Z2.out | refine Below.setCell ?_ (by first | omega | (simp; done) | (simp; omega)) _ | refine Below.alloc ?_ (by first | omega | (simp; done) | (simp; omega)) _)), A4, n4, c4, by rw [HP.out], ?_⟩
       rw [<- HP.out]
       have hw := HB1.out.lt
       exact Ms.up r (((((HM4.out.keep (keeps_setCell _ _ _ fun b hb => by simp; omega)).keep (keeps_setCell _ _ _ fun b hb => by simp; omega)).keep (keeps_setCell _ _ _ fun b hb => by simp; omega)).keep (keeps_below ((Below.refl _ _).alloc (Nat.le_refl _) _))).weaken fun b _ hb => by omega)
    ·rw [if_pos h3] at hp
     have HP := Kept.mk hp
     obtain ⟨x, hx⟩ : ∃ x, D.atI l L = x := ⟨_, rfl⟩
     have RA2 := Lib.hid (fun W => cA.out L W)
     rw [hx] at RA2
     have i3 : (x != 123) = true := by rw [bne_iff_ne, <- hx]; exact fun h => h3 (D.atI_is h)
     clear hp h3 hx hy
     go_wp2_with (first
      | (go_at_call 28; (with_reducible refine (RA2.out _).mono ?_); rintro e w2 ⟨rfl, rfl⟩)
      | (go_at_call 54; (with_reducible refine (CL.out _ hrw.out).mono ?_); rintro e w1 ⟨rfl, b1⟩; have B1 := HB.out.on b1; have c1 := B1.c; have f1 := B1.f; have Z1 := Lib.hid (HZ.out.trans (b1.mono HZ.out.size))))
     exact bodyPost_ret (v := .agg #[.slice none 0 0, .int .i64 L, .int .i64 3]) (by simp [results, Tryz.results29, go_sem, c1, f1]) rfl (mt_err HP.out.symm (by (repeat (first | exact Z1.out | refine Below.setCell ?_ (by first | omega | (simp; done) | (simp; omega)) _ | refine Below.alloc ?_ (by first | omega | (simp; done) | (simp; omega)) _))))
   ·rw [if_pos h2] at hp
    have HP := Kept.mk hp
    have i2 : ((y : Int) != 0) = true := by rw [bne_iff_ne]; omega
    clear hp h2 hy
    go_wp2_with (go_at_call 54; (with_reducible refine (CL.out _ hrw.out).mono ?_); rintro e w1 ⟨rfl, b1⟩; have B1 := HB.out.on b1; have c1 := B1.c; have f1 := B1.f; have Z1 := Lib.hid (HZ.out.trans (b1.mono HZ.out.size)))
    exact bodyPost_ret (v := .agg #[.slice none 0 0, .int .i64 I, .int .i64 y]) (by simp [results, Tryz.results29, go_sem, c1, f1]) rfl (mt_err HP.out.symm (by (repeat (first | exact Z1.out | refine Below.setCell ?_ (by first | omega | (simp; done) | (simp; omega)) _ | refine Below.alloc ?_ (by first | omega | (simp; done) | (simp; omega)) _))))
end
end Go.Proofs.YtgnjjlgmlokhmaaGreatDoor
