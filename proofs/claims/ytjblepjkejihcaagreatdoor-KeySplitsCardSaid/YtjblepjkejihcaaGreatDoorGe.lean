/-
  The program's Less; the document's Less, Is, Pad, Text.
  Regions that draw their order and only read, whose calls may lay blocks: one walk, in the class of the worlds that only have grown.
  The document's Pad and Text.
-/
import Derived.Test.YtjblepjkejihcaaGreatDoorGd
import Derived.Sort.Grow
import Derived.Deep.Light
set_option linter.unusedVariables false
set_option linter.unusedSimpArgs false
set_option maxRecDepth 100000
namespace Go.Proofs.YtjblepjkejihcaaGreatDoor.Nm
open Go.RowKit Go.Sort
attribute [local go_sem ↓] Go.wp_at_zero Go.wp_at_succ ld_a ld_n st_a st_n eq_a eq_n ne_a ne_n lv_a lv_n
attribute [local go_sem] run_ld_a run_ld_n run_st_n run_eq_a run_eq_n run_ne_a run_ne_n run_lv_a run_lv_n st_z ne_z rd_new rd_old rd_drew rd_drewN

theorem drop_at {l : List Nat} {j x : Nat} (h : l[j]? = some x) : l.drop j = x :: l.drop (j + 1) := by
  obtain ⟨h1, h2⟩ := List.getElem?_eq_some_iff.1 h
  rw [List.drop_eq_getElem_cons h1, h2]
theorem nm_at (x : D.Nm) {j : Nat} (h : j < 12) : ∃ b, x.l[j]? = some b ∧ b < 256 := ⟨x.l[j]'(by rw [x.len]; exact h), List.getElem?_eq_getElem _, x.lt _ (List.getElem_mem _)⟩
theorem blk_at {w : World} {g : Nat} {t : TypeId} {x : D.Nm} {j b : Nat} (h : Blk w g t (nc x)) (hb : x.l[j]? = some b) : w.cell? ⟨g, j, none⟩ = some (.int .u8 b) := by
  rw [h.c j]
  simp [nc, bys, hb]
/-- Each byte so far stands rightly. -/
structure Good (t : List Nat) (k : Nat) : Prop where
  fine : Fine t k
  first : 0 < k → D.letB (t.getD 0 0) = true
theorem good_next {t : List Nat} {k b : Nat} (h : Good t k) (hb : t[k]? = some b) (hm : D.mayB b = true) (hl : k = 0 → D.letB b = true) : Good t (k + 1) := ⟨fine_next h.fine hb hm, fun _ => by
  by_cases e : k = 0
  · subst e
    rw [List.getD, hb]
    exact hl rfl
  · exact h.first (by omega)⟩
theorem not_good {t : List Nat} {k b : Nat} (hb : t[k]? = some b) (h : D.mayB b = false ∨ (k = 0 ∧ D.letB b = false)) : false = D.isB t := by
  rcases h with h | ⟨rfl, h⟩
  · exact (not_fine hb h).symm
  · cases hi : D.isB t
    · rfl
    · have := (D.isB_iff.1 hi).2.2.1
      rw [List.getD, hb] at this
      simp only [Option.getD_some] at this
      rw [h] at this; cases this
set_option maxRecDepth 100000 in
set_option maxHeartbeats 1000000 in
theorem ref_is (s : ByteArray) (w : World) :
    Calls Tryz.prog 51 #[.string s] w fun e w' => e = .returned (.bool (D.isB (D.ns s))) ∧ w = w' := by
  by_cases h1 : 1 ≤ s.size
  · by_cases h2 : s.size ≤ 12
    · have c1 : ¬ ((s.size : Int) < 1) := by omega
      have c2 : ¬ ((12 : Int) < (s.size : Int)) := by omega
      go_enter Tryz.func51, Tryz.ntmps51
      go_wp2
      go_loop [3] (fun i => ∃ k : Nat, k ≤ s.size ∧ i = .int .i64 k ∧ Good (D.ns s) k) (fun i => s.size - (intOf i).toNat)
      case atStart => exact ⟨0, Nat.zero_le _, rfl, fine_first _, fun h => absurd h (by omega)⟩
      case round =>
        obtain ⟨k, hk, rfl, HG⟩ := hrel
        by_cases hlt : k < s.size
        · have hb := ns_at hlt
          obtain ⟨b, hq⟩ : ∃ b, s[k].toNat = b := ⟨_, rfl⟩
          have HN := fun hm hl => good_next (b := b) HG (by rw [← hq]; exact hb) hm hl
          have HB := fun h => not_good (b := b) (t := D.ns s) (k := k) (by rw [← hq]; exact hb) h
          have H1 := Lib.hid HN
          have H2 := Lib.hid HB
          clear HN HB HG hb c1 c2
          go_wp2
          all_goals first
            | (go_ret
               refine ⟨bool_of (H2.out ?_), rfl⟩
               go_light
               (try simp at *)
               simp [D.mayB, D.letB]
               omega)
            | (go_round
               case rel =>
                 refine ⟨k + 1, by omega, by go_num, H1.out ?_ ?_⟩
                 · go_light
                   (try simp at *)
                   simp [D.mayB, D.letB]
                   omega
                 · go_light
                   (try simp at *)
                   simp [D.letB]
                   omega
               case measure => simp [intOf]; omega)
        · have HI := Lib.hid (show true = D.isB (D.ns s) from (fine_all HG.fine (by rw [D.ns_len]; omega) (by rw [D.ns_len]; exact h1) (by rw [D.ns_len]; exact h2) (HG.first (by omega))).symm)
          clear HG c1 c2
          go_wp2
          go_ret
          exact ⟨bool_of HI.out, rfl⟩
    · have HI := Lib.hid (show false = D.isB (D.ns s) by simp [D.isB, D.ns_len, h2])
      have c1 : decide ((s.size : Int) < 1) = false := decide_eq_false (by omega)
      have c2 : decide ((12 : Int) < (s.size : Int)) = true := decide_eq_true (by omega)
      go_enter Tryz.func51, Tryz.ntmps51
      go_wp2
      go_ret
      exact ⟨bool_of HI.out, rfl⟩
  · have HI := Lib.hid (show false = D.isB (D.ns s) by simp [D.isB, D.ns_len]; omega)
    have c1 : decide ((s.size : Int) < 1) = true := decide_eq_true (by omega)
    go_enter Tryz.func51, Tryz.ntmps51
    go_wp2
    go_ret
    exact ⟨bool_of HI.out, rfl⟩
end Go.Proofs.YtjblepjkejihcaaGreatDoor.Nm
set_option linter.unusedVariables false
set_option linter.unusedSimpArgs false
set_option maxRecDepth 100000
namespace Go.Proofs.YtjblepjkejihcaaGreatDoor.Nm
open Go.RowKit Go.Sort

/-- How far on a world is: its draws, and its new blocks. -/
structure On where
  n : Nat
  os : Array Obj
  deriving Inhabited
def ext (w : World) (p : On) : World := { w with heap := w.heap ++ p.os, drawn := p.n }
theorem ext_heap (w : World) (p : On) {k : Nat} (h : k < w.heap.size) : (ext w p).heap[k]? = w.heap[k]? := by simp [ext, Array.getElem?_append, h]
theorem ext_size (w : World) (p : On) : w.heap.size ≤ (ext w p).heap.size := by simp [ext]
theorem ext_below (w : World) (p : On) : Below w.heap.size w (ext w p) := ⟨rfl, rfl, rfl, ext_size w p, fun k hk => ext_heap w p hk⟩
theorem ext_of {w w' : World} (h : Below w.heap.size w w') : ∃ p, w' = ext w p := by
  obtain ⟨heap, tape, drawn, os, output⟩ := w
  obtain ⟨heap', tape', drawn', os', output'⟩ := w'
  obtain ⟨h1, h2, h3, h4, h5⟩ := h
  simp only at h1 h2 h3 h4 h5
  subst h1 h2 h3
  refine ⟨⟨drawn', heap'.extract heap.size heap'.size⟩, ?_⟩
  simp only [ext]
  congr 1
  apply Array.ext_getElem?
  intro i
  rw [Array.getElem?_append]
  by_cases hi : i < heap.size
  · rw [if_pos hi]; exact h5 i hi
  · rw [if_neg hi, Array.getElem?_extract]
    split
    · congr 1; omega
    · rw [Array.getElem?_eq_none (by omega)]
theorem ext_to {w w' : World} (h : ∃ p, w' = ext w p) : Below w.heap.size w w' := by
  obtain ⟨p, rfl⟩ := h
  exact ext_below w p
theorem wp_region_ext {P : Program} {id : Nat} {Q : Exit → Act → World → Prop} {a : Act} {w : World} {l : List Oper} (hm : P.follows .mixedOrders = true) (hB : Region.lexB .any l.toArray = true)
    (h : wpQuiet P l.toArray (fun w' => ∃ p : On, w' = ext w p) (fun a' => ∀ w', (∃ p : On, w' = ext w p) → Q .normal a' w') l a) : (Code.region id l.toArray true).wp P Q a w :=
  wp_region_quiet (C := fun w' => ∃ p : On, w' = ext w p) hm hB ⟨⟨w.drawn + 1, #[]⟩, by simp [ext]⟩ (by simpa using h)
theorem calls_ext {P : Program} {f : FuncId} {args : Array Value} {w : World} {p : On} {v : Value}
    (h : Calls P f args (ext w p) fun e w' => e = .returned v ∧ Below (ext w p).heap.size (ext w p) w') : Calls P f args (ext w p) fun e w'' => e = .returned v ∧ ∃ p : On, w'' = ext w p :=
  h.mono fun _ _ ⟨he, hb⟩ => ⟨he, ext_of ((ext_below w p).trans (hb.mono (ext_size w p)))⟩
theorem calls_same {P : Program} {f : FuncId} {args : Array Value} {w : World} {p : On} {v : Value}
    (h : Calls P f args (ext w p) fun e w' => e = .returned v ∧ ext w p = w') : Calls P f args (ext w p) fun e w'' => e = .returned v ∧ ∃ p : On, w'' = ext w p :=
  h.mono fun _ _ ⟨he, hb⟩ => ⟨he, p, hb.symm⟩
theorem rd_ext (w : World) (p : On) (a : Addr) (h : a.block < w.heap.size) : rd (ext w p) a = rd w a := rd_to (ext_heap w p h)
theorem cell_ext (w : World) (p : On) (a : Addr) (h : a.block < w.heap.size) : (ext w p).cell? a = w.cell? a := World.cell?_of_block (ext_heap w p h)
theorem nrow_ext {w : World} {A : Option Addr} {n : Nat} {l : List D.Nm} (h : NRow w A n l) (p : On) : NRow (ext w p) A n l := h.on (ext_below w p)
end Go.Proofs.YtjblepjkejihcaaGreatDoor.Nm
set_option linter.unusedVariables false
set_option linter.unusedSimpArgs false
set_option maxRecDepth 100000
namespace Go.Proofs.YtjblepjkejihcaaGreatDoor.Nm
open Go.RowKit Go.Sort
attribute [local go_sem ↓] Go.wp_at_zero Go.wp_at_succ ld_a ld_n st_a st_n eq_a eq_n ne_a ne_n lv_a lv_n
attribute [local go_sem] run_ld_a run_ld_n run_st_n run_eq_a run_eq_n run_ne_a run_ne_n run_lv_a run_lv_n st_z ne_z rd_new rd_old rd_drew rd_drewN rd_ext

theorem pcs_last (s : ByteArray) (k : Nat) (h : k = s.size ∨ 12 ≤ k) (hk : k ≤ s.size) : pcs (D.ns s) k = nc (D.pad s) := by
  have : D.padl (D.ns s) k = D.padl (D.ns s) 12 := by
    rcases h with h | h
    · by_cases h12 : s.size ≤ 12
      · have := D.padl_all (t := D.ns s) 12 (by rw [D.ns_len]; exact h12)
        rw [D.ns_len] at this
        rw [h, this]
      · exact D.padl_12 _ _ (by omega)
    · exact D.padl_12 _ _ h
  rw [pcs, this]; rfl
theorem lv_of_a {w : World} {a : Addr} {x : D.Nm} (h : rd w a = some x) : (loadVar 22 a).run Tryz.prog w = .ok (.agg (nc x)) w := (run_lv_a w a).trans (by rw [h]; rfl)
theorem results_cell1 {fn : Func} {p : Tmp} {ty : TypeId} (h : fn.results = #[.cell p ty]) (tmps : Array Value) (P : Program) (w : World) :
    (results fn tmps).run P w = ((asAddr (tmps.getD p undef)).run P w).andThen fun a w₁ => (loadVar ty a).run P w₁ := by
  simp only [results, h]
  simp [Sem.run_bind, Result.andThen]
set_option maxHeartbeats 1000000 in
theorem ref_pad (s : ByteArray) (w : World) :
    Calls Tryz.prog 52 #[.string s] w fun e w' => e = .returned (.agg (nc (D.pad s))) ∧ Below w.heap.size w w' := by
  go_enter Tryz.func52, Tryz.ntmps52
  go_wp2
  go_loopw [4] (fun i wr => ∃ k : Nat, k ≤ s.size ∧ k ≤ 12 ∧ i = .int .i64 k ∧ Blk wr w.heap.size 22 z12 ∧ Blk wr (w.heap.size + 1) 22 (pcs (D.ns s) k) ∧ Below w.heap.size w wr) (fun i _ => s.size - (intOf i).toNat)
  case atStart =>
    refine ⟨0, Nat.zero_le _, Nat.zero_le _, rfl, ?_, ?_, ?_⟩
    · exact (Blk.new w _ z12).alloc _
    · rw [pcs_zero]
      have := Blk.new (w.alloc (.cells z12 22)) 22 z12
      simp only [World.size_alloc] at this
      exact this
    · exact ((Below.refl _ _).alloc (Nat.le_refl _) _).alloc (by simp) _
  case round =>
    obtain ⟨k, hk, hk12, rfl, B0, B1, hbel⟩ := hrel
    by_cases hlt : k < s.size ∧ k < 12
    · obtain ⟨h1, h2⟩ := hlt
      have hb := ns_at h1
      obtain ⟨b, hq⟩ : ∃ b, s[k].toNat = b := ⟨_, rfl⟩
      rw [hq] at hb
      have hbn := B1.put k (.int .u8 b)
      rw [pcs_next hb (by omega)] at hbn
      have hcs : ∃ v, wr.cell? ⟨w.heap.size + 1, k, none⟩ = some v := by
        rw [B1.c]
        exact ⟨_, Array.getElem?_eq_getElem (by rw [pcs_size]; omega)⟩
      obtain ⟨v0, hc⟩ := hcs
      have hf := B1.f k
      have hb0 := B0.far (p := ⟨w.heap.size + 1, k, none⟩) (by simp) (.int .u8 b)
      have i1 : (k : Int) < (s.size : Int) := by omega
      have i2 : (k : Int) < 12 := by omega
      clear hb B1 B0
      go_wp2
      go_roundw
      case rel => exact ⟨k + 1, by omega, by omega, by go_num, hb0, hbn, hbel.setCell (by simp) _⟩
      case measure => simp [intOf]; omega
    · rw [pcs_last s k (by omega) hk] at B1
      have hx := rd_blk B1
      obtain ⟨w9, hst, B9, hg9⟩ := st_blk (.inl rfl) B0 rfl (D.pad s)
      have h9 := rd_blk B9
      clear B0 B1 B9
      by_cases h : k < s.size
      · have j1 : (k : Int) < (s.size : Int) := by omega
        have j2 : (12 : Int) ≤ (k : Int) := by omega
        clear hlt
        go_wp2
        refine bodyPost_ret (v := .agg (nc (D.pad s))) (by rw [results_cell1 rfl]; simp [asAddr, Result.andThen, lv_of_a h9]) rfl ⟨rfl, bel_grown hbel hg9 (Nat.le_refl _)⟩
      · have j1 : (s.size : Int) ≤ (k : Int) := by omega
        clear hlt
        go_wp2
        refine bodyPost_ret (v := .agg (nc (D.pad s))) (by rw [results_cell1 rfl]; simp [asAddr, Result.andThen, lv_of_a h9]) rfl ⟨rfl, bel_grown hbel hg9 (Nat.le_refl _)⟩

theorem upto_arr (g k : Nat) (hk : k ≤ 12) : ∀ W, (Instr.sliceAt 22 (.pointer (some ⟨g, 0, none⟩)) none (some (.int .i64 (k : Int))) none).run Tryz.prog W = .ok (.slice (some ⟨g, 0, none⟩) k 12) W := by
  intro W
  have h1 : (k : Int) ≤ 12 := by omega
  simp [Instr.sliceAt, go_sem, h1]
set_option maxRecDepth 100000 in
set_option maxHeartbeats 1000000 in
theorem ref_text (x : D.Nm) (w : World) :
    Calls Tryz.prog 31 #[.agg (nc x)] w fun e w' => e = .returned (.string (ts x)) ∧ Below w.heap.size w w' := by
  have B0 := Blk.new w 22 (nc x)
  go_enter Tryz.func31, Tryz.ntmps31
  go_wp2
  go_loopw [3] (fun i wr => ∃ k : Nat, k ≤ 12 ∧ i = .int .i64 k ∧ Kept (∀ b ∈ x.l.take k, b ≠ 0) ∧ wr = w.alloc (.cells (nc x) 22)) (fun i _ => 12 - (intOf i).toNat)
  case atStart => exact ⟨0, Nat.zero_le _, rfl, ⟨by simp⟩, rfl⟩
  case round =>
    obtain ⟨k, hk, rfl, HK, rfl⟩ := hrel
    by_cases hgo : k < 12 ∧ x.l[k]? ≠ some 0
    · obtain ⟨hlt, h0⟩ := hgo
      obtain ⟨a, hx, ha⟩ := nm_at x hlt
      have cx := blk_at B0 hx
      have hne : ((a : Int) != 0) = true := by
        rw [bne_iff_ne]
        intro e
        have : a = 0 := by omega
        subst this
        exact h0 hx
      have i1 : (k : Int) < 12 := by omega
      have HN : Kept (∀ b ∈ x.l.take (k + 1), b ≠ 0) := ⟨by
        obtain ⟨h1, h2⟩ := List.getElem?_eq_some_iff.1 hx
        intro b hb
        rw [List.take_succ_eq_append_getElem h1, h2] at hb
        rcases List.mem_append.1 hb with hb | hb
        · exact HK.out b hb
        · rw [List.mem_singleton.1 hb]
          rintro rfl
          exact h0 hx⟩
      clear hx h0 B0
      go_wp2
      go_roundw
      case rel => exact ⟨k + 1, by omega, by go_num, HN, by first | rfl | trivial⟩
      case measure => simp [intOf]; omega
    · have hhd : D.hd x.l = x.l.take k := D.hd_take HK.out (by
        by_cases h12 : k < 12
        · left
          obtain ⟨a, hx, ha⟩ := nm_at x h12
          by_cases e : a = 0
          · subst e; exact hx
          · exact absurd ⟨h12, by rw [hx]; simpa using e⟩ hgo
        · right; rw [x.len]; omega)
      obtain ⟨m, hm⟩ : ∃ m, m = k := ⟨_, rfl⟩
      have hR : Row (w.alloc (.cells (nc x) 22)) (some ⟨w.heap.size, 0, none⟩) k (bys (D.hd x.l)) := by
        rw [hhd, ← bys_take]
        exact (row_name B0).take hk
      have hup := upto_arr w.heap.size k hk
      have hstr := str_run _ _ k 12 _ hR (fun b hb => x.lt b (D.hd_mem hb))
      have HI := Lib.hid (fun w => ref_is (D.sb (D.hd x.l)) w)
      rw [ns_hd x] at HI
      have hrd := rd_new w _ 22 x rfl
      have HP := Lib.hid (fun w => ref_pad (D.sb (D.hd x.l)) w)
      rw [hdp_pad x] at HP
      have HR : Kept (D.right x = (D.isB (D.hd x.l) && sm (D.hdp x) x)) := ⟨rfl⟩
      have HT : Kept (ts x = if D.right x then D.sb (D.hd x.l) else ByteArray.empty) := ⟨by
        unfold ts D.txt
        split <;> rfl⟩
      obtain ⟨s, hs⟩ : ∃ s, D.sb (D.hd x.l) = s := ⟨_, rfl⟩
      rw [hs] at hstr HI HP HT
      clear hs hR hhd hm HK
      have hz : (k < 12 ∧ ∃ a, x.l[k]? = some a ∧ a = 0) ∨ 12 ≤ k := by
        by_cases hz : k < 12
        · left
          obtain ⟨a, hx, ha⟩ := nm_at x hz
          refine ⟨hz, a, hx, ?_⟩
          by_cases e : a = 0
          · exact e
          · exact absurd ⟨hz, by rw [hx]; simpa using e⟩ hgo
        · exact .inr (by omega)
      have hz' : (((k : Int) < 12) ∧ (w.alloc (.cells (nc x) 22)).cell? ⟨w.heap.size, k, none⟩ = some (.int .u8 0)) ∨ (12 : Int) ≤ (k : Int) := by
        rcases hz with ⟨h1, a, hx, rfl⟩ | h
        · exact .inl ⟨by omega, blk_at B0 hx⟩
        · exact .inr (by omega)
      clear hz hgo B0
      cases h : D.isB (D.hd x.l)
      · rw [h] at HI
        have HT' : Kept (ByteArray.empty = ts x) := ⟨by rw [HT.out, HR.out, h]; rfl⟩
        have HQ := Lib.hid (fun n => quietly (n := n) (w := w.alloc (.cells (nc x) 22)) (HI.out _))
        clear HT HR HP HI h
        rcases hz' with ⟨i1, cx⟩ | i1
        all_goals
          go_wp2_with fail
          go_quiet ((go_at_call 51; exact HQ.out _))
          go_wp2
          go_ret
          exact ⟨by rw [← HT'.out]; rfl, below_drewN (below_alloc_ _ _) _⟩
      · rw [h] at HI
        cases h2 : sm (D.hdp x) x
        · have HT' : Kept (ByteArray.empty = ts x) := ⟨by rw [HT.out, HR.out, h, h2]; rfl⟩
          clear HT HR h
          rcases hz' with ⟨i1, cx⟩ | i1
          all_goals
            go_wp2_with fail
            refine wp_region_ext (by kernel_rfl) (by kernel_rfl) ?_
            repeat (quiet_step ((first
              | (go_at_call 51; exact calls_same (HI.out _))
              | (go_at_call 52; exact calls_ext (HP.out _)))))
            refine wpQuiet_nil ?_
            intro w5 hw5
            have b5 := ext_to hw5
            clear hw5
            go_wp2
            go_ret
            exact ⟨by rw [← HT'.out]; rfl, (below_alloc_ _ _).trans (b5.mono (by simp))⟩
        · have HT' : Kept (s = ts x) := ⟨by rw [HT.out, HR.out, h, h2]; rfl⟩
          clear HT HR h
          rcases hz' with ⟨i1, cx⟩ | i1
          all_goals
            go_wp2_with fail
            refine wp_region_ext (by kernel_rfl) (by kernel_rfl) ?_
            repeat (quiet_step ((first
              | (go_at_call 51; exact calls_same (HI.out _))
              | (go_at_call 52; exact calls_ext (HP.out _)))))
            refine wpQuiet_nil ?_
            intro w5 hw5
            have b5 := ext_to hw5
            clear hw5
            go_wp2
            go_ret
            exact ⟨by rw [← HT'.out]; rfl, (below_alloc_ _ _).trans (b5.mono (by simp))⟩
end Go.Proofs.YtjblepjkejihcaaGreatDoor.Nm
