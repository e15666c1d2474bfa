/-
  Put.
-/
import Derived.Test.YtcnbdfobhablbaaChb
import Derived.Deep.Slices
set_option linter.unusedVariables false
set_option linter.unusedSimpArgs false
set_option maxRecDepth 100000
namespace Go.Proofs.Ytcnbdfobhablbaa
open Go.RowKit
attribute [local go_sem ↓] Go.wp_at_zero Go.wp_at_succ ld_v lv_v st_v ne_v bd_v bs_v ld_w lv_w st_w ne_w bd_w bs_w ld_r ld_d lv_r lv_d st_r st_d ne_r eq_r ne_d bd_r bd_d
attribute [local go_sem] run_ldv run_lvv run_stv run_nev run_bdv_z run_bdv_d run_bdv_r run_bsv1 run_bsv0 run_ldw run_lvw run_stw run_new run_bdw_3 run_bsw1 run_bsw0 run_ldr run_ldd run_lvr run_lvd run_str run_std run_ner run_eqr run_ned run_bdr0 run_bdd0 run_bdr1 run_bdd1 run_bdd9 Shp.rd_new Shp.rd_old Shp.rd_drew Shp.rd_drewN Shp.rd_set Shp.tn_new Shp.tn_old Shp.tn_drew Shp.tn_drewN setRow_alloc vv_0 vv_1 wv_0 wv_1 run_fdv0 run_fdv1 Shp.rd_extk cell_ext
/-- A chain that the program has made. -/
structure Cn (base : Nat) (w : World) (g : Nat) (A : Option Addr) (c : Nat) (l : List D.Vn) : Prop where
  blk : Blk w g 26 #[.slice A l.length c]
  own : Ow 32 11 base w A l.length c (vS.rcs l)
  gb : base ≤ g
  srt : D.Srt l
  wf : ∀ v ∈ l, v.wf
  le : l.length ≤ 1000
theorem Cn.al {base g c : Nat} {w : World} {A : Option Addr} {l : List D.Vn} (h : Cn base w g A c l) : Al w (some ⟨g, 0, none⟩) A l.length c l := Al.of h.blk.cell (ow_vrow h.own) h.srt (by have := h.le; omega)
theorem Cn.on {base g c : Nat} {w w' : World} {A : Option Addr} {l : List D.Vn} (h : Cn base w g A c l) (hb : Below w.heap.size w w') : Cn base w' g A c l := ⟨h.blk.on hb, h.own.on hb, h.gb, h.srt, h.wf, h.le⟩
theorem Cn.only {S : Nat → Prop} {base g c : Nat} {w w' : World} {A : Option Addr} {l : List D.Vn} (h : Cn base w g A c l) (k : Only S w w') (hg : ¬ S g) (hA : ∀ i, at_ A i → ¬ S i) : Cn base w' g A c l :=
  ⟨h.blk.only k hg, h.own.kept k.size fun q hq => k.block q (h.own.lt q hq).2 (hA q (own_at hq)), h.gb, h.srt, h.wf, h.le⟩
theorem Cn.lt {base g c : Nat} {w : World} {A : Option Addr} {l : List D.Vn} (h : Cn base w g A c l) : ∀ i, at_ A i → i < w.heap.size ∨ l.length = 0 := by
  intro i hi
  rcases Nat.eq_zero_or_pos l.length with h0 | h0
  · exact .inr h0
  · refine .inl ?_
    obtain ⟨ad, e, hl, _⟩ := (ow_vrow h.own).to h0
    obtain ⟨ad', e', hb⟩ := hi
    rw [e] at e'; injection e' with e'; subst e'
    omega
theorem ow_at {T : TypeId} {sz base n c i : Nat} {w : World} {A : Option Addr} {xs : List Value} (h : Ow T sz base w A n c xs) (hi : at_ A i) : (Value.slice A n c).ownBlock = some i ∧ base ≤ i ∧ i < w.heap.size := by
  obtain ⟨ad, rfl, rfl⟩ := hi
  rcases h.row.2 with ⟨e, _⟩ | ⟨g2, cap, cur, e, _, hh, _⟩
  · cases e
  · injection e with e1 e2 e3
    injection e1 with e1
    subst e1
    have hk : (Value.slice (some ⟨g2, 0, none⟩) n c).ownBlock = some g2 := rfl
    exact ⟨hk, h.row.lt g2 hk⟩
theorem ow_block {T : TypeId} {sz base n c i : Nat} {w : World} {A : Option Addr} {xs : List Value} (h : Ow T sz base w A n c xs) (hi : at_ A i) : ∃ cs, w.heap[i]? = some (Obj.cells cs T (0, 0)) := by
  obtain ⟨ad, rfl, rfl⟩ := hi
  rcases h.row.2 with ⟨e, _⟩ | ⟨g2, cap, cur, e, _, hh, _⟩
  · cases e
  · injection e with e1 e2 e3
    injection e1 with e1
    subst e1
    exact ⟨_, hh⟩
theorem Cn.ne {base g c : Nat} {w : World} {A : Option Addr} {l : List D.Vn} (h : Cn base w g A c l) : ¬ at_ A g := fun hg => by
  obtain ⟨cs, e⟩ := ow_block h.own hg
  have := e.symm.trans h.blk.out
  injection this with this
  injection this with _ h2
  exact absurd h2 (by decide)
/-- What a call leaves: the chain as it is then; of what there was only its blocks have turned. -/
def Putd (base g : Nat) (A : Option Addr) (w : World) (l : List D.Vn) (w' : World) : Prop := ∃ A' c', Cn base w' g A' c' l ∧ Only (fun i => i = g ∨ at_ A i) w w' ∧ Nx w.heap.size A A'
theorem wp_gapp {T T' : TypeId} {z : Value} {sz by_ : Nat} (w : World) (hu : Try.prog.underlying T' = some (.slice T)) (hi : (Try.prog.info? T).map (fun i => (i.zero, i.size, i.bytes)) = some (some z, sz, by_)) (hz : z.cells.size = sz) (hs : 0 < sz) (hby : by_ ≤ 1000)
    {o : Oper} {a : Act} {K : Act → World → Prop} {Q : Exit → Act → World → Prop} (s x : Operand)
    (hop : o.op = .call { callee := .builtin .append, args := #[s, x], argTypes := #[T', T'] })
    {base : Nat} {A B : Option Addr} {n c m d : Nat} {l k : List Value} (hes : a.eval s = .slice A n c) (ho : Ow T sz base w A n c l) (hx : a.eval x = .slice B m d) (hr : Rw sz w B m k) (h1 : ∀ u ∈ k, u.oneCell' = true) (h63 : n + m ≤ 1000000)
    (h : ∀ A' c' w', Ow T sz base w' A' (n + m) c' (l ++ k) → w.grownBy w' (Value.slice A n c).ownBlock → ((Value.slice A' (n + m) c').ownBlock = (Value.slice A n c).ownBlock ∨ (Value.slice A' (n + m) c').ownBlock = some w.heap.size) → K (a.put o.dst (.slice A' (n + m) c')) w') : o.wp Try.prog a w K Q := by
  obtain ⟨A', c', w', hrun, h2, h3, h4⟩ := run_gapp w hu hi hz hs o.type ho hr h1 h63 hby (d := d)
  unfold Oper.wp execOp
  simp only [hop, resolve, invoke, builtin, Sem.run_bind, Sem.run_pure, Result.andThen_ok, List.map_toArray, List.map_cons, List.map_nil, hes, hx, hrun]
  exact h A' c' w' h2 h3 h4
theorem rcs_snoc {α : Type} (S : Shp α) (l : List α) (x : α) : S.rcs (l ++ [x]) = S.rcs l ++ S.cs x := by rw [Shp.rcs_app]; simp [Shp.rcs]
/-- What an append and the store of its slice leave. -/
theorem Cn.app {base g c c5 : Nat} {w w6 : World} {A A5 : Option Addr} {l : List D.Vn} {v : D.Vn} (h : Cn base w g A c l) (hl : l.length < 1000) (hs : D.Srt (l ++ [v])) (hv : v.wf) (ho : Ow 32 11 base w6 A5 (l.length + 1) c5 (vS.rcs l ++ vS.cs v)) (hg : w.grownBy w6 (Value.slice A l.length c).ownBlock) :
    Cn base (w6.setCell ⟨g, 0, none⟩ (.slice A5 (l.length + 1) c5)) g A5 c5 (l ++ [v]) := by
  have hne : ∀ i, at_ A i → i ≠ g := fun i hi e => h.ne (by rw [← e]; exact hi)
  have hb6 : Blk w6 g 26 #[.slice A l.length c] := ⟨(hg.block g h.blk.lt fun e => by
    obtain ⟨q1, _⟩ := own_at e.symm
    exact hne _ (own_at e.symm) rfl).trans h.blk.out⟩
  have hlen : (l ++ [v]).length = l.length + 1 := by simp
  refine ⟨by rw [hlen]; exact hb6.set_ _, ?_, h.gb, hs, fun u hu => ?_, by rw [hlen]; omega⟩
  · rw [hlen, rcs_snoc]
    have hne5 : (Value.slice A5 (l.length + 1) c5).ownBlock ≠ some g := fun e => by
      obtain ⟨cs, e2⟩ := ow_block ho (own_at e)
      have := e2.symm.trans hb6.out
      injection this with this
      injection this with _ h2
      exact absurd h2 (by decide)
    exact ho.kept (by simp [World.setCell]) fun q hq => Below.heap_setCell _ _ _ _ (fun e => hne5 (by rw [hq]; exact congrArg some e))
  · rcases List.mem_append.1 hu with hu | hu
    · exact h.wf u hu
    · simp at hu; subst hu; exact hv
theorem take_snoc {α : Type} {l k l1 : List α} {j : Nat} {v : α} (h : k[j]? = some v) (e : l ++ k.take j = l1) : l ++ k.take (j + 1) = l1 ++ [v] := by
  rw [List.take_add_one, h, ← e, List.append_assoc]; rfl
theorem puts_next {l vs l1 : List D.Vn} {j : Nat} {v : D.Vn} (h : vs[j]? = some v) (hp : D.per l1 v = 0) (H : D.puts l vs = ((D.puts l1 (vs.drop j)).1, (D.puts l1 (vs.drop j)).2.1 + j, (D.puts l1 (vs.drop j)).2.2)) :
    D.puts l vs = ((D.puts (l1 ++ [v]) (vs.drop (j + 1))).1, (D.puts (l1 ++ [v]) (vs.drop (j + 1))).2.1 + (j + 1), (D.puts (l1 ++ [v]) (vs.drop (j + 1))).2.2) := by
  obtain ⟨hj, rfl⟩ := List.getElem?_eq_some_iff.1 h
  have e1 : vs.drop j = vs[j] :: vs.drop (j + 1) := (List.drop_eq_getElem_cons hj)
  rw [H, e1, D.puts_cons_ok hp]
  simp only [Prod.mk.injEq, true_and, and_true]
  omega
theorem puts_bad {l vs l1 : List D.Vn} {j : Nat} {v : D.Vn} (h : vs[j]? = some v) (hp : D.per l1 v ≠ 0) (H : D.puts l vs = ((D.puts l1 (vs.drop j)).1, (D.puts l1 (vs.drop j)).2.1 + j, (D.puts l1 (vs.drop j)).2.2)) :
    D.puts l vs = (l1, j, D.per l1 v) := by
  obtain ⟨hj, rfl⟩ := List.getElem?_eq_some_iff.1 h
  rw [H, List.drop_eq_getElem_cons hj, D.puts_cons_bad hp]
  simp
theorem puts_end {l vs l1 : List D.Vn} {j : Nat} (h : j = vs.length) (e : l ++ vs.take j = l1) (H : D.puts l vs = ((D.puts l1 (vs.drop j)).1, (D.puts l1 (vs.drop j)).2.1 + j, (D.puts l1 (vs.drop j)).2.2)) :
    D.puts l vs = (l1, vs.length, 0) := by
  subst h
  rw [H, List.drop_length, D.puts]
  simp
set_option maxHeartbeats 4000000 in
theorem put_any {base g c m d : Nat} {w : World} {A B : Option Addr} {l vs : List D.Vn} (h : Cn base w g A c l) (hr : Shp.Row vS w B m vs) (hB : ∀ ad, B = some ad → 0 < m → ad.block ≠ g ∧ ¬ at_ A ad.block) (hw : ∀ v ∈ vs, v.wf) (hm : l.length + m ≤ 1000) :
    Calls Try.prog 13 #[.pointer (some ⟨g, 0, none⟩), .slice B m d] w fun e w' => e = .returned (.tuple #[.int .i64 ((D.puts l vs).2.1 : Nat), .int .i64 ((D.puts l vs).2.2 : Nat)]) ∧ Putd base g A w (D.puts l vs).1 w' := by
  have HW := Lib.hid hw
  have HR := Lib.hid hr
  have HB := Lib.hid hB
  have hlen := hr.len
  have HH := Lib.hid h
  clear hw hr hB h
  go_enter Try.func13, Try.ntmps13
  go_wp2_with fail
  go_loopw [13] (fun i wr => ∃ (j : Nat) (A' : Option Addr) (c' : Nat) (l1 : List D.Vn), j ≤ m ∧ i = .int .i64 j ∧ Kept (l ++ vs.take j = l1) ∧ Cn base wr g A' c' l1 ∧ Only (fun i => i = g ∨ at_ A i) w wr ∧ Nx w.heap.size A A' ∧ Kept (D.puts l vs = ((D.puts l1 (vs.drop j)).1, (D.puts l1 (vs.drop j)).2.1 + j, (D.puts l1 (vs.drop j)).2.2))) (fun i _ => m - (intOf i).toNat)
  case atStart => exact ⟨0, A, c, l, Nat.zero_le _, rfl, ⟨by simp⟩, HH.out, Only.self _ _, Nx.self _ _, ⟨by simp⟩⟩
  case round =>
    obtain ⟨j, A1, c1, l1, hj, rfl, HL, hC, hO, hN, HP⟩ := hrel
    have hl1n : Kept (l1.length = l.length + j) := ⟨by rw [← HL.out, List.length_append, List.length_take]; omega⟩
    have HC := Lib.hid hC
    have HO := Lib.hid hO
    have HN := Lib.hid hN
    clear hC hO hN
    by_cases hlt : j < m
    · obtain ⟨v, hv⟩ : ∃ v, vs[j]? = some v := ⟨_, List.getElem?_eq_getElem (by omega)⟩
      have hvw := HW.out v (List.mem_of_getElem? hv)
      have HV := Lib.hid hv
      have hR1 : Shp.Row vS wr B m vs := HR.out.kept HO.out.size fun ad e => HO.out.block _ (by
        obtain ⟨ad', e', hl, _⟩ := HR.out.to (by omega)
        rw [e] at e'; injection e' with e'; subst e'; exact hl) (by
        obtain ⟨h1, h2⟩ := HB.out ad e (by omega)
        rintro (h | h)
        · exact h1 h
        · exact h2 h)
      obtain ⟨ad, hBe, hal, hrd⟩ := hR1.rd hv
      subst hBe
      have hrd : vS.rd wr (ad.add (j * 11)) = some v := hrd
      have i0 : (0 : Int) ≤ (j : Int) := by omega
      have i1 : (j : Int) < (m : Int) := by omega
      obtain ⟨gv, hgv⟩ : ∃ gv, wr.heap.size = gv := ⟨_, rfl⟩
      obtain ⟨W1, hW1⟩ : ∃ W1, wr.alloc (.cells (vS.v v) 32) = W1 := ⟨_, rfl⟩
      have b1 : Below wr.heap.size wr W1 := by rw [← hW1]; exact below_alloc_ _ _
      have r1 : vS.rd W1 ⟨gv, 0, none⟩ = some v := by rw [← hW1, ← hgv]; exact Shp.rd_new _ _ _ _ rfl
      have CW := Lib.hid (weigh_any v W1 hvw)
      have C1 := Lib.hid (HC.out.on b1)
      have HVW := Lib.hid hvw
      clear hR1 hv hvw
      by_cases h0 : D.wgh v = 0
      · rw [h0] at CW
        have HG := Lib.hid h0
        clear h0
        go_wp2_with (go_at_call 29; (with_reducible refine CW.out.mono ?_); rintro e w2 ⟨rfl, b2⟩)
        have C2 := Lib.hid (C1.out.on b2)
        have r2 := Shp.rd_on r1 b2
        have lt2 := Shp.rd_lt r2
        obtain ⟨q1, -, -, -⟩ := vf r2
        have CN := Lib.hid (fun o : On => newest_any (C2.out.on (ext_below w2 o)).al C2.out.wf)
        have CN : Hid (∀ o : On, Calls Try.prog 20 #[.pointer (some ⟨g, 0, none⟩)] (ext w2 o) fun e w' => e = .returned (.int .u64 (D.nwt l1 : Nat)) ∧ Below (ext w2 o).heap.size (ext w2 o) w') := CN
        refine wp_region_ext (by kernel_rfl) (by kernel_rfl) ?_
        repeat (go_big_quiet_step ((go_at_call 20; with_reducible exact calls_ext (CN.out _))))
        refine wpQuiet_nil ?_
        intro w3 hw3
        have b3 := ext_to hw3
        clear hw3 q1 lt2 CN
        have C3 := Lib.hid (C2.out.on b3)
        have r3 := Shp.rd_on r2 b3
        have hO3 := Lib.hid (((HO.out.on b1).on b2).on b3)
        have hn3 : Kept (wr.heap.size ≤ w3.heap.size) := ⟨Nat.le_trans b1.size (Nat.le_trans b2.size b3.size)⟩
        have hggv : Kept (g ≠ gv) := ⟨by have := HC.out.blk.lt; omega⟩
        have gv3 : Kept (∀ i, at_ A1 i → i ≠ gv) := ⟨fun i hi e => by
          have := (ow_at HC.out.own hi).2.2
          omega⟩
        clear r1 r2 b1 b2 b3
        by_cases h1 : v.a ≤ D.nwt l1
        · have hper : D.per l1 v = 21 := by rw [D.per, if_neg (by simp [HG.out]), if_pos h1]
          have HE := Lib.hid (puts_bad HV.out (by rw [hper]; decide) HP.out)
          rw [hper] at HE
          have h1i : (v.a : Int) ≤ (D.nwt l1 : Int) := by omega
          clear h1 hper
          go_wp2
          go_ret2
          exact ⟨by rw [HE.out]; rfl, A1, c1, by rw [HE.out]; exact C3.out, hO3.out, HN.out⟩
        · have hper : D.per l1 v = 0 := by rw [D.per, if_neg (by simp [HG.out]), if_neg h1]
          have HE := Lib.hid (puts_next HV.out hper HP.out)
          have HSS := Lib.hid (C3.out.srt.snoc hper)
          have h1i : ¬ ((v.a : Int) ≤ (D.nwt l1 : Int)) := by omega
          clear h1 hper
          go_wp2_with fail
          have b4 : Below w3.heap.size w3 w3.drew := (Below.refl _ _).drew
          obtain ⟨w4, hw4⟩ : ∃ w4, w3.drew = w4 := ⟨_, rfl⟩
          rw [hw4] at b4
          have C4 := Lib.hid (C3.out.on b4)
          have r4 := Shp.rd_on r3 b4
          have cg := C4.out.blk.cell
          have fg := C4.out.blk.free
          refine wp_region_noPanic ?_
          refine wp_region_held_drew (S := fun W => vS.rd W ⟨gv, 0, none⟩ = some v) (by kernel_rfl) (by rw [hw4]; exact r4) (fun sd => ?_)
          rw [hw4]
          refine takeS 0 (some 30) ?vq0 (by kernel_rfl) (by kernel_rfl) (by kernel_rfl) (by kernel_rfl) (fun _ _ _ h => h) (by rfl) ?hyq0 r4 ?restq0
          case hyq0 => (intro o ho W hW; simp only [List.getElem?_toArray, List.getElem?_cons_succ, List.getElem?_cons_zero, Option.some.injEq] at ho; subst ho; (try dsimp only at hW); skip; go_simp; try rfl)
          try simp only [Act.put, List.setIfInBounds_toArray, List.set_cons_zero, List.set_cons_succ]
          refine takeS 1 (some 31) ?vq1 (by kernel_rfl) (by kernel_rfl) (by kernel_rfl) (by kernel_rfl) (fun _ _ _ h => h) (by rfl) ?hyq1 r4 ?restq1
          case hyq1 => (intro o ho W hW; simp only [List.getElem?_toArray, List.getElem?_cons_succ, List.getElem?_cons_zero, Option.some.injEq] at ho; subst ho; (try dsimp only at hW); skip; go_simp; try rfl)
          try simp only [Act.put, List.setIfInBounds_toArray, List.set_cons_zero, List.set_cons_succ]
          refine takeS 2 (some 32) ?vq2 (by kernel_rfl) (by kernel_rfl) (by kernel_rfl) (by kernel_rfl) (fun _ _ _ h => h) (by rfl) ?hyq2 r4 ?restq2
          case hyq2 => (intro o ho W hW; simp only [List.getElem?_toArray, List.getElem?_cons_succ, List.getElem?_cons_zero, Option.some.injEq] at ho; subst ho; (try dsimp only at hW); skip; go_simp; try rfl)
          try simp only [Act.put, List.setIfInBounds_toArray, List.set_cons_zero, List.set_cons_succ]
          refine takeS 3 (some 33) ?vq3 (by kernel_rfl) (by kernel_rfl) (by kernel_rfl) (by kernel_rfl) (fun _ _ _ h => h) (by rfl) ?hyq3 r4 ?restq3
          case hyq3 => (intro o ho W hW; simp only [List.getElem?_toArray, List.getElem?_cons_succ, List.getElem?_cons_zero, Option.some.injEq] at ho; subst ho; (try dsimp only at hW); skip; go_simp; try rfl)
          try simp only [Act.put, List.setIfInBounds_toArray, List.set_cons_zero, List.set_cons_succ]
          refine takeS 5 (some 35) (.agg (vS.v v)) (by kernel_rfl) (by kernel_rfl) (by kernel_rfl) (by kernel_rfl) (fun _ _ _ h => h) (by rfl) ?hyq5 r4 ?restq5
          case hyq5 => (intro o ho W hW; simp only [List.getElem?_toArray, List.getElem?_cons_succ, List.getElem?_cons_zero, Option.some.injEq] at ho; subst ho; (try dsimp only at hW); skip; go_simp; try rfl)
          try simp only [Act.put, List.setIfInBounds_toArray, List.set_cons_zero, List.set_cons_succ]
          refine forkS 4 6 (by kernel_rfl) (by rfl) (by rfl) (fun o ho K hK => ?_) (fun o ho K hK => ?_)
          · simp only [List.getElem?_toArray, List.getElem?_cons_succ, List.getElem?_cons_zero, Option.some.injEq] at ho; subst ho
            go_simp
            refine hK.out _ _ r4 (fun _ => ?_)
            clear hK K
            try simp only [Act.put, List.setIfInBounds_toArray, List.set_cons_zero, List.set_cons_succ]
            refine nextS 6 (by kernel_rfl) (by rfl) (fun o ho K hK => ?_)
            simp only [List.getElem?_toArray, List.getElem?_cons_succ, List.getElem?_cons_zero, Option.some.injEq] at ho; subst ho
            go_simp
            have b5 := below_alloc_ w4 (.cells (vS.v v) 32)
            have r5 := Shp.rd_on r4 b5
            have C5 := Lib.hid (C4.out.on b5)
            refine hK.out _ _ r5 (fun _ => ?_)
            clear hK K
            try simp only [Act.put, List.setIfInBounds_toArray, List.set_cons_zero, List.set_cons_succ]
            obtain ⟨w5, hw5⟩ : ∃ w5, w4.alloc (.cells (vS.v v) 32) = w5 := ⟨_, rfl⟩
            have hq5 : Rw 11 w5 (some ⟨w4.heap.size, 0, none⟩) 1 (vS.cs v) := by rw [← hw5]; exact rw_new w4 11 32 1 (vS.v v) (by rw [vS.v_size]; rfl)
            rw [hw5] at b5 r5 C5
            rw [hw5]
            have HOW := Lib.hid C5.out.own
            refine nextS 7 (by kernel_rfl) (by rfl) (fun o ho K hK => ?_)
            simp only [List.getElem?_toArray, List.getElem?_cons_succ, List.getElem?_cons_zero, Option.some.injEq] at ho; subst ho
            refine wp_gapp _ Try.underlying24 ver_info rfl (by decide) (by decide) (.tmp 34) (.tmp 36) rfl rfl HOW.out rfl hq5 (vS.one v) (by have := hl1n.out; omega) ?_
            intro A5 c5 w6 ho6 hg6 hat6
            have hne6 : some gv ≠ (Value.slice A1 l1.length c1).ownBlock := fun e => gv3.out _ (own_at e.symm) rfl
            have r6 : vS.rd w6 ⟨gv, 0, none⟩ = some v := (Shp.rd_to (hg6.block _ (Shp.rd_lt r5) hne6)).trans r5
            have hng : some g ≠ (Value.slice A1 l1.length c1).ownBlock := fun e => C5.out.ne (own_at e.symm)
            have B6 : Blk w6 g 26 #[.slice A1 l1.length c1] := ⟨(hg6.block g C5.out.blk.lt hng).trans C5.out.blk.out⟩
            have cg6 := B6.cell
            have fg6 := B6.free
            refine hK.out _ _ r6 (fun _ => ?_)
            clear hK K
            try simp only [Act.put, List.setIfInBounds_toArray, List.set_cons_zero, List.set_cons_succ]
            refine takeS 8 (some 38) ?vp8 (by kernel_rfl) (by kernel_rfl) (by kernel_rfl) (by kernel_rfl) (fun _ _ _ h => h) (by rfl) ?hyp8 r6 ?restp8
            case hyp8 => (intro o ho W hW; simp only [List.getElem?_toArray, List.getElem?_cons_succ, List.getElem?_cons_zero, Option.some.injEq] at ho; subst ho; (try dsimp only at hW); skip; go_simp; try rfl)
            try simp only [Act.put, List.setIfInBounds_toArray, List.set_cons_zero, List.set_cons_succ]
            refine takeS 9 (some 39) ?vp9 (by kernel_rfl) (by kernel_rfl) (by kernel_rfl) (by kernel_rfl) (fun _ _ _ h => h) (by rfl) ?hyp9 r6 ?restp9
            case hyp9 => (intro o ho W hW; simp only [List.getElem?_toArray, List.getElem?_cons_succ, List.getElem?_cons_zero, Option.some.injEq] at ho; subst ho; (try dsimp only at hW); skip; go_simp; try rfl)
            try simp only [Act.put, List.setIfInBounds_toArray, List.set_cons_zero, List.set_cons_succ]
            refine nextS 10 (by kernel_rfl) (by rfl) (fun o ho K hK => ?_)
            simp only [List.getElem?_toArray, List.getElem?_cons_succ, List.getElem?_cons_zero, Option.some.injEq] at ho; subst ho
            go_simp
            refine hK.out _ _ ((Shp.rd_setCell _ _ _ _ (fun e => hggv.out (Eq.symm e))).trans r6) (fun _ => ?_)
            clear hK K
            try simp only [Act.put, List.setIfInBounds_toArray, List.set_cons_zero, List.set_cons_succ]
            refine wpAnyH_done (by kernel_rfl) ?_ _
            refine NoPanic.normal ?_
            go_wp2
            go_roundw
            case rel =>
              refine ⟨j + 1, A5, c5, l1 ++ [v], hlt, by go_num, ⟨take_snoc HV.out HL.out⟩, C5.out.app (by have := hl1n.out; omega) HSS.out HVW.out ho6 hg6, ?_, ?_, ⟨HE.out⟩⟩
              · refine (((hO3.out.on b4).on b5).grown hg6 fun k hk => ?_).set (.inl (.inl rfl)) _
                have hk1 := own_at hk
                rcases HN.out k hk1 with h | h
                · exact .inl (.inr h)
                · exact .inr h
              · intro i hi
                rcases hat6 with h | h
                · have e := at_own (n := l1.length + 1) (c := c5) hi
                  rw [h] at e
                  exact HN.out i (own_at e)
                · have e := at_own (n := l1.length + 1) (c := c5) hi
                  rw [h] at e
                  injection e with e
                  have := hn3.out
                  have := HO.out.size
                  have := b4.size
                  have := b5.size
                  exact .inr (by omega)
            case measure => simp [intOf]; omega
          · simp only [List.getElem?_toArray, List.getElem?_cons_succ, List.getElem?_cons_zero, Option.some.injEq] at ho; subst ho
            go_simp
            have b5 := below_alloc_ w4 (.cells (vS.v v) 32)
            have r5 := Shp.rd_on r4 b5
            have C5 := Lib.hid (C4.out.on b5)
            have cg5 := C5.out.blk.cell
            refine hK.out _ _ r5 (fun _ => ?_)
            clear hK K
            try simp only [Act.put, List.setIfInBounds_toArray, List.set_cons_zero, List.set_cons_succ]
            refine nextS 4 (by kernel_rfl) (by rfl) (fun o ho K hK => ?_)
            simp only [List.getElem?_toArray, List.getElem?_cons_succ, List.getElem?_cons_zero, Option.some.injEq] at ho; subst ho
            go_simp
            refine hK.out _ _ r5 (fun _ => ?_)
            clear hK K
            try simp only [Act.put, List.setIfInBounds_toArray, List.set_cons_zero, List.set_cons_succ]
            obtain ⟨w5, hw5⟩ : ∃ w5, w4.alloc (.cells (vS.v v) 32) = w5 := ⟨_, rfl⟩
            have hq5 : Rw 11 w5 (some ⟨w4.heap.size, 0, none⟩) 1 (vS.cs v) := by rw [← hw5]; exact rw_new w4 11 32 1 (vS.v v) (by rw [vS.v_size]; rfl)
            rw [hw5] at b5 r5 C5
            rw [hw5]
            have HOW := Lib.hid C5.out.own
            refine nextS 7 (by kernel_rfl) (by rfl) (fun o ho K hK => ?_)
            simp only [List.getElem?_toArray, List.getElem?_cons_succ, List.getElem?_cons_zero, Option.some.injEq] at ho; subst ho
            refine wp_gapp _ Try.underlying24 ver_info rfl (by decide) (by decide) (.tmp 34) (.tmp 36) rfl rfl HOW.out rfl hq5 (vS.one v) (by have := hl1n.out; omega) ?_
            intro A5 c5 w6 ho6 hg6 hat6
            have hne6 : some gv ≠ (Value.slice A1 l1.length c1).ownBlock := fun e => gv3.out _ (own_at e.symm) rfl
            have r6 : vS.rd w6 ⟨gv, 0, none⟩ = some v := (Shp.rd_to (hg6.block _ (Shp.rd_lt r5) hne6)).trans r5
            have hng : some g ≠ (Value.slice A1 l1.length c1).ownBlock := fun e => C5.out.ne (own_at e.symm)
            have B6 : Blk w6 g 26 #[.slice A1 l1.length c1] := ⟨(hg6.block g C5.out.blk.lt hng).trans C5.out.blk.out⟩
            have cg6 := B6.cell
            have fg6 := B6.free
            refine hK.out _ _ r6 (fun _ => ?_)
            clear hK K
            try simp only [Act.put, List.setIfInBounds_toArray, List.set_cons_zero, List.set_cons_succ]
            refine takeS 8 (some 38) ?vu8 (by kernel_rfl) (by kernel_rfl) (by kernel_rfl) (by kernel_rfl) (fun _ _ _ h => h) (by rfl) ?hyu8 r6 ?restu8
            case hyu8 => (intro o ho W hW; simp only [List.getElem?_toArray, List.getElem?_cons_succ, List.getElem?_cons_zero, Option.some.injEq] at ho; subst ho; (try dsimp only at hW); skip; go_simp; try rfl)
            try simp only [Act.put, List.setIfInBounds_toArray, List.set_cons_zero, List.set_cons_succ]
            refine takeS 9 (some 39) ?vu9 (by kernel_rfl) (by kernel_rfl) (by kernel_rfl) (by kernel_rfl) (fun _ _ _ h => h) (by rfl) ?hyu9 r6 ?restu9
            case hyu9 => (intro o ho W hW; simp only [List.getElem?_toArray, List.getElem?_cons_succ, List.getElem?_cons_zero, Option.some.injEq] at ho; subst ho; (try dsimp only at hW); skip; go_simp; try rfl)
            try simp only [Act.put, List.setIfInBounds_toArray, List.set_cons_zero, List.set_cons_succ]
            refine nextS 10 (by kernel_rfl) (by rfl) (fun o ho K hK => ?_)
            simp only [List.getElem?_toArray, List.getElem?_cons_succ, List.getElem?_cons_zero, Option.some.injEq] at ho; subst ho
            go_simp
            refine hK.out _ _ ((Shp.rd_setCell _ _ _ _ (fun e => hggv.out (Eq.symm e))).trans r6) (fun _ => ?_)
            clear hK K
            try simp only [Act.put, List.setIfInBounds_toArray, List.set_cons_zero, List.set_cons_succ]
            refine wpAnyH_done (by kernel_rfl) ?_ _
            refine NoPanic.normal ?_
            go_wp2
            go_roundw
            case rel =>
              refine ⟨j + 1, A5, c5, l1 ++ [v], hlt, by go_num, ⟨take_snoc HV.out HL.out⟩, C5.out.app (by have := hl1n.out; omega) HSS.out HVW.out ho6 hg6, ?_, ?_, ⟨HE.out⟩⟩
              · refine (((hO3.out.on b4).on b5).grown hg6 fun k hk => ?_).set (.inl (.inl rfl)) _
                have hk1 := own_at hk
                rcases HN.out k hk1 with h | h
                · exact .inl (.inr h)
                · exact .inr h
              · intro i hi
                rcases hat6 with h | h
                · have e := at_own (n := l1.length + 1) (c := c5) hi
                  rw [h] at e
                  exact HN.out i (own_at e)
                · have e := at_own (n := l1.length + 1) (c := c5) hi
                  rw [h] at e
                  injection e with e
                  have := hn3.out
                  have := HO.out.size
                  have := b4.size
                  have := b5.size
                  exact .inr (by omega)
            case measure => simp [intOf]; omega
      · have HG := Lib.hid h0
        have h0i : ¬ ((D.wgh v : Int) = 0) := by omega
        have hper : D.per l1 v = D.wgh v := by rw [D.per, if_pos h0]
        have HE := Lib.hid (puts_bad HV.out (by rw [hper]; exact h0) HP.out)
        rw [hper] at HE
        clear h0 hper
        go_wp2_with (go_at_call 29; (with_reducible refine CW.out.mono ?_); rintro e w2 ⟨rfl, b2⟩)
        go_ret2
        exact ⟨by rw [HE.out]; rfl, A1, c1, by rw [HE.out]; exact C1.out.on b2, (HO.out.on b1).on b2, HN.out⟩
    · have HE := Lib.hid (puts_end (show j = vs.length by omega) HL.out HP.out)
      have hjm : j = m := by omega
      go_wp2
      go_ret2
      exact ⟨by rw [HE.out, hlen]; rfl, A1, c1, by rw [HE.out]; exact HC.out, HO.out, HN.out⟩
end Go.Proofs.Ytcnbdfobhablbaa
