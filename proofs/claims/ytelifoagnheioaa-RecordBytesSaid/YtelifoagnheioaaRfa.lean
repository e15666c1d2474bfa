/-
  What the document's Read answers, of any bytes.
-/
import Derived.Test.YtelifoagnheioaaRfr
set_option linter.unusedVariables false
set_option linter.unusedSimpArgs false
set_option maxRecDepth 100000
namespace Go.Proofs.Ytelifoagnheioaa
open Go.RowKit
attribute [local go_sem ↓] Go.wp_at_zero Go.wp_at_succ ld_d st_d bd_d
attribute [local go_sem] run_ldd run_std run_bdd0 run_bdd1 Shp.rd_new Shp.rd_old Shp.tn_new Shp.tn_old setRow_alloc setRow_alloc2 dv_0 bare_k

theorem zb_ (w : World) : Blk (w.alloc (.cells #[.int .i64 0, .int .i64 0, .int .i64 0, .int .i64 0, .int .i64 0, .bool false, .int .u64 0, .int .u64 0, .string ⟨#[]⟩] 32)) w.heap.size 32 (dS.v D.zRc) := Blk.new w _ (dS.v D.zRc)
set_option maxHeartbeats 1000000 in
theorem dread_any (l : List Nat) (A : Option Addr) (n c : Nat) (w : World) (hl : ∀ b ∈ l, b < 256) (hr : Row w A n (bys l)) (hnc : n ≤ c) (hc : c ≤ 9223372036854775807) (hn : n ≤ 1000000) :
    Calls Try.prog 16 #[.slice A n c] w fun en w' => en = .returned (.tuple #[.agg (dS.v (D.rdr l 0).r), .int .i64 ((D.rdr l 0).n : Nat), .int .i64 ((D.rdr l 0).e : Nat)]) ∧ Below w.heap.size w w' := by
  cases h0 : l[0]? with
  | none =>
    have hlen := hr.len
    rw [bys_len] at hlen
    have hn0 : n = 0 := by
      have := List.getElem?_eq_none_iff.1 h0
      omega
    have ho : D.rdr l 0 = ⟨D.zRc, 0, 4⟩ := by unfold D.rdr; rw [h0]
    rw [ho]
    clear ho h0 hlen hr hl
    subst hn0
    have Z0 := Lib.hid (zb_ w)
    go_enter Try.func16, Try.ntmps16
    go_wp2_with fail
    refine bodyPost_ret (v := .tuple #[.agg (dS.v D.zRc), .int .i64 0, .int .i64 4]) (results_dt3 rfl rfl rfl rfl rfl (Shp.rd_blk (S := dS) (Blk.new w 32 (dS.v D.zRc)))) rfl ⟨rfl, below_alloc _ _⟩
  | some k =>
    by_cases hk : k = 0 ∨ 6 < k
    · have hlen := hr.len
      rw [bys_len] at hlen
      have hn1 : 1 ≤ n := by
        have := (List.getElem?_eq_some_iff.1 h0).1
        omega
      obtain ⟨ad, rfl, hadl, hcc⟩ := hr.to hn1
      have hc0 := hcc 0 (.int .u8 (k : Nat)) (by simp [bys, h0])
      rw [show ad.add 0 = ad from add_zero_ ad] at hc0
      have hn0 : ((n : Int) == 0) = false := by simp; omega
      have k256 : k < 256 := hl k (List.mem_of_getElem? h0)
      have ho : D.rdr l 0 = ⟨D.zRc, 0, 16⟩ := by unfold D.rdr; rw [h0]; simp only [if_pos hk]
      rw [ho]
      clear ho h0 hlen hr hl hcc
      have Z0 := Lib.hid (zb_ w)
      by_cases hk0 : k = 0
      · subst hk0
        have hc0 : w.cell? ad = some (.int .u8 0) := hc0
        have kz : ∀ W, (bdd #[(0, .int .i64 0)]).run Try.prog W = .ok (.agg (dS.v (D.bare 0))) W := fun W => run_bdd1 W 0
        go_enter Try.func16, Try.ntmps16
        go_wp2_with fail
        refine bodyPost_ret (v := .tuple #[.agg (dS.v D.zRc), .int .i64 0, .int .i64 16]) (results_dt3 rfl rfl rfl rfl rfl (Shp.rd_blk (S := dS) ((Blk.new w 32 (dS.v D.zRc)).alloc _))) rfl ⟨rfl, (below_alloc _ _).alloc (by simp) _⟩
      · have i0 : ((k : Int) < 1) = False := by simp; omega
        have i6 : ((6 : Int) < (k : Int)) = True := by simp; omega
        have i1 : 1 ≤ (k : Int) := by omega
        have i7 : 6 < (k : Int) := by omega
        have i8 : (k : Int) ≤ 255 := by omega
        go_enter Try.func16, Try.ntmps16
        go_wp2_with fail
        refine bodyPost_ret (v := .tuple #[.agg (dS.v D.zRc), .int .i64 0, .int .i64 16]) (results_dt3 rfl rfl rfl rfl rfl (Shp.rd_blk (S := dS) ((Blk.new w 32 (dS.v D.zRc)).alloc _))) rfl ⟨rfl, (below_alloc _ _).alloc (by simp) _⟩
    · exact dread_ok l A n c k w hl hr hnc hc hn h0 hk
end Go.Proofs.Ytelifoagnheioaa
