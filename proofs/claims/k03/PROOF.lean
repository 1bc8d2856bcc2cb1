import PyProof.Rows.All
import Wide.All
import OpenK.AllK
import Wide.FinOn
import HandS.ForMost
import HandS.Wide
import HandS.IsInst
import HandS.Property
import HandS.MakeKw
import HandS.More
import HandS.OwnEq
import HandS.Codes
import HandS.MakeKwOnly
import HandS.Small
import PySem.Challenge.RW_undertap_k03_rules_and_houses_equal
import HandS.Ends
set_option Elab.async false
set_option linter.all false
set_option maxRecDepth 100000
/-! What all laws share: the state of the draws. -/
namespace Dr
open PySem PySem.Spec PyProof.Rows L2
/-- the pairs of the draws' dict -/
def kD (g c : Addr) (r t : Int) : List (Key × V) := [(.inr "great", .ref g), (.inr "rest", .int r), (.inr "cells", .ref c), (.inr "turn", .int t)]
theorem k_great (g c : Addr) (r t : Int) : valV (kD g c r t) (.inr "great") = some (.ref g) := valV_pos rfl
theorem k_rest (g c : Addr) (r t : Int) : valV (kD g c r t) (.inr "rest") = some (.int r) :=
  (valV_neg (show ¬ (.inr "great" : Key) = .inr "rest" by decide +kernel)).trans (valV_pos rfl)
theorem k_cells (g c : Addr) (r t : Int) : valV (kD g c r t) (.inr "cells") = some (.ref c) :=
  (valV_neg (show ¬ (.inr "great" : Key) = .inr "cells" by decide +kernel)).trans ((valV_neg (show ¬ (.inr "rest" : Key) = .inr "cells" by decide +kernel)).trans (valV_pos rfl))
theorem k_turn (g c : Addr) (r t : Int) : valV (kD g c r t) (.inr "turn") = some (.int t) :=
  (valV_neg (show ¬ (.inr "great" : Key) = .inr "turn" by decide +kernel)).trans ((valV_neg (show ¬ (.inr "rest" : Key) = .inr "turn" by decide +kernel)).trans ((valV_neg (show ¬ (.inr "cells" : Key) = .inr "turn" by decide +kernel)).trans (valV_pos rfl)))
theorem p_rest (g c : Addr) (r t x : Int) : putK (kD g c r t) (.inr "rest") (.int x) = kD g c x t := by kernel_rfl
theorem p_turn (g c : Addr) (r t x : Int) : putK (kD g c r t) (.inr "turn") (.int x) = kD g c r x := by kernel_rfl
theorem dg_of {H : Hp} {d : Addr} {kvs : List (Key × V)} {x : Str} {v : V} (h : H d = some (.dK kvs)) (e : valV kvs (.inr x) = some v) : DGet H d (.str x) (some v) := by
  have q := DGet.k (k := .inr x) h
  rw [e] at q
  exact q
theorem dp_of {H : Hp} {d : Addr} {kvs kvs' : List (Key × V)} {x : Str} {v : V} (h : H d = some (.dK kvs)) (e : putK kvs (.inr x) v = kvs') (hl : kvs.length < sizeLine) : DPut H d (.str x) v (upd H d (.dK kvs')) := by
  have q := DPut.k (k := .inr x) (v := v) h hl
  rw [e] at q
  exact q
theorem kD_len (g c : Addr) (r t : Int) : (kD g c r t).length < sizeLine := small1000 (show 4 ≤ 1000 by decide)
theorem ints_dp {K : PySem.W.Frag} {H : Hp} : ∀ ns : List Int, DpAll K H (ns.map V.int) (ns.map PyData.int)
  | [] => .nil
  | n :: r => .cons (.int n) (ints_dp r)
theorem ints_lay : ∀ ns : List Int, PyData.canLayAll0 (ns.map PyData.int) = true
  | [] => by simp [PyData.canLayAll0]
  | n :: r => by simp [PyData.canLayAll0, PyData.canLay0, ints_lay r]
theorem ints_depth : ∀ ns : List Int, PyData.depthAll (ns.map PyData.int) = 0
  | [] => by simp [PyData.depthAll]
  | n :: r => by simp [PyData.depthAll, PyData.depth, ints_depth r]
theorem ints_shaped (ns : List Int) : SeqAt.shaped (.list (ns.map PyData.int)) = true := by
  have h1 := ints_depth ns
  have h2 : PyData.depth (.list (ns.map PyData.int)) ≤ 64 := by
    simp only [PyData.depth]
    omega
  show (PyData.canLay0 (.list (ns.map PyData.int)) && decide (PyData.depth (.list (ns.map PyData.int)) ≤ 64)) = true
  rw [Bool.and_eq_true]
  exact ⟨by simp only [PyData.canLay0]; exact ints_lay ns, decide_eq_true h2⟩
/-- the draws stand at d: their large numbers at g, all numbers at c -/
structure Dw (H : Hp) (d g c : Addr) : Prop where
  ex : ∃ (gs cs : List Int) (r t : Int), H d = some (.dK (kD g c r t)) ∧ H g = some (.lst (gs.map V.int)) ∧ H c = some (.lst (cs.map V.int))
  gc : g ≠ c
/-- all but the draws' dict and their large numbers stands as it stood -/
def Fr2 (d g : Addr) (H H' : Hp) : Prop := ∀ b o, b ≠ d → b ≠ g → H b = some o → H' b = some o
theorem Fr2.refl {d g : Addr} (H : Hp) : Fr2 d g H H := fun _ _ _ _ h => h
theorem Fr2.trans {d g : Addr} {H H1 H2 : Hp} (a : Fr2 d g H H1) (b : Fr2 d g H1 H2) : Fr2 d g H H2 := fun c o h1 h2 h => b c o h1 h2 (a c o h1 h2 h)
theorem Fr2.same {d g : Addr} {H H' : Hp} (a : Same H H') : Fr2 d g H H' := fun c o _ _ h => a c o h
theorem Fr2.new {d g p : Addr} {H H' : Hp} {o : HO} (a : Fr2 d g H H') (n : H' p = none) : Fr2 d g H (upd H' p o) := fun b u h1 h2 h => by
  have e := a b u h1 h2 h
  rw [upd_ne (ne_of_none e n)]
  exact e
theorem Dw.dg {H : Hp} {d g c : Addr} (D : Dw H d g c) : d ≠ g := by
  obtain ⟨⟨gs, cs, r, t, hd, hg, hc⟩, _⟩ := D
  exact ne_of hd hg (by intro z; cases z)
theorem Dw.dc {H : Hp} {d g c : Addr} (D : Dw H d g c) : d ≠ c := by
  obtain ⟨⟨gs, cs, r, t, hd, hg, hc⟩, _⟩ := D
  exact ne_of hd hc (by intro z; cases z)
theorem Dw.keep {H H' : Hp} {d g c : Addr} (D : Dw H d g c) (k : ∀ b o, b = d ∨ b = g ∨ b = c → H b = some o → H' b = some o) : Dw H' d g c := by
  obtain ⟨⟨gs, cs, r, t, hd, hg, hc⟩, gc⟩ := D
  exact ⟨⟨gs, cs, r, t, k _ _ (.inl rfl) hd, k _ _ (.inr (.inl rfl)) hg, k _ _ (.inr (.inr rfl)) hc⟩, gc⟩
theorem Dw.new {H : Hp} {d g c p : Addr} {o : HO} (D : Dw H d g c) (n : H p = none) : Dw (upd H p o) d g c := D.keep fun b u _ e => by
  rw [upd_ne (ne_of_none e n)]
  exact e
theorem Dw.same {H H' : Hp} {d g c : Addr} (D : Dw H d g c) (k : Same H H') : Dw H' d g c := D.keep fun b u _ e => k b u e
theorem same_upd {H : Hp} {p : Addr} {o : HO} (h : H p = none) : Same H (upd H p o) := fun b x e => by
  rw [upd_ne (ne_of_none e h)]
  exact e
/-- a number from 0 to m - 1 is drawn -/
def spTake : Sp := fun vs H Q _ => ∃ (d g c : Addr) (m : Int), vs = [.ref d, .int m] ∧ Dw H d g c ∧ 0 < m ∧ m < 1000000 ∧
  ∀ (i : Int) (H' : Hp), 0 ≤ i → i < m → Dw H' d g c → Fr2 d g H H' → Q (.int i) H'
/-- one of the items is drawn -/
def spPick : Sp := fun vs H Q _ => ∃ (d g c s : Addr) (xs : List V), vs = [.ref d, .ref s] ∧ Dw H d g c ∧ H s = some (.lst xs) ∧ s ≠ g ∧ xs ≠ [] ∧ xs.length < 1000 ∧
  ∀ (i : Nat) (x : V) (H' : Hp), xs[i]? = some x → Dw H' d g c → Fr2 d g H H' → Q x H'
/-- a number from 0 on, mixed; the draws go on -/
def spBlend : Sp := fun vs H Q _ => ∃ (d g c : Addr) (gs cs : List Int) (r t : Int), vs = [.ref d] ∧ H d = some (.dK (kD g c r t)) ∧ H g = some (.lst (gs.map V.int)) ∧ H c = some (.lst (cs.map V.int)) ∧ g ≠ c ∧
  ∀ (i : Int) (H' : Hp), (∀ b o, b ≠ d → H b = some o → H' b = some o) → H' d = some (.dK (kD g c r (t + 1))) → Q (.int i) H'
def spBegin (K : PySem.W.Frag) : Sp := fun vs H Q _ => ∃ (a : Addr) (ns : List Int), vs = [.ref a] ∧ SqL K H a (ns.map V.int) ∧ ns.length ≤ 63 ∧
  ∀ (d g c : Addr) (H' : Hp), Same H H' → H d = none → H g = none → H c = none → Dw H' d g c → Q (.ref d) H'
end Dr

namespace D3
open PySem PySem.Spec PyProof.Rows L2 Dr
def topS (i : Nat) : Stmt := PySem.Challenge.pw_undertap_k03_rules_and_houses_equal.main.body.getD i (.Pass ⟨0, 0, 0, 0⟩)
abbrev sBegin : Stmt := topS 22
abbrev sBlend : Stmt := topS 23
abbrev sTake : Stmt := topS 24
abbrev sPick : Stmt := topS 25
theorem scBegin : FnScope ["script", "great", "cell"] ["script"] (defScope sBegin) := ⟨rfl, rfl, rfl, by decide +kernel, rfl, by decide +kernel, by decide +kernel⟩
theorem scBlend : FnScope ["draw", "turn", "found", "prime", "blend", "cell"] ["draw"] (defScope sBlend) := ⟨rfl, rfl, rfl, by decide +kernel, rfl, by decide +kernel, by decide +kernel⟩
theorem scTake : FnScope ["draw", "size", "found"] ["draw", "size"] (defScope sTake) := ⟨rfl, rfl, rfl, by decide +kernel, rfl, by decide +kernel, by decide +kernel⟩
theorem scPick : FnScope ["draw", "some"] ["draw", "some"] (defScope sPick) := ⟨rfl, rfl, rfl, by decide +kernel, rfl, by decide +kernel, by decide +kernel⟩
section
variable {P : Program} {w : World} {K : PySem.W.Frag} {mg : Str → Option Value} {base : Heap}
theorem ok_pick {f fT : Addr} {fd fdT : FuncData} (F : Fun K "_law_pick" "_law_pick" sPick f fd) (GT : FnOk P w K mg base CX0 4 fT fdT ["draw", "size"] spTake) (kT : PySem.W.keepIn K (.ref fT) = true) (bT : Binds K fdT ["draw", "size"] []) (gT : mg "_law_take" = some (.ref fT)) (ml : mg "len" = none) :
    FnOk P w K mg base CX0 5 f fd ["draw", "some"] spPick := by
  refine F.ok scPick (fun vs H Q E h => ?_) (fun cdv A outer s H vs Q E hr h => ?_)
  · obtain ⟨d, g, c, l, xs, rfl, _⟩ := h
    rfl
  · obtain ⟨d, g, c, l, xs, rfl, D, hl, lg, ne, hlen, k⟩ := h
    refine ⟨_, pss_one (ps_ret (pe_ix ix_list (pv 1) (pe_call GT hr (by rfl) gT kT bT .nil pass0 (pa_cons (pv 0) (pa_cons (pe_callB call_len_seq (by rfl) ml PySem.boot_len (pa_cons (pv 1) pa_nil)) pa_nil))) (fun _ _ => rfl))), ?_⟩
    have ld : l ≠ d := by
      obtain ⟨⟨gs, cs, r, t, hd, hg, hc⟩, _⟩ := id D
      exact ne_of hl hd (by intro z; cases z)
    have hpos : 0 < xs.length := by
      cases xs with
      | nil => exact absurd rfl ne
      | cons x r => exact Nat.succ_pos _
    refine ⟨.ref l, rfl, .ref d, rfl, .ref l, rfl, l, xs, rfl, .inl (SqL.of hl), d, g, c, (xs.length : Int), rfl, D, by omega, by omega, fun i H' h0 hi D' fr => ?_⟩
    have e : i = (i.toNat : Int) := by omega
    have hi' : i.toNat < xs.length := by omega
    refine ⟨l, xs, i, xs[i.toNat], rfl, rfl, SqL.of (fr _ _ ld lg hl), at_of e (List.getElem?_eq_getElem hi'), ?_⟩
    exact k i.toNat _ H' (List.getElem?_eq_getElem hi') D' fr
theorem ok_take {f fB : Addr} {fd fdB : FuncData} (F : Fun K "_law_take" "_law_take" sTake f fd) (GB : FnOk P w K mg base CX0 3 fB fdB ["draw"] spBlend) (kB : PySem.W.keepIn K (.ref fB) = true) (bB : Binds K fdB ["draw"] []) (gB : mg "_law_blend" = some (.ref fB)) (mi : mg "int" = none) :
    FnOk P w K mg base CX0 4 f fd ["draw", "size"] spTake := by
  refine F.ok scTake (fun vs H Q E h => ?_) (fun cdv A outer s H vs Q E hr h => ?_)
  · obtain ⟨d, g, c, m, rfl, _⟩ := h
    rfl
  · obtain ⟨d, g, c, m, rfl, D, h0, hm, k⟩ := h
    have hu := hu_of hr
    obtain ⟨⟨gs, cs, r, t, hd, hg, hc⟩, gc⟩ := id D
    have dg := D.dg
    have dc := D.dc
    refine ⟨_, C8.pss_cut (ps_if (PW.pt (pw_and (pt_cmpR op_eq (pe_dget hu (pv 0) pe_str (fun _ _ => rfl)) pe_int (nomark _)) (pw_and1 (pt_cmpR (op_neD hr.units) (pe_dget hu (pv 0) pe_str (fun _ _ => rfl)) (pe_lst pa_nil) (nomark _)))))
        (pss_one (ps_dput hu (pv 0) pe_str (pe_bm PySem.F.plainAttrs_list PySem.F.slot_list_pop PySem.F.type_list_pop mt_popAt (pe_dget hu (pv 0) pe_str (fun _ _ => rfl)) (pa_cons pe_int pa_nil)) rfl)) pss_nil)
      (C8.pss_cut (ps_if (pt_cmpR op_eq (pe_dget hu (pv 0) pe_str (fun _ _ => rfl)) pe_int (nomark _))
        (pss_one (ps_dput hu (pv 0) pe_str (pe_call GB hr (by rfl) gB kB bB .nil pass0 (pa_cons (pv 0) pa_nil)) rfl)) pss_nil)
      (pss_cons (ps_set (i := 2) scTake.nd rfl (Or.inl rfl) (pe_op op_mod (pe_callTy call_int1 (by rfl) mi (by decide +kernel) (pa_cons (pe_dget hu (pv 0) pe_str (fun _ _ => rfl)) pa_nil)) (pv 1)))
      (pss_cons (ps_dput hu (pv 0) pe_str (pe_op op_fdiv (pe_dget hu (pv 0) pe_str (fun _ _ => rfl)) (pv 1)) rfl)
      (pss_one (ps_ret (pv 2)))))), ?_⟩
    -- between the statements: the draws, somehow
    refine ⟨fun σ H1 => σ = [some (.ref d), some (.int m), none] ∧ Dw H1 d g c ∧ Fr2 d g H H1, ?_, ?_⟩
    · refine ⟨_, rfl, d, _, rfl, dg_of hd (k_rest g c r t), rfl, _, rfl, ?_⟩
      refine ite2 (fun _ => ?_) (fun _ => iteF ⟨rfl, D, Fr2.refl H⟩)
      refine ⟨_, rfl, d, _, rfl, dg_of hd (k_great g c r t), Nat.zero_le _, fun p np => ?_⟩
      have hg' : (upd H p (.lst [])) g = some (.lst (gs.map V.int)) := by rw [upd_ne (ne_of_none hg np)]; exact hg
      have hd' : (upd H p (.lst [])) d = some (.dK (kD g c r t)) := by rw [upd_ne (ne_of_none hd np)]; exact hd
      refine ⟨_, _, .lst (SqL.of hg') (ints_dp gs), .lst (SqL.of upd_same) .nil, ints_shaped gs, by decide +kernel, _, rfl, ?_⟩
      cases gs with
      | nil => exact iteF ⟨rfl, D.new np, (Fr2.refl H).new np⟩
      | cons x gs =>
        refine iteT ?_
        refine ⟨_, rfl, d, _, rfl, dg_of hd' (k_great g c r t), .inl ⟨rfl, _, SqL.of hg'⟩, g, _, 0, 0, .int x, rfl, rfl, hg', by decide, by decide, by simp [seqIndex?], rfl, ?_⟩
        have hd2 : (upd (upd H p (.lst [])) g (.lst (((x :: gs).map V.int).eraseIdx 0))) d = some (.dK (kD g c r t)) := by rw [upd_ne dg]; exact hd'
        refine ⟨_, rfl, d, _, rfl, dp_of hd2 (p_rest g c r t x) (kD_len g c r t), rfl, ⟨⟨gs, cs, x, t, upd_same, ?_, ?_⟩, gc⟩, fun b o bd bg e => ?_⟩
        · rw [upd_ne dg.symm, upd_same]
          rfl
        · rw [upd_ne dc.symm, upd_ne gc.symm, upd_ne (ne_of_none hc np)]
          exact hc
        · rw [upd_ne bd, upd_ne bg, upd_ne (ne_of_none e np)]
          exact e
    · rintro σ H1 ⟨rfl, D1, fr1⟩
      obtain ⟨⟨gs1, cs1, r1, t1, hd1, hg1, hc1⟩, _⟩ := id D1
      refine ⟨fun σ H2 => σ = [some (.ref d), some (.int m), none] ∧ Dw H2 d g c ∧ Fr2 d g H H2, ?_, ?_⟩
      · refine ⟨_, rfl, d, _, rfl, dg_of hd1 (k_rest g c r1 t1), rfl, _, rfl, ?_⟩
        refine ite2 (fun _ => ?_) (fun _ => ⟨rfl, D1, fr1⟩)
        refine ⟨_, rfl, d, g, c, gs1, cs1, r1, t1, rfl, hd1, hg1, hc1, gc, fun i H2 k2 hd2 => ?_⟩
        refine ⟨_, rfl, d, _, rfl, dp_of hd2 (p_rest g c r1 (t1 + 1) i) (kD_len g c r1 (t1 + 1)), rfl, ⟨⟨gs1, cs1, i, t1 + 1, upd_same, ?_, ?_⟩, gc⟩, fun b o bd bg e => ?_⟩
        · rw [upd_ne dg.symm]
          exact k2 _ _ dg.symm hg1
        · rw [upd_ne dc.symm]
          exact k2 _ _ dc.symm hc1
        · rw [upd_ne bd]
          exact k2 _ _ bd (fr1 _ _ bd bg e)
      · rintro σ H2 ⟨rfl, D2, fr2⟩
        obtain ⟨⟨gs2, cs2, r2, t2, hd2, hg2, hc2⟩, _⟩ := id D2
        refine ⟨_, rfl, d, _, rfl, dg_of hd2 (k_rest g c r2 t2), .inl ⟨_, rfl, _, rfl, _, _, rfl, rfl, h0, ?_⟩⟩
        refine ⟨_, rfl, d, _, rfl, dg_of hd2 (k_rest g c r2 t2), _, rfl, _, _, rfl, rfl, ⟨h0, by omega⟩, ?_⟩
        refine ⟨_, rfl, d, _, rfl, dp_of hd2 (p_rest g c r2 t2 _) (kD_len g c r2 t2), _, rfl, ?_⟩
        refine k _ _ (Int.emod_nonneg _ (by omega)) (Int.emod_lt_of_pos _ h0) ⟨⟨gs2, cs2, r2 / m, t2, upd_same, ?_, ?_⟩, gc⟩ fun b o bd bg e => ?_
        · rw [upd_ne dg.symm]
          exact hg2
        · rw [upd_ne dc.symm]
          exact hc2
        · rw [upd_ne bd]
          exact fr2 _ _ bd bg e
theorem prime_ok {i : Nat} {x : V} (h : [V.int 2147483629, V.int 2147483587, V.int 2147483579, V.int 2147483563][i]? = some x) : ∃ p : Int, x = .int p ∧ 0 < p ∧ p < 2147483648 := by
  match i, h with
  | 0, h => exact ⟨_, (Option.some.inj h).symm, by decide, by decide⟩
  | 1, h => exact ⟨_, (Option.some.inj h).symm, by decide, by decide⟩
  | 2, h => exact ⟨_, (Option.some.inj h).symm, by decide, by decide⟩
  | 3, h => exact ⟨_, (Option.some.inj h).symm, by decide, by decide⟩
  | n + 4, h => simp at h
theorem ok_blend {f : Addr} {fd : FuncData} (F : Fun K "_law_blend" "_law_blend" sBlend f fd) (mi : mg "int" = none) :
    FnOk P w K mg base CX0 3 f fd ["draw"] spBlend := by
  refine F.ok scBlend (fun vs H Q E h => ?_) (fun cdv A outer s H vs Q E hr h => ?_)
  · obtain ⟨d, g, c, gs, cs, r, t, rfl, _⟩ := h
    rfl
  · obtain ⟨d, g, c, gs, cs, r, t, rfl, hd, hg, hc, gc, k⟩ := h
    have hu := hu_of hr
    have dc : d ≠ c := ne_of hd hc (by intro z; cases z)
    refine ⟨_, pss_cons (ps_set (i := 1) scBlend.nd rfl (Or.inl rfl) (pe_op op_add (pe_dget hu (pv 0) pe_str (fun _ _ => rfl)) pe_int))
      (pss_cons (ps_dput hu (pv 0) pe_str (pv 1) rfl)
      (pss_cons (ps_set (i := 2) scBlend.nd rfl (Or.inl rfl) pe_int)
      (pss_cons (ps_for PassesOwn.never rfl (pi_list (pe_lst (pa_cons pe_int (pa_cons pe_int (pa_cons pe_int (pa_cons pe_int pa_nil)))))) (pg_name (i := 3) scBlend.nd rfl (Or.inl rfl))
        (pss_cons (ps_set (i := 4) scBlend.nd rfl (Or.inl rfl) (pe_op op_mod (pe_callTy call_int1 (by rfl) mi (by decide +kernel) (pa_cons (pe_op op_add (pe_op op_mul (pv 1) pe_int) (pe_op op_fdiv (pv 3) pe_int)) pa_nil)) (pv 3)))
        (pss_cons (ps_for PassesOwn.never rfl (pi_list (pe_dget hu (pv 0) pe_str (fun _ _ => rfl))) (pg_name (i := 5) scBlend.nd rfl (Or.inl rfl))
          (pss_one (ps_set (i := 4) scBlend.nd rfl (Or.inl rfl) (pe_op op_mod (pe_callTy call_int1 (by rfl) mi (by decide +kernel) (pa_cons (pe_op op_add (pe_op op_mul (pv 4) pe_int) (pv 5)) pa_nil)) (pv 3)))))
        (pss_one (ps_set (i := 2) scBlend.nd rfl (Or.inl rfl) (pe_op op_add (pe_op op_mul (pv 2) pe_int) (pe_op op_mod (pe_callTy call_int1 (by rfl) mi (by decide +kernel) (pa_cons (pe_op op_pow (pv 4) pe_int) pa_nil)) (pv 3))))))))
      (pss_one (ps_ret (pv 2)))))), ?_⟩
    refine ⟨_, rfl, d, _, rfl, dg_of hd (k_turn g c r t), _, _, rfl, rfl, ?_⟩
    refine ⟨_, rfl, _, rfl, d, _, rfl, dp_of hd (p_turn g c r t (t + 1)) (kD_len g c r t), ?_⟩
    have hd1 : (upd H d (.dK (kD g c r (t + 1)))) d = some (.dK (kD g c r (t + 1))) := upd_same
    have hc1 : (upd H d (.dK (kD g c r (t + 1)))) c = some (.lst (cs.map V.int)) := by rw [upd_ne dc.symm]; exact hc
    have k1 : ∀ b o, b ≠ d → H b = some o → (upd H d (.dK (kD g c r (t + 1)))) b = some o := fun b o bd e => by rw [upd_ne bd]; exact e
    revert hd1 hc1 k1
    generalize upd H d (.dK (kD g c r (t + 1))) = H1
    intro hd1 hc1 k1
    -- the four primes
    refine ⟨by decide, fun l nl => ?_⟩
    have hd2 : (upd H1 l (.lst [V.int 2147483629, V.int 2147483587, V.int 2147483579, V.int 2147483563])) d = some (.dK (kD g c r (t + 1))) := by rw [upd_ne (ne_of_none hd1 nl)]; exact hd1
    have hc2 : (upd H1 l (.lst [V.int 2147483629, V.int 2147483587, V.int 2147483579, V.int 2147483563])) c = some (.lst (cs.map V.int)) := by rw [upd_ne (ne_of_none hc1 nl)]; exact hc1
    have hl2 : (upd H1 l (.lst [V.int 2147483629, V.int 2147483587, V.int 2147483579, V.int 2147483563])) l = some (.lst [V.int 2147483629, V.int 2147483587, V.int 2147483579, V.int 2147483563]) := upd_same
    have k2 : ∀ b o, b ≠ d → H b = some o → (upd H1 l (.lst [V.int 2147483629, V.int 2147483587, V.int 2147483579, V.int 2147483563])) b = some o := fun b o bd e => by rw [upd_ne (ne_of_none (k1 b o bd e) nl)]; exact k1 b o bd e
    refine ⟨l, rfl, ⟨_, SqL.of hl2⟩, for_list (K := K) (a := l) (xs := [V.int 2147483629, V.int 2147483587, V.int 2147483579, V.int 2147483563]) (fun i σ H' => ∃ (n : Int) (v3 v4 v5 : Option V), σ = [some (.ref d), some (.int (t + 1)), some (.int n), v3, v4, v5] ∧ H' = upd H1 l (.lst [V.int 2147483629, V.int 2147483587, V.int 2147483579, V.int 2147483563]))
      ⟨0, none, none, none, rfl, rfl⟩ (fun i σ H' _ ⟨_, _, _, _, _, e⟩ => e ▸ SqL.of hl2) ?_ ?_⟩
    · rintro i x σ H' hi ⟨n, v3, v4, v5, rfl, rfl⟩
      obtain ⟨p, rfl, hp0, hp1⟩ := prime_ok hi
      refine ⟨_, rfl, _, _, rfl, rfl, .inr (by decide), _, rfl, _, _, rfl, rfl, ⟨by decide, by decide⟩, _, _, rfl, rfl, .inl ⟨_, rfl, _, rfl, _, _, rfl, rfl, hp0, ?_⟩⟩
      refine ⟨_, rfl, d, _, rfl, dg_of hd2 (k_cells g c r (t + 1)), c, rfl, ⟨_, SqL.of hc2⟩, for_list (K := K) (a := c) (xs := cs.map V.int) (fun i σ H' => ∃ (y : Int) (v5 : Option V), σ = [some (.ref d), some (.int (t + 1)), some (.int n), some (.int p), some (.int y), v5] ∧ 0 ≤ y ∧ y < p ∧ H' = upd H1 l (.lst [V.int 2147483629, V.int 2147483587, V.int 2147483579, V.int 2147483563]))
        ⟨_, v5, rfl, Int.emod_nonneg _ (by omega), Int.emod_lt_of_pos _ hp0, rfl⟩ (fun i σ H' _ ⟨_, _, _, _, _, e⟩ => e ▸ SqL.of hc2) ?_ ?_⟩
      · rintro j x σ H' hj ⟨y, v5, rfl, y0, y1, rfl⟩
        obtain ⟨z, rfl⟩ : ∃ z, x = V.int z := by
          rw [List.getElem?_map] at hj
          cases e : cs[j]? with
          | none => rw [e] at hj; cases hj
          | some z => rw [e] at hj; exact ⟨z, (Option.some.inj hj).symm⟩
        exact ⟨_, rfl, _, _, rfl, rfl, .inr (by decide), _, rfl, _, _, rfl, rfl, .inl ⟨_, rfl, _, rfl, _, _, rfl, rfl, hp0, _, _, rfl, Int.emod_nonneg _ (by omega), Int.emod_lt_of_pos _ hp0, rfl⟩⟩
      · rintro σ H' ⟨y, v5, rfl, y0, y1, rfl⟩
        exact ⟨_, rfl, _, _, rfl, rfl, .inr (by decide), _, rfl, _, _, rfl, rfl, ⟨by decide, by decide, by omega⟩, .inl ⟨_, rfl, _, rfl, _, _, rfl, rfl, hp0, _, _, rfl, rfl, _, _, _, _, rfl, rfl⟩⟩
    · rintro σ H' ⟨n, v3, v4, v5, rfl, rfl⟩
      exact ⟨_, rfl, k n _ k2 hd2⟩
theorem ok_begin {f : Addr} {fd : FuncData} (F : Fun K "_law_begin" "_law_begin" sBegin f fd) (ma : mg "abs" = none) :
    FnOk P w K mg base CX0 3 f fd ["script"] (spBegin K) := by
  refine F.ok scBegin (fun vs H Q E h => ?_) (fun cdv A outer s H vs Q E hr h => ?_)
  · obtain ⟨a, ns, rfl, _⟩ := h
    rfl
  · obtain ⟨a, ns, rfl, hS, hlen, k⟩ := h
    refine ⟨_, pss_cons (ps_setLc (i := 1) (own := [("cell", 2)]) (g := gName 2) rfl scBegin.nd rfl rfl (sw_true rfl rfl rfl (by decide +kernel)) (pi_list (pv 0)) (blkOk_by (N := ["script", "great", "cell"]) (sc := defScope sBegin) (by decide +kernel))
        (fun _ _ _ _ _ => pg_name (i := 2) scBegin.nd rfl (Or.inl rfl)) (fun _ _ _ _ _ => pts_one (pt_cmpR op_ge (pe_callB call_abs (by rfl) ma (by decide +kernel) (pa_cons (pv 2) pa_nil)) (pe_op op_pow pe_int pe_int) (nomark _)))
        (fun _ _ _ _ _ => pe_op op_sub (pe_callB call_abs (by rfl) ma (by decide +kernel) (pa_cons (pv 2) pa_nil)) (pe_op op_pow pe_int pe_int)))
      (pss_one (ps_ret (pe_disp (pps_cons pe_str (pv 1) (pps_cons pe_str pe_int (pps_cons pe_str
        (pe_lc (own := [("cell", 2)]) (g := gName 2) rfl scBegin.nd (pi_list (pv 0)) (blkOk_by (N := ["script", "great", "cell"]) (sc := defScope sBegin) (by decide +kernel))
          (fun _ _ _ _ _ => pg_name (i := 2) scBegin.nd rfl (Or.inl rfl)) (fun _ _ _ _ _ => pts_nil) (fun _ _ _ _ _ => pe_callB call_abs (by rfl) ma (by decide +kernel) (pa_cons (pv 2) pa_nil)))
        (pps_cons pe_str pe_int pps_nil)))) (by rfl) (by rfl) (fun z => by cases z) (by decide)))), ?_⟩
    have item : ∀ (i : Nat) (x : V), (ns.map V.int)[i]? = some x → ∃ z, x = V.int z := fun i x hi => by
      rw [List.getElem?_map] at hi
      cases e : ns[i]? with
      | none => rw [e] at hi; cases hi
      | some z => rw [e] at hi; exact ⟨z, (Option.some.inj hi).symm⟩
    -- great
    refine ⟨_, rfl, a, rfl, ⟨_, hS⟩, fun g ng => lc_list (K := K) (a := a) (xs := ns.map V.int) (fun i H' => ∃ gs : List Int, H' = upd H g (.lst (gs.map V.int)) ∧ gs.length ≤ i) ⟨[], rfl, Nat.le_refl _⟩
      (fun i H' _ ⟨gs, e, _⟩ => e ▸ (same_upd ng).seq hS) ?_ ?_⟩
    · rintro i x H' hi ⟨gs, rfl, hgl⟩
      have hil : i < (ns.map V.int).length := (List.getElem?_eq_some_iff.mp hi).1
      rw [List.length_map] at hil
      obtain ⟨z, rfl⟩ := item i x hi
      refine ⟨rfl, _, rfl, _, rfl, _, _, rfl, rfl, ⟨by decide, by decide, by decide⟩, _, _, rfl, rfl, _, rfl, ?_⟩
      refine ite2 (fun _ => ?_) (fun _ => ⟨gs, rfl, by omega⟩)
      refine ⟨_, rfl, _, rfl, _, _, rfl, rfl, ⟨by decide, by decide, by decide⟩, _, _, rfl, rfl, _, upd_same, ?_, ?_⟩
      · rw [List.length_map]
        exact small1000 (by omega)
      · refine ⟨gs ++ [(if z < 0 then -z else z) - 10 ^ (Int.toNat 18)], ?_, ?_⟩
        · rw [upd_upd, List.map_append]
          rfl
        · rw [List.length_append]
          show gs.length + 1 ≤ i + 1
          omega
    · rintro H1 ⟨gs, rfl, _⟩
      intro d nd
      have dg : d ≠ g := fun e => by
        subst e
        rw [upd_same] at nd
        cases nd
      have nd0 : H d = none := (same_upd ng).free nd
      have s1 : Same H (upd (upd H g (.lst (gs.map V.int))) d (.dK [])) := (same_upd ng).trans (same_upd nd)
      refine ⟨_, rfl, ?_⟩
      refine ⟨_, rfl, a, rfl, ⟨_, s1.seq hS⟩, fun c nc => lc_list (K := K) (a := a) (xs := ns.map V.int) (fun i H' => ∃ cs : List Int, H' = upd (upd (upd H g (.lst (gs.map V.int))) d (.dK [])) c (.lst (cs.map V.int)) ∧ cs.length ≤ i) ⟨[], rfl, Nat.le_refl _⟩
        (fun i H' _ ⟨cs, e, _⟩ => e ▸ (s1.trans (same_upd nc)).seq hS) ?_ ?_⟩
      · rintro i x H' hi ⟨cs, rfl, hcl⟩
        have hil : i < (ns.map V.int).length := (List.getElem?_eq_some_iff.mp hi).1
        rw [List.length_map] at hil
        obtain ⟨z, rfl⟩ := item i x hi
        refine ⟨rfl, ?_⟩
        dsimp only [tYes]
        rw [if_pos rfl]
        refine ⟨_, rfl, _, rfl, _, upd_same, ?_, ?_⟩
        · rw [List.length_map]
          exact small1000 (by omega)
        · refine ⟨cs ++ [if z < 0 then -z else z], ?_, ?_⟩
          · rw [upd_upd, List.map_append]
            rfl
          · rw [List.length_append]
            show cs.length + 1 ≤ i + 1
            omega
      · rintro H2 ⟨cs, rfl, _⟩
        have cd : c ≠ d := fun e => by
          subst e
          rw [upd_same] at nc
          cases nc
        have nc1 : (upd H g (.lst (gs.map V.int))) c = none := by
          rw [upd_ne cd] at nc
          exact nc
        have cg : c ≠ g := fun e => by
          subst e
          rw [upd_same] at nc1
          cases nc1
        have nc0 : H c = none := (same_upd ng).free nc1
        refine ⟨by rw [upd_ne cd.symm, upd_same], [(.inr "great", .ref g), (.inr "rest", .int 0), (.inr "cells", .ref c), (.inr "turn", .int 0)], rfl, by show 4 ≤ 15; decide, ?_⟩
        refine k d g c _ (fun b o e => ?_) nd0 ng nc0 ⟨⟨gs, cs, 0, 0, ?_, ?_, ?_⟩, cg.symm⟩
        · rw [upd_ne (ne_of_none e nd0)]
          exact (s1.trans (same_upd nc)) b o e
        · rw [upd_same]
          exact congrArg (fun z => some (HO.dK z)) (by kernel_rfl)
        · rw [upd_ne dg.symm, upd_ne cg.symm, upd_ne dg.symm, upd_same]
        · rw [upd_ne cd, upd_same]
end
end D3

/-! Defs that are called only where no guard of repr stands on the stack: repr of data shows its whole text there. -/
namespace Gd
open PySem PySem.Spec PyProof.Rows L2 Dr
section
variable {P : Program} {w : World} {K : PySem.W.Frag} {mg : Str → Option Value} {base : Heap} {CX : CXT} {k : Nat} {f : Addr} {fd : FuncData} {ps : List Str} {sp : Sp}
/-- the promise of a def, kept where no guard stands on the stack -/
structure FnG (P : Program) (w : World) (K : PySem.W.Frag) (mg : Str → Option Value) (base : Heap)
    (k : Nat) (f : Addr) (fd : FuncData) (ps : List Str) (sp : Sp) : Prop where
  many : ∀ xs G R W, sp xs G R W → xs.length = ps.length
  goes : ∀ (B : Around) (below : List Env) (z : Shared) (G : Hp) (as : Args) (ys : List Value) (xs : List V) (R : VK) (W : XK),
    B.guards = some [] → Room k B → Env0 P w K mg base B below z G → BindsTo z fd as (ps.zip ys) → Vals xs ys →
    sp xs G R W → codeAny (model P w) B (.call (.ref f) as) (CR CX0 below P w G z R W) z
/-- a def of the text, by its body -/
theorem okG {x qual : Str} {st : Stmt} {N : List Str} (F : Fun K x qual st f fd) (S : FnScope N ps (defScope st))
    (many : ∀ xs G R W, sp xs G R W → xs.length = ps.length)
    (body : ∀ (c : Value) (B : Around) (below : List Env) (z : Shared) (G : Hp) (xs : List V) (R : VK) (W : XK), B.guards = some [] →
      Room k (B.deeper (envOfC qual (defScope st) z.heap.objs.size f c)) → sp xs G R W →
      ∃ t, PSs (cxOf CX0 P w K mg base N qual (defScope st) f c B below z G W).nox (defBody st) t ∧
        t { nx := fun _ G' => R .non G', rt := R } (start N xs) G) : FnG P w K mg base (k + 1) f fd ps sp := by
  obtain ⟨oc, od, kV, doc, pm, an, c, ct, osl, rfl, look, code⟩ := F.ex
  refine ⟨many, ?_⟩
  intro B below z G as ys xs R W gd room e0 bind rel holds
  have old : ∀ b o, base.get? b = some o → z.heap.get? b = some o := fun b o q => (e0.bs b o q).1
  have inK := e0.mod.kin.keeps old
  have slots : ∀ y ∈ ps.zip ys, (defScope st).names.lookup y.1 = some .local ∨ ((defScope st).names.lookup y.1 = some .cell ∧
      ((cellsFrom (z.heap.objs.size + 1) (defScope st).names []).lookup y.1).isSome = true) := by
    rintro ⟨n, v⟩ hy
    cases S.par n (List.of_mem_zip hy).1 with
    | inl q => exact .inl q
    | inr q => exact .inr ⟨q, PySem.W.cellsFrom_some _ _ _ (.inl q)⟩
  apply codeAny_call_function room.depth (inK _ _ look) rfl S.co S.gen rfl (PySem.W.codeRec_of inK code) (bind _ _ _ _ _)
  apply wpAny_newFunctionEnv_cells S.kind slots
  intro env henv z1 started
  subst henv
  refine ⟨(e0.mod.nolimit.keeps old).keeps started.toInCall.keep, codeAny_func ?_⟩
  obtain ⟨t, walk, asks⟩ := body c B below z G xs R W gd (room.deeper _) holds
  have inv := inv_start (CX := CX0) (E := W) S room.hd e0 (many _ _ _ _ holds) rel started
  refine wpAny_mono (walk.nox.run [] z1 (start N xs) G _ inv asks) ?_ (fun _ _ q => q)
  intro fl z2 q
  cases fl with
  | next =>
    obtain ⟨_, G', J, q⟩ := q
    exact ⟨.non, G', J.os, J.bare, J.base, J.hok, rfl, q⟩
  | ret u =>
    obtain ⟨v, _, G', J, rv, q⟩ := q
    exact ⟨v, G', J.os, J.bare, J.base, J.hok, rv, q⟩
  | brk => obtain ⟨_, _, _, no⟩ := q; exact False.elim no
  | cont => obtain ⟨_, _, _, no⟩ := q; exact False.elim no
end
section
variable {X : Cx} {k : Nat} {f : Addr} {fd : FuncData} {ps : List Str} {sp : Sp} {dvs : List V} {ds : List Value} {x : Str} {p pos : Pos} {e : Expr} {es : List Expr} {t : TA}
/-- such a def is called by its name -/
theorem pe_callG (F : FnG X.prog X.w X.K X.mg X.base k f fd ps sp) (gd : X.A.guards = some []) (room : Room k X.A) (glob : Gl X x) (here : X.mg x = some (.ref f))
    (kept : PySem.W.keepIn X.K (.ref f) = true) (bind : L2.Binds X.K fd ps ds) (dflt : Vals dvs ds) (args : PA X (e :: es) t)
    (nm : (x == ("__debug__" : Str)) = false := by decide) (each : starEach (e :: es) X.env = (false, eval e X.env) :: starEach es X.env := by rfl)
    (plain : (backTo pos (starEach es X.env)).any (·.1) = false := by rfl) : PE X (.Call (.Name x p) (e :: es) [] pos) (tCall sp dvs E0 t) := by
  constructor
  intro pins z σ G R I asks
  apply wpAny_Call_Name_kw (ld_glob I glob here ?_ nm)
  apply PySem.W.callWith_K (h₀ := X.base) I.ok.mod.kin kept ?_ each plain
  apply thn (args.run pos pins z σ G _ I asks)
  rintro us z1 ⟨vs, G1, I1, r, q⟩
  refine ⟨I1.kIn, ?_⟩
  have rel := r.append dflt
  have many : (us ++ ds).length = ps.length := rel.length ▸ F.many _ _ _ _ q
  apply wpAny_call (codeAny_mono (F.goes X.A X.stack z1 G1 ⟨us, []⟩ (us ++ ds) (vs ++ dvs) _ E0 gd room I1.env0 (bind z1 us I1.kIn many) rel q) ?_)
  intro end1 z2 hq
  cases end1 with
  | error _ => exact False.elim hq
  | ok fl => cases fl with
    | ret _ => exact I1.after hq
    | next => exact False.elim hq
    | brk => exact False.elim hq
    | cont => exact False.elim hq
/-- repr of data: the text that they show -/
theorem call_repr (gd : X.A.guards = some []) (room : X.A.units + 66 < cLine) : CallR X (.builtin "repr") (fun xs G R => ∃ x d, xs = [x] ∧ Dp X.K G x d ∧
    d.showable = true ∧ d.hasDict = false ∧ d.depth ≤ 64 ∧ d.shown.length ≤ sizeLine ∧ R (.str d.shown) G) := by
  rintro pins z σ G xs us R I rel ⟨x, d, rfl, hd, h1, h2, h3, h4, q⟩
  obtain ⟨u, rfl, ru⟩ := vals1 rel
  obtain ⟨as, rd⟩ := Dp.reads I d x u hd ru
  cases hd with
  | non => cases ru; exact PySem.P.repr_of_none ⟨.str _, G, I.tok _, ⟨_, rfl⟩, q⟩
  | bl b => cases ru; exact PySem.P.repr_of_bool ⟨.str _, G, I.tok _, ⟨_, rfl⟩, q⟩
  | int i => obtain ⟨t, rfl⟩ := ru; exact PySem.P.repr_of_int (of_decide_eq_true h1) ⟨.str _, G, I.tok _, ⟨_, rfl⟩, q⟩
  | str y => obtain ⟨t, rfl⟩ := ru; exact PySem.P.repr_of_str ⟨.str _, G, I.tok _, ⟨_, rfl⟩, q⟩ h4
  | lst _ _ =>
    cases ru
    exact repr_of_reads' rd h1 (fun z => by rw [h2] at z; cases z) gd (by omega) (fun _ _ z => z) (fun h' _ tk more => ⟨.str _, G, I.kept more, ⟨_, rfl⟩, q⟩) h4
  | tup _ _ =>
    cases ru
    exact repr_of_reads' rd h1 (fun z => by rw [h2] at z; cases z) gd (by omega) (fun _ _ z => z) (fun h' _ tk more => ⟨.str _, G, I.kept more, ⟨_, rfl⟩, q⟩) h4
end
/-- the law's own end, its def kept where no guard stands -/
theorem walkG {l : PySem.W.OpenLaw} {n k : Nat} {q : Program} {loose : List Str} {XP : (Str → Option Value) → Heap → Prop} {YP : World → Heap → Prop} {d : DefRec}
    {K : Params → PySem.W.Frag} {sp : World → Sp} {x : Str}
    (most : l.most = some n) (line : n ≤ sizeLine) (plain : d.params.defaults = []) (room : Room k callerA)
    (inK : ∀ (w : World) (h : Heap), YP w h → (K w.params).In h)
    (F : ∀ (w : World) (mg : Str → Option Value) (fa : Addr) (h : Heap), (K w.params).In h → h.Ns mainGlobals mg → mg d.name = some (.ref fa) →
      ∃ fd : FuncData, (∀ (z : Shared) (u : Value), BindsTo z fd ⟨[u], []⟩ [(x, u)]) ∧
        ∀ base : Heap, (K w.params).In base → base.Ns mainGlobals mg → FnG l.prog w (K w.params) mg base k fa fd [x] (sp w))
    (asks : ∀ (w : World) (G : Hp) (a : Addr) (ns : List Int), ns.length ≤ n → Only G → SqL (K w.params) G a (ns.map V.int) → sp w [.ref a] G (fun v _ => v = .bl true) E0) :
    PySem.W.WalkO q loose XP YP l.row.toRowW d [] (fun f vs => PySem.call f vs) := by
  apply Att.attach_call most plain
  intro w s₀ z mg mb fa o pm cd doc a vs ns ground Y ho hd hcd here isl areI few gens
  obtain ⟨fd, bind, F⟩ := F w mg fa _ (inK w _ Y) ground.T.g here
  have KX := inK w _ Y
  have rel := vals_ints areI
  have lenV := areI.length
  have few' : ns.length ≤ sizeLine := Nat.le_trans few line
  -- nothing but the script is tracked; what is written stands in the base
  have core : ∀ G : Hp, Only G → SqL (K w.params) G a (ns.map V.int) → HOk l.prog w G z.heap → (∀ b, b ≠ a → G b = none) → (G a ≠ none → (K w.params).lookup a = none) →
      codeAny (model l.prog w) callerA (.call (.ref fa) ⟨[.ref a], []⟩)
        (fun r s' => r = .ok (.ret (.bool true)) ∧ OldK z.heap s'.heap ∧ s'.os = z.os ∧ AllBare s'.gens) z := by
    intro G only isS ok alone outside
    have keepB : ∀ {b : Addr} {u : Obj}, z.heap.get? b = some u → b ≠ a → (hidT z.heap G).get? b = some u := fun e ne => hidT_get e (alone _ ne)
    have nsB : ∀ {b : Addr} {m : Str → Option Value}, z.heap.Ns b m → (hidT z.heap G).Ns b m := by
      rintro b m ⟨u, es, ep, e, hdat, r⟩
      refine ⟨u, es, ep, keepB e fun same => ?_, hdat, r⟩
      rw [same, isl] at e
      cases e
      exact nomatch hdat
    have kB : (K w.params).In (hidT z.heap G) := by
      intro b u e
      cases hG : G b with
      | none => exact hidT_get (KX b u e) hG
      | some v =>
        have same : b = a := Classical.byContradiction fun ne => by rw [alone b ne] at hG; cases hG
        subst same
        rw [outside (by rw [hG]; simp)] at e
        cases e
    have mod : Mod (K w.params) mg (hidT z.heap G) :=
      ⟨kB, nsB ground.T.g, ⟨mb, nsB ground.T.b, ground.T.builtins⟩, let ⟨mc, i1, i2⟩ := ground.T.nolimit; ⟨mc, nsB i1, i2⟩⟩
    have e0 : Env0 l.prog w (K w.params) mg (hidT z.heap G) callerA [] z G :=
      { frames := rfl, mod := mod, bs := fun _ _ e => of_hidT e, bsz := Nat.le_of_eq (hidT_size _ _), funs := trivial, frf := fun b no => (nomatch no), hok := ok, bare := .of_eq gens }
    refine codeAny_mono ((F _ kB (nsB ground.T.g)).goes callerA [] z G _ [.ref a] [.ref a] _ _ rfl room e0 (bind z (.ref a)) (.cons rfl .nil) (asks w G a ns few only isS)) ?_
    intro end1 z2 hq
    cases end1 with
    | error _ => exact False.elim hq
    | ok fl => cases fl with
      | next => exact False.elim hq
      | brk => exact False.elim hq
      | cont => exact False.elim hq
      | ret u =>
        obtain ⟨v, G', os, bare, un, ok', rv, isT⟩ := hq
        obtain rfl : v = .bl true := isT
        obtain rfl : u = Value.bool true := rv
        refine ⟨rfl, OldK.of_keep fun b u e => ?_, os, bare⟩
        cases hG : G b with
        | none => exact un.keep b u e hG (fun no => nomatch no) (fun no => nomatch no)
        | some v =>
          cases only b with
          | inl no => rw [hG] at no; cases no
          | inr lock =>
            obtain ⟨ob, ys, lock⟩ := lock
            have one := (ok b _ lock).1
            rw [e] at one
            cases one
            exact (ok' b _ (un.frzs b _ _ lock)).1
  cases hK : (K w.params).lookup a with
  | none =>
    let G : Hp := fun b => if b = a then some (.frz { cls := .type "list", data := .seq vs.toArray } (.lst (ns.map V.int))) else none
    have at_a : G a = some (.frz { cls := .type "list", data := .seq vs.toArray } (.lst (ns.map V.int))) := if_pos rfl
    have off : ∀ b, b ≠ a → G b = none := fun b ne => if_neg ne
    refine core G (fun b => ?_) (.inl (.inr ⟨_, at_a⟩)) (fun b u hG => ?_) off fun _ => hK
    · by_cases ne : b = a
      · subst ne; exact .inr ⟨_, _, at_a⟩
      · exact .inl (off b ne)
    · by_cases ne : b = a
      · subst ne
        rw [at_a] at hG
        cases hG
        exact ⟨isl, by rw [List.length_map]; exact few', vs, _, rel, isl⟩
      · rw [off b ne] at hG
        cases hG
  | some o2 =>
    have own := KX a o2 hK
    rw [isl] at own
    cases own
    exact core (fun _ => none) (fun _ => .inl rfl) (.inr ⟨_, vs.toArray, _, hK, rfl, rfl, rfl, by rw [List.size_toArray, lenV]; exact few', by simpa using rel⟩)
      (fun b u no => nomatch no) (fun _ _ => rfl) (fun no => absurd rfl no)
end Gd

/-! == and != where the left side is an instance whose class has an own __eq__ (and no own __ne__): both answers, beside anything. -/
namespace Oe
open PySem PySem.Spec PyProof.Rows L2 Dr
section
variable {prog : Program} {w : World} {A : Around} {E : Value → Shared → Prop} {z : Shared} {K : PySem.W.Frag} {x C f : Addr} {ox : Obj} {od : Option Obj} {b : Value}
/-- a found builtin is called as a special method -/
theorem special_blt {M : Model} {name : Str} {id : String} {as : List Value} {Q : Option Value → Shared → Prop} (inK : K.In z.heap) (I : PySem.W.InstAt z.heap x ox C od)
    (found : PySem.W.findIn K (.ref C) name = some (some (.builtin id))) (plain : bindSpecial (.builtin id) (.ref x) = pure (.builtin id, [.ref x]))
    (go : wpAny M A (call (.builtin id) (.ref x :: as)) (fun v => Q (some v)) E z) : wpAny M A (callSpecialIfBound? (.ref x) name as) Q E z := by
  unfold callSpecialIfBound? bindSpecialIfBound?
  apply wpAny_holding
  apply wpAny_bind
  apply wpAny_bind
  apply wpAny_bind
  refine I.type.here ((PySem.W.looks_findIn inK found).here ?_)
  apply wpAny_bind
  apply wpAny_askSetting
  apply wpAny_ite
  have fin : wpAny M A (call (.builtin id) ([.ref x] ++ as) >>= fun v => pure (some v)) Q E z := wpAny_bind (wpAny_mono go (fun _ _ q => wpAny_pure q) fun _ _ q => q)
  split
  · exact wpAny_bind ((PySem.W.Looks.of_pure plain).here (wpAny_pure (by exact fin)))
  · exact wpAny_tryCatch (wpAny_bind ((PySem.W.Looks.of_pure plain).here (wpAny_pure (by exact fin))))
/-- object.__ne__ asks the own __eq__ -/
theorem object_ne {Q : Value → Shared → Prop} (inK : K.In z.heap) (I : PySem.W.InstAt z.heap x ox C od) (isO : PySem.W.mroIn K C (.type "object") = some true)
    (found : PySem.W.findIn K (.ref C) "__eq__" = some (some (.ref f))) (isF : PySem.W.isFn K (.ref f) = true) (room : A.units + 2 < cLine)
    (go : wpAny (model prog w) A.in1 (call (.ref f) [.ref x, b]) (fun v s' => ∃ r, v = .bool r ∧ Q (.bool (!r)) s') E z) :
    wpAny (model prog w) A (call (.builtin "object.__ne__") [.ref x, b]) Q E z := by
  have sub : PySem.W.Looks (model prog w) z.heap (isInstance (.ref x) (.type "object")) true := I.type.andThen (PySem.W.looks_mroIn inK isO)
  apply wpAny_call
  apply codeAny_call_builtin PySem.F.cmp_object.ne.plain PySem.F.cmpEntry_ne
  refine PySem.W.check_slot (self := .ref x) (rest := [b]) (kw := []) PySem.F.cmpKind_ne PySem.F.cmpSplit_ne sub (PySem.F.cmpArgs_ne _ _) ?_
  unfold Builtin.«object.__ne__»
  have run : wpAny (model prog w) A.in1 (callSpecialIfBound? (.ref x) (Str.ofString "__eq__") [b]) (fun v s' => ∃ r, v = some (.bool r) ∧ Q (.bool (!r)) s') E z :=
    PySem.W.ifBound_K inK I found isF (wpAny_mono go (fun v s' ⟨r, e, q⟩ => ⟨r, by rw [e], q⟩) fun _ _ q => q)
  repeat (first
    | with_reducible refine wpAny_cRoomFor (show A.in1.units < cLine from by show A.units + 1 < cLine; omega) ?_
    | (refine wpAny_bind (m := callSpecialIfBound? (.ref x) (Str.ofString "__eq__") [b]) (wpAny_mono run (fun v s' hv => ?_) fun _ _ q => q))
    | wp_step)
  obtain ⟨r, rfl, q⟩ := hv
  repeat (first | exact q | exact wpAny_pure q | exact wpAny_truthy_bool q | (refine wpAny_bind (m := truthy (.bool _)) (wpAny_truthy_bool ?_)) | wp_step)
/-- x != b, x an instance with its own __eq__ -/
theorem rc_ne {Q : Value → Shared → Prop} {tb : Value} (inK : K.In z.heap) (I : PySem.W.InstAt z.heap x ox C od) (isO : PySem.W.mroIn K C (.type "object") = some true)
    (none_ : PySem.W.findIn K (.ref C) "__ne__" = some (some (.builtin "object.__ne__"))) (found : PySem.W.findIn K (.ref C) "__eq__" = some (some (.ref f))) (isF : PySem.W.isFn K (.ref f) = true)
    (right : PySem.W.Looks (model prog w) z.heap (typeOf b) tb) (first : PySem.W.notFirst K C tb = true) (room : A.units + 3 < cLine)
    (go : wpAny (model prog w) A.in1 (call (.ref f) [.ref x, b]) (fun v s' => ∃ r, v = .bool r ∧ Q (.bool (!r)) s') E z) :
    wpAny (model prog w) A (richCompare .NotEq (.ref x) b) Q E z := by
  have one : wpAny (model prog w) A (tryCompare (.ref x) (cmpInfo .NotEq).2.1 b) (fun o s' => ∃ r, o = some (.bool (!r)) ∧ Q (.bool (!r)) s') E z := by
    unfold tryCompare
    apply wpAny_bind
    refine special_blt inK I none_ (PySem.F.cmp_object.ne.bind _) (object_ne inK I isO found isF (by omega) (wpAny_mono go (fun v s' ⟨r, e, q⟩ => ⟨r, e, ?_⟩) fun _ _ q => q))
    exact wpAny_pure ⟨r, rfl, q⟩
  unfold richCompare
  simp only [oneThing_ref]
  apply wpAny_holding
  apply wpAny_bind
  refine wpAny_cRoomFor (by omega) ?_
  apply wpAny_bind
  refine I.type.here ?_
  apply wpAny_bind
  refine right.here ?_
  split
  · rename_i differ
    have below : PySem.W.subIn K tb (.ref C) = some false := by
      cases Bool.or_eq_true_iff.mp first with
      | inl e => rw [beq_iff_eq.mp e] at differ; simp at differ
      | inr e => exact beq_iff_eq.mp e
    apply wpAny_bind
    refine (PySem.W.looks_subIn inK below).here ?_
    simp only [Bool.false_eq_true, if_false]
    apply wpAny_bind
    refine wpAny_mono one (fun o s' ⟨r, e, q⟩ => ?_) fun _ _ q => q
    subst e
    exact wpAny_pure q
  · apply wpAny_bind
    apply wpAny_pure
    simp only [Bool.false_eq_true, if_false]
    apply wpAny_bind
    refine wpAny_mono one (fun o s' ⟨r, e, q⟩ => ?_) fun _ _ q => q
    subst e
    exact wpAny_pure q
end
section
variable {X : Cx} {k : Nat} {C f : Addr} {fd : FuncData} {ps : List Str} {sp : Sp}
/-- what a class with an own __eq__ says of itself -/
structure OwnEq (K : PySem.W.Frag) (C f : Addr) : Prop where
  eq : PySem.W.findIn K (.ref C) "__eq__" = some (some (.ref f))
  ne : PySem.W.findIn K (.ref C) "__ne__" = some (some (.builtin "object.__ne__"))
  fn : PySem.W.isFn K (.ref f) = true
  ob : PySem.W.mroIn K C (.type "object") = some true
/-- left.__eq__(right), asked by its promise -/
def rOwn (K : PySem.W.Frag) (C : Addr) (sp : Sp) (g : Bool → Bool) : R2 := fun x y H Q => ∃ a dx fs t, x = .ref a ∧ H a = some (.ins C dx fs) ∧ TyX K H y t ∧ PySem.W.notFirst K C t = true ∧
  sp [x, y] H (fun v H' => ∃ b, v = .bl b ∧ Q (.bl (g b)) H') E0
theorem own_run {A : Around} {pins : List (Addr × Obj)} {σ : L2.St} {H : Hp} {s : Shared} {Q : VK} {x : Addr} {y : V} {u : Value} (F : FnOk X.prog X.w X.K X.mg X.base CX0 k f fd ps sp) (hr : Room k A) (fr : A.frames = X.A.frames) (hb : L2.Binds X.K fd ps []) (I : Inv X pins σ H s) (ry : RelV y u)
    (q : sp [.ref x, y] H Q E0) : wpAny (model X.prog X.w) A (call (.ref f) [.ref x, u]) (EP X pins σ Q) X.xe s := by
  have old := I.env0
  have e0 : Env0 X.prog X.w X.K X.mg X.base A X.stack s H :=
    { frames := fr.trans old.frames, mod := old.mod, bs := old.bs, bsz := old.bsz, funs := old.funs, frf := old.frf, hok := old.hok, bare := old.bare }
  have two : Vals [V.ref x, y] [Value.ref x, u] := .cons rfl (.cons ry .nil)
  have many : [Value.ref x, u].length = ps.length := two.length ▸ F.len _ _ _ _ q
  have bind := hb s [.ref x, u] I.kIn (by simpa using many)
  apply wpAny_call (codeAny_mono (F.run A X.stack s H ⟨[.ref x, u], []⟩ [.ref x, u] [.ref x, y] Q E0 hr e0 (by simpa using bind) two q) ?_)
  intro end1 z2 hq
  cases end1 with
  | error _ => exact False.elim hq
  | ok fl => cases fl with
    | ret _ => exact I.after hq
    | next => exact False.elim hq
    | brk => exact False.elim hq
    | cont => exact False.elim hq
theorem op_eqO (O : OwnEq X.K C f) (F : FnOk X.prog X.w X.K X.mg X.base CX0 k f fd ps sp) (hr : Room k X.A) (hb : L2.Binds X.K fd ps []) : OpR X (compareOp .Eq) (rOwn X.K C sp id) := by
  rintro pins s σ H x y v u Q I rx ry ⟨a, dx, fs, t, rfl, ha, ty, first, q⟩
  cases rx
  obtain ⟨mA, J, _⟩ := ins_get I.hok ha
  obtain ⟨od, J, _⟩ := J.look
  obtain ⟨m, hF⟩ := I.fr
  obtain ⟨P, kit, p, _⟩ := kit_of I ry ty
  show wpAny (model X.prog X.w) X.A (richCompare .Eq (.ref a) u) (EP X pins σ Q) X.xe s
  refine PySem.W.cmp_K (op := .Eq) (tb := t) (by have := hr.un; omega) hF I.ok.mod.kin J (kit.ty _ _ I.kIn p) first O.eq O.fn ?_
  refine wpAny_mono (own_run F hr rfl hb I ry q) (fun r s' hq => ?_) fun _ _ q => q
  obtain ⟨v, H', I', rv, b, rfl, q⟩ := hq
  cases rv
  exact ⟨.bl b, H', I', rfl, q⟩
theorem op_neO (O : OwnEq X.K C f) (F : FnOk X.prog X.w X.K X.mg X.base CX0 k f fd ps sp) (hr : Room (k + 1) X.A) (hb : L2.Binds X.K fd ps []) : OpR X (compareOp .NotEq) (rOwn X.K C sp not) := by
  rintro pins s σ H x y v u Q I rx ry ⟨a, dx, fs, t, rfl, ha, ty, first, q⟩
  cases rx
  obtain ⟨mA, J, _⟩ := ins_get I.hok ha
  obtain ⟨od, J, _⟩ := J.look
  obtain ⟨P, kit, p, _⟩ := kit_of I ry ty
  show wpAny (model X.prog X.w) X.A (richCompare .NotEq (.ref a) u) (EP X pins σ Q) X.xe s
  refine rc_ne I.kIn J O.ob O.ne O.eq O.fn (kit.ty _ _ I.kIn p) first (by have := hr.un; omega) ?_
  refine wpAny_mono (own_run F hr.in1 rfl hb I ry q) (fun r s' hq => ?_) fun _ _ q => q
  obtain ⟨v, H', I', rv, b, rfl, q⟩ := hq
  cases rv
  exact ⟨b, rfl, .bl (!b), H', I', rfl, q⟩
end
end Oe

namespace D3
open PySem PySem.Spec PyProof.Rows L2 Dr Gd Oe
abbrev sIsn : Stmt := topS 10
abbrev sNum : Stmt := topS 11
abbrev sOne : Stmt := topS 12
abbrev sRI : Stmt := inClass (topS 13) 0
abbrev sRW : Stmt := inClass (topS 13) 6
abbrev sRE : Stmt := inClass (topS 13) 7
theorem scIsn : FnScope ["value"] ["value"] (defScope sIsn) := ⟨rfl, rfl, rfl, by decide +kernel, rfl, by decide +kernel, by decide +kernel⟩
theorem scNum : FnScope ["value", "least", "most"] ["value", "least", "most"] (defScope sNum) := ⟨rfl, rfl, rfl, by decide +kernel, rfl, by decide +kernel, by decide +kernel⟩
theorem scOne : FnScope ["value", "texts"] ["value", "texts"] (defScope sOne) := ⟨rfl, rfl, rfl, by decide +kernel, rfl, by decide +kernel, by decide +kernel⟩
theorem scRI : FnScope ["self", "way", "still", "hold", "pins", "guard"] ["self", "way", "still", "hold", "pins", "guard"] (defScope sRI) := ⟨rfl, rfl, rfl, by decide +kernel, rfl, by decide +kernel, by decide +kernel⟩
theorem scRW : FnScope ["self", "part", "value", "parts"] ["self", "part", "value"] (defScope sRW) := ⟨rfl, rfl, rfl, by decide +kernel, rfl, by decide +kernel, by decide +kernel⟩
theorem scRE : FnScope ["self", "other"] ["self", "other"] (defScope sRE) := ⟨rfl, rfl, rfl, by decide +kernel, rfl, by decide +kernel, by decide +kernel⟩
/-! ### rules as data -/
structure R5 where
  way : Str
  still : Int
  hold : Int
  pins : Int
  guard : Int
deriving DecidableEq
def waysL : List Str := ["end", "front", "rank"]
def partsL : List Str := ["way", "still", "hold", "pins", "guard"]
structure R5.ok (r : R5) : Prop where
  w : r.way ∈ waysL
  s : 0 ≤ r.still ∧ r.still ≤ 3
  h : 0 ≤ r.hold ∧ r.hold ≤ 3
  p : 0 ≤ r.pins ∧ r.pins ≤ 2
  g : 0 ≤ r.guard ∧ r.guard ≤ 3
/-- a rule's attributes -/
def fR (r : R5) : List (Str × V) := [("_way", .str r.way), ("_still", .int r.still), ("_hold", .int r.hold), ("_pins", .int r.pins), ("_guard", .int r.guard)]
def RuleAt (C : Addr) (H : Hp) (p : Addr) (r : R5) : Prop := ∃ dx, H p = some (.ins C dx (fR r))
theorem fR_put (w : Str) (s h p g : Int) : putF "_guard" (.int g) (putF "_pins" (.int p) (putF "_hold" (.int h) (putF "_still" (.int s) (putF "_way" (.str w) [])))) = fR ⟨w, s, h, p, g⟩ := by kernel_rfl
theorem fR_way (r : R5) : (fR r).lookup ("_way" : Str) = some (.str r.way) := by kernel_rfl
theorem fR_still (r : R5) : (fR r).lookup ("_still" : Str) = some (.int r.still) := by kernel_rfl
theorem fR_hold (r : R5) : (fR r).lookup ("_hold" : Str) = some (.int r.hold) := by kernel_rfl
theorem fR_pins (r : R5) : (fR r).lookup ("_pins" : Str) = some (.int r.pins) := by kernel_rfl
theorem fR_guard (r : R5) : (fR r).lookup ("_guard" : Str) = some (.int r.guard) := by kernel_rfl
theorem ways_in {w : Str} (h : w ∈ waysL) : inV (.str w) (waysL.map V.str) = true := by
  unfold inV
  rw [List.any_eq_true]
  exact ⟨.str w, List.mem_map.mpr ⟨w, h, rfl⟩, by simp [eqV]⟩
theorem parts_in {w : Str} (h : w ∈ partsL) : inV (.str w) (partsL.map V.str) = true := by
  unfold inV
  rw [List.any_eq_true]
  exact ⟨.str w, List.mem_map.mpr ⟨w, h, rfl⟩, by simp [eqV]⟩
theorem flat_strs : ∀ l : List Str, (l.map V.str).all flatV = true
  | [] => rfl
  | _ :: r => by rw [List.map_cons, List.all_cons, flat_strs r]; rfl
theorem ifN {A B : Prop} (h : B) : if (!true) = true then A else B := by
  rw [if_neg (by decide)]
  exact h
/-! ### promises -/
/-- whether a value is a number within -/
def spNum (K : PySem.W.Frag) : Sp := fun vs H Q _ => ∃ (x : V) (l m : Int), vs = [x, .int l, .int m] ∧
  ((∃ i, x = .int i ∧ ∀ b, b = (decide (l ≤ i) && decide (i ≤ m)) → Q (.bl b) H) ∨ (∃ c, x = .bl c ∧ Q (.bl false) H) ∨ (∃ t, TyX K H x t ∧ PySem.W.kitOne K t (.type "int") = some false ∧ Q (.bl false) H))
def spOne (K : PySem.W.Frag) : Sp := fun vs H Q _ => ∃ (x : V) (t : Addr) (xs : List V), vs = [x, .ref t] ∧ SqT K H t xs ∧ xs.all flatV = true ∧
  ((∃ y, x = .str y ∧ ∀ b, b = inV x xs → Q (.bl b) H) ∨ (∃ ty, TyX K H x ty ∧ PySem.W.kitOne K ty (.type "str") = some false ∧ Q (.bl false) H))
/-- a rule is made, of values that are right -/
def spRI (C : Addr) : Sp := fun vs H Q _ => ∃ (p dx : Addr) (r : R5), vs = [.ref p, .str r.way, .int r.still, .int r.hold, .int r.pins, .int r.guard] ∧ r.ok ∧ H p = some (.ins C dx []) ∧
  ∀ H', RuleAt C H' p r → (∀ b o, b ≠ p → H b = some o → H' b = some o) → Q .non H'
/-- the same rule, one part otherwise -/
def R5.put (r : R5) (part : Str) (v : V) (r' : R5) : Prop :=
  (part = "way" ∧ v = .str r'.way ∧ r' = { r with way := r'.way }) ∨ (part = "still" ∧ v = .int r'.still ∧ r' = { r with still := r'.still }) ∨ (part = "hold" ∧ v = .int r'.hold ∧ r' = { r with hold := r'.hold }) ∨
  (part = "pins" ∧ v = .int r'.pins ∧ r' = { r with pins := r'.pins }) ∨ (part = "guard" ∧ v = .int r'.guard ∧ r' = { r with guard := r'.guard })
def spRW (C : Addr) : Sp := fun vs H Q _ => ∃ (p : Addr) (r r' : R5) (part : Str) (v : V), vs = [.ref p, .str part, v] ∧ RuleAt C H p r ∧ r.put part v r' ∧ r'.ok ∧
  ∀ x H', H x = none → RuleAt C H' x r' → Same H H' → Q (.ref x) H'
def spRE (K : PySem.W.Frag) (C : Addr) : Sp := fun vs H Q _ => ∃ (a : Addr) (y : V) (r : R5), vs = [.ref a, y] ∧ RuleAt C H a r ∧
  ((∃ b r', y = .ref b ∧ RuleAt C H b r' ∧ Q (.bl (decide (r = r'))) H) ∨ (∃ t, TyX K H y t ∧ PySem.W.kitOne K t (.ref C) = some false ∧ Q (.bl false) H))
/-- what the top says of the class Rule -/
structure TR (K : PySem.W.Frag) (mg : Str → Option Value) (C wA pA : Addr) : Prop where
  cl : Cls K C
  n1 : NoAttr K C "_way"
  n2 : NoAttr K C "_still"
  n3 : NoAttr K C "_hold"
  n4 : NoAttr K C "_pins"
  n5 : NoAttr K C "_guard"
  gC : mg "Rule" = some (.ref C)
  gW : mg "WAYS" = some (.ref wA)
  gP : mg "PARTS" = some (.ref pA)
  gT : ∃ t, mg "MOST_TICKS" = some (.int 3 t)
  gM : ∃ t, mg "MOST_PINS" = some (.int 2 t)
  sW : ∀ H, SqT K H wA (waysL.map V.str)
  sP : ∀ H, SqT K H pA (partsL.map V.str)
  ha : PySem.W.findIn K (.ref C) "__class__" = some (some (.builtin "object.__class__"))
  hn : PySem.W.specialIn K (.builtin "object.__class__") "__get__" = some (some (.builtin "getset_descriptor.__get__"))
  ht : PySem.W.takesIn K (.builtin "object.__class__") = some true
  hm : PySem.W.mroIn K C (.type "object") = some true
  k1 : PySem.W.kitOne K (.ref C) (.ref C) = some true
  isi : mg "isinstance" = none
  int : mg "int" = none
  bool : mg "bool" = none
  str : mg "str" = none
theorem TR.ty {K : PySem.W.Frag} {mg : Str → Option Value} {C wA pA : Addr} (T : TR K mg C wA pA) {H : Hp} {p : Addr} {r : R5} (h : RuleAt C H p r) : TyX K H (.ref p) (.ref C) := by
  obtain ⟨dx, h⟩ := h
  exact .base (.ins h T.cl T.ha T.hn T.ht T.hm)
section
variable {P : Program} {w : World} {K : PySem.W.Frag} {mg : Str → Option Value} {base : Heap} {C wA pA : Addr}
def spIsn (K : PySem.W.Frag) : Sp := fun vs H Q _ => ∃ x : V, vs = [x] ∧ ((∃ i, x = .int i ∧ Q (.bl true) H) ∨ (∃ c, x = .bl c ∧ Q (.bl false) H) ∨ ∃ t, TyX K H x t ∧ PySem.W.kitOne K t (.type "int") = some false ∧ Q (.bl false) H)
theorem ok_isn {f : Addr} {fd : FuncData} (F : Fun K "is_number" "is_number" sIsn f fd) (mI : mg "isinstance" = none) (mi : mg "int" = none) (mb : mg "bool" = none) : FnOk P w K mg base CX0 1 f fd ["value"] (spIsn K) := by
  refine F.ok scIsn (fun vs H Q E h => ?_) (fun cdv A outer s H vs Q E hr h => ?_)
  · obtain ⟨x, rfl, _⟩ := h
    rfl
  · obtain ⟨x, rfl, h⟩ := h
    refine ⟨_, pss_one (ps_ret (pe_and (pe_callB call_isi (by rfl) mI boot_isinstance (pa_cons (pv 0) (pa_cons (pe_bltn (v := .ty "int") (by rfl) mi boot_int rfl) pa_nil)))
      (pe_one (pe_not (pe_callB call_isi (by rfl) mI boot_isinstance (pa_cons (pv 0) (pa_cons (pe_bltn (v := .ty "bool") (by rfl) mb boot_bool rfl) pa_nil))))))), ?_⟩
    rcases h with ⟨i, rfl, q⟩ | ⟨c, rfl, q⟩ | ⟨t, ty, kt, q⟩
    · refine ⟨_, rfl, _, _, _, _, true, rfl, .ty "int", .base (.int i), kit_ty (by decide +kernel), true, rfl, iteT ?_⟩
      exact ⟨_, rfl, _, _, _, _, false, rfl, .ty "bool", .base (.int i), kit_ty (by decide +kernel), false, rfl, q⟩
    · refine ⟨_, rfl, _, _, _, _, true, rfl, .ty "int", .base (.bl c), kit_ty (by decide +kernel), true, rfl, iteT ?_⟩
      exact ⟨_, rfl, _, _, _, _, true, rfl, .ty "bool", .base (.bl c), kit_ty (by decide +kernel), true, rfl, q⟩
    · exact ⟨_, rfl, _, _, _, _, false, rfl, .ty "int", ty, kt, false, rfl, iteF q⟩
theorem ok_num {f fI : Addr} {fd fdI : FuncData} (F : Fun K "is_number_within" "is_number_within" sNum f fd) (GI : FnOk P w K mg base CX0 1 fI fdI ["value"] (spIsn K)) (kI : PySem.W.keepIn K (.ref fI) = true) (bI : L2.Binds K fdI ["value"] []) (gI : mg "is_number" = some (.ref fI)) : FnOk P w K mg base CX0 2 f fd ["value", "least", "most"] (spNum K) := by
  refine F.ok scNum (fun vs H Q E h => ?_) (fun cdv A outer s H vs Q E hr h => ?_)
  · obtain ⟨x, l, m, rfl, _⟩ := h
    rfl
  · obtain ⟨x, l, m, rfl, h⟩ := h
    refine ⟨_, pss_one (ps_ret (pe_and (pe_call GI hr (by rfl) gI kI bI .nil pass0 (pa_cons (pv 0) pa_nil)) (pe_one (pe_chain op_le op_le (pv 1) (pv 0) (pv 2))))), ?_⟩
    rcases h with ⟨i, rfl, q⟩ | ⟨c, rfl, q⟩ | ⟨t, ty, kt, q⟩
    · refine ⟨_, rfl, _, rfl, .inl ⟨i, rfl, true, rfl, iteT ?_⟩⟩
      refine ⟨_, rfl, _, rfl, _, _, rfl, rfl, _, rfl, ite2 (fun e => ⟨_, rfl, _, _, rfl, rfl, q _ ?_⟩) (fun e => q _ ?_)⟩
      · rw [e]; rfl
      · have e' : decide (l ≤ i) = false := by cases h : decide (l ≤ i) with
          | true => exact absurd h e
          | false => rfl
        rw [e']; rfl
    · exact ⟨_, rfl, _, rfl, .inr (.inl ⟨c, rfl, false, rfl, iteF q⟩)⟩
    · exact ⟨_, rfl, _, rfl, .inr (.inr ⟨t, ty, kt, false, rfl, iteF q⟩)⟩
theorem ok_one {f : Addr} {fd : FuncData} (F : Fun K "is_one_of" "is_one_of" sOne f fd) (mI : mg "isinstance" = none) (ms : mg "str" = none) : FnOk P w K mg base CX0 2 f fd ["value", "texts"] (spOne K) := by
  refine F.ok scOne (fun vs H Q E h => ?_) (fun cdv A outer s H vs Q E hr h => ?_)
  · obtain ⟨x, t, xs, rfl, _⟩ := h
    rfl
  · obtain ⟨x, t, xs, rfl, hS, fl, h⟩ := h
    refine ⟨_, pss_one (ps_ret (pe_and (pe_callB call_isi (by rfl) mI boot_isinstance (pa_cons (pv 0) (pa_cons (pe_bltn (v := .ty "str") (by rfl) ms boot_str rfl) pa_nil)))
      (pe_one (pe_cmpR op_in_seq (pv 0) (pv 1) (by rfl))))), ?_⟩
    rcases h with ⟨y, rfl, q⟩ | ⟨ty, hty, kt, q⟩
    · refine ⟨_, rfl, _, _, _, _, true, rfl, .ty "str", .base (.str y), kit_ty (by decide +kernel), true, rfl, iteT ?_⟩
      exact ⟨_, rfl, _, rfl, t, xs, rfl, .inr hS, rfl, fl, q _ rfl⟩
    · exact ⟨_, rfl, _, _, _, _, false, rfl, .ty "str", hty, kt, false, rfl, iteF q⟩
theorem within {l m i : Int} (h1 : l ≤ i) (h2 : i ≤ m) {b : Bool} (hb : b = (decide (l ≤ i) && decide (i ≤ m))) : b = true := by
  rw [hb, decide_eq_true h1, decide_eq_true h2]
  rfl
theorem ok_RI {f fO fN : Addr} {fd fdO fdN : FuncData} (F : Fun K "__init__" "Rule.__init__" sRI f fd) (T : TR K mg C wA pA) (GO : FnOk P w K mg base CX0 2 fO fdO ["value", "texts"] (spOne K)) (kO : PySem.W.keepIn K (.ref fO) = true) (bO : L2.Binds K fdO ["value", "texts"] []) (gO : mg "is_one_of" = some (.ref fO))
    (GN : FnOk P w K mg base CX0 2 fN fdN ["value", "least", "most"] (spNum K)) (kN : PySem.W.keepIn K (.ref fN) = true) (bN : L2.Binds K fdN ["value", "least", "most"] []) (gN : mg "is_number_within" = some (.ref fN)) :
    FnOk P w K mg base CX0 3 f fd ["self", "way", "still", "hold", "pins", "guard"] (spRI C) := by
  refine F.ok scRI (fun vs H Q E h => ?_) (fun cdv A outer s H vs Q E hr h => ?_)
  · obtain ⟨p, dx, r, rfl, _⟩ := h
    rfl
  · obtain ⟨p, dx, ⟨wy, st, ho, pi, gu⟩, rfl, ok, hp, k⟩ := h
    obtain ⟨tt, gT⟩ := T.gT
    obtain ⟨tm, gM⟩ := T.gM
    refine ⟨_, pss_cons (ps_if (pt_not (pt_val (pe_call GO hr (by rfl) gO kO bO .nil pass0 (pa_cons (pv 1) (pa_cons (pe_glob (v := .ref wA) (by rfl) T.gW rfl) pa_nil))))) (pss_one ps_never) pss_nil)
      (pss_cons (ps_if (pt_not (pt_val (pe_call GN hr (by rfl) gN kN bN .nil pass0 (pa_cons (pv 2) (pa_cons pe_int (pa_cons (pe_glob (v := .int 3) (by rfl) gT ⟨_, rfl⟩) pa_nil)))))) (pss_one ps_never) pss_nil)
      (pss_cons (ps_if (pt_not (pt_val (pe_call GN hr (by rfl) gN kN bN .nil pass0 (pa_cons (pv 3) (pa_cons pe_int (pa_cons (pe_glob (v := .int 3) (by rfl) gT ⟨_, rfl⟩) pa_nil)))))) (pss_one ps_never) pss_nil)
      (pss_cons (ps_if (pt_not (pt_val (pe_call GN hr (by rfl) gN kN bN .nil pass0 (pa_cons (pv 4) (pa_cons pe_int (pa_cons (pe_glob (v := .int 2) (by rfl) gM ⟨_, rfl⟩) pa_nil)))))) (pss_one ps_never) pss_nil)
      (pss_cons (ps_if (pt_not (pt_val (pe_call GN hr (by rfl) gN kN bN .nil pass0 (pa_cons (pv 5) (pa_cons pe_int (pa_cons (pe_glob (v := .int 3) (by rfl) gT ⟨_, rfl⟩) pa_nil)))))) (pss_one ps_never) pss_nil)
      (pss_cons (ps_fld (pv 0) (pv 1) rfl) (pss_cons (ps_fld (pv 0) (pv 2) rfl) (pss_cons (ps_fld (pv 0) (pv 3) rfl) (pss_cons (ps_fld (pv 0) (pv 4) rfl) (pss_one (ps_fld (pv 0) (pv 5) rfl)))))))))), ?_⟩
    refine ⟨_, rfl, _, wA, _, rfl, T.sW H, flat_strs _, .inl ⟨wy, rfl, fun b hb => ⟨b, rfl, ?_⟩⟩⟩
    obtain rfl : b = true := hb.trans (ways_in ok.w)
    refine ifN ⟨_, rfl, _, _, _, rfl, .inl ⟨st, rfl, fun b hb => ⟨b, rfl, ?_⟩⟩⟩
    obtain rfl : b = true := within ok.s.1 ok.s.2 hb
    refine ifN ⟨_, rfl, _, _, _, rfl, .inl ⟨ho, rfl, fun b hb => ⟨b, rfl, ?_⟩⟩⟩
    obtain rfl : b = true := within ok.h.1 ok.h.2 hb
    refine ifN ⟨_, rfl, _, _, _, rfl, .inl ⟨pi, rfl, fun b hb => ⟨b, rfl, ?_⟩⟩⟩
    obtain rfl : b = true := within ok.p.1 ok.p.2 hb
    refine ifN ⟨_, rfl, _, _, _, rfl, .inl ⟨gu, rfl, fun b hb => ⟨b, rfl, ?_⟩⟩⟩
    obtain rfl : b = true := within ok.g.1 ok.g.2 hb
    refine ifN ⟨_, rfl, _, rfl, p, C, dx, _, rfl, hp, T.cl, T.n1, (by show 0 < 1000; decide), ?_⟩
    refine ⟨_, rfl, _, rfl, p, C, dx, _, rfl, upd_same, T.cl, T.n2, (by show 1 < 1000; decide), ?_⟩
    refine ⟨_, rfl, _, rfl, p, C, dx, _, rfl, upd_same, T.cl, T.n3, (by show 2 < 1000; decide), ?_⟩
    refine ⟨_, rfl, _, rfl, p, C, dx, _, rfl, upd_same, T.cl, T.n4, (by show 3 < 1000; decide), ?_⟩
    refine ⟨_, rfl, _, rfl, p, C, dx, _, rfl, upd_same, T.cl, T.n5, (by show 4 < 1000; decide), ?_⟩
    refine k _ ⟨dx, Eq.trans upd_same (congrArg (fun l => some (HO.ins C dx l)) (fR_put wy st ho pi gu))⟩ fun b o ne e => ?_
    rw [upd_ne ne, upd_ne ne, upd_ne ne, upd_ne ne, upd_ne ne]
    exact e
theorem ok_RE {f : Addr} {fd : FuncData} (F : Fun K "__eq__" "Rule.__eq__" sRE f fd) (T : TR K mg C wA pA) : FnOk P w K mg base CX0 2 f fd ["self", "other"] (spRE K C) := by
  refine F.ok scRE (fun vs H Q E h => ?_) (fun cdv A outer s H vs Q E hr h => ?_)
  · obtain ⟨a, y, r, rfl, _⟩ := h
    rfl
  · obtain ⟨a, y, r, rfl, ⟨dx, ha⟩, h⟩ := h
    refine ⟨_, pss_one (ps_ret (pe_and (pe_callB call_isi (by rfl) T.isi boot_isinstance (pa_cons (pv 1) (pa_cons (pe_glob (v := .ref C) (by rfl) T.gC rfl) pa_nil)))
      (pe_and (pe_cmpR op_eq (pe_fld (pv 0) rfl) (pe_fld (pv 1) rfl) (nomark _)) (pe_and (pe_cmpR op_eq (pe_fld (pv 0) rfl) (pe_fld (pv 1) rfl) (nomark _)) (pe_and (pe_cmpR op_eq (pe_fld (pv 0) rfl) (pe_fld (pv 1) rfl) (nomark _))
        (pe_and (pe_cmpR op_eq (pe_fld (pv 0) rfl) (pe_fld (pv 1) rfl) (nomark _)) (pe_one (pe_cmpR op_eq (pe_fld (pv 0) rfl) (pe_fld (pv 1) rfl) (nomark _))))))))), ?_⟩
    rcases h with ⟨b, r', rfl, hB, q⟩ | ⟨t, ty, kt, q⟩
    · obtain ⟨dy, hb⟩ := id hB
      obtain ⟨w1, s1, h1, p1, g1⟩ := r
      obtain ⟨w2, s2, h2, p2, g2⟩ := r'
      refine ⟨_, rfl, _, _, _, _, true, rfl, .own C, T.ty hB, T.k1, true, rfl, iteT ?_⟩
      have no : ¬ ((⟨w1, s1, h1, p1, g1⟩ : R5) = ⟨w2, s2, h2, p2, g2⟩) → Q (.bl false) H := fun ne => by
        rw [decide_eq_false ne] at q
        exact q
      refine ⟨_, rfl, a, C, dx, _, _, rfl, ha, T.cl, T.n1, fR_way _, _, rfl, b, C, dy, _, _, rfl, hb, T.cl, T.n1, fR_way _, rfl, _, rfl, ite2 (fun e1 => ?_) (fun e => no fun z => e (decide_eq_true (by cases z; rfl)))⟩
      refine ⟨_, rfl, a, C, dx, _, _, rfl, ha, T.cl, T.n2, fR_still _, _, rfl, b, C, dy, _, _, rfl, hb, T.cl, T.n2, fR_still _, rfl, _, rfl, ite2 (fun e2 => ?_) (fun e => no fun z => e (decide_eq_true (by cases z; rfl)))⟩
      refine ⟨_, rfl, a, C, dx, _, _, rfl, ha, T.cl, T.n3, fR_hold _, _, rfl, b, C, dy, _, _, rfl, hb, T.cl, T.n3, fR_hold _, rfl, _, rfl, ite2 (fun e3 => ?_) (fun e => no fun z => e (decide_eq_true (by cases z; rfl)))⟩
      refine ⟨_, rfl, a, C, dx, _, _, rfl, ha, T.cl, T.n4, fR_pins _, _, rfl, b, C, dy, _, _, rfl, hb, T.cl, T.n4, fR_pins _, rfl, _, rfl, ite2 (fun e4 => ?_) (fun e => no fun z => e (decide_eq_true (by cases z; rfl)))⟩
      refine ⟨_, rfl, a, C, dx, _, _, rfl, ha, T.cl, T.n5, fR_guard _, _, rfl, b, C, dy, _, _, rfl, hb, T.cl, T.n5, fR_guard _, rfl, ?_⟩
      have z1 : w1 = w2 := V.str.inj (of_decide_eq_true e1)
      have z2 : s1 = s2 := V.int.inj (of_decide_eq_true e2)
      have z3 : h1 = h2 := V.int.inj (of_decide_eq_true e3)
      have z4 : p1 = p2 := V.int.inj (of_decide_eq_true e4)
      subst z1 z2 z3 z4
      by_cases z5 : g1 = g2
      · subst z5
        rw [decide_eq_true rfl] at q
        have e5 : decide (V.int g1 = V.int g1) = true := decide_eq_true rfl
        show Q (.bl (decide (V.int g1 = V.int g1))) H
        rw [e5]
        exact q
      · have e5 : decide (V.int g1 = V.int g2) = false := decide_eq_false fun z => z5 (V.int.inj z)
        show Q (.bl (decide (V.int g1 = V.int g2))) H
        rw [e5]
        exact no fun z => z5 (by cases z; rfl)
    · exact ⟨_, rfl, _, _, _, _, false, rfl, .own C, ty, kt, false, rfl, iteF q⟩
end
end D3

namespace D3
open PySem PySem.Spec PyProof.Rows L2 Dr Gd Oe
abbrev sLag : Stmt := topS 19
abbrev sHI : Stmt := inClass (topS 20) 0
abbrev sHE : Stmt := inClass (topS 20) 7
theorem scLag : FnScope ["value", "least", "most"] ["value"] (defScope sLag) := ⟨rfl, rfl, rfl, by decide +kernel, rfl, by decide +kernel, by decide +kernel⟩
theorem scHI : FnScope ["self", "rule", "room", "top", "many", "goes", "lag"] ["self", "rule", "room", "top", "many", "goes", "lag"] (defScope sHI) := ⟨rfl, rfl, rfl, by decide +kernel, rfl, by decide +kernel, by decide +kernel⟩
theorem scHE : FnScope ["self", "other"] ["self", "other"] (defScope sHE) := ⟨rfl, rfl, rfl, by decide +kernel, rfl, by decide +kernel, by decide +kernel⟩
/-- a rule's parameters as a dict -/
def kW (r : R5) : List (Key × V) := [(.inr "way", .str r.way), (.inr "still", .int r.still), (.inr "hold", .int r.hold), (.inr "pins", .int r.pins), (.inr "guard", .int r.guard)]
theorem kW_merge (r : R5) : mergeK [] (kW r) = kW r := by kernel_rfl
theorem kW_way (r : R5) : valV (kW r) (.inr "way") = some (.str r.way) := by kernel_rfl
theorem kW_still (r : R5) : valV (kW r) (.inr "still") = some (.int r.still) := by kernel_rfl
theorem kW_hold (r : R5) : valV (kW r) (.inr "hold") = some (.int r.hold) := by kernel_rfl
theorem kW_pins (r : R5) : valV (kW r) (.inr "pins") = some (.int r.pins) := by kernel_rfl
theorem kW_guard (r : R5) : valV (kW r) (.inr "guard") = some (.int r.guard) := by kernel_rfl
theorem kW_len (r : R5) : (kW r).length < sizeLine := small1000 (show 5 ≤ 1000 by decide)
theorem kW_put {r r' : R5} {part : Str} {v : V} (h : r.put part v r') : putK (kW r) (.inr part) v = kW r' := by
  obtain ⟨w1, s1, h1, p1, g1⟩ := r
  obtain ⟨w2, s2, h2, p2, g2⟩ := r'
  rcases h with ⟨rfl, rfl, e⟩ | ⟨rfl, rfl, e⟩ | ⟨rfl, rfl, e⟩ | ⟨rfl, rfl, e⟩ | ⟨rfl, rfl, e⟩ <;> cases e <;> kernel_rfl
theorem put_part {r r' : R5} {part : Str} {v : V} (h : r.put part v r') : part ∈ partsL := by
  rcases h with ⟨rfl, _⟩ | ⟨rfl, _⟩ | ⟨rfl, _⟩ | ⟨rfl, _⟩ | ⟨rfl, _⟩ <;> decide +kernel
structure H6 where
  rule : R5
  room : Int
  top : Int
  many : Int
  goes : Bool
  lo : Int
  hi : Int
deriving DecidableEq
structure H6.ok (h : H6) : Prop where
  u : h.rule.ok
  r : 1 ≤ h.room ∧ h.room ≤ 4
  t : 0 ≤ h.top ∧ h.top ≤ 2
  m : 1 ≤ h.many ∧ h.many ≤ 2
  l : 1 ≤ h.lo ∧ h.lo ≤ h.hi ∧ h.hi ≤ 3
def fH (ra la : Addr) (h : H6) : List (Str × V) := [("_rule", .ref ra), ("_room", .int h.room), ("_top", .int h.top), ("_many", .int h.many), ("_goes", .bl h.goes), ("_lag", .ref la)]
def HouseAt (CR CH : Addr) (H : Hp) (p : Addr) (h : H6) : Prop := ∃ dx ra la, H p = some (.ins CH dx (fH ra la h)) ∧ RuleAt CR H ra h.rule ∧ H la = some (.tup [.int h.lo, .int h.hi])
theorem fH_put (ra la : Addr) (r : R5) (a b c : Int) (g : Bool) (l m : Int) : putF "_lag" (.ref la) (putF "_goes" (.bl g) (putF "_many" (.int c) (putF "_top" (.int b) (putF "_room" (.int a) (putF "_rule" (.ref ra) []))))) = fH ra la ⟨r, a, b, c, g, l, m⟩ := by kernel_rfl
theorem fH_rule (ra la : Addr) (h : H6) : (fH ra la h).lookup ("_rule" : Str) = some (.ref ra) := by kernel_rfl
theorem fH_room (ra la : Addr) (h : H6) : (fH ra la h).lookup ("_room" : Str) = some (.int h.room) := by kernel_rfl
theorem fH_top (ra la : Addr) (h : H6) : (fH ra la h).lookup ("_top" : Str) = some (.int h.top) := by kernel_rfl
theorem fH_many (ra la : Addr) (h : H6) : (fH ra la h).lookup ("_many" : Str) = some (.int h.many) := by kernel_rfl
theorem fH_goes (ra la : Addr) (h : H6) : (fH ra la h).lookup ("_goes" : Str) = some (.bl h.goes) := by kernel_rfl
theorem fH_lag (ra la : Addr) (h : H6) : (fH ra la h).lookup ("_lag" : Str) = some (.ref la) := by kernel_rfl
theorem RuleAt.keep {C : Addr} {H H' : Hp} {p : Addr} {r : R5} (h : RuleAt C H p r) (k : ∀ o, H p = some o → H' p = some o) : RuleAt C H' p r := ⟨h.choose, k _ h.choose_spec⟩
theorem RuleAt.same {C : Addr} {H H' : Hp} {p : Addr} {r : R5} (h : RuleAt C H p r) (k : Same H H') : RuleAt C H' p r := h.keep fun o => k p o
theorem RuleAt.fr2 {C d g c : Addr} {H H' : Hp} {p : Addr} {r : R5} (h : RuleAt C H p r) (D : Dw H d g c) (k : Fr2 d g H H') : RuleAt C H' p r := by
  obtain ⟨dx, h⟩ := h
  obtain ⟨⟨gs, cs, r, t, hd, hg, hc⟩, _⟩ := D
  exact ⟨dx, k _ _ (ne_of h hd (by intro z; cases z)) (ne_of h hg (by intro z; cases z)) h⟩
theorem HouseAt.same {CR CH : Addr} {H H' : Hp} {p : Addr} {h : H6} (x : HouseAt CR CH H p h) (k : Same H H') : HouseAt CR CH H' p h := by
  obtain ⟨dx, ra, la, e1, e2, e3⟩ := x
  exact ⟨dx, ra, la, k _ _ e1, e2.same k, k _ _ e3⟩
theorem ne_part {o : Option HO} {p q : Addr} {H : Hp} {a b : HO} (h1 : H p = some a) (h2 : H q = some b) (n : a ≠ b) : p ≠ q := ne_of h1 h2 n
def spLag (K : PySem.W.Frag) : Sp := fun vs H Q _ => ∃ (la : Addr) (l m : Int), vs = [.ref la] ∧ H la = some (.tup [.int l, .int m]) ∧ 1 ≤ l ∧ l ≤ m ∧ m ≤ 3 ∧ Q (.bl true) H
def spHI (CR CH : Addr) : Sp := fun vs H Q _ => ∃ (p dx ra la : Addr) (h : H6), vs = [.ref p, .ref ra, .int h.room, .int h.top, .int h.many, .bl h.goes, .ref la] ∧ h.ok ∧ H p = some (.ins CH dx []) ∧ RuleAt CR H ra h.rule ∧ H la = some (.tup [.int h.lo, .int h.hi]) ∧
  ∀ H', HouseAt CR CH H' p h → (∀ b o, b ≠ p → H b = some o → H' b = some o) → Q .non H'
def spHE (K : PySem.W.Frag) (CR CH : Addr) : Sp := fun vs H Q _ => ∃ (a : Addr) (y : V) (h : H6), vs = [.ref a, y] ∧ HouseAt CR CH H a h ∧
  ((∃ b h', y = .ref b ∧ HouseAt CR CH H b h' ∧ Q (.bl (decide (h = h'))) H) ∨ (∃ t, TyX K H y t ∧ PySem.W.kitOne K t (.ref CH) = some false ∧ Q (.bl false) H))
/-- what the top says of the class House -/
structure TH (K : PySem.W.Frag) (mg : Str → Option Value) (CR CH : Addr) : Prop where
  cl : Cls K CH
  n1 : NoAttr K CH "_rule"
  n2 : NoAttr K CH "_room"
  n3 : NoAttr K CH "_top"
  n4 : NoAttr K CH "_many"
  n5 : NoAttr K CH "_goes"
  n6 : NoAttr K CH "_lag"
  gC : mg "House" = some (.ref CH)
  gR : ∃ t, mg "MOST_ROOM" = some (.int 4 t)
  gT : ∃ t, mg "GREATEST_RANK" = some (.int 2 t)
  gM : ∃ t, mg "MOST_WAITING" = some (.int 2 t)
  gL : ∃ t, mg "GREATEST_LAG" = some (.int 3 t)
  ha : PySem.W.findIn K (.ref CH) "__class__" = some (some (.builtin "object.__class__"))
  hm : PySem.W.mroIn K CH (.type "object") = some true
  k1 : PySem.W.kitOne K (.ref CH) (.ref CH) = some true
  tuple : mg "tuple" = none
  len : mg "len" = none
theorem TH.ty {K : PySem.W.Frag} {mg : Str → Option Value} {CR CH wA pA : Addr} (T : TH K mg CR CH) (TR : TR K mg CR wA pA) {H : Hp} {p : Addr} {h : H6} (x : HouseAt CR CH H p h) : TyX K H (.ref p) (.ref CH) := by
  obtain ⟨dx, _, _, h, _⟩ := x
  exact .base (.ins h T.cl T.ha TR.hn TR.ht T.hm)
section
variable {P : Program} {w : World} {K : PySem.W.Frag} {mg : Str → Option Value} {base : Heap} {C CH wA pA : Addr}
theorem ok_RW {f fO fI : Addr} {fd fdO fdI : FuncData} (F : Fun K "with_part" "Rule.with_part" sRW f fd) (T : TR K mg C wA pA) (M : Mk K C fI) (GI : FnOk P w K mg base CX0 3 fI fdI ["self", "way", "still", "hold", "pins", "guard"] (spRI C)) (bI : L2.Binds K fdI ["self", "way", "still", "hold", "pins", "guard"] [])
    (GO : FnOk P w K mg base CX0 2 fO fdO ["value", "texts"] (spOne K)) (kO : PySem.W.keepIn K (.ref fO) = true) (bO : L2.Binds K fdO ["value", "texts"] []) (gO : mg "is_one_of" = some (.ref fO)) : FnOk P w K mg base CX0 5 f fd ["self", "part", "value"] (spRW C) := by
  refine F.ok scRW (fun vs H Q E h => ?_) (fun cdv A outer s H vs Q E hr h => ?_)
  · obtain ⟨p, r, r', part, v, rfl, _⟩ := h
    rfl
  · obtain ⟨p, r, r', part, v, rfl, ⟨dx, hp⟩, hput, ok, k⟩ := h
    have hu := hu_of hr
    refine ⟨_, pss_cons (ps_if (pt_not (pt_val (pe_call GO (hr.mono (by decide)) (by rfl) gO kO bO .nil pass0 (pa_cons (pv 1) (pa_cons (pe_glob (v := .ref pA) (by rfl) T.gP rfl) pa_nil))))) (pss_one ps_never) pss_nil)
      (pss_cons (ps_set (i := 3) scRW.nd rfl (Or.inl rfl) (pe_disp (pps_cons pe_str (pe_fld (pv 0) rfl) (pps_cons pe_str (pe_fld (pv 0) rfl) (pps_cons pe_str (pe_fld (pv 0) rfl) (pps_cons pe_str (pe_fld (pv 0) rfl) (pps_cons pe_str (pe_fld (pv 0) rfl) pps_nil))))) (by rfl) (by rfl) (fun z => by cases z) (by decide)))
      (pss_cons (ps_dput hu (pv 3) (pv 1) (pv 2) rfl)
      (pss_one (ps_ret (pe_make M GI hr (by rfl) T.gC bI .nil pass0 (pa_cons (pe_dget hu (pv 3) pe_str (fun _ _ => rfl)) (pa_cons (pe_dget hu (pv 3) pe_str (fun _ _ => rfl)) (pa_cons (pe_dget hu (pv 3) pe_str (fun _ _ => rfl)) (pa_cons (pe_dget hu (pv 3) pe_str (fun _ _ => rfl)) (pa_cons (pe_dget hu (pv 3) pe_str (fun _ _ => rfl)) pa_nil)))))))))), ?_⟩
    refine ⟨_, rfl, _, pA, _, rfl, T.sP H, flat_strs _, .inl ⟨part, rfl, fun b hb => ⟨b, rfl, ?_⟩⟩⟩
    obtain rfl : b = true := hb.trans (parts_in (put_part hput))
    refine ifN ?_
    intro q nq
    have pq : p ≠ q := ne_of_none hp nq
    have hp1 : (upd H q (.dK [])) p = some (.ins C dx (fR r)) := by rw [upd_ne pq]; exact hp
    refine ⟨_, rfl, p, C, dx, _, _, rfl, hp1, T.cl, T.n1, fR_way r, ?_⟩
    refine ⟨_, rfl, p, C, dx, _, _, rfl, hp1, T.cl, T.n2, fR_still r, ?_⟩
    refine ⟨_, rfl, p, C, dx, _, _, rfl, hp1, T.cl, T.n3, fR_hold r, ?_⟩
    refine ⟨_, rfl, p, C, dx, _, _, rfl, hp1, T.cl, T.n4, fR_pins r, ?_⟩
    refine ⟨_, rfl, p, C, dx, _, _, rfl, hp1, T.cl, T.n5, fR_guard r, ?_⟩
    refine ⟨upd_same, kW r, rfl, (by show 5 ≤ 15; decide), ?_⟩
    rw [upd_upd, kW_merge]
    refine ⟨_, rfl, _, rfl, _, rfl, q, _, rfl, dp_of upd_same (kW_put hput) (kW_len r), ?_⟩
    rw [upd_upd]
    have hq : (upd H q (.dK (kW r'))) q = some (.dK (kW r')) := upd_same
    refine ⟨_, rfl, q, _, rfl, dg_of hq (kW_way r'), _, rfl, q, _, rfl, dg_of hq (kW_still r'), _, rfl, q, _, rfl, dg_of hq (kW_hold r'), _, rfl, q, _, rfl, dg_of hq (kW_pins r'), _, rfl, q, _, rfl, dg_of hq (kW_guard r'), ?_⟩
    intro x dy nx ndy ne
    have s1 : Same H (upd H q (.dK (kW r'))) := same_upd nq
    refine ⟨x, dy, r', rfl, ok, upd_same, fun H' hx fr => ⟨rfl, k x H' (s1.free nx) hx fun b o e => ?_⟩⟩
    have bx : b ≠ x := ne_of_none (s1 b o e) nx
    refine fr b o bx ?_
    rw [upd_ne bx, upd_ne (ne_of_none (s1 b o e) ndy)]
    exact s1 b o e
theorem ok_lag {f fN : Addr} {fd fdN : FuncData} (F : Fun K "is_lag" "is_lag" sLag f fd) (TR : TR K mg C wA pA) (T : TH K mg C CH)
    (GN : FnOk P w K mg base CX0 2 fN fdN ["value", "least", "most"] (spNum K)) (kN : PySem.W.keepIn K (.ref fN) = true) (bN : L2.Binds K fdN ["value", "least", "most"] []) (gN : mg "is_number_within" = some (.ref fN)) :
    FnOk P w K mg base CX0 3 f fd ["value"] (spLag K) := by
  refine F.ok scLag (fun vs H Q E h => ?_) (fun cdv A outer s H vs Q E hr h => ?_)
  · obtain ⟨la, l, m, rfl, _⟩ := h
    rfl
  · obtain ⟨la, l, m, rfl, hl, l1, lm, m3, q⟩ := h
    obtain ⟨tl, gL⟩ := T.gL
    refine ⟨_, pss_cons (ps_if (PW.pt (pw_or (pt_not (pt_val (pe_callB call_isi (by rfl) TR.isi boot_isinstance (pa_cons (pv 0) (pa_cons (pe_bltn (v := .ty "tuple") (by rfl) T.tuple boot_tuple rfl) pa_nil)))))
        (pw_or1 (pt_cmpR op_ne (pe_callB call_len_seq (by rfl) T.len PySem.boot_len (pa_cons (pv 0) pa_nil)) pe_int (nomark _))))) (pss_one (ps_ret pe_bl)) pss_nil)
      (pss_cons (ps_asg (pv 0) (pg_tup (by rfl) (pgs_cons (pg_name (i := 1) scLag.nd rfl (.inl rfl)) (pgs_cons (pg_name (i := 2) scLag.nd rfl (.inl rfl)) pgs_nil))))
      (pss_one (ps_ret (pe_and (pe_call GN hr (by rfl) gN kN bN .nil pass0 (pa_cons (pv 2) (pa_cons pe_int (pa_cons (pe_glob (v := .int 3) (by rfl) gL ⟨_, rfl⟩) pa_nil))))
        (pe_one (pe_call GN hr (by rfl) gN kN bN .nil pass0 (pa_cons (pv 1) (pa_cons pe_int (pa_cons (pv 2) pa_nil))))))))), ?_⟩
    refine ⟨_, rfl, _, _, _, _, true, rfl, .ty "tuple", .base (.tup hl), kit_ty (by decide +kernel), true, rfl, ?_⟩
    refine iteF ?_
    refine ⟨_, rfl, la, _, rfl, .inr (SqT.of hl), rfl, _, rfl, iteF ?_⟩
    refine ⟨_, rfl, la, [.int l, .int m], rfl, SqT.of hl, rfl, .int l, [.int m], rfl, .int m, [], rfl, rfl, ?_⟩
    refine ⟨_, rfl, _, _, _, rfl, .inl ⟨m, rfl, fun b hb => ⟨b, rfl, ?_⟩⟩⟩
    obtain rfl : b = true := within (by omega) m3 hb
    refine iteT ⟨_, rfl, _, rfl, _, _, _, rfl, .inl ⟨l, rfl, fun b hb => ?_⟩⟩
    obtain rfl : b = true := within l1 lm hb
    exact q
theorem ok_HI {f fL fN : Addr} {fd fdL fdN : FuncData} (F : Fun K "__init__" "House.__init__" sHI f fd) (TR : TR K mg C wA pA) (T : TH K mg C CH) (GL : FnOk P w K mg base CX0 3 fL fdL ["value"] (spLag K)) (kL : PySem.W.keepIn K (.ref fL) = true) (bL : L2.Binds K fdL ["value"] []) (gL : mg "is_lag" = some (.ref fL))
    (GN : FnOk P w K mg base CX0 2 fN fdN ["value", "least", "most"] (spNum K)) (kN : PySem.W.keepIn K (.ref fN) = true) (bN : L2.Binds K fdN ["value", "least", "most"] []) (gN : mg "is_number_within" = some (.ref fN)) :
    FnOk P w K mg base CX0 4 f fd ["self", "rule", "room", "top", "many", "goes", "lag"] (spHI C CH) := by
  refine F.ok scHI (fun vs H Q E h => ?_) (fun cdv A outer s H vs Q E hr h => ?_)
  · obtain ⟨p, dx, ra, la, h, rfl, _⟩ := h
    rfl
  · obtain ⟨p, dx, ra, la, ⟨ru, ro, to, ma, go, lo, hi⟩, rfl, ok, hp, hR, hl, k⟩ := h
    obtain ⟨t1, g1⟩ := T.gR
    obtain ⟨t2, g2⟩ := T.gT
    obtain ⟨t3, g3⟩ := T.gM
    have hr1 : Room 2 _ := hr.mono (by decide)
    refine ⟨_, pss_cons (ps_if (pt_not (pt_val (pe_callB call_isi (by rfl) TR.isi boot_isinstance (pa_cons (pv 1) (pa_cons (pe_glob (v := .ref C) (by rfl) TR.gC rfl) pa_nil))))) (pss_one ps_never) pss_nil)
      (pss_cons (ps_if (pt_not (pt_val (pe_call GN hr1 (by rfl) gN kN bN .nil pass0 (pa_cons (pv 2) (pa_cons pe_int (pa_cons (pe_glob (v := .int 4) (by rfl) g1 ⟨_, rfl⟩) pa_nil)))))) (pss_one ps_never) pss_nil)
      (pss_cons (ps_if (pt_not (pt_val (pe_call GN hr1 (by rfl) gN kN bN .nil pass0 (pa_cons (pv 3) (pa_cons pe_int (pa_cons (pe_glob (v := .int 2) (by rfl) g2 ⟨_, rfl⟩) pa_nil)))))) (pss_one ps_never) pss_nil)
      (pss_cons (ps_if (pt_not (pt_val (pe_call GN hr1 (by rfl) gN kN bN .nil pass0 (pa_cons (pv 4) (pa_cons pe_int (pa_cons (pe_glob (v := .int 2) (by rfl) g3 ⟨_, rfl⟩) pa_nil)))))) (pss_one ps_never) pss_nil)
      (pss_cons (ps_if (pt_not (pt_val (pe_callB call_isi (by rfl) TR.isi boot_isinstance (pa_cons (pv 5) (pa_cons (pe_bltn (v := .ty "bool") (by rfl) TR.bool boot_bool rfl) pa_nil))))) (pss_one ps_never) pss_nil)
      (pss_cons (ps_if (pt_not (pt_val (pe_call GL hr (by rfl) gL kL bL .nil pass0 (pa_cons (pv 6) pa_nil)))) (pss_one ps_never) pss_nil)
      (pss_cons (ps_fld (pv 0) (pv 1) rfl) (pss_cons (ps_fld (pv 0) (pv 2) rfl) (pss_cons (ps_fld (pv 0) (pv 3) rfl) (pss_cons (ps_fld (pv 0) (pv 4) rfl) (pss_cons (ps_fld (pv 0) (pv 5) rfl) (pss_one (ps_fld (pv 0) (pv 6) rfl)))))))))))), ?_⟩
    refine ⟨_, rfl, _, _, _, _, true, rfl, .own C, TR.ty hR, TR.k1, true, rfl, ?_⟩
    refine ifN ⟨_, rfl, _, _, _, rfl, .inl ⟨ro, rfl, fun b hb => ⟨b, rfl, ?_⟩⟩⟩
    obtain rfl : b = true := within ok.r.1 ok.r.2 hb
    refine ifN ⟨_, rfl, _, _, _, rfl, .inl ⟨to, rfl, fun b hb => ⟨b, rfl, ?_⟩⟩⟩
    obtain rfl : b = true := within ok.t.1 ok.t.2 hb
    refine ifN ⟨_, rfl, _, _, _, rfl, .inl ⟨ma, rfl, fun b hb => ⟨b, rfl, ?_⟩⟩⟩
    obtain rfl : b = true := within ok.m.1 ok.m.2 hb
    refine ifN ⟨_, rfl, _, _, _, _, true, rfl, .ty "bool", .base (.bl go), kit_ty (by decide +kernel), true, rfl, ?_⟩
    refine ifN ⟨_, rfl, la, lo, hi, rfl, hl, ok.l.1, ok.l.2.1, ok.l.2.2, true, rfl, ?_⟩
    refine ifN ⟨_, rfl, _, rfl, p, CH, dx, _, rfl, hp, T.cl, T.n1, (by show 0 < 1000; decide), ?_⟩
    refine ⟨_, rfl, _, rfl, p, CH, dx, _, rfl, upd_same, T.cl, T.n2, (by show 1 < 1000; decide), ?_⟩
    refine ⟨_, rfl, _, rfl, p, CH, dx, _, rfl, upd_same, T.cl, T.n3, (by show 2 < 1000; decide), ?_⟩
    refine ⟨_, rfl, _, rfl, p, CH, dx, _, rfl, upd_same, T.cl, T.n4, (by show 3 < 1000; decide), ?_⟩
    refine ⟨_, rfl, _, rfl, p, CH, dx, _, rfl, upd_same, T.cl, T.n5, (by show 4 < 1000; decide), ?_⟩
    refine ⟨_, rfl, _, rfl, p, CH, dx, _, rfl, upd_same, T.cl, T.n6, (by show 5 < 1000; decide), ?_⟩
    rw [upd_upd, upd_upd, upd_upd, upd_upd, upd_upd]
    have keep : ∀ b o, b ≠ p → H b = some o → (upd H p (.ins CH dx (putF "_lag" (.ref la) (putF "_goes" (.bl go) (putF "_many" (.int ma) (putF "_top" (.int to) (putF "_room" (.int ro) (putF "_rule" (.ref ra) [])))))))) b = some o := fun b o ne e => by
      rw [upd_ne ne]
      exact e
    obtain ⟨dy, hR'⟩ := id hR
    have rp : ra ≠ p := ne_of hR' hp (by intro z; cases z)
    have lp : la ≠ p := ne_of hl hp (by intro z; cases z)
    exact k _ ⟨dx, ra, la, Eq.trans upd_same (congrArg (fun l => some (HO.ins CH dx l)) (fH_put ra la ru ro to ma go lo hi)), ⟨dy, keep _ _ rp hR'⟩, keep _ _ lp hl⟩ keep
theorem ok_HE {f fE : Addr} {fd fdE : FuncData} (F : Fun K "__eq__" "House.__eq__" sHE f fd) (TR : TR K mg C wA pA) (T : TH K mg C CH) (O : OwnEq K C fE) (GE : FnOk P w K mg base CX0 2 fE fdE ["self", "other"] (spRE K C)) (bE : L2.Binds K fdE ["self", "other"] []) :
    FnOk P w K mg base CX0 3 f fd ["self", "other"] (spHE K C CH) := by
  refine F.ok scHE (fun vs H Q E h => ?_) (fun cdv A outer s H vs Q E hr h => ?_)
  · obtain ⟨a, y, r, rfl, _⟩ := h
    rfl
  · obtain ⟨a, y, h1, rfl, hA, h⟩ := h
    refine ⟨_, pss_one (ps_ret (pe_and (pe_callB call_isi (by rfl) TR.isi boot_isinstance (pa_cons (pv 1) (pa_cons (pe_glob (v := .ref CH) (by rfl) T.gC rfl) pa_nil)))
      (pe_and (pe_cmpR (op_eqO O GE hr bE) (pe_fld (pv 0) rfl) (pe_fld (pv 1) rfl) (nomark _)) (pe_and (pe_cmpR op_eq (pe_fld (pv 0) rfl) (pe_fld (pv 1) rfl) (nomark _)) (pe_and (pe_cmpR op_eq (pe_fld (pv 0) rfl) (pe_fld (pv 1) rfl) (nomark _))
        (pe_and (pe_cmpR op_eq (pe_fld (pv 0) rfl) (pe_fld (pv 1) rfl) (nomark _)) (pe_and (pe_cmpR op_eq (pe_fld (pv 0) rfl) (pe_fld (pv 1) rfl) (nomark _)) (pe_one (pe_cmpR (op_eqD hr.units) (pe_fld (pv 0) rfl) (pe_fld (pv 1) rfl) (nomark _)))))))))), ?_⟩
    rcases h with ⟨b, h2, rfl, hB, q⟩ | ⟨t, ty, kt, q⟩
    · refine ⟨_, rfl, _, _, _, _, true, rfl, .own CH, T.ty TR hB, T.k1, true, rfl, iteT ?_⟩
      obtain ⟨dx, ra, la, ha, hra, hla⟩ := hA
      obtain ⟨dy, rb, lb, hb, hrb, hlb⟩ := hB
      obtain ⟨u1, a1, b1, c1, d1, l1, m1⟩ := h1
      obtain ⟨u2, a2, b2, c2, d2, l2, m2⟩ := h2
      have no : ¬ ((⟨u1, a1, b1, c1, d1, l1, m1⟩ : H6) = ⟨u2, a2, b2, c2, d2, l2, m2⟩) → Q (.bl false) H := fun ne => by
        rw [decide_eq_false ne] at q
        exact q
      obtain ⟨dra, hra'⟩ := id hra
      refine ⟨_, rfl, a, CH, dx, _, _, rfl, ha, T.cl, T.n1, fH_rule _ _ _, _, rfl, b, CH, dy, _, _, rfl, hb, T.cl, T.n1, fH_rule _ _ _, ?_⟩
      refine ⟨ra, dra, _, .ref C, rfl, hra', TR.ty hrb, by unfold PySem.W.notFirst; simp, ra, .ref rb, u1, rfl, hra, .inl ⟨rb, u2, rfl, hrb, _, rfl, _, rfl, ite2 (fun e0 => ?_) (fun e => no fun z => e (decide_eq_true (by cases z; rfl)))⟩⟩
      refine ⟨_, rfl, a, CH, dx, _, _, rfl, ha, T.cl, T.n2, fH_room _ _ _, _, rfl, b, CH, dy, _, _, rfl, hb, T.cl, T.n2, fH_room _ _ _, rfl, _, rfl, ite2 (fun e1 => ?_) (fun e => no fun z => e (decide_eq_true (by cases z; rfl)))⟩
      refine ⟨_, rfl, a, CH, dx, _, _, rfl, ha, T.cl, T.n3, fH_top _ _ _, _, rfl, b, CH, dy, _, _, rfl, hb, T.cl, T.n3, fH_top _ _ _, rfl, _, rfl, ite2 (fun e2 => ?_) (fun e => no fun z => e (decide_eq_true (by cases z; rfl)))⟩
      refine ⟨_, rfl, a, CH, dx, _, _, rfl, ha, T.cl, T.n4, fH_many _ _ _, _, rfl, b, CH, dy, _, _, rfl, hb, T.cl, T.n4, fH_many _ _ _, rfl, _, rfl, ite2 (fun e3 => ?_) (fun e => no fun z => e (decide_eq_true (by cases z; rfl)))⟩
      refine ⟨_, rfl, a, CH, dx, _, _, rfl, ha, T.cl, T.n5, fH_goes _ _ _, _, rfl, b, CH, dy, _, _, rfl, hb, T.cl, T.n5, fH_goes _ _ _, rfl, _, rfl, ite2 (fun e4 => ?_) (fun e => no fun z => e (decide_eq_true (by cases z; rfl)))⟩
      refine ⟨_, rfl, a, CH, dx, _, _, rfl, ha, T.cl, T.n6, fH_lag _ _ _, _, rfl, b, CH, dy, _, _, rfl, hb, T.cl, T.n6, fH_lag _ _ _, ?_⟩
      refine ⟨_, _, .tup (SqT.of hla) (.cons (.int _) (.cons (.int _) .nil)), .tup (SqT.of hlb) (.cons (.int _) (.cons (.int _) .nil)), by simp [SeqAt.shaped, PyData.canLay0, PyData.canLayAll0, PyData.depth, PyData.depthAll], by simp [SeqAt.shaped, PyData.canLay0, PyData.canLayAll0, PyData.depth, PyData.depthAll], ?_⟩
      have z0 : u1 = u2 := of_decide_eq_true e0
      have z1 : a1 = a2 := V.int.inj (of_decide_eq_true e1)
      have z2 : b1 = b2 := V.int.inj (of_decide_eq_true e2)
      have z3 : c1 = c2 := V.int.inj (of_decide_eq_true e3)
      have z4 : d1 = d2 := V.bl.inj (of_decide_eq_true e4)
      subst z0 z1 z2 z3 z4
      have e5 : PyData.eqv (.tuple [.int l1, .int m1]) (.tuple [.int l2, .int m2]) = decide ((⟨u1, a1, b1, c1, d1, l1, m1⟩ : H6) = ⟨u1, a1, b1, c1, d1, l2, m2⟩) := by
        simp only [PyData.eqv, PyData.eqvAll, Bool.and_true]
        by_cases y1 : l1 = l2
        · by_cases y2 : m1 = m2
          · subst y1 y2
            simp
          · simp [y1, y2]
        · simp [y1]
      rw [e5]
      exact q
    · exact ⟨_, rfl, _, _, _, _, false, rfl, .own CH, ty, kt, false, rfl, iteF q⟩
end
end D3

namespace D3
open PySem PySem.Spec PyProof.Rows L2 Dr Gd Oe
abbrev sWay : Stmt := topS 26
abbrev sMk : Stmt := topS 27
abbrev sHome : Stmt := topS 28
abbrev sHouse : Stmt := topS 29
abbrev sShown : Stmt := topS 30
theorem scWay : FnScope ["draw", "peak"] ["draw", "peak"] (defScope sWay) := ⟨rfl, rfl, rfl, by decide +kernel, rfl, by decide +kernel, by decide +kernel⟩
theorem scMk : FnScope ["mode"] ["mode"] (defScope sMk) := ⟨rfl, rfl, rfl, by decide +kernel, rfl, by decide +kernel, by decide +kernel⟩
theorem scHome : FnScope ["draw", "space", "peak", "most", "found"] ["draw", "space", "peak"] (defScope sHome) := ⟨rfl, rfl, rfl, by decide +kernel, rfl, by decide +kernel, by decide +kernel⟩
theorem scHouse : FnScope ["home"] ["home"] (defScope sHouse) := ⟨rfl, rfl, rfl, by decide +kernel, rfl, by decide +kernel, by decide +kernel⟩
theorem scShown : FnScope ["told"] ["told"] (defScope sShown) := ⟨rfl, rfl, rfl, by decide +kernel, rfl, by decide +kernel, by decide +kernel⟩
/-- a house's parameters as a dict -/
def kH (wa la : Addr) (h : H6) : List (Key × V) := [(.inr "way", .ref wa), (.inr "room", .int h.room), (.inr "top", .int h.top), (.inr "many", .int h.many), (.inr "goes", .bl h.goes), (.inr "lag", .ref la)]
theorem kH_way (wa la : Addr) (h : H6) : valV (kH wa la h) (.inr "way") = some (.ref wa) := by kernel_rfl
theorem kH_room (wa la : Addr) (h : H6) : valV (kH wa la h) (.inr "room") = some (.int h.room) := by kernel_rfl
theorem kH_top (wa la : Addr) (h : H6) : valV (kH wa la h) (.inr "top") = some (.int h.top) := by kernel_rfl
theorem kH_many (wa la : Addr) (h : H6) : valV (kH wa la h) (.inr "many") = some (.int h.many) := by kernel_rfl
theorem kH_goes (wa la : Addr) (h : H6) : valV (kH wa la h) (.inr "goes") = some (.bl h.goes) := by kernel_rfl
theorem kH_lag (wa la : Addr) (h : H6) : valV (kH wa la h) (.inr "lag") = some (.ref la) := by kernel_rfl
theorem kH_len (wa la : Addr) (h : H6) : (kH wa la h).length < sizeLine := small1000 (show 6 ≤ 1000 by decide)
structure HomeAt (H : Hp) (p wa la : Addr) (h : H6) : Prop where
  d : H p = some (.dK (kH wa la h))
  w : H wa = some (.dK (kW h.rule))
  l : H la = some (.tup [.int h.lo, .int h.hi])
theorem HomeAt.same {H H' : Hp} {p wa la : Addr} {h : H6} (x : HomeAt H p wa la h) (k : Same H H') : HomeAt H' p wa la h := ⟨k _ _ x.d, k _ _ x.w, k _ _ x.l⟩
def spWay : Sp := fun vs H Q _ => ∃ (d g c : Addr), vs = [.ref d, .int 3] ∧ Dw H d g c ∧
  ∀ (p : Addr) (r : R5) (H' : Hp), r.ok → H p = none → H' p = some (.dK (kW r)) → Dw H' d g c → Fr2 d g H H' → Q (.ref p) H'
def spMk (C : Addr) : Sp := fun vs H Q _ => ∃ (m : Addr) (r : R5), vs = [.ref m] ∧ H m = some (.dK (kW r)) ∧ r.ok ∧ ∀ x H', H x = none → RuleAt C H' x r → Same H H' → Q (.ref x) H'
def spHome : Sp := fun vs H Q _ => ∃ (d g c : Addr), vs = [.ref d, .int 4, .int 3] ∧ Dw H d g c ∧
  ∀ (p wa la : Addr) (h : H6) (H' : Hp), h.ok → H p = none → H wa = none → H la = none → HomeAt H' p wa la h → Dw H' d g c → Fr2 d g H H' → Q (.ref p) H'
def spHouse (CR CH : Addr) : Sp := fun vs H Q _ => ∃ (p wa la : Addr) (h : H6), vs = [.ref p] ∧ HomeAt H p wa la h ∧ h.ok ∧ ∀ x H', H x = none → HouseAt CR CH H' x h → Same H H' → Q (.ref x) H'
theorem way_item {i : Nat} {x : V} (h : [V.str "end", V.str "front", V.str "rank"][i]? = some x) : ∃ w, x = .str w ∧ w ∈ waysL := by
  match i, h with
  | 0, h => exact ⟨_, (Option.some.inj h).symm, by decide +kernel⟩
  | 1, h => exact ⟨_, (Option.some.inj h).symm, by decide +kernel⟩
  | 2, h => exact ⟨_, (Option.some.inj h).symm, by decide +kernel⟩
  | n + 3, h => simp at h
section
variable {P : Program} {w : World} {K : PySem.W.Frag} {mg : Str → Option Value} {base : Heap} {C CH wA pA : Addr}
theorem ok_way {f fT fP : Addr} {fd fdT fdP : FuncData} (F : Fun K "_law_way" "_law_way" sWay f fd) (GT : FnOk P w K mg base CX0 4 fT fdT ["draw", "size"] spTake) (kT : PySem.W.keepIn K (.ref fT) = true) (bT : L2.Binds K fdT ["draw", "size"] []) (gT : mg "_law_take" = some (.ref fT))
    (GP : FnOk P w K mg base CX0 5 fP fdP ["draw", "some"] spPick) (kP : PySem.W.keepIn K (.ref fP) = true) (bP : L2.Binds K fdP ["draw", "some"] []) (gP : mg "_law_pick" = some (.ref fP)) : FnOk P w K mg base CX0 6 f fd ["draw", "peak"] spWay := by
  refine F.ok scWay (fun vs H Q E h => ?_) (fun cdv A outer s H vs Q E hr h => ?_)
  · obtain ⟨d, g, c, rfl, _⟩ := h
    rfl
  · obtain ⟨d, g, c, rfl, D, k⟩ := h
    have hr3 : Room 4 _ := hr.mono (by decide)
    refine ⟨_, pss_one (ps_ret (pe_disp (pps_cons pe_str (pe_call GP hr (by rfl) gP kP bP .nil pass0 (pa_cons (pv 0) (pa_cons (pe_lst (pa_cons pe_str (pa_cons pe_str (pa_cons pe_str pa_nil)))) pa_nil)))
      (pps_cons pe_str (pe_call GT hr3 (by rfl) gT kT bT .nil pass0 (pa_cons (pv 0) (pa_cons (pe_op op_add (pv 1) pe_int) pa_nil)))
      (pps_cons pe_str (pe_call GT hr3 (by rfl) gT kT bT .nil pass0 (pa_cons (pv 0) (pa_cons (pe_op op_add (pv 1) pe_int) pa_nil)))
      (pps_cons pe_str (pe_call GT hr3 (by rfl) gT kT bT .nil pass0 (pa_cons (pv 0) (pa_cons pe_int pa_nil)))
      (pps_cons pe_str (pe_call GT hr3 (by rfl) gT kT bT .nil pass0 (pa_cons (pv 0) (pa_cons (pe_op op_add (pv 1) pe_int) pa_nil))) pps_nil))))) (by rfl) (by rfl) (fun z => by cases z) (by decide))), ?_⟩
    intro p np
    have D0 : Dw (upd H p (.dK [])) d g c := D.new np
    refine ⟨_, rfl, (by show 3 ≤ sizeLine; decide), fun l nl => ?_⟩
    have D1 : Dw (upd (upd H p (.dK [])) l (.lst [V.str "end", V.str "front", V.str "rank"])) d g c := D0.new nl
    have hp1 : (upd (upd H p (.dK [])) l (.lst [V.str "end", V.str "front", V.str "rank"])) p = some (.dK []) := by rw [upd_ne (ne_of_none upd_same nl)]; exact upd_same
    have fr1 : Fr2 d g H (upd (upd H p (.dK [])) l (.lst [V.str "end", V.str "front", V.str "rank"])) := ((Fr2.refl H).new np).new nl
    have pd : p ≠ d := fun e => by
      obtain ⟨⟨gs, cs, r, t, hd, hg, hc⟩, _⟩ := id D
      rw [e, hd] at np; cases np
    have pg : p ≠ g := fun e => by
      obtain ⟨⟨gs, cs, r, t, hd, hg, hc⟩, _⟩ := id D
      rw [e, hg] at np; cases np
    have lg : l ≠ g := fun e => by
      obtain ⟨⟨gs, cs, r, t, hd, hg, hc⟩, _⟩ := id D0
      rw [e, hg] at nl; cases nl
    refine ⟨d, g, c, l, _, rfl, D1, upd_same, lg, (fun z => by cases z), (by show 3 < 1000; decide), fun i x H2 hx D2 fr2 => ?_⟩
    obtain ⟨wy, rfl, hw⟩ := way_item hx
    have hp2 := fr2 _ _ pd pg hp1
    have fr02 := fr1.trans fr2
    refine ⟨_, rfl, _, rfl, _, _, rfl, rfl, d, g, c, _, rfl, D2, by decide, by decide, fun st H3 s0 s1 D3 fr3 => ?_⟩
    have hp3 := fr3 _ _ pd pg hp2
    have fr03 := fr02.trans fr3
    refine ⟨_, rfl, _, rfl, _, _, rfl, rfl, d, g, c, _, rfl, D3, by decide, by decide, fun ho H4 h0 h1 D4 fr4 => ?_⟩
    have hp4 := fr4 _ _ pd pg hp3
    have fr04 := fr03.trans fr4
    refine ⟨_, rfl, d, g, c, _, rfl, D4, by decide, by decide, fun pi H5 p0 p1 D5 fr5 => ?_⟩
    have hp5 := fr5 _ _ pd pg hp4
    have fr05 := fr04.trans fr5
    refine ⟨_, rfl, _, rfl, _, _, rfl, rfl, d, g, c, _, rfl, D5, by decide, by decide, fun gu H6 g0 g1 D6 fr6 => ?_⟩
    have hp6 := fr6 _ _ pd pg hp5
    have fr06 := fr05.trans fr6
    refine ⟨hp6, kW ⟨wy, st, ho, pi, gu⟩, rfl, (by show 5 ≤ 15; decide), ?_⟩
    rw [kW_merge]
    refine k p ⟨wy, st, ho, pi, gu⟩ _ ⟨hw, ⟨s0, by show st ≤ 3; omega⟩, ⟨h0, by show ho ≤ 3; omega⟩, ⟨p0, by show pi ≤ 2; omega⟩, ⟨g0, by show gu ≤ 3; omega⟩⟩ np upd_same (D6.keep fun b o hb e => ?_) fun b o bd bg e => ?_
    · have bp : b ≠ p := by
        rintro rfl
        rcases hb with z | z | z
        · exact pd z
        · exact pg z
        · obtain ⟨⟨gs, cs, r, t, hd, hg, hc⟩, _⟩ := id D
          rw [z, hc] at np; cases np
      rw [upd_ne bp]
      exact e
    · rw [upd_ne (ne_of_none e np)]
      exact fr06 b o bd bg e
theorem ok_mk {f fI : Addr} {fd fdI : FuncData} (F : Fun K "_law_rule" "_law_rule" sMk f fd) (T : TR K mg C wA pA) (M : Mk K C fI) (GI : FnOk P w K mg base CX0 3 fI fdI ["self", "way", "still", "hold", "pins", "guard"] (spRI C)) (bI : L2.Binds K fdI ["self", "way", "still", "hold", "pins", "guard"] []) :
    FnOk P w K mg base CX0 5 f fd ["mode"] (spMk C) := by
  refine F.ok scMk (fun vs H Q E h => ?_) (fun cdv A outer s H vs Q E hr h => ?_)
  · obtain ⟨m, r, rfl, _⟩ := h
    rfl
  · obtain ⟨q, r, rfl, hq, ok, k⟩ := h
    have hu := hu_of hr
    refine ⟨_, pss_one (ps_ret (pe_make M GI hr (by rfl) T.gC bI .nil pass0 (pa_cons (pe_dget hu (pv 0) pe_str (fun _ _ => rfl)) (pa_cons (pe_dget hu (pv 0) pe_str (fun _ _ => rfl)) (pa_cons (pe_dget hu (pv 0) pe_str (fun _ _ => rfl)) (pa_cons (pe_dget hu (pv 0) pe_str (fun _ _ => rfl)) (pa_cons (pe_dget hu (pv 0) pe_str (fun _ _ => rfl)) pa_nil))))))), ?_⟩
    refine ⟨_, rfl, q, _, rfl, dg_of hq (kW_way r), _, rfl, q, _, rfl, dg_of hq (kW_still r), _, rfl, q, _, rfl, dg_of hq (kW_hold r), _, rfl, q, _, rfl, dg_of hq (kW_pins r), _, rfl, q, _, rfl, dg_of hq (kW_guard r), ?_⟩
    intro x dy nx ndy ne
    refine ⟨x, dy, r, rfl, ok, upd_same, fun H' hx fr => ⟨rfl, k x H' nx hx fun b o e => ?_⟩⟩
    have bx : b ≠ x := ne_of_none e nx
    refine fr b o bx ?_
    rw [upd_ne bx, upd_ne (ne_of_none e ndy)]
    exact e
theorem ok_home {f fT fW : Addr} {fd fdT fdW : FuncData} (F : Fun K "_law_home" "_law_home" sHome f fd) (GT : FnOk P w K mg base CX0 4 fT fdT ["draw", "size"] spTake) (kT : PySem.W.keepIn K (.ref fT) = true) (bT : L2.Binds K fdT ["draw", "size"] []) (gT : mg "_law_take" = some (.ref fT))
    (GW : FnOk P w K mg base CX0 6 fW fdW ["draw", "peak"] spWay) (kw : PySem.W.keepIn K (.ref fW) = true) (bW : L2.Binds K fdW ["draw", "peak"] []) (gW : mg "_law_way" = some (.ref fW)) : FnOk P w K mg base CX0 7 f fd ["draw", "space", "peak"] spHome := by
  refine F.ok scHome (fun vs H Q E h => ?_) (fun cdv A outer s H vs Q E hr h => ?_)
  · obtain ⟨d, g, c, rfl, _⟩ := h
    rfl
  · obtain ⟨d, g, c, rfl, D, k⟩ := h
    have hu := hu_of hr
    have hr3 : Room 4 _ := hr.mono (by decide)
    refine ⟨_, pss_cons (ps_set (i := 3) scHome.nd rfl (Or.inl rfl) (pe_op op_add pe_int (pe_call GT hr3 (by rfl) gT kT bT .nil pass0 (pa_cons (pv 0) (pa_cons pe_int pa_nil)))))
      (pss_cons (ps_set (i := 4) scHome.nd rfl (Or.inl rfl) (pe_disp (pps_cons pe_str (pe_call GW hr (by rfl) gW kw bW .nil pass0 (pa_cons (pv 0) (pa_cons (pv 2) pa_nil)))
        (pps_cons pe_str (pe_op op_add pe_int (pe_call GT hr3 (by rfl) gT kT bT .nil pass0 (pa_cons (pv 0) (pa_cons (pv 1) pa_nil))))
        (pps_cons pe_str (pe_call GT hr3 (by rfl) gT kT bT .nil pass0 (pa_cons (pv 0) (pa_cons pe_int pa_nil))) pps_nil))) (by rfl) (by rfl) (fun z => by cases z) (by decide)))
      (pss_cons (ps_asg (pe_tup (pa_cons (pe_op op_add pe_int (pe_call GT hr3 (by rfl) gT kT bT .nil pass0 (pa_cons (pv 0) (pa_cons pe_int pa_nil)))) (pa_cons (pe_cmpR op_eq (pe_call GT hr3 (by rfl) gT kT bT .nil pass0 (pa_cons (pv 0) (pa_cons pe_int pa_nil))) pe_int (nomark _)) pa_nil)))
        (pg_tup (by rfl) (pgs_cons (pg_sub (pv 4) pe_str (set_dict hu)) (pgs_cons (pg_sub (pv 4) pe_str (set_dict hu)) pgs_nil))))
      (pss_cons (ps_dput hu (pv 4) pe_str (pe_tup (pa_cons (pe_op op_add pe_int (pe_call GT hr3 (by rfl) gT kT bT .nil pass0 (pa_cons (pv 0) (pa_cons (pv 3) pa_nil)))) (pa_cons (pv 3) pa_nil))) rfl)
      (pss_one (ps_ret (pv 4)))))), ?_⟩
    -- most
    refine ⟨_, rfl, d, g, c, _, rfl, D, by decide, by decide, fun mo H1 m0 m1 D1 fr1 => ⟨_, _, rfl, rfl, ?_⟩⟩
    -- found
    intro p np
    obtain ⟨⟨gs, cs, r, t, hd, hg, hc⟩, gc⟩ := id D1
    have pd : p ≠ d := fun e => by rw [e, hd] at np; cases np
    have pg : p ≠ g := fun e => by rw [e, hg] at np; cases np
    have pc : p ≠ c := fun e => by rw [e, hc] at np; cases np
    have np0 : H p = none := by
      cases e : H p with
      | none => rfl
      | some o => rw [fr1 p o pd pg e] at np; cases np
    refine ⟨_, rfl, _, rfl, d, g, c, rfl, D1.new np, fun wa ru H2 okr nwa hwa D2 fr2 => ?_⟩
    have wp : wa ≠ p := fun e => by rw [e, upd_same] at nwa; cases nwa
    have nwa1 : H1 wa = none := by rw [upd_ne wp] at nwa; exact nwa
    have wd : wa ≠ d := fun e => by rw [e, hd] at nwa1; cases nwa1
    have wg : wa ≠ g := fun e => by rw [e, hg] at nwa1; cases nwa1
    have nwa0 : H wa = none := by
      cases e : H wa with
      | none => rfl
      | some o => rw [fr1 wa o wd wg e] at nwa1; cases nwa1
    have hp2 : H2 p = some (.dK []) := fr2 _ _ pd pg upd_same
    refine ⟨_, rfl, _, rfl, d, g, c, _, rfl, D2, by decide, by decide, fun ro H3 r0 r1 D3 fr3 => ⟨_, _, rfl, rfl, ?_⟩⟩
    refine ⟨_, rfl, d, g, c, _, rfl, D3, by decide, by decide, fun to H4 t0 t1 D4 fr4 => ?_⟩
    have hp4 : H4 p = some (.dK []) := fr4 _ _ pd pg (fr3 _ _ pd pg hp2)
    have hw4 : H4 wa = some (.dK (kW ru)) := fr4 _ _ wd wg (fr3 _ _ wd wg hwa)
    refine ⟨hp4, [(.inr "way", .ref wa), (.inr "room", .int (1 + ro)), (.inr "top", .int to)], rfl, (by show 3 ≤ 15; decide), ?_⟩
    rw [show mergeK [] ([(.inr "way", .ref wa), (.inr "room", .int (1 + ro)), (.inr "top", .int to)] : List (Key × V)) = [(.inr "way", .ref wa), (.inr "room", .int (1 + ro)), (.inr "top", .int to)] by kernel_rfl]
    -- many, goes
    have D5 : Dw (upd H4 p (.dK [(.inr "way", .ref wa), (.inr "room", .int (1 + ro)), (.inr "top", .int to)])) d g c := D4.keep fun b o hb e => by
      rw [upd_ne (by rintro rfl; rcases hb with z | z | z; exact pd z; exact pg z; exact pc z)]
      exact e
    have fr05 : Fr2 d g H (upd H4 p (.dK [(.inr "way", .ref wa), (.inr "room", .int (1 + ro)), (.inr "top", .int to)])) := fun b o bd bg e => by
      have bp : b ≠ p := ne_of_none e np0
      rw [upd_ne bp]
      refine fr4 _ _ bd bg (fr3 _ _ bd bg (fr2 _ _ bd bg ?_))
      rw [upd_ne bp]
      exact fr1 _ _ bd bg e
    have hp5 : (upd H4 p (.dK [(.inr "way", .ref wa), (.inr "room", .int (1 + ro)), (.inr "top", .int to)])) p = some (.dK [(.inr "way", .ref wa), (.inr "room", .int (1 + ro)), (.inr "top", .int to)]) := upd_same
    have hw5 : (upd H4 p (.dK [(.inr "way", .ref wa), (.inr "room", .int (1 + ro)), (.inr "top", .int to)])) wa = some (.dK (kW ru)) := by rw [upd_ne wp]; exact hw4
    revert D5 fr05 hp5 hw5
    generalize upd H4 p (.dK [(.inr "way", .ref wa), (.inr "room", .int (1 + ro)), (.inr "top", .int to)]) = H5
    intro D5 fr05 hp5 hw5
    refine ⟨_, rfl, d, g, c, _, rfl, D5, by decide, by decide, fun ma H6 a0 a1 D6 fr6 => ⟨_, _, rfl, rfl, ?_⟩⟩
    refine ⟨_, rfl, d, g, c, _, rfl, D6, by decide, by decide, fun go H7 g0 g1 D7 fr7 => ⟨rfl, ?_⟩⟩
    have hp7 := fr7 _ _ pd pg (fr6 _ _ pd pg hp5)
    have hw7 := fr7 _ _ wd wg (fr6 _ _ wd wg hw5)
    refine ⟨(by show 2 ≤ sizeLine; decide), fun u nu => ?_⟩
    have pu : p ≠ u := ne_of_none hp7 nu
    have wu : wa ≠ u := ne_of_none hw7 nu
    refine ⟨u, _, rfl, SqT.of upd_same, rfl, _, _, rfl, ?_⟩
    have hp8 : (upd H7 u (.tup [V.int (1 + ma), V.bl (decide (V.int go = V.int 0))])) p = some (.dK [(.inr "way", .ref wa), (.inr "room", .int (1 + ro)), (.inr "top", .int to)]) := by rw [upd_ne pu]; exact hp7
    refine ⟨_, rfl, p, _, rfl, dp_of hp8 (show putK _ _ _ = [(.inr "way", .ref wa), (.inr "room", .int (1 + ro)), (.inr "top", .int to), (.inr "many", .int (1 + ma))] by kernel_rfl) (small1000 (show 3 ≤ 1000 by decide)), ?_⟩
    refine ⟨_, _, rfl, _, rfl, p, _, rfl, dp_of upd_same (show putK _ _ _ = [(.inr "way", .ref wa), (.inr "room", .int (1 + ro)), (.inr "top", .int to), (.inr "many", .int (1 + ma)), (.inr "goes", .bl (decide (V.int go = V.int 0)))] by kernel_rfl) (small1000 (show 4 ≤ 1000 by decide)), rfl, ?_⟩
    rw [upd_upd]
    -- lag
    have D9 : Dw (upd (upd H7 u (.tup [V.int (1 + ma), V.bl (decide (V.int go = V.int 0))])) p (.dK [(.inr "way", .ref wa), (.inr "room", .int (1 + ro)), (.inr "top", .int to), (.inr "many", .int (1 + ma)), (.inr "goes", .bl (decide (V.int go = V.int 0)))])) d g c := (D7.new nu).keep fun b o hb e => by
      rw [upd_ne (by rintro rfl; rcases hb with z | z | z; exact pd z; exact pg z; exact pc z)]
      exact e
    have fr09 : Fr2 d g H (upd (upd H7 u (.tup [V.int (1 + ma), V.bl (decide (V.int go = V.int 0))])) p (.dK [(.inr "way", .ref wa), (.inr "room", .int (1 + ro)), (.inr "top", .int to), (.inr "many", .int (1 + ma)), (.inr "goes", .bl (decide (V.int go = V.int 0)))])) := fun b o bd bg e => by
      rw [upd_ne (ne_of_none e np0)]
      exact ((fr05.trans fr6).trans fr7).new nu b o bd bg e
    have hp9 : (upd (upd H7 u (.tup [V.int (1 + ma), V.bl (decide (V.int go = V.int 0))])) p (.dK [(.inr "way", .ref wa), (.inr "room", .int (1 + ro)), (.inr "top", .int to), (.inr "many", .int (1 + ma)), (.inr "goes", .bl (decide (V.int go = V.int 0)))])) p = some (.dK [(.inr "way", .ref wa), (.inr "room", .int (1 + ro)), (.inr "top", .int to), (.inr "many", .int (1 + ma)), (.inr "goes", .bl (decide (V.int go = V.int 0)))]) := upd_same
    have hw9 : (upd (upd H7 u (.tup [V.int (1 + ma), V.bl (decide (V.int go = V.int 0))])) p (.dK [(.inr "way", .ref wa), (.inr "room", .int (1 + ro)), (.inr "top", .int to), (.inr "many", .int (1 + ma)), (.inr "goes", .bl (decide (V.int go = V.int 0)))])) wa = some (.dK (kW ru)) := by rw [upd_ne wp, upd_ne wu]; exact hw7
    revert D9 fr09 hp9 hw9
    generalize upd (upd H7 u (.tup [V.int (1 + ma), V.bl (decide (V.int go = V.int 0))])) p (.dK [(.inr "way", .ref wa), (.inr "room", .int (1 + ro)), (.inr "top", .int to), (.inr "many", .int (1 + ma)), (.inr "goes", .bl (decide (V.int go = V.int 0)))]) = H9
    intro D9 fr09 hp9 hw9
    refine ⟨_, rfl, _, rfl, d, g, c, _, rfl, D9, by omega, by omega, fun lo H10 l0 l1 D10 fr10 => ⟨_, _, rfl, rfl, _, rfl, ?_⟩⟩
    have hp10 := fr10 _ _ pd pg hp9
    have hw10 := fr10 _ _ wd wg hw9
    refine ⟨(by show 2 ≤ sizeLine; decide), fun la nla => ?_⟩
    have pl : p ≠ la := ne_of_none hp10 nla
    have wl : wa ≠ la := ne_of_none hw10 nla
    obtain ⟨⟨gs2, cs2, r2, t2, hd2, hg2, hc2⟩, _⟩ := id D10
    have ld : la ≠ d := fun e => by rw [e, hd2] at nla; cases nla
    have lg : la ≠ g := fun e => by rw [e, hg2] at nla; cases nla
    have nla0 : H la = none := by
      cases e : H la with
      | none => rfl
      | some o => rw [fr10 _ _ ld lg (fr09 _ _ ld lg e)] at nla; cases nla
    have hp11 : (upd H10 la (.tup [V.int (1 + lo), V.int (1 + mo)])) p = some (.dK [(.inr "way", .ref wa), (.inr "room", .int (1 + ro)), (.inr "top", .int to), (.inr "many", .int (1 + ma)), (.inr "goes", .bl (decide (V.int go = V.int 0)))]) := by rw [upd_ne pl]; exact hp10
    refine ⟨_, rfl, p, _, rfl, dp_of hp11 (show putK _ _ _ = kH wa la ⟨ru, 1 + ro, to, 1 + ma, decide (V.int go = V.int 0), 1 + lo, 1 + mo⟩ by kernel_rfl) (small1000 (show 5 ≤ 1000 by decide)), _, rfl, ?_⟩
    refine k p wa la ⟨ru, 1 + ro, to, 1 + ma, decide (V.int go = V.int 0), 1 + lo, 1 + mo⟩ _ ⟨okr, ⟨by show 1 ≤ 1 + ro; omega, by show 1 + ro ≤ 4; omega⟩, ⟨t0, by show to ≤ 2; omega⟩, ⟨by show 1 ≤ 1 + ma; omega, by show 1 + ma ≤ 2; omega⟩, ⟨by show 1 ≤ 1 + lo; omega, by show 1 + lo ≤ 1 + mo; omega, by show 1 + mo ≤ 3; omega⟩⟩
      np0 nwa0 nla0 ⟨upd_same, ?_, ?_⟩ ?_ ?_
    · rw [upd_ne wp, upd_ne wl]
      exact hw10
    · rw [upd_ne pl.symm, upd_same]
    · refine (D10.new (o := .tup [V.int (1 + lo), V.int (1 + mo)]) nla).keep fun b o hb e => ?_
      rw [upd_ne (by rintro rfl; rcases hb with z | z | z; exact pd z; exact pg z; exact pc z)]
      exact e
    · intro b o bd bg e
      rw [upd_ne (ne_of_none e np0)]
      exact (fr09.trans fr10).new (o := .tup [V.int (1 + lo), V.int (1 + mo)]) nla b o bd bg e
theorem ok_house {f fM fI : Addr} {fd fdM fdI : FuncData} (F : Fun K "_law_house" "_law_house" sHouse f fd) (T : TH K mg C CH) (M : Mk K CH fI) (GI : FnOk P w K mg base CX0 4 fI fdI ["self", "rule", "room", "top", "many", "goes", "lag"] (spHI C CH)) (bI : L2.Binds K fdI ["self", "rule", "room", "top", "many", "goes", "lag"] [])
    (GM : FnOk P w K mg base CX0 5 fM fdM ["mode"] (spMk C)) (kM : PySem.W.keepIn K (.ref fM) = true) (bM : L2.Binds K fdM ["mode"] []) (gM : mg "_law_rule" = some (.ref fM)) : FnOk P w K mg base CX0 6 f fd ["home"] (spHouse C CH) := by
  refine F.ok scHouse (fun vs H Q E h => ?_) (fun cdv A outer s H vs Q E hr h => ?_)
  · obtain ⟨p, wa, la, h, rfl, _⟩ := h
    rfl
  · obtain ⟨p, wa, la, h, rfl, ⟨hp, hw, hl⟩, ok, k⟩ := h
    have hu := hu_of hr
    refine ⟨_, pss_one (ps_ret (pe_make M GI hr (by rfl) T.gC bI .nil pass0 (pa_cons (pe_call GM hr (by rfl) gM kM bM .nil pass0 (pa_cons (pe_dget hu (pv 0) pe_str (fun _ _ => rfl)) pa_nil)) (pa_cons (pe_dget hu (pv 0) pe_str (fun _ _ => rfl)) (pa_cons (pe_dget hu (pv 0) pe_str (fun _ _ => rfl)) (pa_cons (pe_dget hu (pv 0) pe_str (fun _ _ => rfl)) (pa_cons (pe_dget hu (pv 0) pe_str (fun _ _ => rfl)) (pa_cons (pe_dget hu (pv 0) pe_str (fun _ _ => rfl)) pa_nil)))))))), ?_⟩
    refine ⟨_, rfl, p, _, rfl, dg_of hp (kH_way wa la h), wa, h.rule, rfl, hw, ok.u, fun ra H1 nra hra s1 => ?_⟩
    have hp1 := s1 _ _ hp
    refine ⟨_, rfl, p, _, rfl, dg_of hp1 (kH_room wa la h), _, rfl, p, _, rfl, dg_of hp1 (kH_top wa la h), _, rfl, p, _, rfl, dg_of hp1 (kH_many wa la h), _, rfl, p, _, rfl, dg_of hp1 (kH_goes wa la h), _, rfl, p, _, rfl, dg_of hp1 (kH_lag wa la h), ?_⟩
    intro x dy nx ndy ne
    have s2 : Same H1 (upd (upd H1 dy (.own x)) x (.ins CH dy [])) := fun b o e => by
      rw [upd_ne (ne_of_none e nx), upd_ne (ne_of_none e ndy)]
      exact e
    refine ⟨x, dy, ra, la, h, rfl, ok, upd_same, hra.same s2, s2 _ _ (s1 _ _ hl), fun H' hx fr => ⟨rfl, k x H' (s1.free nx) hx fun b o e => ?_⟩⟩
    have e1 := s1 b o e
    exact fr b o (ne_of_none e1 nx) (s2 b o e1)
end
end D3

namespace D3
open PySem PySem.Spec PyProof.Rows L2 Dr Gd Oe
abbrev sRight : Stmt := topS 31
theorem scRight : FnScope ["way_here", "told", "piece", "numbers", "twin", "size", "ways", "worth", "other", "uno", "duo", "odd"] ["way_here"] (defScope sRight) := ⟨rfl, rfl, rfl, by decide +kernel, rfl, by decide +kernel, by decide +kernel⟩
/-! ### what a house shows -/
def dH (h : H6) : PyData := .list [.int h.room, .int h.top, .int h.many, .bool h.goes, .tuple [.int h.lo, .int h.hi]]
theorem shown_all : ∀ a ∈ ([1, 2, 3, 4] : List Int), ∀ b ∈ ([0, 1, 2] : List Int), ∀ c ∈ ([1, 2] : List Int), ∀ g ∈ [true, false], ∀ l ∈ ([1, 2, 3] : List Int), ∀ m ∈ ([1, 2, 3] : List Int),
    (PyData.list [.int a, .int b, .int c, .bool g, .tuple [.int l, .int m]]).shown.length ≤ 1000 ∧ (PyData.list [.int a, .int b, .int c, .bool g, .tuple [.int l, .int m]]).showable = true := by decide +kernel
theorem mem4 {a : Int} (h : 1 ≤ a ∧ a ≤ 4) : a ∈ ([1, 2, 3, 4] : List Int) := by
  have : a = 1 ∨ a = 2 ∨ a = 3 ∨ a = 4 := by omega
  rcases this with rfl | rfl | rfl | rfl <;> simp
theorem mem3 {a : Int} (h : 1 ≤ a ∧ a ≤ 3) : a ∈ ([1, 2, 3] : List Int) := by
  have : a = 1 ∨ a = 2 ∨ a = 3 := by omega
  rcases this with rfl | rfl | rfl <;> simp
theorem mem2 {a : Int} (h : 1 ≤ a ∧ a ≤ 2) : a ∈ ([1, 2] : List Int) := by
  have : a = 1 ∨ a = 2 := by omega
  rcases this with rfl | rfl <;> simp
theorem mem02 {a : Int} (h : 0 ≤ a ∧ a ≤ 2) : a ∈ ([0, 1, 2] : List Int) := by
  have : a = 0 ∨ a = 1 ∨ a = 2 := by omega
  rcases this with rfl | rfl | rfl <;> simp
theorem dH_small {h : H6} (ok : h.ok) : (dH h).shown.length ≤ sizeLine ∧ (dH h).showable = true := by
  have q := shown_all _ (mem4 ok.r) _ (mem02 ok.t) _ (mem2 ok.m) h.goes (by cases h.goes <;> simp) _ (mem3 ⟨ok.l.1, by have := ok.l; omega⟩) _ (mem3 ⟨by have := ok.l; omega, ok.l.2.2⟩)
  exact ⟨Nat.le_of_lt (small1000 q.1), q.2⟩
/-- the text that a house shows -/
def shownH (h : H6) : Str := (dH h).shown
def spShown (CR CH : Addr) : Sp := fun vs H Q _ => ∃ (x : Addr) (h : H6), vs = [.ref x] ∧ HouseAt CR CH H x h ∧ h.ok ∧ ∀ H', Same H H' → Q (.str (shownH h)) H'
/-- a property of the class at C: its getter gives the attribute -/
structure Pr (P : Program) (w : World) (K : PySem.W.Frag) (mg : Str → Option Value) (base : Heap) (C : Addr) (name fld : Str) : Prop where
  ex : ∃ (p g : Addr) (fd : FuncData), PropOf K C name p g ∧ FnOk P w K mg base CX0 1 g fd ["self"] (getSp C fld) ∧ L2.Binds K fd ["self"] []
theorem pe_pr {X : Cx} {C : Addr} {name fld : Str} {e : Expr} {ta : TE} {pos : Pos} (p : Pr X.prog X.w X.K X.mg X.base C name fld) (he : PE X e ta) (c : Cls X.K C) {kk : Nat} (hr : Room kk X.A) (hab : attributeBase e name X.env (eval e X.env) = eval e X.env) (hk : 2 ≤ kk := by decide) :
    PE X (.Attribute e name pos) (tProp C (getSp C fld) [] E0 ta) := by
  obtain ⟨p, g, fd, hp, F, hb⟩ := p.ex
  exact pe_prop he c hp F (hr.mono hk) hb .nil pass0 hab
theorem ok_get {P : Program} {w : World} {K : PySem.W.Frag} {mg : Str → Option Value} {base : Heap} {C f : Addr} {fd : FuncData} {x qual fld : Str} {st : Stmt} {p1 p2 p3 : Pos} (F : Fun K x qual st f fd) (S : FnScope ["self"] ["self"] (defScope st))
    (hb : defBody st = [.Return (some (.Attribute (.Name "self" p1) fld p2)) p3]) (c : Cls K C) (n : NoAttr K C fld) : FnOk P w K mg base CX0 1 f fd ["self"] (getSp C fld) := by
  obtain ⟨oc, od, kV, doc, pm, an, cdv, ct, osl, rfl, look, code⟩ := F.ex
  exact fn_getter look code S rfl hb c n
/-- the parts of a rule that are numbers -/
inductive Pt where
  | still | hold | pins | guard
def Pt.nm : Pt → Str
  | .still => "still" | .hold => "hold" | .pins => "pins" | .guard => "guard"
def Pt.get (r : R5) : Pt → Int
  | .still => r.still | .hold => r.hold | .pins => r.pins | .guard => r.guard
def Pt.set (r : R5) (n : Int) : Pt → R5
  | .still => { r with still := n } | .hold => { r with hold := n } | .pins => { r with pins := n } | .guard => { r with guard := n }
def Pt.sz : Pt → Int
  | .still => 4 | .hold => 4 | .pins => 3 | .guard => 4
theorem Pt.val (r : R5) (p : Pt) : valV (kW r) (.inr p.nm) = some (.int (p.get r)) := by cases p <;> kernel_rfl
theorem Pt.put (r : R5) (n : Int) (p : Pt) : r.put p.nm (.int n) (p.set r n) := by
  cases p
  · exact .inr (.inl ⟨rfl, rfl, rfl⟩)
  · exact .inr (.inr (.inl ⟨rfl, rfl, rfl⟩))
  · exact .inr (.inr (.inr (.inl ⟨rfl, rfl, rfl⟩)))
  · exact .inr (.inr (.inr (.inr ⟨rfl, rfl, rfl⟩)))
theorem Pt.range {r : R5} (ok : r.ok) (p : Pt) : 0 ≤ p.get r ∧ p.get r < p.sz := by
  have h1 := ok.s
  have h2 := ok.h
  have h3 := ok.p
  have h4 := ok.g
  cases p <;> simp only [Pt.get, Pt.sz] <;> omega
theorem Pt.setok {r : R5} {n : Int} (ok : r.ok) (p : Pt) (h0 : 0 ≤ n) (h1 : n < p.sz) : (p.set r n).ok := by
  have := ok
  obtain ⟨a, b, c, d, e⟩ := ok
  cases p <;> simp only [Pt.sz] at h1 <;> refine ⟨a, ?_, ?_, ?_, ?_⟩ <;> first | assumption | (simp only [Pt.set]; omega)
theorem Pt.set_eq {r : R5} {n : Int} {p : Pt} : p.set r n = r ↔ n = p.get r := by
  obtain ⟨a, b, c, d, e⟩ := r
  cases p <;> simp [Pt.set, Pt.get]
theorem Pt.back {r : R5} {n : Int} {p : Pt} : p.set (p.set r n) (p.get r) = r := by
  obtain ⟨a, b, c, d, e⟩ := r
  cases p <;> rfl
theorem next_ne {n m : Int} (h0 : 0 ≤ n) (h1 : n < m) (h2 : 2 ≤ m) : (n + 1) % m ≠ n := by
  by_cases e : n + 1 = m
  · rw [e, Int.emod_self]
    omega
  · rw [Int.emod_eq_of_lt (by omega) (by omega)]
    omega
theorem Pt.sz2 (p : Pt) : 2 ≤ p.sz := by cases p <;> decide
/-- the next way -/
def nextW (w : Str) : Str := if w = "end" then "front" else if w = "front" then "rank" else "end"
def kN : List (Key × V) := [(.inr "end", .str "front"), (.inr "front", .str "rank"), (.inr "rank", .str "end")]
theorem kN_val {w : Str} (h : w ∈ waysL) : valV kN (.inr w) = some (.str (nextW w)) ∧ nextW w ∈ waysL ∧ nextW w ≠ w := by
  have : w = "end" ∨ w = "front" ∨ w = "rank" := by simpa [waysL] using h
  rcases this with rfl | rfl | rfl <;> exact ⟨by kernel_rfl, by decide +kernel, by decide +kernel⟩
/-- what is asked of a rule's part that is put otherwise -/
structure Chg (r : R5) (part : Str) (v v' : V) (r' : R5) : Prop where
  old : valV (kW r) (.inr part) = some v
  put : r.put part v' r'
  ok : r'.ok
  ne : r' ≠ r
  back : r'.put part v r
theorem chg_pt {r : R5} (ok : r.ok) (p : Pt) : Chg r p.nm (.int (p.get r)) (.int ((p.get r + 1) % p.sz)) (p.set r ((p.get r + 1) % p.sz)) := by
  obtain ⟨h0, h1⟩ := p.range ok
  have h2 := p.sz2
  refine ⟨p.val r, p.put r _, p.setok ok (Int.emod_nonneg _ (by omega)) (Int.emod_lt_of_pos _ (by omega)), fun e => next_ne h0 h1 h2 (Pt.set_eq.mp e), ?_⟩
  have q := p.put (p.set r ((p.get r + 1) % p.sz)) (p.get r)
  rw [Pt.back] at q
  exact q
theorem chg_way {r : R5} (ok : r.ok) : Chg r "way" (.str r.way) (.str (nextW r.way)) { r with way := nextW r.way } := by
  obtain ⟨_, h2, h3⟩ := kN_val ok.w
  obtain ⟨w, s, h, p, g⟩ := r
  refine ⟨by kernel_rfl, .inl ⟨rfl, rfl, rfl⟩, ⟨h2, ok.s, ok.h, ok.p, ok.g⟩, fun e => h3 (congrArg R5.way e), .inl ⟨rfl, rfl, rfl⟩⟩
/-- a list of tuples -/
structure Tl (H : Hp) (l : Addr) (ts : List Addr) (xss : List (List V)) : Prop where
  l : H l = some (.lst (ts.map V.ref))
  t : ∀ (i : Nat) (t : Addr), ts[i]? = some t → ∃ xs, xss[i]? = some xs ∧ H t = some (.tup xs)
theorem Tl.same {H H' : Hp} {l : Addr} {ts : List Addr} {xss : List (List V)} (x : Tl H l ts xss) (k : Same H H') : Tl H' l ts xss :=
  ⟨k _ _ x.l, fun i t h => let ⟨xs, e, q⟩ := x.t i t h; ⟨xs, e, k _ _ q⟩⟩
theorem Tl.item {H : Hp} {l : Addr} {ts : List Addr} {xss : List (List V)} (x : Tl H l ts xss) {i : Nat} {y : V} (h : (ts.map V.ref)[i]? = some y) : ∃ t xs, y = .ref t ∧ xss[i]? = some xs ∧ H t = some (.tup xs) := by
  rw [List.getElem?_map] at h
  cases e : ts[i]? with
  | none => rw [e] at h; cases h
  | some t =>
    rw [e] at h
    obtain ⟨xs, q1, q2⟩ := x.t i t e
    exact ⟨t, xs, (Option.some.inj h).symm, q1, q2⟩
theorem parts_item {i : Nat} {xs : List V} (h : [[V.str "still", .int 4], [V.str "hold", .int 4], [V.str "pins", .int 3], [V.str "guard", .int 4], [V.str "way", .int 0]][i]? = some xs) :
    (∃ p : Pt, xs = [.str p.nm, .int p.sz]) ∨ xs = [.str "way", .int 0] := by
  match i, h with
  | 0, h => exact .inl ⟨.still, (Option.some.inj h).symm⟩
  | 1, h => exact .inl ⟨.hold, (Option.some.inj h).symm⟩
  | 2, h => exact .inl ⟨.pins, (Option.some.inj h).symm⟩
  | 3, h => exact .inl ⟨.guard, (Option.some.inj h).symm⟩
  | 4, h => exact .inr (Option.some.inj h).symm
  | n + 5, h => simp at h
/-- two different parts of one size -/
structure Two (p q : Pt) : Prop where
  ne : p ≠ q
  s1 : p.sz = 4
  s2 : q.sz = 4
theorem two_item {i : Nat} {xs : List V} (h : [[V.str "still", .str "hold"], [V.str "hold", .str "guard"], [V.str "still", .str "guard"]][i]? = some xs) :
    ∃ p q : Pt, xs = [.str p.nm, .str q.nm] ∧ Two p q := by
  match i, h with
  | 0, h => exact ⟨.still, .hold, (Option.some.inj h).symm, by simp, rfl, rfl⟩
  | 1, h => exact ⟨.hold, .guard, (Option.some.inj h).symm, by simp, rfl, rfl⟩
  | 2, h => exact ⟨.still, .guard, (Option.some.inj h).symm, by simp, rfl, rfl⟩
  | n + 3, h => simp at h
theorem swap_eq {r : R5} {p q : Pt} (h : Two p q) : q.set (p.set r (q.get r)) (p.get r) = r ↔ p.get r = q.get r := by
  obtain ⟨ne, s1, s2⟩ := h
  obtain ⟨a, b, c, d, e⟩ := r
  cases p <;> cases q <;> simp_all [Pt.set, Pt.get, Pt.sz] <;> omega
section
variable {P : Program} {w : World} {K : PySem.W.Frag} {mg : Str → Option Value} {base : Heap} {C CH wA pA : Addr}
theorem ok_shown {f : Addr} {fd : FuncData} (F : Fun K "_law_shown_of" "_law_shown_of" sShown f fd) (T : TH K mg C CH) (mr : mg "repr" = none)
    (p1 : Pr P w K mg base CH "room" "_room") (p2 : Pr P w K mg base CH "top" "_top") (p3 : Pr P w K mg base CH "many" "_many") (p4 : Pr P w K mg base CH "goes" "_goes") (p5 : Pr P w K mg base CH "lag" "_lag") :
    FnG P w K mg base 4 f fd ["told"] (spShown C CH) := by
  refine okG F scShown (fun vs H Q E h => ?_) (fun cdv A outer s H vs Q E gd hr h => ?_)
  · obtain ⟨x, h, rfl, _⟩ := h
    rfl
  · obtain ⟨x, h, rfl, ⟨dx, ra, la, hx, hra, hla⟩, ok, k⟩ := h
    have hu := hr.units
    refine ⟨_, pss_one (ps_ret (pe_callB (call_repr gd (by have := hr.un; show (A.deeper _).units + 66 < cLine; omega)) (by rfl) mr boot_repr (pa_cons (pe_lst (pa_cons (pe_pr p1 (pv 0) T.cl hr rfl) (pa_cons (pe_pr p2 (pv 0) T.cl hr rfl) (pa_cons (pe_pr p3 (pv 0) T.cl hr rfl) (pa_cons (pe_pr p4 (pv 0) T.cl hr rfl) (pa_cons (pe_pr p5 (pv 0) T.cl hr rfl) pa_nil)))))) pa_nil))), ?_⟩
    refine ⟨_, rfl, x, dx, _, rfl, hx, x, dx, _, _, rfl, hx, fH_room _ _ _, _, rfl, x, dx, _, rfl, hx, x, dx, _, _, rfl, hx, fH_top _ _ _, _, rfl, x, dx, _, rfl, hx, x, dx, _, _, rfl, hx, fH_many _ _ _, _, rfl, x, dx, _, rfl, hx, x, dx, _, _, rfl, hx, fH_goes _ _ _, _, rfl, x, dx, _, rfl, hx, x, dx, _, _, rfl, hx, fH_lag _ _ _, (by show 5 ≤ sizeLine; decide), fun l nl => ?_⟩
    obtain ⟨z1, z2⟩ := dH_small ok
    have hla' : (upd H l (.lst [V.int h.room, V.int h.top, V.int h.many, V.bl h.goes, V.ref la])) la = some (.tup [.int h.lo, .int h.hi]) := by
      rw [upd_ne (ne_of_none hla nl)]
      exact hla
    refine ⟨_, dH h, rfl, .lst (SqL.of upd_same) (.cons (.int _) (.cons (.int _) (.cons (.int _) (.cons (.bl _) (.cons (.tup (SqT.of hla') (.cons (.int _) (.cons (.int _) .nil))) .nil))))), z2, by simp [dH, PyData.hasDict, PyData.hasDictAll], by simp [dH, PyData.depth, PyData.depthAll], z1, k _ (same_upd nl)⟩
end
end D3

namespace D3
open PySem PySem.Spec PyProof.Rows L2 Dr Gd Oe
/-- what the top says of other things beside a rule -/
structure TK (K : PySem.W.Frag) (C : Addr) : Prop where
  n : PySem.W.kitOne K (.type "NoneType") (.ref C) = some false
  i : PySem.W.kitOne K (.type "int") (.ref C) = some false
  s : PySem.W.kitOne K (.type "str") (.ref C) = some false
  t : PySem.W.kitOne K (.type "tuple") (.ref C) = some false
  d : PySem.W.kitOne K (.type "dict") (.ref C) = some false
theorem nf_int {K : PySem.W.Frag} {C : Addr} : PySem.W.notFirst K C (.type "int") = true := by kernel_rfl
theorem nf_str {K : PySem.W.Frag} {C : Addr} : PySem.W.notFirst K C (.type "str") = true := by kernel_rfl
theorem nf_non {K : PySem.W.Frag} {C : Addr} : PySem.W.notFirst K C (.type "NoneType") = true := by kernel_rfl
theorem nf_tup {K : PySem.W.Frag} {C : Addr} : PySem.W.notFirst K C (.type "tuple") = true := by kernel_rfl
theorem nf_dict {K : PySem.W.Frag} {C : Addr} : PySem.W.notFirst K C (.type "dict") = true := by kernel_rfl
theorem nf_own {K : PySem.W.Frag} {C : Addr} : PySem.W.notFirst K C (.ref C) = true := by unfold PySem.W.notFirst; simp
theorem kb_RI {K : PySem.W.Frag} {f : Addr} {fd : FuncData} (F : Fun K "__init__" "Rule.__init__" sRI f fd) :
    KBn K fd ["self", "way", "still", "hold", "pins", "guard"] 1 ["guard", "pins", "hold", "still", "way"] (fun us ws => us ++ ws.reverse) (fun vs zs => vs ++ zs.reverse) := by
  obtain ⟨oc, od, kV, doc, pm, an, cdv, ct, osl, rfl, look, code⟩ := F.ex
  refine ⟨fun s us ws _ l1 l2 => ?_, fun {vs us zs ws} r1 r2 => ?_⟩
  · match us, ws, l1, l2 with
    | [u], [a, b, c, d, e], _, _ => exact .of_eq rfl
  · refine r1.append ?_
    clear r1
    induction r2 with
    | nil => exact .nil
    | cons h t ih =>
      rw [List.reverse_cons, List.reverse_cons]
      exact ih.append (.cons h .nil)
/-- a rule is equal to its like, and unequal otherwise -/
def spRight (C : Addr) : Sp := fun vs H Q _ => ∃ (m : Addr) (r : R5), vs = [.ref m] ∧ H m = some (.dK (kW r)) ∧ r.ok ∧ ∀ H', Same H H' → Q (.bl true) H'
theorem fR_no (r : R5) : (fR r).lookup ("with_part" : Str) = none := by kernel_rfl
/-- the tuples of a list that is being written -/
def Tp (H : Hp) (ts : List Addr) (xss : List (List V)) : Prop := ts.length = xss.length ∧ ∀ (i : Nat) (t : Addr), ts[i]? = some t → ∃ xs, xss[i]? = some xs ∧ H t = some (.tup xs)
theorem Tp.nil (H : Hp) : Tp H [] [] := ⟨rfl, fun i t h => by simp at h⟩
theorem Tp.more {H : Hp} {ts : List Addr} {xss : List (List V)} {t : Addr} {xs : List V} (x : Tp H ts xss) (n : H t = none) : Tp (upd H t (.tup xs)) (ts ++ [t]) (xss ++ [xs]) := by
  refine ⟨by rw [List.length_append, List.length_append, x.1]; rfl, fun i u h => ?_⟩
  by_cases hi : i < ts.length
  · rw [List.getElem?_append_left hi] at h
    obtain ⟨ys, e, q⟩ := x.2 i u h
    refine ⟨ys, ?_, ?_⟩
    · rw [List.getElem?_append_left (by rw [← x.1]; exact hi)]
      exact e
    · rw [upd_ne (ne_of_none q n)]
      exact q
  · have hi' : i = ts.length := by
      have := (List.getElem?_eq_some_iff.mp h).1
      rw [List.length_append] at this
      simp at this
      omega
    subst hi'
    rw [List.getElem?_append_right (Nat.le_refl _), Nat.sub_self] at h
    have e : t = u := Option.some.inj h
    subst e
    refine ⟨xs, ?_, upd_same⟩
    rw [x.1, List.getElem?_append_right (Nat.le_refl _), Nat.sub_self]
    rfl
theorem Tp.list {H : Hp} {ts : List Addr} {xss : List (List V)} {l : Addr} (x : Tp H ts xss) (n : H l = none) : Tl (upd H l (.lst (ts.map V.ref))) l ts xss :=
  ⟨upd_same, fun i t h => let ⟨xs, e, q⟩ := x.2 i t h; ⟨xs, e, by rw [upd_ne (ne_of_none q n)]; exact q⟩⟩
/-- what one turn over the parts does -/
theorem parts_chg {r : R5} (ok : r.ok) {i : Nat} {xs : List V} (h : [[V.str "still", .int 4], [V.str "hold", .int 4], [V.str "pins", .int 3], [V.str "guard", .int 4], [V.str "way", .int 0]][i]? = some xs) :
    ∃ part sz v v' r', xs = [.str part, .int sz] ∧ Chg r part v v' r' ∧ ((sz = 0 ∧ v' = .str (nextW r.way)) ∨ (∃ n : Int, sz ≠ 0 ∧ 0 < sz ∧ v = .int n ∧ v' = .int ((n + 1) % sz))) := by
  rcases parts_item h with ⟨p, rfl⟩ | rfl
  · have := p.sz2
    exact ⟨p.nm, p.sz, _, _, _, rfl, chg_pt ok p, .inr ⟨_, by omega, by omega, rfl, rfl⟩⟩
  · exact ⟨"way", 0, _, _, _, rfl, chg_way ok, .inl ⟨rfl, rfl⟩⟩
theorem numbers_item {r : R5} {i : Nat} {x : V} (h : [V.str "guard", V.str "pins", V.str "hold", V.str "still"][i]? = some x) :
    ∃ p : Pt, x = .str p.nm ∧ [V.int r.guard, V.int r.pins, V.int r.hold, V.int r.still][i]? = some (.int (p.get r)) := by
  match i, h with
  | 0, h => exact ⟨.guard, (Option.some.inj h).symm, rfl⟩
  | 1, h => exact ⟨.pins, (Option.some.inj h).symm, rfl⟩
  | 2, h => exact ⟨.hold, (Option.some.inj h).symm, rfl⟩
  | 3, h => exact ⟨.still, (Option.some.inj h).symm, rfl⟩
  | n + 4, h => simp at h
section
variable {K : PySem.W.Frag} {mg : Str → Option Value} {C wA pA : Addr}
theorem ask (T : TR K mg C wA pA) (g : Bool → Bool) {H : Hp} {a b : Addr} {r r' : R5} {Q : VK} (ha : RuleAt C H a r) (hb : RuleAt C H b r') (q : Q (.bl (g (decide (r = r')))) H) : rOwn K C (spRE K C) g (.ref a) (.ref b) H Q :=
  let ⟨dx, h⟩ := ha
  ⟨a, dx, fR r, .ref C, rfl, h, T.ty hb, nf_own, a, .ref b, r, rfl, ha, .inl ⟨b, r', rfl, hb, _, rfl, q⟩⟩
theorem askN (g : Bool → Bool) {H : Hp} {a : Addr} {y : V} {t : Value} {r : R5} {Q : VK} (ha : RuleAt C H a r) (ty : TyX K H y t) (nf : PySem.W.notFirst K C t = true) (kt : PySem.W.kitOne K t (.ref C) = some false) (q : Q (.bl (g false)) H) : rOwn K C (spRE K C) g (.ref a) y H Q :=
  let ⟨dx, h⟩ := ha
  ⟨a, dx, fR r, t, rfl, h, ty, nf, a, y, r, rfl, ha, .inr ⟨t, ty, kt, _, rfl, q⟩⟩
end
section
variable {P : Program} {w : World} {K : PySem.W.Frag} {mg : Str → Option Value} {base : Heap} {C CH wA pA : Addr}
theorem ok_right {f fM fI fW fE : Addr} {fd fdM fdI fdW fdE : FuncData} (F : Fun K "_law_rules_right" "_law_rules_right" sRight f fd) (T : TR K mg C wA pA) (X : TK K C) (M : Mk K C fI) (FI : Fun K "__init__" "Rule.__init__" sRI fI fdI) (GI : FnOk P w K mg base CX0 3 fI fdI ["self", "way", "still", "hold", "pins", "guard"] (spRI C))
    (GM : FnOk P w K mg base CX0 5 fM fdM ["mode"] (spMk C)) (kM : PySem.W.keepIn K (.ref fM) = true) (bM : L2.Binds K fdM ["mode"] []) (gM : mg "_law_rule" = some (.ref fM))
    (GW : FnOk P w K mg base CX0 5 fW fdW ["self", "part", "value"] (spRW C)) (bW : L2.Binds K fdW ["self", "part", "value"] []) (mW : Meth K C "with_part" fW)
    (O : OwnEq K C fE) (GE : FnOk P w K mg base CX0 2 fE fdE ["self", "other"] (spRE K C)) (bE : L2.Binds K fdE ["self", "other"] [])
    (p1 : Pr P w K mg base C "way" "_way") (p2 : Pr P w K mg base C "still" "_still") : FnOk P w K mg base CX0 6 f fd ["way_here"] (spRight C) := by
  refine F.ok scRight (fun vs H Q E h => ?_) (fun cdv A outer s H vs Q E hr h => ?_)
  · obtain ⟨m, r, rfl, _⟩ := h
    rfl
  · obtain ⟨m, r, rfl, hm, ok, k⟩ := h
    have hu := hu_of hr
    have hr1 : Room 2 _ := hr.mono (by decide)
    have hr2 : Room 3 _ := hr.mono (by decide)
    have hr3 : Room 4 _ := hr.mono (by decide)
    have nd := scRight.nd
    refine ⟨_, pss_cons (ps_set (i := 1) nd rfl (Or.inr rfl) (pe_call GM hr (by rfl) gM kM bM .nil pass0 (pa_cons (pv 0) pa_nil)))
      (C8.pss_cut (ps_setLc (i := 3) (own := [("piece", 2)]) (g := gName 2) rfl nd rfl rfl (sw_true rfl rfl rfl (by decide +kernel)) (pi_list (pe_lst (pa_cons pe_str (pa_cons pe_str (pa_cons pe_str (pa_cons pe_str pa_nil))))))
        (blkOk_by (N := ["way_here", "told", "piece", "numbers", "twin", "size", "ways", "worth", "other", "uno", "duo", "odd"]) (sc := defScope sRight) (by decide +kernel)) (fun _ _ _ _ _ => pg_name (i := 2) nd rfl (Or.inl rfl)) (fun _ _ _ _ _ => pts_nil)
        (fun _ _ _ _ _ => pe_dget hu (pv 0) (pv 2) (fun _ _ => rfl)))
      (C8.pss_cut (ps_set (i := 4) nd rfl (Or.inl rfl) (pe_makeK0 M GI hr3 (by rfl) T.gC (kb_RI FI) pass0 (pk_cons (pe_ix ix_list (pv 3) pe_int (fun _ _ => rfl)) (pk_cons (pe_ix ix_list (pv 3) pe_int (fun _ _ => rfl)) (pk_cons (pe_ix ix_list (pv 3) pe_int (fun _ _ => rfl)) (pk_cons (pe_ix ix_list (pv 3) pe_int (fun _ _ => rfl)) (pk_cons (pe_dget hu (pv 0) pe_str (fun _ _ => rfl)) pk_nil)))))))
      (pss_cons (ps_if (PW.pt (pw_or (pt_cmpR (op_neO O GE hr2 bE) (pv 1) (pv 4) (nomark _)) (pw_or1 (pt_not (pt_cmpR (op_eqO O GE hr1 bE) (pv 1) (pv 4) (nomark _)))))) (pss_one (ps_ret pe_bl)) pss_nil)
      (C8.pss_cut (ps_for PassesOwn.never rfl (pi_list (pe_lst (pa_cons (pe_tup (pa_cons pe_str (pa_cons pe_int pa_nil))) (pa_cons (pe_tup (pa_cons pe_str (pa_cons pe_int pa_nil))) (pa_cons (pe_tup (pa_cons pe_str (pa_cons pe_int pa_nil))) (pa_cons (pe_tup (pa_cons pe_str (pa_cons pe_int pa_nil))) (pa_cons (pe_tup (pa_cons pe_str (pa_cons pe_int pa_nil))) pa_nil)))))))
          (pg_tup rfl (pgs_cons (pg_name (i := 2) nd rfl (.inl rfl)) (pgs_cons (pg_name (i := 5) nd rfl (.inl rfl)) pgs_nil)))
        (pss_cons (ps_set (i := 6) nd rfl (Or.inl rfl) (pe_disp (pps_cons pe_str pe_str (pps_cons pe_str pe_str (pps_cons pe_str pe_str pps_nil))) (by rfl) (by rfl) (fun z => by cases z) (by decide)))
        (C8.pss_cut (ps_set (i := 7) nd rfl (Or.inl rfl) (pe_ifExp (pt_cmpR op_eq (pv 5) pe_int (nomark _)) (pe_dget hu (pv 6) (pe_dget hu (pv 0) pe_str (fun _ _ => rfl)) (fun _ _ => rfl))
            (pe_op op_mod (pe_callTy call_int1 (by rfl) T.int (by decide +kernel) (pa_cons (pe_op op_add (pe_dget hu (pv 0) (pv 2) (fun _ _ => rfl)) pe_int) pa_nil)) (pv 5))))
        (pss_cons (ps_set (i := 8) nd rfl (Or.inl rfl) (pe_meth (pv 1) T.cl mW GW hr bW .nil pass0 (pa_cons (pv 2) (pa_cons (pv 7) pa_nil))))
        (pss_one (ps_if (PW.pt (pw_or (pt_cmpR (op_eqO O GE hr1 bE) (pv 8) (pv 1) (nomark _)) (pw_or (pt_not (pt_cmpR (op_neO O GE hr2 bE) (pv 1) (pv 8) (nomark _)))
          (pw_or1 (pt_cmpR (op_neO O GE hr2 bE) (pe_meth (pv 8) T.cl mW GW hr bW .nil pass0 (pa_cons (pv 2) (pa_cons (pe_dget hu (pv 0) (pv 2) (fun _ _ => rfl)) pa_nil))) (pv 1) (nomark _)))))) (pss_one (ps_ret pe_bl)) pss_nil))))))
      (C8.pss_cut (ps_for PassesOwn.never rfl (pi_list (pe_lst (pa_cons (pe_tup (pa_cons pe_str (pa_cons pe_str pa_nil))) (pa_cons (pe_tup (pa_cons pe_str (pa_cons pe_str pa_nil))) (pa_cons (pe_tup (pa_cons pe_str (pa_cons pe_str pa_nil))) pa_nil)))))
          (pg_tup rfl (pgs_cons (pg_name (i := 9) nd rfl (.inl rfl)) (pgs_cons (pg_name (i := 10) nd rfl (.inl rfl)) pgs_nil)))
        (pss_cons (ps_set (i := 8) nd rfl (Or.inl rfl) (pe_meth (pe_meth (pv 1) T.cl mW GW hr bW .nil pass0 (pa_cons (pv 9) (pa_cons (pe_dget hu (pv 0) (pv 10) (fun _ _ => rfl)) pa_nil))) T.cl mW GW hr bW .nil pass0 (pa_cons (pv 10) (pa_cons (pe_dget hu (pv 0) (pv 9) (fun _ _ => rfl)) pa_nil))))
        (pss_one (ps_if (PW.pt (pw_or (pt_cmpR op_ne (pe_cmpR (op_eqO O GE hr1 bE) (pv 8) (pv 1) (nomark _)) (pe_cmpR op_eq (pe_dget hu (pv 0) (pv 9) (fun _ _ => rfl)) (pe_dget hu (pv 0) (pv 10) (fun _ _ => rfl)) (nomark _)) (nomark _))
          (pw_or1 (pt_cmpR op_eq (pe_cmpR (op_neO O GE hr2 bE) (pv 8) (pv 1) (nomark _)) (pe_cmpR (op_eqO O GE hr1 bE) (pv 8) (pv 1) (nomark _)) (nomark _))))) (pss_one (ps_ret pe_bl)) pss_nil))))
      (pss_one (ps_ret (pe_cmpR (op_eqD hr.units) (pe_lc (own := [("odd", 11)]) (g := gName 11) rfl nd (pi_list (pe_lst (pa_cons pe_non (pa_cons (pv 0) (pa_cons pe_int (pa_cons pe_str (pa_cons (pe_tup (pa_cons (pe_pr p1 (pv 1) T.cl hr2 rfl) (pa_cons (pe_pr p2 (pv 1) T.cl hr2 rfl) pa_nil))) pa_nil)))))))
        (blkOk_by (N := ["way_here", "told", "piece", "numbers", "twin", "size", "ways", "worth", "other", "uno", "duo", "odd"]) (sc := defScope sRight) (by decide +kernel)) (fun _ _ _ _ _ => pg_name (i := 11) nd rfl (Or.inl rfl))
        (fun _ _ _ _ _ => pts_one (PW.pt (pw_or (pt_cmpR (r := rOwn K C (spRE K C) id) (by exact op_eqO O GE hr1 bE) (pv 1) (pv 11) (nomark _)) (pw_or1 (pt_not (pt_cmpR (r := rOwn K C (spRE K C) not) (by exact op_neO O GE hr2 bE) (pv 1) (pv 11) (nomark _))))))) (fun _ _ _ _ _ => pv 11)) (pe_lst pa_nil) (nomark _))))))))), ?_⟩
    -- told
    refine ⟨_, rfl, m, r, rfl, hm, ok, fun o H1 no1 ho1 s1 => ?_⟩
    have hm1 := s1 _ _ hm
    -- numbers
    refine ⟨fun σ H' => ∃ (l : Addr) (v2 : Option V), σ = [some (.ref m), some (.ref o), v2, some (.ref l), none, none, none, none, none, none, none, none] ∧ H' l = some (.lst [V.int r.guard, V.int r.pins, V.int r.hold, V.int r.still]) ∧ Same H1 H', ?_, ?_⟩
    · refine ⟨(by show 4 ≤ sizeLine; decide), fun q nq => ⟨q, rfl, ⟨_, SqL.of upd_same⟩, fun D nD => ?_⟩⟩
      have hq : (upd H1 q (.lst [V.str "guard", V.str "pins", V.str "hold", V.str "still"])) q = some (.lst [V.str "guard", V.str "pins", V.str "hold", V.str "still"]) := upd_same
      have hm2 : (upd H1 q (.lst [V.str "guard", V.str "pins", V.str "hold", V.str "still"])) m = some (.dK (kW r)) := same_upd nq _ _ hm1
      have s2 : Same H1 (upd H1 q (.lst [V.str "guard", V.str "pins", V.str "hold", V.str "still"])) := same_upd nq
      revert hq hm2 s2 nD
      generalize upd H1 q (.lst [V.str "guard", V.str "pins", V.str "hold", V.str "still"]) = H2
      intro nD hq hm2 s2
      refine lc_list (K := K) (a := q) (xs := [V.str "guard", V.str "pins", V.str "hold", V.str "still"]) (fun i H' => H' = upd H2 D (.lst ([V.int r.guard, V.int r.pins, V.int r.hold, V.int r.still].take i))) rfl
        (fun i H' _ e => by subst e; exact SqL.of (same_upd nD _ _ hq)) ?_ ?_
      · rintro i x H' hi rfl
        obtain ⟨p, rfl, hv⟩ := numbers_item (r := r) hi
        have hil : i < 4 := (List.getElem?_eq_some_iff.mp hi).1
        refine ⟨rfl, ?_⟩
        dsimp only [tYes]
        rw [if_pos rfl]
        refine ⟨_, rfl, _, rfl, m, _, rfl, dg_of (same_upd nD _ _ hm2) (p.val r), _, upd_same, ?_, ?_⟩
        · rw [List.length_take]
          exact small1000 (Nat.le_trans (Nat.min_le_left _ _) (by omega))
        · rw [upd_upd, List.take_add_one, hv]
          rfl
      · rintro H' rfl
        exact ⟨D, none, rfl, upd_same, s2.trans (same_upd nD)⟩
    rintro σ H2 ⟨l, v2, rfl, hl, s2⟩
    -- twin
    refine ⟨fun σ H' => ∃ (t : Addr), σ = [some (.ref m), some (.ref o), v2, some (.ref l), some (.ref t), none, none, none, none, none, none, none] ∧ RuleAt C H' t r ∧ Same H2 H', ?_, ?_⟩
    · refine ⟨_, rfl, l, _, 0, _, rfl, rfl, SqL.of hl, at_of (j := 0) rfl rfl, _, rfl, l, _, 1, _, rfl, rfl, SqL.of hl, at_of (j := 1) rfl rfl, _, rfl, l, _, 2, _, rfl, rfl, SqL.of hl, at_of (j := 2) rfl rfl, _, rfl, l, _, 3, _, rfl, rfl, SqL.of hl, at_of (j := 3) rfl rfl, ?_⟩
      refine ⟨_, rfl, m, _, rfl, dg_of (s2 _ _ hm1) (kW_way r), rfl, rfl, fun x dx nx ndx ne => ?_⟩
      refine ⟨x, dx, r, rfl, ok, upd_same, fun H' hx fr => ⟨rfl, x, rfl, hx, fun b u e => fr b u (ne_of_none e nx) ?_⟩⟩
      rw [upd_ne (ne_of_none e nx), upd_ne (ne_of_none e ndx)]
      exact e
    rintro σ H3 ⟨t, rfl, ht, s3⟩
    have s13 := s2.trans s3
    have ho3 := ho1.same s13
    refine ⟨_, rfl, _, rfl, ask T not ho3 ht ⟨_, rfl, ite2 (fun e => absurd e (by simp)) (fun _ => ?_)⟩⟩
    refine ⟨_, rfl, _, rfl, ask T id ho3 ht ⟨_, rfl, ite2 (fun e => absurd e (by simp)) (fun _ => ?_)⟩⟩
    -- the parts, one by one
    refine ⟨fun σ H' => ∃ (v2 v5 v6 v7 v8 : Option V), σ = [some (.ref m), some (.ref o), v2, some (.ref l), some (.ref t), v5, v6, v7, v8, none, none, none] ∧ Same H1 H', ?_, ?_⟩
    · refine ⟨(by show 2 ≤ sizeLine; decide), fun t1 n1 => ⟨(by show 2 ≤ sizeLine; decide), fun t2 n2 => ⟨(by show 2 ≤ sizeLine; decide), fun t3 n3 => ⟨(by show 2 ≤ sizeLine; decide), fun t4 n4 => ⟨(by show 2 ≤ sizeLine; decide), fun t5 n5 => ⟨(by show 5 ≤ sizeLine; decide), fun q nq => ?_⟩⟩⟩⟩⟩⟩
      have tl := ((((((Tp.nil H3).more n1).more n2).more n3).more n4).more n5).list nq
      have sm := s13.trans ((((((same_upd n1).trans (same_upd n2)).trans (same_upd n3)).trans (same_upd n4)).trans (same_upd n5)).trans (same_upd (o := .lst ([t1, t2, t3, t4, t5].map V.ref)) nq))
      have tl : Tl _ q [t1, t2, t3, t4, t5] [[V.str "still", .int 4], [V.str "hold", .int 4], [V.str "pins", .int 3], [V.str "guard", .int 4], [V.str "way", .int 0]] := tl
      refine ⟨q, rfl, ⟨_, SqL.of tl.l⟩, for_list (K := K) (a := q) (xs := [t1, t2, t3, t4, t5].map V.ref) (fun i σ H' => ∃ (v2 v5 v6 v7 v8 : Option V), σ = [some (.ref m), some (.ref o), v2, some (.ref l), some (.ref t), v5, v6, v7, v8, none, none, none] ∧ Same H1 H' ∧
          Tl H' q [t1, t2, t3, t4, t5] [[V.str "still", .int 4], [V.str "hold", .int 4], [V.str "pins", .int 3], [V.str "guard", .int 4], [V.str "way", .int 0]])
        ⟨_, _, _, _, _, rfl, sm, tl⟩ (fun i σ H' _ ⟨_, _, _, _, _, _, _, tl⟩ => SqL.of tl.l) ?_ (fun σ H' ⟨a1, a2, a3, a4, a5, e, sm, _⟩ => ⟨a1, a2, a3, a4, a5, e, sm⟩)⟩
      clear tl sm nq n5 n4 n3 n2 n1
      rintro i x σ H4 hi ⟨v2, v5, v6, v7, v8, rfl, s4, tl⟩
      obtain ⟨u, xs, rfl, hx, hu4⟩ := tl.item hi
      obtain ⟨part, sz, v, v', r', rfl, chg, way⟩ := parts_chg ok hx
      refine ⟨u, _, rfl, SqT.of hu4, rfl, _, _, rfl, _, _, rfl, rfl, ?_⟩
      -- ways
      intro y ny
      refine ⟨upd_same, kN, rfl, (by show 3 ≤ 15; decide), ?_⟩
      rw [upd_upd, show mergeK [] kN = kN by kernel_rfl]
      have hy : (upd H4 y (.dK kN)) y = some (.dK kN) := upd_same
      have s5 : Same H1 (upd H4 y (.dK kN)) := s4.trans (same_upd ny)
      have tl5 : Tl (upd H4 y (.dK kN)) q _ _ := tl.same (same_upd ny)
      revert hy s5 tl5
      generalize upd H4 y (.dK kN) = H5
      intro hy s5 tl5
      have hm5 := s5 _ _ hm1
      have ho5 := ho1.same s5
      -- worth
      refine ⟨fun σ H' => σ = [some (.ref m), some (.ref o), some (.str part), some (.ref l), some (.ref t), some (.int sz), some (.ref y), some v', v8, none, none, none] ∧ H' = H5, ?_, ?_⟩
      · refine ⟨_, rfl, rfl, _, rfl, ?_⟩
        rcases way with ⟨rfl, rfl⟩ | ⟨n, z0, z1, rfl, rfl⟩
        · refine iteT ⟨_, rfl, _, rfl, m, _, rfl, dg_of hm5 (kW_way r), y, _, rfl, dg_of hy (kN_val ok.w).1, rfl, rfl⟩
        · refine ite2 (fun e => absurd (V.int.inj (of_decide_eq_true e)) z0) (fun _ => ?_)
          exact ⟨_, rfl, _, rfl, m, _, rfl, dg_of hm5 chg.old, _, _, rfl, rfl, .inl ⟨_, rfl, _, rfl, _, _, rfl, rfl, z1, rfl, rfl⟩⟩
      rintro σ H6 ⟨rfl, rfl⟩
      -- other
      obtain ⟨dx, ho5'⟩ := id ho5
      refine ⟨_, rfl, o, dx, _, rfl, ho5', fR_no r, _, rfl, _, rfl, o, r, r', part, v', rfl, ho5, chg.put, chg.ok, fun x H7 nx hx s7 => ?_⟩
      have ho7 := ho5.same s7
      have hm7 := s7 _ _ hm5
      refine ⟨_, rfl, _, rfl, ask T id hx ho7 ⟨_, rfl, ite2 (fun e => absurd (of_decide_eq_true e) chg.ne) (fun _ => ?_)⟩⟩
      refine ⟨_, rfl, _, rfl, ask T not ho7 hx ⟨_, rfl, ite2 (fun e => absurd (by simpa using e) (fun z : r = r' => chg.ne z.symm)) (fun _ => ?_)⟩⟩
      obtain ⟨dy, hx'⟩ := id hx
      refine ⟨_, rfl, x, dy, _, rfl, hx', fR_no r', _, rfl, _, rfl, _, rfl, m, v, rfl, dg_of hm7 chg.old, x, r', r, part, v, rfl, hx, chg.back, ok, fun y2 H8 ny2 hy2 s8 => ?_⟩
      refine ⟨_, rfl, ask T not hy2 (ho7.same s8) ⟨_, rfl, ite2 (fun e => absurd e (by simp)) (fun _ => ?_)⟩⟩
      exact ⟨_, _, _, _, _, rfl, (s5.trans s7).trans s8, (tl5.same s7).same s8⟩
    rintro σ H4 ⟨v2, v5, v6, v7, v8, rfl, s4⟩
    -- two parts exchanged
    refine ⟨fun σ H' => ∃ (v8 v9 v10 : Option V), σ = [some (.ref m), some (.ref o), v2, some (.ref l), some (.ref t), v5, v6, v7, v8, v9, v10, none] ∧ Same H1 H', ?_, ?_⟩
    · refine ⟨(by show 2 ≤ sizeLine; decide), fun t1 n1 => ⟨(by show 2 ≤ sizeLine; decide), fun t2 n2 => ⟨(by show 2 ≤ sizeLine; decide), fun t3 n3 => ⟨(by show 3 ≤ sizeLine; decide), fun q nq => ?_⟩⟩⟩⟩
      have tl := ((((Tp.nil H4).more n1).more n2).more n3).list nq
      have sm := s4.trans ((((same_upd n1).trans (same_upd n2)).trans (same_upd n3)).trans (same_upd (o := .lst ([t1, t2, t3].map V.ref)) nq))
      have tl : Tl _ q [t1, t2, t3] [[V.str "still", .str "hold"], [V.str "hold", .str "guard"], [V.str "still", .str "guard"]] := tl
      refine ⟨q, rfl, ⟨_, SqL.of tl.l⟩, for_list (K := K) (a := q) (xs := [t1, t2, t3].map V.ref) (fun i σ H' => ∃ (v8 v9 v10 : Option V), σ = [some (.ref m), some (.ref o), v2, some (.ref l), some (.ref t), v5, v6, v7, v8, v9, v10, none] ∧ Same H1 H' ∧
          Tl H' q [t1, t2, t3] [[V.str "still", .str "hold"], [V.str "hold", .str "guard"], [V.str "still", .str "guard"]])
        ⟨_, _, _, rfl, sm, tl⟩ (fun i σ H' _ ⟨_, _, _, _, _, tl⟩ => SqL.of tl.l) ?_ (fun σ H' ⟨a1, a2, a3, e, sm, _⟩ => ⟨a1, a2, a3, e, sm⟩)⟩
      clear tl sm nq n3 n2 n1
      rintro i x σ H5 hi ⟨v8, v9, v10, rfl, s5, tl⟩
      obtain ⟨u, xs, rfl, hx, hu5⟩ := tl.item hi
      obtain ⟨a, b, rfl, two⟩ := two_item hx
      have hm5 := s5 _ _ hm1
      have ho5 := ho1.same s5
      obtain ⟨dx, ho5'⟩ := id ho5
      have ra := a.range ok
      have rb := b.range ok
      have ok1 : (a.set r (b.get r)).ok := a.setok ok rb.1 (by rw [two.s1, ← two.s2]; exact rb.2)
      have ok2 : (b.set (a.set r (b.get r)) (a.get r)).ok := b.setok ok1 ra.1 (by rw [two.s2, ← two.s1]; exact ra.2)
      refine ⟨u, _, rfl, SqT.of hu5, rfl, _, _, rfl, _, _, rfl, rfl, ?_⟩
      refine ⟨_, rfl, o, dx, _, rfl, ho5', fR_no r, _, rfl, _, rfl, _, rfl, m, _, rfl, dg_of hm5 (b.val r), o, r, _, a.nm, _, rfl, ho5, a.put r _, ok1, fun x H6 nx hx s6 => ?_⟩
      obtain ⟨dy, hx'⟩ := id hx
      have hm6 := s6 _ _ hm5
      refine ⟨x, dy, _, rfl, hx', fR_no _, _, rfl, _, rfl, _, rfl, m, _, rfl, dg_of hm6 (a.val r), x, _, _, b.nm, _, rfl, hx, b.put _ _, ok2, fun y H7 ny hy s7 => ?_⟩
      have hm7 := s7 _ _ hm6
      have ho7 := (ho5.same s6).same s7
      refine ⟨_, rfl, _, rfl, ask T id hy ho7 ⟨_, rfl, _, rfl, m, _, rfl, dg_of hm7 (a.val r), _, rfl, _, rfl, m, _, rfl, dg_of hm7 (b.val r), rfl, rfl, _, rfl, ite2 (fun e => ?_) (fun _ => ?_)⟩⟩
      · exfalso
        have sw := swap_eq (r := r) two
        by_cases z : a.get r = b.get r
        · rw [z] at e
          have z2 := sw.mpr z
          rw [z] at z2
          rw [z2] at e
          simp at e
        · have z2 : ¬ (b.set (a.set r (b.get r)) (a.get r) = r) := fun w => z (sw.mp w)
          simp [z, z2] at e
      refine ⟨_, rfl, _, rfl, ask T not hy ho7 ⟨_, rfl, _, rfl, ask T id hy ho7 ⟨rfl, _, rfl, ite2 (fun e => ?_) (fun _ => ?_)⟩⟩⟩
      · exfalso
        have e := V.bl.inj (of_decide_eq_true e)
        revert e
        cases decide (b.set (a.set r (b.get r)) (a.get r) = r) <;> simp
      exact ⟨_, _, _, rfl, (s5.trans s6).trans s7, (tl.same s6).same s7⟩
    rintro σ H5 ⟨v8, v9, v10, rfl, s5⟩
    -- beside other things
    have ho5 := ho1.same s5
    obtain ⟨dx, ho5'⟩ := id ho5
    have hm5 := s5 _ _ hm1
    refine ⟨_, rfl, _, rfl, o, dx, _, rfl, ho5', o, dx, _, _, rfl, ho5', fR_way r, _, rfl, o, dx, _, rfl, ho5', o, dx, _, _, rfl, ho5', fR_still r, (by show 2 ≤ sizeLine; decide), fun u nu => ⟨(by show 5 ≤ sizeLine; decide), fun q nq => ?_⟩⟩
    have hu6 : (upd (upd H5 u (.tup [V.str r.way, V.int r.still])) q (.lst [V.non, V.ref m, V.int 0, V.str "end", V.ref u])) u = some (.tup [V.str r.way, V.int r.still]) := same_upd nq _ _ upd_same
    have s6 : Same H1 (upd (upd H5 u (.tup [V.str r.way, V.int r.still])) q (.lst [V.non, V.ref m, V.int 0, V.str "end", V.ref u])) := (s5.trans (same_upd nu)).trans (same_upd nq)
    have hq6 : (upd (upd H5 u (.tup [V.str r.way, V.int r.still])) q (.lst [V.non, V.ref m, V.int 0, V.str "end", V.ref u])) q = some (.lst [V.non, V.ref m, V.int 0, V.str "end", V.ref u]) := upd_same
    revert hu6 s6 hq6
    generalize upd (upd H5 u (.tup [V.str r.way, V.int r.still])) q (.lst [V.non, V.ref m, V.int 0, V.str "end", V.ref u]) = H6
    intro hu6 s6 hq6
    refine ⟨q, rfl, ⟨_, SqL.of hq6⟩, fun D nD => lc_list (K := K) (a := q) (xs := [V.non, V.ref m, V.int 0, V.str "end", V.ref u]) (fun i H' => H' = upd H6 D (.lst [])) rfl (fun i H' _ e => by subst e; exact SqL.of (same_upd nD _ _ hq6)) ?_ ?_⟩
    · rintro i x H' hi rfl
      have s7 : Same H1 (upd H6 D (.lst [])) := s6.trans (same_upd nD)
      have odd : ∃ ty, TyX K (upd H6 D (.lst [])) x ty ∧ PySem.W.notFirst K C ty = true ∧ PySem.W.kitOne K ty (.ref C) = some false := by
        match i, hi with
        | 0, hi => cases Option.some.inj hi; exact ⟨_, .base .non, nf_non, X.n⟩
        | 1, hi => cases Option.some.inj hi; exact ⟨_, .base (.dK (s7 _ _ hm1)), nf_dict, X.d⟩
        | 2, hi => cases Option.some.inj hi; exact ⟨_, .base (.int _), nf_int, X.i⟩
        | 3, hi => cases Option.some.inj hi; exact ⟨_, .base (.str _), nf_str, X.s⟩
        | 4, hi => cases Option.some.inj hi; exact ⟨_, .base (.tup (same_upd nD _ _ hu6)), nf_tup, X.t⟩
        | n + 5, hi => simp at hi
      obtain ⟨ty, h1, h2, h3⟩ := odd
      have ho7 := ho1.same s7
      refine ⟨rfl, ?_⟩
      refine ⟨_, rfl, _, rfl, askN id ho7 h1 h2 h3 ⟨_, rfl, ite2 (fun e => absurd e (by simp)) (fun _ => ?_)⟩⟩
      refine ⟨_, rfl, _, rfl, askN not ho7 h1 h2 h3 ⟨_, rfl, ite2 (fun e => absurd e (by simp)) (fun _ => rfl)⟩⟩
    · rintro H' rfl
      refine ⟨Nat.zero_le _, fun e ne => ?_⟩
      refine ⟨.list [], .list [], .lst (SqL.of (same_upd ne _ _ upd_same)) .nil, .lst (SqL.of upd_same) .nil, by decide +kernel, by decide +kernel, ?_⟩
      rw [show PyData.eqv (.list []) (.list []) = true by simp [PyData.eqv, PyData.eqvAll]]
      exact k _ ((((s1.trans s6).trans (same_upd nD))).trans (same_upd ne))
end
end D3

namespace D3
open PySem PySem.Spec PyProof.Rows L2 Dr Gd Oe
abbrev sUnlike : Stmt := topS 32
theorem scUnlike : FnScope ["home", "found", "piece", "size", "least", "other", "lag_here", "put_otherwise", "worth", "ways"] ["home"] (defScope sUnlike) := ⟨rfl, rfl, rfl, by decide +kernel, rfl, by decide +kernel, by decide +kernel⟩
/-- a list of parameters of houses, each right and none like h -/
def GoodL (H : Hp) (l : Addr) (h : H6) (n : Nat) : Prop := ∃ os, H l = some (.lst os) ∧ os.length ≤ n ∧ ∀ o ∈ os, ∃ p wa la h2, o = V.ref p ∧ HomeAt H p wa la h2 ∧ h2.ok ∧ h2 ≠ h
theorem GoodL.same {H H' : Hp} {l : Addr} {h : H6} {n : Nat} (x : GoodL H l h n) (k : Same H H') : GoodL H' l h n := by
  obtain ⟨os, e, len, g⟩ := x
  refine ⟨os, k _ _ e, len, fun o ho => ?_⟩
  obtain ⟨p, wa, la, h2, q1, q2, q3, q4⟩ := g o ho
  exact ⟨p, wa, la, h2, q1, q2.same k, q3, q4⟩
theorem HomeAt.off {H : Hp} {p wa la l : Addr} {h : H6} {xs ys : List V} (x : HomeAt H p wa la h) (hl : H l = some (.lst xs)) : HomeAt (upd H l (.lst ys)) p wa la h := by
  obtain ⟨a, b, c⟩ := x
  refine ⟨?_, ?_, ?_⟩
  · rw [upd_ne (ne_of a hl (by intro z; cases z))]; exact a
  · rw [upd_ne (ne_of b hl (by intro z; cases z))]; exact b
  · rw [upd_ne (ne_of c hl (by intro z; cases z))]; exact c
theorem GoodL.add {H : Hp} {l p wa la : Addr} {h h2 : H6} {n : Nat} {os : List V} (e : H l = some (.lst os)) (len : os.length ≤ n) (g : ∀ o ∈ os, ∃ p wa la h2, o = V.ref p ∧ HomeAt H p wa la h2 ∧ h2.ok ∧ h2 ≠ h)
    (x : HomeAt H p wa la h2) (ok : h2.ok) (ne : h2 ≠ h) : GoodL (upd H l (.lst (os ++ [.ref p]))) l h (n + 1) := by
  refine ⟨os ++ [.ref p], upd_same, by rw [List.length_append]; show os.length + 1 ≤ n + 1; omega, fun o ho => ?_⟩
  rcases List.mem_append.mp ho with ho | ho
  · obtain ⟨p', wa', la', h2', q1, q2, q3, q4⟩ := g o ho
    exact ⟨p', wa', la', h2', q1, q2.off e, q3, q4⟩
  · cases List.mem_singleton.mp ho
    exact ⟨p, wa, la, h2, rfl, x.off e, ok, ne⟩
def spUnlike : Sp := fun vs H Q _ => ∃ (p wa la : Addr) (h : H6), vs = [.ref p] ∧ HomeAt H p wa la h ∧ h.ok ∧ ∀ l H', Same H H' → GoodL H' l h 20 → Q (.ref l) H'
/-- one parameter of a house otherwise -/
def GoodPut (H : Hp) (h : H6) (wa la : Addr) (part : Str) (v : V) : Prop := ∃ la' h', putK (kH wa la h) (.inr part) v = kH wa la' h' ∧ H la' = some (.tup [.int h'.lo, .int h'.hi]) ∧ h'.ok ∧ h' ≠ h ∧ h'.rule = h.rule
def PutL (H : Hp) (pt : Addr) (h : H6) (wa la : Addr) (ts : List Addr) : Prop := H pt = some (.lst (ts.map V.ref)) ∧ ∀ t ∈ ts, ∃ part v, H t = some (.tup [.str part, v]) ∧ GoodPut H h wa la part v
theorem GoodPut.same {H H' : Hp} {h : H6} {wa la : Addr} {part : Str} {v : V} (x : GoodPut H h wa la part v) (k : ∀ b xs, H b = some (.tup xs) → H' b = some (.tup xs)) : GoodPut H' h wa la part v := by
  obtain ⟨la', h', a, b, c⟩ := x
  exact ⟨la', h', a, k _ _ b, c⟩
theorem PutL.same {H H' : Hp} {pt : Addr} {h : H6} {wa la : Addr} {ts : List Addr} (x : PutL H pt h wa la ts) (k : ∀ b xs, H b = some (.tup xs) → H' b = some (.tup xs)) (e : H' pt = H pt) : PutL H' pt h wa la ts := by
  refine ⟨e.trans x.1, fun t ht => ?_⟩
  obtain ⟨part, v, q1, q2⟩ := x.2 t ht
  exact ⟨part, v, k _ _ q1, q2.same k⟩
theorem first_item {h : H6} (ok : h.ok) (wa la : Addr) {i : Nat} {xs : List V} (e : [[V.str "room", .int 4, .int 1], [V.str "top", .int 3, .int 0], [V.str "many", .int 2, .int 1]][i]? = some xs) :
    ∃ part sz le n h', xs = [.str part, .int sz, .int le] ∧ valV (kH wa la h) (.inr part) = some (.int n) ∧ 0 < sz ∧ putK (kH wa la h) (.inr part) (.int (le + (n - le + 1) % sz)) = kH wa la h' ∧ h'.ok ∧ h' ≠ h ∧ h'.rule = h.rule ∧ h'.lo = h.lo ∧ h'.hi = h.hi := by
  obtain ⟨ru, ro, to, ma, go, lo, hi⟩ := h
  obtain ⟨u, r, t, m, l⟩ := ok
  have r : 1 ≤ ro ∧ ro ≤ 4 := r
  have t : 0 ≤ to ∧ to ≤ 2 := t
  have m : 1 ≤ ma ∧ ma ≤ 2 := m
  match i, e with
  | 0, e =>
    cases Option.some.inj e
    have d := next_ne (n := ro - 1) (m := 4) (by omega) (by omega) (by omega)
    have d0 := Int.emod_nonneg (ro - 1 + 1) (show (4 : Int) ≠ 0 by decide)
    have d1 := Int.emod_lt_of_pos (ro - 1 + 1) (show (0 : Int) < 4 by decide)
    exact ⟨"room", 4, 1, ro, ⟨ru, 1 + (ro - 1 + 1) % 4, to, ma, go, lo, hi⟩, rfl, by kernel_rfl, by decide, by kernel_rfl, ⟨u, ⟨by show 1 ≤ 1 + (ro - 1 + 1) % 4; omega, by show 1 + (ro - 1 + 1) % 4 ≤ 4; omega⟩, t, m, l⟩, fun z => by have z : 1 + (ro - 1 + 1) % 4 = ro := congrArg H6.room z; omega, rfl, rfl, rfl⟩
  | 1, e =>
    cases Option.some.inj e
    have d := next_ne (n := to - 0) (m := 3) (by omega) (by omega) (by omega)
    have d0 := Int.emod_nonneg (to - 0 + 1) (show (3 : Int) ≠ 0 by decide)
    have d1 := Int.emod_lt_of_pos (to - 0 + 1) (show (0 : Int) < 3 by decide)
    exact ⟨"top", 3, 0, to, ⟨ru, ro, 0 + (to - 0 + 1) % 3, ma, go, lo, hi⟩, rfl, by kernel_rfl, by decide, by kernel_rfl, ⟨u, r, ⟨by show 0 ≤ 0 + (to - 0 + 1) % 3; omega, by show 0 + (to - 0 + 1) % 3 ≤ 2; omega⟩, m, l⟩, fun z => by have z : 0 + (to - 0 + 1) % 3 = to := congrArg H6.top z; omega, rfl, rfl, rfl⟩
  | 2, e =>
    cases Option.some.inj e
    have d := next_ne (n := ma - 1) (m := 2) (by omega) (by omega) (by omega)
    have d0 := Int.emod_nonneg (ma - 1 + 1) (show (2 : Int) ≠ 0 by decide)
    have d1 := Int.emod_lt_of_pos (ma - 1 + 1) (show (0 : Int) < 2 by decide)
    exact ⟨"many", 2, 1, ma, ⟨ru, ro, to, 1 + (ma - 1 + 1) % 2, go, lo, hi⟩, rfl, by kernel_rfl, by decide, by kernel_rfl, ⟨u, r, t, ⟨by show 1 ≤ 1 + (ma - 1 + 1) % 2; omega, by show 1 + (ma - 1 + 1) % 2 ≤ 2; omega⟩, l⟩, fun z => by have z : 1 + (ma - 1 + 1) % 2 = ma := congrArg H6.many z; omega, rfl, rfl, rfl⟩
  | n + 3, e => simp at e
theorem put_goes {H : Hp} {h : H6} {wa la : Addr} (ok : h.ok) (hl : H la = some (.tup [.int h.lo, .int h.hi])) : GoodPut H h wa la "goes" (.bl (!h.goes)) := by
  obtain ⟨ru, ro, to, ma, go, lo, hi⟩ := h
  refine ⟨la, ⟨ru, ro, to, ma, !go, lo, hi⟩, by kernel_rfl, hl, ⟨ok.u, ok.r, ok.t, ok.m, ok.l⟩, fun z => ?_, rfl⟩
  have z : (!go) = go := congrArg H6.goes z
  cases go <;> simp at z
theorem put_lag1 {H : Hp} {h : H6} {wa la la' : Addr} (ok : h.ok) (hl : H la' = some (.tup [.int 1, .int (1 + h.hi % 3)])) : GoodPut H h wa la "lag" (.ref la') := by
  obtain ⟨ru, ro, to, ma, go, lo, hi⟩ := h
  have l : 1 ≤ lo ∧ lo ≤ hi ∧ hi ≤ 3 := ok.l
  have d0 := Int.emod_nonneg hi (show (3 : Int) ≠ 0 by decide)
  have d1 := Int.emod_lt_of_pos hi (show (0 : Int) < 3 by decide)
  refine ⟨la', ⟨ru, ro, to, ma, go, 1, 1 + hi % 3⟩, by kernel_rfl, hl, ⟨ok.u, ok.r, ok.t, ok.m, by show (1 : Int) ≤ 1; decide, by show 1 ≤ 1 + hi % 3; omega, by show 1 + hi % 3 ≤ 3; omega⟩, fun z => ?_, rfl⟩
  have z : 1 + hi % 3 = hi := congrArg H6.hi z
  omega
theorem put_lag2 {H : Hp} {h : H6} {wa la la' : Addr} (ok : h.ok) (h1 : 1 < h.hi) (hl : H la' = some (.tup [.int (1 + h.lo % h.hi), .int h.hi])) : GoodPut H h wa la "lag" (.ref la') := by
  obtain ⟨ru, ro, to, ma, go, lo, hi⟩ := h
  have l : 1 ≤ lo ∧ lo ≤ hi ∧ hi ≤ 3 := ok.l
  have h1 : 1 < hi := h1
  have d0 := Int.emod_nonneg lo (show hi ≠ 0 by omega)
  have d1 := Int.emod_lt_of_pos lo (show 0 < hi by omega)
  refine ⟨la', ⟨ru, ro, to, ma, go, 1 + lo % hi, hi⟩, by kernel_rfl, hl, ⟨ok.u, ok.r, ok.t, ok.m, by show 1 ≤ 1 + lo % hi; omega, by show 1 + lo % hi ≤ hi; omega, l.2.2⟩, fun z => ?_, rfl⟩
  have z : 1 + lo % hi = lo := congrArg H6.lo z
  by_cases e : lo = hi
  · rw [e, Int.emod_self] at z
    omega
  · rw [Int.emod_eq_of_lt (by omega) (by omega)] at z
    omega
section
variable {P : Program} {w : World} {K : PySem.W.Frag} {mg : Str → Option Value} {base : Heap} {C CH wA pA : Addr}
theorem ok_unlike {f : Addr} {fd : FuncData} (F : Fun K "_law_unlike" "_law_unlike" sUnlike f fd) (md : mg "dict" = none) (mi : mg "int" = none) : FnOk P w K mg base CX0 3 f fd ["home"] spUnlike := by
  refine F.ok scUnlike (fun vs H Q E h => ?_) (fun cdv A outer s H vs Q E hr h => ?_)
  · obtain ⟨p, wa, la, h, rfl, _⟩ := h
    rfl
  · obtain ⟨p, wa, la, h, rfl, x0, ok, k⟩ := h
    have hu := hu_of hr
    have nd := scUnlike.nd
    refine ⟨_, pss_cons (ps_set (i := 1) nd rfl (Or.inl rfl) (pe_lst pa_nil))
      (C8.pss_cut (ps_for PassesOwn.never rfl (pi_list (pe_lst (pa_cons (pe_tup (pa_cons pe_str (pa_cons pe_int (pa_cons pe_int pa_nil)))) (pa_cons (pe_tup (pa_cons pe_str (pa_cons pe_int (pa_cons pe_int pa_nil)))) (pa_cons (pe_tup (pa_cons pe_str (pa_cons pe_int (pa_cons pe_int pa_nil)))) pa_nil)))))
          (pg_tup rfl (pgs_cons (pg_name (i := 2) nd rfl (.inl rfl)) (pgs_cons (pg_name (i := 3) nd rfl (.inl rfl)) (pgs_cons (pg_name (i := 4) nd rfl (.inl rfl)) pgs_nil))))
        (pss_cons (ps_set (i := 5) nd rfl (Or.inl rfl) (pe_callTy call_dictD (by rfl) md boot_dict (pa_cons (pv 0) pa_nil)))
        (pss_cons (ps_dput hu (pv 5) (pv 2) (pe_op op_add (pv 4) (pe_op op_mod (pe_callTy call_int1 (by rfl) mi (by decide +kernel) (pa_cons (pe_op op_add (pe_op op_sub (pe_dget hu (pv 0) (pv 2) (fun _ _ => rfl)) (pv 4)) pe_int) pa_nil)) (pv 3))) rfl)
        (pss_one (ps_expr (pe_bm PySem.F.plainAttrs_list PySem.F.slot_list_append PySem.F.type_list_append mt_append (pv 1) (pa_cons (pv 5) pa_nil)))))))
      (pss_cons (ps_set (i := 6) nd rfl (Or.inl rfl) (pe_dget hu (pv 0) pe_str (fun _ _ => rfl)))
      (pss_cons (ps_set (i := 7) nd rfl (Or.inl rfl) (pe_lst (pa_cons (pe_tup (pa_cons pe_str (pa_cons (pe_not (pe_dget hu (pv 0) pe_str (fun _ _ => rfl))) pa_nil)))
        (pa_cons (pe_tup (pa_cons pe_str (pa_cons (pe_tup (pa_cons pe_int (pa_cons (pe_op op_add pe_int (pe_op op_mod (pe_ix ix_tup (pv 6) pe_int (fun _ _ => rfl)) pe_int)) pa_nil))) pa_nil))) pa_nil))))
      (C8.pss_cut (ps_if (pt_cmpR op_gt (pe_ix ix_tup (pv 6) pe_int (fun _ _ => rfl)) pe_int (nomark _)) (pss_one (ps_expr (pe_bm PySem.F.plainAttrs_list PySem.F.slot_list_append PySem.F.type_list_append mt_append (pv 7)
        (pa_cons (pe_tup (pa_cons pe_str (pa_cons (pe_tup (pa_cons (pe_op op_add pe_int (pe_op op_mod (pe_ix ix_tup (pv 6) pe_int (fun _ _ => rfl)) (pe_ix ix_tup (pv 6) pe_int (fun _ _ => rfl)))) (pa_cons (pe_ix ix_tup (pv 6) pe_int (fun _ _ => rfl)) pa_nil))) pa_nil))) pa_nil)))) pss_nil)
      (C8.pss_cut (ps_for PassesOwn.never rfl (pi_list (pv 7)) (pg_tup rfl (pgs_cons (pg_name (i := 2) nd rfl (.inl rfl)) (pgs_cons (pg_name (i := 8) nd rfl (.inl rfl)) pgs_nil)))
        (pss_cons (ps_set (i := 5) nd rfl (Or.inl rfl) (pe_callTy call_dictD (by rfl) md boot_dict (pa_cons (pv 0) pa_nil)))
        (pss_cons (ps_dput hu (pv 5) (pv 2) (pv 8) rfl)
        (pss_one (ps_expr (pe_bm PySem.F.plainAttrs_list PySem.F.slot_list_append PySem.F.type_list_append mt_append (pv 1) (pa_cons (pv 5) pa_nil)))))))
      (C8.pss_cut (ps_for PassesOwn.never rfl (pi_list (pe_lst (pa_cons (pe_tup (pa_cons pe_str (pa_cons pe_int pa_nil))) (pa_cons (pe_tup (pa_cons pe_str (pa_cons pe_int pa_nil))) (pa_cons (pe_tup (pa_cons pe_str (pa_cons pe_int pa_nil))) (pa_cons (pe_tup (pa_cons pe_str (pa_cons pe_int pa_nil))) (pa_cons (pe_tup (pa_cons pe_str (pa_cons pe_int pa_nil))) pa_nil)))))))
          (pg_tup rfl (pgs_cons (pg_name (i := 2) nd rfl (.inl rfl)) (pgs_cons (pg_name (i := 3) nd rfl (.inl rfl)) pgs_nil)))
        (pss_cons (ps_set (i := 5) nd rfl (Or.inl rfl) (pe_callTy call_dictD (by rfl) md boot_dict (pa_cons (pv 0) pa_nil)))
        (pss_cons (ps_dput hu (pv 5) pe_str (pe_callTy call_dictD (by rfl) md boot_dict (pa_cons (pe_dget hu (pv 0) pe_str (fun _ _ => rfl)) pa_nil)) rfl)
        (pss_cons (ps_set (i := 9) nd rfl (Or.inl rfl) (pe_disp (pps_cons pe_str pe_str (pps_cons pe_str pe_str (pps_cons pe_str pe_str pps_nil))) (by rfl) (by rfl) (fun z => by cases z) (by decide)))
        (C8.pss_cut (ps_dput hu (pe_dget hu (pv 5) pe_str (fun _ _ => rfl)) (pv 2) (pe_ifExp (pt_cmpR op_eq (pv 3) pe_int (nomark _)) (pe_dget hu (pv 9) (pe_dget hu (pe_dget hu (pv 0) pe_str (fun _ _ => rfl)) pe_str (fun _ _ => rfl)) (fun _ _ => rfl))
            (pe_op op_mod (pe_callTy call_int1 (by rfl) mi (by decide +kernel) (pa_cons (pe_op op_add (pe_dget hu (pe_dget hu (pv 0) pe_str (fun _ _ => rfl)) (pv 2) (fun _ _ => rfl)) pe_int) pa_nil)) (pv 3))) rfl)
        (pss_one (ps_expr (pe_bm PySem.F.plainAttrs_list PySem.F.slot_list_append PySem.F.type_list_append mt_append (pv 1) (pa_cons (pv 5) pa_nil)))))))))
      (pss_one (ps_ret (pv 1))))))))), ?_⟩
    -- found
    refine ⟨Nat.zero_le _, fun l nl => ?_⟩
    have x1 := x0.same (same_upd (o := .lst []) nl)
    have s1 : Same H (upd H l (.lst [])) := same_upd nl
    have g1 : GoodL (upd H l (.lst [])) l h 0 := ⟨[], upd_same, Nat.le_refl _, fun o ho => by simp at ho⟩
    revert x1 s1 g1
    generalize upd H l (.lst []) = H1
    intro x1 s1 g1
    -- room, top, many
    refine ⟨fun σ H' => ∃ v2 v3 v4 v5, σ = [some (.ref p), some (.ref l), v2, v3, v4, v5, none, none, none, none] ∧ Same H H' ∧ GoodL H' l h 3, ?_, ?_⟩
    · refine ⟨(by show 3 ≤ sizeLine; decide), fun t1 n1 => ⟨(by show 3 ≤ sizeLine; decide), fun t2 n2 => ⟨(by show 3 ≤ sizeLine; decide), fun t3 n3 => ⟨(by show 3 ≤ sizeLine; decide), fun q nq => ?_⟩⟩⟩⟩
      have tl := ((((Tp.nil H1).more n1).more n2).more n3).list nq
      have sm := (((same_upd n1).trans (same_upd n2)).trans (same_upd n3)).trans (same_upd (o := .lst ([t1, t2, t3].map V.ref)) nq)
      have tl : Tl _ q [t1, t2, t3] [[V.str "room", .int 4, .int 1], [V.str "top", .int 3, .int 0], [V.str "many", .int 2, .int 1]] := tl
      have gl := g1.same sm
      have ql : q ≠ l := fun z => by
        obtain ⟨os, e, _⟩ := g1
        subst z
        rw [((same_upd n1).trans (same_upd n2)).trans (same_upd n3) _ _ e] at nq
        cases nq
      refine ⟨q, rfl, ⟨_, SqL.of tl.l⟩, for_list (K := K) (a := q) (xs := [t1, t2, t3].map V.ref) (fun i σ H' => ∃ v2 v3 v4 v5, σ = [some (.ref p), some (.ref l), v2, v3, v4, v5, none, none, none, none] ∧ Same H H' ∧
          Tl H' q [t1, t2, t3] [[V.str "room", .int 4, .int 1], [V.str "top", .int 3, .int 0], [V.str "many", .int 2, .int 1]] ∧ GoodL H' l h i)
        ⟨_, _, _, _, rfl, s1.trans sm, tl, gl⟩ (fun i σ H' _ ⟨_, _, _, _, _, _, tl, _⟩ => SqL.of tl.l) ?_ (fun σ H' ⟨a1, a2, a3, a4, e, sm, _, g⟩ => ⟨a1, a2, a3, a4, e, sm, g⟩)⟩
      clear tl sm gl nq n3 n2 n1
      rintro i x σ H2 hi ⟨v2, v3, v4, v5, rfl, s2, tl, g⟩
      have hi3 : i < 3 := (List.getElem?_eq_some_iff.mp hi).1
      obtain ⟨t, xs, rfl, hx, ht⟩ := tl.item hi
      obtain ⟨part, sz, le, n, h', rfl, old, z0, new, ok', ne, eru, elo, ehi⟩ := first_item ok wa la hx
      refine ⟨t, _, rfl, SqT.of ht, rfl, _, _, rfl, _, _, rfl, _, _, rfl, rfl, ?_⟩
      have x2 := x0.same s2
      refine ⟨_, rfl, p, _, rfl, .inl x2.d, fun y ny => ?_⟩
      have x3 := x2.same (same_upd (o := .dK (kH wa la h)) ny)
      have s3 := s2.trans (same_upd (o := .dK (kH wa la h)) ny)
      have g3 := g.same (same_upd (o := .dK (kH wa la h)) ny)
      have tl3 := tl.same (same_upd (o := .dK (kH wa la h)) ny)
      have nyH : H y = none := s2.free ny
      refine ⟨_, rfl, _, rfl, _, rfl, p, _, rfl, dg_of x3.d old, _, rfl, _, _, rfl, rfl, _, _, rfl, rfl, .inl ⟨_, rfl, _, rfl, _, _, rfl, rfl, z0, _, _, rfl, rfl, ?_⟩⟩
      refine ⟨_, rfl, _, rfl, y, _, rfl, dp_of upd_same new (kH_len wa la h), ?_⟩
      rw [upd_upd]
      obtain ⟨os, eo, len, gg⟩ := g.same (same_upd (o := .dK (kH wa la h')) ny)
      have x4 := x2.same (same_upd (o := .dK (kH wa la h')) ny)
      have home' : HomeAt (upd H2 y (.dK (kH wa la h'))) y wa la h' := ⟨upd_same, by rw [eru]; exact x4.w, by rw [elo, ehi]; exact x4.l⟩
      refine ⟨_, rfl, .inl ⟨rfl, _, SqL.of eo⟩, _, rfl, l, _, _, rfl, rfl, eo, small1000 (by omega), ?_⟩
      refine ⟨_, _, _, _, rfl, fun b u e => ?_, ⟨?_, fun i t e => ?_⟩, GoodL.add eo len gg home' ok' ne⟩
      · have bl : b ≠ l := fun z => by rw [z] at e; rw [nl] at e; cases e
        rw [upd_ne bl]
        exact (s2.trans (same_upd ny)) b u e
      · rw [upd_ne ql]
        exact same_upd ny _ _ tl.l
      · obtain ⟨xs, e1, e2⟩ := tl.t i t e
        have e3 := same_upd (o := .dK (kH wa la h')) ny _ _ e2
        refine ⟨xs, e1, ?_⟩
        rw [upd_ne (ne_of e3 eo (by intro z; cases z))]
        exact e3
    rintro σ H2 ⟨v2, v3, v4, v5, rfl, s2, g2⟩
    have x2 := x0.same s2
    -- lag_here, put_otherwise
    refine ⟨_, rfl, p, _, rfl, dg_of x2.d (kH_lag wa la h), ?_⟩
    refine ⟨_, rfl, p, _, rfl, dg_of x2.d (kH_goes wa la h), _, rfl, (by show 2 ≤ sizeLine; decide), fun t1 n1 => ?_⟩
    have l1 := same_upd (o := .tup [V.str "goes", .bl (!h.goes)]) n1 _ _ x2.l
    refine ⟨_, rfl, la, _, 1, _, rfl, rfl, SqT.of l1, at_of (j := 1) rfl rfl, _, _, rfl, rfl, (by show (0 : Int) < 3; decide), _, _, rfl, rfl, (by show 2 ≤ sizeLine; decide), fun la1 n2 => ?_⟩
    refine ⟨(by show 2 ≤ sizeLine; decide), fun t2 n3 => ⟨(by show 2 ≤ sizeLine; decide), fun pt n4 => ?_⟩⟩
    have e1 : (upd H2 t1 (.tup [V.str "goes", .bl (!h.goes)])) t1 = some (.tup [V.str "goes", .bl (!h.goes)]) := upd_same
    have e2 : (upd (upd H2 t1 (.tup [V.str "goes", .bl (!h.goes)])) la1 (.tup [V.int 1, .int (1 + h.hi % 3)])) la1 = some (.tup [V.int 1, .int (1 + h.hi % 3)]) := upd_same
    have e3 : (upd (upd (upd H2 t1 (.tup [V.str "goes", .bl (!h.goes)])) la1 (.tup [V.int 1, .int (1 + h.hi % 3)])) t2 (.tup [V.str "lag", .ref la1])) t2 = some (.tup [V.str "lag", .ref la1]) := upd_same
    have e4 : (upd (upd (upd (upd H2 t1 (.tup [V.str "goes", .bl (!h.goes)])) la1 (.tup [V.int 1, .int (1 + h.hi % 3)])) t2 (.tup [V.str "lag", .ref la1])) pt (.lst [V.ref t1, V.ref t2])) pt = some (.lst [V.ref t1, V.ref t2]) := upd_same
    have s4 := ((((same_upd (o := .tup [V.str "goes", .bl (!h.goes)]) n1).trans (same_upd (o := .tup [V.int 1, .int (1 + h.hi % 3)]) n2)).trans (same_upd (o := .tup [V.str "lag", .ref la1]) n3)).trans (same_upd (o := .lst [V.ref t1, V.ref t2]) n4))
    have e1 := same_upd (o := .lst [V.ref t1, V.ref t2]) n4 _ _ (same_upd (o := .tup [V.str "lag", .ref la1]) n3 _ _ (same_upd (o := .tup [V.int 1, .int (1 + h.hi % 3)]) n2 _ _ e1))
    have e2 := same_upd (o := .lst [V.ref t1, V.ref t2]) n4 _ _ (same_upd (o := .tup [V.str "lag", .ref la1]) n3 _ _ e2)
    have e3 := same_upd (o := .lst [V.ref t1, V.ref t2]) n4 _ _ e3
    have ptl : pt ≠ l := fun z => by
      obtain ⟨os, eo, _⟩ := g2
      have eo3 := same_upd (o := .tup [V.str "lag", .ref la1]) n3 _ _ (same_upd (o := .tup [V.int 1, .int (1 + h.hi % 3)]) n2 _ _ (same_upd (o := .tup [V.str "goes", .bl (!h.goes)]) n1 _ _ eo))
      rw [z, eo3] at n4
      cases n4
    have npt : H pt = none := (((s2.trans (same_upd (o := .tup [V.str "goes", .bl (!h.goes)]) n1)).trans (same_upd (o := .tup [V.int 1, .int (1 + h.hi % 3)]) n2)).trans (same_upd (o := .tup [V.str "lag", .ref la1]) n3)).free n4
    clear n1 n2 n3 n4 l1
    revert e1 e2 e3 e4 s4
    generalize upd (upd (upd (upd H2 t1 (.tup [V.str "goes", .bl (!h.goes)])) la1 (.tup [V.int 1, .int (1 + h.hi % 3)])) t2 (.tup [V.str "lag", .ref la1])) pt (.lst [V.ref t1, V.ref t2]) = H4
    intro e4 s4 e1 e2 e3
    have sH4 := s2.trans s4
    have x4 := x0.same sH4
    have g4 := g2.same s4
    have put2 : PutL H4 pt h wa la [t1, t2] := ⟨e4, fun t ht => by
      rcases List.mem_cons.mp ht with rfl | ht
      · exact ⟨_, _, e1, put_goes ok x4.l⟩
      · cases List.mem_singleton.mp ht
        exact ⟨_, _, e3, put_lag1 ok e2⟩⟩
    refine ⟨fun σ H' => σ = [some (.ref p), some (.ref l), v2, v3, v4, v5, some (.ref la), some (.ref pt), none, none] ∧ Same H H' ∧ GoodL H' l h 3 ∧ ∃ ts, ts.length ≤ 3 ∧ PutL H' pt h wa la ts, ?_, ?_⟩
    · refine ⟨_, rfl, la, _, 1, _, rfl, rfl, SqT.of x4.l, at_of (j := 1) rfl rfl, _, _, rfl, rfl, _, rfl, ite2 (fun e => ?_) (fun _ => ⟨rfl, sH4, g4, _, (by show 2 ≤ 3; decide), put2⟩)⟩
      have h1 : 1 < h.hi := of_decide_eq_true e
      refine ⟨_, rfl, .inl ⟨rfl, _, SqL.of e4⟩, _, rfl, la, _, 0, _, rfl, rfl, SqT.of x4.l, at_of (j := 0) rfl rfl, _, rfl, la, _, 1, _, rfl, rfl, SqT.of x4.l, at_of (j := 1) rfl rfl, _, _, rfl, rfl, (by show 0 < h.hi; omega), _, _, rfl, rfl, _, rfl, la, _, 1, _, rfl, rfl, SqT.of x4.l, at_of (j := 1) rfl rfl,
        (by show 2 ≤ sizeLine; decide), fun la2 n5 => ⟨(by show 2 ≤ sizeLine; decide), fun t3 n6 => ?_⟩⟩
      have f1 := same_upd (o := .tup [V.str "lag", .ref la2]) n6 _ _ (upd_same (H := H4) (a := la2) (o := .tup [V.int (1 + h.lo % h.hi), .int h.hi]))
      have f2 : (upd (upd H4 la2 (.tup [V.int (1 + h.lo % h.hi), .int h.hi])) t3 (.tup [V.str "lag", .ref la2])) t3 = some (.tup [V.str "lag", .ref la2]) := upd_same
      have s6 := (same_upd (o := .tup [V.int (1 + h.lo % h.hi), .int h.hi]) n5).trans (same_upd (o := .tup [V.str "lag", .ref la2]) n6)
      refine ⟨pt, _, _, rfl, rfl, s6 _ _ e4, small1000 (by show 2 ≤ 1000; decide), ?_⟩
      clear n5 n6
      revert f1 f2 s6
      generalize upd (upd H4 la2 (.tup [V.int (1 + h.lo % h.hi), .int h.hi])) t3 (.tup [V.str "lag", .ref la2]) = H6
      intro f1 f2 s6
      have e6 := s6 _ _ e4
      have tups : ∀ b xs, H6 b = some (.tup xs) → (upd H6 pt (.lst ([V.ref t1, V.ref t2] ++ [V.ref t3]))) b = some (.tup xs) := fun b xs eb => by
        rw [upd_ne (ne_of eb e6 (by intro z; cases z))]
        exact eb
      refine ⟨rfl, fun b u e => ?_, ?_, [t1, t2, t3], Nat.le_refl _, upd_same, fun t ht => ?_⟩
      · rw [upd_ne (ne_of_none e npt)]
        exact s6 _ _ (sH4 _ _ e)
      · obtain ⟨os, eo, len, gg⟩ := g4.same s6
        refine ⟨os, ?_, len, fun o ho => ?_⟩
        · rw [upd_ne ptl.symm]
          exact eo
        · obtain ⟨p', wa', la', h2', q1, q2, q3, q4⟩ := gg o ho
          exact ⟨p', wa', la', h2', q1, q2.off e6, q3, q4⟩
      · rcases List.mem_cons.mp ht with rfl | ht
        · exact ⟨_, _, tups _ _ (s6 _ _ e1), (put_goes ok x4.l).same fun b xs eb => tups b xs (s6 _ _ eb)⟩
        rcases List.mem_cons.mp ht with rfl | ht
        · exact ⟨_, _, tups _ _ (s6 _ _ e3), (put_lag1 ok e2).same fun b xs eb => tups b xs (s6 _ _ eb)⟩
        · cases List.mem_singleton.mp ht
          exact ⟨_, _, tups _ _ f2, (put_lag2 ok h1 f1).same fun b xs eb => tups b xs eb⟩
    clear e1 e2 e3 e4 s4 put2 g4 x4 sH4
    rintro σ H5 ⟨rfl, s5, g5, ts, lts, put5⟩
    -- goes, lag
    refine ⟨fun σ H' => ∃ v2 v5 v8, σ = [some (.ref p), some (.ref l), v2, v3, v4, v5, some (.ref la), some (.ref pt), v8, none] ∧ Same H H' ∧ GoodL H' l h 6, ?_, ?_⟩
    · refine ⟨_, rfl, pt, rfl, ⟨_, SqL.of put5.1⟩, for_list (K := K) (a := pt) (xs := ts.map V.ref) (fun i σ H' => ∃ v2 v5 v8, σ = [some (.ref p), some (.ref l), v2, v3, v4, v5, some (.ref la), some (.ref pt), v8, none] ∧ Same H H' ∧ GoodL H' l h (3 + i) ∧ PutL H' pt h wa la ts)
        ⟨_, _, _, rfl, s5, g5, put5⟩ (fun i σ H' _ ⟨_, _, _, _, _, _, put⟩ => SqL.of put.1) ?_ ?_⟩
      · rintro i x σ H6 hi ⟨v2, v5, v8, rfl, s6, g6, put6⟩
        have hil : i < (ts.map V.ref).length := (List.getElem?_eq_some_iff.mp hi).1
        rw [List.length_map] at hil
        obtain ⟨t, ht, rfl⟩ : ∃ t, t ∈ ts ∧ x = V.ref t := by
          rw [List.getElem?_map, List.getElem?_eq_getElem hil] at hi
          exact ⟨_, List.getElem_mem hil, (Option.some.inj hi).symm⟩
        obtain ⟨part, v, et, gp⟩ := put6.2 t ht
        refine ⟨t, _, rfl, SqT.of et, rfl, _, _, rfl, _, _, rfl, rfl, ?_⟩
        have x6 := x0.same s6
        refine ⟨_, rfl, p, _, rfl, .inl x6.d, fun y ny => ?_⟩
        obtain ⟨la', h', new, el, ok', ne, eru⟩ := gp
        refine ⟨_, rfl, _, rfl, _, rfl, y, _, rfl, dp_of upd_same new (kH_len wa la h), ?_⟩
        rw [upd_upd]
        obtain ⟨os, eo, len, gg⟩ := g6.same (same_upd (o := .dK (kH wa la' h')) ny)
        have x7 := x6.same (same_upd (o := .dK (kH wa la' h')) ny)
        have home' : HomeAt (upd H6 y (.dK (kH wa la' h'))) y wa la' h' := ⟨upd_same, by rw [eru]; exact x7.w, same_upd ny _ _ el⟩
        refine ⟨_, rfl, .inl ⟨rfl, _, SqL.of eo⟩, _, rfl, l, _, _, rfl, rfl, eo, small1000 (by omega), ?_⟩
        refine ⟨_, _, _, rfl, fun b u e => ?_, GoodL.add eo len gg home' ok' ne, PutL.same put6 (fun b xs eb => ?_) ?_⟩
        · rw [upd_ne (ne_of_none e nl)]
          exact (s6.trans (same_upd ny)) b u e
        · have eb' := same_upd (o := .dK (kH wa la' h')) ny _ _ eb
          rw [upd_ne (ne_of eb' eo (by intro z; cases z))]
          exact eb'
        · rw [upd_ne ptl, upd_ne (ne_of_none put6.1 ny)]
      · rintro σ H6 ⟨v2, v5, v8, rfl, s6, g6, _⟩
        obtain ⟨os, eo, len, gg⟩ := g6
        rw [List.length_map] at len
        exact ⟨v2, v5, v8, rfl, s6, os, eo, by omega, gg⟩
    rintro σ H6 ⟨v2, v5, v8, rfl, s6, g6⟩
    -- the rule's parts
    refine ⟨fun σ H' => ∃ v2 v3 v5 v9, σ = [some (.ref p), some (.ref l), v2, v3, v4, v5, some (.ref la), some (.ref pt), v8, v9] ∧ Same H H' ∧ GoodL H' l h 20, ?_, ?_⟩
    · refine ⟨(by show 2 ≤ sizeLine; decide), fun t1 n1 => ⟨(by show 2 ≤ sizeLine; decide), fun t2 n2 => ⟨(by show 2 ≤ sizeLine; decide), fun t3 n3 => ⟨(by show 2 ≤ sizeLine; decide), fun t4 n4 => ⟨(by show 2 ≤ sizeLine; decide), fun t5 n5 => ⟨(by show 5 ≤ sizeLine; decide), fun q nq => ?_⟩⟩⟩⟩⟩⟩
      have tl := ((((((Tp.nil H6).more n1).more n2).more n3).more n4).more n5).list nq
      have sm := ((((((same_upd n1).trans (same_upd n2)).trans (same_upd n3)).trans (same_upd n4)).trans (same_upd n5)).trans (same_upd (o := .lst ([t1, t2, t3, t4, t5].map V.ref)) nq))
      have tl : Tl _ q [t1, t2, t3, t4, t5] [[V.str "still", .int 4], [V.str "hold", .int 4], [V.str "pins", .int 3], [V.str "guard", .int 4], [V.str "way", .int 0]] := tl
      have ql : q ≠ l := fun z => by
        obtain ⟨os, e, _⟩ := g6
        subst z
        rw [((((same_upd n1).trans (same_upd n2)).trans (same_upd n3)).trans (same_upd n4)).trans (same_upd n5) _ _ e] at nq
        cases nq
      have gl := g6.same sm
      refine ⟨q, rfl, ⟨_, SqL.of tl.l⟩, for_list (K := K) (a := q) (xs := [t1, t2, t3, t4, t5].map V.ref) (fun i σ H' => ∃ v2 v3 v5 v9, σ = [some (.ref p), some (.ref l), v2, v3, v4, v5, some (.ref la), some (.ref pt), v8, v9] ∧ Same H H' ∧
          Tl H' q [t1, t2, t3, t4, t5] [[V.str "still", .int 4], [V.str "hold", .int 4], [V.str "pins", .int 3], [V.str "guard", .int 4], [V.str "way", .int 0]] ∧ GoodL H' l h (6 + i))
        ⟨_, _, _, _, rfl, s6.trans sm, tl, gl⟩ (fun i σ H' _ ⟨_, _, _, _, _, _, tl, _⟩ => SqL.of tl.l) ?_ (fun σ H' ⟨a1, a2, a3, a4, e, sm, _, os, eo, len, gg⟩ => ⟨a1, a2, a3, a4, e, sm, os, eo, by have : os.length ≤ 6 + 5 := len; omega, gg⟩)⟩
      clear tl sm gl nq n5 n4 n3 n2 n1
      rintro i x σ H7 hi ⟨v2, v3, v5, v9, rfl, s7, tl, g7⟩
      have hi5 : i < 5 := (List.getElem?_eq_some_iff.mp hi).1
      obtain ⟨t, xs, rfl, hx, ht⟩ := tl.item hi
      obtain ⟨part, sz, v, v', r', rfl, chg, way⟩ := parts_chg ok.u hx
      refine ⟨t, _, rfl, SqT.of ht, rfl, _, _, rfl, _, _, rfl, rfl, ?_⟩
      have x7 := x0.same s7
      -- other = dict(home)
      refine ⟨_, rfl, p, _, rfl, .inl x7.d, fun y ny => ?_⟩
      have sy := same_upd (o := .dK (kH wa la h)) ny
      have x8 := x7.same sy
      -- dict(home['way'])
      refine ⟨_, rfl, p, _, rfl, dg_of x8.d (kH_way wa la h), wa, _, rfl, .inl x8.w, fun y2 ny2 => ?_⟩
      have hy : (upd (upd H7 y (.dK (kH wa la h))) y2 (.dK (kW h.rule))) y = some (.dK (kH wa la h)) := same_upd ny2 _ _ upd_same
      have yy : y2 ≠ y := fun z => by
        rw [z, upd_same] at ny2
        cases ny2
      refine ⟨_, rfl, y, _, rfl, dp_of hy (show putK (kH wa la h) (.inr "way") (.ref y2) = kH y2 la h by kernel_rfl) (kH_len wa la h), ?_⟩
      -- ways
      intro z nz
      refine ⟨upd_same, kN, rfl, (by show 3 ≤ 15; decide), ?_⟩
      rw [upd_upd, show mergeK [] kN = kN by kernel_rfl]
      have keep : Same H7 (upd (upd (upd (upd H7 y (.dK (kH wa la h))) y2 (.dK (kW h.rule))) y (.dK (kH y2 la h))) z (.dK kN)) := fun b u e => by
        have by_ : b ≠ y := ne_of_none e ny
        have e2 := same_upd (o := .dK (kW h.rule)) ny2 _ _ (sy _ _ e)
        have e3 : (upd (upd (upd H7 y (.dK (kH wa la h))) y2 (.dK (kW h.rule))) y (.dK (kH y2 la h))) b = some u := by rw [upd_ne by_]; exact e2
        exact same_upd nz _ _ e3
      have hy3 : (upd (upd (upd (upd H7 y (.dK (kH wa la h))) y2 (.dK (kW h.rule))) y (.dK (kH y2 la h))) z (.dK kN)) y = some (.dK (kH y2 la h)) := same_upd nz _ _ upd_same
      have hy2 : (upd (upd (upd (upd H7 y (.dK (kH wa la h))) y2 (.dK (kW h.rule))) y (.dK (kH y2 la h))) z (.dK kN)) y2 = some (.dK (kW h.rule)) := same_upd nz _ _ (by rw [upd_ne yy]; exact upd_same)
      have hz : (upd (upd (upd (upd H7 y (.dK (kH wa la h))) y2 (.dK (kW h.rule))) y (.dK (kH y2 la h))) z (.dK kN)) z = some (.dK kN) := upd_same
      have ny2' : H7 y2 = none := sy.free ny2
      clear nz hy ny2 sy x8
      revert keep hy3 hy2 hz
      generalize upd (upd (upd (upd H7 y (.dK (kH wa la h))) y2 (.dK (kW h.rule))) y (.dK (kH y2 la h))) z (.dK kN) = H8
      intro keep hy3 hy2 hz
      have s8 := s7.trans keep
      have x8 := x0.same s8
      have tl8 := tl.same keep
      have g8 := g7.same keep
      have ny2H : H y2 = none := s7.free ny2'
      -- other['way'][piece] = ..
      refine ⟨fun σ H' => σ = [some (.ref p), some (.ref l), some (.str part), some (.int sz), v4, some (.ref y), some (.ref la), some (.ref pt), v8, some (.ref z)] ∧ H' = upd H8 y2 (.dK (kW r')), ?_, ?_⟩
      · refine ⟨_, rfl, rfl, _, rfl, ?_⟩
        have store := dp_of hy2 (kW_put chg.put) (kW_len h.rule)
        rcases way with ⟨rfl, rfl⟩ | ⟨n, z0, z1, rfl, rfl⟩
        · exact iteT ⟨_, rfl, _, rfl, p, _, rfl, dg_of x8.d (kH_way wa la h), wa, _, rfl, dg_of x8.w (kW_way h.rule), z, _, rfl, dg_of hz (kN_val ok.u.w).1, _, rfl, y, _, rfl, dg_of hy3 (kH_way y2 la h), _, rfl, y2, _, rfl, store, rfl, rfl⟩
        · refine ite2 (fun e => absurd (V.int.inj (of_decide_eq_true e)) z0) (fun _ => ?_)
          exact ⟨_, rfl, p, _, rfl, dg_of x8.d (kH_way wa la h), _, rfl, wa, _, rfl, dg_of x8.w chg.old, _, _, rfl, rfl, .inl ⟨_, rfl, _, rfl, _, _, rfl, rfl, z1, _, rfl, y, _, rfl, dg_of hy3 (kH_way y2 la h), _, rfl, y2, _, rfl, store, rfl, rfl⟩⟩
      rintro σ H9 ⟨rfl, rfl⟩
      have keep9 : Same H7 (upd H8 y2 (.dK (kW r'))) := fun b u e => by
        rw [upd_ne (ne_of_none e ny2')]
        exact keep b u e
      have x9 := x0.same (s7.trans keep9)
      have tl9 := tl.same keep9
      obtain ⟨os, eo, len, gg⟩ := g7.same keep9
      obtain ⟨ru, ro, to, ma, go, lo, hi⟩ := h
      have home' : HomeAt (upd H8 y2 (.dK (kW r'))) y y2 la ⟨r', ro, to, ma, go, lo, hi⟩ := ⟨by rw [upd_ne yy.symm]; exact hy3, upd_same, x9.l⟩
      refine ⟨_, rfl, .inl ⟨rfl, _, SqL.of eo⟩, _, rfl, l, _, _, rfl, rfl, eo, small1000 (by omega), ?_⟩
      refine ⟨_, _, _, _, rfl, fun b u e => ?_, ⟨?_, fun i t e => ?_⟩, GoodL.add eo len gg home' ⟨chg.ok, ok.r, ok.t, ok.m, ok.l⟩ (fun z => chg.ne (congrArg (fun a : D3.H6 => a.rule) z))⟩
      · rw [upd_ne (ne_of_none e nl)]
        exact (s7.trans keep9) b u e
      · rw [upd_ne ql]
        exact tl9.l
      · obtain ⟨xs, e1, e2⟩ := tl9.t i t e
        refine ⟨xs, e1, ?_⟩
        rw [upd_ne (ne_of e2 eo (by intro z; cases z))]
        exact e2
    rintro σ H7 ⟨v2, v3, v5, v9, rfl, s7, g7⟩
    exact ⟨_, rfl, k l H7 s7 g7⟩
end
end D3

namespace D3
open PySem PySem.Spec PyProof.Rows L2 Dr Gd Oe
abbrev sLaw : Stmt := topS 33
theorem scLaw : FnScope ["script", "draw", "turn", "home", "made", "twin", "other", "odd"] ["script"] (defScope sLaw) := ⟨rfl, rfl, rfl, by decide +kernel, rfl, by decide +kernel, by decide +kernel⟩
/-- what the top says of other things beside a house -/
structure TL (K : PySem.W.Frag) (CR CH : Addr) : Prop where
  k : TK K CH
  r : PySem.W.kitOne K (.ref CR) (.ref CH) = some false
  f : PySem.W.notFirst K CH (.ref CR) = true
def spLaw (K : PySem.W.Frag) : Sp := fun vs H Q _ => ∃ (a : Addr) (ns : List Int), vs = [.ref a] ∧ SqL K H a (ns.map V.int) ∧ ns.length ≤ 63 ∧ ∀ H', Q (.bl true) H'
section
variable {K : PySem.W.Frag} {mg : Str → Option Value} {CR CH wA pA : Addr}
theorem askH (TR : TR K mg CR wA pA) (T : TH K mg CR CH) (g : Bool → Bool) {H : Hp} {a b : Addr} {h h' : D3.H6} {Q : VK} (ha : HouseAt CR CH H a h) (hb : HouseAt CR CH H b h') (q : Q (.bl (g (decide (h = h')))) H) : rOwn K CH (spHE K CR CH) g (.ref a) (.ref b) H Q :=
  let ⟨dx, ra, la, e, _⟩ := ha
  ⟨a, dx, fH ra la h, .ref CH, rfl, e, T.ty TR hb, nf_own, a, .ref b, h, rfl, ha, .inl ⟨b, h', rfl, hb, _, rfl, q⟩⟩
theorem askHN (g : Bool → Bool) {H : Hp} {a : Addr} {y : V} {t : Value} {h : D3.H6} {Q : VK} (ha : HouseAt CR CH H a h) (ty : TyX K H y t) (nf : PySem.W.notFirst K CH t = true) (kt : PySem.W.kitOne K t (.ref CH) = some false) (q : Q (.bl (g false)) H) : rOwn K CH (spHE K CR CH) g (.ref a) y H Q :=
  let ⟨dx, ra, la, e, _⟩ := ha
  ⟨a, dx, fH ra la h, t, rfl, e, ty, nf, a, y, h, rfl, ha, .inr ⟨t, ty, kt, _, rfl, q⟩⟩
end
section
variable {P : Program} {w : World} {K : PySem.W.Frag} {mg : Str → Option Value} {base : Heap} {C CH wA pA : Addr}
theorem ok_law {f fB fHo fRi fHs fM fS fU fE fEH : Addr} {fd fdB fdHo fdRi fdHs fdM fdS fdU fdE fdEH : FuncData} (F : Fun K "law" "law" sLaw f fd) (TR : TR K mg C wA pA) (T : TH K mg C CH) (X : TL K C CH)
    (GB : FnOk P w K mg base CX0 3 fB fdB ["script"] (spBegin K)) (kB : PySem.W.keepIn K (.ref fB) = true) (bB : L2.Binds K fdB ["script"] []) (gB : mg "_law_begin" = some (.ref fB))
    (GHo : FnOk P w K mg base CX0 7 fHo fdHo ["draw", "space", "peak"] spHome) (kHo : PySem.W.keepIn K (.ref fHo) = true) (bHo : L2.Binds K fdHo ["draw", "space", "peak"] []) (gHo : mg "_law_home" = some (.ref fHo))
    (GRi : FnOk P w K mg base CX0 6 fRi fdRi ["way_here"] (spRight C)) (kRi : PySem.W.keepIn K (.ref fRi) = true) (bRi : L2.Binds K fdRi ["way_here"] []) (gRi : mg "_law_rules_right" = some (.ref fRi))
    (GHs : FnOk P w K mg base CX0 6 fHs fdHs ["home"] (spHouse C CH)) (kHs : PySem.W.keepIn K (.ref fHs) = true) (bHs : L2.Binds K fdHs ["home"] []) (gHs : mg "_law_house" = some (.ref fHs))
    (GM : FnOk P w K mg base CX0 5 fM fdM ["mode"] (spMk C)) (kM : PySem.W.keepIn K (.ref fM) = true) (bM : L2.Binds K fdM ["mode"] []) (gM : mg "_law_rule" = some (.ref fM))
    (GS : FnG P w K mg base 4 fS fdS ["told"] (spShown C CH)) (kS : PySem.W.keepIn K (.ref fS) = true) (bS : L2.Binds K fdS ["told"] []) (gS : mg "_law_shown_of" = some (.ref fS))
    (GU : FnOk P w K mg base CX0 3 fU fdU ["home"] spUnlike) (kU : PySem.W.keepIn K (.ref fU) = true) (bU : L2.Binds K fdU ["home"] []) (gU : mg "_law_unlike" = some (.ref fU))
    (O : OwnEq K C fE) (GE : FnOk P w K mg base CX0 2 fE fdE ["self", "other"] (spRE K C)) (bE : L2.Binds K fdE ["self", "other"] [])
    (OH : OwnEq K CH fEH) (GEH : FnOk P w K mg base CX0 3 fEH fdEH ["self", "other"] (spHE K C CH)) (bEH : L2.Binds K fdEH ["self", "other"] [])
    (p0 : Pr P w K mg base CH "rule" "_rule") (mr : mg "repr" = none) (md : mg "dict" = none) (mg1 : mg "range" = none) (mm : mg "min" = none) : FnG P w K mg base 8 f fd ["script"] (spLaw K) := by
  refine okG F scLaw (fun vs H Q E h => ?_) (fun cdv A outer s H vs Q E gd hr h => ?_)
  · obtain ⟨a, ns, rfl, _⟩ := h
    rfl
  · obtain ⟨a, ns, rfl, hS, hlen, k⟩ := h
    have hu := hu_of hr
    have nd := scLaw.nd
    have hr1 : Room 2 _ := hr.mono (by decide)
    have hr2 : Room 3 _ := hr.mono (by decide)
    have hr3 : Room 4 _ := hr.mono (by decide)
    have hr4 : Room 5 _ := hr.mono (by decide)
    have hr5 : Room 6 _ := hr.mono (by decide)
    refine ⟨_, pss_cons (ps_set (i := 1) nd rfl (Or.inl rfl) (pe_call GB hr2 (by rfl) gB kB bB .nil pass0 (pa_cons (pv 0) pa_nil)))
      (pss_cons (ps_for PassesOwn.never rfl (pi_range1 rfl mg1 (pa_cons (pe_op op_add pe_int (pe_callB (call_min2 rfl) (by rfl) mm (by decide +kernel) (pa_cons (pe_callB call_len_seq (by rfl) T.len PySem.boot_len (pa_cons (pv 0) pa_nil)) (pa_cons pe_int pa_nil)))) pa_nil)) (pg_name (i := 2) nd rfl (.inl rfl))
        (pss_cons (ps_set (i := 3) nd rfl (Or.inl rfl) (pe_call GHo hr (by rfl) gHo kHo bHo .nil pass0 (pa_cons (pv 1) (pa_cons pe_int (pa_cons pe_int pa_nil)))))
        (pss_cons (ps_if (pt_not (pt_val (pe_call GRi hr5 (by rfl) gRi kRi bRi .nil pass0 (pa_cons (pe_dget hu (pv 3) pe_str (fun _ _ => rfl)) pa_nil)))) (pss_one (ps_ret pe_bl)) pss_nil)
        (pss_cons (ps_par (i := 4) (j := 5) rfl nd rfl rfl (by decide) rfl rfl (pa_cons (pe_call GHs hr5 (by rfl) gHs kHs bHs .nil pass0 (pa_cons (pv 3) pa_nil)) (pa_cons (pe_call GHs hr5 (by rfl) gHs kHs bHs .nil pass0 (pa_cons (pe_callTy call_dictD (by rfl) md boot_dict (pa_cons (pv 3) pa_nil)) pa_nil)) pa_nil)) (by rfl))
        (pss_cons (ps_if (PW.pt (pw_or (pt_cmpR (op_neO OH GEH hr3 bEH) (pv 4) (pv 5) (nomark _)) (pw_or (pt_not (pt_cmpR (op_eqO OH GEH hr2 bEH) (pv 4) (pv 5) (nomark _)))
          (pw_or1 (pt_cmpR (op_neO O GE hr2 bE) (pe_pr p0 (pv 4) T.cl hr2 rfl) (pe_call GM hr4 (by rfl) gM kM bM .nil pass0 (pa_cons (pe_dget hu (pv 3) pe_str (fun _ _ => rfl)) pa_nil)) (nomark _)))))) (pss_one (ps_ret pe_bl)) pss_nil)
        (pss_cons (ps_if (pt_cmpR op_ne (pe_callG GS gd hr3 (by rfl) gS kS bS .nil (pa_cons (pv 4) pa_nil)) (pe_callB (call_repr gd (by have := hr.un; show (A.deeper _).units + 66 < cLine; omega)) (by rfl) mr boot_repr (pa_cons (pe_lst (pa_cons (pe_dget hu (pv 3) pe_str (fun _ _ => rfl)) (pa_cons (pe_dget hu (pv 3) pe_str (fun _ _ => rfl)) (pa_cons (pe_dget hu (pv 3) pe_str (fun _ _ => rfl)) (pa_cons (pe_dget hu (pv 3) pe_str (fun _ _ => rfl)) (pa_cons (pe_dget hu (pv 3) pe_str (fun _ _ => rfl)) pa_nil)))))) pa_nil)) (nomark _)) (pss_one (ps_ret pe_bl)) pss_nil)
        (C8.pss_cut (ps_for PassesOwn.never rfl (pi_list (pe_call GU hr2 (by rfl) gU kU bU .nil pass0 (pa_cons (pv 3) pa_nil))) (pg_name (i := 6) nd rfl (.inl rfl))
          (pss_one (ps_if (PW.pt (pw_or (pt_cmpR (op_eqO OH GEH hr2 bEH) (pv 4) (pe_call GHs hr5 (by rfl) gHs kHs bHs .nil pass0 (pa_cons (pv 6) pa_nil)) (nomark _)) (pw_or1 (pt_not (pt_cmpR (op_neO OH GEH hr3 bEH) (pv 4) (pe_call GHs hr5 (by rfl) gHs kHs bHs .nil pass0 (pa_cons (pv 6) pa_nil)) (nomark _)))))) (pss_one (ps_ret pe_bl)) pss_nil)))
        (pss_one (ps_for PassesOwn.never rfl (pi_list (pe_lst (pa_cons pe_non (pa_cons (pv 3) (pa_cons (pe_dget hu (pv 3) pe_str (fun _ _ => rfl)) (pa_cons (pe_pr p0 (pv 4) T.cl hr2 rfl) (pa_cons pe_int (pa_cons pe_str pa_nil)))))))) (pg_name (i := 7) nd rfl (.inl rfl))
          (pss_one (ps_if (PW.pt (pw_or (pt_cmpR (op_eqO OH GEH hr2 bEH) (pv 4) (pv 7) (nomark _)) (pw_or1 (pt_not (pt_cmpR (op_neO OH GEH hr3 bEH) (pv 4) (pv 7) (nomark _)))))) (pss_one (ps_ret pe_bl)) pss_nil)))))))))))
      (pss_one (ps_ret pe_bl))), ?_⟩
    -- draw
    refine ⟨_, rfl, a, ns, rfl, hS, hlen, fun d g c H1 s1 nd1 ng1 nc1 D1 => ?_⟩
    refine ⟨_, rfl, a, _, rfl, .inl (s1.seq hS), _, _, rfl, _, _, rfl, rfl, _, rfl, ?_, ?_, ?_⟩
    · split <;> omega
    · rw [List.length_map]
      split <;> omega
    refine for_range (lo := 0) (fun i σ H' => ∃ v2 v3 v4 v5 v6 v7, σ = [some (.ref a), some (.ref d), v2, v3, v4, v5, v6, v7] ∧ Dw H' d g c) ⟨_, _, _, _, _, _, rfl, D1⟩ ?_ (fun σ H' ⟨v2, v3, v4, v5, v6, v7, e, _⟩ => k H')
    rintro i σ H2 hi ⟨v2, v3, v4, v5, v6, v7, rfl, D2⟩
    -- home
    refine ⟨_, rfl, d, g, c, rfl, D2, fun p wa la h H3 ok np nwa nla x3 D3' fr3 => ?_⟩
    -- the rule
    refine ⟨_, rfl, p, _, rfl, dg_of x3.d (kH_way wa la h), wa, h.rule, rfl, x3.w, ok.u, fun H4 s4 => ⟨true, rfl, ifN ?_⟩⟩
    have x4 := x3.same s4
    -- made, twin
    refine ⟨_, rfl, p, wa, la, h, rfl, x4, ok, fun m H5 nm hm s5 => ?_⟩
    have x5 := x4.same s5
    refine ⟨_, rfl, p, _, rfl, .inl x5.d, fun y ny => ?_⟩
    have sy := same_upd (o := .dK (kH wa la h)) ny
    refine ⟨y, wa, la, h, rfl, ⟨upd_same, (x5.same sy).w, (x5.same sy).l⟩, ok, fun t H6 nt ht s6 => ⟨_, _, rfl, ?_⟩⟩
    have s36 := ((s4.trans s5).trans sy).trans s6
    have x6 := x3.same s36
    have hm6 := (hm.same sy).same s6
    refine ⟨_, rfl, _, rfl, askH TR T not hm6 ht ⟨_, rfl, ite2 (fun e => absurd e (by simp)) (fun _ => ?_)⟩⟩
    refine ⟨_, rfl, _, rfl, askH TR T id hm6 ht ⟨_, rfl, ite2 (fun e => absurd e (by simp)) (fun _ => ?_)⟩⟩
    obtain ⟨dx, ra, la2, hm6', hra6, hla6⟩ := id hm6
    refine ⟨_, rfl, m, dx, _, rfl, hm6', m, dx, _, _, rfl, hm6', fH_rule _ _ _, _, rfl, p, _, rfl, dg_of x6.d (kH_way wa la h), wa, h.rule, rfl, x6.w, ok.u, fun r2 H7 nr2 hr7 s7 => ?_⟩
    refine ask TR not (hra6.same s7) hr7 ⟨_, rfl, ite2 (fun e => absurd e (by simp)) (fun _ => ?_)⟩
    have s37 := s36.trans s7
    -- what it shows
    refine ⟨_, rfl, m, h, rfl, hm6.same s7, ok, fun H8 s8 => ?_⟩
    have s38 := s37.trans s8
    have x8 := x3.same s38
    refine ⟨_, rfl, p, _, rfl, dg_of x8.d (kH_room wa la h), _, rfl, p, _, rfl, dg_of x8.d (kH_top wa la h), _, rfl, p, _, rfl, dg_of x8.d (kH_many wa la h), _, rfl, p, _, rfl, dg_of x8.d (kH_goes wa la h), _, rfl, p, _, rfl, dg_of x8.d (kH_lag wa la h), (by show 5 ≤ sizeLine; decide), fun l nl => ?_⟩
    have sl := same_upd (o := .lst [V.int h.room, V.int h.top, V.int h.many, V.bl h.goes, V.ref la]) nl
    have hla' := sl _ _ x8.l
    obtain ⟨z1, z2⟩ := dH_small ok
    refine ⟨_, dH h, rfl, .lst (SqL.of upd_same) (.cons (.int _) (.cons (.int _) (.cons (.int _) (.cons (.bl _) (.cons (.tup (SqT.of hla') (.cons (.int _) (.cons (.int _) .nil))) .nil))))), z2, by simp [dH, PyData.hasDict, PyData.hasDictAll], by simp [dH, PyData.depth, PyData.depthAll], z1, rfl, _, rfl, ?_⟩
    refine ite2 (fun e => absurd e (by simp [shownH])) (fun _ => ?_)
    have s39 := s38.trans sl
    have hm9 : HouseAt C CH _ m h := ((hm6.same s7).same s8).same sl
    have x9 := x3.same s39
    revert s39 hm9 x9
    generalize upd H8 l (.lst [V.int h.room, V.int h.top, V.int h.many, V.bl h.goes, V.ref la]) = H9
    intro s39 hm9 x9
    -- the unlike ones
    refine ⟨fun σ H' => ∃ v6, σ = [some (.ref a), some (.ref d), some (.int (0 + (i : Int))), some (.ref p), some (.ref m), some (.ref t), v6, v7] ∧ Same H3 H' ∧ HouseAt C CH H' m h, ?_, ?_⟩
    · refine ⟨_, rfl, p, wa, la, h, rfl, x9, ok, fun l2 H10 s10 ⟨os, eo, len, good⟩ => ⟨l2, rfl, ⟨_, SqL.of eo⟩, ?_⟩⟩
      refine for_list (K := K) (a := l2) (xs := os) (fun j σ H' => ∃ v6, σ = [some (.ref a), some (.ref d), some (.int (0 + (i : Int))), some (.ref p), some (.ref m), some (.ref t), v6, v7] ∧ Same H10 H') ⟨_, rfl, Same.refl _⟩
        (fun j σ H' _ ⟨_, _, sm⟩ => SqL.of (sm _ _ eo)) ?_ (fun σ H' ⟨v6, e, sm⟩ => ⟨v6, e, (s39.trans s10).trans sm, (hm9.same s10).same sm⟩)
      rintro j x σ H11 hj ⟨v6, rfl, s11⟩
      obtain ⟨p2, wa2, la2', h2, rfl, x2', ok2, ne2⟩ := good x (List.mem_of_getElem? hj)
      have hm11 := (hm9.same s10).same s11
      refine ⟨_, rfl, _, rfl, p2, wa2, la2', h2, rfl, x2'.same s11, ok2, fun b H12 nb hb s12 => ?_⟩
      refine askH TR T id (hm11.same s12) hb ⟨_, rfl, ite2 (fun e => absurd (of_decide_eq_true e) (fun z : h = h2 => ne2 z.symm)) (fun _ => ?_)⟩
      refine ⟨_, rfl, _, rfl, p2, wa2, la2', h2, rfl, (x2'.same s11).same s12, ok2, fun b2 H13 nb2 hb2 s13 => ?_⟩
      refine askH TR T not ((hm11.same s12).same s13) hb2 ⟨_, rfl, ite2 (fun e => absurd (by simpa using e) (fun z : h = h2 => ne2 z.symm)) (fun _ => ?_)⟩
      exact ⟨_, rfl, (s11.trans s12).trans s13⟩
    rintro σ H10 ⟨v6, rfl, s10, hm10⟩
    -- other things
    have x10 := x3.same s10
    obtain ⟨dx2, ra2, la3, hm10', hra10, hla10⟩ := id hm10
    refine ⟨_, rfl, _, rfl, p, _, rfl, dg_of x10.d (kH_lag wa la h), _, rfl, m, dx2, _, rfl, hm10', m, dx2, _, _, rfl, hm10', fH_rule _ _ _, (by show 6 ≤ sizeLine; decide), fun q nq => ?_⟩
    have sq := same_upd (o := .lst [V.non, V.ref p, V.ref la, V.ref ra2, V.int 0, V.str ""]) nq
    have hq : (upd H10 q (.lst [V.non, V.ref p, V.ref la, V.ref ra2, V.int 0, V.str ""])) q = some (.lst [V.non, V.ref p, V.ref la, V.ref ra2, V.int 0, V.str ""]) := upd_same
    have x11 := x10.same sq
    have hm11 := hm10.same sq
    have hra11 := hra10.same sq
    have D11 := (D3'.same s10).same sq
    revert hq x11 hm11 hra11 D11
    generalize upd H10 q (.lst [V.non, V.ref p, V.ref la, V.ref ra2, V.int 0, V.str ""]) = H11
    intro hq x11 hm11 hra11 D11
    refine ⟨q, rfl, ⟨_, SqL.of hq⟩, for_list (K := K) (a := q) (xs := [V.non, V.ref p, V.ref la, V.ref ra2, V.int 0, V.str ""]) (fun j σ H' => ∃ v7, σ = [some (.ref a), some (.ref d), some (.int (0 + (i : Int))), some (.ref p), some (.ref m), some (.ref t), v6, v7] ∧ H' = H11) ⟨_, rfl, rfl⟩
      (fun j σ H' _ ⟨_, _, e⟩ => e ▸ SqL.of hq) ?_ (fun σ H' ⟨v7, e, z⟩ => ⟨_, _, _, _, _, _, e, z ▸ D11⟩)⟩
    rintro j x σ H' hj ⟨v7, rfl, rfl⟩
    have odd : ∃ ty, TyX K H' x ty ∧ PySem.W.notFirst K CH ty = true ∧ PySem.W.kitOne K ty (.ref CH) = some false := by
      match j, hj with
      | 0, hj => cases Option.some.inj hj; exact ⟨_, .base .non, nf_non, X.k.n⟩
      | 1, hj => cases Option.some.inj hj; exact ⟨_, .base (.dK x11.d), nf_dict, X.k.d⟩
      | 2, hj => cases Option.some.inj hj; exact ⟨_, .base (.tup x11.l), nf_tup, X.k.t⟩
      | 3, hj => cases Option.some.inj hj; exact ⟨_, TR.ty hra11, X.f, X.r⟩
      | 4, hj => cases Option.some.inj hj; exact ⟨_, .base (.int _), nf_int, X.k.i⟩
      | 5, hj => cases Option.some.inj hj; exact ⟨_, .base (.str _), nf_str, X.k.s⟩
      | n + 6, hj => simp at hj
    obtain ⟨ty, h1, h2, h3⟩ := odd
    refine ⟨_, rfl, _, rfl, askHN id hm11 h1 h2 h3 ⟨_, rfl, ite2 (fun e => absurd e (by simp)) (fun _ => ?_)⟩⟩
    refine ⟨_, rfl, _, rfl, askHN not hm11 h1 h2 h3 ⟨_, rfl, ite2 (fun e => absurd e (by simp)) (fun _ => ⟨_, rfl, rfl⟩)⟩⟩
end
end D3

namespace D3
open PySem PySem.Spec PyProof.Rows L2 Dr Gd Oe
theorem scPw : FnScope ["self"] ["self"] (defScope (inClass (topS 13) 1)) := ⟨rfl, rfl, rfl, by decide +kernel, rfl, by decide +kernel, by decide +kernel⟩
theorem scPs : FnScope ["self"] ["self"] (defScope (inClass (topS 13) 2)) := ⟨rfl, rfl, rfl, by decide +kernel, rfl, by decide +kernel, by decide +kernel⟩
theorem scPrule : FnScope ["self"] ["self"] (defScope (inClass (topS 20) 1)) := ⟨rfl, rfl, rfl, by decide +kernel, rfl, by decide +kernel, by decide +kernel⟩
theorem scProom : FnScope ["self"] ["self"] (defScope (inClass (topS 20) 2)) := ⟨rfl, rfl, rfl, by decide +kernel, rfl, by decide +kernel, by decide +kernel⟩
theorem scPtop : FnScope ["self"] ["self"] (defScope (inClass (topS 20) 3)) := ⟨rfl, rfl, rfl, by decide +kernel, rfl, by decide +kernel, by decide +kernel⟩
theorem scPmany : FnScope ["self"] ["self"] (defScope (inClass (topS 20) 4)) := ⟨rfl, rfl, rfl, by decide +kernel, rfl, by decide +kernel, by decide +kernel⟩
theorem scPgoes : FnScope ["self"] ["self"] (defScope (inClass (topS 20) 5)) := ⟨rfl, rfl, rfl, by decide +kernel, rfl, by decide +kernel, by decide +kernel⟩
theorem scPlag : FnScope ["self"] ["self"] (defScope (inClass (topS 20) 6)) := ⟨rfl, rfl, rfl, by decide +kernel, rfl, by decide +kernel, by decide +kernel⟩
theorem kit_self {K : PySem.W.Frag} {t : Value} : PySem.W.kitOne K t t = some true := by
  unfold PySem.W.kitOne
  rw [if_pos (beq_self_eq_true t)]
theorem kit_ref {K : PySem.W.Frag} {C : Addr} {t : Value} {b : Bool} (h1 : PySem.W.isClsIn K C = true) (h2 : PySem.W.typeIn K (.ref C) = some (.type "type")) (h3 : PySem.W.subIn K t (.ref C) = some b) (h4 : (t == Value.ref C) = false) : PySem.W.kitOne K t (.ref C) = some b := by
  have h1' : (PySem.W.clsIn K C).isSome = true := h1
  unfold PySem.W.kitOne
  rw [if_neg (by rw [h4]; decide)]
  show (if ((PySem.W.clsIn K C).isSome && PySem.W.typeIn K (.ref C) == some (.type "type")) = true then PySem.W.subIn K t (.ref C) else none) = some b
  rw [h1', h2, if_pos (by rfl)]
  exact h3
/-- what the top has left (each fact by k_is), the law's own promise -/
theorem all_mk {l : PySem.W.OpenLaw} {w : World} {K : PySem.W.Frag} {h : Heap} {mg : Str → Option Value} {fa CR CH wA pA fIsn fNum fOne fLag fBeg fBle fTak fPic fWay fMkr fHom fHou fSho fRig fUnl fLaw fRI fRW fRE fHI fHE pPw fPw pPs fPs pPrule fPrule pProom fProom pPtop fPtop pPmany fPmany pPgoes fPgoes pPlag fPlag : Addr}
    {ocIsn kVIsn dcIsn pmIsn cdIsn ctIsn ocNum kVNum dcNum pmNum cdNum ctNum ocOne kVOne dcOne pmOne cdOne ctOne ocLag kVLag dcLag pmLag cdLag ctLag ocBeg kVBeg dcBeg pmBeg cdBeg ctBeg ocBle kVBle dcBle pmBle cdBle ctBle ocTak kVTak dcTak pmTak cdTak ctTak ocPic kVPic dcPic pmPic cdPic ctPic ocWay kVWay dcWay pmWay cdWay ctWay ocMkr kVMkr dcMkr pmMkr cdMkr ctMkr ocHom kVHom dcHom pmHom cdHom ctHom ocHou kVHou dcHou pmHou cdHou ctHou ocSho kVSho dcSho pmSho cdSho ctSho ocRig kVRig dcRig pmRig cdRig ctRig ocUnl kVUnl dcUnl pmUnl cdUnl ctUnl ocLaw kVLaw dcLaw pmLaw cdLaw ctLaw ocRI kVRI dcRI pmRI cdRI ctRI ocRW kVRW dcRW pmRW cdRW ctRW ocRE kVRE dcRE pmRE cdRE ctRE ocHI kVHI dcHI pmHI cdHI ctHI ocHE kVHE dcHE pmHE cdHE ctHE ocPw kVPw dcPw pmPw cdPw ctPw ocPs kVPs dcPs pmPs cdPs ctPs ocPrule kVPrule dcPrule pmPrule cdPrule ctPrule ocProom kVProom dcProom pmProom cdProom ctProom ocPtop kVPtop dcPtop pmPtop cdPtop ctPtop ocPmany kVPmany dcPmany pmPmany cdPmany ctPmany ocPgoes kVPgoes dcPgoes pmPgoes cdPgoes ctPgoes ocPlag kVPlag dcPlag pmPlag cdPlag ctPlag : Value}
    {odIsn anIsn odNum anNum odOne anOne odLag anLag odBeg anBeg odBle anBle odTak anTak odPic anPic odWay anWay odMkr anMkr odHom anHom odHou anHou odSho anSho odRig anRig odUnl anUnl odLaw anLaw odRI anRI odRW anRW odRE anRE odHI anHI odHE anHE odPw anPw odPs anPs odPrule anPrule odProom anProom odPtop anPtop odPmany anPmany odPgoes anPgoes odPlag anPlag odW odP : Option Addr} {slIsn slNum slOne slLag slBeg slBle slTak slPic slWay slMkr slHom slHou slSho slRig slUnl slLaw slRI slRW slRE slHI slHE slPw slPs slPrule slProom slPtop slPmany slPgoes slPlag slW slP : Array (Option Value)} {rePw rePs rePrule reProom rePtop rePmany rePgoes rePlag : List Value} {u1 u2 u3 v1 v2 v3 v4 v5 w0 w1 w2 w3 w4 w5 : Tok} {nW nP : Nat}
    (X : K.In h) (G : h.Ns mainGlobals mg) (hfa : mg "law" = some (.ref fa))
    (aIsn : PySem.W.nsIn K mainGlobals "is_number" = some (some (.ref fIsn)))
    (lIsn : K.lookup fIsn = some ⟨ocIsn, odIsn, .func (PySem.W.fnOf "is_number" "is_number" (defArgs sIsn) (defBody sIsn) (defScope sIsn) .none kVIsn dcIsn pmIsn anIsn cdIsn ctIsn), slIsn⟩)
    (cIsn : PySem.W.codeIn K cdIsn "is_number" = true)
    (kIsn : PySem.W.keepIn K (.ref fIsn) = true)
    (aNum : PySem.W.nsIn K mainGlobals "is_number_within" = some (some (.ref fNum)))
    (lNum : K.lookup fNum = some ⟨ocNum, odNum, .func (PySem.W.fnOf "is_number_within" "is_number_within" (defArgs sNum) (defBody sNum) (defScope sNum) .none kVNum dcNum pmNum anNum cdNum ctNum), slNum⟩)
    (cNum : PySem.W.codeIn K cdNum "is_number_within" = true)
    (kNum : PySem.W.keepIn K (.ref fNum) = true)
    (aOne : PySem.W.nsIn K mainGlobals "is_one_of" = some (some (.ref fOne)))
    (lOne : K.lookup fOne = some ⟨ocOne, odOne, .func (PySem.W.fnOf "is_one_of" "is_one_of" (defArgs sOne) (defBody sOne) (defScope sOne) .none kVOne dcOne pmOne anOne cdOne ctOne), slOne⟩)
    (cOne : PySem.W.codeIn K cdOne "is_one_of" = true)
    (kOne : PySem.W.keepIn K (.ref fOne) = true)
    (aLag : PySem.W.nsIn K mainGlobals "is_lag" = some (some (.ref fLag)))
    (lLag : K.lookup fLag = some ⟨ocLag, odLag, .func (PySem.W.fnOf "is_lag" "is_lag" (defArgs sLag) (defBody sLag) (defScope sLag) .none kVLag dcLag pmLag anLag cdLag ctLag), slLag⟩)
    (cLag : PySem.W.codeIn K cdLag "is_lag" = true)
    (kLag : PySem.W.keepIn K (.ref fLag) = true)
    (aBeg : PySem.W.nsIn K mainGlobals "_law_begin" = some (some (.ref fBeg)))
    (lBeg : K.lookup fBeg = some ⟨ocBeg, odBeg, .func (PySem.W.fnOf "_law_begin" "_law_begin" (defArgs sBegin) (defBody sBegin) (defScope sBegin) .none kVBeg dcBeg pmBeg anBeg cdBeg ctBeg), slBeg⟩)
    (cBeg : PySem.W.codeIn K cdBeg "_law_begin" = true)
    (kBeg : PySem.W.keepIn K (.ref fBeg) = true)
    (aBle : PySem.W.nsIn K mainGlobals "_law_blend" = some (some (.ref fBle)))
    (lBle : K.lookup fBle = some ⟨ocBle, odBle, .func (PySem.W.fnOf "_law_blend" "_law_blend" (defArgs sBlend) (defBody sBlend) (defScope sBlend) .none kVBle dcBle pmBle anBle cdBle ctBle), slBle⟩)
    (cBle : PySem.W.codeIn K cdBle "_law_blend" = true)
    (kBle : PySem.W.keepIn K (.ref fBle) = true)
    (aTak : PySem.W.nsIn K mainGlobals "_law_take" = some (some (.ref fTak)))
    (lTak : K.lookup fTak = some ⟨ocTak, odTak, .func (PySem.W.fnOf "_law_take" "_law_take" (defArgs sTake) (defBody sTake) (defScope sTake) .none kVTak dcTak pmTak anTak cdTak ctTak), slTak⟩)
    (cTak : PySem.W.codeIn K cdTak "_law_take" = true)
    (kTak : PySem.W.keepIn K (.ref fTak) = true)
    (aPic : PySem.W.nsIn K mainGlobals "_law_pick" = some (some (.ref fPic)))
    (lPic : K.lookup fPic = some ⟨ocPic, odPic, .func (PySem.W.fnOf "_law_pick" "_law_pick" (defArgs sPick) (defBody sPick) (defScope sPick) .none kVPic dcPic pmPic anPic cdPic ctPic), slPic⟩)
    (cPic : PySem.W.codeIn K cdPic "_law_pick" = true)
    (kPic : PySem.W.keepIn K (.ref fPic) = true)
    (aWay : PySem.W.nsIn K mainGlobals "_law_way" = some (some (.ref fWay)))
    (lWay : K.lookup fWay = some ⟨ocWay, odWay, .func (PySem.W.fnOf "_law_way" "_law_way" (defArgs sWay) (defBody sWay) (defScope sWay) .none kVWay dcWay pmWay anWay cdWay ctWay), slWay⟩)
    (cWay : PySem.W.codeIn K cdWay "_law_way" = true)
    (kWay : PySem.W.keepIn K (.ref fWay) = true)
    (aMkr : PySem.W.nsIn K mainGlobals "_law_rule" = some (some (.ref fMkr)))
    (lMkr : K.lookup fMkr = some ⟨ocMkr, odMkr, .func (PySem.W.fnOf "_law_rule" "_law_rule" (defArgs sMk) (defBody sMk) (defScope sMk) .none kVMkr dcMkr pmMkr anMkr cdMkr ctMkr), slMkr⟩)
    (cMkr : PySem.W.codeIn K cdMkr "_law_rule" = true)
    (kMkr : PySem.W.keepIn K (.ref fMkr) = true)
    (aHom : PySem.W.nsIn K mainGlobals "_law_home" = some (some (.ref fHom)))
    (lHom : K.lookup fHom = some ⟨ocHom, odHom, .func (PySem.W.fnOf "_law_home" "_law_home" (defArgs sHome) (defBody sHome) (defScope sHome) .none kVHom dcHom pmHom anHom cdHom ctHom), slHom⟩)
    (cHom : PySem.W.codeIn K cdHom "_law_home" = true)
    (kHom : PySem.W.keepIn K (.ref fHom) = true)
    (aHou : PySem.W.nsIn K mainGlobals "_law_house" = some (some (.ref fHou)))
    (lHou : K.lookup fHou = some ⟨ocHou, odHou, .func (PySem.W.fnOf "_law_house" "_law_house" (defArgs sHouse) (defBody sHouse) (defScope sHouse) .none kVHou dcHou pmHou anHou cdHou ctHou), slHou⟩)
    (cHou : PySem.W.codeIn K cdHou "_law_house" = true)
    (kHou : PySem.W.keepIn K (.ref fHou) = true)
    (aSho : PySem.W.nsIn K mainGlobals "_law_shown_of" = some (some (.ref fSho)))
    (lSho : K.lookup fSho = some ⟨ocSho, odSho, .func (PySem.W.fnOf "_law_shown_of" "_law_shown_of" (defArgs sShown) (defBody sShown) (defScope sShown) .none kVSho dcSho pmSho anSho cdSho ctSho), slSho⟩)
    (cSho : PySem.W.codeIn K cdSho "_law_shown_of" = true)
    (kSho : PySem.W.keepIn K (.ref fSho) = true)
    (aRig : PySem.W.nsIn K mainGlobals "_law_rules_right" = some (some (.ref fRig)))
    (lRig : K.lookup fRig = some ⟨ocRig, odRig, .func (PySem.W.fnOf "_law_rules_right" "_law_rules_right" (defArgs sRight) (defBody sRight) (defScope sRight) .none kVRig dcRig pmRig anRig cdRig ctRig), slRig⟩)
    (cRig : PySem.W.codeIn K cdRig "_law_rules_right" = true)
    (kRig : PySem.W.keepIn K (.ref fRig) = true)
    (aUnl : PySem.W.nsIn K mainGlobals "_law_unlike" = some (some (.ref fUnl)))
    (lUnl : K.lookup fUnl = some ⟨ocUnl, odUnl, .func (PySem.W.fnOf "_law_unlike" "_law_unlike" (defArgs sUnlike) (defBody sUnlike) (defScope sUnlike) .none kVUnl dcUnl pmUnl anUnl cdUnl ctUnl), slUnl⟩)
    (cUnl : PySem.W.codeIn K cdUnl "_law_unlike" = true)
    (kUnl : PySem.W.keepIn K (.ref fUnl) = true)
    (aLaw : PySem.W.nsIn K mainGlobals "law" = some (some (.ref fLaw)))
    (lLaw : K.lookup fLaw = some ⟨ocLaw, odLaw, .func (PySem.W.fnOf "law" "law" (defArgs sLaw) (defBody sLaw) (defScope sLaw) .none kVLaw dcLaw pmLaw anLaw cdLaw ctLaw), slLaw⟩)
    (cLaw : PySem.W.codeIn K cdLaw "law" = true)
    (kLaw : PySem.W.keepIn K (.ref fLaw) = true)
    (aRI : PySem.W.findIn K (.ref CR) "__init__" = some (some (.ref fRI)))
    (iRI : PySem.W.isFn K (.ref fRI) = true)
    (lRI : K.lookup fRI = some ⟨ocRI, odRI, .func (PySem.W.fnOf "__init__" "Rule.__init__" (defArgs sRI) (defBody sRI) (defScope sRI) .none kVRI dcRI pmRI anRI cdRI ctRI), slRI⟩)
    (cRI : PySem.W.codeIn K cdRI "Rule.__init__" = true)
    (kRI : PySem.W.keepIn K (.ref fRI) = true)
    (aRW : PySem.W.findIn K (.ref CR) "with_part" = some (some (.ref fRW)))
    (iRW : PySem.W.isFn K (.ref fRW) = true)
    (lRW : K.lookup fRW = some ⟨ocRW, odRW, .func (PySem.W.fnOf "with_part" "Rule.with_part" (defArgs sRW) (defBody sRW) (defScope sRW) .none kVRW dcRW pmRW anRW cdRW ctRW), slRW⟩)
    (cRW : PySem.W.codeIn K cdRW "Rule.with_part" = true)
    (kRW : PySem.W.keepIn K (.ref fRW) = true)
    (aRE : PySem.W.findIn K (.ref CR) "__eq__" = some (some (.ref fRE)))
    (iRE : PySem.W.isFn K (.ref fRE) = true)
    (lRE : K.lookup fRE = some ⟨ocRE, odRE, .func (PySem.W.fnOf "__eq__" "Rule.__eq__" (defArgs sRE) (defBody sRE) (defScope sRE) .none kVRE dcRE pmRE anRE cdRE ctRE), slRE⟩)
    (cRE : PySem.W.codeIn K cdRE "Rule.__eq__" = true)
    (kRE : PySem.W.keepIn K (.ref fRE) = true)
    (aHI : PySem.W.findIn K (.ref CH) "__init__" = some (some (.ref fHI)))
    (iHI : PySem.W.isFn K (.ref fHI) = true)
    (lHI : K.lookup fHI = some ⟨ocHI, odHI, .func (PySem.W.fnOf "__init__" "House.__init__" (defArgs sHI) (defBody sHI) (defScope sHI) .none kVHI dcHI pmHI anHI cdHI ctHI), slHI⟩)
    (cHI : PySem.W.codeIn K cdHI "House.__init__" = true)
    (kHI : PySem.W.keepIn K (.ref fHI) = true)
    (aHE : PySem.W.findIn K (.ref CH) "__eq__" = some (some (.ref fHE)))
    (iHE : PySem.W.isFn K (.ref fHE) = true)
    (lHE : K.lookup fHE = some ⟨ocHE, odHE, .func (PySem.W.fnOf "__eq__" "House.__eq__" (defArgs sHE) (defBody sHE) (defScope sHE) .none kVHE dcHE pmHE anHE cdHE ctHE), slHE⟩)
    (cHE : PySem.W.codeIn K cdHE "House.__eq__" = true)
    (kHE : PySem.W.keepIn K (.ref fHE) = true)
    (aPw : PySem.W.findIn K (.ref CR) "way" = some (some (.ref pPw)))
    (gPw : PySem.W.specialIn K (.ref pPw) "__get__" = some (some (.builtin "property.__get__")))
    (tPw : PySem.W.takesIn K (.ref pPw) = some true)
    (rPw : PySem.W.recIn K pPw "property" = some (.ref fPw :: rePw))
    (lPw : K.lookup fPw = some ⟨ocPw, odPw, .func (PySem.W.fnOf "way" "Rule.way" (defArgs (inClass (topS 13) 1)) (defBody (inClass (topS 13) 1)) (defScope (inClass (topS 13) 1)) .none kVPw dcPw pmPw anPw cdPw ctPw), slPw⟩)
    (cPw : PySem.W.codeIn K cdPw "Rule.way" = true)
    (kPw : PySem.W.keepIn K (.ref fPw) = true)
    (aPs : PySem.W.findIn K (.ref CR) "still" = some (some (.ref pPs)))
    (gPs : PySem.W.specialIn K (.ref pPs) "__get__" = some (some (.builtin "property.__get__")))
    (tPs : PySem.W.takesIn K (.ref pPs) = some true)
    (rPs : PySem.W.recIn K pPs "property" = some (.ref fPs :: rePs))
    (lPs : K.lookup fPs = some ⟨ocPs, odPs, .func (PySem.W.fnOf "still" "Rule.still" (defArgs (inClass (topS 13) 2)) (defBody (inClass (topS 13) 2)) (defScope (inClass (topS 13) 2)) .none kVPs dcPs pmPs anPs cdPs ctPs), slPs⟩)
    (cPs : PySem.W.codeIn K cdPs "Rule.still" = true)
    (kPs : PySem.W.keepIn K (.ref fPs) = true)
    (aPrule : PySem.W.findIn K (.ref CH) "rule" = some (some (.ref pPrule)))
    (gPrule : PySem.W.specialIn K (.ref pPrule) "__get__" = some (some (.builtin "property.__get__")))
    (tPrule : PySem.W.takesIn K (.ref pPrule) = some true)
    (rPrule : PySem.W.recIn K pPrule "property" = some (.ref fPrule :: rePrule))
    (lPrule : K.lookup fPrule = some ⟨ocPrule, odPrule, .func (PySem.W.fnOf "rule" "House.rule" (defArgs (inClass (topS 20) 1)) (defBody (inClass (topS 20) 1)) (defScope (inClass (topS 20) 1)) .none kVPrule dcPrule pmPrule anPrule cdPrule ctPrule), slPrule⟩)
    (cPrule : PySem.W.codeIn K cdPrule "House.rule" = true)
    (kPrule : PySem.W.keepIn K (.ref fPrule) = true)
    (aProom : PySem.W.findIn K (.ref CH) "room" = some (some (.ref pProom)))
    (gProom : PySem.W.specialIn K (.ref pProom) "__get__" = some (some (.builtin "property.__get__")))
    (tProom : PySem.W.takesIn K (.ref pProom) = some true)
    (rProom : PySem.W.recIn K pProom "property" = some (.ref fProom :: reProom))
    (lProom : K.lookup fProom = some ⟨ocProom, odProom, .func (PySem.W.fnOf "room" "House.room" (defArgs (inClass (topS 20) 2)) (defBody (inClass (topS 20) 2)) (defScope (inClass (topS 20) 2)) .none kVProom dcProom pmProom anProom cdProom ctProom), slProom⟩)
    (cProom : PySem.W.codeIn K cdProom "House.room" = true)
    (kProom : PySem.W.keepIn K (.ref fProom) = true)
    (aPtop : PySem.W.findIn K (.ref CH) "top" = some (some (.ref pPtop)))
    (gPtop : PySem.W.specialIn K (.ref pPtop) "__get__" = some (some (.builtin "property.__get__")))
    (tPtop : PySem.W.takesIn K (.ref pPtop) = some true)
    (rPtop : PySem.W.recIn K pPtop "property" = some (.ref fPtop :: rePtop))
    (lPtop : K.lookup fPtop = some ⟨ocPtop, odPtop, .func (PySem.W.fnOf "top" "House.top" (defArgs (inClass (topS 20) 3)) (defBody (inClass (topS 20) 3)) (defScope (inClass (topS 20) 3)) .none kVPtop dcPtop pmPtop anPtop cdPtop ctPtop), slPtop⟩)
    (cPtop : PySem.W.codeIn K cdPtop "House.top" = true)
    (kPtop : PySem.W.keepIn K (.ref fPtop) = true)
    (aPmany : PySem.W.findIn K (.ref CH) "many" = some (some (.ref pPmany)))
    (gPmany : PySem.W.specialIn K (.ref pPmany) "__get__" = some (some (.builtin "property.__get__")))
    (tPmany : PySem.W.takesIn K (.ref pPmany) = some true)
    (rPmany : PySem.W.recIn K pPmany "property" = some (.ref fPmany :: rePmany))
    (lPmany : K.lookup fPmany = some ⟨ocPmany, odPmany, .func (PySem.W.fnOf "many" "House.many" (defArgs (inClass (topS 20) 4)) (defBody (inClass (topS 20) 4)) (defScope (inClass (topS 20) 4)) .none kVPmany dcPmany pmPmany anPmany cdPmany ctPmany), slPmany⟩)
    (cPmany : PySem.W.codeIn K cdPmany "House.many" = true)
    (kPmany : PySem.W.keepIn K (.ref fPmany) = true)
    (aPgoes : PySem.W.findIn K (.ref CH) "goes" = some (some (.ref pPgoes)))
    (gPgoes : PySem.W.specialIn K (.ref pPgoes) "__get__" = some (some (.builtin "property.__get__")))
    (tPgoes : PySem.W.takesIn K (.ref pPgoes) = some true)
    (rPgoes : PySem.W.recIn K pPgoes "property" = some (.ref fPgoes :: rePgoes))
    (lPgoes : K.lookup fPgoes = some ⟨ocPgoes, odPgoes, .func (PySem.W.fnOf "goes" "House.goes" (defArgs (inClass (topS 20) 5)) (defBody (inClass (topS 20) 5)) (defScope (inClass (topS 20) 5)) .none kVPgoes dcPgoes pmPgoes anPgoes cdPgoes ctPgoes), slPgoes⟩)
    (cPgoes : PySem.W.codeIn K cdPgoes "House.goes" = true)
    (kPgoes : PySem.W.keepIn K (.ref fPgoes) = true)
    (aPlag : PySem.W.findIn K (.ref CH) "lag" = some (some (.ref pPlag)))
    (gPlag : PySem.W.specialIn K (.ref pPlag) "__get__" = some (some (.builtin "property.__get__")))
    (tPlag : PySem.W.takesIn K (.ref pPlag) = some true)
    (rPlag : PySem.W.recIn K pPlag "property" = some (.ref fPlag :: rePlag))
    (lPlag : K.lookup fPlag = some ⟨ocPlag, odPlag, .func (PySem.W.fnOf "lag" "House.lag" (defArgs (inClass (topS 20) 6)) (defBody (inClass (topS 20) 6)) (defScope (inClass (topS 20) 6)) .none kVPlag dcPlag pmPlag anPlag cdPlag ctPlag), slPlag⟩)
    (cPlag : PySem.W.codeIn K cdPlag "House.lag" = true)
    (kPlag : PySem.W.keepIn K (.ref fPlag) = true)
    (aCR : PySem.W.nsIn K mainGlobals "Rule" = some (some (.ref CR)))
    (pgCR : PySem.W.plainGet K CR Str.empty = true)
    (hdCR : PySem.W.hasDictIn K CR = true)
    (poCR : PySem.W.plainOver K CR = true)
    (saCR : PySem.W.findIn K (.ref CR) "__setattr__" = some (some (.builtin "object.__setattr__")))
    (mkCR : PySem.W.makesIn K CR = true)
    (kpCR : PySem.W.keepIn K (.ref CR) = true)
    (n1CR : PySem.W.findIn K (.ref CR) "_way" = some none)
    (n2CR : PySem.W.findIn K (.ref CR) "_still" = some none)
    (n3CR : PySem.W.findIn K (.ref CR) "_hold" = some none)
    (n4CR : PySem.W.findIn K (.ref CR) "_pins" = some none)
    (n5CR : PySem.W.findIn K (.ref CR) "_guard" = some none)
    (haCR : PySem.W.findIn K (.ref CR) "__class__" = some (some (.builtin "object.__class__")))
    (hmCR : PySem.W.mroIn K CR (.type "object") = some true)
    (icCR : PySem.W.isClsIn K CR = true)
    (tcCR : PySem.W.typeIn K (.ref CR) = some (.type "type"))
    (neCR : PySem.W.findIn K (.ref CR) "__ne__" = some (some (.builtin "object.__ne__")))
    (aCH : PySem.W.nsIn K mainGlobals "House" = some (some (.ref CH)))
    (pgCH : PySem.W.plainGet K CH Str.empty = true)
    (hdCH : PySem.W.hasDictIn K CH = true)
    (poCH : PySem.W.plainOver K CH = true)
    (saCH : PySem.W.findIn K (.ref CH) "__setattr__" = some (some (.builtin "object.__setattr__")))
    (mkCH : PySem.W.makesIn K CH = true)
    (kpCH : PySem.W.keepIn K (.ref CH) = true)
    (n1CH : PySem.W.findIn K (.ref CH) "_rule" = some none)
    (n2CH : PySem.W.findIn K (.ref CH) "_room" = some none)
    (n3CH : PySem.W.findIn K (.ref CH) "_top" = some none)
    (n4CH : PySem.W.findIn K (.ref CH) "_many" = some none)
    (n5CH : PySem.W.findIn K (.ref CH) "_goes" = some none)
    (n6CH : PySem.W.findIn K (.ref CH) "_lag" = some none)
    (haCH : PySem.W.findIn K (.ref CH) "__class__" = some (some (.builtin "object.__class__")))
    (hmCH : PySem.W.mroIn K CH (.type "object") = some true)
    (icCH : PySem.W.isClsIn K CH = true)
    (tcCH : PySem.W.typeIn K (.ref CH) = some (.type "type"))
    (neCH : PySem.W.findIn K (.ref CH) "__ne__" = some (some (.builtin "object.__ne__")))
    (hn : PySem.W.specialIn K (.builtin "object.__class__") "__get__" = some (some (.builtin "getset_descriptor.__get__")))
    (ht : PySem.W.takesIn K (.builtin "object.__class__") = some true)
    (sRH : PySem.W.subIn K (.ref CR) (.ref CH) = some false)
    (sRR : PySem.W.subIn K (.ref CR) (.ref CR) = some true)
    (nRH : PySem.W.notFirst K CH (.ref CR) = true)
    (aW : PySem.W.nsIn K mainGlobals "WAYS" = some (some (.ref wA)))
    (lW : K.lookup wA = some ⟨.type "tuple", odW, .seq #[.str "end" u1, .str "front" u2, .str "rank" u3] nW, slW⟩)
    (aP : PySem.W.nsIn K mainGlobals "PARTS" = some (some (.ref pA)))
    (lP : K.lookup pA = some ⟨.type "tuple", odP, .seq #[.str "way" v1, .str "still" v2, .str "hold" v3, .str "pins" v4, .str "guard" v5] nP, slP⟩)
    (m0 : PySem.W.nsIn K mainGlobals "MOST_TICKS" = some (some (.int 3 w0)))
    (m1 : PySem.W.nsIn K mainGlobals "MOST_PINS" = some (some (.int 2 w1)))
    (m2 : PySem.W.nsIn K mainGlobals "MOST_ROOM" = some (some (.int 4 w2)))
    (m3 : PySem.W.nsIn K mainGlobals "GREATEST_RANK" = some (some (.int 2 w3)))
    (m4 : PySem.W.nsIn K mainGlobals "MOST_WAITING" = some (some (.int 2 w4)))
    (m5 : PySem.W.nsIn K mainGlobals "GREATEST_LAG" = some (some (.int 3 w5)))
    (z_isinstance : PySem.W.nsIn K mainGlobals "isinstance" = some none)
    (z_int : PySem.W.nsIn K mainGlobals "int" = some none)
    (z_bool : PySem.W.nsIn K mainGlobals "bool" = some none)
    (z_str : PySem.W.nsIn K mainGlobals "str" = some none)
    (z_tuple : PySem.W.nsIn K mainGlobals "tuple" = some none)
    (z_len : PySem.W.nsIn K mainGlobals "len" = some none)
    (z_repr : PySem.W.nsIn K mainGlobals "repr" = some none)
    (z_dict : PySem.W.nsIn K mainGlobals "dict" = some none)
    (z_range : PySem.W.nsIn K mainGlobals "range" = some none)
    (z_min : PySem.W.nsIn K mainGlobals "min" = some none)
    (z_abs : PySem.W.nsIn K mainGlobals "abs" = some none) :
    ∃ fd : FuncData, (∀ (s : Shared) (v : Value), BindsTo s fd ⟨[v], []⟩ [("script", v)]) ∧ ∀ base : Heap, K.In base → base.Ns mainGlobals mg → FnG l.prog w K mg base 8 fa fd ["script"] (spLaw K) := by
  have e := hfa.symm.trans (PySem.W.mg_of X G aLaw)
  cases e
  have FIsn := fun_mk (st := sIsn) lIsn cIsn kIsn
  have bIsn := FIsn.binds (ps := ["value"]) fun _ _ _ _ _ _ us hl => match us, hl with | [_], _ => rfl
  have FNum := fun_mk (st := sNum) lNum cNum kNum
  have bNum := FNum.binds (ps := ["value", "least", "most"]) fun _ _ _ _ _ _ us hl => match us, hl with | [_, _, _], _ => rfl
  have FOne := fun_mk (st := sOne) lOne cOne kOne
  have bOne := FOne.binds (ps := ["value", "texts"]) fun _ _ _ _ _ _ us hl => match us, hl with | [_, _], _ => rfl
  have FLag := fun_mk (st := sLag) lLag cLag kLag
  have bLag := FLag.binds (ps := ["value"]) fun _ _ _ _ _ _ us hl => match us, hl with | [_], _ => rfl
  have FBeg := fun_mk (st := sBegin) lBeg cBeg kBeg
  have bBeg := FBeg.binds (ps := ["script"]) fun _ _ _ _ _ _ us hl => match us, hl with | [_], _ => rfl
  have FBle := fun_mk (st := sBlend) lBle cBle kBle
  have bBle := FBle.binds (ps := ["draw"]) fun _ _ _ _ _ _ us hl => match us, hl with | [_], _ => rfl
  have FTak := fun_mk (st := sTake) lTak cTak kTak
  have bTak := FTak.binds (ps := ["draw", "size"]) fun _ _ _ _ _ _ us hl => match us, hl with | [_, _], _ => rfl
  have FPic := fun_mk (st := sPick) lPic cPic kPic
  have bPic := FPic.binds (ps := ["draw", "some"]) fun _ _ _ _ _ _ us hl => match us, hl with | [_, _], _ => rfl
  have FWay := fun_mk (st := sWay) lWay cWay kWay
  have bWay := FWay.binds (ps := ["draw", "peak"]) fun _ _ _ _ _ _ us hl => match us, hl with | [_, _], _ => rfl
  have FMkr := fun_mk (st := sMk) lMkr cMkr kMkr
  have bMkr := FMkr.binds (ps := ["mode"]) fun _ _ _ _ _ _ us hl => match us, hl with | [_], _ => rfl
  have FHom := fun_mk (st := sHome) lHom cHom kHom
  have bHom := FHom.binds (ps := ["draw", "space", "peak"]) fun _ _ _ _ _ _ us hl => match us, hl with | [_, _, _], _ => rfl
  have FHou := fun_mk (st := sHouse) lHou cHou kHou
  have bHou := FHou.binds (ps := ["home"]) fun _ _ _ _ _ _ us hl => match us, hl with | [_], _ => rfl
  have FSho := fun_mk (st := sShown) lSho cSho kSho
  have bSho := FSho.binds (ps := ["told"]) fun _ _ _ _ _ _ us hl => match us, hl with | [_], _ => rfl
  have FRig := fun_mk (st := sRight) lRig cRig kRig
  have bRig := FRig.binds (ps := ["way_here"]) fun _ _ _ _ _ _ us hl => match us, hl with | [_], _ => rfl
  have FUnl := fun_mk (st := sUnlike) lUnl cUnl kUnl
  have bUnl := FUnl.binds (ps := ["home"]) fun _ _ _ _ _ _ us hl => match us, hl with | [_], _ => rfl
  have FLaw := fun_mk (st := sLaw) lLaw cLaw kLaw
  have bLaw := FLaw.binds (ps := ["script"]) fun _ _ _ _ _ _ us hl => match us, hl with | [_], _ => rfl
  have FRI := fun_mk (st := sRI) lRI cRI kRI
  have bRI := FRI.binds (ps := ["self", "way", "still", "hold", "pins", "guard"]) fun _ _ _ _ _ _ us hl => match us, hl with | [_, _, _, _, _, _], _ => rfl
  have FRW := fun_mk (st := sRW) lRW cRW kRW
  have bRW := FRW.binds (ps := ["self", "part", "value"]) fun _ _ _ _ _ _ us hl => match us, hl with | [_, _, _], _ => rfl
  have FRE := fun_mk (st := sRE) lRE cRE kRE
  have bRE := FRE.binds (ps := ["self", "other"]) fun _ _ _ _ _ _ us hl => match us, hl with | [_, _], _ => rfl
  have FHI := fun_mk (st := sHI) lHI cHI kHI
  have bHI := FHI.binds (ps := ["self", "rule", "room", "top", "many", "goes", "lag"]) fun _ _ _ _ _ _ us hl => match us, hl with | [_, _, _, _, _, _, _], _ => rfl
  have FHE := fun_mk (st := sHE) lHE cHE kHE
  have bHE := FHE.binds (ps := ["self", "other"]) fun _ _ _ _ _ _ us hl => match us, hl with | [_, _], _ => rfl
  have FPw := fun_mk (st := inClass (topS 13) 1) lPw cPw kPw
  have bPw := FPw.binds (ps := ["self"]) fun _ _ _ _ _ _ us hl => match us, hl with | [_], _ => rfl
  have FPs := fun_mk (st := inClass (topS 13) 2) lPs cPs kPs
  have bPs := FPs.binds (ps := ["self"]) fun _ _ _ _ _ _ us hl => match us, hl with | [_], _ => rfl
  have FPrule := fun_mk (st := inClass (topS 20) 1) lPrule cPrule kPrule
  have bPrule := FPrule.binds (ps := ["self"]) fun _ _ _ _ _ _ us hl => match us, hl with | [_], _ => rfl
  have FProom := fun_mk (st := inClass (topS 20) 2) lProom cProom kProom
  have bProom := FProom.binds (ps := ["self"]) fun _ _ _ _ _ _ us hl => match us, hl with | [_], _ => rfl
  have FPtop := fun_mk (st := inClass (topS 20) 3) lPtop cPtop kPtop
  have bPtop := FPtop.binds (ps := ["self"]) fun _ _ _ _ _ _ us hl => match us, hl with | [_], _ => rfl
  have FPmany := fun_mk (st := inClass (topS 20) 4) lPmany cPmany kPmany
  have bPmany := FPmany.binds (ps := ["self"]) fun _ _ _ _ _ _ us hl => match us, hl with | [_], _ => rfl
  have FPgoes := fun_mk (st := inClass (topS 20) 5) lPgoes cPgoes kPgoes
  have bPgoes := FPgoes.binds (ps := ["self"]) fun _ _ _ _ _ _ us hl => match us, hl with | [_], _ => rfl
  have FPlag := fun_mk (st := inClass (topS 20) 6) lPlag cPlag kPlag
  have bPlag := FPlag.binds (ps := ["self"]) fun _ _ _ _ _ _ us hl => match us, hl with | [_], _ => rfl
  have sW : ∀ H, SqT K H wA (waysL.map V.str) := fun H => .inr ⟨_, _, _, lW, rfl, rfl, by show 3 ≤ sizeLine; decide, (.cons ⟨_, rfl⟩ (.cons ⟨_, rfl⟩ (.cons ⟨_, rfl⟩ .nil)) : Vals [V.str "end", V.str "front", V.str "rank"] _)⟩
  have sP : ∀ H, SqT K H pA (partsL.map V.str) := fun H => .inr ⟨_, _, _, lP, rfl, rfl, by show 5 ≤ sizeLine; decide, (.cons ⟨_, rfl⟩ (.cons ⟨_, rfl⟩ (.cons ⟨_, rfl⟩ (.cons ⟨_, rfl⟩ (.cons ⟨_, rfl⟩ .nil)))) : Vals [V.str "way", V.str "still", V.str "hold", V.str "pins", V.str "guard"] _)⟩
  have y_isinstance := PySem.W.mg_none_of X G z_isinstance
  have y_int := PySem.W.mg_none_of X G z_int
  have y_bool := PySem.W.mg_none_of X G z_bool
  have y_str := PySem.W.mg_none_of X G z_str
  have y_tuple := PySem.W.mg_none_of X G z_tuple
  have y_len := PySem.W.mg_none_of X G z_len
  have y_repr := PySem.W.mg_none_of X G z_repr
  have y_dict := PySem.W.mg_none_of X G z_dict
  have y_range := PySem.W.mg_none_of X G z_range
  have y_min := PySem.W.mg_none_of X G z_min
  have y_abs := PySem.W.mg_none_of X G z_abs
  have gNum := PySem.W.mg_of X G aNum
  have gOne := PySem.W.mg_of X G aOne
  have gLag := PySem.W.mg_of X G aLag
  have gBeg := PySem.W.mg_of X G aBeg
  have gBle := PySem.W.mg_of X G aBle
  have gTak := PySem.W.mg_of X G aTak
  have gPic := PySem.W.mg_of X G aPic
  have gWay := PySem.W.mg_of X G aWay
  have gMkr := PySem.W.mg_of X G aMkr
  have gHom := PySem.W.mg_of X G aHom
  have gHou := PySem.W.mg_of X G aHou
  have gSho := PySem.W.mg_of X G aSho
  have gRig := PySem.W.mg_of X G aRig
  have gUnl := PySem.W.mg_of X G aUnl
  have gLaw := PySem.W.mg_of X G aLaw
  have keCR : PySem.W.kitOne K (.ref CR) (.ref CR) = some true := kit_self
  have qNCR : PySem.W.kitOne K (.type "NoneType") (.ref CR) = some false := kit_ref icCR tcCR (by kernel_rfl) rfl
  have qICR : PySem.W.kitOne K (.type "int") (.ref CR) = some false := kit_ref icCR tcCR (by kernel_rfl) rfl
  have qSCR : PySem.W.kitOne K (.type "str") (.ref CR) = some false := kit_ref icCR tcCR (by kernel_rfl) rfl
  have qTCR : PySem.W.kitOne K (.type "tuple") (.ref CR) = some false := kit_ref icCR tcCR (by kernel_rfl) rfl
  have qDCR : PySem.W.kitOne K (.type "dict") (.ref CR) = some false := kit_ref icCR tcCR (by kernel_rfl) rfl
  have keCH : PySem.W.kitOne K (.ref CH) (.ref CH) = some true := kit_self
  have qNCH : PySem.W.kitOne K (.type "NoneType") (.ref CH) = some false := kit_ref icCH tcCH (by kernel_rfl) rfl
  have qICH : PySem.W.kitOne K (.type "int") (.ref CH) = some false := kit_ref icCH tcCH (by kernel_rfl) rfl
  have qSCH : PySem.W.kitOne K (.type "str") (.ref CH) = some false := kit_ref icCH tcCH (by kernel_rfl) rfl
  have qTCH : PySem.W.kitOne K (.type "tuple") (.ref CH) = some false := kit_ref icCH tcCH (by kernel_rfl) rfl
  have qDCH : PySem.W.kitOne K (.type "dict") (.ref CH) = some false := kit_ref icCH tcCH (by kernel_rfl) rfl
  have qRH : PySem.W.kitOne K (.ref CR) (.ref CH) = some false := kit_ref icCH tcCH sRH (beq_eq_false_iff_ne.mpr fun z => by cases z; rw [sRR] at sRH; cases sRH)
  have TR : TR K mg CR wA pA := ⟨⟨pgCR, hdCR, poCR, saCR⟩, n1CR, n2CR, n3CR, n4CR, n5CR, PySem.W.mg_of X G aCR, PySem.W.mg_of X G aW, PySem.W.mg_of X G aP, ⟨_, PySem.W.mg_of X G m0⟩, ⟨_, PySem.W.mg_of X G m1⟩, sW, sP, haCR, hn, ht, hmCR, keCR, y_isinstance, y_int, y_bool, y_str⟩
  have TH : TH K mg CR CH := ⟨⟨pgCH, hdCH, poCH, saCH⟩, n1CH, n2CH, n3CH, n4CH, n5CH, n6CH, PySem.W.mg_of X G aCH, ⟨_, PySem.W.mg_of X G m2⟩, ⟨_, PySem.W.mg_of X G m3⟩, ⟨_, PySem.W.mg_of X G m4⟩, ⟨_, PySem.W.mg_of X G m5⟩, haCH, hmCH, keCH, y_tuple, y_len⟩
  have XR : TK K CR := ⟨qNCR, qICR, qSCR, qTCR, qDCR⟩
  have XH : TL K CR CH := ⟨⟨qNCH, qICH, qSCH, qTCH, qDCH⟩, qRH, nRH⟩
  have MR : Mk K CR fRI := ⟨mkCR, aRI, iRI, kpCR⟩
  have MH : Mk K CH fHI := ⟨mkCH, aHI, iHI, kpCH⟩
  have OR : OwnEq K CR fRE := ⟨aRE, neCR, iRE, hmCR⟩
  have OH : OwnEq K CH fHE := ⟨aHE, neCH, iHE, hmCH⟩
  refine ⟨PySem.W.fnOf "law" "law" (defArgs sLaw) (defBody sLaw) (defScope sLaw) .none kVLaw dcLaw pmLaw anLaw cdLaw ctLaw, fun s v => .of_eq rfl, fun base _ _ => ?_⟩
  have gIsn := PySem.W.mg_of X G aIsn
  have GIsn : FnOk l.prog w K mg base CX0 1 fIsn _ ["value"] (spIsn K) := ok_isn FIsn y_isinstance y_int y_bool
  have GNum : FnOk l.prog w K mg base CX0 2 fNum _ ["value", "least", "most"] (spNum K) := ok_num FNum GIsn kIsn bIsn gIsn
  have GOne : FnOk l.prog w K mg base CX0 2 fOne _ ["value", "texts"] (spOne K) := ok_one FOne y_isinstance y_str
  have GRI : FnOk l.prog w K mg base CX0 3 fRI _ ["self", "way", "still", "hold", "pins", "guard"] (spRI CR) := ok_RI FRI TR GOne kOne bOne gOne GNum kNum bNum gNum
  have GRE : FnOk l.prog w K mg base CX0 2 fRE _ ["self", "other"] (spRE K CR) := ok_RE FRE TR
  have GRW : FnOk l.prog w K mg base CX0 5 fRW _ ["self", "part", "value"] (spRW CR) := ok_RW FRW TR MR GRI bRI GOne kOne bOne gOne
  have GLag : FnOk l.prog w K mg base CX0 3 fLag _ ["value"] (spLag K) := ok_lag FLag TR TH GNum kNum bNum gNum
  have GHI : FnOk l.prog w K mg base CX0 4 fHI _ ["self", "rule", "room", "top", "many", "goes", "lag"] (spHI CR CH) := ok_HI FHI TR TH GLag kLag bLag gLag GNum kNum bNum gNum
  have GHE : FnOk l.prog w K mg base CX0 3 fHE _ ["self", "other"] (spHE K CR CH) := ok_HE FHE TR TH OR GRE bRE
  have GBeg : FnOk l.prog w K mg base CX0 3 fBeg _ ["script"] (spBegin K) := ok_begin FBeg y_abs
  have GBle : FnOk l.prog w K mg base CX0 3 fBle _ ["draw"] spBlend := ok_blend FBle y_int
  have GTak : FnOk l.prog w K mg base CX0 4 fTak _ ["draw", "size"] spTake := ok_take FTak GBle kBle bBle gBle y_int
  have GPic : FnOk l.prog w K mg base CX0 5 fPic _ ["draw", "some"] spPick := ok_pick FPic GTak kTak bTak gTak y_len
  have GWay : FnOk l.prog w K mg base CX0 6 fWay _ ["draw", "peak"] spWay := ok_way FWay GTak kTak bTak gTak GPic kPic bPic gPic
  have GMkr : FnOk l.prog w K mg base CX0 5 fMkr _ ["mode"] (spMk CR) := ok_mk FMkr TR MR GRI bRI
  have GHom : FnOk l.prog w K mg base CX0 7 fHom _ ["draw", "space", "peak"] spHome := ok_home FHom GTak kTak bTak gTak GWay kWay bWay gWay
  have GHou : FnOk l.prog w K mg base CX0 6 fHou _ ["home"] (spHouse CR CH) := ok_house FHou TH MH GHI bHI GMkr kMkr bMkr gMkr
  have QPw : Pr l.prog w K mg base CR "way" "_way" := ⟨pPw, fPw, _, ⟨aPw, gPw, tPw, ⟨_, rPw⟩⟩, ok_get FPw scPw rfl TR.cl TR.n1, bPw⟩
  have QPs : Pr l.prog w K mg base CR "still" "_still" := ⟨pPs, fPs, _, ⟨aPs, gPs, tPs, ⟨_, rPs⟩⟩, ok_get FPs scPs rfl TR.cl TR.n2, bPs⟩
  have QPrule : Pr l.prog w K mg base CH "rule" "_rule" := ⟨pPrule, fPrule, _, ⟨aPrule, gPrule, tPrule, ⟨_, rPrule⟩⟩, ok_get FPrule scPrule rfl TH.cl TH.n1, bPrule⟩
  have QProom : Pr l.prog w K mg base CH "room" "_room" := ⟨pProom, fProom, _, ⟨aProom, gProom, tProom, ⟨_, rProom⟩⟩, ok_get FProom scProom rfl TH.cl TH.n2, bProom⟩
  have QPtop : Pr l.prog w K mg base CH "top" "_top" := ⟨pPtop, fPtop, _, ⟨aPtop, gPtop, tPtop, ⟨_, rPtop⟩⟩, ok_get FPtop scPtop rfl TH.cl TH.n3, bPtop⟩
  have QPmany : Pr l.prog w K mg base CH "many" "_many" := ⟨pPmany, fPmany, _, ⟨aPmany, gPmany, tPmany, ⟨_, rPmany⟩⟩, ok_get FPmany scPmany rfl TH.cl TH.n4, bPmany⟩
  have QPgoes : Pr l.prog w K mg base CH "goes" "_goes" := ⟨pPgoes, fPgoes, _, ⟨aPgoes, gPgoes, tPgoes, ⟨_, rPgoes⟩⟩, ok_get FPgoes scPgoes rfl TH.cl TH.n5, bPgoes⟩
  have QPlag : Pr l.prog w K mg base CH "lag" "_lag" := ⟨pPlag, fPlag, _, ⟨aPlag, gPlag, tPlag, ⟨_, rPlag⟩⟩, ok_get FPlag scPlag rfl TH.cl TH.n6, bPlag⟩
  have GSho : FnG l.prog w K mg base 4 fSho _ ["told"] (spShown CR CH) := ok_shown FSho TH y_repr QProom QPtop QPmany QPgoes QPlag
  have GRig : FnOk l.prog w K mg base CX0 6 fRig _ ["way_here"] (spRight CR) := ok_right FRig TR XR MR FRI GRI GMkr kMkr bMkr gMkr GRW bRW ⟨aRW, iRW, kRW⟩ OR GRE bRE QPw QPs
  have GUnl : FnOk l.prog w K mg base CX0 3 fUnl _ ["home"] spUnlike := ok_unlike FUnl y_dict y_int
  exact ok_law FLaw TR TH XH GBeg kBeg bBeg gBeg GHom kHom bHom gHom GRig kRig bRig gRig GHou kHou bHou gHou GMkr kMkr bMkr gMkr GSho kSho bSho gSho GUnl kUnl bUnl gUnl OR GRE bRE OH GHE bHE QPrule y_repr y_dict y_range y_min
end D3

open PySem PySem.W PyProof.Rows
set_option Elab.async false
set_option linter.all false
set_option maxRecDepth 100000 in
set_option pp.maxSteps 60 in
set_option pp.deepTerms false in
set_option maxHeartbeats 0 in
theorem PySem.Challenge.cw_undertap_k03_rules_and_houses_equal_holds : PySem.Challenge.rw_undertap_k03_rules_and_houses_equal.Holds := by
  w_on; o_law; k_head; (case hw => w_witness2)
  k_fill
  refine Gd.walkG (l := PySem.Challenge.rw_undertap_k03_rules_and_houses_equal) (n := 63) (k := 8) (x := "script") (sp := fun w => D3.spLaw _) rfl (by decide) rfl ⟨rfl, by decide, by decide⟩ (fun w h Y => PySem.W.kIn_of Y) ?F (fun _ _ a ns hl _ hS => ⟨a, ns, rfl, hS, hl, fun _ => rfl⟩)
  case F =>
    intro w mg fa h KX G hmg
    have hlaw : mg (PySem.Str.ofString "law") = some (.ref fa) := hmg
    clear hmg
    refine' D3.all_mk KX G hlaw ?aIsn ?lIsn ?cIsn ?kIsn ?aNum ?lNum ?cNum ?kNum ?aOne ?lOne ?cOne ?kOne ?aLag ?lLag ?cLag ?kLag ?aBeg ?lBeg ?cBeg ?kBeg ?aBle ?lBle ?cBle ?kBle ?aTak ?lTak ?cTak ?kTak ?aPic ?lPic ?cPic ?kPic ?aWay ?lWay ?cWay ?kWay ?aMkr ?lMkr ?cMkr ?kMkr ?aHom ?lHom ?cHom ?kHom ?aHou ?lHou ?cHou ?kHou ?aSho ?lSho ?cSho ?kSho ?aRig ?lRig ?cRig ?kRig ?aUnl ?lUnl ?cUnl ?kUnl ?aLaw ?lLaw ?cLaw ?kLaw ?aRI ?iRI ?lRI ?cRI ?kRI ?aRW ?iRW ?lRW ?cRW ?kRW ?aRE ?iRE ?lRE ?cRE ?kRE ?aHI ?iHI ?lHI ?cHI ?kHI ?aHE ?iHE ?lHE ?cHE ?kHE ?aPw ?gPw ?tPw ?rPw ?lPw ?cPw ?kPw ?aPs ?gPs ?tPs ?rPs ?lPs ?cPs ?kPs ?aPrule ?gPrule ?tPrule ?rPrule ?lPrule ?cPrule ?kPrule ?aProom ?gProom ?tProom ?rProom ?lProom ?cProom ?kProom ?aPtop ?gPtop ?tPtop ?rPtop ?lPtop ?cPtop ?kPtop ?aPmany ?gPmany ?tPmany ?rPmany ?lPmany ?cPmany ?kPmany ?aPgoes ?gPgoes ?tPgoes ?rPgoes ?lPgoes ?cPgoes ?kPgoes ?aPlag ?gPlag ?tPlag ?rPlag ?lPlag ?cPlag ?kPlag ?aCR ?pgCR ?hdCR ?poCR ?saCR ?mkCR ?kpCR ?n1CR ?n2CR ?n3CR ?n4CR ?n5CR ?haCR ?hmCR ?icCR ?tcCR ?neCR ?aCH ?pgCH ?hdCH ?poCH ?saCH ?mkCH ?kpCH ?n1CH ?n2CH ?n3CH ?n4CH ?n5CH ?n6CH ?haCH ?hmCH ?icCH ?tcCH ?neCH ?hn ?ht ?sRH ?sRR ?nRH ?aW ?lW ?aP ?lP ?m0 ?m1 ?m2 ?m3 ?m4 ?m5 ?z_isinstance ?z_int ?z_bool ?z_str ?z_tuple ?z_len ?z_repr ?z_dict ?z_range ?z_min ?z_abs
    (case aCR => k_is); (case aCH => k_is); (case aIsn => k_is); (case lIsn => k_is); (case cIsn => k_is); (case kIsn => k_is); (case aNum => k_is); (case lNum => k_is); (case cNum => k_is); (case kNum => k_is)
    (case aOne => k_is); (case lOne => k_is); (case cOne => k_is); (case kOne => k_is); (case aLag => k_is); (case lLag => k_is)
    (case cLag => k_is); (case kLag => k_is); (case aBeg => k_is); (case lBeg => k_is); (case cBeg => k_is); (case kBeg => k_is)
    (case aBle => k_is); (case lBle => k_is); (case cBle => k_is); (case kBle => k_is); (case aTak => k_is); (case lTak => k_is)
    (case cTak => k_is); (case kTak => k_is); (case aPic => k_is); (case lPic => k_is); (case cPic => k_is); (case kPic => k_is)
    (case aWay => k_is); (case lWay => k_is); (case cWay => k_is); (case kWay => k_is); (case aMkr => k_is); (case lMkr => k_is)
    (case cMkr => k_is); (case kMkr => k_is); (case aHom => k_is); (case lHom => k_is); (case cHom => k_is); (case kHom => k_is)
    (case aHou => k_is); (case lHou => k_is); (case cHou => k_is); (case kHou => k_is); (case aSho => k_is); (case lSho => k_is)
    (case cSho => k_is); (case kSho => k_is); (case aRig => k_is); (case lRig => k_is); (case cRig => k_is); (case kRig => k_is)
    (case aUnl => k_is); (case lUnl => k_is); (case cUnl => k_is); (case kUnl => k_is); (case aLaw => k_is); (case lLaw => k_is)
    (case cLaw => k_is); (case kLaw => k_is); (case aRI => k_is); (case iRI => k_is); (case lRI => k_is); (case cRI => k_is)
    (case kRI => k_is); (case aRW => k_is); (case iRW => k_is); (case lRW => k_is); (case cRW => k_is); (case kRW => k_is)
    (case aRE => k_is); (case iRE => k_is); (case lRE => k_is); (case cRE => k_is); (case kRE => k_is); (case aHI => k_is)
    (case iHI => k_is); (case lHI => k_is); (case cHI => k_is); (case kHI => k_is); (case aHE => k_is); (case iHE => k_is)
    (case lHE => k_is); (case cHE => k_is); (case kHE => k_is); (case aPw => k_is); (case gPw => k_is); (case tPw => k_is)
    (case rPw => k_is); (case lPw => k_is); (case cPw => k_is); (case kPw => k_is); (case aPs => k_is); (case gPs => k_is)
    (case tPs => k_is); (case rPs => k_is); (case lPs => k_is); (case cPs => k_is); (case kPs => k_is); (case aPrule => k_is)
    (case gPrule => k_is); (case tPrule => k_is); (case rPrule => k_is); (case lPrule => k_is); (case cPrule => k_is); (case kPrule => k_is)
    (case aProom => k_is); (case gProom => k_is); (case tProom => k_is); (case rProom => k_is); (case lProom => k_is); (case cProom => k_is)
    (case kProom => k_is); (case aPtop => k_is); (case gPtop => k_is); (case tPtop => k_is); (case rPtop => k_is); (case lPtop => k_is)
    (case cPtop => k_is); (case kPtop => k_is); (case aPmany => k_is); (case gPmany => k_is); (case tPmany => k_is); (case rPmany => k_is)
    (case lPmany => k_is); (case cPmany => k_is); (case kPmany => k_is); (case aPgoes => k_is); (case gPgoes => k_is); (case tPgoes => k_is)
    (case rPgoes => k_is); (case lPgoes => k_is); (case cPgoes => k_is); (case kPgoes => k_is); (case aPlag => k_is); (case gPlag => k_is)
    (case tPlag => k_is); (case rPlag => k_is); (case lPlag => k_is); (case cPlag => k_is); (case kPlag => k_is); (case pgCR => k_is)
    (case hdCR => k_is); (case poCR => k_is); (case saCR => k_is); (case mkCR => k_is); (case kpCR => k_is); (case n1CR => k_is)
    (case n2CR => k_is); (case n3CR => k_is); (case n4CR => k_is); (case n5CR => k_is); (case haCR => k_is); (case hmCR => k_is)
    (case icCR => k_is); (case tcCR => k_is); (case neCR => k_is); (case pgCH => k_is); (case hdCH => k_is); (case poCH => k_is)
    (case saCH => k_is); (case mkCH => k_is); (case kpCH => k_is); (case n1CH => k_is); (case n2CH => k_is); (case n3CH => k_is)
    (case n4CH => k_is); (case n5CH => k_is); (case n6CH => k_is); (case haCH => k_is); (case hmCH => k_is); (case icCH => k_is)
    (case tcCH => k_is); (case neCH => k_is); (case hn => k_is); (case ht => k_is); (case sRH => k_is); (case sRR => k_is)
    (case nRH => k_is); (case aW => k_is); (case lW => k_is); (case aP => k_is); (case lP => k_is); (case m0 => k_is)
    (case m1 => k_is); (case m2 => k_is); (case m3 => k_is); (case m4 => k_is); (case m5 => k_is); (case z_isinstance => k_is)
    (case z_int => k_is); (case z_bool => k_is); (case z_str => k_is); (case z_tuple => k_is); (case z_len => k_is); (case z_repr => k_is)
    (case z_dict => k_is); (case z_range => k_is); (case z_min => k_is); (case z_abs => k_is)
