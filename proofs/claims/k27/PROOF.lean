import PyProof.Rows.All
import Wide.All
import OpenK.AllK
import Wide.FinOn
import HandS.ForMost
import HandS.Wide
import HandS.IsInst
import HandS.Property
import HandS.MakeKw
import HandS.More
import HandS.OwnEq
import HandS.Codes
import HandS.MakeKwOnly
import HandS.Small
import HandS.Ends
import HandS.Exc
import HandS.ExcValue
import HandS.ExcInit
import HandS.ExcIs
import HandS.ExcField
import KE.KExcIs
import HandS.Lambda
import HandS.Deep
import HandS.TupAny
import HandS.Style
import KE.KeyNested
import HandS.Comp
import HandS.Iter
import KE.GoesEnum
import HandS.Words
import HandS.WordsExc
import HandS.Defaults
import HandS.Dict
import HandS.WordsDict
import HandS.SortInts
import HandS.Sort
import KE.SortData
import HandS.RaiseMore
import HandS.EndTab
import HandS.SetFor
import PyProof.Rows.CountFlat
import PyProof.FactsAll.dict
import HandS.TupLen
import HandS.Conv
import KE.KDictDisplayH
import PySem.Challenge.RW_undertap_k27_known_standings
set_option Elab.async false
set_option linter.all false
set_option maxRecDepth 100000
set_option maxHeartbeats 4000000
/-! What all laws share: the state of the draws. -/
namespace Dr
open PySem PySem.Spec PyProof.Rows L2
/-- the pairs of the draws' dict -/
def kD (g c : Addr) (r t : Int) : List (Key × V) := [(.inr "great", .ref g), (.inr "rest", .int r), (.inr "cells", .ref c), (.inr "turn", .int t)]
theorem k_great (g c : Addr) (r t : Int) : valV (kD g c r t) (.inr "great") = some (.ref g) := valV_pos rfl
theorem k_rest (g c : Addr) (r t : Int) : valV (kD g c r t) (.inr "rest") = some (.int r) :=
  (valV_neg (show ¬ (.inr "great" : Key) = .inr "rest" by decide +kernel)).trans (valV_pos rfl)
theorem k_cells (g c : Addr) (r t : Int) : valV (kD g c r t) (.inr "cells") = some (.ref c) :=
  (valV_neg (show ¬ (.inr "great" : Key) = .inr "cells" by decide +kernel)).trans ((valV_neg (show ¬ (.inr "rest" : Key) = .inr "cells" by decide +kernel)).trans (valV_pos rfl))
theorem k_turn (g c : Addr) (r t : Int) : valV (kD g c r t) (.inr "turn") = some (.int t) :=
  (valV_neg (show ¬ (.inr "great" : Key) = .inr "turn" by decide +kernel)).trans ((valV_neg (show ¬ (.inr "rest" : Key) = .inr "turn" by decide +kernel)).trans ((valV_neg (show ¬ (.inr "cells" : Key) = .inr "turn" by decide +kernel)).trans (valV_pos rfl)))
theorem p_rest (g c : Addr) (r t x : Int) : putK (kD g c r t) (.inr "rest") (.int x) = kD g c x t := by kernel_rfl
theorem p_turn (g c : Addr) (r t x : Int) : putK (kD g c r t) (.inr "turn") (.int x) = kD g c r x := by kernel_rfl
theorem dg_of {H : Hp} {d : Addr} {kvs : List (Key × V)} {x : Str} {v : V} (h : H d = some (.dK kvs)) (e : valV kvs (.inr x) = some v) : DGet H d (.str x) (some v) := by
  have q := DGet.k (k := .inr x) h
  rw [e] at q
  exact q
theorem dp_of {H : Hp} {d : Addr} {kvs kvs' : List (Key × V)} {x : Str} {v : V} (h : H d = some (.dK kvs)) (e : putK kvs (.inr x) v = kvs') (hl : kvs.length < sizeLine) : DPut H d (.str x) v (upd H d (.dK kvs')) := by
  have q := DPut.k (k := .inr x) (v := v) h hl
  rw [e] at q
  exact q
theorem kD_len (g c : Addr) (r t : Int) : (kD g c r t).length < sizeLine := small1000 (show 4 ≤ 1000 by decide)
theorem ints_dp {K : PySem.W.Frag} {H : Hp} : ∀ ns : List Int, DpAll K H (ns.map V.int) (ns.map PyData.int)
  | [] => .nil
  | n :: r => .cons (.int n) (ints_dp r)
theorem ints_lay : ∀ ns : List Int, PyData.canLayAll0 (ns.map PyData.int) = true
  | [] => by simp [PyData.canLayAll0]
  | n :: r => by simp [PyData.canLayAll0, PyData.canLay0, ints_lay r]
theorem ints_depth : ∀ ns : List Int, PyData.depthAll (ns.map PyData.int) = 0
  | [] => by simp [PyData.depthAll]
  | n :: r => by simp [PyData.depthAll, PyData.depth, ints_depth r]
theorem ints_shaped (ns : List Int) : SeqAt.shaped (.list (ns.map PyData.int)) = true := by
  have h1 := ints_depth ns
  have h2 : PyData.depth (.list (ns.map PyData.int)) ≤ 64 := by
    simp only [PyData.depth]
    omega
  show (PyData.canLay0 (.list (ns.map PyData.int)) && decide (PyData.depth (.list (ns.map PyData.int)) ≤ 64)) = true
  rw [Bool.and_eq_true]
  exact ⟨by simp only [PyData.canLay0]; exact ints_lay ns, decide_eq_true h2⟩
/-- the draws stand at d: their large numbers at g, all numbers at c -/
structure Dw (H : Hp) (d g c : Addr) : Prop where
  ex : ∃ (gs cs : List Int) (r t : Int), H d = some (.dK (kD g c r t)) ∧ H g = some (.lst (gs.map V.int)) ∧ H c = some (.lst (cs.map V.int))
  gc : g ≠ c
/-- all but the draws' dict and their large numbers stands as it stood -/
def Fr2 (d g : Addr) (H H' : Hp) : Prop := ∀ b o, b ≠ d → b ≠ g → H b = some o → H' b = some o
theorem Fr2.refl {d g : Addr} (H : Hp) : Fr2 d g H H := fun _ _ _ _ h => h
theorem Fr2.trans {d g : Addr} {H H1 H2 : Hp} (a : Fr2 d g H H1) (b : Fr2 d g H1 H2) : Fr2 d g H H2 := fun c o h1 h2 h => b c o h1 h2 (a c o h1 h2 h)
theorem Fr2.same {d g : Addr} {H H' : Hp} (a : Same H H') : Fr2 d g H H' := fun c o _ _ h => a c o h
theorem Fr2.new {d g p : Addr} {H H' : Hp} {o : HO} (a : Fr2 d g H H') (n : H' p = none) : Fr2 d g H (upd H' p o) := fun b u h1 h2 h => by
  have e := a b u h1 h2 h
  rw [upd_ne (ne_of_none e n)]
  exact e
theorem Dw.dg {H : Hp} {d g c : Addr} (D : Dw H d g c) : d ≠ g := by
  obtain ⟨⟨gs, cs, r, t, hd, hg, hc⟩, _⟩ := D
  exact ne_of hd hg (by intro z; cases z)
theorem Dw.dc {H : Hp} {d g c : Addr} (D : Dw H d g c) : d ≠ c := by
  obtain ⟨⟨gs, cs, r, t, hd, hg, hc⟩, _⟩ := D
  exact ne_of hd hc (by intro z; cases z)
theorem Dw.keep {H H' : Hp} {d g c : Addr} (D : Dw H d g c) (k : ∀ b o, b = d ∨ b = g ∨ b = c → H b = some o → H' b = some o) : Dw H' d g c := by
  obtain ⟨⟨gs, cs, r, t, hd, hg, hc⟩, gc⟩ := D
  exact ⟨⟨gs, cs, r, t, k _ _ (.inl rfl) hd, k _ _ (.inr (.inl rfl)) hg, k _ _ (.inr (.inr rfl)) hc⟩, gc⟩
theorem Dw.new {H : Hp} {d g c p : Addr} {o : HO} (D : Dw H d g c) (n : H p = none) : Dw (upd H p o) d g c := D.keep fun b u _ e => by
  rw [upd_ne (ne_of_none e n)]
  exact e
theorem Dw.same {H H' : Hp} {d g c : Addr} (D : Dw H d g c) (k : Same H H') : Dw H' d g c := D.keep fun b u _ e => k b u e
theorem same_upd {H : Hp} {p : Addr} {o : HO} (h : H p = none) : Same H (upd H p o) := fun b x e => by
  rw [upd_ne (ne_of_none e h)]
  exact e
/-- a number from 0 to m - 1 is drawn -/
def spTake : Sp := fun vs H Q _ => ∃ (d g c : Addr) (m : Int), vs = [.ref d, .int m] ∧ Dw H d g c ∧ 0 < m ∧ m < 1000000 ∧
  ∀ (i : Int) (H' : Hp), 0 ≤ i → i < m → Dw H' d g c → Fr2 d g H H' → Q (.int i) H'
/-- one of the items is drawn -/
def spPick : Sp := fun vs H Q _ => ∃ (d g c s : Addr) (xs : List V), vs = [.ref d, .ref s] ∧ Dw H d g c ∧ H s = some (.lst xs) ∧ s ≠ g ∧ xs ≠ [] ∧ xs.length < 1000 ∧
  ∀ (i : Nat) (x : V) (H' : Hp), xs[i]? = some x → Dw H' d g c → Fr2 d g H H' → Q x H'
/-- a number from 0 on, mixed; the draws go on -/
def spBlend : Sp := fun vs H Q _ => ∃ (d g c : Addr) (gs cs : List Int) (r t : Int), vs = [.ref d] ∧ H d = some (.dK (kD g c r t)) ∧ H g = some (.lst (gs.map V.int)) ∧ H c = some (.lst (cs.map V.int)) ∧ g ≠ c ∧
  ∀ (i : Int) (H' : Hp), (∀ b o, b ≠ d → H b = some o → H' b = some o) → H' d = some (.dK (kD g c r (t + 1))) → Q (.int i) H'
def spBegin (K : PySem.W.Frag) : Sp := fun vs H Q _ => ∃ (a : Addr) (ns : List Int), vs = [.ref a] ∧ SqL K H a (ns.map V.int) ∧ ns.length ≤ 63 ∧
  ∀ (d g c : Addr) (H' : Hp), Same H H' → H d = none → H g = none → H c = none → Dw H' d g c → Q (.ref d) H'
end Dr

/-! Defs that are called only where no guard of repr stands on the stack: repr of data shows its whole text there. -/
namespace Gd
open PySem PySem.Spec PyProof.Rows L2 Dr
section
variable {P : Program} {w : World} {K : PySem.W.Frag} {mg : Str → Option Value} {base : Heap} {CX : CXT} {k : Nat} {f : Addr} {fd : FuncData} {ps : List Str} {sp : Sp}
/-- the promise of a def, kept where no guard stands on the stack -/
structure FnG (P : Program) (w : World) (K : PySem.W.Frag) (mg : Str → Option Value) (base : Heap)
    (k : Nat) (f : Addr) (fd : FuncData) (ps : List Str) (sp : Sp) : Prop where
  many : ∀ xs G R W, sp xs G R W → xs.length = ps.length
  goes : ∀ (B : Around) (below : List Env) (z : Shared) (G : Hp) (as : Args) (ys : List Value) (xs : List V) (R : VK) (W : XK),
    B.guards = some [] → Room k B → Env0 P w K mg base B below z G → BindsTo z fd as (ps.zip ys) → Vals xs ys →
    sp xs G R W → codeAny (model P w) B (.call (.ref f) as) (CR CX0 below P w G z R W) z
/-- a def of the text, by its body -/
theorem okG {x qual : Str} {st : Stmt} {N : List Str} (F : Fun K x qual st f fd) (S : FnScope N ps (defScope st))
    (many : ∀ xs G R W, sp xs G R W → xs.length = ps.length)
    (body : ∀ (c : Value) (B : Around) (below : List Env) (z : Shared) (G : Hp) (xs : List V) (R : VK) (W : XK), B.guards = some [] →
      Room k (B.deeper (envOfC qual (defScope st) z.heap.objs.size f c)) → sp xs G R W →
      ∃ t, PSs (cxOf CX0 P w K mg base N qual (defScope st) f c B below z G W).nox (defBody st) t ∧
        t { nx := fun _ G' => R .non G', rt := R } (start N xs) G) : FnG P w K mg base (k + 1) f fd ps sp := by
  obtain ⟨oc, od, kV, doc, pm, an, c, ct, osl, rfl, look, code⟩ := F.ex
  refine ⟨many, ?_⟩
  intro B below z G as ys xs R W gd room e0 bind rel holds
  have old : ∀ b o, base.get? b = some o → z.heap.get? b = some o := fun b o q => (e0.bs b o q).1
  have inK := e0.mod.kin.keeps old
  have slots : ∀ y ∈ ps.zip ys, (defScope st).names.lookup y.1 = some .local ∨ ((defScope st).names.lookup y.1 = some .cell ∧
      ((cellsFrom (z.heap.objs.size + 1) (defScope st).names []).lookup y.1).isSome = true) := by
    rintro ⟨n, v⟩ hy
    cases S.par n (List.of_mem_zip hy).1 with
    | inl q => exact .inl q
    | inr q => exact .inr ⟨q, PySem.W.cellsFrom_some _ _ _ (.inl q)⟩
  apply codeAny_call_function room.depth (inK _ _ look) rfl S.co S.gen rfl (PySem.W.codeRec_of inK code) (bind _ _ _ _ _)
  apply wpAny_newFunctionEnv_cells S.kind slots
  intro env henv z1 started
  subst henv
  refine ⟨(e0.mod.nolimit.keeps old).keeps started.toInCall.keep, codeAny_func ?_⟩
  obtain ⟨t, walk, asks⟩ := body c B below z G xs R W gd (room.deeper _) holds
  have inv := inv_start (CX := CX0) (E := W) S room.hd e0 (many _ _ _ _ holds) rel started
  refine wpAny_mono (walk.nox.run [] z1 (start N xs) G _ inv asks) ?_ (fun _ _ q => q)
  intro fl z2 q
  cases fl with
  | next =>
    obtain ⟨_, G', J, q⟩ := q
    exact ⟨.non, G', J.os, J.bare, J.base, J.hok, rfl, q⟩
  | ret u =>
    obtain ⟨v, _, G', J, rv, q⟩ := q
    exact ⟨v, G', J.os, J.bare, J.base, J.hok, rv, q⟩
  | brk => obtain ⟨_, _, _, no⟩ := q; exact False.elim no
  | cont => obtain ⟨_, _, _, no⟩ := q; exact False.elim no
end
section
variable {X : Cx} {k : Nat} {f : Addr} {fd : FuncData} {ps : List Str} {sp : Sp} {dvs : List V} {ds : List Value} {x : Str} {p pos : Pos} {e : Expr} {es : List Expr} {t : TA}
/-- such a def is called by its name -/
theorem pe_callG (F : FnG X.prog X.w X.K X.mg X.base k f fd ps sp) (gd : X.A.guards = some []) (room : Room k X.A) (glob : Gl X x) (here : X.mg x = some (.ref f))
    (kept : PySem.W.keepIn X.K (.ref f) = true) (bind : L2.Binds X.K fd ps ds) (dflt : Vals dvs ds) (args : PA X (e :: es) t)
    (nm : (x == ("__debug__" : Str)) = false := by decide) (each : starEach (e :: es) X.env = (false, eval e X.env) :: starEach es X.env := by rfl)
    (plain : (backTo pos (starEach es X.env)).any (·.1) = false := by rfl) : PE X (.Call (.Name x p) (e :: es) [] pos) (tCall sp dvs E0 t) := by
  constructor
  intro pins z σ G R I asks
  apply wpAny_Call_Name_kw (ld_glob I glob here ?_ nm)
  apply PySem.W.callWith_K (h₀ := X.base) I.ok.mod.kin kept ?_ each plain
  apply thn (args.run pos pins z σ G _ I asks)
  rintro us z1 ⟨vs, G1, I1, r, q⟩
  refine ⟨I1.kIn, ?_⟩
  have rel := r.append dflt
  have many : (us ++ ds).length = ps.length := rel.length ▸ F.many _ _ _ _ q
  apply wpAny_call (codeAny_mono (F.goes X.A X.stack z1 G1 ⟨us, []⟩ (us ++ ds) (vs ++ dvs) _ E0 gd room I1.env0 (bind z1 us I1.kIn many) rel q) ?_)
  intro end1 z2 hq
  cases end1 with
  | error _ => exact False.elim hq
  | ok fl => cases fl with
    | ret _ => exact I1.after hq
    | next => exact False.elim hq
    | brk => exact False.elim hq
    | cont => exact False.elim hq
/-- repr of data: the text that they show -/
theorem call_repr (gd : X.A.guards = some []) (room : X.A.units + 66 < cLine) : CallR X (.builtin "repr") (fun xs G R => ∃ x d, xs = [x] ∧ Dp X.K G x d ∧
    d.showable = true ∧ d.hasDict = false ∧ d.depth ≤ 64 ∧ d.shown.length ≤ sizeLine ∧ R (.str d.shown) G) := by
  rintro pins z σ G xs us R I rel ⟨x, d, rfl, hd, h1, h2, h3, h4, q⟩
  obtain ⟨u, rfl, ru⟩ := vals1 rel
  obtain ⟨as, rd⟩ := Dp.reads I d x u hd ru
  cases hd with
  | non => cases ru; exact PySem.P.repr_of_none ⟨.str _, G, I.tok _, ⟨_, rfl⟩, q⟩
  | bl b => cases ru; exact PySem.P.repr_of_bool ⟨.str _, G, I.tok _, ⟨_, rfl⟩, q⟩
  | int i => obtain ⟨t, rfl⟩ := ru; exact PySem.P.repr_of_int (of_decide_eq_true h1) ⟨.str _, G, I.tok _, ⟨_, rfl⟩, q⟩
  | str y => obtain ⟨t, rfl⟩ := ru; exact PySem.P.repr_of_str ⟨.str _, G, I.tok _, ⟨_, rfl⟩, q⟩ h4
  | lst _ _ =>
    cases ru
    exact repr_of_reads' rd h1 (fun z => by rw [h2] at z; cases z) gd (by omega) (fun _ _ z => z) (fun h' _ tk more => ⟨.str _, G, I.kept more, ⟨_, rfl⟩, q⟩) h4
  | tup _ _ =>
    cases ru
    exact repr_of_reads' rd h1 (fun z => by rw [h2] at z; cases z) gd (by omega) (fun _ _ z => z) (fun h' _ tk more => ⟨.str _, G, I.kept more, ⟨_, rfl⟩, q⟩) h4
end
/-- the law's own end, its def kept where no guard stands -/
theorem walkG {l : PySem.W.OpenLaw} {n k : Nat} {q : Program} {loose : List Str} {XP : (Str → Option Value) → Heap → Prop} {YP : World → Heap → Prop} {d : DefRec}
    {K : Params → PySem.W.Frag} {sp : World → Sp} {x : Str}
    (most : l.most = some n) (line : n ≤ sizeLine) (plain : d.params.defaults = []) (room : Room k callerA)
    (inK : ∀ (w : World) (h : Heap), YP w h → (K w.params).In h)
    (F : ∀ (w : World) (mg : Str → Option Value) (fa : Addr) (h : Heap), (K w.params).In h → h.Ns mainGlobals mg → mg d.name = some (.ref fa) →
      ∃ fd : FuncData, (∀ (z : Shared) (u : Value), BindsTo z fd ⟨[u], []⟩ [(x, u)]) ∧
        ∀ base : Heap, (K w.params).In base → base.Ns mainGlobals mg → FnG l.prog w (K w.params) mg base k fa fd [x] (sp w))
    (asks : ∀ (w : World) (G : Hp) (a : Addr) (ns : List Int), ns.length ≤ n → Only G → SqL (K w.params) G a (ns.map V.int) → sp w [.ref a] G (fun v _ => v = .bl true) E0) :
    PySem.W.WalkO q loose XP YP l.row.toRowW d [] (fun f vs => PySem.call f vs) := by
  apply Att.attach_call most plain
  intro w s₀ z mg mb fa o pm cd doc a vs ns ground Y ho hd hcd here isl areI few gens
  obtain ⟨fd, bind, F⟩ := F w mg fa _ (inK w _ Y) ground.T.g here
  have KX := inK w _ Y
  have rel := vals_ints areI
  have lenV := areI.length
  have few' : ns.length ≤ sizeLine := Nat.le_trans few line
  -- nothing but the script is tracked; what is written stands in the base
  have core : ∀ G : Hp, Only G → SqL (K w.params) G a (ns.map V.int) → HOk l.prog w G z.heap → (∀ b, b ≠ a → G b = none) → (G a ≠ none → (K w.params).lookup a = none) →
      codeAny (model l.prog w) callerA (.call (.ref fa) ⟨[.ref a], []⟩)
        (fun r s' => r = .ok (.ret (.bool true)) ∧ OldK z.heap s'.heap ∧ s'.os = z.os ∧ AllBare s'.gens) z := by
    intro G only isS ok alone outside
    have keepB : ∀ {b : Addr} {u : Obj}, z.heap.get? b = some u → b ≠ a → (hidT z.heap G).get? b = some u := fun e ne => hidT_get e (alone _ ne)
    have nsB : ∀ {b : Addr} {m : Str → Option Value}, z.heap.Ns b m → (hidT z.heap G).Ns b m := by
      rintro b m ⟨u, es, ep, e, hdat, r⟩
      refine ⟨u, es, ep, keepB e fun same => ?_, hdat, r⟩
      rw [same, isl] at e
      cases e
      exact nomatch hdat
    have kB : (K w.params).In (hidT z.heap G) := by
      intro b u e
      cases hG : G b with
      | none => exact hidT_get (KX b u e) hG
      | some v =>
        have same : b = a := Classical.byContradiction fun ne => by rw [alone b ne] at hG; cases hG
        subst same
        rw [outside (by rw [hG]; simp)] at e
        cases e
    have mod : Mod (K w.params) mg (hidT z.heap G) :=
      ⟨kB, nsB ground.T.g, ⟨mb, nsB ground.T.b, ground.T.builtins⟩, let ⟨mc, i1, i2⟩ := ground.T.nolimit; ⟨mc, nsB i1, i2⟩⟩
    have e0 : Env0 l.prog w (K w.params) mg (hidT z.heap G) callerA [] z G :=
      { frames := rfl, mod := mod, bs := fun _ _ e => of_hidT e, bsz := Nat.le_of_eq (hidT_size _ _), funs := trivial, frf := fun b no => (nomatch no), hok := ok, bare := .of_eq gens }
    refine codeAny_mono ((F _ kB (nsB ground.T.g)).goes callerA [] z G _ [.ref a] [.ref a] _ _ rfl room e0 (bind z (.ref a)) (.cons rfl .nil) (asks w G a ns few only isS)) ?_
    intro end1 z2 hq
    cases end1 with
    | error _ => exact False.elim hq
    | ok fl => cases fl with
      | next => exact False.elim hq
      | brk => exact False.elim hq
      | cont => exact False.elim hq
      | ret u =>
        obtain ⟨v, G', os, bare, un, ok', rv, isT⟩ := hq
        obtain rfl : v = .bl true := isT
        obtain rfl : u = Value.bool true := rv
        refine ⟨rfl, OldK.of_keep fun b u e => ?_, os, bare⟩
        cases hG : G b with
        | none => exact un.keep b u e hG (fun no => nomatch no) (fun no => nomatch no)
        | some v =>
          cases only b with
          | inl no => rw [hG] at no; cases no
          | inr lock =>
            obtain ⟨ob, ys, lock⟩ := lock
            have one := (ok b _ lock).1
            rw [e] at one
            cases one
            exact (ok' b _ (un.frzs b _ _ lock)).1
  cases hK : (K w.params).lookup a with
  | none =>
    let G : Hp := fun b => if b = a then some (.frz { cls := .type "list", data := .seq vs.toArray } (.lst (ns.map V.int))) else none
    have at_a : G a = some (.frz { cls := .type "list", data := .seq vs.toArray } (.lst (ns.map V.int))) := if_pos rfl
    have off : ∀ b, b ≠ a → G b = none := fun b ne => if_neg ne
    refine core G (fun b => ?_) (.inl (.inr ⟨_, at_a⟩)) (fun b u hG => ?_) off fun _ => hK
    · by_cases ne : b = a
      · subst ne; exact .inr ⟨_, _, at_a⟩
      · exact .inl (off b ne)
    · by_cases ne : b = a
      · subst ne
        rw [at_a] at hG
        cases hG
        exact ⟨isl, by rw [List.length_map]; exact few', vs, _, rel, isl⟩
      · rw [off b ne] at hG
        cases hG
  | some o2 =>
    have own := KX a o2 hK
    rw [isl] at own
    cases own
    exact core (fun _ => none) (fun _ => .inl rfl) (.inr ⟨_, vs.toArray, _, hK, rfl, rfl, rfl, by rw [List.size_toArray, lenV]; exact few', by simpa using rel⟩)
      (fun b u no => nomatch no) (fun _ _ => rfl) (fun no => absurd rfl no)
end Gd

/-! == and != where the left side is an instance whose class has an own __eq__ (and no own __ne__): both answers, beside anything. -/
namespace Oe
open PySem PySem.Spec PyProof.Rows L2 Dr
section
variable {prog : Program} {w : World} {A : Around} {E : Value → Shared → Prop} {z : Shared} {K : PySem.W.Frag} {x C f : Addr} {ox : Obj} {od : Option Obj} {b : Value}
/-- a found builtin is called as a special method -/
theorem special_blt {M : Model} {name : Str} {id : String} {as : List Value} {Q : Option Value → Shared → Prop} (inK : K.In z.heap) (I : PySem.W.InstAt z.heap x ox C od)
    (found : PySem.W.findIn K (.ref C) name = some (some (.builtin id))) (plain : bindSpecial (.builtin id) (.ref x) = pure (.builtin id, [.ref x]))
    (go : wpAny M A (call (.builtin id) (.ref x :: as)) (fun v => Q (some v)) E z) : wpAny M A (callSpecialIfBound? (.ref x) name as) Q E z := by
  unfold callSpecialIfBound? bindSpecialIfBound?
  apply wpAny_holding
  apply wpAny_bind
  apply wpAny_bind
  apply wpAny_bind
  refine I.type.here ((PySem.W.looks_findIn inK found).here ?_)
  apply wpAny_bind
  apply wpAny_askSetting
  apply wpAny_ite
  have fin : wpAny M A (call (.builtin id) ([.ref x] ++ as) >>= fun v => pure (some v)) Q E z := wpAny_bind (wpAny_mono go (fun _ _ q => wpAny_pure q) fun _ _ q => q)
  split
  · exact wpAny_bind ((PySem.W.Looks.of_pure plain).here (wpAny_pure (by exact fin)))
  · exact wpAny_tryCatch (wpAny_bind ((PySem.W.Looks.of_pure plain).here (wpAny_pure (by exact fin))))
/-- object.__ne__ asks the own __eq__ -/
theorem object_ne {Q : Value → Shared → Prop} (inK : K.In z.heap) (I : PySem.W.InstAt z.heap x ox C od) (isO : PySem.W.mroIn K C (.type "object") = some true)
    (found : PySem.W.findIn K (.ref C) "__eq__" = some (some (.ref f))) (isF : PySem.W.isFn K (.ref f) = true) (room : A.units + 2 < cLine)
    (go : wpAny (model prog w) A.in1 (call (.ref f) [.ref x, b]) (fun v s' => ∃ r, v = .bool r ∧ Q (.bool (!r)) s') E z) :
    wpAny (model prog w) A (call (.builtin "object.__ne__") [.ref x, b]) Q E z := by
  have sub : PySem.W.Looks (model prog w) z.heap (isInstance (.ref x) (.type "object")) true := I.type.andThen (PySem.W.looks_mroIn inK isO)
  apply wpAny_call
  apply codeAny_call_builtin PySem.F.cmp_object.ne.plain PySem.F.cmpEntry_ne
  refine PySem.W.check_slot (self := .ref x) (rest := [b]) (kw := []) PySem.F.cmpKind_ne PySem.F.cmpSplit_ne sub (PySem.F.cmpArgs_ne _ _) ?_
  unfold Builtin.«object.__ne__»
  have run : wpAny (model prog w) A.in1 (callSpecialIfBound? (.ref x) (Str.ofString "__eq__") [b]) (fun v s' => ∃ r, v = some (.bool r) ∧ Q (.bool (!r)) s') E z :=
    PySem.W.ifBound_K inK I found isF (wpAny_mono go (fun v s' ⟨r, e, q⟩ => ⟨r, by rw [e], q⟩) fun _ _ q => q)
  repeat (first
    | with_reducible refine wpAny_cRoomFor (show A.in1.units < cLine from by show A.units + 1 < cLine; omega) ?_
    | (refine wpAny_bind (m := callSpecialIfBound? (.ref x) (Str.ofString "__eq__") [b]) (wpAny_mono run (fun v s' hv => ?_) fun _ _ q => q))
    | wp_step)
  obtain ⟨r, rfl, q⟩ := hv
  repeat (first | exact q | exact wpAny_pure q | exact wpAny_truthy_bool q | (refine wpAny_bind (m := truthy (.bool _)) (wpAny_truthy_bool ?_)) | wp_step)
/-- x != b, x an instance with its own __eq__ -/
theorem rc_ne {Q : Value → Shared → Prop} {tb : Value} (inK : K.In z.heap) (I : PySem.W.InstAt z.heap x ox C od) (isO : PySem.W.mroIn K C (.type "object") = some true)
    (none_ : PySem.W.findIn K (.ref C) "__ne__" = some (some (.builtin "object.__ne__"))) (found : PySem.W.findIn K (.ref C) "__eq__" = some (some (.ref f))) (isF : PySem.W.isFn K (.ref f) = true)
    (right : PySem.W.Looks (model prog w) z.heap (typeOf b) tb) (first : PySem.W.notFirst K C tb = true) (room : A.units + 3 < cLine)
    (go : wpAny (model prog w) A.in1 (call (.ref f) [.ref x, b]) (fun v s' => ∃ r, v = .bool r ∧ Q (.bool (!r)) s') E z) :
    wpAny (model prog w) A (richCompare .NotEq (.ref x) b) Q E z := by
  have one : wpAny (model prog w) A (tryCompare (.ref x) (cmpInfo .NotEq).2.1 b) (fun o s' => ∃ r, o = some (.bool (!r)) ∧ Q (.bool (!r)) s') E z := by
    unfold tryCompare
    apply wpAny_bind
    refine special_blt inK I none_ (PySem.F.cmp_object.ne.bind _) (object_ne inK I isO found isF (by omega) (wpAny_mono go (fun v s' ⟨r, e, q⟩ => ⟨r, e, ?_⟩) fun _ _ q => q))
    exact wpAny_pure ⟨r, rfl, q⟩
  unfold richCompare
  simp only [oneThing_ref]
  apply wpAny_holding
  apply wpAny_bind
  refine wpAny_cRoomFor (by omega) ?_
  apply wpAny_bind
  refine I.type.here ?_
  apply wpAny_bind
  refine right.here ?_
  split
  · rename_i differ
    have below : PySem.W.subIn K tb (.ref C) = some false := by
      cases Bool.or_eq_true_iff.mp first with
      | inl e => rw [beq_iff_eq.mp e] at differ; simp at differ
      | inr e => exact beq_iff_eq.mp e
    apply wpAny_bind
    refine (PySem.W.looks_subIn inK below).here ?_
    simp only [Bool.false_eq_true, if_false]
    apply wpAny_bind
    refine wpAny_mono one (fun o s' ⟨r, e, q⟩ => ?_) fun _ _ q => q
    subst e
    exact wpAny_pure q
  · apply wpAny_bind
    apply wpAny_pure
    simp only [Bool.false_eq_true, if_false]
    apply wpAny_bind
    refine wpAny_mono one (fun o s' ⟨r, e, q⟩ => ?_) fun _ _ q => q
    subst e
    exact wpAny_pure q
end
section
variable {X : Cx} {k : Nat} {C f : Addr} {fd : FuncData} {ps : List Str} {sp : Sp}
/-- what a class with an own __eq__ says of itself -/
structure OwnEq (K : PySem.W.Frag) (C f : Addr) : Prop where
  eq : PySem.W.findIn K (.ref C) "__eq__" = some (some (.ref f))
  ne : PySem.W.findIn K (.ref C) "__ne__" = some (some (.builtin "object.__ne__"))
  fn : PySem.W.isFn K (.ref f) = true
  ob : PySem.W.mroIn K C (.type "object") = some true
/-- left.__eq__(right), asked by its promise -/
def rOwn (K : PySem.W.Frag) (C : Addr) (sp : Sp) (g : Bool → Bool) : R2 := fun x y H Q => ∃ a dx fs t, x = .ref a ∧ H a = some (.ins C dx fs) ∧ TyX K H y t ∧ PySem.W.notFirst K C t = true ∧
  sp [x, y] H (fun v H' => ∃ b, v = .bl b ∧ Q (.bl (g b)) H') E0
theorem own_run {A : Around} {pins : List (Addr × Obj)} {σ : L2.St} {H : Hp} {s : Shared} {Q : VK} {x : Addr} {y : V} {u : Value} (F : FnOk X.prog X.w X.K X.mg X.base CX0 k f fd ps sp) (hr : Room k A) (fr : A.frames = X.A.frames) (hb : L2.Binds X.K fd ps []) (I : Inv X pins σ H s) (ry : RelV y u)
    (q : sp [.ref x, y] H Q E0) : wpAny (model X.prog X.w) A (call (.ref f) [.ref x, u]) (EP X pins σ Q) X.xe s := by
  have old := I.env0
  have e0 : Env0 X.prog X.w X.K X.mg X.base A X.stack s H :=
    { frames := fr.trans old.frames, mod := old.mod, bs := old.bs, bsz := old.bsz, funs := old.funs, frf := old.frf, hok := old.hok, bare := old.bare }
  have two : Vals [V.ref x, y] [Value.ref x, u] := .cons rfl (.cons ry .nil)
  have many : [Value.ref x, u].length = ps.length := two.length ▸ F.len _ _ _ _ q
  have bind := hb s [.ref x, u] I.kIn (by simpa using many)
  apply wpAny_call (codeAny_mono (F.run A X.stack s H ⟨[.ref x, u], []⟩ [.ref x, u] [.ref x, y] Q E0 hr e0 (by simpa using bind) two q) ?_)
  intro end1 z2 hq
  cases end1 with
  | error _ => exact False.elim hq
  | ok fl => cases fl with
    | ret _ => exact I.after hq
    | next => exact False.elim hq
    | brk => exact False.elim hq
    | cont => exact False.elim hq
theorem op_eqO (O : OwnEq X.K C f) (F : FnOk X.prog X.w X.K X.mg X.base CX0 k f fd ps sp) (hr : Room k X.A) (hb : L2.Binds X.K fd ps []) : OpR X (compareOp .Eq) (rOwn X.K C sp id) := by
  rintro pins s σ H x y v u Q I rx ry ⟨a, dx, fs, t, rfl, ha, ty, first, q⟩
  cases rx
  obtain ⟨mA, J, _⟩ := ins_get I.hok ha
  obtain ⟨od, J, _⟩ := J.look
  obtain ⟨m, hF⟩ := I.fr
  obtain ⟨P, kit, p, _⟩ := kit_of I ry ty
  show wpAny (model X.prog X.w) X.A (richCompare .Eq (.ref a) u) (EP X pins σ Q) X.xe s
  refine PySem.W.cmp_K (op := .Eq) (tb := t) (by have := hr.un; omega) hF I.ok.mod.kin J (kit.ty _ _ I.kIn p) first O.eq O.fn ?_
  refine wpAny_mono (own_run F hr rfl hb I ry q) (fun r s' hq => ?_) fun _ _ q => q
  obtain ⟨v, H', I', rv, b, rfl, q⟩ := hq
  cases rv
  exact ⟨.bl b, H', I', rfl, q⟩
theorem op_neO (O : OwnEq X.K C f) (F : FnOk X.prog X.w X.K X.mg X.base CX0 k f fd ps sp) (hr : Room (k + 1) X.A) (hb : L2.Binds X.K fd ps []) : OpR X (compareOp .NotEq) (rOwn X.K C sp not) := by
  rintro pins s σ H x y v u Q I rx ry ⟨a, dx, fs, t, rfl, ha, ty, first, q⟩
  cases rx
  obtain ⟨mA, J, _⟩ := ins_get I.hok ha
  obtain ⟨od, J, _⟩ := J.look
  obtain ⟨P, kit, p, _⟩ := kit_of I ry ty
  show wpAny (model X.prog X.w) X.A (richCompare .NotEq (.ref a) u) (EP X pins σ Q) X.xe s
  refine rc_ne I.kIn J O.ob O.ne O.eq O.fn (kit.ty _ _ I.kIn p) first (by have := hr.un; omega) ?_
  refine wpAny_mono (own_run F hr.in1 rfl hb I ry q) (fun r s' hq => ?_) fun _ _ q => q
  obtain ⟨v, H', I', rv, b, rfl, q⟩ := hq
  cases rv
  exact ⟨b, rfl, .bl (!b), H', I', rfl, q⟩
end
end Oe

/-! An exception that is kept behind its except suite: it is tracked from there on. -/
namespace Ek
open PySem PySem.Spec PyProof.Rows L2
/-- an exception of the class cls, with its own dict at d, at a -/
def ExK (cls : Value) (d : Option Addr) (a : Addr) : HO := .ext fun h => ∃ (oe : Obj) (vs : Array Value), h.get? a = some oe ∧ Zc cls d oe ∧ oe.data = .fields vs
theorem exK_ok {P : Program} {w : World} {H : Hp} {h : Heap} {a : Addr} {cls : Value} {d : Option Addr} {oe : Obj} {vs : Array Value} (e : h.get? a = some oe) (z : Zc cls d oe) (f : oe.data = .fields vs) : ObjOk P w H h a (ExK cls d a) :=
  ⟨⟨oe, vs, e, z, f⟩, ⟨oe, e⟩, fun _ _ ⟨o, v, q, r⟩ k => ⟨o, v, k o q, r⟩⟩
section
variable {X : Cx} {pins : List (Addr × Obj)} {σ : L2.St} {H : Hp} {s : Shared}
/-- an object that is there, and new to this call, is tracked from now on -/
theorem track {a : Addr} {o : HO} {oe : Obj} {vs : Array Value} (I : L2.Inv X pins σ H s) (there : s.heap.get? a = some oe) (flds : oe.data = .fields vs) (free : H a = none) (new : X.s_0.heap.get? a = none) (noL : a ≠ X.env.locals)
    (noP : ∀ p ∈ X.pn ++ pins, p.1 ≠ a) (good : ObjOk X.prog X.w (upd H a o) s.heap a o) : L2.Inv X pins σ (upd H a o) s := by
  have off : ∀ b, b ≠ a → upd H a o b = H b := fun b ne => upd_ne ne
  have cells : ∀ x c, X.env.cells.lookup x = some c → c ≠ a := by
    rintro x c look rfl
    obtain ⟨v, u, hu, hv⟩ := I.cell x c look
    rw [there] at hu
    cases hu
    rw [flds] at hv
    cases hv
  have was : ∀ b u, X.s_0.heap.get? b = some u → b ≠ a := by
    rintro b u q rfl
    rw [new] at q
    cases q
  have B := I.base
  refine { ok := I.ok, os := I.os, bare := I.bare, base := ?_, loc := I.loc, cell := I.cell, free := (off _ noL.symm).trans I.free, freeC := fun x c q => (off _ (cells x c q)).trans (I.freeC x c q),
           pin := fun p hp => ?_, hok := HOk.laidN I.hok (fun _ _ q => q) free good, len := I.len }
  · refine { keep := B.keep, slot := B.slot, free := fun b u q n x => (off b (was b u q)).trans (B.free b u q n x), there := B.there, tups := fun b xs q => ?_, frzs := fun b u v q => ?_, tbls := fun b ps q => ?_ }
    · have z := B.tups b xs q
      exact (off b (ne_of_none z free)).trans z
    · have z := B.frzs b u v q
      exact (off b (ne_of_none z free)).trans z
    · obtain ⟨m, z⟩ := B.tbls b ps q
      exact ⟨m, (off b (ne_of_none z free)).trans z⟩
  · obtain ⟨p1, p2, p3, p4, p5⟩ := I.pin p hp
    exact ⟨p1, (off _ (noP p hp)).trans p2, p3, p4, p5⟩
end
/-- what 'except c as n: suite' wishes, if the exception is kept: behind the suite it is tracked -/
def wKeep (K : PySem.W.Frag) (c : Value) (i : Nat) (ts : Addr → Value → Option Addr → TS) (Wout : WX) (D : Ends) : WX := fun cls d σ H => ∃ b, PySem.W.exmOne K cls c = some b ∧
  (b = true → ∀ a, H a = none → ts a cls d { nx := fun σ' H' => H' a = none → D.nx (σ'.set i none) (upd H' a (ExK cls d a)), rt := fun _ _ => False, bk := fun _ _ => False, ct := fun _ _ => False } (σ.set i (some (.ref a))) H) ∧
  (b = false → Wout cls d σ H)
section
variable {X : Cx} {x n : Str} {c : Value} {i : Nat} {body suite : List Stmt} {b₀ : Stmt} {np pos pos' : Pos} {tb : WX → TS} {ts : Addr → Value → Option Addr → TS} {Wout : WX}
theorem ps_try_keep (own : X.stack = X.env :: X.outer) (fr : X.env.frame = some X.env.locals) (once : X.N.Nodup) (slot : X.N[i]? = some n) (local_ : X.env.kindOf n = some .local) (names : Names X x c) (out : Takes X Wout) (noEx : X.ex = [])
    (inBody : ∀ (W : WX) (pn : List (Addr × Obj)) (xe : Value → Shared → Prop), Takes (X.tr pn xe) W → PassesOwn (model X.prog X.w) X.A X.env xe → PSs (X.tr pn xe) body (tb W))
    (inSuite : ∀ (a : Addr) (oe : Obj) (cls : Value) (d : Option Addr) (pn : List (Addr × Obj)), Zc cls d oe → (∃ vs, oe.data = .fields vs) → PSs (X.suite a ((a, oe) :: pn)) (b₀ :: suite) (ts a cls d)) :
    PS X (.Try body [.ExceptHandler (some (.Name x np)) (some n) (b₀ :: suite) pos'] [] [] pos) (fun D σ H => tb (wKeep X.K c i ts Wout D) D σ H) := by
  constructor
  intro pins s σ H D I asks
  have ok := I.ok
  have frames : X.A.frames = some (X.env :: X.outer) := by rw [ok.frames, own]
  apply wpAny_Try_except
  have inside := inBody (wKeep X.K c i ts Wout D) (X.pn ++ pins) (fun e s₁ => wpAny (model X.prog X.w) X.A (noteFrame e X.env) (fun _ s₂ => wpAny (model X.prog X.w) X.A (setFlight e none) (fun _ s₃ =>
    wpAny (model X.prog X.w) X.A (handleBy e X.env [.ExceptHandler (some (.Name x np)) (some n) (b₀ :: suite) pos']) (SP X pins D) X.xe s₃) X.xe s₂) X.xe s₁) ?takes PassesOwn.looking
  case takes =>
    rintro u s' ⟨a, B, sI, pins', σ', H', cls, d, rfl, J', nb, up, sky, na, os, ag, b, is, yes, no⟩
    have J : L2.Inv X pins σ' H' sI := J'.ofTry ok
    have sky : Sky B (X.env :: X.outer) a (Zc cls d) X.env.locals s'.heap := by rw [← own]; exact sky
    refine Sky.land Zc.steady frames fr sky fun h3 fl3 up3 => ?_
    have J3 : L2.Inv X pins σ' H' { s' with heap := h3 } := J.landed nb fl3.1 (up.trans up3) os ag
    obtain ⟨oe3, vs3, he3, hz3, hd3⟩ := fl3.there
    have noFrame : a ∉ frs (X.env :: X.outer) := by
      intro mem
      obtain ⟨_, o', e', differ⟩ := fl3.2.2.1.mem mem
      rw [he3] at e'
      cases e'
      exact differ _ hd3
    have noL : a ≠ X.env.locals := fun z => noFrame (List.mem_filterMap.mpr ⟨X.env, List.mem_cons_self, by rw [fr, z]⟩)
    have noF : a ∉ X.fs := by
      intro mem
      obtain ⟨e, he, q⟩ := List.mem_filterMap.mp mem
      exact noFrame (List.mem_filterMap.mpr ⟨e, List.mem_cons_of_mem _ he, q⟩)
    have ground : B.get? a = none := fl3.2.1
    have fresh : ∀ u, sI.heap.get? a = some u → False := fun u q => by
      have z := nb a u q (by rw [own]; exact noFrame)
      rw [ground] at z
      cases z
    have new0 : X.s_0.heap.get? a = none := by
      cases q : X.s_0.heap.get? a with
      | none => rfl
      | some u =>
        obtain ⟨u', q'⟩ := J.base.there a u q (by rw [noEx]; exact fun z => nomatch z)
        exact (fresh _ q').elim
    have noP : ∀ p ∈ X.pn ++ pins, p.1 ≠ a := by
      rintro p hp z
      have q := (J.pin p hp).1
      rw [z] at q
      exact fresh _ q
    have S3 := J3.suite he3 hd3 na noL noF
    apply wpAny_handleBy_cons (codeAny_handlers_test ?_) (by intro q; cases q)
    have typ : PySem.W.Looks (model X.prog X.w) h3 (typeOf (.ref a)) cls := fun A Q E s k q => wpAny_typeOf_ref (k _ _ he3) (by rw [hz3.1]; exact q)
    have match_ := PySem.W.exm_one (M := model X.prog X.w) (J3.kIn) typ is
    have named : ∀ {Q : Value → Shared → Prop} {E : Value → Shared → Prop}, Q c { s' with heap := h3 } →
        wpAny (model X.prog X.w) (X.A.mark (some (.ref a))) (eval (.Name x np) X.env) Q E { s' with heap := h3 } := by
      intro Q E q
      obtain ⟨glob, dbg, way⟩ := names
      rcases way with m | ⟨m, v, nn⟩
      · exact ld_glob (X := X.suite a ((a, oe3) :: (X.pn ++ pins))) S3 glob m q dbg
      · exact ld_blt (X := X.suite a ((a, oe3) :: (X.pn ++ pins))) S3 glob m v q nn dbg
    refine named (match_.here ?_)
    cases b with
    | true =>
      apply codeAny_handlers_suite_as
      refine HandSPX.lands_againZ fl3 fun h4 fl4 up4 => ?_
      have J4 : L2.Inv X pins σ' H' { s' with heap := h4 } := J.landed nb fl4.1 ((up.trans up3).trans up4) os ag
      obtain ⟨oe4, vs4, he4, hz4, hd4⟩ := fl4.there
      have S4 := J4.suite he4 hd4 na noL noF
      refine store_ok (X := X.suite a ((a, oe4) :: (X.pn ++ pins))) (v := .ref a) S4 once slot (.inl local_) rfl (fun s5 S5 => ?_) (.inr local_)
      have run := (inSuite a oe4 cls d (X.pn ++ pins) hz4 ⟨_, hd4⟩).run [] s5 _ H' _ S5 (yes rfl a na)
      refine wpAny_mono run (fun f s6 hsp => ?_) (fun _ _ z => False.elim z)
      cases f with
      | next =>
        obtain ⟨σ6, H6, S6, q6⟩ := hsp
        obtain ⟨pa, pb, pc, pd, pe⟩ := S6.pin (a, oe4) (List.mem_append_left _ List.mem_cons_self)
        have S7 : L2.Inv X ((a, oe4) :: pins) σ6 H6 s6 := (S6.unsuite ok).pins_of fun p hp => by
          rcases List.mem_cons.mp hp with rfl | hp
          · exact ⟨pa, pb, pc, pd, pe⟩
          · exact (S6.unsuite ok).pin p (List.mem_append_right _ hp)
        refine gone_ok S7 once slot local_ fun s7 J7 => ?_
        obtain ⟨ra, rb, _, _, _⟩ := J7.pin (a, oe4) (List.mem_append_right _ List.mem_cons_self)
        have J8 : L2.Inv X pins (σ6.set i none) H6 s7 := J7.pins_of fun p hp => J7.pin p (List.mem_append_right _ (List.mem_cons_of_mem _ hp))
        exact ⟨_, _, track J8 ra hd4 rb new0 noL noP (exK_ok ra hz4 hd4), q6 pb⟩
      | brk => obtain ⟨_, _, _, no6⟩ := hsp; exact False.elim no6
      | cont => obtain ⟨_, _, _, no6⟩ := hsp; exact False.elim no6
      | ret u => obtain ⟨_, _, _, _, _, no6⟩ := hsp; exact False.elim no6
    | false =>
      show wpAny _ X.A (handleBy (.ref a) X.env []) _ _ _
      apply wpAny_handleBy_nil
      obtain ⟨k1, k2, k3, oe, vs, T, oT, ts', he, hz, hd, h1, hr⟩ := id fl3
      unfold PySem.passOn
      refine wpAny_bind (wpAny_field he hd h1 ?_)
      rw [if_neg (show ¬ ((Value.ref T == Value.none) = true) from fun z => by cases z)]
      have fin : wpAny (model X.prog X.w) X.A (setFlight (.ref a) X.env.frame) (fun _ s4 => wpAny (model X.prog X.w) X.A (throw (.ref a) : Sem Flow) (SP X pins D) X.xe s4) X.xe { s' with heap := h3 } := by
        rw [fr]
        refine HandSPX.setFlight_upZ fl3 fun h4 hh4 up4 => wpAny_throw (out _ _ ?_)
        exact ⟨a, B, sI, pins, σ', H', cls, d, rfl, J, nb, (up.trans up3).trans up4, .inr (.inr (by rw [own]; exact hh4)), na, os, ag, no rfl⟩
      first
        | exact wpAny_bind (wpAny_pure (wpAny_bind fin))
        | exact wpAny_bind fin
  refine wpAny_mono (inside.run [] s σ H D (I.toTry _) asks) (fun f s1 hsp => ?_) (fun _ _ he => he)
  cases f with
  | next => obtain ⟨σ', H', J', q⟩ := hsp; exact wpAny_execs_nil ⟨σ', H', J'.ofTry ok, q⟩
  | brk => obtain ⟨σ', H', J', q⟩ := hsp; exact ⟨σ', H', J'.ofTry ok, q⟩
  | cont => obtain ⟨σ', H', J', q⟩ := hsp; exact ⟨σ', H', J'.ofTry ok, q⟩
  | ret u => obtain ⟨v, σ', H', J', r, q⟩ := hsp; exact ⟨v, σ', H', J'.ofTry ok, r, q⟩
end
end Ek

/-! What is asked of a kept exception: its class, its fields. -/
namespace Ek
open PySem PySem.Spec PyProof.Rows L2
/-- the own dict of a kept exception, as far as it is tracked -/
def OwnD (H : Hp) (d : Option Addr) (fs : List (Str × V)) : Prop := (d = none ∧ fs = []) ∨ ∃ dd, d = some dd ∧ H dd = some (.xd fs)
section
variable {X : Cx}
theorem inst_kept {pins : List (Addr × Obj)} {σ : L2.St} {H : Hp} {s : Shared} {a D : Addr} {d : Option Addr} {fs : List (Str × V)} (I : L2.Inv X pins σ H s) (ha : H a = some (ExK (.ref D) d a)) (hd : OwnD H d fs) :
    ∃ oe od, PySem.W.InstAt s.heap a oe D od ∧ (∀ (n : Str) (v : V), fs.lookup n = some v → ∃ o u, od = some o ∧ PySem.W.lookIn n o = some (some u) ∧ L2.RelV v u) := by
  obtain ⟨⟨oe, vs, there, ⟨cls, dict⟩, flds⟩, _, _⟩ := I.hok a _ ha
  have no : PySem.W.notCls oe = true := by unfold PySem.W.notCls; rw [flds] <;> rfl
  rcases hd with ⟨rfl, rfl⟩ | ⟨dd, rfl, hdd⟩
  · exact ⟨oe, none, ⟨there, cls, no, by rw [dict]; trivial⟩, fun n v q => by simp at q⟩
  · obtain ⟨mA, hns, rel⟩ := (show ObjOk X.prog X.w H s.heap dd (.xd fs) from I.hok dd _ hdd)
    obtain ⟨o, ho, look⟩ := lookIn_ns hns
    refine ⟨oe, some o, ⟨there, cls, no, by rw [dict]; exact ho⟩, fun n v q => ?_⟩
    obtain ⟨u, hu, ru⟩ := RelO.some_of (v := v) (o := mA n) (by rw [← q]; exact rel n)
    exact ⟨o, u, rfl, by rw [look, hu], ru⟩
/-- isinstance(error, c) of a kept exception -/
def rIsK (K : PySem.W.Frag) (D : Addr) : List V → Hp → VK → Prop := fun xs H Q => ∃ (a : Addr) (d : Option Addr) (fs : List (Str × V)) (c : V) (u : Value) (b : Bool), xs = [.ref a, c] ∧ H a = some (ExK (.ref D) d a) ∧ OwnD H d fs ∧ ClsV c u ∧
  PySem.W.kitOne K (.ref D) u = some b ∧ Q (.bl b) H
theorem call_isK {D : Addr} (C : ExcC X.K D) (cl : PySem.W.isClsIn X.K D = true) : CallR X (.builtin "isinstance") (rIsK X.K D) := by
  rintro pins s σ H xs us Q I rel ⟨a, d, fs, c, u, b, rfl, ha, hd, cv, kit, q⟩
  obtain ⟨u1, u2, rfl, r1, r2⟩ := vals2 rel
  cases r1
  have same := cv.eq r2
  subst same
  obtain ⟨oe, od, J, _⟩ := inst_kept I ha hd
  exact PySem.W.kia_one (PySem.W.kitx_exc cl C.hg C.hk C.hs C.ha C.hn C.ht C.hm) I.kIn J kit (fun z => nomatch z) fun tk => ⟨.bl b, H, I.tok tk, rfl, q⟩
/-- error.n of a kept exception -/
def tFk (C : Addr) (n : Str) (te : TE) : TE := fun σ H Q => te σ H fun x H1 => ∃ (a : Addr) (d : Option Addr) (fs : List (Str × V)) (v : V), x = .ref a ∧ H1 a = some (ExK (.ref C) d a) ∧ OwnD H1 d fs ∧ fs.lookup n = some v ∧ Q v H1
theorem pe_fk {C : Addr} {e : Expr} {te : TE} {pos : Pos} {n : Str} (T : XfC X.K C) (none_ : PySem.W.findIn X.K (.ref C) n = some none) (he : PE X e te) (base : attributeBase e n X.env (eval e X.env) = eval e X.env := by rfl) :
    PE X (.Attribute e n pos) (tFk C n te) := by
  constructor
  intro pins s σ H Q I h
  apply attr_of base
  apply thn (he.run pins s σ H _ I h)
  rintro u s1 ⟨x, H1, I1, rx, a, d, fs, v, rfl, ha, hd, look, q⟩
  cases rx
  obtain ⟨oe, od, J, own⟩ := inst_kept I1 ha hd
  obtain ⟨o, w, rfl, lk, rw_⟩ := own n v look
  exact HandSPX.exc_get I1.kIn J T.ga T.gg T.exC (PySem.W.findObj_own T.hdC none_ rfl lk) (handed_of rw_) ⟨v, H1, I1.tok _, rw_, q⟩
end
end Ek

/-! found = None / try: act() / except C as error: found = error / return found: what it makes of the lambda that it got. -/
namespace Ek
open PySem PySem.Spec PyProof.Rows L2
/-- what is caught is kept and handed back; None where nothing is raised -/
def TTc (K : PySem.W.Frag) (CT : Addr) : (XK → Hp → VK → Prop) → Hp → VK → Prop := fun tl H Q =>
  tl (fun cls d H' => PySem.W.exmOne K cls (.ref CT) = some true ∧ ∀ a, H' a = none → Q (.ref a) (upd H' a (ExK cls d a))) H (fun _ H' => Q .non H')
def caughtScope (act found error C : Str) : Scope := { kind := .function, names := [(act, .local), (found, .local), (error, .local), (C, .globalImplicit)], isGenerator := false, isCoroutine := false }
theorem takes_len {X : Cx} {W : WX} (t : Takes X W) : Takes X (fun cls d σ H => σ.length = X.N.length → W cls d σ H) := by
  rintro u s' ⟨a, B, sI, pins, σ, H, cls, d, e, I, nb, up, sky, na, os, ag, w⟩
  exact t u s' ⟨a, B, sI, pins, σ, H, cls, d, e, I, nb, up, sky, na, os, ag, w I.len⟩
theorem caught_gives {X : Cx} {q : Str} {g CT : Addr} {cdg : Value} {p1 p2 p3 p4 p5 p6 p7 p8 p9 p10 p11 p12 p13 p14 : Pos} {j : Nat} (here : X.mg "TapError" = some (.ref CT)) :
    LamX.GivesTo X ["act", "found", "error"] "_law_caught" (caughtScope "act" "found" "error" "TapError") g cdg
      [.Assign [.Name "found" p1] (.Constant .none j p2) p3,
       .Try [.Expr (.Call (.Name "act" p4) [] [] p5) p6] [.ExceptHandler (some (.Name "TapError" p7)) (some "error") [.Assign [.Name "found" p8] (.Name "error" p9) p10] p11] [] [] p12,
       .Return (some (.Name "found" p13)) p14] "act" q (TTc X.K CT) := by
  intro f c' s H Q tl act hc h
  have nd : (["act", "found", "error"] : List Str).Nodup := by decide +kernel
  have glob : Gl (cxOf C8.CX0 X.prog X.w X.K X.mg X.base ["act", "found", "error"] "_law_caught" (caughtScope "act" "found" "error" "TapError") g cdg X.A X.stack s H C8.E0).nox "TapError" := by rfl
  refine ⟨_, pss_cons (ps_set (i := 1) nd rfl (Or.inl rfl) pe_non)
    (pss_cons (ps_try_keep (X := (cxOf C8.CX0 X.prog X.w X.K X.mg X.base ["act", "found", "error"] "_law_caught" (caughtScope "act" "found" "error" "TapError") g cdg X.A X.stack s H C8.E0).nox) (i := 2) (c := .ref CT)
      (tb := fun W D σ H => ∃ Ech : XK, (∀ cls d σ' H', Ech cls d H' → σ'.length = 3 → W cls d σ' H') ∧ σ[0]? = some (some (.ref f)) ∧ H c' = some (LamX.CodeO c' q) ∧ tl Ech H (fun _ H' => D.nx σ H'))
      rfl rfl nd rfl rfl ⟨glob, by decide, .inl here⟩ LamX.takes0 rfl (fun W pn xe tk _ => ?_)
      (fun a oe cls d pn _ _ => pss_one (ps_set (i := 1) nd rfl (Or.inl rfl) (pv 2))))
    (pss_one (ps_ret (pv 1)))), ?_⟩
  · constructor
    intro pins s' σ H' D I h'
    obtain ⟨Ech, hW, h1, h2, h3⟩ := h'
    have hp := act (fun cls d σ H => σ.length = 3 → W cls d σ H) pn xe Ech p4 p5 (takes_len tk) hW
    exact (pss_one (ps_expr (pos := p6) hp)).run pins s' σ H' D I ⟨h1, h2, h3⟩
  · refine ⟨fun cls d H' => PySem.W.exmOne X.K cls (.ref CT) = some true ∧ ∀ a, H' a = none → Q (.ref a) (upd H' a (ExK cls d a)), ?_, rfl, hc, ?_⟩
    · rintro cls d σ' H' ⟨is, keep⟩ len
      match σ', len with
      | [x, y, z], _ =>
        refine ⟨true, is, fun _ a na => ?_, fun no => nomatch no⟩
        exact ⟨.ref a, rfl, fun na' => ⟨.ref a, rfl, keep a na'⟩⟩
    · have h : tl (fun cls d H' => PySem.W.exmOne X.K cls (.ref CT) = some true ∧ ∀ a, H' a = none → Q (.ref a) (upd H' a (ExK cls d a))) H (fun _ H' => Q .non H') := h
      have same : (fun (_ : V) H' => ∃ v, ((L2.start ["act", "found", "error"] [V.ref f]).set 1 (some V.non))[1]? = some (some v) ∧ Q v H') = fun (_ : V) H' => Q .non H' := by
        funext v H'
        apply propext
        constructor
        · rintro ⟨v, e, q⟩
          cases Option.some.inj (Option.some.inj e)
          exact q
        · exact fun q => ⟨.non, rfl, q⟩
      show tl _ H (fun (_ : V) H' => ∃ v, ((L2.start ["act", "found", "error"] [V.ref f]).set 1 (some V.non))[1]? = some (some v) ∧ Q v H')
      rw [same]
      exact h
end Ek

/-! An evaluator over plain data; what it has to do with the abstract heap. Values by content, objects that may change by number. -/
namespace Ev
open PySem PySem.Spec PyProof.Rows L2 Dr

/-- plain values: frozen lists, dicts, instances by content; objects that may change by their numbers -/
inductive D where
  | non | bl (b : Bool) | int (i : Int) | str (x : Str) | tup (xs : List D) | lst (xs : List D) | dct (ks : List Key) (xs : List D) | tct (ks : List D) (xs : List D)
  | loc (n : Nat) | draw | fn (k : Nat) | ins (k : Nat) (fs : List D) | exn (k : Nat) (fs : List D)
/-- what stands at a number -/
inductive O where
  | lst (xs : List D) | dK (ks : List Key) (xs : List D) | tD (ks : List D) (xs : List D) | ins (k : Nat) (fs : List D) | dead
/-- the addresses of the store; those that may still change -/
structure Sto where
  a : List Addr
  l : List Addr
def Sto.nil : Sto := ⟨[], []⟩
def Sto.push (ρ : Sto) (p : Addr) : Sto := ⟨ρ.a ++ [p], ρ.l ++ [p]⟩
/-- all ways that the draws can take; an error leaves with its class, its fields, the store -/
inductive Tr (α : Type) where
  | ret (a : α) | bad | err (k : Nat) (fs : List D) (h : List O) | pick (n : Nat) (k : Nat → Tr α)
def Tr.bind {α β : Type} : Tr α → (α → Tr β) → Tr β
  | .ret a, f => f a
  | .bad, _ => .bad
  | .err k fs h, _ => .err k fs h
  | .pick n k, f => .pick n fun i => (k i).bind f
abbrev XP := Nat → List D → List O → Prop
def Tr.All {α : Type} (P : α → Prop) (X : XP) : Tr α → Prop
  | .ret a => P a
  | .bad => False
  | .err k fs h => X k fs h
  | .pick n k => ∀ i, i < n → (k i).All P X
theorem Tr.All.mono2 {α : Type} {P R : α → Prop} {X Y : XP} : ∀ {t : Tr α}, t.All P X → (∀ a, P a → R a) → (∀ k fs h, X k fs h → Y k fs h) → t.All R Y
  | .ret _, h, m, _ => m _ h
  | .bad, h, _, _ => h
  | .err _ _ _, h, _, m => m _ _ _ h
  | .pick _ _, h, m, m2 => fun i hi => Tr.All.mono2 (h i hi) m m2
theorem Tr.All.mono {α : Type} {P R : α → Prop} {X : XP} {t : Tr α} (h : t.All P X) (m : ∀ a, P a → R a) : t.All R X := h.mono2 m fun _ _ _ q => q
theorem Tr.all_bind {α β : Type} {P : β → Prop} {X : XP} {f : α → Tr β} : ∀ {t : Tr α}, (t.bind f).All P X ↔ t.All (fun a => (f a).All P X) X
  | .ret _ => Iff.rfl
  | .bad => Iff.rfl
  | .err _ _ _ => Iff.rfl
  | .pick n k => ⟨fun h i hi => Tr.all_bind.mp (h i hi), fun h i hi => Tr.all_bind.mpr (h i hi)⟩
/-- errors are not let out -/
def Tr.calm {α : Type} : Tr α → Tr α
  | .ret a => .ret a
  | .bad => .bad
  | .err _ _ _ => .bad
  | .pick n k => .pick n fun i => (k i).calm
theorem Tr.all_calm {α : Type} {P : α → Prop} {X : XP} {Y : XP} : ∀ {t : Tr α}, t.calm.All P X → t.All P Y
  | .ret _, h => h
  | .bad, h => h
  | .err _ _ _, h => False.elim h
  | .pick n k, h => fun i hi => Tr.all_calm (h i hi)
/-- a step over the store -/
abbrev M (α : Type) := List O → Tr (α × List O)
def M.ret {α : Type} (a : α) : M α := fun h => .ret (a, h)
def M.bad {α : Type} : M α := fun _ => .bad
def M.bind {α β : Type} (m : M α) (f : α → M β) : M β := fun h => (m h).bind fun r => f r.1 r.2
theorem M.all_bind {α β : Type} {P : β × List O → Prop} {X : XP} {m : M α} {f : α → M β} {h : List O} : (M.bind m f h).All P X ↔ (m h).All (fun r => (f r.1 r.2).All P X) X := Tr.all_bind
abbrev Sg := List (Option D)

/-- none of the draws' objects that change, no table of code objects -/
def Fix (dw : Option (Addr × Addr × Addr)) (T : List (Addr × Str)) (b : Addr) : Prop := (∀ d g e, dw = some (d, g, e) → b ≠ d ∧ b ≠ g) ∧ ∀ p ∈ T, b ≠ p.1
/-- from one moment to a later one -/
structure LeD (dw : Option (Addr × Addr × Addr)) (T : List (Addr × Str)) (ρ : Sto) (H : Hp) (ρ' : Sto) (H' : Hp) : Prop where
  pre : ρ.a <+: ρ'.a
  new : ∀ p, p ∈ ρ'.l → p ∉ ρ.l → H p = none
  fr : ∀ b o, b ∉ ρ.l → Fix dw T b → H b = some o → H' b = some o
  tups : ∀ b xs, H b = some (.tup xs) → H' b = some (.tup xs)
  frzs : ∀ b o u, H b = some (.frz o u) → H' b = some (.frz o u)
  kept : ∀ b, H' b = none → H b = none
/-- what holds on in a frame: p; what its functions are: q -/
structure Kp (dw : Option (Addr × Addr × Addr)) (T : List (Addr × Str)) where
  p : Sto → Hp → Prop
  q : Nat → Sto → Hp → Addr → Prop
  pm : ∀ ρ H ρ' H', LeD dw T ρ H ρ' H' → p ρ H → p ρ' H'
  qm : ∀ k ρ H ρ' H' a, LeD dw T ρ H ρ' H' → q k ρ H a → q k ρ' H' a
  qs : ∀ k ρ H ρ' H' a, (∀ b f, H b = some (.ext f) → H' b = some (.ext f) ∧ (b ∉ ρ.l → b ∉ ρ'.l)) → q k ρ H a → q k ρ' H' a
def Kp.nil (dw : Option (Addr × Addr × Addr)) (T : List (Addr × Str)) : Kp dw T := ⟨fun _ _ => True, fun _ _ _ _ => False, fun _ _ _ _ _ h => h, fun _ _ _ _ _ _ _ h => h, fun _ _ _ _ _ _ _ h => h⟩
/-- where the draws stand; each class's address and the names of its attributes; the error classes likewise; what a caller may still change; what is wished of an error -/
structure Ct where
  n : Nat
  dw : Option (Addr × Addr × Addr)
  cA : Nat → Addr
  cF : Nat → List Str
  m : Nat
  eA : Nat → Addr
  eF : Nat → List Str
  P : Program
  w : World
  hid : List Addr
  E : XK
  T : List (Addr × Str) := []
  kp : Kp dw T := Kp.nil dw T
/-- nothing holds on in the frame, it has no functions -/
class Plain (c : Ct) : Prop where
  p : ∀ ρ H, c.kp.p ρ H
  q : ∀ k ρ H a, c.kp.q k ρ H a → False
/-- not to be changed: no object of the store, of a caller's store, of the draws -/
structure Off (c : Ct) (ρ : Sto) (a : Addr) : Prop where
  st : a ∉ ρ.l
  hd : a ∉ c.hid
  dw : Fix c.dw c.T a
/-- the dict at a has these entries -/
def TdAt (w : World) (h : Heap) (a : Addr) (xs : List (NestedKey × Addr × Value)) : Prop := ∃ o es ep, h.get? a = some o ∧ o.ExactDict ∧ o.data = .dict es ep ∧ es.toList = xs.map (fun x => (⟨x.1.hash w, .ref x.2.1, x.2.2⟩ : DictEntry)) ∧ (xs.map (·.1)).Nodup
/-- a dict whose keys are nested tuples: each key with its tuple's address -/
def tdO (P : Program) (w : World) (a : Addr) (ks : List (NestedKey × Addr)) (vs : List V) : HO := .ext fun h => ks.length ≤ sizeLine ∧ (a == sysModules) = false ∧ (∀ p ∈ ks, p.1.depth ≤ 8) ∧ ∃ xs : List (NestedKey × Addr × Value), TdAt w h a xs ∧ xs.map (fun x => (x.1, x.2.1)) = ks ∧ Vals vs (xs.map (·.2.2))
mutual
/-- a value as a key of such a dict -/
def nkD : D → Option NestedKey
  | .non => some .none
  | .bl b => some (.num (if b then 1 else 0))
  | .int i => some (.num i)
  | .str x => some (.text x)
  | .tup xs => match nkDs xs with
    | some ks => some (.tup ks)
    | none => none
  | _ => none
def nkDs : List D → Option (List NestedKey)
  | [] => some []
  | x :: xs => match nkD x, nkDs xs with
    | some k, some ks => some (k :: ks)
    | _, _ => none
end
section
variable (K : PySem.W.Frag) (c : Ct)
mutual
inductive RV (H : Hp) (ρ : Sto) : D → V → Prop
  | non : RV H ρ .non .non
  | bl (b : Bool) : RV H ρ (.bl b) (.bl b)
  | int (i : Int) : RV H ρ (.int i) (.int i)
  | str (x : Str) : RV H ρ (.str x) (.str x)
  | tup {a : Addr} {vs : List V} {xs : List D} : SqT K H a vs → RVs H ρ xs vs → RV H ρ (.tup xs) (.ref a)
  | lst {a : Addr} {vs : List V} {xs : List D} : H a = some (.lst vs) → Off c ρ a → RVs H ρ xs vs → RV H ρ (.lst xs) (.ref a)
  | dct {a : Addr} {kws : List (Key × V)} {ks : List Key} {xs : List D} : Rd H a (.dK kws) → Off c ρ a → kws.map (·.1) = ks → RVs H ρ xs (kws.map (·.2)) → RV H ρ (.dct ks xs) (.ref a)
  | tct {a : Addr} {kas : List (NestedKey × Addr)} {vs : List V} {ks xs : List D} : Rd H a (tdO c.P c.w a kas vs) → Off c ρ a → nkDs ks = some (kas.map (·.1)) → RVs H ρ ks (kas.map fun p => V.ref p.2) → RVs H ρ xs vs → RV H ρ (.tct ks xs) (.ref a)
  | loc {n : Nat} {a : Addr} : ρ.a[n]? = some a → RV H ρ (.loc n) (.ref a)
  | draw {d g e : Addr} : c.dw = some (d, g, e) → RV H ρ .draw (.ref d)
  | fn {k : Nat} {a : Addr} : c.kp.q k ρ H a → RV H ρ (.fn k) (.ref a)
  | ins {k : Nat} {fs : List D} {a dx : Addr} {vs : List V} : H a = some (.ins (c.cA k) dx (((c.cF k).take fs.length).zip vs)) → Off c ρ a → (fs.length ≤ (c.cF k).length ∧ k < c.n) → RVs H ρ fs vs → RV H ρ (.ins k fs) (.ref a)
  | exn {k : Nat} {fs : List D} {a : Addr} {od : Option Addr} {vs : List V} : H a = some (Ek.ExK (.ref (c.eA k)) od a) → Off c ρ a → (k < c.m ∧ fs.length = (c.eF k).length) → ((fs = [] → od = none) ∧ (fs ≠ [] → ∃ dd, od = some dd ∧ H dd = some (.xd ((c.eF k).zip vs)) ∧ Off c ρ dd)) → RVs H ρ fs vs → RV H ρ (.exn k fs) (.ref a)
inductive RVs (H : Hp) (ρ : Sto) : List D → List V → Prop
  | nil : RVs H ρ [] []
  | cons {x : D} {xs : List D} {v : V} {vs : List V} : RV H ρ x v → RVs H ρ xs vs → RVs H ρ (x :: xs) (v :: vs)
end
def RO (H : Hp) (ρ : Sto) : O → Addr → Prop
  | .lst xs, a => ∃ vs, H a = some (.lst vs) ∧ RVs K c H ρ xs vs
  | .dK ks xs, a => ∃ kws : List (Key × V), H a = some (.dK kws) ∧ kws.map (·.1) = ks ∧ RVs K c H ρ xs (kws.map (·.2))
  | .tD ks xs, a => ∃ (kas : List (NestedKey × Addr)) (vs : List V), H a = some (tdO c.P c.w a kas vs) ∧ nkDs ks = some (kas.map (·.1)) ∧ RVs K c H ρ ks (kas.map fun p => V.ref p.2) ∧ RVs K c H ρ xs vs
  | .dead, _ => True
  | .ins k fs, a => ∃ dx vs, H a = some (.ins (c.cA k) dx (((c.cF k).take fs.length).zip vs)) ∧ (fs.length ≤ (c.cF k).length ∧ k < c.n) ∧ RVs K c H ρ fs vs
/-- the store is the tracked part of the heap -/
structure Ok (ρ : Sto) (h : List O) (H : Hp) : Prop where
  len : ρ.a.length = h.length
  nd : ρ.a.Nodup
  objs : ∀ (n : Nat) (o : O) (a : Addr), h[n]? = some o → ρ.a[n]? = some a → RO K c H ρ o a
  lv : ∀ (n : Nat) (o : O) (a : Addr), h[n]? = some o → ρ.a[n]? = some a → o ≠ .dead → a ∈ ρ.l
  sub : ∀ a, a ∈ ρ.l → a ∈ ρ.a
  ex : ∀ a, a ∈ ρ.a → ∃ u, H a = some u
  dw : ∀ d g e, c.dw = some (d, g, e) → Dw H d g e ∧ d ∉ ρ.a ∧ g ∉ ρ.a ∧ e ∉ ρ.a
  hid : ∀ a, a ∈ c.hid → (∃ u, H a = some u) ∧ a ∉ ρ.a
  tab : LamX.Tabs c.T H ∧ ∀ p ∈ c.T, p.1 ∉ ρ.a
  kp : c.kp.p ρ H
  code : ∀ b q, H b = some (LamX.CodeO b q) → b ∉ ρ.a
/-- from one moment to a later one -/
abbrev Le (ρ : Sto) (H : Hp) (ρ' : Sto) (H' : Hp) : Prop := LeD c.dw c.T ρ H ρ' H'
end
section
variable {K : PySem.W.Frag} {c : Ct} {ρ ρ1 ρ2 : Sto} {H H1 H2 : Hp}
theorem LeD.refl : Le c ρ H ρ H := ⟨List.prefix_refl _, fun p h n => absurd h n, fun _ _ _ _ h => h, fun _ _ h => h, fun _ _ _ h => h, fun _ h => h⟩
theorem LeD.trans (a : Le c ρ H ρ1 H1) (b : Le c ρ1 H1 ρ2 H2) : Le c ρ H ρ2 H2 where
  pre := a.pre.trans b.pre
  new := fun p hp hn => by
    by_cases q : p ∈ ρ1.l
    · exact a.new p q hn
    · exact a.kept p (b.new p hp q)
  fr := fun b' o hb hd h => by
    have h1 := a.fr b' o hb hd h
    refine b.fr b' o (fun q => ?_) hd h1
    have := a.new b' q hb
    rw [h] at this
    cases this
  tups := fun b' xs h => b.tups _ _ (a.tups _ _ h)
  frzs := fun b' o u h => b.frzs _ _ _ (a.frzs _ _ _ h)
  kept := fun b' h => a.kept _ (b.kept _ h)
theorem LeD.rd (l : Le c ρ H ρ1 H1) {a : Addr} {xs : List V} (h : SqT K H a xs) : SqT K H1 a xs := by
  rcases h with (h | ⟨o, h⟩) | h
  · exact .inl (.inl (l.tups _ _ h))
  · exact .inl (.inr ⟨o, l.frzs _ _ _ h⟩)
  · exact .inr h
/-- what is not to be changed stays -/
theorem LeD.off (l : Le c ρ H ρ1 H1) {a : Addr} {u : HO} (h : H a = some u) (o : Off c ρ a) : H1 a = some u ∧ Off c ρ1 a :=
  ⟨l.fr a u o.st o.dw h, ⟨fun z => absurd (h.symm.trans (l.new a z o.st)) (by simp), o.hd, o.dw⟩⟩
theorem pre_get {α : Type} {l l' : List α} (p : l <+: l') {n : Nat} {a : α} (h : l[n]? = some a) : l'[n]? = some a := by
  obtain ⟨t, rfl⟩ := p
  obtain ⟨hn, e⟩ := List.getElem?_eq_some_iff.mp h
  rw [List.getElem?_append_left hn]
  exact h
/-! tables stay, if the draws' objects alone are written -/
theorem tbl_ne {H : Hp} {p : Addr} {ps : Array Value} (h : H p = some (.tbl ps)) {b : Addr} {o : HO} (e : H b = some o) (n : ∀ qs, o ≠ .tbl qs) : p ≠ b := fun z => by
  rw [z] at h
  exact n ps (Option.some.inj (e.symm.trans h))
theorem tabs_keep {T : List (Addr × Str)} {H H1 : Hp} (t : LamX.Tabs T H) (k : ∀ b o, H b = some o → (∃ p ∈ T, b = p.1 ∨ ∃ q, o = LamX.CodeO b q) → H1 b = some o) : LamX.Tabs T H1 := fun p hp => by
  obtain ⟨ps, h1, h2, h3⟩ := t p hp
  refine ⟨ps, k _ _ h1 ⟨p, hp, .inl rfl⟩, h2, fun pos cv hc => ?_⟩
  obtain ⟨a, e1, e2⟩ := h3 pos cv hc
  exact ⟨a, e1, k _ _ e2 ⟨p, hp, .inr ⟨_, rfl⟩⟩⟩
/-! a value as another moment sees it: the same objects, none of them to be changed there -/
/-- what takes every value from one moment to another -/
structure Mv (K : PySem.W.Frag) (c c1 : Ct) (H : Hp) (ρ : Sto) (H1 : Hp) (ρ1 : Sto) : Prop where
  sq : ∀ a xs, SqT K H a xs → SqT K H1 a xs
  off : ∀ a u, H a = some u → Off c ρ a → H1 a = some u ∧ Off c1 ρ1 a
  n : c1.n = c.n
  dw : c1.dw = c.dw
  cA : c1.cA = c.cA
  cF : c1.cF = c.cF
  m : c1.m = c.m
  eA : c1.eA = c.eA
  eF : c1.eF = c.eF
  P : c1.P = c.P
  w : c1.w = c.w
theorem Mv.rd {c1 : Ct} (m : Mv K c c1 H ρ H1 ρ1) {a : Addr} {u : HO} (r : Rd H a u) (o : Off c ρ a) : Rd H1 a u ∧ Off c1 ρ1 a := by
  rcases r with r | ⟨ob, r⟩
  · exact ⟨.inl (m.off a _ r o).1, (m.off a _ r o).2⟩
  · exact ⟨.inr ⟨ob, (m.off a _ r o).1⟩, (m.off a _ r o).2⟩
theorem LeD.offR (l : Le c ρ H ρ1 H1) {a : Addr} {u : HO} (r : Rd H a u) (o : Off c ρ a) : Rd H1 a u ∧ Off c ρ1 a := by
  rcases r with r | ⟨ob, r⟩
  · exact ⟨.inl (l.off r o).1, (l.off r o).2⟩
  · exact ⟨.inr ⟨ob, (l.off r o).1⟩, (l.off r o).2⟩
mutual
/-- no numbers of the store -/
def noL : D → Bool
  | .loc _ => false
  | .fn _ => false
  | .tup xs => noLs xs
  | .lst xs => noLs xs
  | .dct _ xs => noLs xs
  | .tct ks xs => noLs ks && noLs xs
  | .ins _ fs => noLs fs
  | .exn _ fs => noLs fs
  | _ => true
def noLs : List D → Bool
  | [] => true
  | x :: xs => noL x && noLs xs
end
/-- numbers of the store and functions mean the same there -/
structure Carry (c c1 : Ct) (ρ : Sto) (H : Hp) (ρ1 : Sto) (H1 : Hp) : Prop where
  loc : ∀ (n : Nat) (a : Addr), ρ.a[n]? = some a → ρ1.a[n]? = some a
  fn : ∀ (k : Nat) (a : Addr), c.kp.q k ρ H a → c1.kp.q k ρ1 H1 a
theorem LeD.carry (l : Le c ρ H ρ1 H1) : Carry c c ρ H ρ1 H1 := ⟨fun _ _ => pre_get l.pre, fun _ _ h => c.kp.qm _ _ _ _ _ _ l h⟩
mutual
theorem RV.mv {c1 : Ct} (m : Mv K c c1 H ρ H1 ρ1) : ∀ (x : D) (v : V), (noL x = true ∨ Carry c c1 ρ H ρ1 H1) → RV K c H ρ x v → RV K c1 H1 ρ1 x v
  | .non, _, _, h => by cases h; exact .non
  | .bl b, _, _, h => by cases h; exact .bl b
  | .int b, _, _, h => by cases h; exact .int b
  | .str b, _, _, h => by cases h; exact .str b
  | .tup xs, _, lc, h => by
    cases h with
    | tup h1 h2 => exact .tup (m.sq _ _ h1) (RVs.mv m xs _ (lc.imp (fun z => by simpa [noL] using z) id) h2)
  | .lst xs, _, lc, h => by
    cases h with
    | lst h1 o h2 => obtain ⟨e, o1⟩ := m.off _ _ h1 o; exact .lst e o1 (RVs.mv m xs _ (lc.imp (fun z => by simpa [noL] using z) id) h2)
  | .dct ks xs, _, lc, h => by
    cases h with
    | dct h1 o e h2 => obtain ⟨e1, o1⟩ := m.rd h1 o; exact .dct e1 o1 e (RVs.mv m xs _ (lc.imp (fun z => by simpa [noL] using z) id) h2)
  | .tct ks xs, _, lc, h => by
    cases h with
    | tct h1 o e h2 h3 =>
      obtain ⟨e1, o1⟩ := m.rd h1 o
      exact .tct (by rw [m.P, m.w]; exact e1) o1 e (RVs.mv m ks _ (lc.imp (fun z => by simp [noL] at z; exact z.1) id) h2) (RVs.mv m xs _ (lc.imp (fun z => by simp [noL] at z; exact z.2) id) h3)
  | .loc n, _, lc, h => by
    cases h with
    | loc h1 =>
      rcases lc with z | z
      · simp [noL] at z
      · exact .loc (z.loc _ _ h1)
  | .draw, _, _, h => by
    cases h with
    | draw h1 => exact .draw (m.dw.trans h1)
  | .fn k, _, lc, h => by
    cases h with
    | fn h1 =>
      rcases lc with z | z
      · simp [noL] at z
      · exact .fn (z.fn _ _ h1)
  | .ins k fs, _, lc, h => by
    cases h with
    | ins h1 o hk h2 => obtain ⟨e1, o1⟩ := m.off _ _ h1 o; exact .ins (by rw [m.cA, m.cF]; exact e1) o1 (by rw [m.cF, m.n]; exact hk) (RVs.mv m fs _ (lc.imp (fun z => by simpa [noL] using z) id) h2)
  | .exn k fs, _, lc, h => by
    cases h with
    | exn h1 o hk hf h2 =>
      obtain ⟨e1, o1⟩ := m.off _ _ h1 o
      refine .exn (by rw [m.eA]; exact e1) o1 (by rw [m.m, m.eF]; exact hk) ⟨hf.1, fun z => ?_⟩ (RVs.mv m fs _ (lc.imp (fun z => by simpa [noL] using z) id) h2)
      obtain ⟨dd, z1, z2, z3⟩ := hf.2 z
      obtain ⟨z4, z5⟩ := m.off _ _ z2 z3
      exact ⟨dd, z1, by rw [m.eF]; exact z4, z5⟩
theorem RVs.mv {c1 : Ct} (m : Mv K c c1 H ρ H1 ρ1) : ∀ (xs : List D) (vs : List V), (noLs xs = true ∨ Carry c c1 ρ H ρ1 H1) → RVs K c H ρ xs vs → RVs K c1 H1 ρ1 xs vs
  | [], _, _, h => by cases h; exact .nil
  | x :: xs, _, lc, h => by
    cases h with
    | cons h1 h2 => exact .cons (RV.mv m x _ (lc.imp (fun z => by simp [noLs] at z; exact z.1) id) h1) (RVs.mv m xs _ (lc.imp (fun z => by simp [noLs] at z; exact z.2) id) h2)
end
theorem LeD.mv (l : Le c ρ H ρ1 H1) : Mv K c c H ρ H1 ρ1 := ⟨fun _ _ h => l.rd h, fun _ _ h o => l.off h o, rfl, rfl, rfl, rfl, rfl, rfl, rfl, rfl, rfl⟩
theorem RV.le (l : Le c ρ H ρ1 H1) {x : D} {v : V} (h : RV K c H ρ x v) : RV K c H1 ρ1 x v := RV.mv l.mv x v (.inr l.carry) h
theorem RVs.le (l : Le c ρ H ρ1 H1) {x : List D} {v : List V} (h : RVs K c H ρ x v) : RVs K c H1 ρ1 x v := RVs.mv l.mv x v (.inr l.carry) h
theorem RVs.len : ∀ {xs : List D} {vs : List V}, RVs K c H ρ xs vs → xs.length = vs.length
  | [], _, h => by cases h; rfl
  | _ :: _, _, h => by cases h with | cons h1 h2 => simp [RVs.len h2]
theorem RVs.get : ∀ {xs : List D} {vs : List V} {i : Nat} {x : D}, RVs K c H ρ xs vs → xs[i]? = some x → ∃ v, vs[i]? = some v ∧ RV K c H ρ x v
  | [], _, _, _, _, e => by simp at e
  | _ :: _, _, 0, _, h, e => by
    cases h with
    | cons h1 h2 => simp at e; subst e; exact ⟨_, rfl, h1⟩
  | _ :: xs, _, i + 1, x, h, e => by
    cases h with
    | cons h1 h2 =>
      obtain ⟨v, q1, q2⟩ := RVs.get (i := i) (x := x) h2 (by simpa using e)
      exact ⟨v, by simpa using q1, q2⟩
theorem RVs.getV : ∀ {xs : List D} {vs : List V} {i : Nat} {v : V}, RVs K c H ρ xs vs → vs[i]? = some v → ∃ x, xs[i]? = some x ∧ RV K c H ρ x v
  | [], _, _, _, h, e => by cases h; simp at e
  | _ :: _, _, 0, _, h, e => by
    cases h with
    | cons h1 h2 => simp at e; subst e; exact ⟨_, rfl, h1⟩
  | _ :: xs, _, i + 1, x, h, e => by
    cases h with
    | cons h1 h2 =>
      obtain ⟨v, q1, q2⟩ := RVs.getV (i := i) (v := x) h2 (by simpa using e)
      exact ⟨v, by simpa using q1, q2⟩
theorem RVs.append : ∀ {xs ys : List D} {vs ws : List V}, RVs K c H ρ xs vs → RVs K c H ρ ys ws → RVs K c H ρ (xs ++ ys) (vs ++ ws)
  | [], _, _, _, h, s => by cases h; exact s
  | _ :: _, _, _, _, h, s => by cases h with | cons h1 h2 => exact .cons h1 (RVs.append h2 s)
theorem RVs.take : ∀ {xs : List D} {vs : List V} (n : Nat), RVs K c H ρ xs vs → RVs K c H ρ (xs.take n) (vs.take n)
  | _, _, 0, _ => by simp; exact .nil
  | [], _, n + 1, h => by cases h; exact .nil
  | _ :: _, _, n + 1, h => by cases h with | cons h1 h2 => exact .cons h1 (RVs.take n h2)
theorem RVs.drop : ∀ {xs : List D} {vs : List V} (n : Nat), RVs K c H ρ xs vs → RVs K c H ρ (xs.drop n) (vs.drop n)
  | _, _, 0, h => by simpa using h
  | [], _, n + 1, h => by cases h; exact .nil
  | _ :: _, _, n + 1, h => by cases h with | cons h1 h2 => exact RVs.drop n h2
theorem RVs.set {x : D} {v : V} (r : RV K c H ρ x v) : ∀ {xs : List D} {vs : List V} (i : Nat), RVs K c H ρ xs vs → RVs K c H ρ (xs.set i x) (vs.set i v)
  | [], _, _, h => by cases h; exact .nil
  | _ :: _, _, 0, h => by cases h with | cons h1 h2 => exact .cons r h2
  | _ :: _, _, i + 1, h => by cases h with | cons h1 h2 => exact .cons h1 (RVs.set r i h2)
theorem RVs.reverse : ∀ {xs : List D} {vs : List V}, RVs K c H ρ xs vs → RVs K c H ρ xs.reverse vs.reverse
  | [], _, h => by cases h; exact .nil
  | _ :: _, _, h => by
    cases h with
    | cons h1 h2 =>
      rw [List.reverse_cons, List.reverse_cons]
      exact (RVs.reverse h2).append (.cons h1 .nil)
theorem RO.le (l : Le c ρ H ρ1 H1) {o : O} {a : Addr} (same : H1 a = H a) (h : RO K c H ρ o a) : RO K c H1 ρ1 o a := by
  cases o with
  | lst xs => obtain ⟨vs, h1, h2⟩ := h; exact ⟨vs, same.trans h1, h2.le l⟩
  | dK ks xs => obtain ⟨vs, h1, h2, h3⟩ := h; exact ⟨vs, same.trans h1, h2, h3.le l⟩
  | tD ks xs => obtain ⟨kas, vs, h1, h2, h3, h4⟩ := h; exact ⟨kas, vs, same.trans h1, h2, h3.le l, h4.le l⟩
  | ins k fs => obtain ⟨dx, vs, h1, h2, h3⟩ := h; exact ⟨dx, vs, same.trans h1, h2, h3.le l⟩
  | dead => trivial
theorem RO.there {o : O} {a : Addr} (h : RO K c H ρ o a) (nd : o ≠ .dead) : ∃ u, H a = some u ∧ (∀ xs, u ≠ .tup xs) ∧ ∀ o' u', u ≠ .frz o' u' := by
  cases o with
  | lst xs => obtain ⟨vs, h1, h2⟩ := h; exact ⟨_, h1, ⟨(fun _ => by intro z; cases z), (fun _ _ => by intro z; cases z)⟩⟩
  | dK ks xs => obtain ⟨vs, h1, h2, h3⟩ := h; exact ⟨_, h1, ⟨(fun _ => by intro z; cases z), (fun _ _ => by intro z; cases z)⟩⟩
  | tD ks xs => obtain ⟨kas, vs, h1, h2, h3, h4⟩ := h; exact ⟨_, h1, ⟨(fun _ => by intro z; cases z), (fun _ _ => by intro z; cases z)⟩⟩
  | ins k fs => obtain ⟨dx, vs, h1, h2, h3⟩ := h; exact ⟨_, h1, ⟨(fun _ => by intro z; cases z), (fun _ _ => by intro z; cases z)⟩⟩
  | dead => exact absurd rfl nd
/-- a dict by nested keys is no code object -/
theorem tdO_ne {P : Program} {w : World} {a c : Addr} {q : Str} {ks : List (NestedKey × Addr)} {vs : List V} : tdO P w a ks vs ≠ LamX.CodeO c q := fun z => by
  unfold tdO LamX.CodeO at z
  injection z with z
  have z1 := congrFun z { objs := Array.replicate (max a c + 1) { cls := .none, data := .fields #[.none, .str q 0] } }
  have at_ : ∀ b, b ≤ max a c → Heap.get? { objs := Array.replicate (max a c + 1) ({ cls := .none, data := .fields #[.none, .str q 0] } : Obj) } b = some { cls := .none, data := .fields #[.none, .str q 0] } := fun b hb => by
    unfold Heap.get?
    dsimp only
    rw [Array.getElem?_replicate, if_pos (Nat.lt_succ_of_le hb)]
  have yes : ∃ (oc : Obj) (vs : Array Value) (t : Tok), Heap.get? { objs := Array.replicate (max a c + 1) ({ cls := .none, data := .fields #[.none, .str q 0] } : Obj) } c = some oc ∧ oc.data = .fields vs ∧ vs[1]? = some (.str q t) := ⟨_, _, 0, at_ c (Nat.le_max_right _ _), rfl, rfl⟩
  rw [← z1] at yes
  obtain ⟨_, _, _, xs, ⟨o, es, ep, e1, _, e2, _⟩, _⟩ := yes
  rw [at_ a (Nat.le_max_left _ _)] at e1
  cases e1
  cases e2
theorem RO.noCode {o : O} {a b : Addr} {q : Str} (h : RO K c H ρ o a) (nd : o ≠ .dead) : H a ≠ some (LamX.CodeO b q) := fun z => by
  cases o with
  | lst xs => obtain ⟨vs, h1, h2⟩ := h; rw [h1] at z; cases z
  | dK ks xs => obtain ⟨vs, h1, h2, h3⟩ := h; rw [h1] at z; cases z
  | tD ks xs => obtain ⟨kas, vs, h1, h2, h3, h4⟩ := h; rw [h1] at z; exact tdO_ne (Option.some.inj z)
  | ins k fs => obtain ⟨dx, vs, h1, h2, h3⟩ := h; rw [h1] at z; cases z
  | dead => exact nd rfl
theorem Ok.at_ {h : List O} (ok : Ok K c ρ h H) {n : Nat} {a : Addr} (e : ρ.a[n]? = some a) : ∃ o, h[n]? = some o ∧ RO K c H ρ o a := by
  obtain ⟨hn, _⟩ := List.getElem?_eq_some_iff.mp e
  have hn' : n < h.length := by rw [← ok.len]; exact hn
  exact ⟨h[n], List.getElem?_eq_getElem hn', ok.objs n _ a (List.getElem?_eq_getElem hn') e⟩
theorem Ok.addr {h : List O} (ok : Ok K c ρ h H) {n : Nat} {o : O} (e : h[n]? = some o) : ∃ a, ρ.a[n]? = some a ∧ RO K c H ρ o a := by
  obtain ⟨hn, _⟩ := List.getElem?_eq_some_iff.mp e
  have hn' : n < ρ.a.length := by rw [ok.len]; exact hn
  exact ⟨ρ.a[n], List.getElem?_eq_getElem hn', ok.objs n o _ e (List.getElem?_eq_getElem hn')⟩
theorem Ok.fresh {h : List O} (ok : Ok K c ρ h H) {p : Addr} (np : H p = none) : p ∉ ρ.a ∧ p ∉ c.hid := ⟨fun z => let ⟨u, e⟩ := ok.ex _ z; absurd (np.symm.trans e) (by simp), fun z => let ⟨⟨u, e⟩, _⟩ := ok.hid _ z; absurd (np.symm.trans e) (by simp)⟩
/-- a new object is none of ours -/
theorem Ok.offN {h : List O} (ok : Ok K c ρ h H) {p : Addr} (np : H p = none) : Off c ρ p := ⟨fun z => (ok.fresh np).1 (ok.sub _ z), (ok.fresh np).2, fun d g e z => by
  obtain ⟨⟨⟨gs, cs, r, t, hd, hg, hc⟩, _⟩, h1, h2, h3⟩ := ok.dw d g e z
  exact ⟨(ne_of_none hd np).symm, (ne_of_none hg np).symm⟩, fun q hq z => by
  obtain ⟨ps, e, _⟩ := ok.tab.1 q hq
  rw [← z, np] at e
  cases e⟩
theorem up_ex {p : Addr} {o : HO} {a : Addr} (h : ∃ u, H a = some u) : ∃ u, upd H p o a = some u := by
  by_cases q : a = p
  · subst q; exact ⟨_, upd_same⟩
  · rw [upd_ne q]; exact h
/-- a new object, not of the store -/
theorem Ok.other {h : List O} (ok : Ok K c ρ h H) {p : Addr} {o : HO} (np : H p = none) : Le c ρ H ρ (upd H p o) ∧ Ok K c ρ h (upd H p o) := by
  have l : Le c ρ H ρ (upd H p o) := ⟨List.prefix_refl _, fun q h n => absurd h n, fun b u _ _ e => by rw [upd_ne (ne_of_none e np)]; exact e, fun b xs e => by rw [upd_ne (ne_of_none e np)]; exact e, fun b xs u e => by rw [upd_ne (ne_of_none e np)]; exact e, fun b e => by
    by_cases q : b = p
    · rw [q]; exact np
    · rw [upd_ne q] at e; exact e⟩
  refine ⟨l, ok.len, ok.nd, fun n u a e1 e2 => ?_, ok.lv, ok.sub, fun a ha => up_ex (ok.ex a ha), fun d g e z => ?_, fun a ha => ⟨up_ex (ok.hid a ha).1, (ok.hid a ha).2⟩, ⟨ok.tab.1.ext fun b u e => by rw [upd_ne (ne_of_none e np)]; exact e, ok.tab.2⟩, c.kp.pm _ _ _ _ l ok.kp, fun b q e hb => ?_⟩
  rotate_right
  · have hp : b ≠ p := fun z => (ok.fresh np).1 (by rw [← z]; exact hb)
    rw [upd_ne hp] at e
    exact ok.code b q e hb
  · have r := ok.objs n u a e1 e2
    obtain ⟨y, hy⟩ := ok.ex a (List.mem_of_getElem? e2)
    exact r.le l (by rw [upd_ne (ne_of_none hy np)])
  · obtain ⟨D, h1⟩ := ok.dw d g e z
    exact ⟨D.new np, h1⟩
/-- a new object of the store -/
theorem Ok.push {h : List O} (ok : Ok K c ρ h H) {p : Addr} {u : HO} {o : O} (np : H p = none) (new : ∀ H1, Le c ρ H (ρ.push p) H1 → H1 p = some u → RO K c H1 (ρ.push p) o p) (nc : ∀ q, u ≠ LamX.CodeO p q := by intro _ z; first | (unfold LamX.CodeO at z; cases z) | exact tdO_ne z) : Le c ρ H (ρ.push p) (upd H p u) ∧ Ok K c (ρ.push p) (h ++ [o]) (upd H p u) := by
  obtain ⟨l0, ok0⟩ := ok.other (o := u) np
  obtain ⟨hp, hp2⟩ := ok.fresh np
  have l : Le c ρ H (ρ.push p) (upd H p u) := ⟨List.prefix_append _ _, fun q hq n => by
    rcases List.mem_append.mp hq with z | z
    · exact absurd z n
    · rw [List.mem_singleton.mp z]; exact np, l0.fr, l0.tups, l0.frzs, l0.kept⟩
  refine ⟨l, by simp [Sto.push, ok.len], ?_, fun n o' a e1 e2 => ?_, fun n o' a e1 e2 e3 => ?_, fun a ha => ?_, fun a ha => ?_, fun d g e z => ?_, fun a ha => ?_, ⟨ok0.tab.1, fun q hq z => ?_⟩, c.kp.pm _ _ _ _ l ok.kp, fun b q e hb => ?_⟩
  rotate_right
  · rcases List.mem_append.mp hb with z | z
    · exact ok0.code b q e z
    · rw [List.mem_singleton.mp z, upd_same] at e
      exact nc q (Option.some.inj e)
  · show (ρ.a ++ [p]).Nodup
    rw [List.nodup_append]
    exact ⟨ok.nd, by simp, fun a ha b hb => by rw [List.mem_singleton.mp hb]; intro z; rw [z] at ha; exact hp ha⟩
  · have e2 : (ρ.a ++ [p])[n]? = some a := e2
    by_cases hn : n < h.length
    · rw [List.getElem?_append_left hn] at e1
      rw [List.getElem?_append_left (by rw [ok.len]; exact hn)] at e2
      have r := ok.objs n o' a e1 e2
      obtain ⟨y, hy⟩ := ok.ex a (List.mem_of_getElem? e2)
      exact r.le l (by rw [upd_ne (ne_of_none hy np)])
    · rw [List.getElem?_append_right (by omega)] at e1
      rw [List.getElem?_append_right (by rw [ok.len]; omega)] at e2
      have h0 : n - h.length = 0 := by
        obtain ⟨q, _⟩ := List.getElem?_eq_some_iff.mp e1
        simp at q; omega
      rw [h0] at e1
      rw [show n - ρ.a.length = 0 by rw [ok.len]; exact h0] at e2
      simp at e1 e2
      subst e1 e2
      exact new _ l upd_same
  · have e2 : (ρ.a ++ [p])[n]? = some a := e2
    show a ∈ ρ.l ++ [p]
    by_cases hn : n < h.length
    · rw [List.getElem?_append_left hn] at e1
      rw [List.getElem?_append_left (by rw [ok.len]; exact hn)] at e2
      exact List.mem_append_left _ (ok.lv n o' a e1 e2 e3)
    · rw [List.getElem?_append_right (by rw [ok.len]; omega)] at e2
      have := List.mem_of_getElem? e2
      exact List.mem_append_right _ this
  · rcases List.mem_append.mp ha with z | z
    · exact List.mem_append_left _ (ok.sub a z)
    · exact List.mem_append_right _ z
  · rcases List.mem_append.mp ha with z | z
    · exact up_ex (ok.ex a z)
    · rw [List.mem_singleton.mp z]; exact ⟨_, upd_same⟩
  · obtain ⟨Dx, h1, h2, h3⟩ := ok.dw d g e z
    obtain ⟨⟨gs, cs, r, t, hd, hg, hc⟩, _⟩ := id Dx
    have a1 := ne_of_none hd np
    have a2 := ne_of_none hg np
    have a3 := ne_of_none hc np
    exact ⟨Dx.new np, by simp [Sto.push, h1, a1], by simp [Sto.push, h2, a2], by simp [Sto.push, h3, a3]⟩
  · obtain ⟨h0, h1⟩ := ok0.hid a ha
    refine ⟨h0, fun z => ?_⟩
    rcases List.mem_append.mp z with z | z
    · exact h1 z
    · rw [List.mem_singleton.mp z] at ha; exact hp2 ha
  · rcases List.mem_append.mp z with z | z
    · exact ok.tab.2 q hq z
    · obtain ⟨ps, e, _⟩ := ok.tab.1 q hq
      rw [List.mem_singleton.mp z, np] at e
      cases e
/-- an object of the store is changed -/
theorem Ok.put {h : List O} (ok : Ok K c ρ h H) {n : Nat} {p : Addr} {u : HO} {o o0 : O} (h0 : h[n]? = some o0) (nd : o0 ≠ .dead) (hn : ρ.a[n]? = some p) (new : ∀ H1, Le c ρ H ρ H1 → H1 p = some u → RO K c H1 ρ o p) (nc : ∀ q, u ≠ LamX.CodeO p q := by intro _ z; first | (unfold LamX.CodeO at z; cases z) | exact tdO_ne z) : Le c ρ H ρ (upd H p u) ∧ Ok K c ρ (h.set n o) (upd H p u) := by
  have r0 := ok.objs n o0 p h0 hn
  obtain ⟨y, hy, ht, hf⟩ := r0.there nd
  have hp : p ∈ ρ.a := List.mem_of_getElem? hn
  have hl : p ∈ ρ.l := ok.lv n o0 p h0 hn nd
  have l : Le c ρ H ρ (upd H p u) := ⟨List.prefix_refl _, fun q h n => absurd h n, fun b x nb _ e => by rw [upd_ne (fun z => nb (by rw [z]; exact hl))]; exact e,
    fun b xs e => by rw [upd_ne (fun z => by rw [z, hy] at e; cases e; exact ht _ rfl)]; exact e, fun b x z e => by rw [upd_ne (fun z => by rw [z, hy] at e; cases e; exact hf _ _ rfl)]; exact e, fun b e => by
    by_cases q : b = p
    · rw [q, upd_same] at e; cases e
    · rw [upd_ne q] at e; exact e⟩
  refine ⟨l, by simp [ok.len], ok.nd, fun m x a e1 e2 => ?_, fun m x a e1 e2 e3 => ?_, ok.sub, fun a ha => up_ex (ok.ex a ha), fun d g e z => ?_, fun a ha => ⟨up_ex (ok.hid a ha).1, (ok.hid a ha).2⟩, ⟨tabs_keep ok.tab.1 fun b u e w => ?_, ok.tab.2⟩, c.kp.pm _ _ _ _ l ok.kp, fun b q e hb => ?_⟩
  rotate_right
  · by_cases z : b = p
    · rw [z, upd_same] at e
      exact nc q (Option.some.inj e)
    · rw [upd_ne z] at e
      exact ok.code b q e hb
  · by_cases hm : m = n
    · subst hm
      rw [hn] at e2; cases e2
      obtain ⟨q, _⟩ := List.getElem?_eq_some_iff.mp h0
      rw [List.getElem?_set_self q] at e1; cases e1
      exact new _ l upd_same
    · rw [List.getElem?_set_ne (Ne.symm hm)] at e1
      have ap : a ≠ p := fun z => by
        subst z
        obtain ⟨q1, w1⟩ := List.getElem?_eq_some_iff.mp e2
        obtain ⟨q2, w2⟩ := List.getElem?_eq_some_iff.mp hn
        exact hm ((List.getElem_inj ok.nd).mp (w1.trans w2.symm))
      exact (ok.objs m x a e1 e2).le l (by rw [upd_ne ap])
  · by_cases hm : m = n
    · subst hm
      rw [hn] at e2; cases e2
      exact hl
    · rw [List.getElem?_set_ne (Ne.symm hm)] at e1
      exact ok.lv m x a e1 e2 e3
  · obtain ⟨Dx, h1, h2, h3⟩ := ok.dw d g e z
    refine ⟨Dx.keep fun b x hb e => ?_, h1, h2, h3⟩
    have : b ≠ p := by
      rintro rfl
      rcases hb with rfl | rfl | rfl
      · exact h1 hp
      · exact h2 hp
      · exact h3 hp
    rw [upd_ne this]
    exact e
  · have : b ≠ p := by
      rintro rfl
      obtain ⟨q, hq, w⟩ := w
      rcases w with rfl | ⟨q', rfl⟩
      · exact ok.tab.2 q hq hp
      · exact RO.noCode r0 nd e
    rw [upd_ne this]
    exact e
end
/-! ### what a step says of the code -/
section
variable (K : PySem.W.Frag) (c : Ct)
/-- the slots -/
def Env (H : Hp) (ρ : Sto) (s : Sg) (σ : L2.St) : Prop := s.length = σ.length ∧ ∀ (i : Nat) (x : D), s[i]? = some (some x) → ∃ v, σ[i]? = some (some v) ∧ RV K c H ρ x v
def PV (ρ : Sto) (H : Hp) (Q : VK) : D × List O → Prop := fun r => ∀ ρ' H' v, Le c ρ H ρ' H' → Ok K c ρ' r.2 H' → RV K c H' ρ' r.1 v → Q v H'
def PB (ρ : Sto) (H : Hp) (Q : Bool → Hp → Prop) : Bool × List O → Prop := fun r => ∀ ρ' H', Le c ρ H ρ' H' → Ok K c ρ' r.2 H' → Q r.1 H'
def PVs (ρ : Sto) (H : Hp) (Q : List V → Hp → Prop) : List D × List O → Prop := fun r => ∀ ρ' H' vs, Le c ρ H ρ' H' → Ok K c ρ' r.2 H' → RVs K c H' ρ' r.1 vs → Q vs H'
/-- an error that leaves, its own dict at d -/
def PX (ρ : Sto) (H : Hp) : XP := fun k fs h => k < c.m ∧ fs.length = (c.eF k).length ∧ ∀ ρ' H' d vs, Le c ρ H ρ' H' → Ok K c ρ' h H' → ((fs = [] → d = none) ∧ (fs ≠ [] → ∃ dd, d = some dd ∧ H' dd = some (.xd ((c.eF k).zip vs)) ∧ Off c ρ' dd)) → RVs K c H' ρ' fs vs → c.E (.ref (c.eA k)) d H'
/-- how a statement ends -/
inductive Out where
  | nx (s : Sg) | rt (x : D) | bk (s : Sg) | ct (s : Sg)
def PD (ρ : Sto) (H : Hp) (E : Ends) : Out × List O → Prop := fun r => match r.1 with
  | .nx s => ∀ ρ' H' σ, Le c ρ H ρ' H' → Ok K c ρ' r.2 H' → Env K c H' ρ' s σ → E.nx σ H'
  | .rt x => ∀ ρ' H' v, Le c ρ H ρ' H' → Ok K c ρ' r.2 H' → RV K c H' ρ' x v → E.rt v H'
  | .bk s => ∀ ρ' H' σ, Le c ρ H ρ' H' → Ok K c ρ' r.2 H' → Env K c H' ρ' s σ → E.bk σ H'
  | .ct s => ∀ ρ' H' σ, Le c ρ H ρ' H' → Ok K c ρ' r.2 H' → Env K c H' ρ' s σ → E.ct σ H'
def tE (f : Sg → M D) : TE := fun σ H Q => ∃ ρ h s, Ok K c ρ h H ∧ Env K c H ρ s σ ∧ (f s h).All (PV K c ρ H Q) (PX K c ρ H)
def tT (f : Sg → M Bool) : TT := fun σ H Q => ∃ ρ h s, Ok K c ρ h H ∧ Env K c H ρ s σ ∧ (f s h).All (PB K c ρ H Q) (PX K c ρ H)
def tA (f : Sg → M (List D)) : TA := fun σ H Q => ∃ ρ h s, Ok K c ρ h H ∧ Env K c H ρ s σ ∧ (f s h).All (PVs K c ρ H Q) (PX K c ρ H)
def tS (f : Sg → M Out) : TS := fun E σ H => ∃ ρ h s, Ok K c ρ h H ∧ Env K c H ρ s σ ∧ (f s h).All (PD K c ρ H E) (PX K c ρ H)
/-- a target: the value, the slots -/
def tG (f : D → Sg → M Sg) : TG := fun v σ H Q => ∃ ρ h s x, Ok K c ρ h H ∧ Env K c H ρ s σ ∧ RV K c H ρ x v ∧
  (f x s h).All (fun r => ∀ ρ' H' σ', Le c ρ H ρ' H' → Ok K c ρ' r.2 H' → Env K c H' ρ' r.1 σ' → Q σ' H') (PX K c ρ H)
def tGs (f : List D → Sg → M Sg) : TGs := fun vs σ H Q => ∃ ρ h s xs, Ok K c ρ h H ∧ Env K c H ρ s σ ∧ RVs K c H ρ xs vs ∧
  (f xs s h).All (fun r => ∀ ρ' H' σ', Le c ρ H ρ' H' → Ok K c ρ' r.2 H' → Env K c H' ρ' r.1 σ' → Q σ' H') (PX K c ρ H)
/-- other objects that a caller may change, another wish of an error -/
def Ct.fr (hid : List Addr) (E : XK) (kp : Kp c.dw c.T) : Ct := { c with hid := hid, E := E, kp := kp }
abbrev Ct.at (hid : List Addr) (E : XK) : Ct := c.fr hid E (Kp.nil c.dw c.T)
/-- the same frame, in a block -/
abbrev Ct.bl (hid : List Addr) (E : XK) : Ct := c.fr hid E c.kp
instance {hid : List Addr} {E : XK} : Plain (c.fr hid E (Kp.nil c.dw c.T)) := ⟨fun _ _ => trivial, fun _ _ _ _ h => h⟩
instance {hid : List Addr} {E : XK} [P : Plain c] : Plain (c.fr hid E c.kp) := ⟨P.p, P.q⟩
/-- a def -/
def spF (F : List D → M D) : Sp := fun vs H Q E => ∃ hid ρ h xs, Ok K (c.at hid E) ρ h H ∧ RVs K (c.at hid E) H ρ xs vs ∧ (F xs h).All (PV K (c.at hid E) ρ H Q) (PX K (c.at hid E) ρ H)
end
section
variable {K : PySem.W.Frag} {c : Ct} {ρ ρ1 ρ2 : Sto} {H H1 H2 : Hp}
theorem Env.le {s : Sg} {σ : L2.St} (l : Le c ρ H ρ1 H1) (e : Env K c H ρ s σ) : Env K c H1 ρ1 s σ := ⟨e.1, fun i x h => let ⟨v, h1, h2⟩ := e.2 i x h; ⟨v, h1, h2.le l⟩⟩
theorem Env.set {s : Sg} {σ : L2.St} (e : Env K c H ρ s σ) {i : Nat} {x : D} {v : V} (r : RV K c H ρ x v) : Env K c H ρ (s.set i (some x)) (σ.set i (some v)) := by
  refine ⟨by simp [e.1], fun j y h => ?_⟩
  by_cases hj : j = i
  · subst hj
    obtain ⟨q, w⟩ := List.getElem?_eq_some_iff.mp h
    simp at q w
    refine ⟨v, by rw [List.getElem?_set_self (by rw [← e.1]; exact q)], by rw [← w]; exact r⟩
  · rw [List.getElem?_set_ne (Ne.symm hj)] at h
    obtain ⟨v', h1, h2⟩ := e.2 j y h
    exact ⟨v', by rw [List.getElem?_set_ne (Ne.symm hj)]; exact h1, h2⟩
theorem PV.le {Q : VK} {r : D × List O} (l : Le c ρ H ρ1 H1) (h : PV K c ρ H Q r) : PV K c ρ1 H1 Q r := fun ρ' H' v l' => h ρ' H' v (l.trans l')
theorem PB.le {Q : Bool → Hp → Prop} {r : Bool × List O} (l : Le c ρ H ρ1 H1) (h : PB K c ρ H Q r) : PB K c ρ1 H1 Q r := fun ρ' H' l' => h ρ' H' (l.trans l')
theorem PVs.le {Q : List V → Hp → Prop} {r : List D × List O} (l : Le c ρ H ρ1 H1) (h : PVs K c ρ H Q r) : PVs K c ρ1 H1 Q r := fun ρ' H' v l' => h ρ' H' v (l.trans l')
theorem PX.le {k : Nat} {fs : List D} {h' : List O} (l : Le c ρ H ρ1 H1) (h : PX K c ρ H k fs h') : PX K c ρ1 H1 k fs h' := ⟨h.1, h.2.1, fun ρ' H' d vs l' => h.2.2 ρ' H' d vs (l.trans l')⟩
theorem PD.le {E : Ends} {r : Out × List O} (l : Le c ρ H ρ1 H1) (h : PD K c ρ H E r) : PD K c ρ1 H1 E r := by
  obtain ⟨o, h'⟩ := r
  cases o with
  | nx s => exact fun ρ' H' v l' => h ρ' H' v (l.trans l')
  | rt s => exact fun ρ' H' v l' => h ρ' H' v (l.trans l')
  | bk s => exact fun ρ' H' v l' => h ρ' H' v (l.trans l')
  | ct s => exact fun ρ' H' v l' => h ρ' H' v (l.trans l')
/-- all of it, as seen later -/
theorem Tr.All.le {α : Type} {P R : α → Prop} {t : Tr α} (l : Le c ρ H ρ1 H1) (q : t.All P (PX K c ρ H)) (m : ∀ a, P a → R a) : t.All R (PX K c ρ1 H1) := q.mono2 m fun _ _ _ z => z.le l
end
theorem PE.imp {X : Cx} {e : Expr} {t t' : TE} (h : PE X e t) (i : ∀ σ H Q, t' σ H Q → t σ H Q) : PE X e t' := ⟨fun pins s σ H Q I q => h.run pins s σ H Q I (i _ _ _ q)⟩
theorem PT.imp {X : Cx} {e : Expr} {t t' : TT} (h : PT X e t) (i : ∀ σ H Q, t' σ H Q → t σ H Q) : PT X e t' := ⟨fun pins s σ H Q I q => h.run pins s σ H Q I (i _ _ _ q)⟩
theorem PW.imp {X : Cx} {e : Expr} {t t' : TT} (h : PW X e t) (i : ∀ σ H Q, t' σ H Q → t σ H Q) : PW X e t' := ⟨fun wh pins s σ H Q I q => h.run wh pins s σ H Q I (i _ _ _ q)⟩
theorem PA.imp {X : Cx} {e : List Expr} {t t' : TA} (h : PA X e t) (i : ∀ σ H Q, t' σ H Q → t σ H Q) : PA X e t' := ⟨fun pos pins s σ H Q I q => h.run pos pins s σ H Q I (i _ _ _ q)⟩
theorem PS.imp {X : Cx} {e : Stmt} {t t' : TS} (h : PS X e t) (i : ∀ E σ H, t' E σ H → t E σ H) : PS X e t' := ⟨fun pins s σ H Q I q => h.run pins s σ H Q I (i _ _ _ q)⟩
theorem PSs.imp {X : Cx} {e : List Stmt} {t t' : TS} (h : PSs X e t) (i : ∀ E σ H, t' E σ H → t E σ H) : PSs X e t' := ⟨fun pins s σ H Q I q => h.run pins s σ H Q I (i _ _ _ q)⟩
theorem PG.imp {X : Cx} {e : Expr} {t t' : TG} (h : PG X e t) (i : ∀ v σ H Q, t' v σ H Q → t v σ H Q) : PG X e t' := ⟨fun pins s σ H v u Q I r q => h.run pins s σ H v u Q I r (i _ _ _ _ q)⟩
theorem PGs.imp {X : Cx} {e : List Expr} {t t' : TGs} (h : PGs X e t) (i : ∀ v σ H Q, t' v σ H Q → t v σ H Q) : PGs X e t' := ⟨fun pins s σ H v u Q I r q => h.run pins s σ H v u Q I r (i _ _ _ _ q)⟩
end Ev

/-! Expressions of the evaluator. -/
namespace Ev
open PySem PySem.Spec PyProof.Rows L2 Dr
abbrev EE (c : Ct) (X : Cx) (e : Expr) (f : Sg → M D) : Prop := PE X e (tE X.K c f)
abbrev ET (c : Ct) (X : Cx) (e : Expr) (f : Sg → M Bool) : Prop := PT X e (tT X.K c f)
abbrev EW (c : Ct) (X : Cx) (e : Expr) (f : Sg → M Bool) : Prop := PW X e (tT X.K c f)
abbrev EA (c : Ct) (X : Cx) (es : List Expr) (f : Sg → M (List D)) : Prop := PA X es (tA X.K c f)
/-! ### steps -/
def fVar (i : Nat) : Sg → M D := fun s h => match s[i]? with
  | some (some x) => .ret (x, h)
  | _ => .bad
def fC (x : D) : Sg → M D := fun _ h => .ret (x, h)
def f1 (op : D → M D) (fa : Sg → M D) : Sg → M D := fun s => M.bind (fa s) op
def f2 (op : D → D → M D) (fa fb : Sg → M D) : Sg → M D := fun s => M.bind (fa s) fun x => M.bind (fb s) fun y => op x y
def fNil : Sg → M (List D) := fun _ h => .ret ([], h)
def fCons (fa : Sg → M D) (fr : Sg → M (List D)) : Sg → M (List D) := fun s => M.bind (fa s) fun x => M.bind (fr s) fun xs => M.ret (x :: xs)
def fN (op : List D → M D) (fa : Sg → M (List D)) : Sg → M D := fun s => M.bind (fa s) op
/-- a pure look at the store -/
abbrev Cmp := List O → D → D → Option Bool
def cmpV (p : Cmp) : D → D → M D := fun x y h => match p h x y with
  | some b => .ret (.bl b, h)
  | none => .bad
def cmpB (p : Cmp) : D → D → M Bool := fun x y h => match p h x y with
  | some b => .ret (b, h)
  | none => .bad
def t2 (p : Cmp) (fa fb : Sg → M D) : Sg → M Bool := fun s => M.bind (fa s) fun x => M.bind (fb s) fun y => cmpB p x y
def asB : D → M Bool := fun x h => match x with
  | .bl b => .ret (b, h)
  | _ => .bad
def tVal (fa : Sg → M D) : Sg → M Bool := fun s => M.bind (fa s) asB
def tAndF (fa fb : Sg → M Bool) : Sg → M Bool := fun s => M.bind (fa s) fun b => if b = true then fb s else M.ret false
def tOrF (fa fb : Sg → M Bool) : Sg → M Bool := fun s => M.bind (fa s) fun b => if b = true then M.ret true else fb s
def tNotF (fa : Sg → M Bool) : Sg → M Bool := fun s => M.bind (fa s) fun b => M.ret (!b)
def fAnd (fa fb : Sg → M D) : Sg → M D := fun s => M.bind (M.bind (fa s) asB) fun b => if b = true then fb s else M.ret (.bl false)
def fOr (fa fb : Sg → M D) : Sg → M D := fun s => M.bind (M.bind (fa s) asB) fun b => if b = true then M.ret (.bl true) else fb s
def fNot (fa : Sg → M D) : Sg → M D := fun s => M.bind (M.bind (fa s) asB) fun b => M.ret (.bl (!b))
def fIf (ft : Sg → M Bool) (fa fb : Sg → M D) : Sg → M D := fun s => M.bind (ft s) fun b => if b = true then fa s else fb s
def fChain (p q : Cmp) (fa fb fc : Sg → M D) : Sg → M D := fun s => M.bind (fa s) fun x => M.bind (fb s) fun y => M.bind (cmpB p x y) fun k => if k = true then M.bind (fc s) fun z => cmpV q y z else M.ret (.bl false)
def tChainF (p q : Cmp) (fa fb fc : Sg → M D) : Sg → M Bool := fun s => M.bind (fChain p q fa fb fc s) asB
section
variable {X : Cx} {c : Ct} {e a b d : Expr} {es : List Expr} {fa fb fc : Sg → M D} {ft fu : Sg → M Bool} {fr : Sg → M (List D)} {pos : Pos}
theorem ev_var (i : Nat) {x : Str} (hN : X.N[i]? = some x := by rfl) (hv : Vis X.env.scope x := by first | exact Or.inl rfl | exact Or.inr (Or.inl rfl) | exact Or.inr (Or.inr rfl)) (hd : (x == ("__debug__" : Str)) = false := by decide)
    (hcd : (x == ("__classdict__" : Str)) = false := by decide) : EE c X (.Name x pos) (fVar i) := PE.imp (pe_var hN hv hd hcd) fun σ H Q ⟨ρ, h, s, ok, env, q⟩ => by
  unfold fVar at q
  split at q
  · rename_i x hx
    obtain ⟨v, h1, h2⟩ := env.2 i x hx
    exact ⟨v, h1, q ρ H v .refl ok h2⟩
  · exact q.elim
theorem ev_c {x : D} {v : V} (hp : PE X e (tC v)) (r : ∀ H ρ, RV X.K c H ρ x v) : EE c X e (fC x) := PE.imp hp fun σ H Q ⟨ρ, h, s, ok, env, q⟩ => q ρ H v .refl ok (r H ρ)
theorem ev_int {i : Int} {j : Nat} : EE c X (.Constant (.int i) j pos) (fC (.int i)) := ev_c pe_int fun _ _ => .int i
theorem ev_bl {i : Bool} {j : Nat} : EE c X (.Constant (.bool i) j pos) (fC (.bl i)) := ev_c pe_bl fun _ _ => .bl i
theorem ev_non {j : Nat} : EE c X (.Constant .none j pos) (fC .non) := ev_c pe_non fun _ _ => .non
theorem ev_str {i : Str} {j : Nat} : EE c X (.Constant (.str i) j pos) (fC (.str i)) := ev_c pe_str fun _ _ => .str i
/-- a constant of the module -/
theorem ev_glob {x : Str} {d : D} {v : V} {u : Value} (hm : X.mg x = some u) (r : RelV v u) (rv : ∀ H ρ, RV X.K c H ρ d v) (hg : Gl X x := by rfl) (hd : (x == ("__debug__" : Str)) = false := by decide) : EE c X (.Name x pos) (fC d) := ev_c (pe_glob hg hm r hd) rv
/-! a step by values -/
def Op1 (K : PySem.W.Frag) (c : Ct) (r : V → Hp → VK → Prop) (op : D → M D) : Prop := ∀ {ρ h H x v Q}, Ok K c ρ h H → RV K c H ρ x v → (op x h).All (PV K c ρ H Q) (PX K c ρ H) → r v H Q
def Op2 (K : PySem.W.Frag) (c : Ct) (r : R2) (op : D → D → M D) : Prop := ∀ {ρ h H x y v w Q}, Ok K c ρ h H → RV K c H ρ x v → RV K c H ρ y w → (op x y h).All (PV K c ρ H Q) (PX K c ρ H) → r v w H Q
def OpN (K : PySem.W.Frag) (c : Ct) (r : List V → Hp → VK → Prop) (op : List D → M D) : Prop := ∀ {ρ h H xs vs Q}, Ok K c ρ h H → RVs K c H ρ xs vs → (op xs h).All (PV K c ρ H Q) (PX K c ρ H) → r vs H Q
def CmpS (K : PySem.W.Frag) (c : Ct) (r : R2) (p : Cmp) : Prop := ∀ {ρ h H x y v w Q b}, Ok K c ρ h H → RV K c H ρ x v → RV K c H ρ y w → p h x y = some b → Q (.bl b) H → r v w H Q
theorem tE_1 {r : V → Hp → VK → Prop} {op : D → M D} (ho : Op1 X.K c r op) {σ H Q} (q : tE X.K c (f1 op fa) σ H Q) : tE X.K c fa σ H fun x H1 => r x H1 Q := by
  obtain ⟨ρ, h, s, ok, env, q⟩ := q
  exact ⟨ρ, h, s, ok, env, (M.all_bind.mp q).mono fun ⟨x, h1⟩ q1 ρ1 H1 v l1 ok1 r1 => ho ok1 r1 (Tr.All.le l1 q1 fun r q => q.le l1)⟩
theorem tE_2 {r : R2} {op : D → D → M D} (ho : Op2 X.K c r op) {σ H Q} (q : tE X.K c (f2 op fa fb) σ H Q) : tE X.K c fa σ H fun x H1 => tE X.K c fb σ H1 fun y H2 => r x y H2 Q := by
  obtain ⟨ρ, h, s, ok, env, q⟩ := q
  refine ⟨ρ, h, s, ok, env, (M.all_bind.mp q).mono fun ⟨x, h1⟩ q1 ρ1 H1 v l1 ok1 r1 => ?_⟩
  exact ⟨ρ1, h1, s, ok1, env.le l1, Tr.All.le l1 (M.all_bind.mp q1) fun ⟨y, h2⟩ q2 ρ2 H2 w l2 ok2 r2 => ho ok2 (r1.le l2) r2 (Tr.All.le (l1.trans l2) q2 fun r q => q.le (l1.trans l2))⟩
theorem ev_op {op : Operator} {r : R2} {g : D → D → M D} (ho : OpR X (binaryOp op) r) (hs : Op2 X.K c r g) (ha : EE c X a fa) (hb : EE c X b fb) : EE c X (.BinOp a op b pos) (f2 g fa fb) :=
  PE.imp (pe_op ho ha hb) fun σ H Q q => tE_2 hs q
theorem ev_un {op : UnaryOp} {r : V → Hp → VK → Prop} {g : D → M D} (ho : UnR X (unaryOp op) r) (hs : Op1 X.K c r g) (ha : EE c X a fa) : EE c X (.UnaryOp op a pos) (f1 g fa) :=
  PE.imp (pe_un ho ha) fun σ H Q q => tE_1 hs q
theorem CmpS.v {K : PySem.W.Frag} {r : R2} {p : Cmp} (h : CmpS K c r p) : Op2 K c r (cmpV p) := fun {ρ hh H x y v w Q} ok r1 r2 q => by
  unfold cmpV at q
  split at q
  · rename_i b hb
    exact h ok r1 r2 hb (q ρ H _ .refl ok (.bl b))
  · exact q.elim
theorem ev_cmp {op : CmpOp} {r : R2} {p : Cmp} (ho : OpR X (compareOp op) r) (hs : CmpS X.K c r p) (ha : EE c X a fa) (hb : EE c X b fb) (hm : behindInMarks op b = false := by rfl) : EE c X (.Compare a [op] [b] pos) (f2 (cmpV p) fa fb) :=
  PE.imp (pe_cmpR ho ha hb hm) fun σ H Q q => tE_2 hs.v q
theorem et_cmp {op : CmpOp} {r : R2} {p : Cmp} (ho : OpR X (compareOp op) r) (hs : CmpS X.K c r p) (ha : EE c X a fa) (hb : EE c X b fb) (hm : behindInMarks op b = false := by rfl) : ET c X (.Compare a [op] [b] pos) (t2 p fa fb) :=
  PT.imp (pt_cmpR ho ha hb hm) fun σ H Q ⟨ρ, h, s, ok, env, q⟩ => by
    refine ⟨ρ, h, s, ok, env, (M.all_bind.mp q).mono fun ⟨x, h1⟩ q1 ρ1 H1 v l1 ok1 r1 => ?_⟩
    refine ⟨ρ1, h1, s, ok1, env.le l1, Tr.All.le l1 (M.all_bind.mp q1) fun ⟨y, h2⟩ q2 ρ2 H2 w l2 ok2 r2 => ?_⟩
    dsimp only [cmpB] at q2
    split at q2
    · rename_i k hk
      exact hs ok2 (r1.le l2) r2 hk ⟨_, rfl, q2 ρ2 H2 (l1.trans l2) ok2⟩
    · exact q2.elim
theorem ev_chain {op op' : CmpOp} {r r' : R2} {p p' : Cmp} (ho : OpR X (compareOp op) r) (ho' : OpR X (compareOp op') r') (hs : CmpS X.K c r p) (hs' : CmpS X.K c r' p') (ha : EE c X a fa) (hb : EE c X b fb) (hd : EE c X d fc) (hm : lastMarks [op, op'] [b, d] = false := by with_unfolding_all rfl) :
    EE c X (.Compare a [op, op'] [b, d] pos) (fChain p p' fa fb fc) :=
  PE.imp (pe_chain ho ho' ha hb hd hm) fun σ H Q ⟨ρ, h, s, ok, env, q⟩ => by
    refine ⟨ρ, h, s, ok, env, (M.all_bind.mp q).mono fun ⟨x, h1⟩ q1 ρ1 H1 v l1 ok1 r1 => ?_⟩
    refine ⟨ρ1, h1, s, ok1, env.le l1, Tr.All.le l1 (M.all_bind.mp q1) fun ⟨y, h2⟩ q2 ρ2 H2 w l2 ok2 r2 => ?_⟩
    have q2 := M.all_bind.mp q2
    dsimp only [cmpB] at q2
    split at q2
    · rename_i k hk
      refine hs ok2 (r1.le l2) r2 hk ⟨k, rfl, ?_⟩
      replace q2 : ((if k = true then M.bind (fc s) fun z => cmpV p' y z else M.ret (.bl false)) h2).All (PV X.K c ρ H Q) (PX X.K c ρ H) := q2
      by_cases hk : k = true
      · rw [if_pos hk] at q2 ⊢
        refine ⟨ρ2, h2, s, ok2, env.le (l1.trans l2), Tr.All.le (l1.trans l2) (M.all_bind.mp q2) fun ⟨z, h3⟩ q3 ρ3 H3 u l3 ok3 r3 => ?_⟩
        exact hs'.v ok3 (r2.le l3) r3 (Tr.All.le (l1.trans (l2.trans l3)) q3 fun r q => q.le (l1.trans (l2.trans l3)))
      · rw [if_neg hk] at q2 ⊢
        exact q2 ρ2 H2 _ (l1.trans l2) ok2 (.bl false)
    · exact q2.elim
/-! tests -/
theorem tE_b {f : Sg → M D} {σ H} {Q : Bool → Hp → Prop} (q : tT X.K c (tVal f) σ H Q) : tE X.K c f σ H fun x H1 => ∃ k, x = .bl k ∧ Q k H1 := by
  obtain ⟨ρ, h, s, ok, env, q⟩ := q
  refine ⟨ρ, h, s, ok, env, (M.all_bind.mp q).mono fun ⟨x, h1⟩ q1 ρ1 H1 v l1 ok1 r1 => ?_⟩
  dsimp only [asB] at q1
  split at q1
  · cases r1
    exact ⟨_, rfl, q1 ρ1 H1 l1 ok1⟩
  · exact q1.elim
theorem et_val {f : Sg → M D} (h : EE c X e f) (he : ∀ whole, isTrue e X.env whole = (do let v ← whole; standAt e.pos; holding [v] (truthy v)) := by intro _; rfl) : ET c X e (tVal f) := PT.imp (pt_val h he) fun σ H Q q => tE_b q
theorem et_not (h : ET c X a ft) : ET c X (.UnaryOp .Not a pos) (tNotF ft) := PT.imp (pt_not h) fun σ H Q ⟨ρ, h, s, ok, env, q⟩ =>
  ⟨ρ, h, s, ok, env, (M.all_bind.mp q).mono fun ⟨x, h1⟩ q1 ρ1 H1 l1 ok1 => q1 ρ1 H1 l1 ok1⟩
theorem ew_and1 (h : ET c X a ft) : EW c X (.BoolOp .And [a] pos) ft := pw_and1 h
theorem ew_or1 (h : ET c X a ft) : EW c X (.BoolOp .Or [a] pos) ft := pw_or1 h
theorem ew_and (h : ET c X a ft) (h2 : EW c X (.BoolOp .And (b :: es) pos) fu) : EW c X (.BoolOp .And (a :: b :: es) pos) (tAndF ft fu) := PW.imp (pw_and h h2) fun σ H Q ⟨ρ, h, s, ok, env, q⟩ => by
  refine ⟨ρ, h, s, ok, env, (M.all_bind.mp q).mono fun ⟨x, h1⟩ q1 ρ1 H1 l1 ok1 => ?_⟩
  dsimp only at q1 ⊢
  by_cases hx : x = true
  · rw [if_pos hx] at q1 ⊢
    exact ⟨ρ1, h1, s, ok1, env.le l1, Tr.All.le l1 q1 fun r q => q.le l1⟩
  · rw [if_neg hx] at q1 ⊢
    exact q1 ρ1 H1 l1 ok1
theorem ew_or (h : ET c X a ft) (h2 : EW c X (.BoolOp .Or (b :: es) pos) fu) : EW c X (.BoolOp .Or (a :: b :: es) pos) (tOrF ft fu) := PW.imp (pw_or h h2) fun σ H Q ⟨ρ, h, s, ok, env, q⟩ => by
  refine ⟨ρ, h, s, ok, env, (M.all_bind.mp q).mono fun ⟨x, h1⟩ q1 ρ1 H1 l1 ok1 => ?_⟩
  dsimp only at q1 ⊢
  by_cases hx : x = true
  · rw [if_pos hx] at q1 ⊢
    exact q1 ρ1 H1 l1 ok1
  · rw [if_neg hx] at q1 ⊢
    exact ⟨ρ1, h1, s, ok1, env.le l1, Tr.All.le l1 q1 fun r q => q.le l1⟩
theorem ew_t (h : EW c X e ft) : ET c X e ft := h.pt
/-! and, or, not as values -/
theorem ev_one {op : BoolOp} (h : EE c X a fa) : EE c X (.BoolOp op [a] pos) fa := pe_one h
theorem ev_and (h : EE c X a fa) (h2 : EE c X (.BoolOp .And (b :: es) pos) fb) : EE c X (.BoolOp .And (a :: b :: es) pos) (fAnd fa fb) := PE.imp (pe_and h h2) fun σ H Q ⟨ρ, h, s, ok, env, q⟩ => by
  refine ⟨ρ, h, s, ok, env, (M.all_bind.mp (M.all_bind.mp q)).mono fun ⟨x, h1⟩ q1 ρ1 H1 v l1 ok1 r1 => ?_⟩
  dsimp only [asB] at q1
  split at q1
  · rename_i k
    cases r1
    refine ⟨k, rfl, ?_⟩
    replace q1 : ((if k = true then fb s else M.ret (.bl false)) h1).All (PV X.K c ρ H Q) (PX X.K c ρ H) := q1
    by_cases hx : k = true
    · rw [if_pos hx] at q1 ⊢
      exact ⟨ρ1, h1, s, ok1, env.le l1, Tr.All.le l1 q1 fun r q => q.le l1⟩
    · rw [if_neg hx] at q1 ⊢
      exact q1 ρ1 H1 _ l1 ok1 (.bl _)
  · exact q1.elim
theorem ev_or (h : EE c X a fa) (h2 : EE c X (.BoolOp .Or (b :: es) pos) fb) : EE c X (.BoolOp .Or (a :: b :: es) pos) (fOr fa fb) := PE.imp (pe_or h h2) fun σ H Q ⟨ρ, h, s, ok, env, q⟩ => by
  refine ⟨ρ, h, s, ok, env, (M.all_bind.mp (M.all_bind.mp q)).mono fun ⟨x, h1⟩ q1 ρ1 H1 v l1 ok1 r1 => ?_⟩
  dsimp only [asB] at q1
  split at q1
  · rename_i k
    cases r1
    refine ⟨k, rfl, ?_⟩
    replace q1 : ((if k = true then M.ret (.bl true) else fb s) h1).All (PV X.K c ρ H Q) (PX X.K c ρ H) := q1
    by_cases hx : k = true
    · rw [if_pos hx] at q1 ⊢
      exact q1 ρ1 H1 _ l1 ok1 (.bl _)
    · rw [if_neg hx] at q1 ⊢
      exact ⟨ρ1, h1, s, ok1, env.le l1, Tr.All.le l1 q1 fun r q => q.le l1⟩
  · exact q1.elim
theorem ev_not (h : EE c X a fa) : EE c X (.UnaryOp .Not a pos) (fNot fa) := PE.imp (pe_not h) fun σ H Q ⟨ρ, h, s, ok, env, q⟩ => by
  refine ⟨ρ, h, s, ok, env, (M.all_bind.mp (M.all_bind.mp q)).mono fun ⟨x, h1⟩ q1 ρ1 H1 v l1 ok1 r1 => ?_⟩
  dsimp only [asB] at q1
  split at q1
  · cases r1
    exact ⟨_, rfl, q1 ρ1 H1 _ l1 ok1 (.bl _)⟩
  · exact q1.elim
theorem ev_if (h : ET c X d ft) (ha : EE c X a fa) (hb : EE c X b fb) : EE c X (.IfExp d a b pos) (fIf ft fa fb) := PE.imp (pe_ifExp h ha hb) fun σ H Q ⟨ρ, h, s, ok, env, q⟩ => by
  refine ⟨ρ, h, s, ok, env, (M.all_bind.mp q).mono fun ⟨x, h1⟩ q1 ρ1 H1 l1 ok1 => ?_⟩
  dsimp only at q1 ⊢
  by_cases hx : x = true
  · rw [if_pos hx] at q1 ⊢
    exact ⟨ρ1, h1, s, ok1, env.le l1, Tr.All.le l1 q1 fun r q => q.le l1⟩
  · rw [if_neg hx] at q1 ⊢
    exact ⟨ρ1, h1, s, ok1, env.le l1, Tr.All.le l1 q1 fun r q => q.le l1⟩
/-! arguments, displays, calls -/
theorem ea_nil : EA c X [] fNil := PA.imp pa_nil fun σ H Q ⟨ρ, h, s, ok, env, q⟩ => q ρ H [] .refl ok .nil
theorem ea_cons (ha : EE c X e fa) (hr : EA c X es fr) (hs : starEach (e :: es) X.env = (false, eval e X.env) :: starEach es X.env := by rfl) : EA c X (e :: es) (fCons fa fr) := PA.imp (pa_cons ha hr hs) fun σ H Q ⟨ρ, h, s, ok, env, q⟩ => by
  refine ⟨ρ, h, s, ok, env, (M.all_bind.mp q).mono fun ⟨x, h1⟩ q1 ρ1 H1 v l1 ok1 r1 => ?_⟩
  exact ⟨ρ1, h1, s, ok1, env.le l1, Tr.All.le l1 (M.all_bind.mp q1) fun ⟨y, h2⟩ q2 ρ2 H2 w l2 ok2 r2 => q2 ρ2 H2 _ (l1.trans l2) ok2 (.cons (r1.le l2) r2)⟩
theorem tA_N {r : List V → Hp → VK → Prop} {op : List D → M D} (ho : OpN X.K c r op) {σ H Q} (q : tE X.K c (fN op fr) σ H Q) : tA X.K c fr σ H fun x H1 => r x H1 Q := by
  obtain ⟨ρ, h, s, ok, env, q⟩ := q
  exact ⟨ρ, h, s, ok, env, (M.all_bind.mp q).mono fun ⟨x, h1⟩ q1 ρ1 H1 v l1 ok1 r1 => ho ok1 r1 (Tr.All.le l1 q1 fun r q => q.le l1)⟩
/-- lists and tuples are short -/
def lim : Nat := 1000000
theorem lim_line {n : Nat} (h : n ≤ lim) : n < sizeLine := Nat.lt_of_le_of_lt h (by decide)
def mkTup (xs : List D) : M D := fun h => if xs.length ≤ lim then .ret (.tup xs, h) else .bad
def mkLst (xs : List D) : M D := fun h => if xs.length ≤ lim then .ret (.loc h.length, h ++ [.lst xs]) else .bad
theorem Ok.tup {K : PySem.W.Frag} {ρ h H xs vs Q} (ok : Ok K c ρ h H) (r : RVs K c H ρ xs vs) (q : (mkTup xs h).All (PV K c ρ H Q) (PX K c ρ H)) : vs.length ≤ sizeLine ∧ ∀ p, H p = none → Q (.ref p) (upd H p (.tup vs)) := by
  unfold mkTup at q
  split at q
  · rename_i hl
    refine ⟨by rw [← r.len]; exact Nat.le_of_lt (lim_line hl), fun p np => ?_⟩
    obtain ⟨l, ok1⟩ := ok.other (o := .tup vs) np
    exact q ρ _ _ l ok1 (.tup (SqT.of upd_same) (r.le l))
  · exact q.elim
theorem Ok.lst {K : PySem.W.Frag} {ρ h H xs vs Q} (ok : Ok K c ρ h H) (r : RVs K c H ρ xs vs) (q : (mkLst xs h).All (PV K c ρ H Q) (PX K c ρ H)) : vs.length ≤ sizeLine ∧ ∀ p, H p = none → Q (.ref p) (upd H p (.lst vs)) := by
  unfold mkLst at q
  split at q
  · rename_i hl
    refine ⟨by rw [← r.len]; exact Nat.le_of_lt (lim_line hl), fun p np => ?_⟩
    obtain ⟨l, ok1⟩ := ok.push (u := .lst vs) (o := .lst xs) np fun H1 l e => ⟨vs, e, r.le l⟩
    exact q _ _ _ l ok1 (.loc (by rw [← ok.len]; simp [Sto.push]))
  · exact q.elim
theorem ev_tup {k : Nat} (ha : EA c X es fr) : EE c X (.Tuple es k pos) (fN mkTup fr) := PE.imp (pe_tup ha) fun σ H Q q => tA_N (r := fun vs H Q => vs.length ≤ sizeLine ∧ ∀ p, H p = none → Q (.ref p) (upd H p (.tup vs))) (fun ok r q => ok.tup r q) q
theorem ev_lst (ha : EA c X es fr) : EE c X (.List es pos) (fN mkLst fr) := PE.imp (pe_lst ha) fun σ H Q q => tA_N (r := fun vs H Q => vs.length ≤ sizeLine ∧ ∀ p, H p = none → Q (.ref p) (upd H p (.lst vs))) (fun ok r q => ok.lst r q) q
/-- a list that nobody changes -/
def mkFz (xs : List D) : M D := fun h => if xs.length ≤ lim then .ret (.lst xs, h) else .bad
/-- a new list, in either way -/
structure MkOk (K : PySem.W.Frag) (c : Ct) (mk : List D → M D) : Prop where
  go : ∀ {ρ h H xs vs Q}, Ok K c ρ h H → RVs K c H ρ xs vs → (mk xs h).All (PV K c ρ H Q) (PX K c ρ H) → vs.length ≤ sizeLine ∧ ∀ p, H p = none → Q (.ref p) (upd H p (.lst vs))
theorem mk_lst {K : PySem.W.Frag} : MkOk K c mkLst := ⟨fun ok r q => ok.lst r q⟩
theorem mk_fz {K : PySem.W.Frag} : MkOk K c mkFz := ⟨fun {ρ h H xs vs Q} ok r q => by
  unfold mkFz at q
  split at q
  · rename_i hl
    refine ⟨by rw [← r.len]; exact Nat.le_of_lt (lim_line hl), fun p np => ?_⟩
    obtain ⟨l, ok1⟩ := ok.other (o := .lst vs) np
    have o1 := ok.offN np
    exact q ρ _ _ l ok1 (.lst upd_same o1 (r.le l))
  · exact q.elim⟩
theorem ev_lstF {mk : List D → M D} (m : MkOk X.K c mk) (ha : EA c X es fr) : EE c X (.List es pos) (fN mk fr) := PE.imp (pe_lst ha) fun σ H Q q => tA_N (r := fun vs H Q => vs.length ≤ sizeLine ∧ ∀ p, H p = none → Q (.ref p) (upd H p (.lst vs))) (fun ok r q => m.go ok r q) q
/-! what stands in a value -/
def lstD (h : List O) : D → Option (List D)
  | .lst xs => some xs
  | .loc n => match h[n]? with
    | some (.lst xs) => some xs
    | _ => none
  | _ => none
theorem lstD_ok {K : PySem.W.Frag} {ρ h H x v xs} (ok : Ok K c ρ h H) (r : RV K c H ρ x v) (e : lstD h x = some xs) : ∃ a vs, v = .ref a ∧ H a = some (.lst vs) ∧ RVs K c H ρ xs vs := by
  unfold lstD at e
  split at e
  · cases e
    cases r with
    | lst h1 _ h2 => exact ⟨_, _, rfl, h1, h2⟩
  · split at e
    · rename_i hx
      cases e
      cases r with
      | loc g1 =>
        obtain ⟨vs, e1, e2⟩ := ok.objs _ _ _ hx g1
        exact ⟨_, _, rfl, e1, e2⟩
    · cases e
  · cases e
def seqD (h : List O) : D → Option (List D)
  | .tup xs => some xs
  | x => lstD h x
theorem seqD_ok {K : PySem.W.Frag} {ρ h H x v xs} (ok : Ok K c ρ h H) (r : RV K c H ρ x v) (e : seqD h x = some xs) : ∃ a vs, v = .ref a ∧ (SqL K H a vs ∨ SqT K H a vs) ∧ RVs K c H ρ xs vs := by
  unfold seqD at e
  split at e
  · cases e
    cases r with
    | tup h1 h2 => exact ⟨_, _, rfl, .inr h1, h2⟩
  · obtain ⟨a, vs, e0, e1, e2⟩ := lstD_ok ok r e
    exact ⟨a, vs, e0, .inl (SqL.of e1), e2⟩
/-- a built-in by its name -/
theorem ev_blt {id : String} {r : List V → Hp → VK → Prop} {x : Str} {p : Pos} {op : List D → M D} (hc : CallR X (.builtin id) r) (ho : OpN X.K c r op) (hm : X.mg x = none) (hv : bootBuiltins x = some (.builtin id)) (ha : EA c X (e :: es) fr) (hg : Gl X x := by rfl) (hn : x ≠ "__name__" := by decide) (hdb : (x == ("__debug__" : Str)) = false := by decide)
    (hs : starEach (e :: es) X.env = (false, eval e X.env) :: starEach es X.env := by rfl) (hp : (backTo pos (starEach es X.env)).any (·.1) = false := by rfl) : EE c X (.Call (.Name x p) (e :: es) [] pos) (fN op fr) :=
  PE.imp (pe_callB hc hg hm hv ha hn hdb hs hp) fun σ H Q q => tA_N ho q
theorem ev_bty {T : String} {r : List V → Hp → VK → Prop} {x : Str} {p : Pos} {op : List D → M D} (hc : CallR X (.type T) r) (ho : OpN X.K c r op) (hm : X.mg x = none) (hv : bootBuiltins x = some (.type T)) (ha : EA c X (e :: es) fr) (hg : Gl X x := by rfl) (hn : x ≠ "__name__" := by decide) (hdb : (x == ("__debug__" : Str)) = false := by decide)
    (hs : starEach (e :: es) X.env = (false, eval e X.env) :: starEach es X.env := by rfl) (hp : (backTo pos (starEach es X.env)).any (·.1) = false := by rfl) : EE c X (.Call (.Name x p) (e :: es) [] pos) (fN op fr) :=
  PE.imp (pe_callTy hc hg hm hv ha hn hdb hs hp) fun σ H Q q => tA_N ho q
end
end Ev

/-! Operators, built-ins, subscripts of the evaluator. -/
namespace Ev
open PySem PySem.Spec PyProof.Rows L2 Dr
variable {c : Ct}
/-! ### comparisons -/
def pI (f : Int → Int → Bool) : Cmp := fun _ x y => match x, y with
  | .int i, .int j => some (f i j)
  | _, _ => none
theorem cmp_int {K : PySem.W.Frag} {f : Int → Int → Bool} : CmpS K c (rI0 fun i j => .bl (f i j)) (pI f) := fun {ρ h H x y v w Q b} ok r1 r2 e q => by
  unfold pI at e
  split at e
  · cases r1
    cases r2
    cases e
    exact ⟨_, _, rfl, rfl, q⟩
  · cases e
def isNone : D → Bool
  | .non => true
  | _ => false
theorem isNone_ok {K : PySem.W.Frag} {H : Hp} {ρ : Sto} {x : D} {v : V} (r : RV K c H ρ x v) : decide (v = .non) = isNone x := by
  cases r <;> rfl
def pIsN (f : Bool → Bool) : Cmp := fun _ x y => match y with
  | .non => some (f (isNone x))
  | _ => none
theorem cmp_isN {K : PySem.W.Frag} : CmpS K c (fun x y H Q => y = .non ∧ Q (.bl (decide (x = .non))) H) (pIsN fun b => b) := fun {ρ h H x y v w Q b} ok r1 r2 e q => by
  unfold pIsN at e
  split at e
  · cases r2
    cases e
    exact ⟨rfl, by rw [isNone_ok r1]; exact q⟩
  · cases e
theorem cmp_notN {K : PySem.W.Frag} : CmpS K c (fun x y H Q => y = .non ∧ Q (.bl (!decide (x = .non))) H) (pIsN fun b => !b) := fun {ρ h H x y v w Q b} ok r1 r2 e q => by
  unfold pIsN at e
  split at e
  · cases r2
    cases e
    exact ⟨rfl, by rw [isNone_ok r1]; exact q⟩
  · cases e
/-! data -/
def mapO {α β : Type} (f : α → Option β) : List α → Option (List β)
  | [] => some []
  | x :: xs => match f x with
    | some y => match mapO f xs with
      | some ys => some (y :: ys)
      | none => none
    | none => none
def toP (h : List O) : Nat → D → Option PyData
  | 0, _ => none
  | n + 1, x => match x with
    | .non => some .none
    | .bl b => some (.bool b)
    | .int i => some (.int i)
    | .str z => some (.str z)
    | .tup xs => match mapO (toP h n) xs with
      | some ds => some (.tuple ds)
      | none => none
    | .lst xs => match mapO (toP h n) xs with
      | some ds => some (.list ds)
      | none => none
    | .loc k => match h[k]? with
      | some (.lst xs) => match mapO (toP h n) xs with
        | some ds => some (.list ds)
        | none => none
      | _ => none
    | .draw => none
    | .ins _ _ => none
    | .dct _ _ => none
    | .tct _ _ => none
    | .exn _ _ => none
    | .fn _ => none
theorem toPs_ok {K : PySem.W.Frag} {ρ : Sto} {H : Hp} {f : D → Option PyData} (hf : ∀ x d v, f x = some d → RV K c H ρ x v → Dp K H v d) : ∀ {xs : List D} {ds : List PyData} {vs : List V}, mapO f xs = some ds → RVs K c H ρ xs vs → DpAll K H vs ds
  | [], ds, vs, e, r => by
    cases r
    simp only [mapO] at e
    cases e
    exact .nil
  | x :: xs, ds, vs, e, r => by
    cases r with
    | cons r1 r2 =>
      simp only [mapO] at e
      split at e
      · rename_i y hy
        split at e
        · rename_i ys hys
          cases e
          exact .cons (hf _ _ _ hy r1) (toPs_ok hf hys r2)
        · cases e
      · cases e
theorem toP_ok {K : PySem.W.Frag} {ρ : Sto} {h : List O} {H : Hp} (ok : Ok K c ρ h H) : ∀ (n : Nat) (x : D) (d : PyData) (v : V), toP h n x = some d → RV K c H ρ x v → Dp K H v d
  | 0, _, _, _, e, _ => by simp only [toP] at e; cases e
  | n + 1, x, d, v, e, r => by
    cases r with
    | non => simp only [toP] at e; cases e; exact .non
    | bl b => simp only [toP] at e; cases e; exact .bl b
    | int b => simp only [toP] at e; cases e; exact .int b
    | str b => simp only [toP] at e; cases e; exact .str b
    | tup h1 h2 =>
      simp only [toP] at e
      split at e
      · rename_i ds hds
        cases e
        exact .tup h1 (toPs_ok (toP_ok ok n) hds h2)
      · cases e
    | loc h1 =>
      simp only [toP] at e
      split at e
      · rename_i xs hx
        split at e
        · rename_i ds hds
          cases e
          obtain ⟨vs, e1, e2⟩ := ok.objs _ _ _ hx h1
          exact .lst (SqL.of e1) (toPs_ok (toP_ok ok n) hds e2)
        · cases e
      · cases e
    | lst h1 _ h2 =>
      simp only [toP] at e
      split at e
      · rename_i ds hds
        cases e
        exact .lst (SqL.of h1) (toPs_ok (toP_ok ok n) hds h2)
      · cases e
    | draw h1 => simp only [toP] at e; cases e
    | fn h1 => simp only [toP] at e; cases e
    | ins h1 hk hl h2 => simp only [toP] at e; cases e
    | dct _ _ _ _ => simp only [toP] at e; cases e
    | tct _ _ _ _ _ => simp only [toP] at e; cases e
    | exn _ _ _ _ _ => simp only [toP] at e; cases e
def deep : Nat := 24
def pEq (f : Bool → Bool) : Cmp := fun h x y => match toP h deep x, toP h deep y with
  | some d, some e => if (SeqAt.shaped d && SeqAt.shaped e) = true then some (f (PyData.eqv d e)) else none
  | _, _ => none
theorem cmp_eq {K : PySem.W.Frag} : CmpS K c (rEqD K) (pEq fun b => b) := fun {ρ h H x y v w Q b} ok r1 r2 e q => by
  unfold pEq at e
  split at e
  · rename_i d1 d2 h1 h2
    split at e
    · rename_i hs
      have hs := Bool.and_eq_true_iff.mp hs
      cases e
      exact ⟨d1, d2, toP_ok ok _ _ _ _ h1 r1, toP_ok ok _ _ _ _ h2 r2, hs.1, hs.2, q⟩
    · cases e
  · cases e
theorem cmp_ne {K : PySem.W.Frag} : CmpS K c (rNeD K) (pEq fun b => !b) := fun {ρ h H x y v w Q b} ok r1 r2 e q => by
  unfold pEq at e
  split at e
  · rename_i d1 d2 h1 h2
    split at e
    · rename_i hs
      have hs := Bool.and_eq_true_iff.mp hs
      cases e
      exact ⟨d1, d2, toP_ok ok _ _ _ _ h1 r1, toP_ok ok _ _ _ _ h2 r2, hs.1, hs.2, q⟩
    · cases e
  · cases e
/-- in a list of data -/
def pIn (f : Bool → Bool) : Cmp := fun h x y => match toP h deep x, toP h deep y with
  | some d, some (.list ds) => if (SeqAt.shaped d && SeqAt.shaped (.list ds)) = true then some (f (ds.any fun z => PyData.eqv z d)) else none
  | _, _ => none
theorem cmp_in {K : PySem.W.Frag} : CmpS K c (rInD K) (pIn fun b => b) := fun {ρ h H x y v w Q b} ok r1 r2 e q => by
  unfold pIn at e
  split at e
  · rename_i d1 d2 h1 h2
    split at e
    · rename_i hs
      have hs := Bool.and_eq_true_iff.mp hs
      cases e
      exact ⟨d1, d2, toP_ok ok _ _ _ _ h1 r1, toP_ok ok _ _ _ _ h2 r2, hs.1, hs.2, q⟩
    · cases e
  · cases e
theorem cmp_notIn {K : PySem.W.Frag} : CmpS K c (rNotInD K) (pIn fun b => !b) := fun {ρ h H x y v w Q b} ok r1 r2 e q => by
  unfold pIn at e
  split at e
  · rename_i d1 d2 h1 h2
    split at e
    · rename_i hs
      have hs := Bool.and_eq_true_iff.mp hs
      cases e
      exact ⟨d1, d2, toP_ok ok _ _ _ _ h1 r1, toP_ok ok _ _ _ _ h2 r2, hs.1, hs.2, q⟩
    · cases e
  · cases e
/-- in a tuple of flat values -/
def toV : D → Option V
  | .non => some .non
  | .bl b => some (.bl b)
  | .int i => some (.int i)
  | .str z => some (.str z)
  | _ => none
theorem toV_ok {K : PySem.W.Frag} {ρ : Sto} {H : Hp} {x : D} {v w : V} (e : toV x = some v) (r : RV K c H ρ x w) : w = v ∧ flatV v = true := by
  cases r <;> simp only [toV] at e <;> cases e <;> exact ⟨rfl, rfl⟩
theorem toVs_ok {K : PySem.W.Frag} {ρ : Sto} {H : Hp} : ∀ {xs : List D} {vs ws : List V}, mapO toV xs = some vs → RVs K c H ρ xs ws → ws = vs ∧ vs.all flatV = true
  | [], _, _, e, r => by cases r; simp only [mapO] at e; cases e; exact ⟨rfl, rfl⟩
  | x :: xs, _, _, e, r => by
    cases r with
    | cons r1 r2 =>
      simp only [mapO] at e
      split at e
      · rename_i y hy
        split at e
        · rename_i ys hys
          cases e
          obtain ⟨q1, q2⟩ := toV_ok hy r1
          obtain ⟨q3, q4⟩ := toVs_ok hys r2
          exact ⟨by rw [q1, q3], by rw [List.all_cons, q2, q4]; rfl⟩
        · cases e
      · cases e
def pInT (neg : Bool) : Cmp := fun _ x y => match y with
  | .tup xs => match toV x, mapO toV xs with
    | some v, some vs => some (if neg then !inV v vs else inV v vs)
    | _, _ => none
  | _ => none
theorem cmp_inT {K : PySem.W.Frag} (neg : Bool) : CmpS K c (rIn K neg) (pInT neg) := fun {ρ h H x y v w Q b} ok r1 r2 e q => by
  unfold pInT at e
  split at e
  · cases r2 with
    | tup h1 h2 =>
      split at e
      · rename_i v' vs' hv hvs
        cases e
        obtain ⟨q1, q2⟩ := toV_ok hv r1
        obtain ⟨q3, q4⟩ := toVs_ok hvs h2
        subst q1 q3
        exact ⟨_, _, rfl, .inr h1, q2, q4, q⟩
      · cases e
  · cases e
/-! ### operators -/
def oI (p : Int → Int → Bool) (f : Int → Int → Int) : D → D → M D := fun x y h => match x, y with
  | .int i, .int j => if p i j = true then .ret (.int (f i j), h) else .bad
  | _, _ => .bad
theorem op_I {K : PySem.W.Frag} {C : Int → Int → Prop} {p : Int → Int → Bool} {f : Int → Int → Int} (hp : ∀ i j, p i j = true → C i j) : Op2 K c (rI C fun i j => .int (f i j)) (oI p f) := fun {ρ h H x y v w Q} ok r1 r2 q => by
  unfold oI at q
  split at q
  · cases r1
    cases r2
    split at q
    · rename_i hh
      exact ⟨_, _, rfl, rfl, hp _ _ hh, q ρ H _ .refl ok (.int _)⟩
    · exact q.elim
  · exact q.elim
theorem op_I0 {K : PySem.W.Frag} {f : Int → Int → Int} : Op2 K c (rI0 fun i j => .int (f i j)) (oI (fun _ _ => true) f) := fun {ρ h H x y v w Q} ok r1 r2 q => by
  unfold oI at q
  split at q
  · cases r1
    cases r2
    exact ⟨_, _, rfl, rfl, q ρ H _ .refl ok (.int _)⟩
  · exact q.elim
def oNeg : D → M D := fun x h => match x with
  | .int i => .ret (.int (-i), h)
  | _ => .bad
theorem op_neg {K : PySem.W.Frag} : Op1 K c (rU fun i => .int (-i)) oNeg := fun {ρ h H x v Q} ok r1 q => by
  unfold oNeg at q
  split at q
  · cases r1
    exact ⟨_, rfl, q ρ H _ .refl ok (.int _)⟩
  · exact q.elim
/-- tuple + tuple -/
def oCatT : D → D → M D := fun x y h => match x, y with
  | .tup xs, .tup ys => mkTup (xs ++ ys) h
  | _, _ => .bad
theorem op_catTup {K : PySem.W.Frag} : Op2 K c (rCatA K) oCatT := fun {ρ h H x y v w Q} ok r1 r2 q => by
  unfold oCatT at q
  split at q
  · cases r1 with
    | tup h1 h2 =>
      cases r2 with
      | tup h3 h4 =>
        obtain ⟨hl, q1⟩ := ok.tup (h2.append h4) q
        refine ⟨_, _, _, _, rfl, rfl, h1, h3, by rw [← List.length_append]; exact hl, fun e => ?_, fun _ e => ?_, fun _ _ p np => q1 p np⟩
        · unfold mkTup at q
          split at q
          · subst e
            have := h2.len
            simp at this
            subst this
            exact q ρ H _ .refl ok (.tup h3 h4)
          · exact q.elim
        · unfold mkTup at q
          split at q
          · subst e
            have := h4.len
            simp at this
            subst this
            exact q ρ H _ .refl ok (.tup h1 (by simpa using h2))
          · exact q.elim
  · exact q.elim
/-- list + list -/
def oCatL (mk : List D → M D) : D → D → M D := fun x y h => match lstD h x, lstD h y with
  | some xs, some ys => mk (xs ++ ys) h
  | _, _ => .bad
theorem op_catLst {K : PySem.W.Frag} {mk : List D → M D} (m : MkOk K c mk) : Op2 K c rCat (oCatL mk) := fun {ρ h H x y v w Q} ok r1 r2 q => by
  unfold oCatL at q
  split at q
  · rename_i xs ys e1 e2
    obtain ⟨a, vs, rfl, g1, g2⟩ := lstD_ok ok r1 e1
    obtain ⟨b, ws, rfl, g3, g4⟩ := lstD_ok ok r2 e2
    obtain ⟨hl, q1⟩ := m.go ok (g2.append g4) q
    exact ⟨_, _, _, _, rfl, rfl, g1, g3, by rw [← List.length_append]; exact hl, q1⟩
  · exact q.elim
/-- list * int -/
def oRep (mk : List D → M D) : D → D → M D := fun x y h => match y with
  | .int k => match lstD h x with
    | some xs => if (decide (-(2 ^ 63) ≤ k) && decide (k < 2 ^ 63)) = true then mk (List.replicate k.toNat xs).flatten h else .bad
    | _ => .bad
  | _ => .bad
theorem RVs.rep {K : PySem.W.Frag} {ρ : Sto} {H : Hp} {xs : List D} {vs : List V} (r : RVs K c H ρ xs vs) : ∀ n, RVs K c H ρ (List.replicate n xs).flatten (List.replicate n vs).flatten
  | 0 => .nil
  | n + 1 => by
    rw [List.replicate_succ, List.replicate_succ, List.flatten_cons, List.flatten_cons]
    exact r.append (RVs.rep r n)
theorem op_repLst {K : PySem.W.Frag} {mk : List D → M D} (m : MkOk K c mk) : Op2 K c rRep (oRep mk) := fun {ρ h H x y v w Q} ok r1 r2 q => by
  unfold oRep at q
  split at q
  · cases r2
    split at q
    · rename_i xs e1
      obtain ⟨a, vs, rfl, g1, g2⟩ := lstD_ok ok r1 e1
      split at q
      · rename_i hb
        have hb := Bool.and_eq_true_iff.mp hb
        obtain ⟨hl, q1⟩ := m.go ok (g2.rep _) q
        refine ⟨_, _, _, rfl, rfl, g1, of_decide_eq_true hb.1, of_decide_eq_true hb.2, ?_, q1⟩
        rw [List.length_flatten, List.map_replicate, List.sum_replicate_nat] at hl
        rw [Nat.mul_comm]; exact hl
      · exact q.elim
    · exact q.elim
  · exact q.elim
/-! ### subscripts -/
def oIx : D → D → M D := fun x y h => match y with
  | .int i => match seqD h x with
    | some xs => match atI xs i with
      | some z => .ret (z, h)
      | none => .bad
    | none => .bad
  | _ => .bad
theorem RVs.at_ {K : PySem.W.Frag} {ρ : Sto} {H : Hp} {xs : List D} {vs : List V} {i : Int} {x : D} (r : RVs K c H ρ xs vs) (e : atI xs i = some x) : ∃ v, atI vs i = some v ∧ RV K c H ρ x v := by
  unfold atI at e ⊢
  rw [← r.len]
  cases q : ixN xs.length i with
  | none => rw [q] at e; cases e
  | some j =>
    rw [q] at e
    obtain ⟨v, h1, h2⟩ := r.get (i := j) (x := x) e
    exact ⟨v, h1, h2⟩
theorem op_ix {K : PySem.W.Frag} : Op2 K c (fun x y H Q => rIxL K x y H Q ∨ rIxT K x y H Q) oIx := fun {ρ h H x y v w Q} ok r1 r2 q => by
  unfold oIx at q
  split at q
  · cases r2
    split at q
    · rename_i xs hx
      obtain ⟨a, vs, rfl, e1, e2⟩ := seqD_ok ok r1 hx
      split at q
      · rename_i z hz
        obtain ⟨v, g1, g2⟩ := e2.at_ hz
        rcases e1 with e1 | e1
        · exact .inl ⟨_, _, _, _, rfl, rfl, e1, g1, q ρ H _ .refl ok g2⟩
        · exact .inr ⟨_, _, _, _, rfl, rfl, e1, g1, q ρ H _ .refl ok g2⟩
      · exact q.elim
    · exact q.elim
  · exact q.elim
section
variable {X : Cx} {e a b d : Expr} {es : List Expr} {fa fb fl fh : Sg → M D} {fr : Sg → M (List D)} {pos p2 : Pos}
theorem ev_ix (ha : EE c X a fa) (hb : EE c X b fb) (hs : PlainIx b := by exact fun _ _ => rfl) : EE c X (.Subscript a b pos) (f2 oIx fa fb) := PE.imp (pe_ix (IxR.or ix_list ix_tup) ha hb hs) fun σ H Q q => tE_2 op_ix q
end
end Ev

/-! Slices, isinstance, built-in functions and methods, attributes. -/
namespace Ev
open PySem PySem.Spec PyProof.Rows L2 Dr
variable {c : Ct}
/-! ### slices -/
def tO (K : PySem.W.Frag) (c : Ct) (f : Sg → M (Option Int)) : TO := fun σ H Q => ∃ ρ h s, Ok K c ρ h H ∧ Env K c H ρ s σ ∧ (f s h).All (fun r => ∀ ρ' H', Le c ρ H ρ' H' → Ok K c ρ' r.2 H' → Q r.1 H') (PX K c ρ H)
theorem PO.imp {X : Cx} {e : Option Expr} {t t' : TO} (h : PO X e t) (i : ∀ σ H Q, t' σ H Q → t σ H Q) : PO X e t' := ⟨fun pins s σ H Q I q => h.run pins s σ H Q I (i _ _ _ q)⟩
abbrev EO (c : Ct) (X : Cx) (e : Option Expr) (f : Sg → M (Option Int)) : Prop := PO X e (tO X.K c f)
def fNo : Sg → M (Option Int) := fun _ h => .ret (none, h)
def asI : D → M (Option Int) := fun x h => match x with
  | .int i => .ret (some i, h)
  | _ => .bad
def fPart (fa : Sg → M D) : Sg → M (Option Int) := fun s => M.bind (fa s) asI
def cutD {α : Type} (xs : List α) (lo hi : Option Int) : List α := (xs.drop (HT.sIx xs.length 0 lo)).take (HT.sIx xs.length xs.length hi - HT.sIx xs.length 0 lo)
def oSl (mk : List D → M D) : D → Option Int → Option Int → M D := fun x lo hi h => match x with
  | .tup xs => mkTup (cutD xs lo hi) h
  | x => match lstD h x with
    | some xs => mk (cutD xs lo hi) h
    | none => .bad
def fSl (mk : List D → M D) (fa : Sg → M D) (fl fh : Sg → M (Option Int)) : Sg → M D := fun s => M.bind (fa s) fun x => M.bind (fl s) fun lo => M.bind (fh s) fun hi => oSl mk x lo hi
section
variable {X : Cx} {e a b d : Expr} {es : List Expr} {fa fb : Sg → M D} {fl fh : Sg → M (Option Int)} {fr : Sg → M (List D)} {pos p2 : Pos} {lo hi : Option Expr}
theorem eo_no : EO c X none fNo := PO.imp po_none fun σ H Q ⟨ρ, h, s, ok, env, q⟩ => q ρ H .refl ok
theorem eo_some (h : EE c X e fa) : EO c X (some e) (fPart fa) := PO.imp (po_some h) fun σ H Q ⟨ρ, h, s, ok, env, q⟩ => by
  refine ⟨ρ, h, s, ok, env, (M.all_bind.mp q).mono fun ⟨x, h1⟩ q1 ρ1 H1 v l1 ok1 r1 => ?_⟩
  dsimp only [asI] at q1
  split at q1
  · cases r1
    exact ⟨_, rfl, q1 ρ1 H1 l1 ok1⟩
  · exact q1.elim
theorem RVs.cut {K : PySem.W.Frag} {ρ : Sto} {H : Hp} {xs : List D} {vs : List V} (r : RVs K c H ρ xs vs) (lo hi : Option Int) : RVs K c H ρ (cutD xs lo hi) (cutV vs lo hi) := by
  unfold cutD cutV
  rw [r.len]
  exact (r.drop _).take _
theorem cut_whole {α : Type} {xs : List α} {lo hi : Option Int} (h : HT.sIx xs.length 0 lo = 0 ∧ HT.sIx xs.length xs.length hi = xs.length) : cutD xs lo hi = xs := by
  unfold cutD
  rw [h.1, h.2]
  simp
theorem ev_sl {mk : List D → M D} (m : MkOk X.K c mk) (ha : EE c X a fa) (hl : EO c X lo fl) (hh : EO c X hi fh) : EE c X (.Subscript a (.Slice lo hi none p2) pos) (fSl mk fa fl fh) := PE.imp (pe_slice (SlR.or sl_list sl_tupA) ha hl hh) fun σ H Q ⟨ρ, h, s, ok, env, q⟩ => by
  refine ⟨ρ, h, s, ok, env, (M.all_bind.mp q).mono fun ⟨x, h1⟩ q1 ρ1 H1 v l1 ok1 r1 => ?_⟩
  refine ⟨ρ1, h1, s, ok1, env.le l1, Tr.All.le l1 (M.all_bind.mp q1) fun ⟨o1, h2⟩ q2 ρ2 H2 l2 ok2 => ?_⟩
  refine ⟨ρ2, h2, s, ok2, env.le (l1.trans l2), Tr.All.le (l1.trans l2) (M.all_bind.mp q2) fun ⟨o2, h3⟩ q3 ρ3 H3 l3 ok3 => ?_⟩
  have r3 := r1.le (l2.trans l3)
  dsimp only [oSl] at q3
  split at q3
  · cases r3 with
    | tup g1 g2 =>
      have q4 := Tr.All.le (R := PV X.K c ρ3 H3 Q) (l1.trans (l2.trans l3)) q3 fun r q => q.le (l1.trans (l2.trans l3))
      obtain ⟨hl, k⟩ := ok3.tup (g2.cut o1 o2) q4
      refine .inr ⟨_, _, rfl, g1, fun hw => ?_, fun _ => k⟩
      unfold mkTup at q4
      split at q4
      · rw [← g2.len] at hw
        rw [cut_whole hw] at q4
        exact q4 ρ3 H3 _ .refl ok3 (.tup g1 g2)
      · exact q4.elim
  · split at q3
    · rename_i xs hx
      obtain ⟨a, vs, rfl, e1, e2⟩ := lstD_ok ok3 r3 hx
      have q4 := Tr.All.le (R := PV X.K c ρ3 H3 Q) (l1.trans (l2.trans l3)) q3 fun r q => q.le (l1.trans (l2.trans l3))
      obtain ⟨hl, k⟩ := m.go ok3 (e2.cut o1 o2) q4
      exact .inl ⟨_, _, rfl, SqL.of e1, k⟩
    · exact q3.elim
end
/-! ### isinstance -/
structure ClsF (K : PySem.W.Frag) (C : Addr) : Prop where
  cl : Cls K C
  ha : PySem.W.findIn K (.ref C) "__class__" = some (some (.builtin "object.__class__"))
  hn : PySem.W.specialIn K (.builtin "object.__class__") "__get__" = some (some (.builtin "getset_descriptor.__get__"))
  ht : PySem.W.takesIn K (.builtin "object.__class__") = some true
  hm : PySem.W.mroIn K C (.type "object") = some true
structure Facts (K : PySem.W.Frag) (c : Ct) : Prop where
  cls : ∀ k, k < c.n → ClsF K (c.cA k)
  nd : ∀ k, k < c.n → (c.cF k).Nodup
  few : ∀ k, k < c.n → (c.cF k).length < 1000
  inj : ∀ k j, k < c.n → j < c.n → c.cA k = c.cA j → k = j
inductive Ty where
  | non | bl | int | str | tup | lst | dic | ins (k : Nat)
inductive Tg where
  | int | bl | str | tup | lst | dic | cls (k : Nat)
def tyD (h : List O) : D → Option Ty
  | .non => some .non
  | .bl _ => some .bl
  | .int _ => some .int
  | .str _ => some .str
  | .tup _ => some .tup
  | .lst _ => some .lst
  | .dct _ _ => some .dic
  | .loc n => match h[n]? with
    | some (.lst _) => some .lst
    | some (.dK _ _) => some .dic
    | some (.ins k _) => some (.ins k)
    | _ => none
  | .ins k _ => some (.ins k)
  | _ => none
def Ty.val (c : Ct) : Ty → Value
  | .non => .type "NoneType"
  | .bl => .type "bool"
  | .int => .type "int"
  | .str => .type "str"
  | .tup => .type "tuple"
  | .lst => .type "list"
  | .dic => .type "dict"
  | .ins k => .ref (c.cA k)
def Tg.val (c : Ct) : Tg → Value
  | .bl => .type "bool"
  | .int => .type "int"
  | .str => .type "str"
  | .tup => .type "tuple"
  | .lst => .type "list"
  | .dic => .type "dict"
  | .cls k => .ref (c.cA k)
def Tg.v (c : Ct) : Tg → V
  | .bl => .ty "bool"
  | .int => .ty "int"
  | .str => .ty "str"
  | .tup => .ty "tuple"
  | .lst => .ty "list"
  | .dic => .ty "dict"
  | .cls k => .ref (c.cA k)
def isTab : Tg → Ty → Option Bool
  | .int, .int => some true
  | .int, .bl => some true
  | .bl, .bl => some true
  | .str, .str => some true
  | .tup, .tup => some true
  | .lst, .lst => some true
  | .dic, .dic => some true
  | .cls k, .ins j => some (k == j)
  | .cls _, _ => some false
  | _, .ins _ => none
  | _, _ => some false
def KitOk (K : PySem.W.Frag) (c : Ct) (g : Tg) : Prop := ∀ t b, isTab g t = some b → (∀ k, t = .ins k → k < c.n) → PySem.W.kitOne K (t.val c) (g.val c) = some b
theorem kit_int {K : PySem.W.Frag} : KitOk K c .int := fun t b e _ => by cases t <;> simp only [isTab] at e <;> cases e <;> exact kit_ty (by decide +kernel)
theorem kit_bl {K : PySem.W.Frag} : KitOk K c .bl := fun t b e _ => by cases t <;> simp only [isTab] at e <;> cases e <;> exact kit_ty (by decide +kernel)
theorem kit_str {K : PySem.W.Frag} : KitOk K c .str := fun t b e _ => by cases t <;> simp only [isTab] at e <;> cases e <;> exact kit_ty (by decide +kernel)
theorem kit_tup {K : PySem.W.Frag} : KitOk K c .tup := fun t b e _ => by cases t <;> simp only [isTab] at e <;> cases e <;> exact kit_ty (by decide +kernel)
theorem kit_lst {K : PySem.W.Frag} : KitOk K c .lst := fun t b e _ => by cases t <;> simp only [isTab] at e <;> cases e <;> exact kit_ty (by decide +kernel)
theorem kit_dic {K : PySem.W.Frag} : KitOk K c .dic := fun t b e _ => by cases t <;> simp only [isTab] at e <;> cases e <;> exact kit_ty (by decide +kernel)
def isI (g : Tg) : D → M D := fun x h => match tyD h x with
  | some t => match isTab g t with
    | some b => .ret (.bl b, h)
    | none => .bad
  | none => .bad
theorem tyX_of {K : PySem.W.Frag} (F : Facts K c) {ρ h H x v t} (ok : Ok K c ρ h H) (r : RV K c H ρ x v) (e : tyD h x = some t) : TyX K H v (t.val c) ∧ ∀ k, t = .ins k → k < c.n := by
  cases r with
  | non => cases e; exact ⟨.base .non, fun _ z => by cases z⟩
  | bl b => cases e; exact ⟨.base (.bl b), fun _ z => by cases z⟩
  | int b => cases e; exact ⟨.base (.int b), fun _ z => by cases z⟩
  | str b => cases e; exact ⟨.base (.str b), fun _ z => by cases z⟩
  | tup h1 h2 =>
    cases e
    refine ⟨?_, fun _ z => by cases z⟩
    rcases h1 with (h1 | ⟨o, h1⟩) | ⟨o, its, n, h1, hc, _⟩
    · exact .base (.tup h1)
    · exact .fTuple h1
    · exact .kTuple h1 hc
  | lst h1 _ _ => cases e; exact ⟨.base (.lst h1), fun _ z => by cases z⟩
  | dct h1 _ _ _ =>
    cases e
    rcases h1 with h1 | ⟨ob, h1⟩
    · exact ⟨.base (.dK h1), fun _ z => by cases z⟩
    · exact ⟨.fDict h1, fun _ z => by cases z⟩
  | loc h1 =>
    simp only [tyD] at e
    split at e
    · rename_i q
      cases e
      obtain ⟨vs, e1, _⟩ := ok.objs _ _ _ q h1
      exact ⟨.base (.lst e1), fun _ z => by cases z⟩
    · rename_i q
      cases e
      obtain ⟨vs, e1, _⟩ := ok.objs _ _ _ q h1
      exact ⟨.base (.dK e1), fun _ z => by cases z⟩
    · rename_i q
      cases e
      obtain ⟨dx, vs, e1, ⟨_, hk⟩, _⟩ := ok.objs _ _ _ q h1
      have C := F.cls _ hk
      exact ⟨.base (.ins e1 C.cl C.ha C.hn C.ht C.hm), fun _ z => by cases z; exact hk⟩
    · cases e
  | draw _ => cases e
  | fn _ => cases e
  | tct _ _ _ _ _ => cases e
  | exn _ _ _ _ _ => cases e
  | ins h1 _ hk h2 =>
    cases e
    have C := F.cls _ hk.2
    exact ⟨.base (.ins h1 C.cl C.ha C.hn C.ht C.hm), fun _ z => by cases z; exact hk.2⟩
section
variable {X : Cx} {e a b d o : Expr} {es : List Expr} {fa fb fo : Sg → M D} {fr : Sg → M (List D)} {pos p2 p : Pos}
theorem ev_isi (g : Tg) (F : Facts X.K c) (kit : KitOk X.K c g) (mI : X.mg "isinstance" = none) (ha : EE c X a fa) (hT : PE X b (tC (g.v c))) (hg : Gl X "isinstance" := by rfl)
    (hs : starEach [a, b] X.env = (false, eval a X.env) :: starEach [b] X.env := by rfl) (hs2 : starEach [b] X.env = (false, eval b X.env) :: starEach [] X.env := by rfl) (hp : (backTo pos (starEach [b] X.env)).any (·.1) = false := by rfl) :
    EE c X (.Call (.Name "isinstance" p) [a, b] [] pos) (f1 (isI g) fa) :=
  PE.imp (pe_callB call_isi hg mI boot_isinstance (pa_cons ha (pa_cons hT pa_nil hs2) hs) (by decide) (by decide) hs hp) fun σ H Q ⟨ρ, h, s, ok, env, q⟩ => by
    refine ⟨ρ, h, s, ok, env, (M.all_bind.mp q).mono fun ⟨x, h1⟩ q1 ρ1 H1 v l1 ok1 r1 => ?_⟩
    dsimp only [isI] at q1
    split at q1
    · rename_i t ht
      split at q1
      · rename_i b' hb
        obtain ⟨tx, hk⟩ := tyX_of F ok1 r1 ht
        refine ⟨v, _, t.val c, g.val c, b', rfl, ?_, tx, kit t b' hb hk, q1 ρ1 H1 _ l1 ok1 (.bl b')⟩
        cases g <;> first | exact .ty _ | exact .own _
      · exact q1.elim
    · exact q1.elim
end
/-! ### built-in functions -/
def oLen : List D → M D := fun xs h => match xs with
  | [.str z] => if z.length ≤ lim then .ret (.int z.length, h) else .bad
  | [x] => match seqD h x with
    | some ys => .ret (.int ys.length, h)
    | none => .bad
  | _ => .bad
theorem vs1 {K : PySem.W.Frag} {ρ H x vs} (r : RVs K c H ρ [x] vs) : ∃ v, vs = [v] ∧ RV K c H ρ x v := by
  cases r with
  | cons r1 r2 => cases r2; exact ⟨_, rfl, r1⟩
theorem vs2 {K : PySem.W.Frag} {ρ H x y vs} (r : RVs K c H ρ [x, y] vs) : ∃ v w, vs = [v, w] ∧ RV K c H ρ x v ∧ RV K c H ρ y w := by
  cases r with
  | cons r1 r2 =>
    obtain ⟨w, rfl, r3⟩ := vs1 r2
    exact ⟨_, _, rfl, r1, r3⟩
theorem op_len {K : PySem.W.Frag} : OpN K c (fun xs H Q => ∃ x n, xs = [x] ∧ LenV K x H n ∧ Q (.int n) H) oLen := fun {ρ h H xs vs Q} ok r q => by
  unfold oLen at q
  split at q
  · obtain ⟨v, rfl, r1⟩ := vs1 r
    cases r1
    split at q
    · rename_i hz
      exact ⟨_, _, rfl, ⟨Nat.le_of_lt (lim_line hz), rfl⟩, q ρ H _ .refl ok (.int _)⟩
    · exact q.elim
  · obtain ⟨v, rfl, r1⟩ := vs1 r
    split at q
    · rename_i ys hy
      obtain ⟨a, vs, rfl, e1, e2⟩ := seqD_ok ok r1 hy
      rcases e1 with e1 | e1
      · exact ⟨_, _, rfl, .inl ⟨_, e1, e2.len⟩, q ρ H _ .refl ok (.int _)⟩
      · exact ⟨_, _, rfl, .inr ⟨_, e1, e2.len⟩, q ρ H _ .refl ok (.int _)⟩
    · exact q.elim
  · exact q.elim
def o2I (f : Int → Int → Int) : List D → M D := fun xs h => match xs with
  | [.int i, .int j] => .ret (.int (f i j), h)
  | _ => .bad
theorem op_2I {K : PySem.W.Frag} {f : Int → Int → Int} : OpN K c (fun xs H Q => ∃ i j, xs = [.int i, .int j] ∧ Q (.int (f i j)) H) (o2I f) := fun {ρ h H xs vs Q} ok r q => by
  unfold o2I at q
  split at q
  · obtain ⟨v, w, rfl, r1, r2⟩ := vs2 r
    cases r1
    cases r2
    exact ⟨_, _, rfl, q ρ H _ .refl ok (.int _)⟩
  · exact q.elim
def oInt : List D → M D := fun xs h => match xs with
  | [.int i] => .ret (.int i, h)
  | [.bl b] => .ret (.int (if b then 1 else 0), h)
  | _ => .bad
theorem op_int {K : PySem.W.Frag} : OpN K c (fun xs H Q => (∃ i, xs = [.int i] ∧ Q (.int i) H) ∨ ∃ k, xs = [.bl k] ∧ Q (.int (if k then 1 else 0)) H) oInt := fun {ρ h H xs vs Q} ok r q => by
  unfold oInt at q
  split at q
  · obtain ⟨v, rfl, r1⟩ := vs1 r
    cases r1
    exact .inl ⟨_, rfl, q ρ H _ .refl ok (.int _)⟩
  · obtain ⟨v, rfl, r1⟩ := vs1 r
    cases r1
    exact .inr ⟨_, rfl, q ρ H _ .refl ok (.int _)⟩
  · exact q.elim
def oBlD : D → Option Bool
  | .bl b => some b
  | _ => none
def oBls (f : List Bool → Bool) : List D → M D := fun xs h => match xs with
  | [x] => match lstD h x with
    | some ys => match mapO oBlD ys with
      | some bs => .ret (.bl (f bs), h)
      | none => .bad
    | _ => .bad
  | _ => .bad
theorem bls_ok {K : PySem.W.Frag} {ρ : Sto} {H : Hp} : ∀ {xs : List D} {bs : List Bool} {ws : List V}, mapO oBlD xs = some bs → RVs K c H ρ xs ws → ws = bs.map V.bl
  | [], _, _, e, r => by cases r; simp only [mapO] at e; cases e; rfl
  | x :: xs, _, _, e, r => by
    cases r with
    | cons r1 r2 =>
      simp only [mapO] at e
      split at e
      · rename_i y hy
        split at e
        · rename_i ys hys
          cases e
          cases r1 <;> simp only [oBlD] at hy <;> cases hy
          rw [bls_ok hys r2]
          rfl
        · cases e
      · cases e
theorem op_bls {K : PySem.W.Frag} {f : List Bool → Bool} : OpN K c (fun vs H Q => ∃ (a : Addr) (bs : List Bool), vs = [V.ref a] ∧ SqL K H a (bs.map V.bl) ∧ Q (.bl (f bs)) H) (oBls f) := fun {ρ h H xs vs Q} ok r q => by
  unfold oBls at q
  split at q
  · obtain ⟨v, rfl, r1⟩ := vs1 r
    split at q
    · rename_i ys hy
      split at q
      · rename_i bs hb
        obtain ⟨a, ws, rfl, e1, e2⟩ := lstD_ok ok r1 hy
        refine ⟨_, bs, rfl, ?_, q ρ H _ .refl ok (.bl _)⟩
        rw [← bls_ok hb e2]
        exact SqL.of e1
      · exact q.elim
    · exact q.elim
  · exact q.elim
def oTuple : List D → M D := fun xs h => match xs with
  | [x] => match seqD h x with
    | some ys => .ret (.tup ys, h)
    | _ => .bad
  | _ => .bad
theorem op_tuple {K : PySem.W.Frag} : OpN K c (fun xs H Q => ∃ p ys, xs = [.ref p] ∧ ((SqL K H p ys ∧ ∀ l, H l = none → Q (.ref l) (upd H l (.tup ys))) ∨ (SqT K H p ys ∧ Q (.ref p) H))) oTuple := fun {ρ h H xs vs Q} ok r q => by
  unfold oTuple at q
  split at q
  · obtain ⟨v, rfl, r1⟩ := vs1 r
    split at q
    · rename_i ys hy
      obtain ⟨a, ws, rfl, e1, e2⟩ := seqD_ok ok r1 hy
      rcases e1 with e1 | e1
      · refine ⟨_, ws, rfl, .inl ⟨e1, fun p np => ?_⟩⟩
        obtain ⟨l, ok1⟩ := ok.other (o := .tup ws) np
        exact q ρ _ _ l ok1 (.tup (SqT.of upd_same) (e2.le l))
      · exact ⟨_, _, rfl, .inr ⟨e1, q ρ H _ .refl ok (.tup e1 e2)⟩⟩
    · exact q.elim
  · exact q.elim
def oList (mk : List D → M D) : List D → M D := fun xs h => match xs with
  | [x] => match seqD h x with
    | some ys => mk ys h
    | _ => .bad
  | _ => .bad
theorem op_list {K : PySem.W.Frag} {mk : List D → M D} (m : MkOk K c mk) : OpN K c (fun xs H Q => ∃ p ys, xs = [.ref p] ∧ (SqL K H p ys ∨ SqT K H p ys) ∧ ∀ l, H l = none → Q (.ref l) (upd H l (.lst ys))) (oList mk) := fun {ρ h H xs vs Q} ok r q => by
  unfold oList at q
  split at q
  · obtain ⟨v, rfl, r1⟩ := vs1 r
    split at q
    · rename_i ys hy
      obtain ⟨a, ws, rfl, e1, e2⟩ := seqD_ok ok r1 hy
      exact ⟨_, ws, rfl, e1, (m.go ok e2 q).2⟩
    · exact q.elim
  · exact q.elim
end Ev

/-! Methods of lists, attributes, instances. -/
namespace Ev
open PySem PySem.Spec PyProof.Rows L2 Dr
variable {c : Ct}
/-! ### methods of lists -/
def isL : D → M Unit := fun x h => match lstD h x with
  | some _ => .ret ((), h)
  | none => .bad
def fM (op : D → List D → M D) (fo : Sg → M D) (fa : Sg → M (List D)) : Sg → M D := fun s => M.bind (fo s) fun x => M.bind (isL x) fun _ => M.bind (fa s) fun xs => op x xs
def OpM (K : PySem.W.Frag) (c : Ct) (r : V → List V → Hp → VK → Prop) (op : D → List D → M D) : Prop := ∀ {ρ h H x v xs vs Q}, Ok K c ρ h H → RV K c H ρ x v → RVs K c H ρ xs vs → (op x xs h).All (PV K c ρ H Q) (PX K c ρ H) → r v vs H Q
section
variable {X : Cx} {e a b d o : Expr} {es : List Expr} {fa fb fo : Sg → M D} {fr : Sg → M (List D)} {pos p2 p : Pos}
theorem tM_of {r : V → List V → Hp → VK → Prop} {op : D → List D → M D} (ho : OpM X.K c r op) {σ H Q} (q : tE X.K c (fM op fo fr) σ H Q) : tE X.K c fo σ H fun x H1 => tyV X.K "list" x H1 ∧ tA X.K c fr σ H1 fun xs H2 => r x xs H2 Q := by
  obtain ⟨ρ, h, s, ok, env, q⟩ := q
  refine ⟨ρ, h, s, ok, env, (M.all_bind.mp q).mono fun ⟨x, h1⟩ q1 ρ1 H1 v l1 ok1 r1 => ?_⟩
  have q1 := M.all_bind.mp q1
  dsimp only [isL] at q1
  split at q1
  · rename_i ys hy
    obtain ⟨a, vs, rfl, e1, e2⟩ := lstD_ok ok1 r1 hy
    refine ⟨.inl ⟨rfl, _, SqL.of e1⟩, ρ1, h1, s, ok1, env.le l1, Tr.All.le l1 (M.all_bind.mp q1) fun ⟨xs, h2⟩ q2 ρ2 H2 ws l2 ok2 r2 => ?_⟩
    exact ho ok2 (r1.le l2) r2 (Tr.All.le (l1.trans l2) q2 fun r q => q.le (l1.trans l2))
  · exact q1.elim
theorem ev_meth {name : Str} {apos : Pos} {id : String} {r : V → List V → Hp → VK → Prop} {op : D → List D → M D} (pa : PlainAttrs "list") (slot : Slot "list" name id) (hty : typeOf (.builtin id) = pure (.type "method_descriptor")) (hm : MtR X id r) (hop : OpM X.K c r op) (ho : EE c X o fo) (ha : EA c X (e :: es) fr)
    (hbase : attributeBase o name X.env (eval o X.env) = eval o X.env := by rfl)
    (hfew : ((backTo pos (starEach (e :: es) X.env)).all (fun x => !x.1) && (backToKw pos (keywordEach [] X.env)).all (fun x => x.1.isSome)
      && decide ((e :: es).length + ([] : List Keyword).length + (if ([] : List Keyword).isEmpty then 0 else 1) < 30)) = true := by rfl)
    (hline : (apos.endLine == pos.line) = true := by rfl) (hs : starEach (e :: es) X.env = (false, eval e X.env) :: starEach es X.env := by rfl) (hplain : (backTo pos (starEach es X.env)).any (·.1) = false := by rfl) : EE c X (.Call (.Attribute o name apos) (e :: es) [] pos) (fM op fo fr) :=
  PE.imp (pe_bm pa slot hty hm ho ha hbase hfew hline hs hplain) fun σ H Q q => tM_of hop q
def mAppend : D → List D → M D := fun x ys h => match x, ys with
  | .loc n, [y] => match h[n]? with
    | some (.lst xs) => if xs.length < lim then .ret (.non, h.set n (.lst (xs ++ [y]))) else .bad
    | _ => .bad
  | _, _ => .bad
theorem op_append {K : PySem.W.Frag} : OpM K c rAppend mAppend := fun {ρ h H x v xs vs Q} ok r1 r2 q => by
  unfold mAppend at q
  split at q
  · cases r1 with
    | loc g1 =>
      obtain ⟨w, rfl, r3⟩ := vs1 r2
      split at q
      · rename_i ys hy
        split at q
        · rename_i hl
          obtain ⟨us, e1, e2⟩ := ok.objs _ _ _ hy g1
          refine ⟨_, us, w, rfl, rfl, e1, by rw [← e2.len]; exact lim_line (Nat.le_of_lt hl), ?_⟩
          obtain ⟨l, ok1⟩ := ok.put (u := .lst (us ++ [w])) (o := .lst (ys ++ [_])) hy (by simp) g1 fun H1 l e => ⟨_, e, (e2.le l).append (.cons (r3.le l) .nil)⟩
          exact q _ _ _ l ok1 .non
        · exact q.elim
      · exact q.elim
  · exact q.elim
def mInsert : D → List D → M D := fun x ys h => match x, ys with
  | .loc n, [.int i, y] => match h[n]? with
    | some (.lst xs) => if xs.length < lim ∧ 0 ≤ i ∧ i < 2 ^ 63 then .ret (.non, h.set n (.lst (xs.take i.toNat ++ [y] ++ xs.drop i.toNat))) else .bad
    | _ => .bad
  | _, _ => .bad
theorem op_insert {K : PySem.W.Frag} : OpM K c (fun x vs H Q => ∃ (l : Addr) (xs : List V) (i : Int) (y : V), x = .ref l ∧ vs = [.int i, y] ∧ H l = some (.lst xs) ∧ xs.length < sizeLine ∧ 0 ≤ i ∧ i < 2 ^ 63 ∧
    Q .non (upd H l (.lst (xs.take i.toNat ++ [y] ++ xs.drop i.toNat)))) mInsert := fun {ρ h H x v xs vs Q} ok r1 r2 q => by
  unfold mInsert at q
  split at q
  · cases r1 with
    | loc g1 =>
      obtain ⟨w0, w, rfl, r0, r3⟩ := vs2 r2
      cases r0
      split at q
      · rename_i ys hy
        split at q
        · rename_i hl
          obtain ⟨us, e1, e2⟩ := ok.objs _ _ _ hy g1
          refine ⟨_, us, _, w, rfl, rfl, e1, by rw [← e2.len]; exact lim_line (Nat.le_of_lt hl.1), hl.2.1, hl.2.2, ?_⟩
          refine (fun (z : _ ∧ _) => q _ _ _ z.1 z.2 .non) (ok.put hy (by simp) g1 fun H1 l e => ⟨_, e, (((e2.le l).take _).append (.cons (r3.le l) .nil)).append ((e2.le l).drop _)⟩)
        · exact q.elim
      · exact q.elim
  · exact q.elim
def mIndex : D → List D → M D := fun x ys h => match ys with
  | [y] => match toP h deep x, toP h deep y with
    | some (.list ds), some d => if (SeqAt.shaped (.list ds) && SeqAt.shaped d) = true then
        (if ds.findIdx (fun z => PyData.eqv z d) < ds.length then .ret (.int ((ds.findIdx fun z => PyData.eqv z d : Nat) : Int), h) else .bad) else .bad
    | _, _ => .bad
  | _ => .bad
theorem op_index {K : PySem.W.Frag} : OpM K c (rIndexD K) mIndex := fun {ρ h H x v xs vs Q} ok r1 r2 q => by
  unfold mIndex at q
  split at q
  · obtain ⟨w, rfl, r3⟩ := vs1 r2
    split at q
    · rename_i ds d h1 h2
      split at q
      · rename_i hs
        have hs := Bool.and_eq_true_iff.mp hs
        split at q
        · rename_i hl
          have p1 := toP_ok ok _ _ _ _ h1 r1
          have p2 := toP_ok ok _ _ _ _ h2 r3
          have ⟨a, ea⟩ : ∃ a, v = .ref a := by
            cases p1 with
            | lst _ _ => exact ⟨_, rfl⟩
          subst ea
          exact ⟨a, w, d, ds, _, ds[ds.findIdx fun z => PyData.eqv z d], rfl, rfl, p1, p2, hs.1, hs.2, List.getElem?_eq_getElem hl, List.findIdx_getElem (w := hl), fun m z' hm hz => by
            obtain ⟨hm', ez⟩ := List.getElem?_eq_some_iff.mp hz
            have := List.not_of_lt_findIdx hm
            rw [ez] at this
            simpa using this, q _ _ _ .refl ok (.int _)⟩
        · exact q.elim
      · exact q.elim
    · exact q.elim
  · exact q.elim
def mPopAt : D → List D → M D := fun x ys h => match x, ys with
  | .loc n, [.int i] => match h[n]? with
    | some (.lst xs) => if -(2 ^ 63) ≤ i ∧ i < 2 ^ 63 then match seqIndex? i xs.length with
        | some k => match xs[k]? with
          | some y => .ret (y, h.set n (.lst (xs.eraseIdx k)))
          | none => .bad
        | none => .bad
      else .bad
    | _ => .bad
  | _, _ => .bad
theorem RVs.erase {K : PySem.W.Frag} {ρ : Sto} {H : Hp} : ∀ {xs : List D} {vs : List V} (i : Nat), RVs K c H ρ xs vs → RVs K c H ρ (xs.eraseIdx i) (vs.eraseIdx i)
  | [], _, _, h => by cases h; exact .nil
  | _ :: _, _, 0, h => by cases h with | cons h1 h2 => exact h2
  | _ :: _, _, i + 1, h => by cases h with | cons h1 h2 => exact .cons h1 (RVs.erase i h2)
theorem op_popAt {K : PySem.W.Frag} : OpM K c rPopAt mPopAt := fun {ρ h H x v xs vs Q} ok r1 r2 q => by
  unfold mPopAt at q
  split at q
  · cases r1 with
    | loc g1 =>
      obtain ⟨w, rfl, r3⟩ := vs1 r2
      cases r3
      split at q
      · rename_i ys hy
        split at q
        · rename_i hb
          split at q
          · rename_i k hk
            split at q
            · rename_i y hyk
              obtain ⟨us, e1, e2⟩ := ok.objs _ _ _ hy g1
              obtain ⟨u, f1, f2⟩ := e2.get hyk
              refine ⟨_, us, _, k, u, rfl, rfl, e1, hb.1, hb.2, by rw [← e2.len]; exact hk, f1, ?_⟩
              refine (fun (z : _ ∧ _) => q _ _ _ z.1 z.2 (f2.le z.1)) (ok.put hy (by simp) g1 fun H1 l e => ⟨_, e, (e2.le l).erase k⟩)
            · exact q.elim
          · exact q.elim
        · exact q.elim
      · exact q.elim
  · exact q.elim
/-! ### attributes -/
theorem zip_lookup : ∀ {ns : List Str} {vs : List V} {i : Nat} {f : Str} {v : V}, ns.Nodup → ns[i]? = some f → vs[i]? = some v → (ns.zip vs).lookup f = some v
  | [], _, _, _, _, _, e, _ => by simp at e
  | _ :: _, [], _, _, _, _, _, e => by simp at e
  | n :: ns, w :: vs, 0, f, v, _, e1, e2 => by
    simp at e1 e2
    subst e1 e2
    simp [List.lookup_cons]
  | n :: ns, w :: vs, i + 1, f, v, nd, e1, e2 => by
    simp only [List.getElem?_cons_succ] at e1 e2
    have hne : f ≠ n := fun z => by
      subst z
      exact (List.nodup_cons.mp nd).1 (List.mem_of_getElem? e1)
    rw [List.zip_cons_cons, List.lookup_cons, beq_eq_false_iff_ne.mpr hne]
    exact zip_lookup (List.nodup_cons.mp nd).2 e1 e2
def insD (h : List O) : D → Option (Nat × List D)
  | .ins k fs => some (k, fs)
  | .loc n => match h[n]? with
    | some (.ins k fs) => some (k, fs)
    | _ => none
  | _ => none
theorem insD_ok {K : PySem.W.Frag} {ρ h H x v k fs} (ok : Ok K c ρ h H) (r : RV K c H ρ x v) (e : insD h x = some (k, fs)) : ∃ a dx vs, v = .ref a ∧ H a = some (.ins (c.cA k) dx (((c.cF k).take fs.length).zip vs)) ∧ (fs.length ≤ (c.cF k).length ∧ k < c.n) ∧ RVs K c H ρ fs vs := by
  unfold insD at e
  split at e
  · cases e
    cases r with
    | ins h1 _ h2 h3 => exact ⟨_, _, _, rfl, h1, h2, h3⟩
  · split at e
    · rename_i hx
      cases e
      cases r with
      | loc g1 =>
        obtain ⟨dx, vs, e1, e2, e3⟩ := ok.objs _ _ _ hx g1
        exact ⟨_, _, _, rfl, e1, e2, e3⟩
    · cases e
  · cases e
def oFld (k i : Nat) : D → M D := fun x h => match insD h x with
  | some (j, fs) => if j = k then match fs[i]? with
      | some y => .ret (y, h)
      | none => .bad
    else .bad
  | none => .bad
theorem fld_of {K : PySem.W.Frag} (F : Facts K c) {k i : Nat} {f : Str} (hf : (c.cF k)[i]? = some f) {ρ h H x v} {Q : VK} (ok : Ok K c ρ h H) (r1 : RV K c H ρ x v) (q : (oFld k i x h).All (PV K c ρ H Q) (PX K c ρ H)) :
    k < c.n ∧ ∃ a dx fs w, v = .ref a ∧ H a = some (.ins (c.cA k) dx fs) ∧ fs.lookup f = some w ∧ Q w H := by
  unfold oFld at q
  split at q
  · rename_i j fs hy
    split at q
    · rename_i hj
      subst hj
      split at q
      · rename_i y hyi
        obtain ⟨a, dx, vs, rfl, e1, ⟨e2, hk⟩, e3⟩ := insD_ok ok r1 hy
        obtain ⟨w, f1, f2⟩ := e3.get hyi
        refine ⟨hk, a, dx, _, w, rfl, e1, zip_lookup ?_ ?_ f1, q _ _ _ .refl ok f2⟩
        · exact (F.nd _ hk).sublist (List.take_sublist _ _)
        · have : i < fs.length := (List.getElem?_eq_some_iff.mp hyi).1
          rw [List.getElem?_take_of_lt this]
          exact hf
      · exact q.elim
    · exact q.elim
  · exact q.elim
/-- a property whose getter gives an attribute -/
structure Pr (P : Program) (w : World) (K : PySem.W.Frag) (mg : Str → Option Value) (base : Heap) (C : Addr) (name fld : Str) : Prop where
  ex : ∃ (p g : Addr) (fd : FuncData), PropOf K C name p g ∧ FnOk P w K mg base CX0 1 g fd ["self"] (getSp C fld) ∧ L2.Binds K fd ["self"] []
theorem ev_prop {name fld : Str} (k i : Nat) (F : Facts X.K c) (hf : (c.cF k)[i]? = some fld) (hk : k < c.n) (p : Pr X.prog X.w X.K X.mg X.base (c.cA k) name fld) (hr : Room 2 X.A) (he : EE c X e fa) (hab : attributeBase e name X.env (eval e X.env) = eval e X.env := by rfl) : EE c X (.Attribute e name pos) (f1 (oFld k i) fa) := by
  obtain ⟨p, g, fd, hp, G, hb⟩ := p.ex
  refine PE.imp (pe_prop he (F.cls _ hk).cl hp G hr hb .nil pass0 hab) fun σ H Q ⟨ρ, h, s, ok, env, q⟩ => ?_
  refine ⟨ρ, h, s, ok, env, (M.all_bind.mp q).mono fun ⟨x, h1⟩ q1 ρ1 H1 v l1 ok1 r1 => ?_⟩
  obtain ⟨_, a, dx, fs, w, rfl, e1, e2, q2⟩ := fld_of (Q := Q) F hf ok1 r1 (Tr.All.le l1 q1 fun r q => q.le l1)
  exact ⟨a, dx, fs, rfl, e1, a, dx, fs, w, rfl, e1, e2, q2⟩
theorem ev_fld {fld : Str} (k i : Nat) (F : Facts X.K c) (hf : (c.cF k)[i]? = some fld) (na : NoAttr X.K (c.cA k) fld) (he : EE c X e fa) (hab : attributeBase e fld X.env (eval e X.env) = eval e X.env := by rfl) : EE c X (.Attribute e fld pos) (f1 (oFld k i) fa) := by
  refine PE.imp (pe_fld he hab) fun σ H Q ⟨ρ, h, s, ok, env, q⟩ => ?_
  refine ⟨ρ, h, s, ok, env, (M.all_bind.mp q).mono fun ⟨x, h1⟩ q1 ρ1 H1 v l1 ok1 r1 => ?_⟩
  obtain ⟨hk, a, dx, fs, w, rfl, e1, e2, q2⟩ := fld_of (Q := Q) F hf ok1 r1 (Tr.All.le l1 q1 fun r q => q.le l1)
  exact ⟨a, _, dx, fs, w, rfl, e1, (F.cls _ hk).cl, na, e2, q2⟩
/-! ### what is left behind a def: its own objects as they stand -/
/-- a value with the objects of the store by content -/
def frz (h : List O) : Nat → D → Option D
  | 0, _ => none
  | n + 1, x => if noL x = true then some x else match x with
    | .tup xs => match mapO (frz h n) xs with
      | some ys => some (.tup ys)
      | none => none
    | .lst xs => match mapO (frz h n) xs with
      | some ys => some (.lst ys)
      | none => none
    | .dct ks xs => match mapO (frz h n) xs with
      | some ys => some (.dct ks ys)
      | none => none
    | .ins k xs => match mapO (frz h n) xs with
      | some ys => some (.ins k ys)
      | none => none
    | .loc i => match h[i]? with
      | some (.lst xs) => match mapO (frz h n) xs with
        | some ys => some (.lst ys)
        | none => none
      | some (.dK ks xs) => match mapO (frz h n) xs with
        | some ys => some (.dct ks ys)
        | none => none
      | some (.tD ks xs) => if noLs ks = true then match mapO (frz h n) xs with
          | some ys => some (.tct ks ys)
          | none => none
        else none
      | some (.ins k xs) => match mapO (frz h n) xs with
        | some ys => some (.ins k ys)
        | none => none
      | _ => none
    | _ => none
theorem mapO_len {α β : Type} {f : α → Option β} : ∀ {xs : List α} {ys : List β}, mapO f xs = some ys → ys.length = xs.length
  | [], _, e => by simp only [mapO] at e; cases e; rfl
  | x :: xs, _, e => by
    simp only [mapO] at e
    split at e
    · split at e
      · rename_i h
        cases e
        simp [mapO_len h]
      · cases e
    · cases e
theorem frzs_ok {K : PySem.W.Frag} {c c1 : Ct} {ρ ρ1 : Sto} {H : Hp} {f : D → Option D} (hf : ∀ x y v, f x = some y → RV K c H ρ x v → RV K c1 H ρ1 y v) : ∀ {xs ys : List D} {vs : List V}, mapO f xs = some ys → RVs K c H ρ xs vs → RVs K c1 H ρ1 ys vs
  | [], _, _, e, r => by
    simp only [mapO] at e
    cases e
    cases r
    exact .nil
  | x :: xs, _, _, e, r => by
    cases r with
    | cons r1 r2 =>
      simp only [mapO] at e
      split at e
      · rename_i y hy
        split at e
        · rename_i ys hys
          cases e
          exact .cons (hf _ _ _ hy r1) (frzs_ok hf hys r2)
        · cases e
      · cases e
theorem frz_ok {K : PySem.W.Frag} {c1 : Ct} {ρ ρ1 : Sto} {h : List O} {H : Hp} (ok : Ok K c ρ h H) (m : Mv K c c1 H ρ H ρ1) (tr : ∀ a, a ∈ ρ.l → Off c1 ρ1 a) : ∀ (n : Nat) (x y : D) (v : V), frz h n x = some y → RV K c H ρ x v → RV K c1 H ρ1 y v
  | 0, _, _, _, e, _ => by simp only [frz] at e; cases e
  | n + 1, x, y, v, e, r => by
    simp only [frz] at e
    split at e
    · rename_i hn
      cases e
      exact RV.mv m x v (.inl hn) r
    · have ih := frz_ok ok m tr n
      cases r with
      | non => cases e
      | bl b => cases e
      | int b => cases e
      | str b => cases e
      | draw h1 => cases e
      | fn h1 => cases e
      | tct _ _ _ _ _ => cases e
      | exn _ _ _ _ _ => cases e
      | tup h1 h2 =>
        dsimp only at e
        split at e
        · rename_i ys hys
          cases e
          exact .tup (m.sq _ _ h1) (frzs_ok ih hys h2)
        · cases e
      | lst h1 o h2 =>
        dsimp only at e
        split at e
        · rename_i ys hys
          cases e
          obtain ⟨e1, o1⟩ := m.off _ _ h1 o
          exact .lst e1 o1 (frzs_ok ih hys h2)
        · cases e
      | dct h1 o ek h2 =>
        dsimp only at e
        split at e
        · rename_i ys hys
          cases e
          obtain ⟨e1, o1⟩ := m.rd h1 o
          exact .dct e1 o1 ek (frzs_ok ih hys h2)
        · cases e
      | ins h1 o hk h2 =>
        dsimp only at e
        split at e
        · rename_i ys hys
          cases e
          obtain ⟨e1, o1⟩ := m.off _ _ h1 o
          have hl := mapO_len hys
          exact .ins (by rw [m.cA, m.cF, hl]; exact e1) o1 (by rw [m.cF, m.n, hl]; exact hk) (frzs_ok ih hys h2)
        · cases e
      | @loc i a h1 =>
        dsimp only at e
        have live : ∀ o, h[i]? = some o → o ≠ .dead → Off c1 ρ1 a := fun o e1 e2 => tr a (ok.lv i o a e1 h1 e2)
        split at e
        · rename_i xs hx
          split at e
          · rename_i ys hys
            cases e
            obtain ⟨vs, e1, e2⟩ := ok.objs _ _ _ hx h1
            exact .lst e1 (live _ hx (by simp)) (frzs_ok ih hys e2)
          · cases e
        · rename_i ks xs hx
          split at e
          · rename_i ys hys
            cases e
            obtain ⟨vs, e1, e2, e3⟩ := ok.objs _ _ _ hx h1
            exact .dct (.inl e1) (live _ hx (by simp)) e2 (frzs_ok ih hys e3)
          · cases e
        · rename_i ks xs hx
          split at e
          · rename_i hks
            split at e
            · rename_i ys hys
              cases e
              obtain ⟨kas, vs, e1, e2, e3, e4⟩ := ok.objs _ _ _ hx h1
              exact .tct (.inl (by rw [m.P, m.w]; exact e1)) (live _ hx (by simp)) e2 (RVs.mv m _ _ (.inl hks) e3) (frzs_ok ih hys e4)
            · cases e
          · cases e
        · rename_i k xs hx
          split at e
          · rename_i ys hys
            cases e
            obtain ⟨dx, vs, e1, e2, e3⟩ := ok.objs _ _ _ hx h1
            have hl := mapO_len hys
            exact .ins (by rw [m.cA, m.cF, hl]; exact e1) (live _ hx (by simp)) (by rw [m.cF, m.n, hl]; exact e2) (frzs_ok ih hys e3)
          · cases e
        · cases e
theorem frz_noL {h : List O} {n : Nat} {x : D} (e : noL x = true) : frz h (n + 1) x = some x := by simp only [frz]; rw [if_pos e]
/-- what ran over a store of its own leaves ours as it was -/
theorem Ok.apart {K : PySem.W.Frag} {hid : List Addr} {E : XK} {kp : Kp c.dw c.T} {ρ ρ' : Sto} {h h' : List O} {H H' : Hp} (ok : Ok K c ρ h H) (l : Le (c.fr hid E kp) Sto.nil H ρ' H') (ok' : Ok K (c.fr hid E kp) ρ' h' H') : Le c ρ H ρ H' ∧ Ok K c ρ h H' := by
  have l1 : Le c ρ H ρ H' := ⟨List.prefix_refl _, fun p a b => absurd a b, fun b o _ hd e => l.fr b o (by simp [Sto.nil]) hd e, l.tups, l.frzs, l.kept⟩
  have keep : ∀ a, (∃ u, H a = some u) → ∃ u, H' a = some u := fun a ⟨u, e⟩ => by
    cases q : H' a with
    | some u => exact ⟨u, rfl⟩
    | none => rw [l.kept a q] at e; cases e
  have apart : ∀ a, a ∈ ρ.a → Fix c.dw c.T a := fun a ha => ⟨fun d g e z => by
    obtain ⟨_, n1, n2, _⟩ := ok.dw d g e z
    exact ⟨fun q => n1 (q ▸ ha), fun q => n2 (q ▸ ha)⟩, fun p hp z => ok.tab.2 p hp (z ▸ ha)⟩
  refine ⟨l1, ok.len, ok.nd, fun n o a e1 e2 => ?_, ok.lv, ok.sub, fun a ha => keep a (ok.ex a ha), fun d g e z => ?_, fun a ha => ⟨keep a (ok.hid a ha).1, (ok.hid a ha).2⟩, ⟨ok'.tab.1, ok.tab.2⟩, c.kp.pm _ _ _ _ l1 ok.kp, fun b q e hb => by
    obtain ⟨u, hu⟩ := ok.ex b hb
    have := l.fr b u (by simp [Sto.nil]) (apart b hb) hu
    rw [e] at this
    cases this
    exact ok.code b q hu hb⟩
  · have r := ok.objs n o a e1 e2
    have ha := List.mem_of_getElem? e2
    obtain ⟨u, hu⟩ := ok.ex a ha
    exact r.le l1 ((l.fr a u (by simp [Sto.nil]) (apart a ha) hu).trans hu.symm)
  · obtain ⟨Dx, n1, n2, n3⟩ := ok.dw d g e z
    obtain ⟨Dy, _⟩ := ok'.dw d g e z
    exact ⟨Dy, n1, n2, n3⟩
/-- both ends of a step -/
def Tr.both {α β : Type} (t : Tr α) (f : α → Tr β) (g : Nat → List D → List O → Tr β) : Tr β := match t with
  | .ret a => f a
  | .bad => .bad
  | .err k fs h => g k fs h
  | .pick n k => .pick n fun i => (k i).both f g
theorem Tr.all_both {α β : Type} {P : β → Prop} {X : XP} {f : α → Tr β} {g : Nat → List D → List O → Tr β} : ∀ {t : Tr α}, (t.both f g).All P X ↔ t.All (fun a => (f a).All P X) (fun k fs h => (g k fs h).All P X)
  | .ret _ => Iff.rfl
  | .bad => Iff.rfl
  | .err _ _ _ => Iff.rfl
  | .pick n k => ⟨fun h i hi => Tr.all_both.mp (h i hi), fun h i hi => Tr.all_both.mpr (h i hi)⟩
def far : Nat := 40
/-- a call over a store of its own: its objects as they stand at its end -/
def oPure (F : List D → M D) : List D → M D := fun xs h => if noLs xs = true then (F xs []).both
    (fun r => match frz r.2 far r.1 with
      | some y => .ret (y, h)
      | none => .bad)
    (fun k fs h1 => match mapO (frz h1 far) fs with
      | some gs => .err k gs h
      | none => .bad)
  else .bad
theorem Ok.begin {K : PySem.W.Frag} {E : XK} {ρ : Sto} {h : List O} {H : Hp} (ok : Ok K c ρ h H) : Ok K (c.at (c.hid ++ ρ.l) E) Sto.nil [] H := ⟨rfl, List.nodup_nil, fun n o a e => by simp at e, fun n o a e => by simp at e, fun a h => h, fun a h => by simp [Sto.nil] at h,
  fun d g e z => ⟨(ok.dw d g e z).1, by simp [Sto.nil], by simp [Sto.nil], by simp [Sto.nil]⟩, fun a ha => ⟨by
    rcases List.mem_append.mp ha with z | z
    · exact (ok.hid a z).1
    · exact ok.ex a (ok.sub a z), by simp [Sto.nil]⟩, ⟨ok.tab.1, by simp [Sto.nil]⟩, trivial, by simp [Sto.nil]⟩
theorem Ok.beginK {K : PySem.W.Frag} {E : XK} {kp : Kp c.dw c.T} {ρ : Sto} {h : List O} {H : Hp} (ok : Ok K c ρ h H) (hk : kp.p Sto.nil H) : Ok K (c.fr (c.hid ++ ρ.l) E kp) Sto.nil [] H :=
  have b := ok.begin (E := E)
  ⟨b.len, b.nd, fun n o a e => by simp at e, b.lv, b.sub, b.ex, b.dw, b.hid, b.tab, hk, b.code⟩
theorem mv_start {K : PySem.W.Frag} {E : XK} {kp : Kp c.dw c.T} {ρ : Sto} {H : Hp} : Mv K c (c.fr (c.hid ++ ρ.l) E kp) H ρ H Sto.nil := ⟨fun _ _ h => h, fun a u e o => ⟨e, by simp [Sto.nil], fun z => by
    rcases List.mem_append.mp z with z | z
    · exact o.hd z
    · exact o.st z, o.dw⟩, rfl, rfl, rfl, rfl, rfl, rfl, rfl, rfl, rfl⟩
theorem mv_back {K : PySem.W.Frag} {E : XK} {kp : Kp c.dw c.T} {ρ ρ1 : Sto} {H : Hp} : Mv K (c.fr (c.hid ++ ρ.l) E kp) c H ρ1 H ρ := ⟨fun _ _ h => h, fun a u e o => ⟨e, fun z => o.hd (List.mem_append_right _ z), fun z => o.hd (List.mem_append_left _ z), o.dw⟩, rfl, rfl, rfl, rfl, rfl, rfl, rfl, rfl, rfl⟩
/-- the end of such a call: what is new to it is none of ours -/
theorem tr_back {K : PySem.W.Frag} {E : XK} {kp : Kp c.dw c.T} {ρ ρ1 : Sto} {h : List O} {H H1 : Hp} (ok : Ok K c ρ h H) (l : Le (c.fr (c.hid ++ ρ.l) E kp) Sto.nil H ρ1 H1) : ∀ a, a ∈ ρ1.l → Off c ρ a := fun a ha => ok.offN (l.new a ha (by simp [Sto.nil]))
theorem px_back {K : PySem.W.Frag} {kp : Kp c.dw c.T} {ρ : Sto} {h : List O} {H : Hp} (ok : Ok K c ρ h H) {k : Nat} {fs gs : List D} {h1 : List O} (e : mapO (frz h1 far) fs = some gs) (q : PX K c ρ H k gs h) : PX K (c.fr (c.hid ++ ρ.l) c.E kp) Sto.nil H k fs h1 := by
  refine ⟨q.1, (mapO_len e).symm.trans q.2.1, fun ρ1 H1 d vs l1 ok1 own r => ?_⟩
  obtain ⟨l2, ok2⟩ := ok.apart l1 ok1
  refine q.2.2 ρ H1 d vs l2 ok2 ⟨fun z => own.1 (by rw [z] at e; cases fs with
    | nil => rfl
    | cons x xs => have := mapO_len e; simp at this), fun z => ?_⟩ (frzs_ok (frz_ok ok1 mv_back (tr_back ok l1) far) e r)
  obtain ⟨dd, e1, e2, o⟩ := own.2 fun z2 => z (by rw [z2] at e; simp only [mapO] at e; cases e; rfl)
  exact ⟨dd, e1, e2, ((mv_back (K := K) (kp := kp)).off _ _ e2 o).2⟩
theorem op_pure {K : PySem.W.Frag} {F : List D → M D} : OpN K c (fun vs H Q => spF K c F vs H Q c.E) (oPure F) := fun {ρ h H xs vs Q} ok r q => by
  unfold oPure at q
  split at q
  · rename_i hx
    refine ⟨c.hid ++ ρ.l, Sto.nil, [], xs, ok.begin, RVs.mv mv_start xs vs (.inl hx) r, (Tr.all_both.mp q).mono2 (fun ⟨y, h1⟩ q1 ρ1 H1 v l1 ok1 r1 => ?_) (fun k fs h1 q1 => ?_)⟩
    · dsimp only at q1
      split at q1
      · rename_i z hz
        obtain ⟨l2, ok2⟩ := ok.apart l1 ok1
        exact q1 ρ H1 v l2 ok2 (frz_ok ok1 mv_back (tr_back ok l1) far _ _ _ hz r1)
      · exact q1.elim
    · split at q1
      · rename_i gs hg
        exact px_back ok hg q1
      · exact q1.elim
  · exact q.elim
/-! ### a new instance -/
def insOf (k n : Nat) (h : List O) : Option (List D) := match (h[0]? : Option O) with
  | some (.ins j fs) => if j = k ∧ fs.length = n then mapO (frz h far) fs else none
  | _ => none
/-- its __init__ runs over a store of its own -/
def oMk (k n : Nat) (F : List D → M D) : List D → M D := fun xs h => if noLs xs = true then (F (.loc 0 :: xs) [.ins k []]).both
    (fun r => match r.1, insOf k n r.2 with
      | .non, some gs => .ret (.ins k gs, h)
      | _, _ => .bad)
    (fun k fs h1 => match mapO (frz h1 far) fs with
      | some gs => .err k gs h
      | none => .bad)
  else .bad
/-- the same, the instance a part of our store -/
def oMkL (k n : Nat) (F : List D → M D) : List D → M D := fun xs h => if noLs xs = true then (F (.loc 0 :: xs) [.ins k []]).both
    (fun r => match r.1, insOf k n r.2 with
      | .non, some gs => .ret (.loc h.length, h ++ [.ins k gs])
      | _, _ => .bad)
    (fun k fs h1 => match mapO (frz h1 far) fs with
      | some gs => .err k gs h
      | none => .bad)
  else .bad
theorem insOf_ok {K : PySem.W.Frag} {c c1 : Ct} {ρ ρ1 : Sto} {h : List O} {H : Hp} {k n : Nat} {gs : List D} {a : Addr} (ok : Ok K c ρ h H) (m : Mv K c c1 H ρ H ρ1) (tr : ∀ a, a ∈ ρ.l → Off c1 ρ1 a) (e : insOf k n h = some gs) (h0 : ρ.a[0]? = some a) :
    ∃ dx vs, H a = some (.ins (c1.cA k) dx (((c1.cF k).take gs.length).zip vs)) ∧ Off c1 ρ1 a ∧ (gs.length ≤ (c1.cF k).length ∧ k < c1.n) ∧ RVs K c1 H ρ1 gs vs ∧ gs.length = n := by
  unfold insOf at e
  split at e
  · rename_i j fs hj
    split at e
    · rename_i hc
      obtain ⟨rfl, hl⟩ := hc
      obtain ⟨dx, vs, e1, e2, e3⟩ := ok.objs _ _ _ hj h0
      have hg := mapO_len e
      exact ⟨dx, vs, by rw [m.cA, m.cF, hg]; exact e1, tr a (ok.lv _ _ _ hj h0 (by simp)), by rw [m.cF, m.n, hg]; exact e2, frzs_ok (frz_ok ok m tr far) e e3, by rw [hg, hl]⟩
    · cases e
  · cases e
/-- the new instance's own dict and the instance, in an empty store -/
theorem Ok.beginI {K : PySem.W.Frag} {ρ : Sto} {h : List O} {H : Hp} {k : Nat} {x dx : Addr} (ok : Ok K c ρ h H) (hk : k < c.n) (nx : H x = Option.none) (ndx : H dx = Option.none) (ne : dx ≠ x) :
    Le (c.at (c.hid ++ ρ.l) c.E) Sto.nil H (Sto.nil.push x) (upd (upd H dx (.own x)) x (.ins (c.cA k) dx [])) ∧ Ok K (c.at (c.hid ++ ρ.l) c.E) (Sto.nil.push x) [.ins k []] (upd (upd H dx (.own x)) x (.ins (c.cA k) dx [])) := by
  obtain ⟨l1, ok1⟩ := (ok.begin (E := c.E)).other (o := .own x) ndx
  have nx' : (upd H dx (.own x)) x = Option.none := by rw [upd_ne (Ne.symm ne)]; exact nx
  obtain ⟨l2, ok2⟩ := ok1.push (u := .ins (c.cA k) dx []) (o := .ins k []) nx' fun H1 l e => ⟨dx, [], e, ⟨Nat.zero_le _, hk⟩, .nil⟩
  exact ⟨l1.trans l2, ok2⟩
theorem op_mk {K : PySem.W.Frag} {k n : Nat} (hk : k < c.n) {F : List D → M D} : OpN K c (fun vs H Q => ∀ x dx, H x = Option.none → H dx = Option.none → dx ≠ x → spF K c F (.ref x :: vs) (upd (upd H dx (.own x)) x (.ins (c.cA k) dx [])) (fun v H2 => v = .non ∧ Q (.ref x) H2) c.E) (oMk k n F) :=
  fun {ρ h H xs vs Q} ok r q x dx nx ndx ne => by
    unfold oMk at q
    split at q
    · rename_i hx
      obtain ⟨l, ok2⟩ := ok.beginI hk nx ndx ne
      refine ⟨c.hid ++ ρ.l, _, _, _, ok2, .cons (.loc rfl) ((RVs.mv mv_start xs vs (.inl hx) r).le l), (Tr.all_both.mp q).mono2 (fun ⟨y, h1⟩ q1 ρ3 H3 v l3 ok3 r3 => ?_) (fun k fs h1 q1 => ?_)⟩
      · dsimp only at q1
        split at q1
        · rename_i gs hg
          cases r3
          refine ⟨rfl, ?_⟩
          have l13 := l.trans l3
          have hx3 : ρ3.a[0]? = some x := pre_get l3.pre (by rfl)
          obtain ⟨dx', ws, e1, o, e2, e3, _⟩ := insOf_ok ok3 mv_back (tr_back ok l13) hg hx3
          obtain ⟨l4, ok4⟩ := ok.apart l13 ok3
          exact q1 ρ H3 _ l4 ok4 (.ins e1 o e2 e3)
        · exact q1.elim
      · split at q1
        · rename_i gs hg
          exact (px_back ok hg q1).le l
        · exact q1.elim
    · exact q.elim
/-! ### what is not changed any more -/
def Sto.kill (ρ : Sto) (p : Addr) : Sto := ⟨ρ.a, ρ.l.filter fun q => decide (q ≠ p)⟩
theorem Ok.kill {K : PySem.W.Frag} {ρ : Sto} {h : List O} {H : Hp} {i : Nat} {p : Addr} (ok : Ok K c ρ h H) (hi : ρ.a[i]? = some p) : Le c ρ H (ρ.kill p) H ∧ Ok K c (ρ.kill p) (h.set i .dead) H := by
  have sub : ∀ a, a ∈ (ρ.kill p).l → a ∈ ρ.l := fun a ha => (List.mem_filter.mp ha).1
  have l : Le c ρ H (ρ.kill p) H := ⟨List.prefix_refl _, fun q hq n => absurd (sub q hq) n, fun _ _ _ _ h => h, fun _ _ h => h, fun _ _ _ h => h, fun _ h => h⟩
  have inj : ∀ m : Nat, ρ.a[m]? = some p → m = i := fun m e2 => by
    obtain ⟨q1, w1⟩ := List.getElem?_eq_some_iff.mp e2
    obtain ⟨q2, w2⟩ := List.getElem?_eq_some_iff.mp hi
    exact (List.getElem_inj ok.nd).mp (w1.trans w2.symm)
  refine ⟨l, by show ρ.a.length = _; rw [List.length_set]; exact ok.len, ok.nd, fun n o a e1 e2 => ?_, fun n o a e1 e2 e3 => ?_, fun a ha => ok.sub a (sub a ha), ok.ex, ok.dw, ok.hid, ok.tab, c.kp.pm _ _ _ _ l ok.kp, ok.code⟩
  · have e2 : ρ.a[n]? = some a := e2
    by_cases hn : n = i
    · subst hn
      obtain ⟨q, w⟩ := List.getElem?_eq_some_iff.mp e1
      simp at w
      subst w
      trivial
    · rw [List.getElem?_set_ne (Ne.symm hn)] at e1
      exact (ok.objs n o a e1 e2).le l rfl
  · have e2 : ρ.a[n]? = some a := e2
    by_cases hn : n = i
    · subst hn
      obtain ⟨q, w⟩ := List.getElem?_eq_some_iff.mp e1
      simp at w
      exact absurd w.symm e3
    · rw [List.getElem?_set_ne (Ne.symm hn)] at e1
      exact List.mem_filter.mpr ⟨ok.lv n o a e1 e2 e3, decide_eq_true fun z => hn (inj n (z ▸ e2))⟩
def mapK (f : D → List O → Option (D × List O)) : List D → List O → Option (List D × List O)
  | [], h => some ([], h)
  | x :: xs, h => match f x h with
    | some (y, h1) => match mapK f xs h1 with
      | some (ys, h2) => some (y :: ys, h2)
      | none => none
    | none => none
/-- a value by content; what stood in the store for it is closed -/
def frzK : Nat → D → List O → Option (D × List O)
  | 0, _, _ => none
  | n + 1, x, h => if noL x = true then some (x, h) else match x with
    | .tup xs => match mapK (frzK n) xs h with
      | some (ys, h1) => some (.tup ys, h1)
      | none => none
    | .lst xs => match mapK (frzK n) xs h with
      | some (ys, h1) => some (.lst ys, h1)
      | none => none
    | .dct ks xs => match mapK (frzK n) xs h with
      | some (ys, h1) => some (.dct ks ys, h1)
      | none => none
    | .loc i => match h[i]? with
      | some (.lst xs) => match mapK (frzK n) xs (h.set i .dead) with
        | some (ys, h1) => some (.lst ys, h1)
        | none => none
      | some (.dK ks xs) => match mapK (frzK n) xs (h.set i .dead) with
        | some (ys, h1) => some (.dct ks ys, h1)
        | none => none
      | some (.tD ks xs) => if noLs ks = true then match mapK (frzK n) xs (h.set i .dead) with
          | some (ys, h1) => some (.tct ks ys, h1)
          | none => none
        else none
      | some (.ins k xs) => match mapK (frzK n) xs (h.set i .dead) with
        | some (ys, h1) => some (.ins k ys, h1)
        | none => none
      | _ => none
    | _ => none
/-- an object that cannot be read any more, and cannot be closed -/
def Lk (p : Addr) (ρ : Sto) (h : List O) : Prop := p ∈ ρ.l ∧ ∀ i : Nat, ρ.a[i]? = some p → h[i]? = some .dead
theorem Lk.kill {p a : Addr} {ρ : Sto} {h : List O} {i : Nat} {o : O} (l : Lk p ρ h) (g : ρ.a[i]? = some a) (e : h[i]? = some o) (nd : o ≠ .dead) : Lk p (ρ.kill a) (h.set i .dead) := by
  refine ⟨List.mem_filter.mpr ⟨l.1, decide_eq_true fun z => ?_⟩, fun j hj => ?_⟩
  · have := l.2 i (by rw [g, z])
    rw [e] at this
    exact nd (by cases this; rfl)
  · by_cases q : j = i
    · subst q
      obtain ⟨hl, _⟩ := List.getElem?_eq_some_iff.mp e
      rw [List.getElem?_set_self hl]
    · rw [List.getElem?_set_ne (Ne.symm q)]
      exact l.2 j hj
/-- as it stands then -/
structure Clo (K : PySem.W.Frag) (c : Ct) (ρ : Sto) (h0 h : List O) (H : Hp) (P : Sto → Prop) : Prop where
  ex : ∃ ρ', ρ'.a = ρ.a ∧ Le c ρ H ρ' H ∧ Ok K c ρ' h H ∧ P ρ' ∧ ∀ p, Lk p ρ h0 → Lk p ρ' h
theorem frzKs_ok {K : PySem.W.Frag} {H : Hp} {f : D → List O → Option (D × List O)} (hf : ∀ (ρ : Sto) (h : List O) x y h1 v, Ok K c ρ h H → f x h = some (y, h1) → RV K c H ρ x v → Clo K c ρ h h1 H fun ρ' => RV K c H ρ' y v) :
    ∀ (xs : List D) (ys : List D) (ρ : Sto) (h h1 : List O) (vs : List V), Ok K c ρ h H → mapK f xs h = some (ys, h1) → RVs K c H ρ xs vs → Clo K c ρ h h1 H fun ρ' => RVs K c H ρ' ys vs
  | [], _, ρ, h, _, _, ok, e, r => by
    simp only [mapK] at e
    cases e
    cases r
    exact ⟨ρ, rfl, .refl, ok, .nil, fun _ z => z⟩
  | x :: xs, _, ρ, h, _, _, ok, e, r => by
    cases r with
    | cons r1 r2 =>
      simp only [mapK] at e
      split at e
      · rename_i y h1 hy
        split at e
        · rename_i ys h2 hys
          cases e
          obtain ⟨ρ1, a1, l1, ok1, q1, k1⟩ := (hf _ _ _ _ _ _ ok hy r1).ex
          obtain ⟨ρ2, a2, l2, ok2, q2, k2⟩ := (frzKs_ok hf xs ys ρ1 h1 _ _ ok1 hys (r2.le l1)).ex
          exact ⟨ρ2, a2.trans a1, l1.trans l2, ok2, .cons (q1.le l2) q2, fun p z => k2 p (k1 p z)⟩
        · cases e
      · cases e
theorem mapK_len {f : D → List O → Option (D × List O)} : ∀ {xs ys : List D} {h h1 : List O}, mapK f xs h = some (ys, h1) → ys.length = xs.length
  | [], _, _, _, e => by simp only [mapK] at e; cases e; rfl
  | x :: xs, _, _, _, e => by
    simp only [mapK] at e
    split at e
    · split at e
      · rename_i h
        cases e
        simp [mapK_len h]
      · cases e
    · cases e
theorem offK {ρ : Sto} {p : Addr} {K : PySem.W.Frag} {h : List O} {H : Hp} (ok : Ok K c ρ h H) (hp : p ∈ ρ.a) : Off c (ρ.kill p) p := ⟨fun z => by simpa using (List.mem_filter.mp z).2, fun z => (ok.hid _ z).2 hp, fun d g e z => by
  obtain ⟨_, n1, n2, _⟩ := ok.dw d g e z
  exact ⟨fun q => n1 (q ▸ hp), fun q => n2 (q ▸ hp)⟩, fun q hq z => ok.tab.2 q hq (z ▸ hp)⟩
theorem frzK_ok {K : PySem.W.Frag} {H : Hp} : ∀ (n : Nat) (ρ : Sto) (h : List O) (x y : D) (h1 : List O) (v : V), Ok K c ρ h H → frzK n x h = some (y, h1) → RV K c H ρ x v → Clo K c ρ h h1 H fun ρ' => RV K c H ρ' y v
  | 0, _, _, _, _, _, _, _, e, _ => by simp only [frzK] at e; cases e
  | n + 1, ρ, h, x, y, h1, v, ok, e, r => by
    simp only [frzK] at e
    split at e
    · cases e
      exact ⟨ρ, rfl, .refl, ok, r, fun _ z => z⟩
    · have ih := frzKs_ok (frzK_ok (K := K) (H := H) n)
      cases r with
      | non => cases e
      | bl b => cases e
      | int b => cases e
      | str b => cases e
      | draw h1 => cases e
      | fn h1 => cases e
      | tct _ _ _ _ _ => cases e
      | exn _ _ _ _ _ => cases e
      | ins _ _ _ _ => cases e
      | tup g1 g2 =>
        dsimp only at e
        split at e
        · rename_i ys h2 hys
          cases e
          obtain ⟨ρ1, a1, l1, ok1, q1, k1⟩ := (ih _ _ _ _ _ _ ok hys g2).ex
          exact ⟨ρ1, a1, l1, ok1, .tup (l1.rd g1) q1, k1⟩
        · cases e
      | lst g1 o g2 =>
        dsimp only at e
        split at e
        · rename_i ys h2 hys
          cases e
          obtain ⟨ρ1, a1, l1, ok1, q1, k1⟩ := (ih _ _ _ _ _ _ ok hys g2).ex
          exact ⟨ρ1, a1, l1, ok1, .lst (l1.off g1 o).1 (l1.off g1 o).2 q1, k1⟩
        · cases e
      | dct g1 o ek g2 =>
        dsimp only at e
        split at e
        · rename_i ys h2 hys
          cases e
          obtain ⟨ρ1, a1, l1, ok1, q1, k1⟩ := (ih _ _ _ _ _ _ ok hys g2).ex
          exact ⟨ρ1, a1, l1, ok1, .dct (l1.offR g1 o).1 (l1.offR g1 o).2 ek q1, k1⟩
        · cases e
      | @loc i a g1 =>
        dsimp only at e
        obtain ⟨lk, okk⟩ := ok.kill g1
        have offp := offK ok (List.mem_of_getElem? g1)
        split at e
        · rename_i xs hx
          split at e
          · rename_i ys h2 hys
            cases e
            obtain ⟨vs, e1, e2⟩ := ok.objs _ _ _ hx g1
            obtain ⟨ρ1, a1, l1, ok1, q1, k1⟩ := (ih _ _ _ _ _ _ okk hys (e2.le lk)).ex
            obtain ⟨f1, f2⟩ := l1.off e1 offp
            exact ⟨ρ1, a1, lk.trans l1, ok1, .lst f1 f2 q1, fun p z => k1 p (z.kill g1 hx (by simp))⟩
          · cases e
        · rename_i ks xs hx
          split at e
          · rename_i ys h2 hys
            cases e
            obtain ⟨kws, e1, e2, e3⟩ := ok.objs _ _ _ hx g1
            obtain ⟨ρ1, a1, l1, ok1, q1, k1⟩ := (ih _ _ _ _ _ _ okk hys (e3.le lk)).ex
            obtain ⟨f1, f2⟩ := l1.off e1 offp
            exact ⟨ρ1, a1, lk.trans l1, ok1, .dct (.inl f1) f2 e2 q1, fun p z => k1 p (z.kill g1 hx (by simp))⟩
          · cases e
        · rename_i ks xs hx
          split at e
          · rename_i hks
            split at e
            · rename_i ys h2 hys
              cases e
              obtain ⟨kas, vs, e1, e2, e3, e4⟩ := ok.objs _ _ _ hx g1
              obtain ⟨ρ1, a1, l1, ok1, q1, k1⟩ := (ih _ _ _ _ _ _ okk hys (e4.le lk)).ex
              obtain ⟨f1, f2⟩ := l1.off e1 offp
              exact ⟨ρ1, a1, lk.trans l1, ok1, .tct (.inl f1) f2 e2 ((e3.le lk).le l1) q1, fun p z => k1 p (z.kill g1 hx (by simp))⟩
            · cases e
          · cases e
        · rename_i k xs hx
          split at e
          · rename_i ys h2 hys
            cases e
            obtain ⟨dx, vs, e1, e2, e3⟩ := ok.objs _ _ _ hx g1
            obtain ⟨ρ1, a1, l1, ok1, q1, k1⟩ := (ih _ _ _ _ _ _ okk hys (e3.le lk)).ex
            obtain ⟨f1, f2⟩ := l1.off e1 offp
            have hl := mapK_len hys
            exact ⟨ρ1, a1, lk.trans l1, ok1, .ins (by rw [hl]; exact f1) f2 (by rw [hl]; exact e2) q1, fun p z => k1 p (z.kill g1 hx (by simp))⟩
          · cases e
        · cases e
/-- a value from now on by content -/
def oFz : D → M D := fun x h => match frzK far x h with
  | some (y, h1) => .ret (y, h1)
  | none => .bad
/-- a slot's value from now on by content -/
def sFz (i : Nat) : Sg → M Out := fun s h => match s[i]? with
  | some (some x) => match frzK far x h with
    | some (y, h1) => .ret (.nx (s.set i (some y)), h1)
    | none => .bad
  | _ => .bad
section
variable {X : Cx} {e : Expr} {fa : Sg → M D}
theorem ev_fz (ha : EE c X e fa) : EE c X e (f1 oFz fa) := PE.imp ha fun σ H Q ⟨ρ, h, s, ok, env, q⟩ => ⟨ρ, h, s, ok, env, (M.all_bind.mp q).mono fun ⟨x, h1⟩ q1 ρ1 H1 v l1 ok1 r1 => by
  dsimp only [oFz] at q1
  split at q1
  · rename_i y h2 hy
    obtain ⟨ρ2, _, l2, ok2, r2, _⟩ := (frzK_ok far _ _ _ _ _ _ ok1 hy r1).ex
    exact q1 ρ2 H1 v (l1.trans l2) ok2 r2
  · exact q1.elim⟩
end
/-! ### a result that the caller goes on to change -/
theorem Ok.adopt {K : PySem.W.Frag} {ρ : Sto} {h : List O} {H H1 : Hp} {p : Addr} {o : O} (ok : Ok K c ρ h H) (l : Le c ρ H ρ H1) (ok1 : Ok K c ρ h H1) (same : ∀ a, a ∈ ρ.a → H1 a = H a) (np : H p = none) (hp : ∃ u, H1 p = some u)
    (new : Le c ρ H (ρ.push p) H1 → RO K c H1 (ρ.push p) o p) (hd : ∀ d g e, c.dw = some (d, g, e) → Dw H d g e) (nc : ∀ q, H1 p ≠ some (LamX.CodeO p q)) : Le c ρ H (ρ.push p) H1 ∧ Ok K c (ρ.push p) (h ++ [o]) H1 := by
  obtain ⟨hp1, hp2⟩ := ok.fresh np
  have l1 : Le c ρ H (ρ.push p) H1 := ⟨List.prefix_append _ _, fun q hq n => by
    rcases List.mem_append.mp hq with z | z
    · exact absurd z n
    · rw [List.mem_singleton.mp z]; exact np, l.fr, l.tups, l.frzs, l.kept⟩
  refine ⟨l1, by simp [Sto.push, ok.len], ?_, fun n o' a e1 e2 => ?_, fun n o' a e1 e2 e3 => ?_, fun a ha => ?_, fun a ha => ?_, fun d g e z => ?_, fun a ha => ?_, ⟨ok1.tab.1, fun q hq z => ?_⟩, c.kp.pm _ _ _ _ l1 ok.kp, fun b q e hb => ?_⟩
  rotate_right
  · rcases List.mem_append.mp hb with z | z
    · exact ok1.code b q e z
    · rw [List.mem_singleton.mp z] at e
      exact nc q e
  · show (ρ.a ++ [p]).Nodup
    rw [List.nodup_append]
    exact ⟨ok.nd, by simp, fun a ha b hb => by rw [List.mem_singleton.mp hb]; intro z; rw [z] at ha; exact hp1 ha⟩
  · have e2 : (ρ.a ++ [p])[n]? = some a := e2
    by_cases hn : n < h.length
    · rw [List.getElem?_append_left hn] at e1
      rw [List.getElem?_append_left (by rw [ok.len]; exact hn)] at e2
      exact (ok.objs n o' a e1 e2).le l1 (same a (List.mem_of_getElem? e2))
    · rw [List.getElem?_append_right (by omega)] at e1
      rw [List.getElem?_append_right (by rw [ok.len]; omega)] at e2
      have h0 : n - h.length = 0 := by
        obtain ⟨q, _⟩ := List.getElem?_eq_some_iff.mp e1
        simp at q; omega
      rw [h0] at e1
      rw [show n - ρ.a.length = 0 by rw [ok.len]; exact h0] at e2
      simp at e1 e2
      subst e1 e2
      exact new l1
  · have e2 : (ρ.a ++ [p])[n]? = some a := e2
    show a ∈ ρ.l ++ [p]
    by_cases hn : n < h.length
    · rw [List.getElem?_append_left hn] at e1
      rw [List.getElem?_append_left (by rw [ok.len]; exact hn)] at e2
      exact List.mem_append_left _ (ok.lv n o' a e1 e2 e3)
    · rw [List.getElem?_append_right (by rw [ok.len]; omega)] at e2
      have := List.mem_of_getElem? e2
      exact List.mem_append_right _ this
  · rcases List.mem_append.mp ha with z | z
    · exact List.mem_append_left _ (ok.sub a z)
    · exact List.mem_append_right _ z
  · rcases List.mem_append.mp ha with z | z
    · exact ok1.ex a z
    · rw [List.mem_singleton.mp z]; exact hp
  · obtain ⟨Dx, h1, h2, h3⟩ := ok1.dw d g e z
    obtain ⟨⟨gs, cs, r, t, hd', hg', hc'⟩, _⟩ := hd d g e z
    have a1 := ne_of_none hd' np
    have a2 := ne_of_none hg' np
    have a3 := ne_of_none hc' np
    exact ⟨Dx, by simp [Sto.push, h1, a1], by simp [Sto.push, h2, a2], by simp [Sto.push, h3, a3]⟩
  · obtain ⟨h0, h1⟩ := ok1.hid a ha
    refine ⟨h0, fun z => ?_⟩
    rcases List.mem_append.mp z with z | z
    · exact h1 z
    · rw [List.mem_singleton.mp z] at ha; exact hp2 ha
  · rcases List.mem_append.mp z with z | z
    · exact ok.tab.2 q hq z
    · obtain ⟨ps, e, _⟩ := ok.tab.1 q hq
      rw [List.mem_singleton.mp z, np] at e
      cases e
theorem Ok.same {K : PySem.W.Frag} {hid : List Addr} {E : XK} {ρ ρ' : Sto} {h : List O} {H H' : Hp} (ok : Ok K c ρ h H) (l : Le (c.at hid E) Sto.nil H ρ' H') : ∀ a, a ∈ ρ.a → H' a = H a := fun a ha => by
  obtain ⟨u, hu⟩ := ok.ex a ha
  refine (l.fr a u (by simp [Sto.nil]) ⟨fun d g e z => ?_, fun p hp z => ok.tab.2 p hp (z ▸ ha)⟩ hu).trans hu.symm
  obtain ⟨_, n1, n2, _⟩ := ok.dw d g e z
  exact ⟨fun q => n1 (q ▸ ha), fun q => n2 (q ▸ ha)⟩
/-- the object at i, its items by content -/
def thaw (h : List O) (x : D) : Option O := match x with
  | .loc i => match h[i]? with
    | some (.lst xs) => match mapK (frzK far) xs (h.set i .dead) with
      | some (ys, _) => some (.lst ys)
      | none => none
    | some (.dK ks xs) => match mapK (frzK far) xs (h.set i .dead) with
      | some (ys, _) => some (.dK ks ys)
      | none => none
    | some (.ins k xs) => match mapK (frzK far) xs (h.set i .dead) with
      | some (ys, _) => some (.ins k ys)
      | none => none
    | _ => none
  | _ => none
def oPureT (F : List D → M D) : List D → M D := fun xs h => if noLs xs = true then (F xs []).both
    (fun r => match thaw r.2 r.1 with
      | some o => .ret (.loc h.length, h ++ [o])
      | none => .bad)
    (fun k fs h1 => match mapO (frz h1 far) fs with
      | some gs => .err k gs h
      | none => .bad)
  else .bad
/-- no numbers are left -/
theorem noLs_of {f : D → List O → Option (D × List O)} (hf : ∀ x h y h1, f x h = some (y, h1) → noL y = true) : ∀ (xs ys : List D) (h h1 : List O), mapK f xs h = some (ys, h1) → noLs ys = true
  | [], _, _, _, e => by simp only [mapK] at e; cases e; rfl
  | x :: xs, _, _, _, e => by
    simp only [mapK] at e
    split at e
    · rename_i y h1 hy
      split at e
      · rename_i ys h2 hys
        cases e
        simp [noLs, hf _ _ _ _ hy, noLs_of hf xs ys _ _ hys]
      · cases e
    · cases e
theorem noL_of : ∀ (n : Nat) (x : D) (h : List O) (y : D) (h1 : List O), frzK n x h = some (y, h1) → noL y = true
  | 0, _, _, _, _, e => by simp only [frzK] at e; cases e
  | n + 1, x, h, y, h1, e => by
    have ih := noLs_of (noL_of n)
    simp only [frzK] at e
    split at e
    · rename_i hx
      cases e
      exact hx
    · split at e
      · split at e
        · rename_i hys
          cases e
          simpa [noL] using ih _ _ _ _ hys
        · cases e
      · split at e
        · rename_i hys
          cases e
          simpa [noL] using ih _ _ _ _ hys
        · cases e
      · split at e
        · rename_i hys
          cases e
          simpa [noL] using ih _ _ _ _ hys
        · cases e
      · split at e
        · split at e
          · rename_i hys
            cases e
            simpa [noL] using ih _ _ _ _ hys
          · cases e
        · split at e
          · rename_i hys
            cases e
            simpa [noL] using ih _ _ _ _ hys
          · cases e
        · split at e
          · rename_i hks
            split at e
            · rename_i hys
              cases e
              simpa [noL, hks] using ih _ _ _ _ hys
            · cases e
          · cases e
        · split at e
          · rename_i hys
            cases e
            simpa [noL] using ih _ _ _ _ hys
          · cases e
        · cases e
      · cases e
theorem Ok.lock {K : PySem.W.Frag} {ρ : Sto} {h : List O} {H : Hp} {i : Nat} {p : Addr} (ok : Ok K c ρ h H) (hi : ρ.a[i]? = some p) : Ok K c ρ (h.set i .dead) H ∧ (p ∈ ρ.l → Lk p ρ (h.set i .dead)) := by
  have inj : ∀ m : Nat, ρ.a[m]? = some p → m = i := fun m e2 => by
    obtain ⟨q1, w1⟩ := List.getElem?_eq_some_iff.mp e2
    obtain ⟨q2, w2⟩ := List.getElem?_eq_some_iff.mp hi
    exact (List.getElem_inj ok.nd).mp (w1.trans w2.symm)
  have hl : i < h.length := by rw [← ok.len]; exact (List.getElem?_eq_some_iff.mp hi).1
  refine ⟨⟨by rw [List.length_set]; exact ok.len, ok.nd, fun n o a e1 e2 => ?_, fun n o a e1 e2 e3 => ?_, ok.sub, ok.ex, ok.dw, ok.hid, ok.tab, ok.kp, ok.code⟩, fun hp => ⟨hp, fun j hj => by rw [inj j hj, List.getElem?_set_self hl]⟩⟩
  · by_cases hn : n = i
    · subst hn
      rw [List.getElem?_set_self hl] at e1
      cases e1
      trivial
    · rw [List.getElem?_set_ne (Ne.symm hn)] at e1
      exact ok.objs n o a e1 e2
  · by_cases hn : n = i
    · subst hn
      rw [List.getElem?_set_self hl] at e1
      cases e1
      exact absurd rfl e3
    · rw [List.getElem?_set_ne (Ne.symm hn)] at e1
      exact ok.lv n o a e1 e2 e3
theorem op_pureT {K : PySem.W.Frag} {F : List D → M D} : OpN K c (fun vs H Q => spF K c F vs H Q c.E) (oPureT F) := fun {ρ h H xs vs Q} ok r q => by
  unfold oPureT at q
  split at q
  · rename_i hx
    refine ⟨c.hid ++ ρ.l, Sto.nil, [], xs, ok.begin, RVs.mv mv_start xs vs (.inl hx) r, (Tr.all_both.mp q).mono2 (fun ⟨y, h1⟩ q1 ρ1 H1 v l1 ok1 r1 => ?_) (fun k fs h1 q1 => ?_)⟩
    · dsimp only at q1
      split at q1
      · rename_i o ho
        obtain ⟨l2, ok2⟩ := ok.apart l1 ok1
        unfold thaw at ho
        split at ho
        · rename_i i
          cases r1 with
          | @loc _ p g1 =>
            have g1 : ρ1.a[i]? = some p := g1
            have live : ∀ o, h1[i]? = some o → o ≠ .dead → H p = none := fun o e1 e2 => l1.new p (ok1.lv i o p e1 g1 e2) (by simp [Sto.nil])
            obtain ⟨okk, lk⟩ := ok1.lock g1
            have key : ∀ (xs ys : List D) (h2 : List O) (ws : List V), mapK (frzK far) xs (h1.set i .dead) = some (ys, h2) → RVs K (c.at (c.hid ++ ρ.l) c.E) H1 ρ1 xs ws → p ∈ ρ1.l → H p = none → RVs K c H1 (ρ.push p) ys ws := fun xs ys h2 ws e r hp np => by
              obtain ⟨ρ2, a2, l2, ok2, q2, k2⟩ := (frzKs_ok (frzK_ok far) xs ys _ _ _ _ okk e r).ex
              have hl := noLs_of (noL_of far) _ _ _ _ e
              have hp2 := (k2 p (lk hp)).1
              refine RVs.mv (c := c.at (c.hid ++ ρ.l) c.E) (ρ := ρ2) ⟨fun _ _ h => h, fun a u e o => ⟨e, fun z => ?_, fun z => o.hd (List.mem_append_left _ z), o.dw⟩, rfl, rfl, rfl, rfl, rfl, rfl, rfl, rfl, rfl⟩ ys ws (.inl hl) q2
              rcases List.mem_append.mp z with z | z
              · exact o.hd (List.mem_append_right _ z)
              · rw [List.mem_singleton.mp z] at o
                exact o.st hp2
            have fin : ∀ o0, h1[i]? = some o0 → o0 ≠ .dead → (∀ l : Le c ρ H (ρ.push p) H1, RO K c H1 (ρ.push p) o p) → Q (.ref p) H1 := fun o0 e1 e2 new => by
              have hp := ok1.lv i o0 p e1 g1 e2
              have np := live o0 e1 e2
              obtain ⟨l3, ok3⟩ := ok.adopt l2 ok2 (ok.same l1) np (ok1.ex p (ok1.sub p hp)) new (fun d g e z => (ok.dw d g e z).1) fun q z => ok1.code p q z (List.mem_of_getElem? g1)
              exact q1 _ H1 _ l3 ok3 (.loc (by rw [← ok.len]; simp [Sto.push]))
            split at ho
            · rename_i xs hx
              split at ho
              · rename_i ys h2 hys
                cases ho
                obtain ⟨vs, e1, e2⟩ := ok1.objs _ _ _ hx g1
                exact fin _ hx (by simp) fun _ => ⟨vs, e1, key _ _ _ _ hys e2 (ok1.lv i _ p hx g1 (by simp)) (live _ hx (by simp))⟩
              · cases ho
            · rename_i ks xs hx
              split at ho
              · rename_i ys h2 hys
                cases ho
                obtain ⟨vs, e1, e2, e3⟩ := ok1.objs _ _ _ hx g1
                exact fin _ hx (by simp) fun _ => ⟨vs, e1, e2, key _ _ _ _ hys e3 (ok1.lv i _ p hx g1 (by simp)) (live _ hx (by simp))⟩
              · cases ho
            · rename_i k xs hx
              split at ho
              · rename_i ys h2 hys
                cases ho
                obtain ⟨dx, vs, e1, e2, e3⟩ := ok1.objs _ _ _ hx g1
                have hl := mapK_len hys
                exact fin _ hx (by simp) fun _ => ⟨dx, vs, by rw [hl]; exact e1, by rw [hl]; exact e2, key _ _ _ _ hys e3 (ok1.lv i _ p hx g1 (by simp)) (live _ hx (by simp))⟩
              · cases ho
            · cases ho
        · cases ho
      · exact q1.elim
    · split at q1
      · rename_i gs hg
        exact px_back ok hg q1
      · exact q1.elim
  · exact q.elim
end
end Ev

/-! Statements, targets, loops, comprehensions. -/
namespace Ev
open PySem PySem.Spec PyProof.Rows L2 Dr
variable {c : Ct}
/-! ### targets -/
def off (vs : List Nat) (σ σ' : L2.St) : Prop := wipe σ' vs = wipe σ vs
theorem wipe_set {σ : L2.St} {i : Nat} {v : Option V} : ∀ {vs : List Nat}, i ∈ vs → wipe (σ.set i v) vs = wipe σ vs
  | [], h => by cases h
  | w :: vs, h => by
    show (wipe (σ.set i v) vs).set w none = (wipe σ vs).set w none
    by_cases hm : i ∈ vs
    · rw [wipe_set hm]
    · have e : i = w := (List.mem_cons.mp h).resolve_right hm
      subst e
      have key : ∀ (us : List Nat), i ∉ us → wipe (σ.set i v) us = (wipe σ us).set i v := by
        intro us
        induction us with
        | nil => intro _; rfl
        | cons u us ih =>
          intro hu
          have h1 : i ≠ u := fun z => hu (by simp [z])
          have h2 : i ∉ us := fun z => hu (by simp [z])
          show (wipe (σ.set i v) us).set u none = ((wipe σ us).set u none).set i v
          rw [ih h2, List.set_comm _ _ h1]
      rw [key vs hm, List.set_set]
def tGt (K : PySem.W.Frag) (c : Ct) (vs : List Nat) (f : D → Sg → M Sg) : TG := fun v σ H Q => ∃ ρ h s x, Ok K c ρ h H ∧ Env K c H ρ s σ ∧ RV K c H ρ x v ∧
  (f x s h).All (fun r => ∀ ρ' H' σ', Le c ρ H ρ' H' → Ok K c ρ' r.2 H' → Env K c H' ρ' r.1 σ' → off vs σ σ' → Q σ' H') (PX K c ρ H)
def tGts (K : PySem.W.Frag) (c : Ct) (vs : List Nat) (f : List D → Sg → M Sg) : TGs := fun ws σ H Q => ∃ ρ h s xs, Ok K c ρ h H ∧ Env K c H ρ s σ ∧ RVs K c H ρ xs ws ∧
  (f xs s h).All (fun r => ∀ ρ' H' σ', Le c ρ H ρ' H' → Ok K c ρ' r.2 H' → Env K c H' ρ' r.1 σ' → off vs σ σ' → Q σ' H') (PX K c ρ H)
abbrev EG (c : Ct) (X : Cx) (vs : List Nat) (e : Expr) (f : D → Sg → M Sg) : Prop := PG X e (tGt X.K c vs f)
abbrev EGs (c : Ct) (X : Cx) (vs : List Nat) (es : List Expr) (f : List D → Sg → M Sg) : Prop := PGs X es (tGts X.K c vs f)
abbrev ES (c : Ct) (X : Cx) (e : Stmt) (f : Sg → M Out) : Prop := PS X e (tS X.K c f)
abbrev ESs (c : Ct) (X : Cx) (e : List Stmt) (f : Sg → M Out) : Prop := PSs X e (tS X.K c f)
def gSet (i : Nat) : D → Sg → M Sg := fun x s => M.ret (s.set i (some x))
def gEnd : List D → Sg → M Sg := fun xs s => match xs with
  | [] => M.ret s
  | _ => M.bad
def gAnd (g : D → Sg → M Sg) (gs : List D → Sg → M Sg) : List D → Sg → M Sg := fun xs s => match xs with
  | x :: r => M.bind (g x s) fun s' => gs r s'
  | [] => M.bad
def gTupF (n : Nat) (gs : List D → Sg → M Sg) : D → Sg → M Sg := fun x s => match x with
  | .tup xs => if xs.length = n then gs xs s else M.bad
  | _ => M.bad
section
variable {X : Cx} {e a b d : Expr} {es : List Expr} {fa fb : Sg → M D} {ft fu : Sg → M Bool} {fr : Sg → M (List D)} {pos p1 : Pos} {vs : List Nat}
theorem eg_set {x : Str} (i : Nat) (hN : X.N.Nodup) (hi : X.N[i]? = some x := by rfl) (hx : Loc X.env.scope x := by first | exact Or.inl rfl | exact Or.inr rfl) (hv : i ∈ vs := by decide) (hf : X.fn x = true ∨ X.env.scope.names.lookup x = some .local := by first | exact .inl rfl | exact .inr rfl) : EG c X vs (.Name x pos) (gSet i) :=
  PG.imp (pg_name hN hi hx hf) fun v σ H Q ⟨ρ, h, s, y, ok, env, r, q⟩ => q ρ H _ .refl ok (env.set r) (wipe_set hv)
theorem egs_nil : EGs c X vs [] gEnd := PGs.imp pgs_nil fun ws σ H Q ⟨ρ, h, s, xs, ok, env, r, q⟩ => by
  unfold gEnd at q
  split at q
  · cases r
    exact ⟨rfl, q ρ H _ .refl ok env rfl⟩
  · exact q.elim
theorem egs_cons {g : D → Sg → M Sg} {gs : List D → Sg → M Sg} (h1 : EG c X vs e g) (h2 : EGs c X vs es gs) (hs : (assignEach (e :: es) X.env).map (·.2) = assign e X.env :: (assignEach es X.env).map (·.2) := by rfl) : EGs c X vs (e :: es) (gAnd g gs) :=
  PGs.imp (pgs_cons h1 h2 hs) fun ws σ H Q ⟨ρ, h, s, xs, ok, env, r, q⟩ => by
    unfold gAnd at q
    split at q
    · cases r with
      | cons r1 r2 =>
        refine ⟨_, _, rfl, ρ, h, s, _, ok, env, r1, (M.all_bind.mp q).mono fun ⟨s1, h1⟩ q1 ρ1 H1 σ1 l1 ok1 env1 o1 => ?_⟩
        refine ⟨ρ1, h1, s1, _, ok1, env1, r2.le l1, Tr.All.le l1 q1 fun r q ρ2 H2 σ2 l2 ok2 env2 o2 => q ρ2 H2 σ2 (l1.trans l2) ok2 env2 (o2.trans o1)⟩
    · exact q.elim
theorem eg_tup {k n : Nat} {gs : List D → Sg → M Sg} (h : EGs c X vs es gs) (hc : X.calm = true := by rfl) (hn : (assignEach es X.env).length = n := by rfl) (hst : (assignEach es X.env).findIdx? (·.1) = none := by rfl) : EG c X vs (.Tuple es k pos) (gTupF n gs) :=
  PG.imp (pg_tup hc h hn hst) fun v σ H Q ⟨ρ, h, s, y, ok, env, r, q⟩ => by
    unfold gTupF at q
    split at q
    · cases r with
      | tup g1 g2 =>
        split at q
        · rename_i hl
          exact ⟨_, _, rfl, g1, by rw [← g2.len]; exact hl, ρ, h, s, _, ok, env, g2, q⟩
        · exact q.elim
    · exact q.elim
/-! ### small statements -/
def sSeq (f g : Sg → M Out) : Sg → M Out := fun s => M.bind (f s) fun o => match o with
  | .nx s' => g s'
  | o => M.ret o
def sRet (fa : Sg → M D) : Sg → M Out := fun s => M.bind (fa s) fun x => M.ret (.rt x)
def sRetN : Sg → M Out := fun _ => M.ret (.rt .non)
def sExpr (fa : Sg → M D) : Sg → M Out := fun s => M.bind (fa s) fun _ => M.ret (.nx s)
def sSet (i : Nat) (fa : Sg → M D) : Sg → M Out := fun s => M.bind (fa s) fun x => M.ret (.nx (s.set i (some x)))
def sAsg (fa : Sg → M D) (g : D → Sg → M Sg) : Sg → M Out := fun s => M.bind (fa s) fun x => M.bind (g x s) fun s' => M.ret (.nx s')
def sIf (ft : Sg → M Bool) (f g : Sg → M Out) : Sg → M Out := fun s => M.bind (ft s) fun b => if b = true then f s else g s
def sNx : Sg → M Out := fun s => M.ret (.nx s)
def sBk : Sg → M Out := fun s => M.ret (.bk s)
def sCt : Sg → M Out := fun s => M.ret (.ct s)
def sBad : Sg → M Out := fun _ => M.bad
theorem tS_bad {K : PySem.W.Frag} {E σ H} (h : tS K c sBad E σ H) : False := by
  obtain ⟨ρ, h, s, ok, env, q⟩ := h
  exact q
theorem es_bad {st : Stmt} : ES c X st sBad := PS.imp ps_never fun E σ H h => tS_bad h
theorem ess_bad {sts : List Stmt} : ESs c X sts sBad := PSs.imp pss_never fun E σ H h => tS_bad h
theorem ess_nil : ESs c X [] sNx := PSs.imp pss_nil fun E σ H ⟨ρ, h, s, ok, env, q⟩ => q ρ H σ .refl ok env
theorem es_pass : ES c X (.Pass pos) sNx := PS.imp ps_pass fun E σ H ⟨ρ, h, s, ok, env, q⟩ => q ρ H σ .refl ok env
theorem es_break : ES c X (.Break pos) sBk := PS.imp ps_break fun E σ H ⟨ρ, h, s, ok, env, q⟩ => q ρ H σ .refl ok env
theorem es_continue : ES c X (.Continue pos) sCt := PS.imp ps_continue fun E σ H ⟨ρ, h, s, ok, env, q⟩ => q ρ H σ .refl ok env
theorem ess_one {st : Stmt} {f : Sg → M Out} (h : ES c X st f) : ESs c X [st] f := pss_one h
theorem ess_cons {st : Stmt} {sts : List Stmt} {f g : Sg → M Out} (h : ES c X st f) (h2 : ESs c X sts g) : ESs c X (st :: sts) (sSeq f g) := PSs.imp (pss_cons h h2) fun E σ H ⟨ρ, h, s, ok, env, q⟩ => by
  refine ⟨ρ, h, s, ok, env, (M.all_bind.mp q).mono fun ⟨o, h1⟩ q1 => ?_⟩
  cases o with
  | nx s1 => exact fun ρ1 H1 σ1 l1 ok1 env1 => ⟨ρ1, h1, s1, ok1, env1, Tr.All.le l1 q1 fun r q => q.le l1⟩
  | rt x => exact q1
  | bk s1 => exact q1
  | ct s1 => exact q1
theorem es_ret (h : EE c X e fa) : ES c X (.Return (some e) pos) (sRet fa) := PS.imp (ps_ret h) fun E σ H ⟨ρ, h, s, ok, env, q⟩ =>
  ⟨ρ, h, s, ok, env, (M.all_bind.mp q).mono fun ⟨o, h1⟩ q1 ρ1 H1 v l1 ok1 r1 => q1 ρ1 H1 v l1 ok1 r1⟩
theorem es_retN : ES c X (.Return none pos) sRetN := PS.imp ps_retN fun E σ H ⟨ρ, h, s, ok, env, q⟩ => q ρ H _ .refl ok .non
theorem es_expr (h : EE c X e fa) (hs : swapsWith e none pos.line X.env = pure false := by rfl) : ES c X (.Expr e pos) (sExpr fa) := PS.imp (ps_expr h hs) fun E σ H ⟨ρ, h, s, ok, env, q⟩ =>
  ⟨ρ, h, s, ok, env, (M.all_bind.mp q).mono fun ⟨o, h1⟩ q1 ρ1 H1 v l1 ok1 r1 => q1 ρ1 H1 σ l1 ok1 (env.le l1)⟩
theorem es_set {x : Str} (i : Nat) (hN : X.N.Nodup) (h : EE c X e fa) (hi : X.N[i]? = some x := by rfl) (hx : Loc X.env.scope x := by first | exact Or.inl rfl | exact Or.inr rfl) (hs : swapsWith e (some (.Name x p1)) pos.line X.env = pure false := by rfl) (hf : X.fn x = true ∨ X.env.scope.names.lookup x = some .local := by first | exact .inl rfl | exact .inr rfl) :
    ES c X (.Assign [.Name x p1] e pos) (sSet i fa) := PS.imp (ps_set hN hi hx h hs hf) fun E σ H ⟨ρ, h, s, ok, env, q⟩ =>
  ⟨ρ, h, s, ok, env, (M.all_bind.mp q).mono fun ⟨o, h1⟩ q1 ρ1 H1 v l1 ok1 r1 => q1 ρ1 H1 _ l1 ok1 ((env.le l1).set r1)⟩
theorem es_asg {tg : Expr} {g : D → Sg → M Sg} (vs : List Nat) (he : EE c X e fa) (hg : EG c X vs tg g) (hs : swapsWithSole [tg] e pos.line X.env = pure false := by rfl) (hw : swappedStores [tg] e X.env = pure none := by rfl)
    (h1 : (assignEach [tg] X.env).map (·.2) = [assign tg X.env] := by rfl) : ES c X (.Assign [tg] e pos) (sAsg fa g) := PS.imp (ps_asg he hg hs hw h1) fun E σ H ⟨ρ, h, s, ok, env, q⟩ =>
  ⟨ρ, h, s, ok, env, (M.all_bind.mp q).mono fun ⟨o, h1⟩ q1 ρ1 H1 v l1 ok1 r1 => ⟨ρ1, h1, s, o, ok1, env.le l1, r1, Tr.All.le l1 (M.all_bind.mp q1) fun ⟨s2, h2⟩ q2 ρ2 H2 σ2 l2 ok2 env2 _ => q2 ρ2 H2 σ2 (l1.trans l2) ok2 env2⟩⟩
theorem es_if {sa sb : List Stmt} {f g : Sg → M Out} (hc : ET c X e ft) (h1 : ESs c X sa f) (h2 : ESs c X sb g) : ES c X (.If e sa sb pos) (sIf ft f g) := PS.imp (ps_if hc h1 h2) fun E σ H ⟨ρ, h, s, ok, env, q⟩ => by
  refine ⟨ρ, h, s, ok, env, (M.all_bind.mp q).mono fun ⟨x, h1⟩ q1 ρ1 H1 l1 ok1 => ?_⟩
  dsimp only at q1 ⊢
  by_cases hx : x = true
  · rw [if_pos hx] at q1 ⊢
    exact ⟨ρ1, h1, s, ok1, env.le l1, Tr.All.le l1 q1 fun r q => q.le l1⟩
  · rw [if_neg hx] at q1 ⊢
    exact ⟨ρ1, h1, s, ok1, env.le l1, Tr.All.le l1 q1 fun r q => q.le l1⟩
/-- a, b = x, y -/
def sPar (i j : Nat) (fr : Sg → M (List D)) : Sg → M Out := fun s => M.bind (fr s) fun xs => match xs with
  | [x, y] => M.ret (.nx ((s.set i (some x)).set j (some y)))
  | _ => M.bad
theorem es_par {x y : Str} {kt k2 : Nat} {px py pt pt2 : Pos} (i j : Nat) (hN : X.N.Nodup) (hij : i ≠ j) (ha : EA c X [a, b] fr) (hi : X.N[i]? = some x := by rfl) (hj : X.N[j]? = some y := by rfl) (hx : X.env.scope.names.lookup x = some .local := by rfl) (hy : X.env.scope.names.lookup y = some .local := by rfl) (hc : X.calm = true := by rfl)
    (hw : swappedStores [.Tuple [.Name x px, .Name y py] kt pt] (.Tuple [a, b] k2 pt2) X.env = pure (some [x, y]) := by rfl) : ES c X (.Assign [.Tuple [.Name x px, .Name y py] kt pt] (.Tuple [a, b] k2 pt2) pos) (sPar i j fr) :=
  PS.imp (ps_par hc hN hi hj hij hx hy ha hw) fun E σ H ⟨ρ, h, s, ok, env, q⟩ => by
    refine ⟨ρ, h, s, ok, env, (M.all_bind.mp q).mono fun ⟨o, h1⟩ q1 ρ1 H1 v l1 ok1 r1 => ?_⟩
    rcases o with _ | ⟨x, _ | ⟨y, _ | _⟩⟩
    · exact q1.elim
    · exact q1.elim
    · obtain ⟨v, w, rfl, r2, r3⟩ := vs2 r1
      exact ⟨v, w, rfl, q1 ρ1 H1 _ l1 ok1 (((env.le l1).set r2).set r3)⟩
    · exact q1.elim
/-! name op= e -/
def oAug (p : D → D → M D) : D → D → M D := p
def sAug (i : Nat) (op : D → D → M D) (fa : Sg → M D) : Sg → M Out := fun s => match s[i]? with
  | some (some x) => M.bind (fa s) fun y => M.bind (op x y) fun z => M.ret (.nx (s.set i (some z)))
  | _ => M.bad
def oExt : D → D → M D := fun x y h => match x with
  | .loc a => match h[a]?, lstD h y with
    | some (.lst xs), some ys => if (xs ++ ys).length ≤ lim then .ret (.loc a, h.set a (.lst (xs ++ ys))) else .bad
    | _, _ => .bad
  | .int i => match y with
    | .int j => .ret (.int (i + j), h)
    | _ => .bad
  | _ => .bad
theorem op_ext {K : PySem.W.Frag} : Op2 K c (fun x y H Q => rExt2 x y H Q ∨ rI0 (fun i j => .int (i + j)) x y H Q) oExt := fun {ρ h H x y v w Q} ok r1 r2 q => by
  unfold oExt at q
  split at q
  · cases r1 with
    | loc h1 =>
      split at q
      · rename_i xs ys e1 e2
        split at q
        · rename_i hl
          obtain ⟨vs, g1, g2⟩ := ok.objs _ _ _ e1 h1
          obtain ⟨b, ws, rfl, g3, g4⟩ := lstD_ok ok r2 e2
          refine .inl ⟨_, _, _, _, rfl, rfl, g1, g3, ?_, ?_⟩
          · rw [← g2.len, ← g4.len, ← List.length_append]; exact Nat.le_of_lt (lim_line hl)
          · obtain ⟨l, ok1⟩ := ok.put (u := .lst (vs ++ ws)) (o := .lst (xs ++ ys)) e1 (by simp) h1 fun H1 l e => ⟨_, e, (g2.le l).append (g4.le l)⟩
            exact q _ _ _ l ok1 (.loc h1)
        · exact q.elim
      · exact q.elim
  · cases r1
    split at q
    · cases r2
      exact .inr ⟨_, _, rfl, rfl, q _ _ _ .refl ok (.int _)⟩
    · exact q.elim
  · exact q.elim
theorem es_aug {x : Str} {op : Operator} {ti : R2} {g : D → D → M D} (i : Nat) (hN : X.N.Nodup) (ho : PIp X op ti) (hs : Op2 X.K c ti g) (he : EE c X e fa) (hi : X.N[i]? = some x := by rfl) (hx : Loc X.env.scope x := by first | exact Or.inl rfl | exact Or.inr rfl) (hf : X.fn x = true ∨ X.env.scope.names.lookup x = some .local := by first | exact .inl rfl | exact .inr rfl) :
    ES c X (.AugAssign (.Name x p1) op e pos) (sAug i g fa) := PS.imp (ps_aug hN hi hx he ho hf) fun E σ H ⟨ρ, h, s, ok, env, q⟩ => by
  unfold sAug at q
  rcases hy : s[i]? with _ | _ | y
  · rw [hy] at q
    exact q.elim
  · rw [hy] at q
    exact q.elim
  · rw [hy] at q
    replace q : (M.bind (fa s) (fun y' => M.bind (g y y') fun z => M.ret (.nx (s.set i (some z)))) h).All (PD X.K c ρ H E) (PX X.K c ρ H) := q
    obtain ⟨v, e1, r0⟩ := env.2 i y hy
    refine ⟨v, e1, ρ, h, s, ok, env, (M.all_bind.mp q).mono fun ⟨o, h1⟩ q1 ρ1 H1 w l1 ok1 r1 => ?_⟩
    refine hs ok1 (r0.le l1) r1 (Tr.All.le l1 (M.all_bind.mp q1) fun ⟨z, h2⟩ q2 ρ2 H2 u l2 ok2 r2 => ?_)
    exact q2 ρ2 H2 _ (l1.trans l2) ok2 ((env.le (l1.trans l2)).set r2)
theorem ip_ext : PIp X .Add (fun x y H Q => rExt2 x y H Q ∨ rI0 (fun i j => .int (i + j)) x y H Q) := fun pins s σ H x y v u Q I r1 r2 q => by
  rcases q with q | q
  · exact iop_ext pins s σ H x y v u Q I r1 r2 q
  · exact iop_add pins s σ H x y v u Q I r1 r2 q
/-! o.f = e, at the end of the attributes -/
/-- a new field behind the others, or another value of one that is there -/
def putN (fs : List D) (i : Nat) (y : D) : Option (List D) := if i < fs.length then some (fs.set i y) else if i = fs.length then some (fs ++ [y]) else none
def sFldF (k i : Nat) (fo fv : Sg → M D) : Sg → M Out := fun s => M.bind (fv s) fun y => M.bind (fo s) fun x h => match x with
  | .loc n => match h[n]? with
    | some (.ins j fs) => if j = k then match putN fs i y with
        | some gs => .ret (.nx s, h.set n (.ins j gs))
        | none => .bad
      else .bad
    | _ => .bad
  | _ => .bad
theorem putF_zip {f : Str} {v : V} : ∀ {ns : List Str} {vs : List V}, ns.Nodup → ns[vs.length]? = some f → putF f v ((ns.take vs.length).zip vs) = (ns.take (vs.length + 1)).zip (vs ++ [v])
  | [], _, _, e => by simp at e
  | n :: ns, [], nd, e => by
    simp at e
    subst e
    simp [putF]
  | n :: ns, w :: vs, nd, e => by
    simp only [List.length_cons, List.getElem?_cons_succ] at e
    have hne : n ≠ f := fun z => by
      subst z
      exact (List.nodup_cons.mp nd).1 (List.mem_of_getElem? e)
    have ih := putF_zip (f := f) (v := v) (List.nodup_cons.mp nd).2 e
    simp only [List.length_cons, List.take_succ_cons, List.zip_cons_cons, putF, if_neg hne, List.cons_append, ih]
theorem putF_set {f : Str} {v : V} : ∀ {ns : List Str} {vs : List V} {i : Nat}, ns.Nodup → ns[i]? = some f → i < vs.length → putF f v ((ns.take vs.length).zip vs) = (ns.take vs.length).zip (vs.set i v)
  | [], _, _, _, e, _ => by simp at e
  | _ :: _, [], _, _, _, h => by simp at h
  | n :: ns, w :: vs, 0, _, e, _ => by
    simp at e
    subst e
    simp [putF]
  | n :: ns, w :: vs, i + 1, nd, e, h => by
    simp only [List.getElem?_cons_succ] at e
    have hne : n ≠ f := fun z => by
      subst z
      exact (List.nodup_cons.mp nd).1 (List.mem_of_getElem? e)
    have ih := putF_set (f := f) (v := v) (List.nodup_cons.mp nd).2 e (by simpa using h)
    simp only [List.length_cons, List.take_succ_cons, List.zip_cons_cons, putF, if_neg hne, List.set_cons_succ, ih]
theorem es_fld {o : Expr} {fld : Str} {fo fv : Sg → M D} (k i : Nat) (F : Facts X.K c) (hf : (c.cF k)[i]? = some fld) (na : NoAttr X.K (c.cA k) fld) (ho : EE c X o fo) (hv : EE c X e fv) (hs : swapsWith e (some (.Attribute o fld p1)) pos.line X.env = pure false := by rfl) :
    ES c X (.Assign [.Attribute o fld p1] e pos) (sFldF k i fo fv) := PS.imp (ps_fld ho hv hs) fun E σ H ⟨ρ, h, s, ok, env, q⟩ => by
  refine ⟨ρ, h, s, ok, env, (M.all_bind.mp q).mono fun ⟨y, h1⟩ q1 ρ1 H1 w l1 ok1 r1 => ?_⟩
  refine ⟨ρ1, h1, s, ok1, env.le l1, Tr.All.le l1 (M.all_bind.mp q1) fun ⟨x, h2⟩ q2 ρ2 H2 u l2 ok2 r2 => ?_⟩
  dsimp only at q2
  split at q2
  · cases r2 with
    | loc g1 =>
      split at q2
      · rename_i n j fs hy
        split at q2
        · rename_i hj
          subst hj
          split at q2
          · rename_i gs hg
            obtain ⟨dx, vs, e1, ⟨e2, hk⟩, e3⟩ := ok2.objs _ _ _ hy g1
            have el := e3.len
            have fin : ∀ ws, RVs X.K c H2 ρ2 gs ws → (gs.length ≤ (c.cF j).length) → putF fld w (((c.cF j).take fs.length).zip vs) = ((c.cF j).take gs.length).zip ws → E.nx σ (upd H2 _ (.ins (c.cA j) dx (putF fld w (((c.cF j).take fs.length).zip vs)))) := fun ws rw_ hl hp => by
              obtain ⟨l, ok3⟩ := ok2.put (u := .ins (c.cA j) dx (((c.cF j).take gs.length).zip ws)) (o := .ins j gs) hy (by simp) g1 fun H1 l e => ⟨dx, ws, e, ⟨hl, hk⟩, rw_.le l⟩
              rw [hp]
              exact q2 _ _ _ (l1.trans (l2.trans l)) ok3 (env.le (l1.trans (l2.trans l)))
            refine ⟨_, _, dx, _, rfl, e1, (F.cls _ hk).cl, na, ?_, ?_⟩
            · rw [List.length_zip, List.length_take]
              have := F.few _ hk
              omega
            · unfold putN at hg
              split at hg
              · rename_i hi
                cases hg
                refine fin (vs.set i w) (e3.set (r1.le l2) i) (by rw [List.length_set]; exact e2) ?_
                rw [List.length_set, el]
                exact putF_set (F.nd _ hk) hf (by rw [← el]; exact hi)
              · split at hg
                · rename_i hi
                  cases hg
                  subst hi
                  rw [el] at hf
                  refine fin (vs ++ [w]) (e3.append (.cons (r1.le l2) .nil)) ?_ ?_
                  · rw [List.length_append, el]
                    have := (List.getElem?_eq_some_iff.mp hf).1
                    exact this
                  · rw [List.length_append, el]
                    exact putF_zip (F.nd _ hk) hf
                · cases hg
          · exact q2.elim
        · exact q2.elim
      · exact q2.elim
  · exact q2.elim
end
end Ev

/-! enumerate over a list or a tuple; a list or a tuple walked, whichever it is. -/
namespace Ev
open PySem PySem.Spec PyProof.Rows L2 Dr
theorem meets_enum1 {v : Value} {ob : Obj} {G : Heap → Prop} (begins : Begins v ob G) :
    Meets (Builtin.«enumerate.__new__» ⟨[.type "enumerate", v], []⟩) (fun _ R z => G z.heap ∧
      R (.ok (.ret (.ref (z.heap.push ob).objs.size)))
        { z with heap := (z.heap.push ob).push { cls := .type "enumerate", data := .fields #[.none, .bool false, .ref z.heap.objs.size, rawInt 0, .none, .none] } }) := by
  apply Meets.of_wp
  intro prog w A R z asked
  obtain ⟨heap, gens, dr, tk, os⟩ := z
  obtain ⟨stands, asked⟩ := asked
  have subt := sub_enumerate
  have first : ∀ {B : Around} {E R' : Value → Shared → Prop}, R' (.ref heap.objs.size) ⟨heap.push ob, gens, dr, tk, os⟩ →
      wpAny (model prog w) B (pyIter v) R' E ⟨heap, gens, dr, tk, os⟩ := by
    intro B E R' q
    exact begins.iter prog w B E ⟨heap, gens, dr, tk, os⟩ R' stands q
  wp_walk using first
  refine wpAny_stack_any (fun _ => wpAny_pure ?_)
  split
  · next cl _ _ _ _ _ =>
    cases (cl == Value.type "enumerate") <;>
      (wp_walk using first
       exact ⟨_, rfl, asked⟩)
  · wp_walk using first
    exact ⟨_, rfl, asked⟩
theorem call_enum1 {prog : Program} {w : World} {A : Around} {E : Value → Shared → Prop} {z : Shared} {v : Value} {ob : Obj} {G : Heap → Prop} {R : Value → Shared → Prop}
    (begins : Begins v ob G) (stands : G z.heap)
    (after : ∀ g, IsEnum g (z.heap.objs.size + 1) z.heap.objs.size 0 .none → g.get? z.heap.objs.size = some ob → g.objs.size = z.heap.objs.size + 2 →
      (∀ b u, z.heap.get? b = some u → g.get? b = some u) → R (.ref (z.heap.objs.size + 1)) { z with heap := g }) :
    wpAny (model prog w) A (call (.type "enumerate") [v]) R E z := by
  apply callType_new F.called_enumerate (by decide) (F.typeCall_enumerate_1 _) (F.newCall_enumerate_1 _) (fun o => F.args_object_init_2 o _)
    F.entry_enumerate_new (meets_enum1 begins)
  refine ⟨stands, ?_⟩
  have len : (z.heap.push ob).objs.size = z.heap.objs.size + 1 := Heap.size_push ..
  show _ ∧ _
  rw [len]
  have made : IsEnum ((z.heap.push ob).push { cls := .type "enumerate", data := .fields #[.none, .bool false, .ref z.heap.objs.size, rawInt 0, .none, .none] })
      (z.heap.objs.size + 1) z.heap.objs.size 0 .none := by
    have q := Heap.get?_push_size (z.heap.push ob)
      (o := { cls := .type "enumerate", data := .fields #[.none, .bool false, .ref z.heap.objs.size, rawInt 0, .none, .none] }) rfl
    rwa [len] at q
  refine ⟨⟨_, made, rfl⟩, after _ made ?_ ?_ ?_⟩
  · exact Heap.get?_push_of_some _ (Heap.get?_push_size _ begins.free)
  · rw [Heap.size_push, len]
  · exact fun b u q => Heap.get?_push_of_some _ (Heap.get?_push_of_some _ q)
/-- the tuple at a, each item in a new pair -/
def ItEnT (K : PySem.W.Frag) (a : Addr) : It where
  go := fun i G => ∃ (xs : List V) (x : V), SqT K G a xs ∧ xs[i]? = some x
  yld := fun i G v G' => ∃ T x, v = .ref T ∧ G T = none ∧ G' = upd G T (.tup [.int (i : Nat), x]) ∧ ∀ xs, SqT K G a xs → xs[i]? = some x
  stop := fun i G => ∃ xs : List V, SqT K G a xs ∧ xs.length ≤ i
theorem turn_enT {P : Program} {w : World} {K : PySem.W.Frag} {elts : List Expr} {kk : Nat} {tpos : Pos} (a e it : Addr) :
    Turn P w K (.Tuple elts kk tpos) (ItEnT K a) [e, it] e (fun i h => (∃ was, IsEnum h e it ((i : Nat) : Int) was) ∧ h.IsTupleIter it a i ∧ e ≠ it) := by
  refine ⟨by simp, ?_, ?_, ?_, ?_, ?_⟩
  · rintro i h ⟨⟨was, he⟩, ⟨o, ho, hc, hd⟩, _⟩ b hb
    rcases List.mem_cons.mp hb with rfl | hb
    · exact ⟨_, he, fun v q => nomatch q⟩
    · obtain rfl := List.mem_singleton.mp hb
      exact ⟨o, ho, fun v q => by rw [hd] at q; cases q⟩
  · rintro i h h' ⟨⟨was, he⟩, hi, ne⟩ k
    exact ⟨⟨was, k e (by simp) _ he⟩, hi.at (fun o q => k it (by simp) o q), ne⟩
  · rintro X rfl rfl rfl calm i pins s σ G E I own ⟨⟨was, he⟩, hit, ne⟩ ⟨xs, x, hq, hx⟩
    obtain ⟨its, rv, tup, _⟩ := I.tuple hq
    have tup' : s.heap.IsTuple a its.toArray := tup
    obtain ⟨u, hu, ru⟩ := rv.get hx
    have el : e < s.heap.objs.size := Heap.lt_size he
    have il : it < s.heap.objs.size := by
      obtain ⟨_, q, _⟩ := hit
      exact Heap.lt_size q
    have ai : a ≠ it := by
      rintro rfl
      obtain ⟨o1, q1, c1, _⟩ := tup
      obtain ⟨o2, q2, c2, _⟩ := hit
      rw [q1] at q2
      cases q2
      rw [c1] at c2
      simp at c2
    have ea : e ≠ a := by
      rintro rfl
      obtain ⟨o1, q1, c1, _⟩ := tup
      have q2 : s.heap.get? e = some _ := he
      rw [q1] at q2
      cases q2
      simp at c1
    have small : i < its.toArray.size := by
      have := (List.getElem?_eq_some_iff.mp hu).1
      simpa using this
    refine wpAny_pyNext_enum_itemD (Draws.tuple (prog := X.prog) (w := X.w) (A := X.A.in1) (I.ok.hd calm) it a ai its.toArray) he ⟨hit, tup'⟩ small ne (by simp [ne, ea]) ?_
    intro y h1 tk hy out st hT _ others
    have yu : y = u := by
      have q : its.toArray[i]? = some u := by simpa using hu
      rw [q] at hy
      exact (Option.some.inj hy).symm
    subst yu
    refine ⟨_, rfl, wpAny_letOwnedTupleGo_enum (s := { s with heap := h1, toks := tk + 1 }) out ?_⟩
    intro h2 again but
    have far : ∀ b, b < s.heap.objs.size → s.heap.objs.size ≠ b := fun b hb => Nat.ne_of_gt hb
    have pair : h2.get? s.heap.objs.size = some { cls := .type "tuple", data := .seq #[.int i tk, y] } := (but.2 _ (far e el)).trans hT
    have laid : ObjOk X.prog X.w (upd G s.heap.objs.size (.tup [.int (i : Nat), x])) h2 s.heap.objs.size (.tup [.int (i : Nat), x]) := by
      refine ⟨by show 2 ≤ sizeLine; decide, [.int i tk, y], .cons ⟨_, rfl⟩ (.cons ru .nil), ⟨_, pair, rfl, _, rfl⟩⟩
    have later : Inv X pins σ (upd G s.heap.objs.size (.tup [.int (i : Nat), x])) { s with heap := h2, toks := tk + 1 } := by
      refine I.turnedNew (ch := [e, it]) ?_ own (Nat.le_refl _) laid
      intro b ob hb q
      have b1 : b ≠ e := fun z => hb (by simp [z])
      have b2 : b ≠ it := fun z => hb (by simp [z])
      exact (but.2 b b1).trans (others b ob b1 b2 q)
    refine ⟨.ref s.heap.objs.size, _, later, rfl, ⟨_, x, rfl, I.hok.fresh (Nat.le_refl _), rfl, ?_⟩, ⟨⟨y, ?_⟩, ?_, ne⟩, ?_⟩
    · intro ys hys
      rw [I.tuple_inj hys hq]
      exact hx
    · have e1 : ((i + 1 : Nat) : Int) = (i : Int) + 1 := by omega
      rw [e1]
      exact again
    · exact st.1.at (fun o q => (but.2 it (Ne.symm ne)).trans q)
    · intro b hb
      have bl : b < s.heap.objs.size := by
        rcases List.mem_cons.mp hb with rfl | hb
        · exact el
        · obtain rfl := List.mem_singleton.mp hb
          exact il
      rw [upd_ne (Nat.ne_of_lt bl)]
      exact (own b hb).1
  · rintro X rfl rfl rfl calm i pins s σ G E I own ⟨⟨was, he⟩, hit, ne⟩ ⟨xs, hq, few⟩
    obtain ⟨its, rv, tup, _⟩ := I.tuple hq
    have tup' : s.heap.IsTuple a its.toArray := tup
    have len := rv.length
    have ai : a ≠ it := by
      rintro rfl
      obtain ⟨o1, q1, c1, _⟩ := tup
      obtain ⟨o2, q2, c2, _⟩ := hit
      rw [q1] at q2
      cases q2
      rw [c1] at c2
      simp at c2
    have hT : s.TypeIs (.ref e) "enumerate" := ⟨_, he, rfl⟩
    unfold pyNext
    refine wpAny_bind (wpAny_attempt (wpAny_callSpecial?_slot (name := Str.ofString "__next__") hT F.slot_enumerate_next
      (wpAny_call_entry F.slot_enumerate_next hT F.entry_enumerate_next ?_ (F.args_enumerate_next_1 _))))
    show wpAny _ _ (field (.ref e) 2 >>= _) _ _ _
    refine wpAny_bind (wpAny_field he rfl (x := .ref it) rfl ?_)
    have past : its.toArray[i]? = none := by
      simp
      omega
    refine wpAny_bind (wpAny_nextOf_tuple_end (I.ok.hd calm) hit tup' past ?_)
    intro h1 ex but sto
    obtain ⟨o, ho, hc⟩ := sto
    refine wpAny_bind (wpAny_isInstance (T := "StopIteration") (b := true) ⟨o, ho, hc⟩ isSubtype_stop ?_)
    obtain ⟨f0, f1, f2, f3, f4, f5⟩ := own it (by simp)
    exact wpAny_pure ⟨rfl, I.turned (t' := s.toks) (fun b ob hb q => but b ob hb q) f0 f1 f3 f4 f5⟩
  · rintro A i s R E ⟨⟨_, he⟩, _, _⟩ h
    exact wpAny_pyIter_enum he h
end Ev

/-! Loops and comprehensions. -/
namespace Ev
open PySem PySem.Spec PyProof.Rows L2 Dr
variable {c : Ct}
/-! ### what is walked -/
structure Src where
  fuel : Nat
  get : Nat → List O → Option (Option D)
/-- the iterator yields what the source says; more may be hidden by then -/
def Feed (K : PySem.W.Frag) (c : Ct) (J : It) (g : Nat → List O → Option (Option D)) (ρ0 : Sto) (H0 : Hp) : Prop :=
  ∀ hid E ρ h H i, (∀ b, b ∈ hid → b ∈ c.hid ∨ H0 b = none) → Le c ρ0 H0 ρ H → Ok K (c.bl hid E) ρ h H →
    (g i h = some none → J.stop i H) ∧
    ∀ x, g i h = some (some x) → J.go i H ∧ ∀ v H', J.yld i H v H' → Le c ρ H ρ H' ∧ Ok K (c.bl hid E) ρ h H' ∧ RV K (c.bl hid E) H' ρ x v
theorem LeD.hide {hid : List Addr} {E : XK} {ρ ρ' : Sto} {H H' : Hp} (l : Le c ρ H ρ' H') : Le (c.bl hid E) ρ H ρ' H' := ⟨l.pre, l.new, l.fr, l.tups, l.frzs, l.kept⟩
theorem LeD.show_ {hid : List Addr} {E : XK} {ρ ρ' : Sto} {H H' : Hp} (l : Le (c.bl hid E) ρ H ρ' H') : Le c ρ H ρ' H' := ⟨l.pre, l.new, l.fr, l.tups, l.frzs, l.kept⟩
/-- what is hidden since was not there -/
theorem mv_hide {K : PySem.W.Frag} {hid : List Addr} {E : XK} {ρ0 ρ : Sto} {H0 H : Hp} (l : Le c ρ0 H0 ρ H) (hh : ∀ b, b ∈ hid → b ∈ c.hid ∨ H0 b = none) : Mv K c (c.bl hid E) H0 ρ0 H ρ := ⟨fun _ _ h => l.rd h, fun a u e o => by
  obtain ⟨e1, o1⟩ := l.off e o
  exact ⟨e1, o1.st, fun z => (hh a z).elim o1.hd fun n => absurd (n.symm.trans e) (by simp), o1.dw⟩, rfl, rfl, rfl, rfl, rfl, rfl, rfl, rfl, rfl⟩
theorem RVs.hide {K : PySem.W.Frag} {hid : List Addr} {E : XK} {ρ0 ρ : Sto} {H0 H : Hp} (l : Le c ρ0 H0 ρ H) (hh : ∀ b, b ∈ hid → b ∈ c.hid ∨ H0 b = none) {xs : List D} {vs : List V} (r : RVs K c H0 ρ0 xs vs) : RVs K (c.bl hid E) H ρ xs vs := RVs.mv (mv_hide l hh) xs vs (.inr ⟨fun _ _ => pre_get l.pre, fun _ _ h => c.kp.qm _ _ _ _ _ _ l h⟩) r
theorem RV.hide {K : PySem.W.Frag} {hid : List Addr} {E : XK} {ρ0 ρ : Sto} {H0 H : Hp} (l : Le c ρ0 H0 ρ H) (hh : ∀ b, b ∈ hid → b ∈ c.hid ∨ H0 b = none) {x : D} {v : V} (r : RV K c H0 ρ0 x v) : RV K (c.bl hid E) H ρ x v := RV.mv (mv_hide l hh) x v (.inr ⟨fun _ _ => pre_get l.pre, fun _ _ h => c.kp.qm _ _ _ _ _ _ l h⟩) r
def tI (K : PySem.W.Frag) (c : Ct) (f : Sg → M Src) : TI := fun σ H R => ∃ ρ h s, Ok K c ρ h H ∧ Env K c H ρ s σ ∧
  (f s h).All (fun r => ∀ ρ' H', Le c ρ H ρ' H' → Ok K c ρ' r.2 H' → ∀ J, Feed K c J r.1.get ρ' H' → R J H') (PX K c ρ H)
abbrev EI (c : Ct) (X : Cx) (tg e : Expr) (f : Sg → M Src) : Prop := PI X tg e (tI X.K c f)
theorem PI.imp {X : Cx} {tg e : Expr} {t t' : TI} (h : PI X tg e t) (i : ∀ σ H R, t' σ H R → t σ H R) : PI X tg e t' := ⟨fun pins s σ H Q I q => h.run pins s σ H Q I (i _ _ _ q)⟩
def getT (f : Nat → D → D) (xs : List D) : Nat → List O → Option (Option D) := fun i _ => some (match xs[i]? with
  | some x => some (f i x)
  | none => none)
def getL (f : Nat → D → D) (n : Nat) : Nat → List O → Option (Option D) := fun i h => match h[n]? with
  | some (.lst xs) => some (match xs[i]? with
    | some x => some (f i x)
    | none => none)
  | _ => none
def srcV (f : Nat → D → D) : D → M Src := fun x h => match x with
  | .tup xs => .ret (⟨xs.length, getT f xs⟩, h)
  | .lst xs => .ret (⟨xs.length, getT f xs⟩, h)
  | .loc n => match h[n]? with
    | some (.lst xs) => .ret (⟨xs.length, getL f n⟩, h)
    | _ => .bad
  | _ => .bad
def fSrc (f : Nat → D → D) (fa : Sg → M D) : Sg → M Src := fun s => M.bind (fa s) (srcV f)
def noF : Nat → D → D := fun _ x => x
def enF : Nat → D → D := fun i x => .tup [.int (i : Nat), x]
section
variable {K : PySem.W.Frag} {ρ : Sto} {H : Hp} {h : List O}
theorem feed_tup {a : Addr} {xs : List D} {vs : List V} (g1 : SqT K H a vs) (g2 : RVs K c H ρ xs vs) : Feed K c (Itt K a) (getT noF xs) ρ H := fun hid E ρ1 h1 H1 i hh l ok => by
  have s1 := l.rd g1
  have s2 : RVs K (c.bl hid E) H1 ρ1 xs vs := g2.hide l hh
  refine ⟨fun e => ?_, fun x e => ?_⟩
  · unfold getT at e
    cases q : xs[i]? with
    | some y => rw [q] at e; cases e
    | none =>
      refine ⟨vs, s1, ?_⟩
      rw [← s2.len]
      exact List.getElem?_eq_none_iff.mp q
  · unfold getT at e
    cases q : xs[i]? with
    | none => rw [q] at e; cases e
    | some y =>
      rw [q] at e
      cases e
      obtain ⟨v, q1, q2⟩ := s2.get q
      refine ⟨⟨vs, v, s1, q1⟩, fun w H' yl => ?_⟩
      obtain ⟨rfl, yl⟩ := yl
      have := yl vs s1
      rw [q1] at this
      cases this
      exact ⟨.refl, ok, q2⟩
theorem feed_fz {a : Addr} {xs : List D} {vs : List V} (g1 : H a = some (.lst vs)) (o : Off c ρ a) (g2 : RVs K c H ρ xs vs) : Feed K c (Itl K a) (getT noF xs) ρ H := fun hid E ρ1 h1 H1 i hh l ok => by
  have s1 : SqL K H1 a vs := SqL.of (l.off g1 o).1
  have s2 : RVs K (c.bl hid E) H1 ρ1 xs vs := g2.hide l hh
  refine ⟨fun e => ?_, fun x e => ?_⟩
  · unfold getT at e
    cases q : xs[i]? with
    | some y => rw [q] at e; cases e
    | none =>
      refine ⟨vs, s1, ?_⟩
      rw [← s2.len]
      exact List.getElem?_eq_none_iff.mp q
  · unfold getT at e
    cases q : xs[i]? with
    | none => rw [q] at e; cases e
    | some y =>
      rw [q] at e
      cases e
      obtain ⟨v, q1, q2⟩ := s2.get q
      refine ⟨⟨vs, v, s1, q1⟩, fun w H' yl => ?_⟩
      obtain ⟨rfl, yl⟩ := yl
      have := yl vs s1
      rw [q1] at this
      cases this
      exact ⟨.refl, ok, q2⟩
theorem feed_enF {a : Addr} {xs : List D} {vs : List V} (g1 : H a = some (.lst vs)) (o : Off c ρ a) (g2 : RVs K c H ρ xs vs) : Feed K c (Ite K a) (getT enF xs) ρ H := fun hid E ρ1 h1 H1 i hh l ok => by
  have s1 : SqL K H1 a vs := SqL.of (l.off g1 o).1
  have s2 : RVs K (c.bl hid E) H1 ρ1 xs vs := g2.hide l hh
  refine ⟨fun e => ?_, fun x e => ?_⟩
  · unfold getT at e
    cases q : xs[i]? with
    | some y => rw [q] at e; cases e
    | none =>
      refine ⟨vs, s1, ?_⟩
      rw [← s2.len]
      exact List.getElem?_eq_none_iff.mp q
  · unfold getT at e
    cases q : xs[i]? with
    | none => rw [q] at e; cases e
    | some y =>
      rw [q] at e
      cases e
      obtain ⟨v, q1, q2⟩ := s2.get q
      refine ⟨⟨vs, v, s1, q1⟩, fun w H' yl => ?_⟩
      obtain ⟨T, z, rfl, nT, rfl, yl⟩ := yl
      have := yl vs s1
      rw [q1] at this
      cases this
      obtain ⟨l2, ok2⟩ := ok.other (o := .tup [.int (i : Nat), v]) nT
      exact ⟨l2.show_, ok2, .tup (SqT.of upd_same) (.cons (.int _) (.cons (q2.le l2) .nil))⟩
theorem feed_lst {a : Addr} {n : Nat} (g1 : ρ.a[n]? = some a) : Feed K c (Itl K a) (getL noF n) ρ H := fun hid E ρ1 h1 H1 i hh l ok => by
  have a1 := pre_get l.pre g1
  refine ⟨fun e => ?_, fun x e => ?_⟩
  · unfold getL at e
    split at e
    · rename_i xs hx
      obtain ⟨vs, e1, e2⟩ := ok.objs _ _ _ hx a1
      cases q : xs[i]? with
      | some y => rw [q] at e; cases e
      | none =>
        refine ⟨vs, SqL.of e1, ?_⟩
        rw [← e2.len]
        exact List.getElem?_eq_none_iff.mp q
    · cases e
  · unfold getL at e
    split at e
    · rename_i xs hx
      obtain ⟨vs, e1, e2⟩ := ok.objs _ _ _ hx a1
      cases q : xs[i]? with
      | none => rw [q] at e; cases e
      | some y =>
        rw [q] at e
        cases e
        obtain ⟨v, q1, q2⟩ := e2.get q
        refine ⟨⟨vs, v, SqL.of e1, q1⟩, fun w H' yl => ?_⟩
        obtain ⟨rfl, yl⟩ := yl
        have := yl vs (SqL.of e1)
        rw [q1] at this
        cases this
        exact ⟨.refl, ok, q2⟩
    · cases e
theorem feed_enT {a : Addr} {xs : List D} {vs : List V} (g1 : SqT K H a vs) (g2 : RVs K c H ρ xs vs) : Feed K c (ItEnT K a) (getT enF xs) ρ H := fun hid E ρ1 h1 H1 i hh l ok => by
  have s1 := l.rd g1
  have s2 : RVs K (c.bl hid E) H1 ρ1 xs vs := g2.hide l hh
  refine ⟨fun e => ?_, fun x e => ?_⟩
  · unfold getT at e
    cases q : xs[i]? with
    | some y => rw [q] at e; cases e
    | none =>
      refine ⟨vs, s1, ?_⟩
      rw [← s2.len]
      exact List.getElem?_eq_none_iff.mp q
  · unfold getT at e
    cases q : xs[i]? with
    | none => rw [q] at e; cases e
    | some y =>
      rw [q] at e
      cases e
      obtain ⟨v, q1, q2⟩ := s2.get q
      refine ⟨⟨vs, v, s1, q1⟩, fun w H' yl => ?_⟩
      obtain ⟨T, z, rfl, nT, rfl, yl⟩ := yl
      have := yl vs s1
      rw [q1] at this
      cases this
      obtain ⟨l2, ok2⟩ := ok.other (o := .tup [.int (i : Nat), v]) nT
      exact ⟨l2.show_, ok2, .tup (SqT.of upd_same) (.cons (.int _) (.cons (q2.le l2) .nil))⟩
theorem feed_enL {a : Addr} {n : Nat} (g1 : ρ.a[n]? = some a) : Feed K c (Ite K a) (getL enF n) ρ H := fun hid E ρ1 h1 H1 i hh l ok => by
  have a1 := pre_get l.pre g1
  refine ⟨fun e => ?_, fun x e => ?_⟩
  · unfold getL at e
    split at e
    · rename_i xs hx
      obtain ⟨vs, e1, e2⟩ := ok.objs _ _ _ hx a1
      cases q : xs[i]? with
      | some y => rw [q] at e; cases e
      | none =>
        refine ⟨vs, SqL.of e1, ?_⟩
        rw [← e2.len]
        exact List.getElem?_eq_none_iff.mp q
    · cases e
  · unfold getL at e
    split at e
    · rename_i xs hx
      obtain ⟨vs, e1, e2⟩ := ok.objs _ _ _ hx a1
      cases q : xs[i]? with
      | none => rw [q] at e; cases e
      | some y =>
        rw [q] at e
        cases e
        obtain ⟨v, q1, q2⟩ := e2.get q
        refine ⟨⟨vs, v, SqL.of e1, q1⟩, fun w H' yl => ?_⟩
        obtain ⟨T, z, rfl, nT, rfl, yl⟩ := yl
        have := yl vs (SqL.of e1)
        rw [q1] at this
        cases this
        obtain ⟨l2, ok2⟩ := ok.other (o := .tup [.int (i : Nat), v]) nT
        exact ⟨l2.show_, ok2, .tup (SqT.of upd_same) (.cons (.int _) (.cons (q2.le l2) .nil))⟩
    · cases e
def getR (lo : Int) (n : Nat) : Nat → List O → Option (Option D) := fun i _ => some (if i < n then some (.int (lo + i)) else none)
theorem feed_rng {lo : Int} {n : Nat} : Feed K c (Itr lo n) (getR lo n) ρ H := fun hid E ρ1 h1 H1 i hh l ok => by
  unfold getR
  refine ⟨fun e => ?_, fun x e => ?_⟩
  · by_cases q : i < n
    · rw [if_pos q] at e; cases e
    · exact Nat.le_of_not_lt q
  · by_cases q : i < n
    · rw [if_pos q] at e
      cases e
      refine ⟨q, fun w H' yl => ?_⟩
      obtain ⟨rfl, rfl⟩ := yl
      exact ⟨.refl, ok, .int _⟩
    · rw [if_neg q] at e; cases e
end
section
variable {X : Cx} {tg e a b d : Expr} {es : List Expr} {fa fb : Sg → M D} {ft fu : Sg → M Bool} {fr : Sg → M (List D)} {pos p p1 : Pos}
/-- a list or a tuple -/
def iSeq (K : PySem.W.Frag) (tl : TE) : TI := fun σ H R => tl σ H fun x H1 => ∃ a, x = .ref a ∧ (((∃ xs, SqL K H1 a xs) ∧ R (Itl K a) H1) ∨ ((∃ xs, SqT K H1 a xs) ∧ R (Itt K a) H1))
theorem pi_seq {tl : TE} (he : PE X e tl) : PI X tg e (iSeq X.K tl) := by
  constructor
  intro pins z σ G R I asks
  apply thn (he.run pins z σ G _ I asks)
  rintro u z1 ⟨x, G1, I1, ru, q⟩
  obtain ⟨a, rfl, q⟩ := q
  obtain rfl : u = Value.ref a := ru
  have fresh : ∀ b ∈ [z1.heap.objs.size], FpOk X pins G1 b := by
    intro b hb
    obtain rfl := List.mem_singleton.mp hb
    exact I1.fpOk (Nat.le_refl _) (I1.hok.fresh (Nat.le_refl _))
  rcases q with ⟨⟨xs, hq⟩, q⟩ | ⟨⟨xs, hq⟩, q⟩
  · obtain ⟨its, _, pl, _⟩ := I1.list hq
    apply wpAny_pyIter_list pl.isList
    refine ⟨_, _, _, _, G1, rfl, I1.kept (t' := z1.toks) ?_, turn_list a _, ⟨_, Heap.get?_push_size _ rfl, rfl, rfl⟩, fresh, q⟩
    exact fun b u q => Heap.get?_push_of_some _ q
  · obtain ⟨its, _, tu, _⟩ := I1.tuple hq
    have tu : z1.heap.IsTuple a its.toArray := tu
    apply wpAny_pyIter_tuple tu
    refine ⟨_, _, _, _, G1, rfl, I1.kept (t' := z1.toks) ?_, turn_tuple a _, ⟨_, Heap.get?_push_size _ rfl, rfl, rfl⟩, fresh, q⟩
    exact fun b u q => Heap.get?_push_of_some _ q
theorem ei_seq (he : EE c X e fa) : EI c X tg e (fSrc noF fa) := PI.imp (pi_seq he) fun σ H R ⟨ρ, h, s, ok, env, q⟩ => by
  refine ⟨ρ, h, s, ok, env, (M.all_bind.mp q).mono fun ⟨x, h1⟩ q1 ρ1 H1 v l1 ok1 r1 => ?_⟩
  dsimp only [srcV] at q1
  split at q1
  · cases r1 with
    | tup g1 g2 => exact ⟨_, rfl, .inr ⟨⟨_, g1⟩, q1 ρ1 H1 l1 ok1 _ (feed_tup g1 g2)⟩⟩
  · cases r1 with
    | lst g1 o g2 => exact ⟨_, rfl, .inl ⟨⟨_, SqL.of g1⟩, q1 ρ1 H1 l1 ok1 _ (feed_fz g1 o g2)⟩⟩
  · cases r1 with
    | loc g1 =>
      split at q1
      · rename_i xs hx
        obtain ⟨vs, e1, e2⟩ := ok1.objs _ _ _ hx g1
        exact ⟨_, rfl, .inl ⟨⟨_, SqL.of e1⟩, q1 ρ1 H1 l1 ok1 _ (feed_lst g1)⟩⟩
      · exact q1.elim
  · exact q1.elim
/-- enumerate of a list or a tuple -/
def iEnA (K : PySem.W.Frag) (ta : TA) : TI := fun σ H R => ta σ H fun vs H1 => ∃ a, vs = [.ref a] ∧ (((∃ xs, SqL K H1 a xs) ∧ R (Ite K a) H1) ∨ ((∃ xs, SqT K H1 a xs) ∧ R (ItEnT K a) H1))
theorem pi_enA {ta : TA} {tpos : Pos} {elts : List Expr} {kk : Nat} (glob : Gl X "enumerate") (none : X.mg "enumerate" = none) (args : PA X [e] ta) (each : starEach [e] X.env = [(false, eval e X.env)] := by rfl) :
    PI X (.Tuple elts kk tpos) (.Call (.Name "enumerate" p) [e] [] pos) (iEnA X.K ta) := by
  constructor
  intro pins z σ G R I asks
  refine Call_ (ld_blt I glob none boot_enumerate ?_)
  refine PyProof.Rows.callWith_type1 (thn (args.run pos pins z σ G _ I asks) ?_) each rfl
  rintro us z1 ⟨vs, G1, I1, rr, q⟩
  obtain ⟨a, rfl, q⟩ := q
  obtain ⟨u, rfl, ru⟩ := vals1 rr
  obtain rfl : u = Value.ref a := ru
  have later : ∀ {g : Heap}, (∀ b u, z1.heap.get? b = some u → g.get? b = some u) → Inv X pins σ G1 { z1 with heap := g } := fun k => I1.kept (t' := z1.toks) k
  have fresh : ∀ b ∈ [z1.heap.objs.size + 1, z1.heap.objs.size], FpOk X pins G1 b := by
    intro b hb
    have le : z1.heap.objs.size ≤ b := by
      rcases List.mem_cons.mp hb with rfl | hb
      · exact Nat.le_succ _
      · obtain rfl := List.mem_singleton.mp hb
        exact Nat.le_refl _
    exact I1.fpOk le (I1.hok.fresh le)
  rcases q with ⟨⟨xs, hq⟩, q⟩ | ⟨⟨xs, hq⟩, q⟩
  · obtain ⟨its, _, pl, _⟩ := I1.list hq
    refine call_enumerate_list pl.isList ?_
    intro g he hit _ hk
    apply wpAny_pyIter_enum he
    exact ⟨_, _, _, _, G1, rfl, later hk, turn_enum a _ _, ⟨⟨.none, he⟩, hit, Nat.succ_ne_self _⟩, fresh, q⟩
  · obtain ⟨its, _, tu, _⟩ := I1.tuple hq
    have tu : z1.heap.IsTuple a its.toArray := tu
    refine call_enum1 (begins_tuple a its.toArray) tu ?_
    intro g he hit _ hk
    apply wpAny_pyIter_enum he
    exact ⟨_, _, _, _, G1, rfl, later hk, turn_enT a _ _, ⟨⟨.none, he⟩, ⟨_, hit, rfl, rfl⟩, Nat.succ_ne_self _⟩, fresh, q⟩
theorem ei_enum {elts : List Expr} {kk : Nat} {tpos : Pos} (hm : X.mg "enumerate" = none) (he : EE c X e fa) (hg : Gl X "enumerate" := by rfl) (hs : starEach [e] X.env = (false, eval e X.env) :: starEach [] X.env := by rfl) (each : starEach [e] X.env = [(false, eval e X.env)] := by rfl) : EI c X (.Tuple elts kk tpos) (.Call (.Name "enumerate" p) [e] [] pos) (fSrc enF fa) :=
  PI.imp (pi_enA hg hm (pa_cons he pa_nil hs) each) fun σ H R ⟨ρ, h, s, ok, env, q⟩ => by
    refine ⟨ρ, h, s, ok, env, (M.all_bind.mp q).mono fun ⟨x, h1⟩ q1 ρ1 H1 v l1 ok1 r1 => ?_⟩
    dsimp only [srcV] at q1
    split at q1
    · cases r1 with
      | tup g1 g2 => exact ⟨_, rfl, .inr ⟨⟨_, g1⟩, q1 ρ1 H1 l1 ok1 _ (feed_enT g1 g2)⟩⟩
    · cases r1 with
      | lst g1 o g2 => exact ⟨_, rfl, .inl ⟨⟨_, SqL.of g1⟩, q1 ρ1 H1 l1 ok1 _ (feed_enF g1 o g2)⟩⟩
    · cases r1 with
      | loc g1 =>
        split at q1
        · rename_i xs hx
          obtain ⟨vs, e1, e2⟩ := ok1.objs _ _ _ hx g1
          exact ⟨_, rfl, .inl ⟨⟨_, SqL.of e1⟩, q1 ρ1 H1 l1 ok1 _ (feed_enL g1)⟩⟩
        · exact q1.elim
    · exact q1.elim
def srcR1 : D → M Src := fun x h => match x with
  | .int j => if -(2 ^ 62) ≤ j ∧ j < 2 ^ 62 then .ret (⟨j.toNat, getR 0 j.toNat⟩, h) else .bad
  | _ => .bad
theorem ei_range (hm : X.mg "range" = none) (he : EE c X e fa) (hg : Gl X "range" := by rfl) (hs : starEach [e] X.env = (false, eval e X.env) :: starEach [] X.env := by rfl) (each : starEach [e] X.env = [(false, eval e X.env)] := by rfl) : EI c X tg (.Call (.Name "range" p) [e] [] pos) (fun s => M.bind (fa s) srcR1) :=
  PI.imp (pi_range1 hg hm (pa_cons he pa_nil hs) each) fun σ H R ⟨ρ, h, s, ok, env, q⟩ => by
    refine ⟨ρ, h, s, ok, env, (M.all_bind.mp q).mono fun ⟨x, h1⟩ q1 ρ1 H1 v l1 ok1 r1 => ?_⟩
    dsimp only [srcR1] at q1
    split at q1
    · cases r1
      split at q1
      · rename_i hb
        exact ⟨_, rfl, hb.1, hb.2, q1 ρ1 H1 l1 ok1 _ feed_rng⟩
      · exact q1.elim
    · exact q1.elim
def srcR2 : D → D → M Src := fun x y h => match x, y with
  | .int i, .int j => if -(2 ^ 62) ≤ i ∧ i < 2 ^ 62 ∧ -(2 ^ 62) ≤ j ∧ j < 2 ^ 62 then .ret (⟨(j - i).toNat, getR i (j - i).toNat⟩, h) else .bad
  | _, _ => .bad
theorem ei_range2 (hm : X.mg "range" = none) (ha : EE c X a fa) (hb : EE c X b fb) (hg : Gl X "range" := by rfl) (hs : starEach [a, b] X.env = (false, eval a X.env) :: starEach [b] X.env := by rfl) (hs1 : starEach [b] X.env = (false, eval b X.env) :: starEach [] X.env := by rfl)
    (each : starEach [a, b] X.env = [(false, eval a X.env), (false, eval b X.env)] := by rfl) (each1 : starEach [b] X.env = [(false, eval b X.env)] := by rfl) : EI c X tg (.Call (.Name "range" p) [a, b] [] pos) (fun s => M.bind (fa s) fun x => M.bind (fb s) fun y => srcR2 x y) :=
  PI.imp (pi_range2 hg hm (pa_cons ha (pa_cons hb pa_nil hs1) hs) each each1) fun σ H R ⟨ρ, h, s, ok, env, q⟩ => by
    refine ⟨ρ, h, s, ok, env, (M.all_bind.mp q).mono fun ⟨x, h1⟩ q1 ρ1 H1 v l1 ok1 r1 => ?_⟩
    refine ⟨ρ1, h1, s, ok1, env.le l1, Tr.All.le l1 (M.all_bind.mp q1) fun ⟨y, h2⟩ q2 ρ2 H2 w l2 ok2 r2 => ?_⟩
    dsimp only [srcR2] at q2
    split at q2
    · cases r1
      cases r2
      split at q2
      · rename_i hb
        exact ⟨_, _, rfl, hb, q2 ρ2 H2 (l1.trans l2) ok2 _ feed_rng⟩
      · exact q2.elim
    · exact q2.elim
end
end Ev

/-! for; comprehensions. -/
namespace Ev
open PySem PySem.Spec PyProof.Rows L2 Dr
variable {c : Ct}
section
variable {X : Cx} {tg e a b d : Expr} {es : List Expr} {fa fb : Sg → M D} {ft fu : Sg → M Bool} {fr : Sg → M (List D)} {pos p p1 : Pos}
/-! ### for -/
def loop (get : Nat → List O → Option (Option D)) (body : D → Sg → M Out) : Nat → Nat → Sg → M Out
  | 0, i => fun s h => match get i h with
    | some none => .ret (.nx s, h)
    | _ => .bad
  | n + 1, i => fun s h => match get i h with
    | some none => .ret (.nx s, h)
    | some (some x) => (body x s h).bind fun r => match r.1 with
      | .nx s' => loop get body n (i + 1) s' r.2
      | .ct s' => loop get body n (i + 1) s' r.2
      | .bk s' => .ret (.nx s', r.2)
      | .rt y => .ret (.rt y, r.2)
    | none => .bad
def sFor (fi : Sg → M Src) (g : D → Sg → M Sg) (fb : Sg → M Out) : Sg → M Out := fun s => M.bind (fi s) fun S => loop S.get (fun x s => M.bind (g x s) fb) S.fuel 0 s
theorem es_for {body : List Stmt} {fi : Sg → M Src} {g : D → Sg → M Sg} {fb : Sg → M Out} (vs : List Nat) (hi : EI c X tg e fi) (hg : EG c X vs tg g) (hb : ESs c X body fb) (hp : PassesOwn (model X.prog X.w) X.A X.env X.xe := by exact PassesOwn.never) (hc : X.calm = true := by rfl)
    (hs : ∀ x, foldedSetIterable e X.env x = pure x := by intro _; rfl) : ES c X (.For tg e body [] pos) (sFor fi g fb) := PS.imp (ps_for hp hc hi hg hb hs) fun E σ H ⟨ρ, h, s, ok, env, q⟩ => by
  refine ⟨ρ, h, s, ok, env, (M.all_bind.mp q).mono fun ⟨S, h1⟩ q1 ρ1 H1 l1 ok1 J feed => ?_⟩
  refine ⟨fun i m σ2 H2 => ∃ ρ2 h2 s2, Le c ρ1 H1 ρ2 H2 ∧ Ok X.K c ρ2 h2 H2 ∧ Env X.K c H2 ρ2 s2 σ2 ∧ (loop S.get (fun x s => M.bind (g x s) fb) m i s2 h2).All (PD X.K c ρ2 H2 E) (PX X.K c ρ2 H2), ⟨S.fuel, ρ1, h1, s, .refl, ok1, env.le l1, Tr.All.le l1 q1 fun r q => q.le l1⟩, ?_⟩
  rintro i m σ2 H2 ⟨ρ2, h2, s2, l2, ok2, env2, q2⟩
  obtain ⟨F1, F2⟩ := feed c.hid c.E ρ2 h2 H2 i (fun b z => .inl z) l2 ok2
  rcases hget : S.get i h2 with _ | _ | x
  · cases m <;> (simp only [loop, hget] at q2; exact q2.elim)
  · refine .inl ⟨F1 hget, ?_⟩
    cases m <;> (simp only [loop, hget] at q2; exact q2 ρ2 H2 σ2 .refl ok2 env2)
  · cases m with
    | zero => simp only [loop, hget] at q2; exact q2.elim
    | succ m =>
      simp only [loop, hget] at q2
      obtain ⟨go, F3⟩ := F2 x hget
      refine .inr ⟨go, fun σ3 H3 => ∃ ρ3 h3 s3, Le c ρ1 H1 ρ3 H3 ∧ Ok X.K c ρ3 h3 H3 ∧ Env X.K c H3 ρ3 s3 σ3 ∧ (loop S.get (fun x s => M.bind (g x s) fb) m (i + 1) s3 h3).All (PD X.K c ρ3 H3 E) (PX X.K c ρ3 H3), fun σ3 H3 z => ⟨m, Nat.lt_succ_self _, z⟩, fun v H3 y => ?_⟩
      obtain ⟨l3, ok3, r3⟩ := F3 v H3 y
      have q3 := M.all_bind.mp (Tr.all_bind.mp q2)
      refine ⟨ρ2, h2, s2, x, ok3, env2.le l3, r3, Tr.All.le l3 q3 fun ⟨s4, h4⟩ q4 ρ4 H4 σ4 l4 ok4 env4 _ => ?_⟩
      have l24 := l3.trans l4
      refine ⟨ρ4, h4, s4, ok4, env4, Tr.All.le l24 q4 fun ⟨o, h5⟩ q5 => ?_⟩
      cases o with
      | nx s5 => exact fun ρ5 H5 σ5 l5 ok5 env5 => ⟨ρ5, h5, s5, l2.trans (l24.trans l5), ok5, env5, Tr.All.le (l24.trans l5) q5 fun r q => q.le (l24.trans l5)⟩
      | ct s5 => exact fun ρ5 H5 σ5 l5 ok5 env5 => ⟨ρ5, h5, s5, l2.trans (l24.trans l5), ok5, env5, Tr.All.le (l24.trans l5) q5 fun r q => q.le (l24.trans l5)⟩
      | rt y => exact fun ρ5 H5 v l5 ok5 r5 => q5 ρ5 H5 v (l24.trans l5) ok5 r5
      | bk s5 => exact fun ρ5 H5 v l5 ok5 r5 => q5 ρ5 H5 v (l24.trans l5) ok5 r5
/-! ### comprehensions -/
def wipeS (s : Sg) : List Nat → Sg
  | [] => s
  | v :: vs => (wipeS s vs).set v none
theorem Env.wipe {K : PySem.W.Frag} {ρ : Sto} {H : Hp} {s : Sg} {σ : L2.St} (e : Env K c H ρ s σ) : ∀ vs, Env K c H ρ (wipeS s vs) (L2.wipe σ vs)
  | [] => e
  | v :: vs => by
    have ih := Env.wipe e vs
    refine ⟨by simp [wipeS, L2.wipe, ih.1], fun j x hx => ?_⟩
    by_cases hj : j = v
    · subst hj
      have hx : ((wipeS s vs).set j none)[j]? = some (some x) := hx
      obtain ⟨q, w⟩ := List.getElem?_eq_some_iff.mp hx
      simp at w
    · have hx : ((wipeS s vs).set v none)[j]? = some (some x) := hx
      rw [List.getElem?_set_ne (Ne.symm hj)] at hx
      obtain ⟨v', h1, h2⟩ := ih.2 j x hx
      refine ⟨v', ?_, h2⟩
      show ((L2.wipe σ vs).set v none)[j]? = _
      rw [List.getElem?_set_ne (Ne.symm hj)]
      exact h1
theorem Env.hide {K : PySem.W.Frag} {hid : List Addr} {E : XK} {ρ0 ρ : Sto} {H0 H : Hp} {s : Sg} {σ : L2.St} (l : Le c ρ0 H0 ρ H) (hh : ∀ b, b ∈ hid → b ∈ c.hid ∨ H0 b = none) (e : Env K c H0 ρ0 s σ) : Env K (c.bl hid E) H ρ s σ := ⟨e.1, fun i x h => let ⟨v, h1, h2⟩ := e.2 i x h; ⟨v, h1, h2.hide l hh⟩⟩
/-- item by item behind those that are there -/
def comp (get : Nat → List O → Option (Option D)) (body : D → M (Option D)) : Nat → Nat → List D → M (List D)
  | 0, i, acc => fun h => match get i h with
    | some none => .ret (acc, h)
    | _ => .bad
  | m + 1, i, acc => fun h => match get i h with
    | some none => .ret (acc, h)
    | some (some x) => (body x h).bind fun r => match r.1 with
      | none => comp get body m (i + 1) acc r.2
      | some y => if acc.length < lim then comp get body m (i + 1) (acc ++ [y]) r.2 else .bad
    | none => .bad
def cBody (s : Sg) (g : D → Sg → M Sg) (ft : Sg → M Bool) (fe : Sg → M D) : D → M (Option D) := fun x => M.bind (g x s) fun s2 => M.bind (ft s2) fun b => if b = true then M.bind (fe s2) fun y => M.ret (some y) else M.ret none
/-- a list by a comprehension, which nobody changes; no error leaves its turns -/
def fLc (vs : List Nat) (fi : Sg → M Src) (g : D → Sg → M Sg) (ft : Sg → M Bool) (fe : Sg → M D) : Sg → M D := fun s => M.bind (fi s) fun S h =>
  (comp S.get (cBody (wipeS s vs) g ft fe) S.fuel 0 [] h).calm.bind fun r => .ret (.lst r.1, r.2)
/-- the same, a part of the store -/
def fLcL (vs : List Nat) (fi : Sg → M Src) (g : D → Sg → M Sg) (ft : Sg → M Bool) (fe : Sg → M D) : Sg → M D := fun s => M.bind (fi s) fun S h =>
  (comp S.get (cBody (wipeS s vs) g ft fe) S.fuel 0 [] h).calm.bind fun r => .ret (.loc r.2.length, r.2 ++ [.lst r.1])
def tTrue : Sg → M Bool := fun _ => M.ret true
theorem ets_nil : PTs X [] (tT X.K c tTrue) := ⟨fun pins s σ H Q I ⟨ρ, h, z, ok, env, q⟩ => pts_nil.run pins s σ H Q I (q ρ H .refl ok)⟩
theorem ets_one (h : ET c X e ft) : PTs X [e] (tT X.K c ft) := pts_one h
/-- nothing is wished of an error in a block -/
def EF : XK := fun _ _ _ => False
/-- in a block, while the list at D is made -/
abbrev Ct.blk (c : Ct) (D : Addr) : Ct := c.bl (D :: c.hid) EF
theorem RO.mv {K : PySem.W.Frag} {c c1 : Ct} {ρ ρ1 : Sto} {H H1 : Hp} (m : Mv K c c1 H ρ H1 ρ1) (lc : Carry c c1 ρ H ρ1 H1) {o : O} {a : Addr} (same : H1 a = H a) (h : RO K c H ρ o a) : RO K c1 H1 ρ1 o a := by
  cases o with
  | lst xs => obtain ⟨vs, h1, h2⟩ := h; exact ⟨vs, same.trans h1, RVs.mv m _ _ (.inr lc) h2⟩
  | dK ks xs => obtain ⟨vs, h1, h2, h3⟩ := h; exact ⟨vs, same.trans h1, h2, RVs.mv m _ _ (.inr lc) h3⟩
  | tD ks xs => obtain ⟨kas, vs, h1, h2, h3, h4⟩ := h; exact ⟨kas, vs, same.trans (by rw [m.P, m.w]; exact h1), h2, RVs.mv m _ _ (.inr lc) h3, RVs.mv m _ _ (.inr lc) h4⟩
  | ins k fs => obtain ⟨dx, vs, h1, h2, h3⟩ := h; exact ⟨dx, vs, same.trans (by rw [m.cA, m.cF]; exact h1), by rw [m.cF, m.n]; exact h2, RVs.mv m _ _ (.inr lc) h3⟩
  | dead => trivial
/-- a new list that is hidden from now on -/
theorem Ok.hide {K : PySem.W.Frag} {ρ : Sto} {h : List O} {H : Hp} {D : Addr} {u : HO} (ok : Ok K c ρ h H) (nD : H D = none) : Le c ρ H ρ (upd H D u) ∧ Ok K (c.blk D) ρ h (upd H D u) := by
  obtain ⟨l, ok1⟩ := ok.other (o := u) nD
  have hh : ∀ b, b ∈ D :: c.hid → b ∈ c.hid ∨ H b = none := fun b hb => by
    rcases List.mem_cons.mp hb with rfl | z
    · exact .inr nD
    · exact .inl z
  refine ⟨l, ok.len, ok.nd, fun n o a e1 e2 => ?_, ok.lv, ok.sub, ok1.ex, ok1.dw, fun a ha => ?_, ok1.tab, ok1.kp, ok1.code⟩
  · obtain ⟨y, hy⟩ := ok.ex a (List.mem_of_getElem? e2)
    exact (ok.objs n o a e1 e2).mv (mv_hide l hh) ⟨fun _ _ z => z, fun _ _ z => c.kp.qm _ _ _ _ _ _ l z⟩ (by rw [upd_ne (ne_of_none hy nD)])
  · rcases List.mem_cons.mp ha with rfl | z
    · exact ⟨⟨_, upd_same⟩, (ok.fresh nD).1⟩
    · exact ok1.hid a z
/-- an item is put behind those of the hidden list -/
theorem Ok.app {K : PySem.W.Frag} {ρ1 ρ : Sto} {h : List O} {H1 H : Hp} {D : Addr} {u : HO} (nD : H1 D = none) (l : Le c ρ1 H1 ρ H) (ok : Ok K (c.blk D) ρ h H) (hD : ∃ us, H D = some (.lst us)) (hdw : ∀ d g e, c.dw = some (d, g, e) → d ≠ D ∧ g ≠ D ∧ e ≠ D) (k1 : c.kp.p ρ1 H1) : Le c ρ1 H1 ρ (upd H D u) ∧ Ok K (c.blk D) ρ h (upd H D u) ∧ Mv K (c.blk D) (c.blk D) H ρ (upd H D u) ρ ∧ Carry (c.blk D) (c.blk D) ρ H ρ (upd H D u) := by
  obtain ⟨us, hD⟩ := hD
  have offD : ∀ a, Off (c.blk D) ρ a → a ≠ D := fun a o z => o.hd (z ▸ List.mem_cons_self)
  have hDa := (ok.hid D List.mem_cons_self).2
  have m : Mv K (c.blk D) (c.blk D) H ρ (upd H D u) ρ := ⟨fun a xs q => by
      rcases q with (q | ⟨o, q⟩) | q
      · exact .inl (.inl (by rw [upd_ne (fun z => by rw [z, hD] at q; cases q)]; exact q))
      · exact .inl (.inr ⟨o, by rw [upd_ne (fun z => by rw [z, hD] at q; cases q)]; exact q⟩)
      · exact .inr q, fun a v e o => ⟨by rw [upd_ne (offD a o)]; exact e, o⟩, rfl, rfl, rfl, rfl, rfl, rfl, rfl, rfl, rfl⟩
  have lw : Le c ρ1 H1 ρ (upd H D u) := ⟨l.pre, l.new, fun b o hb hd e => by rw [upd_ne (ne_of_none e nD)]; exact l.fr b o hb hd e, fun b xs e => by rw [upd_ne (ne_of_none e nD)]; exact l.tups b xs e, fun b o v e => by rw [upd_ne (ne_of_none e nD)]; exact l.frzs b o v e, fun b e => by
    by_cases q : b = D
    · rw [q]; exact nD
    · rw [upd_ne q] at e; exact l.kept b e⟩
  have cy : Carry (c.blk D) (c.blk D) ρ H ρ (upd H D u) := ⟨fun _ _ z => z, fun k a z => c.kp.qs _ _ _ _ _ _ (fun b f e => ⟨by rw [upd_ne (fun w => by rw [w, hD] at e; cases e)]; exact e, fun w => w⟩) z⟩
  refine ⟨lw, ⟨ok.len, ok.nd, fun n o a e1 e2 => ?_, ok.lv, ok.sub, fun a ha => up_ex (ok.ex a ha), fun d g e z => ?_, fun a ha => ⟨up_ex (ok.hid a ha).1, (ok.hid a ha).2⟩, ⟨tabs_keep ok.tab.1 fun b v e w => ?_, ok.tab.2⟩, c.kp.pm _ _ _ _ lw k1, fun b q e hb => by
    have hp : b ≠ D := fun z => hDa (by rw [← z]; exact hb)
    rw [upd_ne hp] at e
    exact ok.code b q e hb⟩, m, cy⟩
  · have hne : a ≠ D := fun z => hDa (z ▸ List.mem_of_getElem? e2)
    exact (ok.objs n o a e1 e2).mv m cy (by rw [upd_ne hne])
  · obtain ⟨Dx, h1, h2, h3⟩ := ok.dw d g e z
    refine ⟨Dx.keep fun b x hb e' => ?_, h1, h2, h3⟩
    have : b ≠ D := by
      obtain ⟨w1, w2, w3⟩ := hdw d g e z
      rcases hb with rfl | rfl | rfl
      · exact w1
      · exact w2
      · exact w3
    rw [upd_ne this]
    exact e'
  · have : b ≠ D := by
      rintro rfl
      obtain ⟨q, hq, w⟩ := w
      rcases w with rfl | ⟨q', rfl⟩
      · obtain ⟨ps, e3, _⟩ := ok.tab.1 q hq
        rw [hD] at e3
        cases e3
      · rw [hD] at e
        cases e
    rw [upd_ne this]
    exact e
/-- the list is done: it is ours, hidden no more -/
theorem Ok.show_ {K : PySem.W.Frag} {ρ : Sto} {h : List O} {H : Hp} {D : Addr} (ok : Ok K (c.blk D) ρ h H) : Ok K c ρ h H := ⟨ok.len, ok.nd, fun n o a e1 e2 => RO.mv (c := c.blk D) ⟨fun _ _ h => h, fun a u e o => ⟨e, o.st, fun z => o.hd (List.mem_cons_of_mem D z), o.dw⟩, rfl, rfl, rfl, rfl, rfl, rfl, rfl, rfl, rfl⟩ ⟨fun _ _ z => z, fun _ _ z => z⟩ rfl (ok.objs n o a e1 e2), ok.lv, ok.sub, ok.ex, ok.dw, fun a ha => ok.hid a (List.mem_cons_of_mem _ ha), ok.tab, ok.kp, ok.code⟩
theorem RVs.show_ {K : PySem.W.Frag} {ρ : Sto} {H : Hp} {D : Addr} {xs : List Ev.D} {vs : List V} (r : RVs K (c.blk D) H ρ xs vs) : RVs K c H ρ xs vs := RVs.mv (c := c.blk D) ⟨fun _ _ h => h, fun a u e o => ⟨e, o.st, fun z => o.hd (List.mem_cons_of_mem D z), o.dw⟩, rfl, rfl, rfl, rfl, rfl, rfl, rfl, rfl, rfl⟩ xs vs (.inr ⟨fun _ _ z => z, fun _ _ z => z⟩) r
theorem Tr.calm_any {α : Type} {P : α → Prop} {X Y : XP} : ∀ {t : Tr α}, t.calm.All P X → t.calm.All P Y
  | .ret _, h => h
  | .bad, h => h
  | .err _ _ _, h => False.elim h
  | .pick n k, h => fun i hi => Tr.calm_any (t := k i) (h i hi)
theorem Tr.calm_bind {α β : Type} {f : α → Tr β} : ∀ {t : Tr α}, (t.bind f).calm = t.calm.bind fun a => (f a).calm
  | .ret _ => rfl
  | .bad => rfl
  | .err _ _ _ => rfl
  | .pick n k => by simp only [Tr.bind, Tr.calm]; congr 1; funext i; exact Tr.calm_bind
theorem wipe_idem {σ : L2.St} (vs : List Nat) : L2.wipe (L2.wipe σ vs) vs = L2.wipe σ vs := by
  have idem : ∀ us : List Nat, (∀ u ∈ us, u ∈ vs) → L2.wipe (L2.wipe σ vs) us = L2.wipe σ vs := by
    intro us
    induction us with
    | nil => intro _; rfl
    | cons u us ih =>
      intro hu
      show (L2.wipe (L2.wipe σ vs) us).set u none = _
      rw [ih fun w hw => hu w (List.mem_cons_of_mem _ hw)]
      apply List.ext_getElem?
      intro j
      by_cases hj : j = u
      · subst hj
        have none_at : ∀ ws : List Nat, j ∈ ws → ∀ z, (L2.wipe σ ws)[j]? = some z → z = none := by
          intro ws
          induction ws with
          | nil => intro h; cases h
          | cons w ws ih2 =>
            intro hm z hz
            have hz : ((L2.wipe σ ws).set w none)[j]? = some z := hz
            by_cases hw : w = j
            · subst hw
              obtain ⟨q, e⟩ := List.getElem?_eq_some_iff.mp hz
              simp at e
              exact e.symm
            · rw [List.getElem?_set_ne hw] at hz
              exact ih2 ((List.mem_cons.mp hm).resolve_left (fun z => hw z.symm)) z hz
        by_cases hl : j < (L2.wipe σ vs).length
        · rw [List.getElem?_set_self hl]
          have := none_at vs (hu j (List.mem_cons_self)) _ (List.getElem?_eq_getElem hl)
          rw [List.getElem?_eq_getElem hl, this]
        · rw [List.getElem?_eq_none (by simpa using hl), List.getElem?_eq_none (by simpa using hl)]
      · rw [List.getElem?_set_ne (Ne.symm hj)]
  exact idem vs fun _ h => h
theorem lc_core {fi : Sg → M Src} {g : D → Sg → M Sg} {ft : Sg → M Bool} {fe : Sg → M D} {vs : List Nat} {K : PySem.W.Frag} {σ H Q} {fin : List D × List O → D × List O}
    (hfin : ∀ (ρ1 ρ' : Sto) (H1 H' : Hp) (Dd : Addr) (us : List V) r, H1 Dd = none → Dd ∉ c.hid → (∀ d g e, c.dw = some (d, g, e) → Dd ≠ d ∧ Dd ≠ g ∧ Dd ≠ e) → c.kp.p ρ1 H1 → Le c ρ1 H1 ρ' H' → Ok K (c.blk Dd) ρ' r.2 H' → H' Dd = some (.lst us) → RVs K (c.blk Dd) H' ρ' r.1 us → PV K c ρ1 H1 Q (fin r) → Q (.ref Dd) H')
    (q : tE K c (fun s => M.bind (fi s) fun S h => (comp S.get (cBody (wipeS s vs) g ft fe) S.fuel 0 [] h).calm.bind fun r => .ret (fin r)) σ H Q) :
    tI K c fi σ H fun J H1 => ∀ Dd, H1 Dd = none → ∃ W : Nat → Nat → Hp → Prop, (∃ m, W 0 m (upd H1 Dd (.lst []))) ∧ ∀ i m H, W i m H →
      (J.stop i H ∧ Q (.ref Dd) H) ∨ (J.go i H ∧ ∃ Nx : Hp → Prop, (∀ H', Nx H' → ∃ m', m' < m ∧ W (i + 1) m' H') ∧ ∀ x H', J.yld i H x H' → tGt K (c.blk Dd) vs g x (L2.wipe σ vs) H' fun σ2 H2 => L2.wipe σ2 vs = L2.wipe σ vs ∧ tT K (c.blk Dd) ft σ2 H2 fun b H3 =>
        if b = true then tE K (c.blk Dd) fe σ2 H3 fun y H4 => ∃ acc, H4 Dd = some (.lst acc) ∧ acc.length < sizeLine ∧ Nx (upd H4 Dd (.lst (acc ++ [y]))) else Nx H3) := by
  obtain ⟨ρ, h, s, ok, env, q⟩ := q
  refine ⟨ρ, h, s, ok, env, (M.all_bind.mp q).mono fun ⟨S, h1⟩ q1 ρ1 H1 l1 ok1 J feed Dd nD => ?_⟩
  have q1 := Tr.all_bind.mp q1
  have hdw : ∀ d g e, c.dw = some (d, g, e) → d ≠ Dd ∧ g ≠ Dd ∧ e ≠ Dd := fun d g e z => by
    obtain ⟨⟨⟨gs, cs, r, t, hd', hg', hc'⟩, _⟩, _⟩ := ok1.dw d g e z
    exact ⟨ne_of_none hd' nD, ne_of_none hg' nD, ne_of_none hc' nD⟩
  have hh : ∀ b, b ∈ Dd :: c.hid → b ∈ c.hid ∨ H1 b = none := fun b hb => by
    rcases List.mem_cons.mp hb with rfl | z
    · exact .inr nD
    · exact .inl z
  obtain ⟨lD, okD⟩ := ok1.hide (u := .lst []) nD
  let F : List D × List O → Prop := fun r => PV K c ρ1 H1 Q (fin r)
  refine ⟨fun i m H2 => ∃ ρ2 h2 us acc, Le c ρ1 H1 ρ2 H2 ∧ Ok K (c.blk Dd) ρ2 h2 H2 ∧ H2 Dd = some (.lst us) ∧ RVs K (c.blk Dd) H2 ρ2 acc us ∧ (comp S.get (cBody (wipeS s vs) g ft fe) m i acc h2).calm.All F (fun _ _ _ => False),
    ⟨S.fuel, ρ1, h1, [], [], lD, okD, upd_same, .nil, Tr.calm_any (q1.mono fun r z => PV.le l1 z)⟩, ?_⟩
  rintro i m H2 ⟨ρ2, h2, us, acc, l2, ok2, hD2, racc, q2⟩
  have env2 : Env K (c.blk Dd) H2 ρ2 (wipeS s vs) (L2.wipe σ vs) := ((env.le l1).hide l2 hh).wipe vs
  obtain ⟨F1, F2⟩ := feed (Dd :: c.hid) EF ρ2 h2 H2 i hh l2 ok2
  rcases hget : S.get i h2 with _ | _ | x
  · cases m <;> (simp only [comp, hget] at q2; exact q2.elim)
  · refine .inl ⟨F1 hget, ?_⟩
    cases m <;> (simp only [comp, hget] at q2; exact hfin ρ1 ρ2 H1 H2 Dd us _ nD (ok1.fresh nD).2 (fun d g e z => ⟨(hdw d g e z).1.symm, (hdw d g e z).2.1.symm, (hdw d g e z).2.2.symm⟩) ok1.kp l2 ok2 hD2 racc q2)
  · cases m with
    | zero => simp only [comp, hget] at q2; exact q2.elim
    | succ m =>
      simp only [comp, hget] at q2
      obtain ⟨go, F3⟩ := F2 x hget
      refine .inr ⟨go, fun H3 => ∃ ρ2 h2 us acc, Le c ρ1 H1 ρ2 H3 ∧ Ok K (c.blk Dd) ρ2 h2 H3 ∧ H3 Dd = some (.lst us) ∧ RVs K (c.blk Dd) H3 ρ2 acc us ∧ (comp S.get (cBody (wipeS s vs) g ft fe) m (i + 1) acc h2).calm.All F (fun _ _ _ => False), fun H3 z => ⟨m, Nat.lt_succ_self _, z⟩, fun v H3 y => ?_⟩
      obtain ⟨l3, ok3, r3⟩ := F3 v H3 y
      rw [Tr.calm_bind] at q2
      have q3 := Tr.all_bind.mp q2
      have q3 := Tr.all_calm (Y := PX K (c.blk Dd) ρ2 H3) q3
      have q3 := M.all_bind.mp q3
      have offD : ∀ {ρ : Sto} {h : List O} {H : Hp}, Ok K (c.blk Dd) ρ h H → Dd ∉ ρ.l := fun ok z => (ok.hid Dd List.mem_cons_self).2 (ok.sub _ z)
      have keep : ∀ {ρ ρ' : Sto} {h : List O} {H H' : Hp}, Ok K (c.blk Dd) ρ h H → Le c ρ H ρ' H' → H Dd = some (.lst us) → H' Dd = some (.lst us) := fun ok l e => l.fr Dd _ (offD ok) ⟨fun d g e z => ⟨(hdw d g e z).1.symm, (hdw d g e z).2.1.symm⟩, fun p hp z => by
        obtain ⟨ps, e3, _⟩ := ok.tab.1 p hp
        rw [← z, e] at e3
        cases e3⟩ e
      have hD3 : H3 Dd = some (.lst us) := keep ok2 l3 hD2
      refine ⟨ρ2, h2, wipeS s vs, x, ok3, env2.le l3.hide, r3, q3.mono fun ⟨s4, h4⟩ q4 ρ4 H4 σ4 l4 ok4 env4 of4 => ⟨?_, ?_⟩⟩
      · have of4 : L2.wipe σ4 vs = L2.wipe (L2.wipe σ vs) vs := of4
        rw [of4]
        exact wipe_idem vs
      · have l24 := l3.trans l4.show_
        refine ⟨ρ4, h4, s4, ok4, env4, Tr.All.le l4 (M.all_bind.mp q4) fun ⟨b, h5⟩ q5 ρ5 H5 l5 ok5 => ?_⟩
        have l25 := l24.trans l5.show_
        dsimp only at q5 ⊢
        by_cases hb : b = true
        · rw [if_pos hb] at q5 ⊢
          refine ⟨ρ5, h5, s4, ok5, env4.le l5, Tr.All.le (l4.trans l5) (M.all_bind.mp q5) fun ⟨y, h6⟩ q6 ρ6 H6 w l6 ok6 r6 => ?_⟩
          have l26 := l25.trans l6.show_
          have hD6 : H6 Dd = some (.lst us) := keep ok2 l26 hD2
          replace q6 : (if acc.length < lim then comp S.get (cBody (wipeS s vs) g ft fe) m (i + 1) (acc ++ [y]) h6 else .bad).calm.All F (fun _ _ _ => False) := q6
          split at q6
          · rename_i hlt
            refine ⟨us, hD6, by rw [← racc.len]; exact lim_line (Nat.le_of_lt hlt), ?_⟩
            obtain ⟨l7, ok7, m7, c7⟩ := Ok.app (u := .lst (us ++ [w])) nD (l2.trans l26) ok6 ⟨us, hD6⟩ hdw ok1.kp
            exact ⟨ρ6, h6, _, acc ++ [y], l7, ok7, upd_same, RVs.mv m7 _ _ (.inr c7) ((racc.le l26.hide).append (.cons r6 .nil)), q6⟩
          · exact q6.elim
        · rw [if_neg hb] at q5 ⊢
          have q5 : (comp S.get (cBody (wipeS s vs) g ft fe) m (i + 1) acc h5).calm.All F (fun _ _ _ => False) := q5
          exact ⟨ρ5, h5, us, acc, l2.trans l25, ok5, keep ok2 l25 hD2, racc.le l25.hide, q5⟩
/-! whatever is hidden -/
def tEh (K : PySem.W.Frag) (c : Ct) (f : Sg → M D) : TE := fun σ H Q => ∃ hid, tE K (c.bl hid EF) f σ H Q
def tTh (K : PySem.W.Frag) (c : Ct) (f : Sg → M Bool) : TT := fun σ H Q => ∃ hid, tT K (c.bl hid EF) f σ H Q
def tGh (K : PySem.W.Frag) (c : Ct) (vs : List Nat) (f : D → Sg → M Sg) : TG := fun v σ H Q => ∃ hid, tGt K (c.bl hid EF) vs f v σ H Q
theorem eh_E {e : Expr} {f : Sg → M D} (h : ∀ hid, EE (c.bl hid EF) X e f) : PE X e (tEh X.K c f) := ⟨fun pins s σ H Q I ⟨hid, q⟩ => (h hid).run pins s σ H Q I q⟩
theorem eh_Ts {es : List Expr} {f : Sg → M Bool} (h : ∀ hid, PTs X es (tT X.K (c.bl hid EF) f)) : PTs X es (tTh X.K c f) := ⟨fun pins s σ H Q I ⟨hid, q⟩ => (h hid).run pins s σ H Q I q⟩
theorem eh_G {e : Expr} {vs : List Nat} {f : D → Sg → M Sg} (h : ∀ hid, EG (c.bl hid EF) X vs e f) : PG X e (tGh X.K c vs f) := ⟨fun pins s σ H v u Q I r ⟨hid, q⟩ => (h hid).run pins s σ H v u Q I r q⟩
theorem lc_of {fi : Sg → M Src} {g : D → Sg → M Sg} {ft : Sg → M Bool} {fe : Sg → M D} {vs : List Nat} {K : PySem.W.Frag} {σ H Q} {fin : List D × List O → D × List O}
    (hfin : ∀ (ρ1 ρ' : Sto) (H1 H' : Hp) (Dd : Addr) (us : List V) r, H1 Dd = none → Dd ∉ c.hid → (∀ d g e, c.dw = some (d, g, e) → Dd ≠ d ∧ Dd ≠ g ∧ Dd ≠ e) → c.kp.p ρ1 H1 → Le c ρ1 H1 ρ' H' → Ok K (c.blk Dd) ρ' r.2 H' → H' Dd = some (.lst us) → RVs K (c.blk Dd) H' ρ' r.1 us → PV K c ρ1 H1 Q (fin r) → Q (.ref Dd) H')
    (q : tE K c (fun s => M.bind (fi s) fun S h => (comp S.get (cBody (wipeS s vs) g ft fe) S.fuel 0 [] h).calm.bind fun r => .ret (fin r)) σ H Q) : tLc (tI K c fi) (tGh K c vs g) (tTh K c ft) (tEh K c fe) vs σ H Q := by
  obtain ⟨ρ, h, s, ok, env, q0⟩ := lc_core hfin q
  refine ⟨ρ, h, s, ok, env, q0.mono fun r z ρ' H' l ok' J feed Dd nD => ?_⟩
  obtain ⟨W, w0, step⟩ := z ρ' H' l ok' J feed Dd nD
  refine ⟨W, w0, fun i m H w => ?_⟩
  rcases step i m H w with ⟨s1, s2⟩ | ⟨go, Nx, n1, n2⟩
  · exact .inl ⟨s1, s2⟩
  · refine .inr ⟨go, Nx, n1, fun x H' y => ⟨Dd :: c.hid, ?_⟩⟩
    obtain ⟨ρ2, h2, s2, x2, ok2, env2, r2, q2⟩ := n2 x H' y
    refine ⟨ρ2, h2, s2, x2, ok2, env2, r2, q2.mono fun r z ρ3 H3 σ3 l3 ok3 env3 of3 => ?_⟩
    obtain ⟨a, ρ4, h4, s4, ok4, env4, q4⟩ := z ρ3 H3 σ3 l3 ok3 env3 of3
    refine ⟨a, Dd :: c.hid, ρ4, h4, s4, ok4, env4, q4.mono fun r z ρ5 H5 l5 ok5 => ?_⟩
    have z := z ρ5 H5 l5 ok5
    dsimp only at z ⊢
    split at z
    · rename_i hb
      rw [if_pos hb]
      exact ⟨Dd :: c.hid, z⟩
    · rename_i hb
      rw [if_neg hb]
      exact z
theorem fin_fz {K : PySem.W.Frag} {Q : VK} (ρ1 ρ' : Sto) (H1 H' : Hp) (Dd : Addr) (us : List V) (r : List D × List O) (nD : H1 Dd = none) (h1 : Dd ∉ c.hid) (hdw : ∀ d g e, c.dw = some (d, g, e) → Dd ≠ d ∧ Dd ≠ g ∧ Dd ≠ e) (k1 : c.kp.p ρ1 H1) (l : Le c ρ1 H1 ρ' H') (ok : Ok K (c.blk Dd) ρ' r.2 H') (hD : H' Dd = some (.lst us)) (rv : RVs K (c.blk Dd) H' ρ' r.1 us) (q : PV K c ρ1 H1 Q (.lst r.1, r.2)) : Q (.ref Dd) H' :=
  q ρ' H' _ l ok.show_ (.lst hD ⟨fun z => (ok.hid Dd List.mem_cons_self).2 (ok.sub _ z), h1, fun d g e z => ⟨(hdw d g e z).1, (hdw d g e z).2.1⟩, fun p hp z => by
    obtain ⟨ps, e3, _⟩ := ok.tab.1 p hp
    rw [← z, hD] at e3
    cases e3⟩ rv.show_)
theorem fin_loc {K : PySem.W.Frag} {Q : VK} (ρ1 ρ' : Sto) (H1 H' : Hp) (Dd : Addr) (us : List V) (r : List D × List O) (nD : H1 Dd = none) (h1 : Dd ∉ c.hid) (hdw : ∀ d g e, c.dw = some (d, g, e) → Dd ≠ d ∧ Dd ≠ g ∧ Dd ≠ e) (k1 : c.kp.p ρ1 H1) (l : Le c ρ1 H1 ρ' H') (ok : Ok K (c.blk Dd) ρ' r.2 H') (hD : H' Dd = some (.lst us)) (rv : RVs K (c.blk Dd) H' ρ' r.1 us) (q : PV K c ρ1 H1 Q (.loc r.2.length, r.2 ++ [.lst r.1])) : Q (.ref Dd) H' := by
  have nd := (ok.hid Dd List.mem_cons_self).2
  have mv : Mv K (c.blk Dd) c H' ρ' H' (ρ'.push Dd) := ⟨fun _ _ h => h, fun a u e o => ⟨e, fun z => by
    rcases List.mem_append.mp z with z | z
    · exact o.st z
    · exact o.hd (by rw [List.mem_singleton.mp z]; exact List.mem_cons_self), fun z => o.hd (List.mem_cons_of_mem _ z), o.dw⟩, rfl, rfl, rfl, rfl, rfl, rfl, rfl, rfl, rfl⟩
  have lc : Carry (c.blk Dd) c ρ' H' (ρ'.push Dd) H' := ⟨fun n a e => pre_get (List.prefix_append _ _) e, fun k a z => c.kp.qs _ _ _ _ _ _ (fun b f e => ⟨e, fun n w => by
    rcases List.mem_append.mp w with w | w
    · exact n w
    · rw [List.mem_singleton.mp w, hD] at e; cases e⟩) z⟩
  have l2 : Le c ρ1 H1 (ρ'.push Dd) H' := ⟨l.pre.trans (List.prefix_append _ _), fun p hp np => by
    rcases List.mem_append.mp hp with z | z
    · exact l.new p z np
    · rw [List.mem_singleton.mp z]; exact nD, l.fr, l.tups, l.frzs, l.kept⟩
  refine q (ρ'.push Dd) H' _ l2 ⟨by simp [Sto.push, ok.len], ?_, fun n o' a e1 e2 => ?_, fun n o' a e1 e2 e3 => ?_, fun a ha => ?_, fun a ha => ?_, fun d g e z => ?_, fun a ha => ⟨(ok.hid a (List.mem_cons_of_mem _ ha)).1, fun z => ?_⟩, ⟨ok.tab.1, fun q hq z => ?_⟩, c.kp.pm _ _ _ _ l2 k1, fun b q e hb => by
    rcases List.mem_append.mp hb with z | z
    · exact ok.code b q e z
    · rw [List.mem_singleton.mp z, hD] at e
      unfold LamX.CodeO at e
      cases e⟩ (.loc (by rw [← ok.len]; simp [Sto.push]))
  · show (ρ'.a ++ [Dd]).Nodup
    rw [List.nodup_append]
    exact ⟨ok.nd, by simp, fun a ha b hb => by rw [List.mem_singleton.mp hb]; intro z; rw [z] at ha; exact nd ha⟩
  · have e2 : (ρ'.a ++ [Dd])[n]? = some a := e2
    by_cases hn : n < r.2.length
    · rw [List.getElem?_append_left hn] at e1
      rw [List.getElem?_append_left (by rw [ok.len]; exact hn)] at e2
      exact (ok.objs n o' a e1 e2).mv mv lc rfl
    · rw [List.getElem?_append_right (by omega)] at e1
      rw [List.getElem?_append_right (by rw [ok.len]; omega)] at e2
      have h0 : n - r.2.length = 0 := by
        obtain ⟨q, _⟩ := List.getElem?_eq_some_iff.mp e1
        simp at q; omega
      rw [h0] at e1
      rw [show n - ρ'.a.length = 0 by rw [ok.len]; exact h0] at e2
      simp at e1 e2
      subst e1 e2
      exact ⟨us, hD, RVs.mv mv _ _ (.inr lc) rv⟩
  · have e2 : (ρ'.a ++ [Dd])[n]? = some a := e2
    show a ∈ ρ'.l ++ [Dd]
    by_cases hn : n < r.2.length
    · rw [List.getElem?_append_left hn] at e1
      rw [List.getElem?_append_left (by rw [ok.len]; exact hn)] at e2
      exact List.mem_append_left _ (ok.lv n o' a e1 e2 e3)
    · rw [List.getElem?_append_right (by rw [ok.len]; omega)] at e2
      exact List.mem_append_right _ (List.mem_of_getElem? e2)
  · rcases List.mem_append.mp ha with z | z
    · exact List.mem_append_left _ (ok.sub a z)
    · exact List.mem_append_right _ z
  · rcases List.mem_append.mp ha with z | z
    · exact ok.ex a z
    · rw [List.mem_singleton.mp z]; exact ⟨_, hD⟩
  · obtain ⟨Dx, h1, h2, h3⟩ := ok.dw d g e z
    obtain ⟨w1, w2, w3⟩ := hdw d g e z
    exact ⟨Dx, by simp [Sto.push, h1, w1.symm], by simp [Sto.push, h2, w2.symm], by simp [Sto.push, h3, w3.symm]⟩
  · rcases List.mem_append.mp z with z | z
    · exact (ok.hid a (List.mem_cons_of_mem _ ha)).2 z
    · rw [List.mem_singleton.mp z] at ha; exact h1 ha
  · rcases List.mem_append.mp z with z | z
    · exact ok.tab.2 q hq z
    · obtain ⟨ps, e3, _⟩ := ok.tab.1 q hq
      rw [List.mem_singleton.mp z, hD] at e3
      cases e3
theorem ev_lc {elt iter : Expr} {ifs : List Expr} {scope : Scope} {fi : Sg → M Src} {g : D → Sg → M Sg} {fe : Sg → M D} (own : List (Str × Nat)) (hN : X.N.Nodup) (ok : BlkOk X.N X.env.scope scope own) (hi : EI c X tg iter fi)
    (hg : ∀ (s : Shared) (H : Hp) (C : Addr) (cl : List (Str × Addr)) (fp : List Addr) (hid : List Addr), EG (c.bl hid EF) (X.blk s H scope (compEnvC scope cl C X.env) fp) (own.map (·.2)) tg g)
    (ht : ∀ (s : Shared) (H : Hp) (C : Addr) (cl : List (Str × Addr)) (fp : List Addr) (hid : List Addr), PTs (X.blk s H scope (compEnvC scope cl C X.env) fp) ifs (tT X.K (c.bl hid EF) ft))
    (he : ∀ (s : Shared) (H : Hp) (C : Addr) (cl : List (Str × Addr)) (fp : List Addr) (hid : List Addr), EE (c.bl hid EF) (X.blk s H scope (compEnvC scope cl C X.env) fp) elt fe) (hc : X.calm = true := by rfl) (hs : ∀ x, foldedSetIterable iter X.env x = pure x := by intro _; rfl) :
    EE c X (.ListComp elt [⟨tg, iter, ifs, 0⟩] scope pos) (fLc (own.map (·.2)) fi g ft fe) := PE.imp (pe_lc (g := tGh X.K c (own.map (·.2)) g) (tt := tTh X.K c ft) (te := tEh X.K c fe) hc hN hi ok (fun s H C cl fp => eh_G (hg s H C cl fp)) (fun s H C cl fp => eh_Ts (ht s H C cl fp)) (fun s H C cl fp => eh_E (he s H C cl fp)) hs) fun σ H Q q => lc_of fin_fz q
theorem ev_lcL {elt iter : Expr} {ifs : List Expr} {scope : Scope} {fi : Sg → M Src} {g : D → Sg → M Sg} {fe : Sg → M D} (own : List (Str × Nat)) (hN : X.N.Nodup) (ok : BlkOk X.N X.env.scope scope own) (hi : EI c X tg iter fi)
    (hg : ∀ (s : Shared) (H : Hp) (C : Addr) (cl : List (Str × Addr)) (fp : List Addr) (hid : List Addr), EG (c.bl hid EF) (X.blk s H scope (compEnvC scope cl C X.env) fp) (own.map (·.2)) tg g)
    (ht : ∀ (s : Shared) (H : Hp) (C : Addr) (cl : List (Str × Addr)) (fp : List Addr) (hid : List Addr), PTs (X.blk s H scope (compEnvC scope cl C X.env) fp) ifs (tT X.K (c.bl hid EF) ft))
    (he : ∀ (s : Shared) (H : Hp) (C : Addr) (cl : List (Str × Addr)) (fp : List Addr) (hid : List Addr), EE (c.bl hid EF) (X.blk s H scope (compEnvC scope cl C X.env) fp) elt fe) (hc : X.calm = true := by rfl) (hs : ∀ x, foldedSetIterable iter X.env x = pure x := by intro _; rfl) :
    EE c X (.ListComp elt [⟨tg, iter, ifs, 0⟩] scope pos) (fLcL (own.map (·.2)) fi g ft fe) := PE.imp (pe_lc (g := tGh X.K c (own.map (·.2)) g) (tt := tTh X.K c ft) (te := tEh X.K c fe) hc hN hi ok (fun s H C cl fp => eh_G (hg s H C cl fp)) (fun s H C cl fp => eh_Ts (ht s H C cl fp)) (fun s H C cl fp => eh_E (he s H C cl fp)) hs) fun σ H Q q => lc_of fin_loc q
theorem es_setLc {elt iter : Expr} {ifs : List Expr} {scope : Scope} {fi : Sg → M Src} {g : D → Sg → M Sg} {fe : Sg → M D} {y : Str} {py spos : Pos} (i : Nat) (own : List (Str × Nat)) (hN : X.N.Nodup) (ok : BlkOk X.N X.env.scope scope own) (hi : EI c X tg iter fi)
    (hg : ∀ (s : Shared) (H : Hp) (C : Addr) (cl : List (Str × Addr)) (fp : List Addr) (hid : List Addr), EG (c.bl hid EF) (X.blk s H scope (compEnvC scope cl C X.env) fp) (own.map (·.2)) tg g)
    (ht : ∀ (s : Shared) (H : Hp) (C : Addr) (cl : List (Str × Addr)) (fp : List Addr) (hid : List Addr), PTs (X.blk s H scope (compEnvC scope cl C X.env) fp) ifs (tT X.K (c.bl hid EF) ft))
    (he : ∀ (s : Shared) (H : Hp) (C : Addr) (cl : List (Str × Addr)) (fp : List Addr) (hid : List Addr), EE (c.bl hid EF) (X.blk s H scope (compEnvC scope cl C X.env) fp) elt fe)
    (hsw : swapsWith (.ListComp elt [⟨tg, iter, ifs, 0⟩] scope pos) (some (.Name y py)) spos.line X.env = pure true) (hy : X.N[i]? = some y := by rfl) (hyl : X.env.scope.names.lookup y = some .local := by rfl) (hc : X.calm = true := by rfl) (hs : ∀ x, foldedSetIterable iter X.env x = pure x := by intro _; rfl) :
    ES c X (.Assign [.Name y py] (.ListComp elt [⟨tg, iter, ifs, 0⟩] scope pos) spos) (sSet i (fLc (own.map (·.2)) fi g ft fe)) := PS.imp (ps_setLc (g := tGh X.K c (own.map (·.2)) g) (tt := tTh X.K c ft) (te := tEh X.K c fe) hc hN hy hyl hsw hi ok (fun s H C cl fp => eh_G (hg s H C cl fp)) (fun s H C cl fp => eh_Ts (ht s H C cl fp)) (fun s H C cl fp => eh_E (he s H C cl fp)) hs) fun E σ H q => by
  refine lc_of (g := g) (fe := fe) (Q := fun x H1 => gName i x σ H1 E.nx) fin_fz ?_
  obtain ⟨ρ, h, s, ok, env, q⟩ := q
  exact ⟨ρ, h, s, ok, env, (M.all_bind.mp q).mono fun ⟨o, h1⟩ q1 ρ1 H1 v l1 ok1 r1 => q1 ρ1 H1 _ l1 ok1 ((env.le l1).set r1)⟩
theorem es_setLcL {elt iter : Expr} {ifs : List Expr} {scope : Scope} {fi : Sg → M Src} {g : D → Sg → M Sg} {fe : Sg → M D} {y : Str} {py spos : Pos} (i : Nat) (own : List (Str × Nat)) (hN : X.N.Nodup) (ok : BlkOk X.N X.env.scope scope own) (hi : EI c X tg iter fi)
    (hg : ∀ (s : Shared) (H : Hp) (C : Addr) (cl : List (Str × Addr)) (fp : List Addr) (hid : List Addr), EG (c.bl hid EF) (X.blk s H scope (compEnvC scope cl C X.env) fp) (own.map (·.2)) tg g)
    (ht : ∀ (s : Shared) (H : Hp) (C : Addr) (cl : List (Str × Addr)) (fp : List Addr) (hid : List Addr), PTs (X.blk s H scope (compEnvC scope cl C X.env) fp) ifs (tT X.K (c.bl hid EF) ft))
    (he : ∀ (s : Shared) (H : Hp) (C : Addr) (cl : List (Str × Addr)) (fp : List Addr) (hid : List Addr), EE (c.bl hid EF) (X.blk s H scope (compEnvC scope cl C X.env) fp) elt fe)
    (hsw : swapsWith (.ListComp elt [⟨tg, iter, ifs, 0⟩] scope pos) (some (.Name y py)) spos.line X.env = pure true) (hy : X.N[i]? = some y := by rfl) (hyl : X.env.scope.names.lookup y = some .local := by rfl) (hc : X.calm = true := by rfl) (hs : ∀ x, foldedSetIterable iter X.env x = pure x := by intro _; rfl) :
    ES c X (.Assign [.Name y py] (.ListComp elt [⟨tg, iter, ifs, 0⟩] scope pos) spos) (sSet i (fLcL (own.map (·.2)) fi g ft fe)) := PS.imp (ps_setLc (g := tGh X.K c (own.map (·.2)) g) (tt := tTh X.K c ft) (te := tEh X.K c fe) hc hN hy hyl hsw hi ok (fun s H C cl fp => eh_G (hg s H C cl fp)) (fun s H C cl fp => eh_Ts (ht s H C cl fp)) (fun s H C cl fp => eh_E (he s H C cl fp)) hs) fun E σ H q => by
  refine lc_of (g := g) (fe := fe) (Q := fun x H1 => gName i x σ H1 E.nx) fin_loc ?_
  obtain ⟨ρ, h, s, ok, env, q⟩ := q
  exact ⟨ρ, h, s, ok, env, (M.all_bind.mp q).mono fun ⟨o, h1⟩ q1 ρ1 H1 v l1 ok1 r1 => q1 ρ1 H1 _ l1 ok1 ((env.le l1).set r1)⟩
end
end Ev

/-! A def by its steps. -/
namespace Ev
open PySem PySem.Spec PyProof.Rows L2 Dr
variable {c : Ct}
def outD : Out → M D
  | .rt d => M.ret d
  | .nx _ => M.ret .non
  | _ => M.bad
def mkF (np nn : Nat) (f : Sg → M Out) : List D → M D := fun xs => if xs.length = np then M.bind (f (xs.map some ++ List.replicate (nn - xs.length) none)) outD else M.bad
theorem env_start {K : PySem.W.Frag} {ρ : Sto} {H : Hp} {xs : List D} {vs : List V} (r : RVs K c H ρ xs vs) (N : List Str) : Env K c H ρ (xs.map some ++ List.replicate (N.length - xs.length) none) (L2.start N vs) := by
  have hl := r.len
  refine ⟨by simp [L2.start, hl], fun i x e => ?_⟩
  by_cases hi : i < xs.length
  · rw [List.getElem?_append_left (by simpa using hi), List.getElem?_map] at e
    cases q : xs[i]? with
    | none => rw [q] at e; cases e
    | some y =>
      rw [q] at e
      simp at e
      subst e
      obtain ⟨v, h1, h2⟩ := r.get q
      refine ⟨v, ?_, h2⟩
      unfold L2.start
      rw [List.getElem?_append_left (by simp; omega), List.getElem?_map, h1]
      rfl
  · rw [List.getElem?_append_right (by simp; omega)] at e
    have := List.mem_of_getElem? e
    rw [List.mem_replicate] at this
    cases this.2
theorem spF_len {K : PySem.W.Frag} {np nn : Nat} {fB : Sg → M Out} {vs : List V} {H : Hp} {Q : VK} {E : XK} (h : spF K c (mkF np nn fB) vs H Q E) : vs.length = np ∧
    ∃ hid ρ h xs, Ok K (c.at hid E) ρ h H ∧ RVs K (c.at hid E) H ρ xs vs ∧ (M.bind (fB (xs.map some ++ List.replicate (nn - xs.length) none)) outD h).All (PV K (c.at hid E) ρ H Q) (PX K (c.at hid E) ρ H) := by
  obtain ⟨hid, ρ, h, xs, ok, r, q⟩ := h
  unfold mkF at q
  by_cases hl : xs.length = np
  · rw [if_pos hl] at q
    exact ⟨r.len.symm.trans hl, hid, ρ, h, xs, ok, r, q⟩
  · rw [if_neg hl] at q
    exact q.elim
theorem spF_run {X : Cx} {N : List Str} {fB : Sg → M Out} {sts : List Stmt} {vs : List V} {H : Hp} {Q : VK} {E : XK}
    (h : ∃ hid ρ h xs, Ok X.K (c.at hid E) ρ h H ∧ RVs X.K (c.at hid E) H ρ xs vs ∧ (M.bind (fB (xs.map some ++ List.replicate (N.length - xs.length) none)) outD h).All (PV X.K (c.at hid E) ρ H Q) (PX X.K (c.at hid E) ρ H)) (b : ∀ hid, ESs (c.at hid E) X sts fB) :
    ∃ t, PSs X sts t ∧ t { nx := fun _ H' => Q .non H', rt := Q } (L2.start N vs) H := by
  obtain ⟨hid, ρ, h, xs, ok, r, q⟩ := h
  refine ⟨_, b hid, ρ, h, _, ok, env_start r N, (M.all_bind.mp q).mono fun ⟨o, h1⟩ q1 => ?_⟩
  cases o with
  | nx s1 => exact fun ρ1 H1 σ1 l1 ok1 _ => q1 ρ1 H1 _ l1 ok1 .non
  | rt d => exact q1
  | bk s1 => exact q1.elim
  | ct s1 => exact q1.elim
/-- errors that leave a body go where the def's errors go -/
abbrev PX' (X : Cx) (E : XK) : Prop := Passes (L2.CX X.prog X.w) X E
theorem pass_body {P : Program} {w : World} {K : PySem.W.Frag} {mg : Str → Option Value} {base : Heap} {N : List Str} {qual : Str} {sc : Scope} {f : Addr} {cd : Value} {A : Around} {outer : List PySem.Env} {s : Shared} {H : Hp} {E : XK} :
    PX' (cxOf (L2.CX P w) P w K mg base N qual sc f cd A outer s H E) E := passes_call (X := cxOf (L2.CX P w) P w K mg base N qual sc f cd A outer s H E) (W := fun cls d _ H => E cls d H) (takes_of rfl rfl rfl rfl) fun _ _ _ _ h => h
theorem pass_EF {X : Cx} : PX' X EF := fun _ _ _ _ _ _ _ h => by
  obtain ⟨_, _, _, _, _, _, _, _, _, _, _, _, z⟩ := h
  exact z.elim
theorem own_body {P : Program} {w : World} {K : PySem.W.Frag} {mg : Str → Option Value} {base : Heap} {N : List Str} {qual : Str} {sc : Scope} {f : Addr} {cd : Value} {A : Around} {outer : List PySem.Env} {s : Shared} {H : Hp} {E : XK} :
    PassesOwn (model P w) (cxOf (L2.CX P w) P w K mg base N qual sc f cd A outer s H E).A (cxOf (L2.CX P w) P w K mg base N qual sc f cd A outer s H E).env (cxOf (L2.CX P w) P w K mg base N qual sc f cd A outer s H E).xe := passes_of rfl
theorem fn_ev {P : Program} {w : World} {K : PySem.W.Frag} {mg : Str → Option Value} {base : Heap} {x qual : Str} {st : Stmt} {f : Addr} {fd : FuncData} {N ps : List Str} {k : Nat} {fB : Sg → M Out} (F : Fun K x qual st f fd) (S : FnScope N ps (defScope st))
    (body : ∀ (cdv : Value) (A : Around) (outer : List PySem.Env) (s : Shared) (H : Hp) (E : XK) (hid : List Addr), Room k (A.deeper (envOfC qual (defScope st) s.heap.objs.size f cdv)) → PX' (cxOf (L2.CX P w) P w K mg base N qual (defScope st) f cdv A outer s H E) E →
      ESs (c.at hid E) (cxOf (L2.CX P w) P w K mg base N qual (defScope st) f cdv A outer s H E) (defBody st) fB) : FnOk P w K mg base (L2.CX P w) (k + 1) f fd ps (spF K c (mkF ps.length N.length fB)) :=
  F.okX S (fun vs H Q E h => (spF_len h).1) (fun cdv A outer s H vs Q E hr h => spF_run (spF_len h).2 fun hid => body cdv A outer s H E hid hr pass_body)
/-- a def that no error leaves -/
theorem fn_calm {P : Program} {w : World} {K : PySem.W.Frag} {mg : Str → Option Value} {base : Heap} {k : Nat} {f : Addr} {fd : FuncData} {ps : List Str} {sp : Sp} {CX : CXT} (F : FnOk P w K mg base CX0 k f fd ps sp) : FnOk P w K mg base CX k f fd ps sp :=
  ⟨F.len, fun A outer s H args us vs Q E hr he hb hv hs => codeAny_mono (F.run A outer s H args us vs Q E hr he hb hv hs) fun r s' hq => by
    cases r with
    | error e => exact False.elim hq
    | ok fl => cases fl with
      | ret u => exact hq
      | next => exact hq
      | brk => exact hq
      | cont => exact hq⟩
/-- the draws -/
def oTake : List D → M D := fun xs h => match xs with
  | [.draw, .int m] => if 0 < m ∧ m < 1000000 then .pick m.toNat fun i => .ret (.int (i : Nat), h) else .bad
  | _ => .bad
theorem op_take {K : PySem.W.Frag} : ∀ vs H Q E, spF K c oTake vs H Q E → spTake vs H Q E := fun vs H Q E ⟨hid, ρ, h, xs, ok, r, q⟩ => by
  unfold oTake at q
  split at q
  · rename_i m
    obtain ⟨v, w, rfl, r1, r2⟩ := vs2 r
    cases r2
    cases r1 with
    | @draw d g e hd =>
      split at q
      · rename_i hm
        obtain ⟨D, n1, n2, n3⟩ := ok.dw _ _ _ hd
        refine ⟨d, g, e, m, rfl, D, hm.1, hm.2, fun i H' h0 hi D' fr => ?_⟩
        have qi := q i.toNat (by omega)
        have apart : ∀ b, b ∈ ρ.a → b ≠ d ∧ b ≠ g := fun b hb => ⟨fun z => n1 (z ▸ hb), fun z => n2 (z ▸ hb)⟩
        have kept : ∀ b, H' b = none → H b = none := fun b hb => by
          cases ho : H b with
          | none => rfl
          | some o =>
            exfalso
            by_cases z1 : b = d
            · obtain ⟨⟨gs, cs, rr, t, hd', hg', hc'⟩, _⟩ := id D'
              rw [z1, hd'] at hb; cases hb
            · by_cases z2 : b = g
              · obtain ⟨⟨gs, cs, rr, t, hd', hg', hc'⟩, _⟩ := id D'
                rw [z2, hg'] at hb; cases hb
              · rw [fr b o z1 z2 ho] at hb; cases hb
        have dlist : ∀ b o, (b = d ∨ b = g) → H b = some o → (∀ xs, o ≠ .tup xs) ∧ ∀ o' u', o ≠ .frz o' u' := by
          obtain ⟨⟨gs, cs, rr, t, hd', hg', hc'⟩, _⟩ := id D
          rintro b o (rfl | rfl) ho
          · rw [hd'] at ho; cases ho; exact ⟨(fun _ => by intro z; cases z), (fun _ _ => by intro z; cases z)⟩
          · rw [hg'] at ho; cases ho; exact ⟨(fun _ => by intro z; cases z), (fun _ _ => by intro z; cases z)⟩
        have dcode : ∀ b o, (b = d ∨ b = g) → H b = some o → (∃ q ∈ c.T, b = q.1 ∨ ∃ y, o = LamX.CodeO b y) → False := fun b o hb ho ⟨q, hq, w⟩ => by
          have no : (∀ ps, o ≠ .tbl ps) ∧ ∀ y, o ≠ LamX.CodeO b y := by
            obtain ⟨⟨gs, cs, rr, t, hd', hg', hc'⟩, _⟩ := id D
            rcases hb with rfl | rfl
            · rw [hd'] at ho; cases ho; exact ⟨(fun _ => by intro z; cases z), (fun _ => by intro z; unfold LamX.CodeO at z; cases z)⟩
            · rw [hg'] at ho; cases ho; exact ⟨(fun _ => by intro z; cases z), (fun _ => by intro z; unfold LamX.CodeO at z; cases z)⟩
          rcases w with rfl | ⟨y, rfl⟩
          · obtain ⟨ps, e3, _⟩ := ok.tab.1 q hq
            rw [ho] at e3
            cases e3
            exact no.1 _ rfl
          · exact no.2 _ rfl
        have l : Le (c.at hid E) ρ H ρ H' := by
          refine ⟨List.prefix_refl _, fun p hp hn => absurd hp hn, fun b o hb ⟨hdw, _⟩ ho => ?_, fun b xs ho => ?_, fun b o u ho => ?_, kept⟩
          · obtain ⟨z1, z2⟩ := hdw d g e hd
            exact fr b o z1 z2 ho
          · refine fr b _ (fun z => ?_) (fun z => ?_) ho
            · exact (dlist b _ (.inl z) ho).1 _ rfl
            · exact (dlist b _ (.inr z) ho).1 _ rfl
          · refine fr b _ (fun z => ?_) (fun z => ?_) ho
            · exact (dlist b _ (.inl z) ho).2 _ _ rfl
            · exact (dlist b _ (.inr z) ho).2 _ _ rfl
        have there : ∀ a, (∃ u, H a = some u) → ∃ u, H' a = some u := fun a ⟨u, e⟩ => by
          cases q : H' a with
          | some u => exact ⟨u, rfl⟩
          | none => rw [kept a q] at e; cases e
        have ok' : Ok K (c.at hid E) ρ h H' := by
          refine ⟨ok.len, ok.nd, fun n o a e1 e2 => ?_, ok.lv, ok.sub, fun a ha => there a (ok.ex a ha), fun d' g' e' z => ?_, fun a ha => ⟨there a (ok.hid a ha).1, (ok.hid a ha).2⟩, ⟨tabs_keep ok.tab.1 fun b o eo w => fr b o (fun z => dcode b o (.inl z) eo w) (fun z => dcode b o (.inr z) eo w) eo, ok.tab.2⟩, trivial, fun b q e hb => by
            obtain ⟨z1, z2⟩ := apart b hb
            obtain ⟨u, hu⟩ := ok.ex b hb
            have := fr b u z1 z2 hu
            rw [e] at this
            cases this
            exact ok.code b q hu hb⟩
          · obtain ⟨z1, z2⟩ := apart a (List.mem_of_getElem? e2)
            obtain ⟨u, hu⟩ := ok.ex a (List.mem_of_getElem? e2)
            exact (ok.objs n o a e1 e2).le l ((fr a u z1 z2 hu).trans hu.symm)
          · rw [hd] at z
            cases z
            exact ⟨D', n1, n2, n3⟩
        have := qi ρ H' (.int (i.toNat : Nat)) l ok' (.int _)
        rwa [show ((i.toNat : Nat) : Int) = i by omega] at this
      · exact q.elim
  · exact q.elim
end Ev

/-! Defs, classes, constants of the text, each as one fact. -/
namespace Ev
open PySem PySem.Spec PyProof.Rows L2 Dr
variable {c : Ct}
/-! ### as the top leaves them -/
/-- a def of the module -/
structure GD (K : PySem.W.Frag) (mg : Str → Option Value) (x : Str) (st : Stmt) (ps : List Str) : Prop where
  ex : ∃ (f : Addr) (fd : FuncData), Fun K x x st f fd ∧ mg x = some (.ref f) ∧ L2.Binds K fd ps []
/-- a constant of the module -/
structure GC (K : PySem.W.Frag) (mg : Str → Option Value) (x : Str) (d : D) : Prop where
  ex : ∃ (v : V) (u : Value), mg x = some u ∧ RelV v u ∧ ∀ c H ρ, RV K c H ρ d v
/-- a class with its __init__ -/
structure GI (K : PySem.W.Frag) (mg : Str → Option Value) (C : Addr) (x qual : Str) (st : Stmt) (ps : List Str) : Prop where
  ex : ∃ (f : Addr) (fd : FuncData), Fun K "__init__" qual st f fd ∧ Mk K C f ∧ mg x = some (.ref C) ∧ L2.Binds K fd ps []
/-- a method of a class -/
structure GM (K : PySem.W.Frag) (C : Addr) (m qual : Str) (st : Stmt) (ps : List Str) : Prop where
  ex : ∃ (f : Addr) (fd : FuncData), Fun K m qual st f fd ∧ Meth K C m f ∧ L2.Binds K fd ps []
/-! ### what they do -/
structure Own (P : Program) (w : World) (K : PySem.W.Frag) (mg : Str → Option Value) (base : Heap) (c : Ct) (k : Nat) (x : Str) (F : List D → M D) : Prop where
  ex : ∃ (f : Addr) (fd : FuncData) (ps : List Str), mg x = some (.ref f) ∧ PySem.W.keepIn K (.ref f) = true ∧ FnOk P w K mg base (L2.CX P w) k f fd ps (spF K c F) ∧ L2.Binds K fd ps []
structure OwnD (P : Program) (w : World) (K : PySem.W.Frag) (mg : Str → Option Value) (base : Heap) (c : Ct) (k : Nat) (x : Str) (F : List D → M D) (dds : List D) : Prop where
  ex : ∃ (f : Addr) (fd : FuncData) (ps : List Str) (dvs : List V) (ds : List Value), mg x = some (.ref f) ∧ PySem.W.keepIn K (.ref f) = true ∧ FnOk P w K mg base (L2.CX P w) k f fd ps (spF K c F) ∧ L2.Binds K fd ps ds ∧ Vals dvs ds ∧ ∀ c H ρ, RVs K c H ρ dds dvs
structure OwnI (P : Program) (w : World) (K : PySem.W.Frag) (mg : Str → Option Value) (base : Heap) (c : Ct) (k : Nat) (x : Str) (j : Nat) (F : List D → M D) : Prop where
  ex : ∃ (f : Addr) (fd : FuncData) (ps : List Str), mg x = some (.ref (c.cA j)) ∧ Mk K (c.cA j) f ∧ FnOk P w K mg base (L2.CX P w) k f fd ps (spF K c F) ∧ L2.Binds K fd ps []
structure OwnM (P : Program) (w : World) (K : PySem.W.Frag) (mg : Str → Option Value) (base : Heap) (c : Ct) (k : Nat) (j : Nat) (m : Str) (F : List D → M D) : Prop where
  ex : ∃ (f : Addr) (fd : FuncData) (ps : List Str), Meth K (c.cA j) m f ∧ FnOk P w K mg base (L2.CX P w) k f fd ps (spF K c F) ∧ L2.Binds K fd ps []
section
variable {P : Program} {w : World} {K : PySem.W.Frag} {mg : Str → Option Value} {base : Heap} {x qual m : Str} {st : Stmt} {N ps : List Str} {k j : Nat} {fB : Sg → M Out} {F : List D → M D} {dds : List D} {hid : List Addr} {E : XK}
theorem Own.at {kp : Kp c.dw c.T} (G : Own P w K mg base c k x F) : Own P w K mg base (c.fr hid E kp) k x F := ⟨G.ex⟩
theorem OwnD.at {kp : Kp c.dw c.T} (G : OwnD P w K mg base c k x F dds) : OwnD P w K mg base (c.fr hid E kp) k x F dds := ⟨G.ex⟩
theorem OwnI.at {kp : Kp c.dw c.T} (G : OwnI P w K mg base c k x j F) : OwnI P w K mg base (c.fr hid E kp) k x j F := ⟨G.ex⟩
theorem OwnM.at {kp : Kp c.dw c.T} (G : OwnM P w K mg base c k j m F) : OwnM P w K mg base (c.fr hid E kp) k j m F := ⟨G.ex⟩
theorem Facts.at {kp : Kp c.dw c.T} (F : Facts K c) : Facts K (c.fr hid E kp) := ⟨F.cls, F.nd, F.few, F.inj⟩
theorem KitOk.at {kp : Kp c.dw c.T} {g : Tg} (k : KitOk K c g) : KitOk K (c.fr hid E kp) g := fun t b e hb => by
  have := k t b e hb
  cases t <;> cases g <;> exact this
theorem own_ev (G : GD K mg x st ps) (S : FnScope N ps (defScope st)) (body : ∀ (f : Addr) (cdv : Value) (A : Around) (outer : List PySem.Env) (s : Shared) (H : Hp) (E : XK) (hid : List Addr), Room k (A.deeper (envOfC x (defScope st) s.heap.objs.size f cdv)) → PX' (cxOf (L2.CX P w) P w K mg base N x (defScope st) f cdv A outer s H E) E →
      ESs (c.at hid E) (cxOf (L2.CX P w) P w K mg base N x (defScope st) f cdv A outer s H E) (defBody st) fB) : Own P w K mg base c (k + 1) x (mkF ps.length N.length fB) := by
  obtain ⟨f, fd, F, g, b⟩ := G.ex
  exact ⟨f, fd, ps, g, F.kp, fn_ev F S (body f), b⟩
theorem ownI_ev (G : GI K mg (c.cA j) x qual st ps) (S : FnScope N ps (defScope st)) (body : ∀ (f : Addr) (cdv : Value) (A : Around) (outer : List PySem.Env) (s : Shared) (H : Hp) (E : XK) (hid : List Addr), Room k (A.deeper (envOfC qual (defScope st) s.heap.objs.size f cdv)) → PX' (cxOf (L2.CX P w) P w K mg base N qual (defScope st) f cdv A outer s H E) E →
      ESs (c.at hid E) (cxOf (L2.CX P w) P w K mg base N qual (defScope st) f cdv A outer s H E) (defBody st) fB) : OwnI P w K mg base c (k + 1) x j (mkF ps.length N.length fB) := by
  obtain ⟨f, fd, F, m, g, b⟩ := G.ex
  exact ⟨f, fd, ps, g, m, fn_ev F S (body f), b⟩
theorem ownM_ev (G : GM K (c.cA j) m qual st ps) (S : FnScope N ps (defScope st)) (body : ∀ (f : Addr) (cdv : Value) (A : Around) (outer : List PySem.Env) (s : Shared) (H : Hp) (E : XK) (hid : List Addr), Room k (A.deeper (envOfC qual (defScope st) s.heap.objs.size f cdv)) → PX' (cxOf (L2.CX P w) P w K mg base N qual (defScope st) f cdv A outer s H E) E →
      ESs (c.at hid E) (cxOf (L2.CX P w) P w K mg base N qual (defScope st) f cdv A outer s H E) (defBody st) fB) : OwnM P w K mg base c (k + 1) j m (mkF ps.length N.length fB) := by
  obtain ⟨f, fd, F, m, b⟩ := G.ex
  exact ⟨f, fd, ps, m, fn_ev F S (body f), b⟩
theorem own_take {f : Addr} {fd : FuncData} {ps : List Str} (F : FnOk P w K mg base CX0 k f fd ps spTake) (kp : PySem.W.keepIn K (.ref f) = true) (b : L2.Binds K fd ps []) (g : mg x = some (.ref f)) : Own P w K mg base c k x oTake :=
  ⟨f, fd, ps, g, kp, fn_calm (F.imp op_take), b⟩
end
/-- a def with defaults -/
structure GDD (K : PySem.W.Frag) (mg : Str → Option Value) (x : Str) (st : Stmt) (ps : List Str) (dds : List D) : Prop where
  ex : ∃ (f : Addr) (fd : FuncData) (dvs : List V) (ds : List Value), FunD K x x (defArgs st) (defBody st) (defScope st) dvs [] f fd ∧ mg x = some (.ref f) ∧ L2.Binds K fd ps ds ∧ Vals dvs ds ∧ ∀ c H ρ, RVs K c H ρ dds dvs
theorem ownD_ev {P : Program} {w : World} {K : PySem.W.Frag} {mg : Str → Option Value} {base : Heap} {x : Str} {st : Stmt} {N ps : List Str} {k : Nat} {fB : Sg → M Out} {dds : List D} (G : GDD K mg x st ps dds) (S : FnScope N ps (defScope st))
    (body : ∀ (f : Addr) (cdv : Value) (A : Around) (outer : List PySem.Env) (s : Shared) (H : Hp) (E : XK) (hid : List Addr), Room k (A.deeper (envOfC x (defScope st) s.heap.objs.size f cdv)) → PX' (cxOf (L2.CX P w) P w K mg base N x (defScope st) f cdv A outer s H E) E →
      ESs (c.at hid E) (cxOf (L2.CX P w) P w K mg base N x (defScope st) f cdv A outer s H E) (defBody st) fB) : OwnD P w K mg base c (k + 1) x (mkF ps.length N.length fB) dds := by
  obtain ⟨f, fd, dvs, ds, F, g, b, r, rr⟩ := G.ex
  refine ⟨f, fd, ps, dvs, ds, g, F.kp, F.ok S (fun vs H Q E h => ?_) (fun cdv A outer s H vs Q E hr h => ?_), b, r, rr⟩
  · exact (spF_len h).1
  · exact spF_run (spF_len h).2 fun hid => body f cdv A outer s H E hid hr pass_body
section
variable {X : Cx} {e o : Expr} {es : List Expr} {fa : Sg → M D} {fr : Sg → M (List D)} {pos p apos : Pos} {x m : Str} {k j : Nat} {F : List D → M D}
theorem ev_const {d : D} (g : GC X.K X.mg x d) (hg : Gl X x := by rfl) (hd : (x == ("__debug__" : Str)) = false := by decide) : EE c X (.Name x pos) (fC d) := by
  obtain ⟨v, u, h1, h2, h3⟩ := g.ex
  exact ev_glob h1 h2 (h3 c) hg hd
/-- a call over the caller's store -/
theorem carry_to {ρ : Sto} {H : Hp} [pl : Plain c] : Carry c (c.at c.hid c.E) ρ H ρ H := ⟨fun _ _ z => z, fun _ _ z => (pl.q _ _ _ _ z).elim⟩
theorem carry_of {ρ : Sto} {H : Hp} : Carry (c.at c.hid c.E) c ρ H ρ H := ⟨fun _ _ z => z, fun _ _ z => z.elim⟩
theorem mv_to {K : PySem.W.Frag} {ρ : Sto} {H : Hp} : Mv K c (c.at c.hid c.E) H ρ H ρ := ⟨fun _ _ h => h, fun a u e o => ⟨e, o.st, o.hd, o.dw⟩, rfl, rfl, rfl, rfl, rfl, rfl, rfl, rfl, rfl⟩
theorem mv_of {K : PySem.W.Frag} {ρ : Sto} {H : Hp} : Mv K (c.at c.hid c.E) c H ρ H ρ := ⟨fun _ _ h => h, fun a u e o => ⟨e, o.st, o.hd, o.dw⟩, rfl, rfl, rfl, rfl, rfl, rfl, rfl, rfl, rfl⟩
theorem Ok.toAt {K : PySem.W.Frag} {ρ : Sto} {h : List O} {H : Hp} [pl : Plain c] (ok : Ok K c ρ h H) : Ok K (c.at c.hid c.E) ρ h H := ⟨ok.len, ok.nd, fun n o a e1 e2 => (ok.objs n o a e1 e2).mv mv_to carry_to rfl, ok.lv, ok.sub, ok.ex, ok.dw, ok.hid, ok.tab, trivial, ok.code⟩
theorem Ok.ofAt {K : PySem.W.Frag} {ρ : Sto} {h : List O} {H : Hp} [pl : Plain c] (ok : Ok K (c.at c.hid c.E) ρ h H) : Ok K c ρ h H := ⟨ok.len, ok.nd, fun n o a e1 e2 => (ok.objs n o a e1 e2).mv (c := c.at c.hid c.E) mv_of carry_of rfl, ok.lv, ok.sub, ok.ex, ok.dw, ok.hid, ok.tab, pl.p _ _, ok.code⟩
theorem op_own {K : PySem.W.Frag} {F : List D → M D} [pl : Plain c] : OpN K c (fun vs H Q => spF K c F vs H Q c.E) F := fun {ρ h H xs vs Q} ok r q => ⟨c.hid, ρ, h, xs, ok.toAt, RVs.mv mv_to xs vs (.inr carry_to) r,
  q.mono2 (fun ⟨y, h1⟩ q1 ρ1 H1 v l1 ok1 r1 => q1 ρ1 H1 v l1 ok1.ofAt (RV.mv (c := c.at c.hid c.E) mv_of _ _ (.inr carry_of) r1)) fun k fs h1 q1 => ⟨q1.1, q1.2.1, fun ρ1 H1 d vs l1 ok1 own r1 => q1.2.2 ρ1 H1 d vs l1 ok1.ofAt ⟨own.1, fun z => let ⟨dd, e1, e2, o⟩ := own.2 z; ⟨dd, e1, e2, o.st, o.hd, o.dw⟩⟩ (RVs.mv (c := c.at c.hid c.E) mv_of _ _ (.inr carry_of) r1)⟩⟩
theorem ev_own [Plain c] (G : Own X.prog X.w X.K X.mg X.base c k x F) (hr : Room k X.A) (px : PX' X c.E) (ha : EA c X (e :: es) fr) (hg : Gl X x := by rfl) (hdb : (x == ("__debug__" : Str)) = false := by decide)
    (he : starEach (e :: es) X.env = (false, eval e X.env) :: starEach es X.env := by rfl) (hpl : (backTo pos (starEach es X.env)).any (·.1) = false := by rfl) : EE c X (.Call (.Name x p) (e :: es) [] pos) (fN F fr) := by
  obtain ⟨f, fd, ps, g, kp, H, b⟩ := G.ex
  refine PE.imp (pe_call H hr hg g kp b .nil px ha hdb he hpl) fun σ H Q q => ?_
  exact tA_N (r := fun vs H Q => spF X.K c F (vs ++ []) H Q c.E) (fun {ρ h H xs vs Q} ok r q => by dsimp only; rw [List.append_nil]; exact op_own ok r q) q
theorem ev_ownD [Plain c] {dds : List D} (G : OwnD X.prog X.w X.K X.mg X.base c k x F dds) (hr : Room k X.A) (px : PX' X c.E) (ha : EA c X (e :: es) fr) (hg : Gl X x := by rfl) (hdb : (x == ("__debug__" : Str)) = false := by decide)
    (he : starEach (e :: es) X.env = (false, eval e X.env) :: starEach es X.env := by rfl) (hpl : (backTo pos (starEach es X.env)).any (·.1) = false := by rfl) : EE c X (.Call (.Name x p) (e :: es) [] pos) (fN (fun xs => F (xs ++ dds)) fr) := by
  obtain ⟨f, fd, ps, dvs, ds, g, kp, H, b, r, rr⟩ := G.ex
  refine PE.imp (pe_call H hr hg g kp b r px ha hdb he hpl) fun σ H Q q => ?_
  exact tA_N (r := fun vs H Q => spF X.K c F (vs ++ dvs) H Q c.E) (fun {ρ h H xs vs Q} ok r q => op_own ok (r.append (rr _ _ _)) q) q
theorem ev_pureD {dds : List D} (G : OwnD X.prog X.w X.K X.mg X.base c k x F dds) (hr : Room k X.A) (px : PX' X c.E) (ha : EA c X (e :: es) fr) (hg : Gl X x := by rfl) (hdb : (x == ("__debug__" : Str)) = false := by decide)
    (he : starEach (e :: es) X.env = (false, eval e X.env) :: starEach es X.env := by rfl) (hpl : (backTo pos (starEach es X.env)).any (·.1) = false := by rfl) : EE c X (.Call (.Name x p) (e :: es) [] pos) (fN (fun xs => oPure F (xs ++ dds)) fr) := by
  obtain ⟨f, fd, ps, dvs, ds, g, kp, H, b, r, rr⟩ := G.ex
  refine PE.imp (pe_call H hr hg g kp b r px ha hdb he hpl) fun σ H Q q => ?_
  exact tA_N (r := fun vs H Q => spF X.K c F (vs ++ dvs) H Q c.E) (fun {ρ h H xs vs Q} ok r q => op_pure ok (r.append (rr _ _ _)) q) q
theorem ev_pure (G : Own X.prog X.w X.K X.mg X.base c k x F) (hr : Room k X.A) (px : PX' X c.E) (ha : EA c X (e :: es) fr) (hg : Gl X x := by rfl) (hdb : (x == ("__debug__" : Str)) = false := by decide)
    (he : starEach (e :: es) X.env = (false, eval e X.env) :: starEach es X.env := by rfl) (hpl : (backTo pos (starEach es X.env)).any (·.1) = false := by rfl) : EE c X (.Call (.Name x p) (e :: es) [] pos) (fN (oPure F) fr) := by
  obtain ⟨f, fd, ps, g, kp, H, b⟩ := G.ex
  refine PE.imp (pe_call H hr hg g kp b .nil px ha hdb he hpl) fun σ H Q q => ?_
  exact tA_N (r := fun vs H Q => spF X.K c F (vs ++ []) H Q c.E) (fun {ρ h H xs vs Q} ok r q => by dsimp only; rw [List.append_nil]; exact op_pure ok r q) q
theorem ev_pureT (G : Own X.prog X.w X.K X.mg X.base c k x F) (hr : Room k X.A) (px : PX' X c.E) (ha : EA c X (e :: es) fr) (hg : Gl X x := by rfl) (hdb : (x == ("__debug__" : Str)) = false := by decide)
    (he : starEach (e :: es) X.env = (false, eval e X.env) :: starEach es X.env := by rfl) (hpl : (backTo pos (starEach es X.env)).any (·.1) = false := by rfl) : EE c X (.Call (.Name x p) (e :: es) [] pos) (fN (oPureT F) fr) := by
  obtain ⟨f, fd, ps, g, kp, H, b⟩ := G.ex
  refine PE.imp (pe_call H hr hg g kp b .nil px ha hdb he hpl) fun σ H Q q => ?_
  exact tA_N (r := fun vs H Q => spF X.K c F (vs ++ []) H Q c.E) (fun {ρ h H xs vs Q} ok r q => by dsimp only; rw [List.append_nil]; exact op_pureT ok r q) q
theorem ev_mk {n : Nat} (hj : j < c.n) (G : OwnI X.prog X.w X.K X.mg X.base c k x j F) (hr : Room (k + 1) X.A) (px : PX' X c.E) (ha : EA c X (e :: es) fr) (hg : Gl X x := by rfl) (hdb : (x == ("__debug__" : Str)) = false := by decide)
    (he : starEach (e :: es) X.env = (false, eval e X.env) :: starEach es X.env := by rfl) (hpl : (backTo pos (starEach es X.env)).any (·.1) = false := by rfl) : EE c X (.Call (.Name x p) (e :: es) [] pos) (fN (oMk j n F) fr) := by
  obtain ⟨f, fd, ps, g, m, H, b⟩ := G.ex
  refine PE.imp (pe_make m H hr hg g b .nil px ha hdb he hpl) fun σ H Q q => ?_
  obtain ⟨ρ, h, s, ok, env, q⟩ := q
  exact ⟨ρ, h, s, ok, env, (M.all_bind.mp q).mono fun ⟨x, h1⟩ q1 ρ1 H1 v l1 ok1 r1 => by dsimp only; rw [List.append_nil]; exact op_mk hj ok1 r1 (Tr.All.le l1 q1 fun r q => q.le l1)⟩
/-- o.m(e, ..) of a frozen instance, over a store of its own -/
def fMth (op : List D → M D) (fo : Sg → M D) (fa : Sg → M (List D)) (k : Nat) : Sg → M D := fun s => M.bind (fo s) fun x => M.bind (fun h => match insD h x with
  | some (j, fs) => if j = k then .ret ((), h) else .bad
  | none => .bad) fun _ => M.bind (fa s) fun xs => op (x :: xs)
end
/-! a chain as a test -/
section
variable {X : Cx} {pos : Pos}
variable {a b d : Expr} {fa fb fc : Sg → M D}
theorem et_chain {op op' : CmpOp} {r r' : R2} {p p' : Cmp} (ho : OpR X (compareOp op) r) (ho' : OpR X (compareOp op') r') (hs : CmpS X.K c r p) (hs' : CmpS X.K c r' p') (ha : EE c X a fa) (hb : EE c X b fb) (hd : EE c X d fc) (hm : lastMarks [op, op'] [b, d] = false := by with_unfolding_all rfl) :
    ET c X (.Compare a [op, op'] [b, d] pos) (tChainF p p' fa fb fc) :=
  PT.imp (pt_chain ho ho' ha hb hd hm) fun σ H Q q => by
    have q2 := tE_b q
    obtain ⟨ρ, h, s, ok, env, q⟩ := q2
    refine ⟨ρ, h, s, ok, env, (M.all_bind.mp q).mono fun ⟨x, h1⟩ q1 ρ1 H1 v l1 ok1 r1 => ?_⟩
    refine ⟨ρ1, h1, s, ok1, env.le l1, Tr.All.le l1 (M.all_bind.mp q1) fun ⟨y, h2⟩ q2 ρ2 H2 w l2 ok2 r2 => ?_⟩
    have q2 := M.all_bind.mp q2
    dsimp only [cmpB] at q2
    split at q2
    · rename_i k hk
      refine hs ok2 (r1.le l2) r2 hk ⟨k, rfl, ?_⟩
      replace q2 : ((if k = true then M.bind (fc s) fun z => cmpV p' y z else M.ret (.bl false)) h2).All (PV X.K c ρ H fun x H1 => ∃ k, x = .bl k ∧ Q k H1) (PX X.K c ρ H) := q2
      by_cases hk : k = true
      · rw [if_pos hk] at q2 ⊢
        refine ⟨ρ2, h2, s, ok2, env.le (l1.trans l2), Tr.All.le (l1.trans l2) (M.all_bind.mp q2) fun ⟨z, h3⟩ q3 ρ3 H3 u l3 ok3 r3 => ?_⟩
        exact hs'.v ok3 (r2.le l3) r3 (Tr.All.le (l1.trans (l2.trans l3)) q3 fun r q => q.le (l1.trans (l2.trans l3)))
      · rw [if_neg hk] at q2 ⊢
        exact q2 ρ2 H2 _ (l1.trans l2) ok2 (.bl false)
    · exact q2.elim
end
theorem units65 {k : Nat} {A : Around} (r : Room k A) : A.units + 65 < cLine := by have := r.un; omega
theorem units1 {k : Nat} {A : Around} (r : Room k A) : A.units + 1 < cLine := by have := r.un; omega
end Ev

/-! Dicts with ints and texts as keys; all the additions; more built-ins. -/
namespace Ev
open PySem PySem.Spec PyProof.Rows L2 Dr
variable {c : Ct}
/-! ### all the additions, all the products -/
def oAdd (mk : List D → M D) : D → D → M D := fun x y => match x with
  | .int _ => oI (fun _ _ => true) (fun i j => i + j) x y
  | .tup _ => oCatT x y
  | _ => oCatL mk x y
theorem op_addAll {K : PySem.W.Frag} {mk : List D → M D} (m : MkOk K c mk) : Op2 K c (fun x y H Q => (rI0 (fun i j => .int (i + j)) x y H Q) ∨ (rCatA K x y H Q ∨ rCat x y H Q)) (oAdd mk) := fun {ρ h H x y v w Q} ok r1 r2 q => by
  unfold oAdd at q
  split at q
  · exact .inl (op_I0 ok r1 r2 q)
  · exact .inr (.inl (op_catTup ok r1 r2 q))
  · exact .inr (.inr (op_catLst m ok r1 r2 q))
theorem opr_add {X : Cx} : OpR X (binaryOp .Add) (fun x y H Q => (rI0 (fun i j => .int (i + j)) x y H Q) ∨ (rCatA X.K x y H Q ∨ rCat x y H Q)) := OpR.or op_add (OpR.or op_catA op_cat)
def pMul : Int → Int → Bool := fun i j => (decide (-(2 ^ 64) < i) && decide (i < 2 ^ 64)) || (decide (-(2 ^ 64) < j) && decide (j < 2 ^ 64))
theorem pMul_ok (i j : Int) (h : pMul i j = true) : CMul i j := by
  unfold pMul at h
  rcases Bool.or_eq_true_iff.mp h with h | h
  · have := Bool.and_eq_true_iff.mp h
    exact .inl ⟨of_decide_eq_true this.1, of_decide_eq_true this.2⟩
  · have := Bool.and_eq_true_iff.mp h
    exact .inr ⟨of_decide_eq_true this.1, of_decide_eq_true this.2⟩
def oMul (mk : List D → M D) : D → D → M D := fun x y => match x with
  | .int _ => oI pMul (fun i j => i * j) x y
  | _ => oRep mk x y
theorem op_mulAll {K : PySem.W.Frag} {mk : List D → M D} (m : MkOk K c mk) : Op2 K c (fun x y H Q => rI CMul (fun i j => .int (i * j)) x y H Q ∨ rRep x y H Q) (oMul mk) := fun {ρ h H x y v w Q} ok r1 r2 q => by
  unfold oMul at q
  split at q
  · exact .inl (op_I pMul_ok ok r1 r2 q)
  · exact .inr (op_repLst m ok r1 r2 q)
theorem opr_mul {X : Cx} : OpR X (binaryOp .Mult) (fun x y H Q => rI CMul (fun i j => .int (i * j)) x y H Q ∨ rRep x y H Q) := OpR.or op_mul op_rep
/-! ### numbers -/
def pNz : Int → Int → Bool := fun _ j => decide (j ≠ 0)
theorem pNz_ok (i j : Int) (h : pNz i j = true) : j ≠ 0 := of_decide_eq_true h
def pDiv : Int → Int → Bool := fun _ j => decide (j ≠ 0) && decide (j.natAbs < 1073741824)
theorem pDiv_ok (i j : Int) (h : pDiv i j = true) : CDivN i j := by
  have := Bool.and_eq_true_iff.mp h
  exact ⟨of_decide_eq_true this.1, of_decide_eq_true this.2⟩
/-! ### keys -/
def toK : D → Option Key
  | .int i => some (.inl i)
  | .str z => some (.inr z)
  | _ => none
theorem toK_ok {K : PySem.W.Frag} {ρ : Sto} {H : Hp} {x : D} {k : Key} {v : V} (e : toK x = some k) (r : RV K c H ρ x v) : v = kV k := by
  cases r <;> simp only [toK] at e <;> cases e <;> rfl
def valD (kvs : List (Key × D)) (k : Key) : Option D := (kvs.find? fun kv => decide (kv.1 = k)).map (·.2)
def putD (kvs : List (Key × D)) (k : Key) (v : D) : List (Key × D) :=
  if (kvs.any fun kv => decide (kv.1 = k)) = true then kvs.map (fun kv => if kv.1 = k then (kv.1, v) else kv) else kvs ++ [(k, v)]
def mergeD (kvs more : List (Key × D)) : List (Key × D) := more.foldl (fun acc kv => putD acc kv.1 kv.2) kvs
/-- the pairs of a dict and those of the store -/
structure RK (K : PySem.W.Frag) (c : Ct) (H : Hp) (ρ : Sto) (kvs : List (Key × D)) (kws : List (Key × V)) : Prop where
  ks : kws.map (·.1) = kvs.map (·.1)
  vs : RVs K c H ρ (kvs.map (·.2)) (kws.map (·.2))
section
variable {K : PySem.W.Frag} {ρ : Sto} {H : Hp}
theorem RK.cons_inv {k : Key} {x : D} {kvs : List (Key × D)} {kws : List (Key × V)} (r : RK K c H ρ ((k, x) :: kvs) kws) : ∃ v kws', kws = (k, v) :: kws' ∧ RV K c H ρ x v ∧ RK K c H ρ kvs kws' := by
  cases kws with
  | nil => have := r.ks; simp at this
  | cons q qs =>
    obtain ⟨a, b⟩ := q
    have h1 := r.ks
    simp at h1
    obtain ⟨rfl, h1⟩ := h1
    have h2 := r.vs
    simp at h2
    cases h2 with
    | cons h3 h4 => exact ⟨_, _, rfl, h3, ⟨h1, h4⟩⟩
theorem RK.cons {k : Key} {x : D} {v : V} {kvs : List (Key × D)} {kws : List (Key × V)} (r1 : RV K c H ρ x v) (r : RK K c H ρ kvs kws) : RK K c H ρ ((k, x) :: kvs) ((k, v) :: kws) :=
  ⟨by simp [r.ks], by simp; exact .cons r1 r.vs⟩
theorem RK.nil : RK K c H ρ [] [] := ⟨rfl, .nil⟩
theorem RK.nil_inv {kws : List (Key × V)} (r : RK K c H ρ [] kws) : kws = [] := by
  have := r.ks
  simpa using this
theorem RK.append : ∀ {kvs kvs2 : List (Key × D)} {kws kws2 : List (Key × V)}, RK K c H ρ kvs kws → RK K c H ρ kvs2 kws2 → RK K c H ρ (kvs ++ kvs2) (kws ++ kws2)
  | [], _, _, _, r, s => by rw [r.nil_inv]; exact s
  | (k, x) :: kvs, _, _, _, r, s => by
    obtain ⟨v, kws', rfl, r1, r2⟩ := r.cons_inv
    exact .cons r1 (RK.append r2 s)
theorem RK.len : ∀ {kvs : List (Key × D)} {kws : List (Key × V)}, RK K c H ρ kvs kws → kvs.length = kws.length := fun r => by
  have := congrArg List.length r.ks
  simpa using this.symm
theorem RK.val : ∀ {kvs : List (Key × D)} {kws : List (Key × V)} (k : Key), RK K c H ρ kvs kws → (valD kvs k = none ∧ L2.valV kws k = none) ∨ ∃ x v, valD kvs k = some x ∧ L2.valV kws k = some v ∧ RV K c H ρ x v
  | [], _, k, r => by rw [r.nil_inv]; exact .inl ⟨rfl, rfl⟩
  | (k0, x) :: kvs, _, k, r => by
    obtain ⟨v, kws', rfl, r1, r2⟩ := r.cons_inv
    by_cases h : k0 = k
    · exact .inr ⟨x, v, by simp [valD, List.find?_cons, h], L2.valV_pos (p := (k0, v)) h, r1⟩
    · rw [L2.valV_neg (p := (k0, v)) h, show valD ((k0, x) :: kvs) k = valD kvs k by simp [valD, List.find?_cons, h]]
      exact RK.val k r2
theorem RK.mapPut {k : Key} {y : D} {w : V} (r0 : RV K c H ρ y w) : ∀ {kvs : List (Key × D)} {kws : List (Key × V)}, RK K c H ρ kvs kws → RK K c H ρ (kvs.map fun kv => if kv.1 = k then (kv.1, y) else kv) (kws.map fun kv => if kv.1 = k then (kv.1, w) else kv)
  | [], _, r => by rw [r.nil_inv]; exact .nil
  | (k0, x) :: kvs, _, r => by
    obtain ⟨v, kws', rfl, r1, r2⟩ := r.cons_inv
    rw [List.map_cons, List.map_cons]
    by_cases h : k0 = k
    · rw [if_pos h, if_pos h]; exact .cons r0 (RK.mapPut r0 r2)
    · rw [if_neg h, if_neg h]; exact .cons r1 (RK.mapPut r0 r2)
theorem RK.any {k : Key} : ∀ {kvs : List (Key × D)} {kws : List (Key × V)}, RK K c H ρ kvs kws → (kvs.any fun kv => decide (kv.1 = k)) = (kws.any fun kv => decide (kv.1 = k))
  | [], _, r => by rw [r.nil_inv]; rfl
  | (k0, x) :: kvs, _, r => by
    obtain ⟨v, kws', rfl, r1, r2⟩ := r.cons_inv
    rw [List.any_cons, List.any_cons, RK.any r2]
theorem RK.put {k : Key} {y : D} {w : V} (r0 : RV K c H ρ y w) {kvs : List (Key × D)} {kws : List (Key × V)} (r : RK K c H ρ kvs kws) : RK K c H ρ (putD kvs k y) (L2.putK kws k w) := by
  unfold putD L2.putK
  rw [r.any]
  split
  · exact r.mapPut r0
  · exact r.append (.cons r0 .nil)
theorem RK.merge : ∀ {more : List (Key × D)} {ms : List (Key × V)} {kvs : List (Key × D)} {kws : List (Key × V)}, RK K c H ρ kvs kws → RK K c H ρ more ms → RK K c H ρ (mergeD kvs more) (L2.mergeK kws ms)
  | [], _, _, _, r, s => by rw [s.nil_inv]; exact r
  | (k0, x) :: more, _, _, _, r, s => by
    obtain ⟨v, kws', rfl, r1, r2⟩ := s.cons_inv
    show RK K c H ρ (mergeD (putD _ k0 x) more) (L2.mergeK (L2.putK _ k0 v) kws')
    exact RK.merge (r.put r1) r2
theorem RK.le {ρ1 : Sto} {H1 : Hp} (l : Le c ρ H ρ1 H1) {kvs : List (Key × D)} {kws : List (Key × V)} (r : RK K c H ρ kvs kws) : RK K c H1 ρ1 kvs kws := ⟨r.ks, r.vs.le l⟩
theorem RK.zip {ks : List Key} {xs : List D} {kws : List (Key × V)} (h1 : kws.map (·.1) = ks) (h2 : RVs K c H ρ xs (kws.map (·.2))) : RK K c H ρ (ks.zip xs) kws := by
  have hl : ks.length = xs.length := by rw [← h1, h2.len]; simp
  refine ⟨?_, ?_⟩
  · rw [List.map_fst_zip (by omega)]; exact h1
  · rw [List.map_snd_zip (by omega)]; exact h2
theorem RK.of {ks : List Key} {xs : List D} {a : Addr} (r : RO K c H ρ (.dK ks xs) a) : ∃ kws, H a = some (.dK kws) ∧ RK K c H ρ (ks.zip xs) kws := by
  obtain ⟨kws, h1, h2, h3⟩ := r
  exact ⟨kws, h1, .zip h2 h3⟩
/-- a dict of the store by its pairs -/
def dkO (kvs : List (Key × D)) : O := .dK (kvs.map (·.1)) (kvs.map (·.2))
theorem RK.to {kvs : List (Key × D)} {kws : List (Key × V)} {a : Addr} (e : H a = some (.dK kws)) (r : RK K c H ρ kvs kws) : RO K c H ρ (dkO kvs) a := ⟨kws, e, r.ks, r.vs⟩
end
/-- the pairs of a dict -/
def dctD (h : List O) : D → Option (List (Key × D))
  | .dct ks xs => some (ks.zip xs)
  | .loc n => match h[n]? with
    | some (.dK ks xs) => some (ks.zip xs)
    | _ => none
  | _ => none
theorem dctD_ok {K : PySem.W.Frag} {ρ h H x v kvs} (ok : Ok K c ρ h H) (r : RV K c H ρ x v) (e : dctD h x = some kvs) : ∃ a kws, v = .ref a ∧ Rd H a (.dK kws) ∧ RK K c H ρ kvs kws := by
  unfold dctD at e
  split at e
  · cases e
    cases r with
    | dct h1 _ h2 h3 => exact ⟨_, _, rfl, h1, .zip h2 h3⟩
  · split at e
    · rename_i hx
      cases e
      cases r with
      | loc g1 =>
        obtain ⟨kws, e1, e2⟩ := RK.of (ok.objs _ _ _ hx g1)
        exact ⟨_, _, rfl, .inl e1, e2⟩
    · cases e
  · cases e
/-! ### o[i] -/
def rIxD (x y : V) (H : Hp) (Q : VK) : Prop := ∃ a v, x = .ref a ∧ DGet H a y (some v) ∧ Q v H
theorem ix_dict {X : Cx} (hu : X.A.units + 1 < cLine) : IxR X rIxD := by
  intro value slice pins s σ H x y v u Q I rx ry h hs
  obtain ⟨a, z, ex, g, q⟩ := h
  subst ex
  obtain rfl : v = Value.ref a := rx
  have hT := dict_typeIs I g
  have h₂ := d_getItem (E := X.xe) hu I g ry fun w' s' I' rw' => (⟨z, H, I', rw', q⟩ : EP X pins σ Q w' s')
  unfold subscriptTail
  refine wpAny_bind ?_
  rw [getitemInPython_of_ne hT.not_modules]
  refine wpAny_bind (wpAny_specialOf hT PySem.F.slot_dict_getitem.lookup ?_)
  have fin : wpAny (model X.prog X.w) X.A (subscripted slice false (.ref a) u) (fun r s₃ => wpAny (model X.prog X.w) X.A (letTemporaryGo value (.ref a) r >>= fun _ => pure r) (EP X pins σ Q) X.xe s₃) X.xe s := by
    rw [hs]
    exact wpAny_operating (wpAny_mono h₂ (fun r s₃ h₃ => wpAny_bind (wpAny_letTemporaryGo (wpAny_pure h₃))) fun _ _ x => x)
  first
    | exact wpAny_pure (wpAny_bind fin)
    | exact wpAny_bind (wpAny_pure (wpAny_bind fin))
    | exact wpAny_bind fin
theorem dget {H : Hp} {a : Addr} {kws : List (Key × V)} {k : Key} (r : Rd H a (.dK kws)) : DGet H a (kV k) (valV kws k) := .inl ⟨_, _, r, rfl, rfl⟩
def oGet : D → D → M D := fun x y h => match dctD h x with
  | some kvs => match toK y with
    | some k => match valD kvs k with
      | some z => .ret (z, h)
      | none => .bad
    | none => .bad
  | none => oIx x y h
theorem op_get {K : PySem.W.Frag} : Op2 K c (fun x y H Q => (rIxL K x y H Q ∨ rIxT K x y H Q) ∨ rIxD x y H Q) oGet := fun {ρ h H x y v w Q} ok r1 r2 q => by
  unfold oGet at q
  split at q
  · rename_i kvs hx
    split at q
    · rename_i k hk
      split at q
      · rename_i z hz
        obtain ⟨a, kws, rfl, e1, e2⟩ := dctD_ok ok r1 hx
        have := toK_ok hk r2
        subst this
        rcases e2.val k with ⟨e3, _⟩ | ⟨x, v, e3, e4, e5⟩
        · rw [hz] at e3; cases e3
        · rw [hz] at e3; cases e3
          exact .inr ⟨_, v, rfl, by rw [← e4]; exact dget e1, q ρ H _ .refl ok e5⟩
      · exact q.elim
    · exact q.elim
  · exact .inl (op_ix ok r1 r2 q)
/-! ### o[i] = v -/
def oPut (o i v : D) : M Unit := fun h => match o with
  | .loc n => match h[n]? with
    | some (.dK ks xs) => match toK i with
      | some k => if ks.length < lim then .ret ((), h.set n (dkO (putD (ks.zip xs) k v))) else .bad
      | none => .bad
    | some (.lst xs) => match i with
      | .int j => match ixN xs.length j with
        | some m => .ret ((), h.set n (.lst (xs.set m v)))
        | none => .bad
      | _ => .bad
    | _ => .bad
  | _ => .bad
theorem set_any {X : Cx} (hu : X.A.units + 1 < cLine) : PSet X (fun o i v H Q => rSetL o i v H Q ∨ rSetD o i v H Q) := by
  intro pins s σ H o i v ov iv u Q I ro ri rv h
  rcases h with h | h
  · exact set_list pins s σ H o i v ov iv u Q I ro ri rv h
  · exact set_dict hu pins s σ H o i v ov iv u Q I ro ri rv h
theorem op_put {K : PySem.W.Frag} {ρ h H} {x i y : D} {v j w : V} {Q : Hp → Prop} {Y : XP} (ok : Ok K c ρ h H) (r1 : RV K c H ρ x v) (r2 : RV K c H ρ i j) (r3 : RV K c H ρ y w)
    (q : (oPut x i y h).All (fun r => ∀ ρ' H', Le c ρ H ρ' H' → Ok K c ρ' r.2 H' → Q H') Y) : rSetL v j w H Q ∨ rSetD v j w H Q := by
  unfold oPut at q
  split at q
  · rename_i n
    cases r1 with
    | loc g1 =>
      split at q
      · rename_i ks xs hx
        split at q
        · rename_i k hk
          split at q
          · rename_i hl
            obtain ⟨kws, e1, e2⟩ := RK.of (ok.objs _ _ _ hx g1)
            obtain ⟨_, z1, z2, z3⟩ := ok.objs _ _ _ hx g1
            rw [e1] at z1; cases z1
            have := toK_ok hk r2
            subst this
            obtain ⟨l, ok1⟩ := ok.put (u := .dK (L2.putK kws k w)) (o := dkO (putD (ks.zip xs) k y)) hx (by simp) g1 fun H1 l e => RK.to e ((e2.le l).put (r3.le l))
            exact .inr ⟨_, _, rfl, DPut.k e1 (by have : kws.length = ks.length := by rw [← z2]; simp
                                                 rw [this]; exact lim_line (Nat.le_of_lt hl)), q _ _ l ok1⟩
          · exact q.elim
        · exact q.elim
      · rename_i xs hx
        split at q
        · rename_i m
          split at q
          · rename_i m hm
            cases r2
            obtain ⟨us, e1, e2⟩ := ok.objs _ _ _ hx g1
            obtain ⟨l, ok1⟩ := ok.put (u := .lst (us.set m w)) (o := .lst (xs.set m y)) hx (by simp) g1 fun H1 l e => ⟨_, e, (e2.le l).set (r3.le l) m⟩
            exact .inl ⟨_, us, _, m, rfl, rfl, e1, by rw [← e2.len]; exact hm, q _ _ l ok1⟩
          · exact q.elim
        · exact q.elim
      · exact q.elim
  · exact q.elim
def gSub (fo fi : Sg → M D) : D → Sg → M Sg := fun x s => M.bind (fo s) fun o => M.bind (fi s) fun i => M.bind (oPut o i x) fun _ => M.ret s
section
variable {X : Cx} {e a b d o i : Expr} {es : List Expr} {fa fb fo fi : Sg → M D} {fr : Sg → M (List D)} {pos p p1 : Pos} {vs : List Nat}
theorem ev_get (hu : X.A.units + 1 < cLine) (ha : EE c X a fa) (hb : EE c X b fb) (hs : PlainIx b := by exact fun _ _ => rfl) : EE c X (.Subscript a b pos) (f2 oGet fa fb) :=
  PE.imp (pe_ix (IxR.or (IxR.or ix_list ix_tup) (ix_dict hu)) ha hb hs) fun σ H Q q => tE_2 op_get q
theorem eg_sub (hu : X.A.units + 1 < cLine) (ho : EE c X o fo) (hi : EE c X i fi) (ha : ∀ v, assign (.Subscript o i pos) X.env v = (do
      let ov ← holding [v] (eval o X.env)
      let iv ← holding [v, ov] (eval i X.env)
      standAt pos
      holding [v, ov, iv] (setItem ov iv v)
      release [v, ov, iv] []) := by intro _; rfl) : EG c X vs (.Subscript o i pos) (gSub fo fi) :=
  PG.imp (pg_sub ho hi (set_any hu) ha) fun v σ H Q ⟨ρ, h, s, y, ok, env, r, q⟩ => by
    refine ⟨ρ, h, s, ok, env, (M.all_bind.mp q).mono fun ⟨x, h1⟩ q1 ρ1 H1 v1 l1 ok1 r1 => ?_⟩
    refine ⟨ρ1, h1, s, ok1, env.le l1, Tr.All.le l1 (M.all_bind.mp q1) fun ⟨z, h2⟩ q2 ρ2 H2 v2 l2 ok2 r2 => ?_⟩
    refine op_put ok2 (r1.le l2) r2 (r.le (l1.trans l2)) ((M.all_bind.mp q2).mono fun ⟨_, h3⟩ q3 ρ3 H3 l3 ok3 => ?_)
    have l := l1.trans (l2.trans l3)
    exact q3 ρ3 H3 σ l ok3 (env.le l) rfl
/-! ### displays -/
theorem ev_dnew : EE c X (.Dict [] [] pos) (fun _ h => .ret (.loc h.length, h ++ [.dK [] []])) := PE.imp pe_dnewK fun σ H Q ⟨ρ, h, s, ok, env, q⟩ p np => by
  obtain ⟨l, ok1⟩ := ok.push (u := .dK []) (o := .dK [] []) np fun H1 l e => RK.to (kvs := []) e .nil
  exact q _ _ _ l ok1 (.loc (by rw [← ok.len]; simp [Sto.push]))
def fPNil : Sg → M (List (Key × D)) := fun _ => M.ret []
def asK (x : D) : M Key := fun h => match toK x with
  | some k => .ret (k, h)
  | none => .bad
def fPCons (fk fv : Sg → M D) (fr : Sg → M (List (Key × D))) : Sg → M (List (Key × D)) := fun s => M.bind (fk s) fun x => M.bind (asK x) fun k => M.bind (fv s) fun y => M.bind (fr s) fun r => M.ret ((k, y) :: r)
def EPs (c : Ct) (X : Cx) (pos : Pos) (keys : List (Option Expr)) (values : List Expr) (f : Sg → M (List (Key × D))) : Prop := ∃ trs, PPs X pos keys values trs ∧ ∀ σ H Q, (∃ ρ h s, Ok X.K c ρ h H ∧ Env X.K c H ρ s σ ∧
  (f s h).All (fun r => ∀ ρ' H' kws, Le c ρ H ρ' H' → Ok X.K c ρ' r.2 H' → RK X.K c H' ρ' r.1 kws → Q (kws.map fun kv => (kV kv.1, kv.2)) H') (PX X.K c ρ H)) → tPairs trs σ H Q
theorem epp_nil : EPs c X pos [] [] fPNil := ⟨[], pps_nil, fun σ H Q ⟨ρ, h, s, ok, env, q⟩ => q ρ H [] .refl ok .nil⟩
theorem epp_cons {k v : Expr} {ks : List (Option Expr)} {vs : List Expr} {fk fv : Sg → M D} {fr : Sg → M (List (Key × D))} (hk : EE c X k fk) (hv : EE c X v fv) (hr : EPs c X pos ks vs fr) : EPs c X pos (some k :: ks) (v :: vs) (fPCons fk fv fr) := by
  obtain ⟨trs, h1, h2⟩ := hr
  refine ⟨_, pps_cons hk hv h1, fun σ H Q ⟨ρ, h, s, ok, env, q⟩ => ?_⟩
  refine ⟨ρ, h, s, ok, env, (M.all_bind.mp q).mono fun ⟨x, h1⟩ q1 ρ1 H1 v1 l1 ok1 r1 => ?_⟩
  have q1 := M.all_bind.mp q1
  dsimp only [asK] at q1
  split at q1
  · rename_i k0 hk0
    have := toK_ok hk0 r1
    subst this
    have q1 := M.all_bind.mp q1
    refine ⟨ρ1, h1, s, ok1, env.le l1, Tr.All.le l1 q1 fun ⟨y, h2'⟩ q2 ρ2 H2 v2 l2 ok2 r2 => ?_⟩
    refine h2 _ _ _ ⟨ρ2, h2', s, ok2, env.le (l1.trans l2), Tr.All.le (l1.trans l2) (M.all_bind.mp q2) fun ⟨ps, h3⟩ q3 ρ3 H3 kws l3 ok3 r3 => ?_⟩
    exact q3 ρ3 H3 ((k0, v2) :: kws) (l1.trans (l2.trans l3)) ok3 (.cons (r2.le l3) r3)
  · exact q1.elim
def fDisp (fr : Sg → M (List (Key × D))) : Sg → M D := fun s h => (fr s (h ++ [.dK [] []])).bind fun r => match r.2[h.length]? with
  | some (.dK [] []) => if r.1.length ≤ 15 then .ret (.loc h.length, r.2.set h.length (dkO (mergeD [] r.1))) else .bad
  | _ => .bad
theorem ev_disp {keys : List (Option Expr)} {values : List Expr} {fr : Sg → M (List (Key × D))} (hp : EPs c X pos keys values fr) (hall : keys.all (·.isSome) = true := by rfl) (hl : keys.length = values.length := by rfl) (h0 : keys ≠ [] := by simp)
    (h15 : keys.length ≤ 15 := by decide) : EE c X (.Dict keys values pos) (fDisp fr) := by
  obtain ⟨trs, h1, h2⟩ := hp
  refine PE.imp (pe_disp h1 hall hl h0 h15) fun σ H Q ⟨ρ, h, s, ok, env, q⟩ p np => ?_
  obtain ⟨l, ok1⟩ := ok.push (u := .dK []) (o := .dK [] []) np fun H1 l e => RK.to (kvs := []) e .nil
  have hp : (ρ.push p).a[h.length]? = some p := by rw [← ok.len]; simp [Sto.push]
  refine h2 _ _ _ ⟨_, _, s, ok1, env.le l, Tr.All.le l (Tr.all_bind.mp q) fun ⟨ps, h3⟩ q3 ρ3 H3 kws l3 ok3 r3 => ?_⟩
  dsimp only at q3
  split at q3
  · rename_i hd
    split at q3
    · rename_i h15
      have hp3 := pre_get l3.pre hp
      obtain ⟨kw0, e1, e2⟩ := RK.of (ok3.objs _ _ _ hd hp3)
      rw [RK.nil_inv (kws := kw0) (by simpa using e2)] at e1
      refine ⟨e1, kws, rfl, by rw [← r3.len]; exact h15, ?_⟩
      obtain ⟨l4, ok4⟩ := ok3.put (u := .dK (L2.mergeK [] kws)) (o := dkO (mergeD [] ps)) hd (by simp) hp3 fun H1 l e => RK.to e (RK.merge .nil (r3.le l))
      exact q3 _ _ _ (l.trans (l3.trans l4)) ok4 (.loc (pre_get l4.pre hp3))
    · exact q3.elim
  · exact q3.elim
/-! ### in -/
def rInDk (neg : Bool) : R2 := fun x y H Q => ∃ a o, y = .ref a ∧ DGet H a x o ∧ Q (.bl (neg != o.isSome)) H
theorem op_in_dk (hu : X.A.units + 1 < cLine) : OpR X (compareOp .In) (rInDk false) := by
  intro pins s σ H x y v u Q I rx ry h
  obtain ⟨a, o, ey, g, q⟩ := h
  subst ey
  obtain rfl : u = Value.ref a := ry
  refine d_in hu I g rx fun s' I' => ⟨.bl o.isSome, H, I', rfl, ?_⟩
  simpa using q
theorem op_notIn_dk (hu : X.A.units + 1 < cLine) : OpR X (compareOp .NotIn) (rInDk true) := by
  intro pins s σ H x y v u Q I rx ry h
  obtain ⟨a, o, ey, g, q⟩ := h
  subst ey
  obtain rfl : u = Value.ref a := ry
  refine d_notIn hu I g rx fun s' I' => ⟨.bl (!o.isSome), H, I', rfl, ?_⟩
  simpa using q
def pInA (neg : Bool) : Cmp := fun h x y => match dctD h y with
  | some kvs => match toK x with
    | some k => some (neg != (valD kvs k).isSome)
    | none => none
  | none => match y with
    | .tup _ => pInT neg h x y
    | _ => if neg = true then pIn (fun b => !b) h x y else pIn (fun b => b) h x y
theorem cmp_inA {K : PySem.W.Frag} : CmpS K c (fun x y H Q => (rIn K false x y H Q ∨ rInD K x y H Q) ∨ rInDk false x y H Q) (pInA false) := fun {ρ h H x y v w Q b} ok r1 r2 e q => by
  unfold pInA at e
  split at e
  · rename_i kvs hx
    split at e
    · rename_i k hk
      cases e
      obtain ⟨a, kws, rfl, e1, e2⟩ := dctD_ok ok r2 hx
      have := toK_ok hk r1
      subst this
      refine .inr ⟨_, _, rfl, dget e1, ?_⟩
      rcases e2.val k with ⟨e3, e4⟩ | ⟨x, v, e3, e4, e5⟩
      · rw [e3] at q; rw [e4]; exact q
      · rw [e3] at q; rw [e4]; exact q
    · cases e
  · split at e
    · exact .inl (.inl (cmp_inT false ok r1 r2 e q))
    · rw [if_neg (by decide)] at e
      exact .inl (.inr (cmp_in ok r1 r2 e q))
theorem cmp_notInA {K : PySem.W.Frag} : CmpS K c (fun x y H Q => (rIn K true x y H Q ∨ rNotInD K x y H Q) ∨ rInDk true x y H Q) (pInA true) := fun {ρ h H x y v w Q b} ok r1 r2 e q => by
  unfold pInA at e
  split at e
  · rename_i kvs hx
    split at e
    · rename_i k hk
      cases e
      obtain ⟨a, kws, rfl, e1, e2⟩ := dctD_ok ok r2 hx
      have := toK_ok hk r1
      subst this
      refine .inr ⟨_, _, rfl, dget e1, ?_⟩
      rcases e2.val k with ⟨e3, e4⟩ | ⟨x, v, e3, e4, e5⟩
      · rw [e3] at q; rw [e4]; exact q
      · rw [e3] at q; rw [e4]; exact q
    · cases e
  · split at e
    · exact .inl (.inl (cmp_inT true ok r1 r2 e q))
    · rw [if_pos rfl] at e
      exact .inl (.inr (cmp_notIn ok r1 r2 e q))
theorem opr_in (hu : X.A.units + 65 < cLine) : OpR X (compareOp .In) (fun x y H Q => (rIn X.K false x y H Q ∨ rInD X.K x y H Q) ∨ rInDk false x y H Q) := OpR.or (OpR.or op_in_seq (op_inD hu)) (op_in_dk (by omega))
theorem opr_notIn (hu : X.A.units + 65 < cLine) : OpR X (compareOp .NotIn) (fun x y H Q => (rIn X.K true x y H Q ∨ rNotInD X.K x y H Q) ∨ rInDk true x y H Q) := OpR.or (OpR.or op_notIn_seq (op_notInD hu)) (op_notIn_dk (by omega))
/-! ### three names at once -/
def sPar3 (i j k : Nat) (fr : Sg → M (List D)) : Sg → M Out := fun s => M.bind (fr s) fun xs => match xs with
  | [x, y, z] => M.ret (.nx (((s.set i (some x)).set j (some y)).set k (some z)))
  | _ => M.bad
/-! ### len, dict -/
def oLenA : List D → M D := fun xs h => match xs with
  | [.loc n] => match h[n]? with
    | some (.dK ks _) => .ret (.int ks.length, h)
    | _ => oLen xs h
  | _ => oLen xs h
theorem op_lenA {K : PySem.W.Frag} : OpN K c (fun xs H Q => (∃ x n, xs = [x] ∧ LenV K x H n ∧ Q (.int n) H) ∨ ∃ a kvs, xs = [V.ref a] ∧ H a = some (.dK kvs) ∧ Q (.int kvs.length) H) oLenA := fun {ρ h H xs vs Q} ok r q => by
  unfold oLenA at q
  split at q
  · split at q
    · rename_i hx
      obtain ⟨v, rfl, r1⟩ := vs1 r
      cases r1 with
      | loc g1 =>
        obtain ⟨kws, e1, e2, e3⟩ := ok.objs _ _ _ hx g1
        refine .inr ⟨_, kws, rfl, e1, ?_⟩
        have := q ρ H (.int _) .refl ok (.int _)
        rw [← e2] at this
        simpa using this
    · exact .inl (op_len ok r q)
  · exact .inl (op_len ok r q)
theorem callr_len : CallR X (.builtin "len") (fun xs H Q => (∃ x n, xs = [x] ∧ LenV X.K x H n ∧ Q (.int n) H) ∨ ∃ a kvs, xs = [V.ref a] ∧ H a = some (.dK kvs) ∧ Q (.int kvs.length) H) := CallR.or call_len call_lenD
def oDict : List D → M D := fun xs h => match xs with
  | [x] => match dctD h x with
    | some kvs => .ret (.loc h.length, h ++ [dkO kvs])
    | _ => .bad
  | _ => .bad
theorem op_dict {K : PySem.W.Frag} : OpN K c (fun xs H Q => ∃ (a : Addr) (kvs : List (Key × V)), xs = [.ref a] ∧ Rd H a (.dK kvs) ∧ ∀ p, H p = none → Q (.ref p) (upd H p (.dK kvs))) oDict := fun {ρ h H xs vs Q} ok r q => by
  unfold oDict at q
  split at q
  · split at q
    · rename_i kvs hx
      obtain ⟨v, rfl, r1⟩ := vs1 r
      obtain ⟨a, kws, rfl, e1, e2⟩ := dctD_ok ok r1 hx
      refine ⟨_, kws, rfl, e1, fun p np => ?_⟩
      obtain ⟨l, ok1⟩ := ok.push (u := .dK kws) (o := dkO kvs) np fun H1 l e => RK.to e (e2.le l)
      exact q _ _ _ l ok1 (.loc (by rw [← ok.len]; simp [Sto.push]))
    · exact q.elim
  · exact q.elim
/-! ### xs[::-1] -/
def oRev (mk : List D → M D) : D → M D := fun x h => match lstD h x with
  | some xs => if xs.length ≤ lim then mk xs.reverse h else .bad
  | none => .bad
theorem ev_rev {mk : List D → M D} {k : Nat} {q1 q2 q3 : Pos} (m : MkOk X.K c mk) (ha : EE c X a fa) : EE c X (.Subscript a (.Slice none none (some (.UnaryOp .USub (.Constant (.int 1) k q1) q2)) q3) pos) (f1 (oRev mk) fa) := PE.imp (pe_revL ha) fun σ H Q ⟨ρ, h, s, ok, env, q⟩ => by
  refine ⟨ρ, h, s, ok, env, (M.all_bind.mp q).mono fun ⟨x, h1⟩ q1 ρ1 H1 v l1 ok1 r1 => ?_⟩
  unfold oRev at q1
  dsimp only at q1
  split at q1
  · rename_i xs hx
    split at q1
    · obtain ⟨a, vs, rfl, e1, e2⟩ := lstD_ok ok1 r1 hx
      exact ⟨_, _, rfl, SqL.of e1, (m.go ok1 e2.reverse (Tr.All.le l1 q1 fun r q => q.le l1)).2⟩
    · exact q1.elim
  · exact q1.elim
#print rSortedI
#check @RVs.reverse
#check @op_list
#print axioms op_bls
#check @op_bls
#check @bls_ok
end
end Ev

/-! Walks of a dict (locked meanwhile); truth; isinstance of two types; sorted ints; while. -/
namespace Ev
open PySem PySem.Spec PyProof.Rows L2 Dr
variable {c : Ct} [pl : Plain c]
/-! ### locking -/
/-- the object at a is known in another way, all else stands -/
structure Swp (H H1 : Hp) (a : Addr) : Prop where
  ne : ∀ b o, b ≠ a → H b = some o → H1 b = some o
  rd : ∀ u, (∀ o' u', u ≠ .frz o' u') → Rd H a u → Rd H1 a u
  no : ∀ o, H a = some o → (∀ vs, o ≠ .lst vs) ∧ (∀ C dx fs, o ≠ .ins C dx fs) ∧ (∀ e, o ≠ .xd e) ∧ (∀ cls od, o ≠ Ek.ExK cls od a) ∧ (∀ vs, o ≠ .tup vs) ∧ ∀ b q, o ≠ LamX.CodeO b q
  fz : ∀ o vs, H a ≠ some (.frz o (.tup vs))
  nc : ∀ q, H1 a ≠ some (LamX.CodeO a q)
section
variable {K : PySem.W.Frag} {ρ : Sto} {H H1 : Hp} {a : Addr}
theorem Swp.at (s : Swp H H1 a) {b : Addr} {o : HO} (e : H b = some o) (n : b = a → False) : H1 b = some o := s.ne b o n e
theorem Swp.rds (s : Swp H H1 a) {b : Addr} {u : HO} (n : ∀ o' u', u ≠ .frz o' u') (r : Rd H b u) : Rd H1 b u := by
  by_cases q : b = a
  · subst q; exact s.rd u n r
  · rcases r with r | ⟨o, r⟩
    · exact .inl (s.ne b _ q r)
    · exact .inr ⟨o, s.ne b _ q r⟩
theorem Swp.sq (s : Swp H H1 a) {b : Addr} {xs : List V} (r : SqT K H b xs) : SqT K H1 b xs := by
  rcases r with r | r
  · exact .inl (s.rds (fun _ _ z => by cases z) r)
  · exact .inr r
theorem tdO_frz {P : Program} {w : World} {a : Addr} {ks : List (NestedKey × Addr)} {vs : List V} : ∀ o' u', tdO P w a ks vs ≠ .frz o' u' := fun _ _ z => by unfold tdO at z; cases z
mutual
theorem RV.swp (s : Swp H H1 a) : ∀ (x : D) (v : V), RV K c H ρ x v → RV K c H1 ρ x v
  | .non, _, h => by cases h; exact .non
  | .bl b, _, h => by cases h; exact .bl b
  | .int b, _, h => by cases h; exact .int b
  | .str b, _, h => by cases h; exact .str b
  | .tup xs, _, h => by
    cases h with
    | tup h1 h2 => exact .tup (s.sq h1) (RVs.swp s xs _ h2)
  | .lst xs, _, h => by
    cases h with
    | lst h1 o h2 => exact .lst (s.at h1 fun z => by subst z; exact (s.no _ h1).1 _ rfl) o (RVs.swp s xs _ h2)
  | .dct ks xs, _, h => by
    cases h with
    | dct h1 o e h2 => exact .dct (s.rds (fun _ _ z => by cases z) h1) o e (RVs.swp s xs _ h2)
  | .tct ks xs, _, h => by
    cases h with
    | tct h1 o e h2 h3 => exact .tct (s.rds tdO_frz h1) o e (RVs.swp s ks _ h2) (RVs.swp s xs _ h3)
  | .loc n, _, h => by
    cases h with
    | loc h1 => exact .loc h1
  | .draw, _, h => by
    cases h with
    | draw h1 => exact .draw h1
  | .fn k, _, h => by
    cases h with
    | fn h1 => exact (pl.q _ _ _ _ h1).elim
  | .ins k fs, _, h => by
    cases h with
    | ins h1 o hk h2 => exact .ins (s.at h1 fun z => by subst z; exact (s.no _ h1).2.1 _ _ _ rfl) o hk (RVs.swp s fs _ h2)
  | .exn k fs, _, h => by
    cases h with
    | exn h1 o hk hf h2 =>
      refine .exn (s.at h1 fun z => by subst z; exact (s.no _ h1).2.2.2.1 _ _ rfl) o hk ⟨hf.1, fun z => ?_⟩ (RVs.swp s fs _ h2)
      obtain ⟨dd, z1, z2, z3⟩ := hf.2 z
      exact ⟨dd, z1, s.at z2 fun z => by subst z; exact (s.no _ z2).2.2.1 _ rfl, z3⟩
theorem RVs.swp (s : Swp H H1 a) : ∀ (xs : List D) (vs : List V), RVs K c H ρ xs vs → RVs K c H1 ρ xs vs
  | [], _, h => by cases h; exact .nil
  | x :: xs, _, h => by
    cases h with
    | cons h1 h2 => exact .cons (RV.swp s x _ h1) (RVs.swp s xs _ h2)
end
theorem RO.swp (s : Swp H H1 a) {o : O} {b : Addr} (n : o ≠ .dead → b ≠ a) (h : RO K c H ρ o b) : RO K c H1 ρ o b := by
  cases o with
  | lst xs => obtain ⟨vs, h1, h2⟩ := h; exact ⟨vs, s.ne _ _ (n (by simp)) h1, RVs.swp s _ _ h2⟩
  | dK ks xs => obtain ⟨vs, h1, h2, h3⟩ := h; exact ⟨vs, s.ne _ _ (n (by simp)) h1, h2, RVs.swp s _ _ h3⟩
  | tD ks xs => obtain ⟨kas, vs, h1, h2, h3, h4⟩ := h; exact ⟨kas, vs, s.ne _ _ (n (by simp)) h1, h2, RVs.swp s _ _ h3, RVs.swp s _ _ h4⟩
  | ins k fs => obtain ⟨dx, vs, h1, h2, h3⟩ := h; exact ⟨dx, vs, s.ne _ _ (n (by simp)) h1, h2, RVs.swp s _ _ h3⟩
  | dead => trivial
theorem Swp.there (s : Swp H H1 a) (e : ∃ u, H1 a = some u) {b : Addr} (h : ∃ u, H b = some u) : ∃ u, H1 b = some u := by
  by_cases q : b = a
  · subst q; exact e
  · obtain ⟨u, h⟩ := h; exact ⟨u, s.ne _ _ q h⟩
theorem Ok.swp (s : Swp H H1 a) (e : ∃ u, H1 a = some u) {h : List O} (na : a ∉ ρ.l) (ok : Ok K c ρ h H) (nd : Fix c.dw c.T a) : Ok K c ρ h H1 where
  len := ok.len
  nd := ok.nd
  objs := fun n o b e1 e2 => (ok.objs n o b e1 e2).swp s fun z => fun q => na (by rw [← q]; exact ok.lv n o b e1 e2 z)
  lv := ok.lv
  sub := ok.sub
  ex := fun b hb => s.there e (ok.ex b hb)
  dw := fun d g e z => by
    obtain ⟨D, h1⟩ := ok.dw d g e z
    obtain ⟨n1, n2⟩ := nd.1 d g e z
    refine ⟨D.keep fun b o hb eb => s.ne b o (fun q => ?_) eb, h1⟩
    subst q
    obtain ⟨⟨gs, cs, r, t, hd, hg, hc⟩, _⟩ := id D
    rcases hb with rfl | rfl | rfl
    · exact n1 rfl
    · exact n2 rfl
    · rw [hc] at eb; cases eb; exact (s.no _ hc).1 _ rfl
  hid := fun b hb => ⟨s.there e (ok.hid b hb).1, (ok.hid b hb).2⟩
  tab := ⟨tabs_keep ok.tab.1 fun b u eb w => s.ne b u (fun z => by
    subst z
    obtain ⟨q, hq, w⟩ := w
    rcases w with rfl | ⟨q', rfl⟩
    · exact nd.2 q hq rfl
    · exact (s.no _ eb).2.2.2.2.2 _ _ rfl) eb, ok.tab.2⟩
  kp := pl.p _ _
  code := fun b q eb hb => by
    by_cases z : b = a
    · subst z
      exact s.nc q eb
    · obtain ⟨u, hu⟩ := ok.ex b hb
      have := s.ne b u z hu
      rw [eb] at this
      cases this
      exact ok.code b q hu hb
theorem Env.swp (s : Swp H H1 a) {z : Sg} {σ : L2.St} (e : Env K c H ρ z σ) : Env K c H1 ρ z σ := ⟨e.1, fun i x h => let ⟨v, h1, h2⟩ := e.2 i x h; ⟨v, h1, RV.swp s _ _ h2⟩⟩
theorem swp_lock {u : HO} {od : Obj} (e : H a = some u) (nu : ∀ o' u', u ≠ .frz o' u') (no : (∀ vs, u ≠ .lst vs) ∧ (∀ C dx fs, u ≠ .ins C dx fs) ∧ (∀ e, u ≠ .xd e) ∧ (∀ cls od, u ≠ Ek.ExK cls od a) ∧ (∀ vs, u ≠ .tup vs) ∧ ∀ b q, u ≠ LamX.CodeO b q) : Swp H (upd H a (.frz od u)) a where
  ne := fun b o n e => by rw [upd_ne n]; exact e
  rd := fun v n r => by
    rcases r with r | ⟨o, r⟩
    · rw [e] at r; cases r; exact .inr ⟨od, upd_same⟩
    · rw [e] at r; cases r; exact absurd rfl (nu _ _)
  no := fun o z => by rw [e] at z; cases z; exact no
  fz := fun o vs z => by rw [e] at z; cases z; exact absurd rfl (nu _ _)
  nc := fun q z => by rw [upd_same] at z; unfold LamX.CodeO at z; cases z
theorem swp_open {u : HO} {od : Obj} (e : H a = some (.frz od u)) (nu : ∀ vs, u ≠ .tup vs) (nd : ∀ q, u ≠ LamX.CodeO a q) : Swp H (upd H a u) a where
  ne := fun b o n e => by rw [upd_ne n]; exact e
  rd := fun v n r => by
    rcases r with r | ⟨o, r⟩
    · rw [e] at r; cases r; exact absurd rfl (n _ _)
    · rw [e] at r; cases r; exact .inl upd_same
  no := fun o z => by
    rw [e] at z; cases z
    exact ⟨(fun _ => by intro z; cases z), (fun _ _ _ => by intro z; cases z), (fun _ => by intro z; cases z), (fun _ _ => by intro z; unfold Ek.ExK at z; cases z), (fun _ => by intro z; cases z), (fun _ _ => by intro z; unfold LamX.CodeO at z; cases z)⟩
  fz := fun o vs z => by rw [e] at z; cases z; exact nu _ rfl
  nc := fun q z => by rw [upd_same] at z; exact nd q (Option.some.inj z)
/-- back behind the lock -/
theorem LeD.open {ρ' : Sto} {H' : Hp} {u : HO} {od : Obj} (e : H a = some u) (nu : ∀ o' u', u ≠ .frz o' u') (nt : ∀ vs, u ≠ .tup vs) (l : Le c ρ (upd H a (.frz od u)) ρ' H') (e' : H' a = some (.frz od u)) : Le c ρ H ρ' (upd H' a u) where
  pre := l.pre
  new := fun p hp hn => by
    have := l.new p hp hn
    by_cases q : p = a
    · rw [q, upd_same] at this; cases this
    · rw [upd_ne q] at this; exact this
  fr := fun b o hb hd eb => by
    by_cases q : b = a
    · rw [q] at eb ⊢; rw [upd_same]; exact e.symm.trans eb
    · rw [upd_ne q]; exact l.fr b o hb hd (by rw [upd_ne q]; exact eb)
  tups := fun b xs eb => by
    by_cases q : b = a
    · rw [q, e] at eb; cases eb; exact absurd rfl (nt _)
    · rw [upd_ne q]; exact l.tups b xs (by rw [upd_ne q]; exact eb)
  frzs := fun b o z eb => by
    by_cases q : b = a
    · rw [q, e] at eb; cases eb; exact absurd rfl (nu _ _)
    · rw [upd_ne q]; exact l.frzs b o z (by rw [upd_ne q]; exact eb)
  kept := fun b eb => by
    by_cases q : b = a
    · rw [q, upd_same] at eb; cases eb
    · rw [upd_ne q] at eb
      have := l.kept b eb
      rwa [upd_ne q] at this
end
/-! ### for x in d, d a slot with a dict by content -/
def kD : Key → D
  | .inl i => .int i
  | .inr z => .str z
theorem kD_ok {K : PySem.W.Frag} {ρ : Sto} {H : Hp} (k : Key) : RV K c H ρ (kD k) (kV k) := by
  cases k with
  | inl i => exact .int i
  | inr z => exact .str z
def getK (ks : List Key) : Nat → List O → Option (Option D) := fun i _ => some (match ks[i]? with
  | some k => some (kD k)
  | none => none)
theorem feed_keys {K : PySem.W.Frag} {ρ : Sto} {H : Hp} {a : Addr} {od : Obj} {kws : List (Key × V)} {ks : List Key} (e : H a = some (.frz od (.dK kws))) (hk : kws.map (·.1) = ks) : Feed K c (Itk a od kws) (getK ks) ρ H := fun hid E ρ1 h1 H1 i hh l ok => by
  have e1 := l.frzs _ _ _ e
  subst hk
  refine ⟨fun z => ?_, fun x z => ?_⟩
  · unfold getK at z
    cases q : (kws.map (·.1))[i]? with
    | some y => rw [q] at z; cases z
    | none => exact ⟨e1, by simpa using List.getElem?_eq_none_iff.mp q⟩
  · unfold getK at z
    cases q : (kws.map (·.1))[i]? with
    | none => rw [q] at z; cases z
    | some y =>
      rw [q] at z
      cases z
      have hi : i < kws.length := by simpa using (List.getElem?_eq_some_iff.mp q).1
      refine ⟨⟨e1, hi⟩, fun w H' yl => ?_⟩
      obtain ⟨rfl, k, v, e2, rfl⟩ := yl
      have : y = k := by
        rw [List.getElem?_map, e2] at q
        simpa using q.symm
      subst this
      exact ⟨.refl, ok, kD_ok _⟩
section
variable {X : Cx} {tg e a b d : Expr} {es : List Expr} {fa fb : Sg → M D} {ft fu : Sg → M Bool} {fr : Sg → M (List D)} {pos p p1 p2 : Pos}
theorem for_loop {g : D → Sg → M Sg} {fb : Sg → M Out} {S : Src} {J : It} {E : Ends} {vs : List Nat} {ρ1 : Sto} {H1 : Hp} {h1 : List O} {s : Sg} {σ : L2.St} (ok1 : Ok X.K c ρ1 h1 H1) (env : Env X.K c H1 ρ1 s σ) (feed : Feed X.K c J S.get ρ1 H1)
    (q : (loop S.get (fun x s => M.bind (g x s) fb) S.fuel 0 s h1).All (PD X.K c ρ1 H1 E) (PX X.K c ρ1 H1)) :
    ∃ W : Nat → Nat → L2.St → Hp → Prop, (∃ m, W 0 m σ H1) ∧ ∀ (i m : Nat) (σ : L2.St) (H : Hp), W i m σ H → J.stop i H ∧ E.nx σ H ∨ J.go i H ∧ ∃ N : L2.St → Hp → Prop, (∀ σ' H', N σ' H' → ∃ m', m' < m ∧ W (i + 1) m' σ' H') ∧
      ∀ (x : V) (H' : Hp), J.yld i H x H' → tGt X.K c vs g x σ H' fun σ2 H2 => tS X.K c fb { nx := N, rt := E.rt, bk := E.nx, ct := N } σ2 H2 := by
  refine ⟨fun i m σ2 H2 => ∃ ρ2 h2 s2, Le c ρ1 H1 ρ2 H2 ∧ Ok X.K c ρ2 h2 H2 ∧ Env X.K c H2 ρ2 s2 σ2 ∧ (loop S.get (fun x s => M.bind (g x s) fb) m i s2 h2).All (PD X.K c ρ2 H2 E) (PX X.K c ρ2 H2), ⟨S.fuel, ρ1, h1, s, .refl, ok1, env, q⟩, ?_⟩
  rintro i m σ2 H2 ⟨ρ2, h2, s2, l2, ok2, env2, q2⟩
  obtain ⟨F1, F2⟩ := feed c.hid c.E ρ2 h2 H2 i (fun b z => .inl z) l2 ok2
  rcases hget : S.get i h2 with _ | _ | x
  · cases m <;> (simp only [loop, hget] at q2; exact q2.elim)
  · refine .inl ⟨F1 hget, ?_⟩
    cases m <;> (simp only [loop, hget] at q2; exact q2 ρ2 H2 σ2 .refl ok2 env2)
  · cases m with
    | zero => simp only [loop, hget] at q2; exact q2.elim
    | succ m =>
      simp only [loop, hget] at q2
      obtain ⟨go, F3⟩ := F2 x hget
      refine .inr ⟨go, fun σ3 H3 => ∃ ρ3 h3 s3, Le c ρ1 H1 ρ3 H3 ∧ Ok X.K c ρ3 h3 H3 ∧ Env X.K c H3 ρ3 s3 σ3 ∧ (loop S.get (fun x s => M.bind (g x s) fb) m (i + 1) s3 h3).All (PD X.K c ρ3 H3 E) (PX X.K c ρ3 H3), fun σ3 H3 z => ⟨m, Nat.lt_succ_self _, z⟩, fun v H3 y => ?_⟩
      obtain ⟨l3, ok3, r3⟩ := F3 v H3 y
      have q3 := M.all_bind.mp (Tr.all_bind.mp q2)
      refine ⟨ρ2, h2, s2, x, ok3, env2.le l3, r3, Tr.All.le l3 q3 fun ⟨s4, h4⟩ q4 ρ4 H4 σ4 l4 ok4 env4 _ => ?_⟩
      have l24 := l3.trans l4
      refine ⟨ρ4, h4, s4, ok4, env4, Tr.All.le l24 q4 fun ⟨o, h5⟩ q5 => ?_⟩
      cases o with
      | nx s5 => exact fun ρ5 H5 σ5 l5 ok5 env5 => ⟨ρ5, h5, s5, l2.trans (l24.trans l5), ok5, env5, Tr.All.le (l24.trans l5) q5 fun r q => q.le (l24.trans l5)⟩
      | ct s5 => exact fun ρ5 H5 σ5 l5 ok5 env5 => ⟨ρ5, h5, s5, l2.trans (l24.trans l5), ok5, env5, Tr.All.le (l24.trans l5) q5 fun r q => q.le (l24.trans l5)⟩
      | rt y => exact fun ρ5 H5 v l5 ok5 r5 => q5 ρ5 H5 v (l24.trans l5) ok5 r5
      | bk s5 => exact fun ρ5 H5 v l5 ok5 r5 => q5 ρ5 H5 v (l24.trans l5) ok5 r5
theorem ps_or {st : Stmt} {t u : TS} (h : PS X st t) (h2 : PS X st u) : PS X st (fun D σ H => t D σ H ∨ u D σ H) := ⟨fun pins s σ H D I q => q.elim (h.run pins s σ H D I) (h2.run pins s σ H D I)⟩
/-- a slot's value by content, then the statement -/
theorem es_fz {st : Stmt} {f : Sg → M Out} (i : Nat) (h : ES c X st f) : ES c X st (sSeq (sFz i) f) := PS.imp h fun E σ H ⟨ρ, hh, s, ok, env, q⟩ => by
  have q := M.all_bind.mp q
  unfold sFz at q
  split at q
  · rename_i x hx
    split at q
    · rename_i y h1 hy
      obtain ⟨v, g1, g2⟩ := env.2 i x hx
      obtain ⟨ρ1, a1, l1, ok1, r1, _⟩ := (frzK_ok far ρ hh x y h1 v ok hy g2).ex
      have env1 : Env X.K c H ρ1 (s.set i (some y)) σ := by
        have := (env.le l1).set (i := i) r1
        have e : σ.set i (some v) = σ := by
          obtain ⟨z1, z2⟩ := List.getElem?_eq_some_iff.mp g1
          rw [← z2, List.set_getElem_self]
        rwa [e] at this
      exact ⟨ρ1, h1, _, ok1, env1, Tr.All.le l1 q fun r q => q.le l1⟩
    · exact q.elim
  · exact q.elim
def sForK (i : Nat) (g : D → Sg → M Sg) (fb : Sg → M Out) : Sg → M Out := fun s h => match s[i]? with
  | some (some (.dct ks _)) => (loop (getK ks) (fun x s => M.bind (g x s) fb) ks.length 0 s h).calm
  | _ => .bad
theorem es_forK {x : Str} {body : List Stmt} {g : D → Sg → M Sg} {fb : Sg → M Out} (i : Nat) (vs : List Nat) (hg : EG c X vs tg g) (hb : ESs c X body fb) (hN : X.N[i]? = some x := by rfl) (hv : Vis X.env.scope x := by first | exact Or.inl rfl | exact Or.inr (Or.inl rfl) | exact Or.inr (Or.inr rfl))
    (hd : (x == ("__debug__" : Str)) = false := by decide) (hcd : (x == ("__classdict__" : Str)) = false := by decide) (hp : PassesOwn (model X.prog X.w) X.A X.env X.xe := by exact PassesOwn.never) (hc : X.calm = true := by rfl)
    (hs : ∀ y, foldedSetIterable (.Name x p1) X.env y = pure y := by intro _; rfl) : ES c X (.For tg (.Name x p1) body [] pos) (sForK i g fb) :=
  PS.imp (ps_or (ps_lock (ps_for hp hc (pi_keys (pe_var hN hv hd hcd)) hg hb hs)) (ps_for hp hc (pi_keys (pe_var hN hv hd hcd)) hg hb hs)) fun E σ H ⟨ρ, h, s, ok, env, q⟩ => by
    unfold sForK at q
    split at q
    · rename_i ks xs hx
      obtain ⟨v, g1, g2⟩ := env.2 i _ hx
      cases g2 with
      | @dct ad kws _ _ r0 off ek rv =>
        have q0 := q
        have q := Tr.all_calm (Y := PX X.K c ρ H) q
        rcases r0 with r0 | ⟨od, r0⟩
        · refine .inl ⟨ad, .dK kws, r0, trivial, fun od => ?_⟩
          have nu : ∀ o' u', HO.dK kws ≠ .frz o' u' := fun _ _ z => by cases z
          have nt : ∀ vs, HO.dK kws ≠ .tup vs := fun _ z => by cases z
          have sw := swp_lock (od := od) r0 nu ⟨(fun _ => by intro z; cases z), (fun _ _ _ => by intro z; cases z), (fun _ => by intro z; cases z), (fun _ _ => by intro z; unfold Ek.ExK at z; cases z), nt, (fun _ _ => by intro z; unfold LamX.CodeO at z; cases z)⟩
          have okL : Ok X.K c ρ h (upd H ad (.frz od (.dK kws))) := ok.swp sw ⟨_, upd_same⟩ off.st off.dw
          have envL := env.swp sw
          refine ⟨_, g1, ad, od, rfl, .inl ⟨kws, upd_same, ?_⟩⟩
          refine for_loop (S := ⟨ks.length, getK ks⟩) okL envL (feed_keys upd_same ek) ?_
          · refine Tr.All.mono (Tr.all_calm q0) fun ⟨o, h2⟩ q2 => ?_
            have back : ∀ ρ' H', Le c ρ (upd H ad (.frz od (.dK kws))) ρ' H' → Ok X.K c ρ' h2 H' → H' ad = some (.frz od (.dK kws)) ∧ Le c ρ H ρ' (upd H' ad (.dK kws)) ∧ Ok X.K c ρ' h2 (upd H' ad (.dK kws)) ∧ Swp H' (upd H' ad (.dK kws)) ad := fun ρ' H' l ok' => by
              have e' := l.frzs _ _ _ (upd_same (H := H) (a := ad) (o := .frz od (.dK kws)))
              have s2 := swp_open e' nt (fun q z => by unfold LamX.CodeO at z; cases z)
              have l2 := l.open r0 nu nt e'
              have o2 := l2.off r0 off
              exact ⟨e', l2, ok'.swp s2 ⟨_, upd_same⟩ o2.2.st off.dw, s2⟩
            cases o with
            | nx s2 => exact fun ρ' H' σ' l ok' env' => let ⟨e', l2, ok2, s2⟩ := back ρ' H' l ok'; ⟨e', q2 ρ' _ σ' l2 ok2 (env'.swp s2)⟩
            | rt y => exact fun ρ' H' w l ok' r' => let ⟨e', l2, ok2, s2⟩ := back ρ' H' l ok'; ⟨e', q2 ρ' _ w l2 ok2 (RV.swp s2 _ _ r')⟩
            | bk s2 => exact fun ρ' H' σ' l ok' env' => let ⟨e', l2, ok2, s2⟩ := back ρ' H' l ok'; ⟨e', q2 ρ' _ σ' l2 ok2 (env'.swp s2)⟩
            | ct s2 => exact fun ρ' H' σ' l ok' env' => let ⟨e', l2, ok2, s2⟩ := back ρ' H' l ok'; ⟨e', q2 ρ' _ σ' l2 ok2 (env'.swp s2)⟩
        · refine .inr ⟨_, g1, ad, od, rfl, .inl ⟨kws, r0, ?_⟩⟩
          exact for_loop (S := ⟨ks.length, getK ks⟩) ok env (feed_keys r0 ek) q
    · exact q.elim
end
end Ev

/-! isinstance of two types; sorted ints; truth; while; three names at once. -/
namespace Ev
open PySem PySem.Spec PyProof.Rows L2 Dr
variable {c : Ct}
section
variable {X : Cx} {tg e a b d : Expr} {es : List Expr} {fa fb : Sg → M D} {ft fu : Sg → M Bool} {fr : Sg → M (List D)} {pos p p1 p2 : Pos}
/-! ### isinstance(x, (S, T)) -/
theorem kitAny_two {K : PySem.W.Frag} {t u1 u2 : Value} {b1 b2 : Bool} (h1 : PySem.W.kitOne K t u1 = some b1) (h2 : PySem.W.kitOne K t u2 = some b2) : PySem.W.kitAny K t [u1, u2] = some (b1 || b2) := by
  cases b1 <;> cases b2 <;> simp [PySem.W.kitAny, h1, h2]
def isI2 (g1 g2 : Tg) : D → M D := fun x h => match tyD h x with
  | some t => match isTab g1 t, isTab g2 t with
    | some b, some b' => .ret (.bl (b || b'), h)
    | _, _ => .bad
  | none => .bad
theorem Tg.clsV {c : Ct} (g : Tg) : ClsV (g.v c) (g.val c) := by cases g <;> first | exact .ty _ | exact .own _
theorem ev_isi2 {k : Nat} {b1 b2 : Expr} (g1 g2 : Tg) (F : Facts X.K c) (k1 : KitOk X.K c g1) (k2 : KitOk X.K c g2) (mI : X.mg "isinstance" = none) (ha : EE c X a fa) (hT1 : PE X b1 (tC (g1.v c))) (hT2 : PE X b2 (tC (g2.v c))) (hg : Gl X "isinstance" := by rfl)
    (hs : starEach [a, .Tuple [b1, b2] k p2] X.env = (false, eval a X.env) :: starEach [.Tuple [b1, b2] k p2] X.env := by rfl) (hs2 : starEach [.Tuple [b1, b2] k p2] X.env = (false, eval (.Tuple [b1, b2] k p2) X.env) :: starEach [] X.env := by rfl) (hp : (backTo pos (starEach [.Tuple [b1, b2] k p2] X.env)).any (·.1) = false := by rfl)
    (hs3 : starEach [b1, b2] X.env = (false, eval b1 X.env) :: starEach [b2] X.env := by rfl) (hs4 : starEach [b2] X.env = (false, eval b2 X.env) :: starEach [] X.env := by rfl) :
    EE c X (.Call (.Name "isinstance" p) [a, .Tuple [b1, b2] k p2] [] pos) (f1 (isI2 g1 g2) fa) :=
  PE.imp (pe_callB call_isiT hg mI boot_isinstance (pa_cons ha (pa_cons (pe_tup (pa_cons hT1 (pa_cons hT2 pa_nil hs4) hs3)) pa_nil hs2) hs) (by decide) (by decide) hs hp) fun σ H Q ⟨ρ, h, s, ok, env, q⟩ => by
    refine ⟨ρ, h, s, ok, env, (M.all_bind.mp q).mono fun ⟨x, h1⟩ q1 ρ1 H1 v l1 ok1 r1 => ?_⟩
    refine ⟨by show 2 ≤ sizeLine; decide, fun tp np => ?_⟩
    dsimp only [isI2] at q1
    split at q1
    · rename_i t ht
      split at q1
      · rename_i b' b2' hb1 hb2
        obtain ⟨l2, ok2⟩ := ok1.other (o := .tup [g1.v c, g2.v c]) np
        obtain ⟨tx, hk⟩ := tyX_of F ok2 (r1.le l2) ht
        exact ⟨v, tp, [g1.v c, g2.v c], t.val c, [g1.val c, g2.val c], b' || b2', rfl, upd_same, .cons (Tg.clsV g1) (.cons (Tg.clsV g2) .nil), tx, kitAny_two (k1 t b' hb1 hk) (k2 t b2' hb2 hk), q1 ρ1 _ _ (l1.trans l2) ok2 (.bl _)⟩
      · exact q1.elim
    · exact q1.elim
/-! ### sorted ints -/
def insI (i : Int) : List Int → List Int
  | [] => [i]
  | j :: js => if i ≤ j then i :: j :: js else j :: insI i js
def sortI : List Int → List Int
  | [] => []
  | i :: is => insI i (sortI is)
theorem insI_perm (i : Int) : ∀ l : List Int, (insI i l).Perm (i :: l)
  | [] => .refl _
  | j :: js => by
    unfold insI
    split
    · exact .refl _
    · exact ((insI_perm i js).cons j).trans (.swap _ _ _)
theorem sortI_perm : ∀ l : List Int, (sortI l).Perm l
  | [] => .refl _
  | i :: is => (insI_perm i _).trans ((sortI_perm is).cons i)
theorem insI_sorted (i : Int) : ∀ l : List Int, l.Pairwise (· ≤ ·) → (insI i l).Pairwise (· ≤ ·)
  | [], _ => by simp [insI]
  | j :: js, h => by
    unfold insI
    obtain ⟨h1, h2⟩ := List.pairwise_cons.mp h
    split
    · rename_i hij
      refine List.pairwise_cons.mpr ⟨fun k hk => ?_, h⟩
      rcases List.mem_cons.mp hk with rfl | hk
      · exact hij
      · exact Int.le_trans hij (h1 k hk)
    · rename_i hij
      refine List.pairwise_cons.mpr ⟨fun k hk => ?_, insI_sorted i js h2⟩
      rcases List.mem_cons.mp ((insI_perm i js).mem_iff.mp hk) with rfl | hk
      · omega
      · exact h1 k hk
theorem sortI_sorted : ∀ l : List Int, (sortI l).Pairwise (· ≤ ·)
  | [] => .nil
  | i :: is => insI_sorted i _ (sortI_sorted is)
theorem sort_uniq : ∀ {a b : List Int}, a.Perm b → a.Pairwise (· ≤ ·) → b.Pairwise (· ≤ ·) → a = b
  | [], b, p, _, _ => by rw [List.nil_perm.mp p]
  | x :: xs, [], p, _, _ => absurd p.length_eq (by simp)
  | x :: xs, y :: ys, p, ha, hb => by
    obtain ⟨a1, a2⟩ := List.pairwise_cons.mp ha
    obtain ⟨b1, b2⟩ := List.pairwise_cons.mp hb
    have e : x = y := by
      have h1 : x ∈ y :: ys := p.mem_iff.mp (by simp)
      have h2 : y ∈ x :: xs := p.mem_iff.mpr (by simp)
      rcases List.mem_cons.mp h1 with h1 | h1
      · exact h1
      · rcases List.mem_cons.mp h2 with h2 | h2
        · exact h2.symm
        · exact Int.le_antisymm (a1 _ h2) (b1 _ h1)
    subst e
    rw [sort_uniq (List.Perm.cons_inv p) a2 b2]
def oIntD : D → Option Int
  | .int i => some i
  | _ => none
def oSortI (mk : List D → M D) : List D → M D := fun xs h => match xs with
  | [x] => match lstD h x with
    | some ys => match mapO oIntD ys with
      | some is => mk ((sortI is).map .int) h
      | none => .bad
    | none => .bad
  | _ => .bad
theorem ints_ok {K : PySem.W.Frag} {ρ : Sto} {H : Hp} : ∀ {xs : List D} {is : List Int} {ws : List V}, mapO oIntD xs = some is → RVs K c H ρ xs ws → ws = is.map V.int
  | [], _, _, e, r => by cases r; simp only [mapO] at e; cases e; rfl
  | x :: xs, _, _, e, r => by
    cases r with
    | cons r1 r2 =>
      simp only [mapO] at e
      split at e
      · rename_i i hi
        split at e
        · rename_i js hjs
          cases e
          rw [ints_ok hjs r2]
          cases r1 <;> simp only [oIntD] at hi <;> cases hi
          rfl
        · cases e
      · cases e
theorem rv_ints {K : PySem.W.Frag} {ρ : Sto} {H : Hp} : ∀ is : List Int, RVs K c H ρ (is.map D.int) (is.map V.int)
  | [] => .nil
  | i :: is => .cons (.int i) (rv_ints is)
theorem op_sortedI {K : PySem.W.Frag} {mk : List D → M D} (m : MkOk K c mk) : OpN K c (rSortedI K) (oSortI mk) := fun {ρ h H xs vs Q} ok r q => by
  unfold oSortI at q
  split at q
  · split at q
    · rename_i ys hx
      split at q
      · rename_i is his
        obtain ⟨v, rfl, r1⟩ := vs1 r
        obtain ⟨a, us, rfl, e1, e2⟩ := lstD_ok ok r1 hx
        have := ints_ok his e2
        subst this
        refine ⟨a, is, rfl, SqL.of e1, fun ns p hp hs np => ?_⟩
        have e : ns = sortI is := sort_uniq (hp.trans (sortI_perm is).symm) hs (sortI_sorted is)
        subst e
        exact (m.go ok (rv_ints _) q).2 p np
      · exact q.elim
    · exact q.elim
  · exact q.elim
/-! ### truth of a value -/
def truD (h : List O) : D → Option Bool
  | .non => some false
  | .bl b => some b
  | .int i => some (i != 0)
  | .str z => if z.length ≤ lim then some ((z.length : Int) != 0) else none
  | .tup xs => some (!xs.isEmpty)
  | x => match lstD h x with
    | some xs => some (!xs.isEmpty)
    | none => none
def asT : D → M Bool := fun x h => match truD h x with
  | some b => .ret (b, h)
  | none => .bad
def tTruth (fa : Sg → M D) : Sg → M Bool := fun s => M.bind (fa s) asT
theorem RVs.empty {K : PySem.W.Frag} {ρ : Sto} {H : Hp} {xs : List D} {vs : List V} (r : RVs K c H ρ xs vs) : xs.isEmpty = vs.isEmpty := by cases r <;> rfl
theorem tru_ok {K : PySem.W.Frag} {ρ h H x v b} (ok : Ok K c ρ h H) (r : RV K c H ρ x v) (e : truD h x = some b) : TruV K v H b := by
  have far_ : ∀ {xs}, lstD h x = some xs → b = !xs.isEmpty → TruV K v H b := fun hx hb => by
    obtain ⟨a, vs, rfl, e1, e2⟩ := lstD_ok ok r hx
    exact .inl ⟨vs, SqL.of e1, by rw [hb, e2.empty]⟩
  unfold truD at e
  split at e
  · cases e; cases r; rfl
  · cases e; cases r; rfl
  · cases e; cases r; rfl
  · split at e
    · rename_i hz
      cases e; cases r
      exact ⟨Nat.le_of_lt (lim_line hz), rfl⟩
    · cases e
  · cases e
    cases r with
    | tup h1 h2 => exact .inr (.inl ⟨_, h1, by rw [h2.empty]⟩)
  · split at e
    · rename_i hx
      cases e
      exact far_ hx rfl
    · cases e
theorem et_truth (h : EE c X e fa) (he : ∀ whole, isTrue e X.env whole = (do let v ← whole; standAt e.pos; holding [v] (truthy v)) := by intro _; rfl) : ET c X e (tTruth fa) := PT.imp (pt_truth h he) fun σ H Q ⟨ρ, h, s, ok, env, q⟩ => by
  refine ⟨ρ, h, s, ok, env, (M.all_bind.mp q).mono fun ⟨x, h1⟩ q1 ρ1 H1 v l1 ok1 r1 => ?_⟩
  dsimp only [asT] at q1
  split at q1
  · rename_i b hb
    exact ⟨b, tru_ok ok1 r1 hb, q1 ρ1 H1 l1 ok1⟩
  · exact q1.elim
/-! ### while, at most so many turns -/
def wloop (ft : Sg → M Bool) (fb : Sg → M Out) : Nat → Sg → M Out
  | 0 => fun _ _ => .bad
  | n + 1 => fun s => M.bind (ft s) fun b => if b = true then M.bind (fb s) fun o => match o with
    | .nx s' => wloop ft fb n s'
    | .ct s' => wloop ft fb n s'
    | .bk s' => M.ret (.nx s')
    | .rt y => M.ret (.rt y) else M.ret (.nx s)
def sWhile (n : Nat) (ft : Sg → M Bool) (fb : Sg → M Out) : Sg → M Out := wloop ft fb n
theorem es_while {body : List Stmt} {fb : Sg → M Out} (n : Nat) (ht : ET c X e ft) (hb : ESs c X body fb) (hp : PassesOwn (model X.prog X.w) X.A X.env X.xe := by exact PassesOwn.never) : ES c X (.While e body [] pos) (sWhile n ft fb) :=
  PS.imp (ps_while hp ht hb) fun E σ H ⟨ρ, h, s, ok, env, q⟩ => by
    refine ⟨fun m σ1 H1 => ∃ ρ1 h1 s1, Le c ρ H ρ1 H1 ∧ Ok X.K c ρ1 h1 H1 ∧ Env X.K c H1 ρ1 s1 σ1 ∧ (wloop ft fb m s1 h1).All (PD X.K c ρ1 H1 E) (PX X.K c ρ1 H1), ⟨n, ρ, h, s, .refl, ok, env, q⟩, ?_⟩
    rintro m σ1 H1 ⟨ρ1, h1, s1, l1, ok1, env1, q1⟩
    cases m with
    | zero => exact q1.elim
    | succ m =>
      simp only [wloop] at q1
      refine ⟨ρ1, h1, s1, ok1, env1, Tr.All.mono (M.all_bind.mp q1) fun ⟨k, h2⟩ q2 ρ2 H2 l2 ok2 => ?_⟩
      dsimp only at q2 ⊢
      by_cases hk : k = true
      · rw [if_pos hk] at q2 ⊢
        refine ⟨fun σ3 H3 => ∃ ρ3 h3 s3, Le c ρ H ρ3 H3 ∧ Ok X.K c ρ3 h3 H3 ∧ Env X.K c H3 ρ3 s3 σ3 ∧ (wloop ft fb m s3 h3).All (PD X.K c ρ3 H3 E) (PX X.K c ρ3 H3), fun σ' H' z => ⟨m, Nat.lt_succ_self _, z⟩, ?_⟩
        refine ⟨ρ2, h2, s1, ok2, env1.le l2, Tr.All.le l2 (M.all_bind.mp q2) fun ⟨o, h3⟩ q3 => ?_⟩
        have l12 := l1.trans l2
        cases o with
        | nx s5 => exact fun ρ5 H5 σ5 l5 ok5 env5 => ⟨ρ5, h3, s5, l12.trans l5, ok5, env5, Tr.All.le (l2.trans l5) q3 fun r q => q.le (l2.trans l5)⟩
        | ct s5 => exact fun ρ5 H5 σ5 l5 ok5 env5 => ⟨ρ5, h3, s5, l12.trans l5, ok5, env5, Tr.All.le (l2.trans l5) q3 fun r q => q.le (l2.trans l5)⟩
        | rt y => exact fun ρ5 H5 v l5 ok5 r5 => q3 ρ5 H5 v (l2.trans l5) ok5 r5
        | bk s5 => exact fun ρ5 H5 v l5 ok5 r5 => q3 ρ5 H5 v (l2.trans l5) ok5 r5
      · rw [if_neg hk] at q2 ⊢
        exact q2 ρ2 H2 σ1 l2 ok2 (env1.le l2)
/-! ### a, b, c = x, y, z -/
theorem vs3 {K : PySem.W.Frag} {ρ H x y z vs} (r : RVs K c H ρ [x, y, z] vs) : ∃ u v w, vs = [u, v, w] ∧ RV K c H ρ x u ∧ RV K c H ρ y v ∧ RV K c H ρ z w := by
  cases r with
  | cons r1 r2 =>
    obtain ⟨v, w, rfl, r3, r4⟩ := vs2 r2
    exact ⟨_, _, _, rfl, r1, r3, r4⟩
theorem es_par3 {x y z : Str} {kt k2 : Nat} {px py pz pt pt2 : Pos} (i j k : Nat) (hN : X.N.Nodup) (hij : i ≠ j) (hik : i ≠ k) (hjk : j ≠ k) (ha : EA c X [a, b, d] fr) (hi : X.N[i]? = some x := by rfl) (hj : X.N[j]? = some y := by rfl) (hk : X.N[k]? = some z := by rfl) (hx : X.env.scope.names.lookup x = some .local := by rfl) (hy : X.env.scope.names.lookup y = some .local := by rfl) (hz : X.env.scope.names.lookup z = some .local := by rfl) (hc : X.calm = true := by rfl)
    (hw : swappedStores [.Tuple [.Name x px, .Name y py, .Name z pz] kt pt] (.Tuple [a, b, d] k2 pt2) X.env = pure (some [x, y, z]) := by rfl) (hs : swapsWithSole [.Tuple [.Name x px, .Name y py, .Name z pz] kt pt] (.Tuple [a, b, d] k2 pt2) pos.line X.env = pure false := by rfl) :
    ES c X (.Assign [.Tuple [.Name x px, .Name y py, .Name z pz] kt pt] (.Tuple [a, b, d] k2 pt2) pos) (sPar3 i j k fr) :=
  PS.imp (ps_par3 hc hN hi hj hk hij hik hjk hx hy hz ha hw hs) fun E σ H ⟨ρ, h, s, ok, env, q⟩ => by
    refine ⟨ρ, h, s, ok, env, (M.all_bind.mp q).mono fun ⟨o, h1⟩ q1 ρ1 H1 v l1 ok1 r1 => ?_⟩
    rcases o with _ | ⟨x, _ | ⟨y, _ | ⟨z, _ | _⟩⟩⟩
    · exact q1.elim
    · exact q1.elim
    · exact q1.elim
    · obtain ⟨u, v, w, rfl, r2, r3, r4⟩ := vs3 r1
      exact ⟨u, v, w, rfl, q1 ρ1 H1 _ l1 ok1 ((((env.le l1).set r2).set r3).set r4)⟩
    · exact q1.elim
end
end Ev

/-! The usual law: draws, then turns. -/
namespace Ev
open PySem PySem.Spec PyProof.Rows L2 Dr
def Tr.allB {α : Type} (p : α → Bool) : Tr α → Bool
  | .ret a => p a
  | .bad => false
  | .err _ _ _ => false
  | .pick n k => (List.range n).all fun i => (k i).allB p
theorem Tr.all_of {α : Type} {p : α → Bool} {P : α → Prop} {X : XP} (h : ∀ a, p a = true → P a) : ∀ {t : Tr α}, t.allB p = true → t.All P X
  | .ret a, e => h a e
  | .bad, e => by simp [Tr.allB] at e
  | .err _ _ _, e => by simp [Tr.allB] at e
  | .pick n k, e => fun i hi => Tr.all_of h (List.all_eq_true.mp e i (List.mem_range.mpr hi))
def tSx {δ : Type} (K : PySem.W.Frag) (ct : δ → Ct) (f : Sg → M Out) : TS := fun E σ H => ∃ dw, tS K (ct dw) f E σ H
theorem ess_any {δ : Type} {X : Cx} {sts : List Stmt} {ct : δ → Ct} {f : Sg → M Out} (h : ∀ dw, ESs (ct dw) X sts f) : PSs X sts (tSx X.K ct f) := ⟨fun pins s σ H D I ⟨dw, q⟩ => (h dw).run pins s σ H D I q⟩
def drawS (n : Nat) : Sg := none :: some .draw :: List.replicate (n - 2) none
def okNx (n : Nat) (r : Out × List O) : Bool := match r.1 with
  | .nx s => s.length == n && (match (s[1]? : Option (Option D)) with
    | some (some D.draw) => true
    | _ => false)
  | _ => false
section
variable {K : PySem.W.Frag} {c : Ct} {ρ : Sto} {H : Hp} {d g e : Addr} {n : Nat}
theorem env_draw {σ : L2.St} (hc : c.dw = some (d, g, e)) (h2 : 2 ≤ n) (hl : σ.length = n) (h1 : σ[1]? = some (some (.ref d))) : Env K c H ρ (drawS n) σ := by
  refine ⟨by simp [drawS, hl]; omega, fun i x hx => ?_⟩
  match i, hx with
  | 0, hx => simp [drawS] at hx
  | 1, hx =>
    simp [drawS] at hx
    subst hx
    exact ⟨_, h1, .draw hc⟩
  | i + 2, hx =>
    simp only [drawS, List.getElem?_cons_succ] at hx
    have := List.mem_of_getElem? hx
    rw [List.mem_replicate] at this
    cases this.2
theorem ok_draw (hc : c.dw = some (d, g, e)) (hh : c.hid = []) (D : Dw H d g e) (ht : LamX.Tabs c.T H) (hk : c.kp.p Sto.nil H) : Ok K c Sto.nil [] H := ⟨rfl, List.nodup_nil, fun n o a e => by simp at e, fun n o a e => by simp at e, fun a h => h, fun a h => by simp [Sto.nil] at h, fun d' g' e' z => by
  rw [hc] at z
  cases z
  exact ⟨D, by simp [Sto.nil], by simp [Sto.nil], by simp [Sto.nil]⟩, fun a h => (by rw [hh] at h; cases h), ⟨ht, by simp [Sto.nil]⟩, hk, by simp [Sto.nil]⟩
theorem turn_of {E : Ends} (hc : c.dw = some (d, g, e)) {r : Out × List O} (h : okNx n r = true) (hE : ∀ σ H', σ.length = n → σ[1]? = some (some (V.ref d)) → Dw H' d g e → LamX.Tabs c.T H' → E.nx σ H') : PD K c ρ H E r := by
  obtain ⟨o, h'⟩ := r
  unfold okNx at h
  cases o with
  | nx s =>
    have h := Bool.and_eq_true_iff.mp h
    intro ρ1 H1 σ l ok env
    have e1 : s.length = n := by simpa using h.1
    have e2 := h.2
    split at e2
    · rename_i hs
      obtain ⟨v, h1, h2⟩ := env.2 1 _ hs
      cases h2 with
      | draw hd =>
        rw [hc] at hd
        cases hd
        exact hE σ H1 (by rw [← env.1, e1]) h1 (ok.dw _ _ _ hc).1 ok.tab.1
    · cases e2
  | rt x => cases h
  | bk s => cases h
  | ct s => cases h
end
/-! the ways one by one -/
def Tr.sub {α : Type} : Tr α → Nat → Tr α
  | .pick n k, i => if i < n then k i else .bad
  | _, _ => .bad
def Tr.isPick {α : Type} (n : Nat) : Tr α → Bool
  | .pick m _ => m == n
  | _ => false
theorem Tr.split {α : Type} {p : α → Bool} {n : Nat} : ∀ {t : Tr α}, t.isPick n = true → (∀ i, i < n → (t.sub i).allB p = true) → t.allB p = true
  | .ret _, h, _ => Bool.noConfusion h
  | .bad, h, _ => Bool.noConfusion h
  | .err _ _ _, h, _ => Bool.noConfusion h
  | .pick m k, h, q => by
    have e : m = n := by simpa [Tr.isPick] using h
    subst e
    refine List.all_eq_true.mpr fun i hi => ?_
    have hi := List.mem_range.mp hi
    have := q i hi
    simpa only [Tr.sub, if_pos hi] using this
theorem Tr.split2 {α : Type} {p : α → Bool} {n m : Nat} {t : Tr α} (h : t.isPick n = true) (h2 : ∀ i, i < n → (t.sub i).isPick m = true) (q : ∀ i, i < n → ∀ j, j < m → ((t.sub i).sub j).allB p = true) : t.allB p = true :=
  Tr.split h fun i hi => Tr.split (h2 i hi) (q i hi)
/-- a step that gives True -/
def isT (r : D × List O) : Bool := match r.1 with
  | .bl true => true
  | _ => false
/-- a step has just one outcome -/
structure Is {α : Type} (m : Tr (α × List O)) (v : α) (h : List O) : Prop where
  out : ∀ X, m.All (fun r => r = (v, h)) X
theorem pure_true {F : List D → M D} {xs : List D} (hx : noLs xs = true) (h : (F xs []).allB isT = true) (g : List O) : Is (oPure F xs g) (.bl true) g := by
  refine ⟨fun X => ?_⟩
  unfold oPure
  rw [if_pos hx]
  refine Tr.all_both.mpr ((Tr.all_of (P := fun r => isT r = true) (X := fun _ _ _ => False) (fun _ h => h) h).mono2 (fun r hr => ?_) fun _ _ _ z => z.elim)
  unfold isT at hr
  split at hr
  · rename_i e
    rw [e, show frz r.2 far (D.bl true) = some (D.bl true) from rfl]
    exact rfl
  · cases hr
theorem Is.bind {α β : Type} {m : M α} {f : α → M β} {h g : List O} {v : α} {P : β × List O → Prop} {X : XP} (a : Is (m h) v g) (b : (f v g).All P X) : (M.bind m f h).All P X := M.all_bind.mpr (Tr.All.mono (a.out X) fun r e => by rw [e]; exact b)
theorem is_val {fa : Sg → M D} {s : Sg} {h g : List O} {b : Bool} (a : Is (fa s h) (.bl b) g) : Is (tVal fa s h) b g := ⟨fun _ => Is.bind a rfl⟩
theorem is_not {ft : Sg → M Bool} {s : Sg} {h g : List O} {b : Bool} (a : Is (ft s h) b g) : Is (tNotF ft s h) (!b) g := ⟨fun _ => Is.bind a rfl⟩
theorem is_or {ft fu : Sg → M Bool} {s : Sg} {h g k : List O} {b : Bool} (a : Is (ft s h) false g) (a2 : Is (fu s g) b k) : Is (tOrF ft fu s h) b k := ⟨fun X => Is.bind a (a2.out X)⟩
theorem is_and {ft fu : Sg → M Bool} {s : Sg} {h g k : List O} {b : Bool} (a : Is (ft s h) true g) (a2 : Is (fu s g) b k) : Is (tAndF ft fu s h) b k := ⟨fun X => Is.bind a (a2.out X)⟩
/-- a block goes on to the next turn -/
structure Nx (n : Nat) (m : Tr (Out × List O)) : Prop where
  out : ∀ X, m.All (fun r => okNx n r = true) X
theorem nx_turn {n : Nat} {m : Tr (Out × List O)} {P : Out × List O → Prop} {X : XP} (h : Nx n m) (k : ∀ r, okNx n r = true → P r) : m.All P X := (h.out X).mono k
theorem nx_of {n : Nat} {m : Tr (Out × List O)} (h : m.allB (okNx n) = true) : Nx n m := ⟨fun _ => Tr.all_of (fun _ e => e) h⟩
theorem nx_if {n : Nat} {ft : Sg → M Bool} {f1 f2 : Sg → M Out} {s : Sg} {h g : List O} (a : Is (ft s h) false g) (b : Nx n (f2 s g)) : Nx n (sIf ft f1 f2 s h) := ⟨fun X => Is.bind a (b.out X)⟩
theorem nx_seq {n : Nat} {f1 f2 : Sg → M Out} {s s' : Sg} {h g : List O} (a : Is (f1 s h) (.nx s') g) (b : Nx n (f2 s' g)) : Nx n (sSeq f1 f2 s h) := ⟨fun X => Is.bind a (b.out X)⟩
theorem is_if {ft : Sg → M Bool} {f1 f2 : Sg → M Out} {s : Sg} {h g g' : List O} {o : Out} (a : Is (ft s h) false g) (b : Is (f2 s g) o g') : Is (sIf ft f1 f2 s h) o g' := ⟨fun X => Is.bind a (b.out X)⟩
theorem is_nx {s : Sg} {h : List O} : Is (sNx s h) (.nx s) h := ⟨fun _ => rfl⟩
theorem nx_end {n : Nat} {s : Sg} {h : List O} (a : okNx n (.nx s, h) = true) : Nx n (sNx s h) := ⟨fun _ => a⟩
theorem is_call {F : List D → M D} {i : Nat} {s : Sg} {h g : List O} {x y : D} (hx : s[i]? = some (some x)) (a : Is (F [x] h) y g) : Is (fN F (fCons (fVar i) fNil) s h) y g := by
  have e : fCons (fVar i) fNil s h = .ret ([x], h) := by
    unfold fCons fVar fNil
    show ((match s[i]? with
      | some (some x) => .ret (x, h)
      | _ => .bad : Tr (D × List O)).bind _) = _
    rw [hx]
    rfl
  refine ⟨fun X => ?_⟩
  unfold fN
  refine M.all_bind.mpr ?_
  rw [e]
  exact a.out X
section
variable {K : PySem.W.Frag} {c : Ct} {ρ : Sto} {H : Hp} {d g e : Addr} {n : Nat}
theorem tSx_turn {δ : Type} {ct : δ → Ct} {dw : δ} {f : Sg → M Out} {E : Ends} {σ : L2.St} (hd : (ct dw).dw = some (d, g, e)) (hh : (ct dw).hid = []) (D : Dw H d g e) (h2 : 2 ≤ n) (hl : σ.length = n) (h1 : σ[1]? = some (some (V.ref d))) (chk : Nx n (f (drawS n) [])) (ht : LamX.Tabs (ct dw).T H) (hk : (ct dw).kp.p Sto.nil H)
    (hE : ∀ σ H', σ.length = n → σ[1]? = some (some (V.ref d)) → Dw H' d g e → LamX.Tabs (ct dw).T H' → E.nx σ H') : tSx K ct f E σ H := ⟨dw, Sto.nil, [], drawS n, ok_draw hd hh D ht hk, env_draw hd h2 hl h1, (chk.out _).mono fun r hr => turn_of hd hr hE⟩
end
def spLaw (K : PySem.W.Frag) : Sp := fun vs H Q _ => ∃ (a : Addr) (ns : List Int), vs = [.ref a] ∧ SqL K H a (ns.map V.int) ∧ ns.length ≤ 63 ∧ ∀ H', Q (.bl true) H'
theorem ok_get {P : Program} {w : World} {K : PySem.W.Frag} {mg : Str → Option Value} {base : Heap} {C f : Addr} {fd : FuncData} {x qual fld : Str} {st : Stmt} {p1 p2 p3 : Pos} (F : Fun K x qual st f fd) (S : FnScope ["self"] ["self"] (defScope st))
    (hb : defBody st = [.Return (some (.Attribute (.Name "self" p1) fld p2)) p3]) (c : Cls K C) (n : NoAttr K C fld) : FnOk P w K mg base CX0 1 f fd ["self"] (getSp C fld) := by
  obtain ⟨oc, od, kV, doc, pm, an, cdv, ct, osl, rfl, look, code⟩ := F.ex
  exact fn_getter look code S rfl hb c n
end Ev
/-! arguments that are drawn -/
namespace Ev
open PySem PySem.Spec PyProof.Rows L2 Dr
theorem is_fN {op : List D → M D} {fa : Sg → M (List D)} {s : Sg} {h : List O} {v : D} {g : List O} (q : ∀ X, (fa s h).All (fun r => Is (op r.1 r.2) v g) X) : Is (fN op fa s h) v g := ⟨fun X => M.all_bind.mpr ((q X).mono fun r z => z.out X)⟩
theorem al_nil {s : Sg} {h : List O} {P : List D × List O → Prop} {X : XP} (q : P ([], h)) : (fNil s h).All P X := q
theorem al_var {s : Sg} {h : List O} {P : List D × List O → Prop} {X : XP} {i : Nat} {x : D} {fr : Sg → M (List D)} (hx : s[i]? = some (some x)) (q : (fr s h).All (fun r => P (x :: r.1, r.2)) X) : (fCons (fVar i) fr s h).All P X := by
  unfold fCons
  refine M.all_bind.mpr ?_
  unfold fVar
  rw [hx]
  exact M.all_bind.mpr q
theorem take_all {s : Sg} {h : List O} {P : D × List O → Prop} {X : XP} {m : Int} (hd : s[1]? = some (some .draw)) (hm : 0 < m ∧ m < 1000000) (q : ∀ i : Nat, i < m.toNat → P (.int i, h)) : (fN oTake (fCons (fVar 1) (fCons (fC (.int m)) fNil)) s h).All P X := by
  unfold fN
  refine M.all_bind.mpr (al_var hd ?_)
  show (match m with
    | m => if 0 < m ∧ m < 1000000 then Tr.pick m.toNat fun i => .ret (.int (i : Nat), h) else .bad).All P X
  dsimp only
  rw [if_pos hm]
  exact q
theorem al_take {s : Sg} {h : List O} {P : List D × List O → Prop} {X : XP} {m : Int} {fr : Sg → M (List D)} (hd : s[1]? = some (some .draw)) (hm : 0 < m ∧ m < 1000000) (q : ∀ i : Nat, i < m.toNat → (fr s h).All (fun r => P (.int i :: r.1, r.2)) X) :
    (fCons (fN oTake (fCons (fVar 1) (fCons (fC (.int m)) fNil))) fr s h).All P X := by
  unfold fCons
  exact M.all_bind.mpr (take_all hd hm fun i hi => M.all_bind.mpr (q i hi))
theorem al_take1 {s : Sg} {h : List O} {P : List D × List O → Prop} {X : XP} {m k : Int} {mk : List D → M D} {fr : Sg → M (List D)} (hd : s[1]? = some (some .draw)) (hm : 0 < m ∧ m < 1000000) (q : ∀ i : Nat, i < m.toNat → (fr s h).All (fun r => P (.int (k + i) :: r.1, r.2)) X) :
    (fCons (f2 (oAdd mk) (fC (.int k)) (fN oTake (fCons (fVar 1) (fCons (fC (.int m)) fNil)))) fr s h).All P X := by
  unfold fCons
  refine M.all_bind.mpr ?_
  unfold f2
  refine M.all_bind.mpr ?_
  refine M.all_bind.mpr (take_all hd hm fun i hi => ?_)
  exact M.all_bind.mpr (q i hi)
end Ev

/-! max and min of a list of ints; is of bools. -/
namespace Ev
open PySem PySem.Spec PyProof.Rows L2 Dr
variable {c : Ct}
def maxI : List Int → Option Int
  | [] => none
  | i :: is => match maxI is with
    | none => some i
    | some j => some (if j > i then j else i)
def minI : List Int → Option Int
  | [] => none
  | i :: is => match minI is with
    | none => some i
    | some j => some (if j < i then j else i)
theorem maxI_some : ∀ {l : List Int} {m : Int}, maxI l = some m → m ∈ l ∧ ∀ y, y ∈ l → y ≤ m
  | [], _, e => by cases e
  | i :: is, m, e => by
    unfold maxI at e
    split at e
    · rename_i q
      cases e
      have : is = [] := by
        cases is with
        | nil => rfl
        | cons a b => unfold maxI at q; split at q <;> cases q
      subst this
      simp
    · rename_i j q
      cases e
      obtain ⟨h1, h2⟩ := maxI_some q
      split
      · refine ⟨List.mem_cons_of_mem _ h1, fun y hy => ?_⟩
        rcases List.mem_cons.mp hy with rfl | hy
        · omega
        · exact h2 y hy
      · refine ⟨List.mem_cons_self, fun y hy => ?_⟩
        rcases List.mem_cons.mp hy with rfl | hy
        · omega
        · have := h2 y hy; omega
theorem minI_some : ∀ {l : List Int} {m : Int}, minI l = some m → m ∈ l ∧ ∀ y, y ∈ l → m ≤ y
  | [], _, e => by cases e
  | i :: is, m, e => by
    unfold minI at e
    split at e
    · rename_i q
      cases e
      have : is = [] := by
        cases is with
        | nil => rfl
        | cons a b => unfold minI at q; split at q <;> cases q
      subst this
      simp
    · rename_i j q
      cases e
      obtain ⟨h1, h2⟩ := minI_some q
      split
      · refine ⟨List.mem_cons_of_mem _ h1, fun y hy => ?_⟩
        rcases List.mem_cons.mp hy with rfl | hy
        · omega
        · exact h2 y hy
      · refine ⟨List.mem_cons_self, fun y hy => ?_⟩
        rcases List.mem_cons.mp hy with rfl | hy
        · omega
        · have := h2 y hy; omega
def oExtL (f : List Int → Option Int) : List D → M D := fun xs h => match xs with
  | [x] => match lstD h x with
    | some ys => match mapO oIntD ys with
      | some is => match f is with
        | some m => .ret (.int m, h)
        | none => .bad
      | none => .bad
    | none => .bad
  | _ => .bad
theorem op_maxL {K : PySem.W.Frag} : OpN K c (rMax K) (oExtL maxI) := fun {ρ h H xs vs Q} ok r q => by
  unfold oExtL at q
  split at q
  · split at q
    · rename_i ys hx
      split at q
      · rename_i is his
        split at q
        · rename_i m hm
          obtain ⟨v, rfl, r1⟩ := vs1 r
          obtain ⟨a, us, rfl, e1, e2⟩ := lstD_ok ok r1 hx
          have := ints_ok his e2
          subst this
          obtain ⟨h1, h2⟩ := maxI_some hm
          refine ⟨a, is, rfl, SqL.of e1, List.length_pos_of_mem h1, fun m' hm' hy => ?_⟩
          have : m' = m := Int.le_antisymm (h2 _ hm') (hy _ h1)
          subst this
          exact q ρ H _ .refl ok (.int _)
        · exact q.elim
      · exact q.elim
    · exact q.elim
  · exact q.elim
theorem op_minL {K : PySem.W.Frag} : OpN K c (rMin K) (oExtL minI) := fun {ρ h H xs vs Q} ok r q => by
  unfold oExtL at q
  split at q
  · split at q
    · rename_i ys hx
      split at q
      · rename_i is his
        split at q
        · rename_i m hm
          obtain ⟨v, rfl, r1⟩ := vs1 r
          obtain ⟨a, us, rfl, e1, e2⟩ := lstD_ok ok r1 hx
          have := ints_ok his e2
          subst this
          obtain ⟨h1, h2⟩ := minI_some hm
          refine ⟨a, is, rfl, SqL.of e1, List.length_pos_of_mem h1, fun m' hm' hy => ?_⟩
          have : m' = m := Int.le_antisymm (hy _ h1) (h2 _ hm')
          subst this
          exact q ρ H _ .refl ok (.int _)
        · exact q.elim
      · exact q.elim
    · exact q.elim
  · exact q.elim
def pIsB (f : Bool → Bool) : Cmp := fun _ x y => match x, y with
  | .bl a, .bl b => some (f (a == b))
  | _, _ => none
theorem cmp_isB {K : PySem.W.Frag} : CmpS K c rIsB (pIsB fun b => b) := fun {ρ h H x y v w Q b} ok r1 r2 e q => by
  unfold pIsB at e
  split at e
  · cases r1
    cases r2
    cases e
    exact ⟨_, _, rfl, rfl, by simpa [BEq.beq] using q⟩
  · cases e
theorem cmp_notB {K : PySem.W.Frag} : CmpS K c rNotB (pIsB fun b => !b) := fun {ρ h H x y v w Q b} ok r1 r2 e q => by
  unfold pIsB at e
  split at e
  · cases r1
    cases r2
    cases e
    exact ⟨_, _, rfl, rfl, by simpa [BEq.beq] using q⟩
  · cases e
end Ev

/-! repr of plain data, where no guard of repr stands; == of texts. -/
namespace Ev
open PySem PySem.Spec PyProof.Rows L2 Dr Gd
variable {c : Ct}
def oRepr : List D → M D := fun xs h => match xs with
  | [x] => match toP h deep x with
    | some d => if (d.showable && !d.hasDict && decide (d.depth ≤ 64) && decide (d.shown.length ≤ sizeLine)) = true then .ret (.str d.shown, h) else .bad
    | none => .bad
  | _ => .bad
theorem op_repr {K : PySem.W.Frag} : OpN K c (fun xs G R => ∃ x d, xs = [x] ∧ Dp K G x d ∧ d.showable = true ∧ d.hasDict = false ∧ d.depth ≤ 64 ∧ d.shown.length ≤ sizeLine ∧ R (.str d.shown) G) oRepr := fun {ρ h H xs vs Q} ok r q => by
  unfold oRepr at q
  split at q
  · obtain ⟨v, rfl, r1⟩ := vs1 r
    split at q
    · rename_i d e
      split at q
      · rename_i g
        simp only [Bool.and_eq_true, Bool.not_eq_true', decide_eq_true_eq] at g
        exact ⟨v, d, rfl, toP_ok ok _ _ _ _ e r1, g.1.1.1, g.1.1.2, g.1.2, g.2, q ρ H _ .refl ok (.str _)⟩
      · exact q.elim
    · exact q.elim
  · exact q.elim
theorem units66 {k : Nat} {A : Around} (r : Room k A) : A.units + 66 < cLine := by have := r.un; omega
/-- == of two texts -/
def pS (f : Bool → Bool) : Cmp := fun _ x y => match x, y with
  | .str a, .str b => some (f (a == b))
  | _, _ => none
theorem cmp_eqS {K : PySem.W.Frag} : CmpS K c rEq (pS fun b => b) := fun {ρ h H x y v w Q b} ok r1 r2 e q => by
  unfold pS at e
  split at e
  · cases r1; cases r2
    cases e
    exact ⟨rfl, by rw [dec_str]; exact q⟩
  · cases e
theorem cmp_neS {K : PySem.W.Frag} : CmpS K c rNe (pS fun b => !b) := fun {ρ h H x y v w Q b} ok r1 r2 e q => by
  unfold pS at e
  split at e
  · cases r1; cases r2
    cases e
    exact ⟨rfl, by rw [dec_str]; exact q⟩
  · cases e
end Ev

/-! A law with a part behind its turns. -/
namespace Ev
open PySem PySem.Spec PyProof.Rows L2 Dr
/-- a block goes on, with slots of which something is kept -/
structure NxK (n : Nat) (q : Sg → Prop) (m : Tr (Out × List O)) : Prop where
  out : ∀ X, m.All (fun r => ∃ s, r.1 = .nx s ∧ s.length = n ∧ s[1]? = some (some .draw) ∧ q s) X
structure RtT (m : Tr (Out × List O)) : Prop where
  out : ∀ X, m.All (fun r => r.1 = .rt (.bl true)) X
section
variable {K : PySem.W.Frag} {c : Ct} {ρ : Sto} {H : Hp} {d g e : Addr} {n : Nat}
/-- what stands behind a turn -/
def Kept (K : PySem.W.Frag) (c : Ct) (n : Nat) (q : Sg → Prop) (σ : L2.St) (H : Hp) : Prop := ∃ ρ h s, Ok K c ρ h H ∧ Env K c H ρ s σ ∧ s.length = n ∧ s[1]? = some (some .draw) ∧ q s
theorem Kept.fst {q : Sg → Prop} {σ : L2.St} (hc : c.dw = some (d, g, e)) (k : Kept K c n q σ H) : σ.length = n ∧ σ[1]? = some (some (V.ref d)) ∧ Dw H d g e := by
  obtain ⟨ρ, h, s, ok, env, hn, h1, _⟩ := k
  obtain ⟨v, e1, r⟩ := env.2 1 _ h1
  cases r with
  | draw hd =>
    rw [hc] at hd
    cases hd
    exact ⟨by rw [← env.1, hn], e1, (ok.dw _ _ _ hc).1⟩
theorem tSx_keep {δ : Type} {ct : δ → Ct} {dw : δ} {f : Sg → M Out} {E : Ends} {σ : L2.St} {q : Sg → Prop} (hd : (ct dw).dw = some (d, g, e)) (hh : (ct dw).hid = []) (D : Dw H d g e) (h2 : 2 ≤ n) (hl : σ.length = n) (h1 : σ[1]? = some (some (V.ref d))) (chk : NxK n q (f (drawS n) [])) (ht : LamX.Tabs (ct dw).T H) (hk : (ct dw).kp.p Sto.nil H)
    (hE : ∀ σ H', Kept K (ct dw) n q σ H' → E.nx σ H') : tSx K ct f E σ H := ⟨dw, Sto.nil, [], drawS n, ok_draw hd hh D ht hk, env_draw hd h2 hl h1, (chk.out _).mono fun r hr => by
  obtain ⟨s, e1, e2, e3, e4⟩ := hr
  obtain ⟨o, h'⟩ := r
  dsimp only at e1
  subst e1
  intro ρ1 H1 σ l ok env
  exact hE σ H1 ⟨ρ1, h', s, ok, env, e2, e3, e4⟩⟩
theorem tSx_tail {δ : Type} {ct : δ → Ct} {dw : δ} {f : Sg → M Out} {E : Ends} {σ : L2.St} {q : Sg → Prop} (k : Kept K (ct dw) n q σ H) (chk : ∀ s h, s.length = n → s[1]? = some (some .draw) → q s → ∃ s', s'.length = s.length ∧ (∀ (i : Nat) (x : D), s'[i]? = some (some x) → s[i]? = some (some x)) ∧ RtT (f s' h)) (hE : ∀ H', E.rt (.bl true) H') : tSx K ct f E σ H := by
  obtain ⟨ρ, h, s, ok, env, hn, h1, hq⟩ := k
  obtain ⟨s', e1, e2, e3⟩ := chk s h hn h1 hq
  refine ⟨dw, ρ, h, s', ok, ⟨e1.trans env.1, fun i x hx => env.2 i x (e2 i x hx)⟩, (e3.out _).mono fun r hr => ?_⟩
  obtain ⟨o, h'⟩ := r
  dsimp only at hr
  subst hr
  intro ρ1 H1 v l ok r
  cases r
  exact hE H1
end
end Ev

/-! sorted of plain data: tuples that may be nested. -/
namespace Ev
open PySem PySem.Spec PyProof.Rows L2 Dr
/-- the order of data -/
def leD {α : Type} (p q : α × PyData) : Bool := PySem.W.dataLe false (fun b : α × PyData => b.2) p q
theorem leD_eq {α β : Type} (a b : PyData) (x y : α) (u v : β) : leD (x, a) (y, b) = leD (u, a) (v, b) := rfl
def sortedV {α : Type} (xs : List α) (ds : List PyData) : List α := ((xs.zip ds).mergeSort leD).map (·.1)
def isTup1 : PyData → Bool
  | .tuple (_ :: _) => true
  | _ => false
def sortOk (n : Nat) (ds : List PyData) : Bool := ds.all (fun d => ds.all fun e => PySem.W.alike d e) && ds.all isTup1 && ds.all (fun d => decide (d.depth ≤ n))
theorem sortOk_alike {n : Nat} {ds : List PyData} (h : sortOk n ds = true) : PySem.W.AllAlike ds := by
  unfold sortOk at h
  simp only [Bool.and_eq_true] at h
  intro d hd e he
  exact List.all_eq_true.mp (List.all_eq_true.mp h.1.1 d hd) e he
theorem sortOk_able {n : Nat} {ds : List PyData} (h : sortOk n ds = true) : PySem.W.Sortable ds := by
  unfold sortOk at h
  simp only [Bool.and_eq_true] at h
  refine .inl fun d hd => ?_
  have := List.all_eq_true.mp h.1.2 d hd
  unfold isTup1 at this
  split at this
  · exact ⟨_, _, rfl⟩
  · cases this
theorem sortOk_deep {n : Nat} {ds : List PyData} (h : sortOk n ds = true) : ∀ d ∈ ds, d.depth ≤ n := by
  unfold sortOk at h
  simp only [Bool.and_eq_true] at h
  exact fun d hd => of_decide_eq_true (List.all_eq_true.mp h.2 d hd)
def rSortD (K : PySem.W.Frag) (vs : List V) (H : Hp) (Q : VK) : Prop := ∃ (a : Addr) (xs : List V) (ds : List PyData), vs = [.ref a] ∧ SqL K H a xs ∧ DpAll K H xs ds ∧ sortOk 60 ds = true ∧ ∀ p, H p = none → Q (.ref p) (upd H p (.lst (sortedV xs ds)))
theorem zip_map1 {α β : Type} : ∀ {xs : List α} {ds : List β}, xs.length = ds.length → (xs.zip ds).map (·.1) = xs
  | [], [], _ => rfl
  | x :: xs, d :: ds, h => by
    rw [List.zip_cons_cons, List.map_cons, zip_map1 (by simpa using h)]
  | [], _ :: _, h => by cases h
  | _ :: _, [], h => by cases h
theorem zip_map2 {α β : Type} : ∀ {xs : List α} {ds : List β}, xs.length = ds.length → (xs.zip ds).map (·.2) = ds
  | [], [], _ => rfl
  | x :: xs, d :: ds, h => by
    rw [List.zip_cons_cons, List.map_cons, zip_map2 (by simpa using h)]
  | [], _ :: _, h => by cases h
  | _ :: _, [], h => by cases h
theorem dpAll_len {K : PySem.W.Frag} {H : Hp} : ∀ {xs : List V} {ds : List PyData}, DpAll K H xs ds → xs.length = ds.length
  | _, _, .nil => rfl
  | _, _, .cons _ h => by simp [dpAll_len h]
theorem each_rel {K : PySem.W.Frag} {H : Hp} : ∀ {xs : List V} {ds : List PyData} {us : List Value}, DpAll K H xs ds → Vals xs us → PySem.W.EachIs (fun u (b : V × PyData) => RelV b.1 u) us (xs.zip ds)
  | _, _, _, .nil, .nil => .nil
  | _, _, _, .cons d ds, .cons r rs => .cons r (each_rel ds rs)
theorem each_reads {X : Cx} {pins : List (Addr × Obj)} {σ : L2.St} {H : Hp} {s : Shared} (I : L2.Inv X pins σ H s) : ∀ {xs : List V} {ds : List PyData} {us : List Value}, DpAll X.K H xs ds → Vals xs us → PySem.W.EachIs (fun u (b : V × PyData) => ∃ as, Reads s.heap u b.2 as) us (xs.zip ds)
  | _, _, _, .nil, .nil => .nil
  | _, _, _, .cons d ds, .cons r rs => .cons (Dp.reads I _ _ _ d r) (each_reads I ds rs)
theorem each_vals : ∀ {us : List Value} {bs : List (V × PyData)}, PySem.W.EachIs (fun u (b : V × PyData) => RelV b.1 u) us bs → Vals (bs.map (·.1)) us
  | _, _, .nil => .nil
  | _, _, .cons r h => .cons r (each_vals h)
theorem cr_sortD {X : Cx} (room : X.A.units + 66 < cLine) : CallR X (.builtin "sorted") (rSortD X.K) := by
  rintro pins s σ H vs us Q I rel ⟨a, xs, ds, rfl, hs, hd, hk, q⟩
  obtain ⟨u, rfl, ru⟩ := vals1 rel
  cases ru
  obtain ⟨its, rv, ⟨o, n, ho, hc, _, hdat⟩, hl⟩ := I.list hs
  have len := dpAll_len hd
  have e2 : (xs.zip ds).map (fun b : V × PyData => b.2) = ds := zip_map2 len
  refine PySem.W.sorted_data (vs := its) (bs := xs.zip ds) (enc := fun b : V × PyData => b.2) (R := fun u b => RelV b.1 u) ⟨o, ho, hc, n, hdat⟩ (each_rel hd rv) (each_reads I hd rv) ?_ ?_ ?_ ?_ ?_
  · rw [e2]; exact sortOk_alike hk
  · rw [e2]; exact sortOk_able hk
  · rw [List.length_zip]; omega
  · intro b hb
    have hb2 : b.2 ∈ ds := by rw [← e2]; exact List.mem_map_of_mem hb
    have := sortOk_deep hk _ hb2
    show X.A.units + 2 + b.2.depth < cLine
    omega
  · intro out ol er
    have rv2 := each_vals er
    obtain ⟨e, at1⟩ := PyProof.Rows.sortedAll_at s.heap its out.toArray
    have ln : (sortedV xs ds).length = xs.length := by
      unfold sortedV
      rw [List.length_map, List.length_mergeSort, List.length_zip]
      omega
    have fr : H (s.heap.objs.size + 1) = none := by
      cases hx : H (s.heap.objs.size + 1) with
      | none => rfl
      | some x =>
        have q : (s.heap.objs.size + 1 : Nat) < s.heap.objs.size := I.hok.lt hx
        exact absurd q (by omega)
    refine ⟨.ref (s.heap.objs.size + 1), upd H (s.heap.objs.size + 1) (.lst (sortedV xs ds)), I.laid (fun b o hb => PyProof.Rows.sortedAll_old hb) (by omega) ?_, rfl, q _ fr⟩
    show (sortedV xs ds).length ≤ sizeLine ∧ ∃ its' n', Vals (sortedV xs ds) its' ∧ _ = _
    exact ⟨by rw [ln]; exact hl, out, e, rv2, at1⟩
/-- the step by values -/
def oSortD (mk : List D → M D) : List D → M D := fun xs h => match xs with
  | [x] => match lstD h x with
    | some ys => match mapO (toP h deep) ys with
      | some ds => if sortOk 60 ds = true then mk (sortedV ys ds) h else .bad
      | none => .bad
    | none => .bad
  | _ => .bad
theorem rvs_len {K : PySem.W.Frag} {c : Ct} {H : Hp} {ρ : Sto} : ∀ {xs : List D} {vs : List V}, RVs K c H ρ xs vs → xs.length = vs.length
  | _, _, .nil => rfl
  | _, _, .cons _ h => by simp [rvs_len h]
theorem rvs_each {K : PySem.W.Frag} {c : Ct} {H : Hp} {ρ : Sto} : ∀ {xs : List D} {vs : List V} (ds : List PyData), RVs K c H ρ xs vs → PySem.W.EachIs (fun (a : D × PyData) (b : V × PyData) => RV K c H ρ a.1 b.1 ∧ a.2 = b.2) (xs.zip ds) (vs.zip ds)
  | _, _, _, .nil => .nil
  | _, _, [], .cons _ _ => .nil
  | _, _, d :: ds, .cons r h => .cons ⟨r, rfl⟩ (rvs_each ds h)
theorem each_rvs {K : PySem.W.Frag} {c : Ct} {H : Hp} {ρ : Sto} : ∀ {as : List (D × PyData)} {bs : List (V × PyData)}, PySem.W.EachIs (fun (a : D × PyData) (b : V × PyData) => RV K c H ρ a.1 b.1 ∧ a.2 = b.2) as bs → RVs K c H ρ (as.map (·.1)) (bs.map (·.1))
  | _, _, .nil => .nil
  | _, _, .cons r h => .cons r.1 (each_rvs h)
theorem each_zip {α β : Type} {R : α → β → Prop} : ∀ {as : List α} {bs : List β}, PySem.W.EachIs R as bs → ∀ p ∈ as.zip bs, R p.1 p.2
  | _, _, .nil, p, hp => by cases hp
  | _, _, .cons r h, p, hp => by
    rcases List.mem_cons.mp hp with e | hp
    · rw [e]; exact r
    · exact each_zip h p hp
theorem rvs_sorted {K : PySem.W.Frag} {c : Ct} {H : Hp} {ρ : Sto} {xs : List D} {vs : List V} (ds : List PyData) (r : RVs K c H ρ xs vs) : RVs K c H ρ (sortedV xs ds) (sortedV vs ds) := by
  have e := rvs_each ds r
  refine each_rvs (PySem.W.sort_each e fun p hp q hq => ?_)
  have h1 := (each_zip e p hp).2
  have h2 := (each_zip e q hq).2
  obtain ⟨⟨_, p1⟩, ⟨_, p2⟩⟩ := p
  obtain ⟨⟨_, q1⟩, ⟨_, q2⟩⟩ := q
  dsimp only at h1 h2
  subst h1 h2
  rfl
theorem op_sortedD {K : PySem.W.Frag} {c : Ct} {mk : List D → M D} (m : MkOk K c mk) : OpN K c (rSortD K) (oSortD mk) := fun {ρ h H xs vs Q} ok r q => by
  unfold oSortD at q
  split at q
  · split at q
    · rename_i ys hx
      split at q
      · rename_i ds hds
        split at q
        · rename_i hk
          obtain ⟨v, rfl, r1⟩ := vs1 r
          obtain ⟨a, us, rfl, e1, e2⟩ := lstD_ok ok r1 hx
          refine ⟨a, us, ds, rfl, SqL.of e1, toPs_ok (fun x d v e r => toP_ok ok _ x d v e r) hds e2, hk, fun p np => ?_⟩
          exact (m.go ok (rvs_sorted ds e2) q).2 p np
        · exact q.elim
      · exact q.elim
    · exact q.elim
  · exact q.elim
/-- of values with symbols -/
theorem sortedV_map {α : Type} (f : α → D) (g : α → PyData) (xs : List α) : ∃ ys : List α, ys.Perm xs ∧ sortedV (xs.map f) (xs.map g) = ys.map f := by
  refine ⟨xs.mergeSort fun a b => leD (f a, g a) (f b, g b), List.mergeSort_perm _ _, ?_⟩
  have z : ∀ l : List α, (l.map f).zip (l.map g) = l.map fun a => (f a, g a) := by
    intro l
    induction l with
    | nil => rfl
    | cons a l ih => simp [ih]
  unfold sortedV
  rw [z, ← PySem.W.sort_maps (r := fun a b => leD (f a, g a) (f b, g b)) (fun a => (f a, g a)) (fun a _ b _ => rfl), List.map_map]
  rfl
end Ev
namespace Ev
open PySem PySem.Spec PyProof.Rows L2 Dr
section
variable {c : Ct} {X : Cx} {pos p : Pos} {x : Str} {k : Nat} {F : List D → M D}
/-- calls without arguments -/
theorem ev_pure0 (G : Own X.prog X.w X.K X.mg X.base c k x F) (hr : Room k X.A) (px : PX' X c.E) (hg : Gl X x := by rfl) (hdb : (x == ("__debug__" : Str)) = false := by decide) : EE c X (.Call (.Name x p) [] [] pos) (fN (oPure F) fNil) := by
  obtain ⟨f, fd, ps, g, kp, H, b⟩ := G.ex
  refine PE.imp (pe_call0 H hr hg g kp b .nil px hdb) fun σ H Q q => ?_
  obtain ⟨ρ, h, s, ok, env, q⟩ := q
  exact op_pure ok .nil q
theorem ev_own0 [Plain c] (G : Own X.prog X.w X.K X.mg X.base c k x F) (hr : Room k X.A) (px : PX' X c.E) (hg : Gl X x := by rfl) (hdb : (x == ("__debug__" : Str)) = false := by decide) : EE c X (.Call (.Name x p) [] [] pos) (fN F fNil) := by
  obtain ⟨f, fd, ps, g, kp, H, b⟩ := G.ex
  refine PE.imp (pe_call0 H hr hg g kp b .nil px hdb) fun σ H Q q => ?_
  obtain ⟨ρ, h, s, ok, env, q⟩ := q
  exact op_own ok .nil q
end
end Ev

/-! A call with the names of all parameters, written in the order from the last to the first. -/
namespace Ev
open PySem PySem.Spec PyProof.Rows L2 Dr
def tCallN0 (sp : Sp) (gV : List V → List V) (E : XK) (tk : TA) : TE := fun σ H Q => tk σ H fun zs H2 => sp (gV zs) H2 Q E
theorem pe_callN0 {X : Cx} {CX : CXT} {k : Nat} {f : Addr} {fd : FuncData} {ps ks : List Str} {sp : Sp} {E : XK} {x : Str} {p pos : Pos} {kws : List Keyword} {tk : TA} {g : List Value → List Value → List Value} {gV : List V → List V → List V}
    (F : FnOk X.prog X.w X.K X.mg X.base CX k f fd ps sp) (room : Room k X.A) (glob : Gl X x) (here : X.mg x = some (.ref f)) (kept : PySem.W.keepIn X.K (.ref f) = true) (kb : KBn X.K fd ps 0 ks g gV) (hx : Passes CX X E) (hk : PK X kws tk) (lk : ks.length = ps.length) (lg : ∀ zs : List V, (gV [] zs).length = zs.length)
    (h1 : ((backToKw pos (keywordEach kws X.env)).all fun x => x.fst.isSome) = true := by rfl) (h2 : List.filterMap (fun x => x.fst) (backToKw pos (keywordEach kws X.env)) = ks := by rfl) (nm : (x == ("__debug__" : Str)) = false := by decide)
    (h3 : (((backTo pos (starEach [] X.env)).any fun x => x.fst) || (backToKw pos (keywordEach kws X.env)).any fun x => x.fst.isNone) = false := by rfl) : PE X (.Call (.Name x p) [] kws pos) (tCallN0 sp (gV []) E tk) := by
  constructor
  intro pins z σ G R I asks
  apply wpAny_Call_Name_kw (ld_glob I glob here ?_ nm)
  apply PySem.W.callWith_KW0 (h₀ := X.base) I.ok.mod.kin kept h1 ?_ h3
  apply thn (hk.run pos pins z σ G _ I asks)
  rintro us z1 ⟨vs, G1, I1, r, q⟩
  refine ⟨I1.kIn, ?_⟩
  have rel := kb.rel (.nil : Vals [] []) r
  have many : vs.length = ps.length := by rw [← lg]; exact F.len _ _ _ _ q
  have ul : us.length = ks.length := by rw [← r.length, many, lk]
  have bind := kb.to z1 [] us I1.kIn rfl ul
  rw [h2]
  apply wpAny_call (codeAny_mono (F.run X.A X.stack z1 G1 ⟨[] ++ [], ks.zip us⟩ (g [] us) (gV [] vs) _ E room I1.env0 bind rel q) ?_)
  intro end1 z2 hq
  cases end1 with
  | error _ => exact hx pins σ G1 z1 _ _ I1 hq
  | ok fl => cases fl with
    | ret _ => exact I1.after hq
    | next => exact False.elim hq
    | brk => exact False.elim hq
    | cont => exact False.elim hq
structure OwnR (P : Program) (w : World) (K : PySem.W.Frag) (mg : Str → Option Value) (base : Heap) (c : Ct) (k : Nat) (x : Str) (F : List D → M D) (ks : List Str) : Prop where
  ex : ∃ (f : Addr) (fd : FuncData) (ps : List Str), mg x = some (.ref f) ∧ PySem.W.keepIn K (.ref f) = true ∧ FnOk P w K mg base (L2.CX P w) k f fd ps (spF K c F) ∧ KBn K fd ps 0 ks (fun _ ws => ws.reverse) (fun _ zs => zs.reverse) ∧ ks.length = ps.length
section
variable {P : Program} {w : World} {K : PySem.W.Frag} {mg : Str → Option Value} {base : Heap} {c : Ct} {x : Str} {st : Stmt} {N ps ks : List Str} {k : Nat} {fB : Sg → M Out} {F : List D → M D} {hid : List Addr} {E : XK}
theorem ownR_ev (G : GD K mg x st ps) (S : FnScope N ps (defScope st)) (kb : ∀ {f : Addr} {fd : FuncData}, Fun K x x st f fd → KBn K fd ps 0 ks (fun _ ws => ws.reverse) (fun _ zs => zs.reverse)) (hk : ks.length = ps.length) (body : ∀ (f : Addr) (cdv : Value) (A : Around) (outer : List PySem.Env) (s : Shared) (H : Hp) (E : XK) (hid : List Addr), Room k (A.deeper (envOfC x (defScope st) s.heap.objs.size f cdv)) → PX' (cxOf (L2.CX P w) P w K mg base N x (defScope st) f cdv A outer s H E) E →
      ESs (c.at hid E) (cxOf (L2.CX P w) P w K mg base N x (defScope st) f cdv A outer s H E) (defBody st) fB) : OwnR P w K mg base c (k + 1) x (mkF ps.length N.length fB) ks := by
  obtain ⟨f, fd, F, g, b⟩ := G.ex
  exact ⟨f, fd, ps, g, F.kp, fn_ev F S (body f), kb F, hk⟩
theorem vals_rev : ∀ {vs : List V} {us : List Value}, Vals vs us → Vals vs.reverse us.reverse
  | _, _, .nil => .nil
  | _, _, .cons h t => by
    rw [List.reverse_cons, List.reverse_cons]
    exact (vals_rev t).append (.cons h .nil)
theorem OwnR.at {kp : Kp c.dw c.T} (G : OwnR P w K mg base c k x F ks) : OwnR P w K mg base (c.fr hid E kp) k x F ks := ⟨G.ex⟩
end
section
variable {c : Ct} {X : Cx} {pos p kpos : Pos} {x : Str} {k : Nat} {F : List D → M D} {ks : List Str} {kws : List Keyword} {fr : Sg → M (List D)} {fa : Sg → M D} {e : Expr} {nm : Option Str}
abbrev EK (c : Ct) (X : Cx) (kws : List Keyword) (f : Sg → M (List D)) : Prop := PK X kws (tA X.K c f)
theorem ek_nil : EK c X [] fNil := ⟨fun pos pins s σ H Q I q => pk_nil.run pos pins s σ H Q I (by
  obtain ⟨ρ, h, s, ok, env, q⟩ := q
  exact q ρ H [] .refl ok .nil)⟩
theorem ek_cons (ha : EE c X e fa) (hr : EK c X kws fr) : EK c X (⟨nm, e, kpos⟩ :: kws) (fCons fa fr) := ⟨fun pos pins s σ H Q I q => (pk_cons ha hr).run pos pins s σ H Q I (by
  obtain ⟨ρ, h, s, ok, env, q⟩ := q
  refine ⟨ρ, h, s, ok, env, (M.all_bind.mp q).mono fun ⟨x, h1⟩ q1 ρ1 H1 v l1 ok1 r1 => ?_⟩
  exact ⟨ρ1, h1, s, ok1, env.le l1, Tr.All.le l1 (M.all_bind.mp q1) fun ⟨y, h2⟩ q2 ρ2 H2 w l2 ok2 r2 => q2 ρ2 H2 _ (l1.trans l2) ok2 (.cons (r1.le l2) r2)⟩)⟩
theorem ev_pureR (G : OwnR X.prog X.w X.K X.mg X.base c k x F ks) (hr : Room k X.A) (px : PX' X c.E) (ha : EK c X kws fr) (hg : Gl X x := by rfl)
    (h1 : ((backToKw pos (keywordEach kws X.env)).all fun x => x.fst.isSome) = true := by rfl) (h2 : List.filterMap (fun x => x.fst) (backToKw pos (keywordEach kws X.env)) = ks := by rfl) (hdb : (x == ("__debug__" : Str)) = false := by decide)
    (h3 : (((backTo pos (starEach [] X.env)).any fun x => x.fst) || (backToKw pos (keywordEach kws X.env)).any fun x => x.fst.isNone) = false := by rfl) : EE c X (.Call (.Name x p) [] kws pos) (fN (fun xs => oPure F xs.reverse) fr) := by
  obtain ⟨f, fd, ps, g, kp, H, b, lk⟩ := G.ex
  refine PE.imp (pe_callN0 H hr hg g kp b px ha lk (fun zs => by simp) h1 h2 hdb h3) fun σ H Q q => ?_
  exact tA_N (r := fun vs H Q => spF X.K c F vs.reverse H Q c.E) (fun {ρ h H xs vs Q} ok r q => op_pure ok r.reverse q) q
end
end Ev

/-! Defs of a law's own that call repr: kept where no guard of repr stands, errors let through. -/
namespace Ev
open PySem PySem.Spec PyProof.Rows L2 Dr
section
variable {P : Program} {w : World} {K : PySem.W.Frag} {mg : Str → Option Value} {base : Heap} {C : CXT} {k : Nat} {f : Addr} {fd : FuncData} {ps : List Str} {sp : Sp}
structure FnO (P : Program) (w : World) (K : PySem.W.Frag) (mg : Str → Option Value) (base : Heap) (C : CXT) (k : Nat) (f : Addr) (fd : FuncData) (ps : List Str) (sp : Sp) : Prop where
  many : ∀ xs G R W, sp xs G R W → xs.length = ps.length
  goes : ∀ (B : Around) (below : List PySem.Env) (z : Shared) (G : Hp) (as : Args) (ys : List Value) (xs : List V) (R : VK) (W : XK),
    B.guards = some [] → Room k B → Env0 P w K mg base B below z G → BindsTo z fd as (ps.zip ys) → Vals xs ys → sp xs G R W →
    codeAny (model P w) B (.call (.ref f) as) (CR C below P w G z R W) z
theorem fnO_of {x qual : Str} {st : Stmt} {N : List Str} (F : Fun K x qual st f fd) (S : FnScope N ps (defScope st)) (many : ∀ xs G R W, sp xs G R W → xs.length = ps.length)
    (body : ∀ (u : Value) (B : Around) (below : List PySem.Env) (z : Shared) (G : Hp) (xs : List V) (R : VK) (W : XK), B.guards = some [] → Room k (B.deeper (envOfC qual (defScope st) z.heap.objs.size f u)) → sp xs G R W →
      ∃ t, PSs (cxOf C P w K mg base N qual (defScope st) f u B below z G W) (defBody st) t ∧ t { nx := fun _ G' => R .non G', rt := R } (start N xs) G) : FnO P w K mg base C (k + 1) f fd ps sp := by
  obtain ⟨oc, od, kV, doc, pm, an, u, ct, osl, rfl, look, code⟩ := F.ex
  constructor
  · exact many
  intro B below z G as ys xs R W gd room e0 bind rel holds
  have old : ∀ b o, base.get? b = some o → z.heap.get? b = some o := fun b o q => (e0.bs b o q).1
  have inK := e0.mod.kin.keeps old
  have slots : ∀ y ∈ ps.zip ys, (defScope st).names.lookup y.1 = some .local ∨ ((defScope st).names.lookup y.1 = some .cell ∧
      ((cellsFrom (z.heap.objs.size + 1) (defScope st).names []).lookup y.1).isSome = true) := by
    rintro ⟨n, v⟩ hy
    cases S.par n (List.of_mem_zip hy).1 with
    | inl q => exact .inl q
    | inr q => exact .inr ⟨q, PySem.W.cellsFrom_some _ _ _ (.inl q)⟩
  apply codeAny_call_function room.depth (inK _ _ look) rfl S.co S.gen rfl (PySem.W.codeRec_of inK code) (bind _ _ _ _ _)
  apply wpAny_newFunctionEnv_cells S.kind slots
  intro env henv z1 started
  subst henv
  refine ⟨(e0.mod.nolimit.keeps old).keeps started.toInCall.keep, codeAny_func ?_⟩
  obtain ⟨t, walk, asks⟩ := body u B below z G xs R W gd (room.deeper _) holds
  have inv := inv_start (CX := C) (E := W) S room.hd e0 (many _ _ _ _ holds) rel started
  apply wpAny_mono (walk.run [] z1 (start N xs) G _ inv asks)
  · intro fl z2 q
    cases fl with
    | next =>
      obtain ⟨_, G', J, q⟩ := q
      exact ⟨.non, G', J.os, J.bare, J.base, J.hok, rfl, q⟩
    | ret u =>
      obtain ⟨v, _, G', J, rv, q⟩ := q
      exact ⟨v, G', J.os, J.bare, J.base, J.hok, rv, q⟩
    | brk => obtain ⟨_, _, _, no⟩ := q; exact no.elim
    | cont => obtain ⟨_, _, _, no⟩ := q; exact no.elim
  · intro e z2 q
    exact q
end
section
variable {X : Cx} {C : CXT} {k : Nat} {f : Addr} {fd : FuncData} {ps : List Str} {sp : Sp} {W : XK} {dvs : List V} {ds : List Value} {x : Str} {p pos : Pos} {e : Expr} {es : List Expr} {t : TA}
theorem pe_callO (F : FnO X.prog X.w X.K X.mg X.base C k f fd ps sp) (gd : X.A.guards = some []) (room : Room k X.A) (glob : Gl X x) (here : X.mg x = some (.ref f)) (kept : PySem.W.keepIn X.K (.ref f) = true) (bind : L2.Binds X.K fd ps ds) (dflt : Vals dvs ds) (hx : Passes C X W) (args : PA X (e :: es) t)
    (nm : (x == ("__debug__" : Str)) = false := by decide) (each : starEach (e :: es) X.env = (false, eval e X.env) :: starEach es X.env := by rfl)
    (plain : (backTo pos (starEach es X.env)).any (·.1) = false := by rfl) : PE X (.Call (.Name x p) (e :: es) [] pos) (tCall sp dvs W t) := by
  constructor
  intro pins z σ G R I asks
  apply wpAny_Call_Name_kw (ld_glob I glob here ?_ nm)
  apply PySem.W.callWith_K (h₀ := X.base) I.ok.mod.kin kept ?_ each plain
  apply thn (args.run pos pins z σ G _ I asks)
  rintro us z1 ⟨vs, G1, I1, r, q⟩
  refine ⟨I1.kIn, ?_⟩
  have rel := r.append dflt
  have many : (us ++ ds).length = ps.length := rel.length ▸ F.many _ _ _ _ q
  apply wpAny_call (codeAny_mono (F.goes X.A X.stack z1 G1 ⟨us, []⟩ (us ++ ds) (vs ++ dvs) _ W gd room I1.env0 (bind z1 us I1.kIn many) rel q) ?_)
  intro end1 z2 hq
  cases end1 with
  | error _ => exact hx pins σ G1 z1 _ _ I1 hq
  | ok fl => cases fl with
    | ret _ => exact I1.after hq
    | next => exact hq.elim
    | brk => exact hq.elim
    | cont => exact hq.elim
end
structure OwnG (P : Program) (w : World) (K : PySem.W.Frag) (mg : Str → Option Value) (base : Heap) (c : Ct) (k : Nat) (x : Str) (F : List D → M D) : Prop where
  ex : ∃ (f : Addr) (fd : FuncData) (ps : List Str), mg x = some (.ref f) ∧ PySem.W.keepIn K (.ref f) = true ∧ FnO P w K mg base (L2.CX P w) k f fd ps (spF K c F) ∧ L2.Binds K fd ps []
section
variable {P : Program} {w : World} {K : PySem.W.Frag} {mg : Str → Option Value} {base : Heap} {c : Ct} {x : Str} {st : Stmt} {N ps : List Str} {k : Nat} {fB : Sg → M Out} {F : List D → M D} {hid : List Addr} {E : XK}
theorem OwnG.at {kp : Kp c.dw c.T} (G : OwnG P w K mg base c k x F) : OwnG P w K mg base (c.fr hid E kp) k x F := ⟨G.ex⟩
theorem ownG_ev (G : GD K mg x st ps) (S : FnScope N ps (defScope st)) (body : ∀ (f : Addr) (cdv : Value) (A : Around) (outer : List PySem.Env) (s : Shared) (H : Hp) (E : XK) (hid : List Addr), A.guards = some [] → Room k (A.deeper (envOfC x (defScope st) s.heap.objs.size f cdv)) → PX' (cxOf (L2.CX P w) P w K mg base N x (defScope st) f cdv A outer s H E) E →
      ESs (c.at hid E) (cxOf (L2.CX P w) P w K mg base N x (defScope st) f cdv A outer s H E) (defBody st) fB) : OwnG P w K mg base c (k + 1) x (mkF ps.length N.length fB) := by
  obtain ⟨f, fd, F, g, b⟩ := G.ex
  exact ⟨f, fd, ps, g, F.kp, fnO_of F S (fun vs H Q E h => (spF_len h).1) (fun cdv A outer s H vs Q E gd hr h => spF_run (spF_len h).2 fun hid => body f cdv A outer s H E hid gd hr pass_body), b⟩
end
section
variable {c : Ct} {X : Cx} {pos p : Pos} {x : Str} {k : Nat} {F : List D → M D} {fr : Sg → M (List D)} {e : Expr} {es : List Expr}
theorem ev_ownG [Plain c] (G : OwnG X.prog X.w X.K X.mg X.base c k x F) (gd : X.A.guards = some []) (hr : Room k X.A) (px : PX' X c.E) (ha : EA c X (e :: es) fr) (hg : Gl X x := by rfl) (hdb : (x == ("__debug__" : Str)) = false := by decide)
    (he : starEach (e :: es) X.env = (false, eval e X.env) :: starEach es X.env := by rfl) (hpl : (backTo pos (starEach es X.env)).any (·.1) = false := by rfl) : EE c X (.Call (.Name x p) (e :: es) [] pos) (fN F fr) := by
  obtain ⟨f, fd, ps, g, kp, H, b⟩ := G.ex
  refine PE.imp (pe_callO H gd hr hg g kp b .nil px ha hdb he hpl) fun σ H Q q => ?_
  exact tA_N (r := fun vs H Q => spF X.K c F (vs ++ []) H Q c.E) (fun {ρ h H xs vs Q} ok r q => by dsimp only; rw [List.append_nil]; exact op_own ok r q) q
theorem ev_pureG (G : OwnG X.prog X.w X.K X.mg X.base c k x F) (gd : X.A.guards = some []) (hr : Room k X.A) (px : PX' X c.E) (ha : EA c X (e :: es) fr) (hg : Gl X x := by rfl) (hdb : (x == ("__debug__" : Str)) = false := by decide)
    (he : starEach (e :: es) X.env = (false, eval e X.env) :: starEach es X.env := by rfl) (hpl : (backTo pos (starEach es X.env)).any (·.1) = false := by rfl) : EE c X (.Call (.Name x p) (e :: es) [] pos) (fN (oPure F) fr) := by
  obtain ⟨f, fd, ps, g, kp, H, b⟩ := G.ex
  refine PE.imp (pe_callO H gd hr hg g kp b .nil px ha hdb he hpl) fun σ H Q q => ?_
  exact tA_N (r := fun vs H Q => spF X.K c F (vs ++ []) H Q c.E) (fun {ρ h H xs vs Q} ok r q => by dsimp only; rw [List.append_nil]; exact op_pure ok r q) q
end
/-! ### clear -/
def mClear : D → List D → M D := fun x ys h => match x, ys with
  | .loc n, [] => match h[n]? with
    | some (.lst _) => .ret (.non, h.set n (.lst []))
    | _ => .bad
  | _, _ => .bad
section
variable {c : Ct} {X : Cx} {o : Expr} {fo : Sg → M D} {pos apos : Pos} {name : Str} {id : String}
theorem op_clear {K : PySem.W.Frag} : OpM K c rClear mClear := fun {ρ h H x v xs vs Q} ok r1 r2 q => by
  unfold mClear at q
  split at q
  · cases r1 with
    | loc g1 =>
      cases r2
      split at q
      · rename_i ys hy
        obtain ⟨us, e1, e2⟩ := ok.objs _ _ _ hy g1
        refine ⟨_, us, rfl, rfl, e1, ?_⟩
        obtain ⟨l, ok1⟩ := ok.put (u := .lst []) (o := .lst []) hy (by simp) g1 fun H1 l e => ⟨_, e, .nil⟩
        exact q _ _ _ l ok1 .non
      · exact q.elim
  · exact q.elim
theorem ev_meth0 {r : V → List V → Hp → VK → Prop} {op : D → List D → M D} (pa : PlainAttrs "list") (slot : Slot "list" name id) (hty : typeOf (.builtin id) = pure (.type "method_descriptor")) (hm : MtR X id r) (hop : OpM X.K c r op) (ho : EE c X o fo)
    (hbase : attributeBase o name X.env (eval o X.env) = eval o X.env := by rfl) (hline : (apos.endLine == pos.line) = true := by rfl) : EE c X (.Call (.Attribute o name apos) [] [] pos) (fM op fo fNil) :=
  PE.imp (pe_bm0 pa slot hty hm ho hbase hline) fun σ H Q q => by
    obtain ⟨ρ, h, s, ok, env, q⟩ := q
    refine ⟨ρ, h, s, ok, env, (M.all_bind.mp q).mono fun ⟨x, h1⟩ q1 ρ1 H1 v l1 ok1 r1 => ?_⟩
    have q1 := M.all_bind.mp q1
    dsimp only [isL] at q1
    split at q1
    · rename_i ys hy
      obtain ⟨a, vs, rfl, e1, e2⟩ := lstD_ok ok1 r1 hy
      exact ⟨.inl ⟨rfl, _, SqL.of e1⟩, hop ok1 r1 .nil (Tr.All.le l1 q1 fun r q => q.le l1)⟩
    · exact q1.elim
end
/-! ### a method of a class of the program, called on an instance -/
theorem zip_none : ∀ {ns : List Str} {vs : List V} {m : Str}, m ∉ ns → (ns.zip vs).lookup m = none
  | [], _, _, _ => rfl
  | _ :: _, [], _, _ => rfl
  | n :: ns, v :: vs, m, h => by
    have h1 : (m == n) = false := by simpa using fun z => h (by simp [z])
    rw [List.zip_cons_cons, List.lookup_cons, h1]
    exact zip_none fun z => h (by simp [z])
def fMe (k : Nat) (F : List D → M D) (fo : Sg → M D) (fr : Sg → M (List D)) : Sg → M D := fun s => M.bind (fo s) fun x h1 => match insD h1 x with
  | some (j, _) => if j = k then M.bind (fr s) (fun xs => F (x :: xs)) h1 else .bad
  | none => .bad
section
variable {c : Ct} {X : Cx} {o e : Expr} {es : List Expr} {fo : Sg → M D} {fr : Sg → M (List D)} {pos apos : Pos} {m : Str} {k lv : Nat} {F : List D → M D}
theorem ev_pureM {pl : Sem Bool} (G : OwnM X.prog X.w X.K X.mg X.base c lv k m F) (Fc : Facts X.K c) (hk : k < c.n) (nm : m ∉ c.cF k) (hr : Room lv X.A) (px : PX' X c.E) (ho : EE c X o fo) (ha : EA c X (e :: es) fr)
    (hst : starEach (e :: es) X.env = (false, eval e X.env) :: starEach es X.env := by rfl) (hpl : (backTo pos (starEach es X.env)).any (·.1) = false := by rfl)
    (ht : eval (.Call (.Attribute o m apos) (e :: es) [] pos) X.env = (eval o X.env >>= fun ov => standAt apos.atName >>= fun _ => holding [ov] (getMethod ov m pl) >>= fun q => callWith pos q.1 q.2 (backTo pos (starEach (e :: es) X.env)) (backToKw pos (keywordEach [] X.env))) := by rfl) :
    EE c X (.Call (.Attribute o m apos) (e :: es) [] pos) (fMe k (oPure F) fo fr) := by
  obtain ⟨f, fd, ps, hm, H, b⟩ := G.ex
  refine PE.imp (pe_meth (pl := pl) ho (Fc.cls _ hk).cl hm H hr b .nil px ha hst hpl ht) fun σ H Q ⟨ρ, h, s, ok, env, q⟩ => ?_
  refine ⟨ρ, h, s, ok, env, (M.all_bind.mp q).mono fun ⟨x, h1⟩ q1 ρ1 H1 v l1 ok1 r1 => ?_⟩
  dsimp only at q1
  split at q1
  · rename_i j fs hy
    split at q1
    · rename_i hj
      subst hj
      obtain ⟨a, dx, vs, rfl, e1, ⟨e2, hk'⟩, e3⟩ := insD_ok ok1 r1 hy
      refine ⟨a, dx, _, rfl, e1, zip_none (fun z => nm (List.mem_of_mem_take z)), ρ1, h1, s, ok1, env.le l1, Tr.All.le l1 (M.all_bind.mp q1) fun ⟨xs, h2⟩ q2 ρ2 H2 ws l2 ok2 r2 => ?_⟩
      dsimp only
      rw [List.append_nil]
      exact op_pure ok2 (.cons (r1.le l2) r2) (Tr.All.le (l1.trans l2) q2 fun r q => q.le (l1.trans l2))
    · exact q1.elim
  · exact q1.elim
end
end Ev
/-! ### != of instances of a class with an own __eq__ -/
namespace Ev
open PySem PySem.Spec PyProof.Rows L2 Dr
theorem fn_nev {P : Program} {w : World} {K : PySem.W.Frag} {mg : Str → Option Value} {base : Heap} {k : Nat} {f : Addr} {fd : FuncData} {ps : List Str} {sp : Sp} (F : FnOk P w K mg base (L2.CX P w) k f fd ps sp) : FnOk P w K mg base CX0 k f fd ps (fun vs H Q _ => sp vs H Q EF) :=
  ⟨fun vs H Q _ q => F.len _ _ _ _ q, fun A outer s H args us vs Q E hr he hb hv hs => codeAny_mono (F.run A outer s H args us vs Q EF hr he hb hv hs) fun r s' hq => by
    cases r with
    | error e =>
      obtain ⟨_, _, _, _, _, _, _, _, _, _, _, _, z⟩ := hq
      exact z.elim
    | ok fl => cases fl with
      | ret u => exact hq
      | next => exact hq
      | brk => exact hq
      | cont => exact hq⟩
def oPureE (F : List D → M D) : List D → M D := fun xs h => if noLs xs = true then (F xs []).both
    (fun r => match frz r.2 far r.1 with
      | some y => .ret (y, h)
      | none => .bad)
    (fun _ _ _ => .bad)
  else .bad
section
variable {c : Ct}
theorem op_pureE {K : PySem.W.Frag} {F : List D → M D} : OpN K c (fun vs H Q => spF K c F vs H Q EF) (oPureE F) := fun {ρ h H xs vs Q} ok r q => by
  unfold oPureE at q
  split at q
  · rename_i hx
    refine ⟨c.hid ++ ρ.l, Sto.nil, [], xs, ok.begin, RVs.mv mv_start xs vs (.inl hx) r, (Tr.all_both.mp q).mono2 (fun ⟨y, h1⟩ q1 ρ1 H1 v l1 ok1 r1 => ?_) (fun k fs h1 q1 => q1.elim)⟩
    dsimp only at q1
    split at q1
    · rename_i z hz
      obtain ⟨l2, ok2⟩ := ok.apart l1 ok1
      exact q1 ρ H1 v l2 ok2 (frz_ok ok1 mv_back (tr_back ok l1) far _ _ _ hz r1)
    · exact q1.elim
  · exact q.elim
/-- x.__eq__(y), turned by g: of instances of the same class -/
def oEqM (g : Bool → Bool) (k : Nat) (F : List D → M D) : D → D → M D := fun x y h => match insD h x, tyD h y with
  | some (i, _), some (.ins j) => if i = k ∧ j = k then (oPureE F [x, y] h).bind fun r => match r.1 with
      | .bl b => .ret (.bl (g b), r.2)
      | _ => .bad
    else .bad
  | _, _ => .bad
theorem op_eqM {K : PySem.W.Frag} {g : Bool → Bool} {k : Nat} {F : List D → M D} (Fc : Facts K c) : Op2 K c (Oe.rOwn K (c.cA k) (fun vs H Q _ => spF K c F vs H Q EF) g) (oEqM g k F) := fun {ρ h H x y v w Q} ok r1 r2 q => by
  unfold oEqM at q
  split at q
  · rename_i i fs j hx hy
    split at q
    · rename_i hij
      obtain ⟨rfl, rfl⟩ := hij
      obtain ⟨a, dx, vs, rfl, e1, _, _⟩ := insD_ok ok r1 hx
      refine ⟨a, dx, _, _, rfl, e1, (tyX_of Fc ok r2 hy).1, by unfold PySem.W.notFirst; simp [Ty.val], ?_⟩
      refine op_pureE ok (.cons r1 (.cons r2 .nil)) ((Tr.all_bind.mp q).mono fun ⟨z, h1⟩ q1 ρ1 H1 u l1 ok1 rz => ?_)
      dsimp only at q1
      split at q1
      · rename_i b
        cases rz
        exact ⟨b, rfl, q1 ρ1 H1 _ l1 ok1 (.bl _)⟩
      · exact q1.elim
    · exact q.elim
  · exact q.elim
end
section
variable {c : Ct} {X : Cx} {a b : Expr} {fa fb : Sg → M D} {pos : Pos} {k lv : Nat} {F : List D → M D}
theorem ev_neM (G : OwnM X.prog X.w X.K X.mg X.base c lv k "__eq__" F) (O : ∀ f, Meth X.K (c.cA k) "__eq__" f → Oe.OwnEq X.K (c.cA k) f) (Fc : Facts X.K c) (hr : Room (lv + 1) X.A) (ha : EE c X a fa) (hb : EE c X b fb) (hm : behindInMarks .NotEq b = false := by rfl) : EE c X (.Compare a [.NotEq] [b] pos) (f2 (oEqM not k F) fa fb) := by
  obtain ⟨f, fd, ps, me, H, bb⟩ := G.ex
  exact PE.imp (pe_cmpR (Oe.op_neO (O f me) (fn_nev H) hr bb) ha hb hm) fun σ H Q q => tE_2 (op_eqM Fc) q
theorem et_val2 {op : CmpOp} {r : R2} {g : D → D → M D} (ho : OpR X (compareOp op) r) (hs : Op2 X.K c r g) (ha : EE c X a fa) (hb : EE c X b fb) (hm : behindInMarks op b = false := by rfl) : ET c X (.Compare a [op] [b] pos) (tVal (f2 g fa fb)) :=
  PT.imp (pt_cmpR ho ha hb hm) fun σ H Q ⟨ρ, h, s, ok, env, q⟩ => by
    have q := M.all_bind.mp q
    refine ⟨ρ, h, s, ok, env, (M.all_bind.mp q).mono fun ⟨x, h1⟩ q1 ρ1 H1 v l1 ok1 r1 => ?_⟩
    refine ⟨ρ1, h1, s, ok1, env.le l1, Tr.All.le l1 (M.all_bind.mp q1) fun ⟨y, h2⟩ q2 ρ2 H2 w l2 ok2 r2 => ?_⟩
    refine hs ok2 (r1.le l2) r2 (Tr.All.le (l1.trans l2) q2 fun ⟨z, h3⟩ q3 ρ3 H3 u l3 ok3 rz => ?_)
    dsimp only [asB] at q3
    split at q3
    · cases rz
      exact ⟨_, rfl, q3 ρ3 H3 ((l1.trans l2).trans l3) ok3⟩
    · exact q3.elim
theorem et_neM (G : OwnM X.prog X.w X.K X.mg X.base c lv k "__eq__" F) (O : ∀ f, Meth X.K (c.cA k) "__eq__" f → Oe.OwnEq X.K (c.cA k) f) (Fc : Facts X.K c) (hr : Room (lv + 1) X.A) (ha : EE c X a fa) (hb : EE c X b fb) (hm : behindInMarks .NotEq b = false := by rfl) : ET c X (.Compare a [.NotEq] [b] pos) (tVal (f2 (oEqM not k F) fa fb)) := by
  obtain ⟨f, fd, ps, me, H, bb⟩ := G.ex
  exact et_val2 (Oe.op_neO (O f me) (fn_nev H) hr bb) (op_eqM Fc) ha hb hm
theorem ev_eqM (G : OwnM X.prog X.w X.K X.mg X.base c lv k "__eq__" F) (O : ∀ f, Meth X.K (c.cA k) "__eq__" f → Oe.OwnEq X.K (c.cA k) f) (Fc : Facts X.K c) (hr : Room lv X.A) (ha : EE c X a fa) (hb : EE c X b fb) (hm : behindInMarks .Eq b = false := by rfl) : EE c X (.Compare a [.Eq] [b] pos) (f2 (oEqM id k F) fa fb) := by
  obtain ⟨f, fd, ps, me, H, bb⟩ := G.ex
  exact PE.imp (pe_cmpR (Oe.op_eqO (O f me) (fn_nev H) hr bb) ha hb hm) fun σ H Q q => tE_2 (op_eqM Fc) q
theorem et_eqM (G : OwnM X.prog X.w X.K X.mg X.base c lv k "__eq__" F) (O : ∀ f, Meth X.K (c.cA k) "__eq__" f → Oe.OwnEq X.K (c.cA k) f) (Fc : Facts X.K c) (hr : Room lv X.A) (ha : EE c X a fa) (hb : EE c X b fb) (hm : behindInMarks .Eq b = false := by rfl) : ET c X (.Compare a [.Eq] [b] pos) (tVal (f2 (oEqM id k F) fa fb)) := by
  obtain ⟨f, fd, ps, me, H, bb⟩ := G.ex
  exact et_val2 (Oe.op_eqO (O f me) (fn_nev H) hr bb) (op_eqM Fc) ha hb hm
end
end Ev

/-! Functions without parameters that are handed to defs: what they do, over the store of the def that calls them. -/
namespace Ev
open PySem PySem.Spec PyProof.Rows L2 Dr
/-- a function at a; fs, h0, H0: the frames, the heap, what is known of it, from which on it stands; whenever it is called later, act is what it does -/
structure ActOk (P : Program) (w : World) (K : PySem.W.Frag) (mg : Str → Option Value) (base : Heap) (c : Ct) (k : Nat) (a : Addr) (act : M D) (fs : List Addr) (h0 : Heap) (H0 : Hp) : Prop where
  fn : ∀ (h : Heap) (H : Hp) (ρ : Sto), c.kp.p ρ H → HOk P w H h → PySem.W.FnAt a h
  run : ∀ (A : Around) (outer : List PySem.Env) (z : Shared) (H : Hp) (Q : VK) (E : XK) (ρ : Sto) (h : List O), Room k A → Env0 P w K mg base A outer z H → Un fs [] H0 H h0 z.heap → Ok K (c.bl c.hid E) ρ h H →
    (act h).All (PV K (c.bl c.hid E) ρ H Q) (PX K (c.bl c.hid E) ρ H) → codeAny (model P w) A (.call (.ref a) ⟨[], []⟩) (CR (L2.CX P w) outer P w H z Q E) z
section
variable {P : Program} {w : World} {K : PySem.W.Frag} {mg : Str → Option Value} {base : Heap} {c : Ct} {k j : Nat} {a : Addr} {act : M D}
theorem ActOk.mono {fs : List Addr} {h0 : Heap} {H0 : Hp} (o : ActOk P w K mg base c j a act fs h0 H0) (h : j ≤ k) : ActOk P w K mg base c k a act fs h0 H0 := ⟨o.fn, fun A outer z H Q E ρ h' hr => o.run A outer z H Q E ρ h' (hr.mono h)⟩
theorem ActOk.bl {fs : List Addr} {h0 : Heap} {H0 : Hp} {E : XK} (o : ActOk P w K mg base c k a act fs h0 H0) : ActOk P w K mg base (c.bl c.hid E) k a act fs h0 H0 := ⟨o.fn, fun A outer z H Q E ρ h' hr => o.run A outer z H Q E ρ h' hr⟩
/-- later in the frame in which it stands -/
theorem ActOk.later {X : Cx} {pins : List (Addr × Obj)} {σ : L2.St} {H1 : Hp} {s1 : Shared} (o : ActOk X.prog X.w X.K X.mg X.base c k a act X.fs X.s_0.heap X.H_0) (hx : X.ex = []) (I : L2.Inv X pins σ H1 s1) : ActOk X.prog X.w X.K X.mg X.base c k a act (frs X.stack) s1.heap H1 := by
  have go : ∀ (h : Heap) (H : Hp), Un (frs X.stack) [] H1 H s1.heap h → HOk X.prog X.w H h → Un X.fs [] X.H_0 H X.s_0.heap h := fun h H u hok => by
    have J := I.call (h' := h) (g' := s1.gens) (t' := s1.toks) (d' := s1.drawn) (ch := []) u hok I.bare (fun b z => absurd z (by simp))
    have := J.base
    rwa [hx] at this
  exact ⟨o.fn, fun A outer z H Q E ρ h hr e0 u ok q => o.run A outer z H Q E ρ h hr e0 (go _ H u e0.hok) ok q⟩
end
/-! ### the same frame, other wishes of errors -/
section
variable {K : PySem.W.Frag} {c : Ct} {hid : List Addr} {E E' : XK} {kp : Kp c.dw c.T} {ρ : Sto} {h : List O} {H : Hp}
theorem mv_E : Mv K (c.fr hid E kp) (c.fr hid E' kp) H ρ H ρ := ⟨fun _ _ h => h, fun a u e o => ⟨e, o.st, o.hd, o.dw⟩, rfl, rfl, rfl, rfl, rfl, rfl, rfl, rfl, rfl⟩
theorem carry_E : Carry (c.fr hid E kp) (c.fr hid E' kp) ρ H ρ H := ⟨fun _ _ z => z, fun _ _ z => z⟩
theorem RV.reE {x : D} {v : V} (r : RV K (c.fr hid E kp) H ρ x v) : RV K (c.fr hid E' kp) H ρ x v := RV.mv mv_E x v (.inr carry_E) r
theorem RVs.reE {x : List D} {v : List V} (r : RVs K (c.fr hid E kp) H ρ x v) : RVs K (c.fr hid E' kp) H ρ x v := RVs.mv mv_E x v (.inr carry_E) r
theorem Ok.reE (ok : Ok K (c.fr hid E kp) ρ h H) : Ok K (c.fr hid E' kp) ρ h H := ⟨ok.len, ok.nd, fun n o a e1 e2 => (ok.objs n o a e1 e2).mv mv_E carry_E rfl, ok.lv, ok.sub, ok.ex, ok.dw, ok.hid, ok.tab, ok.kp, ok.code⟩
theorem Off.reE {a : Addr} (o : Off (c.fr hid E kp) ρ a) : Off (c.fr hid E' kp) ρ a := ⟨o.st, o.hd, o.dw⟩
end
/-! ### a def that is handed such a function -/
/-- its promise: F, over the caller's store, act being what the function does -/
structure FnA (P : Program) (w : World) (K : PySem.W.Frag) (mg : Str → Option Value) (base : Heap) (c : Ct) (d : Nat) (f : Addr) (fd : FuncData) (ps : List Str) (F : M D → List D → M D) : Prop where
  run : ∀ (ka : Nat) (A : Around) (outer : List PySem.Env) (s : Shared) (H : Hp) (args : Args) (us : List Value) (vs : List V) (Q : VK) (E : XK) (hid : List Addr) (kp : Kp c.dw c.T) (a : Addr) (act : M D) (ρ : Sto) (h : List O) (xs : List D),
    Room (ka + d) A → Env0 P w K mg base A outer s H → BindsTo s fd args (ps.zip us) → Vals vs us → vs.length = ps.length → ActOk P w K mg base (c.fr hid E kp) ka a act (frs outer) s.heap H → (∀ k ρ H b, kp.q k ρ H b → b = a) →
    Ok K (c.fr hid E kp) ρ h H → RVs K (c.fr hid E kp) H ρ xs vs → (F act xs h).All (PV K (c.fr hid E kp) ρ H Q) (PX K (c.fr hid E kp) ρ H) → codeAny (model P w) A (.call (.ref f) args) (CR (L2.CX P w) outer P w H s Q E) s
structure OwnA (P : Program) (w : World) (K : PySem.W.Frag) (mg : Str → Option Value) (base : Heap) (c : Ct) (d : Nat) (x : Str) (n : Nat) (F : M D → List D → M D) : Prop where
  ex : ∃ (f : Addr) (fd : FuncData) (ps : List Str), ps.length = n ∧ mg x = some (.ref f) ∧ PySem.W.keepIn K (.ref f) = true ∧ FnA P w K mg base c d f fd ps F ∧ L2.Binds K fd ps []
section
variable {P : Program} {w : World} {K : PySem.W.Frag} {mg : Str → Option Value} {base : Heap} {c : Ct} {d n : Nat} {x : Str} {F : M D → List D → M D} {hid : List Addr} {E : XK}
theorem OwnA.at {kp : Kp c.dw c.T} (G : OwnA P w K mg base c d x n F) : OwnA P w K mg base (c.fr hid E kp) d x n F := by
  obtain ⟨f, fd, ps, hn, g, kpp, ⟨Fn⟩, b⟩ := G.ex
  exact ⟨f, fd, ps, hn, g, kpp, ⟨fun ka A outer s H args us vs Q E hid kp a act ρ h xs => Fn ka A outer s H args us vs Q E hid kp a act ρ h xs⟩, b⟩
end
/-! ### called in the def that is handed it -/
section
variable {X : Cx} {c : Ct} {ka i : Nat} {a : Addr} {act : M D} {x : Str} {p1 p2 : Pos}
/-- x(), in a context that may be a try's -/
theorem pe_actG {W : WX} {pn : List (Addr × Obj)} {xe : Value → Shared → Prop} (hx : X.ex = []) (o : ActOk X.prog X.w X.K X.mg X.base c ka a act X.fs X.s_0.heap X.H_0) (tk : Takes (X.tr pn xe) W) (hr : Room ka X.A) (hN : X.N[i]? = some x) (hv : Vis X.env.scope x) (hd : (x == ("__debug__" : Str)) = false := by decide) (hcd : (x == ("__classdict__" : Str)) = false := by decide) :
    PE (X.tr pn xe) (.Call (.Name x p1) [] [] p2) (fun σ H Q => ∃ (E : XK) (ρ : Sto) (h : List O), σ[i]? = some (some (.ref a)) ∧ (∀ cls d σ' H', E cls d H' → W cls d σ' H') ∧ Ok X.K (c.bl c.hid E) ρ h H ∧ (act h).All (PV X.K (c.bl c.hid E) ρ H Q) (PX X.K (c.bl c.hid E) ρ H)) := by
  constructor
  rintro pins s σ H Q I ⟨E, ρ, h, hs, hW, ok, q⟩
  apply wpAny_Call_Name_kw
  refine thn ((pe_var (X := X.tr pn xe) (pos := p1) (i := i) hN hv hd hcd).run pins s σ H (fun v H1 => v = .ref a ∧ H1 = H) I ⟨.ref a, hs, rfl, rfl⟩) ?_
  rintro u s1 ⟨v, H1, I1, r1, rfl, rfl⟩
  cases r1
  have un : Un X.fs [] X.H_0 H1 X.s_0.heap s1.heap := by
    have := I1.base
    rwa [show (X.tr pn xe).ex = [] from hx] at this
  apply PySem.W.callWith_F0 (o.fn _ _ ρ ok.kp I1.hok)
  apply wpAny_call
  refine codeAny_mono (o.run X.A X.stack s1 H1 Q E ρ h hr I1.env0 un ok q) fun r s2 hq => ?_
  cases r with
  | error e => exact passes_call tk hW pins σ H1 s1 e s2 I1 hq
  | ok fl =>
    cases fl with
    | ret u => exact I1.after hq
    | next => exact hq.elim
    | brk => exact hq.elim
    | cont => exact hq.elim
/-- try: x() / except C as n: found = n: what is caught is kept; ns: how many fields each class of errors has -/
def sTryAct (ia ifd n : Nat) (ns : List Nat) (act : M D) : Sg → M Out := fun s h => match s[ia]? with
  | some (some (.fn _)) => (act h).both (fun r => .ret (.nx s, r.2)) (fun k fs h1 => match ns[k]? with
    | some m => if fs.length = m then .ret (.nx ((List.replicate n none).set ifd (some (.exn k fs))), h1) else .bad
    | none => .bad)
  | _ => .bad
theorem es_tryAct {hid : List Addr} {E : XK} {kp : Kp c.dw c.T} {ie : Nat} {cx n fd : Str} {CT : Addr} {np p3 p4 p5 p6 pos pos' : Pos} {ns : List Nat} (ia ifd : Nat) (o : ActOk X.prog X.w X.K X.mg X.base (c.fr hid E kp) ka a act X.fs X.s_0.heap X.H_0) (hq : ∀ k ρ H b, kp.q k ρ H b → b = a) (hr : Room ka X.A)
    (once : X.N.Nodup) (hie : X.N[ie]? = some n) (hne : ifd ≠ ie) (names : Names X cx (.ref CT)) (hns : ∀ k m, ns[k]? = some m → k < c.m ∧ (c.eF k).length = m ∧ PySem.W.exmOne X.K (.ref (c.eA k)) (.ref CT) = some true)
    (hx : X.ex = [] := by rfl) (own : X.stack = X.env :: X.outer := by rfl) (fr : X.env.frame = some X.env.locals := by rfl) (lo : X.env.kindOf n = some .local := by rfl) (hN : X.N[ia]? = some x := by rfl) (hv : Vis X.env.scope x := by first | exact Or.inl rfl | exact Or.inr (Or.inl rfl) | exact Or.inr (Or.inr rfl))
    (hf : X.N[ifd]? = some fd := by rfl) (hx1 : Loc X.env.scope fd := by first | exact Or.inl rfl | exact Or.inr rfl) (hve : Vis X.env.scope n := by first | exact Or.inl rfl | exact Or.inr (Or.inl rfl) | exact Or.inr (Or.inr rfl)) (hd : (x == ("__debug__" : Str)) = false := by decide) (hcd : (x == ("__classdict__" : Str)) = false := by decide) (hd2 : (n == ("__debug__" : Str)) = false := by decide) (hcd2 : (n == ("__classdict__" : Str)) = false := by decide)
    (hff : X.fn fd = true ∨ X.env.scope.names.lookup fd = some .local := by first | exact .inl rfl | exact .inr rfl)
    (hsw : ∀ (b : Addr) (pn : List (Addr × Obj)), swapsWith (.Name n p4) (some (.Name fd p3)) p5.line (X.suite b pn).env = pure false := by intro _ _; rfl) (hsx : ∀ (pn : List (Addr × Obj)) (xe : Value → Shared → Prop), swapsWith (.Call (.Name x p1) [] [] p2) none p6.line (X.tr pn xe).env = pure false := by intro _ _; rfl) :
    ES (c.fr hid E kp) X (.Try [.Expr (.Call (.Name x p1) [] [] p2) p6] [.ExceptHandler (some (.Name cx np)) (some n) [.Assign [.Name fd p3] (.Name n p4) p5] pos'] [] [] pos) (sTryAct ia ifd X.N.length ns act) := by
  refine PS.imp (Ek.ps_try_keep own fr once hie lo names LamX.takes0 hx
    (tb := fun W D σ H => ∃ (Ech : XK) (ρ : Sto) (h : List O), σ[ia]? = some (some (.ref a)) ∧ (∀ cls d σ' H', Ech cls d H' → σ'.length = X.N.length → W cls d σ' H') ∧ Ok X.K (c.fr hid Ech kp) ρ h H ∧ (act h).All (PV X.K (c.fr hid Ech kp) ρ H fun _ H' => D.nx σ H') (PX X.K (c.fr hid Ech kp) ρ H))
    (fun W pn xe tk _ => ?_) (ts := fun _ _ _ => tAsg (tVar ie) (gName ifd)) (fun b oe cls d pn _ _ => pss_one (ps_set (X := X.suite b ((b, oe) :: pn)) (i := ifd) once hf hx1 (pe_var hie hve hd2 hcd2) (hsw b _) hff))) ?_
  · constructor
    rintro pins s σ H D I ⟨Ech, ρ, h, h1, hW, ok, q⟩
    exact (pss_one (ps_expr (pe_actG (pn := pn) (xe := xe) (W := fun cls d σ H => σ.length = X.N.length → W cls d σ H) (c := c.fr hid E kp) hx o (Ek.takes_len tk) hr hN hv hd hcd) (hsx pn xe))).run pins s σ H D I ⟨Ech, ρ, h, h1, hW, ok, q⟩
  · rintro D σ H ⟨ρ, h, s, ok, env, q⟩
    unfold sTryAct at q
    split at q
    · rename_i kf hs
      obtain ⟨v, e1, r1⟩ := env.2 ia _ hs
      cases r1 with
      | @fn _ b hb =>
        obtain rfl := hq _ _ _ _ hb
        refine ⟨fun cls d H' => PySem.W.exmOne X.K cls (.ref CT) = some true ∧ ∀ σ' : L2.St, σ'.length = X.N.length → ∀ b', H' b' = none → D.nx (((σ'.set ie (some (.ref b'))).set ifd (some (.ref b'))).set ie none) (upd H' b' (Ek.ExK cls d b')), ρ, h, e1, ?_, ok.reE, ?_⟩
        · rintro cls d σ' H' ⟨z1, z2⟩ hl
          refine ⟨true, z1, fun _ b' nb => ?_, fun z => nomatch z⟩
          refine ⟨.ref b', ?_, fun nb' => z2 σ' hl b' nb'⟩
          rw [List.getElem?_set_self]
          rw [hl]
          exact (List.getElem?_eq_some_iff.mp hie).1
        · refine (Tr.all_both.mp q).mono2 (fun r q1 ρ1 H1 v l1 ok1 r1 => q1 ρ1 H1 σ l1 (Ok.reE (E' := E) ok1) (env.le l1)) fun k fs h1 q1 => ?_
          split at q1
          · rename_i m hm
            split at q1
            · rename_i hl
              obtain ⟨n1, n2, n3⟩ := hns k m hm
              refine ⟨n1, hl.trans n2.symm, fun ρ1 H1 d vs l1 ok1 od rv => ⟨n3, fun σ' hσ b' nb => ?_⟩⟩
              have ok1' : Ok X.K (c.fr hid E kp) ρ1 h1 H1 := ok1.reE
              obtain ⟨l2, ok2⟩ := ok1'.other (o := Ek.ExK (.ref (c.eA k)) d b') nb
              refine q1 ρ1 _ _ (l1.trans l2) ok2 ⟨by simp [hσ], fun i x hi => ?_⟩
              have hif : ifd < X.N.length := (List.getElem?_eq_some_iff.mp hf).1
              by_cases he : i = ifd
              · subst he
                rw [List.getElem?_set_self (by simpa using hif)] at hi
                cases hi
                refine ⟨.ref b', ?_, .exn upd_same (ok1'.offN nb) ⟨n1, hl.trans n2.symm⟩ ⟨od.1, fun z => ?_⟩ (rv.reE.le l2)⟩
                · rw [List.getElem?_set_ne (Ne.symm hne), List.getElem?_set_self (by simp [hσ]; exact hif)]
                · obtain ⟨dd, d1, d2, d3⟩ := od.2 z
                  obtain ⟨d4, d5⟩ := l2.off d2 d3.reE
                  exact ⟨dd, d1, d4, d5⟩
              · rw [List.getElem?_set_ne (Ne.symm he)] at hi
                have := List.mem_of_getElem? hi
                rw [List.mem_replicate] at this
                cases this.2
            · exact q1.elim
          · exact q1.elim
    · exact q.elim
end
/-! ### a def that is handed a function, by its steps -/
section
variable {P : Program} {w : World} {K : PySem.W.Frag} {mg : Str → Option Value} {base : Heap} {c : Ct} {x : Str} {st : Stmt} {N ps : List Str} {d : Nat} {fB : M D → Sg → M Out}
theorem ownA_ev (G : GD K mg x st ps) (S : FnScope N ps (defScope st)) (body : ∀ (ka : Nat) (act : M D) (f : Addr) (cdv : Value) (A : Around) (outer : List PySem.Env) (s : Shared) (H : Hp) (E : XK) (hid : List Addr) (kp : Kp c.dw c.T) (a : Addr), Room (ka + d) (A.deeper (envOfC x (defScope st) s.heap.objs.size f cdv)) →
      ActOk P w K mg base (c.fr hid E kp) ka a act (frs outer) s.heap H → (∀ k ρ H b, kp.q k ρ H b → b = a) → PX' (cxOf (L2.CX P w) P w K mg base N x (defScope st) f cdv A outer s H E) E →
      ESs (c.fr hid E kp) (cxOf (L2.CX P w) P w K mg base N x (defScope st) f cdv A outer s H E) (defBody st) (fB act)) : OwnA P w K mg base c (d + 1) x ps.length fun act => mkF ps.length N.length (fB act) := by
  obtain ⟨f, fd, F, g, b⟩ := G.ex
  refine ⟨f, fd, ps, rfl, g, F.kp, ⟨fun ka A outer s H args us vs Q E hid kp a act ρ h xs hr e0 hb rv hl o hq ok r q => ?_⟩, b⟩
  obtain ⟨oc, od, kV, doc, pm, an, cdv, ct, osl, rfl, look, code⟩ := F.ex
  refine LamX.run_ofS look code S hr e0 hb rv hl fun hr2 => ⟨_, body ka act f cdv A outer s H E hid kp a hr2 o hq pass_body, ρ, h, _, ok, env_start r N, ?_⟩
  unfold mkF at q
  rw [if_pos (r.len.trans hl)] at q
  refine (M.all_bind.mp q).mono fun ⟨ot, h1⟩ q1 => ?_
  cases ot with
  | nx s1 => exact fun ρ1 H1 σ1 l1 ok1 _ => q1 ρ1 H1 _ l1 ok1 .non
  | rt d => exact q1
  | bk s1 => exact q1.elim
  | ct s1 => exact q1.elim
end
end Ev

/-! Lambdas as values of the def that makes them; a call of a def that is handed one. -/
namespace Ev
open PySem PySem.Spec PyProof.Rows L2 Dr
/-- a lambda of the text -/
structure LamI where
  params : Arguments
  body : Expr
  scope : Scope
/-- its function at f, made in the frame of env, its code at c' -/
def LamO (env : PySem.Env) (l : LamI) (c' f : Addr) : HO := .ext fun h => ∃ pm ctv, h.get? f = some (PySem.W.kla_obj "<lambda>" (env.qual ++ "<lambda>") l.params l.body l.scope (cloFrom env.cells l.scope.names []) pm c' ctv)
theorem lamO_ok {P : Program} {w : World} {H : Hp} {h : Heap} {env : PySem.Env} {l : LamI} {c' f : Addr} {pm ctv : Value} (e : h.get? f = some (PySem.W.kla_obj "<lambda>" (env.qual ++ "<lambda>") l.params l.body l.scope (cloFrom env.cells l.scope.names []) pm c' ctv)) : ObjOk P w H h f (LamO env l c' f) :=
  ⟨⟨pm, ctv, e⟩, ⟨_, e⟩, fun _ _ ⟨p, t, z⟩ k => ⟨p, t, k _ z⟩⟩
/-- the lambdas of a frame -/
def kpLam (dw : Option (Addr × Addr × Addr)) (T : List (Addr × Str)) (env : PySem.Env) (L : List LamI) : Kp dw T where
  p := fun _ _ => True
  q := fun k ρ H a => ∃ l c', L[k]? = some l ∧ H a = some (LamO env l c' a) ∧ H c' = some (LamX.CodeO c' (env.qual ++ "<lambda>")) ∧ (a ∉ ρ.l ∧ Fix dw T a) ∧ (c' ∉ ρ.l ∧ Fix dw T c')
  pm := fun _ _ _ _ _ h => h
  qm := fun k ρ H ρ' H' a le ⟨l, c', h1, h2, h3, ⟨h4, h5⟩, h6, h7⟩ => by
    have out : ∀ b u, H b = some u → b ∉ ρ.l → b ∉ ρ'.l := fun b u e n z => by
      rw [le.new b z n] at e
      cases e
    exact ⟨l, c', h1, le.fr a _ h4 h5 h2, le.fr c' _ h6 h7 h3, ⟨out a _ h2 h4, h5⟩, out c' _ h3 h6, h7⟩
  qs := fun k ρ H ρ' H' a st ⟨l, c', h1, h2, h3, ⟨h4, h5⟩, h6, h7⟩ => by
    obtain ⟨e1, e2⟩ := st a _ h2
    obtain ⟨e3, e4⟩ := st c' _ h3
    exact ⟨l, c', h1, e1, e3, ⟨e2 h4, h5⟩, e4 h6, h7⟩
section
variable {X : Cx} {pins : List (Addr × Obj)} {σ : L2.St} {H : Hp} {s : Shared}
/-- a lambda is made: its function is new, and known from now on -/
theorem lam_new {T : List (Addr × Str)} {c P : Addr} {pos : Pos} {q : Str} {E Q : Value → Shared → Prop} (l : LamI) (I : L2.Inv X pins σ H s) (TB : LamX.TabB X.base X.mg c P) (code : X.env.code = .ref c) (hq : q = X.env.qual ++ "<lambda>") (mem : (P, q) ∈ T) (one : ∀ p ∈ T, p.1 = P → p.2 = q) (tabs : LamX.Tabs T H)
    (plain : defaultsOf l.params X.env = ([], [])) (caps : ∀ y ∈ l.scope.names, y.2 = .free → ∃ c, X.env.cells.lookup y.1 = some c)
    (after : ∀ (f c' : Addr) (H1 : Hp) (s' : Shared), L2.Inv X pins σ H1 s' → H f = none → H1 f = some (LamO X.env l c' f) → H1 c' = some (LamX.CodeO c' q) → (H c' = none ∨ H c' = some (LamX.CodeO c' q)) → f ≠ c' → LamX.Tabs T H1 → (∀ b o, b ≠ P → H b = some o → H1 b = some o) → (∀ b, H1 b = none → H b = none) → (∀ b q', H1 b = some (LamX.CodeO b q') → H b = none ∨ H b = some (LamX.CodeO b q')) → Q (.ref f) s') :
    wpAny (model X.prog X.w) X.A (eval (.Lambda l.params l.body l.scope pos) X.env) Q E s := by
  obtain ⟨ps, atP, tri, all⟩ := tabs _ mem
  subst hq
  have tabP : s.heap.get? P = some { cls := .none, data := .fields ps } := I.hok P _ atP
  have bmP := TB.bm.keeps I.bk
  apply PySem.W.kla_eval plain
  -- the function is put behind all
  have fin : ∀ (c' : Addr) (pm ctv : Value) (h1 : Heap) (t1 : Nat) (H1 : Hp), L2.Inv X pins σ H1 { s with heap := h1, toks := t1 } → s.heap.objs.size ≤ h1.objs.size → H1 c' = some (LamX.CodeO c' (X.env.qual ++ "<lambda>")) → (H c' = none ∨ H c' = some (LamX.CodeO c' (X.env.qual ++ "<lambda>"))) →
      LamX.Tabs T H1 → (∀ b o, b ≠ P → H b = some o → H1 b = some o) → (∀ b, H1 b = none → H b = none) → (∀ b q', H1 b = some (LamX.CodeO b q') → H b = none ∨ H b = some (LamX.CodeO b q')) →
      Q (.ref h1.objs.size) { s with heap := h1.push (PySem.W.kla_obj "<lambda>" (X.env.qual ++ "<lambda>") l.params l.body l.scope (cloFrom X.env.cells l.scope.names []) pm c' ctv), toks := t1 } := by
    intro c' pm ctv h1 t1 H1 I1 more hc old ht ext none_ codes
    have free1 : H1 h1.objs.size = none := I1.hok.fresh (Nat.le_refl _)
    have free0 : H h1.objs.size = none := I.hok.fresh more
    have at_ : (h1.push (PySem.W.kla_obj "<lambda>" (X.env.qual ++ "<lambda>") l.params l.body l.scope (cloFrom X.env.cells l.scope.names []) pm c' ctv)).get? h1.objs.size = some (PySem.W.kla_obj "<lambda>" (X.env.qual ++ "<lambda>") l.params l.body l.scope (cloFrom X.env.cells l.scope.names []) pm c' ctv) := Heap.get?_push_size _ rfl
    have I2 := I1.laid (t' := t1) (a := h1.objs.size) (o := LamO X.env l c' h1.objs.size) (fun b o e => Heap.get?_push_of_some _ e) (Nat.le_refl _) (lamO_ok at_)
    have apart : h1.objs.size ≠ c' := fun z => by
      rw [← z, free1] at hc
      cases hc
    refine after h1.objs.size c' _ _ I2 free0 upd_same ?_ old apart (ht.ext fun b o e => ?_) (fun b o nb e => ?_) (fun b e => ?_) (fun b q' e => ?_)
    · rw [upd_ne (Ne.symm apart)]; exact hc
    · rw [upd_ne (ne_of_none e free1)]; exact e
    · have := ext b o nb e
      rw [upd_ne (ne_of_none this free1)]; exact this
    · by_cases z : b = h1.objs.size
      · rw [z]; exact free0
      · rw [upd_ne z] at e
        exact none_ b e
    · by_cases z : b = h1.objs.size
      · rw [z]; exact .inl free0
      · rw [upd_ne z] at e
        exact codes b q' e
  rcases hit : codeAmong pos ps.toList with _ | cv
  · apply PySem.W.kla_makeFunction (mg := X.mg) (c := c) (P := P) (ps := ps) (closure_ok caps) I.ok.glob (I.mod.glob.keeps I.bk) code (TB.code.keeps I.bk) tabP tri hit TB.gP bmP
    rintro c' ctv h1 t1 ext ge lt ⟨c2, oc, vs, t, e2, hoc, hd, hv⟩ tab1
    cases e2
    have nC : H c' = none := I.hok.fresh ge
    have nP : P ≠ c' := ne_of_none atP nC
    have I1 := LamX.inv_table (t' := t1) (more := #[rawInt pos.line, rawInt pos.col, .ref c']) I atP (fun b o hb e => ext b o hb e) tab1 ge ⟨oc, vs, t, hoc, hd, hv⟩
    have ext1 : ∀ b o, b ≠ P → H b = some o → upd (upd H P (.tbl (ps ++ #[rawInt pos.line, rawInt pos.col, .ref c']))) c' (LamX.CodeO c' (X.env.qual ++ "<lambda>")) b = some o := fun b o nb e => by
      rw [upd_ne (ne_of_none e nC), upd_ne nb]; exact e
    refine fin c' _ ctv h1 t1 _ I1 (Nat.le_trans ge (Nat.le_of_lt lt)) upd_same (.inl nC) (fun p hp => ?_) ext1 (fun b e => ?_) (fun b q' e => ?_)
    · by_cases hb : p.1 = P
      · rw [one p hp hb, hb]
        have list1 : (ps ++ #[rawInt pos.line, rawInt pos.col, .ref c']).toList = ps.toList ++ [rawInt pos.line, rawInt pos.col, .ref c'] := by simp
        refine ⟨_, by rw [upd_ne nP, upd_same], by rw [list1]; exact PySem.TriplesOk_snoc _ _ _ _ tri, fun p' cv among => ?_⟩
        rw [list1] at among
        rcases LamX.among_app _ tri among with z | z
        · obtain ⟨c0, e1, e2⟩ := all p' cv z
          exact ⟨c0, e1, ext1 _ _ (fun w => LamX.codeO_ne _ (Option.some.inj ((w ▸ e2).symm.trans atP))) e2⟩
        · exact ⟨c', z, upd_same⟩
      · obtain ⟨qs, a1, a2, a3⟩ := tabs p hp
        refine ⟨qs, ext1 _ _ hb a1, a2, fun p' cv among => ?_⟩
        obtain ⟨c0, e1, e2⟩ := a3 p' cv among
        exact ⟨c0, e1, ext1 _ _ (fun w => LamX.codeO_ne _ (Option.some.inj ((w ▸ e2).symm.trans atP))) e2⟩
    · by_cases z : b = c'
      · rw [z]; exact nC
      · rw [upd_ne z] at e
        by_cases z2 : b = P
        · rw [z2, upd_same] at e; cases e
        · rw [upd_ne z2] at e; exact e
    · by_cases z : b = c'
      · rw [z]; exact .inl nC
      · rw [upd_ne z] at e
        by_cases z2 : b = P
        · rw [z2, upd_same] at e
          exact (LamX.codeO_ne _ (Option.some.inj e).symm).elim
        · rw [upd_ne z2] at e; exact .inr e
  · obtain ⟨c', rfl, hco⟩ := all pos cv hit
    apply PySem.W.kla_makeFunctionHit (mg := X.mg) (c := c) (P := P) (ps := ps) (closure_ok caps) I.ok.glob (I.mod.glob.keeps I.bk) code (TB.code.keeps I.bk) tabP tri hit bmP
    intro ctv h1 t1 keep size
    have I1 : L2.Inv X pins σ H { s with heap := h1, toks := t1 } := I.kept keep
    exact fin c' _ ctv h1 t1 H I1 size hco (.inr hco) tabs (fun b o _ e => e) (fun b e => e) (fun b q' e => .inr e)
end
section
variable {X : Cx} {c : Ct} {hid : List Addr} {E : XK} {L : List LamI} {pos : Pos}
/-- a lambda as a value -/
theorem ev_lam {cd P : Addr} {l : LamI} (k : Nat) (hk : L[k]? = some l) (TB : LamX.TabB X.base X.mg cd P) (code : X.env.code = .ref cd) (mem : (P, X.env.qual ++ "<lambda>") ∈ c.T) (one : ∀ p ∈ c.T, p.1 = P → p.2 = X.env.qual ++ "<lambda>") (LS : LamX.LamS X.env.scope l.scope) (plain : defaultsOf l.params X.env = ([], [])) :
    EE (c.fr hid E (kpLam c.dw c.T X.env L)) X (.Lambda l.params l.body l.scope pos) (fC (.fn k)) := by
  constructor
  rintro pins s σ H Q I ⟨ρ, h, sg, ok, env, q⟩
  refine lam_new l I TB code rfl mem one ok.tab.1 plain (LS.has I.ok) ?_
  intro f c' H1 s' I1 nf hf hc hold ne ht ext none_ codes
  obtain ⟨ps, atP, _⟩ := ok.tab.1 _ mem
  have atP : H P = some (.tbl ps) := atP
  have offP : ∀ b u, H b = some u → (∀ qs, u ≠ .tbl qs) → b ≠ P := fun b u e n z => by
    rw [z, atP] at e
    exact n _ (Option.some.inj e).symm
  have le : Le c ρ H ρ H1 := ⟨List.prefix_refl _, fun p a b => absurd a b, fun b o _ hd e => ext b o (fun z => hd.2 _ mem z) e, fun b xs e => ext b _ (offP b _ e fun _ z => nomatch z) e, fun b o u e => ext b _ (offP b _ e fun _ z => nomatch z) e, none_⟩
  have same : ∀ a, a ∈ ρ.a → H1 a = H a := fun a ha => by
    obtain ⟨u, hu⟩ := ok.ex a ha
    rw [hu]
    exact ext a u (fun z => ok.tab.2 _ mem (z ▸ ha)) hu
  have there : ∀ a, (∃ u, H a = some u) → ∃ u, H1 a = some u := fun a ⟨u, hu⟩ => by
    cases z : H1 a with
    | some u => exact ⟨u, rfl⟩
    | none => rw [none_ a z] at hu; cases hu
  have ok1 : Ok X.K (c.fr hid E (kpLam c.dw c.T X.env L)) ρ h H1 := by
    refine ⟨ok.len, ok.nd, fun n o a e1 e2 => RO.le (c := c.fr hid E (kpLam c.dw c.T X.env L)) le (same a (List.mem_of_getElem? e2)) (ok.objs n o a e1 e2), ok.lv, ok.sub, fun a ha => there a (ok.ex a ha), fun d g e z => ?_, fun a ha => ⟨there a (ok.hid a ha).1, (ok.hid a ha).2⟩, ⟨ht, ok.tab.2⟩, trivial, fun b q' e hb => ?_⟩
    · obtain ⟨Dx, h1⟩ := ok.dw d g e z
      refine ⟨Dx.keep fun b x hb e' => ext b x (offP b x e' fun qs z => ?_) e', h1⟩
      subst z
      obtain ⟨⟨gs, cs, r, t, hd, hg, hc⟩, _⟩ := id Dx
      rcases hb with rfl | rfl | rfl
      · rw [hd] at e'; cases e'
      · rw [hg] at e'; cases e'
      · rw [hc] at e'; cases e'
    · rcases codes b q' e with z | z
      · obtain ⟨u, hu⟩ := ok.ex b hb
        rw [z] at hu; cases hu
      · exact ok.code b q' z hb
  have of := ok.offN nf
  refine ⟨.ref f, H1, I1, rfl, q ρ H1 (.ref f) le ok1 (.fn ⟨l, c', hk, hf, hc, ⟨of.st, of.dw⟩, ?_⟩)⟩
  rcases hold with z | z
  · have oc := ok.offN z
    exact ⟨oc.st, oc.dw⟩
  · refine ⟨fun w => ok.code _ _ z (ok.sub _ w), fun d g e w => ?_, fun p hp w => ?_⟩
    · obtain ⟨⟨⟨gs, cs, r, t, hd, hg, hc⟩, _⟩, _⟩ := ok.dw d g e w
      have no : ∀ b u, H b = some u → (∀ q', u ≠ LamX.CodeO c' q') → c' ≠ b := fun b u e n y => by
        rw [← y, z] at e
        exact n _ (Option.some.inj e).symm
      exact ⟨no d _ hd (fun q' y => by unfold LamX.CodeO at y; cases y), no g _ hg (fun q' y => by unfold LamX.CodeO at y; cases y)⟩
    · obtain ⟨qs, e, _⟩ := ok.tab.1 p hp
      rw [← w, z] at e
      exact LamX.codeO_ne _ (Option.some.inj e)
end
/-! ### a call of a def that is handed a lambda -/
/-- the slots without numbers of the store -/
def cleanS (s : Sg) : Sg := s.map fun o => match o with
  | some x => if noL x = true then some x else none
  | none => none
theorem clean_no {s : Sg} {i : Nat} {x : D} (e : (cleanS s)[i]? = some (some x)) : noL x = true ∧ s[i]? = some (some x) := by
  unfold cleanS at e
  rw [List.getElem?_map] at e
  rcases q : s[i]? with _ | _ | y
  · rw [q] at e; cases e
  · rw [q] at e; cases e
  · rw [q] at e
    simp only [Option.map_some] at e
    by_cases hy : noL y = true
    · rw [if_pos hy] at e
      cases e
      exact ⟨hy, rfl⟩
    · rw [if_neg hy] at e
      cases e
theorem Env.mvC {K : PySem.W.Frag} {c c1 : Ct} {H H1 : Hp} {ρ ρ1 : Sto} {s : Sg} {σ : L2.St} (m : Mv K c c1 H ρ H1 ρ1) (hn : ∀ (i : Nat) (x : D), s[i]? = some (some x) → noL x = true) (e : Env K c H ρ s σ) : Env K c1 H1 ρ1 s σ :=
  ⟨e.1, fun i x h => let ⟨v, h1, h2⟩ := e.2 i x h; ⟨v, h1, RV.mv m x v (.inl (hn i x h)) h2⟩⟩
theorem Env.clean {K : PySem.W.Frag} {c : Ct} {H : Hp} {ρ : Sto} {s : Sg} {σ : L2.St} (e : Env K c H ρ s σ) : Env K c H ρ (cleanS s) σ := ⟨by rw [← e.1]; simp [cleanS], fun i x h => e.2 i x (clean_no h).2⟩
/-- what holds on where the lambda is called: the maker's slots, its function -/
def kpAct (K : PySem.W.Frag) (c : Ct) (hid : List Addr) (env : PySem.Env) (l : LamI) (a c' : Addr) (s : Sg) (σ : L2.St) : Kp c.dw c.T where
  p := fun ρ H => Env K (c.at hid (fun _ _ _ => False)) H ρ s σ ∧ H a = some (LamO env l c' a) ∧ H c' = some (LamX.CodeO c' (env.qual ++ "<lambda>")) ∧ (a ∉ ρ.l ∧ Fix c.dw c.T a) ∧ (c' ∉ ρ.l ∧ Fix c.dw c.T c')
  q := fun _ _ _ b => b = a
  pm := fun ρ H ρ' H' le ⟨h1, h2, h3, ⟨h4, h5⟩, h6, h7⟩ => by
    have out : ∀ b u, H b = some u → b ∉ ρ.l → b ∉ ρ'.l := fun b u e n z => by
      rw [le.new b z n] at e
      cases e
    exact ⟨Env.le (c := c.at hid _) le h1, le.fr a _ h4 h5 h2, le.fr c' _ h6 h7 h3, ⟨out a _ h2 h4, h5⟩, out c' _ h3 h6, h7⟩
  qm := fun _ _ _ _ _ _ _ h => h
  qs := fun _ _ _ _ _ _ _ h => h
section
variable {X : Cx} {c : Ct} {hid : List Addr} {E : XK} {kb : Nat}
/-- what a lambda of the frame does when it is called later -/
theorem act_lam {pins : List (Addr × Obj)} {σ : L2.St} {H1 : Hp} {z1 : Shared} {l : LamI} {a c' : Addr} {s : Sg} {fb : Sg → M D} (I : L2.Inv X pins σ H1 z1) (LS : LamX.LamS X.env.scope l.scope)
    (bind0 : ∀ (q : Str) (cl : List (Str × Addr)) (pm cv ctv : Value), bindArgs (PySem.W.kla_fn "<lambda>" q l.params l.body l.scope cl pm cv ctv) ⟨[], []⟩ = pure []) (hn : ∀ (i : Nat) (x : D), s[i]? = some (some x) → noL x = true)
    (body : ∀ (A : Around) (outer : List PySem.Env) (z : Shared) (H : Hp) (E : XK) (kp : Kp c.dw c.T), Room kb (A.deeper (LamX.lamEnv X l.scope z.heap.objs.size a c')) → PX' (LamX.lamCx X A outer z H E l.scope a c') E → EE (c.fr hid E kp) (LamX.lamCx X A outer z H E l.scope a c') l.body fb) :
    ActOk X.prog X.w X.K X.mg X.base (c.fr hid E (kpAct X.K c hid X.env l a c' s σ)) (kb + 1) a (fb s) (frs X.stack) z1.heap H1 := by
  refine ⟨fun h H ρ hp hok => ?_, fun A outer z H Q E ρ h hr e0 un ok q => ?_⟩
  · obtain ⟨⟨pm, ctv, e⟩, _, _⟩ := hok a _ hp.2.1
    exact ⟨_, _, _, _, e⟩
  · obtain ⟨env, atA, atC, _, _⟩ := ok.kp
    obtain ⟨⟨pm, ctv, e⟩, _, _⟩ := e0.hok a _ atA
    obtain ⟨⟨oc, vs, t, hoc, hdc, hvc⟩, _, _⟩ := e0.hok c' _ atC
    have lim : z.heap.NoLimit := e0.mod.nolimit.keeps fun b o y => (e0.bs b o y).1
    apply PySem.W.kla_callFunE hr.depth e rfl LS.co LS.gen rfl ⟨c', oc, vs, t, rfl, hoc, hdc, hvc⟩
    rw [bind0]
    apply wpAny_pure
    refine wpAny_newFunctionEnv (fun y hy => (LS.own y hy).2) (fun y hy => absurd hy (by simp)) (fun h₁ hns hsb => ⟨lim.fresh _ hsb, ?_⟩) LS.kind
    show codeAny _ _ (.expr l.body (LamX.lamEnv X l.scope z.heap.objs.size a c')) _ _
    have kp : ∀ b o, z.heap.get? b = some o → h₁.get? b = some o := fun b o y => hsb.extBut b o (Nat.ne_of_lt (Heap.lt_size y)) (Heap.get?_push_of_some _ y)
    have J : L2.Inv (LamX.lamCx X A outer z H E l.scope a c') [] σ H { z with heap := h₁, toks := z.toks + ([] : List (Str × Value)).length } := LamX.lam_start2 I LS e0 hr.hd un hns kp
    apply PySem.W.kla_codeExpr
    have rd := (body A outer z H E (kpAct X.K c hid X.env l a c' s σ) (hr.deeper _) (passes_call (X := LamX.lamCx X A outer z H E l.scope a c') (W := fun cls d _ H => E cls d H) (takes_of rfl rfl rfl rfl) fun _ _ _ _ y => y)).run [] _ _ H Q J ⟨ρ, h, s, ok, Env.mvC (c := c.at hid _) (c1 := c.fr hid E (kpAct X.K c hid X.env l a c' s σ)) (H := H) (ρ := ρ) ⟨fun _ _ h => h, fun a u e o => ⟨e, o.st, o.hd, o.dw⟩, rfl, rfl, rfl, rfl, rfl, rfl, rfl, rfl, rfl⟩ hn env, q⟩
    refine wpAny_mono rd (fun v z2 hq => ?_) fun _ _ hq => hq
    obtain ⟨w', H', J', rv, q⟩ := hq
    exact ⟨w', H', J'.os, J'.bare, J'.base, J'.hok, rv, q⟩
end
end Ev

/-! Calls of defs that are handed a function: of the frame that makes it, of a frame that was handed it. -/
namespace Ev
open PySem PySem.Spec PyProof.Rows L2 Dr
/-- g(work), work being the k-th lambda of the frame, over a store of its own -/
def fLamCall (F : M D → List D → M D) (bs : Nat → Sg → M D) (fa : Sg → M D) : Sg → M D := fun s => M.bind (fa s) fun x h => match x with
  | .fn k => (F (bs k (cleanS s)) [.fn 0] []).both
    (fun r => match frz r.2 far r.1 with
      | some y => .ret (y, h)
      | none => .bad)
    (fun k fs h1 => match mapO (frz h1 far) fs with
      | some gs => .err k gs h
      | none => .bad)
  | _ => .bad
/-- the lambdas of a frame and what their bodies do -/
structure LamsOk (X : Cx) (c : Ct) (kb : Nat) (L : List LamI) (bs : Nat → Sg → M D) : Prop where
  sc : ∀ (k : Nat) (l : LamI), L[k]? = some l → LamX.LamS X.env.scope l.scope
  b0 : ∀ (k : Nat) (l : LamI), L[k]? = some l → ∀ (q : Str) (cl : List (Str × Addr)) (pm cv ctv : Value), bindArgs (PySem.W.kla_fn "<lambda>" q l.params l.body l.scope cl pm cv ctv) ⟨[], []⟩ = pure []
  body : ∀ (k : Nat) (l : LamI), L[k]? = some l → ∀ (hid : List Addr) (a c' : Addr) (A : Around) (outer : List PySem.Env) (z : Shared) (H : Hp) (E : XK) (kp : Kp c.dw c.T), Room kb (A.deeper (LamX.lamEnv X l.scope z.heap.objs.size a c')) → PX' (LamX.lamCx X A outer z H E l.scope a c') E → EE (c.fr hid E kp) (LamX.lamCx X A outer z H E l.scope a c') l.body (bs k)
section
variable {X : Cx} {c : Ct} {hid : List Addr} {E : XK} {kb d : Nat} {L : List LamI} {bs : Nat → Sg → M D} {F : M D → List D → M D} {x : Str} {p pos : Pos} {e : Expr} {fa : Sg → M D}
theorem ev_lamcall (G : OwnA X.prog X.w X.K X.mg X.base c d x 1 F) (LO : LamsOk X c kb L bs) (hr : Room (kb + 1 + d) X.A) (px : PX' X E) (ha : EE (c.fr hid E (kpLam c.dw c.T X.env L)) X e fa) (hg : Gl X x := by rfl) (hdb : (x == ("__debug__" : Str)) = false := by decide)
    (he : starEach [e] X.env = (false, eval e X.env) :: starEach [] X.env := by rfl) (hpl : (backTo pos (starEach [] X.env)).any (·.1) = false := by rfl) : EE (c.fr hid E (kpLam c.dw c.T X.env L)) X (.Call (.Name x p) [e] [] pos) (fLamCall F bs fa) := by
  obtain ⟨f, fd, ps, hn, g, kept, ⟨Fn⟩, b⟩ := G.ex
  constructor
  rintro pins z σ G0 R I ⟨ρ, h, s, ok, env, q⟩
  apply wpAny_Call_Name_kw (ld_glob I hg g ?_ hdb)
  apply PySem.W.callWith_K (h₀ := X.base) I.ok.mod.kin kept ?_ he hpl
  refine thn ((pa_cons ha pa_nil he).run pos pins z σ G0 (fun vs G1 => ∃ v ρ1 h1 y, vs = [v] ∧ Ok X.K (c.fr hid E (kpLam c.dw c.T X.env L)) ρ1 h1 G1 ∧ Env X.K (c.fr hid E (kpLam c.dw c.T X.env L)) G1 ρ1 s σ ∧ RV X.K (c.fr hid E (kpLam c.dw c.T X.env L)) G1 ρ1 y v ∧
      ((match y with
        | .fn k => (F (bs k (cleanS s)) [.fn 0] []).both
          (fun r => match frz r.2 far r.1 with
            | some y => .ret (y, h1)
            | none => .bad)
          (fun k fs h2 => match mapO (frz h2 far) fs with
            | some gs => .err k gs h1
            | none => .bad)
        | _ => .bad : Tr (D × List O))).All (PV X.K (c.fr hid E (kpLam c.dw c.T X.env L)) ρ1 G1 R) (PX X.K (c.fr hid E (kpLam c.dw c.T X.env L)) ρ1 G1)) I ?_) ?_
  · exact ⟨ρ, h, s, ok, env, (M.all_bind.mp q).mono fun ⟨y, h1⟩ q1 ρ1 H1 v l1 ok1 r1 => ⟨v, ρ1, h1, y, rfl, ok1, env.le l1, r1, Tr.All.le l1 q1 fun r q => q.le l1⟩⟩
  · rintro us z1 ⟨vs, G1, I1, r, v, ρ1, h1, y, rfl, ok1, env1, r1, q1⟩
    refine ⟨I1.kIn, ?_⟩
    split at q1
    · rename_i k
      cases r1 with
      | @fn _ a hb =>
        obtain ⟨l, c', hL, atA, atC, o1, o2⟩ := hb
        have kpp : (kpAct X.K c (hid ++ ρ1.l) X.env l a c' (cleanS s) σ).p Sto.nil G1 := by
          refine ⟨Env.mvC (c := c.fr hid E (kpLam c.dw c.T X.env L)) mv_start (fun i x h => (clean_no h).1) env1.clean, atA, atC, ⟨by simp [Sto.nil], o1.2⟩, by simp [Sto.nil], o2.2⟩
        have act := act_lam (E := E) (hid := hid ++ ρ1.l) (s := cleanS s) I1 (LO.sc k l hL) (a := a) (c' := c') (LO.b0 k l hL) (fun i x h => (clean_no h).1) (LO.body k l hL (hid ++ ρ1.l) a c')
        have many : us.length = ps.length := by rw [hn, ← r.length]; rfl
        have okB := Ok.beginK (c := c.fr hid E (kpLam c.dw c.T X.env L)) ok1 (E := E) (kp := kpAct X.K c (hid ++ ρ1.l) X.env l a c' (cleanS s) σ) kpp
        apply wpAny_call
        refine codeAny_mono (Fn (kb + 1) X.A X.stack z1 G1 ⟨us, []⟩ us [.ref a] R E (hid ++ ρ1.l) (kpAct X.K c (hid ++ ρ1.l) X.env l a c' (cleanS s) σ) a (bs k (cleanS s)) Sto.nil [] [.fn 0] hr I1.env0 (by have := b z1 us I1.kIn (by simpa using many); simpa using this) r (by rw [hn]; rfl) act (fun _ _ _ _ h => h) okB (.cons (.fn rfl) .nil) ?_) ?_
        · refine (Tr.all_both.mp q1).mono2 (fun ⟨y, h2⟩ q2 ρ2 H2 v l2 ok2 r2 => ?_) (fun k fs h2 q2 => ?_)
          · dsimp only at q2
            split at q2
            · rename_i y' hy
              obtain ⟨l3, ok3⟩ := Ok.apart (c := c.fr hid E (kpLam c.dw c.T X.env L)) ok1 (kp := kpAct X.K c (hid ++ ρ1.l) X.env l a c' (cleanS s) σ) l2 ok2
              exact q2 ρ1 H2 v l3 ok3 (frz_ok (c := c.fr (hid ++ ρ1.l) E (kpAct X.K c (hid ++ ρ1.l) X.env l a c' (cleanS s) σ)) ok2 (mv_back (c := c.fr hid E (kpLam c.dw c.T X.env L)) (kp := kpAct X.K c (hid ++ ρ1.l) X.env l a c' (cleanS s) σ)) (tr_back (c := c.fr hid E (kpLam c.dw c.T X.env L)) ok1 (kp := kpAct X.K c (hid ++ ρ1.l) X.env l a c' (cleanS s) σ) l2) far _ _ _ hy r2)
            · exact q2.elim
          · split at q2
            · rename_i gs hg
              exact px_back (c := c.fr hid E (kpLam c.dw c.T X.env L)) (kp := kpAct X.K c (hid ++ ρ1.l) X.env l a c' (cleanS s) σ) ok1 hg q2
            · exact q2.elim
        · intro end1 z2 hq
          cases end1 with
          | error _ => exact px pins σ G1 z1 _ _ I1 hq
          | ok fl => cases fl with
            | ret _ => exact I1.after hq
            | next => exact hq.elim
            | brk => exact hq.elim
            | cont => exact hq.elim
    · exact q1.elim
/-- g(work) in a frame that was handed work, over its store -/
def oActN (n : Nat) (G : List D → M D) : List D → M D := fun xs h => if xs.length = n then G xs h else .bad
theorem ev_actcall {ka : Nat} {kp : Kp c.dw c.T} {a : Addr} {act : M D} {n : Nat} {es : List Expr} {fr : Sg → M (List D)} (G : OwnA X.prog X.w X.K X.mg X.base c d x n F) (o : ActOk X.prog X.w X.K X.mg X.base (c.fr hid E kp) ka a act X.fs X.s_0.heap X.H_0) (hq : ∀ k ρ H b, kp.q k ρ H b → b = a) (hr : Room (ka + d) X.A) (px : PX' X E) (ha : EA (c.fr hid E kp) X (e :: es) fr)
    (hx : X.ex = [] := by rfl) (hg : Gl X x := by rfl) (hdb : (x == ("__debug__" : Str)) = false := by decide) (he : starEach (e :: es) X.env = (false, eval e X.env) :: starEach es X.env := by rfl) (hpl : (backTo pos (starEach es X.env)).any (·.1) = false := by rfl) :
    EE (c.fr hid E kp) X (.Call (.Name x p) (e :: es) [] pos) (fN (oActN n (F act)) fr) := by
  obtain ⟨f, fd, ps, hn, g, kept, ⟨Fn⟩, b⟩ := G.ex
  constructor
  rintro pins z σ G0 R I ⟨ρ, h, s, ok, env, q⟩
  apply wpAny_Call_Name_kw (ld_glob I hg g ?_ hdb)
  apply PySem.W.callWith_K (h₀ := X.base) I.ok.mod.kin kept ?_ he hpl
  refine thn (ha.run pos pins z σ G0 (fun vs G1 => ∃ ρ1 h1 ys, Ok X.K (c.fr hid E kp) ρ1 h1 G1 ∧ RVs X.K (c.fr hid E kp) G1 ρ1 ys vs ∧ (oActN n (F act) ys h1).All (PV X.K (c.fr hid E kp) ρ1 G1 R) (PX X.K (c.fr hid E kp) ρ1 G1)) I ?_) ?_
  · exact ⟨ρ, h, s, ok, env, (M.all_bind.mp q).mono fun ⟨y, h1⟩ q1 ρ1 H1 v l1 ok1 r1 => ⟨ρ1, h1, y, ok1, r1, Tr.All.le l1 q1 fun r q => q.le l1⟩⟩
  · rintro us z1 ⟨vs, G1, I1, r, ρ1, h1, ys, ok1, r1, q1⟩
    refine ⟨I1.kIn, ?_⟩
    unfold oActN at q1
    split at q1
    · rename_i hl
      have hv : vs.length = ps.length := by rw [← r1.len, hl, hn]
      have many : us.length = ps.length := by rw [← r.length, hv]
      apply wpAny_call
      refine codeAny_mono (Fn ka X.A X.stack z1 G1 ⟨us, []⟩ us vs R E hid kp a act ρ1 h1 ys hr I1.env0 (by have := b z1 us I1.kIn (by simpa using many); simpa using this) r hv (o.later hx I1) hq ok1 r1 q1) ?_
      intro end1 z2 hq2
      cases end1 with
      | error _ => exact px pins σ G1 z1 _ _ I1 hq2
      | ok fl => cases fl with
        | ret _ => exact I1.after hq2
        | next => exact hq2.elim
        | brk => exact hq2.elim
        | cont => exact hq2.elim
    · exact q1.elim
end
end Ev

/-! Errors of the program: raised, asked for their class, their fields. -/
namespace Ev
open PySem PySem.Spec PyProof.Rows L2 Dr
variable {c : Ct}
/-- what the written part says of the error classes -/
structure EFacts (K : PySem.W.Frag) (c : Ct) : Prop where
  ec : ∀ k, k < c.m → ExcC K (c.eA k)
  cl : ∀ k, k < c.m → PySem.W.isClsIn K (c.eA k) = true
theorem EFacts.at {K : PySem.W.Frag} {hid : List Addr} {E : XK} {kp : Kp c.dw c.T} (F : EFacts K c) : EFacts K (c.fr hid E kp) := ⟨F.ec, F.cl⟩
theorem EFacts.xf {K : PySem.W.Frag} (F : EFacts K c) {k : Nat} (h : k < c.m) : XfC K (c.eA k) := have e := F.ec k h; ⟨e.hg, e.hk, e.hs, e.hd⟩
/-! ### isinstance(e, C): of an error class (some j), of ValueError (none) -/
def isEs (g : Option Nat) (k : Nat) : Bool := match g with
  | some j => k == j
  | none => true
structure EIs (K : PySem.W.Frag) (c : Ct) (g : Option Nat) (v : V) (u : Value) : Prop where
  cls : ClsV v u
  ex : ∀ k, k < c.m → PySem.W.kitOne K (.ref (c.eA k)) u = some (isEs g k)
  ty : ∀ t : Ty, (∀ k, t ≠ .ins k) → PySem.W.kitOne K (t.val c) u = some false
theorem EIs.at {K : PySem.W.Frag} {g : Option Nat} {v : V} {u : Value} {hid : List Addr} {E : XK} {kp : Kp c.dw c.T} (F : EIs K c g v u) : EIs K (c.fr hid E kp) g v u := ⟨F.cls, F.ex, fun t n => by
  have := F.ty t n
  cases t <;> exact this⟩
def isE (g : Option Nat) : D → M D := fun x h => match x with
  | .exn k _ => .ret (.bl (isEs g k), h)
  | x => match tyD h x with
    | some (.ins _) => .bad
    | some _ => .ret (.bl false, h)
    | none => .bad
section
variable {X : Cx} {e a b : Expr} {fa : Sg → M D} {pos p : Pos}
theorem ev_isE {g : Option Nat} {cv : V} {u : Value} (F : Facts X.K c) (G : EFacts X.K c) (kit : EIs X.K c g cv u) (mI : X.mg "isinstance" = none) (ha : EE c X a fa) (hT : PE X b (tC cv)) (hg : Gl X "isinstance" := by rfl)
    (hs : starEach [a, b] X.env = (false, eval a X.env) :: starEach [b] X.env := by rfl) (hs2 : starEach [b] X.env = (false, eval b X.env) :: starEach [] X.env := by rfl) (hp : (backTo pos (starEach [b] X.env)).any (·.1) = false := by rfl) :
    EE c X (.Call (.Name "isinstance" p) [a, b] [] pos) (f1 (isE g) fa) := by
  have two : CallR X (.builtin "isinstance") (fun xs H Q => rIsi X.K xs H Q ∨ ∃ k, k < c.m ∧ Ek.rIsK X.K (c.eA k) xs H Q) := by
    rintro pins s σ H xs us Q I rel (q | ⟨k, hk, q⟩)
    · exact call_isi pins s σ H xs us Q I rel q
    · exact Ek.call_isK (G.ec k hk) (G.cl k hk) pins s σ H xs us Q I rel q
  refine PE.imp (pe_callB two hg mI boot_isinstance (pa_cons ha (pa_cons hT pa_nil hs2) hs) (by decide) (by decide) hs hp) ?_
  rintro σ H Q ⟨ρ, h, s, ok, env, q⟩
  refine ⟨ρ, h, s, ok, env, (M.all_bind.mp q).mono fun ⟨x, h1⟩ q1 ρ1 H1 v l1 ok1 r1 => ?_⟩
  dsimp only [isE] at q1
  split at q1
  · rename_i k fs
    cases r1 with
    | @exn _ _ a od vs h0 off hk hf rv =>
      refine .inr ⟨k, hk.1, a, od, (c.eF k).zip vs, cv, u, isEs g k, rfl, h0, ?_, kit.cls, kit.ex k hk.1, q1 ρ1 H1 _ l1 ok1 (.bl _)⟩
      by_cases z : fs = []
      · refine .inl ⟨hf.1 z, ?_⟩
        subst z
        cases rv
        simp
      · obtain ⟨dd, d1, d2, d3⟩ := hf.2 z
        exact .inr ⟨dd, d1, d2⟩
  · split at q1
    · exact q1.elim
    · rename_i t n ht
      obtain ⟨tx, hk⟩ := tyX_of F ok1 r1 ht
      exact .inl ⟨v, _, t.val c, u, false, rfl, kit.cls, tx, kit.ty t (fun k z => n k z), q1 ρ1 H1 _ l1 ok1 (.bl _)⟩
    · exact q1.elim
/-- error.f, of the classes js -/
def fFldE (i : Nat) (js : List Nat) : Sg → M D := fun s h => match s[i]? with
  | some (some (.exn j [x])) => if j ∈ js then .ret (x, h) else .bad
  | _ => .bad
theorem ev_fldE {x n : Str} {js : List Nat} (i : Nat) (G : EFacts X.K c) (hj : ∀ j, j ∈ js → j < c.m ∧ c.eF j = [n] ∧ PySem.W.findIn X.K (.ref (c.eA j)) n = some none) (hN : X.N[i]? = some x := by rfl) (hv : Vis X.env.scope x := by first | exact Or.inl rfl | exact Or.inr (Or.inl rfl) | exact Or.inr (Or.inr rfl))
    (hd : (x == ("__debug__" : Str)) = false := by decide) (hcd : (x == ("__classdict__" : Str)) = false := by decide) (hb : attributeBase (.Name x p) n X.env (eval (.Name x p) X.env) = eval (.Name x p) X.env := by rfl) : EE c X (.Attribute (.Name x p) n pos) (fFldE i js) := by
  constructor
  rintro pins s σ H Q I ⟨ρ, h, sg, ok, env, q⟩
  unfold fFldE at q
  split at q
  · rename_i j y hx
    split at q
    · rename_i hm
      obtain ⟨j1, j2, j3⟩ := hj j hm
      obtain ⟨v, e1, r1⟩ := env.2 i _ hx
      cases r1 with
      | @exn _ _ a od vs h0 off hk hf rv =>
        obtain ⟨dd, d1, d2, d3⟩ := hf.2 (by simp)
        cases rv with
        | cons r2 r3 =>
          cases r3
          refine (Ek.pe_fk (C := c.eA j) (G.xf j1) j3 (pe_var hN hv hd hcd) hb).run pins s σ H Q I ⟨.ref a, e1, a, od, _, _, rfl, h0, .inr ⟨dd, d1, d2⟩, ?_, q ρ H _ .refl ok r2⟩
          rw [j2]
          simp
    · exact q.elim
  · exact q.elim
end
/-! ### raise -/
/-- no list, tuple, dict -/
def flatD : D → Bool
  | .non => true
  | .bl _ => true
  | .int _ => true
  | .str _ => true
  | _ => false
/-- a value that is no list, tuple, dict -/
def FlatV (v : V) : Prop := v = .non ∨ (∃ b, v = .bl b) ∨ (∃ i, v = .int i) ∨ ∃ x, v = .str x
theorem flat_of {K : PySem.W.Frag} {H : Hp} {ρ : Sto} {x : D} {v : V} (r : RV K c H ρ x v) (f : flatD x = true) : FlatV v := by
  cases r <;> first | exact .inl rfl | exact .inr (.inl ⟨_, rfl⟩) | exact .inr (.inr (.inl ⟨_, rfl⟩)) | exact .inr (.inr (.inr ⟨_, rfl⟩)) | (simp [flatD] at f)
theorem FlatV.ty {K : PySem.W.Frag} {H : Hp} {v : V} (f : FlatV v) : ∃ t, TyX K H v t ∧ PySem.W.kitOne K t (.type "list") = some false ∧ PySem.W.kitOne K t (.type "tuple") = some false ∧ PySem.W.kitOne K t (.type "dict") = some false := by
  rcases f with rfl | ⟨b, rfl⟩ | ⟨i, rfl⟩ | ⟨x, rfl⟩
  · exact ⟨_, .base .non, kit_ty (by decide +kernel), kit_ty (by decide +kernel), kit_ty (by decide +kernel)⟩
  · exact ⟨_, .base (.bl b), kit_ty (by decide +kernel), kit_ty (by decide +kernel), kit_ty (by decide +kernel)⟩
  · exact ⟨_, .base (.int i), kit_ty (by decide +kernel), kit_ty (by decide +kernel), kit_ty (by decide +kernel)⟩
  · exact ⟨_, .base (.str x), kit_ty (by decide +kernel), kit_ty (by decide +kernel), kit_ty (by decide +kernel)⟩
/-- copied(x) of such a value -/
def spCopied : Sp := fun vs H Q _ => ∃ x, vs = [x] ∧ FlatV x ∧ Q x H
/-- the __init__ of an error class of one field -/
def spErr (C : Addr) (fld : Str) : Sp := fun vs H Q _ => ∃ (a : Addr) (x : V), vs = [.ref a, x] ∧ FlatV x ∧ H a = some (exo a C none) ∧ ∀ dx, H dx = none → dx ≠ a → Q .non (upd (upd H dx (exd dx [(fld, x)])) a (exo a C (some dx)))
/-- an error class of one field -/
structure OwnE (P : Program) (w : World) (K : PySem.W.Frag) (mg : Str → Option Value) (base : Heap) (c : Ct) (k : Nat) (x : Str) (j : Nat) : Prop where
  ex : ∃ (fI : Addr) (fd : FuncData) (fld : Str), mg x = some (.ref (c.eA j)) ∧ OexC K (c.eA j) ∧ PySem.W.findIn K (.ref (c.eA j)) "__init__" = some (some (.ref fI)) ∧ PySem.W.typeIn K (.ref fI) = some (.type "function") ∧ FnOk P w K mg base CX0 k fI fd ["self", fld] (spErr (c.eA j) fld) ∧
    L2.Binds K fd ["self", fld] [] ∧ c.eF j = [fld] ∧ j < c.m
/-- an error class without an __init__ of its own -/
structure OwnE0 (K : PySem.W.Frag) (mg : Str → Option Value) (c : Ct) (x : Str) (j : Nat) : Prop where
  g : mg x = some (.ref (c.eA j))
  ex : ∃ (bm : List Value) (B newId initId : String), ExcBaseFacts B newId initId bm ∧ PySem.W.excIn K (c.eA j) bm newId = true
  kp : PySem.W.keepIn K (.ref (c.eA j)) = true
  sb : PySem.W.subIn K (.ref (c.eA j)) (.type "BaseException") = some true
  ty : PySem.W.typeIn K (.ref (c.eA j)) = some (.type "type")
  nf : c.eF j = []
  lt : j < c.m
theorem OwnE.at {P : Program} {w : World} {K : PySem.W.Frag} {mg : Str → Option Value} {base : Heap} {k j : Nat} {x : Str} {hid : List Addr} {E : XK} {kp : Kp c.dw c.T} (G : OwnE P w K mg base c k x j) : OwnE P w K mg base (c.fr hid E kp) k x j := ⟨G.ex⟩
theorem OwnE0.at {K : PySem.W.Frag} {mg : Str → Option Value} {j : Nat} {x : Str} {hid : List Addr} {E : XK} {kp : Kp c.dw c.T} (G : OwnE0 K mg c x j) : OwnE0 K mg (c.fr hid E kp) x j := ⟨G.g, G.ex, G.kp, G.sb, G.ty, G.nf, G.lt⟩
def sRaise (j : Nat) (fa : Sg → M D) : Sg → M Out := fun s => M.bind (fa s) fun x h => if flatD x = true then .err j [x] h else .bad
def sRaise0 (j : Nat) (fa : Sg → M D) : Sg → M Out := fun s => M.bind (fa s) fun _ h => .err j [] h
section
variable {X : Cx} {e : Expr} {fa : Sg → M D} {pos pos2 p : Pos} {x : Str} {j k : Nat}
theorem es_raise (G : OwnE X.prog X.w X.K X.mg X.base c k x j) (hr : Room (k + 1) X.A) (tk : Takes X fun cls d _ H => c.E cls d H) (ha : EE c X e fa) (hc : X.calm = true := by rfl) (hg : Gl X x := by rfl) (hdb : (x == ("__debug__" : Str)) = false := by decide)
    (he : starEach [e] X.env = (false, eval e X.env) :: starEach [] X.env := by rfl) (hpl : (backTo pos (starEach [] X.env)).any (·.1) = false := by rfl) : ES c X (.Raise (some (.Call (.Name x p) [e] [] pos)) none pos2) (sRaise j fa) := by
  obtain ⟨fI, fd, fld, g, O, iC, tI, Fn, b, hf, hj⟩ := G.ex
  refine PS.imp (ps_raise hc tk (pmk_oex O iC tI Fn hr b .nil pass0 hg g (pa_cons ha pa_nil he) hdb he hpl)) ?_
  rintro D σ H ⟨ρ, h, s, ok, env, q⟩
  refine ⟨ρ, h, s, ok, env, (M.all_bind.mp q).mono fun ⟨y, h1⟩ q1 ρ1 H1 v l1 ok1 r1 => ⟨by show 1 ≤ 1000; decide, fun a na => ?_⟩⟩
  dsimp only at q1
  split at q1
  · rename_i hy
    refine ⟨a, v, rfl, flat_of r1 hy, upd_same, fun dx nx ne => ⟨rfl, dx, [(fld, v)], upd_same, by rw [upd_ne ne, upd_same], ?_, ?_⟩⟩
    · rw [upd_ne ne] at nx; exact nx
    · have nd : H1 dx = none := by rw [upd_ne ne] at nx; exact nx
      have same : upd (L2.del (upd (upd (upd H1 a (exo a (c.eA j) none)) dx (exd dx [(fld, v)])) a (exo a (c.eA j) (some dx))) a) dx (.xd [(fld, v)]) = upd H1 dx (.xd [(fld, v)]) := by
        funext b
        by_cases hb : b = dx
        · subst hb; rw [upd_same, upd_same]
        · rw [upd_ne hb, upd_ne hb]
          by_cases hc : b = a
          · subst hc; rw [L2.del_same, na]
          · rw [L2.del_ne hc, upd_ne hc, upd_ne hb, upd_ne hc]
      rw [same]
      obtain ⟨k1, k2, k3⟩ := q1
      obtain ⟨l3, ok3⟩ := ok1.other (o := .xd [(fld, v)]) nd
      refine k3 ρ1 _ (some dx) [v] (l1.trans l3) ok3 ⟨fun z => (by cases z), fun _ => ⟨dx, rfl, ?_, ok1.offN nd⟩⟩ (.cons (r1.le l3) .nil)
      rw [upd_same, hf]
      rfl
  · exact q1.elim
theorem es_raise0 (G : OwnE0 X.K X.mg c x j) (tk : Takes X fun cls d _ H => c.E cls d H) (ha : EE c X e fa) (hc : X.calm = true := by rfl) (hg : Gl X x := by rfl) (hdb : (x == ("__debug__" : Str)) = false := by decide)
    (he : starEach [e] X.env = (false, eval e X.env) :: starEach [] X.env := by rfl) : ES c X (.Raise (some (.Call (.Name x p) [e] [] pos)) none pos2) (sRaise0 j fa) := by
  obtain ⟨bm, B, newId, initId, F, q0⟩ := G.ex
  refine PS.imp (ps_raise hc tk (SkE.pmk_own1 F q0 G.g G.kp (raises_own G.sb G.ty) hg ha he hdb)) ?_
  rintro D σ H ⟨ρ, h, s, ok, env, q⟩
  refine ⟨ρ, h, s, ok, env, (M.all_bind.mp q).mono fun ⟨y, h1⟩ q1 ρ1 H1 v l1 ok1 r1 => ?_⟩
  obtain ⟨k1, k2, k3⟩ := q1
  exact k3 ρ1 H1 none [] l1 ok1 ⟨fun _ => rfl, fun z => absurd rfl z⟩ .nil
end
/-! ### a def that nothing is promised of -/
theorem fnOk_bad {P : Program} {w : World} {K : PySem.W.Frag} {mg : Str → Option Value} {base : Heap} {k : Nat} {f : Addr} {fd : FuncData} {ps : List Str} {CX : CXT} : FnOk P w K mg base CX k f fd ps (spF K c fun _ _ => .bad) :=
  ⟨fun vs H Q E ⟨_, _, _, _, _, _, q⟩ => q.elim, fun _ _ _ _ _ _ _ _ _ _ _ _ _ ⟨_, _, _, _, _, _, q⟩ => q.elim⟩
theorem own_bad {P : Program} {w : World} {K : PySem.W.Frag} {mg : Str → Option Value} {base : Heap} {k : Nat} {x : Str} {st : Stmt} {ps : List Str} (G : GD K mg x st ps) : Own P w K mg base c k x fun _ _ => .bad := by
  obtain ⟨f, fd, F, g, b⟩ := G.ex
  exact ⟨f, fd, ps, g, F.kp, fnOk_bad, b⟩
end Ev
/-! ### the lambdas of a text, from left to right -/
namespace Ev
open PySem PySem.Spec PyProof.Rows L2 Dr
def lamsE : Nat → Expr → List LamI
  | 0, _ => []
  | _ + 1, .Lambda p b s _ => [⟨p, b, s⟩]
  | n + 1, .Call f as _ _ => lamsE n f ++ as.flatMap (lamsE n)
  | n + 1, .UnaryOp _ a _ => lamsE n a
  | n + 1, .BoolOp _ as _ => as.flatMap (lamsE n)
  | n + 1, .Compare a _ bs _ => lamsE n a ++ bs.flatMap (lamsE n)
  | n + 1, .List es _ => es.flatMap (lamsE n)
  | n + 1, .Tuple es _ _ => es.flatMap (lamsE n)
  | n + 1, .Attribute a _ _ => lamsE n a
  | n + 1, .Subscript a b _ => lamsE n a ++ lamsE n b
  | n + 1, .BinOp a _ b _ => lamsE n a ++ lamsE n b
  | n + 1, .IfExp t a b _ => lamsE n t ++ lamsE n a ++ lamsE n b
  | _ + 1, _ => []
def lamsS : Nat → Stmt → List LamI
  | 0, _ => []
  | n + 1, .Assign _ e _ => lamsE n e
  | n + 1, .Expr e _ => lamsE n e
  | n + 1, .Return (some e) _ => lamsE n e
  | n + 1, .If t a b _ => lamsE n t ++ a.flatMap (lamsS n) ++ b.flatMap (lamsS n)
  | n + 1, .For _ i a b _ => lamsE n i ++ a.flatMap (lamsS n) ++ b.flatMap (lamsS n)
  | _ + 1, _ => []
/-- one lambda and what its body does -/
structure LamOk1 (X : Cx) (c : Ct) (kb : Nat) (l : LamI) (fb : Sg → M D) : Prop where
  sc : LamX.LamS X.env.scope l.scope
  b0 : ∀ (q : Str) (cl : List (Str × Addr)) (pm cv ctv : Value), bindArgs (PySem.W.kla_fn "<lambda>" q l.params l.body l.scope cl pm cv ctv) ⟨[], []⟩ = pure []
  body : ∀ (hid : List Addr) (a c' : Addr) (A : Around) (outer : List PySem.Env) (z : Shared) (H : Hp) (E : XK) (kp : Kp c.dw c.T), Room kb (A.deeper (LamX.lamEnv X l.scope z.heap.objs.size a c')) → PX' (LamX.lamCx X A outer z H E l.scope a c') E → EE (c.fr hid E kp) (LamX.lamCx X A outer z H E l.scope a c') l.body fb
theorem lamsOk_mk {X : Cx} {c : Ct} {kb : Nat} {L : List LamI} {bs : Nat → Sg → M D} (h : ∀ (k : Nat) (l : LamI), L[k]? = some l → LamOk1 X c kb l (bs k)) : LamsOk X c kb L bs := ⟨fun k l e => (h k l e).sc, fun k l e => (h k l e).b0, fun k l e => (h k l e).body⟩
/-- a def's code object and its table, by the written part -/
theorem tabIn_of {K : PySem.W.Frag} {x : Str} {f c P : Addr} {oc e : Value} {od dd : Option Addr} {fd : FuncData} {sl s2 : Array (Option Value)} {vs : Array Value} (h1 : PySem.W.nsIn K mainGlobals x = some (some (.ref f))) (h2 : K.lookup f = some ⟨oc, od, .func fd, sl⟩) (h3 : fd.code = .ref c)
    (h4 : K.lookup c = some ⟨e, dd, .fields vs, s2⟩) (h5 : (vs[11]? : Option Value) = some (.ref P)) : PySem.W.tabIn K x = some (c, P) := by
  unfold PySem.W.tabIn
  rw [h1]
  simp only [h2, h3, h4, h5]
/-- the law's def, where its code object is known -/
theorem okGL {P : Program} {w : World} {K : PySem.W.Frag} {mg : Str → Option Value} {base : Heap} {k : Nat} {f : Addr} {x qual : Str} {st : Stmt} {N ps : List Str} {sp : Sp} {oc kV doc pm cdv ct : Value} {od an : Option Addr} {osl : Array (Option Value)}
    (look : K.lookup f = some ⟨oc, od, .func (PySem.W.fnOf x qual (defArgs st) (defBody st) (defScope st) .none kV doc pm an cdv ct), osl⟩) (code : PySem.W.codeIn K cdv qual = true) (S : FnScope N ps (defScope st)) (many : ∀ xs G R W, sp xs G R W → xs.length = ps.length)
    (body : ∀ (B : Around) (below : List PySem.Env) (z : Shared) (G : Hp) (xs : List V) (R : VK) (W : XK), B.guards = some [] → Room k (B.deeper (envOfC qual (defScope st) z.heap.objs.size f cdv)) → sp xs G R W →
      ∃ t, PSs (cxOf CX0 P w K mg base N qual (defScope st) f cdv B below z G W).nox (defBody st) t ∧ t { nx := fun _ G' => R .non G', rt := R } (start N xs) G) : Gd.FnG P w K mg base (k + 1) f (PySem.W.fnOf x qual (defArgs st) (defBody st) (defScope st) .none kV doc pm an cdv ct) ps sp :=
  ⟨many, fun B below z G as ys xs R W gd room e0 bind rel holds => LamX.run_ofS look code S room e0 bind rel (many _ _ _ _ holds) fun hr => let ⟨t, h1, h2⟩ := body B below z G xs R W gd hr holds; ⟨t, h1.nox, h2⟩⟩
/-- a law over an empty table of code objects -/
def spLawT (K : PySem.W.Frag) (tP : Addr) : Sp := fun vs H Q _ => ∃ (a : Addr) (ns : List Int), vs = [.ref a] ∧ SqL K H a (ns.map V.int) ∧ ns.length ≤ 63 ∧ H tP = some (.tbl #[]) ∧ ∀ H', Q (.bl true) H'
theorem exm_of {K : PySem.W.Frag} {S R : Addr} {b : Bool} (h1 : PySem.W.subIn K (.ref R) (.type "BaseException") = some true) (h2 : PySem.W.hasDictIn K R = true) (h3 : PySem.W.typeIn K (.ref R) = some (.type "type")) (h4 : PySem.W.subIn K (.ref S) (.ref R) = some b) : PySem.W.exmOne K (.ref S) (.ref R) = some b := PySem.W.exm_ref h1 h2 h3 h4
end Ev
namespace Ev
open PySem PySem.Spec PyProof.Rows L2 Dr
theorem kit_tyE {K : PySem.W.Frag} {C : Addr} (h : PySem.W.subIn K (.ref C) (.type "ValueError") = some true) : PySem.W.kitOne K (.ref C) (.type "ValueError") = some true := by
  unfold PySem.W.kitOne
  rw [if_neg (by show ¬((Value.ref C == Value.type "ValueError") = true); intro z; cases z)]
  show (if PySem.W.kitMeta "ValueError" = true then PySem.W.subIn K (.ref C) (.type "ValueError") else none) = some true
  rw [if_pos (by decide +kernel)]
  exact h
end Ev
namespace Ev
open PySem PySem.Spec PyProof.Rows L2 Dr
/-! a lambda by its place in the text -/
def kidE : Nat → Expr → Expr
  | 0, .Call f _ _ _ => f
  | i + 1, .Call f as _ _ => as.getD i f
  | _, .UnaryOp _ a _ => a
  | i, .BoolOp o as p => as.getD i (.BoolOp o as p)
  | 0, .Compare a _ _ _ => a
  | i + 1, .Compare a _ bs _ => bs.getD i a
  | i, .List es p => es.getD i (.List es p)
  | i, .Tuple es k p => es.getD i (.Tuple es k p)
  | _, .Attribute a _ _ => a
  | 0, .Subscript a _ _ => a
  | _, .Subscript _ b _ => b
  | 0, .BinOp a _ _ _ => a
  | _, .BinOp _ _ b _ => b
  | 0, .IfExp t _ _ _ => t
  | 1, .IfExp _ a _ _ => a
  | _, .IfExp _ _ b _ => b
  | _, e => e
def exprS : Stmt → Expr
  | .Assign _ e _ => e
  | .Expr e _ => e
  | .Return (some e) _ => e
  | .If t _ _ _ => t
  | .For _ i _ _ _ => i
  | _ => .Name "" ⟨0, 0, 0, 0⟩
def bodyS : Stmt → List Stmt
  | .If _ a _ _ => a
  | .For _ _ a _ _ => a
  | _ => []
def elseS : Stmt → List Stmt
  | .If _ _ b _ => b
  | .For _ _ _ b _ => b
  | _ => []
def lamOf (st : Stmt) : Expr → LamI
  | .Lambda p b s _ => ⟨p, b, s⟩
  | e => ⟨defArgs st, e, defScope st⟩
end Ev

/-! == of a tuple with the empty tuple, whatever the tuple holds -/
namespace Ev
open PySem PySem.Spec PyProof.Rows L2 Dr
variable {c : Ct}
def rEqT0 (K : PySem.W.Frag) : R2 := fun x y H Q => ∃ a b xs, x = .ref a ∧ y = .ref b ∧ SqT K H a xs ∧ SqT K H b [] ∧ Q (.bl xs.isEmpty) H
theorem op_eqT0 {X : Cx} (hu : X.A.units + 64 < cLine) : OpR X (compareOp .Eq) (rEqT0 X.K) := by
  intro pins s σ H x y v u Q I rx ry h
  obtain ⟨a, b, xs, rfl, rfl, h1, h2, q⟩ := h
  cases rx
  cases ry
  obtain ⟨its, rv, hl, _⟩ := I.tuple h1
  obtain ⟨its2, rv2, hl2, _⟩ := I.tuple h2
  have e2 : its2 = [] := by cases rv2; rfl
  subst e2
  have key := SeqAt.RcAt.tuples (A := X.A) (s := s) (e := fun _ => true) hl hl2 (by omega) (fun j _ h2 => absurd h2 (Nat.not_lt_zero _))
  refine key X.prog X.w X.xe _ ⟨.bl _, H, I, ?_, q⟩
  cases rv with
  | nil => rfl
  | cons _ _ => rfl
def pEqT0 : Cmp := fun _ x y => match x, y with
  | .tup xs, .tup [] => some xs.isEmpty
  | _, _ => none
theorem cmp_eqT0 {K : PySem.W.Frag} : CmpS K c (rEqT0 K) pEqT0 := fun {ρ h H x y v w Q b} ok r1 r2 e q => by
  unfold pEqT0 at e
  split at e
  · cases e
    cases r1 with
    | tup a1 a2 =>
      cases r2 with
      | tup b1 b2 =>
        cases b2
        refine ⟨_, _, _, rfl, rfl, a1, b1, ?_⟩
        cases a2 with
        | nil => exact q
        | cons _ _ => exact q
  · cases e
end Ev

/-! The law's own end where its def is kept only without guards (FnG), with the tables of the code objects that lambdas are laid into. -/
namespace Gu
open PySem PySem.Spec PyProof.Rows L2 Dr Gd
/-- what is told of the law at the head's heap: cs, the code objects and their tables, empty as yet -/
structure LawT (l : PySem.W.OpenLaw) (w : World) (K : PySem.W.Frag) (k n : Nat) (x : Str) (mg : Str → Option Value) (fa : Addr) (h : Heap) (fd : FuncData) (cs : List (Addr × Addr)) (sp : Sp) : Prop where
  empty : ∀ p ∈ cs, h.get? p.2 = some { cls := .none, data := .fields #[] }
  outK : ∀ p ∈ cs, K.lookup p.2 = none
  code : ∀ p ∈ cs, PySem.W.CodeHd h p.1 p.2
  bind : ∀ (z : Shared) (u : Value), BindsTo z fd ⟨[u], []⟩ [(x, u)]
  asks : ∀ (G : Hp) (a : Addr) (ns : List Int), ns.length ≤ n → (∀ p ∈ cs, G p.2 = some (.tbl #[])) → SqL K G a (ns.map V.int) → sp [.ref a] G (fun v _ => v = .bl true) E0
  keeps : ∀ base : Heap, K.In base → base.Ns mainGlobals mg → (∀ p ∈ cs, LamX.TabB base mg p.1 p.2) → FnG l.prog w K mg base k fa fd [x] sp
theorem walkU {l : PySem.W.OpenLaw} {n k : Nat} {q : Program} {loose : List Str} {XP : (Str → Option Value) → Heap → Prop} {YP : World → Heap → Prop} {d : DefRec} {K : Params → PySem.W.Frag} {x : Str}
    (most : l.most = some n) (line : n ≤ sizeLine) (plain : d.params.defaults = []) (room : Room k callerA)
    (inK : ∀ (w : World) (h : Heap), YP w h → (K w.params).In h)
    (F : ∀ (w : World) (mg : Str → Option Value) (fa : Addr) (h : Heap), (∀ (y : Str) (c P : Addr), ((recsOf q).find? fun e => e.name == y).isSome = true → PySem.W.tabIn (K w.params) y = some (c, P) → PySem.W.CodeHd h c P ∧ h.get? P = some { cls := .none, data := .fields #[] }) →
      (K w.params).In h → h.Ns mainGlobals mg → mg d.name = some (.ref fa) → ∃ fd cs sp, LawT l w (K w.params) k n x mg fa h fd cs sp) :
    PySem.W.WalkO q loose XP YP l.row.toRowW d [] (fun f vs => PySem.call f vs) := by
  apply Att.attach_call most plain
  intro w s₀ z mg mb fa o pm cd doc a vs ns ground Y ho hd hcd here isl areI few gens
  have KX := inK w _ Y
  obtain ⟨fd, cs, sp, LT⟩ := F w mg fa _ (fun y c P there tab => by
    obtain ⟨dr, hdr⟩ := Option.isSome_iff_exists.mp there
    exact PySem.W.tab_of ground.T KX hdr tab) KX ground.T.g here
  have rel := vals_ints areI
  have lenV := areI.length
  have few' : ns.length ≤ sizeLine := Nat.le_trans few line
  let tabs : List Addr := cs.map (·.2)
  have isTab : ∀ b ∈ tabs, z.heap.get? b = some { cls := .none, data := .fields #[] } := by
    intro b hb
    obtain ⟨p, hp, rfl⟩ := List.mem_map.mp hb
    exact LT.empty p hp
  have inTabs : ∀ p ∈ cs, p.2 ∈ tabs := fun p hp => List.mem_map.mpr ⟨p, hp, rfl⟩
  have notTab : a ∉ tabs := fun m => by
    have one := isTab a m
    rw [isl] at one
    exact nomatch (congrArg Obj.data (Option.some.inj one) : Data.seq vs.toArray _ = Data.fields #[])
  have core : ∀ G : Hp, (∀ p ∈ cs, G p.2 = some (.tbl #[])) → (∀ b, G b = none ∨ b ∈ tabs ∨ ∃ ob xs, G b = some (.frz ob (.lst xs))) → SqL (K w.params) G a (ns.map V.int) → HOk l.prog w G z.heap →
      (∀ b, b ≠ a → b ∉ tabs → G b = none) → (G a ≠ none → (K w.params).lookup a = none) →
      codeAny (model l.prog w) callerA (.call (.ref fa) ⟨[.ref a], []⟩)
        (fun r s' => r = .ok (.ret (.bool true)) ∧ OldK z.heap s'.heap ∧ s'.os = z.os ∧ AllBare s'.gens) z := by
    intro G areT only isS ok alone outside
    -- what is neither the script nor a table stands in the base
    have free : ∀ {b : Addr} {u : Obj}, z.heap.get? b = some u → (∀ ws m, u.data ≠ .seq ws m) → u.data ≠ .fields #[] → G b = none := by
      intro b u e n1 n2
      by_cases h1 : b = a
      · subst h1
        rw [isl] at e
        cases e
        exact (n1 _ _ rfl).elim
      · by_cases h2 : b ∈ tabs
        · rw [isTab b h2] at e
          cases e
          exact (n2 rfl).elim
        · exact alone b h1 h2
    have keepB : ∀ {b : Addr} {u : Obj}, z.heap.get? b = some u → G b = none → (hidT z.heap G).get? b = some u := fun e no => hidT_get e no
    have nsB : ∀ {b : Addr} {m : Str → Option Value}, z.heap.Ns b m → (hidT z.heap G).Ns b m := by
      rintro b m ⟨u, es, ep, e, hdat, r⟩
      exact ⟨u, es, ep, keepB e (free e (fun ws m w => by rw [hdat] at w; cases w) fun w => by rw [hdat] at w; cases w), hdat, r⟩
    have kB : (K w.params).In (hidT z.heap G) := by
      intro b u e
      refine keepB (KX b u e) ?_
      by_cases h1 : b = a
      · subst h1
        cases hG : G b with
        | none => rfl
        | some v =>
          rw [outside (by rw [hG]; simp)] at e
          cases e
      · by_cases h2 : b ∈ tabs
        · obtain ⟨p, hp, rfl⟩ := List.mem_map.mp h2
          rw [LT.outK p hp] at e
          cases e
        · exact alone b h1 h2
    have mod : L2.Mod (K w.params) mg (hidT z.heap G) :=
      ⟨kB, nsB ground.T.g, ⟨mb, nsB ground.T.b, ground.T.builtins⟩, let ⟨mc, i1, i2⟩ := ground.T.nolimit; ⟨mc, nsB i1, i2⟩⟩
    have tabB : ∀ p ∈ cs, LamX.TabB (hidT z.heap G) mg p.1 p.2 := by
      intro p hp
      have tab := LT.empty p hp
      refine ⟨?_, ?_, ?_⟩
      · obtain ⟨u, us, file, tf, flags, tg, inF, text, tt, e1, r1, r2, r3, rest⟩ := LT.code p hp
        refine ⟨u, us, file, tf, flags, tg, inF, text, tt, keepB e1 (free e1 (fun ws m w => ?_) fun w => ?_), r1, r2, r3, rest⟩
        · rw [r2] at w
          cases w
        · rw [r2] at w
          cases w
          simp at r3
      · obtain ⟨bm, ob, b1, b2, b3, b4, b5, b6⟩ := ground.T.bmain
        refine ⟨bm, ob, b1, b2, ?_, ?_, keepB b3 (free b3 (fun ws m w => ?_) fun w => ?_), b4, b5, b6⟩
        · rintro rfl
          obtain ⟨u, es, ep, e, hdat, _⟩ := ground.T.g
          rw [e] at b3
          cases b3
          rw [hdat] at b6
          cases b6
        · rintro rfl
          rw [tab] at b3
          cases b3
          cases b6
        · rw [b6] at w
          cases w
        · rw [b6] at w
          cases w
      · intro same
        obtain ⟨u, es, ep, e, hdat, _⟩ := ground.T.g
        rw [same, tab] at e
        cases e
        cases hdat
    have e0 : Env0 l.prog w (K w.params) mg (hidT z.heap G) callerA [] z G :=
      { frames := rfl, mod := mod, bs := fun _ _ e => of_hidT e, bsz := Nat.le_of_eq (hidT_size _ _), funs := trivial, frf := fun b no => (nomatch no), hok := ok, bare := .of_eq gens }
    refine codeAny_mono ((LT.keeps _ kB (nsB ground.T.g) tabB).goes callerA [] z G _ [.ref a] [.ref a] _ _ rfl room e0 (LT.bind z (.ref a)) (.cons rfl .nil) (LT.asks G a ns few areT isS)) ?_
    intro end1 z2 hq
    cases end1 with
    | error _ => exact False.elim hq
    | ok fl => cases fl with
      | next => exact False.elim hq
      | brk => exact False.elim hq
      | cont => exact False.elim hq
      | ret u =>
        obtain ⟨v, G', os, bare, un, ok', rv, isT⟩ := hq
        obtain rfl : v = .bl true := isT
        obtain rfl : u = Value.bool true := rv
        have stays : ∀ b u, b ∉ tabs → z.heap.get? b = some u → z2.heap.get? b = some u := by
          intro b u off e
          rcases only b with no | tab | ⟨ob, ys, lock⟩
          · exact un.keep b u e no (fun m => nomatch m) (fun m => nomatch m)
          · exact (off tab).elim
          · have one := (ok b _ lock).1
            rw [e] at one
            cases one
            exact (ok' b _ (un.frzs b _ _ lock)).1
        have grown : ∀ p ∈ cs, ∃ more : Array Value, z2.heap.get? p.2 = some { cls := .none, data := .fields more } := by
          intro p hp
          obtain ⟨more, t⟩ := un.tbls p.2 #[] (areT p hp)
          exact ⟨_, ok' p.2 _ t⟩
        refine ⟨rfl, ⟨fun b u e => ?_, fun b u e => ?_⟩, os, bare⟩
        · by_cases off : b ∈ tabs
          · obtain ⟨p, hp, rfl⟩ := List.mem_map.mp off
            obtain ⟨more, hm⟩ := grown p hp
            rw [LT.empty p hp] at e
            cases e
            exact .inr (.inl ⟨((LT.code p hp).tab (LT.empty p hp)).isCodeTable, rfl, #[], more, rfl, by rw [Array.empty_append]; exact hm⟩)
          · exact .inl (stays b u off e)
        · by_cases off : b ∈ tabs
          · obtain ⟨p, hp, rfl⟩ := List.mem_map.mp off
            obtain ⟨more, hm⟩ := grown p hp
            exact ⟨_, hm⟩
          · exact ⟨u, stays b u off e⟩
  cases hK : (K w.params).lookup a with
  | none =>
    let lock : HO := .frz { cls := .type "list", data := .seq vs.toArray } (.lst (ns.map V.int))
    let G : Hp := fun b => if b = a then some lock else if b ∈ tabs then some (.tbl #[]) else none
    have at_a : G a = some lock := if_pos rfl
    have at_t : ∀ b ∈ tabs, G b = some (.tbl #[]) := fun b hb => (if_neg (fun same : b = a => notTab (same ▸ hb))).trans (if_pos hb)
    have off : ∀ b, b ≠ a → b ∉ tabs → G b = none := fun b n1 n2 => (if_neg n1).trans (if_neg n2)
    refine core G (fun p hp => at_t _ (inTabs p hp)) (fun b => ?_) (.inl (.inr ⟨_, at_a⟩)) (fun b u hG => ?_) off fun _ => hK
    · by_cases h1 : b = a
      · subst h1; exact .inr (.inr ⟨_, _, at_a⟩)
      · by_cases h2 : b ∈ tabs
        · exact .inr (.inl h2)
        · exact .inl (off b h1 h2)
    · by_cases h1 : b = a
      · subst h1
        rw [at_a] at hG
        cases hG
        exact ⟨isl, by rw [List.length_map]; exact few', vs, _, rel, isl⟩
      · by_cases h2 : b ∈ tabs
        · rw [at_t b h2] at hG
          cases hG
          exact isTab b h2
        · rw [off b h1 h2] at hG
          cases hG
  | some o2 =>
    have own := KX a o2 hK
    rw [isl] at own
    cases own
    let G : Hp := fun b => if b ∈ tabs then some (.tbl #[]) else none
    have at_t : ∀ b ∈ tabs, G b = some (.tbl #[]) := fun b hb => if_pos hb
    have off : ∀ b, b ∉ tabs → G b = none := fun b n2 => if_neg n2
    refine core G (fun p hp => at_t _ (inTabs p hp)) (fun b => ?_) (.inr ⟨_, vs.toArray, _, hK, rfl, rfl, rfl, by rw [List.size_toArray, lenV]; exact few', by simpa using rel⟩) (fun b u hG => ?_) (fun b _ n2 => off b n2) fun no => absurd (off a notTab) no
    · by_cases h2 : b ∈ tabs
      · exact .inr (.inl h2)
      · exact .inl (off b h2)
    · by_cases h2 : b ∈ tabs
      · rw [at_t b h2] at hG
        cases hG
        exact isTab b h2
      · rw [off b h2] at hG
        cases hG
end Gu

/-! repr of plain data that may hold empty dicts. -/
namespace Ev
open PySem PySem.Spec PyProof.Rows L2 Dr Gd
mutual
inductive RdE (h : Heap) : Value → PyData → Prop
  | none : RdE h .none .none
  | bool (b : Bool) : RdE h (.bool b) (.bool b)
  | int (i : Int) (t : Tok) : RdE h (.int i t) (.int i)
  | str (x : Str) (t : Tok) : RdE h (.str x t) (.str x)
  | list {a : Addr} {o : Obj} {vs : Array Value} {n : Nat} {xs : List PyData} : h.get? a = some o → o.cls = .type "list" → o.data = .seq vs n → RdEs h vs.toList xs → RdE h (.ref a) (.list xs)
  | tuple {a : Addr} {o : Obj} {vs : Array Value} {n : Nat} {xs : List PyData} : h.get? a = some o → o.cls = .type "tuple" → o.data = .seq vs n → RdEs h vs.toList xs → RdE h (.ref a) (.tuple xs)
  | dict {a : Addr} {o : Obj} {n : Nat} : h.get? a = some o → o.cls = .type "dict" → o.data = .dict #[] n → (a == sysModules) = false → RdE h (.ref a) (.dict [])
inductive RdEs (h : Heap) : List Value → List PyData → Prop
  | nil : RdEs h [] []
  | cons {v : Value} {vs : List Value} {d : PyData} {ds : List PyData} : RdE h v d → RdEs h vs ds → RdEs h (v :: vs) (d :: ds)
end
section
variable {h₀ : Heap}
mutual
theorem RdE.reads : ∀ {v : Value} {d : PyData}, RdE h₀ v d → ∃ as, Reads h₀ v d as
  | _, _, .none => ⟨_, .none⟩
  | _, _, .bool b => ⟨_, .bool b⟩
  | _, _, .int i t => ⟨_, .int i t⟩
  | _, _, .str x t => ⟨_, .str x t⟩
  | _, _, .list h1 h2 h3 h4 => let ⟨_, r⟩ := h4.reads; ⟨_, .list h1 h2 h3 r⟩
  | _, _, .tuple h1 h2 h3 h4 => let ⟨_, r⟩ := h4.reads; ⟨_, .tuple h1 h2 h3 r⟩
  | _, _, .dict h1 h2 h3 _ => ⟨_, .dict h1 h2 h3 .nil .nil⟩
theorem RdEs.reads : ∀ {vs : List Value} {ds : List PyData}, RdEs h₀ vs ds → ∃ as, ReadsAll h₀ vs ds as
  | _, _, .nil => ⟨_, .nil⟩
  | _, _, .cons r rs => let ⟨_, r1⟩ := r.reads; let ⟨_, r2⟩ := rs.reads; ⟨_, .cons r1 r2⟩
end
end
section
variable {prog : Program} {w : World} {h₀ : Heap}
mutual
theorem RdE.k : ∀ {v : Value} {d : PyData}, RdE h₀ v d → d.showable = true → d.shown.length ≤ sizeLine → ∃ bs, ReadAtMost h₀ d.depth bs ∧ ReprK prog w bs h₀ d.depth v d.shown
  | _, _, .none, _, _ => ⟨[], (fun _ h => nomatch h), by simp only [PyData.shown]; exact .of_is ReprIs.none _ _ _⟩
  | _, _, .bool b, _, _ => ⟨[], (fun _ h => nomatch h), by simp only [PyData.shown]; exact .of_is (ReprIs.bool b) _ _ _⟩
  | _, _, .int i t, hs, _ => ⟨[], (fun _ h => nomatch h), by simp only [PyData.shown]; exact .of_is (ReprIs.int t (by simpa [PyData.showable] using hs)) _ _ _⟩
  | _, _, .str x t, _, hz => ⟨[], (fun _ h => nomatch h), by simp only [PyData.shown]; exact .of_is (ReprIs.str x t (by simpa only [PyData.shown] using hz)) _ _ _⟩
  | _, _, .list (a := a) (vs := vs) (xs := xs) h1 h2 h3 h4, hs, hz => by
    obtain ⟨as, r4⟩ := h4.reads
    have r : Reads h₀ (.ref a) (.list xs) _ := .list h1 h2 h3 r4
    have hz : (listText (PyData.shownAll xs)).length ≤ sizeLine := by simpa only [PyData.shown] using hz
    obtain ⟨bs, hb, hk⟩ := h4.k (by simpa [PyData.showable] using hs) fun t ht => Nat.le_trans (listText_mem_le ht) hz
    have na : a ∉ bs := not_mem_of_deeper r (by simp only [PyData.depth]; omega) hb
    refine ⟨a :: bs, ReadAtMost.cons r (by simp only [PyData.depth]; omega) hb, ?_⟩
    simp only [PyData.depth, PyData.shown]
    obtain ⟨l⟩ := vs
    cases l with
    | nil =>
      have h5 : RdEs h₀ [] xs := h4
      cases h5
      simp only [PyData.shownAll, listText_nil]
      exact ReprK.listEmpty h1 h2 h3
    | cons x l => exact ReprK.list h1 h2 h3 na (by simpa using hk.length_eq) fun i y e => hk.item i y (by simpa using e)
  | _, _, .tuple (a := a) (xs := xs) h1 h2 h3 h4, hs, hz => by
    obtain ⟨as, r4⟩ := h4.reads
    have r : Reads h₀ (.ref a) (.tuple xs) _ := .tuple h1 h2 h3 r4
    have hz : (tupleText (PyData.shownAll xs)).length ≤ sizeLine := by simpa only [PyData.shown] using hz
    obtain ⟨bs, hb, hk⟩ := h4.k (by simpa [PyData.showable] using hs) fun t ht => Nat.le_trans (tupleText_mem_le ht) hz
    have na : a ∉ bs := not_mem_of_deeper r (by simp only [PyData.depth]; omega) hb
    refine ⟨a :: bs, ReadAtMost.cons r (by simp only [PyData.depth]; omega) hb, ?_⟩
    simp only [PyData.depth, PyData.shown]
    exact ReprK.tuple h1 h2 h3 na hk
  | _, _, .dict (a := a) h1 h2 h3 h4, _, _ => by
    have r : Reads h₀ (.ref a) (.dict []) _ := .dict h1 h2 h3 .nil .nil
    refine ⟨a :: ([] ++ []), ReadAtMost.cons r (by simp only [PyData.depth]; omega) (n := 0) (fun _ h => nomatch h), ?_⟩
    simp only [PyData.depth, PyData.shown, PyData.shownKv]
    exact ReprK.dict h1 h2 h3 h4 (by simp) .nil
theorem RdEs.k : ∀ {vs : List Value} {ds : List PyData}, RdEs h₀ vs ds → PyData.showableAll ds = true → (∀ t ∈ PyData.shownAll ds, t.length ≤ sizeLine) →
    ∃ bs, ReadAtMost h₀ (PyData.depthAll ds) bs ∧ ReprAllK prog w bs h₀ (PyData.depthAll ds) vs (PyData.shownAll ds)
  | _, _, .nil, _, _ => ⟨[], (fun _ h => nomatch h), by simp only [PyData.shownAll]; exact .nil⟩
  | _, _, .cons (d := d) (ds := ds) r rs, hs, hz => by
    have hs : d.showable = true ∧ PyData.showableAll ds = true := by simpa [PyData.showableAll] using hs
    obtain ⟨b1, p1, k1⟩ := r.k hs.1 (hz _ (by simp only [PyData.shownAll]; exact List.mem_cons_self ..))
    obtain ⟨b2, p2, k2⟩ := rs.k hs.2 fun t ht => hz t (by simp only [PyData.shownAll]; exact List.mem_cons_of_mem _ ht)
    refine ⟨b1 ++ b2, ?_, ?_⟩
    · simp only [PyData.depthAll]
      exact (p1.mono (Nat.le_max_left _ _)).append (p2.mono (Nat.le_max_right _ _))
    · simp only [PyData.depthAll, PyData.shownAll]
      exact .cons ((k1.more fun b hb => List.mem_append_left _ hb).level_le (Nat.le_max_left _ _)) (k2.more_le (fun b hb => List.mem_append_right _ hb) (Nat.le_max_right _ _))
end
end
section
variable {prog : Program} {w : World} {h₀ : Heap} {A : Around} {E : Value → Shared → Prop} {s : Shared} {Q : Value → Shared → Prop} {a : Addr} {d : PyData}
theorem repr_rdE (r : RdE h₀ (.ref a) d) (hs : d.showable = true) (hg : A.guards = some []) (hu : A.units + (d.depth + 1) < cLine) (hk0 : ∀ b o, h₀.get? b = some o → s.heap.get? b = some o)
    (hQ : ∀ h' u tk, (∀ b o, s.heap.get? b = some o → h'.get? b = some o) → Q (.str d.shown u) { s with heap := h', toks := tk }) (hz : d.shown.length ≤ sizeLine) : wpAny (model prog w) A (call (.builtin "repr") [.ref a]) Q E s := by
  obtain ⟨as, rr⟩ := r.reads
  cases r with
  | list h1 h2 h3 h4 =>
    rename_i o vs n xs
    have hz' : (listText (PyData.shownAll xs)).length ≤ sizeLine := by simpa only [PyData.shown] using hz
    obtain ⟨bs, hb, hk⟩ := h4.k (prog := prog) (w := w) (by simpa [PyData.showable] using hs) fun t ht => Nat.le_trans (listText_mem_le ht) hz'
    have na : a ∉ bs := not_mem_of_deeper rr (by simp only [PyData.depth]; omega) hb
    simp only [PyData.depth] at hu
    simp only [PyData.shown] at hQ
    refine call_repr_slot (T := "list") (by omega) ⟨o, hk0 _ _ h1, h2⟩ F.slot_list_repr.toG ?_
    obtain ⟨l⟩ := vs
    cases l with
    | nil =>
      have h5 : RdEs h₀ [] xs := h4
      cases h5
      simp only [PyData.shownAll, listText_nil] at hQ
      exact call_list_repr_empty ⟨o, hk0 _ _ h1, h2⟩ (hk0 _ _ h1) h3 ⟨_, _, rfl, hQ s.heap _ _ fun _ _ e => e⟩
    | cons x l =>
      exact call_list_reprK h1 h2 h3 na (by simpa using hk.length_eq) (fun i y e => hk.item i y (by simpa using e)) hg (fun b _ => Clear.nil b) (by show A.units + 1 + _ < cLine; omega) hk0 (fun h' u tk hk' => ⟨_, _, rfl, hQ h' u tk hk'⟩) hz'
  | tuple h1 h2 h3 h4 =>
    rename_i o vs n xs
    have hz' : (tupleText (PyData.shownAll xs)).length ≤ sizeLine := by simpa only [PyData.shown] using hz
    obtain ⟨bs, hb, hk⟩ := h4.k (prog := prog) (w := w) (by simpa [PyData.showable] using hs) fun t ht => Nat.le_trans (tupleText_mem_le ht) hz'
    have na : a ∉ bs := not_mem_of_deeper rr (by simp only [PyData.depth]; omega) hb
    simp only [PyData.depth] at hu
    simp only [PyData.shown] at hQ
    refine call_repr_slot (T := "tuple") (by omega) ⟨o, hk0 _ _ h1, h2⟩ F.slot_tuple_repr ?_
    exact call_tuple_reprK h1 h2 h3 na hk hg (fun b _ => Clear.nil b) (by show A.units + 1 + _ < cLine; omega) hk0 (fun h' u tk hk' => ⟨_, _, rfl, hQ h' u tk hk'⟩) hz'
  | dict h1 h2 h3 h4 =>
    rename_i o n
    have hz' : (dictText []).length ≤ sizeLine := by simpa only [PyData.shown, PyData.shownKv] using hz
    simp only [PyData.depth, PyData.depthKv] at hu
    simp only [PyData.shown, PyData.shownKv] at hQ
    refine call_repr_slot (T := "dict") (by omega) ⟨o, hk0 _ _ h1, h2⟩ F.slot_dict_repr ?_
    refine call_dict_reprK (as := []) (ps := []) h1 h2 h3 h4 (fun z => nomatch z) .nil hg (fun b _ => Clear.nil b) (d := 0) ?_ hk0 (fun h' u tk hk' => ⟨_, _, rfl, hQ h' u tk hk'⟩) hz'
    show A.units + 1 + _ < cLine
    omega
end
/-! ### over the tracked heap -/
mutual
inductive DpE (K : PySem.W.Frag) (H : Hp) : V → PyData → Prop
  | non : DpE K H .non .none
  | bl (b : Bool) : DpE K H (.bl b) (.bool b)
  | int (i : Int) : DpE K H (.int i) (.int i)
  | str (x : Str) : DpE K H (.str x) (.str x)
  | lst {a : Addr} {xs : List V} {ds : List PyData} : SqL K H a xs → DpEs K H xs ds → DpE K H (.ref a) (.list ds)
  | tup {a : Addr} {xs : List V} {ds : List PyData} : SqT K H a xs → DpEs K H xs ds → DpE K H (.ref a) (.tuple ds)
  | dct {a : Addr} : Rd H a (.dK []) → DpE K H (.ref a) (.dict [])
inductive DpEs (K : PySem.W.Frag) (H : Hp) : List V → List PyData → Prop
  | nil : DpEs K H [] []
  | cons {v : V} {vs : List V} {d : PyData} {ds : List PyData} : DpE K H v d → DpEs K H vs ds → DpEs K H (v :: vs) (d :: ds)
end
section
variable {X : Cx} {pins : List (Addr × Obj)} {σ : L2.St} {H : Hp} {s : Shared}
theorem dict_none {P : Program} {w : World} {h : Heap} {a : Addr} (x : ObjOk P w H h a (.dK [])) : ∃ o n, h.get? a = some o ∧ o.cls = .type "dict" ∧ o.data = .dict #[] n ∧ (a == sysModules) = false := by
  obtain ⟨_, sm, vs, kv, o, es, ep, e1, ex, ed, _, pr, _⟩ := x
  cases kv
  obtain ⟨l⟩ := es
  cases pr
  exact ⟨o, ep, e1, ex.1, ed, sm⟩
mutual
theorem DpE.rd (I : Inv X pins σ H s) : ∀ {v : V} {d : PyData} {u : Value}, DpE X.K H v d → RelV v u → RdE s.heap u d
  | _, _, _, .non, r => by cases r; exact .none
  | _, _, _, .bl b, r => by cases r; exact .bool b
  | _, _, _, .int i, r => by obtain ⟨t, rfl⟩ := r; exact .int i t
  | _, _, _, .str x, r => by obtain ⟨t, rfl⟩ := r; exact .str x t
  | _, _, _, .lst hs ha, r => by
    cases r
    obtain ⟨its, rv, ⟨o, n, ho, hc, _, hd⟩, _⟩ := I.list hs
    exact .list ho hc hd (DpEs.rd I ha rv)
  | _, _, _, .tup hs ha, r => by
    cases r
    obtain ⟨its, rv, ⟨o, ho, hc, n, hd⟩, _⟩ := I.tuple hs
    exact .tuple ho hc hd (DpEs.rd I ha rv)
  | _, _, _, .dct hr, r => by
    cases r
    obtain ⟨o, n, h1, h2, h3, h4⟩ := dict_none (hr.ok I.hok)
    exact .dict h1 h2 h3 h4
theorem DpEs.rd (I : Inv X pins σ H s) : ∀ {vs : List V} {ds : List PyData} {us : List Value}, DpEs X.K H vs ds → Vals vs us → RdEs s.heap us ds
  | _, _, _, .nil, r => by cases r; exact .nil
  | _, _, _, .cons h1 h2, r => by
    cases r with
    | cons r1 r2 => exact .cons (h1.rd I r1) (h2.rd I r2)
end
end
section
variable {X : Cx}
theorem call_reprE (gd : X.A.guards = some []) (room : X.A.units + 66 < cLine) : CallR X (.builtin "repr") (fun xs G R => ∃ x d, xs = [x] ∧ DpE X.K G x d ∧ d.showable = true ∧ d.depth ≤ 64 ∧ d.shown.length ≤ sizeLine ∧ R (.str d.shown) G) := by
  rintro pins z σ G xs us R I rel ⟨x, d, rfl, hd, h1, h3, h4, q⟩
  obtain ⟨u, rfl, ru⟩ := vals1 rel
  have rd := hd.rd I ru
  cases hd with
  | non => cases ru; exact PySem.P.repr_of_none ⟨.str _, G, I.tok _, ⟨_, rfl⟩, q⟩
  | bl b => cases ru; exact PySem.P.repr_of_bool ⟨.str _, G, I.tok _, ⟨_, rfl⟩, q⟩
  | int i => obtain ⟨t, rfl⟩ := ru; exact PySem.P.repr_of_int (of_decide_eq_true h1) ⟨.str _, G, I.tok _, ⟨_, rfl⟩, q⟩
  | str y => obtain ⟨t, rfl⟩ := ru; exact PySem.P.repr_of_str ⟨.str _, G, I.tok _, ⟨_, rfl⟩, q⟩ h4
  | _ =>
    cases ru
    exact repr_rdE rd h1 gd (by omega) (fun _ _ z => z) (fun h' _ tk more => ⟨.str _, G, I.kept more, ⟨_, rfl⟩, q⟩) h4
end
/-! ### by values -/
def toPE (h : List O) : Nat → D → Option PyData
  | 0, _ => none
  | n + 1, x => match x with
    | .non => some .none
    | .bl b => some (.bool b)
    | .int i => some (.int i)
    | .str z => some (.str z)
    | .tup xs => match mapO (toPE h n) xs with
      | some ds => some (.tuple ds)
      | none => none
    | .lst xs => match mapO (toPE h n) xs with
      | some ds => some (.list ds)
      | none => none
    | .dct [] [] => some (.dict [])
    | .loc i => match h[i]? with
      | some (.lst xs) => match mapO (toPE h n) xs with
        | some ds => some (.list ds)
        | none => none
      | some (.dK [] []) => some (.dict [])
      | _ => none
    | _ => none
variable {c : Ct}
theorem toPEs_ok {K : PySem.W.Frag} {ρ : Sto} {H : Hp} {f : D → Option PyData} (hf : ∀ x d v, f x = some d → RV K c H ρ x v → DpE K H v d) : ∀ {xs : List D} {ds : List PyData} {vs : List V}, mapO f xs = some ds → RVs K c H ρ xs vs → DpEs K H vs ds
  | [], _, _, e, r => by cases r; simp only [mapO] at e; cases e; exact .nil
  | x :: xs, _, _, e, r => by
    cases r with
    | cons r1 r2 =>
      simp only [mapO] at e
      split at e
      · rename_i y hy
        split at e
        · rename_i ys hys
          cases e
          exact .cons (hf _ _ _ hy r1) (toPEs_ok hf hys r2)
        · cases e
      · cases e
theorem toPE_ok {K : PySem.W.Frag} {ρ : Sto} {h : List O} {H : Hp} (ok : Ok K c ρ h H) : ∀ (n : Nat) (x : D) (d : PyData) (v : V), toPE h n x = some d → RV K c H ρ x v → DpE K H v d
  | 0, _, _, _, e, _ => by simp only [toPE] at e; cases e
  | n + 1, x, d, v, e, r => by
    cases r with
    | non => simp only [toPE] at e; cases e; exact .non
    | bl b => simp only [toPE] at e; cases e; exact .bl b
    | int b => simp only [toPE] at e; cases e; exact .int b
    | str b => simp only [toPE] at e; cases e; exact .str b
    | tup h1 h2 =>
      simp only [toPE] at e
      split at e
      · rename_i ds hds
        cases e
        exact .tup h1 (toPEs_ok (toPE_ok ok n) hds h2)
      · cases e
    | lst h1 _ h2 =>
      simp only [toPE] at e
      split at e
      · rename_i ds hds
        cases e
        exact .lst (SqL.of h1) (toPEs_ok (toPE_ok ok n) hds h2)
      · cases e
    | loc h1 =>
      simp only [toPE] at e
      split at e
      · rename_i xs hx
        split at e
        · rename_i ds hds
          cases e
          obtain ⟨vs, e1, e2⟩ := ok.objs _ _ _ hx h1
          exact .lst (SqL.of e1) (toPEs_ok (toPE_ok ok n) hds e2)
        · cases e
      · rename_i hx
        cases e
        obtain ⟨kws, e1, e2, _⟩ := ok.objs _ _ _ hx h1
        obtain rfl := List.map_eq_nil_iff.mp e2
        exact .dct (.inl e1)
      · cases e
    | dct h1 h2 h3 h4 =>
      rename_i a kws ks xs
      cases ks with
      | nil =>
        cases xs with
        | nil =>
          simp only [toPE] at e
          cases e
          obtain rfl := List.map_eq_nil_iff.mp h3
          exact .dct h1
        | cons => simp only [toPE] at e; cases e
      | cons => simp only [toPE] at e; cases e
    | _ => simp only [toPE] at e; cases e
def oReprE : List D → M D := fun xs h => match xs with
  | [x] => match toPE h deep x with
    | some d => if (d.showable && decide (d.depth ≤ 64) && decide (d.shown.length ≤ sizeLine)) = true then .ret (.str d.shown, h) else .bad
    | none => .bad
  | _ => .bad
theorem op_reprE {K : PySem.W.Frag} : OpN K c (fun xs G R => ∃ x d, xs = [x] ∧ DpE K G x d ∧ d.showable = true ∧ d.depth ≤ 64 ∧ d.shown.length ≤ sizeLine ∧ R (.str d.shown) G) oReprE := fun {ρ h H xs vs Q} ok r q => by
  unfold oReprE at q
  split at q
  · obtain ⟨v, rfl, r1⟩ := vs1 r
    split at q
    · rename_i d e
      split at q
      · rename_i g
        simp only [Bool.and_eq_true, decide_eq_true_eq] at g
        exact ⟨v, d, rfl, toPE_ok ok _ _ _ _ e r1, g.1.1, g.1.2, g.2, q ρ H _ .refl ok (.str _)⟩
      · exact q.elim
    · exact q.elim
  · exact q.elim
end Ev

/-! == of a text and a dict; x in l where x may hold empty dicts; l.count(b); a text in a list of texts. -/
namespace Ev
section
open PySem PySem.AutoSeq1 PySem.MeetsSeq PySem.SeqAt
theorem dict_eq_declines_str (l : Addr) (n : Nat) (dd : Option Addr) (sl : Array (Option Value)) (b : Str) (u : Tok) :
    Meets (Builtin.«dict.__eq__» ⟨[.ref l, .str b u], []⟩) (fun _ R s => s.heap.get? l = some { cls := .type "dict", dict := dd, data := .dict #[] n, slots := sl } ∧ R (.ok (.ret .notImplemented)) s) :=
  .of_wp fun prog w A R s h => by obtain ⟨hp, g, d, tk, os⟩ := s; obtain ⟨hl, h⟩ := h; have f1 := F.sub_str_dict; wp_walk using wpAny_loadPart' hl; exact ⟨_, rfl, h⟩
theorem str_eq_declines_dict (b : Str) (u : Tok) (l : Addr) (n : Nat) (dd : Option Addr) (sl : Array (Option Value)) :
    Meets (Builtin.«str.__eq__» ⟨[.str b u, .ref l], []⟩) (fun _ R s => s.heap.get? l = some { cls := .type "dict", dict := dd, data := .dict #[] n, slots := sl } ∧ R (.ok (.ret .notImplemented)) s) :=
  .of_wp fun prog w A R s h => by obtain ⟨hp, g, d, tk, os⟩ := s; obtain ⟨hl, h⟩ := h; wp_walk using wpAny_loadPart' hl, wpAny_load hl; exact ⟨_, rfl, h⟩
variable {A : Around} {s : Shared}
theorem rc_str_dict {l : Addr} {o : Obj} {n : Nat} (b : Str) (u : Tok) (ho : s.heap.get? l = some o) (hc : o.cls = .type "dict") (hd : o.data = .dict #[] n) (hu : A.units < cLine) : RcAt A s (.str b u) (.ref l) false := fun prog w E Q h => by
  obtain ⟨cls, dd, data, sl⟩ := o
  simp only at hc hd
  subst hc hd
  exact rc_eq_decline_or (k := false) (typeIs_str s b u) ⟨_, ho, rfl⟩ (by decide) F.sub_dict_str F.slot_str_eq F.slot_dict_eq_refl
    (fun _ hq => call_meets F.slot_str_eq (typeIs_str s b u) F.entry_str_eq (F.args_str_eq_2 _ _) (str_eq_declines_dict b u l n dd sl) ⟨ho, hq⟩)
    (fun _ hq => call_meets F.slot_dict_eq_refl ⟨_, ho, rfl⟩ F.entry_dict_eq (F.args_dict_eq_2 _ _) (dict_eq_declines_str l n dd sl b u) ⟨ho, hq⟩)
    (fun _ hq => wpAny_of_eq (rfl : isSame (.str b u) (.ref l) = pure false) hq) (.inr hu) h
theorem eqAt_str_dict {l : Addr} {o : Obj} {n : Nat} (b : Str) (u : Tok) (ho : s.heap.get? l = some o) (hc : o.cls = .type "dict") (hd : o.data = .dict #[] n) (hu : A.units < cLine) : EqAt A s (.str b u) (.ref l) false := fun prog w E Q h => by
  unfold eqBool
  refine wpAny_holding ?_
  refine wpAny_ite_split (fun hab => absurd (eq_of_beq hab) nofun) (fun _ => ?_)
  exact wpAny_bind (rc_str_dict b u ho hc hd hu prog w E _ (wpAny_truthy_bool h))
end
section
open PySem PySem.Spec PyProof.Rows L2 Dr PySem.SeqAt
mutual
/-- the left one has no dict; where the right one has an empty dict, a text stands at the left, or something else -/
def okE : PyData → PyData → Bool
  | .str _, .dict _ => true
  | _, .dict _ => false
  | .tuple xs, .tuple ys => okEs xs ys
  | .list xs, .list ys => okEs xs ys
  | .dict _, _ => false
  | _, _ => true
def okEs : List PyData → List PyData → Bool
  | x :: xs, y :: ys => okE x y && okEs xs ys
  | _, _ => true
end
variable {A : Around} {s : Shared}
theorem rdEs_len {h : Heap} : ∀ {vs : List Value} {ds : List PyData}, RdEs h vs ds → vs.length = ds.length
  | _, _, .nil => rfl
  | _, _, .cons _ rs => by simp [rdEs_len rs]
theorem units_lt {n m : Nat} (hu : A.units + min n m < cLine) : A.units < cLine := by omega
theorem units_in1 {n m : Nat} (hu : A.units + min (n + 1) (m + 1) < cLine) : A.in1.units + min n m < cLine := by
  show A.units + 1 + min n m < cLine
  omega
mutual
theorem eqAt_E : ∀ (da db : PyData) (A : Around) (s : Shared) (a b : Value) (as : List Addr), Reads s.heap a da as → RdE s.heap b db → da.canLay0 = true → okE da db = true →
    A.units + min da.depth db.depth < cLine → EqAt A s a b (PyData.eqv da db)
  | .none, _, A, s, _, _, _, ra, rb, _, hk, hu => by
    cases ra
    cases rb with
    | none => exact EqAt.same _
    | bool y => exact EqAt.none_bool y
    | int y u => exact EqAt.none_int y u
    | str y u => exact EqAt.none_str y u
    | list k1 k2 k3 k4 => exact EqAt.none_list ⟨_, k1, k2, _, k3⟩ (units_lt hu)
    | tuple k1 k2 k3 k4 => exact EqAt.none_tuple ⟨_, k1, k2, _, k3⟩ (units_lt hu)
    | dict => exact nomatch hk
  | .bool x, _, A, s, _, _, _, ra, rb, _, hk, hu => by
    cases ra
    cases rb with
    | none => exact EqAt.bool_none x
    | bool y => exact EqAt.bool_bool x y
    | int y u => exact EqAt.bool_int x y u
    | str y u => exact EqAt.bool_str x y u
    | list k1 k2 k3 k4 => exact EqAt.bool_list x ⟨_, k1, k2, _, k3⟩ (units_lt hu)
    | tuple k1 k2 k3 k4 => exact EqAt.bool_tuple x ⟨_, k1, k2, _, k3⟩ (units_lt hu)
    | dict => exact nomatch hk
  | .int x, _, A, s, _, _, _, ra, rb, _, hk, hu => by
    cases ra with
    | int _ t =>
      cases rb with
      | none => exact EqAt.int_none x t
      | bool y => exact EqAt.int_bool x t y
      | int y u => exact EqAt.int_int x t y u
      | str y u => exact EqAt.int_str x t y u
      | list k1 k2 k3 k4 => exact EqAt.int_list x t ⟨_, k1, k2, _, k3⟩ (units_lt hu)
      | tuple k1 k2 k3 k4 => exact EqAt.int_tuple x t ⟨_, k1, k2, _, k3⟩ (units_lt hu)
      | dict => exact nomatch hk
  | .str x, _, A, s, _, _, _, ra, rb, _, hk, hu => by
    cases ra with
    | str _ t =>
      cases rb with
      | none => exact EqAt.str_none x t
      | bool y => exact EqAt.str_bool x t y
      | int y u => exact EqAt.str_int x t y u
      | str y u => exact EqAt.str_str x t y u
      | list k1 k2 k3 k4 => exact EqAt.str_list x t ⟨_, k1, k2, _, k3⟩ (units_lt hu)
      | tuple k1 k2 k3 k4 => exact EqAt.str_tuple x t ⟨_, k1, k2, _, k3⟩ (units_lt hu)
      | dict k1 k2 k3 _ => exact eqAt_str_dict x t k1 k2 k3 (units_lt hu)
  | .list xs, db, A, s, _, _, _, ra, rb, ha, hk, hu => by
    cases ra with
    | @list l o vs n _ as₁ h1 h2 h3 h4 =>
      have hl : s.heap.IsList l vs := ⟨_, h1, h2, _, h3⟩
      cases rb with
      | none => exact EqAt.list_none hl (units_lt hu)
      | bool y => exact EqAt.list_bool y hl (units_lt hu)
      | int y u => exact EqAt.list_int y u hl (units_lt hu)
      | str y u => exact EqAt.list_str y u hl (units_lt hu)
      | tuple k1 k2 k3 k4 => exact EqAt.list_tuple hl ⟨_, k1, k2, _, k3⟩ (units_lt hu)
      | dict => exact nomatch hk
      | @list l' o' vs' n' ys k1 k2 k3 k4 =>
        have hl' : s.heap.IsList l' vs' := ⟨_, k1, k2, _, k3⟩
        have n1 : vs.size = xs.length := by simpa using ReadsAll.length _ _ _ h4
        have n2 : vs'.size = ys.length := by simpa using rdEs_len k4
        show EqAt A s (.ref l) (.ref l') (PyData.eqvAll xs ys)
        by_cases hll : l = l'
        · subst hll
          obtain ⟨bs, r4⟩ := k4.reads
          have e : PyData.list xs = PyData.list ys := Reads.unique (.list xs) (.list ys) _ _ _ ha (.list h1 h2 h3 h4) (.list k1 k2 k3 r4)
          injection e with e
          subst e
          rw [eqvAll_refl xs ha]
          exact EqAt.same _
        · by_cases hsz : vs.size = vs'.size
          · rw [← eqvAll_same_length (by omega : xs.length = ys.length), ← n1]
            refine EqAt.of_refs hll (RcAt.lists hl hl' hsz (units_lt hu) fun j j1 j2 => ?_)
            have := eqAt_Es xs ys A.in1 s vs.toList vs'.toList _ h4 k4 ha hk (units_in1 hu) j (by simpa using j1) (by simpa using j2)
            simpa using this
          · rw [eqvAll_other_length (by omega : xs.length ≠ ys.length)]
            exact EqAt.of_refs hll (RcAt.lists_lengths hl hl' (by simpa using hsz) (units_lt hu))
  | .tuple xs, db, A, s, _, _, _, ra, rb, ha, hk, hu => by
    cases ra with
    | @tuple l o vs n _ as₁ h1 h2 h3 h4 =>
      have hl : s.heap.IsTuple l vs := ⟨_, h1, h2, _, h3⟩
      cases rb with
      | none => exact EqAt.tuple_none hl (units_lt hu)
      | bool y => exact EqAt.tuple_bool y hl (units_lt hu)
      | int y u => exact EqAt.tuple_int y u hl (units_lt hu)
      | str y u => exact EqAt.tuple_str y u hl (units_lt hu)
      | list k1 k2 k3 k4 => exact EqAt.tuple_list hl ⟨_, k1, k2, _, k3⟩ (units_lt hu)
      | dict => exact nomatch hk
      | @tuple l' o' vs' n' ys k1 k2 k3 k4 =>
        have hl' : s.heap.IsTuple l' vs' := ⟨_, k1, k2, _, k3⟩
        have n1 : vs.size = xs.length := by simpa using ReadsAll.length _ _ _ h4
        have n2 : vs'.size = ys.length := by simpa using rdEs_len k4
        show EqAt A s (.ref l) (.ref l') (PyData.eqvAll xs ys)
        by_cases hll : l = l'
        · subst hll
          obtain ⟨bs, r4⟩ := k4.reads
          have e : PyData.tuple xs = PyData.tuple ys := Reads.unique (.tuple xs) (.tuple ys) _ _ _ ha (.tuple h1 h2 h3 h4) (.tuple k1 k2 k3 r4)
          injection e with e
          subst e
          rw [eqvAll_refl xs ha]
          exact EqAt.same _
        · rw [← eqvAll_eq xs ys, ← n1, ← n2]
          refine EqAt.of_refs hll (RcAt.tuples hl hl' (units_lt hu) fun j j1 j2 => ?_)
          have := eqAt_Es xs ys A.in1 s vs.toList vs'.toList _ h4 k4 ha hk (units_in1 hu) j (by simpa using j1) (by simpa using j2)
          simpa using this
  | .dict _, _, _, _, _, _, _, _, _, ha, _, _ => nomatch ha
theorem eqAt_Es : ∀ (xs ys : List PyData) (A : Around) (s : Shared) (vs ws : List Value) (as : List Addr), ReadsAll s.heap vs xs as → RdEs s.heap ws ys → PyData.canLayAll0 xs = true → okEs xs ys = true →
    A.units + min (PyData.depthAll xs) (PyData.depthAll ys) < cLine → ∀ j (h1 : j < vs.length) (h2 : j < ws.length), EqAt A s vs[j] ws[j] (pairEq xs ys j)
  | [], _, _, _, _, _, _, ra, _, _, _, _, j, h1, _ => by cases ra; exact absurd h1 (Nat.not_lt_zero _)
  | _ :: _, [], _, _, _, _, _, _, rb, _, _, _, j, _, h2 => by cases rb; exact absurd h2 (Nat.not_lt_zero _)
  | x :: xs, y :: ys, A, s, _, _, _, ra, rb, ha, hk, hu, j, h1, h2 => by
    have ha' : x.canLay0 = true ∧ PyData.canLayAll0 xs = true := by simpa [PyData.canLayAll0] using ha
    have hk' : okE x y = true ∧ okEs xs ys = true := by simpa [okEs] using hk
    have d1 : PyData.depthAll (x :: xs) = max x.depth (PyData.depthAll xs) := rfl
    have d2 : PyData.depthAll (y :: ys) = max y.depth (PyData.depthAll ys) := rfl
    rw [d1, d2] at hu
    cases ra with
    | cons r rs =>
      cases rb with
      | cons r' rs' =>
        cases j with
        | zero => exact eqAt_E x y A s _ _ _ r r' ha'.1 hk'.1 (by omega)
        | succ j => exact eqAt_Es xs ys A s _ _ _ rs rs' ha'.2 hk'.2 (by omega) j (Nat.lt_of_succ_lt_succ h1) (Nat.lt_of_succ_lt_succ h2)
end
theorem items_E {vs : Array Value} {xs : List PyData} {as : List Addr} {x : Value} {d : PyData} (rs : ReadsAll s.heap vs.toList xs as) (rx : RdE s.heap x d) (hxs : PyData.canLayAll0 xs = true) (hk : ∀ y ∈ xs, okE y d = true)
    (hu : A.units + 1 + min (PyData.depthAll xs) d.depth < cLine) : ∀ y, y ∈ vs → EqAt A.in1 s y x (PyData.eqv (readOf s.heap y) d) := fun y hy => by
  have mem : ∀ (xs : List PyData) (vs : List Value) (as : List Addr), PyData.canLayAll0 xs = true → ReadsAll s.heap vs xs as → ∀ y ∈ vs, ∃ d bs, d ∈ xs ∧ Reads s.heap y d bs ∧ d.canLay0 = true ∧ d.depth ≤ PyData.depthAll xs := by
    intro xs
    induction xs with
    | nil => intro vs as _ r y hy; cases r; cases hy
    | cons x xs ih =>
      intro vs as hc r y hy
      have hc' : x.canLay0 = true ∧ PyData.canLayAll0 xs = true := by simpa [PyData.canLayAll0] using hc
      cases r with
      | cons r1 r2 =>
        rcases List.mem_cons.mp hy with rfl | hy
        · exact ⟨x, _, List.mem_cons_self, r1, hc'.1, Nat.le_max_left _ _⟩
        · obtain ⟨d, bs, hm, rd, hd, hle⟩ := ih _ _ hc'.2 r2 y hy
          exact ⟨d, bs, List.mem_cons_of_mem _ hm, rd, hd, Nat.le_trans hle (Nat.le_max_right _ _)⟩
  obtain ⟨dy, cs, hm, ry, hcy, hle⟩ := mem xs _ _ hxs rs y (by simpa using hy)
  rw [readOf_eq hcy ry]
  refine eqAt_E dy d A.in1 s y x _ ry rx hcy (hk dy hm) ?_
  have h1 : min dy.depth d.depth ≤ min (PyData.depthAll xs) d.depth := Nat.le_min.mpr ⟨Nat.le_trans (Nat.min_le_left _ _) hle, Nat.min_le_right _ _⟩
  show A.units + 1 + min dy.depth d.depth < cLine
  omega
end
section
open PySem PySem.Spec PyProof.Rows L2 Dr
variable {X : Cx} {c : Ct}
def rNotInE (K : PySem.W.Frag) : R2 := fun x y H Q => ∃ d ds, DpE K H x d ∧ Dp K H y (.list ds) ∧ SeqAt.shaped (.list ds) = true ∧ (∀ z ∈ ds, okE z d = true) ∧ Q (.bl (!ds.any fun z => PyData.eqv z d)) H
theorem op_notInE (hu : X.A.units + 65 < cLine) : OpR X (compareOp .NotIn) (rNotInE X.K) := by
  intro pins s σ H x y v u Q I rx ry h
  obtain ⟨d, ds, hd, he, se, hk, q⟩ := h
  have r1 := DpE.rd I hd rx
  obtain ⟨bs, r2⟩ := Dp.reads I (.list ds) y u he ry
  have cl : PyData.canLayAll0 ds = true := SeqAt.canLay_of_shaped se
  have dp : (PyData.list ds).depth ≤ 64 := by
    unfold SeqAt.shaped at se
    simp only [Bool.and_eq_true, decide_eq_true_eq] at se
    exact se.2
  cases r2 with
  | list h1 h2 h3 h4 =>
    have dp2 : PyData.depthAll ds + 1 ≤ 64 := dp
    exact SeqAt.notIn_listAt _ ⟨_, h1, h2, _, h3⟩ (items_E h4 r1 cl hk (by omega)) (by rw [SeqAt.any_by_data h4 cl]; exact ⟨.bl _, H, I, rfl, q⟩)
def pInE : Cmp := fun h x y => match toPE h deep x, toP h deep y with
  | some d, some (.list ds) => if (SeqAt.shaped (.list ds) && ds.all fun z => okE z d) = true then some (!ds.any fun z => PyData.eqv z d) else none
  | _, _ => none
theorem cmp_notInE {K : PySem.W.Frag} : CmpS K c (rNotInE K) pInE := fun {ρ h H x y v w Q b} ok r1 r2 e q => by
  unfold pInE at e
  split at e
  · rename_i d ds h1 h2
    split at e
    · rename_i hs
      cases e
      have hs := Bool.and_eq_true_iff.mp hs
      exact ⟨d, ds, toPE_ok ok _ _ _ _ h1 r1, toP_ok ok _ _ _ _ h2 r2, hs.1, List.all_eq_true.mp hs.2, q⟩
    · cases e
  · cases e
/-! a text in a list of texts -/
def pInL (neg : Bool) : Cmp := fun h x y => match lstD h y with
  | some xs => match toV x, mapO toV xs with
    | some v, some vs => some (if neg then !inV v vs else inV v vs)
    | _, _ => none
  | none => none
theorem cmp_inL {K : PySem.W.Frag} (neg : Bool) : CmpS K c (rIn K neg) (pInL neg) := fun {ρ h H x y v w Q b} ok r1 r2 e q => by
  unfold pInL at e
  split at e
  · rename_i xs hl
    obtain ⟨a, vs, rfl, h1, h2⟩ := lstD_ok ok r2 hl
    split at e
    · rename_i v' vs' hv hvs
      cases e
      obtain ⟨q1, q2⟩ := toV_ok hv r1
      obtain ⟨q3, q4⟩ := toVs_ok hvs h2
      subst q1 q3
      exact ⟨_, _, rfl, .inl (SqL.of h1), q2, q4, q⟩
    · cases e
  · cases e
/-! l.count(b) -/
def rCntB (K : PySem.W.Frag) : V → List V → Hp → VK → Prop := fun x xs H Q => ∃ (p : Addr) (bs : List Bool) (k : Bool), x = .ref p ∧ xs = [.bl k] ∧ SqL K H p (bs.map V.bl) ∧ Q (.int (bs.count k : Nat)) H
theorem reads_bls {h : Heap} : ∀ {bs : List Bool} {us : List Value}, Vals (bs.map V.bl) us → ∃ as, ReadsAll h us (bs.map PyData.bool) as
  | [], _, r => by cases r; exact ⟨_, .nil⟩
  | b :: bs, _, r => by
    cases r with
    | cons r1 r2 =>
      cases r1
      obtain ⟨as, q⟩ := reads_bls r2
      exact ⟨_, .cons (.bool b) q⟩
theorem countIn_bls (k : Bool) : ∀ bs : List Bool, countIn (.bool k) (bs.map PyData.bool) = bs.count k
  | [] => rfl
  | b :: bs => by
    have ih := countIn_bls k bs
    rw [List.count_cons]
    cases b <;> cases k <;> simp_all [countIn] <;> first | rfl | (rw [show ∀ n : Int, (if same (PyData.bool false) (PyData.bool false) = true then (1 : Int) else 0) + n = n + 1 from fun n => by rw [if_pos (by decide)]; omega]) | (rw [show ∀ n : Int, (if same (PyData.bool true) (PyData.bool true) = true then (1 : Int) else 0) + n = n + 1 from fun n => by rw [if_pos (by decide)]; omega]) | (rw [if_neg (by decide)]; omega)
theorem mt_countB : MtR X "list.count" (rCntB X.K) := by
  intro pins s σ H x xs v us Q I rx rxs h
  obtain ⟨p, bs, k, rfl, rfl, hs, q⟩ := h
  cases rx
  obtain ⟨u, rfl, ru⟩ := rxs.one
  cases ru
  obtain ⟨its, rv, hl, hlen⟩ := I.list hs
  obtain ⟨as, ra⟩ := reads_bls (h := s.heap) rv
  obtain ⟨o, n, ho, hc, hdn, hd⟩ := hl
  refine count_list_bools (hl := ⟨o, ho, hc, n, hd⟩) ra (by simp [List.all_map]; exact ⟨fun _ => rfl, fun _ => rfl⟩) ?_
  rw [countIn_bls]
  exact ⟨.int (bs.count k : Nat), H, I.tok _, ⟨s.toks, rfl⟩, q⟩
def mCount : D → List D → M D := fun x ys h => match ys with
  | [.bl k] => match lstD h x with
    | some xs => match mapO oBlD xs with
      | some bs => .ret (.int (bs.count k : Nat), h)
      | none => .bad
    | none => .bad
  | _ => .bad
theorem op_count {K : PySem.W.Frag} : OpM K c (rCntB K) mCount := fun {ρ h H x v xs vs Q} ok r1 r2 q => by
  unfold mCount at q
  split at q
  · obtain ⟨w, rfl, r3⟩ := vs1 r2
    cases r3
    split at q
    · rename_i ys hl
      obtain ⟨a, vs, rfl, h1, h2⟩ := lstD_ok ok r1 hl
      split at q
      · rename_i bs hb
        have := bls_ok hb h2
        subst this
        exact ⟨_, _, _, rfl, rfl, SqL.of h1, q _ _ _ .refl ok (.int _)⟩
      · exact q.elim
    · exact q.elim
  · exact q.elim
end
end Ev

/-! Dicts whose keys are nested tuples. -/
namespace Ev
open PySem PySem.Spec PyProof.Rows L2 Dr
variable {c : Ct}
/-! ### keys -/
mutual
/-- the value is such a key -/
inductive NkV (K : PySem.W.Frag) (H : Hp) : NestedKey → V → Prop
  | non : NkV K H .none .non
  | bl (b : Bool) : NkV K H (.num (if b then 1 else 0)) (.bl b)
  | int (i : Int) : NkV K H (.num i) (.int i)
  | str (x : Str) : NkV K H (.text x) (.str x)
  | tup {a : Addr} {vs : List V} {ks : List NestedKey} : SqT K H a vs → NkVs K H ks vs → NkV K H (.tup ks) (.ref a)
inductive NkVs (K : PySem.W.Frag) (H : Hp) : List NestedKey → List V → Prop
  | nil : NkVs K H [] []
  | cons {k : NestedKey} {ks : List NestedKey} {v : V} {vs : List V} : NkV K H k v → NkVs K H ks vs → NkVs K H (k :: ks) (v :: vs)
end
mutual
theorem nk_of {K : PySem.W.Frag} {H : Hp} {ρ : Sto} : ∀ {x : D} {k : NestedKey} {v : V}, nkD x = some k → RV K c H ρ x v → NkV K H k v
  | .non, _, _, e, r => by cases r; simp only [nkD] at e; cases e; exact .non
  | .bl b, _, _, e, r => by cases r; simp only [nkD] at e; cases e; exact .bl b
  | .int i, _, _, e, r => by cases r; simp only [nkD] at e; cases e; exact .int i
  | .str x, _, _, e, r => by cases r; simp only [nkD] at e; cases e; exact .str x
  | .tup xs, k, _, e, r => by
    cases r with
    | tup h1 h2 =>
      simp only [nkD] at e
      split at e
      · rename_i ks hk
        cases e
        exact .tup h1 (nks_of hk h2)
      · cases e
  | .lst _, _, _, e, _ => by simp only [nkD] at e; cases e
  | .dct _ _, _, _, e, _ => by simp only [nkD] at e; cases e
  | .tct _ _, _, _, e, _ => by simp only [nkD] at e; cases e
  | .loc _, _, _, e, _ => by simp only [nkD] at e; cases e
  | .draw, _, _, e, _ => by simp only [nkD] at e; cases e
  | .fn _, _, _, e, _ => by simp only [nkD] at e; cases e
  | .ins _ _, _, _, e, _ => by simp only [nkD] at e; cases e
  | .exn _ _, _, _, e, _ => by simp only [nkD] at e; cases e
theorem nks_of {K : PySem.W.Frag} {H : Hp} {ρ : Sto} : ∀ {xs : List D} {ks : List NestedKey} {vs : List V}, nkDs xs = some ks → RVs K c H ρ xs vs → NkVs K H ks vs
  | [], _, _, e, r => by cases r; simp only [nkDs] at e; cases e; exact .nil
  | x :: xs, _, _, e, r => by
    cases r with
    | cons r1 r2 =>
      simp only [nkDs] at e
      split at e
      · rename_i k ks h1 h2
        cases e
        exact .cons (nk_of h1 r1) (nks_of h2 r2)
      · cases e
end
section
variable {X : Cx} {pins : List (Addr × Obj)} {σ : L2.St} {H : Hp} {s : Shared}
mutual
theorem NkV.is (I : L2.Inv X pins σ H s) : ∀ {k : NestedKey} {v : V} {u : Value}, NkV X.K H k v → RelV v u → NestedIs s.heap k u
  | _, _, _, .non, r => by cases r; exact .none
  | _, _, _, .bl b, r => by cases r; exact .bool rfl
  | _, _, _, .int i, r => by obtain ⟨t, rfl⟩ := r; exact .int _ t
  | _, _, _, .str x, r => by obtain ⟨t, rfl⟩ := r; exact .text _ t
  | _, _, _, .tup h1 h2, r => by
    cases (show _ = Value.ref _ from r)
    obtain ⟨its, rv, ⟨o, ho, hc, n, hd⟩, _⟩ := I.tuple h1
    exact .tup ho hc hd (NkVs.is I h2 (by simpa using rv))
theorem NkVs.is (I : L2.Inv X pins σ H s) : ∀ {ks : List NestedKey} {vs : List V} {us : List Value}, NkVs X.K H ks vs → Vals vs us → NestedAll s.heap ks us
  | _, _, _, .nil, r => by cases r; exact .nil
  | _, _, _, .cons h1 h2, r => by
    cases r with
    | cons r1 r2 => exact .cons (NkV.is I h1 r1) (NkVs.is I h2 r2)
end
/-- the dict at a, its keys, its values -/
def TdK (X : Cx) (H : Hp) (a : Addr) (kas : List (NestedKey × Addr)) (vs : List V) : Prop := Rd H a (tdO X.prog X.w a kas vs) ∧ NkVs X.K H (kas.map (·.1)) (kas.map fun p => V.ref p.2)
theorem nkvs_mem {K : PySem.W.Frag} {H : Hp} : ∀ {kas : List (NestedKey × Addr)}, NkVs K H (kas.map (·.1)) (kas.map fun p => V.ref p.2) → ∀ p ∈ kas, NkV K H p.1 (.ref p.2)
  | [], _, p, hp => by cases hp
  | q :: kas, h, p, hp => by
    rw [List.map_cons, List.map_cons] at h
    cases h with
    | cons h1 h2 =>
      rcases List.mem_cons.mp hp with rfl | hp
      · exact h1
      · exact nkvs_mem h2 p hp
abbrev kvN (kas : List (NestedKey × Addr)) (vs : List V) : List (NestedKey × V) := (kas.map (·.1)).zip vs
theorem kvN_rel : ∀ {xs : List (NestedKey × Addr × Value)} {vs : List V}, Vals vs (xs.map (·.2.2)) → KV (kvN (xs.map fun x => (x.1, x.2.1)) vs) (pairsH xs)
  | [], _, r => by cases r; exact .nil
  | x :: xs, _, r => by
    rw [List.map_cons] at r
    cases r with
    | cons r1 r2 => exact .cons ⟨rfl, r1⟩ (kvN_rel r2)
theorem TdK.at (I : L2.Inv X pins σ H s) {a : Addr} {kas : List (NestedKey × Addr)} {vs : List V} (t : TdK X H a kas vs) : kas.length ≤ sizeLine ∧ (a == sysModules) = false ∧ (∀ p ∈ kas, p.1.depth ≤ 8) ∧
    ∃ xs : List (NestedKey × Addr × Value), s.heap.DictOfH (nestedKind X.prog X.w) a xs ∧ xs.map (fun x => (x.1, x.2.1)) = kas ∧ Vals vs (xs.map (·.2.2)) ∧ KV (kvN kas vs) (pairsH xs) := by
  obtain ⟨⟨h1, h2, h3, xs, ⟨o, es, ep, e1, e2, e3, e4, e5⟩, e6, e7⟩, _⟩ := rd_of I.hok t.1
  have mem := nkvs_mem t.2
  subst e6
  refine ⟨h1, h2, h3, xs, ⟨o, es, ep, e1, e2, e3, e4, fun x hx => ?_, e5⟩, rfl, e7, kvN_rel e7⟩
  have hm : (x.1, x.2.1) ∈ xs.map fun x => (x.1, x.2.1) := List.mem_map_of_mem (f := fun x : NestedKey × Addr × Value => (x.1, x.2.1)) hx
  exact ⟨NkV.is I (mem _ hm) rfl, h3 _ hm⟩
theorem nk_key (I : L2.Inv X pins σ H s) {k : NestedKey} {b : Addr} (h : NkV X.K H k (.ref b)) (hd : k.depth ≤ 8) : (nestedKind X.prog X.w).is s.heap k b := ⟨NkV.is I h rfl, hd⟩
/-! ### o[i] -/
def rIxN (X : Cx) (x y : V) (H : Hp) (Q : VK) : Prop := ∃ a b kas vs k v, x = .ref a ∧ y = .ref b ∧ TdK X H a kas vs ∧ NkV X.K H k (.ref b) ∧ k.depth ≤ 8 ∧ L2.valV (kvN kas vs) k = some v ∧ Q v H
theorem ix_td {X : Cx} (hu : X.A.units + 10 < cLine) : IxR X (rIxN X) := by
  intro value slice pins s σ H x y v u Q I rx ry h hs
  obtain ⟨a, b, kas, vs, k, z, ex, ey, t, hk, hd, hv, q⟩ := h
  subst ex ey
  obtain rfl : v = Value.ref a := rx
  obtain rfl : u = Value.ref b := ry
  obtain ⟨l1, l2, l3, xs, hm, e1, e2, kv⟩ := t.at I
  have hT := hm.typeIs
  obtain ⟨w', hw, rw'⟩ := RelO.some_of (v := z) (o := valueAt (pairsH xs) k) (by rw [← hv]; exact kv.val k)
  have h₂ : wpAny (model X.prog X.w) X.A (getItem (.ref a) (.ref b)) (EP X pins σ Q) X.xe s :=
    getItem_keyed (knd := nestedKind X.prog X.w) (by show X.A.in1.units + 8 < cLine; simp only [Around.in1_units]; omega) (nk_key I hk hd) ⟨xs, hm, rfl⟩ hw ⟨z, H, I.tok _, rw', q⟩
  unfold subscriptTail
  refine wpAny_bind ?_
  rw [getitemInPython_of_ne hT.not_modules]
  refine wpAny_bind (wpAny_specialOf hT PySem.F.slot_dict_getitem.lookup ?_)
  have fin : wpAny (model X.prog X.w) X.A (subscripted slice false (.ref a) (.ref b)) (fun r s₃ => wpAny (model X.prog X.w) X.A (letTemporaryGo value (.ref a) r >>= fun _ => pure r) (EP X pins σ Q) X.xe s₃) X.xe s := by
    rw [hs]
    exact wpAny_operating (wpAny_mono h₂ (fun r s₃ h₃ => wpAny_bind (wpAny_letTemporaryGo (wpAny_pure h₃))) fun _ _ x => x)
  first
    | exact wpAny_pure (wpAny_bind fin)
    | exact wpAny_bind (wpAny_pure (wpAny_bind fin))
    | exact wpAny_bind fin
/-! ### in -/
def rInN (neg : Bool) (X : Cx) : R2 := fun x y H Q => ∃ a b kas vs k, y = .ref a ∧ x = .ref b ∧ TdK X H a kas vs ∧ NkV X.K H k (.ref b) ∧ k.depth ≤ 8 ∧ Q (.bl (neg != (L2.valV (kvN kas vs) k).isSome)) H
theorem op_in_td {X : Cx} (hu : X.A.units + 10 < cLine) : OpR X (compareOp .In) (rInN false X) := by
  intro pins s σ H x y v u Q I rx ry h
  obtain ⟨a, b, kas, vs, k, ey, ex, t, hk, hd, q⟩ := h
  subst ex ey
  obtain rfl : v = Value.ref b := rx
  obtain rfl : u = Value.ref a := ry
  obtain ⟨l1, l2, l3, xs, hm, e1, e2, kv⟩ := t.at I
  refine in_keyed (knd := nestedKind X.prog X.w) (by show X.A.in1.units + 8 < cLine; simp only [Around.in1_units]; omega) (nk_key I hk hd) l2 ⟨xs, hm, rfl⟩ ?_
  rw [← (kv.val k).isSome_eq]
  exact ⟨.bl _, H, I.tok _, rfl, by simpa using q⟩
theorem op_notIn_td {X : Cx} (hu : X.A.units + 10 < cLine) : OpR X (compareOp .NotIn) (rInN true X) := by
  intro pins s σ H x y v u Q I rx ry h
  obtain ⟨a, b, kas, vs, k, ey, ex, t, hk, hd, q⟩ := h
  subst ex ey
  obtain rfl : v = Value.ref b := rx
  obtain rfl : u = Value.ref a := ry
  obtain ⟨l1, l2, l3, xs, hm, e1, e2, kv⟩ := t.at I
  refine notIn_keyed (knd := nestedKind X.prog X.w) (by show X.A.in1.units + 8 < cLine; simp only [Around.in1_units]; omega) (nk_key I hk hd) l2 ⟨xs, hm, rfl⟩ ?_
  rw [← (kv.val k).isSome_eq]
  exact ⟨.bl _, H, I.tok _, rfl, by simpa using q⟩

/-! ### o[i] = v -/
def putKs {β : Type} (nks : List NestedKey) (ks : List β) (k : NestedKey) (y : β) : List β := if k ∈ nks then ks else ks ++ [y]
def putVs {α : Type} (nks : List NestedKey) (xs : List α) (k : NestedKey) (v : α) : List α := if k ∈ nks then (nks.zip xs).map (fun p => if p.1 = k then v else p.2) else xs ++ [v]
theorem atKey_mem {xs : List (NestedKey × Addr × Value)} {k : NestedKey} : (atKey xs k).isSome = true ↔ k ∈ xs.map (·.1) := by
  unfold atKey
  rw [Option.isSome_map, List.find?_isSome]
  simp only [List.mem_map, decide_eq_true_eq]
theorem stored_keys (xs : List (NestedKey × Addr × Value)) (k : NestedKey) (b : Addr) (u : Value) : (storedH xs k b u).map (fun x => (x.1, x.2.1)) = putKs (xs.map (·.1)) (xs.map fun x => (x.1, x.2.1)) k (k, b) := by
  unfold storedH putKs
  by_cases h : (atKey xs k).isSome = true
  · rw [if_pos h, if_pos (atKey_mem.mp h), List.map_map]
    refine List.map_congr_left fun x _ => ?_
    by_cases e : x.1 = k <;> simp [putAt, e]
  · rw [if_neg h, if_neg (fun z => h (atKey_mem.mpr z))]
    simp
theorem put_vals {k : NestedKey} {v : V} {u : Value} (r : RelV v u) : ∀ {xs : List (NestedKey × Addr × Value)} {vs : List V}, Vals vs (xs.map (·.2.2)) → Vals (((xs.map (·.1)).zip vs).map fun p => if p.1 = k then v else p.2) ((xs.map (putAt k u)).map (·.2.2))
  | [], _, h => by cases h; exact .nil
  | x :: xs, _, h => by
    rw [List.map_cons] at h
    cases h with
    | cons h1 h2 =>
      rw [List.map_cons, List.map_cons, List.map_cons, List.zip_cons_cons, List.map_cons]
      refine .cons ?_ (put_vals r h2)
      by_cases e : x.1 = k
      · simp only [putAt, if_pos e]; exact r
      · simp only [putAt, if_neg e]; exact h1
theorem stored_vals {xs : List (NestedKey × Addr × Value)} {k : NestedKey} {b : Addr} {v : V} {u : Value} {vs : List V} (r : RelV v u) (h : Vals vs (xs.map (·.2.2))) : Vals (putVs (xs.map (·.1)) vs k v) ((storedH xs k b u).map (·.2.2)) := by
  unfold storedH putVs
  by_cases z : (atKey xs k).isSome = true
  · rw [if_pos z, if_pos (atKey_mem.mp z)]
    exact put_vals r h
  · rw [if_neg z, if_neg (fun y => z (atKey_mem.mpr y)), List.map_append]
    exact Paired.snoc h r
theorem td_new {P : Program} {w : World} {H' : Hp} {h' : Heap} {a : Addr} {xs : List (NestedKey × Addr × Value)} {vs : List V} (z : xs.length ≤ sizeLine) (hd : (a == sysModules) = false) (d8 : ∀ x ∈ xs, x.1.depth ≤ 8) (dd : h'.DictOfH (nestedKind P w) a xs) (rv : Vals vs (xs.map (·.2.2))) :
    ObjOk P w H' h' a (tdO P w a (xs.map fun x => (x.1, x.2.1)) vs) := by
  obtain ⟨o, es, ep, e1, e2, e3, e4, e5, e6⟩ := dd
  refine ⟨⟨by simpa using z, hd, fun p hp => ?_, xs, ⟨o, es, ep, e1, e2, e3, e4, e6⟩, rfl, rv⟩, ⟨o, e1⟩, ?_⟩
  · obtain ⟨x, hx, rfl⟩ := List.mem_map.mp hp
    exact d8 x hx
  · rintro h1 h2 ⟨a1, a2, a3, xs', ⟨o', es', ep', f1, f2⟩, f3⟩ same
    exact ⟨a1, a2, a3, xs', ⟨o', es', ep', same _ f1, f2⟩, f3⟩
theorem stored_len (xs : List (NestedKey × Addr × Value)) (k : NestedKey) (b : Addr) (u : Value) : (storedH xs k b u).length ≤ xs.length + 1 := by
  unfold storedH
  split <;> simp
def rSetN (X : Cx) : TSet := fun o i v H Q => ∃ a b kas vs k, o = .ref a ∧ i = .ref b ∧ H a = some (tdO X.prog X.w a kas vs) ∧ NkVs X.K H (kas.map (·.1)) (kas.map fun p => V.ref p.2) ∧ NkV X.K H k (.ref b) ∧ k.depth ≤ 8 ∧ kas.length < sizeLine ∧
  Q (upd H a (tdO X.prog X.w a (putKs (kas.map (·.1)) kas k (k, b)) (putVs (kas.map (·.1)) vs k v)))
theorem set_td {X : Cx} (hu : X.A.units + 10 < cLine) : PSet X (rSetN X) := by
  intro pins s σ H o i v ov iv u Q I ro ri rv h
  obtain ⟨a, b, kas, vs, k, eo, ei, e, nk, hk, hd, hl, q⟩ := h
  subst eo ei
  cases (show ov = Value.ref a from ro)
  cases (show iv = Value.ref b from ri)
  obtain ⟨l1, l2, l3, xs, hm, e1, e2, kv⟩ := TdK.at I (⟨.inl e, nk⟩ : TdK X H a kas vs)
  subst e1
  have em : (xs.map fun x => (x.1, x.2.1)).map (·.1) = xs.map (·.1) := by rw [List.map_map]; rfl
  rw [List.length_map] at hl
  refine wpAny_setItem_heap (knd := nestedKind X.prog X.w) (by show X.A.in1.units + 8 < cLine; simp only [Around.in1_units]; omega) (nk_key I hk hd) hm (fun h' dd hs => ⟨_, ?_, q⟩) (by omega)
  have he : ∃ q, h'.get? a = some q := let ⟨q, _, _, hq, _⟩ := dd; ⟨q, hq⟩
  have new := td_new (H' := upd H a (tdO X.prog X.w a (putKs ((xs.map fun x => (x.1, x.2.1)).map (·.1)) (xs.map fun x => (x.1, x.2.1)) k (k, b)) (putVs ((xs.map fun x => (x.1, x.2.1)).map (·.1)) vs k v))) (by have := stored_len xs k b u; omega) l2 (fun x hx => ?_) dd (stored_vals rv e2)
  · rw [stored_keys, ← em] at new
    exact d_write I (by rw [e]; exact True.intro) hs he new
  · unfold storedH at hx
    split at hx
    · obtain ⟨y, hy, rfl⟩ := List.mem_map.mp hx
      have : (putAt k u y).1 = y.1 := by unfold putAt; split <;> rfl
      rw [this]
      exact l3 _ (List.mem_map_of_mem (f := fun x : NestedKey × Addr × Value => (x.1, x.2.1)) hy)
    · rcases List.mem_append.mp hx with hx | hx
      · exact l3 _ (List.mem_map_of_mem (f := fun x : NestedKey × Addr × Value => (x.1, x.2.1)) hx)
      · rw [List.mem_singleton] at hx
        rw [hx]
        exact hd
/-! ### {k: v} -/
theorem td_empty {P : Program} {w : World} {H : Hp} (h : Heap) (hb : sysModules < h.objs.size) : ObjOk P w H (h.push { cls := .type "dict", data := .dict #[] }) h.objs.size (tdO P w h.objs.size [] []) :=
  td_new (xs := []) (Nat.zero_le _) (beq_eq_false_iff_ne.mpr (Ne.symm (Nat.ne_of_lt hb))) (fun _ z => nomatch z) (Heap.DictOfH.new h) .nil
theorem pe_dispN {X : Cx} {k v : Expr} {tk tv : TE} {pos : Pos} (hu : X.A.units + 10 < cLine) (hk : PE X k tk) (hv : PE X v tv) : PE X (.Dict [some k] [v] pos) (fun σ H Q => ∀ p, H p = none → tk σ (upd H p (tdO X.prog X.w p [] [])) fun x H1 => tv σ H1 fun y H2 => ∃ b n, x = .ref b ∧ NkV X.K H2 n (.ref b) ∧ n.depth ≤ 8 ∧ H2 p = some (tdO X.prog X.w p [] []) ∧ Q (.ref p) (upd H2 p (tdO X.prog X.w p [(n, b)] [y]))) := by
  refine ⟨fun pins s σ H Q I q => ?_⟩
  have hn := I.hok.fresh (Nat.le_refl s.heap.objs.size)
  have I1 := I.laid (a := s.heap.objs.size) (o := tdO X.prog X.w s.heap.objs.size [] []) (h' := s.heap.push { cls := .type "dict", data := .dict #[] }) (t' := s.toks) (fun _ _ q => Heap.get?_push_of_some _ q) (Nat.le_refl _) (td_empty s.heap I.big)
  have hpl := pairTrees_length [some k] [v] X.env pos rfl rfl
  have h0 : pairTrees [some k] [v] X.env pos ≠ [] := fun z => by rw [z] at hpl; cases hpl
  have h15 : (pairTrees [some k] [v] X.env pos).length ≤ 15 := by rw [hpl]; exact (by decide : 1 ≤ 15)
  rw [arm_eval_Dict, zip_pairTrees [some k] [v] X.env pos rfl rfl, dictDisplay_pairs _ h0 (by omega)]
  refine wpAny_bind (wpAny_standAt (wpAny_bind (wpAny_subDictH (knd := nestedKind X.prog X.w) (Q := fun d s' => wpAny (model X.prog X.w) X.A (pure (Value.ref d)) (EP X pins σ Q) X.xe s') (by show X.A.units + 8 < cLine; omega) h15 ?_)))
  have P1 : PPs X pos [some k] [v] [(tk, tv)] := pps_cons hk hv pps_nil
  refine thn (P1.run pins _ σ _ (fun ps H2 => match ps with
    | [(x, y)] => ∃ b n, x = .ref b ∧ NkV X.K H2 n (.ref b) ∧ n.depth ≤ 8 ∧ H2 s.heap.objs.size = some (tdO X.prog X.w s.heap.objs.size [] []) ∧ Q (.ref s.heap.objs.size) (upd H2 s.heap.objs.size (tdO X.prog X.w s.heap.objs.size [(n, b)] [y]))
    | _ => False) I1 (q _ hn)) fun ws s2 ⟨ps, H2, I2, rel, z⟩ => ?_
  split at z
  · rename_i x y
    obtain ⟨b, n, rfl, hk, hd, e, q2⟩ := z
    cases rel with
    | @cons p q _ qs r1 r2 =>
      cases r2
      obtain ⟨q0, u⟩ := q
      obtain ⟨r3, r4⟩ := r1
      cases (show q0 = Value.ref b from r3)
      obtain ⟨_, l2, _, xs, hm, e1, e2, _⟩ := TdK.at I2 (⟨.inl e, .nil⟩ : TdK X H2 s.heap.objs.size [] [])
      obtain rfl : xs = [] := by simpa using e1
      refine ⟨[(n, b, u)], ⟨rfl, rfl, nk_key I2 hk hd, trivial⟩, hm, fun h' tk' dd hs => wpAny_pure ⟨.ref s.heap.objs.size, _, ?_, rfl, q2⟩⟩
      have he : ∃ q, h'.get? s.heap.objs.size = some q := let ⟨q, _, _, hq, _⟩ := dd; ⟨q, hq⟩
      exact d_write (t' := tk') I2 (by rw [e]; exact True.intro) hs he (td_new (xs := [(n, b, u)]) (by show 1 ≤ sizeLine; rw [sizeLine_eq]; decide) l2 (fun x hx => by rw [List.mem_singleton] at hx; rw [hx]; exact hd) dd (.cons r4 .nil))
  · exact z.elim
/-! ### len -/
def rLenN (X : Cx) : List V → Hp → VK → Prop := fun xs H Q => ∃ a kas vs, xs = [.ref a] ∧ TdK X H a kas vs ∧ Q (.int kas.length) H
theorem call_lenN {X : Cx} : CallR X (.builtin "len") (rLenN X) := by
  intro pins s σ H xs us Q I r h
  obtain ⟨a, kas, vs, rfl, t, q⟩ := h
  obtain ⟨u, rfl, ru⟩ := vals1 r
  cases ru
  obtain ⟨l1, l2, l3, ys, hm, e1, e2, kv⟩ := t.at I
  have hl : kas.length = ys.length := by rw [← e1]; simp
  refine call_len_dictH (knd := nestedKind X.prog X.w) l2 hm (by rw [← hl]; rw [sizeLine_eq] at l1; omega) ?_
  rw [← hl]
  exact ⟨.int kas.length, H, I.tok _, ⟨_, rfl⟩, q⟩
/-! ### the keys, in a row -/
theorem td_raw {X : Cx} {pins : List (Addr × Obj)} {σ : L2.St} {H : Hp} {s : Shared} (I : L2.Inv X pins σ H s) {a : Addr} {kas : List (NestedKey × Addr)} {vs : List V} (t : Rd H a (tdO X.prog X.w a kas vs)) : kas.length ≤ sizeLine ∧ (a == sysModules) = false ∧ ∃ (o : Obj) (es : Array DictEntry) (ep : Nat), s.heap.get? a = some o ∧ o.ExactDict ∧ o.data = .dict es ep ∧ es.size = kas.length ∧
    ∀ (i : Nat) (k : NestedKey) (b : Addr), kas[i]? = some (k, b) → ∃ en : DictEntry, es[i]? = some en ∧ en.key = .ref b := by
  obtain ⟨⟨h1, h2, h3, xs, ⟨o, es, ep, e1, e2, e3, e4, e5⟩, e6, e7⟩, _⟩ := rd_of I.hok t
  subst e6
  refine ⟨h1, h2, o, es, ep, e1, e2, e3, ?_, fun i k b e => ?_⟩
  · have := congrArg List.length e4
    simpa using this
  · rw [List.getElem?_map] at e
    cases hx : xs[i]? with
    | none => rw [hx] at e; cases e
    | some x =>
      rw [hx] at e
      cases e
      refine ⟨⟨x.1.hash X.w, .ref x.2.1, x.2.2⟩, ?_, rfl⟩
      rw [← Array.getElem?_toList, e4, List.getElem?_map, hx]
      rfl
theorem refs_of {kas : List (NestedKey × Addr)} {es : Array DictEntry} {acc : Array Value} (hs : es.size = kas.length) (ent : ∀ (i : Nat) (k : NestedKey) (b : Addr), kas[i]? = some (k, b) → ∃ en : DictEntry, es[i]? = some en ∧ en.key = .ref b) (it : ItemsOf (fun i v => ∃ en : DictEntry, es[i]? = some en ∧ v = en.key) acc es.size) : Vals (kas.map fun p => V.ref p.2) acc.toList := by
  have e : acc.toList = kas.map fun p => Value.ref p.2 := by
    apply List.ext_getElem?
    intro i
    rw [List.getElem?_map]
    cases hk : kas[i]? with
    | none =>
      have := List.getElem?_eq_none_iff.mp hk
      rw [List.getElem?_eq_none_iff.mpr (by rw [Array.length_toList, it.1]; omega)]
      rfl
    | some p =>
      have hi := (List.getElem?_eq_some_iff.mp hk).1
      have ha : i < acc.size := by rw [it.1]; omega
      obtain ⟨en, h1, h2⟩ := it.2 i acc[i] (Array.getElem?_eq_getElem ha)
      obtain ⟨en', h3, h4⟩ := ent i p.1 p.2 hk
      rw [h1] at h3
      cases h3
      rw [Array.getElem?_toList, Array.getElem?_eq_getElem ha, h2, h4]
      rfl
  rw [e]
  have := vals_refs (kas.map (·.2))
  rwa [List.map_map, List.map_map] at this
end
mutual
theorem reads_lt {h : Heap} : ∀ {d : PyData} {v : Value} {as : List Addr}, Reads h v d as → ∀ b ∈ as, b < h.objs.size
  | _, _, _, .none, b, hb => nomatch hb
  | _, _, _, .bool _, b, hb => nomatch hb
  | _, _, _, .int _ _, b, hb => nomatch hb
  | _, _, _, .str _ _, b, hb => nomatch hb
  | _, _, _, .list h1 _ _ r, b, hb => by
    rcases List.mem_cons.mp hb with rfl | hb
    · exact Heap.lt_size h1
    · exact readsAll_lt r b hb
  | _, _, _, .tuple _ _ _ r, b, hb => readsAll_lt r b hb
  | _, _, _, .dict h1 _ _ r r2, b, hb => by
    rcases List.mem_append.mp hb with hb | hb
    · rcases List.mem_cons.mp hb with rfl | hb
      · exact Heap.lt_size h1
      · exact readsAll_lt r b hb
    · exact readsAll_lt r2 b hb
theorem readsAll_lt {h : Heap} : ∀ {ds : List PyData} {vs : List Value} {as : List Addr}, ReadsAll h vs ds as → ∀ b ∈ as, b < h.objs.size
  | _, _, _, .nil, b, hb => nomatch hb
  | _, _, _, .cons r1 r2, b, hb => by
    rcases List.mem_append.mp hb with hb | hb
    · exact reads_lt r1 b hb
    · exact readsAll_lt r2 b hb
end
section
def rSortN (X : Cx) : List V → Hp → VK → Prop := fun vs H Q => ∃ (a : Addr) (kas : List (NestedKey × Addr)) (ws : List V) (ds : List PyData), vs = [.ref a] ∧ Rd H a (tdO X.prog X.w a kas ws) ∧ DpAll X.K H (kas.map fun p => V.ref p.2) ds ∧ sortOk 60 ds = true ∧ ∀ p, H p = none → Q (.ref p) (upd H p (.lst (sortedV (kas.map fun p => V.ref p.2) ds)))
theorem cr_sortedN {X : Cx} (hcalm : X.calm = true) (room : X.A.units + 66 < cLine) : CallR X (.builtin "sorted") (rSortN X) := by
  rintro pins s σ H vs us Q I rel ⟨a, kas, ws, ds, rfl, t, hd, hk, q⟩
  obtain ⟨u, rfl, ru⟩ := vals1 rel
  cases ru
  obtain ⟨l1, l2, o, es, ep, e1, e2, e3, e4, ent⟩ := td_raw I t
  refine Calls.call_function_entry PyProof.Rows.kind_sorted PyProof.Rows.plain_sorted PyProof.Rows.entry_sorted (PyProof.Rows.args_sorted1 _) ?_
  unfold Builtin.«sorted»
  refine wpAny_bind (m := checkCount "sorted" 1 1 _) (wpAny_pure ?_)
  refine wpAny_bind (PySem.W.kdu_collect (A := X.A.in1) (L2.kdl_raw l2 e2 e3) (I.ok.hd hcalm) e1 (by omega) fun h' tk acc hkeep hacc => ?_)
  have rv := refs_of e4 ent hacc
  have len := dpAll_len hd
  have I1 : L2.Inv X pins σ H { s with heap := h', toks := tk } := I.kept hkeep
  have hal : acc.toList.length = kas.length := by rw [Array.length_toList, hacc.1, e4]
  refine wpAny_bind (wpAny_newList ?_ (by rw [hal]; exact l1))
  have hoL : (h'.push (seqObj "list" acc.toList.toArray 0)).get? h'.objs.size = some (seqObj "list" acc.toList.toArray 0) := Heap.get?_push_size _ rfl
  show wpAny _ _ _ _ _ { s with heap := h'.push (seqObj "list" acc.toList.toArray 0), toks := tk }
  have z2 : ((kas.map fun p => V.ref p.2).zip ds).map (fun b : V × PyData => b.2) = ds := zip_map2 len
  have lz : ((kas.map fun p => V.ref p.2).zip ds).length = kas.length := by rw [List.length_zip, ← len, List.length_map]; omega
  refine wpAny_bind (wpAny_holding (PySem.W.list_sort_data (s := { s with heap := h'.push (seqObj "list" acc.toList.toArray 0), toks := tk }) (bs := (kas.map fun p => V.ref p.2).zip ds) (enc := fun b : V × PyData => b.2) (R := fun u b => RelV b.1 u) hoL (each_rel hd rv) ?_ ?_ ?_ ?_ ?_ ?_))
  · exact (each_reads I1 hd rv).mono fun v b ⟨as, r⟩ => ⟨as, PyProof.Rows.Reads.keeps (fun _ _ e => Heap.get?_push_of_some _ e) r, fun z => absurd (reads_lt r _ z) (Nat.lt_irrefl _)⟩
  · rw [z2]; exact sortOk_alike hk
  · rw [z2]; exact sortOk_able hk
  · rw [lz]; exact l1
  · intro b hb
    have hb2 : b.2 ∈ ds := by rw [← z2]; exact List.mem_map_of_mem hb
    have := sortOk_deep hk _ hb2
    simp only [Around.in1_units]
    omega
  · intro out ol er
    have rv2 := each_vals er
    obtain ⟨e', he'⟩ := PyProof.Rows.sortedHeap_at (vs := acc.toList) (out := out.toArray) hoL
    have hlen : (sortedV (kas.map fun p => V.ref p.2) ds).length ≤ sizeLine := by
      unfold sortedV
      rw [List.length_map, List.length_mergeSort, lz]
      exact l1
    refine wpAny_pure ⟨_, rfl, .ref h'.objs.size, upd H h'.objs.size (.lst (sortedV (kas.map fun p => V.ref p.2) ds)), I1.laid (t' := tk) (fun b u e => ?_) (Nat.le_refl _)
      (show ObjOk X.prog X.w _ _ _ (.lst (sortedV (kas.map fun p => V.ref p.2) ds)) from ⟨hlen, out, e', rv2, he'⟩), rfl, q _ (I1.hok.fresh (Nat.le_refl _))⟩
    have hb : b < h'.objs.size := Heap.lt_size e
    rw [PyProof.Rows.sortedHeap_old (Nat.ne_of_lt hb) (by rw [size_push']; exact Nat.lt_succ_of_lt hb)]
    exact Heap.get?_push_of_some _ e
def rListN (X : Cx) : List V → Hp → VK → Prop := fun vs H Q => ∃ (a : Addr) (kas : List (NestedKey × Addr)) (ws : List V), vs = [.ref a] ∧ Rd H a (tdO X.prog X.w a kas ws) ∧ ∀ p, H p = none → Q (.ref p) (upd H p (.lst (kas.map fun p => V.ref p.2)))
theorem call_listN {X : Cx} (hcalm : X.calm = true) : CallR X (.type "list") (rListN X) := by
  rintro pins s σ H vs us Q I rel ⟨a, kas, ws, rfl, t, q⟩
  obtain ⟨u, rfl, ru⟩ := vals1 rel
  cases ru
  obtain ⟨l1, l2, o, es, ep, e1, e2, e3, e4, ent⟩ := td_raw I t
  refine PySem.W.kdl_call (L2.kdl_raw l2 e2 e3) (I.ok.hd hcalm) e1 (by omega) fun h' tk acc c' hk hD hacc => ?_
  have rv := refs_of e4 ent hacc
  exact ⟨.ref s.heap.objs.size, upd H s.heap.objs.size (.lst (kas.map fun p => V.ref p.2)), I.laid (t' := tk) hk (Nat.le_refl _)
    (show ObjOk X.prog X.w _ _ _ (.lst (kas.map fun p => V.ref p.2)) from ⟨by rw [List.length_map]; exact l1, acc.toList, c', rv, by rw [Array.toArray_toList]; exact hD⟩), rfl, q _ (I.hok.fresh (Nat.le_refl _))⟩

/-! ### for x in d -/
/-- the keys of the locked dict at d -/
def Itn (P : Program) (w : World) (d : Addr) (o : Obj) (kas : List (NestedKey × Addr)) (vs : List V) : It :=
  ⟨fun i H => H d = some (.frz o (tdO P w d kas vs)) ∧ i < kas.length, fun i H x H' => H' = H ∧ ∃ k b, kas[i]? = some (k, b) ∧ x = .ref b, fun i H => H d = some (.frz o (tdO P w d kas vs)) ∧ kas.length ≤ i⟩
theorem frz_td {X : Cx} {pins : List (Addr × Obj)} {σ : L2.St} {H : Hp} {s : Shared} (I : L2.Inv X pins σ H s) {a : Addr} {kas : List (NestedKey × Addr)} {vs : List V} {o : Obj} (t : H a = some (.frz o (tdO X.prog X.w a kas vs))) : (a == sysModules) = false ∧ s.heap.get? a = some o ∧ o.ExactDict ∧ ∃ (es : Array DictEntry) (ep : Nat), o.data = .dict es ep ∧ es.size = kas.length ∧
    ∀ (i : Nat) (k : NestedKey) (b : Addr), kas[i]? = some (k, b) → ∃ en : DictEntry, es[i]? = some en ∧ en.key = .ref b := by
  obtain ⟨l1, l2, o', es, ep, e1, e2, e3, e4, ent⟩ := td_raw I (.inr ⟨o, t⟩)
  obtain ⟨h1, _⟩ := I.hok a _ t
  rw [h1] at e1
  cases e1
  exact ⟨l2, h1, e2, es, ep, e3, e4, ent⟩
theorem turn_keysN {P : Program} {w : World} {K : PySem.W.Frag} {tg : Expr} {d : Addr} {o : Obj} {es : Array DictEntry} {ep : Nat} {kas : List (NestedKey × Addr)} {vs : List V} (it : Addr) (hod : o.data = .dict es ep) : Turn P w K tg (Itn P w d o kas vs) [it] it (fun i h => h.IsKeyIter it d i kas.length ep) where
  mem := by simp
  obj := fun i h st b hb => by
    have e : b = it := by simpa using hb
    subst e
    obtain ⟨oi, e, c, dd⟩ := st
    exact ⟨oi, e, fun v z => by rw [dd] at z; cases z⟩
  keep := fun i h h' st k => st.at fun oi e => k it (by simp) oi e
  item := by
    intro X hP hw hK hc i pins s σ H E I hf st hg
    subst hP hw hK
    obtain ⟨hd, hi⟩ := hg
    obtain ⟨f0, f1, f2, f3, f4, f5⟩ := hf it (by simp)
    obtain ⟨hs, hgd, hx, es', ep', hdt, hsz, ent⟩ := frz_td I hd
    obtain ⟨rfl, rfl⟩ := dict_ep hod hdt
    obtain ⟨⟨k, v⟩, hkv⟩ : ∃ p, kas[i]? = some p := ⟨kas[i], List.getElem?_eq_getElem hi⟩
    obtain ⟨en, hen, hkey⟩ := ent i k v hkv
    refine next_key_item st hgd hdt hsz hen fun h' st' sb => ?_
    have I1 : L2.Inv X pins σ H { s with heap := h' } := I.turned (t' := s.toks) (fun b ob hb e => (sb.2 b hb).trans e) f0 f1 f3 f4 f5
    obtain ⟨oi, e, c, dd⟩ := id st'
    exact ⟨en.key, rfl, go_of (s := { s with heap := h' }) e c dd (by decide) ⟨.ref v, H, I1, hkey, ⟨rfl, k, v, hkv, rfl⟩, st', fun b hb => (hf b hb).1⟩⟩
  done := by
    intro X hP hw hK hc i pins s σ H E I hf st hg
    subst hP hw hK
    obtain ⟨hd, hi⟩ := hg
    obtain ⟨f0, f1, f2, f3, f4, f5⟩ := hf it (by simp)
    obtain ⟨hs, hgd, hx, es', ep', hdt, hsz, ent⟩ := frz_td I hd
    obtain ⟨rfl, rfl⟩ := dict_ep hod hdt
    exact next_key_end (I.ok.hd hc) st hgd hdt hsz hi fun h' eb => ⟨rfl, I.turned (t' := s.toks) (fun b ob hb e => eb b ob hb e) f0 f1 f3 f4 f5⟩
  self := fun A i s Q E st h => by
    refine wpAny_pyIter_slot st.typeIs F.slot_dict_keyiterator_iter (wpAny_call_entry F.slot_dict_keyiterator_iter st.typeIs F.entry_dict_keyiterator_iter ?_ (F.args_dict_keyiterator_iter_1 _))
    show wpAny _ _ (ret (.ref it)) _ _ s
    exact wpAny_pure ⟨_, rfl, "dict_keyiterator", _, st.typeIs, F.slot_dict_keyiterator_next.lookup, h⟩
def iKeysN (X : Cx) (td : TE) : TI := fun σ H R => td σ H fun x H1 => ∃ d o kas vs, x = .ref d ∧ H1 d = some (.frz o (tdO X.prog X.w d kas vs)) ∧ R (Itn X.prog X.w d o kas vs) H1
theorem pi_keysN {X : Cx} {tg e : Expr} {td : TE} (he : PE X e td) : PI X tg e (iKeysN X td) := by
  refine ⟨fun pins s σ H R I h => ?_⟩
  refine thn (he.run pins s σ H _ I h) fun u s1 ⟨x, H1, I1, rx, d, o, kas, vs, ex, hd, q⟩ => ?_
  subst ex
  obtain rfl : u = Value.ref d := rx
  obtain ⟨hs, hgd, hx, es, ep, hdt, hsz, ent⟩ := frz_td I1 hd
  refine iter_keys hs hgd hx hdt (pi_one (tk := s1.toks) I1 _ (turn_keysN _ hdt) ⟨_, Heap.get?_push_size _ rfl, rfl, ?_⟩ q)
  rw [hsz] <;> rfl
end
/-! ### by values -/
def nkT : D → Option NestedKey
  | .tup xs => match nkD (.tup xs) with
    | some k => if k.depth ≤ 8 then some k else none
    | none => none
  | _ => none
theorem nkT_ok {K : PySem.W.Frag} {ρ : Sto} {H : Hp} {x : D} {k : NestedKey} {v : V} (e : nkT x = some k) (r : RV K c H ρ x v) : nkD x = some k ∧ k.depth ≤ 8 ∧ ∃ b, v = .ref b ∧ NkV K H k (.ref b) := by
  unfold nkT at e
  split at e
  · split at e
    · rename_i xs _ k' hk
      split at e
      · rename_i h8
        cases e
        cases r with
        | @tup a vs _ h1 h2 => exact ⟨hk, h8, a, rfl, nk_of hk (.tup h1 h2)⟩
      · cases e
    · cases e
  · cases e
def valN {α : Type} (nks : List NestedKey) (xs : List α) (k : NestedKey) : Option α := ((nks.zip xs).find? fun p => decide (p.1 = k)).map (·.2)
theorem valN_rel {K : PySem.W.Frag} {ρ : Sto} {H : Hp} (k : NestedKey) : ∀ {nks : List NestedKey} {xs : List D} {vs : List V}, RVs K c H ρ xs vs → (valN nks xs k = none ∧ valN nks vs k = none) ∨ ∃ x v, valN nks xs k = some x ∧ valN nks vs k = some v ∧ RV K c H ρ x v
  | [], xs, vs, _ => .inl ⟨rfl, rfl⟩
  | n :: nks, _, _, .nil => .inl ⟨rfl, rfl⟩
  | n :: nks, x :: xs, v :: vs, .cons r rs => by
    by_cases h : n = k
    · exact .inr ⟨x, v, by simp [valN, h], by simp [valN, h], r⟩
    · have e1 : valN (n :: nks) (x :: xs) k = valN nks xs k := by simp [valN, h]
      have e2 : valN (n :: nks) (v :: vs) k = valN nks vs k := by simp [valN, h]
      rw [e1, e2]
      exact valN_rel k rs
/-- a dict with such keys: its keys, its values -/
def tdD (h : List O) : D → Option (List D × List D)
  | .tct ks xs => some (ks, xs)
  | .loc n => match h[n]? with
    | some (.tD ks xs) => some (ks, xs)
    | _ => none
  | _ => none
section
variable {X : Cx}
def Pw (X : Cx) (c : Ct) : Prop := c.P = X.prog ∧ c.w = X.w
theorem tdD_ok {ρ : Sto} {h : List O} {H : Hp} {x : D} {v : V} {ks xs : List D} (pw : Pw X c) (ok : Ok X.K c ρ h H) (r : RV X.K c H ρ x v) (e : tdD h x = some (ks, xs)) : ∃ a kas vs, v = .ref a ∧ Rd H a (tdO X.prog X.w a kas vs) ∧ nkDs ks = some (kas.map (·.1)) ∧ RVs X.K c H ρ ks (kas.map fun p => V.ref p.2) ∧ RVs X.K c H ρ xs vs := by
  obtain ⟨p1, p2⟩ := pw
  unfold tdD at e
  split at e
  · cases e
    cases r with
    | tct h1 _ h2 h3 h4 => rw [p1, p2] at h1; exact ⟨_, _, _, rfl, h1, h2, h3, h4⟩
  · split at e
    · rename_i hx
      cases e
      cases r with
      | loc g1 =>
        obtain ⟨kas, vs, e1, e2, e3, e4⟩ := ok.objs _ _ _ hx g1
        rw [p1, p2] at e1
        exact ⟨_, _, _, rfl, .inl e1, e2, e3, e4⟩
    · cases e
  · cases e
theorem tdK_of {ρ : Sto} {H : Hp} {a : Addr} {kas : List (NestedKey × Addr)} {vs : List V} {ks : List D} (t : Rd H a (tdO X.prog X.w a kas vs)) (e : nkDs ks = some (kas.map (·.1))) (r : RVs X.K c H ρ ks (kas.map fun p => V.ref p.2)) : TdK X H a kas vs := ⟨t, nks_of e r⟩
def oGetN : D → D → M D := fun x y h => match tdD h x with
  | some (ks, xs) => match nkDs ks, nkT y with
    | some nks, some k => match valN nks xs k with
      | some z => .ret (z, h)
      | none => .bad
    | _, _ => .bad
  | none => oGet x y h
theorem op_getN (pw : Pw X c) : Op2 X.K c (fun x y H Q => ((rIxL X.K x y H Q ∨ rIxT X.K x y H Q) ∨ rIxD x y H Q) ∨ rIxN X x y H Q) oGetN := fun {ρ h H x y v w Q} ok r1 r2 q => by
  unfold oGetN at q
  split at q
  · rename_i ks xs hx
    split at q
    · rename_i nks k hn hk
      split at q
      · rename_i z hz
        obtain ⟨a, kas, vs, rfl, e1, e2, e3, e4⟩ := tdD_ok pw ok r1 hx
        obtain ⟨_, k2, b, rfl, k3⟩ := nkT_ok hk r2
        rw [hn] at e2
        cases e2
        rcases valN_rel k (nks := kas.map (·.1)) e4 with ⟨z1, _⟩ | ⟨x, v, z1, z2, z3⟩
        · rw [hz] at z1; cases z1
        · rw [hz] at z1; cases z1
          exact .inr ⟨a, b, kas, vs, k, v, rfl, rfl, tdK_of e1 hn e3, k3, k2, z2, q ρ H _ .refl ok z3⟩
      · exact q.elim
    · exact q.elim
  · exact .inl (op_get ok r1 r2 q)
variable {e a b d o i : Expr} {es : List Expr} {fa fb fo fi : Sg → M D} {fr : Sg → M (List D)} {pos p : Pos}
theorem ev_getN (pw : Pw X c) (hu : X.A.units + 10 < cLine) (ha : EE c X a fa) (hb : EE c X b fb) (hs : PlainIx b := by exact fun _ _ => rfl) : EE c X (.Subscript a b pos) (f2 oGetN fa fb) :=
  PE.imp (pe_ix (IxR.or (IxR.or (IxR.or ix_list ix_tup) (ix_dict (by omega))) (ix_td hu)) ha hb hs) fun σ H Q q => tE_2 (op_getN pw) q
def pInN (neg : Bool) : Cmp := fun h x y => match tdD h y with
  | some (ks, xs) => match nkDs ks, nkT x with
    | some nks, some k => some (neg != (valN nks xs k).isSome)
    | _, _ => none
  | none => pInA neg h x y
theorem cmp_inN0 (neg : Bool) (pw : Pw X c) {ρ : Sto} {h : List O} {H : Hp} {x y : D} {v w : V} {Q : VK} {b : Bool} {ks xs : List D} {nks : List NestedKey} {k : NestedKey} (ok : Ok X.K c ρ h H) (r1 : RV X.K c H ρ x v) (r2 : RV X.K c H ρ y w) (hx : tdD h y = some (ks, xs)) (hn : nkDs ks = some nks) (hk : nkT x = some k) (q : Q (.bl (neg != (valN nks xs k).isSome)) H) : rInN neg X v w H Q := by
  obtain ⟨a, kas, vs, rfl, e1, e2, e3, e4⟩ := tdD_ok pw ok r2 hx
  obtain ⟨_, k2, b, rfl, k3⟩ := nkT_ok hk r1
  rw [hn] at e2
  cases e2
  refine ⟨a, b, kas, vs, k, rfl, rfl, tdK_of e1 hn e3, k3, k2, ?_⟩
  rcases valN_rel k (nks := kas.map (·.1)) e4 with ⟨z1, z2⟩ | ⟨x, v, z1, z2, z3⟩
  · rw [z1] at q; rw [show L2.valV (kvN kas vs) k = none from z2]; exact q
  · rw [z1] at q; rw [show L2.valV (kvN kas vs) k = some v from z2]; exact q
theorem cmp_inN (pw : Pw X c) : CmpS X.K c (fun x y H Q => ((rIn X.K false x y H Q ∨ rInD X.K x y H Q) ∨ rInDk false x y H Q) ∨ rInN false X x y H Q) (pInN false) := fun {ρ h H x y v w Q b} ok r1 r2 e q => by
  unfold pInN at e
  split at e
  · rename_i ks xs hx
    split at e
    · rename_i nks k hn hk
      cases e
      exact .inr (cmp_inN0 (b := true) false pw ok r1 r2 hx hn hk q)
    · cases e
  · exact .inl (cmp_inA ok r1 r2 e q)
theorem cmp_notInN (pw : Pw X c) : CmpS X.K c (fun x y H Q => ((rIn X.K true x y H Q ∨ rNotInD X.K x y H Q) ∨ rInDk true x y H Q) ∨ rInN true X x y H Q) (pInN true) := fun {ρ h H x y v w Q b} ok r1 r2 e q => by
  unfold pInN at e
  split at e
  · rename_i ks xs hx
    split at e
    · rename_i nks k hn hk
      cases e
      exact .inr (cmp_inN0 (b := true) true pw ok r1 r2 hx hn hk q)
    · cases e
  · exact .inl (cmp_notInA ok r1 r2 e q)
theorem opr_inN (hu : X.A.units + 65 < cLine) : OpR X (compareOp .In) (fun x y H Q => ((rIn X.K false x y H Q ∨ rInD X.K x y H Q) ∨ rInDk false x y H Q) ∨ rInN false X x y H Q) := OpR.or (opr_in hu) (op_in_td (by omega))
theorem opr_notInN (hu : X.A.units + 65 < cLine) : OpR X (compareOp .NotIn) (fun x y H Q => ((rIn X.K true x y H Q ∨ rNotInD X.K x y H Q) ∨ rInDk true x y H Q) ∨ rInN true X x y H Q) := OpR.or (opr_notIn hu) (op_notIn_td (by omega))
end
end Ev

/-! Dicts whose keys are nested tuples: put, display, len, sorted, list, walk, by values. -/
namespace Ev
open PySem PySem.Spec PyProof.Rows L2 Dr
variable {c : Ct}
theorem nkDs_snoc : ∀ {ks : List D} {nks : List NestedKey} {x : D} {k : NestedKey}, nkDs ks = some nks → nkD x = some k → nkDs (ks ++ [x]) = some (nks ++ [k])
  | [], _, x, k, e, h => by simp only [nkDs] at e; cases e; simp [nkDs, h]
  | y :: ks, _, x, k, e, h => by
    simp only [nkDs] at e
    split at e
    · rename_i k1 ks1 h1 h2
      cases e
      have := nkDs_snoc h2 h
      simp [nkDs, h1, this]
    · cases e
theorem RVs.snoc {K : PySem.W.Frag} {ρ : Sto} {H : Hp} : ∀ {xs : List D} {vs : List V} {x : D} {v : V}, RVs K c H ρ xs vs → RV K c H ρ x v → RVs K c H ρ (xs ++ [x]) (vs ++ [v])
  | _, _, _, _, .nil, r => .cons r .nil
  | _, _, _, _, .cons a b, r => .cons a (RVs.snoc b r)
theorem RVs.putN {K : PySem.W.Frag} {ρ : Sto} {H : Hp} {k : NestedKey} {y : D} {w : V} (r : RV K c H ρ y w) : ∀ {nks : List NestedKey} {xs : List D} {vs : List V}, RVs K c H ρ xs vs → RVs K c H ρ ((nks.zip xs).map fun p => if p.1 = k then y else p.2) ((nks.zip vs).map fun p => if p.1 = k then w else p.2)
  | [], _, _, _ => .nil
  | _ :: _, _, _, .nil => .nil
  | n :: nks, _, _, .cons a b => by
    rw [List.zip_cons_cons, List.zip_cons_cons, List.map_cons, List.map_cons]
    refine .cons ?_ (RVs.putN r b)
    by_cases h : n = k
    · simp only [h, if_pos]; exact r
    · simp only [if_neg h]; exact a
def oPutN (o i v : D) : M Unit := fun h => match tdD h o with
  | some (ks, xs) => match o with
    | .loc n => match nkDs ks, nkT i with
      | some nks, some k => if ks.length < lim then .ret ((), h.set n (.tD (putKs nks ks k i) (putVs nks xs k v))) else .bad
      | _, _ => .bad
    | _ => .bad
  | none => oPut o i v h
section
variable {X : Cx}
theorem op_putN (pw : Pw X c) {ρ h H} {x i y : D} {v j w : V} {Q : Hp → Prop} {Y : XP} (ok : Ok X.K c ρ h H) (r1 : RV X.K c H ρ x v) (r2 : RV X.K c H ρ i j) (r3 : RV X.K c H ρ y w)
    (q : (oPutN x i y h).All (fun r => ∀ ρ' H', Le c ρ H ρ' H' → Ok X.K c ρ' r.2 H' → Q H') Y) : (rSetL v j w H Q ∨ rSetD v j w H Q) ∨ rSetN X v j w H Q := by
  unfold oPutN at q
  split at q
  · rename_i ks xs hx
    split at q
    · rename_i n
      split at q
      · rename_i nks k hn hk
        split at q
        · rename_i hl
          cases r1 with
          | loc g1 =>
            simp only [tdD] at hx
            split at hx
            · rename_i hx'
              cases hx
              obtain ⟨k1, k2, b, rfl, k3⟩ := nkT_ok hk r2
              obtain ⟨kas, vs, e1, e2, e3, e4⟩ := ok.objs _ _ _ hx' g1
              rw [pw.1, pw.2] at e1
              rw [hn] at e2
              cases e2
              have hlk : kas.length = ks.length := by have := e3.len; simpa using this.symm
              obtain ⟨l, ok1⟩ := ok.put (u := tdO X.prog X.w _ (putKs (kas.map (·.1)) kas k (k, b)) (putVs (kas.map (·.1)) vs k w)) (o := .tD (putKs (kas.map (·.1)) ks k i) (putVs (kas.map (·.1)) xs k y)) hx' (by simp) g1 fun H1 l e => by
                refine ⟨_, _, by rw [pw.1, pw.2]; exact e, ?_, ?_, ?_⟩
                · unfold putKs
                  split
                  · exact hn
                  · rw [List.map_append]; exact nkDs_snoc hn k1
                · unfold putKs
                  split
                  · exact e3.le l
                  · rw [List.map_append]; exact (e3.le l).snoc (r2.le l)
                · unfold putVs
                  split
                  · exact RVs.putN (r3.le l) (e4.le l)
                  · exact (e4.le l).snoc (r3.le l)
              exact .inr ⟨_, b, kas, vs, k, rfl, rfl, e1, nks_of hn e3, k3, k2, by rw [hlk]; exact lim_line (Nat.le_of_lt hl), q _ _ l ok1⟩
            · cases hx
        · exact q.elim
      · exact q.elim
    · exact q.elim
  · exact .inl (op_put ok r1 r2 r3 q)
def gSubN (fo fi : Sg → M D) : D → Sg → M Sg := fun x s => M.bind (fo s) fun o => M.bind (fi s) fun i => M.bind (oPutN o i x) fun _ => M.ret s
theorem set_anyN (hu : X.A.units + 10 < cLine) : PSet X (fun o i v H Q => (rSetL o i v H Q ∨ rSetD o i v H Q) ∨ rSetN X o i v H Q) := by
  intro pins s σ H o i v ov iv u Q I ro ri rv h
  rcases h with h | h
  · exact set_any (by omega) pins s σ H o i v ov iv u Q I ro ri rv h
  · exact set_td hu pins s σ H o i v ov iv u Q I ro ri rv h
variable {e a b d o i k v : Expr} {es : List Expr} {fa fb fo fi fk fv : Sg → M D} {fr : Sg → M (List D)} {pos p : Pos} {vs : List Nat}
theorem eg_subN (pw : Pw X c) (hu : X.A.units + 10 < cLine) (ho : EE c X o fo) (hi : EE c X i fi) (ha : ∀ v, assign (.Subscript o i pos) X.env v = (do
      let ov ← holding [v] (eval o X.env)
      let iv ← holding [v, ov] (eval i X.env)
      standAt pos
      holding [v, ov, iv] (setItem ov iv v)
      release [v, ov, iv] []) := by intro _; rfl) : EG c X vs (.Subscript o i pos) (gSubN fo fi) :=
  PG.imp (pg_sub ho hi (set_anyN hu) ha) fun v σ H Q ⟨ρ, h, s, y, ok, env, r, q⟩ => by
    refine ⟨ρ, h, s, ok, env, (M.all_bind.mp q).mono fun ⟨x, h1⟩ q1 ρ1 H1 v1 l1 ok1 r1 => ?_⟩
    refine ⟨ρ1, h1, s, ok1, env.le l1, Tr.All.le l1 (M.all_bind.mp q1) fun ⟨z, h2⟩ q2 ρ2 H2 v2 l2 ok2 r2 => ?_⟩
    refine op_putN pw ok2 (r1.le l2) r2 (r.le (l1.trans l2)) ((M.all_bind.mp q2).mono fun ⟨_, h3⟩ q3 ρ3 H3 l3 ok3 => ?_)
    have l := l1.trans (l2.trans l3)
    exact q3 ρ3 H3 σ l ok3 (env.le l) rfl
def fDispN (fk fv : Sg → M D) : Sg → M D := fun s h => M.bind (fk s) (fun x => M.bind (fv s) fun y h2 => match nkT x, h2[h.length]? with
  | some _, some (.tD [] []) => .ret (.loc h.length, h2.set h.length (.tD [x] [y]))
  | _, _ => .bad) (h ++ [.tD [] []])
theorem ev_dispN (pw : Pw X c) (hu : X.A.units + 10 < cLine) (hk : EE c X k fk) (hv : EE c X v fv) : EE c X (.Dict [some k] [v] pos) (fDispN fk fv) := PE.imp (pe_dispN hu hk hv) fun σ H Q ⟨ρ, h, s, ok, env, q⟩ p np => by
  obtain ⟨l, ok1⟩ := ok.push (u := tdO X.prog X.w p [] []) (o := .tD [] []) np fun H1 l e => ⟨[], [], by rw [pw.1, pw.2]; exact e, rfl, .nil, .nil⟩
  have hp : (ρ.push p).a[h.length]? = some p := by rw [← ok.len]; simp [Sto.push]
  unfold fDispN at q
  refine ⟨_, _, s, ok1, env.le l, Tr.All.le l (M.all_bind.mp q) fun ⟨x, h1⟩ q1 ρ1 H1 v1 l1 ok2 r1 => ?_⟩
  refine ⟨ρ1, h1, s, ok2, env.le (l.trans l1), Tr.All.le (l.trans l1) (M.all_bind.mp q1) fun ⟨y, h2⟩ q2 ρ2 H2 v2 l2 ok3 r2 => ?_⟩
  dsimp only at q2
  split at q2
  · rename_i n hn hd
    obtain ⟨k1, k2, b, rfl, k3⟩ := nkT_ok hn (r1.le l2)
    have hp3 := pre_get (l1.trans l2).pre hp
    obtain ⟨kas, vs, e1, e2, e3, e4⟩ := ok3.objs _ _ _ hd hp3
    rw [pw.1, pw.2] at e1
    obtain rfl : kas = [] := by simp only [nkDs] at e2; have := (Option.some.inj e2).symm; simpa using this
    cases e4
    refine ⟨b, n, rfl, k3, k2, e1, ?_⟩
    obtain ⟨l4, ok4⟩ := ok3.put (u := tdO X.prog X.w p [(n, b)] [v2]) (o := .tD [x] [y]) hd (by simp) hp3 fun H1 l e => ⟨[(n, b)], [v2], by rw [pw.1, pw.2]; exact e, by simp [nkDs, k1], .cons ((r1.le l2).le l) .nil, .cons (r2.le l) .nil⟩
    exact q2 _ _ _ (l.trans (l1.trans (l2.trans l4))) ok4 (.loc (pre_get l4.pre hp3))
  · exact q2.elim
/-! ### len, sorted, list -/
def oLenN : List D → M D := fun xs h => match xs with
  | [x] => match tdD h x with
    | some (ks, _) => match nkDs ks with
      | some _ => .ret (.int ks.length, h)
      | none => .bad
    | none => oLenA xs h
  | _ => oLenA xs h
theorem op_lenN (pw : Pw X c) : OpN X.K c (fun xs H Q => ((∃ x n, xs = [x] ∧ LenV X.K x H n ∧ Q (.int n) H) ∨ ∃ a kvs, xs = [V.ref a] ∧ H a = some (.dK kvs) ∧ Q (.int kvs.length) H) ∨ rLenN X xs H Q) oLenN := fun {ρ h H xs vs Q} ok r q => by
  unfold oLenN at q
  split at q
  · split at q
    · rename_i ks xs hx
      split at q
      · rename_i nks hn
        obtain ⟨v, rfl, r1⟩ := vs1 r
        obtain ⟨a, kas, ws, rfl, e1, e2, e3, e4⟩ := tdD_ok pw ok r1 hx
        have hl : kas.length = ks.length := by have := e3.len; simpa using this.symm
        refine .inr ⟨a, kas, ws, rfl, tdK_of e1 e2 e3, ?_⟩
        rw [hl]
        exact q ρ H (.int _) .refl ok (.int _)
      · exact q.elim
    · exact .inl (op_lenA ok r q)
  · exact .inl (op_lenA ok r q)
theorem callr_lenN : CallR X (.builtin "len") (fun xs H Q => ((∃ x n, xs = [x] ∧ LenV X.K x H n ∧ Q (.int n) H) ∨ ∃ a kvs, xs = [V.ref a] ∧ H a = some (.dK kvs) ∧ Q (.int kvs.length) H) ∨ rLenN X xs H Q) := CallR.or callr_len call_lenN
def oSortN (mk : List D → M D) : List D → M D := fun xs h => match xs with
  | [x] => match tdD h x with
    | some (ks, _) => match mapO (toP h deep) ks with
      | some ds => if sortOk 60 ds = true then mk (sortedV ks ds) h else .bad
      | none => .bad
    | none => oSortD mk xs h
  | _ => oSortD mk xs h
theorem op_sortedN {mk : List D → M D} (m : MkOk X.K c mk) (pw : Pw X c) : OpN X.K c (fun xs H Q => rSortD X.K xs H Q ∨ rSortN X xs H Q) (oSortN mk) := fun {ρ h H xs vs Q} ok r q => by
  unfold oSortN at q
  split at q
  · split at q
    · rename_i ks xs hx
      split at q
      · rename_i ds hds
        split at q
        · rename_i hk
          obtain ⟨v, rfl, r1⟩ := vs1 r
          obtain ⟨a, kas, ws, rfl, e1, e2, e3, e4⟩ := tdD_ok pw ok r1 hx
          refine .inr ⟨a, kas, ws, ds, rfl, e1, toPs_ok (fun x d v e r => toP_ok ok _ x d v e r) hds e3, hk, fun p np => ?_⟩
          exact (m.go ok (rvs_sorted ds e3) q).2 p np
        · exact q.elim
      · exact q.elim
    · exact .inl (op_sortedD m ok r q)
  · exact .inl (op_sortedD m ok r q)
theorem cr_sortedDN (hcalm : X.calm = true) (room : X.A.units + 66 < cLine) : CallR X (.builtin "sorted") (fun xs H Q => rSortD X.K xs H Q ∨ rSortN X xs H Q) := CallR.or (cr_sortD room) (cr_sortedN hcalm room)
/-! ### for x in d, d a slot with such a dict by content -/
def getN (ks : List D) : Nat → List O → Option (Option D) := fun i _ => some ks[i]?
theorem feed_keysN {P : Program} {w : World} {K : PySem.W.Frag} {ρ : Sto} {H : Hp} {a : Addr} {od : Obj} {kas : List (NestedKey × Addr)} {ws : List V} {ks : List D} (e : H a = some (.frz od (tdO P w a kas ws))) (r : RVs K c H ρ ks (kas.map fun p => V.ref p.2)) : Feed K c (Itn P w a od kas ws) (getN ks) ρ H := fun hid E ρ1 h1 H1 i hh l ok => by
  have e1 := l.frzs _ _ _ e
  have hlen : ks.length = kas.length := by have := r.len; simpa using this
  refine ⟨fun z => ?_, fun x z => ?_⟩
  · unfold getN at z
    have := List.getElem?_eq_none_iff.mp (Option.some.inj z)
    exact ⟨e1, by omega⟩
  · unfold getN at z
    have z := Option.some.inj z
    have hi : i < ks.length := (List.getElem?_eq_some_iff.mp z).1
    refine ⟨⟨e1, by omega⟩, fun w H' yl => ?_⟩
    obtain ⟨rfl, k, b, e2, rfl⟩ := yl
    refine ⟨.refl, ok, ?_⟩
    obtain ⟨v, h3, h4⟩ := (r.hide (hid := hid) (E := E) l hh).get z
    rw [List.getElem?_map, e2] at h3
    cases h3
    exact h4
theorem tdO_exk {P : Program} {w : World} {a : Addr} {cls : Value} {od : Option Addr} {ks : List (NestedKey × Addr)} {vs : List V} : tdO P w a ks vs ≠ Ek.ExK cls od a := fun z => by
  unfold tdO Ek.ExK at z
  injection z with z
  have z1 := congrFun z { objs := Array.replicate (a + 1) { cls := cls, dict := od, data := .fields #[] } }
  have at_ : Heap.get? { objs := Array.replicate (a + 1) ({ cls := cls, dict := od, data := .fields #[] } : Obj) } a = some { cls := cls, dict := od, data := .fields #[] } := by
    unfold Heap.get?
    dsimp only
    rw [Array.getElem?_replicate, if_pos (Nat.lt_succ_self a)]
  have yes : ∃ oe vs, Heap.get? { objs := Array.replicate (a + 1) ({ cls := cls, dict := od, data := .fields #[] } : Obj) } a = some oe ∧ L2.Zc cls od oe ∧ oe.data = PySem.Data.fields vs := ⟨_, #[], at_, ⟨rfl, rfl⟩, rfl⟩
  rw [← z1] at yes
  obtain ⟨_, _, _, xs, ⟨o, es, ep, e1, _, e2, _⟩, _⟩ := yes
  rw [at_] at e1
  cases e1
  cases e2
def sForN (i : Nat) (g : D → Sg → M Sg) (fb : Sg → M Out) : Sg → M Out := fun s h => match s[i]? with
  | some (some (.tct ks _)) => (loop (getN ks) (fun x s => M.bind (g x s) fb) ks.length 0 s h).calm
  | _ => .bad
theorem es_forN [Plain c] {tg : Expr} {x : Str} {p1 : Pos} {body : List Stmt} {g : D → Sg → M Sg} {fb : Sg → M Out} (i : Nat) (vs : List Nat) (pw : Pw X c) (hg : EG c X vs tg g) (hb : ESs c X body fb) (hN : X.N[i]? = some x := by rfl) (hv : Vis X.env.scope x := by first | exact Or.inl rfl | exact Or.inr (Or.inl rfl) | exact Or.inr (Or.inr rfl))
    (hd : (x == ("__debug__" : Str)) = false := by decide) (hcd : (x == ("__classdict__" : Str)) = false := by decide) (hp : PassesOwn (model X.prog X.w) X.A X.env X.xe := by exact PassesOwn.never) (hc : X.calm = true := by rfl)
    (hs : ∀ y, foldedSetIterable (.Name x p1) X.env y = pure y := by intro _; rfl) : ES c X (.For tg (.Name x p1) body [] pos) (sForN i g fb) :=
  PS.imp (ps_or (ps_lock (ps_for hp hc (pi_keysN (pe_var hN hv hd hcd)) hg hb hs)) (ps_for hp hc (pi_keysN (pe_var hN hv hd hcd)) hg hb hs)) fun E σ H ⟨ρ, h, s, ok, env, q⟩ => by
    unfold sForN at q
    split at q
    · rename_i ks xs hx
      obtain ⟨v, g1, g2⟩ := env.2 i _ hx
      cases g2 with
      | @tct ad kas ws _ _ r0 off ek rk rv =>
        rw [pw.1, pw.2] at r0
        have q0 := q
        have q := Tr.all_calm (Y := PX X.K c ρ H) q
        rcases r0 with r0 | ⟨od, r0⟩
        · refine .inl ⟨ad, tdO X.prog X.w ad kas ws, r0, trivial, fun od => ?_⟩
          have nu : ∀ o' u', tdO X.prog X.w ad kas ws ≠ .frz o' u' := tdO_frz
          have nt : ∀ us, tdO X.prog X.w ad kas ws ≠ .tup us := fun _ z => by unfold tdO at z; cases z
          have sw := swp_lock (od := od) r0 nu ⟨(fun _ => by intro z; unfold tdO at z; cases z), (fun _ _ _ => by intro z; unfold tdO at z; cases z), (fun _ => by intro z; unfold tdO at z; cases z), (fun _ _ => tdO_exk), nt, (fun _ _ => tdO_ne)⟩
          have okL : Ok X.K c ρ h (upd H ad (.frz od (tdO X.prog X.w ad kas ws))) := ok.swp sw ⟨_, upd_same⟩ off.st off.dw
          have envL := env.swp sw
          have rkL : RVs X.K c (upd H ad (.frz od (tdO X.prog X.w ad kas ws))) ρ ks (kas.map fun p => V.ref p.2) := RVs.swp sw _ _ rk
          refine ⟨_, g1, ad, od, kas, ws, rfl, upd_same, ?_⟩
          refine for_loop (S := ⟨ks.length, getN ks⟩) okL envL (feed_keysN upd_same rkL) ?_
          · refine Tr.All.mono (Tr.all_calm q0) fun ⟨o, h2⟩ q2 => ?_
            have back : ∀ ρ' H', Le c ρ (upd H ad (.frz od (tdO X.prog X.w ad kas ws))) ρ' H' → Ok X.K c ρ' h2 H' → H' ad = some (.frz od (tdO X.prog X.w ad kas ws)) ∧ Le c ρ H ρ' (upd H' ad (tdO X.prog X.w ad kas ws)) ∧ Ok X.K c ρ' h2 (upd H' ad (tdO X.prog X.w ad kas ws)) ∧ Swp H' (upd H' ad (tdO X.prog X.w ad kas ws)) ad := fun ρ' H' l ok' => by
              have e' := l.frzs _ _ _ (upd_same (H := H) (a := ad) (o := .frz od (tdO X.prog X.w ad kas ws)))
              have s2 := swp_open e' nt (fun q => tdO_ne)
              have l2 := l.open r0 nu nt e'
              have o2 := l2.off r0 off
              exact ⟨e', l2, ok'.swp s2 ⟨_, upd_same⟩ o2.2.st off.dw, s2⟩
            cases o with
            | nx s2 => exact fun ρ' H' σ' l ok' env' => let ⟨e', l2, ok2, s2⟩ := back ρ' H' l ok'; ⟨e', q2 ρ' _ σ' l2 ok2 (env'.swp s2)⟩
            | rt y => exact fun ρ' H' w l ok' r' => let ⟨e', l2, ok2, s2⟩ := back ρ' H' l ok'; ⟨e', q2 ρ' _ w l2 ok2 (RV.swp s2 _ _ r')⟩
            | bk s2 => exact fun ρ' H' σ' l ok' env' => let ⟨e', l2, ok2, s2⟩ := back ρ' H' l ok'; ⟨e', q2 ρ' _ σ' l2 ok2 (env'.swp s2)⟩
            | ct s2 => exact fun ρ' H' σ' l ok' env' => let ⟨e', l2, ok2, s2⟩ := back ρ' H' l ok'; ⟨e', q2 ρ' _ σ' l2 ok2 (env'.swp s2)⟩
        · exact .inr ⟨_, g1, ad, od, kas, ws, rfl, r0, for_loop (S := ⟨ks.length, getN ks⟩) ok env (feed_keysN r0 rk) q⟩
    · exact q.elim
/-! ### list(d) -/
def oListN (mk : List D → M D) : List D → M D := fun xs h => match xs with
  | [x] => match tdD h x with
    | some (ks, _) => mk ks h
    | none => oList mk xs h
  | _ => oList mk xs h
theorem op_listN {mk : List D → M D} (m : MkOk X.K c mk) (pw : Pw X c) : OpN X.K c (fun xs H Q => (∃ p ys, xs = [L2.V.ref p] ∧ (L2.SqL X.K H p ys ∨ L2.SqT X.K H p ys) ∧ ∀ (l : PySem.Addr), H l = none → Q (L2.V.ref l) (L2.upd H l (L2.HO.lst ys))) ∨ rListN X xs H Q) (oListN mk) := fun {ρ h H xs vs Q} ok r q => by
  unfold oListN at q
  split at q
  · split at q
    · rename_i ks xs hx
      obtain ⟨v, rfl, r1⟩ := vs1 r
      obtain ⟨a, kas, ws, rfl, e1, e2, e3, e4⟩ := tdD_ok pw ok r1 hx
      exact .inr ⟨a, kas, ws, rfl, e1, fun p np => (m.go ok e3 q).2 p np⟩
    · exact .inl (op_list m ok r q)
  · exact .inl (op_list m ok r q)
theorem callr_listN (hcalm : X.calm = true) : CallR X (.type "list") (fun xs H Q => (∃ p ys, xs = [L2.V.ref p] ∧ (L2.SqL X.K H p ys ∨ L2.SqT X.K H p ys) ∧ ∀ (l : PySem.Addr), H l = none → Q (L2.V.ref l) (L2.upd H l (L2.HO.lst ys))) ∨ rListN X xs H Q) := CallR.or call_list_of (call_listN hcalm)
end
end Ev

/-! Lambdas with one parameter, handed to a def. -/
namespace Ev
open PySem PySem.Spec PyProof.Rows L2 Dr
/-- one parameter, no other name of its own -/
structure LamS1 (sc scope : Scope) (N : List Str) (p : Str) : Prop where
  kind : scope.kind = .function
  co : scope.isCoroutine = false
  gen : scope.isGenerator = false
  own : ∀ y ∈ scope.names, (y.2 = .local → y.1 = p) ∧ y.2 ≠ .cell
  free : ∀ y ∈ scope.names, y.2 = .free → sc.names.lookup y.1 = some .cell ∨ sc.names.lookup y.1 = some .free
  par : scope.names.lookup p = some .local
  new : p ∉ N
def lamS1B (sc scope : Scope) (N : List Str) (p : Str) : Bool :=
  decide (scope.kind = .function) && !scope.isCoroutine && !scope.isGenerator && (scope.names.all fun y => (!decide (y.2 = .local) || decide (y.1 = p)) && !decide (y.2 = .cell) && (!decide (y.2 = .free) || decide (sc.names.lookup y.1 = some .cell) || decide (sc.names.lookup y.1 = some .free))) && decide (scope.names.lookup p = some .local) && decide (p ∉ N)
theorem lamS1_by {sc scope : Scope} {N : List Str} {p : Str} (h : lamS1B sc scope N p = true) : LamS1 sc scope N p := by
  unfold lamS1B at h
  simp only [Bool.and_eq_true, Bool.or_eq_true, Bool.not_eq_true', decide_eq_true_eq, decide_eq_false_iff_not, List.all_eq_true] at h
  obtain ⟨⟨⟨⟨⟨h1, h2⟩, h3⟩, h4⟩, h5⟩, h6⟩ := h
  refine ⟨h1, h2, h3, fun y hy => ⟨fun e => ?_, (h4 y hy).1.2⟩, fun y hy e => ?_, h5, h6⟩
  · rcases (h4 y hy).1.1 with z | z
    · exact absurd e z
    · exact z
  · rcases (h4 y hy).2 with (z | z) | z
    · exact absurd e z
    · exact .inl z
    · exact .inr z
theorem LamS1.has {X : Cx} {scope : Scope} {N : List Str} {p : Str} (L : LamS1 X.env.scope scope N p) (ok : X.Ok) : ∀ y ∈ scope.names, y.2 = .free → ∃ c, X.env.cells.lookup y.1 = some c := fun y hy e => by
  rcases L.free y hy e with k | k
  · exact ok.has _ (.inl k)
  · exact ok.has _ (.inr k)
/-- the context of its body -/
def lamCx1 (X : Cx) (A : Around) (outer : List PySem.Env) (s : Shared) (H : Hp) (E : XK) (scope : Scope) (f c' : Addr) (p : Str) : Cx := { LamX.lamCx X A outer s H E scope f c' with N := X.N ++ [p] }
section
variable {X : Cx} {pins : List (Addr × Obj)} {σ : L2.St} {H HZ : Hp} {s s1 : Shared}
theorem lam_start1 {A : Around} {outer : List PySem.Env} {E : XK} {scope : Scope} {f c' : Addr} {h₁ : Heap} {tk : Nat} {p : Str} {v : V} {u : Value} (I : L2.Inv X pins σ H s) (L : LamS1 X.env.scope scope X.N p) (e0 : Env0 X.prog X.w X.K X.mg X.base A outer s1 HZ) (hd : A.handled = none)
    (un : Un (frs X.stack) [] H HZ s.heap s1.heap) (rv : RelV v u) (hns : h₁.Ns s1.heap.objs.size fun y => ([(p, u)] : List (Str × Value)).reverse.lookup y) (kp : ∀ b o, s1.heap.get? b = some o → h₁.get? b = some o) :
    L2.Inv (lamCx1 X A outer s1 HZ E scope f c' p) [] (σ ++ [some v]) HZ { s1 with heap := h₁, toks := tk } := by
  have hfree := L.has I.ok
  have cm : ∀ {y c}, (cloFrom X.env.cells scope.names []).lookup y = some c → X.env.cells.lookup y = some c := fun {y c} e => by
    rcases cloFrom_mem (PySem.mem_of_lookup e) with hm | ⟨h1, h2⟩
    · cases hm
    · obtain ⟨c1, hc⟩ := hfree _ h1 rfl
      have hc : X.env.cells.lookup y = some c1 := hc
      have e2 : c = c1 := by
        rw [h2, hc] <;> rfl
      rw [e2]
      exact hc
  have look : ∀ {y}, scope.names.lookup y = some .free → ∃ c, (cloFrom X.env.cells scope.names []).lookup y = some c := fun {y} hl => by
    have hy : (y, NameKind.free) ∈ scope.names := PySem.mem_of_lookup hl
    exact mem_lookup (cloFrom_has (cells := X.env.cells) (acc := []) hy)
  have cellK : ∀ {c : Addr} {v : Option Value}, H c = none → s.heap.IsCell c v → h₁.IsCell c v := fun {c v} n ⟨o, ho, hd⟩ => by
    obtain ⟨sl, q⟩ := un.any ho n (by simp)
    exact ⟨_, kp _ _ q, hd⟩
  have noA : ∀ b : Addr, b ∉ (lamCx1 X A outer s1 HZ E scope f c' p).ex := fun b z => absurd (show b ∈ ([] : List Addr) from z) (by simp)
  refine ⟨⟨e0.mod, L.kind, rfl, rfl, Nat.le_refl _, fun y z c e1 e2 => I.ok.inj y z c (cm e1) (cm e2), fun y hy => ?_, fun y c z _ => ?_, fun _ => hd, Around.frames_deeper e0.frames, .inr ⟨rfl, rfl⟩, fun b z => absurd z (noA b), e0.bs, e0.bsz, fun b _ _ => noA b,
      fun b z => absurd z (noA b), e0.funs, e0.frf⟩,
    rfl, e0.bare, Un.kept kp, ⟨_, hns, fun i y v' e1 e2 e3 => ?_⟩, fun y c e => ?_, e0.hok.fresh (Nat.le_refl _), fun y c e => ?_, fun q hq => absurd (show q ∈ ([] : List (Addr × Obj)) ++ [] from hq) (by simp), e0.hok.kept kp, ?_⟩
  · have hy : scope.names.lookup y = some .cell ∨ scope.names.lookup y = some .free := hy
    rcases hy with hy | hy
    · exact absurd rfl (L.own _ (PySem.mem_of_lookup hy)).2
    · exact look hy
  · have z : false = true := z
    cases z
  · have e3 : Vis scope y := e3
    have e1 : (X.N ++ [p])[i]? = some y := e1
    have hl := I.len
    by_cases hi : i < X.N.length
    · rw [List.getElem?_append_left hi] at e1
      rw [List.getElem?_append_left (by rw [hl]; exact hi)] at e2
      rcases e3 with k | k | k
      · have := (L.own _ (PySem.mem_of_lookup k)).1 rfl
        dsimp only at this
        rw [this] at e1
        exact absurd (List.mem_of_getElem? e1) L.new
      · exact absurd rfl (L.own _ (PySem.mem_of_lookup k)).2
      · obtain ⟨m, hn, hl⟩ := I.loc
        have hvis : Vis X.env.scope y := (L.free _ (PySem.mem_of_lookup k) rfl).elim (fun k => .inr (.inl k)) (fun k => .inr (.inr k))
        obtain ⟨w', r, q⟩ := hl i y v' e1 e2 hvis
        obtain ⟨c2, h2⟩ := look k
        refine ⟨w', r, .inr ⟨.inr k, c2, h2, ?_⟩⟩
        have c1 := cm h2
        rcases q with ⟨k', _⟩ | ⟨_, c3, e', z⟩
        · have k' : X.env.scope.names.lookup y = some .local := k'
          rcases L.free _ (PySem.mem_of_lookup k) rfl with k2 | k2 <;> rw [show X.env.scope.names.lookup y = _ from k2] at k' <;> cases k'
        · rw [c1] at e'
          cases e'
          exact cellK (I.freeC y _ c1) z
    · rw [List.getElem?_append_right (by omega)] at e1
      rw [List.getElem?_append_right (by omega)] at e2
      have hi0 : i - X.N.length = 0 := by
        have := (List.getElem?_eq_some_iff.mp e1).1
        simp at this
        omega
      rw [hi0] at e1
      rw [hl, hi0] at e2
      cases e1
      cases e2
      refine ⟨u, rv, .inl ⟨L.par, ?_⟩⟩
      simp
  · obtain ⟨w', z⟩ := I.cell y c (cm e)
    exact ⟨w', cellK (I.freeC y c (cm e)) z⟩
  · obtain ⟨v, o, ho, hd⟩ := I.cell y c (cm e)
    exact un.free c o ho (I.freeC y c (cm e)) (by simp)
  · show (σ ++ [some v]).length = (X.N ++ [p]).length
    simp [I.len]
end
/-- a function of one parameter at a -/
structure ActOk1 (P : Program) (w : World) (K : PySem.W.Frag) (mg : Str → Option Value) (base : Heap) (c : Ct) (k : Nat) (a : Addr) (act : D → M D) (fs : List Addr) (h0 : Heap) (H0 : Hp) : Prop where
  fn : ∀ (h : Heap) (H : Hp) (ρ : Sto), c.kp.p ρ H → HOk P w H h → PySem.W.FnAt a h
  run : ∀ (A : Around) (outer : List PySem.Env) (z : Shared) (H : Hp) (Q : VK) (E : XK) (ρ : Sto) (h : List O) (u : Value) (v : V) (x : D), Room k A → Env0 P w K mg base A outer z H → Un fs [] H0 H h0 z.heap → RelV v u → Ok K (c.bl c.hid E) ρ h H → RV K (c.bl c.hid E) H ρ x v →
    (act x h).All (PV K (c.bl c.hid E) ρ H Q) (PX K (c.bl c.hid E) ρ H) → codeAny (model P w) A (.call (.ref a) ⟨[u], []⟩) (CR (L2.CX P w) outer P w H z Q E) z
section
variable {P : Program} {w : World} {K : PySem.W.Frag} {mg : Str → Option Value} {base : Heap} {c : Ct} {k j : Nat} {a : Addr} {act : D → M D}
theorem ActOk1.mono {fs : List Addr} {h0 : Heap} {H0 : Hp} (o : ActOk1 P w K mg base c j a act fs h0 H0) (h : j ≤ k) : ActOk1 P w K mg base c k a act fs h0 H0 := ⟨o.fn, fun A outer z H Q E ρ h' u v x hr => o.run A outer z H Q E ρ h' u v x (hr.mono h)⟩
end
/-- a def that is handed such a function -/
structure FnA1 (P : Program) (w : World) (K : PySem.W.Frag) (mg : Str → Option Value) (base : Heap) (c : Ct) (d : Nat) (f : Addr) (fd : FuncData) (ps : List Str) (F : (D → M D) → List D → M D) : Prop where
  run : ∀ (ka : Nat) (A : Around) (outer : List PySem.Env) (s : Shared) (H : Hp) (args : Args) (us : List Value) (vs : List V) (Q : VK) (E : XK) (hid : List Addr) (kp : Kp c.dw c.T) (a : Addr) (act : D → M D) (ρ : Sto) (h : List O) (xs : List D),
    Room (ka + d) A → Env0 P w K mg base A outer s H → BindsTo s fd args (ps.zip us) → Vals vs us → vs.length = ps.length → ActOk1 P w K mg base (c.fr hid E kp) ka a act (frs outer) s.heap H → (∀ k ρ H b, kp.q k ρ H b → b = a) →
    Ok K (c.fr hid E kp) ρ h H → RVs K (c.fr hid E kp) H ρ xs vs → (F act xs h).All (PV K (c.fr hid E kp) ρ H Q) (PX K (c.fr hid E kp) ρ H) → codeAny (model P w) A (.call (.ref f) args) (CR (L2.CX P w) outer P w H s Q E) s
structure OwnA1 (P : Program) (w : World) (K : PySem.W.Frag) (mg : Str → Option Value) (base : Heap) (c : Ct) (d : Nat) (x : Str) (n : Nat) (F : (D → M D) → List D → M D) : Prop where
  ex : ∃ (f : Addr) (fd : FuncData) (ps : List Str), ps.length = n ∧ mg x = some (.ref f) ∧ PySem.W.keepIn K (.ref f) = true ∧ FnA1 P w K mg base c d f fd ps F ∧ L2.Binds K fd ps []
section
variable {P : Program} {w : World} {K : PySem.W.Frag} {mg : Str → Option Value} {base : Heap} {c : Ct} {d n : Nat} {x : Str} {F : (D → M D) → List D → M D} {hid : List Addr} {E : XK}
theorem OwnA1.at {kp : Kp c.dw c.T} (G : OwnA1 P w K mg base c d x n F) : OwnA1 P w K mg base (c.fr hid E kp) d x n F := by
  obtain ⟨f, fd, ps, hn, g, kpp, ⟨Fn⟩, b⟩ := G.ex
  exact ⟨f, fd, ps, hn, g, kpp, ⟨fun ka A outer s H args us vs Q E hid kp a act ρ h xs => Fn ka A outer s H args us vs Q E hid kp a act ρ h xs⟩, b⟩
end
section
variable {P : Program} {w : World} {K : PySem.W.Frag} {mg : Str → Option Value} {base : Heap} {c : Ct} {x : Str} {st : Stmt} {N ps : List Str} {d : Nat} {fB : (D → M D) → Sg → M Out}
theorem ownA1_ev (G : GD K mg x st ps) (S : FnScope N ps (defScope st)) (body : ∀ (ka : Nat) (act : D → M D) (f : Addr) (cdv : Value) (A : Around) (outer : List PySem.Env) (s : Shared) (H : Hp) (E : XK) (hid : List Addr) (kp : Kp c.dw c.T) (a : Addr), Room (ka + d) (A.deeper (envOfC x (defScope st) s.heap.objs.size f cdv)) →
      ActOk1 P w K mg base (c.fr hid E kp) ka a act (frs outer) s.heap H → (∀ k ρ H b, kp.q k ρ H b → b = a) → PX' (cxOf (L2.CX P w) P w K mg base N x (defScope st) f cdv A outer s H E) E →
      ESs (c.fr hid E kp) (cxOf (L2.CX P w) P w K mg base N x (defScope st) f cdv A outer s H E) (defBody st) (fB act)) : OwnA1 P w K mg base c (d + 1) x ps.length fun act => mkF ps.length N.length (fB act) := by
  obtain ⟨f, fd, F, g, b⟩ := G.ex
  refine ⟨f, fd, ps, rfl, g, F.kp, ⟨fun ka A outer s H args us vs Q E hid kp a act ρ h xs hr e0 hb rv hl o hq ok r q => ?_⟩, b⟩
  obtain ⟨oc, od, kV, doc, pm, an, cdv, ct, osl, rfl, look, code⟩ := F.ex
  refine LamX.run_ofS look code S hr e0 hb rv hl fun hr2 => ⟨_, body ka act f cdv A outer s H E hid kp a hr2 o hq pass_body, ρ, h, _, ok, env_start r N, ?_⟩
  unfold mkF at q
  rw [if_pos (r.len.trans hl)] at q
  refine (M.all_bind.mp q).mono fun ⟨ot, h1⟩ q1 => ?_
  cases ot with
  | nx s1 => exact fun ρ1 H1 σ1 l1 ok1 _ => q1 ρ1 H1 _ l1 ok1 .non
  | rt d => exact q1
  | bk s1 => exact q1.elim
  | ct s1 => exact q1.elim
end
/-! ### called in the def that is handed it -/
def fAct1 (i : Nat) (act : D → M D) (fa : Sg → M D) : Sg → M D := fun s h => match s[i]? with
  | some (some (.fn _)) => M.bind (fa s) act h
  | _ => .bad
section
variable {X : Cx} {c : Ct} {ka i : Nat} {a : Addr} {act : D → M D} {x : Str} {p1 p2 : Pos} {hid : List Addr} {E : XK} {kp : Kp c.dw c.T} {e : Expr} {fa : Sg → M D}
theorem ev_act1 (i : Nat) (o : ActOk1 X.prog X.w X.K X.mg X.base (c.fr hid E kp) ka a act X.fs X.s_0.heap X.H_0) (hq : ∀ k ρ H b, kp.q k ρ H b → b = a) (hr : Room ka X.A) (px : PX' X E) (ha : EE (c.fr hid E kp) X e fa) (hx : X.ex = [] := by rfl) (hN : X.N[i]? = some x := by rfl) (hv : Vis X.env.scope x := by first | exact Or.inl rfl | exact Or.inr (Or.inl rfl) | exact Or.inr (Or.inr rfl)) (hd : (x == ("__debug__" : Str)) = false := by decide) (hcd : (x == ("__classdict__" : Str)) = false := by decide)
    (he : starEach [e] X.env = (false, eval e X.env) :: starEach [] X.env := by rfl) (hpl : (backTo p2 (starEach [] X.env)).any (·.1) = false := by rfl) : EE (c.fr hid E kp) X (.Call (.Name x p1) [e] [] p2) (fAct1 i act fa) := by
  constructor
  rintro pins z σ H Q I ⟨ρ, h, s, ok, env, q⟩
  unfold fAct1 at q
  split at q
  · rename_i k hs
    obtain ⟨v, e1, r1⟩ := env.2 i _ hs
    cases r1 with
    | @fn _ b hb =>
      obtain rfl := hq _ _ _ _ hb
      apply wpAny_Call_Name_kw
      refine thn ((pe_var (X := X) (pos := p1) (i := i) hN hv hd hcd).run pins z σ H (fun v H1 => v = .ref b ∧ H1 = H) I ⟨.ref b, e1, rfl, rfl⟩) ?_
      rintro u s1 ⟨v, H1, I1, r1, rfl, rfl⟩
      cases r1
      refine PySem.W.callWith_F (o.fn _ _ ρ ok.kp I1.hok) ?_ he hpl
      refine thn ((pa_cons ha pa_nil he).run p2 pins s1 σ H1 (fun vs G1 => ∃ v ρ1 h1 y, vs = [v] ∧ Ok X.K (c.fr hid E kp) ρ1 h1 G1 ∧ RV X.K (c.fr hid E kp) G1 ρ1 y v ∧ (act y h1).All (PV X.K (c.fr hid E kp) ρ1 G1 Q) (PX X.K (c.fr hid E kp) ρ1 G1)) I1 ?_) ?_
      · refine ⟨ρ, h, s, ok, env, (M.all_bind.mp q).mono fun ⟨y, h1⟩ q1 ρ1 H2 v l1 ok1 r1 => ⟨v, ρ1, h1, y, rfl, ok1, r1, Tr.All.le l1 q1 fun r q => q.le l1⟩⟩
      · rintro us z1 ⟨vs, G1, I2, r, v, ρ1, h1, y, rfl, ok1, r1, q1⟩
        refine ⟨o.fn _ _ ρ1 ok1.kp I2.hok, ?_⟩
        obtain ⟨u, rfl, ru⟩ := vals1 r
        have un : Un X.fs [] X.H_0 G1 X.s_0.heap z1.heap := by
          have := I2.base
          rwa [hx] at this
        apply wpAny_call
        refine codeAny_mono (o.run X.A X.stack z1 G1 Q E ρ1 h1 u v y hr I2.env0 un ru ok1 r1 q1) ?_
        intro end1 z2 hq2
        cases end1 with
        | error _ => exact px pins σ G1 z1 _ _ I2 hq2
        | ok fl => cases fl with
          | ret _ => exact I2.after hq2
          | next => exact hq2.elim
          | brk => exact hq2.elim
          | cont => exact hq2.elim
  · exact q.elim
end
/-! ### the lambda that is handed on -/
theorem Env.snoc {K : PySem.W.Frag} {c : Ct} {H : Hp} {ρ : Sto} {s : Sg} {σ : L2.St} {x : D} {v : V} (e : Env K c H ρ s σ) (r : RV K c H ρ x v) : Env K c H ρ (s ++ [some x]) (σ ++ [some v]) := by
  have hl := e.1
  refine ⟨by simp [hl], fun i y h => ?_⟩
  by_cases hi : i < s.length
  · rw [List.getElem?_append_left hi] at h
    obtain ⟨w, h1, h2⟩ := e.2 i y h
    exact ⟨w, by rw [List.getElem?_append_left (by omega)]; exact h1, h2⟩
  · rw [List.getElem?_append_right (by omega)] at h
    have hi0 : i - s.length = 0 := by
      have := (List.getElem?_eq_some_iff.mp h).1
      simp at this
      omega
    rw [hi0] at h
    cases h
    refine ⟨v, ?_, r⟩
    rw [List.getElem?_append_right (by omega), ← hl, hi0]
    rfl
section
variable {X : Cx} {c : Ct} {hid : List Addr} {E : XK} {kb : Nat}
theorem act_lam1 {pins : List (Addr × Obj)} {σ : L2.St} {H1 : Hp} {z1 : Shared} {l : LamI} {a c' : Addr} {s : Sg} {fb : Sg → M D} {p : Str} (I : L2.Inv X pins σ H1 z1) (LS : LamS1 X.env.scope l.scope X.N p)
    (bind1 : ∀ (q : Str) (cl : List (Str × Addr)) (pm cv ctv u : Value), bindArgs (PySem.W.kla_fn "<lambda>" q l.params l.body l.scope cl pm cv ctv) ⟨[u], []⟩ = pure [(p, u)]) (hn : ∀ (i : Nat) (x : D), s[i]? = some (some x) → noL x = true)
    (body : ∀ (A : Around) (outer : List PySem.Env) (z : Shared) (H : Hp) (E : XK) (kp : Kp c.dw c.T), Room kb (A.deeper (LamX.lamEnv X l.scope z.heap.objs.size a c')) → PX' (lamCx1 X A outer z H E l.scope a c' p) E → EE (c.fr hid E kp) (lamCx1 X A outer z H E l.scope a c' p) l.body fb) :
    ActOk1 X.prog X.w X.K X.mg X.base (c.fr hid E (kpAct X.K c hid X.env l a c' s σ)) (kb + 1) a (fun x => fb (s ++ [some x])) (frs X.stack) z1.heap H1 := by
  refine ⟨fun h H ρ hp hok => ?_, fun A outer z H Q E ρ h u v x hr e0 un ru ok rx q => ?_⟩
  · obtain ⟨⟨pm, ctv, e⟩, _, _⟩ := hok a _ hp.2.1
    exact ⟨_, _, _, _, e⟩
  · obtain ⟨env, atA, atC, _, _⟩ := ok.kp
    obtain ⟨⟨pm, ctv, e⟩, _, _⟩ := e0.hok a _ atA
    obtain ⟨⟨oc, vs, t, hoc, hdc, hvc⟩, _, _⟩ := e0.hok c' _ atC
    have lim : z.heap.NoLimit := e0.mod.nolimit.keeps fun b o y => (e0.bs b o y).1
    apply PySem.W.kla_callFunE hr.depth e rfl LS.co LS.gen rfl ⟨c', oc, vs, t, rfl, hoc, hdc, hvc⟩
    rw [bind1]
    apply wpAny_pure
    refine wpAny_newFunctionEnv (fun y hy => (LS.own y hy).2) (fun y hy => by rw [List.mem_singleton] at hy; rw [hy]; exact LS.par) (fun h₁ hns hsb => ⟨lim.fresh _ hsb, ?_⟩) LS.kind
    show codeAny _ _ (.expr l.body (LamX.lamEnv X l.scope z.heap.objs.size a c')) _ _
    have kp : ∀ b o, z.heap.get? b = some o → h₁.get? b = some o := fun b o y => hsb.extBut b o (Nat.ne_of_lt (Heap.lt_size y)) (Heap.get?_push_of_some _ y)
    have J : L2.Inv (lamCx1 X A outer z H E l.scope a c' p) [] (σ ++ [some v]) H { z with heap := h₁, toks := z.toks + ([(p, u)] : List (Str × Value)).length } := lam_start1 I LS e0 hr.hd un ru hns kp
    apply PySem.W.kla_codeExpr
    have env1 : Env X.K (c.fr hid E (kpAct X.K c hid X.env l a c' s σ)) H ρ s σ := Env.mvC (c := c.at hid _) (c1 := c.fr hid E (kpAct X.K c hid X.env l a c' s σ)) (H := H) (ρ := ρ) ⟨fun _ _ h => h, fun a u e o => ⟨e, o.st, o.hd, o.dw⟩, rfl, rfl, rfl, rfl, rfl, rfl, rfl, rfl, rfl⟩ hn env
    have rd := (body A outer z H E (kpAct X.K c hid X.env l a c' s σ) (hr.deeper _) (passes_call (X := lamCx1 X A outer z H E l.scope a c' p) (W := fun cls d _ H => E cls d H) (takes_of rfl rfl rfl rfl) fun _ _ _ _ y => y)).run [] _ _ H Q J ⟨ρ, h, s ++ [some x], ok, env1.snoc rx, q⟩
    refine wpAny_mono rd (fun v z2 hq => ?_) fun _ _ hq => hq
    obtain ⟨w', H', J', rv, q⟩ := hq
    exact ⟨w', H', J'.os, J'.bare, J'.base, J'.hok, rv, q⟩
/-- the lambda's number among the arguments -/
def lamAt : List D → Option Nat
  | [] => none
  | .fn k :: _ => some k
  | _ :: xs => lamAt xs
def lam0 : D → D
  | .fn _ => .fn 0
  | x => x
def isFn : D → Bool
  | .fn _ => true
  | _ => false
/-- g(.., lambda, ..): one lambda, all else without numbers of the store; over a store of its own -/
def fLamCall1 (n : Nat) (F : (D → M D) → List D → M D) (bs : Nat → Sg → M D) (fr : Sg → M (List D)) : Sg → M D := fun s => M.bind (fr s) fun xs h => match lamAt xs with
  | some k => if xs.length = n ∧ (xs.all fun x => isFn x || noL x) = true ∧ (xs.filter isFn).length = 1 then (F (fun x => bs k (cleanS s ++ [some x])) (xs.map lam0) []).both
    (fun r => match frz r.2 far r.1 with
      | some y => .ret (y, h)
      | none => .bad)
    (fun k fs h1 => match mapO (frz h1 far) fs with
      | some gs => .err k gs h
      | none => .bad) else .bad
  | none => .bad
structure LamsOk1 (X : Cx) (c : Ct) (kb : Nat) (L : List LamI) (p : Str) (bs : Nat → Sg → M D) : Prop where
  sc : ∀ (k : Nat) (l : LamI), L[k]? = some l → LamS1 X.env.scope l.scope X.N p
  b1 : ∀ (k : Nat) (l : LamI), L[k]? = some l → ∀ (q : Str) (cl : List (Str × Addr)) (pm cv ctv u : Value), bindArgs (PySem.W.kla_fn "<lambda>" q l.params l.body l.scope cl pm cv ctv) ⟨[u], []⟩ = pure [(p, u)]
  body : ∀ (k : Nat) (l : LamI), L[k]? = some l → ∀ (hid : List Addr) (a c' : Addr) (A : Around) (outer : List PySem.Env) (z : Shared) (H : Hp) (E : XK) (kp : Kp c.dw c.T), Room kb (A.deeper (LamX.lamEnv X l.scope z.heap.objs.size a c')) → PX' (lamCx1 X A outer z H E l.scope a c' p) E → EE (c.fr hid E kp) (lamCx1 X A outer z H E l.scope a c' p) l.body (bs k)
theorem lam0_no {x : D} (h : noL x = true) : lam0 x = x := by cases x <;> first | rfl | simp [noL] at h
theorem isFn_no {x : D} (h : isFn x = false) (h2 : (isFn x || noL x) = true) : noL x = true := by rw [h] at h2; simpa using h2
theorem rvs_lam {K : PySem.W.Frag} {c1 : Ct} {H1 : Hp} {ρ1 : Sto} : ∀ {xs : List D} {vs : List V} {k : Nat}, RVs K c1 H1 ρ1 xs vs → lamAt xs = some k → (xs.all fun x => isFn x || noL x) = true → (xs.filter isFn).length = 1 →
    ∃ a, c1.kp.q k ρ1 H1 a ∧ ∀ (c2 : Ct) (H2 : Hp) (ρ2 : Sto), Mv K c1 c2 H1 ρ1 H2 ρ2 → c2.kp.q 0 ρ2 H2 a → RVs K c2 H2 ρ2 (xs.map lam0) vs
  | [], _, _, _, e, _, _ => nomatch e
  | x :: xs, _, k, .cons r rs, e, ha, hf => by
    rw [List.all_cons, Bool.and_eq_true] at ha
    by_cases hx : isFn x = true
    · cases x with
      | fn k' =>
        simp only [lamAt] at e
        cases e
        cases r with
        | @fn _ a hb =>
          refine ⟨a, hb, fun c2 H2 ρ2 m q => .cons (.fn q) ?_⟩
          rw [List.filter_cons_of_pos hx, List.length_cons] at hf
          have hn : xs.filter isFn = [] := by apply List.eq_nil_of_length_eq_zero; omega
          have no : ∀ y ∈ xs, noL y = true := fun y hy => by
            have h1 : isFn y = false := by
              have := List.filter_eq_nil_iff.mp hn y hy
              simpa using this
            exact isFn_no h1 (List.all_eq_true.mp ha.2 y hy)
          have e1 : xs.map lam0 = xs := by
            conv => rhs; rw [← List.map_id xs]
            exact List.map_congr_left fun y hy => lam0_no (no y hy)
          rw [e1]
          have nos : ∀ {ys : List D}, (∀ y ∈ ys, noL y = true) → noLs ys = true := by
            intro ys
            induction ys with
            | nil => intro _; rfl
            | cons y ys ih => intro h; simp only [noLs, Bool.and_eq_true]; exact ⟨h y (by simp), ih fun z hz => h z (by simp [hz])⟩
          exact RVs.mv m xs _ (.inl (nos no)) rs
      | _ => simp [isFn] at hx
    · have hx' : isFn x = false := by simpa using hx
      have nx := isFn_no hx' ha.1
      rw [List.filter_cons_of_neg hx] at hf
      have e' : lamAt xs = some k := by
        cases x <;> first | exact e | simp [isFn] at hx'
      obtain ⟨a, h1, h2⟩ := rvs_lam rs e' ha.2 hf
      refine ⟨a, h1, fun c2 H2 ρ2 m q => ?_⟩
      rw [List.map_cons, lam0_no nx]
      exact .cons (RV.mv m x _ (.inl nx) r) (h2 c2 H2 ρ2 m q)
theorem ev_lamcall1 {d n : Nat} {L : List LamI} {bs : Nat → Sg → M D} {F : (D → M D) → List D → M D} {x prm : Str} {p pos : Pos} {e : Expr} {es : List Expr} {fr : Sg → M (List D)} (G : OwnA1 X.prog X.w X.K X.mg X.base c d x n F) (LO : LamsOk1 X c kb L prm bs) (hr : Room (kb + 1 + d) X.A) (px : PX' X E) (ha : EA (c.fr hid E (kpLam c.dw c.T X.env L)) X (e :: es) fr) (hg : Gl X x := by rfl) (hdb : (x == ("__debug__" : Str)) = false := by decide)
    (he : starEach (e :: es) X.env = (false, eval e X.env) :: starEach es X.env := by rfl) (hpl : (backTo pos (starEach es X.env)).any (·.1) = false := by rfl) : EE (c.fr hid E (kpLam c.dw c.T X.env L)) X (.Call (.Name x p) (e :: es) [] pos) (fLamCall1 n F bs fr) := by
  obtain ⟨f, fd, ps, hn, g, kept, ⟨Fn⟩, b⟩ := G.ex
  constructor
  rintro pins z σ G0 R I ⟨ρ, h, s, ok, env, q⟩
  apply wpAny_Call_Name_kw (ld_glob I hg g ?_ hdb)
  apply PySem.W.callWith_K (h₀ := X.base) I.ok.mod.kin kept ?_ he hpl
  refine thn (ha.run pos pins z σ G0 (fun vs G1 => ∃ ρ1 h1 ys, Ok X.K (c.fr hid E (kpLam c.dw c.T X.env L)) ρ1 h1 G1 ∧ Env X.K (c.fr hid E (kpLam c.dw c.T X.env L)) G1 ρ1 s σ ∧ RVs X.K (c.fr hid E (kpLam c.dw c.T X.env L)) G1 ρ1 ys vs ∧
      ((match lamAt ys with
        | some k => if ys.length = n ∧ (ys.all fun x => isFn x || noL x) = true ∧ (ys.filter isFn).length = 1 then (F (fun x => bs k (cleanS s ++ [some x])) (ys.map lam0) []).both
          (fun r => match frz r.2 far r.1 with
            | some y => .ret (y, h1)
            | none => .bad)
          (fun k fs h2 => match mapO (frz h2 far) fs with
            | some gs => .err k gs h1
            | none => .bad) else .bad
        | none => .bad : Tr (D × List O))).All (PV X.K (c.fr hid E (kpLam c.dw c.T X.env L)) ρ1 G1 R) (PX X.K (c.fr hid E (kpLam c.dw c.T X.env L)) ρ1 G1)) I ?_) ?_
  · exact ⟨ρ, h, s, ok, env, (M.all_bind.mp q).mono fun ⟨ys, h1⟩ q1 ρ1 H1 vs l1 ok1 r1 => ⟨ρ1, h1, ys, ok1, env.le l1, r1, Tr.All.le l1 q1 fun r q => q.le l1⟩⟩
  · rintro us z1 ⟨vs, G1, I1, r, ρ1, h1, ys, ok1, env1, r1, q1⟩
    refine ⟨I1.kIn, ?_⟩
    split at q1
    · rename_i k hk
      split at q1
      · rename_i hc
        obtain ⟨c1, c2, c3⟩ := hc
        obtain ⟨a, hb, hall⟩ := rvs_lam r1 hk c2 c3
        obtain ⟨l, c', hL, atA, atC, o1, o2⟩ := hb
        have kpp : (kpAct X.K c (hid ++ ρ1.l) X.env l a c' (cleanS s) σ).p Sto.nil G1 := by
          refine ⟨Env.mvC (c := c.fr hid E (kpLam c.dw c.T X.env L)) mv_start (fun i x h => (clean_no h).1) env1.clean, atA, atC, ⟨by simp [Sto.nil], o1.2⟩, by simp [Sto.nil], o2.2⟩
        have act := act_lam1 (E := E) (hid := hid ++ ρ1.l) (s := cleanS s) I1 (LO.sc k l hL) (a := a) (c' := c') (LO.b1 k l hL) (fun i x h => (clean_no h).1) (LO.body k l hL (hid ++ ρ1.l) a c')
        have hlen : vs.length = ps.length := by rw [hn, ← c1, r1.len]
        have many : us.length = ps.length := by rw [← r.length, hlen]
        have okB := Ok.beginK (c := c.fr hid E (kpLam c.dw c.T X.env L)) ok1 (E := E) (kp := kpAct X.K c (hid ++ ρ1.l) X.env l a c' (cleanS s) σ) kpp
        apply wpAny_call
        have rB : RVs X.K (c.fr (hid ++ ρ1.l) E (kpAct X.K c (hid ++ ρ1.l) X.env l a c' (cleanS s) σ)) G1 Sto.nil (ys.map lam0) vs := hall _ _ _ (mv_start (c := c.fr hid E (kpLam c.dw c.T X.env L))) rfl
        refine codeAny_mono (Fn (kb + 1) X.A X.stack z1 G1 ⟨us, []⟩ us vs R E (hid ++ ρ1.l) (kpAct X.K c (hid ++ ρ1.l) X.env l a c' (cleanS s) σ) a (fun x => bs k (cleanS s ++ [some x])) Sto.nil [] (ys.map lam0) hr I1.env0 (by have := b z1 us I1.kIn (by simpa using many); simpa using this) r hlen act (fun _ _ _ _ h => h) okB rB ?_) ?_
        · refine (Tr.all_both.mp q1).mono2 (fun ⟨y, h2⟩ q2 ρ2 H2 v l2 ok2 r2 => ?_) (fun k fs h2 q2 => ?_)
          · dsimp only at q2
            split at q2
            · rename_i y' hy
              obtain ⟨l3, ok3⟩ := Ok.apart (c := c.fr hid E (kpLam c.dw c.T X.env L)) ok1 (kp := kpAct X.K c (hid ++ ρ1.l) X.env l a c' (cleanS s) σ) l2 ok2
              exact q2 ρ1 H2 v l3 ok3 (frz_ok (c := c.fr (hid ++ ρ1.l) E (kpAct X.K c (hid ++ ρ1.l) X.env l a c' (cleanS s) σ)) ok2 (mv_back (c := c.fr hid E (kpLam c.dw c.T X.env L)) (kp := kpAct X.K c (hid ++ ρ1.l) X.env l a c' (cleanS s) σ)) (tr_back (c := c.fr hid E (kpLam c.dw c.T X.env L)) ok1 (kp := kpAct X.K c (hid ++ ρ1.l) X.env l a c' (cleanS s) σ) l2) far _ _ _ hy r2)
            · exact q2.elim
          · split at q2
            · rename_i gs hg
              exact px_back (c := c.fr hid E (kpLam c.dw c.T X.env L)) (kp := kpAct X.K c (hid ++ ρ1.l) X.env l a c' (cleanS s) σ) ok1 hg q2
            · exact q2.elim
        · intro end1 z2 hq
          cases end1 with
          | error _ => exact px pins σ G1 z1 _ _ I1 hq
          | ok fl => cases fl with
            | ret _ => exact I1.after hq
            | next => exact hq.elim
            | brk => exact hq.elim
            | cont => exact hq.elim
      · exact q1.elim
    · exact q1.elim
end
/-! ### a def that makes lambdas -/
/-- a def, its code object at cd -/
structure GDL (K : PySem.W.Frag) (mg : Str → Option Value) (x : Str) (st : Stmt) (ps : List Str) (cd : Addr) : Prop where
  ex : ∃ (f : Addr) (fd : FuncData) (oc : Value) (od : Option Addr) (kV doc pm : Value) (an : Option Addr) (ct : Value) (osl : Array (Option Value)), fd = PySem.W.fnOf x x (defArgs st) (defBody st) (defScope st) .none kV doc pm an (.ref cd) ct ∧ K.lookup f = some ⟨oc, od, .func fd, osl⟩ ∧ PySem.W.codeIn K (.ref cd) x = true ∧
    PySem.W.keepIn K (.ref f) = true ∧ mg x = some (.ref f) ∧ L2.Binds K fd ps []
/-- its steps: over a store of its own -/
def mkFL (np nn : Nat) (f : Sg → M Out) : List D → M D := fun xs h => if xs.length = np ∧ noLs xs = true then (M.bind (f (xs.map some ++ List.replicate (nn - xs.length) none)) outD []).both
    (fun r => match frz r.2 far r.1 with
      | some y => .ret (y, h)
      | none => .bad)
    (fun k fs h1 => match mapO (frz h1 far) fs with
      | some gs => .err k gs h
      | none => .bad) else .bad
section
variable {P : Program} {w : World} {K : PySem.W.Frag} {mg : Str → Option Value} {base : Heap} {c : Ct} {x : Str} {st : Stmt} {N ps : List Str} {d : Nat} {fB : Sg → M Out} {cd : Addr} {L : List LamI}
theorem ownL_ev (G : GDL K mg x st ps cd) (S : FnScope N ps (defScope st)) (body : ∀ (f : Addr) (A : Around) (outer : List PySem.Env) (s : Shared) (H : Hp) (E : XK) (hid : List Addr), Room d (A.deeper (envOfC x (defScope st) s.heap.objs.size f (.ref cd))) →
      PX' (cxOf (L2.CX P w) P w K mg base N x (defScope st) f (.ref cd) A outer s H E) E →
      ESs (c.fr hid E (kpLam c.dw c.T (cxOf (L2.CX P w) P w K mg base N x (defScope st) f (.ref cd) A outer s H E).env L)) (cxOf (L2.CX P w) P w K mg base N x (defScope st) f (.ref cd) A outer s H E) (defBody st) fB) : Own P w K mg base c (d + 1) x (mkFL ps.length N.length fB) := by
  obtain ⟨f, fd, oc, od, kV, doc, pm, an, ct, osl, rfl, look, code, kept, g, b⟩ := G.ex
  refine ⟨f, _, ps, g, kept, ⟨fun vs H Q E h => ?_, fun A outer s H args us vs Q E hr e0 hb rv h => ?_⟩, b⟩
  · obtain ⟨hid, ρ, h, xs, ok, r, q⟩ := h
    unfold mkFL at q
    split at q
    · rename_i hl
      exact r.len.symm.trans hl.1
    · exact q.elim
  · obtain ⟨hid, ρ, h, xs, ok, r, q⟩ := h
    unfold mkFL at q
    split at q
    · rename_i hl
      have hlv : vs.length = ps.length := r.len.symm.trans hl.1
      refine LamX.run_ofS look code S hr e0 hb rv hlv fun hr2 => ?_
      have okB := Ok.beginK (c := c.at hid E) ok (E := E) (kp := kpLam c.dw c.T (cxOf (L2.CX P w) P w K mg base N x (defScope st) f (.ref cd) A outer s H E).env L) trivial
      have r0 : RVs K (c.fr (hid ++ ρ.l) E (kpLam c.dw c.T (cxOf (L2.CX P w) P w K mg base N x (defScope st) f (.ref cd) A outer s H E).env L)) H Sto.nil xs vs := RVs.mv (mv_start (c := c.at hid E)) xs vs (.inl hl.2) r
      refine ⟨_, body f A outer s H E (hid ++ ρ.l) hr2 pass_body, Sto.nil, [], _, okB, env_start r0 N, ?_⟩
      have key := (Tr.all_both.mp q).mono2 (R := PV K (c.fr (hid ++ ρ.l) E (kpLam c.dw c.T (cxOf (L2.CX P w) P w K mg base N x (defScope st) f (.ref cd) A outer s H E).env L)) Sto.nil H Q) (Y := PX K (c.fr (hid ++ ρ.l) E (kpLam c.dw c.T (cxOf (L2.CX P w) P w K mg base N x (defScope st) f (.ref cd) A outer s H E).env L)) Sto.nil H) (fun ⟨y, h2⟩ q2 ρ2 H2 v l2 ok2 r2 => by
        dsimp only at q2
        split at q2
        · rename_i y' hy
          obtain ⟨l3, ok3⟩ := Ok.apart (c := c.at hid E) ok l2 ok2
          exact q2 ρ H2 v l3 ok3 (frz_ok ok2 (mv_back (c := c.at hid E)) (tr_back (c := c.at hid E) ok l2) far _ _ _ hy r2)
        · exact q2.elim) (fun k fs h2 q2 => by
        split at q2
        · rename_i gs hg
          exact px_back (c := c.at hid E) ok hg q2
        · exact q2.elim)
      refine (M.all_bind.mp key).mono fun ⟨ot, h1⟩ q1 => ?_
      cases ot with
      | nx s1 => exact fun ρ1 H1 σ1 l1 ok1 _ => q1 ρ1 H1 _ l1 ok1 .non
      | rt d => exact q1
      | bk s1 => exact q1.elim
      | ct s1 => exact q1.elim
    · exact q.elim
end
section
variable {X : Cx} {c : Ct} {hid : List Addr} {E : XK} {L : List LamI} {pos : Pos}
theorem ev_lam1 {cd P : Addr} {N0 : List Str} {prm : Str} {l : LamI} (k : Nat) (hk : L[k]? = some l) (TB : LamX.TabB X.base X.mg cd P) (code : X.env.code = .ref cd) (mem : (P, X.env.qual ++ "<lambda>") ∈ c.T) (one : ∀ p ∈ c.T, p.1 = P → p.2 = X.env.qual ++ "<lambda>") (LS : LamS1 X.env.scope l.scope N0 prm) (plain : defaultsOf l.params X.env = ([], [])) :
    EE (c.fr hid E (kpLam c.dw c.T X.env L)) X (.Lambda l.params l.body l.scope pos) (fC (.fn k)) := by
  constructor
  rintro pins s σ H Q I ⟨ρ, h, sg, ok, env, q⟩
  refine lam_new l I TB code rfl mem one ok.tab.1 plain (LS.has I.ok) ?_
  intro f c' H1 s' I1 nf hf hc hold ne ht ext none_ codes
  obtain ⟨ps, atP, _⟩ := ok.tab.1 _ mem
  have atP : H P = some (.tbl ps) := atP
  have offP : ∀ b u, H b = some u → (∀ qs, u ≠ .tbl qs) → b ≠ P := fun b u e n z => by
    rw [z, atP] at e
    exact n _ (Option.some.inj e).symm
  have le : Le c ρ H ρ H1 := ⟨List.prefix_refl _, fun p a b => absurd a b, fun b o _ hd e => ext b o (fun z => hd.2 _ mem z) e, fun b xs e => ext b _ (offP b _ e fun _ z => nomatch z) e, fun b o u e => ext b _ (offP b _ e fun _ z => nomatch z) e, none_⟩
  have same : ∀ a, a ∈ ρ.a → H1 a = H a := fun a ha => by
    obtain ⟨u, hu⟩ := ok.ex a ha
    rw [hu]
    exact ext a u (fun z => ok.tab.2 _ mem (z ▸ ha)) hu
  have there : ∀ a, (∃ u, H a = some u) → ∃ u, H1 a = some u := fun a ⟨u, hu⟩ => by
    cases z : H1 a with
    | some u => exact ⟨u, rfl⟩
    | none => rw [none_ a z] at hu; cases hu
  have ok1 : Ok X.K (c.fr hid E (kpLam c.dw c.T X.env L)) ρ h H1 := by
    refine ⟨ok.len, ok.nd, fun n o a e1 e2 => RO.le (c := c.fr hid E (kpLam c.dw c.T X.env L)) le (same a (List.mem_of_getElem? e2)) (ok.objs n o a e1 e2), ok.lv, ok.sub, fun a ha => there a (ok.ex a ha), fun d g e z => ?_, fun a ha => ⟨there a (ok.hid a ha).1, (ok.hid a ha).2⟩, ⟨ht, ok.tab.2⟩, trivial, fun b q' e hb => ?_⟩
    · obtain ⟨Dx, h1⟩ := ok.dw d g e z
      refine ⟨Dx.keep fun b x hb e' => ext b x (offP b x e' fun qs z => ?_) e', h1⟩
      subst z
      obtain ⟨⟨gs, cs, r, t, hd, hg, hc⟩, _⟩ := id Dx
      rcases hb with rfl | rfl | rfl
      · rw [hd] at e'; cases e'
      · rw [hg] at e'; cases e'
      · rw [hc] at e'; cases e'
    · rcases codes b q' e with z | z
      · obtain ⟨u, hu⟩ := ok.ex b hb
        rw [z] at hu; cases hu
      · exact ok.code b q' z hb
  have of := ok.offN nf
  refine ⟨.ref f, H1, I1, rfl, q ρ H1 (.ref f) le ok1 (.fn ⟨l, c', hk, hf, hc, ⟨of.st, of.dw⟩, ?_⟩)⟩
  rcases hold with z | z
  · have oc := ok.offN z
    exact ⟨oc.st, oc.dw⟩
  · refine ⟨fun w => ok.code _ _ z (ok.sub _ w), fun d g e w => ?_, fun p hp w => ?_⟩
    · obtain ⟨⟨⟨gs, cs, r, t, hd, hg, hc⟩, _⟩, _⟩ := ok.dw d g e w
      have no : ∀ b u, H b = some u → (∀ q', u ≠ LamX.CodeO c' q') → c' ≠ b := fun b u e n y => by
        rw [← y, z] at e
        exact n _ (Option.some.inj e).symm
      exact ⟨no d _ hd (fun q' y => by unfold LamX.CodeO at y; cases y), no g _ hg (fun q' y => by unfold LamX.CodeO at y; cases y)⟩
    · obtain ⟨qs, e, _⟩ := ok.tab.1 p hp
      rw [← w, z] at e
      exact LamX.codeO_ne _ (Option.some.inj e)
end
theorem units10 {k : Nat} {A : Around} (r : Room k A) : A.units + 10 < cLine := by have := r.un; omega
theorem lamsOk1_mk {X : Cx} {c : Ct} {kb : Nat} {l : LamI} {p : Str} {bs : Nat → Sg → M D} (sc : LamS1 X.env.scope l.scope X.N p) (b1 : ∀ (q : Str) (cl : List (Str × Addr)) (pm cv ctv u : Value), bindArgs (PySem.W.kla_fn "<lambda>" q l.params l.body l.scope cl pm cv ctv) ⟨[u], []⟩ = pure [(p, u)])
    (body : ∀ (hid : List Addr) (a c' : Addr) (A : Around) (outer : List PySem.Env) (z : Shared) (H : Hp) (E : XK) (kp : Kp c.dw c.T), Room kb (A.deeper (LamX.lamEnv X l.scope z.heap.objs.size a c')) → PX' (lamCx1 X A outer z H E l.scope a c' p) E → EE (c.fr hid E kp) (lamCx1 X A outer z H E l.scope a c' p) l.body (bs 0)) : LamsOk1 X c kb [l] p bs := by
  refine ⟨fun k l' e => ?_, fun k l' e => ?_, fun k l' e => ?_⟩ <;> (cases k with
    | zero => obtain rfl : l = l' := by simpa using e
              first | exact sc | exact b1 | exact body
    | succ k => simp at e)
end Ev

/-! sorted, as the kernel can reckon it: by insertion. -/
namespace Ev
open PySem PySem.Spec PyProof.Rows L2 Dr
def insO {α : Type} (p : α × PyData) : List (α × PyData) → List (α × PyData)
  | [] => [p]
  | q :: qs => if leD p q = true then p :: q :: qs else q :: insO p qs
def isortO {α : Type} : List (α × PyData) → List (α × PyData)
  | [] => []
  | p :: ps => insO p (isortO ps)
theorem ins_mid {α : Type} (a : α × PyData) : ∀ {l₁ l₂ : List (α × PyData)}, (∀ b ∈ l₁, (!leD a b) = true) → (∀ b ∈ l₂, leD a b = true) → insO a (l₁ ++ l₂) = l₁ ++ a :: l₂
  | [], [], _, _ => rfl
  | [], q :: qs, _, h => by
    show (if leD a q = true then a :: q :: qs else q :: insO a qs) = a :: q :: qs
    rw [if_pos (h q (by simp))]
  | q :: l₁, l₂, h1, h2 => by
    have := h1 q (by simp)
    show (if leD a q = true then a :: q :: (l₁ ++ l₂) else q :: insO a (l₁ ++ l₂)) = q :: (l₁ ++ a :: l₂)
    rw [if_neg (by simpa using this), ins_mid a (fun b hb => h1 b (by simp [hb])) h2]
theorem isort_eq {α : Type} : ∀ l : List (α × PyData), l.mergeSort leD = isortO l
  | [] => by simp [isortO]
  | a :: l => by
    have T : PySem.W.TotalLe (leD (α := α)) := by
      unfold leD PySem.W.dataLe
      exact PySem.W.sortLe_total _ _ _
    have tot : ∀ a b : α × PyData, (leD a b || leD b a) = true := fun a b => by
      rcases T.total a b with h | h <;> simp [h]
    obtain ⟨l₁, l₂, e1, e2, e3⟩ := List.mergeSort_cons (le := leD) T.trans tot a l
    have pw := List.pairwise_mergeSort (le := leD) T.trans tot (a :: l)
    rw [e1] at pw
    have h2 : ∀ b ∈ l₂, leD a b = true := (List.pairwise_cons.mp (List.pairwise_append.mp pw).2.1).1
    rw [e1]
    show _ = insO a (isortO l)
    rw [← isort_eq l, e2, ins_mid a e3 h2]
def isortV {α : Type} (xs : List α) (ds : List PyData) : List α := (isortO (xs.zip ds)).map (·.1)
theorem sortedV_i {α : Type} (xs : List α) (ds : List PyData) : sortedV xs ds = isortV xs ds := by
  unfold sortedV isortV
  rw [isort_eq]
def oSortDI (mk : List D → M D) : List D → M D := fun xs h => match xs with
  | [x] => match lstD h x with
    | some ys => match mapO (toP h deep) ys with
      | some ds => if sortOk 60 ds = true then mk (isortV ys ds) h else .bad
      | none => .bad
    | none => .bad
  | _ => .bad
theorem oSortD_i (mk : List D → M D) : oSortD mk = oSortDI mk := by
  funext xs h
  unfold oSortD oSortDI
  simp only [sortedV_i]
  try rfl
def oSortNI (mk : List D → M D) : List D → M D := fun xs h => match xs with
  | [x] => match tdD h x with
    | some (ks, _) => match mapO (toP h deep) ks with
      | some ds => if sortOk 60 ds = true then mk (isortV ks ds) h else .bad
      | none => .bad
    | none => oSortDI mk xs h
  | _ => oSortDI mk xs h
theorem oSortN_i (mk : List D → M D) : oSortN mk = oSortNI mk := by
  funext xs h
  unfold oSortN oSortNI
  simp only [sortedV_i, oSortD_i]
  try rfl
end Ev

/-! The end of a law that draws nothing. -/
namespace Ev
open PySem PySem.Spec PyProof.Rows L2 Dr
def isRT : Out × List O → Bool := fun r => match r.1 with
  | .rt (.bl true) => true
  | _ => false
theorem isRT_eq {r : Out × List O} (h : isRT r = true) : r.1 = .rt (.bl true) := by
  unfold isRT at h
  split at h
  · rename_i e; exact e
  · cases h
theorem Ok.none {K : PySem.W.Frag} {c : Ct} {H : Hp} (hd : c.dw = none) (hh : c.hid = []) (ht : LamX.Tabs c.T H) (hk : c.kp.p Sto.nil H) : Ok K c Sto.nil [] H :=
  ⟨rfl, List.nodup_nil, (fun n o a e => by simp at e), (fun n o a e => by simp at e), fun a h => h, (fun a h => by simp [Sto.nil] at h), (fun d g e z => by rw [hd] at z; cases z), (fun a ha => by rw [hh] at ha; cases ha), ⟨ht, by simp [Sto.nil]⟩, hk, by simp [Sto.nil]⟩
theorem law_runs {c : Ct} {X : Cx} {sts : List Stmt} {f : Sg → M Out} {N : List Str} {vs : List V} {H : Hp} {R : VK} {n : Nat} (b : ESs c X sts f) (ok : Ok X.K c Sto.nil [] H) (hs : n = (start N vs).length) (q : (f (List.replicate n none) []).allB isRT = true) (k : ∀ H', R (.bl true) H') :
    ∃ t, PSs X sts t ∧ t { nx := fun _ G' => R .non G', rt := R } (start N vs) H := by
  refine ⟨_, b, Sto.nil, [], List.replicate n none, ok, ⟨by simp [hs], fun i x h => ?_⟩, ?_⟩
  · have := List.mem_of_getElem? h
    rw [List.mem_replicate] at this
    cases this.2
  · refine Tr.all_of (fun r hr => ?_) q
    have e := isRT_eq hr
    obtain ⟨o, h2⟩ := r
    cases e
    exact fun ρ' H' v l ok r => by cases r; exact k H'
end Ev

/-! Steps over typed values: equality of plain values; pure calls. -/
namespace Ev
open PySem PySem.Spec PyProof.Rows L2 Dr
theorem Tr.bind_ret {α β : Type} (a : α) (f : α → Tr β) : (Tr.ret a).bind f = f a := rfl
theorem Tr.bind_bad {α β : Type} (f : α → Tr β) : (Tr.bad : Tr α).bind f = .bad := rfl
theorem M.ret_ap {α : Type} (a : α) (h : List O) : M.ret a h = .ret (a, h) := rfl
theorem M.bad_ap {α : Type} (h : List O) : (M.bad : M α) h = .bad := rfl
theorem M.bind_ap {α β : Type} (m : M α) (f : α → M β) (h : List O) : M.bind m f h = (m h).bind fun r => f r.1 r.2 := rfl
theorem bind_ite {α β : Type} {p : Prop} [Decidable p] (a b : Tr α) (f : α → Tr β) : (if p then a else b).bind f = if p then a.bind f else b.bind f := by split <;> rfl
theorem ap_ite {α : Type} {p : Prop} [Decidable p] (a b : M α) (h : List O) : (if p then a else b) h = if p then a h else b h := by split <;> rfl
theorem Nat_le_lim : lim = 1000000 := rfl
/-- a pure call gives what the def gives over an empty store -/
theorem pure_fz {F : List D → M D} {xs : List D} {v y : D} {g : List O} (h : List O) (e : F xs [] = .ret (v, g)) (hx : noLs xs = true) (hf : frz g far v = some y) : oPure F xs h = .ret (y, h) := by
  unfold oPure
  rw [if_pos hx, e]
  show (match frz g far v with
    | some y => Tr.ret (y, h)
    | none => .bad) = _
  rw [hf]
theorem pure_ret {F : List D → M D} {xs : List D} {v : D} (h : List O) (e : ∃ g, F xs [] = .ret (v, g)) (hx : noLs xs = true) (hv : noL v = true) : oPure F xs h = .ret (v, h) := by
  obtain ⟨g, e⟩ := e
  exact pure_fz h e hx (frz_noL hv)
theorem atI_at {α : Type} (xs : List α) (i : Nat) : atI xs (i : Int) = xs[i]? := by
  unfold atI ixN
  rw [if_pos (by omega)]
  by_cases h : i < xs.length
  · rw [if_pos (by omega)]; rfl
  · rw [if_neg (by omega), List.getElem?_eq_none (by omega)]; rfl
/-! == of values without numbers of the store -/
mutual
def toT : D → PyData
  | .non => .none
  | .bl b => .bool b
  | .int i => .int i
  | .str z => .str z
  | .tup xs => .tuple (toTs xs)
  | .lst xs => .list (toTs xs)
  | _ => .none
def toTs : List D → List PyData
  | [] => []
  | x :: xs => toT x :: toTs xs
end
mutual
def okT : Nat → D → Bool
  | _, .non => true
  | _, .bl _ => true
  | _, .int _ => true
  | _, .str z => PyData.strOk z
  | 0, .tup _ => false
  | n + 1, .tup xs => okTs n xs
  | 0, .lst _ => false
  | n + 1, .lst xs => okTs n xs
  | _, .loc _ => false
  | _, .draw => false
  | _, .fn _ => false
  | _, .ins _ _ => false
  | _, .dct _ _ => false
  | _, .tct _ _ => false
  | _, .exn _ _ => false
def okTs : Nat → List D → Bool
  | _, [] => true
  | n, x :: xs => okT n x && okTs n xs
end
mutual
def eqT : D → D → Bool
  | .non, .non => true
  | .bl a, .bl b => a == b
  | .bl a, .int j => (if a then 1 else 0) == j
  | .int i, .bl b => i == (if b then 1 else 0)
  | .int i, .int j => i == j
  | .str x, .str y => x == y
  | .tup xs, .tup ys => eqTs xs ys
  | .lst xs, .lst ys => eqTs xs ys
  | _, _ => false
def eqTs : List D → List D → Bool
  | [], [] => true
  | x :: xs, y :: ys => eqT x y && eqTs xs ys
  | _, _ => false
end
mutual
theorem toP_T (h : List O) : ∀ (n : Nat) (x : D), okT n x = true → toP h (n + 1) x = some (toT x)
  | _, .non, _ => rfl
  | _, .bl _, _ => rfl
  | _, .int _, _ => rfl
  | _, .str z, _ => rfl
  | 0, .tup _, e => by simp [okT] at e
  | n + 1, .tup xs, e => by
    have e : okTs n xs = true := by simpa [okT] using e
    show (match mapO (toP h (n + 1)) xs with
      | some ds => some (PyData.tuple ds)
      | none => none) = _
    rw [toPs_T h n xs e]
    simp [toT]
  | 0, .lst _, e => by simp [okT] at e
  | n + 1, .lst xs, e => by
    have e : okTs n xs = true := by simpa [okT] using e
    show (match mapO (toP h (n + 1)) xs with
      | some ds => some (PyData.list ds)
      | none => none) = _
    rw [toPs_T h n xs e]
    simp [toT]
  | _, .loc _, e => by simp [okT] at e
  | _, .draw, e => by simp [okT] at e
  | _, .fn _, e => by simp [okT] at e
  | _, .ins _ _, e => by simp [okT] at e
  | _, .dct _ _, e => by simp [okT] at e
  | _, .tct _ _, e => by simp [okT] at e
  | _, .exn _ _, e => by simp [okT] at e
theorem toPs_T (h : List O) : ∀ (n : Nat) (xs : List D), okTs n xs = true → mapO (toP h (n + 1)) xs = some (toTs xs)
  | _, [], _ => rfl
  | n, x :: xs, e => by
    have e : (okT n x && okTs n xs) = true := by simpa [okTs] using e
    have e := Bool.and_eq_true_iff.mp e
    simp only [mapO, toP_T h n x e.1, toPs_T h n xs e.2, toTs]
end
mutual
theorem okT_lay : ∀ (n : Nat) (x : D), okT n x = true → (toT x).canLay0 = true ∧ (toT x).depth ≤ n
  | _, .non, _ => ⟨rfl, Nat.zero_le _⟩
  | _, .bl _, _ => ⟨rfl, Nat.zero_le _⟩
  | _, .int _, _ => ⟨rfl, Nat.zero_le _⟩
  | _, .str z, e => ⟨by simpa [okT, toT, PyData.canLay0] using e, Nat.zero_le _⟩
  | 0, .tup _, e => by simp [okT] at e
  | n + 1, .tup xs, e => by
    have e : okTs n xs = true := by simpa [okT] using e
    obtain ⟨h1, h2⟩ := okTs_lay n xs e
    exact ⟨by simpa [toT, PyData.canLay0] using h1, by simp [toT, PyData.depth]; exact h2⟩
  | 0, .lst _, e => by simp [okT] at e
  | n + 1, .lst xs, e => by
    have e : okTs n xs = true := by simpa [okT] using e
    obtain ⟨h1, h2⟩ := okTs_lay n xs e
    exact ⟨by simpa [toT, PyData.canLay0] using h1, by simp [toT, PyData.depth]; exact h2⟩
  | _, .loc _, e => by simp [okT] at e
  | _, .draw, e => by simp [okT] at e
  | _, .fn _, e => by simp [okT] at e
  | _, .ins _ _, e => by simp [okT] at e
  | _, .dct _ _, e => by simp [okT] at e
  | _, .tct _ _, e => by simp [okT] at e
  | _, .exn _ _, e => by simp [okT] at e
theorem okTs_lay : ∀ (n : Nat) (xs : List D), okTs n xs = true → PyData.canLayAll0 (toTs xs) = true ∧ PyData.depthAll (toTs xs) ≤ n
  | _, [], _ => ⟨rfl, Nat.zero_le _⟩
  | n, x :: xs, e => by
    have e : (okT n x && okTs n xs) = true := by simpa [okTs] using e
    have e := Bool.and_eq_true_iff.mp e
    obtain ⟨h1, h2⟩ := okT_lay n x e.1
    obtain ⟨h3, h4⟩ := okTs_lay n xs e.2
    exact ⟨by simp [toTs, PyData.canLayAll0, h1, h3], by simp [toTs, PyData.depthAll]; omega⟩
end
mutual
theorem eqT_eqv : ∀ (n : Nat) (x y : D), okT n x = true → okT n y = true → PyData.eqv (toT x) (toT y) = eqT x y
  | n, .non, y, _, h => by cases y <;> simp_all [toT, eqT, PyData.eqv, okT]
  | n, .bl a, y, _, h => by cases y <;> simp_all [toT, eqT, PyData.eqv, okT]
  | n, .int i, y, _, h => by cases y <;> simp_all [toT, eqT, PyData.eqv, okT]
  | n, .str z, y, _, h => by cases y <;> simp_all [toT, eqT, PyData.eqv, okT]
  | 0, .tup _, _, h, _ => by simp [okT] at h
  | n + 1, .tup xs, y, h1, h2 => by
    have h1 : okTs n xs = true := by simpa [okT] using h1
    cases y with
    | tup ys =>
      have h2 : okTs n ys = true := by simpa [okT] using h2
      simpa [toT, eqT, PyData.eqv] using eqTs_eqv n xs ys h1 h2
    | _ => simp_all [toT, eqT, PyData.eqv, okT]
  | 0, .lst _, _, h, _ => by simp [okT] at h
  | n + 1, .lst xs, y, h1, h2 => by
    have h1 : okTs n xs = true := by simpa [okT] using h1
    cases y with
    | lst ys =>
      have h2 : okTs n ys = true := by simpa [okT] using h2
      simpa [toT, eqT, PyData.eqv] using eqTs_eqv n xs ys h1 h2
    | _ => simp_all [toT, eqT, PyData.eqv, okT]
  | n, .loc _, _, h, _ => by simp [okT] at h
  | n, .draw, _, h, _ => by simp [okT] at h
  | n, .fn _, _, h, _ => by simp [okT] at h
  | n, .ins _ _, _, h, _ => by simp [okT] at h
  | n, .dct _ _, _, h, _ => by simp [okT] at h
  | n, .tct _ _, _, h, _ => by simp [okT] at h
  | n, .exn _ _, _, h, _ => by simp [okT] at h
theorem eqTs_eqv : ∀ (n : Nat) (xs ys : List D), okTs n xs = true → okTs n ys = true → PyData.eqvAll (toTs xs) (toTs ys) = eqTs xs ys
  | _, [], [], _, _ => rfl
  | _, [], _ :: _, _, _ => rfl
  | _, _ :: _, [], _, _ => rfl
  | n, x :: xs, y :: ys, h1, h2 => by
    have h1 := Bool.and_eq_true_iff.mp (show (okT n x && okTs n xs) = true by simpa [okTs] using h1)
    have h2 := Bool.and_eq_true_iff.mp (show (okT n y && okTs n ys) = true by simpa [okTs] using h2)
    simp only [toTs, PyData.eqvAll, eqTs, eqT_eqv n x y h1.1 h2.1, eqTs_eqv n xs ys h1.2 h2.2]
end
mutual
theorem okT_up : ∀ (n : Nat) (x : D), okT n x = true → okT (n + 1) x = true
  | _, .non, _ => rfl
  | _, .bl _, _ => rfl
  | _, .int _, _ => rfl
  | _, .str z, e => by simpa [okT] using e
  | 0, .tup _, e => by simp [okT] at e
  | n + 1, .tup xs, e => by
    have e : okTs n xs = true := by simpa [okT] using e
    simpa [okT] using okTs_up n xs e
  | 0, .lst _, e => by simp [okT] at e
  | n + 1, .lst xs, e => by
    have e : okTs n xs = true := by simpa [okT] using e
    simpa [okT] using okTs_up n xs e
  | _, .loc _, e => by simp [okT] at e
  | _, .draw, e => by simp [okT] at e
  | _, .fn _, e => by simp [okT] at e
  | _, .ins _ _, e => by simp [okT] at e
  | _, .dct _ _, e => by simp [okT] at e
  | _, .tct _ _, e => by simp [okT] at e
  | _, .exn _ _, e => by simp [okT] at e
theorem okTs_up : ∀ (n : Nat) (xs : List D), okTs n xs = true → okTs (n + 1) xs = true
  | _, [], _ => rfl
  | n, x :: xs, e => by
    have e := Bool.and_eq_true_iff.mp (show (okT n x && okTs n xs) = true by simpa [okTs] using e)
    simp [okTs, okT_up n x e.1, okTs_up n xs e.2]
end
theorem pEq_T (f : Bool → Bool) (h : List O) {x y : D} (hx : okT 23 x = true) (hy : okT 23 y = true) : pEq f h x y = some (f (eqT x y)) := by
  unfold pEq deep
  rw [toP_T h 23 x hx, toP_T h 23 y hy]
  obtain ⟨a1, a2⟩ := okT_lay _ _ hx
  obtain ⟨b1, b2⟩ := okT_lay _ _ hy
  dsimp only
  rw [if_pos (by unfold SeqAt.shaped; rw [a1, b1, decide_eq_true (show (toT x).depth ≤ 64 by omega), decide_eq_true (show (toT y).depth ≤ 64 by omega)]; rfl), eqT_eqv 23 x y hx hy]
/-- x in a list of such values -/
theorem pIn_T (f : Bool → Bool) {h : List O} {x : D} {ys : List D} (hx : okT 23 x = true) (hy : okTs 22 ys = true) : pIn f h x (.lst ys) = some (f (ys.any fun y => eqT y x)) := by
  obtain ⟨a1, a2⟩ := okT_lay _ _ hx
  obtain ⟨b1, b2⟩ := okTs_lay _ _ hy
  have e2 : toP h deep (.lst ys) = some (.list (toTs ys)) := toP_T h 23 (.lst ys) (by simpa [okT] using hy)
  unfold pIn
  rw [show toP h deep x = _ from toP_T h 23 x hx, e2]
  dsimp only
  rw [if_pos (by
    unfold SeqAt.shaped
    rw [a1, decide_eq_true (show (toT x).depth ≤ 64 by omega), show (PyData.list (toTs ys)).canLay0 = true by simpa [PyData.canLay0] using b1, decide_eq_true (show (PyData.list (toTs ys)).depth ≤ 64 by simp [PyData.depth]; omega)]; rfl)]
  have : ∀ zs : List D, okTs 22 zs = true → ((toTs zs).any fun z => PyData.eqv z (toT x)) = zs.any fun y => eqT y x := by
    intro zs
    induction zs with
    | nil => intro _; rfl
    | cons z zs ih =>
      intro h1
      have h1 := Bool.and_eq_true_iff.mp (show (okT 22 z && okTs 22 zs) = true by simpa [okTs] using h1)
      have up : ∀ (m : Nat), (∀ w : D, okT m w = true → okT (m + 1) w = true) := fun m w hw => okT_up m w hw
      simp only [toTs, List.any_cons, ih h1.2, eqT_eqv 23 z x (up 22 z h1.1) hx]
  rw [this ys hy]
end Ev

/-! One step after the other: what a piece gives, from what its pieces give. -/
namespace Ev
open PySem PySem.Spec PyProof.Rows L2 Dr
section
variable {s s1 s2 : Sg} {h h1 h2 h3 h4 : List O} {x y z v : D} {xs : List D} {b b2 : Bool} {fa fb fc : Sg → M D} {ft fu : Sg → M Bool} {fr : Sg → M (List D)} {f g : Sg → M Out} {R : Tr (Out × List O)} {i j : Nat}
theorem r_seq (e : f s h = .ret (.nx s1, h1)) (k : g s1 h1 = R) : sSeq f g s h = R := by unfold sSeq; rw [M.bind_ap, e]; exact k
theorem r_seq_rt (e : f s h = .ret (.rt x, h1)) : sSeq f g s h = .ret (.rt x, h1) := by unfold sSeq; rw [M.bind_ap, e]; rfl
def seqK (g : Sg → M Out) : Out → List O → Tr (Out × List O)
  | .nx s, h => g s h
  | o, h => .ret (o, h)
theorem r_seqK {o : Out} (e : f s h = .ret (o, h1)) (k : seqK g o h1 = R) : sSeq f g s h = R := by
  unfold sSeq; rw [M.bind_ap, e, ← k]
  cases o <;> rfl
theorem r_seqK_nx (k : g s1 h1 = R) : seqK g (.nx s1) h1 = R := k
theorem r_ifK (e : ft s h = .ret (b, h1)) (k : (if b = true then f s h1 else g s h1) = R) : sIf ft f g s h = R := by unfold sIf; rw [M.bind_ap, e, Tr.bind_ret]; dsimp only; rw [← k]; split <;> rfl
theorem r_tandK (e : ft s h = .ret (b, h1)) (k : (if b = true then fu s h1 else .ret (false, h1)) = .ret (b2, h2)) : tAndF ft fu s h = .ret (b2, h2) := by unfold tAndF; rw [M.bind_ap, e, Tr.bind_ret, ← k]; dsimp only; split <;> rfl
theorem r_torK (e : ft s h = .ret (b, h1)) (k : (if b = true then .ret (true, h1) else fu s h1) = .ret (b2, h2)) : tOrF ft fu s h = .ret (b2, h2) := by unfold tOrF; rw [M.bind_ap, e, Tr.bind_ret, ← k]; dsimp only; split <;> rfl
theorem r_andK (e : fa s h = .ret (.bl b, h1)) (k : (if b = true then fb s h1 else .ret (.bl false, h1)) = .ret (x, h2)) : fAnd fa fb s h = .ret (x, h2) := by unfold fAnd; rw [M.bind_ap, M.bind_ap, e, ← k]; cases b <;> rfl
theorem r_orK (e : fa s h = .ret (.bl b, h1)) (k : (if b = true then .ret (.bl true, h1) else fb s h1) = .ret (x, h2)) : fOr fa fb s h = .ret (x, h2) := by unfold fOr; rw [M.bind_ap, M.bind_ap, e, ← k]; cases b <;> rfl
theorem r_ifxK (e : ft s h = .ret (b, h1)) (k : (if b = true then fa s h1 else fb s h1) = .ret (x, h2)) : fIf ft fa fb s h = .ret (x, h2) := by unfold fIf; rw [M.bind_ap, e, Tr.bind_ret, ← k]; dsimp only; split <;> rfl
theorem r_ift (e : ft s h = .ret (true, h1)) (k : f s h1 = R) : sIf ft f g s h = R := by unfold sIf; rw [M.bind_ap, e, Tr.bind_ret]; exact k
theorem r_iff (e : ft s h = .ret (false, h1)) (k : g s h1 = R) : sIf ft f g s h = R := by unfold sIf; rw [M.bind_ap, e, Tr.bind_ret]; exact k
theorem r_if (e : ft s h = .ret (b, h1)) (k1 : b = true → f s h1 = R) (k2 : b = false → g s h1 = R) : sIf ft f g s h = R := by
  cases b
  · exact r_iff e (k2 rfl)
  · exact r_ift e (k1 rfl)
theorem r_ret (e : fa s h = .ret (x, h1)) : sRet fa s h = .ret (.rt x, h1) := by unfold sRet; rw [M.bind_ap, e]; rfl
theorem r_expr (e : fa s h = .ret (x, h1)) : sExpr fa s h = .ret (.nx s, h1) := by unfold sExpr; rw [M.bind_ap, e]; rfl
theorem r_setN (e : fa s h = .ret (x, h1)) (hs : s.set i (some x) = s1) : sSet i fa s h = .ret (.nx s1, h1) := by subst hs; unfold sSet; rw [M.bind_ap, e]; rfl
theorem r_parN (e : fr s h = .ret ([x, y], h1)) (hs : (s.set i (some x)).set j (some y) = s1) : sPar i j fr s h = .ret (.nx s1, h1) := by subst hs; unfold sPar; rw [M.bind_ap, e]; rfl
theorem r_gtup {n : Nat} {gs : List D → Sg → M Sg} (hl : xs.length = n) (k : gs xs s h = .ret (s1, h1)) : gTupF n gs (.tup xs) s h = .ret (s1, h1) := by unfold gTupF; dsimp only; rw [if_pos hl]; exact k
theorem r_gand {g : D → Sg → M Sg} {gs : List D → Sg → M Sg} (e : g x s h = .ret (s1, h1)) (k : gs xs s1 h1 = .ret (s2, h2)) : gAnd g gs (x :: xs) s h = .ret (s2, h2) := by unfold gAnd; dsimp only; rw [M.bind_ap, e]; exact k
theorem r_gend : gEnd [] s h = .ret (s, h) := rfl
theorem r_gset (hs : s.set i (some x) = s1) : gSet i x s h = .ret (s1, h) := by subst hs; rfl
theorem r_isSet {w : Option D} (k : s.set i w = s1) : s.set i w = s1 := k
theorem r_le0 {n : Nat} : ([] : List D).length ≤ n := Nat.zero_le _
theorem r_leS {n : Nat} (h : xs.length ≤ n) : (x :: xs).length ≤ n + 1 := Nat.succ_le_succ h
theorem r_set (e : fa s h = .ret (x, h1)) : sSet i fa s h = .ret (.nx (s.set i (some x)), h1) := by unfold sSet; rw [M.bind_ap, e]; rfl
theorem r_asg {g : D → Sg → M Sg} (e : fa s h = .ret (x, h1)) (k : g x s h1 = .ret (s1, h2)) : sAsg fa g s h = .ret (.nx s1, h2) := by unfold sAsg; rw [M.bind_ap, e, Tr.bind_ret, M.bind_ap, k]; rfl
theorem r_par (e : fr s h = .ret ([x, y], h1)) : sPar i j fr s h = .ret (.nx ((s.set i (some x)).set j (some y)), h1) := by unfold sPar; rw [M.bind_ap, e]; rfl
theorem r_nx : sNx s h = .ret (.nx s, h) := rfl
/-! expressions -/
theorem r_var (e : s[i]? = some (some x)) : fVar i s h = .ret (x, h) := by unfold fVar; rw [e]
theorem r_c : fC x s h = .ret (x, h) := rfl
theorem r_1 {op : D → M D} (e : fa s h = .ret (x, h1)) (k : op x h1 = .ret (v, h2)) : f1 op fa s h = .ret (v, h2) := by unfold f1; rw [M.bind_ap, e, Tr.bind_ret]; exact k
theorem r_2 {op : D → D → M D} (e : fa s h = .ret (x, h1)) (e2 : fb s h1 = .ret (y, h2)) (k : op x y h2 = .ret (v, h3)) : f2 op fa fb s h = .ret (v, h3) := by
  unfold f2; rw [M.bind_ap, e, Tr.bind_ret, M.bind_ap, e2, Tr.bind_ret]; exact k
theorem r_nil : fNil s h = .ret ([], h) := rfl
theorem r_cons (e : fa s h = .ret (x, h1)) (k : fr s h1 = .ret (xs, h2)) : fCons fa fr s h = .ret (x :: xs, h2) := by unfold fCons; rw [M.bind_ap, e, Tr.bind_ret, M.bind_ap, k]; rfl
theorem r_N {op : List D → M D} (e : fr s h = .ret (xs, h1)) (k : op xs h1 = .ret (v, h2)) : fN op fr s h = .ret (v, h2) := by unfold fN; rw [M.bind_ap, e, Tr.bind_ret]; exact k
theorem r_cmpV {p : Cmp} (e : p h x y = some b) : cmpV p x y h = .ret (.bl b, h) := by unfold cmpV; rw [e]
theorem r_t2 {p : Cmp} (e : fa s h = .ret (x, h1)) (e2 : fb s h1 = .ret (y, h2)) (k : p h2 x y = some b) : t2 p fa fb s h = .ret (b, h2) := by
  unfold t2 cmpB; rw [M.bind_ap, e, Tr.bind_ret, M.bind_ap, e2, Tr.bind_ret]; dsimp only; rw [k]
theorem r_tval (e : fa s h = .ret (.bl b, h1)) : tVal fa s h = .ret (b, h1) := by unfold tVal; rw [M.bind_ap, e]; rfl
theorem r_tnot (e : ft s h = .ret (b, h1)) : tNotF ft s h = .ret (!b, h1) := by unfold tNotF; rw [M.bind_ap, e]; rfl
/-- both sides have no effect on the store -/
theorem r_tand (e : ft s h = .ret (b, h1)) (e2 : b = true → fu s h1 = .ret (b2, h1)) : tAndF ft fu s h = .ret (b && b2, h1) := by
  unfold tAndF; rw [M.bind_ap, e, Tr.bind_ret]
  cases b
  · rfl
  · exact e2 rfl
theorem r_tor (e : ft s h = .ret (b, h1)) (e2 : b = false → fu s h1 = .ret (b2, h1)) : tOrF ft fu s h = .ret (b || b2, h1) := by
  unfold tOrF; rw [M.bind_ap, e, Tr.bind_ret]
  cases b
  · exact e2 rfl
  · rfl
theorem r_and (e : fa s h = .ret (.bl b, h1)) (e2 : b = true → fb s h1 = .ret (.bl b2, h1)) : fAnd fa fb s h = .ret (.bl (b && b2), h1) := by
  unfold fAnd; rw [M.bind_ap, M.bind_ap, e]
  cases b
  · rfl
  · exact e2 rfl
theorem r_or (e : fa s h = .ret (.bl b, h1)) (e2 : b = false → fb s h1 = .ret (.bl b2, h1)) : fOr fa fb s h = .ret (.bl (b || b2), h1) := by
  unfold fOr; rw [M.bind_ap, M.bind_ap, e]
  cases b
  · exact e2 rfl
  · rfl
theorem r_not (e : fa s h = .ret (.bl b, h1)) : fNot fa s h = .ret (.bl (!b), h1) := by unfold fNot; rw [M.bind_ap, M.bind_ap, e]; rfl
theorem r_ifx (e : ft s h = .ret (b, h1)) (k1 : b = true → fa s h1 = .ret (x, h2)) (k2 : b = false → fb s h1 = .ret (y, h2)) : fIf ft fa fb s h = .ret (if b = true then x else y, h2) := by
  unfold fIf; rw [M.bind_ap, e, Tr.bind_ret]
  cases b
  · exact k2 rfl
  · exact k1 rfl
theorem r_tup (e : fr s h = .ret (xs, h1)) (hl : xs.length ≤ 1000000) : fN mkTup fr s h = .ret (.tup xs, h1) := r_N e (if_pos hl)
theorem r_lst (e : fr s h = .ret (xs, h1)) (hl : xs.length ≤ 1000000) : fN mkLst fr s h = .ret (.loc h1.length, h1 ++ [.lst xs]) := r_N e (if_pos hl)
theorem r_fz (e : fr s h = .ret (xs, h1)) (hl : xs.length ≤ 1000000) : fN mkFz fr s h = .ret (.lst xs, h1) := r_N e (if_pos hl)
theorem r_tupc (hl : xs.length ≤ 1000000) : mkTup xs h = .ret (.tup xs, h) := if_pos hl
theorem r_fzc (hl : xs.length ≤ 1000000) : mkFz xs h = .ret (.lst xs, h) := if_pos hl
theorem r_app {n : Nat} {zs : List D} (e : fa s h = .ret (.loc n, h1)) (e1 : h1[n]? = some (.lst zs)) (e2 : fr s h1 = .ret ([y], h2)) (e3 : h2[n]? = some (.lst xs)) (hl : xs.length < 1000000) : fM mAppend fa fr s h = .ret (.non, h2.set n (.lst (xs ++ [y]))) := by
  unfold fM isL lstD
  rw [M.bind_ap, e, Tr.bind_ret, M.bind_ap]
  dsimp only
  rw [e1]
  show ((fr s h1).bind _) = _
  rw [e2, Tr.bind_ret]
  unfold mAppend
  dsimp only
  rw [e3]
  exact if_pos hl
theorem mkF_of {np nn : Nat} {o : Out} (hn : xs.length = np) (e : f (xs.map some ++ List.replicate (nn - xs.length) none) h = .ret (o, h1)) (k : outD o h1 = .ret (v, h2)) : mkF np nn f xs h = .ret (v, h2) := by
  unfold mkF
  rw [if_pos hn, M.bind_ap, e]
  exact k
theorem F_ret {np nn : Nat} {o : Out} {V : D} (hn : xs.length = np) (e : f (xs.map some ++ List.replicate (nn - xs.length) none) h = .ret (o, h1)) (k : outD o h1 = .ret (v, h2)) (hv : v = V) : ∃ g, mkF np nn f xs h = .ret (V, g) := by
  subst hv
  exact ⟨_, mkF_of hn e k⟩
theorem F_retN {np nn : Nat} {o : Out} {V : D} (hn : xs.length = np) (hs : xs.map some ++ List.replicate (nn - xs.length) none = s) (e : f s h = .ret (o, h1)) (k : outD o h1 = .ret (v, h2)) (hv : v = V) : ∃ g, mkF np nn f xs h = .ret (V, g) := by
  subst hv hs
  exact ⟨_, mkF_of hn e k⟩
theorem r_sl {mk : List D → M D} {fl fh : Sg → M (Option Int)} {lo hi : Option Int} (e : fa s h = .ret (x, h1)) (e1 : fl s h1 = .ret (lo, h2)) (e2 : fh s h2 = .ret (hi, h3)) (k : oSl mk x lo hi h3 = .ret (v, h4)) : fSl mk fa fl fh s h = .ret (v, h4) := by
  unfold fSl; rw [M.bind_ap, e, Tr.bind_ret, M.bind_ap, e1, Tr.bind_ret, M.bind_ap, e2, Tr.bind_ret]; exact k
theorem r_no : fNo s h = .ret (none, h) := rfl
theorem r_part {i : Int} (e : fa s h = .ret (.int i, h1)) : fPart fa s h = .ret (some i, h1) := by unfold fPart; rw [M.bind_ap, e]; rfl
theorem r_M {n : Nat} {zs ys : List D} {op : D → List D → M D} (e : fa s h = .ret (.loc n, h1)) (e1 : h1[n]? = some (.lst zs)) (e2 : fr s h1 = .ret (ys, h2)) (k : op (.loc n) ys h2 = .ret (v, h3)) : fM op fa fr s h = .ret (v, h3) := by
  unfold fM isL lstD
  rw [M.bind_ap, e, Tr.bind_ret, M.bind_ap]
  dsimp only
  rw [e1]
  show ((fr s h1).bind _) = _
  rw [e2, Tr.bind_ret]
  exact k
theorem r_aug {op : D → D → M D} (e0 : s[i]? = some (some x)) (e : fa s h = .ret (y, h1)) (k : op x y h1 = .ret (z, h2)) (hs : s.set i (some z) = s1) : sAug i op fa s h = .ret (.nx s1, h2) := by
  subst hs
  unfold sAug
  rw [e0]
  dsimp only
  rw [M.bind_ap, e, Tr.bind_ret, M.bind_ap, k]
  rfl
theorem r_chainK {p q : Cmp} (e : fa s h = .ret (x, h1)) (e2 : fb s h1 = .ret (y, h2)) (k : p h2 x y = some b) (kk : (if b = true then M.bind (fc s) (fun z => cmpV q y z) h2 else .ret (.bl false, h2)) = .ret (v, h3)) : fChain p q fa fb fc s h = .ret (v, h3) := by
  unfold fChain
  rw [M.bind_ap, e, Tr.bind_ret, M.bind_ap, e2, Tr.bind_ret, ← kk]
  unfold cmpB
  rw [M.bind_ap]
  dsimp only
  rw [k, Tr.bind_ret]
  cases b <;> rfl
theorem r_bind2 {q : Cmp} (e : fc s h = .ret (z, h1)) (k : cmpV q y z h1 = .ret (v, h2)) : M.bind (fc s) (fun z => cmpV q y z) h = .ret (v, h2) := by rw [M.bind_ap, e]; exact k
theorem r_tchain {p q : Cmp} (e : fChain p q fa fb fc s h = .ret (.bl b, h1)) : tChainF p q fa fb fc s h = .ret (b, h1) := by unfold tChainF; rw [M.bind_ap, e]; rfl
theorem r_fld {k : Nat} {fo fv : Sg → M D} {n : Nat} {fs : List D} {h4 : List O} (e1 : fv s h = .ret (y, h1)) (e2 : fo s h1 = .ret (.loc n, h2)) (e3 : h2[n]? = some (.ins k fs)) (e4 : fs.length = i) (e5 : h2.set n (.ins k (fs ++ [y])) = h4) : sFldF k i fo fv s h = .ret (.nx s, h4) := by
  subst e5
  unfold sFldF
  rw [M.bind_ap, e1, Tr.bind_ret, M.bind_ap, e2, Tr.bind_ret]
  dsimp only
  rw [e3]
  dsimp only
  rw [if_pos rfl, show putN fs i y = some (fs ++ [y]) by unfold putN; rw [if_neg (by omega), if_pos e4.symm]]
theorem r_pure {F : List D → M D} (e : fr s h = .ret (xs, h1)) (k : oPure F xs h1 = .ret (v, h2)) : fN (oPure F) fr s h = .ret (v, h2) := r_N e k
theorem r_if2 {g' : Sg → M Out} : sIf ft f g' s h = (ft s h).bind fun r => if r.1 = true then f s r.2 else g' s r.2 := by
  unfold sIf; rw [M.bind_ap]; congr 1; funext r; split <;> rfl
theorem F_retX {np nn : Nat} {o : Out} {V : D} {H : List O} (hn : xs.length = np) (hs : xs.map some ++ List.replicate (nn - xs.length) none = s) (e : f s h = .ret (o, h1)) (k : outD o h1 = .ret (v, h2)) (hv : v = V) (hh : h2 = H) : mkF np nn f xs h = .ret (V, H) := by
  subst hv hs hh
  exact mkF_of hn e k
end
end Ev

/-! Comprehensions and loops over lists of a type. -/
namespace Ev
open PySem PySem.Spec PyProof.Rows L2 Dr
/-- what is walked is known, whatever the store -/
structure Sr {α : Type} (m : Tr (Src × List O)) (h1 : List O) (ys : List α) (e : Nat → α → D) : Prop where
  ex : ∃ S : Src, m = .ret (S, h1) ∧ S.fuel = ys.length ∧ ∀ i h, S.get i h = some ((ys[i]?).map (e i))
section
variable {α : Type} {vs : List Nat} {fi : Sg → M Src} {fa : Sg → M D} {g : D → Sg → M Sg} {ft : Sg → M Bool} {fe : Sg → M D} {s : Sg} {h h1 : List O}
theorem sr_tup {xs : List D} (ys : List α) (e : α → D) (ha : fa s h = .ret (.tup xs, h1)) (hx : xs = ys.map e) : Sr (fSrc noF fa s h) h1 ys fun _ => e := by
  subst hx
  refine ⟨⟨(ys.map e).length, getT noF (ys.map e)⟩, ?_, by simp, fun i h => by show getT noF (ys.map e) i h = _; unfold getT noF; rw [List.getElem?_map]; cases ys[i]? <;> rfl⟩
  unfold fSrc
  rw [M.bind_ap, ha]
  rfl
theorem sr_lst {xs : List D} (ys : List α) (e : α → D) (ha : fa s h = .ret (.lst xs, h1)) (hx : xs = ys.map e) : Sr (fSrc noF fa s h) h1 ys fun _ => e := by
  subst hx
  refine ⟨⟨(ys.map e).length, getT noF (ys.map e)⟩, ?_, by simp, fun i h => by show getT noF (ys.map e) i h = _; unfold getT noF; rw [List.getElem?_map]; cases ys[i]? <;> rfl⟩
  unfold fSrc
  rw [M.bind_ap, ha]
  rfl
theorem sr_tupE {xs : List D} (ys : List α) (e : α → D) (ha : fa s h = .ret (.tup xs, h1)) (hx : xs = ys.map e) : Sr (fSrc enF fa s h) h1 ys fun i y => .tup [.int (i : Nat), e y] := by
  subst hx
  refine ⟨⟨(ys.map e).length, getT enF (ys.map e)⟩, ?_, by simp, fun i h => by show getT enF (ys.map e) i h = _; unfold getT enF; rw [List.getElem?_map]; cases ys[i]? <;> rfl⟩
  unfold fSrc
  rw [M.bind_ap, ha]
  rfl
theorem sr_lstE {xs : List D} (ys : List α) (e : α → D) (ha : fa s h = .ret (.lst xs, h1)) (hx : xs = ys.map e) : Sr (fSrc enF fa s h) h1 ys fun i y => .tup [.int (i : Nat), e y] := by
  subst hx
  refine ⟨⟨(ys.map e).length, getT enF (ys.map e)⟩, ?_, by simp, fun i h => by show getT enF (ys.map e) i h = _; unfold getT enF; rw [List.getElem?_map]; cases ys[i]? <;> rfl⟩
  unfold fSrc
  rw [M.bind_ap, ha]
  rfl
theorem sr_rng {j : Nat} {z : Int} (ha : fa s h = .ret (.int z, h1)) (hz : z = (j : Nat)) (hl : j ≤ 1000000) : Sr ((fun s => M.bind (fa s) srcR1) s h) h1 (List.range j) fun _ (i : Nat) => .int (i : Nat) := by
  subst hz
  refine ⟨⟨j, getR 0 j⟩, ?_, by simp, fun i h => by
    show getR 0 j i h = _
    unfold getR
    by_cases q : i < j
    · rw [if_pos q, List.getElem?_range q]; simp
    · rw [if_neg q, List.getElem?_eq_none (by simpa using q)]; rfl⟩
  dsimp only
  rw [M.bind_ap, ha, Tr.bind_ret]
  show srcR1 (D.int (j : Nat)) h1 = _
  unfold srcR1
  dsimp only
  rw [if_pos (by omega), Int.toNat_natCast]
theorem r_itet {c : Prop} [Decidable c] {β : Type} {a b R : β} (hc : c) (k : a = R) : (if c then a else b) = R := by rw [if_pos hc]; exact k
theorem r_itef {c : Prop} [Decidable c] {β : Type} {a b R : β} (hc : ¬ c) (k : b = R) : (if c then a else b) = R := by rw [if_neg hc]; exact k
theorem body_some {x y : D} {s1 : Sg} {h2 h3 : List O} (e1 : g x s h = .ret (s1, h1)) (e2 : ft s1 h1 = .ret (true, h2)) (e3 : fe s1 h2 = .ret (y, h3)) : cBody s g ft fe x h = .ret (some y, h3) := by
  unfold cBody
  rw [M.bind_ap, e1, Tr.bind_ret, M.bind_ap, e2, Tr.bind_ret]
  dsimp only
  rw [if_pos rfl, M.bind_ap, e3]
  rfl
theorem body_none {x : D} {s1 : Sg} {h2 : List O} (e1 : g x s h = .ret (s1, h1)) (e2 : ft s1 h1 = .ret (false, h2)) : cBody s g ft fe x h = .ret (none, h2) := by
  unfold cBody
  rw [M.bind_ap, e1, Tr.bind_ret, M.bind_ap, e2]
  rfl
theorem comp_runT {get : Nat → List O → Option (Option D)} {body : D → M (Option D)} {ys : List α} {e : Nat → α → D} {φ : Nat → α → Option D}
    (hg : ∀ i h, get i h = some ((ys[i]?).map (e i))) (hb : ∀ i y, ys[i]? = some y → body (e i y) h = .ret (φ i y, h)) :
    ∀ (k i : Nat) (acc : List D), i + k = ys.length → acc.length + k ≤ lim → comp get body k i acc h = .ret (acc ++ ((ys.drop i).zipIdx i).filterMap fun p => φ p.2 p.1, h)
  | 0, i, acc, e, _ => by
    have : ys[i]? = none := List.getElem?_eq_none (by omega)
    simp only [comp, hg, this, Option.map_none]
    rw [List.drop_of_length_le (by omega)]
    simp
  | k + 1, i, acc, ee, hl => by
    have hi : i < ys.length := by omega
    have he : ys[i]? = some ys[i] := List.getElem?_eq_getElem hi
    simp only [comp, hg, he, Option.map_some]
    rw [hb i _ he, Tr.bind_ret]
    rw [List.drop_eq_getElem_cons hi, List.zipIdx_cons]
    cases q : φ i ys[i] with
    | none =>
      dsimp only
      rw [comp_runT hg hb k (i + 1) acc (by omega) (by omega), List.filterMap_cons_none (by exact q)]
    | some y =>
      dsimp only
      rw [if_pos (by omega), comp_runT hg hb k (i + 1) (acc ++ [y]) (by omega) (by simp; omega), List.filterMap_cons_some (by exact q)]
      simp
theorem zipIdx_fm (φ : α → Option D) : ∀ (ys : List α) (i : Nat), ((ys.zipIdx i).filterMap fun p => φ p.1) = ys.filterMap φ
  | [], _ => rfl
  | y :: ys, i => by
    rw [List.zipIdx_cons, List.filterMap_cons, List.filterMap_cons, zipIdx_fm φ ys (i + 1)]
/-- a comprehension, its items by place -/
theorem lcI {ys : List α} {e : Nat → α → D} (φ : Nat → α → Option D) (hs : Sr (fi s h) h1 ys e) (hl : ys.length ≤ 1000000) (hb : ∀ i y, ys[i]? = some y → cBody (wipeS s vs) g ft fe (e i y) h1 = .ret (φ i y, h1)) :
    fLc vs fi g ft fe s h = .ret (.lst (ys.zipIdx.filterMap fun p => φ p.2 p.1), h1) := by
  obtain ⟨S, e1, e2, e3⟩ := hs.ex
  unfold fLc
  rw [M.bind_ap, e1, Tr.bind_ret]
  dsimp only
  rw [e2, comp_runT e3 hb ys.length 0 [] (by omega) (by simpa [lim] using hl)]
  simp [Tr.calm, Tr.bind]
/-- .. by their values -/
theorem lcV {ys : List α} {e : α → D} (φ : α → Option D) (hs : Sr (fi s h) h1 ys fun _ => e) (hl : ys.length ≤ 1000000) (hb : ∀ y, y ∈ ys → cBody (wipeS s vs) g ft fe (e y) h1 = .ret (φ y, h1)) :
    fLc vs fi g ft fe s h = .ret (.lst (ys.filterMap φ), h1) := by
  rw [lcI (fun _ => φ) hs hl fun i y hy => hb y (List.mem_of_getElem? hy), zipIdx_fm φ ys 0]
/-- every item gives one -/
theorem lcM {ys : List α} {e : α → D} (φ : α → D) (hs : Sr (fi s h) h1 ys fun _ => e) (hl : ys.length ≤ 1000000) (hb : ∀ y, y ∈ ys → cBody (wipeS s vs) g ft fe (e y) h1 = .ret (some (φ y), h1)) :
    fLc vs fi g ft fe s h = .ret (.lst (ys.map φ), h1) := by
  rw [lcV (fun y => some (φ y)) hs hl hb, List.filterMap_eq_map']
/-! ### loops -/
theorem ex_step {P : Out → List O → Prop} {X : Tr (Out × List O)} {o : Out} {h' : List O} (e : X = .ret (o, h')) (q : P o h') : ∃ o h', X = .ret (o, h') ∧ P o h' := ⟨o, h', e, q⟩
theorem loop_inv {get : Nat → List O → Option (Option D)} {body : D → Sg → M Out} {ys : List α} {e : Nat → α → D} (I : Nat → Sg → List O → Prop) (Z : Out × List O → Prop)
    (hg : ∀ i h, get i h = some ((ys[i]?).map (e i)))
    (hb : ∀ i y s h, ys[i]? = some y → I i s h → ∃ o h', body (e i y) s h = .ret (o, h') ∧ match o with
      | .nx s' => I (i + 1) s' h'
      | .ct s' => I (i + 1) s' h'
      | .bk s' => Z (.nx s', h')
      | .rt v => Z (.rt v, h'))
    (hz : ∀ s h, I ys.length s h → Z (.nx s, h)) :
    ∀ (k i : Nat) (s : Sg) (h : List O), i + k = ys.length → I i s h → ∃ r, loop get body k i s h = .ret r ∧ Z r
  | 0, i, s, h, e, hi => by
    have e : i = ys.length := by omega
    subst e
    have : ys[ys.length]? = none := List.getElem?_eq_none (Nat.le_refl _)
    exact ⟨_, by simp only [loop, hg, this, Option.map_none], hz _ _ hi⟩
  | k + 1, i, s, h, ee, hi => by
    have hl : i < ys.length := by omega
    have he : ys[i]? = some ys[i] := List.getElem?_eq_getElem hl
    obtain ⟨o, h', e1, q⟩ := hb i _ s h he hi
    simp only [loop, hg, he, Option.map_some]
    rw [e1, Tr.bind_ret]
    cases o with
    | nx s' => exact loop_inv I Z hg hb hz k (i + 1) s' h' (by omega) q
    | ct s' => exact loop_inv I Z hg hb hz k (i + 1) s' h' (by omega) q
    | bk s' => exact ⟨_, rfl, q⟩
    | rt v => exact ⟨_, rfl, q⟩
theorem forI {fb : Sg → M Out} {ys : List α} {e : Nat → α → D} (I : Nat → Sg → List O → Prop) (Z : Out × List O → Prop) (hs : Sr (fi s h) h1 ys e) (h0 : I 0 s h1)
    (hb : ∀ i y s h, ys[i]? = some y → I i s h → ∃ o h', M.bind (g (e i y) s) fb h = .ret (o, h') ∧ match o with
      | .nx s' => I (i + 1) s' h'
      | .ct s' => I (i + 1) s' h'
      | .bk s' => Z (.nx s', h')
      | .rt v => Z (.rt v, h'))
    (hz : ∀ s h, I ys.length s h → Z (.nx s, h)) : ∃ r, sFor fi g fb s h = .ret r ∧ Z r := by
  obtain ⟨S, e1, e2, e3⟩ := hs.ex
  unfold sFor
  rw [M.bind_ap, e1, Tr.bind_ret]
  dsimp only
  rw [e2]
  exact loop_inv I Z e3 hb hz ys.length 0 s h1 (by omega) h0
end
end Ev
namespace Ev
open PySem PySem.Spec PyProof.Rows L2 Dr
theorem mapO_nl {g : List O} {n : Nat} : ∀ {xs : List D}, noLs xs = true → mapO (frz g (n + 1)) xs = some xs
  | [], _ => rfl
  | x :: xs, h => by
    have h := Bool.and_eq_true_iff.mp (show (noL x && noLs xs) = true by simpa [noLs] using h)
    simp only [mapO, frz_noL h.1, mapO_nl h.2]
theorem frz_lst {g : List O} {m : Nat} {xs : List D} (h : g[m]? = some (.lst xs)) (hx : noLs xs = true) : ∀ n : Nat, frz g (n + 2) (.loc m) = some (.lst xs) := fun n => by
  rw [frz]
  rw [if_neg (by simp [noL])]
  simp only [h, mapO_nl hx]
end Ev

namespace Und
open PySem PySem.Spec PyProof.Rows L2 Dr Ev
def fl0 : List Str := ["_way", "_still", "_hold", "_pins", "_guard"]
def fl1 : List Str := ["_rule", "_room", "_top", "_many", "_goes", "_lag"]
abbrev ncheck_house : List Str := ["value", "part"]
def bcheck_house : Sg → M Out :=
  (sIf (tNotF (tVal (f1 (isI (.cls 1)) (fVar 0)))) sBad sNx)
def Fcheck_house : List D → M D := mkF 2 2 bcheck_house
abbrev nis_number : List Str := ["value"]
def bis_number : Sg → M Out :=
  (sRet (fAnd (f1 (isI .int) (fVar 0)) (fNot (f1 (isI .bl) (fVar 0)))))
def Fis_number : List D → M D := mkF 1 1 bis_number
abbrev nis_number_within : List Str := ["value", "least", "most"]
def bis_number_within : Sg → M Out :=
  (sRet (fAnd (fN (oPure Fis_number) (fCons (fVar 0) fNil)) (fChain (pI fun i j => decide (i ≤ j)) (pI fun i j => decide (i ≤ j)) (fVar 1) (fVar 0) (fVar 2))))
def Fis_number_within : List D → M D := mkF 3 3 bis_number_within
abbrev nare_ranks : List Str := ["house", "thing", "most", "rank"]
def bare_ranks : Sg → M Out :=
  (sSeq (sIf (tOrF (tNotF (tVal (f1 (isI .tup) (fVar 1)))) (t2 (pI fun i j => decide (j < i)) (fN oLenA (fCons (fVar 1) fNil)) (fVar 2))) (sRet (fC (.bl false))) sNx)
  (sRet (fN (oBls fun bs => bs.all id) (fCons (fLc [3] (fSrc noF (fVar 1)) (gSet 3) tTrue (fN (oPure Fis_number_within) (fCons (fVar 3) (fCons (fC (.int 0)) (fCons (f1 (oFld 1 2) (fVar 0)) fNil))))) fNil))))
def Fare_ranks : List D → M D := mkF 3 4 bare_ranks
abbrev nis_look : List Str := ["house", "thing", "many", "age", "place", "spot"]
def bis_look : Sg → M Out :=
  (sSeq (sIf (tOrF (tNotF (tVal (f1 (isI .tup) (fVar 1)))) (t2 (pInA true) (fN oLenA (fCons (fVar 1) fNil)) (fN mkTup (fCons (fC (.int 0)) (fCons (fC (.int 3)) fNil))))) (sRet (fC (.bl false))) sNx)
  (sSeq (sIf (t2 (pEq fun b => b) (fVar 1) (fN mkTup fNil)) (sRet (fC (.bl true))) sNx)
  (sSeq (sAsg (fVar 1) (gTupF 3 (gAnd (gSet 3) (gAnd (gSet 4) (gAnd (gSet 5) gEnd)))))
  (sRet (fAnd (fN (oPure Fis_number_within) (fCons (fVar 3) (fCons (fC (.int 0)) (fCons (f2 (oI (fun _ _ => true) fun i j => i - j) (f2 oGet (f1 (oFld 1 5) (fVar 0)) (fC (.int 1))) (fC (.int 1))) fNil)))) (fAnd (fN (oPure Fis_number_within) (fCons (fVar 4) (fCons (fC (.int 0)) (fCons (f2 (oI (fun _ _ => true) fun i j => i - j) (f1 (oFld 1 1) (fVar 0)) (fC (.int 1))) fNil)))) (fN (oPure Fis_number_within) (fCons (fVar 5) (fCons (f1 oNeg (fC (.int 1))) (fCons (f2 (oI (fun _ _ => true) fun i j => i - j) (fVar 2) (fC (.int 1))) fNil))))))))))
def Fis_look : List D → M D := mkF 3 6 bis_look
abbrev nis_item : List Str := ["house", "thing", "rank", "is_gone", "stood"]
def bis_item : Sg → M Out :=
  (sSeq (sIf (tOrF (tNotF (tVal (f1 (isI .tup) (fVar 1)))) (t2 (pEq fun b => !b) (fN oLenA (fCons (fVar 1) fNil)) (fC (.int 3)))) (sRet (fC (.bl false))) sNx)
  (sSeq (sAsg (fVar 1) (gTupF 3 (gAnd (gSet 2) (gAnd (gSet 3) (gAnd (gSet 4) gEnd)))))
  (sSeq (sIf (tOrF (tNotF (tVal (f1 (isI .bl) (fVar 3)))) (tAndF (tVal (fVar 3)) (tNotF (tVal (f1 (oFld 1 4) (fVar 0)))))) (sRet (fC (.bl false))) sNx)
  (sRet (fAnd (fN (oPure Fis_number_within) (fCons (fVar 2) (fCons (fC (.int 0)) (fCons (f1 (oFld 1 2) (fVar 0)) fNil)))) (fN (oPure Fis_number_within) (fCons (fVar 4) (fCons (fC (.int 0)) (fCons (f1 (oFld 0 4) (f1 (oFld 1 0) (fVar 0))) fNil)))))))))
def Fis_item : List D → M D := mkF 2 5 bis_item
abbrev nis_standing : List Str := ["house", "thing", "shown", "waiting", "quiet", "look", "item"]
def bis_standing : Sg → M Out :=
  (sSeq (sExpr (fN (fun xs => oPure Fcheck_house (xs ++ [(.str "house")])) (fCons (fVar 0) fNil)))
  (sSeq (sIf (tOrF (tNotF (tVal (f1 (isI .tup) (fVar 1)))) (t2 (pEq fun b => !b) (fN oLenA (fCons (fVar 1) fNil)) (fC (.int 4)))) (sRet (fC (.bl false))) sNx)
  (sSeq (sAsg (fVar 1) (gTupF 4 (gAnd (gSet 2) (gAnd (gSet 3) (gAnd (gSet 4) (gAnd (gSet 5) gEnd))))))
  (sSeq (sIf (tOrF (tNotF (tVal (f1 (isI .tup) (fVar 2)))) (t2 (pI fun i j => decide (j < i)) (fN oLenA (fCons (fVar 2) fNil)) (f1 (oFld 1 1) (fVar 0)))) (sRet (fC (.bl false))) sNx)
  (sRet (fAnd (fN (oBls fun bs => bs.all id) (fCons (fLc [6] (fSrc noF (fVar 2)) (gSet 6) tTrue (fN (oPure Fis_item) (fCons (fVar 0) (fCons (fVar 6) fNil)))) fNil)) (fAnd (fN (oPure Fare_ranks) (fCons (fVar 0) (fCons (fVar 3) (fCons (f1 (oFld 1 3) (fVar 0)) fNil)))) (fAnd (fN (oPure Fis_number_within) (fCons (fVar 4) (fCons (fC (.int 0)) (fCons (f1 (oFld 0 1) (f1 (oFld 1 0) (fVar 0))) fNil)))) (fN (oPure Fis_look) (fCons (fVar 0) (fCons (fVar 5) (fCons (fN oLenA (fCons (fVar 2) fNil)) fNil))))))))))))
def Fis_standing : List D → M D := mkF 2 7 bis_standing
abbrev ncheck_standing : List Str := ["house", "standing"]
def bcheck_standing : Sg → M Out :=
  (sIf (tNotF (tVal (fN (oPure Fis_standing) (fCons (fVar 0) (fCons (fVar 1) fNil))))) sBad sNx)
def Fcheck_standing : List D → M D := mkF 2 2 bcheck_standing
abbrev nchanged : List Str := ["standing", "change", "shown", "waiting", "place", "rank", "is_gone", "stood"]
def bchanged : Sg → M Out :=
  (sSeq (sAsg (fSl mkFz (fVar 0) fNo (fPart (fC (.int 2)))) (gTupF 2 (gAnd (gSet 2) (gAnd (gSet 3) gEnd))))
  (sSeq (sIf (t2 (pEq fun b => b) (f2 oGet (fVar 1) (fC (.int 0))) (fC (.str "come"))) (sRet (fN mkTup (fCons (fVar 2) (fCons (f2 (oAdd mkFz) (fVar 3) (fN mkTup (fCons (f2 oGet (fVar 1) (fC (.int 1))) fNil))) fNil)))) sNx)
  (sSeq (sIf (t2 (pEq fun b => b) (f2 oGet (fVar 1) (fC (.int 0))) (fC (.str "go"))) (sSeq (sSet 4 (f2 oGet (fVar 1) (fC (.int 1))))
  (sSeq (sAsg (f2 oGet (fVar 2) (fVar 4)) (gTupF 3 (gAnd (gSet 5) (gAnd (gSet 6) (gAnd (gSet 7) gEnd)))))
  (sRet (fN mkTup (fCons (f2 (oAdd mkFz) (f2 (oAdd mkFz) (fSl mkFz (fVar 2) fNo (fPart (fVar 4))) (fN mkTup (fCons (fN mkTup (fCons (fVar 5) (fCons (fC (.bl true)) (fCons (fVar 7) fNil)))) fNil))) (fSl mkFz (fVar 2) (fPart (f2 (oAdd mkFz) (fVar 4) (fC (.int 1)))) fNo)) (fCons (fVar 3) fNil)))))) sNx)
  (sRet (fN mkTup (fCons (fVar 2) (fCons (fVar 3) fNil)))))))
def Fchanged : List D → M D := mkF 2 8 bchanged
abbrev nmust_draw : List Str := ["rule", "shown", "waiting", "quiet", "look", "rank", "is_gone", "stood"]
def bmust_draw : Sg → M Out :=
  (sSeq (sIf (tOrF (t2 (pI fun i j => decide (i < j)) (fVar 3) (f1 (oFld 0 1) (fVar 0))) (tAndF (t2 (pEq fun b => !b) (fVar 4) (fN mkTup fNil)) (t2 (pI fun i j => decide (i < j)) (f2 oGet (fVar 4) (fC (.int 0))) (f1 (oFld 0 2) (fVar 0))))) (sRet (fC (.bl false))) sNx)
  (sRet (fOr (f2 (cmpV (pEq fun b => !b)) (fVar 2) (fN mkTup fNil)) (fN (oBls fun bs => bs.any id) (fCons (fLc [5, 6, 7] (fSrc noF (fVar 1)) (gTupF 3 (gAnd (gSet 5) (gAnd (gSet 6) (gAnd (gSet 7) gEnd)))) tTrue (fVar 6)) fNil)))))
def Fmust_draw : List D → M D := mkF 5 8 bmust_draw
abbrev nundrawn_rows : List Str := ["shown", "place", "rank", "is_gone", "stood"]
def bundrawn_rows : Sg → M Out :=
  (sRet (fLc [1, 2, 3, 4] (fSrc enF (fVar 0)) (gTupF 2 (gAnd (gSet 1) (gAnd (gTupF 3 (gAnd (gSet 2) (gAnd (gSet 3) (gAnd (gSet 4) gEnd)))) gEnd))) tTrue (fN mkTup (fCons (fVar 2) (fCons (fVar 3) (fCons (fVar 1) fNil))))))
def Fundrawn_rows : List D → M D := mkF 1 5 bundrawn_rows
abbrev nplace_by_way : List Str := ["way", "ranks", "rank", "place", "other"]
def bplace_by_way : Sg → M Out :=
  (sSeq (sIf (t2 (pEq fun b => b) (fVar 0) (fC (.str "front"))) (sRet (fC (.int 0))) sNx)
  (sSeq (sIf (t2 (pEq fun b => b) (fVar 0) (fC (.str "rank"))) (sFor (fSrc enF (fVar 1)) (gTupF 2 (gAnd (gSet 3) (gAnd (gSet 4) gEnd))) (sIf (t2 (pI fun i j => decide (j < i)) (fVar 4) (fVar 2)) (sRet (fVar 3)) sNx)) sNx)
  (sRet (fN oLenA (fCons (fVar 1) fNil)))))
def Fplace_by_way : List D → M D := mkF 3 5 bplace_by_way
abbrev nplace_for : List Str := ["rule", "ranks", "rank"]
def bplace_for : Sg → M Out :=
  (sRet (fN (o2I fun i j => if j > i then j else i) (fCons (fN (oPure Fplace_by_way) (fCons (f1 (oFld 0 0) (fVar 0)) (fCons (fVar 1) (fCons (fVar 2) fNil)))) (fCons (fN (o2I fun i j => if j < i then j else i) (fCons (f1 (oFld 0 3) (fVar 0)) (fCons (fN oLenA (fCons (fVar 1) fNil)) fNil))) fNil))))
def Fplace_for : List D → M D := mkF 3 3 bplace_for
abbrev ndrawn_rows : List Str := ["house", "shown", "waiting", "rows", "rank", "row"]
def bdrawn_rows : Sg → M Out :=
  (sSeq (sSet 3 (fLcL [5] (fSrc noF (fN (oPure Fundrawn_rows) (fCons (fVar 1) fNil))) (gSet 5) (tNotF (tVal (f2 oGet (fVar 5) (fC (.int 1))))) (fVar 5)))
  (sSeq (sFor (fSrc noF (fVar 2)) (gSet 4) (sSeq (sExpr (fM mInsert (fVar 3) (fCons (fN (oPure Fplace_for) (fCons (f1 (oFld 1 0) (fVar 0)) (fCons (fLc [5] (fSrc noF (fVar 3)) (gSet 5) tTrue (f2 oGet (fVar 5) (fC (.int 0)))) (fCons (fVar 4) fNil)))) (fCons (fN mkTup (fCons (fVar 4) (fCons (fC (.bl false)) (fCons (fC .non) fNil)))) fNil))))
  (sSet 3 (fSl mkLst (fVar 3) fNo (fPart (f1 (oFld 1 1) (fVar 0)))))))
  (sRet (fVar 3))))
def Fdrawn_rows : List D → M D := mkF 3 6 bdrawn_rows
abbrev nstood_on : List Str := ["rule", "shown", "rows", "items", "place", "rank", "is_gone", "before", "stood"]
def bstood_on : Sg → M Out :=
  (sSeq (sSet 3 (fN mkLst fNil))
  (sSeq (sFor (fSrc enF (fVar 2)) (gTupF 2 (gAnd (gSet 4) (gAnd (gTupF 3 (gAnd (gSet 5) (gAnd (gSet 6) (gAnd (gSet 7) gEnd)))) gEnd))) (sSeq (sSet 8 (fIf (t2 (pEq fun b => b) (fVar 7) (fVar 4)) (fN (o2I fun i j => if j < i then j else i) (fCons (f2 (oAdd mkFz) (f2 oGet (f2 oGet (fVar 1) (fVar 4)) (fC (.int 2))) (fC (.int 1))) (fCons (f1 (oFld 0 4) (fVar 0)) fNil))) (fC (.int 0))))
  (sExpr (fM mAppend (fVar 3) (fCons (fN mkTup (fCons (fVar 5) (fCons (fVar 6) (fCons (fVar 8) fNil)))) fNil)))))
  (sRet (fN oTuple (fCons (fVar 3) fNil)))))
def Fstood_on : List D → M D := mkF 3 9 bstood_on
abbrev nfollowed : List Str := ["look", "rows", "age", "place", "spot", "befores", "row"]
def bfollowed : Sg → M Out :=
  (sSeq (sIf (t2 (pEq fun b => b) (fVar 0) (fN mkTup fNil)) (sRet (fN mkTup fNil)) sNx)
  (sSeq (sAsg (fVar 0) (gTupF 3 (gAnd (gSet 2) (gAnd (gSet 3) (gAnd (gSet 4) gEnd)))))
  (sSeq (sSet 5 (fLc [6] (fSrc noF (fVar 1)) (gSet 6) tTrue (f2 oGet (fVar 6) (fC (.int 2)))))
  (sRet (fN mkTup (fCons (f2 (oAdd mkFz) (fVar 2) (fC (.int 1))) (fCons (fVar 3) (fCons (fIf (t2 (pInA false) (fVar 4) (fVar 5)) (fM mIndex (fVar 5) (fCons (fVar 4) fNil)) (f1 oNeg (fC (.int 1)))) fNil))))))))
def Ffollowed : List D → M D := mkF 2 7 bfollowed
abbrev nsettled_at : List Str := ["house", "standing", "change", "rule", "quiet", "look", "shown", "waiting", "rows"]
def bsettled_at : Sg → M Out :=
  (sSeq (sSet 3 (f1 (oFld 1 0) (fVar 0)))
  (sSeq (sAsg (fSl mkFz (fVar 1) (fPart (fC (.int 2))) fNo) (gTupF 2 (gAnd (gSet 4) (gAnd (gSet 5) gEnd))))
  (sSeq (sAsg (fN (oPure Fchanged) (fCons (fVar 1) (fCons (fVar 2) fNil))) (gTupF 2 (gAnd (gSet 6) (gAnd (gSet 7) gEnd))))
  (sSeq (sIf (tVal (fN (oPure Fmust_draw) (fCons (fVar 3) (fCons (fVar 6) (fCons (fVar 7) (fCons (fVar 4) (fCons (fVar 5) fNil))))))) (sSeq (sSet 8 (fN (oPure Fdrawn_rows) (fCons (fVar 0) (fCons (fVar 6) (fCons (fVar 7) fNil)))))
  (sSeq (sSet 7 (fN mkTup fNil))
  (sSet 4 (fC (.int 0))))) (sSeq (sSet 8 (fN (oPure Fundrawn_rows) (fCons (fVar 6) fNil)))
  (sSet 4 (fN (o2I fun i j => if j < i then j else i) (fCons (f2 (oAdd mkFz) (fVar 4) (fC (.int 1))) (fCons (f1 (oFld 0 1) (fVar 3)) fNil))))))
  (sRet (fN mkTup (fCons (fN (oPure Fstood_on) (fCons (fVar 3) (fCons (fVar 6) (fCons (fVar 8) fNil)))) (fCons (fVar 7) (fCons (fVar 4) (fCons (fN (oPure Ffollowed) (fCons (fVar 5) (fCons (fVar 8) fNil))) fNil))))))))))
def Fsettled_at : List D → M D := mkF 3 9 bsettled_at
abbrev noutcome_of : List Str := ["rule", "shown", "look", "age", "place", "spot", "rank", "is_gone", "stood"]
def boutcome_of : Sg → M Out :=
  (sSeq (sAsg (fVar 2) (gTupF 3 (gAnd (gSet 3) (gAnd (gSet 4) (gAnd (gSet 5) gEnd)))))
  (sSeq (sIf (t2 (pI fun i j => decide (j ≤ i)) (fVar 4) (fN oLenA (fCons (fVar 1) fNil))) (sRet (fC (.str "empty"))) sNx)
  (sSeq (sAsg (f2 oGet (fVar 1) (fVar 4)) (gTupF 3 (gAnd (gSet 6) (gAnd (gSet 7) (gAnd (gSet 8) gEnd)))))
  (sSeq (sIf (t2 (pI fun i j => decide (i < j)) (fVar 8) (f1 (oFld 0 4) (fVar 0))) (sRet (fC (.str "back"))) sNx)
  (sSeq (sIf (tVal (fVar 7)) (sRet (fC (.str "gone"))) sNx)
  (sRet (fIf (t2 (pEq fun b => b) (fVar 5) (fVar 4)) (fC (.str "right")) (fC (.str "other")))))))))
def Foutcome_of : List D → M D := mkF 3 9 boutcome_of
abbrev nhandled : List Str := ["rule", "settled", "hand", "shown", "waiting", "quiet", "look"]
def bhandled : Sg → M Out :=
  (sSeq (sAsg (fVar 1) (gTupF 4 (gAnd (gSet 3) (gAnd (gSet 4) (gAnd (gSet 5) (gAnd (gSet 6) gEnd))))))
  (sSeq (sIf (t2 (pEq fun b => b) (f2 oGet (fVar 2) (fC (.int 0))) (fC (.str "look"))) (sRet (fN mkTup (fCons (fN mkTup (fCons (fVar 3) (fCons (fVar 4) (fCons (fVar 5) (fCons (fN mkTup (fCons (fC (.int 0)) (fCons (f2 oGet (fVar 2) (fC (.int 1))) (fCons (f2 oGet (fVar 2) (fC (.int 1))) fNil)))) fNil))))) (fCons (fC (.str "")) fNil)))) sNx)
  (sSeq (sIf (t2 (pEq fun b => b) (f2 oGet (fVar 2) (fC (.int 0))) (fC (.str "tap"))) (sRet (fN mkTup (fCons (fN mkTup (fCons (fVar 3) (fCons (fVar 4) (fCons (fVar 5) (fCons (fN mkTup fNil) fNil))))) (fCons (fN (oPure Foutcome_of) (fCons (fVar 0) (fCons (fVar 3) (fCons (fVar 6) fNil)))) fNil)))) sNx)
  (sRet (fN mkTup (fCons (fVar 1) (fCons (fC (.str "")) fNil)))))))
def Fhandled : List D → M D := mkF 3 7 bhandled
abbrev nchanges_at : List Str := ["house", "standing", "shown", "waiting", "changes", "rank", "place", "is_gone", "stood"]
def bchanges_at : Sg → M Out :=
  (sSeq (sAsg (fSl mkFz (fVar 1) fNo (fPart (fC (.int 2)))) (gTupF 2 (gAnd (gSet 2) (gAnd (gSet 3) gEnd))))
  (sSeq (sSet 4 (fN mkLst fNil))
  (sSeq (sIf (t2 (pI fun i j => decide (i < j)) (fN oLenA (fCons (fVar 3) fNil)) (f1 (oFld 1 3) (fVar 0))) (sAug 4 oExt (fLc [5] (fun s => M.bind ((f2 (oAdd mkFz) (f1 (oFld 1 2) (fVar 0)) (fC (.int 1))) s) srcR1) (gSet 5) tTrue (fN mkTup (fCons (fC (.str "come")) (fCons (fVar 5) fNil))))) sNx)
  (sSeq (sIf (tVal (f1 (oFld 1 4) (fVar 0))) (sAug 4 oExt (fLc [6, 5, 7, 8] (fSrc enF (fVar 2)) (gTupF 2 (gAnd (gSet 6) (gAnd (gTupF 3 (gAnd (gSet 5) (gAnd (gSet 7) (gAnd (gSet 8) gEnd)))) gEnd))) (tNotF (tVal (fVar 7))) (fN mkTup (fCons (fC (.str "go")) (fCons (fVar 6) fNil))))) sNx)
  (sRet (f2 (oAdd mkFz) (fVar 4) (fN mkFz (fCons (fC (.tup [(.str "none")])) fNil))))))))
def Fchanges_at : List D → M D := mkF 2 9 bchanges_at
abbrev nhands_at : List Str := ["house", "settled", "shown", "look", "least", "most", "place"]
def bhands_at : Sg → M Out :=
  (sSeq (sPar 2 3 (fCons (f2 oGet (fVar 1) (fC (.int 0))) (fCons (f2 oGet (fVar 1) (fC (.int 3))) fNil)))
  (sSeq (sIf (t2 (pEq fun b => b) (fVar 3) (fN mkTup fNil)) (sRet (f2 (oAdd mkFz) (fLc [6] (fun s => M.bind ((fN oLenA (fCons (fVar 2) fNil)) s) srcR1) (gSet 6) tTrue (fN mkTup (fCons (fC (.str "look")) (fCons (fVar 6) fNil)))) (fN mkFz (fCons (fC (.tup [(.str "none")])) fNil)))) sNx)
  (sSeq (sAsg (f1 (oFld 1 5) (fVar 0)) (gTupF 2 (gAnd (gSet 4) (gAnd (gSet 5) gEnd))))
  (sSeq (sIf (t2 (pEq fun b => b) (f2 oGet (fVar 3) (fC (.int 0))) (fVar 5)) (sRet (fN mkFz (fCons (fC (.tup [(.str "tap")])) fNil))) sNx)
  (sRet (fIf (t2 (pI fun i j => decide (j ≤ i)) (f2 oGet (fVar 3) (fC (.int 0))) (fVar 4)) (fN mkFz (fCons (fC (.tup [(.str "none")])) (fCons (fC (.tup [(.str "tap")])) fNil))) (fN mkFz (fCons (fC (.tup [(.str "none")])) fNil))))))))
def Fhands_at : List D → M D := mkF 2 7 bhands_at
abbrev nis_comparable : List Str := ["thing"]
def bis_comparable : Sg → M Out :=
  (sRet (fAnd (f1 (isI .tup) (fVar 0)) (fOr (f2 (cmpV (pI fun i j => decide (i < j))) (fN oLenA (fCons (fVar 0) fNil)) (fC (.int 2))) (fN (oPure Fis_number) (fCons (f2 oGet (fVar 0) (fC (.int 1))) fNil)))))
def Fis_comparable : List D → M D := mkF 1 1 bis_comparable
abbrev nstep_at : List Str := ["house", "standing", "moment", "change", "hand", "settled"]
def bstep_at : Sg → M Out :=
  (sSeq (sIf (tOrF (tNotF (tVal (f1 (isI .tup) (fVar 2)))) (t2 (pEq fun b => !b) (fN oLenA (fCons (fVar 2) fNil)) (fC (.int 2)))) (sRet (fC .non)) sNx)
  (sSeq (sAsg (fVar 2) (gTupF 2 (gAnd (gSet 3) (gAnd (gSet 4) gEnd))))
  (sSeq (sIf (tOrF (tNotF (tVal (fN (oPure Fis_comparable) (fCons (fVar 3) fNil)))) (tNotF (tVal (fN (oPure Fis_comparable) (fCons (fVar 4) fNil))))) (sRet (fC .non)) sNx)
  (sSeq (sIf (t2 (pInA true) (fVar 3) (fN (oPure Fchanges_at) (fCons (fVar 0) (fCons (fVar 1) fNil)))) (sRet (fC .non)) sNx)
  (sSeq (sSet 5 (fN (oPure Fsettled_at) (fCons (fVar 0) (fCons (fVar 1) (fCons (fVar 3) fNil)))))
  (sSeq (sIf (t2 (pInA true) (fVar 4) (fN (oPure Fhands_at) (fCons (fVar 0) (fCons (fVar 5) fNil)))) (sRet (fC .non)) sNx)
  (sRet (fN (oPure Fhandled) (fCons (f1 (oFld 1 0) (fVar 0)) (fCons (fVar 5) (fCons (fVar 4) fNil)))))))))))
def Fstep_at : List D → M D := mkF 3 6 bstep_at
abbrev ntick_at : List Str := ["house", "standing", "moment", "step"]
def btick_at : Sg → M Out :=
  (sSeq (sExpr (fN (oPure Fcheck_standing) (fCons (fVar 0) (fCons (fVar 1) fNil))))
  (sSeq (sSet 3 (fN (oPure Fstep_at) (fCons (fVar 0) (fCons (fVar 1) (fCons (fVar 2) fNil)))))
  (sSeq (sIf (t2 (pIsN fun b => b) (fVar 3) (fC .non)) sBad sNx)
  (sRet (fVar 3)))))
def Ftick_at : List D → M D := mkF 3 4 btick_at
abbrev nis_lag : List Str := ["value", "least", "most"]
def bis_lag : Sg → M Out :=
  (sSeq (sIf (tOrF (tNotF (tVal (f1 (isI .tup) (fVar 0)))) (t2 (pEq fun b => !b) (fN oLenA (fCons (fVar 0) fNil)) (fC (.int 2)))) (sRet (fC (.bl false))) sNx)
  (sSeq (sAsg (fVar 0) (gTupF 2 (gAnd (gSet 1) (gAnd (gSet 2) gEnd))))
  (sRet (fAnd (fN (oPure Fis_number_within) (fCons (fVar 2) (fCons (fC (.int 1)) (fCons (fC (.int 3)) fNil)))) (fN (oPure Fis_number_within) (fCons (fVar 1) (fCons (fC (.int 1)) (fCons (fVar 2) fNil))))))))
def Fis_lag : List D → M D := mkF 1 3 bis_lag
abbrev nIHouse : List Str := ["self", "rule", "room", "top", "many", "goes", "lag"]
def bIHouse : Sg → M Out :=
  (sSeq (sIf (tNotF (tVal (f1 (isI (.cls 0)) (fVar 1)))) sBad sNx)
  (sSeq (sIf (tNotF (tVal (fN (oPure Fis_number_within) (fCons (fVar 2) (fCons (fC (.int 1)) (fCons (fC (.int 4)) fNil)))))) sBad sNx)
  (sSeq (sIf (tNotF (tVal (fN (oPure Fis_number_within) (fCons (fVar 3) (fCons (fC (.int 0)) (fCons (fC (.int 2)) fNil)))))) sBad sNx)
  (sSeq (sIf (tNotF (tVal (fN (oPure Fis_number_within) (fCons (fVar 4) (fCons (fC (.int 1)) (fCons (fC (.int 2)) fNil)))))) sBad sNx)
  (sSeq (sIf (tNotF (tVal (f1 (isI .bl) (fVar 5)))) sBad sNx)
  (sSeq (sIf (tNotF (tVal (fN (oPure Fis_lag) (fCons (fVar 6) fNil)))) sBad sNx)
  (sSeq (sFldF 1 0 (fVar 0) (fVar 1))
  (sSeq (sFldF 1 1 (fVar 0) (fVar 2))
  (sSeq (sFldF 1 2 (fVar 0) (fVar 3))
  (sSeq (sFldF 1 3 (fVar 0) (fVar 4))
  (sSeq (sFldF 1 4 (fVar 0) (fVar 5))
  (sFldF 1 5 (fVar 0) (fVar 6)))))))))))))
def IHouse : List D → M D := mkF 7 7 bIHouse
abbrev nis_one_of : List Str := ["value", "texts"]
def bis_one_of : Sg → M Out :=
  (sRet (fAnd (f1 (isI .str) (fVar 0)) (f2 (cmpV (pInA false)) (fVar 0) (fVar 1))))
def Fis_one_of : List D → M D := mkF 2 2 bis_one_of
abbrev nIRule : List Str := ["self", "way", "still", "hold", "pins", "guard"]
def bIRule : Sg → M Out :=
  (sSeq (sIf (tNotF (tVal (fN (oPure Fis_one_of) (fCons (fVar 1) (fCons (fC (.tup [(.str "end"), (.str "front"), (.str "rank")])) fNil))))) sBad sNx)
  (sSeq (sIf (tNotF (tVal (fN (oPure Fis_number_within) (fCons (fVar 2) (fCons (fC (.int 0)) (fCons (fC (.int 3)) fNil)))))) sBad sNx)
  (sSeq (sIf (tNotF (tVal (fN (oPure Fis_number_within) (fCons (fVar 3) (fCons (fC (.int 0)) (fCons (fC (.int 3)) fNil)))))) sBad sNx)
  (sSeq (sIf (tNotF (tVal (fN (oPure Fis_number_within) (fCons (fVar 4) (fCons (fC (.int 0)) (fCons (fC (.int 2)) fNil)))))) sBad sNx)
  (sSeq (sIf (tNotF (tVal (fN (oPure Fis_number_within) (fCons (fVar 5) (fCons (fC (.int 0)) (fCons (fC (.int 3)) fNil)))))) sBad sNx)
  (sSeq (sFldF 0 0 (fVar 0) (fVar 1))
  (sSeq (sFldF 0 1 (fVar 0) (fVar 2))
  (sSeq (sFldF 0 2 (fVar 0) (fVar 3))
  (sSeq (sFldF 0 3 (fVar 0) (fVar 4))
  (sFldF 0 4 (fVar 0) (fVar 5)))))))))))
def IRule : List D → M D := mkF 6 6 bIRule
abbrev nfirst_standing : List Str := ["house"]
def bfirst_standing : Sg → M Out :=
  (sSeq (sExpr (fN (fun xs => oPure Fcheck_house (xs ++ [(.str "house")])) (fCons (fVar 0) fNil)))
  (sRet (fN mkTup (fCons (fN mkTup fNil) (fCons (fN mkTup fNil) (fCons (f1 (oFld 0 1) (f1 (oFld 1 0) (fVar 0))) (fCons (fN mkTup fNil) fNil)))))))
def Ffirst_standing : List D → M D := mkF 1 1 bfirst_standing
abbrev nsteps_at : List Str := ["house", "standing", "steps", "change", "settled", "hand", "behind", "outcome"]
def bsteps_at : Sg → M Out :=
  (sSeq (sSet 2 (fN mkLst fNil))
  (sSeq (sFor (fSrc noF (fN (oPure Fchanges_at) (fCons (fVar 0) (fCons (fVar 1) fNil)))) (gSet 3) (sSeq (sSet 4 (fN (oPure Fsettled_at) (fCons (fVar 0) (fCons (fVar 1) (fCons (fVar 3) fNil)))))
  (sFor (fSrc noF (fN (oPure Fhands_at) (fCons (fVar 0) (fCons (fVar 4) fNil)))) (gSet 5) (sSeq (sAsg (fN (oPure Fhandled) (fCons (f1 (oFld 1 0) (fVar 0)) (fCons (fVar 4) (fCons (fVar 5) fNil)))) (gTupF 2 (gAnd (gSet 6) (gAnd (gSet 7) gEnd))))
  (sExpr (fM mAppend (fVar 2) (fCons (fN mkTup (fCons (fN mkTup (fCons (fVar 3) (fCons (fVar 5) fNil))) (fCons (fVar 6) (fCons (fVar 7) fNil)))) fNil)))))))
  (sRet (fVar 2))))
def Fsteps_at : List D → M D := mkF 2 8 bsteps_at
abbrev nmoments_at : List Str := ["house", "standing", "moment", "behind", "outcome"]
def bmoments_at : Sg → M Out :=
  (sSeq (sExpr (fN (oPure Fcheck_standing) (fCons (fVar 0) (fCons (fVar 1) fNil))))
  (sRet (fLc [2, 3, 4] (fSrc noF (fN (oPure Fsteps_at) (fCons (fVar 0) (fCons (fVar 1) fNil)))) (gTupF 3 (gAnd (gSet 2) (gAnd (gSet 3) (gAnd (gSet 4) gEnd)))) tTrue (fVar 2))))
def Fmoments_at : List D → M D := mkF 2 5 bmoments_at
abbrev npairs_shown : List Str := ["standing", "rank", "is_gone", "stood"]
def bpairs_shown : Sg → M Out :=
  (sRet (fN oTuple (fCons (fLc [1, 2, 3] (fSrc noF (f2 oGet (fVar 0) (fC (.int 0)))) (gTupF 3 (gAnd (gSet 1) (gAnd (gSet 2) (gAnd (gSet 3) gEnd)))) tTrue (fN mkTup (fCons (fVar 1) (fCons (fVar 2) fNil)))) fNil)))
def Fpairs_shown : List D → M D := mkF 1 4 bpairs_shown
abbrev nsteps_along : List Str := ["house", "moments", "steps", "standing", "moment", "step"]
def bsteps_along : Sg → M Out :=
  (sSeq (sSet 2 (fN mkLst fNil))
  (sSeq (sSet 3 (fN (oPure Ffirst_standing) (fCons (fVar 0) fNil)))
  (sSeq (sFor (fSrc noF (fVar 1)) (gSet 4) (sSeq (sSet 5 (fN (oPure Fstep_at) (fCons (fVar 0) (fCons (fVar 3) (fCons (fVar 4) fNil)))))
  (sSeq (sIf (t2 (pIsN fun b => b) (fVar 5) (fC .non)) (sRet (fVar 2)) sNx)
  (sSeq (sExpr (fM mAppend (fVar 2) (fCons (fVar 5) fNil)))
  (sSet 3 (f2 oGet (fVar 5) (fC (.int 0))))))))
  (sRet (fVar 2)))))
def Fsteps_along : List D → M D := mkF 2 6 bsteps_along
abbrev nis_list : List Str := ["value"]
def bis_list : Sg → M Out :=
  (sRet (f1 (isI2 .lst .tup) (fVar 0)))
def Fis_list : List D → M D := mkF 1 1 bis_list
abbrev nchecked_steps : List Str := ["house", "course", "steps"]
def bchecked_steps : Sg → M Out :=
  (sSeq (sExpr (fN (fun xs => oPure Fcheck_house (xs ++ [(.str "house")])) (fCons (fVar 0) fNil)))
  (sSeq (sIf (tNotF (tVal (fN (oPure Fis_list) (fCons (fVar 1) fNil)))) sBad sNx)
  (sSeq (sSet 2 (fN (oPure Fsteps_along) (fCons (fVar 0) (fCons (fVar 1) fNil))))
  (sSeq (sIf (t2 (pI fun i j => decide (i < j)) (fN oLenA (fCons (fVar 2) fNil)) (fN oLenA (fCons (fVar 1) fNil))) sBad sNx)
  (sRet (fVar 2))))))
def Fchecked_steps : List D → M D := mkF 2 3 bchecked_steps
abbrev nrun_of : List Str := ["house", "course", "standing", "outcome"]
def brun_of : Sg → M Out :=
  (sRet (fLc [2, 3] (fSrc noF (fN (oPure Fchecked_steps) (fCons (fVar 0) (fCons (fVar 1) fNil)))) (gTupF 2 (gAnd (gSet 2) (gAnd (gSet 3) gEnd))) tTrue (fN mkTup (fCons (fN (oPure Fpairs_shown) (fCons (fVar 2) fNil)) (fCons (f2 oGet (fVar 2) (fC (.int 1))) (fCons (fVar 3) fNil))))))
def Frun_of : List D → M D := mkF 2 4 brun_of
abbrev nbehind_of : List Str := ["house", "course", "steps"]
def bbehind_of : Sg → M Out :=
  (sSeq (sSet 2 (fN (oPure Fchecked_steps) (fCons (fVar 0) (fCons (fVar 1) fNil))))
  (sRet (fIf (tTruth (fVar 2)) (f2 oGet (f2 oGet (fVar 2) (f1 oNeg (fC (.int 1)))) (fC (.int 0))) (fN (oPure Ffirst_standing) (fCons (fVar 0) fNil)))))
def Fbehind_of : List D → M D := mkF 2 3 bbehind_of
abbrev nis_course : List Str := ["house", "thing"]
def bis_course : Sg → M Out :=
  (sSeq (sExpr (fN (fun xs => oPure Fcheck_house (xs ++ [(.str "house")])) (fCons (fVar 0) fNil)))
  (sRet (fAnd (fN (oPure Fis_list) (fCons (fVar 1) fNil)) (f2 (cmpV (pEq fun b => b)) (fN oLenA (fCons (fN (oPure Fsteps_along) (fCons (fVar 0) (fCons (fVar 1) fNil))) fNil)) (fN oLenA (fCons (fVar 1) fNil))))))
def Fis_course : List D → M D := mkF 2 2 bis_course
end Und

namespace K27
open PySem PySem.Spec PyProof.Rows L2 Dr Ev Und
def topS (i : Nat) : Stmt := PySem.Challenge.pw_undertap_k27_known_standings.main.body.getD i (.Pass ⟨0, 0, 0, 0⟩)
structure Tx (P : Program) (w : World) (K : PySem.W.Frag) (mg : Str → Option Value) (base : Heap) (c : Ct) : Prop where
  F : Facts K c
  pw : c.P = P ∧ c.w = w
  f0 : ∀ i : Nat, (c.cF 0)[i]? = fl0[i]?
  k0 : 0 < c.n
  l0 : (c.cF 0).length = 5
  g0 : mg "Rule" = some (.ref (c.cA 0))
  kit0 : KitOk K c (.cls 0)
  n_way : NoAttr K (c.cA 0) "_way"
  n_still : NoAttr K (c.cA 0) "_still"
  n_hold : NoAttr K (c.cA 0) "_hold"
  n_pins : NoAttr K (c.cA 0) "_pins"
  n_guard : NoAttr K (c.cA 0) "_guard"
  f1 : ∀ i : Nat, (c.cF 1)[i]? = fl1[i]?
  k1 : 1 < c.n
  l1 : (c.cF 1).length = 6
  g1 : mg "House" = some (.ref (c.cA 1))
  kit1 : KitOk K c (.cls 1)
  n_rule : NoAttr K (c.cA 1) "_rule"
  n_room : NoAttr K (c.cA 1) "_room"
  n_top : NoAttr K (c.cA 1) "_top"
  n_many : NoAttr K (c.cA 1) "_many"
  n_goes : NoAttr K (c.cA 1) "_goes"
  n_lag : NoAttr K (c.cA 1) "_lag"
  q_goes : Pr P w K mg base (c.cA 1) "goes" "_goes"
  q_guard : Pr P w K mg base (c.cA 0) "guard" "_guard"
  q_hold : Pr P w K mg base (c.cA 0) "hold" "_hold"
  q_lag : Pr P w K mg base (c.cA 1) "lag" "_lag"
  q_many : Pr P w K mg base (c.cA 1) "many" "_many"
  q_pins : Pr P w K mg base (c.cA 0) "pins" "_pins"
  q_room : Pr P w K mg base (c.cA 1) "room" "_room"
  q_rule : Pr P w K mg base (c.cA 1) "rule" "_rule"
  q_still : Pr P w K mg base (c.cA 0) "still" "_still"
  q_top : Pr P w K mg base (c.cA 1) "top" "_top"
  q_way : Pr P w K mg base (c.cA 0) "way" "_way"
  c_GREATEST_LAG : GC K mg "GREATEST_LAG" (.int 3)
  c_GREATEST_RANK : GC K mg "GREATEST_RANK" (.int 2)
  c_MOST_PINS : GC K mg "MOST_PINS" (.int 2)
  c_MOST_ROOM : GC K mg "MOST_ROOM" (.int 4)
  c_MOST_STANDINGS : GC K mg "MOST_STANDINGS" (.int 800)
  c_MOST_TICKS : GC K mg "MOST_TICKS" (.int 3)
  c_MOST_WAITING : GC K mg "MOST_WAITING" (.int 2)
  c_NOTHING : GC K mg "NOTHING" (.tup [(.str "none")])
  c_TAP : GC K mg "TAP" (.tup [(.str "tap")])
  c_WAYS : GC K mg "WAYS" (.tup [(.str "end"), (.str "front"), (.str "rank")])
  m_abs : mg "abs" = none
  m_all : mg "all" = none
  m_any : mg "any" = none
  m_bool : mg "bool" = none
  m_enumerate : mg "enumerate" = none
  m_int : mg "int" = none
  m_isinstance : mg "isinstance" = none
  m_len : mg "len" = none
  m_list : mg "list" = none
  m_max : mg "max" = none
  m_min : mg "min" = none
  m_range : mg "range" = none
  m_sorted : mg "sorted" = none
  m_str : mg "str" = none
  m_tuple : mg "tuple" = none
variable {P : Program} {w : World} {K : PySem.W.Frag} {mg : Str → Option Value} {base : Heap} {c : Ct}
abbrev sis_number : Stmt := topS 12
theorem scis_number : FnScope nis_number ["value"] (defScope sis_number) := ⟨rfl, rfl, rfl, by decide +kernel, rfl, by decide +kernel, by decide +kernel⟩
set_option maxHeartbeats 0 in
theorem okis_number (T : Tx P w K mg base c) (D : GD K mg "is_number" sis_number ["value"]) : Own P w K mg base c 1 "is_number" Fis_number :=
  own_ev (N := nis_number) (fB := bis_number) D scis_number fun f cdv A outer s H E hid hr px =>
    have nd : (nis_number).Nodup := scis_number.nd;
     (ess_one (es_ret (ev_and (ev_isi .int T.F.at kit_int T.m_isinstance (ev_var 0) (pe_bltn (by rfl) T.m_int boot_int rfl)) (ev_one (ev_not (ev_isi .bl T.F.at kit_bl T.m_isinstance (ev_var 0) (pe_bltn (by rfl) T.m_bool boot_bool rfl)))))))
abbrev sis_number_within : Stmt := topS 13
theorem scis_number_within : FnScope nis_number_within ["value", "least", "most"] (defScope sis_number_within) := ⟨rfl, rfl, rfl, by decide +kernel, rfl, by decide +kernel, by decide +kernel⟩
set_option maxHeartbeats 0 in
theorem okis_number_within (T : Tx P w K mg base c) (D : GD K mg "is_number_within" sis_number_within ["value", "least", "most"]) (G_is_number : Own P w K mg base c 1 "is_number" Fis_number) : Own P w K mg base c 2 "is_number_within" Fis_number_within :=
  own_ev (N := nis_number_within) (fB := bis_number_within) D scis_number_within fun f cdv A outer s H E hid hr px =>
    have nd : (nis_number_within).Nodup := scis_number_within.nd;
     (ess_one (es_ret (ev_and (ev_pure G_is_number.at (hr.mono (by decide)) px (ea_cons (ev_var 0) ea_nil)) (ev_one (ev_chain op_le op_le cmp_int cmp_int (ev_var 1) (ev_var 0) (ev_var 2))))))
abbrev sis_lag : Stmt := topS 21
theorem scis_lag : FnScope nis_lag ["value"] (defScope sis_lag) := ⟨rfl, rfl, rfl, by decide +kernel, rfl, by decide +kernel, by decide +kernel⟩
set_option maxHeartbeats 0 in
theorem okis_lag (T : Tx P w K mg base c) (D : GD K mg "is_lag" sis_lag ["value"]) (G_is_number_within : Own P w K mg base c 2 "is_number_within" Fis_number_within) : Own P w K mg base c 3 "is_lag" Fis_lag :=
  own_ev (N := nis_lag) (fB := bis_lag) D scis_lag fun f cdv A outer s H E hid hr px =>
    have nd : (nis_lag).Nodup := scis_lag.nd;
     (ess_cons (es_if (ew_t (ew_or (et_not (et_val (ev_isi .tup T.F.at kit_tup T.m_isinstance (ev_var 0) (pe_bltn (by rfl) T.m_tuple boot_tuple rfl)))) (ew_or1 (et_cmp (op_neD hr.units) cmp_ne (ev_blt callr_len op_lenA T.m_len PySem.boot_len (ea_cons (ev_var 0) ea_nil)) ev_int)))) (ess_one (es_ret ev_bl)) ess_nil)
      (ess_cons (es_asg [1, 2] (ev_var 0) (eg_tup (egs_cons (eg_set 1 nd) (egs_cons (eg_set 2 nd) egs_nil))))
      (ess_one (es_ret (ev_and (ev_pure G_is_number_within.at (hr.mono (by decide)) px (ea_cons (ev_var 2) (ea_cons ev_int (ea_cons (ev_const T.c_GREATEST_LAG) ea_nil)))) (ev_one (ev_pure G_is_number_within.at (hr.mono (by decide)) px (ea_cons (ev_var 1) (ea_cons ev_int (ea_cons (ev_var 2) ea_nil))))))))))
abbrev sIHouse : Stmt := inClass (topS 22) 0
theorem scIHouse : FnScope nIHouse ["self", "rule", "room", "top", "many", "goes", "lag"] (defScope sIHouse) := ⟨rfl, rfl, rfl, by decide +kernel, rfl, by decide +kernel, by decide +kernel⟩
set_option maxHeartbeats 0 in
theorem okIHouse (T : Tx P w K mg base c) (D : GI K mg (c.cA 1) "House" "House.__init__" sIHouse ["self", "rule", "room", "top", "many", "goes", "lag"]) (G_is_number_within : Own P w K mg base c 2 "is_number_within" Fis_number_within) (G_is_lag : Own P w K mg base c 3 "is_lag" Fis_lag) : OwnI P w K mg base c 4 "House" 1 IHouse :=
  ownI_ev (N := nIHouse) (fB := bIHouse) D scIHouse fun f cdv A outer s H E hid hr px =>
    have nd : (nIHouse).Nodup := scIHouse.nd;
     (ess_cons (es_if (et_not (et_val (ev_isi (.cls 0) T.F.at T.kit0.at T.m_isinstance (ev_var 1) (pe_glob (by rfl) T.g0 rfl)))) (ess_one es_bad) ess_nil)
      (ess_cons (es_if (et_not (et_val (ev_pure G_is_number_within.at (hr.mono (by decide)) px (ea_cons (ev_var 2) (ea_cons ev_int (ea_cons (ev_const T.c_MOST_ROOM) ea_nil)))))) (ess_one es_bad) ess_nil)
      (ess_cons (es_if (et_not (et_val (ev_pure G_is_number_within.at (hr.mono (by decide)) px (ea_cons (ev_var 3) (ea_cons ev_int (ea_cons (ev_const T.c_GREATEST_RANK) ea_nil)))))) (ess_one es_bad) ess_nil)
      (ess_cons (es_if (et_not (et_val (ev_pure G_is_number_within.at (hr.mono (by decide)) px (ea_cons (ev_var 4) (ea_cons ev_int (ea_cons (ev_const T.c_MOST_WAITING) ea_nil)))))) (ess_one es_bad) ess_nil)
      (ess_cons (es_if (et_not (et_val (ev_isi .bl T.F.at kit_bl T.m_isinstance (ev_var 5) (pe_bltn (by rfl) T.m_bool boot_bool rfl)))) (ess_one es_bad) ess_nil)
      (ess_cons (es_if (et_not (et_val (ev_pure G_is_lag.at (hr.mono (by decide)) px (ea_cons (ev_var 6) ea_nil)))) (ess_one es_bad) ess_nil)
      (ess_cons (es_fld 1 0 T.F.at (T.f1 0) T.n_rule (ev_var 0) (ev_var 1))
      (ess_cons (es_fld 1 1 T.F.at (T.f1 1) T.n_room (ev_var 0) (ev_var 2))
      (ess_cons (es_fld 1 2 T.F.at (T.f1 2) T.n_top (ev_var 0) (ev_var 3))
      (ess_cons (es_fld 1 3 T.F.at (T.f1 3) T.n_many (ev_var 0) (ev_var 4))
      (ess_cons (es_fld 1 4 T.F.at (T.f1 4) T.n_goes (ev_var 0) (ev_var 5))
      (ess_one (es_fld 1 5 T.F.at (T.f1 5) T.n_lag (ev_var 0) (ev_var 6))))))))))))))
abbrev sis_one_of : Stmt := topS 14
theorem scis_one_of : FnScope nis_one_of ["value", "texts"] (defScope sis_one_of) := ⟨rfl, rfl, rfl, by decide +kernel, rfl, by decide +kernel, by decide +kernel⟩
set_option maxHeartbeats 0 in
theorem okis_one_of (T : Tx P w K mg base c) (D : GD K mg "is_one_of" sis_one_of ["value", "texts"]) : Own P w K mg base c 1 "is_one_of" Fis_one_of :=
  own_ev (N := nis_one_of) (fB := bis_one_of) D scis_one_of fun f cdv A outer s H E hid hr px =>
    have nd : (nis_one_of).Nodup := scis_one_of.nd;
     (ess_one (es_ret (ev_and (ev_isi .str T.F.at kit_str T.m_isinstance (ev_var 0) (pe_bltn (by rfl) T.m_str boot_str rfl)) (ev_one (ev_cmp (opr_in (units65 hr)) cmp_inA (ev_var 0) (ev_var 1))))))
abbrev sIRule : Stmt := inClass (topS 15) 0
theorem scIRule : FnScope nIRule ["self", "way", "still", "hold", "pins", "guard"] (defScope sIRule) := ⟨rfl, rfl, rfl, by decide +kernel, rfl, by decide +kernel, by decide +kernel⟩
set_option maxHeartbeats 0 in
theorem okIRule (T : Tx P w K mg base c) (D : GI K mg (c.cA 0) "Rule" "Rule.__init__" sIRule ["self", "way", "still", "hold", "pins", "guard"]) (G_is_one_of : Own P w K mg base c 1 "is_one_of" Fis_one_of) (G_is_number_within : Own P w K mg base c 2 "is_number_within" Fis_number_within) : OwnI P w K mg base c 3 "Rule" 0 IRule :=
  ownI_ev (N := nIRule) (fB := bIRule) D scIRule fun f cdv A outer s H E hid hr px =>
    have nd : (nIRule).Nodup := scIRule.nd;
     (ess_cons (es_if (et_not (et_val (ev_pure G_is_one_of.at (hr.mono (by decide)) px (ea_cons (ev_var 1) (ea_cons (ev_const T.c_WAYS) ea_nil))))) (ess_one es_bad) ess_nil)
      (ess_cons (es_if (et_not (et_val (ev_pure G_is_number_within.at (hr.mono (by decide)) px (ea_cons (ev_var 2) (ea_cons ev_int (ea_cons (ev_const T.c_MOST_TICKS) ea_nil)))))) (ess_one es_bad) ess_nil)
      (ess_cons (es_if (et_not (et_val (ev_pure G_is_number_within.at (hr.mono (by decide)) px (ea_cons (ev_var 3) (ea_cons ev_int (ea_cons (ev_const T.c_MOST_TICKS) ea_nil)))))) (ess_one es_bad) ess_nil)
      (ess_cons (es_if (et_not (et_val (ev_pure G_is_number_within.at (hr.mono (by decide)) px (ea_cons (ev_var 4) (ea_cons ev_int (ea_cons (ev_const T.c_MOST_PINS) ea_nil)))))) (ess_one es_bad) ess_nil)
      (ess_cons (es_if (et_not (et_val (ev_pure G_is_number_within.at (hr.mono (by decide)) px (ea_cons (ev_var 5) (ea_cons ev_int (ea_cons (ev_const T.c_MOST_TICKS) ea_nil)))))) (ess_one es_bad) ess_nil)
      (ess_cons (es_fld 0 0 T.F.at (T.f0 0) T.n_way (ev_var 0) (ev_var 1))
      (ess_cons (es_fld 0 1 T.F.at (T.f0 1) T.n_still (ev_var 0) (ev_var 2))
      (ess_cons (es_fld 0 2 T.F.at (T.f0 2) T.n_hold (ev_var 0) (ev_var 3))
      (ess_cons (es_fld 0 3 T.F.at (T.f0 3) T.n_pins (ev_var 0) (ev_var 4))
      (ess_one (es_fld 0 4 T.F.at (T.f0 4) T.n_guard (ev_var 0) (ev_var 5))))))))))))
abbrev scheck_house : Stmt := topS 23
theorem sccheck_house : FnScope ncheck_house ["value", "part"] (defScope scheck_house) := ⟨rfl, rfl, rfl, by decide +kernel, rfl, by decide +kernel, by decide +kernel⟩
set_option maxHeartbeats 0 in
theorem okcheck_house (T : Tx P w K mg base c) (D : GDD K mg "check_house" scheck_house ["value", "part"] [(.str "house")]) : OwnD P w K mg base c 1 "check_house" Fcheck_house [(.str "house")] :=
  ownD_ev (N := ncheck_house) (fB := bcheck_house) D sccheck_house fun f cdv A outer s H E hid hr px =>
    have nd : (ncheck_house).Nodup := sccheck_house.nd;
     (ess_one (es_if (et_not (et_val (ev_isi (.cls 1) T.F.at T.kit1.at T.m_isinstance (ev_var 0) (pe_glob (by rfl) T.g1 rfl)))) (ess_one es_bad) ess_nil))
abbrev nwalked : List Str := ["first", "steps_from", "most", "steps", "nearest", "further", "ahead", "here", "moment", "behind", "told"]
def bwalked (act : D → M D) : Sg → M Out :=
  (sSeq (sSet 3 (fDispN (fVar 0) (fN mkFz fNil)))
  (sSeq (sSet 4 (fN mkFz (fCons (fVar 0) fNil)))
  (sSeq (sWhile 60 (tTruth (fVar 4)) (sSeq (sSet 5 (fN mkLst fNil))
  (sSeq (sFor (fSrc noF (fVar 4)) (gSet 6) (sSeq (sSet 7 (fAct1 1 act (fVar 6)))
  (sSeq (sAsg (fVar 7) (gSubN (fVar 3) (fVar 6)))
  (sSeq (sFor (fSrc noF (fVar 7)) (gTupF 3 (gAnd (gSet 8) (gAnd (gSet 9) (gAnd (gSet 10) gEnd)))) (sIf (t2 (pInN true) (fVar 9) (fVar 3)) (sSeq (sAsg (fN mkFz fNil) (gSubN (fVar 3) (fVar 9)))
  (sExpr (fM mAppend (fVar 5) (fCons (fVar 9) fNil)))) sNx))
  (sIf (t2 (pI fun i j => decide (j < i)) (fN oLenN (fCons (fVar 3) fNil)) (fVar 2)) sBad sNx)))))
  (sSet 4 (fVar 5)))))
  (sRet (fVar 3)))))
def Fwalked (act : D → M D) : List D → M D := mkF 3 11 (bwalked act)
abbrev swalked : Stmt := topS 49
theorem scwalked : FnScope nwalked ["first", "steps_from", "most"] (defScope swalked) := ⟨rfl, rfl, rfl, by decide +kernel, rfl, by decide +kernel, by decide +kernel⟩
set_option maxHeartbeats 0 in
theorem okwalked (T : Tx P w K mg base c) (D : GD K mg "walked" swalked ["first", "steps_from", "most"]) : OwnA1 P w K mg base c 1 "walked" 3 Fwalked :=
  ownA1_ev (N := nwalked) (fB := bwalked) D scwalked fun ka act f cdv A outer s H E hid kp a hr o hq px =>
    have nd : (nwalked).Nodup := scwalked.nd;
     (ess_cons (es_set 3 nd (ev_dispN (by exact T.pw) (units10 hr) (ev_var 0) (ev_lstF mk_fz ea_nil)))
      (ess_cons (es_set 4 nd (ev_lstF mk_fz (ea_cons (ev_var 0) ea_nil)))
      (ess_cons (es_while 60 (et_truth (ev_var 4)) (ess_cons (es_set 5 nd (ev_lstF mk_lst ea_nil))
      (ess_cons (es_for [6] (ei_seq (ev_var 4)) (eg_set 6 nd) (ess_cons (es_set 7 nd (ev_act1 1 o hq (hr.mono (by omega)) px (ev_var 6)))
      (ess_cons (es_asg [] (ev_var 7) (eg_subN (by exact T.pw) (units10 hr) (ev_var 3) (ev_var 6)))
      (ess_cons (es_for [8, 9, 10] (ei_seq (ev_var 7)) (eg_tup (egs_cons (eg_set 8 nd) (egs_cons (eg_set 9 nd) (egs_cons (eg_set 10 nd) egs_nil)))) (ess_one (es_if (et_cmp (opr_notInN (units65 hr)) (cmp_notInN (by exact T.pw)) (ev_var 9) (ev_var 3)) (ess_cons (es_asg [] (ev_lstF mk_fz ea_nil) (eg_subN (by exact T.pw) (units10 hr) (ev_var 3) (ev_var 9)))
      (ess_one (es_expr (ev_meth PySem.F.plainAttrs_list PySem.F.slot_list_append PySem.F.type_list_append mt_append op_append (ev_var 5) (ea_cons (ev_var 9) ea_nil))))) ess_nil)) (hp := own_body))
      (ess_one (es_if (et_cmp op_gt cmp_int (ev_blt callr_lenN (op_lenN (by exact T.pw)) T.m_len PySem.boot_len (ea_cons (ev_var 3) ea_nil)) (ev_var 2)) (ess_one es_bad) ess_nil))))) (hp := own_body))
      (ess_one (es_set 4 nd (ev_var 5))))) (hp := own_body))
      (ess_one (es_ret (ev_var 3))))))
abbrev sfirst_standing : Stmt := topS 32
theorem scfirst_standing : FnScope nfirst_standing ["house"] (defScope sfirst_standing) := ⟨rfl, rfl, rfl, by decide +kernel, rfl, by decide +kernel, by decide +kernel⟩
set_option maxHeartbeats 0 in
theorem okfirst_standing (T : Tx P w K mg base c) (D : GD K mg "first_standing" sfirst_standing ["house"]) (G_check_house : OwnD P w K mg base c 1 "check_house" Fcheck_house [(.str "house")]) : Own P w K mg base c 3 "first_standing" Ffirst_standing :=
  own_ev (N := nfirst_standing) (fB := bfirst_standing) D scfirst_standing fun f cdv A outer s H E hid hr px =>
    have nd : (nfirst_standing).Nodup := scfirst_standing.nd;
     (ess_cons (es_expr (ev_pureD G_check_house.at (hr.mono (by decide)) px (ea_cons (ev_var 0) ea_nil)))
      (ess_one (es_ret (ev_tup (ea_cons (ev_tup ea_nil) (ea_cons (ev_tup ea_nil) (ea_cons (ev_prop 0 1 T.F.at (T.f0 1) T.k0 T.q_still (hr.mono (by decide)) (ev_prop 1 0 T.F.at (T.f1 0) T.k1 T.q_rule (hr.mono (by decide)) (ev_var 0))) (ea_cons (ev_tup ea_nil) ea_nil))))))))
abbrev schanges_at : Stmt := topS 33
theorem scchanges_at : FnScope nchanges_at ["house", "standing"] (defScope schanges_at) := ⟨rfl, rfl, rfl, by decide +kernel, rfl, by decide +kernel, by decide +kernel⟩
set_option maxHeartbeats 0 in
theorem okchanges_at (T : Tx P w K mg base c) (D : GD K mg "changes_at" schanges_at ["house", "standing"]) : Own P w K mg base c 3 "changes_at" Fchanges_at :=
  own_ev (N := nchanges_at) (fB := bchanges_at) D scchanges_at fun f cdv A outer s H E hid hr px =>
    have nd : (nchanges_at).Nodup := scchanges_at.nd;
     (ess_cons (es_asg [2, 3] (ev_sl mk_fz (ev_var 1) eo_no (eo_some ev_int)) (eg_tup (egs_cons (eg_set 2 nd) (egs_cons (eg_set 3 nd) egs_nil))))
      (ess_cons (es_set 4 nd (ev_lstF mk_lst ea_nil))
      (ess_cons (es_if (et_cmp op_lt cmp_int (ev_blt callr_len op_lenA T.m_len PySem.boot_len (ea_cons (ev_var 3) ea_nil)) (ev_prop 1 3 T.F.at (T.f1 3) T.k1 T.q_many (hr.mono (by decide)) (ev_var 0))) (ess_one (es_aug 4 nd ip_ext op_ext (ev_lc [("rank", 5)] nd (blkOk_by (N := nchanges_at) (sc := defScope schanges_at) (by decide +kernel)) (ei_range T.m_range (ev_op opr_add (op_addAll mk_fz) (ev_prop 1 2 T.F.at (T.f1 2) T.k1 T.q_top (hr.mono (by decide)) (ev_var 0)) ev_int)) (fun _ _ _ _ _ _ => (eg_set 5 nd)) (fun _ _ _ _ _ _ => ets_nil) (fun _ _ _ _ _ _ => (ev_tup (ea_cons ev_str (ea_cons (ev_var 5) ea_nil))))))) ess_nil)
      (ess_cons (es_if (et_val (ev_prop 1 4 T.F.at (T.f1 4) T.k1 T.q_goes (hr.mono (by decide)) (ev_var 0))) (ess_one (es_aug 4 nd ip_ext op_ext (ev_lc [("place", 6), ("rank", 5), ("is_gone", 7), ("stood", 8)] nd (blkOk_by (N := nchanges_at) (sc := defScope schanges_at) (by decide +kernel)) (ei_enum T.m_enumerate (ev_var 2)) (fun _ _ _ _ _ _ => (eg_tup (egs_cons (eg_set 6 nd) (egs_cons (eg_tup (egs_cons (eg_set 5 nd) (egs_cons (eg_set 7 nd) (egs_cons (eg_set 8 nd) egs_nil)))) egs_nil)))) (fun _ _ _ _ _ _ => (ets_one (et_not (et_val (ev_var 7))))) (fun _ _ _ _ _ _ => (ev_tup (ea_cons ev_str (ea_cons (ev_var 6) ea_nil))))))) ess_nil)
      (ess_one (es_ret (ev_op opr_add (op_addAll mk_fz) (ev_var 4) (ev_lstF mk_fz (ea_cons (ev_const T.c_NOTHING) ea_nil)))))))))
abbrev schanged : Stmt := topS 34
theorem scchanged : FnScope nchanged ["standing", "change"] (defScope schanged) := ⟨rfl, rfl, rfl, by decide +kernel, rfl, by decide +kernel, by decide +kernel⟩
set_option maxHeartbeats 0 in
theorem okchanged (T : Tx P w K mg base c) (D : GD K mg "changed" schanged ["standing", "change"]) : Own P w K mg base c 1 "changed" Fchanged :=
  own_ev (N := nchanged) (fB := bchanged) D scchanged fun f cdv A outer s H E hid hr px =>
    have nd : (nchanged).Nodup := scchanged.nd;
     (ess_cons (es_asg [2, 3] (ev_sl mk_fz (ev_var 0) eo_no (eo_some ev_int)) (eg_tup (egs_cons (eg_set 2 nd) (egs_cons (eg_set 3 nd) egs_nil))))
      (ess_cons (es_if (et_cmp (op_eqD hr.units) cmp_eq (ev_get (units1 hr) (ev_var 1) ev_int) ev_str) (ess_one (es_ret (ev_tup (ea_cons (ev_var 2) (ea_cons (ev_op opr_add (op_addAll mk_fz) (ev_var 3) (ev_tup (ea_cons (ev_get (units1 hr) (ev_var 1) ev_int) ea_nil))) ea_nil))))) ess_nil)
      (ess_cons (es_if (et_cmp (op_eqD hr.units) cmp_eq (ev_get (units1 hr) (ev_var 1) ev_int) ev_str) (ess_cons (es_set 4 nd (ev_get (units1 hr) (ev_var 1) ev_int))
      (ess_cons (es_asg [5, 6, 7] (ev_get (units1 hr) (ev_var 2) (ev_var 4)) (eg_tup (egs_cons (eg_set 5 nd) (egs_cons (eg_set 6 nd) (egs_cons (eg_set 7 nd) egs_nil)))))
      (ess_one (es_ret (ev_tup (ea_cons (ev_op opr_add (op_addAll mk_fz) (ev_op opr_add (op_addAll mk_fz) (ev_sl mk_fz (ev_var 2) eo_no (eo_some (ev_var 4))) (ev_tup (ea_cons (ev_tup (ea_cons (ev_var 5) (ea_cons ev_bl (ea_cons (ev_var 7) ea_nil)))) ea_nil))) (ev_sl mk_fz (ev_var 2) (eo_some (ev_op opr_add (op_addAll mk_fz) (ev_var 4) ev_int)) eo_no)) (ea_cons (ev_var 3) ea_nil))))))) ess_nil)
      (ess_one (es_ret (ev_tup (ea_cons (ev_var 2) (ea_cons (ev_var 3) ea_nil))))))))
abbrev smust_draw : Stmt := topS 35
theorem scmust_draw : FnScope nmust_draw ["rule", "shown", "waiting", "quiet", "look"] (defScope smust_draw) := ⟨rfl, rfl, rfl, by decide +kernel, rfl, by decide +kernel, by decide +kernel⟩
set_option maxHeartbeats 0 in
theorem okmust_draw (T : Tx P w K mg base c) (D : GD K mg "must_draw" smust_draw ["rule", "shown", "waiting", "quiet", "look"]) : Own P w K mg base c 3 "must_draw" Fmust_draw :=
  own_ev (N := nmust_draw) (fB := bmust_draw) D scmust_draw fun f cdv A outer s H E hid hr px =>
    have nd : (nmust_draw).Nodup := scmust_draw.nd;
     (ess_cons (es_if (ew_t (ew_or (et_cmp op_lt cmp_int (ev_var 3) (ev_prop 0 1 T.F.at (T.f0 1) T.k0 T.q_still (hr.mono (by decide)) (ev_var 0))) (ew_or1 (ew_t (ew_and (et_cmp (op_neD hr.units) cmp_ne (ev_var 4) (ev_tup ea_nil)) (ew_and1 (et_cmp op_lt cmp_int (ev_get (units1 hr) (ev_var 4) ev_int) (ev_prop 0 2 T.F.at (T.f0 2) T.k0 T.q_hold (hr.mono (by decide)) (ev_var 0))))))))) (ess_one (es_ret ev_bl)) ess_nil)
      (ess_one (es_ret (ev_or (ev_cmp (op_neD hr.units) cmp_ne (ev_var 2) (ev_tup ea_nil)) (ev_one (ev_blt (cr_any rfl) op_bls T.m_any (by decide +kernel) (ea_cons (ev_lc [("rank", 5), ("is_gone", 6), ("stood", 7)] nd (blkOk_by (N := nmust_draw) (sc := defScope smust_draw) (by decide +kernel)) (ei_seq (ev_var 1)) (fun _ _ _ _ _ _ => (eg_tup (egs_cons (eg_set 5 nd) (egs_cons (eg_set 6 nd) (egs_cons (eg_set 7 nd) egs_nil))))) (fun _ _ _ _ _ _ => ets_nil) (fun _ _ _ _ _ _ => (ev_var 6))) ea_nil)))))))
abbrev sundrawn_rows : Stmt := topS 38
theorem scundrawn_rows : FnScope nundrawn_rows ["shown"] (defScope sundrawn_rows) := ⟨rfl, rfl, rfl, by decide +kernel, rfl, by decide +kernel, by decide +kernel⟩
set_option maxHeartbeats 0 in
theorem okundrawn_rows (T : Tx P w K mg base c) (D : GD K mg "undrawn_rows" sundrawn_rows ["shown"]) : Own P w K mg base c 1 "undrawn_rows" Fundrawn_rows :=
  own_ev (N := nundrawn_rows) (fB := bundrawn_rows) D scundrawn_rows fun f cdv A outer s H E hid hr px =>
    have nd : (nundrawn_rows).Nodup := scundrawn_rows.nd;
     (ess_one (es_ret (ev_lc [("place", 1), ("rank", 2), ("is_gone", 3), ("stood", 4)] nd (blkOk_by (N := nundrawn_rows) (sc := defScope sundrawn_rows) (by decide +kernel)) (ei_enum T.m_enumerate (ev_var 0)) (fun _ _ _ _ _ _ => (eg_tup (egs_cons (eg_set 1 nd) (egs_cons (eg_tup (egs_cons (eg_set 2 nd) (egs_cons (eg_set 3 nd) (egs_cons (eg_set 4 nd) egs_nil)))) egs_nil)))) (fun _ _ _ _ _ _ => ets_nil) (fun _ _ _ _ _ _ => (ev_tup (ea_cons (ev_var 2) (ea_cons (ev_var 3) (ea_cons (ev_var 1) ea_nil))))))))
abbrev splace_by_way : Stmt := topS 36
theorem scplace_by_way : FnScope nplace_by_way ["way", "ranks", "rank"] (defScope splace_by_way) := ⟨rfl, rfl, rfl, by decide +kernel, rfl, by decide +kernel, by decide +kernel⟩
set_option maxHeartbeats 0 in
theorem okplace_by_way (T : Tx P w K mg base c) (D : GD K mg "place_by_way" splace_by_way ["way", "ranks", "rank"]) : Own P w K mg base c 1 "place_by_way" Fplace_by_way :=
  own_ev (N := nplace_by_way) (fB := bplace_by_way) D scplace_by_way fun f cdv A outer s H E hid hr px =>
    have nd : (nplace_by_way).Nodup := scplace_by_way.nd;
     (ess_cons (es_if (et_cmp (op_eqD hr.units) cmp_eq (ev_var 0) ev_str) (ess_one (es_ret ev_int)) ess_nil)
      (ess_cons (es_if (et_cmp (op_eqD hr.units) cmp_eq (ev_var 0) ev_str) (ess_one (es_for [3, 4] (ei_enum T.m_enumerate (ev_var 1)) (eg_tup (egs_cons (eg_set 3 nd) (egs_cons (eg_set 4 nd) egs_nil))) (ess_one (es_if (et_cmp op_gt cmp_int (ev_var 4) (ev_var 2)) (ess_one (es_ret (ev_var 3))) ess_nil)) (hp := own_body))) ess_nil)
      (ess_one (es_ret (ev_blt callr_len op_lenA T.m_len PySem.boot_len (ea_cons (ev_var 1) ea_nil))))))
abbrev splace_for : Stmt := topS 37
theorem scplace_for : FnScope nplace_for ["rule", "ranks", "rank"] (defScope splace_for) := ⟨rfl, rfl, rfl, by decide +kernel, rfl, by decide +kernel, by decide +kernel⟩
set_option maxHeartbeats 0 in
theorem okplace_for (T : Tx P w K mg base c) (D : GD K mg "place_for" splace_for ["rule", "ranks", "rank"]) (G_place_by_way : Own P w K mg base c 1 "place_by_way" Fplace_by_way) : Own P w K mg base c 3 "place_for" Fplace_for :=
  own_ev (N := nplace_for) (fB := bplace_for) D scplace_for fun f cdv A outer s H E hid hr px =>
    have nd : (nplace_for).Nodup := scplace_for.nd;
     (ess_one (es_ret (ev_blt (call_max2 rfl) op_2I T.m_max (by decide +kernel) (ea_cons (ev_pure G_place_by_way.at (hr.mono (by decide)) px (ea_cons (ev_prop 0 0 T.F.at (T.f0 0) T.k0 T.q_way (hr.mono (by decide)) (ev_var 0)) (ea_cons (ev_var 1) (ea_cons (ev_var 2) ea_nil)))) (ea_cons (ev_blt (call_min2 rfl) op_2I T.m_min (by decide +kernel) (ea_cons (ev_prop 0 3 T.F.at (T.f0 3) T.k0 T.q_pins (hr.mono (by decide)) (ev_var 0)) (ea_cons (ev_blt callr_len op_lenA T.m_len PySem.boot_len (ea_cons (ev_var 1) ea_nil)) ea_nil))) ea_nil)))))
abbrev sdrawn_rows : Stmt := topS 39
theorem scdrawn_rows : FnScope ndrawn_rows ["house", "shown", "waiting"] (defScope sdrawn_rows) := ⟨rfl, rfl, rfl, by decide +kernel, rfl, by decide +kernel, by decide +kernel⟩
set_option maxHeartbeats 0 in
theorem okdrawn_rows (T : Tx P w K mg base c) (D : GD K mg "drawn_rows" sdrawn_rows ["house", "shown", "waiting"]) (G_undrawn_rows : Own P w K mg base c 1 "undrawn_rows" Fundrawn_rows) (G_place_for : Own P w K mg base c 3 "place_for" Fplace_for) : Own P w K mg base c 4 "drawn_rows" Fdrawn_rows :=
  own_ev (N := ndrawn_rows) (fB := bdrawn_rows) D scdrawn_rows fun f cdv A outer s H E hid hr px =>
    have nd : (ndrawn_rows).Nodup := scdrawn_rows.nd;
     (ess_cons (es_setLcL 3 [("row", 5)] nd (blkOk_by (N := ndrawn_rows) (sc := defScope sdrawn_rows) (by decide +kernel)) (ei_seq (ev_pure G_undrawn_rows.at (hr.mono (by decide)) px (ea_cons (ev_var 1) ea_nil))) (fun _ _ _ _ _ _ => (eg_set 5 nd)) (fun _ _ _ _ _ _ => (ets_one (et_not (et_val (ev_get (units1 hr) (ev_var 5) ev_int))))) (fun _ _ _ _ _ _ => (ev_var 5)) (sw_true rfl rfl rfl (by decide +kernel)))
      (ess_cons (es_for [4] (ei_seq (ev_var 2)) (eg_set 4 nd) (ess_cons (es_expr (ev_meth PySem.F.plainAttrs_list PySem.F.slot_list_insert PySem.F.type_list_insert mt_insert op_insert (ev_var 3) (ea_cons (ev_pure G_place_for.at (hr.mono (by decide)) px (ea_cons (ev_prop 1 0 T.F.at (T.f1 0) T.k1 T.q_rule (hr.mono (by decide)) (ev_var 0)) (ea_cons (ev_lc [("row", 5)] nd (blkOk_by (N := ndrawn_rows) (sc := defScope sdrawn_rows) (by decide +kernel)) (ei_seq (ev_var 3)) (fun _ _ _ _ _ _ => (eg_set 5 nd)) (fun _ _ _ _ _ _ => ets_nil) (fun _ _ _ _ _ _ => (ev_get (units1 hr) (ev_var 5) ev_int))) (ea_cons (ev_var 4) ea_nil)))) (ea_cons (ev_tup (ea_cons (ev_var 4) (ea_cons ev_bl (ea_cons ev_non ea_nil)))) ea_nil))))
      (ess_one (es_set 3 nd (ev_sl mk_lst (ev_var 3) eo_no (eo_some (ev_prop 1 1 T.F.at (T.f1 1) T.k1 T.q_room (hr.mono (by decide)) (ev_var 0))))))) (hp := own_body))
      (ess_one (es_ret (ev_var 3)))))
abbrev sstood_on : Stmt := topS 40
theorem scstood_on : FnScope nstood_on ["rule", "shown", "rows"] (defScope sstood_on) := ⟨rfl, rfl, rfl, by decide +kernel, rfl, by decide +kernel, by decide +kernel⟩
set_option maxHeartbeats 0 in
theorem okstood_on (T : Tx P w K mg base c) (D : GD K mg "stood_on" sstood_on ["rule", "shown", "rows"]) : Own P w K mg base c 3 "stood_on" Fstood_on :=
  own_ev (N := nstood_on) (fB := bstood_on) D scstood_on fun f cdv A outer s H E hid hr px =>
    have nd : (nstood_on).Nodup := scstood_on.nd;
     (ess_cons (es_set 3 nd (ev_lstF mk_lst ea_nil))
      (ess_cons (es_for [4, 5, 6, 7] (ei_enum T.m_enumerate (ev_var 2)) (eg_tup (egs_cons (eg_set 4 nd) (egs_cons (eg_tup (egs_cons (eg_set 5 nd) (egs_cons (eg_set 6 nd) (egs_cons (eg_set 7 nd) egs_nil)))) egs_nil))) (ess_cons (es_set 8 nd (ev_if (et_cmp (op_eqD hr.units) cmp_eq (ev_var 7) (ev_var 4)) (ev_blt (call_min2 rfl) op_2I T.m_min (by decide +kernel) (ea_cons (ev_op opr_add (op_addAll mk_fz) (ev_get (units1 hr) (ev_get (units1 hr) (ev_var 1) (ev_var 4)) ev_int) ev_int) (ea_cons (ev_prop 0 4 T.F.at (T.f0 4) T.k0 T.q_guard (hr.mono (by decide)) (ev_var 0)) ea_nil))) ev_int))
      (ess_one (es_expr (ev_meth PySem.F.plainAttrs_list PySem.F.slot_list_append PySem.F.type_list_append mt_append op_append (ev_var 3) (ea_cons (ev_tup (ea_cons (ev_var 5) (ea_cons (ev_var 6) (ea_cons (ev_var 8) ea_nil)))) ea_nil))))) (hp := own_body))
      (ess_one (es_ret (ev_bty call_tuple_of op_tuple T.m_tuple (by decide +kernel) (ea_cons (ev_var 3) ea_nil))))))
abbrev sfollowed : Stmt := topS 41
theorem scfollowed : FnScope nfollowed ["look", "rows"] (defScope sfollowed) := ⟨rfl, rfl, rfl, by decide +kernel, rfl, by decide +kernel, by decide +kernel⟩
set_option maxHeartbeats 0 in
theorem okfollowed (T : Tx P w K mg base c) (D : GD K mg "followed" sfollowed ["look", "rows"]) : Own P w K mg base c 1 "followed" Ffollowed :=
  own_ev (N := nfollowed) (fB := bfollowed) D scfollowed fun f cdv A outer s H E hid hr px =>
    have nd : (nfollowed).Nodup := scfollowed.nd;
     (ess_cons (es_if (et_cmp (op_eqD hr.units) cmp_eq (ev_var 0) (ev_tup ea_nil)) (ess_one (es_ret (ev_tup ea_nil))) ess_nil)
      (ess_cons (es_asg [2, 3, 4] (ev_var 0) (eg_tup (egs_cons (eg_set 2 nd) (egs_cons (eg_set 3 nd) (egs_cons (eg_set 4 nd) egs_nil)))))
      (ess_cons (es_setLc 5 [("row", 6)] nd (blkOk_by (N := nfollowed) (sc := defScope sfollowed) (by decide +kernel)) (ei_seq (ev_var 1)) (fun _ _ _ _ _ _ => (eg_set 6 nd)) (fun _ _ _ _ _ _ => ets_nil) (fun _ _ _ _ _ _ => (ev_get (units1 hr) (ev_var 6) ev_int)) (sw_true rfl rfl rfl (by decide +kernel)))
      (ess_one (es_ret (ev_tup (ea_cons (ev_op opr_add (op_addAll mk_fz) (ev_var 2) ev_int) (ea_cons (ev_var 3) (ea_cons (ev_if (et_cmp (opr_in (units65 hr)) cmp_inA (ev_var 4) (ev_var 5)) (ev_meth PySem.F.plainAttrs_list PySem.F.slot_list_index PySem.F.type_list_index (mt_indexD (units65 hr)) op_index (ev_var 5) (ea_cons (ev_var 4) ea_nil)) (ev_un un_neg op_neg ev_int)) ea_nil)))))))))
abbrev ssettled_at : Stmt := topS 42
theorem scsettled_at : FnScope nsettled_at ["house", "standing", "change"] (defScope ssettled_at) := ⟨rfl, rfl, rfl, by decide +kernel, rfl, by decide +kernel, by decide +kernel⟩
set_option maxHeartbeats 0 in
theorem oksettled_at (T : Tx P w K mg base c) (D : GD K mg "settled_at" ssettled_at ["house", "standing", "change"]) (G_changed : Own P w K mg base c 1 "changed" Fchanged) (G_must_draw : Own P w K mg base c 3 "must_draw" Fmust_draw) (G_drawn_rows : Own P w K mg base c 4 "drawn_rows" Fdrawn_rows) (G_undrawn_rows : Own P w K mg base c 1 "undrawn_rows" Fundrawn_rows) (G_followed : Own P w K mg base c 1 "followed" Ffollowed) (G_stood_on : Own P w K mg base c 3 "stood_on" Fstood_on) : Own P w K mg base c 5 "settled_at" Fsettled_at :=
  own_ev (N := nsettled_at) (fB := bsettled_at) D scsettled_at fun f cdv A outer s H E hid hr px =>
    have nd : (nsettled_at).Nodup := scsettled_at.nd;
     (ess_cons (es_set 3 nd (ev_prop 1 0 T.F.at (T.f1 0) T.k1 T.q_rule (hr.mono (by decide)) (ev_var 0)))
      (ess_cons (es_asg [4, 5] (ev_sl mk_fz (ev_var 1) (eo_some ev_int) eo_no) (eg_tup (egs_cons (eg_set 4 nd) (egs_cons (eg_set 5 nd) egs_nil))))
      (ess_cons (es_asg [6, 7] (ev_pure G_changed.at (hr.mono (by decide)) px (ea_cons (ev_var 1) (ea_cons (ev_var 2) ea_nil))) (eg_tup (egs_cons (eg_set 6 nd) (egs_cons (eg_set 7 nd) egs_nil))))
      (ess_cons (es_if (et_val (ev_pure G_must_draw.at (hr.mono (by decide)) px (ea_cons (ev_var 3) (ea_cons (ev_var 6) (ea_cons (ev_var 7) (ea_cons (ev_var 4) (ea_cons (ev_var 5) ea_nil))))))) (ess_cons (es_set 8 nd (ev_pure G_drawn_rows.at (hr.mono (by decide)) px (ea_cons (ev_var 0) (ea_cons (ev_var 6) (ea_cons (ev_var 7) ea_nil)))))
      (ess_cons (es_set 7 nd (ev_tup ea_nil))
      (ess_one (es_set 4 nd ev_int)))) (ess_cons (es_set 8 nd (ev_pure G_undrawn_rows.at (hr.mono (by decide)) px (ea_cons (ev_var 6) ea_nil)))
      (ess_one (es_set 4 nd (ev_blt (call_min2 rfl) op_2I T.m_min (by decide +kernel) (ea_cons (ev_op opr_add (op_addAll mk_fz) (ev_var 4) ev_int) (ea_cons (ev_prop 0 1 T.F.at (T.f0 1) T.k0 T.q_still (hr.mono (by decide)) (ev_var 3)) ea_nil)))))))
      (ess_one (es_ret (ev_tup (ea_cons (ev_pure G_stood_on.at (hr.mono (by decide)) px (ea_cons (ev_var 3) (ea_cons (ev_var 6) (ea_cons (ev_var 8) ea_nil)))) (ea_cons (ev_var 7) (ea_cons (ev_var 4) (ea_cons (ev_pure G_followed.at (hr.mono (by decide)) px (ea_cons (ev_var 5) (ea_cons (ev_var 8) ea_nil))) ea_nil)))))))))))
abbrev shands_at : Stmt := topS 43
theorem schands_at : FnScope nhands_at ["house", "settled"] (defScope shands_at) := ⟨rfl, rfl, rfl, by decide +kernel, rfl, by decide +kernel, by decide +kernel⟩
set_option maxHeartbeats 0 in
theorem okhands_at (T : Tx P w K mg base c) (D : GD K mg "hands_at" shands_at ["house", "settled"]) : Own P w K mg base c 3 "hands_at" Fhands_at :=
  own_ev (N := nhands_at) (fB := bhands_at) D schands_at fun f cdv A outer s H E hid hr px =>
    have nd : (nhands_at).Nodup := schands_at.nd;
     (ess_cons (es_par 2 3 nd (by decide) (ea_cons (ev_get (units1 hr) (ev_var 1) ev_int) (ea_cons (ev_get (units1 hr) (ev_var 1) ev_int) ea_nil)))
      (ess_cons (es_if (et_cmp (op_eqD hr.units) cmp_eq (ev_var 3) (ev_tup ea_nil)) (ess_one (es_ret (ev_op opr_add (op_addAll mk_fz) (ev_lc [("place", 6)] nd (blkOk_by (N := nhands_at) (sc := defScope shands_at) (by decide +kernel)) (ei_range T.m_range (ev_blt callr_len op_lenA T.m_len PySem.boot_len (ea_cons (ev_var 2) ea_nil))) (fun _ _ _ _ _ _ => (eg_set 6 nd)) (fun _ _ _ _ _ _ => ets_nil) (fun _ _ _ _ _ _ => (ev_tup (ea_cons ev_str (ea_cons (ev_var 6) ea_nil))))) (ev_lstF mk_fz (ea_cons (ev_const T.c_NOTHING) ea_nil))))) ess_nil)
      (ess_cons (es_asg [4, 5] (ev_prop 1 5 T.F.at (T.f1 5) T.k1 T.q_lag (hr.mono (by decide)) (ev_var 0)) (eg_tup (egs_cons (eg_set 4 nd) (egs_cons (eg_set 5 nd) egs_nil))))
      (ess_cons (es_if (et_cmp (op_eqD hr.units) cmp_eq (ev_get (units1 hr) (ev_var 3) ev_int) (ev_var 5)) (ess_one (es_ret (ev_lstF mk_fz (ea_cons (ev_const T.c_TAP) ea_nil)))) ess_nil)
      (ess_one (es_ret (ev_if (et_cmp op_ge cmp_int (ev_get (units1 hr) (ev_var 3) ev_int) (ev_var 4)) (ev_lstF mk_fz (ea_cons (ev_const T.c_NOTHING) (ea_cons (ev_const T.c_TAP) ea_nil))) (ev_lstF mk_fz (ea_cons (ev_const T.c_NOTHING) ea_nil)))))))))
abbrev soutcome_of : Stmt := topS 44
theorem scoutcome_of : FnScope noutcome_of ["rule", "shown", "look"] (defScope soutcome_of) := ⟨rfl, rfl, rfl, by decide +kernel, rfl, by decide +kernel, by decide +kernel⟩
set_option maxHeartbeats 0 in
theorem okoutcome_of (T : Tx P w K mg base c) (D : GD K mg "outcome_of" soutcome_of ["rule", "shown", "look"]) : Own P w K mg base c 3 "outcome_of" Foutcome_of :=
  own_ev (N := noutcome_of) (fB := boutcome_of) D scoutcome_of fun f cdv A outer s H E hid hr px =>
    have nd : (noutcome_of).Nodup := scoutcome_of.nd;
     (ess_cons (es_asg [3, 4, 5] (ev_var 2) (eg_tup (egs_cons (eg_set 3 nd) (egs_cons (eg_set 4 nd) (egs_cons (eg_set 5 nd) egs_nil)))))
      (ess_cons (es_if (et_cmp op_ge cmp_int (ev_var 4) (ev_blt callr_len op_lenA T.m_len PySem.boot_len (ea_cons (ev_var 1) ea_nil))) (ess_one (es_ret ev_str)) ess_nil)
      (ess_cons (es_asg [6, 7, 8] (ev_get (units1 hr) (ev_var 1) (ev_var 4)) (eg_tup (egs_cons (eg_set 6 nd) (egs_cons (eg_set 7 nd) (egs_cons (eg_set 8 nd) egs_nil)))))
      (ess_cons (es_if (et_cmp op_lt cmp_int (ev_var 8) (ev_prop 0 4 T.F.at (T.f0 4) T.k0 T.q_guard (hr.mono (by decide)) (ev_var 0))) (ess_one (es_ret ev_str)) ess_nil)
      (ess_cons (es_if (et_val (ev_var 7)) (ess_one (es_ret ev_str)) ess_nil)
      (ess_one (es_ret (ev_if (et_cmp (op_eqD hr.units) cmp_eq (ev_var 5) (ev_var 4)) ev_str ev_str))))))))
abbrev shandled : Stmt := topS 45
theorem schandled : FnScope nhandled ["rule", "settled", "hand"] (defScope shandled) := ⟨rfl, rfl, rfl, by decide +kernel, rfl, by decide +kernel, by decide +kernel⟩
set_option maxHeartbeats 0 in
theorem okhandled (T : Tx P w K mg base c) (D : GD K mg "handled" shandled ["rule", "settled", "hand"]) (G_outcome_of : Own P w K mg base c 3 "outcome_of" Foutcome_of) : Own P w K mg base c 4 "handled" Fhandled :=
  own_ev (N := nhandled) (fB := bhandled) D schandled fun f cdv A outer s H E hid hr px =>
    have nd : (nhandled).Nodup := schandled.nd;
     (ess_cons (es_asg [3, 4, 5, 6] (ev_var 1) (eg_tup (egs_cons (eg_set 3 nd) (egs_cons (eg_set 4 nd) (egs_cons (eg_set 5 nd) (egs_cons (eg_set 6 nd) egs_nil))))))
      (ess_cons (es_if (et_cmp (op_eqD hr.units) cmp_eq (ev_get (units1 hr) (ev_var 2) ev_int) ev_str) (ess_one (es_ret (ev_tup (ea_cons (ev_tup (ea_cons (ev_var 3) (ea_cons (ev_var 4) (ea_cons (ev_var 5) (ea_cons (ev_tup (ea_cons ev_int (ea_cons (ev_get (units1 hr) (ev_var 2) ev_int) (ea_cons (ev_get (units1 hr) (ev_var 2) ev_int) ea_nil)))) ea_nil))))) (ea_cons ev_str ea_nil))))) ess_nil)
      (ess_cons (es_if (et_cmp (op_eqD hr.units) cmp_eq (ev_get (units1 hr) (ev_var 2) ev_int) ev_str) (ess_one (es_ret (ev_tup (ea_cons (ev_tup (ea_cons (ev_var 3) (ea_cons (ev_var 4) (ea_cons (ev_var 5) (ea_cons (ev_tup ea_nil) ea_nil))))) (ea_cons (ev_pure G_outcome_of.at (hr.mono (by decide)) px (ea_cons (ev_var 0) (ea_cons (ev_var 3) (ea_cons (ev_var 6) ea_nil)))) ea_nil))))) ess_nil)
      (ess_one (es_ret (ev_tup (ea_cons (ev_var 1) (ea_cons ev_str ea_nil))))))))
abbrev ssteps_at : Stmt := topS 46
theorem scsteps_at : FnScope nsteps_at ["house", "standing"] (defScope ssteps_at) := ⟨rfl, rfl, rfl, by decide +kernel, rfl, by decide +kernel, by decide +kernel⟩
set_option maxHeartbeats 0 in
theorem oksteps_at (T : Tx P w K mg base c) (D : GD K mg "steps_at" ssteps_at ["house", "standing"]) (G_changes_at : Own P w K mg base c 3 "changes_at" Fchanges_at) (G_settled_at : Own P w K mg base c 5 "settled_at" Fsettled_at) (G_hands_at : Own P w K mg base c 3 "hands_at" Fhands_at) (G_handled : Own P w K mg base c 4 "handled" Fhandled) : Own P w K mg base c 6 "steps_at" Fsteps_at :=
  own_ev (N := nsteps_at) (fB := bsteps_at) D scsteps_at fun f cdv A outer s H E hid hr px =>
    have nd : (nsteps_at).Nodup := scsteps_at.nd;
     (ess_cons (es_set 2 nd (ev_lstF mk_lst ea_nil))
      (ess_cons (es_for [3] (ei_seq (ev_pure G_changes_at.at (hr.mono (by decide)) px (ea_cons (ev_var 0) (ea_cons (ev_var 1) ea_nil)))) (eg_set 3 nd) (ess_cons (es_set 4 nd (ev_pure G_settled_at.at (hr.mono (by decide)) px (ea_cons (ev_var 0) (ea_cons (ev_var 1) (ea_cons (ev_var 3) ea_nil)))))
      (ess_one (es_for [5] (ei_seq (ev_pure G_hands_at.at (hr.mono (by decide)) px (ea_cons (ev_var 0) (ea_cons (ev_var 4) ea_nil)))) (eg_set 5 nd) (ess_cons (es_asg [6, 7] (ev_pure G_handled.at (hr.mono (by decide)) px (ea_cons (ev_prop 1 0 T.F.at (T.f1 0) T.k1 T.q_rule (hr.mono (by decide)) (ev_var 0)) (ea_cons (ev_var 4) (ea_cons (ev_var 5) ea_nil)))) (eg_tup (egs_cons (eg_set 6 nd) (egs_cons (eg_set 7 nd) egs_nil))))
      (ess_one (es_expr (ev_meth PySem.F.plainAttrs_list PySem.F.slot_list_append PySem.F.type_list_append mt_append op_append (ev_var 2) (ea_cons (ev_tup (ea_cons (ev_tup (ea_cons (ev_var 3) (ea_cons (ev_var 5) ea_nil))) (ea_cons (ev_var 6) (ea_cons (ev_var 7) ea_nil)))) ea_nil))))) (hp := own_body)))) (hp := own_body))
      (ess_one (es_ret (ev_var 2)))))
abbrev nsteps_of : List Str := ["house"]
abbrev ssteps_of : Stmt := topS 52
def lfsteps_of : Sg → M D := (fN (oPure Fsteps_at) (fCons (fVar 0) (fCons (fVar 1) fNil)))
def lbssteps_of : Nat → Sg → M D := fun k => match k with | 0 => lfsteps_of | _ => fun _ => M.bad
def bsteps_of : Sg → M Out :=
  (sRet (fLamCall1 3 Fwalked lbssteps_of (fCons (fN (oPure Ffirst_standing) (fCons (fVar 0) fNil)) (fCons (fC (.fn 0)) (fCons (fC (.int 800)) fNil)))))
def Fsteps_of : List D → M D := mkFL 1 1 bsteps_of
theorem scsteps_of : FnScope nsteps_of ["house"] (defScope ssteps_of) := ⟨rfl, rfl, rfl, by decide +kernel, rfl, by decide +kernel, by decide +kernel⟩
def lamsteps_of : LamI := lamOf ssteps_of (kidE 2 (exprS ((defBody ssteps_of).getD 0 ssteps_of)))
theorem lamscsteps_of : LamS1 (defScope ssteps_of) lamsteps_of.scope nsteps_of "standing" := lamS1_by (by decide +kernel)
set_option maxHeartbeats 0 in
theorem oksteps_of (T : Tx P w K mg base c) {cd tP : Addr} (D : GDL K mg "steps_of" ssteps_of ["house"] cd) (TB : LamX.TabB base mg cd tP) (MEM0 : (tP, (("steps_of" : Str) ++ ".<locals>.") ++ "<lambda>") ∈ c.T) (ONE0 : ∀ p ∈ c.T, p.1 = tP → p.2 = (("steps_of" : Str) ++ ".<locals>.") ++ "<lambda>") (G_walked : OwnA1 P w K mg base c 1 "walked" 3 Fwalked) (G_first_standing : Own P w K mg base c 3 "first_standing" Ffirst_standing) (G_steps_at : Own P w K mg base c 6 "steps_at" Fsteps_at) : Own P w K mg base c 15 "steps_of" Fsteps_of :=
  ownL_ev (N := nsteps_of) (fB := bsteps_of) (L := [lamsteps_of]) D scsteps_of fun f A outer s H E hid hr px =>
    have nd : (nsteps_of).Nodup := scsteps_of.nd;
    have MEM := MEM0; have ONE := ONE0;
    have LO : LamsOk1 (cxOf (L2.CX P w) P w K mg base nsteps_of "steps_of" (defScope ssteps_of) f (.ref cd) A outer s H E) c 12 [lamsteps_of] "standing" lbssteps_of := lamsOk1_mk lamscsteps_of (fun _ _ _ _ _ _ => rfl) fun hid a c' A outer z H E kp hr px => (ev_pure G_steps_at.at (hr.mono (by decide)) px (ea_cons (ev_var 0) (ea_cons (ev_var 1) ea_nil)));
     (ess_one (es_ret (ev_lamcall1 G_walked LO (hr.mono (by decide)) px (ea_cons (ev_pure G_first_standing.at (hr.mono (by decide)) px (ea_cons (ev_var 0) ea_nil)) (ea_cons (ev_lam1 0 (l := lamsteps_of) rfl TB rfl MEM ONE lamscsteps_of (by rfl)) (ea_cons (ev_const T.c_MOST_STANDINGS) ea_nil))))))
abbrev nstandings_of : List Str := ["house"]
def bstandings_of : Sg → M Out :=
  (sSeq (sExpr (fN (fun xs => oPure Fcheck_house (xs ++ [(.str "house")])) (fCons (fVar 0) fNil)))
  (sRet (fN (oSortN mkFz) (fCons (fN (oPure Fsteps_of) (fCons (fVar 0) fNil)) fNil))))
def Fstandings_of : List D → M D := mkF 1 1 bstandings_of
abbrev sstandings_of : Stmt := topS 53
theorem scstandings_of : FnScope nstandings_of ["house"] (defScope sstandings_of) := ⟨rfl, rfl, rfl, by decide +kernel, rfl, by decide +kernel, by decide +kernel⟩
set_option maxHeartbeats 0 in
theorem okstandings_of (T : Tx P w K mg base c) (D : GD K mg "standings_of" sstandings_of ["house"]) (G_check_house : OwnD P w K mg base c 1 "check_house" Fcheck_house [(.str "house")]) (G_steps_of : Own P w K mg base c 15 "steps_of" Fsteps_of) : Own P w K mg base c 16 "standings_of" Fstandings_of :=
  own_ev (N := nstandings_of) (fB := bstandings_of) D scstandings_of fun f cdv A outer s H E hid hr px =>
    have nd : (nstandings_of).Nodup := scstandings_of.nd;
     (ess_cons (es_expr (ev_pureD G_check_house.at (hr.mono (by decide)) px (ea_cons (ev_var 0) ea_nil)))
      (ess_one (es_ret (ev_blt (cr_sortedDN rfl (units66 hr)) (op_sortedN mk_fz (by exact T.pw)) T.m_sorted (by decide +kernel) (ea_cons (ev_pure G_steps_of.at (hr.mono (by decide)) px (ea_cons (ev_var 0) ea_nil)) ea_nil)))))
abbrev sare_ranks : Stmt := topS 27
theorem scare_ranks : FnScope nare_ranks ["house", "thing", "most"] (defScope sare_ranks) := ⟨rfl, rfl, rfl, by decide +kernel, rfl, by decide +kernel, by decide +kernel⟩
set_option maxHeartbeats 0 in
theorem okare_ranks (T : Tx P w K mg base c) (D : GD K mg "are_ranks" sare_ranks ["house", "thing", "most"]) (G_is_number_within : Own P w K mg base c 2 "is_number_within" Fis_number_within) : Own P w K mg base c 3 "are_ranks" Fare_ranks :=
  own_ev (N := nare_ranks) (fB := bare_ranks) D scare_ranks fun f cdv A outer s H E hid hr px =>
    have nd : (nare_ranks).Nodup := scare_ranks.nd;
     (ess_cons (es_if (ew_t (ew_or (et_not (et_val (ev_isi .tup T.F.at kit_tup T.m_isinstance (ev_var 1) (pe_bltn (by rfl) T.m_tuple boot_tuple rfl)))) (ew_or1 (et_cmp op_gt cmp_int (ev_blt callr_len op_lenA T.m_len PySem.boot_len (ea_cons (ev_var 1) ea_nil)) (ev_var 2))))) (ess_one (es_ret ev_bl)) ess_nil)
      (ess_one (es_ret (ev_blt (cr_all rfl) op_bls T.m_all (by decide +kernel) (ea_cons (ev_lc [("rank", 3)] nd (blkOk_by (N := nare_ranks) (sc := defScope sare_ranks) (by decide +kernel)) (ei_seq (ev_var 1)) (fun _ _ _ _ _ _ => (eg_set 3 nd)) (fun _ _ _ _ _ _ => ets_nil) (fun _ _ _ _ _ _ => (ev_pure G_is_number_within.at (hr.mono (by decide)) pass_EF (ea_cons (ev_var 3) (ea_cons ev_int (ea_cons (ev_prop 1 2 T.F.at (T.f1 2) T.k1 T.q_top (hr.mono (by decide)) (ev_var 0)) ea_nil)))))) ea_nil)))))
abbrev sis_look : Stmt := topS 29
theorem scis_look : FnScope nis_look ["house", "thing", "many"] (defScope sis_look) := ⟨rfl, rfl, rfl, by decide +kernel, rfl, by decide +kernel, by decide +kernel⟩
set_option maxHeartbeats 0 in
theorem okis_look (T : Tx P w K mg base c) (D : GD K mg "is_look" sis_look ["house", "thing", "many"]) (G_is_number_within : Own P w K mg base c 2 "is_number_within" Fis_number_within) : Own P w K mg base c 3 "is_look" Fis_look :=
  own_ev (N := nis_look) (fB := bis_look) D scis_look fun f cdv A outer s H E hid hr px =>
    have nd : (nis_look).Nodup := scis_look.nd;
     (ess_cons (es_if (ew_t (ew_or (et_not (et_val (ev_isi .tup T.F.at kit_tup T.m_isinstance (ev_var 1) (pe_bltn (by rfl) T.m_tuple boot_tuple rfl)))) (ew_or1 (et_cmp (opr_notIn (units65 hr)) cmp_notInA (ev_blt callr_len op_lenA T.m_len PySem.boot_len (ea_cons (ev_var 1) ea_nil)) (ev_tup (ea_cons ev_int (ea_cons ev_int ea_nil))))))) (ess_one (es_ret ev_bl)) ess_nil)
      (ess_cons (es_if (et_cmp (op_eqD hr.units) cmp_eq (ev_var 1) (ev_tup ea_nil)) (ess_one (es_ret ev_bl)) ess_nil)
      (ess_cons (es_asg [3, 4, 5] (ev_var 1) (eg_tup (egs_cons (eg_set 3 nd) (egs_cons (eg_set 4 nd) (egs_cons (eg_set 5 nd) egs_nil)))))
      (ess_one (es_ret (ev_and (ev_pure G_is_number_within.at (hr.mono (by decide)) px (ea_cons (ev_var 3) (ea_cons ev_int (ea_cons (ev_op op_sub op_I0 (ev_get (units1 hr) (ev_prop 1 5 T.F.at (T.f1 5) T.k1 T.q_lag (hr.mono (by decide)) (ev_var 0)) ev_int) ev_int) ea_nil)))) (ev_and (ev_pure G_is_number_within.at (hr.mono (by decide)) px (ea_cons (ev_var 4) (ea_cons ev_int (ea_cons (ev_op op_sub op_I0 (ev_prop 1 1 T.F.at (T.f1 1) T.k1 T.q_room (hr.mono (by decide)) (ev_var 0)) ev_int) ea_nil)))) (ev_one (ev_pure G_is_number_within.at (hr.mono (by decide)) px (ea_cons (ev_var 5) (ea_cons (ev_un un_neg op_neg ev_int) (ea_cons (ev_op op_sub op_I0 (ev_var 2) ev_int) ea_nil))))))))))))
abbrev sis_item : Stmt := topS 28
theorem scis_item : FnScope nis_item ["house", "thing"] (defScope sis_item) := ⟨rfl, rfl, rfl, by decide +kernel, rfl, by decide +kernel, by decide +kernel⟩
set_option maxHeartbeats 0 in
theorem okis_item (T : Tx P w K mg base c) (D : GD K mg "is_item" sis_item ["house", "thing"]) (G_is_number_within : Own P w K mg base c 2 "is_number_within" Fis_number_within) : Own P w K mg base c 3 "is_item" Fis_item :=
  own_ev (N := nis_item) (fB := bis_item) D scis_item fun f cdv A outer s H E hid hr px =>
    have nd : (nis_item).Nodup := scis_item.nd;
     (ess_cons (es_if (ew_t (ew_or (et_not (et_val (ev_isi .tup T.F.at kit_tup T.m_isinstance (ev_var 1) (pe_bltn (by rfl) T.m_tuple boot_tuple rfl)))) (ew_or1 (et_cmp (op_neD hr.units) cmp_ne (ev_blt callr_len op_lenA T.m_len PySem.boot_len (ea_cons (ev_var 1) ea_nil)) ev_int)))) (ess_one (es_ret ev_bl)) ess_nil)
      (ess_cons (es_asg [2, 3, 4] (ev_var 1) (eg_tup (egs_cons (eg_set 2 nd) (egs_cons (eg_set 3 nd) (egs_cons (eg_set 4 nd) egs_nil)))))
      (ess_cons (es_if (ew_t (ew_or (et_not (et_val (ev_isi .bl T.F.at kit_bl T.m_isinstance (ev_var 3) (pe_bltn (by rfl) T.m_bool boot_bool rfl)))) (ew_or1 (ew_t (ew_and (et_val (ev_var 3)) (ew_and1 (et_not (et_val (ev_prop 1 4 T.F.at (T.f1 4) T.k1 T.q_goes (hr.mono (by decide)) (ev_var 0)))))))))) (ess_one (es_ret ev_bl)) ess_nil)
      (ess_one (es_ret (ev_and (ev_pure G_is_number_within.at (hr.mono (by decide)) px (ea_cons (ev_var 2) (ea_cons ev_int (ea_cons (ev_prop 1 2 T.F.at (T.f1 2) T.k1 T.q_top (hr.mono (by decide)) (ev_var 0)) ea_nil)))) (ev_one (ev_pure G_is_number_within.at (hr.mono (by decide)) px (ea_cons (ev_var 4) (ea_cons ev_int (ea_cons (ev_prop 0 4 T.F.at (T.f0 4) T.k0 T.q_guard (hr.mono (by decide)) (ev_prop 1 0 T.F.at (T.f1 0) T.k1 T.q_rule (hr.mono (by decide)) (ev_var 0))) ea_nil)))))))))))
abbrev sis_standing : Stmt := topS 30
theorem scis_standing : FnScope nis_standing ["house", "thing"] (defScope sis_standing) := ⟨rfl, rfl, rfl, by decide +kernel, rfl, by decide +kernel, by decide +kernel⟩
set_option maxHeartbeats 0 in
theorem okis_standing (T : Tx P w K mg base c) (D : GD K mg "is_standing" sis_standing ["house", "thing"]) (G_check_house : OwnD P w K mg base c 1 "check_house" Fcheck_house [(.str "house")]) (G_is_item : Own P w K mg base c 3 "is_item" Fis_item) (G_are_ranks : Own P w K mg base c 3 "are_ranks" Fare_ranks) (G_is_number_within : Own P w K mg base c 2 "is_number_within" Fis_number_within) (G_is_look : Own P w K mg base c 3 "is_look" Fis_look) : Own P w K mg base c 4 "is_standing" Fis_standing :=
  own_ev (N := nis_standing) (fB := bis_standing) D scis_standing fun f cdv A outer s H E hid hr px =>
    have nd : (nis_standing).Nodup := scis_standing.nd;
     (ess_cons (es_expr (ev_pureD G_check_house.at (hr.mono (by decide)) px (ea_cons (ev_var 0) ea_nil)))
      (ess_cons (es_if (ew_t (ew_or (et_not (et_val (ev_isi .tup T.F.at kit_tup T.m_isinstance (ev_var 1) (pe_bltn (by rfl) T.m_tuple boot_tuple rfl)))) (ew_or1 (et_cmp (op_neD hr.units) cmp_ne (ev_blt callr_len op_lenA T.m_len PySem.boot_len (ea_cons (ev_var 1) ea_nil)) ev_int)))) (ess_one (es_ret ev_bl)) ess_nil)
      (ess_cons (es_asg [2, 3, 4, 5] (ev_var 1) (eg_tup (egs_cons (eg_set 2 nd) (egs_cons (eg_set 3 nd) (egs_cons (eg_set 4 nd) (egs_cons (eg_set 5 nd) egs_nil))))))
      (ess_cons (es_if (ew_t (ew_or (et_not (et_val (ev_isi .tup T.F.at kit_tup T.m_isinstance (ev_var 2) (pe_bltn (by rfl) T.m_tuple boot_tuple rfl)))) (ew_or1 (et_cmp op_gt cmp_int (ev_blt callr_len op_lenA T.m_len PySem.boot_len (ea_cons (ev_var 2) ea_nil)) (ev_prop 1 1 T.F.at (T.f1 1) T.k1 T.q_room (hr.mono (by decide)) (ev_var 0)))))) (ess_one (es_ret ev_bl)) ess_nil)
      (ess_one (es_ret (ev_and (ev_blt (cr_all rfl) op_bls T.m_all (by decide +kernel) (ea_cons (ev_lc [("item", 6)] nd (blkOk_by (N := nis_standing) (sc := defScope sis_standing) (by decide +kernel)) (ei_seq (ev_var 2)) (fun _ _ _ _ _ _ => (eg_set 6 nd)) (fun _ _ _ _ _ _ => ets_nil) (fun _ _ _ _ _ _ => (ev_pure G_is_item.at (hr.mono (by decide)) pass_EF (ea_cons (ev_var 0) (ea_cons (ev_var 6) ea_nil))))) ea_nil)) (ev_and (ev_pure G_are_ranks.at (hr.mono (by decide)) px (ea_cons (ev_var 0) (ea_cons (ev_var 3) (ea_cons (ev_prop 1 3 T.F.at (T.f1 3) T.k1 T.q_many (hr.mono (by decide)) (ev_var 0)) ea_nil)))) (ev_and (ev_pure G_is_number_within.at (hr.mono (by decide)) px (ea_cons (ev_var 4) (ea_cons ev_int (ea_cons (ev_prop 0 1 T.F.at (T.f0 1) T.k0 T.q_still (hr.mono (by decide)) (ev_prop 1 0 T.F.at (T.f1 0) T.k1 T.q_rule (hr.mono (by decide)) (ev_var 0))) ea_nil)))) (ev_one (ev_pure G_is_look.at (hr.mono (by decide)) px (ea_cons (ev_var 0) (ea_cons (ev_var 5) (ea_cons (ev_blt callr_len op_lenA T.m_len PySem.boot_len (ea_cons (ev_var 2) ea_nil)) ea_nil))))))))))))))
abbrev scheck_standing : Stmt := topS 31
theorem sccheck_standing : FnScope ncheck_standing ["house", "standing"] (defScope scheck_standing) := ⟨rfl, rfl, rfl, by decide +kernel, rfl, by decide +kernel, by decide +kernel⟩
set_option maxHeartbeats 0 in
theorem okcheck_standing (T : Tx P w K mg base c) (D : GD K mg "check_standing" scheck_standing ["house", "standing"]) (G_is_standing : Own P w K mg base c 4 "is_standing" Fis_standing) : Own P w K mg base c 5 "check_standing" Fcheck_standing :=
  own_ev (N := ncheck_standing) (fB := bcheck_standing) D sccheck_standing fun f cdv A outer s H E hid hr px =>
    have nd : (ncheck_standing).Nodup := sccheck_standing.nd;
     (ess_one (es_if (et_not (et_val (ev_pure G_is_standing.at (hr.mono (by decide)) px (ea_cons (ev_var 0) (ea_cons (ev_var 1) ea_nil))))) (ess_one es_bad) ess_nil))
abbrev nlast_ticks : List Str := ["first", "steps", "lasts", "ahead", "moment", "behind", "told"]
def blast_ticks : Sg → M Out :=
  (sSeq (sSet 2 (fDispN (fVar 0) (fC .non)))
  (sSeq (sForN 1 (gSet 3) (sFor (fSrc noF (f2 oGetN (fVar 1) (fVar 3))) (gTupF 3 (gAnd (gSet 4) (gAnd (gSet 5) (gAnd (gSet 6) gEnd)))) (sIf (t2 (pInN true) (fVar 5) (fVar 2)) (sAsg (fN mkTup (fCons (fVar 3) (fCons (fVar 4) fNil))) (gSubN (fVar 2) (fVar 5))) sNx)))
  (sRet (fVar 2))))
def Flast_ticks : List D → M D := mkF 2 7 blast_ticks
abbrev slast_ticks : Stmt := topS 50
theorem sclast_ticks : FnScope nlast_ticks ["first", "steps"] (defScope slast_ticks) := ⟨rfl, rfl, rfl, by decide +kernel, rfl, by decide +kernel, by decide +kernel⟩
set_option maxHeartbeats 0 in
theorem oklast_ticks (T : Tx P w K mg base c) (D : GD K mg "last_ticks" slast_ticks ["first", "steps"]) : Own P w K mg base c 1 "last_ticks" Flast_ticks :=
  own_ev (N := nlast_ticks) (fB := blast_ticks) D sclast_ticks fun f cdv A outer s H E hid hr px =>
    have nd : (nlast_ticks).Nodup := sclast_ticks.nd;
     (ess_cons (es_set 2 nd (ev_dispN (by exact T.pw) (units10 hr) (ev_var 0) ev_non))
      (ess_cons (es_forN 1 [3] (by exact T.pw) (eg_set 3 nd) (ess_one (es_for [4, 5, 6] (ei_seq (ev_getN (by exact T.pw) (units10 hr) (ev_var 1) (ev_var 3))) (eg_tup (egs_cons (eg_set 4 nd) (egs_cons (eg_set 5 nd) (egs_cons (eg_set 6 nd) egs_nil)))) (ess_one (es_if (et_cmp (opr_notInN (units65 hr)) (cmp_notInN (by exact T.pw)) (ev_var 5) (ev_var 2)) (ess_one (es_asg [] (ev_tup (ea_cons (ev_var 3) (ea_cons (ev_var 4) ea_nil))) (eg_subN (by exact T.pw) (units10 hr) (ev_var 2) (ev_var 5)))) ess_nil)) (hp := own_body))) (hp := own_body))
      (ess_one (es_ret (ev_var 2)))))
abbrev ncourse_by : List Str := ["lasts", "standing", "course", "last", "ahead", "moment"]
def bcourse_by : Sg → M Out :=
  (sSeq (sSet 2 (fN mkLst fNil))
  (sSeq (sSet 3 (f2 oGetN (fVar 0) (fVar 1)))
  (sSeq (sWhile 60 (t2 (pIsN fun b => !b) (fVar 3) (fC .non)) (sSeq (sAsg (fVar 3) (gTupF 2 (gAnd (gSet 4) (gAnd (gSet 5) gEnd))))
  (sSeq (sExpr (fM mAppend (fVar 2) (fCons (fVar 5) fNil)))
  (sSet 3 (f2 oGetN (fVar 0) (fVar 4))))))
  (sRet (f1 (oRev mkFz) (fVar 2))))))
def Fcourse_by : List D → M D := mkF 2 6 bcourse_by
abbrev scourse_by : Stmt := topS 51
theorem sccourse_by : FnScope ncourse_by ["lasts", "standing"] (defScope scourse_by) := ⟨rfl, rfl, rfl, by decide +kernel, rfl, by decide +kernel, by decide +kernel⟩
set_option maxHeartbeats 0 in
theorem okcourse_by (T : Tx P w K mg base c) (D : GD K mg "course_by" scourse_by ["lasts", "standing"]) : Own P w K mg base c 1 "course_by" Fcourse_by :=
  own_ev (N := ncourse_by) (fB := bcourse_by) D sccourse_by fun f cdv A outer s H E hid hr px =>
    have nd : (ncourse_by).Nodup := sccourse_by.nd;
     (ess_cons (es_set 2 nd (ev_lstF mk_lst ea_nil))
      (ess_cons (es_set 3 nd (ev_getN (by exact T.pw) (units10 hr) (ev_var 0) (ev_var 1)))
      (ess_cons (es_while 60 (et_cmp op_notN cmp_notN (ev_var 3) ev_non) (ess_cons (es_asg [4, 5] (ev_var 3) (eg_tup (egs_cons (eg_set 4 nd) (egs_cons (eg_set 5 nd) egs_nil))))
      (ess_cons (es_expr (ev_meth PySem.F.plainAttrs_list PySem.F.slot_list_append PySem.F.type_list_append mt_append op_append (ev_var 2) (ea_cons (ev_var 5) ea_nil)))
      (ess_one (es_set 3 nd (ev_getN (by exact T.pw) (units10 hr) (ev_var 0) (ev_var 4)))))) (hp := own_body))
      (ess_one (es_ret (ev_rev mk_fz (ev_var 2)))))))
abbrev ncourse_to : List Str := ["house", "standing", "lasts"]
def bcourse_to : Sg → M Out :=
  (sSeq (sExpr (fN (oPure Fcheck_standing) (fCons (fVar 0) (fCons (fVar 1) fNil))))
  (sSeq (sSet 2 (fN (oPure Flast_ticks) (fCons (fN (oPure Ffirst_standing) (fCons (fVar 0) fNil)) (fCons (fN (oPure Fsteps_of) (fCons (fVar 0) fNil)) fNil))))
  (sRet (fIf (t2 (pInN false) (fVar 1) (fVar 2)) (fN (oPure Fcourse_by) (fCons (fVar 2) (fCons (fVar 1) fNil))) (fC .non)))))
def Fcourse_to : List D → M D := mkF 2 3 bcourse_to
abbrev scourse_to : Stmt := topS 54
theorem sccourse_to : FnScope ncourse_to ["house", "standing"] (defScope scourse_to) := ⟨rfl, rfl, rfl, by decide +kernel, rfl, by decide +kernel, by decide +kernel⟩
set_option maxHeartbeats 0 in
theorem okcourse_to (T : Tx P w K mg base c) (D : GD K mg "course_to" scourse_to ["house", "standing"]) (G_check_standing : Own P w K mg base c 5 "check_standing" Fcheck_standing) (G_last_ticks : Own P w K mg base c 1 "last_ticks" Flast_ticks) (G_steps_of : Own P w K mg base c 15 "steps_of" Fsteps_of) (G_first_standing : Own P w K mg base c 3 "first_standing" Ffirst_standing) (G_course_by : Own P w K mg base c 1 "course_by" Fcourse_by) : Own P w K mg base c 16 "course_to" Fcourse_to :=
  own_ev (N := ncourse_to) (fB := bcourse_to) D sccourse_to fun f cdv A outer s H E hid hr px =>
    have nd : (ncourse_to).Nodup := sccourse_to.nd;
     (ess_cons (es_expr (ev_pure G_check_standing.at (hr.mono (by decide)) px (ea_cons (ev_var 0) (ea_cons (ev_var 1) ea_nil))))
      (ess_cons (es_set 2 nd (ev_pure G_last_ticks.at (hr.mono (by decide)) px (ea_cons (ev_pure G_first_standing.at (hr.mono (by decide)) px (ea_cons (ev_var 0) ea_nil)) (ea_cons (ev_pure G_steps_of.at (hr.mono (by decide)) px (ea_cons (ev_var 0) ea_nil)) ea_nil))))
      (ess_one (es_ret (ev_if (et_cmp (opr_inN (units65 hr)) (cmp_inN (by exact T.pw)) (ev_var 1) (ev_var 2)) (ev_pure G_course_by.at (hr.mono (by decide)) px (ea_cons (ev_var 2) (ea_cons (ev_var 1) ea_nil))) ev_non)))))
end K27

namespace K27
open PySem PySem.Spec PyProof.Rows L2 Dr Ev Und
def bstI : Sg → M Out :=
  (sSeq (sExpr (fN (fun xs => oPure Fcheck_house (xs ++ [(.str "house")])) (fCons (fVar 0) fNil)))
  (sRet (fN (oSortNI mkFz) (fCons (fN (oPure Fsteps_of) (fCons (fVar 0) fNil)) fNil))))
def FstI : List D → M D := mkF 1 1 bstI
theorem st_i : Fstandings_of = FstI := by
  unfold Fstandings_of FstI bstandings_of bstI
  simp only [oSortN_i]
def blaw : Sg → M Out :=
  (sSeq (sFor (fun s => M.bind ((fC (.int 4)) s) srcR1) (gSet 1) (sSeq (sFor (fun s => M.bind ((fC (.int 1)) s) fun x => M.bind ((fC (.int 4)) s) fun y => srcR2 x y) (gSet 2) (sSeq (sSet 3 (fN (oMk 1 6 IHouse) (fCons (fN (oMk 0 5 IRule) (fCons (fC (.str "end")) (fCons (fC (.int 0)) (fCons (fC (.int 0)) (fCons (fC (.int 0)) (fCons (fVar 1) fNil)))))) (fCons (fC (.int 1)) (fCons (fC (.int 0)) (fCons (fC (.int 1)) (fCons (fC (.bl false)) (fCons (fN mkTup (fCons (fC (.int 1)) (fCons (fVar 2) fNil))) fNil))))))))
  (sSeq (sSet 4 (f2 (oAdd mkLst) (fN mkFz (fCons (fN mkTup (fCons (fN mkTup fNil) (fCons (fN mkTup fNil) (fCons (fC (.int 0)) (fCons (fN mkTup fNil) fNil))))) fNil)) (fLc [6] (fun s => M.bind ((f2 (oAdd mkFz) (fVar 1) (fC (.int 1))) s) srcR1) (gSet 6) tTrue (fN mkTup (fCons (fN mkTup (fCons (fN mkTup (fCons (fC (.int 0)) (fCons (fC (.bl false)) (fCons (fVar 6) fNil)))) fNil)) (fCons (fN mkTup fNil) (fCons (fC (.int 0)) (fCons (fN mkTup fNil) fNil))))))))
  (sSeq (sFor (fun s => M.bind ((fVar 2) s) srcR1) (gSet 5) (sFor (fun s => M.bind ((fN (o2I fun i j => if j < i then j else i) (fCons (fVar 5) (fCons (fVar 1) fNil))) s) fun x => M.bind ((f2 (oAdd mkFz) (fVar 1) (fC (.int 1))) s) fun y => srcR2 x y) (gSet 6) (sExpr (fM mAppend (fVar 4) (fCons (fN mkTup (fCons (fN mkTup (fCons (fN mkTup (fCons (fC (.int 0)) (fCons (fC (.bl false)) (fCons (fVar 6) fNil)))) fNil)) (fCons (fN mkTup fNil) (fCons (fC (.int 0)) (fCons (fN mkTup (fCons (fVar 5) (fCons (fC (.int 0)) (fCons (fC (.int 0)) fNil)))) fNil))))) fNil)))))
  (sSeq (sIf (tOrF (t2 (pEq fun b => !b) (fN (oPure Fstandings_of) (fCons (fVar 3) fNil)) (fN (oSortD mkFz) (fCons (fVar 4) fNil))) (t2 (pInA true) (fN (oPure Ffirst_standing) (fCons (fVar 3) fNil)) (fVar 4))) (sRet (fC (.bl false))) sNx)
  (sSeq (sSet 7 (fN mkTup (fCons (fN mkTup (fCons (fN mkTup (fCons (fC (.int 0)) (fCons (fC (.bl false)) (fCons (fVar 1) fNil)))) fNil)) (fCons (fN mkTup fNil) (fCons (fC (.int 0)) (fCons (fN mkTup (fCons (f2 (oI (fun _ _ => true) fun i j => i - j) (fVar 2) (fC (.int 1))) (fCons (fC (.int 0)) (fCons (fC (.int 0)) fNil)))) fNil))))))
  (sSeq (sIf (t2 (pEq fun b => !b) (fN oLenA (fCons (fN (oPure Fcourse_to) (fCons (fVar 3) (fCons (fVar 7) fNil))) fNil)) (fN (oExtL maxI) (fCons (fN mkFz (fCons (f2 (oAdd mkFz) (fVar 1) (fC (.int 1))) (fCons (fVar 2) fNil))) fNil))) (sRet (fC (.bl false))) sNx)
  (sIf (t2 (pIsN fun b => !b) (fN (oPure Fcourse_to) (fCons (fVar 3) (fCons (fN mkTup (fCons (fN mkTup (fCons (fN mkTup (fCons (fC (.int 0)) (fCons (fC (.bl false)) (fCons (fC (.int 0)) fNil)))) fNil)) (fCons (fN mkTup fNil) (fCons (fC (.int 0)) (fCons (fN mkTup (fCons (fC (.int 0)) (fCons (fC (.int 0)) (fCons (f2 (oI (fun _ _ => true) fun i j => i - j) (fC (.int 0)) (fC (.int 1))) fNil)))) fNil))))) fNil))) (fC .non)) (sRet (fC (.bl false))) sNx))))))))
  (sSeq (sSet 8 (fN (oMk 1 6 IHouse) (fCons (fN (oMk 0 5 IRule) (fCons (fC (.str "front")) (fCons (fC (.int 0)) (fCons (fC (.int 0)) (fCons (fC (.int 0)) (fCons (fC (.int 0)) fNil)))))) (fCons (fC (.int 1)) (fCons (fC (.int 0)) (fCons (fC (.int 1)) (fCons (fC (.bl false)) (fCons (fN mkTup (fCons (fC (.int 1)) (fCons (fC (.int 1)) fNil))) fNil))))))))
  (sSeq (sIf (t2 (pEq fun b => !b) (fN (oPure Fstandings_of) (fCons (fVar 8) fNil)) (fN mkFz (fCons (fN mkTup (fCons (fN mkTup fNil) (fCons (fN mkTup fNil) (fCons (fC (.int 0)) (fCons (fN mkTup fNil) fNil))))) (fCons (fN mkTup (fCons (fN mkTup (fCons (fN mkTup (fCons (fC (.int 0)) (fCons (fC (.bl false)) (fCons (fC (.int 0)) fNil)))) fNil)) (fCons (fN mkTup fNil) (fCons (fC (.int 0)) (fCons (fN mkTup fNil) fNil))))) (fCons (fN mkTup (fCons (fN mkTup (fCons (fN mkTup (fCons (fC (.int 0)) (fCons (fC (.bl false)) (fCons (fC (.int 0)) fNil)))) fNil)) (fCons (fN mkTup fNil) (fCons (fC (.int 0)) (fCons (fN mkTup (fCons (fC (.int 0)) (fCons (fC (.int 0)) (fCons (fC (.int 0)) fNil)))) fNil))))) fNil))))) (sRet (fC (.bl false))) sNx)
  (sSeq (sSet 9 (fN (oMk 1 6 IHouse) (fCons (fN (oMk 0 5 IRule) (fCons (fC (.str "front")) (fCons (fC (.int 0)) (fCons (fC (.int 1)) (fCons (fC (.int 0)) (fCons (fC (.int 0)) fNil)))))) (fCons (fC (.int 1)) (fCons (fC (.int 0)) (fCons (fC (.int 1)) (fCons (fC (.bl false)) (fCons (fN mkTup (fCons (fC (.int 2)) (fCons (fC (.int 2)) fNil))) fNil))))))))
  (sSeq (sSet 10 (fN mkTup (fCons (fN mkTup (fCons (fC (.int 0)) (fCons (fC (.bl false)) (fCons (fC (.int 0)) fNil)))) fNil)))
  (sSeq (sSet 4 (fN mkLst (fCons (fN mkTup (fCons (fN mkTup fNil) (fCons (fN mkTup fNil) (fCons (fC (.int 0)) (fCons (fN mkTup fNil) fNil))))) (fCons (fN mkTup (fCons (fVar 10) (fCons (fN mkTup fNil) (fCons (fC (.int 0)) (fCons (fN mkTup fNil) fNil))))) (fCons (fN mkTup (fCons (fVar 10) (fCons (fN mkTup fNil) (fCons (fC (.int 0)) (fCons (fN mkTup (fCons (fC (.int 0)) (fCons (fC (.int 0)) (fCons (fC (.int 0)) fNil)))) fNil))))) (fCons (fN mkTup (fCons (fVar 10) (fCons (fN mkTup fNil) (fCons (fC (.int 0)) (fCons (fN mkTup (fCons (fC (.int 1)) (fCons (fC (.int 0)) (fCons (fC (.int 0)) fNil)))) fNil))))) fNil))))))
  (sIf (t2 (pEq fun b => !b) (fN (oPure Fstandings_of) (fCons (fVar 9) fNil)) (fN (oSortD mkFz) (fCons (f2 (oAdd mkFz) (fVar 4) (fN mkFz (fCons (fN mkTup (fCons (fVar 10) (fCons (fN mkTup (fCons (fC (.int 0)) fNil)) (fCons (fC (.int 0)) (fCons (fN mkTup (fCons (fC (.int 1)) (fCons (fC (.int 0)) (fCons (fC (.int 0)) fNil)))) fNil))))) fNil))) fNil))) (sRet (fC (.bl false))) sNx))))))))
  (sRet (fC (.bl true))))
def bodyI : Sg → M Out :=
  (sSeq (sSet 3 (fN (oMk 1 6 IHouse) (fCons (fN (oMk 0 5 IRule) (fCons (fC (.str "end")) (fCons (fC (.int 0)) (fCons (fC (.int 0)) (fCons (fC (.int 0)) (fCons (fVar 1) fNil)))))) (fCons (fC (.int 1)) (fCons (fC (.int 0)) (fCons (fC (.int 1)) (fCons (fC (.bl false)) (fCons (fN mkTup (fCons (fC (.int 1)) (fCons (fVar 2) fNil))) fNil))))))))
  (sSeq (sSet 4 (f2 (oAdd mkLst) (fN mkFz (fCons (fN mkTup (fCons (fN mkTup fNil) (fCons (fN mkTup fNil) (fCons (fC (.int 0)) (fCons (fN mkTup fNil) fNil))))) fNil)) (fLc [6] (fun s => M.bind ((f2 (oAdd mkFz) (fVar 1) (fC (.int 1))) s) srcR1) (gSet 6) tTrue (fN mkTup (fCons (fN mkTup (fCons (fN mkTup (fCons (fC (.int 0)) (fCons (fC (.bl false)) (fCons (fVar 6) fNil)))) fNil)) (fCons (fN mkTup fNil) (fCons (fC (.int 0)) (fCons (fN mkTup fNil) fNil))))))))
  (sSeq (sFor (fun s => M.bind ((fVar 2) s) srcR1) (gSet 5) (sFor (fun s => M.bind ((fN (o2I fun i j => if j < i then j else i) (fCons (fVar 5) (fCons (fVar 1) fNil))) s) fun x => M.bind ((f2 (oAdd mkFz) (fVar 1) (fC (.int 1))) s) fun y => srcR2 x y) (gSet 6) (sExpr (fM mAppend (fVar 4) (fCons (fN mkTup (fCons (fN mkTup (fCons (fN mkTup (fCons (fC (.int 0)) (fCons (fC (.bl false)) (fCons (fVar 6) fNil)))) fNil)) (fCons (fN mkTup fNil) (fCons (fC (.int 0)) (fCons (fN mkTup (fCons (fVar 5) (fCons (fC (.int 0)) (fCons (fC (.int 0)) fNil)))) fNil))))) fNil)))))
  (sSeq (sIf (tOrF (t2 (pEq fun b => !b) (fN (oPure FstI) (fCons (fVar 3) fNil)) (fN (oSortDI mkFz) (fCons (fVar 4) fNil))) (t2 (pInA true) (fN (oPure Ffirst_standing) (fCons (fVar 3) fNil)) (fVar 4))) (sRet (fC (.bl false))) sNx)
  (sSeq (sSet 7 (fN mkTup (fCons (fN mkTup (fCons (fN mkTup (fCons (fC (.int 0)) (fCons (fC (.bl false)) (fCons (fVar 1) fNil)))) fNil)) (fCons (fN mkTup fNil) (fCons (fC (.int 0)) (fCons (fN mkTup (fCons (f2 (oI (fun _ _ => true) fun i j => i - j) (fVar 2) (fC (.int 1))) (fCons (fC (.int 0)) (fCons (fC (.int 0)) fNil)))) fNil))))))
  (sSeq (sIf (t2 (pEq fun b => !b) (fN oLenA (fCons (fN (oPure Fcourse_to) (fCons (fVar 3) (fCons (fVar 7) fNil))) fNil)) (fN (oExtL maxI) (fCons (fN mkFz (fCons (f2 (oAdd mkFz) (fVar 1) (fC (.int 1))) (fCons (fVar 2) fNil))) fNil))) (sRet (fC (.bl false))) sNx)
  (sIf (t2 (pIsN fun b => !b) (fN (oPure Fcourse_to) (fCons (fVar 3) (fCons (fN mkTup (fCons (fN mkTup (fCons (fN mkTup (fCons (fC (.int 0)) (fCons (fC (.bl false)) (fCons (fC (.int 0)) fNil)))) fNil)) (fCons (fN mkTup fNil) (fCons (fC (.int 0)) (fCons (fN mkTup (fCons (fC (.int 0)) (fCons (fC (.int 0)) (fCons (f2 (oI (fun _ _ => true) fun i j => i - j) (fC (.int 0)) (fC (.int 1))) fNil)))) fNil))))) fNil))) (fC .non)) (sRet (fC (.bl false))) sNx)))))))
def tailO : Sg → M Out :=
  (sSeq (sSet 8 (fN (oMk 1 6 IHouse) (fCons (fN (oMk 0 5 IRule) (fCons (fC (.str "front")) (fCons (fC (.int 0)) (fCons (fC (.int 0)) (fCons (fC (.int 0)) (fCons (fC (.int 0)) fNil)))))) (fCons (fC (.int 1)) (fCons (fC (.int 0)) (fCons (fC (.int 1)) (fCons (fC (.bl false)) (fCons (fN mkTup (fCons (fC (.int 1)) (fCons (fC (.int 1)) fNil))) fNil))))))))
  (sSeq (sIf (t2 (pEq fun b => !b) (fN (oPure FstI) (fCons (fVar 8) fNil)) (fN mkFz (fCons (fN mkTup (fCons (fN mkTup fNil) (fCons (fN mkTup fNil) (fCons (fC (.int 0)) (fCons (fN mkTup fNil) fNil))))) (fCons (fN mkTup (fCons (fN mkTup (fCons (fN mkTup (fCons (fC (.int 0)) (fCons (fC (.bl false)) (fCons (fC (.int 0)) fNil)))) fNil)) (fCons (fN mkTup fNil) (fCons (fC (.int 0)) (fCons (fN mkTup fNil) fNil))))) (fCons (fN mkTup (fCons (fN mkTup (fCons (fN mkTup (fCons (fC (.int 0)) (fCons (fC (.bl false)) (fCons (fC (.int 0)) fNil)))) fNil)) (fCons (fN mkTup fNil) (fCons (fC (.int 0)) (fCons (fN mkTup (fCons (fC (.int 0)) (fCons (fC (.int 0)) (fCons (fC (.int 0)) fNil)))) fNil))))) fNil))))) (sRet (fC (.bl false))) sNx)
  (sSeq (sSet 9 (fN (oMk 1 6 IHouse) (fCons (fN (oMk 0 5 IRule) (fCons (fC (.str "front")) (fCons (fC (.int 0)) (fCons (fC (.int 1)) (fCons (fC (.int 0)) (fCons (fC (.int 0)) fNil)))))) (fCons (fC (.int 1)) (fCons (fC (.int 0)) (fCons (fC (.int 1)) (fCons (fC (.bl false)) (fCons (fN mkTup (fCons (fC (.int 2)) (fCons (fC (.int 2)) fNil))) fNil))))))))
  (sSeq (sSet 10 (fN mkTup (fCons (fN mkTup (fCons (fC (.int 0)) (fCons (fC (.bl false)) (fCons (fC (.int 0)) fNil)))) fNil)))
  (sSeq (sSet 4 (fN mkLst (fCons (fN mkTup (fCons (fN mkTup fNil) (fCons (fN mkTup fNil) (fCons (fC (.int 0)) (fCons (fN mkTup fNil) fNil))))) (fCons (fN mkTup (fCons (fVar 10) (fCons (fN mkTup fNil) (fCons (fC (.int 0)) (fCons (fN mkTup fNil) fNil))))) (fCons (fN mkTup (fCons (fVar 10) (fCons (fN mkTup fNil) (fCons (fC (.int 0)) (fCons (fN mkTup (fCons (fC (.int 0)) (fCons (fC (.int 0)) (fCons (fC (.int 0)) fNil)))) fNil))))) (fCons (fN mkTup (fCons (fVar 10) (fCons (fN mkTup fNil) (fCons (fC (.int 0)) (fCons (fN mkTup (fCons (fC (.int 1)) (fCons (fC (.int 0)) (fCons (fC (.int 0)) fNil)))) fNil))))) fNil))))))
  (sIf (t2 (pEq fun b => !b) (fN (oPure FstI) (fCons (fVar 9) fNil)) (fN (oSortDI mkFz) (fCons (f2 (oAdd mkFz) (fVar 4) (fN mkFz (fCons (fN mkTup (fCons (fVar 10) (fCons (fN mkTup (fCons (fC (.int 0)) fNil)) (fCons (fC (.int 0)) (fCons (fN mkTup (fCons (fC (.int 1)) (fCons (fC (.int 0)) (fCons (fC (.int 0)) fNil)))) fNil))))) fNil))) fNil))) (sRet (fC (.bl false))) sNx))))))
def bodyO : Sg → M Out :=
  sSeq (sFor (fun s => M.bind ((fC (.int 1)) s) fun x => M.bind ((fC (.int 4)) s) fun y => srcR2 x y) (gSet 2) bodyI) tailO
def blawI : Sg → M Out :=
  sSeq (sFor (fun s => M.bind ((fC (.int 4)) s) srcR1) (gSet 1) bodyO) (sRet (fC (.bl true)))
theorem blaw_i : blaw = blawI := by
  unfold blaw blawI bodyO bodyI tailO
  simp only [oSortD_i, st_i]
theorem sr13 (s : Sg) (h : List O) : Sr ((fun s => M.bind ((fC (.int 1)) s) fun x => M.bind ((fC (.int 4)) s) fun y => srcR2 x y) s h) h [1, 2, 3] (fun _ (i : Nat) => D.int (i : Nat)) := ⟨⟨3, getR 1 3⟩, rfl, rfl, fun i h => match i with | 0 => rfl | 1 => rfl | 2 => rfl | i + 3 => by simp [getR]⟩
def S0 : Sg := [none, none, none, none, none, none, none, none, none, none, none]
def H0 : List O := []
def S1 : Sg := [none, some (.int (0)), none, none, none, none, none, none, none, none, none]
def H1 : List O := []
def S2 : Sg := [none, some (.int (0)), some (.int (1)), some (.ins 1 [(.ins 0 [(.str "end"), (.int (0)), (.int (0)), (.int (0)), (.int (0))]), (.int (1)), (.int (0)), (.int (1)), (.bl false), (.tup [(.int (1)), (.int (1))])]), some (.loc 0), some (.int (0)), some (.int (0)), some (.tup [(.tup [(.tup [(.int (0)), (.bl false), (.int (0))])]), (.tup []), (.int (0)), (.tup [(.int (0)), (.int (0)), (.int (0))])]), none, none, none]
def H2 : List O := [(.lst [(.tup [(.tup []), (.tup []), (.int (0)), (.tup [])]), (.tup [(.tup [(.tup [(.int (0)), (.bl false), (.int (0))])]), (.tup []), (.int (0)), (.tup [])]), (.tup [(.tup [(.tup [(.int (0)), (.bl false), (.int (0))])]), (.tup []), (.int (0)), (.tup [(.int (0)), (.int (0)), (.int (0))])])])]
def S3 : Sg := [none, some (.int (0)), some (.int (2)), some (.ins 1 [(.ins 0 [(.str "end"), (.int (0)), (.int (0)), (.int (0)), (.int (0))]), (.int (1)), (.int (0)), (.int (1)), (.bl false), (.tup [(.int (1)), (.int (2))])]), some (.loc 1), some (.int (1)), some (.int (0)), some (.tup [(.tup [(.tup [(.int (0)), (.bl false), (.int (0))])]), (.tup []), (.int (0)), (.tup [(.int (1)), (.int (0)), (.int (0))])]), none, none, none]
def H3 : List O := [(.lst [(.tup [(.tup []), (.tup []), (.int (0)), (.tup [])]), (.tup [(.tup [(.tup [(.int (0)), (.bl false), (.int (0))])]), (.tup []), (.int (0)), (.tup [])]), (.tup [(.tup [(.tup [(.int (0)), (.bl false), (.int (0))])]), (.tup []), (.int (0)), (.tup [(.int (0)), (.int (0)), (.int (0))])])]), (.lst [(.tup [(.tup []), (.tup []), (.int (0)), (.tup [])]), (.tup [(.tup [(.tup [(.int (0)), (.bl false), (.int (0))])]), (.tup []), (.int (0)), (.tup [])]), (.tup [(.tup [(.tup [(.int (0)), (.bl false), (.int (0))])]), (.tup []), (.int (0)), (.tup [(.int (0)), (.int (0)), (.int (0))])]), (.tup [(.tup [(.tup [(.int (0)), (.bl false), (.int (0))])]), (.tup []), (.int (0)), (.tup [(.int (1)), (.int (0)), (.int (0))])])])]
def S4 : Sg := [none, some (.int (0)), some (.int (3)), some (.ins 1 [(.ins 0 [(.str "end"), (.int (0)), (.int (0)), (.int (0)), (.int (0))]), (.int (1)), (.int (0)), (.int (1)), (.bl false), (.tup [(.int (1)), (.int (3))])]), some (.loc 2), some (.int (2)), some (.int (0)), some (.tup [(.tup [(.tup [(.int (0)), (.bl false), (.int (0))])]), (.tup []), (.int (0)), (.tup [(.int (2)), (.int (0)), (.int (0))])]), none, none, none]
def H4 : List O := [(.lst [(.tup [(.tup []), (.tup []), (.int (0)), (.tup [])]), (.tup [(.tup [(.tup [(.int (0)), (.bl false), (.int (0))])]), (.tup []), (.int (0)), (.tup [])]), (.tup [(.tup [(.tup [(.int (0)), (.bl false), (.int (0))])]), (.tup []), (.int (0)), (.tup [(.int (0)), (.int (0)), (.int (0))])])]), (.lst [(.tup [(.tup []), (.tup []), (.int (0)), (.tup [])]), (.tup [(.tup [(.tup [(.int (0)), (.bl false), (.int (0))])]), (.tup []), (.int (0)), (.tup [])]), (.tup [(.tup [(.tup [(.int (0)), (.bl false), (.int (0))])]), (.tup []), (.int (0)), (.tup [(.int (0)), (.int (0)), (.int (0))])]), (.tup [(.tup [(.tup [(.int (0)), (.bl false), (.int (0))])]), (.tup []), (.int (0)), (.tup [(.int (1)), (.int (0)), (.int (0))])])]), (.lst [(.tup [(.tup []), (.tup []), (.int (0)), (.tup [])]), (.tup [(.tup [(.tup [(.int (0)), (.bl false), (.int (0))])]), (.tup []), (.int (0)), (.tup [])]), (.tup [(.tup [(.tup [(.int (0)), (.bl false), (.int (0))])]), (.tup []), (.int (0)), (.tup [(.int (0)), (.int (0)), (.int (0))])]), (.tup [(.tup [(.tup [(.int (0)), (.bl false), (.int (0))])]), (.tup []), (.int (0)), (.tup [(.int (1)), (.int (0)), (.int (0))])]), (.tup [(.tup [(.tup [(.int (0)), (.bl false), (.int (0))])]), (.tup []), (.int (0)), (.tup [(.int (2)), (.int (0)), (.int (0))])])])]
def S5 : Sg := [none, some (.int (0)), some (.int (3)), some (.ins 1 [(.ins 0 [(.str "end"), (.int (0)), (.int (0)), (.int (0)), (.int (0))]), (.int (1)), (.int (0)), (.int (1)), (.bl false), (.tup [(.int (1)), (.int (3))])]), some (.loc 3), some (.int (2)), some (.int (0)), some (.tup [(.tup [(.tup [(.int (0)), (.bl false), (.int (0))])]), (.tup []), (.int (0)), (.tup [(.int (2)), (.int (0)), (.int (0))])]), some (.ins 1 [(.ins 0 [(.str "front"), (.int (0)), (.int (0)), (.int (0)), (.int (0))]), (.int (1)), (.int (0)), (.int (1)), (.bl false), (.tup [(.int (1)), (.int (1))])]), some (.ins 1 [(.ins 0 [(.str "front"), (.int (0)), (.int (1)), (.int (0)), (.int (0))]), (.int (1)), (.int (0)), (.int (1)), (.bl false), (.tup [(.int (2)), (.int (2))])]), some (.tup [(.tup [(.int (0)), (.bl false), (.int (0))])])]
def H5 : List O := [(.lst [(.tup [(.tup []), (.tup []), (.int (0)), (.tup [])]), (.tup [(.tup [(.tup [(.int (0)), (.bl false), (.int (0))])]), (.tup []), (.int (0)), (.tup [])]), (.tup [(.tup [(.tup [(.int (0)), (.bl false), (.int (0))])]), (.tup []), (.int (0)), (.tup [(.int (0)), (.int (0)), (.int (0))])])]), (.lst [(.tup [(.tup []), (.tup []), (.int (0)), (.tup [])]), (.tup [(.tup [(.tup [(.int (0)), (.bl false), (.int (0))])]), (.tup []), (.int (0)), (.tup [])]), (.tup [(.tup [(.tup [(.int (0)), (.bl false), (.int (0))])]), (.tup []), (.int (0)), (.tup [(.int (0)), (.int (0)), (.int (0))])]), (.tup [(.tup [(.tup [(.int (0)), (.bl false), (.int (0))])]), (.tup []), (.int (0)), (.tup [(.int (1)), (.int (0)), (.int (0))])])]), (.lst [(.tup [(.tup []), (.tup []), (.int (0)), (.tup [])]), (.tup [(.tup [(.tup [(.int (0)), (.bl false), (.int (0))])]), (.tup []), (.int (0)), (.tup [])]), (.tup [(.tup [(.tup [(.int (0)), (.bl false), (.int (0))])]), (.tup []), (.int (0)), (.tup [(.int (0)), (.int (0)), (.int (0))])]), (.tup [(.tup [(.tup [(.int (0)), (.bl false), (.int (0))])]), (.tup []), (.int (0)), (.tup [(.int (1)), (.int (0)), (.int (0))])]), (.tup [(.tup [(.tup [(.int (0)), (.bl false), (.int (0))])]), (.tup []), (.int (0)), (.tup [(.int (2)), (.int (0)), (.int (0))])])]), (.lst [(.tup [(.tup []), (.tup []), (.int (0)), (.tup [])]), (.tup [(.tup [(.tup [(.int (0)), (.bl false), (.int (0))])]), (.tup []), (.int (0)), (.tup [])]), (.tup [(.tup [(.tup [(.int (0)), (.bl false), (.int (0))])]), (.tup []), (.int (0)), (.tup [(.int (0)), (.int (0)), (.int (0))])]), (.tup [(.tup [(.tup [(.int (0)), (.bl false), (.int (0))])]), (.tup []), (.int (0)), (.tup [(.int (1)), (.int (0)), (.int (0))])])])]
def S6 : Sg := [none, some (.int (1)), some (.int (3)), some (.ins 1 [(.ins 0 [(.str "end"), (.int (0)), (.int (0)), (.int (0)), (.int (0))]), (.int (1)), (.int (0)), (.int (1)), (.bl false), (.tup [(.int (1)), (.int (3))])]), some (.loc 3), some (.int (2)), some (.int (0)), some (.tup [(.tup [(.tup [(.int (0)), (.bl false), (.int (0))])]), (.tup []), (.int (0)), (.tup [(.int (2)), (.int (0)), (.int (0))])]), some (.ins 1 [(.ins 0 [(.str "front"), (.int (0)), (.int (0)), (.int (0)), (.int (0))]), (.int (1)), (.int (0)), (.int (1)), (.bl false), (.tup [(.int (1)), (.int (1))])]), some (.ins 1 [(.ins 0 [(.str "front"), (.int (0)), (.int (1)), (.int (0)), (.int (0))]), (.int (1)), (.int (0)), (.int (1)), (.bl false), (.tup [(.int (2)), (.int (2))])]), some (.tup [(.tup [(.int (0)), (.bl false), (.int (0))])])]
def H6 : List O := [(.lst [(.tup [(.tup []), (.tup []), (.int (0)), (.tup [])]), (.tup [(.tup [(.tup [(.int (0)), (.bl false), (.int (0))])]), (.tup []), (.int (0)), (.tup [])]), (.tup [(.tup [(.tup [(.int (0)), (.bl false), (.int (0))])]), (.tup []), (.int (0)), (.tup [(.int (0)), (.int (0)), (.int (0))])])]), (.lst [(.tup [(.tup []), (.tup []), (.int (0)), (.tup [])]), (.tup [(.tup [(.tup [(.int (0)), (.bl false), (.int (0))])]), (.tup []), (.int (0)), (.tup [])]), (.tup [(.tup [(.tup [(.int (0)), (.bl false), (.int (0))])]), (.tup []), (.int (0)), (.tup [(.int (0)), (.int (0)), (.int (0))])]), (.tup [(.tup [(.tup [(.int (0)), (.bl false), (.int (0))])]), (.tup []), (.int (0)), (.tup [(.int (1)), (.int (0)), (.int (0))])])]), (.lst [(.tup [(.tup []), (.tup []), (.int (0)), (.tup [])]), (.tup [(.tup [(.tup [(.int (0)), (.bl false), (.int (0))])]), (.tup []), (.int (0)), (.tup [])]), (.tup [(.tup [(.tup [(.int (0)), (.bl false), (.int (0))])]), (.tup []), (.int (0)), (.tup [(.int (0)), (.int (0)), (.int (0))])]), (.tup [(.tup [(.tup [(.int (0)), (.bl false), (.int (0))])]), (.tup []), (.int (0)), (.tup [(.int (1)), (.int (0)), (.int (0))])]), (.tup [(.tup [(.tup [(.int (0)), (.bl false), (.int (0))])]), (.tup []), (.int (0)), (.tup [(.int (2)), (.int (0)), (.int (0))])])]), (.lst [(.tup [(.tup []), (.tup []), (.int (0)), (.tup [])]), (.tup [(.tup [(.tup [(.int (0)), (.bl false), (.int (0))])]), (.tup []), (.int (0)), (.tup [])]), (.tup [(.tup [(.tup [(.int (0)), (.bl false), (.int (0))])]), (.tup []), (.int (0)), (.tup [(.int (0)), (.int (0)), (.int (0))])]), (.tup [(.tup [(.tup [(.int (0)), (.bl false), (.int (0))])]), (.tup []), (.int (0)), (.tup [(.int (1)), (.int (0)), (.int (0))])])])]
def S7 : Sg := [none, some (.int (1)), some (.int (1)), some (.ins 1 [(.ins 0 [(.str "end"), (.int (0)), (.int (0)), (.int (0)), (.int (1))]), (.int (1)), (.int (0)), (.int (1)), (.bl false), (.tup [(.int (1)), (.int (1))])]), some (.loc 4), some (.int (0)), some (.int (1)), some (.tup [(.tup [(.tup [(.int (0)), (.bl false), (.int (1))])]), (.tup []), (.int (0)), (.tup [(.int (0)), (.int (0)), (.int (0))])]), some (.ins 1 [(.ins 0 [(.str "front"), (.int (0)), (.int (0)), (.int (0)), (.int (0))]), (.int (1)), (.int (0)), (.int (1)), (.bl false), (.tup [(.int (1)), (.int (1))])]), some (.ins 1 [(.ins 0 [(.str "front"), (.int (0)), (.int (1)), (.int (0)), (.int (0))]), (.int (1)), (.int (0)), (.int (1)), (.bl false), (.tup [(.int (2)), (.int (2))])]), some (.tup [(.tup [(.int (0)), (.bl false), (.int (0))])])]
def H7 : List O := [(.lst [(.tup [(.tup []), (.tup []), (.int (0)), (.tup [])]), (.tup [(.tup [(.tup [(.int (0)), (.bl false), (.int (0))])]), (.tup []), (.int (0)), (.tup [])]), (.tup [(.tup [(.tup [(.int (0)), (.bl false), (.int (0))])]), (.tup []), (.int (0)), (.tup [(.int (0)), (.int (0)), (.int (0))])])]), (.lst [(.tup [(.tup []), (.tup []), (.int (0)), (.tup [])]), (.tup [(.tup [(.tup [(.int (0)), (.bl false), (.int (0))])]), (.tup []), (.int (0)), (.tup [])]), (.tup [(.tup [(.tup [(.int (0)), (.bl false), (.int (0))])]), (.tup []), (.int (0)), (.tup [(.int (0)), (.int (0)), (.int (0))])]), (.tup [(.tup [(.tup [(.int (0)), (.bl false), (.int (0))])]), (.tup []), (.int (0)), (.tup [(.int (1)), (.int (0)), (.int (0))])])]), (.lst [(.tup [(.tup []), (.tup []), (.int (0)), (.tup [])]), (.tup [(.tup [(.tup [(.int (0)), (.bl false), (.int (0))])]), (.tup []), (.int (0)), (.tup [])]), (.tup [(.tup [(.tup [(.int (0)), (.bl false), (.int (0))])]), (.tup []), (.int (0)), (.tup [(.int (0)), (.int (0)), (.int (0))])]), (.tup [(.tup [(.tup [(.int (0)), (.bl false), (.int (0))])]), (.tup []), (.int (0)), (.tup [(.int (1)), (.int (0)), (.int (0))])]), (.tup [(.tup [(.tup [(.int (0)), (.bl false), (.int (0))])]), (.tup []), (.int (0)), (.tup [(.int (2)), (.int (0)), (.int (0))])])]), (.lst [(.tup [(.tup []), (.tup []), (.int (0)), (.tup [])]), (.tup [(.tup [(.tup [(.int (0)), (.bl false), (.int (0))])]), (.tup []), (.int (0)), (.tup [])]), (.tup [(.tup [(.tup [(.int (0)), (.bl false), (.int (0))])]), (.tup []), (.int (0)), (.tup [(.int (0)), (.int (0)), (.int (0))])]), (.tup [(.tup [(.tup [(.int (0)), (.bl false), (.int (0))])]), (.tup []), (.int (0)), (.tup [(.int (1)), (.int (0)), (.int (0))])])]), (.lst [(.tup [(.tup []), (.tup []), (.int (0)), (.tup [])]), (.tup [(.tup [(.tup [(.int (0)), (.bl false), (.int (0))])]), (.tup []), (.int (0)), (.tup [])]), (.tup [(.tup [(.tup [(.int (0)), (.bl false), (.int (1))])]), (.tup []), (.int (0)), (.tup [])]), (.tup [(.tup [(.tup [(.int (0)), (.bl false), (.int (0))])]), (.tup []), (.int (0)), (.tup [(.int (0)), (.int (0)), (.int (0))])]), (.tup [(.tup [(.tup [(.int (0)), (.bl false), (.int (1))])]), (.tup []), (.int (0)), (.tup [(.int (0)), (.int (0)), (.int (0))])])])]
def S8 : Sg := [none, some (.int (1)), some (.int (2)), some (.ins 1 [(.ins 0 [(.str "end"), (.int (0)), (.int (0)), (.int (0)), (.int (1))]), (.int (1)), (.int (0)), (.int (1)), (.bl false), (.tup [(.int (1)), (.int (2))])]), some (.loc 5), some (.int (1)), some (.int (1)), some (.tup [(.tup [(.tup [(.int (0)), (.bl false), (.int (1))])]), (.tup []), (.int (0)), (.tup [(.int (1)), (.int (0)), (.int (0))])]), some (.ins 1 [(.ins 0 [(.str "front"), (.int (0)), (.int (0)), (.int (0)), (.int (0))]), (.int (1)), (.int (0)), (.int (1)), (.bl false), (.tup [(.int (1)), (.int (1))])]), some (.ins 1 [(.ins 0 [(.str "front"), (.int (0)), (.int (1)), (.int (0)), (.int (0))]), (.int (1)), (.int (0)), (.int (1)), (.bl false), (.tup [(.int (2)), (.int (2))])]), some (.tup [(.tup [(.int (0)), (.bl false), (.int (0))])])]
def H8 : List O := [(.lst [(.tup [(.tup []), (.tup []), (.int (0)), (.tup [])]), (.tup [(.tup [(.tup [(.int (0)), (.bl false), (.int (0))])]), (.tup []), (.int (0)), (.tup [])]), (.tup [(.tup [(.tup [(.int (0)), (.bl false), (.int (0))])]), (.tup []), (.int (0)), (.tup [(.int (0)), (.int (0)), (.int (0))])])]), (.lst [(.tup [(.tup []), (.tup []), (.int (0)), (.tup [])]), (.tup [(.tup [(.tup [(.int (0)), (.bl false), (.int (0))])]), (.tup []), (.int (0)), (.tup [])]), (.tup [(.tup [(.tup [(.int (0)), (.bl false), (.int (0))])]), (.tup []), (.int (0)), (.tup [(.int (0)), (.int (0)), (.int (0))])]), (.tup [(.tup [(.tup [(.int (0)), (.bl false), (.int (0))])]), (.tup []), (.int (0)), (.tup [(.int (1)), (.int (0)), (.int (0))])])]), (.lst [(.tup [(.tup []), (.tup []), (.int (0)), (.tup [])]), (.tup [(.tup [(.tup [(.int (0)), (.bl false), (.int (0))])]), (.tup []), (.int (0)), (.tup [])]), (.tup [(.tup [(.tup [(.int (0)), (.bl false), (.int (0))])]), (.tup []), (.int (0)), (.tup [(.int (0)), (.int (0)), (.int (0))])]), (.tup [(.tup [(.tup [(.int (0)), (.bl false), (.int (0))])]), (.tup []), (.int (0)), (.tup [(.int (1)), (.int (0)), (.int (0))])]), (.tup [(.tup [(.tup [(.int (0)), (.bl false), (.int (0))])]), (.tup []), (.int (0)), (.tup [(.int (2)), (.int (0)), (.int (0))])])]), (.lst [(.tup [(.tup []), (.tup []), (.int (0)), (.tup [])]), (.tup [(.tup [(.tup [(.int (0)), (.bl false), (.int (0))])]), (.tup []), (.int (0)), (.tup [])]), (.tup [(.tup [(.tup [(.int (0)), (.bl false), (.int (0))])]), (.tup []), (.int (0)), (.tup [(.int (0)), (.int (0)), (.int (0))])]), (.tup [(.tup [(.tup [(.int (0)), (.bl false), (.int (0))])]), (.tup []), (.int (0)), (.tup [(.int (1)), (.int (0)), (.int (0))])])]), (.lst [(.tup [(.tup []), (.tup []), (.int (0)), (.tup [])]), (.tup [(.tup [(.tup [(.int (0)), (.bl false), (.int (0))])]), (.tup []), (.int (0)), (.tup [])]), (.tup [(.tup [(.tup [(.int (0)), (.bl false), (.int (1))])]), (.tup []), (.int (0)), (.tup [])]), (.tup [(.tup [(.tup [(.int (0)), (.bl false), (.int (0))])]), (.tup []), (.int (0)), (.tup [(.int (0)), (.int (0)), (.int (0))])]), (.tup [(.tup [(.tup [(.int (0)), (.bl false), (.int (1))])]), (.tup []), (.int (0)), (.tup [(.int (0)), (.int (0)), (.int (0))])])]), (.lst [(.tup [(.tup []), (.tup []), (.int (0)), (.tup [])]), (.tup [(.tup [(.tup [(.int (0)), (.bl false), (.int (0))])]), (.tup []), (.int (0)), (.tup [])]), (.tup [(.tup [(.tup [(.int (0)), (.bl false), (.int (1))])]), (.tup []), (.int (0)), (.tup [])]), (.tup [(.tup [(.tup [(.int (0)), (.bl false), (.int (0))])]), (.tup []), (.int (0)), (.tup [(.int (0)), (.int (0)), (.int (0))])]), (.tup [(.tup [(.tup [(.int (0)), (.bl false), (.int (1))])]), (.tup []), (.int (0)), (.tup [(.int (0)), (.int (0)), (.int (0))])]), (.tup [(.tup [(.tup [(.int (0)), (.bl false), (.int (1))])]), (.tup []), (.int (0)), (.tup [(.int (1)), (.int (0)), (.int (0))])])])]
def S9 : Sg := [none, some (.int (1)), some (.int (3)), some (.ins 1 [(.ins 0 [(.str "end"), (.int (0)), (.int (0)), (.int (0)), (.int (1))]), (.int (1)), (.int (0)), (.int (1)), (.bl false), (.tup [(.int (1)), (.int (3))])]), some (.loc 6), some (.int (2)), some (.int (1)), some (.tup [(.tup [(.tup [(.int (0)), (.bl false), (.int (1))])]), (.tup []), (.int (0)), (.tup [(.int (2)), (.int (0)), (.int (0))])]), some (.ins 1 [(.ins 0 [(.str "front"), (.int (0)), (.int (0)), (.int (0)), (.int (0))]), (.int (1)), (.int (0)), (.int (1)), (.bl false), (.tup [(.int (1)), (.int (1))])]), some (.ins 1 [(.ins 0 [(.str "front"), (.int (0)), (.int (1)), (.int (0)), (.int (0))]), (.int (1)), (.int (0)), (.int (1)), (.bl false), (.tup [(.int (2)), (.int (2))])]), some (.tup [(.tup [(.int (0)), (.bl false), (.int (0))])])]
def H9 : List O := [(.lst [(.tup [(.tup []), (.tup []), (.int (0)), (.tup [])]), (.tup [(.tup [(.tup [(.int (0)), (.bl false), (.int (0))])]), (.tup []), (.int (0)), (.tup [])]), (.tup [(.tup [(.tup [(.int (0)), (.bl false), (.int (0))])]), (.tup []), (.int (0)), (.tup [(.int (0)), (.int (0)), (.int (0))])])]), (.lst [(.tup [(.tup []), (.tup []), (.int (0)), (.tup [])]), (.tup [(.tup [(.tup [(.int (0)), (.bl false), (.int (0))])]), (.tup []), (.int (0)), (.tup [])]), (.tup [(.tup [(.tup [(.int (0)), (.bl false), (.int (0))])]), (.tup []), (.int (0)), (.tup [(.int (0)), (.int (0)), (.int (0))])]), (.tup [(.tup [(.tup [(.int (0)), (.bl false), (.int (0))])]), (.tup []), (.int (0)), (.tup [(.int (1)), (.int (0)), (.int (0))])])]), (.lst [(.tup [(.tup []), (.tup []), (.int (0)), (.tup [])]), (.tup [(.tup [(.tup [(.int (0)), (.bl false), (.int (0))])]), (.tup []), (.int (0)), (.tup [])]), (.tup [(.tup [(.tup [(.int (0)), (.bl false), (.int (0))])]), (.tup []), (.int (0)), (.tup [(.int (0)), (.int (0)), (.int (0))])]), (.tup [(.tup [(.tup [(.int (0)), (.bl false), (.int (0))])]), (.tup []), (.int (0)), (.tup [(.int (1)), (.int (0)), (.int (0))])]), (.tup [(.tup [(.tup [(.int (0)), (.bl false), (.int (0))])]), (.tup []), (.int (0)), (.tup [(.int (2)), (.int (0)), (.int (0))])])]), (.lst [(.tup [(.tup []), (.tup []), (.int (0)), (.tup [])]), (.tup [(.tup [(.tup [(.int (0)), (.bl false), (.int (0))])]), (.tup []), (.int (0)), (.tup [])]), (.tup [(.tup [(.tup [(.int (0)), (.bl false), (.int (0))])]), (.tup []), (.int (0)), (.tup [(.int (0)), (.int (0)), (.int (0))])]), (.tup [(.tup [(.tup [(.int (0)), (.bl false), (.int (0))])]), (.tup []), (.int (0)), (.tup [(.int (1)), (.int (0)), (.int (0))])])]), (.lst [(.tup [(.tup []), (.tup []), (.int (0)), (.tup [])]), (.tup [(.tup [(.tup [(.int (0)), (.bl false), (.int (0))])]), (.tup []), (.int (0)), (.tup [])]), (.tup [(.tup [(.tup [(.int (0)), (.bl false), (.int (1))])]), (.tup []), (.int (0)), (.tup [])]), (.tup [(.tup [(.tup [(.int (0)), (.bl false), (.int (0))])]), (.tup []), (.int (0)), (.tup [(.int (0)), (.int (0)), (.int (0))])]), (.tup [(.tup [(.tup [(.int (0)), (.bl false), (.int (1))])]), (.tup []), (.int (0)), (.tup [(.int (0)), (.int (0)), (.int (0))])])]), (.lst [(.tup [(.tup []), (.tup []), (.int (0)), (.tup [])]), (.tup [(.tup [(.tup [(.int (0)), (.bl false), (.int (0))])]), (.tup []), (.int (0)), (.tup [])]), (.tup [(.tup [(.tup [(.int (0)), (.bl false), (.int (1))])]), (.tup []), (.int (0)), (.tup [])]), (.tup [(.tup [(.tup [(.int (0)), (.bl false), (.int (0))])]), (.tup []), (.int (0)), (.tup [(.int (0)), (.int (0)), (.int (0))])]), (.tup [(.tup [(.tup [(.int (0)), (.bl false), (.int (1))])]), (.tup []), (.int (0)), (.tup [(.int (0)), (.int (0)), (.int (0))])]), (.tup [(.tup [(.tup [(.int (0)), (.bl false), (.int (1))])]), (.tup []), (.int (0)), (.tup [(.int (1)), (.int (0)), (.int (0))])])]), (.lst [(.tup [(.tup []), (.tup []), (.int (0)), (.tup [])]), (.tup [(.tup [(.tup [(.int (0)), (.bl false), (.int (0))])]), (.tup []), (.int (0)), (.tup [])]), (.tup [(.tup [(.tup [(.int (0)), (.bl false), (.int (1))])]), (.tup []), (.int (0)), (.tup [])]), (.tup [(.tup [(.tup [(.int (0)), (.bl false), (.int (0))])]), (.tup []), (.int (0)), (.tup [(.int (0)), (.int (0)), (.int (0))])]), (.tup [(.tup [(.tup [(.int (0)), (.bl false), (.int (1))])]), (.tup []), (.int (0)), (.tup [(.int (0)), (.int (0)), (.int (0))])]), (.tup [(.tup [(.tup [(.int (0)), (.bl false), (.int (1))])]), (.tup []), (.int (0)), (.tup [(.int (1)), (.int (0)), (.int (0))])]), (.tup [(.tup [(.tup [(.int (0)), (.bl false), (.int (1))])]), (.tup []), (.int (0)), (.tup [(.int (2)), (.int (0)), (.int (0))])])])]
def S10 : Sg := [none, some (.int (1)), some (.int (3)), some (.ins 1 [(.ins 0 [(.str "end"), (.int (0)), (.int (0)), (.int (0)), (.int (1))]), (.int (1)), (.int (0)), (.int (1)), (.bl false), (.tup [(.int (1)), (.int (3))])]), some (.loc 7), some (.int (2)), some (.int (1)), some (.tup [(.tup [(.tup [(.int (0)), (.bl false), (.int (1))])]), (.tup []), (.int (0)), (.tup [(.int (2)), (.int (0)), (.int (0))])]), some (.ins 1 [(.ins 0 [(.str "front"), (.int (0)), (.int (0)), (.int (0)), (.int (0))]), (.int (1)), (.int (0)), (.int (1)), (.bl false), (.tup [(.int (1)), (.int (1))])]), some (.ins 1 [(.ins 0 [(.str "front"), (.int (0)), (.int (1)), (.int (0)), (.int (0))]), (.int (1)), (.int (0)), (.int (1)), (.bl false), (.tup [(.int (2)), (.int (2))])]), some (.tup [(.tup [(.int (0)), (.bl false), (.int (0))])])]
def H10 : List O := [(.lst [(.tup [(.tup []), (.tup []), (.int (0)), (.tup [])]), (.tup [(.tup [(.tup [(.int (0)), (.bl false), (.int (0))])]), (.tup []), (.int (0)), (.tup [])]), (.tup [(.tup [(.tup [(.int (0)), (.bl false), (.int (0))])]), (.tup []), (.int (0)), (.tup [(.int (0)), (.int (0)), (.int (0))])])]), (.lst [(.tup [(.tup []), (.tup []), (.int (0)), (.tup [])]), (.tup [(.tup [(.tup [(.int (0)), (.bl false), (.int (0))])]), (.tup []), (.int (0)), (.tup [])]), (.tup [(.tup [(.tup [(.int (0)), (.bl false), (.int (0))])]), (.tup []), (.int (0)), (.tup [(.int (0)), (.int (0)), (.int (0))])]), (.tup [(.tup [(.tup [(.int (0)), (.bl false), (.int (0))])]), (.tup []), (.int (0)), (.tup [(.int (1)), (.int (0)), (.int (0))])])]), (.lst [(.tup [(.tup []), (.tup []), (.int (0)), (.tup [])]), (.tup [(.tup [(.tup [(.int (0)), (.bl false), (.int (0))])]), (.tup []), (.int (0)), (.tup [])]), (.tup [(.tup [(.tup [(.int (0)), (.bl false), (.int (0))])]), (.tup []), (.int (0)), (.tup [(.int (0)), (.int (0)), (.int (0))])]), (.tup [(.tup [(.tup [(.int (0)), (.bl false), (.int (0))])]), (.tup []), (.int (0)), (.tup [(.int (1)), (.int (0)), (.int (0))])]), (.tup [(.tup [(.tup [(.int (0)), (.bl false), (.int (0))])]), (.tup []), (.int (0)), (.tup [(.int (2)), (.int (0)), (.int (0))])])]), (.lst [(.tup [(.tup []), (.tup []), (.int (0)), (.tup [])]), (.tup [(.tup [(.tup [(.int (0)), (.bl false), (.int (0))])]), (.tup []), (.int (0)), (.tup [])]), (.tup [(.tup [(.tup [(.int (0)), (.bl false), (.int (0))])]), (.tup []), (.int (0)), (.tup [(.int (0)), (.int (0)), (.int (0))])]), (.tup [(.tup [(.tup [(.int (0)), (.bl false), (.int (0))])]), (.tup []), (.int (0)), (.tup [(.int (1)), (.int (0)), (.int (0))])])]), (.lst [(.tup [(.tup []), (.tup []), (.int (0)), (.tup [])]), (.tup [(.tup [(.tup [(.int (0)), (.bl false), (.int (0))])]), (.tup []), (.int (0)), (.tup [])]), (.tup [(.tup [(.tup [(.int (0)), (.bl false), (.int (1))])]), (.tup []), (.int (0)), (.tup [])]), (.tup [(.tup [(.tup [(.int (0)), (.bl false), (.int (0))])]), (.tup []), (.int (0)), (.tup [(.int (0)), (.int (0)), (.int (0))])]), (.tup [(.tup [(.tup [(.int (0)), (.bl false), (.int (1))])]), (.tup []), (.int (0)), (.tup [(.int (0)), (.int (0)), (.int (0))])])]), (.lst [(.tup [(.tup []), (.tup []), (.int (0)), (.tup [])]), (.tup [(.tup [(.tup [(.int (0)), (.bl false), (.int (0))])]), (.tup []), (.int (0)), (.tup [])]), (.tup [(.tup [(.tup [(.int (0)), (.bl false), (.int (1))])]), (.tup []), (.int (0)), (.tup [])]), (.tup [(.tup [(.tup [(.int (0)), (.bl false), (.int (0))])]), (.tup []), (.int (0)), (.tup [(.int (0)), (.int (0)), (.int (0))])]), (.tup [(.tup [(.tup [(.int (0)), (.bl false), (.int (1))])]), (.tup []), (.int (0)), (.tup [(.int (0)), (.int (0)), (.int (0))])]), (.tup [(.tup [(.tup [(.int (0)), (.bl false), (.int (1))])]), (.tup []), (.int (0)), (.tup [(.int (1)), (.int (0)), (.int (0))])])]), (.lst [(.tup [(.tup []), (.tup []), (.int (0)), (.tup [])]), (.tup [(.tup [(.tup [(.int (0)), (.bl false), (.int (0))])]), (.tup []), (.int (0)), (.tup [])]), (.tup [(.tup [(.tup [(.int (0)), (.bl false), (.int (1))])]), (.tup []), (.int (0)), (.tup [])]), (.tup [(.tup [(.tup [(.int (0)), (.bl false), (.int (0))])]), (.tup []), (.int (0)), (.tup [(.int (0)), (.int (0)), (.int (0))])]), (.tup [(.tup [(.tup [(.int (0)), (.bl false), (.int (1))])]), (.tup []), (.int (0)), (.tup [(.int (0)), (.int (0)), (.int (0))])]), (.tup [(.tup [(.tup [(.int (0)), (.bl false), (.int (1))])]), (.tup []), (.int (0)), (.tup [(.int (1)), (.int (0)), (.int (0))])]), (.tup [(.tup [(.tup [(.int (0)), (.bl false), (.int (1))])]), (.tup []), (.int (0)), (.tup [(.int (2)), (.int (0)), (.int (0))])])]), (.lst [(.tup [(.tup []), (.tup []), (.int (0)), (.tup [])]), (.tup [(.tup [(.tup [(.int (0)), (.bl false), (.int (0))])]), (.tup []), (.int (0)), (.tup [])]), (.tup [(.tup [(.tup [(.int (0)), (.bl false), (.int (0))])]), (.tup []), (.int (0)), (.tup [(.int (0)), (.int (0)), (.int (0))])]), (.tup [(.tup [(.tup [(.int (0)), (.bl false), (.int (0))])]), (.tup []), (.int (0)), (.tup [(.int (1)), (.int (0)), (.int (0))])])])]
def S11 : Sg := [none, some (.int (2)), some (.int (3)), some (.ins 1 [(.ins 0 [(.str "end"), (.int (0)), (.int (0)), (.int (0)), (.int (1))]), (.int (1)), (.int (0)), (.int (1)), (.bl false), (.tup [(.int (1)), (.int (3))])]), some (.loc 7), some (.int (2)), some (.int (1)), some (.tup [(.tup [(.tup [(.int (0)), (.bl false), (.int (1))])]), (.tup []), (.int (0)), (.tup [(.int (2)), (.int (0)), (.int (0))])]), some (.ins 1 [(.ins 0 [(.str "front"), (.int (0)), (.int (0)), (.int (0)), (.int (0))]), (.int (1)), (.int (0)), (.int (1)), (.bl false), (.tup [(.int (1)), (.int (1))])]), some (.ins 1 [(.ins 0 [(.str "front"), (.int (0)), (.int (1)), (.int (0)), (.int (0))]), (.int (1)), (.int (0)), (.int (1)), (.bl false), (.tup [(.int (2)), (.int (2))])]), some (.tup [(.tup [(.int (0)), (.bl false), (.int (0))])])]
def H11 : List O := [(.lst [(.tup [(.tup []), (.tup []), (.int (0)), (.tup [])]), (.tup [(.tup [(.tup [(.int (0)), (.bl false), (.int (0))])]), (.tup []), (.int (0)), (.tup [])]), (.tup [(.tup [(.tup [(.int (0)), (.bl false), (.int (0))])]), (.tup []), (.int (0)), (.tup [(.int (0)), (.int (0)), (.int (0))])])]), (.lst [(.tup [(.tup []), (.tup []), (.int (0)), (.tup [])]), (.tup [(.tup [(.tup [(.int (0)), (.bl false), (.int (0))])]), (.tup []), (.int (0)), (.tup [])]), (.tup [(.tup [(.tup [(.int (0)), (.bl false), (.int (0))])]), (.tup []), (.int (0)), (.tup [(.int (0)), (.int (0)), (.int (0))])]), (.tup [(.tup [(.tup [(.int (0)), (.bl false), (.int (0))])]), (.tup []), (.int (0)), (.tup [(.int (1)), (.int (0)), (.int (0))])])]), (.lst [(.tup [(.tup []), (.tup []), (.int (0)), (.tup [])]), (.tup [(.tup [(.tup [(.int (0)), (.bl false), (.int (0))])]), (.tup []), (.int (0)), (.tup [])]), (.tup [(.tup [(.tup [(.int (0)), (.bl false), (.int (0))])]), (.tup []), (.int (0)), (.tup [(.int (0)), (.int (0)), (.int (0))])]), (.tup [(.tup [(.tup [(.int (0)), (.bl false), (.int (0))])]), (.tup []), (.int (0)), (.tup [(.int (1)), (.int (0)), (.int (0))])]), (.tup [(.tup [(.tup [(.int (0)), (.bl false), (.int (0))])]), (.tup []), (.int (0)), (.tup [(.int (2)), (.int (0)), (.int (0))])])]), (.lst [(.tup [(.tup []), (.tup []), (.int (0)), (.tup [])]), (.tup [(.tup [(.tup [(.int (0)), (.bl false), (.int (0))])]), (.tup []), (.int (0)), (.tup [])]), (.tup [(.tup [(.tup [(.int (0)), (.bl false), (.int (0))])]), (.tup []), (.int (0)), (.tup [(.int (0)), (.int (0)), (.int (0))])]), (.tup [(.tup [(.tup [(.int (0)), (.bl false), (.int (0))])]), (.tup []), (.int (0)), (.tup [(.int (1)), (.int (0)), (.int (0))])])]), (.lst [(.tup [(.tup []), (.tup []), (.int (0)), (.tup [])]), (.tup [(.tup [(.tup [(.int (0)), (.bl false), (.int (0))])]), (.tup []), (.int (0)), (.tup [])]), (.tup [(.tup [(.tup [(.int (0)), (.bl false), (.int (1))])]), (.tup []), (.int (0)), (.tup [])]), (.tup [(.tup [(.tup [(.int (0)), (.bl false), (.int (0))])]), (.tup []), (.int (0)), (.tup [(.int (0)), (.int (0)), (.int (0))])]), (.tup [(.tup [(.tup [(.int (0)), (.bl false), (.int (1))])]), (.tup []), (.int (0)), (.tup [(.int (0)), (.int (0)), (.int (0))])])]), (.lst [(.tup [(.tup []), (.tup []), (.int (0)), (.tup [])]), (.tup [(.tup [(.tup [(.int (0)), (.bl false), (.int (0))])]), (.tup []), (.int (0)), (.tup [])]), (.tup [(.tup [(.tup [(.int (0)), (.bl false), (.int (1))])]), (.tup []), (.int (0)), (.tup [])]), (.tup [(.tup [(.tup [(.int (0)), (.bl false), (.int (0))])]), (.tup []), (.int (0)), (.tup [(.int (0)), (.int (0)), (.int (0))])]), (.tup [(.tup [(.tup [(.int (0)), (.bl false), (.int (1))])]), (.tup []), (.int (0)), (.tup [(.int (0)), (.int (0)), (.int (0))])]), (.tup [(.tup [(.tup [(.int (0)), (.bl false), (.int (1))])]), (.tup []), (.int (0)), (.tup [(.int (1)), (.int (0)), (.int (0))])])]), (.lst [(.tup [(.tup []), (.tup []), (.int (0)), (.tup [])]), (.tup [(.tup [(.tup [(.int (0)), (.bl false), (.int (0))])]), (.tup []), (.int (0)), (.tup [])]), (.tup [(.tup [(.tup [(.int (0)), (.bl false), (.int (1))])]), (.tup []), (.int (0)), (.tup [])]), (.tup [(.tup [(.tup [(.int (0)), (.bl false), (.int (0))])]), (.tup []), (.int (0)), (.tup [(.int (0)), (.int (0)), (.int (0))])]), (.tup [(.tup [(.tup [(.int (0)), (.bl false), (.int (1))])]), (.tup []), (.int (0)), (.tup [(.int (0)), (.int (0)), (.int (0))])]), (.tup [(.tup [(.tup [(.int (0)), (.bl false), (.int (1))])]), (.tup []), (.int (0)), (.tup [(.int (1)), (.int (0)), (.int (0))])]), (.tup [(.tup [(.tup [(.int (0)), (.bl false), (.int (1))])]), (.tup []), (.int (0)), (.tup [(.int (2)), (.int (0)), (.int (0))])])]), (.lst [(.tup [(.tup []), (.tup []), (.int (0)), (.tup [])]), (.tup [(.tup [(.tup [(.int (0)), (.bl false), (.int (0))])]), (.tup []), (.int (0)), (.tup [])]), (.tup [(.tup [(.tup [(.int (0)), (.bl false), (.int (0))])]), (.tup []), (.int (0)), (.tup [(.int (0)), (.int (0)), (.int (0))])]), (.tup [(.tup [(.tup [(.int (0)), (.bl false), (.int (0))])]), (.tup []), (.int (0)), (.tup [(.int (1)), (.int (0)), (.int (0))])])])]
def S12 : Sg := [none, some (.int (2)), some (.int (1)), some (.ins 1 [(.ins 0 [(.str "end"), (.int (0)), (.int (0)), (.int (0)), (.int (2))]), (.int (1)), (.int (0)), (.int (1)), (.bl false), (.tup [(.int (1)), (.int (1))])]), some (.loc 8), some (.int (0)), some (.int (2)), some (.tup [(.tup [(.tup [(.int (0)), (.bl false), (.int (2))])]), (.tup []), (.int (0)), (.tup [(.int (0)), (.int (0)), (.int (0))])]), some (.ins 1 [(.ins 0 [(.str "front"), (.int (0)), (.int (0)), (.int (0)), (.int (0))]), (.int (1)), (.int (0)), (.int (1)), (.bl false), (.tup [(.int (1)), (.int (1))])]), some (.ins 1 [(.ins 0 [(.str "front"), (.int (0)), (.int (1)), (.int (0)), (.int (0))]), (.int (1)), (.int (0)), (.int (1)), (.bl false), (.tup [(.int (2)), (.int (2))])]), some (.tup [(.tup [(.int (0)), (.bl false), (.int (0))])])]
def H12 : List O := [(.lst [(.tup [(.tup []), (.tup []), (.int (0)), (.tup [])]), (.tup [(.tup [(.tup [(.int (0)), (.bl false), (.int (0))])]), (.tup []), (.int (0)), (.tup [])]), (.tup [(.tup [(.tup [(.int (0)), (.bl false), (.int (0))])]), (.tup []), (.int (0)), (.tup [(.int (0)), (.int (0)), (.int (0))])])]), (.lst [(.tup [(.tup []), (.tup []), (.int (0)), (.tup [])]), (.tup [(.tup [(.tup [(.int (0)), (.bl false), (.int (0))])]), (.tup []), (.int (0)), (.tup [])]), (.tup [(.tup [(.tup [(.int (0)), (.bl false), (.int (0))])]), (.tup []), (.int (0)), (.tup [(.int (0)), (.int (0)), (.int (0))])]), (.tup [(.tup [(.tup [(.int (0)), (.bl false), (.int (0))])]), (.tup []), (.int (0)), (.tup [(.int (1)), (.int (0)), (.int (0))])])]), (.lst [(.tup [(.tup []), (.tup []), (.int (0)), (.tup [])]), (.tup [(.tup [(.tup [(.int (0)), (.bl false), (.int (0))])]), (.tup []), (.int (0)), (.tup [])]), (.tup [(.tup [(.tup [(.int (0)), (.bl false), (.int (0))])]), (.tup []), (.int (0)), (.tup [(.int (0)), (.int (0)), (.int (0))])]), (.tup [(.tup [(.tup [(.int (0)), (.bl false), (.int (0))])]), (.tup []), (.int (0)), (.tup [(.int (1)), (.int (0)), (.int (0))])]), (.tup [(.tup [(.tup [(.int (0)), (.bl false), (.int (0))])]), (.tup []), (.int (0)), (.tup [(.int (2)), (.int (0)), (.int (0))])])]), (.lst [(.tup [(.tup []), (.tup []), (.int (0)), (.tup [])]), (.tup [(.tup [(.tup [(.int (0)), (.bl false), (.int (0))])]), (.tup []), (.int (0)), (.tup [])]), (.tup [(.tup [(.tup [(.int (0)), (.bl false), (.int (0))])]), (.tup []), (.int (0)), (.tup [(.int (0)), (.int (0)), (.int (0))])]), (.tup [(.tup [(.tup [(.int (0)), (.bl false), (.int (0))])]), (.tup []), (.int (0)), (.tup [(.int (1)), (.int (0)), (.int (0))])])]), (.lst [(.tup [(.tup []), (.tup []), (.int (0)), (.tup [])]), (.tup [(.tup [(.tup [(.int (0)), (.bl false), (.int (0))])]), (.tup []), (.int (0)), (.tup [])]), (.tup [(.tup [(.tup [(.int (0)), (.bl false), (.int (1))])]), (.tup []), (.int (0)), (.tup [])]), (.tup [(.tup [(.tup [(.int (0)), (.bl false), (.int (0))])]), (.tup []), (.int (0)), (.tup [(.int (0)), (.int (0)), (.int (0))])]), (.tup [(.tup [(.tup [(.int (0)), (.bl false), (.int (1))])]), (.tup []), (.int (0)), (.tup [(.int (0)), (.int (0)), (.int (0))])])]), (.lst [(.tup [(.tup []), (.tup []), (.int (0)), (.tup [])]), (.tup [(.tup [(.tup [(.int (0)), (.bl false), (.int (0))])]), (.tup []), (.int (0)), (.tup [])]), (.tup [(.tup [(.tup [(.int (0)), (.bl false), (.int (1))])]), (.tup []), (.int (0)), (.tup [])]), (.tup [(.tup [(.tup [(.int (0)), (.bl false), (.int (0))])]), (.tup []), (.int (0)), (.tup [(.int (0)), (.int (0)), (.int (0))])]), (.tup [(.tup [(.tup [(.int (0)), (.bl false), (.int (1))])]), (.tup []), (.int (0)), (.tup [(.int (0)), (.int (0)), (.int (0))])]), (.tup [(.tup [(.tup [(.int (0)), (.bl false), (.int (1))])]), (.tup []), (.int (0)), (.tup [(.int (1)), (.int (0)), (.int (0))])])]), (.lst [(.tup [(.tup []), (.tup []), (.int (0)), (.tup [])]), (.tup [(.tup [(.tup [(.int (0)), (.bl false), (.int (0))])]), (.tup []), (.int (0)), (.tup [])]), (.tup [(.tup [(.tup [(.int (0)), (.bl false), (.int (1))])]), (.tup []), (.int (0)), (.tup [])]), (.tup [(.tup [(.tup [(.int (0)), (.bl false), (.int (0))])]), (.tup []), (.int (0)), (.tup [(.int (0)), (.int (0)), (.int (0))])]), (.tup [(.tup [(.tup [(.int (0)), (.bl false), (.int (1))])]), (.tup []), (.int (0)), (.tup [(.int (0)), (.int (0)), (.int (0))])]), (.tup [(.tup [(.tup [(.int (0)), (.bl false), (.int (1))])]), (.tup []), (.int (0)), (.tup [(.int (1)), (.int (0)), (.int (0))])]), (.tup [(.tup [(.tup [(.int (0)), (.bl false), (.int (1))])]), (.tup []), (.int (0)), (.tup [(.int (2)), (.int (0)), (.int (0))])])]), (.lst [(.tup [(.tup []), (.tup []), (.int (0)), (.tup [])]), (.tup [(.tup [(.tup [(.int (0)), (.bl false), (.int (0))])]), (.tup []), (.int (0)), (.tup [])]), (.tup [(.tup [(.tup [(.int (0)), (.bl false), (.int (0))])]), (.tup []), (.int (0)), (.tup [(.int (0)), (.int (0)), (.int (0))])]), (.tup [(.tup [(.tup [(.int (0)), (.bl false), (.int (0))])]), (.tup []), (.int (0)), (.tup [(.int (1)), (.int (0)), (.int (0))])])]), (.lst [(.tup [(.tup []), (.tup []), (.int (0)), (.tup [])]), (.tup [(.tup [(.tup [(.int (0)), (.bl false), (.int (0))])]), (.tup []), (.int (0)), (.tup [])]), (.tup [(.tup [(.tup [(.int (0)), (.bl false), (.int (1))])]), (.tup []), (.int (0)), (.tup [])]), (.tup [(.tup [(.tup [(.int (0)), (.bl false), (.int (2))])]), (.tup []), (.int (0)), (.tup [])]), (.tup [(.tup [(.tup [(.int (0)), (.bl false), (.int (0))])]), (.tup []), (.int (0)), (.tup [(.int (0)), (.int (0)), (.int (0))])]), (.tup [(.tup [(.tup [(.int (0)), (.bl false), (.int (1))])]), (.tup []), (.int (0)), (.tup [(.int (0)), (.int (0)), (.int (0))])]), (.tup [(.tup [(.tup [(.int (0)), (.bl false), (.int (2))])]), (.tup []), (.int (0)), (.tup [(.int (0)), (.int (0)), (.int (0))])])])]
def S13 : Sg := [none, some (.int (2)), some (.int (2)), some (.ins 1 [(.ins 0 [(.str "end"), (.int (0)), (.int (0)), (.int (0)), (.int (2))]), (.int (1)), (.int (0)), (.int (1)), (.bl false), (.tup [(.int (1)), (.int (2))])]), some (.loc 9), some (.int (1)), some (.int (2)), some (.tup [(.tup [(.tup [(.int (0)), (.bl false), (.int (2))])]), (.tup []), (.int (0)), (.tup [(.int (1)), (.int (0)), (.int (0))])]), some (.ins 1 [(.ins 0 [(.str "front"), (.int (0)), (.int (0)), (.int (0)), (.int (0))]), (.int (1)), (.int (0)), (.int (1)), (.bl false), (.tup [(.int (1)), (.int (1))])]), some (.ins 1 [(.ins 0 [(.str "front"), (.int (0)), (.int (1)), (.int (0)), (.int (0))]), (.int (1)), (.int (0)), (.int (1)), (.bl false), (.tup [(.int (2)), (.int (2))])]), some (.tup [(.tup [(.int (0)), (.bl false), (.int (0))])])]
def H13 : List O := [(.lst [(.tup [(.tup []), (.tup []), (.int (0)), (.tup [])]), (.tup [(.tup [(.tup [(.int (0)), (.bl false), (.int (0))])]), (.tup []), (.int (0)), (.tup [])]), (.tup [(.tup [(.tup [(.int (0)), (.bl false), (.int (0))])]), (.tup []), (.int (0)), (.tup [(.int (0)), (.int (0)), (.int (0))])])]), (.lst [(.tup [(.tup []), (.tup []), (.int (0)), (.tup [])]), (.tup [(.tup [(.tup [(.int (0)), (.bl false), (.int (0))])]), (.tup []), (.int (0)), (.tup [])]), (.tup [(.tup [(.tup [(.int (0)), (.bl false), (.int (0))])]), (.tup []), (.int (0)), (.tup [(.int (0)), (.int (0)), (.int (0))])]), (.tup [(.tup [(.tup [(.int (0)), (.bl false), (.int (0))])]), (.tup []), (.int (0)), (.tup [(.int (1)), (.int (0)), (.int (0))])])]), (.lst [(.tup [(.tup []), (.tup []), (.int (0)), (.tup [])]), (.tup [(.tup [(.tup [(.int (0)), (.bl false), (.int (0))])]), (.tup []), (.int (0)), (.tup [])]), (.tup [(.tup [(.tup [(.int (0)), (.bl false), (.int (0))])]), (.tup []), (.int (0)), (.tup [(.int (0)), (.int (0)), (.int (0))])]), (.tup [(.tup [(.tup [(.int (0)), (.bl false), (.int (0))])]), (.tup []), (.int (0)), (.tup [(.int (1)), (.int (0)), (.int (0))])]), (.tup [(.tup [(.tup [(.int (0)), (.bl false), (.int (0))])]), (.tup []), (.int (0)), (.tup [(.int (2)), (.int (0)), (.int (0))])])]), (.lst [(.tup [(.tup []), (.tup []), (.int (0)), (.tup [])]), (.tup [(.tup [(.tup [(.int (0)), (.bl false), (.int (0))])]), (.tup []), (.int (0)), (.tup [])]), (.tup [(.tup [(.tup [(.int (0)), (.bl false), (.int (0))])]), (.tup []), (.int (0)), (.tup [(.int (0)), (.int (0)), (.int (0))])]), (.tup [(.tup [(.tup [(.int (0)), (.bl false), (.int (0))])]), (.tup []), (.int (0)), (.tup [(.int (1)), (.int (0)), (.int (0))])])]), (.lst [(.tup [(.tup []), (.tup []), (.int (0)), (.tup [])]), (.tup [(.tup [(.tup [(.int (0)), (.bl false), (.int (0))])]), (.tup []), (.int (0)), (.tup [])]), (.tup [(.tup [(.tup [(.int (0)), (.bl false), (.int (1))])]), (.tup []), (.int (0)), (.tup [])]), (.tup [(.tup [(.tup [(.int (0)), (.bl false), (.int (0))])]), (.tup []), (.int (0)), (.tup [(.int (0)), (.int (0)), (.int (0))])]), (.tup [(.tup [(.tup [(.int (0)), (.bl false), (.int (1))])]), (.tup []), (.int (0)), (.tup [(.int (0)), (.int (0)), (.int (0))])])]), (.lst [(.tup [(.tup []), (.tup []), (.int (0)), (.tup [])]), (.tup [(.tup [(.tup [(.int (0)), (.bl false), (.int (0))])]), (.tup []), (.int (0)), (.tup [])]), (.tup [(.tup [(.tup [(.int (0)), (.bl false), (.int (1))])]), (.tup []), (.int (0)), (.tup [])]), (.tup [(.tup [(.tup [(.int (0)), (.bl false), (.int (0))])]), (.tup []), (.int (0)), (.tup [(.int (0)), (.int (0)), (.int (0))])]), (.tup [(.tup [(.tup [(.int (0)), (.bl false), (.int (1))])]), (.tup []), (.int (0)), (.tup [(.int (0)), (.int (0)), (.int (0))])]), (.tup [(.tup [(.tup [(.int (0)), (.bl false), (.int (1))])]), (.tup []), (.int (0)), (.tup [(.int (1)), (.int (0)), (.int (0))])])]), (.lst [(.tup [(.tup []), (.tup []), (.int (0)), (.tup [])]), (.tup [(.tup [(.tup [(.int (0)), (.bl false), (.int (0))])]), (.tup []), (.int (0)), (.tup [])]), (.tup [(.tup [(.tup [(.int (0)), (.bl false), (.int (1))])]), (.tup []), (.int (0)), (.tup [])]), (.tup [(.tup [(.tup [(.int (0)), (.bl false), (.int (0))])]), (.tup []), (.int (0)), (.tup [(.int (0)), (.int (0)), (.int (0))])]), (.tup [(.tup [(.tup [(.int (0)), (.bl false), (.int (1))])]), (.tup []), (.int (0)), (.tup [(.int (0)), (.int (0)), (.int (0))])]), (.tup [(.tup [(.tup [(.int (0)), (.bl false), (.int (1))])]), (.tup []), (.int (0)), (.tup [(.int (1)), (.int (0)), (.int (0))])]), (.tup [(.tup [(.tup [(.int (0)), (.bl false), (.int (1))])]), (.tup []), (.int (0)), (.tup [(.int (2)), (.int (0)), (.int (0))])])]), (.lst [(.tup [(.tup []), (.tup []), (.int (0)), (.tup [])]), (.tup [(.tup [(.tup [(.int (0)), (.bl false), (.int (0))])]), (.tup []), (.int (0)), (.tup [])]), (.tup [(.tup [(.tup [(.int (0)), (.bl false), (.int (0))])]), (.tup []), (.int (0)), (.tup [(.int (0)), (.int (0)), (.int (0))])]), (.tup [(.tup [(.tup [(.int (0)), (.bl false), (.int (0))])]), (.tup []), (.int (0)), (.tup [(.int (1)), (.int (0)), (.int (0))])])]), (.lst [(.tup [(.tup []), (.tup []), (.int (0)), (.tup [])]), (.tup [(.tup [(.tup [(.int (0)), (.bl false), (.int (0))])]), (.tup []), (.int (0)), (.tup [])]), (.tup [(.tup [(.tup [(.int (0)), (.bl false), (.int (1))])]), (.tup []), (.int (0)), (.tup [])]), (.tup [(.tup [(.tup [(.int (0)), (.bl false), (.int (2))])]), (.tup []), (.int (0)), (.tup [])]), (.tup [(.tup [(.tup [(.int (0)), (.bl false), (.int (0))])]), (.tup []), (.int (0)), (.tup [(.int (0)), (.int (0)), (.int (0))])]), (.tup [(.tup [(.tup [(.int (0)), (.bl false), (.int (1))])]), (.tup []), (.int (0)), (.tup [(.int (0)), (.int (0)), (.int (0))])]), (.tup [(.tup [(.tup [(.int (0)), (.bl false), (.int (2))])]), (.tup []), (.int (0)), (.tup [(.int (0)), (.int (0)), (.int (0))])])]), (.lst [(.tup [(.tup []), (.tup []), (.int (0)), (.tup [])]), (.tup [(.tup [(.tup [(.int (0)), (.bl false), (.int (0))])]), (.tup []), (.int (0)), (.tup [])]), (.tup [(.tup [(.tup [(.int (0)), (.bl false), (.int (1))])]), (.tup []), (.int (0)), (.tup [])]), (.tup [(.tup [(.tup [(.int (0)), (.bl false), (.int (2))])]), (.tup []), (.int (0)), (.tup [])]), (.tup [(.tup [(.tup [(.int (0)), (.bl false), (.int (0))])]), (.tup []), (.int (0)), (.tup [(.int (0)), (.int (0)), (.int (0))])]), (.tup [(.tup [(.tup [(.int (0)), (.bl false), (.int (1))])]), (.tup []), (.int (0)), (.tup [(.int (0)), (.int (0)), (.int (0))])]), (.tup [(.tup [(.tup [(.int (0)), (.bl false), (.int (2))])]), (.tup []), (.int (0)), (.tup [(.int (0)), (.int (0)), (.int (0))])]), (.tup [(.tup [(.tup [(.int (0)), (.bl false), (.int (1))])]), (.tup []), (.int (0)), (.tup [(.int (1)), (.int (0)), (.int (0))])]), (.tup [(.tup [(.tup [(.int (0)), (.bl false), (.int (2))])]), (.tup []), (.int (0)), (.tup [(.int (1)), (.int (0)), (.int (0))])])])]
def S14 : Sg := [none, some (.int (2)), some (.int (3)), some (.ins 1 [(.ins 0 [(.str "end"), (.int (0)), (.int (0)), (.int (0)), (.int (2))]), (.int (1)), (.int (0)), (.int (1)), (.bl false), (.tup [(.int (1)), (.int (3))])]), some (.loc 10), some (.int (2)), some (.int (2)), some (.tup [(.tup [(.tup [(.int (0)), (.bl false), (.int (2))])]), (.tup []), (.int (0)), (.tup [(.int (2)), (.int (0)), (.int (0))])]), some (.ins 1 [(.ins 0 [(.str "front"), (.int (0)), (.int (0)), (.int (0)), (.int (0))]), (.int (1)), (.int (0)), (.int (1)), (.bl false), (.tup [(.int (1)), (.int (1))])]), some (.ins 1 [(.ins 0 [(.str "front"), (.int (0)), (.int (1)), (.int (0)), (.int (0))]), (.int (1)), (.int (0)), (.int (1)), (.bl false), (.tup [(.int (2)), (.int (2))])]), some (.tup [(.tup [(.int (0)), (.bl false), (.int (0))])])]
def H14 : List O := [(.lst [(.tup [(.tup []), (.tup []), (.int (0)), (.tup [])]), (.tup [(.tup [(.tup [(.int (0)), (.bl false), (.int (0))])]), (.tup []), (.int (0)), (.tup [])]), (.tup [(.tup [(.tup [(.int (0)), (.bl false), (.int (0))])]), (.tup []), (.int (0)), (.tup [(.int (0)), (.int (0)), (.int (0))])])]), (.lst [(.tup [(.tup []), (.tup []), (.int (0)), (.tup [])]), (.tup [(.tup [(.tup [(.int (0)), (.bl false), (.int (0))])]), (.tup []), (.int (0)), (.tup [])]), (.tup [(.tup [(.tup [(.int (0)), (.bl false), (.int (0))])]), (.tup []), (.int (0)), (.tup [(.int (0)), (.int (0)), (.int (0))])]), (.tup [(.tup [(.tup [(.int (0)), (.bl false), (.int (0))])]), (.tup []), (.int (0)), (.tup [(.int (1)), (.int (0)), (.int (0))])])]), (.lst [(.tup [(.tup []), (.tup []), (.int (0)), (.tup [])]), (.tup [(.tup [(.tup [(.int (0)), (.bl false), (.int (0))])]), (.tup []), (.int (0)), (.tup [])]), (.tup [(.tup [(.tup [(.int (0)), (.bl false), (.int (0))])]), (.tup []), (.int (0)), (.tup [(.int (0)), (.int (0)), (.int (0))])]), (.tup [(.tup [(.tup [(.int (0)), (.bl false), (.int (0))])]), (.tup []), (.int (0)), (.tup [(.int (1)), (.int (0)), (.int (0))])]), (.tup [(.tup [(.tup [(.int (0)), (.bl false), (.int (0))])]), (.tup []), (.int (0)), (.tup [(.int (2)), (.int (0)), (.int (0))])])]), (.lst [(.tup [(.tup []), (.tup []), (.int (0)), (.tup [])]), (.tup [(.tup [(.tup [(.int (0)), (.bl false), (.int (0))])]), (.tup []), (.int (0)), (.tup [])]), (.tup [(.tup [(.tup [(.int (0)), (.bl false), (.int (0))])]), (.tup []), (.int (0)), (.tup [(.int (0)), (.int (0)), (.int (0))])]), (.tup [(.tup [(.tup [(.int (0)), (.bl false), (.int (0))])]), (.tup []), (.int (0)), (.tup [(.int (1)), (.int (0)), (.int (0))])])]), (.lst [(.tup [(.tup []), (.tup []), (.int (0)), (.tup [])]), (.tup [(.tup [(.tup [(.int (0)), (.bl false), (.int (0))])]), (.tup []), (.int (0)), (.tup [])]), (.tup [(.tup [(.tup [(.int (0)), (.bl false), (.int (1))])]), (.tup []), (.int (0)), (.tup [])]), (.tup [(.tup [(.tup [(.int (0)), (.bl false), (.int (0))])]), (.tup []), (.int (0)), (.tup [(.int (0)), (.int (0)), (.int (0))])]), (.tup [(.tup [(.tup [(.int (0)), (.bl false), (.int (1))])]), (.tup []), (.int (0)), (.tup [(.int (0)), (.int (0)), (.int (0))])])]), (.lst [(.tup [(.tup []), (.tup []), (.int (0)), (.tup [])]), (.tup [(.tup [(.tup [(.int (0)), (.bl false), (.int (0))])]), (.tup []), (.int (0)), (.tup [])]), (.tup [(.tup [(.tup [(.int (0)), (.bl false), (.int (1))])]), (.tup []), (.int (0)), (.tup [])]), (.tup [(.tup [(.tup [(.int (0)), (.bl false), (.int (0))])]), (.tup []), (.int (0)), (.tup [(.int (0)), (.int (0)), (.int (0))])]), (.tup [(.tup [(.tup [(.int (0)), (.bl false), (.int (1))])]), (.tup []), (.int (0)), (.tup [(.int (0)), (.int (0)), (.int (0))])]), (.tup [(.tup [(.tup [(.int (0)), (.bl false), (.int (1))])]), (.tup []), (.int (0)), (.tup [(.int (1)), (.int (0)), (.int (0))])])]), (.lst [(.tup [(.tup []), (.tup []), (.int (0)), (.tup [])]), (.tup [(.tup [(.tup [(.int (0)), (.bl false), (.int (0))])]), (.tup []), (.int (0)), (.tup [])]), (.tup [(.tup [(.tup [(.int (0)), (.bl false), (.int (1))])]), (.tup []), (.int (0)), (.tup [])]), (.tup [(.tup [(.tup [(.int (0)), (.bl false), (.int (0))])]), (.tup []), (.int (0)), (.tup [(.int (0)), (.int (0)), (.int (0))])]), (.tup [(.tup [(.tup [(.int (0)), (.bl false), (.int (1))])]), (.tup []), (.int (0)), (.tup [(.int (0)), (.int (0)), (.int (0))])]), (.tup [(.tup [(.tup [(.int (0)), (.bl false), (.int (1))])]), (.tup []), (.int (0)), (.tup [(.int (1)), (.int (0)), (.int (0))])]), (.tup [(.tup [(.tup [(.int (0)), (.bl false), (.int (1))])]), (.tup []), (.int (0)), (.tup [(.int (2)), (.int (0)), (.int (0))])])]), (.lst [(.tup [(.tup []), (.tup []), (.int (0)), (.tup [])]), (.tup [(.tup [(.tup [(.int (0)), (.bl false), (.int (0))])]), (.tup []), (.int (0)), (.tup [])]), (.tup [(.tup [(.tup [(.int (0)), (.bl false), (.int (0))])]), (.tup []), (.int (0)), (.tup [(.int (0)), (.int (0)), (.int (0))])]), (.tup [(.tup [(.tup [(.int (0)), (.bl false), (.int (0))])]), (.tup []), (.int (0)), (.tup [(.int (1)), (.int (0)), (.int (0))])])]), (.lst [(.tup [(.tup []), (.tup []), (.int (0)), (.tup [])]), (.tup [(.tup [(.tup [(.int (0)), (.bl false), (.int (0))])]), (.tup []), (.int (0)), (.tup [])]), (.tup [(.tup [(.tup [(.int (0)), (.bl false), (.int (1))])]), (.tup []), (.int (0)), (.tup [])]), (.tup [(.tup [(.tup [(.int (0)), (.bl false), (.int (2))])]), (.tup []), (.int (0)), (.tup [])]), (.tup [(.tup [(.tup [(.int (0)), (.bl false), (.int (0))])]), (.tup []), (.int (0)), (.tup [(.int (0)), (.int (0)), (.int (0))])]), (.tup [(.tup [(.tup [(.int (0)), (.bl false), (.int (1))])]), (.tup []), (.int (0)), (.tup [(.int (0)), (.int (0)), (.int (0))])]), (.tup [(.tup [(.tup [(.int (0)), (.bl false), (.int (2))])]), (.tup []), (.int (0)), (.tup [(.int (0)), (.int (0)), (.int (0))])])]), (.lst [(.tup [(.tup []), (.tup []), (.int (0)), (.tup [])]), (.tup [(.tup [(.tup [(.int (0)), (.bl false), (.int (0))])]), (.tup []), (.int (0)), (.tup [])]), (.tup [(.tup [(.tup [(.int (0)), (.bl false), (.int (1))])]), (.tup []), (.int (0)), (.tup [])]), (.tup [(.tup [(.tup [(.int (0)), (.bl false), (.int (2))])]), (.tup []), (.int (0)), (.tup [])]), (.tup [(.tup [(.tup [(.int (0)), (.bl false), (.int (0))])]), (.tup []), (.int (0)), (.tup [(.int (0)), (.int (0)), (.int (0))])]), (.tup [(.tup [(.tup [(.int (0)), (.bl false), (.int (1))])]), (.tup []), (.int (0)), (.tup [(.int (0)), (.int (0)), (.int (0))])]), (.tup [(.tup [(.tup [(.int (0)), (.bl false), (.int (2))])]), (.tup []), (.int (0)), (.tup [(.int (0)), (.int (0)), (.int (0))])]), (.tup [(.tup [(.tup [(.int (0)), (.bl false), (.int (1))])]), (.tup []), (.int (0)), (.tup [(.int (1)), (.int (0)), (.int (0))])]), (.tup [(.tup [(.tup [(.int (0)), (.bl false), (.int (2))])]), (.tup []), (.int (0)), (.tup [(.int (1)), (.int (0)), (.int (0))])])]), (.lst [(.tup [(.tup []), (.tup []), (.int (0)), (.tup [])]), (.tup [(.tup [(.tup [(.int (0)), (.bl false), (.int (0))])]), (.tup []), (.int (0)), (.tup [])]), (.tup [(.tup [(.tup [(.int (0)), (.bl false), (.int (1))])]), (.tup []), (.int (0)), (.tup [])]), (.tup [(.tup [(.tup [(.int (0)), (.bl false), (.int (2))])]), (.tup []), (.int (0)), (.tup [])]), (.tup [(.tup [(.tup [(.int (0)), (.bl false), (.int (0))])]), (.tup []), (.int (0)), (.tup [(.int (0)), (.int (0)), (.int (0))])]), (.tup [(.tup [(.tup [(.int (0)), (.bl false), (.int (1))])]), (.tup []), (.int (0)), (.tup [(.int (0)), (.int (0)), (.int (0))])]), (.tup [(.tup [(.tup [(.int (0)), (.bl false), (.int (2))])]), (.tup []), (.int (0)), (.tup [(.int (0)), (.int (0)), (.int (0))])]), (.tup [(.tup [(.tup [(.int (0)), (.bl false), (.int (1))])]), (.tup []), (.int (0)), (.tup [(.int (1)), (.int (0)), (.int (0))])]), (.tup [(.tup [(.tup [(.int (0)), (.bl false), (.int (2))])]), (.tup []), (.int (0)), (.tup [(.int (1)), (.int (0)), (.int (0))])]), (.tup [(.tup [(.tup [(.int (0)), (.bl false), (.int (2))])]), (.tup []), (.int (0)), (.tup [(.int (2)), (.int (0)), (.int (0))])])])]
def S15 : Sg := [none, some (.int (2)), some (.int (3)), some (.ins 1 [(.ins 0 [(.str "end"), (.int (0)), (.int (0)), (.int (0)), (.int (2))]), (.int (1)), (.int (0)), (.int (1)), (.bl false), (.tup [(.int (1)), (.int (3))])]), some (.loc 11), some (.int (2)), some (.int (2)), some (.tup [(.tup [(.tup [(.int (0)), (.bl false), (.int (2))])]), (.tup []), (.int (0)), (.tup [(.int (2)), (.int (0)), (.int (0))])]), some (.ins 1 [(.ins 0 [(.str "front"), (.int (0)), (.int (0)), (.int (0)), (.int (0))]), (.int (1)), (.int (0)), (.int (1)), (.bl false), (.tup [(.int (1)), (.int (1))])]), some (.ins 1 [(.ins 0 [(.str "front"), (.int (0)), (.int (1)), (.int (0)), (.int (0))]), (.int (1)), (.int (0)), (.int (1)), (.bl false), (.tup [(.int (2)), (.int (2))])]), some (.tup [(.tup [(.int (0)), (.bl false), (.int (0))])])]
def H15 : List O := [(.lst [(.tup [(.tup []), (.tup []), (.int (0)), (.tup [])]), (.tup [(.tup [(.tup [(.int (0)), (.bl false), (.int (0))])]), (.tup []), (.int (0)), (.tup [])]), (.tup [(.tup [(.tup [(.int (0)), (.bl false), (.int (0))])]), (.tup []), (.int (0)), (.tup [(.int (0)), (.int (0)), (.int (0))])])]), (.lst [(.tup [(.tup []), (.tup []), (.int (0)), (.tup [])]), (.tup [(.tup [(.tup [(.int (0)), (.bl false), (.int (0))])]), (.tup []), (.int (0)), (.tup [])]), (.tup [(.tup [(.tup [(.int (0)), (.bl false), (.int (0))])]), (.tup []), (.int (0)), (.tup [(.int (0)), (.int (0)), (.int (0))])]), (.tup [(.tup [(.tup [(.int (0)), (.bl false), (.int (0))])]), (.tup []), (.int (0)), (.tup [(.int (1)), (.int (0)), (.int (0))])])]), (.lst [(.tup [(.tup []), (.tup []), (.int (0)), (.tup [])]), (.tup [(.tup [(.tup [(.int (0)), (.bl false), (.int (0))])]), (.tup []), (.int (0)), (.tup [])]), (.tup [(.tup [(.tup [(.int (0)), (.bl false), (.int (0))])]), (.tup []), (.int (0)), (.tup [(.int (0)), (.int (0)), (.int (0))])]), (.tup [(.tup [(.tup [(.int (0)), (.bl false), (.int (0))])]), (.tup []), (.int (0)), (.tup [(.int (1)), (.int (0)), (.int (0))])]), (.tup [(.tup [(.tup [(.int (0)), (.bl false), (.int (0))])]), (.tup []), (.int (0)), (.tup [(.int (2)), (.int (0)), (.int (0))])])]), (.lst [(.tup [(.tup []), (.tup []), (.int (0)), (.tup [])]), (.tup [(.tup [(.tup [(.int (0)), (.bl false), (.int (0))])]), (.tup []), (.int (0)), (.tup [])]), (.tup [(.tup [(.tup [(.int (0)), (.bl false), (.int (0))])]), (.tup []), (.int (0)), (.tup [(.int (0)), (.int (0)), (.int (0))])]), (.tup [(.tup [(.tup [(.int (0)), (.bl false), (.int (0))])]), (.tup []), (.int (0)), (.tup [(.int (1)), (.int (0)), (.int (0))])])]), (.lst [(.tup [(.tup []), (.tup []), (.int (0)), (.tup [])]), (.tup [(.tup [(.tup [(.int (0)), (.bl false), (.int (0))])]), (.tup []), (.int (0)), (.tup [])]), (.tup [(.tup [(.tup [(.int (0)), (.bl false), (.int (1))])]), (.tup []), (.int (0)), (.tup [])]), (.tup [(.tup [(.tup [(.int (0)), (.bl false), (.int (0))])]), (.tup []), (.int (0)), (.tup [(.int (0)), (.int (0)), (.int (0))])]), (.tup [(.tup [(.tup [(.int (0)), (.bl false), (.int (1))])]), (.tup []), (.int (0)), (.tup [(.int (0)), (.int (0)), (.int (0))])])]), (.lst [(.tup [(.tup []), (.tup []), (.int (0)), (.tup [])]), (.tup [(.tup [(.tup [(.int (0)), (.bl false), (.int (0))])]), (.tup []), (.int (0)), (.tup [])]), (.tup [(.tup [(.tup [(.int (0)), (.bl false), (.int (1))])]), (.tup []), (.int (0)), (.tup [])]), (.tup [(.tup [(.tup [(.int (0)), (.bl false), (.int (0))])]), (.tup []), (.int (0)), (.tup [(.int (0)), (.int (0)), (.int (0))])]), (.tup [(.tup [(.tup [(.int (0)), (.bl false), (.int (1))])]), (.tup []), (.int (0)), (.tup [(.int (0)), (.int (0)), (.int (0))])]), (.tup [(.tup [(.tup [(.int (0)), (.bl false), (.int (1))])]), (.tup []), (.int (0)), (.tup [(.int (1)), (.int (0)), (.int (0))])])]), (.lst [(.tup [(.tup []), (.tup []), (.int (0)), (.tup [])]), (.tup [(.tup [(.tup [(.int (0)), (.bl false), (.int (0))])]), (.tup []), (.int (0)), (.tup [])]), (.tup [(.tup [(.tup [(.int (0)), (.bl false), (.int (1))])]), (.tup []), (.int (0)), (.tup [])]), (.tup [(.tup [(.tup [(.int (0)), (.bl false), (.int (0))])]), (.tup []), (.int (0)), (.tup [(.int (0)), (.int (0)), (.int (0))])]), (.tup [(.tup [(.tup [(.int (0)), (.bl false), (.int (1))])]), (.tup []), (.int (0)), (.tup [(.int (0)), (.int (0)), (.int (0))])]), (.tup [(.tup [(.tup [(.int (0)), (.bl false), (.int (1))])]), (.tup []), (.int (0)), (.tup [(.int (1)), (.int (0)), (.int (0))])]), (.tup [(.tup [(.tup [(.int (0)), (.bl false), (.int (1))])]), (.tup []), (.int (0)), (.tup [(.int (2)), (.int (0)), (.int (0))])])]), (.lst [(.tup [(.tup []), (.tup []), (.int (0)), (.tup [])]), (.tup [(.tup [(.tup [(.int (0)), (.bl false), (.int (0))])]), (.tup []), (.int (0)), (.tup [])]), (.tup [(.tup [(.tup [(.int (0)), (.bl false), (.int (0))])]), (.tup []), (.int (0)), (.tup [(.int (0)), (.int (0)), (.int (0))])]), (.tup [(.tup [(.tup [(.int (0)), (.bl false), (.int (0))])]), (.tup []), (.int (0)), (.tup [(.int (1)), (.int (0)), (.int (0))])])]), (.lst [(.tup [(.tup []), (.tup []), (.int (0)), (.tup [])]), (.tup [(.tup [(.tup [(.int (0)), (.bl false), (.int (0))])]), (.tup []), (.int (0)), (.tup [])]), (.tup [(.tup [(.tup [(.int (0)), (.bl false), (.int (1))])]), (.tup []), (.int (0)), (.tup [])]), (.tup [(.tup [(.tup [(.int (0)), (.bl false), (.int (2))])]), (.tup []), (.int (0)), (.tup [])]), (.tup [(.tup [(.tup [(.int (0)), (.bl false), (.int (0))])]), (.tup []), (.int (0)), (.tup [(.int (0)), (.int (0)), (.int (0))])]), (.tup [(.tup [(.tup [(.int (0)), (.bl false), (.int (1))])]), (.tup []), (.int (0)), (.tup [(.int (0)), (.int (0)), (.int (0))])]), (.tup [(.tup [(.tup [(.int (0)), (.bl false), (.int (2))])]), (.tup []), (.int (0)), (.tup [(.int (0)), (.int (0)), (.int (0))])])]), (.lst [(.tup [(.tup []), (.tup []), (.int (0)), (.tup [])]), (.tup [(.tup [(.tup [(.int (0)), (.bl false), (.int (0))])]), (.tup []), (.int (0)), (.tup [])]), (.tup [(.tup [(.tup [(.int (0)), (.bl false), (.int (1))])]), (.tup []), (.int (0)), (.tup [])]), (.tup [(.tup [(.tup [(.int (0)), (.bl false), (.int (2))])]), (.tup []), (.int (0)), (.tup [])]), (.tup [(.tup [(.tup [(.int (0)), (.bl false), (.int (0))])]), (.tup []), (.int (0)), (.tup [(.int (0)), (.int (0)), (.int (0))])]), (.tup [(.tup [(.tup [(.int (0)), (.bl false), (.int (1))])]), (.tup []), (.int (0)), (.tup [(.int (0)), (.int (0)), (.int (0))])]), (.tup [(.tup [(.tup [(.int (0)), (.bl false), (.int (2))])]), (.tup []), (.int (0)), (.tup [(.int (0)), (.int (0)), (.int (0))])]), (.tup [(.tup [(.tup [(.int (0)), (.bl false), (.int (1))])]), (.tup []), (.int (0)), (.tup [(.int (1)), (.int (0)), (.int (0))])]), (.tup [(.tup [(.tup [(.int (0)), (.bl false), (.int (2))])]), (.tup []), (.int (0)), (.tup [(.int (1)), (.int (0)), (.int (0))])])]), (.lst [(.tup [(.tup []), (.tup []), (.int (0)), (.tup [])]), (.tup [(.tup [(.tup [(.int (0)), (.bl false), (.int (0))])]), (.tup []), (.int (0)), (.tup [])]), (.tup [(.tup [(.tup [(.int (0)), (.bl false), (.int (1))])]), (.tup []), (.int (0)), (.tup [])]), (.tup [(.tup [(.tup [(.int (0)), (.bl false), (.int (2))])]), (.tup []), (.int (0)), (.tup [])]), (.tup [(.tup [(.tup [(.int (0)), (.bl false), (.int (0))])]), (.tup []), (.int (0)), (.tup [(.int (0)), (.int (0)), (.int (0))])]), (.tup [(.tup [(.tup [(.int (0)), (.bl false), (.int (1))])]), (.tup []), (.int (0)), (.tup [(.int (0)), (.int (0)), (.int (0))])]), (.tup [(.tup [(.tup [(.int (0)), (.bl false), (.int (2))])]), (.tup []), (.int (0)), (.tup [(.int (0)), (.int (0)), (.int (0))])]), (.tup [(.tup [(.tup [(.int (0)), (.bl false), (.int (1))])]), (.tup []), (.int (0)), (.tup [(.int (1)), (.int (0)), (.int (0))])]), (.tup [(.tup [(.tup [(.int (0)), (.bl false), (.int (2))])]), (.tup []), (.int (0)), (.tup [(.int (1)), (.int (0)), (.int (0))])]), (.tup [(.tup [(.tup [(.int (0)), (.bl false), (.int (2))])]), (.tup []), (.int (0)), (.tup [(.int (2)), (.int (0)), (.int (0))])])]), (.lst [(.tup [(.tup []), (.tup []), (.int (0)), (.tup [])]), (.tup [(.tup [(.tup [(.int (0)), (.bl false), (.int (0))])]), (.tup []), (.int (0)), (.tup [])]), (.tup [(.tup [(.tup [(.int (0)), (.bl false), (.int (0))])]), (.tup []), (.int (0)), (.tup [(.int (0)), (.int (0)), (.int (0))])]), (.tup [(.tup [(.tup [(.int (0)), (.bl false), (.int (0))])]), (.tup []), (.int (0)), (.tup [(.int (1)), (.int (0)), (.int (0))])])])]
def S16 : Sg := [none, some (.int (3)), some (.int (3)), some (.ins 1 [(.ins 0 [(.str "end"), (.int (0)), (.int (0)), (.int (0)), (.int (2))]), (.int (1)), (.int (0)), (.int (1)), (.bl false), (.tup [(.int (1)), (.int (3))])]), some (.loc 11), some (.int (2)), some (.int (2)), some (.tup [(.tup [(.tup [(.int (0)), (.bl false), (.int (2))])]), (.tup []), (.int (0)), (.tup [(.int (2)), (.int (0)), (.int (0))])]), some (.ins 1 [(.ins 0 [(.str "front"), (.int (0)), (.int (0)), (.int (0)), (.int (0))]), (.int (1)), (.int (0)), (.int (1)), (.bl false), (.tup [(.int (1)), (.int (1))])]), some (.ins 1 [(.ins 0 [(.str "front"), (.int (0)), (.int (1)), (.int (0)), (.int (0))]), (.int (1)), (.int (0)), (.int (1)), (.bl false), (.tup [(.int (2)), (.int (2))])]), some (.tup [(.tup [(.int (0)), (.bl false), (.int (0))])])]
def H16 : List O := [(.lst [(.tup [(.tup []), (.tup []), (.int (0)), (.tup [])]), (.tup [(.tup [(.tup [(.int (0)), (.bl false), (.int (0))])]), (.tup []), (.int (0)), (.tup [])]), (.tup [(.tup [(.tup [(.int (0)), (.bl false), (.int (0))])]), (.tup []), (.int (0)), (.tup [(.int (0)), (.int (0)), (.int (0))])])]), (.lst [(.tup [(.tup []), (.tup []), (.int (0)), (.tup [])]), (.tup [(.tup [(.tup [(.int (0)), (.bl false), (.int (0))])]), (.tup []), (.int (0)), (.tup [])]), (.tup [(.tup [(.tup [(.int (0)), (.bl false), (.int (0))])]), (.tup []), (.int (0)), (.tup [(.int (0)), (.int (0)), (.int (0))])]), (.tup [(.tup [(.tup [(.int (0)), (.bl false), (.int (0))])]), (.tup []), (.int (0)), (.tup [(.int (1)), (.int (0)), (.int (0))])])]), (.lst [(.tup [(.tup []), (.tup []), (.int (0)), (.tup [])]), (.tup [(.tup [(.tup [(.int (0)), (.bl false), (.int (0))])]), (.tup []), (.int (0)), (.tup [])]), (.tup [(.tup [(.tup [(.int (0)), (.bl false), (.int (0))])]), (.tup []), (.int (0)), (.tup [(.int (0)), (.int (0)), (.int (0))])]), (.tup [(.tup [(.tup [(.int (0)), (.bl false), (.int (0))])]), (.tup []), (.int (0)), (.tup [(.int (1)), (.int (0)), (.int (0))])]), (.tup [(.tup [(.tup [(.int (0)), (.bl false), (.int (0))])]), (.tup []), (.int (0)), (.tup [(.int (2)), (.int (0)), (.int (0))])])]), (.lst [(.tup [(.tup []), (.tup []), (.int (0)), (.tup [])]), (.tup [(.tup [(.tup [(.int (0)), (.bl false), (.int (0))])]), (.tup []), (.int (0)), (.tup [])]), (.tup [(.tup [(.tup [(.int (0)), (.bl false), (.int (0))])]), (.tup []), (.int (0)), (.tup [(.int (0)), (.int (0)), (.int (0))])]), (.tup [(.tup [(.tup [(.int (0)), (.bl false), (.int (0))])]), (.tup []), (.int (0)), (.tup [(.int (1)), (.int (0)), (.int (0))])])]), (.lst [(.tup [(.tup []), (.tup []), (.int (0)), (.tup [])]), (.tup [(.tup [(.tup [(.int (0)), (.bl false), (.int (0))])]), (.tup []), (.int (0)), (.tup [])]), (.tup [(.tup [(.tup [(.int (0)), (.bl false), (.int (1))])]), (.tup []), (.int (0)), (.tup [])]), (.tup [(.tup [(.tup [(.int (0)), (.bl false), (.int (0))])]), (.tup []), (.int (0)), (.tup [(.int (0)), (.int (0)), (.int (0))])]), (.tup [(.tup [(.tup [(.int (0)), (.bl false), (.int (1))])]), (.tup []), (.int (0)), (.tup [(.int (0)), (.int (0)), (.int (0))])])]), (.lst [(.tup [(.tup []), (.tup []), (.int (0)), (.tup [])]), (.tup [(.tup [(.tup [(.int (0)), (.bl false), (.int (0))])]), (.tup []), (.int (0)), (.tup [])]), (.tup [(.tup [(.tup [(.int (0)), (.bl false), (.int (1))])]), (.tup []), (.int (0)), (.tup [])]), (.tup [(.tup [(.tup [(.int (0)), (.bl false), (.int (0))])]), (.tup []), (.int (0)), (.tup [(.int (0)), (.int (0)), (.int (0))])]), (.tup [(.tup [(.tup [(.int (0)), (.bl false), (.int (1))])]), (.tup []), (.int (0)), (.tup [(.int (0)), (.int (0)), (.int (0))])]), (.tup [(.tup [(.tup [(.int (0)), (.bl false), (.int (1))])]), (.tup []), (.int (0)), (.tup [(.int (1)), (.int (0)), (.int (0))])])]), (.lst [(.tup [(.tup []), (.tup []), (.int (0)), (.tup [])]), (.tup [(.tup [(.tup [(.int (0)), (.bl false), (.int (0))])]), (.tup []), (.int (0)), (.tup [])]), (.tup [(.tup [(.tup [(.int (0)), (.bl false), (.int (1))])]), (.tup []), (.int (0)), (.tup [])]), (.tup [(.tup [(.tup [(.int (0)), (.bl false), (.int (0))])]), (.tup []), (.int (0)), (.tup [(.int (0)), (.int (0)), (.int (0))])]), (.tup [(.tup [(.tup [(.int (0)), (.bl false), (.int (1))])]), (.tup []), (.int (0)), (.tup [(.int (0)), (.int (0)), (.int (0))])]), (.tup [(.tup [(.tup [(.int (0)), (.bl false), (.int (1))])]), (.tup []), (.int (0)), (.tup [(.int (1)), (.int (0)), (.int (0))])]), (.tup [(.tup [(.tup [(.int (0)), (.bl false), (.int (1))])]), (.tup []), (.int (0)), (.tup [(.int (2)), (.int (0)), (.int (0))])])]), (.lst [(.tup [(.tup []), (.tup []), (.int (0)), (.tup [])]), (.tup [(.tup [(.tup [(.int (0)), (.bl false), (.int (0))])]), (.tup []), (.int (0)), (.tup [])]), (.tup [(.tup [(.tup [(.int (0)), (.bl false), (.int (0))])]), (.tup []), (.int (0)), (.tup [(.int (0)), (.int (0)), (.int (0))])]), (.tup [(.tup [(.tup [(.int (0)), (.bl false), (.int (0))])]), (.tup []), (.int (0)), (.tup [(.int (1)), (.int (0)), (.int (0))])])]), (.lst [(.tup [(.tup []), (.tup []), (.int (0)), (.tup [])]), (.tup [(.tup [(.tup [(.int (0)), (.bl false), (.int (0))])]), (.tup []), (.int (0)), (.tup [])]), (.tup [(.tup [(.tup [(.int (0)), (.bl false), (.int (1))])]), (.tup []), (.int (0)), (.tup [])]), (.tup [(.tup [(.tup [(.int (0)), (.bl false), (.int (2))])]), (.tup []), (.int (0)), (.tup [])]), (.tup [(.tup [(.tup [(.int (0)), (.bl false), (.int (0))])]), (.tup []), (.int (0)), (.tup [(.int (0)), (.int (0)), (.int (0))])]), (.tup [(.tup [(.tup [(.int (0)), (.bl false), (.int (1))])]), (.tup []), (.int (0)), (.tup [(.int (0)), (.int (0)), (.int (0))])]), (.tup [(.tup [(.tup [(.int (0)), (.bl false), (.int (2))])]), (.tup []), (.int (0)), (.tup [(.int (0)), (.int (0)), (.int (0))])])]), (.lst [(.tup [(.tup []), (.tup []), (.int (0)), (.tup [])]), (.tup [(.tup [(.tup [(.int (0)), (.bl false), (.int (0))])]), (.tup []), (.int (0)), (.tup [])]), (.tup [(.tup [(.tup [(.int (0)), (.bl false), (.int (1))])]), (.tup []), (.int (0)), (.tup [])]), (.tup [(.tup [(.tup [(.int (0)), (.bl false), (.int (2))])]), (.tup []), (.int (0)), (.tup [])]), (.tup [(.tup [(.tup [(.int (0)), (.bl false), (.int (0))])]), (.tup []), (.int (0)), (.tup [(.int (0)), (.int (0)), (.int (0))])]), (.tup [(.tup [(.tup [(.int (0)), (.bl false), (.int (1))])]), (.tup []), (.int (0)), (.tup [(.int (0)), (.int (0)), (.int (0))])]), (.tup [(.tup [(.tup [(.int (0)), (.bl false), (.int (2))])]), (.tup []), (.int (0)), (.tup [(.int (0)), (.int (0)), (.int (0))])]), (.tup [(.tup [(.tup [(.int (0)), (.bl false), (.int (1))])]), (.tup []), (.int (0)), (.tup [(.int (1)), (.int (0)), (.int (0))])]), (.tup [(.tup [(.tup [(.int (0)), (.bl false), (.int (2))])]), (.tup []), (.int (0)), (.tup [(.int (1)), (.int (0)), (.int (0))])])]), (.lst [(.tup [(.tup []), (.tup []), (.int (0)), (.tup [])]), (.tup [(.tup [(.tup [(.int (0)), (.bl false), (.int (0))])]), (.tup []), (.int (0)), (.tup [])]), (.tup [(.tup [(.tup [(.int (0)), (.bl false), (.int (1))])]), (.tup []), (.int (0)), (.tup [])]), (.tup [(.tup [(.tup [(.int (0)), (.bl false), (.int (2))])]), (.tup []), (.int (0)), (.tup [])]), (.tup [(.tup [(.tup [(.int (0)), (.bl false), (.int (0))])]), (.tup []), (.int (0)), (.tup [(.int (0)), (.int (0)), (.int (0))])]), (.tup [(.tup [(.tup [(.int (0)), (.bl false), (.int (1))])]), (.tup []), (.int (0)), (.tup [(.int (0)), (.int (0)), (.int (0))])]), (.tup [(.tup [(.tup [(.int (0)), (.bl false), (.int (2))])]), (.tup []), (.int (0)), (.tup [(.int (0)), (.int (0)), (.int (0))])]), (.tup [(.tup [(.tup [(.int (0)), (.bl false), (.int (1))])]), (.tup []), (.int (0)), (.tup [(.int (1)), (.int (0)), (.int (0))])]), (.tup [(.tup [(.tup [(.int (0)), (.bl false), (.int (2))])]), (.tup []), (.int (0)), (.tup [(.int (1)), (.int (0)), (.int (0))])]), (.tup [(.tup [(.tup [(.int (0)), (.bl false), (.int (2))])]), (.tup []), (.int (0)), (.tup [(.int (2)), (.int (0)), (.int (0))])])]), (.lst [(.tup [(.tup []), (.tup []), (.int (0)), (.tup [])]), (.tup [(.tup [(.tup [(.int (0)), (.bl false), (.int (0))])]), (.tup []), (.int (0)), (.tup [])]), (.tup [(.tup [(.tup [(.int (0)), (.bl false), (.int (0))])]), (.tup []), (.int (0)), (.tup [(.int (0)), (.int (0)), (.int (0))])]), (.tup [(.tup [(.tup [(.int (0)), (.bl false), (.int (0))])]), (.tup []), (.int (0)), (.tup [(.int (1)), (.int (0)), (.int (0))])])])]
def S17 : Sg := [none, some (.int (3)), some (.int (1)), some (.ins 1 [(.ins 0 [(.str "end"), (.int (0)), (.int (0)), (.int (0)), (.int (3))]), (.int (1)), (.int (0)), (.int (1)), (.bl false), (.tup [(.int (1)), (.int (1))])]), some (.loc 12), some (.int (0)), some (.int (3)), some (.tup [(.tup [(.tup [(.int (0)), (.bl false), (.int (3))])]), (.tup []), (.int (0)), (.tup [(.int (0)), (.int (0)), (.int (0))])]), some (.ins 1 [(.ins 0 [(.str "front"), (.int (0)), (.int (0)), (.int (0)), (.int (0))]), (.int (1)), (.int (0)), (.int (1)), (.bl false), (.tup [(.int (1)), (.int (1))])]), some (.ins 1 [(.ins 0 [(.str "front"), (.int (0)), (.int (1)), (.int (0)), (.int (0))]), (.int (1)), (.int (0)), (.int (1)), (.bl false), (.tup [(.int (2)), (.int (2))])]), some (.tup [(.tup [(.int (0)), (.bl false), (.int (0))])])]
def H17 : List O := [(.lst [(.tup [(.tup []), (.tup []), (.int (0)), (.tup [])]), (.tup [(.tup [(.tup [(.int (0)), (.bl false), (.int (0))])]), (.tup []), (.int (0)), (.tup [])]), (.tup [(.tup [(.tup [(.int (0)), (.bl false), (.int (0))])]), (.tup []), (.int (0)), (.tup [(.int (0)), (.int (0)), (.int (0))])])]), (.lst [(.tup [(.tup []), (.tup []), (.int (0)), (.tup [])]), (.tup [(.tup [(.tup [(.int (0)), (.bl false), (.int (0))])]), (.tup []), (.int (0)), (.tup [])]), (.tup [(.tup [(.tup [(.int (0)), (.bl false), (.int (0))])]), (.tup []), (.int (0)), (.tup [(.int (0)), (.int (0)), (.int (0))])]), (.tup [(.tup [(.tup [(.int (0)), (.bl false), (.int (0))])]), (.tup []), (.int (0)), (.tup [(.int (1)), (.int (0)), (.int (0))])])]), (.lst [(.tup [(.tup []), (.tup []), (.int (0)), (.tup [])]), (.tup [(.tup [(.tup [(.int (0)), (.bl false), (.int (0))])]), (.tup []), (.int (0)), (.tup [])]), (.tup [(.tup [(.tup [(.int (0)), (.bl false), (.int (0))])]), (.tup []), (.int (0)), (.tup [(.int (0)), (.int (0)), (.int (0))])]), (.tup [(.tup [(.tup [(.int (0)), (.bl false), (.int (0))])]), (.tup []), (.int (0)), (.tup [(.int (1)), (.int (0)), (.int (0))])]), (.tup [(.tup [(.tup [(.int (0)), (.bl false), (.int (0))])]), (.tup []), (.int (0)), (.tup [(.int (2)), (.int (0)), (.int (0))])])]), (.lst [(.tup [(.tup []), (.tup []), (.int (0)), (.tup [])]), (.tup [(.tup [(.tup [(.int (0)), (.bl false), (.int (0))])]), (.tup []), (.int (0)), (.tup [])]), (.tup [(.tup [(.tup [(.int (0)), (.bl false), (.int (0))])]), (.tup []), (.int (0)), (.tup [(.int (0)), (.int (0)), (.int (0))])]), (.tup [(.tup [(.tup [(.int (0)), (.bl false), (.int (0))])]), (.tup []), (.int (0)), (.tup [(.int (1)), (.int (0)), (.int (0))])])]), (.lst [(.tup [(.tup []), (.tup []), (.int (0)), (.tup [])]), (.tup [(.tup [(.tup [(.int (0)), (.bl false), (.int (0))])]), (.tup []), (.int (0)), (.tup [])]), (.tup [(.tup [(.tup [(.int (0)), (.bl false), (.int (1))])]), (.tup []), (.int (0)), (.tup [])]), (.tup [(.tup [(.tup [(.int (0)), (.bl false), (.int (0))])]), (.tup []), (.int (0)), (.tup [(.int (0)), (.int (0)), (.int (0))])]), (.tup [(.tup [(.tup [(.int (0)), (.bl false), (.int (1))])]), (.tup []), (.int (0)), (.tup [(.int (0)), (.int (0)), (.int (0))])])]), (.lst [(.tup [(.tup []), (.tup []), (.int (0)), (.tup [])]), (.tup [(.tup [(.tup [(.int (0)), (.bl false), (.int (0))])]), (.tup []), (.int (0)), (.tup [])]), (.tup [(.tup [(.tup [(.int (0)), (.bl false), (.int (1))])]), (.tup []), (.int (0)), (.tup [])]), (.tup [(.tup [(.tup [(.int (0)), (.bl false), (.int (0))])]), (.tup []), (.int (0)), (.tup [(.int (0)), (.int (0)), (.int (0))])]), (.tup [(.tup [(.tup [(.int (0)), (.bl false), (.int (1))])]), (.tup []), (.int (0)), (.tup [(.int (0)), (.int (0)), (.int (0))])]), (.tup [(.tup [(.tup [(.int (0)), (.bl false), (.int (1))])]), (.tup []), (.int (0)), (.tup [(.int (1)), (.int (0)), (.int (0))])])]), (.lst [(.tup [(.tup []), (.tup []), (.int (0)), (.tup [])]), (.tup [(.tup [(.tup [(.int (0)), (.bl false), (.int (0))])]), (.tup []), (.int (0)), (.tup [])]), (.tup [(.tup [(.tup [(.int (0)), (.bl false), (.int (1))])]), (.tup []), (.int (0)), (.tup [])]), (.tup [(.tup [(.tup [(.int (0)), (.bl false), (.int (0))])]), (.tup []), (.int (0)), (.tup [(.int (0)), (.int (0)), (.int (0))])]), (.tup [(.tup [(.tup [(.int (0)), (.bl false), (.int (1))])]), (.tup []), (.int (0)), (.tup [(.int (0)), (.int (0)), (.int (0))])]), (.tup [(.tup [(.tup [(.int (0)), (.bl false), (.int (1))])]), (.tup []), (.int (0)), (.tup [(.int (1)), (.int (0)), (.int (0))])]), (.tup [(.tup [(.tup [(.int (0)), (.bl false), (.int (1))])]), (.tup []), (.int (0)), (.tup [(.int (2)), (.int (0)), (.int (0))])])]), (.lst [(.tup [(.tup []), (.tup []), (.int (0)), (.tup [])]), (.tup [(.tup [(.tup [(.int (0)), (.bl false), (.int (0))])]), (.tup []), (.int (0)), (.tup [])]), (.tup [(.tup [(.tup [(.int (0)), (.bl false), (.int (0))])]), (.tup []), (.int (0)), (.tup [(.int (0)), (.int (0)), (.int (0))])]), (.tup [(.tup [(.tup [(.int (0)), (.bl false), (.int (0))])]), (.tup []), (.int (0)), (.tup [(.int (1)), (.int (0)), (.int (0))])])]), (.lst [(.tup [(.tup []), (.tup []), (.int (0)), (.tup [])]), (.tup [(.tup [(.tup [(.int (0)), (.bl false), (.int (0))])]), (.tup []), (.int (0)), (.tup [])]), (.tup [(.tup [(.tup [(.int (0)), (.bl false), (.int (1))])]), (.tup []), (.int (0)), (.tup [])]), (.tup [(.tup [(.tup [(.int (0)), (.bl false), (.int (2))])]), (.tup []), (.int (0)), (.tup [])]), (.tup [(.tup [(.tup [(.int (0)), (.bl false), (.int (0))])]), (.tup []), (.int (0)), (.tup [(.int (0)), (.int (0)), (.int (0))])]), (.tup [(.tup [(.tup [(.int (0)), (.bl false), (.int (1))])]), (.tup []), (.int (0)), (.tup [(.int (0)), (.int (0)), (.int (0))])]), (.tup [(.tup [(.tup [(.int (0)), (.bl false), (.int (2))])]), (.tup []), (.int (0)), (.tup [(.int (0)), (.int (0)), (.int (0))])])]), (.lst [(.tup [(.tup []), (.tup []), (.int (0)), (.tup [])]), (.tup [(.tup [(.tup [(.int (0)), (.bl false), (.int (0))])]), (.tup []), (.int (0)), (.tup [])]), (.tup [(.tup [(.tup [(.int (0)), (.bl false), (.int (1))])]), (.tup []), (.int (0)), (.tup [])]), (.tup [(.tup [(.tup [(.int (0)), (.bl false), (.int (2))])]), (.tup []), (.int (0)), (.tup [])]), (.tup [(.tup [(.tup [(.int (0)), (.bl false), (.int (0))])]), (.tup []), (.int (0)), (.tup [(.int (0)), (.int (0)), (.int (0))])]), (.tup [(.tup [(.tup [(.int (0)), (.bl false), (.int (1))])]), (.tup []), (.int (0)), (.tup [(.int (0)), (.int (0)), (.int (0))])]), (.tup [(.tup [(.tup [(.int (0)), (.bl false), (.int (2))])]), (.tup []), (.int (0)), (.tup [(.int (0)), (.int (0)), (.int (0))])]), (.tup [(.tup [(.tup [(.int (0)), (.bl false), (.int (1))])]), (.tup []), (.int (0)), (.tup [(.int (1)), (.int (0)), (.int (0))])]), (.tup [(.tup [(.tup [(.int (0)), (.bl false), (.int (2))])]), (.tup []), (.int (0)), (.tup [(.int (1)), (.int (0)), (.int (0))])])]), (.lst [(.tup [(.tup []), (.tup []), (.int (0)), (.tup [])]), (.tup [(.tup [(.tup [(.int (0)), (.bl false), (.int (0))])]), (.tup []), (.int (0)), (.tup [])]), (.tup [(.tup [(.tup [(.int (0)), (.bl false), (.int (1))])]), (.tup []), (.int (0)), (.tup [])]), (.tup [(.tup [(.tup [(.int (0)), (.bl false), (.int (2))])]), (.tup []), (.int (0)), (.tup [])]), (.tup [(.tup [(.tup [(.int (0)), (.bl false), (.int (0))])]), (.tup []), (.int (0)), (.tup [(.int (0)), (.int (0)), (.int (0))])]), (.tup [(.tup [(.tup [(.int (0)), (.bl false), (.int (1))])]), (.tup []), (.int (0)), (.tup [(.int (0)), (.int (0)), (.int (0))])]), (.tup [(.tup [(.tup [(.int (0)), (.bl false), (.int (2))])]), (.tup []), (.int (0)), (.tup [(.int (0)), (.int (0)), (.int (0))])]), (.tup [(.tup [(.tup [(.int (0)), (.bl false), (.int (1))])]), (.tup []), (.int (0)), (.tup [(.int (1)), (.int (0)), (.int (0))])]), (.tup [(.tup [(.tup [(.int (0)), (.bl false), (.int (2))])]), (.tup []), (.int (0)), (.tup [(.int (1)), (.int (0)), (.int (0))])]), (.tup [(.tup [(.tup [(.int (0)), (.bl false), (.int (2))])]), (.tup []), (.int (0)), (.tup [(.int (2)), (.int (0)), (.int (0))])])]), (.lst [(.tup [(.tup []), (.tup []), (.int (0)), (.tup [])]), (.tup [(.tup [(.tup [(.int (0)), (.bl false), (.int (0))])]), (.tup []), (.int (0)), (.tup [])]), (.tup [(.tup [(.tup [(.int (0)), (.bl false), (.int (0))])]), (.tup []), (.int (0)), (.tup [(.int (0)), (.int (0)), (.int (0))])]), (.tup [(.tup [(.tup [(.int (0)), (.bl false), (.int (0))])]), (.tup []), (.int (0)), (.tup [(.int (1)), (.int (0)), (.int (0))])])]), (.lst [(.tup [(.tup []), (.tup []), (.int (0)), (.tup [])]), (.tup [(.tup [(.tup [(.int (0)), (.bl false), (.int (0))])]), (.tup []), (.int (0)), (.tup [])]), (.tup [(.tup [(.tup [(.int (0)), (.bl false), (.int (1))])]), (.tup []), (.int (0)), (.tup [])]), (.tup [(.tup [(.tup [(.int (0)), (.bl false), (.int (2))])]), (.tup []), (.int (0)), (.tup [])]), (.tup [(.tup [(.tup [(.int (0)), (.bl false), (.int (3))])]), (.tup []), (.int (0)), (.tup [])]), (.tup [(.tup [(.tup [(.int (0)), (.bl false), (.int (0))])]), (.tup []), (.int (0)), (.tup [(.int (0)), (.int (0)), (.int (0))])]), (.tup [(.tup [(.tup [(.int (0)), (.bl false), (.int (1))])]), (.tup []), (.int (0)), (.tup [(.int (0)), (.int (0)), (.int (0))])]), (.tup [(.tup [(.tup [(.int (0)), (.bl false), (.int (2))])]), (.tup []), (.int (0)), (.tup [(.int (0)), (.int (0)), (.int (0))])]), (.tup [(.tup [(.tup [(.int (0)), (.bl false), (.int (3))])]), (.tup []), (.int (0)), (.tup [(.int (0)), (.int (0)), (.int (0))])])])]
def S18 : Sg := [none, some (.int (3)), some (.int (2)), some (.ins 1 [(.ins 0 [(.str "end"), (.int (0)), (.int (0)), (.int (0)), (.int (3))]), (.int (1)), (.int (0)), (.int (1)), (.bl false), (.tup [(.int (1)), (.int (2))])]), some (.loc 13), some (.int (1)), some (.int (3)), some (.tup [(.tup [(.tup [(.int (0)), (.bl false), (.int (3))])]), (.tup []), (.int (0)), (.tup [(.int (1)), (.int (0)), (.int (0))])]), some (.ins 1 [(.ins 0 [(.str "front"), (.int (0)), (.int (0)), (.int (0)), (.int (0))]), (.int (1)), (.int (0)), (.int (1)), (.bl false), (.tup [(.int (1)), (.int (1))])]), some (.ins 1 [(.ins 0 [(.str "front"), (.int (0)), (.int (1)), (.int (0)), (.int (0))]), (.int (1)), (.int (0)), (.int (1)), (.bl false), (.tup [(.int (2)), (.int (2))])]), some (.tup [(.tup [(.int (0)), (.bl false), (.int (0))])])]
def H18 : List O := [(.lst [(.tup [(.tup []), (.tup []), (.int (0)), (.tup [])]), (.tup [(.tup [(.tup [(.int (0)), (.bl false), (.int (0))])]), (.tup []), (.int (0)), (.tup [])]), (.tup [(.tup [(.tup [(.int (0)), (.bl false), (.int (0))])]), (.tup []), (.int (0)), (.tup [(.int (0)), (.int (0)), (.int (0))])])]), (.lst [(.tup [(.tup []), (.tup []), (.int (0)), (.tup [])]), (.tup [(.tup [(.tup [(.int (0)), (.bl false), (.int (0))])]), (.tup []), (.int (0)), (.tup [])]), (.tup [(.tup [(.tup [(.int (0)), (.bl false), (.int (0))])]), (.tup []), (.int (0)), (.tup [(.int (0)), (.int (0)), (.int (0))])]), (.tup [(.tup [(.tup [(.int (0)), (.bl false), (.int (0))])]), (.tup []), (.int (0)), (.tup [(.int (1)), (.int (0)), (.int (0))])])]), (.lst [(.tup [(.tup []), (.tup []), (.int (0)), (.tup [])]), (.tup [(.tup [(.tup [(.int (0)), (.bl false), (.int (0))])]), (.tup []), (.int (0)), (.tup [])]), (.tup [(.tup [(.tup [(.int (0)), (.bl false), (.int (0))])]), (.tup []), (.int (0)), (.tup [(.int (0)), (.int (0)), (.int (0))])]), (.tup [(.tup [(.tup [(.int (0)), (.bl false), (.int (0))])]), (.tup []), (.int (0)), (.tup [(.int (1)), (.int (0)), (.int (0))])]), (.tup [(.tup [(.tup [(.int (0)), (.bl false), (.int (0))])]), (.tup []), (.int (0)), (.tup [(.int (2)), (.int (0)), (.int (0))])])]), (.lst [(.tup [(.tup []), (.tup []), (.int (0)), (.tup [])]), (.tup [(.tup [(.tup [(.int (0)), (.bl false), (.int (0))])]), (.tup []), (.int (0)), (.tup [])]), (.tup [(.tup [(.tup [(.int (0)), (.bl false), (.int (0))])]), (.tup []), (.int (0)), (.tup [(.int (0)), (.int (0)), (.int (0))])]), (.tup [(.tup [(.tup [(.int (0)), (.bl false), (.int (0))])]), (.tup []), (.int (0)), (.tup [(.int (1)), (.int (0)), (.int (0))])])]), (.lst [(.tup [(.tup []), (.tup []), (.int (0)), (.tup [])]), (.tup [(.tup [(.tup [(.int (0)), (.bl false), (.int (0))])]), (.tup []), (.int (0)), (.tup [])]), (.tup [(.tup [(.tup [(.int (0)), (.bl false), (.int (1))])]), (.tup []), (.int (0)), (.tup [])]), (.tup [(.tup [(.tup [(.int (0)), (.bl false), (.int (0))])]), (.tup []), (.int (0)), (.tup [(.int (0)), (.int (0)), (.int (0))])]), (.tup [(.tup [(.tup [(.int (0)), (.bl false), (.int (1))])]), (.tup []), (.int (0)), (.tup [(.int (0)), (.int (0)), (.int (0))])])]), (.lst [(.tup [(.tup []), (.tup []), (.int (0)), (.tup [])]), (.tup [(.tup [(.tup [(.int (0)), (.bl false), (.int (0))])]), (.tup []), (.int (0)), (.tup [])]), (.tup [(.tup [(.tup [(.int (0)), (.bl false), (.int (1))])]), (.tup []), (.int (0)), (.tup [])]), (.tup [(.tup [(.tup [(.int (0)), (.bl false), (.int (0))])]), (.tup []), (.int (0)), (.tup [(.int (0)), (.int (0)), (.int (0))])]), (.tup [(.tup [(.tup [(.int (0)), (.bl false), (.int (1))])]), (.tup []), (.int (0)), (.tup [(.int (0)), (.int (0)), (.int (0))])]), (.tup [(.tup [(.tup [(.int (0)), (.bl false), (.int (1))])]), (.tup []), (.int (0)), (.tup [(.int (1)), (.int (0)), (.int (0))])])]), (.lst [(.tup [(.tup []), (.tup []), (.int (0)), (.tup [])]), (.tup [(.tup [(.tup [(.int (0)), (.bl false), (.int (0))])]), (.tup []), (.int (0)), (.tup [])]), (.tup [(.tup [(.tup [(.int (0)), (.bl false), (.int (1))])]), (.tup []), (.int (0)), (.tup [])]), (.tup [(.tup [(.tup [(.int (0)), (.bl false), (.int (0))])]), (.tup []), (.int (0)), (.tup [(.int (0)), (.int (0)), (.int (0))])]), (.tup [(.tup [(.tup [(.int (0)), (.bl false), (.int (1))])]), (.tup []), (.int (0)), (.tup [(.int (0)), (.int (0)), (.int (0))])]), (.tup [(.tup [(.tup [(.int (0)), (.bl false), (.int (1))])]), (.tup []), (.int (0)), (.tup [(.int (1)), (.int (0)), (.int (0))])]), (.tup [(.tup [(.tup [(.int (0)), (.bl false), (.int (1))])]), (.tup []), (.int (0)), (.tup [(.int (2)), (.int (0)), (.int (0))])])]), (.lst [(.tup [(.tup []), (.tup []), (.int (0)), (.tup [])]), (.tup [(.tup [(.tup [(.int (0)), (.bl false), (.int (0))])]), (.tup []), (.int (0)), (.tup [])]), (.tup [(.tup [(.tup [(.int (0)), (.bl false), (.int (0))])]), (.tup []), (.int (0)), (.tup [(.int (0)), (.int (0)), (.int (0))])]), (.tup [(.tup [(.tup [(.int (0)), (.bl false), (.int (0))])]), (.tup []), (.int (0)), (.tup [(.int (1)), (.int (0)), (.int (0))])])]), (.lst [(.tup [(.tup []), (.tup []), (.int (0)), (.tup [])]), (.tup [(.tup [(.tup [(.int (0)), (.bl false), (.int (0))])]), (.tup []), (.int (0)), (.tup [])]), (.tup [(.tup [(.tup [(.int (0)), (.bl false), (.int (1))])]), (.tup []), (.int (0)), (.tup [])]), (.tup [(.tup [(.tup [(.int (0)), (.bl false), (.int (2))])]), (.tup []), (.int (0)), (.tup [])]), (.tup [(.tup [(.tup [(.int (0)), (.bl false), (.int (0))])]), (.tup []), (.int (0)), (.tup [(.int (0)), (.int (0)), (.int (0))])]), (.tup [(.tup [(.tup [(.int (0)), (.bl false), (.int (1))])]), (.tup []), (.int (0)), (.tup [(.int (0)), (.int (0)), (.int (0))])]), (.tup [(.tup [(.tup [(.int (0)), (.bl false), (.int (2))])]), (.tup []), (.int (0)), (.tup [(.int (0)), (.int (0)), (.int (0))])])]), (.lst [(.tup [(.tup []), (.tup []), (.int (0)), (.tup [])]), (.tup [(.tup [(.tup [(.int (0)), (.bl false), (.int (0))])]), (.tup []), (.int (0)), (.tup [])]), (.tup [(.tup [(.tup [(.int (0)), (.bl false), (.int (1))])]), (.tup []), (.int (0)), (.tup [])]), (.tup [(.tup [(.tup [(.int (0)), (.bl false), (.int (2))])]), (.tup []), (.int (0)), (.tup [])]), (.tup [(.tup [(.tup [(.int (0)), (.bl false), (.int (0))])]), (.tup []), (.int (0)), (.tup [(.int (0)), (.int (0)), (.int (0))])]), (.tup [(.tup [(.tup [(.int (0)), (.bl false), (.int (1))])]), (.tup []), (.int (0)), (.tup [(.int (0)), (.int (0)), (.int (0))])]), (.tup [(.tup [(.tup [(.int (0)), (.bl false), (.int (2))])]), (.tup []), (.int (0)), (.tup [(.int (0)), (.int (0)), (.int (0))])]), (.tup [(.tup [(.tup [(.int (0)), (.bl false), (.int (1))])]), (.tup []), (.int (0)), (.tup [(.int (1)), (.int (0)), (.int (0))])]), (.tup [(.tup [(.tup [(.int (0)), (.bl false), (.int (2))])]), (.tup []), (.int (0)), (.tup [(.int (1)), (.int (0)), (.int (0))])])]), (.lst [(.tup [(.tup []), (.tup []), (.int (0)), (.tup [])]), (.tup [(.tup [(.tup [(.int (0)), (.bl false), (.int (0))])]), (.tup []), (.int (0)), (.tup [])]), (.tup [(.tup [(.tup [(.int (0)), (.bl false), (.int (1))])]), (.tup []), (.int (0)), (.tup [])]), (.tup [(.tup [(.tup [(.int (0)), (.bl false), (.int (2))])]), (.tup []), (.int (0)), (.tup [])]), (.tup [(.tup [(.tup [(.int (0)), (.bl false), (.int (0))])]), (.tup []), (.int (0)), (.tup [(.int (0)), (.int (0)), (.int (0))])]), (.tup [(.tup [(.tup [(.int (0)), (.bl false), (.int (1))])]), (.tup []), (.int (0)), (.tup [(.int (0)), (.int (0)), (.int (0))])]), (.tup [(.tup [(.tup [(.int (0)), (.bl false), (.int (2))])]), (.tup []), (.int (0)), (.tup [(.int (0)), (.int (0)), (.int (0))])]), (.tup [(.tup [(.tup [(.int (0)), (.bl false), (.int (1))])]), (.tup []), (.int (0)), (.tup [(.int (1)), (.int (0)), (.int (0))])]), (.tup [(.tup [(.tup [(.int (0)), (.bl false), (.int (2))])]), (.tup []), (.int (0)), (.tup [(.int (1)), (.int (0)), (.int (0))])]), (.tup [(.tup [(.tup [(.int (0)), (.bl false), (.int (2))])]), (.tup []), (.int (0)), (.tup [(.int (2)), (.int (0)), (.int (0))])])]), (.lst [(.tup [(.tup []), (.tup []), (.int (0)), (.tup [])]), (.tup [(.tup [(.tup [(.int (0)), (.bl false), (.int (0))])]), (.tup []), (.int (0)), (.tup [])]), (.tup [(.tup [(.tup [(.int (0)), (.bl false), (.int (0))])]), (.tup []), (.int (0)), (.tup [(.int (0)), (.int (0)), (.int (0))])]), (.tup [(.tup [(.tup [(.int (0)), (.bl false), (.int (0))])]), (.tup []), (.int (0)), (.tup [(.int (1)), (.int (0)), (.int (0))])])]), (.lst [(.tup [(.tup []), (.tup []), (.int (0)), (.tup [])]), (.tup [(.tup [(.tup [(.int (0)), (.bl false), (.int (0))])]), (.tup []), (.int (0)), (.tup [])]), (.tup [(.tup [(.tup [(.int (0)), (.bl false), (.int (1))])]), (.tup []), (.int (0)), (.tup [])]), (.tup [(.tup [(.tup [(.int (0)), (.bl false), (.int (2))])]), (.tup []), (.int (0)), (.tup [])]), (.tup [(.tup [(.tup [(.int (0)), (.bl false), (.int (3))])]), (.tup []), (.int (0)), (.tup [])]), (.tup [(.tup [(.tup [(.int (0)), (.bl false), (.int (0))])]), (.tup []), (.int (0)), (.tup [(.int (0)), (.int (0)), (.int (0))])]), (.tup [(.tup [(.tup [(.int (0)), (.bl false), (.int (1))])]), (.tup []), (.int (0)), (.tup [(.int (0)), (.int (0)), (.int (0))])]), (.tup [(.tup [(.tup [(.int (0)), (.bl false), (.int (2))])]), (.tup []), (.int (0)), (.tup [(.int (0)), (.int (0)), (.int (0))])]), (.tup [(.tup [(.tup [(.int (0)), (.bl false), (.int (3))])]), (.tup []), (.int (0)), (.tup [(.int (0)), (.int (0)), (.int (0))])])]), (.lst [(.tup [(.tup []), (.tup []), (.int (0)), (.tup [])]), (.tup [(.tup [(.tup [(.int (0)), (.bl false), (.int (0))])]), (.tup []), (.int (0)), (.tup [])]), (.tup [(.tup [(.tup [(.int (0)), (.bl false), (.int (1))])]), (.tup []), (.int (0)), (.tup [])]), (.tup [(.tup [(.tup [(.int (0)), (.bl false), (.int (2))])]), (.tup []), (.int (0)), (.tup [])]), (.tup [(.tup [(.tup [(.int (0)), (.bl false), (.int (3))])]), (.tup []), (.int (0)), (.tup [])]), (.tup [(.tup [(.tup [(.int (0)), (.bl false), (.int (0))])]), (.tup []), (.int (0)), (.tup [(.int (0)), (.int (0)), (.int (0))])]), (.tup [(.tup [(.tup [(.int (0)), (.bl false), (.int (1))])]), (.tup []), (.int (0)), (.tup [(.int (0)), (.int (0)), (.int (0))])]), (.tup [(.tup [(.tup [(.int (0)), (.bl false), (.int (2))])]), (.tup []), (.int (0)), (.tup [(.int (0)), (.int (0)), (.int (0))])]), (.tup [(.tup [(.tup [(.int (0)), (.bl false), (.int (3))])]), (.tup []), (.int (0)), (.tup [(.int (0)), (.int (0)), (.int (0))])]), (.tup [(.tup [(.tup [(.int (0)), (.bl false), (.int (1))])]), (.tup []), (.int (0)), (.tup [(.int (1)), (.int (0)), (.int (0))])]), (.tup [(.tup [(.tup [(.int (0)), (.bl false), (.int (2))])]), (.tup []), (.int (0)), (.tup [(.int (1)), (.int (0)), (.int (0))])]), (.tup [(.tup [(.tup [(.int (0)), (.bl false), (.int (3))])]), (.tup []), (.int (0)), (.tup [(.int (1)), (.int (0)), (.int (0))])])])]
def S19 : Sg := [none, some (.int (3)), some (.int (3)), some (.ins 1 [(.ins 0 [(.str "end"), (.int (0)), (.int (0)), (.int (0)), (.int (3))]), (.int (1)), (.int (0)), (.int (1)), (.bl false), (.tup [(.int (1)), (.int (3))])]), some (.loc 14), some (.int (2)), some (.int (3)), some (.tup [(.tup [(.tup [(.int (0)), (.bl false), (.int (3))])]), (.tup []), (.int (0)), (.tup [(.int (2)), (.int (0)), (.int (0))])]), some (.ins 1 [(.ins 0 [(.str "front"), (.int (0)), (.int (0)), (.int (0)), (.int (0))]), (.int (1)), (.int (0)), (.int (1)), (.bl false), (.tup [(.int (1)), (.int (1))])]), some (.ins 1 [(.ins 0 [(.str "front"), (.int (0)), (.int (1)), (.int (0)), (.int (0))]), (.int (1)), (.int (0)), (.int (1)), (.bl false), (.tup [(.int (2)), (.int (2))])]), some (.tup [(.tup [(.int (0)), (.bl false), (.int (0))])])]
def H19 : List O := [(.lst [(.tup [(.tup []), (.tup []), (.int (0)), (.tup [])]), (.tup [(.tup [(.tup [(.int (0)), (.bl false), (.int (0))])]), (.tup []), (.int (0)), (.tup [])]), (.tup [(.tup [(.tup [(.int (0)), (.bl false), (.int (0))])]), (.tup []), (.int (0)), (.tup [(.int (0)), (.int (0)), (.int (0))])])]), (.lst [(.tup [(.tup []), (.tup []), (.int (0)), (.tup [])]), (.tup [(.tup [(.tup [(.int (0)), (.bl false), (.int (0))])]), (.tup []), (.int (0)), (.tup [])]), (.tup [(.tup [(.tup [(.int (0)), (.bl false), (.int (0))])]), (.tup []), (.int (0)), (.tup [(.int (0)), (.int (0)), (.int (0))])]), (.tup [(.tup [(.tup [(.int (0)), (.bl false), (.int (0))])]), (.tup []), (.int (0)), (.tup [(.int (1)), (.int (0)), (.int (0))])])]), (.lst [(.tup [(.tup []), (.tup []), (.int (0)), (.tup [])]), (.tup [(.tup [(.tup [(.int (0)), (.bl false), (.int (0))])]), (.tup []), (.int (0)), (.tup [])]), (.tup [(.tup [(.tup [(.int (0)), (.bl false), (.int (0))])]), (.tup []), (.int (0)), (.tup [(.int (0)), (.int (0)), (.int (0))])]), (.tup [(.tup [(.tup [(.int (0)), (.bl false), (.int (0))])]), (.tup []), (.int (0)), (.tup [(.int (1)), (.int (0)), (.int (0))])]), (.tup [(.tup [(.tup [(.int (0)), (.bl false), (.int (0))])]), (.tup []), (.int (0)), (.tup [(.int (2)), (.int (0)), (.int (0))])])]), (.lst [(.tup [(.tup []), (.tup []), (.int (0)), (.tup [])]), (.tup [(.tup [(.tup [(.int (0)), (.bl false), (.int (0))])]), (.tup []), (.int (0)), (.tup [])]), (.tup [(.tup [(.tup [(.int (0)), (.bl false), (.int (0))])]), (.tup []), (.int (0)), (.tup [(.int (0)), (.int (0)), (.int (0))])]), (.tup [(.tup [(.tup [(.int (0)), (.bl false), (.int (0))])]), (.tup []), (.int (0)), (.tup [(.int (1)), (.int (0)), (.int (0))])])]), (.lst [(.tup [(.tup []), (.tup []), (.int (0)), (.tup [])]), (.tup [(.tup [(.tup [(.int (0)), (.bl false), (.int (0))])]), (.tup []), (.int (0)), (.tup [])]), (.tup [(.tup [(.tup [(.int (0)), (.bl false), (.int (1))])]), (.tup []), (.int (0)), (.tup [])]), (.tup [(.tup [(.tup [(.int (0)), (.bl false), (.int (0))])]), (.tup []), (.int (0)), (.tup [(.int (0)), (.int (0)), (.int (0))])]), (.tup [(.tup [(.tup [(.int (0)), (.bl false), (.int (1))])]), (.tup []), (.int (0)), (.tup [(.int (0)), (.int (0)), (.int (0))])])]), (.lst [(.tup [(.tup []), (.tup []), (.int (0)), (.tup [])]), (.tup [(.tup [(.tup [(.int (0)), (.bl false), (.int (0))])]), (.tup []), (.int (0)), (.tup [])]), (.tup [(.tup [(.tup [(.int (0)), (.bl false), (.int (1))])]), (.tup []), (.int (0)), (.tup [])]), (.tup [(.tup [(.tup [(.int (0)), (.bl false), (.int (0))])]), (.tup []), (.int (0)), (.tup [(.int (0)), (.int (0)), (.int (0))])]), (.tup [(.tup [(.tup [(.int (0)), (.bl false), (.int (1))])]), (.tup []), (.int (0)), (.tup [(.int (0)), (.int (0)), (.int (0))])]), (.tup [(.tup [(.tup [(.int (0)), (.bl false), (.int (1))])]), (.tup []), (.int (0)), (.tup [(.int (1)), (.int (0)), (.int (0))])])]), (.lst [(.tup [(.tup []), (.tup []), (.int (0)), (.tup [])]), (.tup [(.tup [(.tup [(.int (0)), (.bl false), (.int (0))])]), (.tup []), (.int (0)), (.tup [])]), (.tup [(.tup [(.tup [(.int (0)), (.bl false), (.int (1))])]), (.tup []), (.int (0)), (.tup [])]), (.tup [(.tup [(.tup [(.int (0)), (.bl false), (.int (0))])]), (.tup []), (.int (0)), (.tup [(.int (0)), (.int (0)), (.int (0))])]), (.tup [(.tup [(.tup [(.int (0)), (.bl false), (.int (1))])]), (.tup []), (.int (0)), (.tup [(.int (0)), (.int (0)), (.int (0))])]), (.tup [(.tup [(.tup [(.int (0)), (.bl false), (.int (1))])]), (.tup []), (.int (0)), (.tup [(.int (1)), (.int (0)), (.int (0))])]), (.tup [(.tup [(.tup [(.int (0)), (.bl false), (.int (1))])]), (.tup []), (.int (0)), (.tup [(.int (2)), (.int (0)), (.int (0))])])]), (.lst [(.tup [(.tup []), (.tup []), (.int (0)), (.tup [])]), (.tup [(.tup [(.tup [(.int (0)), (.bl false), (.int (0))])]), (.tup []), (.int (0)), (.tup [])]), (.tup [(.tup [(.tup [(.int (0)), (.bl false), (.int (0))])]), (.tup []), (.int (0)), (.tup [(.int (0)), (.int (0)), (.int (0))])]), (.tup [(.tup [(.tup [(.int (0)), (.bl false), (.int (0))])]), (.tup []), (.int (0)), (.tup [(.int (1)), (.int (0)), (.int (0))])])]), (.lst [(.tup [(.tup []), (.tup []), (.int (0)), (.tup [])]), (.tup [(.tup [(.tup [(.int (0)), (.bl false), (.int (0))])]), (.tup []), (.int (0)), (.tup [])]), (.tup [(.tup [(.tup [(.int (0)), (.bl false), (.int (1))])]), (.tup []), (.int (0)), (.tup [])]), (.tup [(.tup [(.tup [(.int (0)), (.bl false), (.int (2))])]), (.tup []), (.int (0)), (.tup [])]), (.tup [(.tup [(.tup [(.int (0)), (.bl false), (.int (0))])]), (.tup []), (.int (0)), (.tup [(.int (0)), (.int (0)), (.int (0))])]), (.tup [(.tup [(.tup [(.int (0)), (.bl false), (.int (1))])]), (.tup []), (.int (0)), (.tup [(.int (0)), (.int (0)), (.int (0))])]), (.tup [(.tup [(.tup [(.int (0)), (.bl false), (.int (2))])]), (.tup []), (.int (0)), (.tup [(.int (0)), (.int (0)), (.int (0))])])]), (.lst [(.tup [(.tup []), (.tup []), (.int (0)), (.tup [])]), (.tup [(.tup [(.tup [(.int (0)), (.bl false), (.int (0))])]), (.tup []), (.int (0)), (.tup [])]), (.tup [(.tup [(.tup [(.int (0)), (.bl false), (.int (1))])]), (.tup []), (.int (0)), (.tup [])]), (.tup [(.tup [(.tup [(.int (0)), (.bl false), (.int (2))])]), (.tup []), (.int (0)), (.tup [])]), (.tup [(.tup [(.tup [(.int (0)), (.bl false), (.int (0))])]), (.tup []), (.int (0)), (.tup [(.int (0)), (.int (0)), (.int (0))])]), (.tup [(.tup [(.tup [(.int (0)), (.bl false), (.int (1))])]), (.tup []), (.int (0)), (.tup [(.int (0)), (.int (0)), (.int (0))])]), (.tup [(.tup [(.tup [(.int (0)), (.bl false), (.int (2))])]), (.tup []), (.int (0)), (.tup [(.int (0)), (.int (0)), (.int (0))])]), (.tup [(.tup [(.tup [(.int (0)), (.bl false), (.int (1))])]), (.tup []), (.int (0)), (.tup [(.int (1)), (.int (0)), (.int (0))])]), (.tup [(.tup [(.tup [(.int (0)), (.bl false), (.int (2))])]), (.tup []), (.int (0)), (.tup [(.int (1)), (.int (0)), (.int (0))])])]), (.lst [(.tup [(.tup []), (.tup []), (.int (0)), (.tup [])]), (.tup [(.tup [(.tup [(.int (0)), (.bl false), (.int (0))])]), (.tup []), (.int (0)), (.tup [])]), (.tup [(.tup [(.tup [(.int (0)), (.bl false), (.int (1))])]), (.tup []), (.int (0)), (.tup [])]), (.tup [(.tup [(.tup [(.int (0)), (.bl false), (.int (2))])]), (.tup []), (.int (0)), (.tup [])]), (.tup [(.tup [(.tup [(.int (0)), (.bl false), (.int (0))])]), (.tup []), (.int (0)), (.tup [(.int (0)), (.int (0)), (.int (0))])]), (.tup [(.tup [(.tup [(.int (0)), (.bl false), (.int (1))])]), (.tup []), (.int (0)), (.tup [(.int (0)), (.int (0)), (.int (0))])]), (.tup [(.tup [(.tup [(.int (0)), (.bl false), (.int (2))])]), (.tup []), (.int (0)), (.tup [(.int (0)), (.int (0)), (.int (0))])]), (.tup [(.tup [(.tup [(.int (0)), (.bl false), (.int (1))])]), (.tup []), (.int (0)), (.tup [(.int (1)), (.int (0)), (.int (0))])]), (.tup [(.tup [(.tup [(.int (0)), (.bl false), (.int (2))])]), (.tup []), (.int (0)), (.tup [(.int (1)), (.int (0)), (.int (0))])]), (.tup [(.tup [(.tup [(.int (0)), (.bl false), (.int (2))])]), (.tup []), (.int (0)), (.tup [(.int (2)), (.int (0)), (.int (0))])])]), (.lst [(.tup [(.tup []), (.tup []), (.int (0)), (.tup [])]), (.tup [(.tup [(.tup [(.int (0)), (.bl false), (.int (0))])]), (.tup []), (.int (0)), (.tup [])]), (.tup [(.tup [(.tup [(.int (0)), (.bl false), (.int (0))])]), (.tup []), (.int (0)), (.tup [(.int (0)), (.int (0)), (.int (0))])]), (.tup [(.tup [(.tup [(.int (0)), (.bl false), (.int (0))])]), (.tup []), (.int (0)), (.tup [(.int (1)), (.int (0)), (.int (0))])])]), (.lst [(.tup [(.tup []), (.tup []), (.int (0)), (.tup [])]), (.tup [(.tup [(.tup [(.int (0)), (.bl false), (.int (0))])]), (.tup []), (.int (0)), (.tup [])]), (.tup [(.tup [(.tup [(.int (0)), (.bl false), (.int (1))])]), (.tup []), (.int (0)), (.tup [])]), (.tup [(.tup [(.tup [(.int (0)), (.bl false), (.int (2))])]), (.tup []), (.int (0)), (.tup [])]), (.tup [(.tup [(.tup [(.int (0)), (.bl false), (.int (3))])]), (.tup []), (.int (0)), (.tup [])]), (.tup [(.tup [(.tup [(.int (0)), (.bl false), (.int (0))])]), (.tup []), (.int (0)), (.tup [(.int (0)), (.int (0)), (.int (0))])]), (.tup [(.tup [(.tup [(.int (0)), (.bl false), (.int (1))])]), (.tup []), (.int (0)), (.tup [(.int (0)), (.int (0)), (.int (0))])]), (.tup [(.tup [(.tup [(.int (0)), (.bl false), (.int (2))])]), (.tup []), (.int (0)), (.tup [(.int (0)), (.int (0)), (.int (0))])]), (.tup [(.tup [(.tup [(.int (0)), (.bl false), (.int (3))])]), (.tup []), (.int (0)), (.tup [(.int (0)), (.int (0)), (.int (0))])])]), (.lst [(.tup [(.tup []), (.tup []), (.int (0)), (.tup [])]), (.tup [(.tup [(.tup [(.int (0)), (.bl false), (.int (0))])]), (.tup []), (.int (0)), (.tup [])]), (.tup [(.tup [(.tup [(.int (0)), (.bl false), (.int (1))])]), (.tup []), (.int (0)), (.tup [])]), (.tup [(.tup [(.tup [(.int (0)), (.bl false), (.int (2))])]), (.tup []), (.int (0)), (.tup [])]), (.tup [(.tup [(.tup [(.int (0)), (.bl false), (.int (3))])]), (.tup []), (.int (0)), (.tup [])]), (.tup [(.tup [(.tup [(.int (0)), (.bl false), (.int (0))])]), (.tup []), (.int (0)), (.tup [(.int (0)), (.int (0)), (.int (0))])]), (.tup [(.tup [(.tup [(.int (0)), (.bl false), (.int (1))])]), (.tup []), (.int (0)), (.tup [(.int (0)), (.int (0)), (.int (0))])]), (.tup [(.tup [(.tup [(.int (0)), (.bl false), (.int (2))])]), (.tup []), (.int (0)), (.tup [(.int (0)), (.int (0)), (.int (0))])]), (.tup [(.tup [(.tup [(.int (0)), (.bl false), (.int (3))])]), (.tup []), (.int (0)), (.tup [(.int (0)), (.int (0)), (.int (0))])]), (.tup [(.tup [(.tup [(.int (0)), (.bl false), (.int (1))])]), (.tup []), (.int (0)), (.tup [(.int (1)), (.int (0)), (.int (0))])]), (.tup [(.tup [(.tup [(.int (0)), (.bl false), (.int (2))])]), (.tup []), (.int (0)), (.tup [(.int (1)), (.int (0)), (.int (0))])]), (.tup [(.tup [(.tup [(.int (0)), (.bl false), (.int (3))])]), (.tup []), (.int (0)), (.tup [(.int (1)), (.int (0)), (.int (0))])])]), (.lst [(.tup [(.tup []), (.tup []), (.int (0)), (.tup [])]), (.tup [(.tup [(.tup [(.int (0)), (.bl false), (.int (0))])]), (.tup []), (.int (0)), (.tup [])]), (.tup [(.tup [(.tup [(.int (0)), (.bl false), (.int (1))])]), (.tup []), (.int (0)), (.tup [])]), (.tup [(.tup [(.tup [(.int (0)), (.bl false), (.int (2))])]), (.tup []), (.int (0)), (.tup [])]), (.tup [(.tup [(.tup [(.int (0)), (.bl false), (.int (3))])]), (.tup []), (.int (0)), (.tup [])]), (.tup [(.tup [(.tup [(.int (0)), (.bl false), (.int (0))])]), (.tup []), (.int (0)), (.tup [(.int (0)), (.int (0)), (.int (0))])]), (.tup [(.tup [(.tup [(.int (0)), (.bl false), (.int (1))])]), (.tup []), (.int (0)), (.tup [(.int (0)), (.int (0)), (.int (0))])]), (.tup [(.tup [(.tup [(.int (0)), (.bl false), (.int (2))])]), (.tup []), (.int (0)), (.tup [(.int (0)), (.int (0)), (.int (0))])]), (.tup [(.tup [(.tup [(.int (0)), (.bl false), (.int (3))])]), (.tup []), (.int (0)), (.tup [(.int (0)), (.int (0)), (.int (0))])]), (.tup [(.tup [(.tup [(.int (0)), (.bl false), (.int (1))])]), (.tup []), (.int (0)), (.tup [(.int (1)), (.int (0)), (.int (0))])]), (.tup [(.tup [(.tup [(.int (0)), (.bl false), (.int (2))])]), (.tup []), (.int (0)), (.tup [(.int (1)), (.int (0)), (.int (0))])]), (.tup [(.tup [(.tup [(.int (0)), (.bl false), (.int (3))])]), (.tup []), (.int (0)), (.tup [(.int (1)), (.int (0)), (.int (0))])]), (.tup [(.tup [(.tup [(.int (0)), (.bl false), (.int (2))])]), (.tup []), (.int (0)), (.tup [(.int (2)), (.int (0)), (.int (0))])]), (.tup [(.tup [(.tup [(.int (0)), (.bl false), (.int (3))])]), (.tup []), (.int (0)), (.tup [(.int (2)), (.int (0)), (.int (0))])])])]
def S20 : Sg := [none, some (.int (3)), some (.int (3)), some (.ins 1 [(.ins 0 [(.str "end"), (.int (0)), (.int (0)), (.int (0)), (.int (3))]), (.int (1)), (.int (0)), (.int (1)), (.bl false), (.tup [(.int (1)), (.int (3))])]), some (.loc 15), some (.int (2)), some (.int (3)), some (.tup [(.tup [(.tup [(.int (0)), (.bl false), (.int (3))])]), (.tup []), (.int (0)), (.tup [(.int (2)), (.int (0)), (.int (0))])]), some (.ins 1 [(.ins 0 [(.str "front"), (.int (0)), (.int (0)), (.int (0)), (.int (0))]), (.int (1)), (.int (0)), (.int (1)), (.bl false), (.tup [(.int (1)), (.int (1))])]), some (.ins 1 [(.ins 0 [(.str "front"), (.int (0)), (.int (1)), (.int (0)), (.int (0))]), (.int (1)), (.int (0)), (.int (1)), (.bl false), (.tup [(.int (2)), (.int (2))])]), some (.tup [(.tup [(.int (0)), (.bl false), (.int (0))])])]
def H20 : List O := [(.lst [(.tup [(.tup []), (.tup []), (.int (0)), (.tup [])]), (.tup [(.tup [(.tup [(.int (0)), (.bl false), (.int (0))])]), (.tup []), (.int (0)), (.tup [])]), (.tup [(.tup [(.tup [(.int (0)), (.bl false), (.int (0))])]), (.tup []), (.int (0)), (.tup [(.int (0)), (.int (0)), (.int (0))])])]), (.lst [(.tup [(.tup []), (.tup []), (.int (0)), (.tup [])]), (.tup [(.tup [(.tup [(.int (0)), (.bl false), (.int (0))])]), (.tup []), (.int (0)), (.tup [])]), (.tup [(.tup [(.tup [(.int (0)), (.bl false), (.int (0))])]), (.tup []), (.int (0)), (.tup [(.int (0)), (.int (0)), (.int (0))])]), (.tup [(.tup [(.tup [(.int (0)), (.bl false), (.int (0))])]), (.tup []), (.int (0)), (.tup [(.int (1)), (.int (0)), (.int (0))])])]), (.lst [(.tup [(.tup []), (.tup []), (.int (0)), (.tup [])]), (.tup [(.tup [(.tup [(.int (0)), (.bl false), (.int (0))])]), (.tup []), (.int (0)), (.tup [])]), (.tup [(.tup [(.tup [(.int (0)), (.bl false), (.int (0))])]), (.tup []), (.int (0)), (.tup [(.int (0)), (.int (0)), (.int (0))])]), (.tup [(.tup [(.tup [(.int (0)), (.bl false), (.int (0))])]), (.tup []), (.int (0)), (.tup [(.int (1)), (.int (0)), (.int (0))])]), (.tup [(.tup [(.tup [(.int (0)), (.bl false), (.int (0))])]), (.tup []), (.int (0)), (.tup [(.int (2)), (.int (0)), (.int (0))])])]), (.lst [(.tup [(.tup []), (.tup []), (.int (0)), (.tup [])]), (.tup [(.tup [(.tup [(.int (0)), (.bl false), (.int (0))])]), (.tup []), (.int (0)), (.tup [])]), (.tup [(.tup [(.tup [(.int (0)), (.bl false), (.int (0))])]), (.tup []), (.int (0)), (.tup [(.int (0)), (.int (0)), (.int (0))])]), (.tup [(.tup [(.tup [(.int (0)), (.bl false), (.int (0))])]), (.tup []), (.int (0)), (.tup [(.int (1)), (.int (0)), (.int (0))])])]), (.lst [(.tup [(.tup []), (.tup []), (.int (0)), (.tup [])]), (.tup [(.tup [(.tup [(.int (0)), (.bl false), (.int (0))])]), (.tup []), (.int (0)), (.tup [])]), (.tup [(.tup [(.tup [(.int (0)), (.bl false), (.int (1))])]), (.tup []), (.int (0)), (.tup [])]), (.tup [(.tup [(.tup [(.int (0)), (.bl false), (.int (0))])]), (.tup []), (.int (0)), (.tup [(.int (0)), (.int (0)), (.int (0))])]), (.tup [(.tup [(.tup [(.int (0)), (.bl false), (.int (1))])]), (.tup []), (.int (0)), (.tup [(.int (0)), (.int (0)), (.int (0))])])]), (.lst [(.tup [(.tup []), (.tup []), (.int (0)), (.tup [])]), (.tup [(.tup [(.tup [(.int (0)), (.bl false), (.int (0))])]), (.tup []), (.int (0)), (.tup [])]), (.tup [(.tup [(.tup [(.int (0)), (.bl false), (.int (1))])]), (.tup []), (.int (0)), (.tup [])]), (.tup [(.tup [(.tup [(.int (0)), (.bl false), (.int (0))])]), (.tup []), (.int (0)), (.tup [(.int (0)), (.int (0)), (.int (0))])]), (.tup [(.tup [(.tup [(.int (0)), (.bl false), (.int (1))])]), (.tup []), (.int (0)), (.tup [(.int (0)), (.int (0)), (.int (0))])]), (.tup [(.tup [(.tup [(.int (0)), (.bl false), (.int (1))])]), (.tup []), (.int (0)), (.tup [(.int (1)), (.int (0)), (.int (0))])])]), (.lst [(.tup [(.tup []), (.tup []), (.int (0)), (.tup [])]), (.tup [(.tup [(.tup [(.int (0)), (.bl false), (.int (0))])]), (.tup []), (.int (0)), (.tup [])]), (.tup [(.tup [(.tup [(.int (0)), (.bl false), (.int (1))])]), (.tup []), (.int (0)), (.tup [])]), (.tup [(.tup [(.tup [(.int (0)), (.bl false), (.int (0))])]), (.tup []), (.int (0)), (.tup [(.int (0)), (.int (0)), (.int (0))])]), (.tup [(.tup [(.tup [(.int (0)), (.bl false), (.int (1))])]), (.tup []), (.int (0)), (.tup [(.int (0)), (.int (0)), (.int (0))])]), (.tup [(.tup [(.tup [(.int (0)), (.bl false), (.int (1))])]), (.tup []), (.int (0)), (.tup [(.int (1)), (.int (0)), (.int (0))])]), (.tup [(.tup [(.tup [(.int (0)), (.bl false), (.int (1))])]), (.tup []), (.int (0)), (.tup [(.int (2)), (.int (0)), (.int (0))])])]), (.lst [(.tup [(.tup []), (.tup []), (.int (0)), (.tup [])]), (.tup [(.tup [(.tup [(.int (0)), (.bl false), (.int (0))])]), (.tup []), (.int (0)), (.tup [])]), (.tup [(.tup [(.tup [(.int (0)), (.bl false), (.int (0))])]), (.tup []), (.int (0)), (.tup [(.int (0)), (.int (0)), (.int (0))])]), (.tup [(.tup [(.tup [(.int (0)), (.bl false), (.int (0))])]), (.tup []), (.int (0)), (.tup [(.int (1)), (.int (0)), (.int (0))])])]), (.lst [(.tup [(.tup []), (.tup []), (.int (0)), (.tup [])]), (.tup [(.tup [(.tup [(.int (0)), (.bl false), (.int (0))])]), (.tup []), (.int (0)), (.tup [])]), (.tup [(.tup [(.tup [(.int (0)), (.bl false), (.int (1))])]), (.tup []), (.int (0)), (.tup [])]), (.tup [(.tup [(.tup [(.int (0)), (.bl false), (.int (2))])]), (.tup []), (.int (0)), (.tup [])]), (.tup [(.tup [(.tup [(.int (0)), (.bl false), (.int (0))])]), (.tup []), (.int (0)), (.tup [(.int (0)), (.int (0)), (.int (0))])]), (.tup [(.tup [(.tup [(.int (0)), (.bl false), (.int (1))])]), (.tup []), (.int (0)), (.tup [(.int (0)), (.int (0)), (.int (0))])]), (.tup [(.tup [(.tup [(.int (0)), (.bl false), (.int (2))])]), (.tup []), (.int (0)), (.tup [(.int (0)), (.int (0)), (.int (0))])])]), (.lst [(.tup [(.tup []), (.tup []), (.int (0)), (.tup [])]), (.tup [(.tup [(.tup [(.int (0)), (.bl false), (.int (0))])]), (.tup []), (.int (0)), (.tup [])]), (.tup [(.tup [(.tup [(.int (0)), (.bl false), (.int (1))])]), (.tup []), (.int (0)), (.tup [])]), (.tup [(.tup [(.tup [(.int (0)), (.bl false), (.int (2))])]), (.tup []), (.int (0)), (.tup [])]), (.tup [(.tup [(.tup [(.int (0)), (.bl false), (.int (0))])]), (.tup []), (.int (0)), (.tup [(.int (0)), (.int (0)), (.int (0))])]), (.tup [(.tup [(.tup [(.int (0)), (.bl false), (.int (1))])]), (.tup []), (.int (0)), (.tup [(.int (0)), (.int (0)), (.int (0))])]), (.tup [(.tup [(.tup [(.int (0)), (.bl false), (.int (2))])]), (.tup []), (.int (0)), (.tup [(.int (0)), (.int (0)), (.int (0))])]), (.tup [(.tup [(.tup [(.int (0)), (.bl false), (.int (1))])]), (.tup []), (.int (0)), (.tup [(.int (1)), (.int (0)), (.int (0))])]), (.tup [(.tup [(.tup [(.int (0)), (.bl false), (.int (2))])]), (.tup []), (.int (0)), (.tup [(.int (1)), (.int (0)), (.int (0))])])]), (.lst [(.tup [(.tup []), (.tup []), (.int (0)), (.tup [])]), (.tup [(.tup [(.tup [(.int (0)), (.bl false), (.int (0))])]), (.tup []), (.int (0)), (.tup [])]), (.tup [(.tup [(.tup [(.int (0)), (.bl false), (.int (1))])]), (.tup []), (.int (0)), (.tup [])]), (.tup [(.tup [(.tup [(.int (0)), (.bl false), (.int (2))])]), (.tup []), (.int (0)), (.tup [])]), (.tup [(.tup [(.tup [(.int (0)), (.bl false), (.int (0))])]), (.tup []), (.int (0)), (.tup [(.int (0)), (.int (0)), (.int (0))])]), (.tup [(.tup [(.tup [(.int (0)), (.bl false), (.int (1))])]), (.tup []), (.int (0)), (.tup [(.int (0)), (.int (0)), (.int (0))])]), (.tup [(.tup [(.tup [(.int (0)), (.bl false), (.int (2))])]), (.tup []), (.int (0)), (.tup [(.int (0)), (.int (0)), (.int (0))])]), (.tup [(.tup [(.tup [(.int (0)), (.bl false), (.int (1))])]), (.tup []), (.int (0)), (.tup [(.int (1)), (.int (0)), (.int (0))])]), (.tup [(.tup [(.tup [(.int (0)), (.bl false), (.int (2))])]), (.tup []), (.int (0)), (.tup [(.int (1)), (.int (0)), (.int (0))])]), (.tup [(.tup [(.tup [(.int (0)), (.bl false), (.int (2))])]), (.tup []), (.int (0)), (.tup [(.int (2)), (.int (0)), (.int (0))])])]), (.lst [(.tup [(.tup []), (.tup []), (.int (0)), (.tup [])]), (.tup [(.tup [(.tup [(.int (0)), (.bl false), (.int (0))])]), (.tup []), (.int (0)), (.tup [])]), (.tup [(.tup [(.tup [(.int (0)), (.bl false), (.int (0))])]), (.tup []), (.int (0)), (.tup [(.int (0)), (.int (0)), (.int (0))])]), (.tup [(.tup [(.tup [(.int (0)), (.bl false), (.int (0))])]), (.tup []), (.int (0)), (.tup [(.int (1)), (.int (0)), (.int (0))])])]), (.lst [(.tup [(.tup []), (.tup []), (.int (0)), (.tup [])]), (.tup [(.tup [(.tup [(.int (0)), (.bl false), (.int (0))])]), (.tup []), (.int (0)), (.tup [])]), (.tup [(.tup [(.tup [(.int (0)), (.bl false), (.int (1))])]), (.tup []), (.int (0)), (.tup [])]), (.tup [(.tup [(.tup [(.int (0)), (.bl false), (.int (2))])]), (.tup []), (.int (0)), (.tup [])]), (.tup [(.tup [(.tup [(.int (0)), (.bl false), (.int (3))])]), (.tup []), (.int (0)), (.tup [])]), (.tup [(.tup [(.tup [(.int (0)), (.bl false), (.int (0))])]), (.tup []), (.int (0)), (.tup [(.int (0)), (.int (0)), (.int (0))])]), (.tup [(.tup [(.tup [(.int (0)), (.bl false), (.int (1))])]), (.tup []), (.int (0)), (.tup [(.int (0)), (.int (0)), (.int (0))])]), (.tup [(.tup [(.tup [(.int (0)), (.bl false), (.int (2))])]), (.tup []), (.int (0)), (.tup [(.int (0)), (.int (0)), (.int (0))])]), (.tup [(.tup [(.tup [(.int (0)), (.bl false), (.int (3))])]), (.tup []), (.int (0)), (.tup [(.int (0)), (.int (0)), (.int (0))])])]), (.lst [(.tup [(.tup []), (.tup []), (.int (0)), (.tup [])]), (.tup [(.tup [(.tup [(.int (0)), (.bl false), (.int (0))])]), (.tup []), (.int (0)), (.tup [])]), (.tup [(.tup [(.tup [(.int (0)), (.bl false), (.int (1))])]), (.tup []), (.int (0)), (.tup [])]), (.tup [(.tup [(.tup [(.int (0)), (.bl false), (.int (2))])]), (.tup []), (.int (0)), (.tup [])]), (.tup [(.tup [(.tup [(.int (0)), (.bl false), (.int (3))])]), (.tup []), (.int (0)), (.tup [])]), (.tup [(.tup [(.tup [(.int (0)), (.bl false), (.int (0))])]), (.tup []), (.int (0)), (.tup [(.int (0)), (.int (0)), (.int (0))])]), (.tup [(.tup [(.tup [(.int (0)), (.bl false), (.int (1))])]), (.tup []), (.int (0)), (.tup [(.int (0)), (.int (0)), (.int (0))])]), (.tup [(.tup [(.tup [(.int (0)), (.bl false), (.int (2))])]), (.tup []), (.int (0)), (.tup [(.int (0)), (.int (0)), (.int (0))])]), (.tup [(.tup [(.tup [(.int (0)), (.bl false), (.int (3))])]), (.tup []), (.int (0)), (.tup [(.int (0)), (.int (0)), (.int (0))])]), (.tup [(.tup [(.tup [(.int (0)), (.bl false), (.int (1))])]), (.tup []), (.int (0)), (.tup [(.int (1)), (.int (0)), (.int (0))])]), (.tup [(.tup [(.tup [(.int (0)), (.bl false), (.int (2))])]), (.tup []), (.int (0)), (.tup [(.int (1)), (.int (0)), (.int (0))])]), (.tup [(.tup [(.tup [(.int (0)), (.bl false), (.int (3))])]), (.tup []), (.int (0)), (.tup [(.int (1)), (.int (0)), (.int (0))])])]), (.lst [(.tup [(.tup []), (.tup []), (.int (0)), (.tup [])]), (.tup [(.tup [(.tup [(.int (0)), (.bl false), (.int (0))])]), (.tup []), (.int (0)), (.tup [])]), (.tup [(.tup [(.tup [(.int (0)), (.bl false), (.int (1))])]), (.tup []), (.int (0)), (.tup [])]), (.tup [(.tup [(.tup [(.int (0)), (.bl false), (.int (2))])]), (.tup []), (.int (0)), (.tup [])]), (.tup [(.tup [(.tup [(.int (0)), (.bl false), (.int (3))])]), (.tup []), (.int (0)), (.tup [])]), (.tup [(.tup [(.tup [(.int (0)), (.bl false), (.int (0))])]), (.tup []), (.int (0)), (.tup [(.int (0)), (.int (0)), (.int (0))])]), (.tup [(.tup [(.tup [(.int (0)), (.bl false), (.int (1))])]), (.tup []), (.int (0)), (.tup [(.int (0)), (.int (0)), (.int (0))])]), (.tup [(.tup [(.tup [(.int (0)), (.bl false), (.int (2))])]), (.tup []), (.int (0)), (.tup [(.int (0)), (.int (0)), (.int (0))])]), (.tup [(.tup [(.tup [(.int (0)), (.bl false), (.int (3))])]), (.tup []), (.int (0)), (.tup [(.int (0)), (.int (0)), (.int (0))])]), (.tup [(.tup [(.tup [(.int (0)), (.bl false), (.int (1))])]), (.tup []), (.int (0)), (.tup [(.int (1)), (.int (0)), (.int (0))])]), (.tup [(.tup [(.tup [(.int (0)), (.bl false), (.int (2))])]), (.tup []), (.int (0)), (.tup [(.int (1)), (.int (0)), (.int (0))])]), (.tup [(.tup [(.tup [(.int (0)), (.bl false), (.int (3))])]), (.tup []), (.int (0)), (.tup [(.int (1)), (.int (0)), (.int (0))])]), (.tup [(.tup [(.tup [(.int (0)), (.bl false), (.int (2))])]), (.tup []), (.int (0)), (.tup [(.int (2)), (.int (0)), (.int (0))])]), (.tup [(.tup [(.tup [(.int (0)), (.bl false), (.int (3))])]), (.tup []), (.int (0)), (.tup [(.int (2)), (.int (0)), (.int (0))])])]), (.lst [(.tup [(.tup []), (.tup []), (.int (0)), (.tup [])]), (.tup [(.tup [(.tup [(.int (0)), (.bl false), (.int (0))])]), (.tup []), (.int (0)), (.tup [])]), (.tup [(.tup [(.tup [(.int (0)), (.bl false), (.int (0))])]), (.tup []), (.int (0)), (.tup [(.int (0)), (.int (0)), (.int (0))])]), (.tup [(.tup [(.tup [(.int (0)), (.bl false), (.int (0))])]), (.tup []), (.int (0)), (.tup [(.int (1)), (.int (0)), (.int (0))])])])]
set_option maxHeartbeats 0 in
theorem inn0_1 : M.bind (gSet 2 (.int 1) S1) bodyI H1 = .ret (.nx S2, H2) := by kernel_rfl
set_option maxHeartbeats 0 in
theorem inn0_2 : M.bind (gSet 2 (.int 2) S2) bodyI H2 = .ret (.nx S3, H3) := by kernel_rfl
set_option maxHeartbeats 0 in
theorem inn0_3 : M.bind (gSet 2 (.int 3) S3) bodyI H3 = .ret (.nx S4, H4) := by kernel_rfl
set_option maxHeartbeats 0 in
theorem tai0 : tailO S4 H4 = .ret (.nx S5, H5) := by kernel_rfl
def SI0 : Nat → Sg × List O
  | 0 => (S1, H1)
  | 1 => (S2, H2)
  | 2 => (S3, H3)
  | _ => (S4, H4)
theorem turn0 : M.bind (gSet 1 (.int 0) S0) bodyO H0 = .ret (.nx S5, H5) := by
  obtain ⟨q, e, z⟩ := forI (s := S1) (h := H1) (h1 := H1) (fi := fun s => M.bind ((fC (.int 1)) s) fun x => M.bind ((fC (.int 4)) s) fun y => srcR2 x y) (g := gSet 2) (fb := bodyI) (ys := [1, 2, 3]) (e := fun _ (i : Nat) => .int (i : Nat))
    (fun i z h => z = (SI0 i).1 ∧ h = (SI0 i).2) (fun q => q = (.nx S4, H4)) (sr13 _ _) ⟨rfl, rfl⟩ (by
      rintro i y s h hy ⟨rfl, rfl⟩
      match i, hy with
      | 0, hy => cases hy; exact ⟨.nx S2, H2, inn0_1, rfl, rfl⟩
      | 1, hy => cases hy; exact ⟨.nx S3, H3, inn0_2, rfl, rfl⟩
      | 2, hy => cases hy; exact ⟨.nx S4, H4, inn0_3, rfl, rfl⟩
      | i + 3, hy => simp at hy) (by
      rintro s h ⟨rfl, rfl⟩
      rfl)
  subst z
  have e0 : gSet 1 (.int 0) S0 H0 = .ret (S1, H1) := by kernel_rfl
  rw [M.bind_ap, e0, Tr.bind_ret]
  unfold bodyO
  show sSeq _ _ S1 H1 = _
  unfold sSeq
  rw [M.bind_ap, e, Tr.bind_ret]
  exact tai0
set_option maxHeartbeats 0 in
theorem inn1_1 : M.bind (gSet 2 (.int 1) S6) bodyI H6 = .ret (.nx S7, H7) := by kernel_rfl
set_option maxHeartbeats 0 in
theorem inn1_2 : M.bind (gSet 2 (.int 2) S7) bodyI H7 = .ret (.nx S8, H8) := by kernel_rfl
set_option maxHeartbeats 0 in
theorem inn1_3 : M.bind (gSet 2 (.int 3) S8) bodyI H8 = .ret (.nx S9, H9) := by kernel_rfl
set_option maxHeartbeats 0 in
theorem tai1 : tailO S9 H9 = .ret (.nx S10, H10) := by kernel_rfl
def SI1 : Nat → Sg × List O
  | 0 => (S6, H6)
  | 1 => (S7, H7)
  | 2 => (S8, H8)
  | _ => (S9, H9)
theorem turn1 : M.bind (gSet 1 (.int 1) S5) bodyO H5 = .ret (.nx S10, H10) := by
  obtain ⟨q, e, z⟩ := forI (s := S6) (h := H6) (h1 := H6) (fi := fun s => M.bind ((fC (.int 1)) s) fun x => M.bind ((fC (.int 4)) s) fun y => srcR2 x y) (g := gSet 2) (fb := bodyI) (ys := [1, 2, 3]) (e := fun _ (i : Nat) => .int (i : Nat))
    (fun i z h => z = (SI1 i).1 ∧ h = (SI1 i).2) (fun q => q = (.nx S9, H9)) (sr13 _ _) ⟨rfl, rfl⟩ (by
      rintro i y s h hy ⟨rfl, rfl⟩
      match i, hy with
      | 0, hy => cases hy; exact ⟨.nx S7, H7, inn1_1, rfl, rfl⟩
      | 1, hy => cases hy; exact ⟨.nx S8, H8, inn1_2, rfl, rfl⟩
      | 2, hy => cases hy; exact ⟨.nx S9, H9, inn1_3, rfl, rfl⟩
      | i + 3, hy => simp at hy) (by
      rintro s h ⟨rfl, rfl⟩
      rfl)
  subst z
  have e0 : gSet 1 (.int 1) S5 H5 = .ret (S6, H6) := by kernel_rfl
  rw [M.bind_ap, e0, Tr.bind_ret]
  unfold bodyO
  show sSeq _ _ S6 H6 = _
  unfold sSeq
  rw [M.bind_ap, e, Tr.bind_ret]
  exact tai1
set_option maxHeartbeats 0 in
theorem inn2_1 : M.bind (gSet 2 (.int 1) S11) bodyI H11 = .ret (.nx S12, H12) := by kernel_rfl
set_option maxHeartbeats 0 in
theorem inn2_2 : M.bind (gSet 2 (.int 2) S12) bodyI H12 = .ret (.nx S13, H13) := by kernel_rfl
set_option maxHeartbeats 0 in
theorem inn2_3 : M.bind (gSet 2 (.int 3) S13) bodyI H13 = .ret (.nx S14, H14) := by kernel_rfl
set_option maxHeartbeats 0 in
theorem tai2 : tailO S14 H14 = .ret (.nx S15, H15) := by kernel_rfl
def SI2 : Nat → Sg × List O
  | 0 => (S11, H11)
  | 1 => (S12, H12)
  | 2 => (S13, H13)
  | _ => (S14, H14)
theorem turn2 : M.bind (gSet 1 (.int 2) S10) bodyO H10 = .ret (.nx S15, H15) := by
  obtain ⟨q, e, z⟩ := forI (s := S11) (h := H11) (h1 := H11) (fi := fun s => M.bind ((fC (.int 1)) s) fun x => M.bind ((fC (.int 4)) s) fun y => srcR2 x y) (g := gSet 2) (fb := bodyI) (ys := [1, 2, 3]) (e := fun _ (i : Nat) => .int (i : Nat))
    (fun i z h => z = (SI2 i).1 ∧ h = (SI2 i).2) (fun q => q = (.nx S14, H14)) (sr13 _ _) ⟨rfl, rfl⟩ (by
      rintro i y s h hy ⟨rfl, rfl⟩
      match i, hy with
      | 0, hy => cases hy; exact ⟨.nx S12, H12, inn2_1, rfl, rfl⟩
      | 1, hy => cases hy; exact ⟨.nx S13, H13, inn2_2, rfl, rfl⟩
      | 2, hy => cases hy; exact ⟨.nx S14, H14, inn2_3, rfl, rfl⟩
      | i + 3, hy => simp at hy) (by
      rintro s h ⟨rfl, rfl⟩
      rfl)
  subst z
  have e0 : gSet 1 (.int 2) S10 H10 = .ret (S11, H11) := by kernel_rfl
  rw [M.bind_ap, e0, Tr.bind_ret]
  unfold bodyO
  show sSeq _ _ S11 H11 = _
  unfold sSeq
  rw [M.bind_ap, e, Tr.bind_ret]
  exact tai2
set_option maxHeartbeats 0 in
theorem inn3_1 : M.bind (gSet 2 (.int 1) S16) bodyI H16 = .ret (.nx S17, H17) := by kernel_rfl
set_option maxHeartbeats 0 in
theorem inn3_2 : M.bind (gSet 2 (.int 2) S17) bodyI H17 = .ret (.nx S18, H18) := by kernel_rfl
set_option maxHeartbeats 0 in
theorem inn3_3 : M.bind (gSet 2 (.int 3) S18) bodyI H18 = .ret (.nx S19, H19) := by kernel_rfl
set_option maxHeartbeats 0 in
theorem tai3 : tailO S19 H19 = .ret (.nx S20, H20) := by kernel_rfl
def SI3 : Nat → Sg × List O
  | 0 => (S16, H16)
  | 1 => (S17, H17)
  | 2 => (S18, H18)
  | _ => (S19, H19)
theorem turn3 : M.bind (gSet 1 (.int 3) S15) bodyO H15 = .ret (.nx S20, H20) := by
  obtain ⟨q, e, z⟩ := forI (s := S16) (h := H16) (h1 := H16) (fi := fun s => M.bind ((fC (.int 1)) s) fun x => M.bind ((fC (.int 4)) s) fun y => srcR2 x y) (g := gSet 2) (fb := bodyI) (ys := [1, 2, 3]) (e := fun _ (i : Nat) => .int (i : Nat))
    (fun i z h => z = (SI3 i).1 ∧ h = (SI3 i).2) (fun q => q = (.nx S19, H19)) (sr13 _ _) ⟨rfl, rfl⟩ (by
      rintro i y s h hy ⟨rfl, rfl⟩
      match i, hy with
      | 0, hy => cases hy; exact ⟨.nx S17, H17, inn3_1, rfl, rfl⟩
      | 1, hy => cases hy; exact ⟨.nx S18, H18, inn3_2, rfl, rfl⟩
      | 2, hy => cases hy; exact ⟨.nx S19, H19, inn3_3, rfl, rfl⟩
      | i + 3, hy => simp at hy) (by
      rintro s h ⟨rfl, rfl⟩
      rfl)
  subst z
  have e0 : gSet 1 (.int 3) S15 H15 = .ret (S16, H16) := by kernel_rfl
  rw [M.bind_ap, e0, Tr.bind_ret]
  unfold bodyO
  show sSeq _ _ S16 H16 = _
  unfold sSeq
  rw [M.bind_ap, e, Tr.bind_ret]
  exact tai3
def SS : Nat → Sg × List O
  | 0 => (S0, H0)
  | 1 => (S5, H5)
  | 2 => (S10, H10)
  | 3 => (S15, H15)
  | _ => (S20, H20)
theorem chk_i : (blawI (List.replicate 11 none) []).allB isRT = true := by
  obtain ⟨q, e, z⟩ := forI (s := S0) (h := H0) (h1 := H0) (fi := fun s => M.bind ((fC (.int 4)) s) srcR1) (g := gSet 1) (fb := bodyO) (ys := List.range 4) (e := fun _ (i : Nat) => .int (i : Nat))
    (fun i z h => z = (SS i).1 ∧ h = (SS i).2) (fun q => q = (.nx S20, H20)) (sr_rng rfl rfl (by decide)) ⟨rfl, rfl⟩ (by
      rintro i y s h hy ⟨rfl, rfl⟩
      match i, hy with
      | 0, hy => cases hy; exact ⟨.nx S5, H5, turn0, rfl, rfl⟩
      | 1, hy => cases hy; exact ⟨.nx S10, H10, turn1, rfl, rfl⟩
      | 2, hy => cases hy; exact ⟨.nx S15, H15, turn2, rfl, rfl⟩
      | 3, hy => cases hy; exact ⟨.nx S20, H20, turn3, rfl, rfl⟩
      | i + 4, hy => simp at hy) (by
      rintro s h ⟨rfl, rfl⟩
      rfl)
  subst z
  have e2 : blawI S0 H0 = .ret (.rt (.bl true), H20) := by
    unfold blawI sSeq
    rw [M.bind_ap, e]
    rfl
  show (blawI S0 H0).allB isRT = true
  rw [e2]
  rfl
theorem chk_law : (blaw (List.replicate 11 none) []).allB isRT = true := by rw [blaw_i]; exact chk_i
end K27

namespace K27
open PySem PySem.Spec PyProof.Rows L2 Dr Ev Und
theorem scpgoes : FnScope ["self"] ["self"] (defScope (inClass (topS 22) 5)) := ⟨rfl, rfl, rfl, by decide +kernel, rfl, by decide +kernel, by decide +kernel⟩
theorem scpguard : FnScope ["self"] ["self"] (defScope (inClass (topS 15) 5)) := ⟨rfl, rfl, rfl, by decide +kernel, rfl, by decide +kernel, by decide +kernel⟩
theorem scphold : FnScope ["self"] ["self"] (defScope (inClass (topS 15) 3)) := ⟨rfl, rfl, rfl, by decide +kernel, rfl, by decide +kernel, by decide +kernel⟩
theorem scplag : FnScope ["self"] ["self"] (defScope (inClass (topS 22) 6)) := ⟨rfl, rfl, rfl, by decide +kernel, rfl, by decide +kernel, by decide +kernel⟩
theorem scpmany : FnScope ["self"] ["self"] (defScope (inClass (topS 22) 4)) := ⟨rfl, rfl, rfl, by decide +kernel, rfl, by decide +kernel, by decide +kernel⟩
theorem scppins : FnScope ["self"] ["self"] (defScope (inClass (topS 15) 4)) := ⟨rfl, rfl, rfl, by decide +kernel, rfl, by decide +kernel, by decide +kernel⟩
theorem scproom : FnScope ["self"] ["self"] (defScope (inClass (topS 22) 2)) := ⟨rfl, rfl, rfl, by decide +kernel, rfl, by decide +kernel, by decide +kernel⟩
theorem scprule : FnScope ["self"] ["self"] (defScope (inClass (topS 22) 1)) := ⟨rfl, rfl, rfl, by decide +kernel, rfl, by decide +kernel, by decide +kernel⟩
theorem scpstill : FnScope ["self"] ["self"] (defScope (inClass (topS 15) 2)) := ⟨rfl, rfl, rfl, by decide +kernel, rfl, by decide +kernel, by decide +kernel⟩
theorem scptop : FnScope ["self"] ["self"] (defScope (inClass (topS 22) 3)) := ⟨rfl, rfl, rfl, by decide +kernel, rfl, by decide +kernel, by decide +kernel⟩
theorem scpway : FnScope ["self"] ["self"] (defScope (inClass (topS 15) 1)) := ⟨rfl, rfl, rfl, by decide +kernel, rfl, by decide +kernel, by decide +kernel⟩
def cOf (P : Program) (w : World) (a0 a1 tmsteps_of : Addr) (dw : Option (Addr × Addr × Addr)) : Ct := ⟨2, dw, fun k => match k with | 0 => a0 | _ => a1, fun k => match k with | 0 => fl0 | 1 => fl1 | _ => [], 0, fun _ => a0, fun _ => [], P, w, [], EF, [(tmsteps_of, (("steps_of" : Str) ++ ".<locals>.") ++ "<lambda>")], Kp.nil _ _⟩
instance {P : Program} {w : World} {a0 a1 tmsteps_of : Addr} {dw : Option (Addr × Addr × Addr)} : Plain (cOf P w a0 a1 tmsteps_of dw) := ⟨fun _ _ => trivial, fun _ _ _ _ h => h⟩
abbrev slaw : Stmt := topS 56
abbrev nlaw : List Str := ["script", "guard", "most", "house_here", "due", "age", "stood", "last", "free", "held", "item"]
theorem sclaw : FnScope nlaw ["script"] (defScope slaw) := ⟨rfl, rfl, rfl, by decide +kernel, rfl, by decide +kernel, by decide +kernel⟩
variable {P : Program} {w : World} {K : PySem.W.Frag} {mg : Str → Option Value} {base : Heap}
set_option maxHeartbeats 0 in
theorem ok_law {a0 a1 tmsteps_of f : Addr} {fd : FuncData} (F : Fun K "law" "law" slaw f fd) (T : ∀ dw, Tx P w K mg base (cOf P w a0 a1 tmsteps_of dw)) (I_House : ∀ dw, OwnI P w K mg base (cOf P w a0 a1 tmsteps_of dw) 4 "House" 1 IHouse) (I_Rule : ∀ dw, OwnI P w K mg base (cOf P w a0 a1 tmsteps_of dw) 3 "Rule" 0 IRule) (G_standings_of : ∀ dw, Own P w K mg base (cOf P w a0 a1 tmsteps_of dw) 16 "standings_of" Fstandings_of) (G_first_standing : ∀ dw, Own P w K mg base (cOf P w a0 a1 tmsteps_of dw) 3 "first_standing" Ffirst_standing) (G_course_to : ∀ dw, Own P w K mg base (cOf P w a0 a1 tmsteps_of dw) 16 "course_to" Fcourse_to) : Gd.FnG P w K mg base 17 f fd ["script"] (spLawT K tmsteps_of) := by
  refine Gd.okG F sclaw (fun vs H Q E h => ?_) (fun cdv A outer s H vs Q E gd hr h => ?_)
  · obtain ⟨a, ns, rfl, _⟩ := h
    rfl
  · obtain ⟨a, ns, rfl, hS, hlen, hT, k⟩ := h
    have nd := sclaw.nd
    have body : ESs (cOf P w a0 a1 tmsteps_of none) (cxOf CX0 P w K mg base nlaw "law" (defScope slaw) f cdv A outer s H E).nox (defBody slaw) blaw := (ess_cons (es_for [1] (ei_range (T none).m_range ev_int) (eg_set 1 nd) (ess_cons (es_for [2] (ei_range2 (T none).m_range ev_int ev_int) (eg_set 2 nd) (ess_cons (es_set 3 nd (ev_mk (T none).k1 (I_House none).at (hr.mono (by decide)) pass_EF (ea_cons (ev_mk (T none).k0 (I_Rule none).at (hr.mono (by decide)) pass_EF (ea_cons ev_str (ea_cons ev_int (ea_cons ev_int (ea_cons ev_int (ea_cons (ev_var 1) ea_nil)))))) (ea_cons ev_int (ea_cons ev_int (ea_cons ev_int (ea_cons ev_bl (ea_cons (ev_tup (ea_cons ev_int (ea_cons (ev_var 2) ea_nil))) ea_nil))))))))
      (ess_cons (es_set 4 nd (ev_op opr_add (op_addAll mk_lst) (ev_lstF mk_fz (ea_cons (ev_tup (ea_cons (ev_tup ea_nil) (ea_cons (ev_tup ea_nil) (ea_cons ev_int (ea_cons (ev_tup ea_nil) ea_nil))))) ea_nil)) (ev_lc [("stood", 6)] nd (blkOk_by (N := nlaw) (sc := defScope slaw) (by decide +kernel)) (ei_range (T none).m_range (ev_op opr_add (op_addAll mk_fz) (ev_var 1) ev_int)) (fun _ _ _ _ _ _ => (eg_set 6 nd)) (fun _ _ _ _ _ _ => ets_nil) (fun _ _ _ _ _ _ => (ev_tup (ea_cons (ev_tup (ea_cons (ev_tup (ea_cons ev_int (ea_cons ev_bl (ea_cons (ev_var 6) ea_nil)))) ea_nil)) (ea_cons (ev_tup ea_nil) (ea_cons ev_int (ea_cons (ev_tup ea_nil) ea_nil)))))))))
      (ess_cons (es_for [5] (ei_range (T none).m_range (ev_var 2)) (eg_set 5 nd) (ess_one (es_for [6] (ei_range2 (T none).m_range (ev_blt (call_min2 rfl) op_2I (T none).m_min (by decide +kernel) (ea_cons (ev_var 5) (ea_cons (ev_var 1) ea_nil))) (ev_op opr_add (op_addAll mk_fz) (ev_var 1) ev_int)) (eg_set 6 nd) (ess_one (es_expr (ev_meth PySem.F.plainAttrs_list PySem.F.slot_list_append PySem.F.type_list_append mt_append op_append (ev_var 4) (ea_cons (ev_tup (ea_cons (ev_tup (ea_cons (ev_tup (ea_cons ev_int (ea_cons ev_bl (ea_cons (ev_var 6) ea_nil)))) ea_nil)) (ea_cons (ev_tup ea_nil) (ea_cons ev_int (ea_cons (ev_tup (ea_cons (ev_var 5) (ea_cons ev_int (ea_cons ev_int ea_nil)))) ea_nil))))) ea_nil)))) (hp := PassesOwn.never))) (hp := PassesOwn.never))
      (ess_cons (es_if (ew_t (ew_or (et_cmp (op_neD hr.units) cmp_ne (ev_pure (G_standings_of none).at (hr.mono (by decide)) pass_EF (ea_cons (ev_var 3) ea_nil)) (ev_blt (cr_sortD (units66 hr)) (op_sortedD mk_fz) (T none).m_sorted (by decide +kernel) (ea_cons (ev_var 4) ea_nil))) (ew_or1 (et_cmp (opr_notIn (units65 hr)) cmp_notInA (ev_pure (G_first_standing none).at (hr.mono (by decide)) pass_EF (ea_cons (ev_var 3) ea_nil)) (ev_var 4))))) (ess_one (es_ret ev_bl)) ess_nil)
      (ess_cons (es_set 7 nd (ev_tup (ea_cons (ev_tup (ea_cons (ev_tup (ea_cons ev_int (ea_cons ev_bl (ea_cons (ev_var 1) ea_nil)))) ea_nil)) (ea_cons (ev_tup ea_nil) (ea_cons ev_int (ea_cons (ev_tup (ea_cons (ev_op op_sub op_I0 (ev_var 2) ev_int) (ea_cons ev_int (ea_cons ev_int ea_nil)))) ea_nil))))))
      (ess_cons (es_if (et_cmp (op_neD hr.units) cmp_ne (ev_blt callr_len op_lenA (T none).m_len PySem.boot_len (ea_cons (ev_pure (G_course_to none).at (hr.mono (by decide)) pass_EF (ea_cons (ev_var 3) (ea_cons (ev_var 7) ea_nil))) ea_nil)) (ev_blt (cr_max rfl) op_maxL (T none).m_max (by decide +kernel) (ea_cons (ev_lstF mk_fz (ea_cons (ev_op opr_add (op_addAll mk_fz) (ev_var 1) ev_int) (ea_cons (ev_var 2) ea_nil))) ea_nil))) (ess_one (es_ret ev_bl)) ess_nil)
      (ess_one (es_if (et_cmp op_notN cmp_notN (ev_pure (G_course_to none).at (hr.mono (by decide)) pass_EF (ea_cons (ev_var 3) (ea_cons (ev_tup (ea_cons (ev_tup (ea_cons (ev_tup (ea_cons ev_int (ea_cons ev_bl (ea_cons ev_int ea_nil)))) ea_nil)) (ea_cons (ev_tup ea_nil) (ea_cons ev_int (ea_cons (ev_tup (ea_cons ev_int (ea_cons ev_int (ea_cons (ev_op op_sub op_I0 ev_int ev_int) ea_nil)))) ea_nil))))) ea_nil))) ev_non) (ess_one (es_ret ev_bl)) ess_nil)))))))) (hp := PassesOwn.never))
      (ess_cons (es_set 8 nd (ev_mk (T none).k1 (I_House none).at (hr.mono (by decide)) pass_EF (ea_cons (ev_mk (T none).k0 (I_Rule none).at (hr.mono (by decide)) pass_EF (ea_cons ev_str (ea_cons ev_int (ea_cons ev_int (ea_cons ev_int (ea_cons ev_int ea_nil)))))) (ea_cons ev_int (ea_cons ev_int (ea_cons ev_int (ea_cons ev_bl (ea_cons (ev_tup (ea_cons ev_int (ea_cons ev_int ea_nil))) ea_nil))))))))
      (ess_cons (es_if (et_cmp (op_neD hr.units) cmp_ne (ev_pure (G_standings_of none).at (hr.mono (by decide)) pass_EF (ea_cons (ev_var 8) ea_nil)) (ev_lstF mk_fz (ea_cons (ev_tup (ea_cons (ev_tup ea_nil) (ea_cons (ev_tup ea_nil) (ea_cons ev_int (ea_cons (ev_tup ea_nil) ea_nil))))) (ea_cons (ev_tup (ea_cons (ev_tup (ea_cons (ev_tup (ea_cons ev_int (ea_cons ev_bl (ea_cons ev_int ea_nil)))) ea_nil)) (ea_cons (ev_tup ea_nil) (ea_cons ev_int (ea_cons (ev_tup ea_nil) ea_nil))))) (ea_cons (ev_tup (ea_cons (ev_tup (ea_cons (ev_tup (ea_cons ev_int (ea_cons ev_bl (ea_cons ev_int ea_nil)))) ea_nil)) (ea_cons (ev_tup ea_nil) (ea_cons ev_int (ea_cons (ev_tup (ea_cons ev_int (ea_cons ev_int (ea_cons ev_int ea_nil)))) ea_nil))))) ea_nil))))) (ess_one (es_ret ev_bl)) ess_nil)
      (ess_cons (es_set 9 nd (ev_mk (T none).k1 (I_House none).at (hr.mono (by decide)) pass_EF (ea_cons (ev_mk (T none).k0 (I_Rule none).at (hr.mono (by decide)) pass_EF (ea_cons ev_str (ea_cons ev_int (ea_cons ev_int (ea_cons ev_int (ea_cons ev_int ea_nil)))))) (ea_cons ev_int (ea_cons ev_int (ea_cons ev_int (ea_cons ev_bl (ea_cons (ev_tup (ea_cons ev_int (ea_cons ev_int ea_nil))) ea_nil))))))))
      (ess_cons (es_set 10 nd (ev_tup (ea_cons (ev_tup (ea_cons ev_int (ea_cons ev_bl (ea_cons ev_int ea_nil)))) ea_nil)))
      (ess_cons (es_set 4 nd (ev_lstF mk_lst (ea_cons (ev_tup (ea_cons (ev_tup ea_nil) (ea_cons (ev_tup ea_nil) (ea_cons ev_int (ea_cons (ev_tup ea_nil) ea_nil))))) (ea_cons (ev_tup (ea_cons (ev_var 10) (ea_cons (ev_tup ea_nil) (ea_cons ev_int (ea_cons (ev_tup ea_nil) ea_nil))))) (ea_cons (ev_tup (ea_cons (ev_var 10) (ea_cons (ev_tup ea_nil) (ea_cons ev_int (ea_cons (ev_tup (ea_cons ev_int (ea_cons ev_int (ea_cons ev_int ea_nil)))) ea_nil))))) (ea_cons (ev_tup (ea_cons (ev_var 10) (ea_cons (ev_tup ea_nil) (ea_cons ev_int (ea_cons (ev_tup (ea_cons ev_int (ea_cons ev_int (ea_cons ev_int ea_nil)))) ea_nil))))) ea_nil))))))
      (ess_one (es_if (et_cmp (op_neD hr.units) cmp_ne (ev_pure (G_standings_of none).at (hr.mono (by decide)) pass_EF (ea_cons (ev_var 9) ea_nil)) (ev_blt (cr_sortD (units66 hr)) (op_sortedD mk_fz) (T none).m_sorted (by decide +kernel) (ea_cons (ev_op opr_add (op_addAll mk_fz) (ev_var 4) (ev_lstF mk_fz (ea_cons (ev_tup (ea_cons (ev_var 10) (ea_cons (ev_tup (ea_cons ev_int ea_nil)) (ea_cons ev_int (ea_cons (ev_tup (ea_cons ev_int (ea_cons ev_int (ea_cons ev_int ea_nil)))) ea_nil))))) ea_nil))) ea_nil))) (ess_one (es_ret ev_bl)) ess_nil)))))))) (hp := PassesOwn.never))
      (ess_one (es_ret ev_bl)))
    exact law_runs (n := 11) body (Ok.none rfl rfl (fun p hp => by rw [List.mem_singleton.mp hp]; exact LamX.TabS.nil hT) trivial) rfl chk_law k
-- Gd.okG
theorem kit_self {K : PySem.W.Frag} {t : Value} : PySem.W.kitOne K t t = some true := by
  unfold PySem.W.kitOne
  rw [if_pos (beq_self_eq_true t)]
theorem kit_ref {K : PySem.W.Frag} {C : Addr} {t : Value} {b : Bool} (h1 : PySem.W.isClsIn K C = true) (h2 : PySem.W.typeIn K (.ref C) = some (.type "type")) (h3 : PySem.W.subIn K t (.ref C) = some b) (h4 : (t == Value.ref C) = false) : PySem.W.kitOne K t (.ref C) = some b := by
  have h1' : (PySem.W.clsIn K C).isSome = true := h1
  unfold PySem.W.kitOne
  rw [if_neg (by rw [h4]; decide)]
  show (if ((PySem.W.clsIn K C).isSome && PySem.W.typeIn K (.ref C) == some (.type "type")) = true then PySem.W.subIn K t (.ref C) else none) = some b
  rw [h1', h2, if_pos (by rfl)]
  exact h3
set_option maxHeartbeats 0 in
theorem all_mk {l : PySem.W.OpenLaw} {w : World} {K : PySem.W.Frag} {h : Heap} {mg : Str → Option Value} {fa C0 C1 cmsteps_of tmsteps_of flaw fdis_number fdis_number_within fdis_lag fdis_one_of tdcheck_house fdcheck_house fdwalked fdfirst_standing fdchanges_at fdchanged fdmust_draw fdundrawn_rows fdplace_by_way fdplace_for fddrawn_rows fdstood_on fdfollowed fdsettled_at fdhands_at fdoutcome_of fdhandled fdsteps_at fdsteps_of fdstandings_of fdare_ranks fdis_look fdis_item fdis_standing fdcheck_standing fdlast_ticks fdcourse_by fdcourse_to fi1 fi0 ppgoes fpgoes ppguard fpguard pphold fphold pplag fplag ppmany fpmany pppins fppins pproom fproom pprule fprule ppstill fpstill pptop fptop ppway fpway fqNOTHING fqTAP fqWAYS : Addr}
    {oclaw kVlaw dclaw pmlaw cdlaw ctlaw ocdis_number kVdis_number dcdis_number pmdis_number cddis_number ctdis_number ocdis_number_within kVdis_number_within dcdis_number_within pmdis_number_within cddis_number_within ctdis_number_within ocdis_lag kVdis_lag dcdis_lag pmdis_lag cddis_lag ctdis_lag ocdis_one_of kVdis_one_of dcdis_one_of pmdis_one_of cddis_one_of ctdis_one_of ocdcheck_house kVdcheck_house dcdcheck_house pmdcheck_house cddcheck_house ctdcheck_house ocdwalked kVdwalked dcdwalked pmdwalked cddwalked ctdwalked ocdfirst_standing kVdfirst_standing dcdfirst_standing pmdfirst_standing cddfirst_standing ctdfirst_standing ocdchanges_at kVdchanges_at dcdchanges_at pmdchanges_at cddchanges_at ctdchanges_at ocdchanged kVdchanged dcdchanged pmdchanged cddchanged ctdchanged ocdmust_draw kVdmust_draw dcdmust_draw pmdmust_draw cddmust_draw ctdmust_draw ocdundrawn_rows kVdundrawn_rows dcdundrawn_rows pmdundrawn_rows cddundrawn_rows ctdundrawn_rows ocdplace_by_way kVdplace_by_way dcdplace_by_way pmdplace_by_way cddplace_by_way ctdplace_by_way ocdplace_for kVdplace_for dcdplace_for pmdplace_for cddplace_for ctdplace_for ocddrawn_rows kVddrawn_rows dcddrawn_rows pmddrawn_rows cdddrawn_rows ctddrawn_rows ocdstood_on kVdstood_on dcdstood_on pmdstood_on cddstood_on ctdstood_on ocdfollowed kVdfollowed dcdfollowed pmdfollowed cddfollowed ctdfollowed ocdsettled_at kVdsettled_at dcdsettled_at pmdsettled_at cddsettled_at ctdsettled_at ocdhands_at kVdhands_at dcdhands_at pmdhands_at cddhands_at ctdhands_at ocdoutcome_of kVdoutcome_of dcdoutcome_of pmdoutcome_of cddoutcome_of ctdoutcome_of ocdhandled kVdhandled dcdhandled pmdhandled cddhandled ctdhandled ocdsteps_at kVdsteps_at dcdsteps_at pmdsteps_at cddsteps_at ctdsteps_at ocdsteps_of kVdsteps_of dcdsteps_of pmdsteps_of ctdsteps_of ecmsteps_of ocdstandings_of kVdstandings_of dcdstandings_of pmdstandings_of cddstandings_of ctdstandings_of ocdare_ranks kVdare_ranks dcdare_ranks pmdare_ranks cddare_ranks ctdare_ranks ocdis_look kVdis_look dcdis_look pmdis_look cddis_look ctdis_look ocdis_item kVdis_item dcdis_item pmdis_item cddis_item ctdis_item ocdis_standing kVdis_standing dcdis_standing pmdis_standing cddis_standing ctdis_standing ocdcheck_standing kVdcheck_standing dcdcheck_standing pmdcheck_standing cddcheck_standing ctdcheck_standing ocdlast_ticks kVdlast_ticks dcdlast_ticks pmdlast_ticks cddlast_ticks ctdlast_ticks ocdcourse_by kVdcourse_by dcdcourse_by pmdcourse_by cddcourse_by ctdcourse_by ocdcourse_to kVdcourse_to dcdcourse_to pmdcourse_to cddcourse_to ctdcourse_to oci1 kVi1 dci1 pmi1 cdi1 cti1 oci0 kVi0 dci0 pmi0 cdi0 cti0 ocpgoes kVpgoes dcpgoes pmpgoes cdpgoes ctpgoes ocpguard kVpguard dcpguard pmpguard cdpguard ctpguard ocphold kVphold dcphold pmphold cdphold ctphold ocplag kVplag dcplag pmplag cdplag ctplag ocpmany kVpmany dcpmany pmpmany cdpmany ctpmany ocppins kVppins dcppins pmppins cdppins ctppins ocproom kVproom dcproom pmproom cdproom ctproom ocprule kVprule dcprule pmprule cdprule ctprule ocpstill kVpstill dcpstill pmpstill cdpstill ctpstill ocptop kVptop dcptop pmptop cdptop ctptop ocpway kVpway dcpway pmpway cdpway ctpway : Value} {odlaw anlaw oddis_number andis_number oddis_number_within andis_number_within oddis_lag andis_lag oddis_one_of andis_one_of oddcheck_house andcheck_house odtdcheck_house oddwalked andwalked oddfirst_standing andfirst_standing oddchanges_at andchanges_at oddchanged andchanged oddmust_draw andmust_draw oddundrawn_rows andundrawn_rows oddplace_by_way andplace_by_way oddplace_for andplace_for odddrawn_rows anddrawn_rows oddstood_on andstood_on oddfollowed andfollowed oddsettled_at andsettled_at oddhands_at andhands_at oddoutcome_of andoutcome_of oddhandled andhandled oddsteps_at andsteps_at oddsteps_of andsteps_of dcmsteps_of oddstandings_of andstandings_of oddare_ranks andare_ranks oddis_look andis_look oddis_item andis_item oddis_standing andis_standing oddcheck_standing andcheck_standing oddlast_ticks andlast_ticks oddcourse_by andcourse_by oddcourse_to andcourse_to odi1 ani1 odi0 ani0 odpgoes anpgoes odpguard anpguard odphold anphold odplag anplag odpmany anpmany odppins anppins odproom anproom odprule anprule odpstill anpstill odptop anptop odpway anpway odqNOTHING odqTAP odqWAYS : Option Addr} {sllaw sldis_number sldis_number_within sldis_lag sldis_one_of sldcheck_house sltdcheck_house sldwalked sldfirst_standing sldchanges_at sldchanged sldmust_draw sldundrawn_rows sldplace_by_way sldplace_for slddrawn_rows sldstood_on sldfollowed sldsettled_at sldhands_at sldoutcome_of sldhandled sldsteps_at sldsteps_of scmsteps_of sldstandings_of sldare_ranks sldis_look sldis_item sldis_standing sldcheck_standing sldlast_ticks sldcourse_by sldcourse_to sli1 sli0 slpgoes slpguard slphold slplag slpmany slppins slproom slprule slpstill slptop slpway slqNOTHING slqTAP slqWAYS : Array (Option Value)} {repgoes repguard rephold replag repmany reppins reproom reprule repstill reptop repway : List Value} {udcheck_house0 uqGREATEST_LAG uqGREATEST_RANK uqMOST_PINS uqMOST_ROOM uqMOST_STANDINGS uqMOST_TICKS uqMOST_WAITING uqNOTHING0 uqTAP0 uqWAYS0 uqWAYS1 uqWAYS2 : Tok} {ndcheck_house nqNOTHING nqTAP nqWAYS : Nat}
    {vcmsteps_of : Array Value}
    (X : K.In h) (G : h.Ns mainGlobals mg) (hfa : mg "law" = some (.ref fa)) (tabs : ∀ (c P : Addr), PySem.W.tabIn K "steps_of" = some (c, P) → PySem.W.CodeHd h c P ∧ h.get? P = some { cls := .none, data := .fields #[] })
    (aC0 : PySem.W.nsIn K mainGlobals "Rule" = some (some (.ref C0)))
    (aC1 : PySem.W.nsIn K mainGlobals "House" = some (some (.ref C1)))
    (alaw : PySem.W.nsIn K mainGlobals "law" = some (some (.ref flaw)))
    (llaw : K.lookup flaw = some ⟨oclaw, odlaw, .func (PySem.W.fnOf "law" "law" (defArgs (slaw)) (defBody (slaw)) (defScope (slaw)) .none kVlaw dclaw pmlaw anlaw cdlaw ctlaw), sllaw⟩)
    (claw : PySem.W.codeIn K cdlaw "law" = true)
    (klaw : PySem.W.keepIn K (.ref flaw) = true)
    (adis_number : PySem.W.nsIn K mainGlobals "is_number" = some (some (.ref fdis_number)))
    (ldis_number : K.lookup fdis_number = some ⟨ocdis_number, oddis_number, .func (PySem.W.fnOf "is_number" "is_number" (defArgs (sis_number)) (defBody (sis_number)) (defScope (sis_number)) .none kVdis_number dcdis_number pmdis_number andis_number cddis_number ctdis_number), sldis_number⟩)
    (cdis_number : PySem.W.codeIn K cddis_number "is_number" = true)
    (kdis_number : PySem.W.keepIn K (.ref fdis_number) = true)
    (adis_number_within : PySem.W.nsIn K mainGlobals "is_number_within" = some (some (.ref fdis_number_within)))
    (ldis_number_within : K.lookup fdis_number_within = some ⟨ocdis_number_within, oddis_number_within, .func (PySem.W.fnOf "is_number_within" "is_number_within" (defArgs (sis_number_within)) (defBody (sis_number_within)) (defScope (sis_number_within)) .none kVdis_number_within dcdis_number_within pmdis_number_within andis_number_within cddis_number_within ctdis_number_within), sldis_number_within⟩)
    (cdis_number_within : PySem.W.codeIn K cddis_number_within "is_number_within" = true)
    (kdis_number_within : PySem.W.keepIn K (.ref fdis_number_within) = true)
    (adis_lag : PySem.W.nsIn K mainGlobals "is_lag" = some (some (.ref fdis_lag)))
    (ldis_lag : K.lookup fdis_lag = some ⟨ocdis_lag, oddis_lag, .func (PySem.W.fnOf "is_lag" "is_lag" (defArgs (sis_lag)) (defBody (sis_lag)) (defScope (sis_lag)) .none kVdis_lag dcdis_lag pmdis_lag andis_lag cddis_lag ctdis_lag), sldis_lag⟩)
    (cdis_lag : PySem.W.codeIn K cddis_lag "is_lag" = true)
    (kdis_lag : PySem.W.keepIn K (.ref fdis_lag) = true)
    (adis_one_of : PySem.W.nsIn K mainGlobals "is_one_of" = some (some (.ref fdis_one_of)))
    (ldis_one_of : K.lookup fdis_one_of = some ⟨ocdis_one_of, oddis_one_of, .func (PySem.W.fnOf "is_one_of" "is_one_of" (defArgs (sis_one_of)) (defBody (sis_one_of)) (defScope (sis_one_of)) .none kVdis_one_of dcdis_one_of pmdis_one_of andis_one_of cddis_one_of ctdis_one_of), sldis_one_of⟩)
    (cdis_one_of : PySem.W.codeIn K cddis_one_of "is_one_of" = true)
    (kdis_one_of : PySem.W.keepIn K (.ref fdis_one_of) = true)
    (adcheck_house : PySem.W.nsIn K mainGlobals "check_house" = some (some (.ref fdcheck_house)))
    (ldcheck_house : K.lookup fdcheck_house = some ⟨ocdcheck_house, oddcheck_house, .func (PySem.W.fnOf "check_house" "check_house" (defArgs (scheck_house)) (defBody (scheck_house)) (defScope (scheck_house)) (.ref tdcheck_house) kVdcheck_house dcdcheck_house pmdcheck_house andcheck_house cddcheck_house ctdcheck_house), sldcheck_house⟩)
    (cdcheck_house : PySem.W.codeIn K cddcheck_house "check_house" = true)
    (kdcheck_house : PySem.W.keepIn K (.ref fdcheck_house) = true)
    (tdcheck_house : K.lookup tdcheck_house = some ⟨.type "tuple", odtdcheck_house, .seq #[.str "house" udcheck_house0] ndcheck_house, sltdcheck_house⟩)
    (adwalked : PySem.W.nsIn K mainGlobals "walked" = some (some (.ref fdwalked)))
    (ldwalked : K.lookup fdwalked = some ⟨ocdwalked, oddwalked, .func (PySem.W.fnOf "walked" "walked" (defArgs (swalked)) (defBody (swalked)) (defScope (swalked)) .none kVdwalked dcdwalked pmdwalked andwalked cddwalked ctdwalked), sldwalked⟩)
    (cdwalked : PySem.W.codeIn K cddwalked "walked" = true)
    (kdwalked : PySem.W.keepIn K (.ref fdwalked) = true)
    (adfirst_standing : PySem.W.nsIn K mainGlobals "first_standing" = some (some (.ref fdfirst_standing)))
    (ldfirst_standing : K.lookup fdfirst_standing = some ⟨ocdfirst_standing, oddfirst_standing, .func (PySem.W.fnOf "first_standing" "first_standing" (defArgs (sfirst_standing)) (defBody (sfirst_standing)) (defScope (sfirst_standing)) .none kVdfirst_standing dcdfirst_standing pmdfirst_standing andfirst_standing cddfirst_standing ctdfirst_standing), sldfirst_standing⟩)
    (cdfirst_standing : PySem.W.codeIn K cddfirst_standing "first_standing" = true)
    (kdfirst_standing : PySem.W.keepIn K (.ref fdfirst_standing) = true)
    (adchanges_at : PySem.W.nsIn K mainGlobals "changes_at" = some (some (.ref fdchanges_at)))
    (ldchanges_at : K.lookup fdchanges_at = some ⟨ocdchanges_at, oddchanges_at, .func (PySem.W.fnOf "changes_at" "changes_at" (defArgs (schanges_at)) (defBody (schanges_at)) (defScope (schanges_at)) .none kVdchanges_at dcdchanges_at pmdchanges_at andchanges_at cddchanges_at ctdchanges_at), sldchanges_at⟩)
    (cdchanges_at : PySem.W.codeIn K cddchanges_at "changes_at" = true)
    (kdchanges_at : PySem.W.keepIn K (.ref fdchanges_at) = true)
    (adchanged : PySem.W.nsIn K mainGlobals "changed" = some (some (.ref fdchanged)))
    (ldchanged : K.lookup fdchanged = some ⟨ocdchanged, oddchanged, .func (PySem.W.fnOf "changed" "changed" (defArgs (schanged)) (defBody (schanged)) (defScope (schanged)) .none kVdchanged dcdchanged pmdchanged andchanged cddchanged ctdchanged), sldchanged⟩)
    (cdchanged : PySem.W.codeIn K cddchanged "changed" = true)
    (kdchanged : PySem.W.keepIn K (.ref fdchanged) = true)
    (admust_draw : PySem.W.nsIn K mainGlobals "must_draw" = some (some (.ref fdmust_draw)))
    (ldmust_draw : K.lookup fdmust_draw = some ⟨ocdmust_draw, oddmust_draw, .func (PySem.W.fnOf "must_draw" "must_draw" (defArgs (smust_draw)) (defBody (smust_draw)) (defScope (smust_draw)) .none kVdmust_draw dcdmust_draw pmdmust_draw andmust_draw cddmust_draw ctdmust_draw), sldmust_draw⟩)
    (cdmust_draw : PySem.W.codeIn K cddmust_draw "must_draw" = true)
    (kdmust_draw : PySem.W.keepIn K (.ref fdmust_draw) = true)
    (adundrawn_rows : PySem.W.nsIn K mainGlobals "undrawn_rows" = some (some (.ref fdundrawn_rows)))
    (ldundrawn_rows : K.lookup fdundrawn_rows = some ⟨ocdundrawn_rows, oddundrawn_rows, .func (PySem.W.fnOf "undrawn_rows" "undrawn_rows" (defArgs (sundrawn_rows)) (defBody (sundrawn_rows)) (defScope (sundrawn_rows)) .none kVdundrawn_rows dcdundrawn_rows pmdundrawn_rows andundrawn_rows cddundrawn_rows ctdundrawn_rows), sldundrawn_rows⟩)
    (cdundrawn_rows : PySem.W.codeIn K cddundrawn_rows "undrawn_rows" = true)
    (kdundrawn_rows : PySem.W.keepIn K (.ref fdundrawn_rows) = true)
    (adplace_by_way : PySem.W.nsIn K mainGlobals "place_by_way" = some (some (.ref fdplace_by_way)))
    (ldplace_by_way : K.lookup fdplace_by_way = some ⟨ocdplace_by_way, oddplace_by_way, .func (PySem.W.fnOf "place_by_way" "place_by_way" (defArgs (splace_by_way)) (defBody (splace_by_way)) (defScope (splace_by_way)) .none kVdplace_by_way dcdplace_by_way pmdplace_by_way andplace_by_way cddplace_by_way ctdplace_by_way), sldplace_by_way⟩)
    (cdplace_by_way : PySem.W.codeIn K cddplace_by_way "place_by_way" = true)
    (kdplace_by_way : PySem.W.keepIn K (.ref fdplace_by_way) = true)
    (adplace_for : PySem.W.nsIn K mainGlobals "place_for" = some (some (.ref fdplace_for)))
    (ldplace_for : K.lookup fdplace_for = some ⟨ocdplace_for, oddplace_for, .func (PySem.W.fnOf "place_for" "place_for" (defArgs (splace_for)) (defBody (splace_for)) (defScope (splace_for)) .none kVdplace_for dcdplace_for pmdplace_for andplace_for cddplace_for ctdplace_for), sldplace_for⟩)
    (cdplace_for : PySem.W.codeIn K cddplace_for "place_for" = true)
    (kdplace_for : PySem.W.keepIn K (.ref fdplace_for) = true)
    (addrawn_rows : PySem.W.nsIn K mainGlobals "drawn_rows" = some (some (.ref fddrawn_rows)))
    (lddrawn_rows : K.lookup fddrawn_rows = some ⟨ocddrawn_rows, odddrawn_rows, .func (PySem.W.fnOf "drawn_rows" "drawn_rows" (defArgs (sdrawn_rows)) (defBody (sdrawn_rows)) (defScope (sdrawn_rows)) .none kVddrawn_rows dcddrawn_rows pmddrawn_rows anddrawn_rows cdddrawn_rows ctddrawn_rows), slddrawn_rows⟩)
    (cddrawn_rows : PySem.W.codeIn K cdddrawn_rows "drawn_rows" = true)
    (kddrawn_rows : PySem.W.keepIn K (.ref fddrawn_rows) = true)
    (adstood_on : PySem.W.nsIn K mainGlobals "stood_on" = some (some (.ref fdstood_on)))
    (ldstood_on : K.lookup fdstood_on = some ⟨ocdstood_on, oddstood_on, .func (PySem.W.fnOf "stood_on" "stood_on" (defArgs (sstood_on)) (defBody (sstood_on)) (defScope (sstood_on)) .none kVdstood_on dcdstood_on pmdstood_on andstood_on cddstood_on ctdstood_on), sldstood_on⟩)
    (cdstood_on : PySem.W.codeIn K cddstood_on "stood_on" = true)
    (kdstood_on : PySem.W.keepIn K (.ref fdstood_on) = true)
    (adfollowed : PySem.W.nsIn K mainGlobals "followed" = some (some (.ref fdfollowed)))
    (ldfollowed : K.lookup fdfollowed = some ⟨ocdfollowed, oddfollowed, .func (PySem.W.fnOf "followed" "followed" (defArgs (sfollowed)) (defBody (sfollowed)) (defScope (sfollowed)) .none kVdfollowed dcdfollowed pmdfollowed andfollowed cddfollowed ctdfollowed), sldfollowed⟩)
    (cdfollowed : PySem.W.codeIn K cddfollowed "followed" = true)
    (kdfollowed : PySem.W.keepIn K (.ref fdfollowed) = true)
    (adsettled_at : PySem.W.nsIn K mainGlobals "settled_at" = some (some (.ref fdsettled_at)))
    (ldsettled_at : K.lookup fdsettled_at = some ⟨ocdsettled_at, oddsettled_at, .func (PySem.W.fnOf "settled_at" "settled_at" (defArgs (ssettled_at)) (defBody (ssettled_at)) (defScope (ssettled_at)) .none kVdsettled_at dcdsettled_at pmdsettled_at andsettled_at cddsettled_at ctdsettled_at), sldsettled_at⟩)
    (cdsettled_at : PySem.W.codeIn K cddsettled_at "settled_at" = true)
    (kdsettled_at : PySem.W.keepIn K (.ref fdsettled_at) = true)
    (adhands_at : PySem.W.nsIn K mainGlobals "hands_at" = some (some (.ref fdhands_at)))
    (ldhands_at : K.lookup fdhands_at = some ⟨ocdhands_at, oddhands_at, .func (PySem.W.fnOf "hands_at" "hands_at" (defArgs (shands_at)) (defBody (shands_at)) (defScope (shands_at)) .none kVdhands_at dcdhands_at pmdhands_at andhands_at cddhands_at ctdhands_at), sldhands_at⟩)
    (cdhands_at : PySem.W.codeIn K cddhands_at "hands_at" = true)
    (kdhands_at : PySem.W.keepIn K (.ref fdhands_at) = true)
    (adoutcome_of : PySem.W.nsIn K mainGlobals "outcome_of" = some (some (.ref fdoutcome_of)))
    (ldoutcome_of : K.lookup fdoutcome_of = some ⟨ocdoutcome_of, oddoutcome_of, .func (PySem.W.fnOf "outcome_of" "outcome_of" (defArgs (soutcome_of)) (defBody (soutcome_of)) (defScope (soutcome_of)) .none kVdoutcome_of dcdoutcome_of pmdoutcome_of andoutcome_of cddoutcome_of ctdoutcome_of), sldoutcome_of⟩)
    (cdoutcome_of : PySem.W.codeIn K cddoutcome_of "outcome_of" = true)
    (kdoutcome_of : PySem.W.keepIn K (.ref fdoutcome_of) = true)
    (adhandled : PySem.W.nsIn K mainGlobals "handled" = some (some (.ref fdhandled)))
    (ldhandled : K.lookup fdhandled = some ⟨ocdhandled, oddhandled, .func (PySem.W.fnOf "handled" "handled" (defArgs (shandled)) (defBody (shandled)) (defScope (shandled)) .none kVdhandled dcdhandled pmdhandled andhandled cddhandled ctdhandled), sldhandled⟩)
    (cdhandled : PySem.W.codeIn K cddhandled "handled" = true)
    (kdhandled : PySem.W.keepIn K (.ref fdhandled) = true)
    (adsteps_at : PySem.W.nsIn K mainGlobals "steps_at" = some (some (.ref fdsteps_at)))
    (ldsteps_at : K.lookup fdsteps_at = some ⟨ocdsteps_at, oddsteps_at, .func (PySem.W.fnOf "steps_at" "steps_at" (defArgs (ssteps_at)) (defBody (ssteps_at)) (defScope (ssteps_at)) .none kVdsteps_at dcdsteps_at pmdsteps_at andsteps_at cddsteps_at ctdsteps_at), sldsteps_at⟩)
    (cdsteps_at : PySem.W.codeIn K cddsteps_at "steps_at" = true)
    (kdsteps_at : PySem.W.keepIn K (.ref fdsteps_at) = true)
    (adsteps_of : PySem.W.nsIn K mainGlobals "steps_of" = some (some (.ref fdsteps_of)))
    (ldsteps_of : K.lookup fdsteps_of = some ⟨ocdsteps_of, oddsteps_of, .func (PySem.W.fnOf "steps_of" "steps_of" (defArgs (ssteps_of)) (defBody (ssteps_of)) (defScope (ssteps_of)) .none kVdsteps_of dcdsteps_of pmdsteps_of andsteps_of (.ref cmsteps_of) ctdsteps_of), sldsteps_of⟩)
    (cdsteps_of : PySem.W.codeIn K (.ref cmsteps_of) "steps_of" = true)
    (kdsteps_of : PySem.W.keepIn K (.ref fdsteps_of) = true)
    (lcmsteps_of : K.lookup cmsteps_of = some ⟨ecmsteps_of, dcmsteps_of, .fields vcmsteps_of, scmsteps_of⟩)
    (vtmsteps_of : (vcmsteps_of[11]? : Option Value) = some (.ref tmsteps_of))
    (ntmsteps_of : K.lookup tmsteps_of = none)
    (adstandings_of : PySem.W.nsIn K mainGlobals "standings_of" = some (some (.ref fdstandings_of)))
    (ldstandings_of : K.lookup fdstandings_of = some ⟨ocdstandings_of, oddstandings_of, .func (PySem.W.fnOf "standings_of" "standings_of" (defArgs (sstandings_of)) (defBody (sstandings_of)) (defScope (sstandings_of)) .none kVdstandings_of dcdstandings_of pmdstandings_of andstandings_of cddstandings_of ctdstandings_of), sldstandings_of⟩)
    (cdstandings_of : PySem.W.codeIn K cddstandings_of "standings_of" = true)
    (kdstandings_of : PySem.W.keepIn K (.ref fdstandings_of) = true)
    (adare_ranks : PySem.W.nsIn K mainGlobals "are_ranks" = some (some (.ref fdare_ranks)))
    (ldare_ranks : K.lookup fdare_ranks = some ⟨ocdare_ranks, oddare_ranks, .func (PySem.W.fnOf "are_ranks" "are_ranks" (defArgs (sare_ranks)) (defBody (sare_ranks)) (defScope (sare_ranks)) .none kVdare_ranks dcdare_ranks pmdare_ranks andare_ranks cddare_ranks ctdare_ranks), sldare_ranks⟩)
    (cdare_ranks : PySem.W.codeIn K cddare_ranks "are_ranks" = true)
    (kdare_ranks : PySem.W.keepIn K (.ref fdare_ranks) = true)
    (adis_look : PySem.W.nsIn K mainGlobals "is_look" = some (some (.ref fdis_look)))
    (ldis_look : K.lookup fdis_look = some ⟨ocdis_look, oddis_look, .func (PySem.W.fnOf "is_look" "is_look" (defArgs (sis_look)) (defBody (sis_look)) (defScope (sis_look)) .none kVdis_look dcdis_look pmdis_look andis_look cddis_look ctdis_look), sldis_look⟩)
    (cdis_look : PySem.W.codeIn K cddis_look "is_look" = true)
    (kdis_look : PySem.W.keepIn K (.ref fdis_look) = true)
    (adis_item : PySem.W.nsIn K mainGlobals "is_item" = some (some (.ref fdis_item)))
    (ldis_item : K.lookup fdis_item = some ⟨ocdis_item, oddis_item, .func (PySem.W.fnOf "is_item" "is_item" (defArgs (sis_item)) (defBody (sis_item)) (defScope (sis_item)) .none kVdis_item dcdis_item pmdis_item andis_item cddis_item ctdis_item), sldis_item⟩)
    (cdis_item : PySem.W.codeIn K cddis_item "is_item" = true)
    (kdis_item : PySem.W.keepIn K (.ref fdis_item) = true)
    (adis_standing : PySem.W.nsIn K mainGlobals "is_standing" = some (some (.ref fdis_standing)))
    (ldis_standing : K.lookup fdis_standing = some ⟨ocdis_standing, oddis_standing, .func (PySem.W.fnOf "is_standing" "is_standing" (defArgs (sis_standing)) (defBody (sis_standing)) (defScope (sis_standing)) .none kVdis_standing dcdis_standing pmdis_standing andis_standing cddis_standing ctdis_standing), sldis_standing⟩)
    (cdis_standing : PySem.W.codeIn K cddis_standing "is_standing" = true)
    (kdis_standing : PySem.W.keepIn K (.ref fdis_standing) = true)
    (adcheck_standing : PySem.W.nsIn K mainGlobals "check_standing" = some (some (.ref fdcheck_standing)))
    (ldcheck_standing : K.lookup fdcheck_standing = some ⟨ocdcheck_standing, oddcheck_standing, .func (PySem.W.fnOf "check_standing" "check_standing" (defArgs (scheck_standing)) (defBody (scheck_standing)) (defScope (scheck_standing)) .none kVdcheck_standing dcdcheck_standing pmdcheck_standing andcheck_standing cddcheck_standing ctdcheck_standing), sldcheck_standing⟩)
    (cdcheck_standing : PySem.W.codeIn K cddcheck_standing "check_standing" = true)
    (kdcheck_standing : PySem.W.keepIn K (.ref fdcheck_standing) = true)
    (adlast_ticks : PySem.W.nsIn K mainGlobals "last_ticks" = some (some (.ref fdlast_ticks)))
    (ldlast_ticks : K.lookup fdlast_ticks = some ⟨ocdlast_ticks, oddlast_ticks, .func (PySem.W.fnOf "last_ticks" "last_ticks" (defArgs (slast_ticks)) (defBody (slast_ticks)) (defScope (slast_ticks)) .none kVdlast_ticks dcdlast_ticks pmdlast_ticks andlast_ticks cddlast_ticks ctdlast_ticks), sldlast_ticks⟩)
    (cdlast_ticks : PySem.W.codeIn K cddlast_ticks "last_ticks" = true)
    (kdlast_ticks : PySem.W.keepIn K (.ref fdlast_ticks) = true)
    (adcourse_by : PySem.W.nsIn K mainGlobals "course_by" = some (some (.ref fdcourse_by)))
    (ldcourse_by : K.lookup fdcourse_by = some ⟨ocdcourse_by, oddcourse_by, .func (PySem.W.fnOf "course_by" "course_by" (defArgs (scourse_by)) (defBody (scourse_by)) (defScope (scourse_by)) .none kVdcourse_by dcdcourse_by pmdcourse_by andcourse_by cddcourse_by ctdcourse_by), sldcourse_by⟩)
    (cdcourse_by : PySem.W.codeIn K cddcourse_by "course_by" = true)
    (kdcourse_by : PySem.W.keepIn K (.ref fdcourse_by) = true)
    (adcourse_to : PySem.W.nsIn K mainGlobals "course_to" = some (some (.ref fdcourse_to)))
    (ldcourse_to : K.lookup fdcourse_to = some ⟨ocdcourse_to, oddcourse_to, .func (PySem.W.fnOf "course_to" "course_to" (defArgs (scourse_to)) (defBody (scourse_to)) (defScope (scourse_to)) .none kVdcourse_to dcdcourse_to pmdcourse_to andcourse_to cddcourse_to ctdcourse_to), sldcourse_to⟩)
    (cdcourse_to : PySem.W.codeIn K cddcourse_to "course_to" = true)
    (kdcourse_to : PySem.W.keepIn K (.ref fdcourse_to) = true)
    (ai1 : PySem.W.findIn K (.ref C1) "__init__" = some (some (.ref fi1)))
    (ii1 : PySem.W.isFn K (.ref fi1) = true)
    (li1 : K.lookup fi1 = some ⟨oci1, odi1, .func (PySem.W.fnOf "__init__" "House.__init__" (defArgs (sIHouse)) (defBody (sIHouse)) (defScope (sIHouse)) .none kVi1 dci1 pmi1 ani1 cdi1 cti1), sli1⟩)
    (ci1 : PySem.W.codeIn K cdi1 "House.__init__" = true)
    (ki1 : PySem.W.keepIn K (.ref fi1) = true)
    (ai0 : PySem.W.findIn K (.ref C0) "__init__" = some (some (.ref fi0)))
    (ii0 : PySem.W.isFn K (.ref fi0) = true)
    (li0 : K.lookup fi0 = some ⟨oci0, odi0, .func (PySem.W.fnOf "__init__" "Rule.__init__" (defArgs (sIRule)) (defBody (sIRule)) (defScope (sIRule)) .none kVi0 dci0 pmi0 ani0 cdi0 cti0), sli0⟩)
    (ci0 : PySem.W.codeIn K cdi0 "Rule.__init__" = true)
    (ki0 : PySem.W.keepIn K (.ref fi0) = true)
    (apgoes : PySem.W.findIn K (.ref C1) "goes" = some (some (.ref ppgoes)))
    (gpgoes : PySem.W.specialIn K (.ref ppgoes) "__get__" = some (some (.builtin "property.__get__")))
    (tpgoes : PySem.W.takesIn K (.ref ppgoes) = some true)
    (rpgoes : PySem.W.recIn K ppgoes "property" = some (.ref fpgoes :: repgoes))
    (lpgoes : K.lookup fpgoes = some ⟨ocpgoes, odpgoes, .func (PySem.W.fnOf "goes" "House.goes" (defArgs (inClass (topS 22) 5)) (defBody (inClass (topS 22) 5)) (defScope (inClass (topS 22) 5)) .none kVpgoes dcpgoes pmpgoes anpgoes cdpgoes ctpgoes), slpgoes⟩)
    (cpgoes : PySem.W.codeIn K cdpgoes "House.goes" = true)
    (kpgoes : PySem.W.keepIn K (.ref fpgoes) = true)
    (apguard : PySem.W.findIn K (.ref C0) "guard" = some (some (.ref ppguard)))
    (gpguard : PySem.W.specialIn K (.ref ppguard) "__get__" = some (some (.builtin "property.__get__")))
    (tpguard : PySem.W.takesIn K (.ref ppguard) = some true)
    (rpguard : PySem.W.recIn K ppguard "property" = some (.ref fpguard :: repguard))
    (lpguard : K.lookup fpguard = some ⟨ocpguard, odpguard, .func (PySem.W.fnOf "guard" "Rule.guard" (defArgs (inClass (topS 15) 5)) (defBody (inClass (topS 15) 5)) (defScope (inClass (topS 15) 5)) .none kVpguard dcpguard pmpguard anpguard cdpguard ctpguard), slpguard⟩)
    (cpguard : PySem.W.codeIn K cdpguard "Rule.guard" = true)
    (kpguard : PySem.W.keepIn K (.ref fpguard) = true)
    (aphold : PySem.W.findIn K (.ref C0) "hold" = some (some (.ref pphold)))
    (gphold : PySem.W.specialIn K (.ref pphold) "__get__" = some (some (.builtin "property.__get__")))
    (tphold : PySem.W.takesIn K (.ref pphold) = some true)
    (rphold : PySem.W.recIn K pphold "property" = some (.ref fphold :: rephold))
    (lphold : K.lookup fphold = some ⟨ocphold, odphold, .func (PySem.W.fnOf "hold" "Rule.hold" (defArgs (inClass (topS 15) 3)) (defBody (inClass (topS 15) 3)) (defScope (inClass (topS 15) 3)) .none kVphold dcphold pmphold anphold cdphold ctphold), slphold⟩)
    (cphold : PySem.W.codeIn K cdphold "Rule.hold" = true)
    (kphold : PySem.W.keepIn K (.ref fphold) = true)
    (aplag : PySem.W.findIn K (.ref C1) "lag" = some (some (.ref pplag)))
    (gplag : PySem.W.specialIn K (.ref pplag) "__get__" = some (some (.builtin "property.__get__")))
    (tplag : PySem.W.takesIn K (.ref pplag) = some true)
    (rplag : PySem.W.recIn K pplag "property" = some (.ref fplag :: replag))
    (lplag : K.lookup fplag = some ⟨ocplag, odplag, .func (PySem.W.fnOf "lag" "House.lag" (defArgs (inClass (topS 22) 6)) (defBody (inClass (topS 22) 6)) (defScope (inClass (topS 22) 6)) .none kVplag dcplag pmplag anplag cdplag ctplag), slplag⟩)
    (cplag : PySem.W.codeIn K cdplag "House.lag" = true)
    (kplag : PySem.W.keepIn K (.ref fplag) = true)
    (apmany : PySem.W.findIn K (.ref C1) "many" = some (some (.ref ppmany)))
    (gpmany : PySem.W.specialIn K (.ref ppmany) "__get__" = some (some (.builtin "property.__get__")))
    (tpmany : PySem.W.takesIn K (.ref ppmany) = some true)
    (rpmany : PySem.W.recIn K ppmany "property" = some (.ref fpmany :: repmany))
    (lpmany : K.lookup fpmany = some ⟨ocpmany, odpmany, .func (PySem.W.fnOf "many" "House.many" (defArgs (inClass (topS 22) 4)) (defBody (inClass (topS 22) 4)) (defScope (inClass (topS 22) 4)) .none kVpmany dcpmany pmpmany anpmany cdpmany ctpmany), slpmany⟩)
    (cpmany : PySem.W.codeIn K cdpmany "House.many" = true)
    (kpmany : PySem.W.keepIn K (.ref fpmany) = true)
    (appins : PySem.W.findIn K (.ref C0) "pins" = some (some (.ref pppins)))
    (gppins : PySem.W.specialIn K (.ref pppins) "__get__" = some (some (.builtin "property.__get__")))
    (tppins : PySem.W.takesIn K (.ref pppins) = some true)
    (rppins : PySem.W.recIn K pppins "property" = some (.ref fppins :: reppins))
    (lppins : K.lookup fppins = some ⟨ocppins, odppins, .func (PySem.W.fnOf "pins" "Rule.pins" (defArgs (inClass (topS 15) 4)) (defBody (inClass (topS 15) 4)) (defScope (inClass (topS 15) 4)) .none kVppins dcppins pmppins anppins cdppins ctppins), slppins⟩)
    (cppins : PySem.W.codeIn K cdppins "Rule.pins" = true)
    (kppins : PySem.W.keepIn K (.ref fppins) = true)
    (aproom : PySem.W.findIn K (.ref C1) "room" = some (some (.ref pproom)))
    (gproom : PySem.W.specialIn K (.ref pproom) "__get__" = some (some (.builtin "property.__get__")))
    (tproom : PySem.W.takesIn K (.ref pproom) = some true)
    (rproom : PySem.W.recIn K pproom "property" = some (.ref fproom :: reproom))
    (lproom : K.lookup fproom = some ⟨ocproom, odproom, .func (PySem.W.fnOf "room" "House.room" (defArgs (inClass (topS 22) 2)) (defBody (inClass (topS 22) 2)) (defScope (inClass (topS 22) 2)) .none kVproom dcproom pmproom anproom cdproom ctproom), slproom⟩)
    (cproom : PySem.W.codeIn K cdproom "House.room" = true)
    (kproom : PySem.W.keepIn K (.ref fproom) = true)
    (aprule : PySem.W.findIn K (.ref C1) "rule" = some (some (.ref pprule)))
    (gprule : PySem.W.specialIn K (.ref pprule) "__get__" = some (some (.builtin "property.__get__")))
    (tprule : PySem.W.takesIn K (.ref pprule) = some true)
    (rprule : PySem.W.recIn K pprule "property" = some (.ref fprule :: reprule))
    (lprule : K.lookup fprule = some ⟨ocprule, odprule, .func (PySem.W.fnOf "rule" "House.rule" (defArgs (inClass (topS 22) 1)) (defBody (inClass (topS 22) 1)) (defScope (inClass (topS 22) 1)) .none kVprule dcprule pmprule anprule cdprule ctprule), slprule⟩)
    (cprule : PySem.W.codeIn K cdprule "House.rule" = true)
    (kprule : PySem.W.keepIn K (.ref fprule) = true)
    (apstill : PySem.W.findIn K (.ref C0) "still" = some (some (.ref ppstill)))
    (gpstill : PySem.W.specialIn K (.ref ppstill) "__get__" = some (some (.builtin "property.__get__")))
    (tpstill : PySem.W.takesIn K (.ref ppstill) = some true)
    (rpstill : PySem.W.recIn K ppstill "property" = some (.ref fpstill :: repstill))
    (lpstill : K.lookup fpstill = some ⟨ocpstill, odpstill, .func (PySem.W.fnOf "still" "Rule.still" (defArgs (inClass (topS 15) 2)) (defBody (inClass (topS 15) 2)) (defScope (inClass (topS 15) 2)) .none kVpstill dcpstill pmpstill anpstill cdpstill ctpstill), slpstill⟩)
    (cpstill : PySem.W.codeIn K cdpstill "Rule.still" = true)
    (kpstill : PySem.W.keepIn K (.ref fpstill) = true)
    (aptop : PySem.W.findIn K (.ref C1) "top" = some (some (.ref pptop)))
    (gptop : PySem.W.specialIn K (.ref pptop) "__get__" = some (some (.builtin "property.__get__")))
    (tptop : PySem.W.takesIn K (.ref pptop) = some true)
    (rptop : PySem.W.recIn K pptop "property" = some (.ref fptop :: reptop))
    (lptop : K.lookup fptop = some ⟨ocptop, odptop, .func (PySem.W.fnOf "top" "House.top" (defArgs (inClass (topS 22) 3)) (defBody (inClass (topS 22) 3)) (defScope (inClass (topS 22) 3)) .none kVptop dcptop pmptop anptop cdptop ctptop), slptop⟩)
    (cptop : PySem.W.codeIn K cdptop "House.top" = true)
    (kptop : PySem.W.keepIn K (.ref fptop) = true)
    (apway : PySem.W.findIn K (.ref C0) "way" = some (some (.ref ppway)))
    (gpway : PySem.W.specialIn K (.ref ppway) "__get__" = some (some (.builtin "property.__get__")))
    (tpway : PySem.W.takesIn K (.ref ppway) = some true)
    (rpway : PySem.W.recIn K ppway "property" = some (.ref fpway :: repway))
    (lpway : K.lookup fpway = some ⟨ocpway, odpway, .func (PySem.W.fnOf "way" "Rule.way" (defArgs (inClass (topS 15) 1)) (defBody (inClass (topS 15) 1)) (defScope (inClass (topS 15) 1)) .none kVpway dcpway pmpway anpway cdpway ctpway), slpway⟩)
    (cpway : PySem.W.codeIn K cdpway "Rule.way" = true)
    (kpway : PySem.W.keepIn K (.ref fpway) = true)
    (pgC0 : PySem.W.plainGet K C0 Str.empty = true)
    (hdC0 : PySem.W.hasDictIn K C0 = true)
    (poC0 : PySem.W.plainOver K C0 = true)
    (saC0 : PySem.W.findIn K (.ref C0) "__setattr__" = some (some (.builtin "object.__setattr__")))
    (mkC0 : PySem.W.makesIn K C0 = true)
    (kpC0 : PySem.W.keepIn K (.ref C0) = true)
    (n0C0 : PySem.W.findIn K (.ref C0) "_way" = some none)
    (n1C0 : PySem.W.findIn K (.ref C0) "_still" = some none)
    (n2C0 : PySem.W.findIn K (.ref C0) "_hold" = some none)
    (n3C0 : PySem.W.findIn K (.ref C0) "_pins" = some none)
    (n4C0 : PySem.W.findIn K (.ref C0) "_guard" = some none)
    (haC0 : PySem.W.findIn K (.ref C0) "__class__" = some (some (.builtin "object.__class__")))
    (hmC0 : PySem.W.mroIn K C0 (.type "object") = some true)
    (icC0 : PySem.W.isClsIn K C0 = true)
    (tcC0 : PySem.W.typeIn K (.ref C0) = some (.type "type"))
    (pgC1 : PySem.W.plainGet K C1 Str.empty = true)
    (hdC1 : PySem.W.hasDictIn K C1 = true)
    (poC1 : PySem.W.plainOver K C1 = true)
    (saC1 : PySem.W.findIn K (.ref C1) "__setattr__" = some (some (.builtin "object.__setattr__")))
    (mkC1 : PySem.W.makesIn K C1 = true)
    (kpC1 : PySem.W.keepIn K (.ref C1) = true)
    (n0C1 : PySem.W.findIn K (.ref C1) "_rule" = some none)
    (n1C1 : PySem.W.findIn K (.ref C1) "_room" = some none)
    (n2C1 : PySem.W.findIn K (.ref C1) "_top" = some none)
    (n3C1 : PySem.W.findIn K (.ref C1) "_many" = some none)
    (n4C1 : PySem.W.findIn K (.ref C1) "_goes" = some none)
    (n5C1 : PySem.W.findIn K (.ref C1) "_lag" = some none)
    (haC1 : PySem.W.findIn K (.ref C1) "__class__" = some (some (.builtin "object.__class__")))
    (hmC1 : PySem.W.mroIn K C1 (.type "object") = some true)
    (icC1 : PySem.W.isClsIn K C1 = true)
    (tcC1 : PySem.W.typeIn K (.ref C1) = some (.type "type"))
    (s00 : PySem.W.subIn K (.ref C0) (.ref C0) = some true)
    (s01 : PySem.W.subIn K (.ref C0) (.ref C1) = some false)
    (s10 : PySem.W.subIn K (.ref C1) (.ref C0) = some false)
    (s11 : PySem.W.subIn K (.ref C1) (.ref C1) = some true)
    (hn : PySem.W.specialIn K (.builtin "object.__class__") "__get__" = some (some (.builtin "getset_descriptor.__get__")))
    (ht : PySem.W.takesIn K (.builtin "object.__class__") = some true)
    (aqGREATEST_LAG : PySem.W.nsIn K mainGlobals "GREATEST_LAG" = some (some (.int 3 uqGREATEST_LAG)))
    (aqGREATEST_RANK : PySem.W.nsIn K mainGlobals "GREATEST_RANK" = some (some (.int 2 uqGREATEST_RANK)))
    (aqMOST_PINS : PySem.W.nsIn K mainGlobals "MOST_PINS" = some (some (.int 2 uqMOST_PINS)))
    (aqMOST_ROOM : PySem.W.nsIn K mainGlobals "MOST_ROOM" = some (some (.int 4 uqMOST_ROOM)))
    (aqMOST_STANDINGS : PySem.W.nsIn K mainGlobals "MOST_STANDINGS" = some (some (.int 800 uqMOST_STANDINGS)))
    (aqMOST_TICKS : PySem.W.nsIn K mainGlobals "MOST_TICKS" = some (some (.int 3 uqMOST_TICKS)))
    (aqMOST_WAITING : PySem.W.nsIn K mainGlobals "MOST_WAITING" = some (some (.int 2 uqMOST_WAITING)))
    (aqNOTHING : PySem.W.nsIn K mainGlobals "NOTHING" = some (some (.ref fqNOTHING)))
    (lqNOTHING : K.lookup fqNOTHING = some ⟨.type "tuple", odqNOTHING, .seq #[.str "none" uqNOTHING0] nqNOTHING, slqNOTHING⟩)
    (aqTAP : PySem.W.nsIn K mainGlobals "TAP" = some (some (.ref fqTAP)))
    (lqTAP : K.lookup fqTAP = some ⟨.type "tuple", odqTAP, .seq #[.str "tap" uqTAP0] nqTAP, slqTAP⟩)
    (aqWAYS : PySem.W.nsIn K mainGlobals "WAYS" = some (some (.ref fqWAYS)))
    (lqWAYS : K.lookup fqWAYS = some ⟨.type "tuple", odqWAYS, .seq #[.str "end" uqWAYS0, .str "front" uqWAYS1, .str "rank" uqWAYS2] nqWAYS, slqWAYS⟩)
    (z_abs : PySem.W.nsIn K mainGlobals "abs" = some none)
    (z_all : PySem.W.nsIn K mainGlobals "all" = some none)
    (z_any : PySem.W.nsIn K mainGlobals "any" = some none)
    (z_bool : PySem.W.nsIn K mainGlobals "bool" = some none)
    (z_enumerate : PySem.W.nsIn K mainGlobals "enumerate" = some none)
    (z_int : PySem.W.nsIn K mainGlobals "int" = some none)
    (z_isinstance : PySem.W.nsIn K mainGlobals "isinstance" = some none)
    (z_len : PySem.W.nsIn K mainGlobals "len" = some none)
    (z_list : PySem.W.nsIn K mainGlobals "list" = some none)
    (z_max : PySem.W.nsIn K mainGlobals "max" = some none)
    (z_min : PySem.W.nsIn K mainGlobals "min" = some none)
    (z_range : PySem.W.nsIn K mainGlobals "range" = some none)
    (z_sorted : PySem.W.nsIn K mainGlobals "sorted" = some none)
    (z_str : PySem.W.nsIn K mainGlobals "str" = some none)
    (z_tuple : PySem.W.nsIn K mainGlobals "tuple" = some none) :
    ∃ fd cs sp, Gu.LawT l w K 17 63 "script" mg fa h fd cs sp := by
  have e := hfa.symm.trans (PySem.W.mg_of X G alaw)
  cases e
  have y_abs := PySem.W.mg_none_of X G z_abs
  have y_all := PySem.W.mg_none_of X G z_all
  have y_any := PySem.W.mg_none_of X G z_any
  have y_bool := PySem.W.mg_none_of X G z_bool
  have y_enumerate := PySem.W.mg_none_of X G z_enumerate
  have y_int := PySem.W.mg_none_of X G z_int
  have y_isinstance := PySem.W.mg_none_of X G z_isinstance
  have y_len := PySem.W.mg_none_of X G z_len
  have y_list := PySem.W.mg_none_of X G z_list
  have y_max := PySem.W.mg_none_of X G z_max
  have y_min := PySem.W.mg_none_of X G z_min
  have y_range := PySem.W.mg_none_of X G z_range
  have y_sorted := PySem.W.mg_none_of X G z_sorted
  have y_str := PySem.W.mg_none_of X G z_str
  have y_tuple := PySem.W.mg_none_of X G z_tuple
  have Flaw := fun_mk (st := slaw) llaw claw klaw
  have blaw := Flaw.binds (ps := ["script"]) fun _ _ _ _ _ _ us hl => match us, hl with | [_], _ => rfl
  have Fdis_number := fun_mk (st := sis_number) ldis_number cdis_number kdis_number
  have Ddis_number : GD K mg "is_number" sis_number ["value"] := ⟨fdis_number, _, Fdis_number, PySem.W.mg_of X G adis_number, Fdis_number.binds (ps := ["value"]) fun _ _ _ _ _ _ us hl => match us, hl with | [_], _ => rfl⟩
  have Fdis_number_within := fun_mk (st := sis_number_within) ldis_number_within cdis_number_within kdis_number_within
  have Ddis_number_within : GD K mg "is_number_within" sis_number_within ["value", "least", "most"] := ⟨fdis_number_within, _, Fdis_number_within, PySem.W.mg_of X G adis_number_within, Fdis_number_within.binds (ps := ["value", "least", "most"]) fun _ _ _ _ _ _ us hl => match us, hl with | [_, _, _], _ => rfl⟩
  have Fdis_lag := fun_mk (st := sis_lag) ldis_lag cdis_lag kdis_lag
  have Ddis_lag : GD K mg "is_lag" sis_lag ["value"] := ⟨fdis_lag, _, Fdis_lag, PySem.W.mg_of X G adis_lag, Fdis_lag.binds (ps := ["value"]) fun _ _ _ _ _ _ us hl => match us, hl with | [_], _ => rfl⟩
  have Fdis_one_of := fun_mk (st := sis_one_of) ldis_one_of cdis_one_of kdis_one_of
  have Ddis_one_of : GD K mg "is_one_of" sis_one_of ["value", "texts"] := ⟨fdis_one_of, _, Fdis_one_of, PySem.W.mg_of X G adis_one_of, Fdis_one_of.binds (ps := ["value", "texts"]) fun _ _ _ _ _ _ us hl => match us, hl with | [_, _], _ => rfl⟩
  have Fdcheck_house : FunD K "check_house" "check_house" (defArgs scheck_house) (defBody scheck_house) (defScope scheck_house) [V.str "house"] [] fdcheck_house _ := ⟨⟨_, _, _, _, _, _, _, _, _, _, rfl, ldcheck_house, cdcheck_house, .inr ⟨by simp, _, _, _, _, rfl, tdcheck_house, rfl, .cons ⟨_, rfl⟩ (.nil)⟩, .inl rfl⟩, kdcheck_house⟩
  have Bdcheck_house := Fdcheck_house.binds1 (ps := ["value", "part"]) 1 0 (by simp) rfl fun T kV doc pm an cdv ct us its h1 h2 => match us, its, h1, h2 with | [_], [_], _, _ => ⟨_, rfl, rfl⟩
  have Ddcheck_house : GDD K mg "check_house" scheck_house ["value", "part"] [(.str "house")] := by
    obtain ⟨ds, h1, h2⟩ := Bdcheck_house
    exact ⟨fdcheck_house, _, _, ds, Fdcheck_house, PySem.W.mg_of X G adcheck_house, h2, h1, fun c H ρ => .cons (.str _) (.nil)⟩
  have Fdwalked := fun_mk (st := swalked) ldwalked cdwalked kdwalked
  have Ddwalked : GD K mg "walked" swalked ["first", "steps_from", "most"] := ⟨fdwalked, _, Fdwalked, PySem.W.mg_of X G adwalked, Fdwalked.binds (ps := ["first", "steps_from", "most"]) fun _ _ _ _ _ _ us hl => match us, hl with | [_, _, _], _ => rfl⟩
  have Fdfirst_standing := fun_mk (st := sfirst_standing) ldfirst_standing cdfirst_standing kdfirst_standing
  have Ddfirst_standing : GD K mg "first_standing" sfirst_standing ["house"] := ⟨fdfirst_standing, _, Fdfirst_standing, PySem.W.mg_of X G adfirst_standing, Fdfirst_standing.binds (ps := ["house"]) fun _ _ _ _ _ _ us hl => match us, hl with | [_], _ => rfl⟩
  have Fdchanges_at := fun_mk (st := schanges_at) ldchanges_at cdchanges_at kdchanges_at
  have Ddchanges_at : GD K mg "changes_at" schanges_at ["house", "standing"] := ⟨fdchanges_at, _, Fdchanges_at, PySem.W.mg_of X G adchanges_at, Fdchanges_at.binds (ps := ["house", "standing"]) fun _ _ _ _ _ _ us hl => match us, hl with | [_, _], _ => rfl⟩
  have Fdchanged := fun_mk (st := schanged) ldchanged cdchanged kdchanged
  have Ddchanged : GD K mg "changed" schanged ["standing", "change"] := ⟨fdchanged, _, Fdchanged, PySem.W.mg_of X G adchanged, Fdchanged.binds (ps := ["standing", "change"]) fun _ _ _ _ _ _ us hl => match us, hl with | [_, _], _ => rfl⟩
  have Fdmust_draw := fun_mk (st := smust_draw) ldmust_draw cdmust_draw kdmust_draw
  have Ddmust_draw : GD K mg "must_draw" smust_draw ["rule", "shown", "waiting", "quiet", "look"] := ⟨fdmust_draw, _, Fdmust_draw, PySem.W.mg_of X G admust_draw, Fdmust_draw.binds (ps := ["rule", "shown", "waiting", "quiet", "look"]) fun _ _ _ _ _ _ us hl => match us, hl with | [_, _, _, _, _], _ => rfl⟩
  have Fdundrawn_rows := fun_mk (st := sundrawn_rows) ldundrawn_rows cdundrawn_rows kdundrawn_rows
  have Ddundrawn_rows : GD K mg "undrawn_rows" sundrawn_rows ["shown"] := ⟨fdundrawn_rows, _, Fdundrawn_rows, PySem.W.mg_of X G adundrawn_rows, Fdundrawn_rows.binds (ps := ["shown"]) fun _ _ _ _ _ _ us hl => match us, hl with | [_], _ => rfl⟩
  have Fdplace_by_way := fun_mk (st := splace_by_way) ldplace_by_way cdplace_by_way kdplace_by_way
  have Ddplace_by_way : GD K mg "place_by_way" splace_by_way ["way", "ranks", "rank"] := ⟨fdplace_by_way, _, Fdplace_by_way, PySem.W.mg_of X G adplace_by_way, Fdplace_by_way.binds (ps := ["way", "ranks", "rank"]) fun _ _ _ _ _ _ us hl => match us, hl with | [_, _, _], _ => rfl⟩
  have Fdplace_for := fun_mk (st := splace_for) ldplace_for cdplace_for kdplace_for
  have Ddplace_for : GD K mg "place_for" splace_for ["rule", "ranks", "rank"] := ⟨fdplace_for, _, Fdplace_for, PySem.W.mg_of X G adplace_for, Fdplace_for.binds (ps := ["rule", "ranks", "rank"]) fun _ _ _ _ _ _ us hl => match us, hl with | [_, _, _], _ => rfl⟩
  have Fddrawn_rows := fun_mk (st := sdrawn_rows) lddrawn_rows cddrawn_rows kddrawn_rows
  have Dddrawn_rows : GD K mg "drawn_rows" sdrawn_rows ["house", "shown", "waiting"] := ⟨fddrawn_rows, _, Fddrawn_rows, PySem.W.mg_of X G addrawn_rows, Fddrawn_rows.binds (ps := ["house", "shown", "waiting"]) fun _ _ _ _ _ _ us hl => match us, hl with | [_, _, _], _ => rfl⟩
  have Fdstood_on := fun_mk (st := sstood_on) ldstood_on cdstood_on kdstood_on
  have Ddstood_on : GD K mg "stood_on" sstood_on ["rule", "shown", "rows"] := ⟨fdstood_on, _, Fdstood_on, PySem.W.mg_of X G adstood_on, Fdstood_on.binds (ps := ["rule", "shown", "rows"]) fun _ _ _ _ _ _ us hl => match us, hl with | [_, _, _], _ => rfl⟩
  have Fdfollowed := fun_mk (st := sfollowed) ldfollowed cdfollowed kdfollowed
  have Ddfollowed : GD K mg "followed" sfollowed ["look", "rows"] := ⟨fdfollowed, _, Fdfollowed, PySem.W.mg_of X G adfollowed, Fdfollowed.binds (ps := ["look", "rows"]) fun _ _ _ _ _ _ us hl => match us, hl with | [_, _], _ => rfl⟩
  have Fdsettled_at := fun_mk (st := ssettled_at) ldsettled_at cdsettled_at kdsettled_at
  have Ddsettled_at : GD K mg "settled_at" ssettled_at ["house", "standing", "change"] := ⟨fdsettled_at, _, Fdsettled_at, PySem.W.mg_of X G adsettled_at, Fdsettled_at.binds (ps := ["house", "standing", "change"]) fun _ _ _ _ _ _ us hl => match us, hl with | [_, _, _], _ => rfl⟩
  have Fdhands_at := fun_mk (st := shands_at) ldhands_at cdhands_at kdhands_at
  have Ddhands_at : GD K mg "hands_at" shands_at ["house", "settled"] := ⟨fdhands_at, _, Fdhands_at, PySem.W.mg_of X G adhands_at, Fdhands_at.binds (ps := ["house", "settled"]) fun _ _ _ _ _ _ us hl => match us, hl with | [_, _], _ => rfl⟩
  have Fdoutcome_of := fun_mk (st := soutcome_of) ldoutcome_of cdoutcome_of kdoutcome_of
  have Ddoutcome_of : GD K mg "outcome_of" soutcome_of ["rule", "shown", "look"] := ⟨fdoutcome_of, _, Fdoutcome_of, PySem.W.mg_of X G adoutcome_of, Fdoutcome_of.binds (ps := ["rule", "shown", "look"]) fun _ _ _ _ _ _ us hl => match us, hl with | [_, _, _], _ => rfl⟩
  have Fdhandled := fun_mk (st := shandled) ldhandled cdhandled kdhandled
  have Ddhandled : GD K mg "handled" shandled ["rule", "settled", "hand"] := ⟨fdhandled, _, Fdhandled, PySem.W.mg_of X G adhandled, Fdhandled.binds (ps := ["rule", "settled", "hand"]) fun _ _ _ _ _ _ us hl => match us, hl with | [_, _, _], _ => rfl⟩
  have Fdsteps_at := fun_mk (st := ssteps_at) ldsteps_at cdsteps_at kdsteps_at
  have Ddsteps_at : GD K mg "steps_at" ssteps_at ["house", "standing"] := ⟨fdsteps_at, _, Fdsteps_at, PySem.W.mg_of X G adsteps_at, Fdsteps_at.binds (ps := ["house", "standing"]) fun _ _ _ _ _ _ us hl => match us, hl with | [_, _], _ => rfl⟩
  have Fdsteps_of := fun_mk (st := ssteps_of) ldsteps_of cdsteps_of kdsteps_of
  have Ddsteps_of : GDL K mg "steps_of" ssteps_of ["house"] cmsteps_of := ⟨fdsteps_of, _, _, _, _, _, _, _, _, _, rfl, ldsteps_of, cdsteps_of, kdsteps_of, PySem.W.mg_of X G adsteps_of, Fdsteps_of.binds (ps := ["house"]) fun _ _ _ _ _ _ us hl => match us, hl with | [_], _ => rfl⟩
  have Fdstandings_of := fun_mk (st := sstandings_of) ldstandings_of cdstandings_of kdstandings_of
  have Ddstandings_of : GD K mg "standings_of" sstandings_of ["house"] := ⟨fdstandings_of, _, Fdstandings_of, PySem.W.mg_of X G adstandings_of, Fdstandings_of.binds (ps := ["house"]) fun _ _ _ _ _ _ us hl => match us, hl with | [_], _ => rfl⟩
  have Fdare_ranks := fun_mk (st := sare_ranks) ldare_ranks cdare_ranks kdare_ranks
  have Ddare_ranks : GD K mg "are_ranks" sare_ranks ["house", "thing", "most"] := ⟨fdare_ranks, _, Fdare_ranks, PySem.W.mg_of X G adare_ranks, Fdare_ranks.binds (ps := ["house", "thing", "most"]) fun _ _ _ _ _ _ us hl => match us, hl with | [_, _, _], _ => rfl⟩
  have Fdis_look := fun_mk (st := sis_look) ldis_look cdis_look kdis_look
  have Ddis_look : GD K mg "is_look" sis_look ["house", "thing", "many"] := ⟨fdis_look, _, Fdis_look, PySem.W.mg_of X G adis_look, Fdis_look.binds (ps := ["house", "thing", "many"]) fun _ _ _ _ _ _ us hl => match us, hl with | [_, _, _], _ => rfl⟩
  have Fdis_item := fun_mk (st := sis_item) ldis_item cdis_item kdis_item
  have Ddis_item : GD K mg "is_item" sis_item ["house", "thing"] := ⟨fdis_item, _, Fdis_item, PySem.W.mg_of X G adis_item, Fdis_item.binds (ps := ["house", "thing"]) fun _ _ _ _ _ _ us hl => match us, hl with | [_, _], _ => rfl⟩
  have Fdis_standing := fun_mk (st := sis_standing) ldis_standing cdis_standing kdis_standing
  have Ddis_standing : GD K mg "is_standing" sis_standing ["house", "thing"] := ⟨fdis_standing, _, Fdis_standing, PySem.W.mg_of X G adis_standing, Fdis_standing.binds (ps := ["house", "thing"]) fun _ _ _ _ _ _ us hl => match us, hl with | [_, _], _ => rfl⟩
  have Fdcheck_standing := fun_mk (st := scheck_standing) ldcheck_standing cdcheck_standing kdcheck_standing
  have Ddcheck_standing : GD K mg "check_standing" scheck_standing ["house", "standing"] := ⟨fdcheck_standing, _, Fdcheck_standing, PySem.W.mg_of X G adcheck_standing, Fdcheck_standing.binds (ps := ["house", "standing"]) fun _ _ _ _ _ _ us hl => match us, hl with | [_, _], _ => rfl⟩
  have Fdlast_ticks := fun_mk (st := slast_ticks) ldlast_ticks cdlast_ticks kdlast_ticks
  have Ddlast_ticks : GD K mg "last_ticks" slast_ticks ["first", "steps"] := ⟨fdlast_ticks, _, Fdlast_ticks, PySem.W.mg_of X G adlast_ticks, Fdlast_ticks.binds (ps := ["first", "steps"]) fun _ _ _ _ _ _ us hl => match us, hl with | [_, _], _ => rfl⟩
  have Fdcourse_by := fun_mk (st := scourse_by) ldcourse_by cdcourse_by kdcourse_by
  have Ddcourse_by : GD K mg "course_by" scourse_by ["lasts", "standing"] := ⟨fdcourse_by, _, Fdcourse_by, PySem.W.mg_of X G adcourse_by, Fdcourse_by.binds (ps := ["lasts", "standing"]) fun _ _ _ _ _ _ us hl => match us, hl with | [_, _], _ => rfl⟩
  have Fdcourse_to := fun_mk (st := scourse_to) ldcourse_to cdcourse_to kdcourse_to
  have Ddcourse_to : GD K mg "course_to" scourse_to ["house", "standing"] := ⟨fdcourse_to, _, Fdcourse_to, PySem.W.mg_of X G adcourse_to, Fdcourse_to.binds (ps := ["house", "standing"]) fun _ _ _ _ _ _ us hl => match us, hl with | [_, _], _ => rfl⟩
  have qGREATEST_LAG : GC K mg "GREATEST_LAG" (.int 3) := ⟨.int 3, _, PySem.W.mg_of X G aqGREATEST_LAG, ⟨_, rfl⟩, fun c H ρ => .int _⟩
  have qGREATEST_RANK : GC K mg "GREATEST_RANK" (.int 2) := ⟨.int 2, _, PySem.W.mg_of X G aqGREATEST_RANK, ⟨_, rfl⟩, fun c H ρ => .int _⟩
  have qMOST_PINS : GC K mg "MOST_PINS" (.int 2) := ⟨.int 2, _, PySem.W.mg_of X G aqMOST_PINS, ⟨_, rfl⟩, fun c H ρ => .int _⟩
  have qMOST_ROOM : GC K mg "MOST_ROOM" (.int 4) := ⟨.int 4, _, PySem.W.mg_of X G aqMOST_ROOM, ⟨_, rfl⟩, fun c H ρ => .int _⟩
  have qMOST_STANDINGS : GC K mg "MOST_STANDINGS" (.int 800) := ⟨.int 800, _, PySem.W.mg_of X G aqMOST_STANDINGS, ⟨_, rfl⟩, fun c H ρ => .int _⟩
  have qMOST_TICKS : GC K mg "MOST_TICKS" (.int 3) := ⟨.int 3, _, PySem.W.mg_of X G aqMOST_TICKS, ⟨_, rfl⟩, fun c H ρ => .int _⟩
  have qMOST_WAITING : GC K mg "MOST_WAITING" (.int 2) := ⟨.int 2, _, PySem.W.mg_of X G aqMOST_WAITING, ⟨_, rfl⟩, fun c H ρ => .int _⟩
  have qNOTHING : GC K mg "NOTHING" (.tup [(.str "none")]) := ⟨.ref fqNOTHING, _, PySem.W.mg_of X G aqNOTHING, rfl, fun c H ρ => .tup (vs := [V.str "none"]) (.inr ⟨_, _, _, lqNOTHING, rfl, rfl, by show 1 ≤ sizeLine; decide, (.cons ⟨_, rfl⟩ (.nil) : Vals [V.str "none"] _)⟩) (.cons (.str _) (.nil))⟩
  have qTAP : GC K mg "TAP" (.tup [(.str "tap")]) := ⟨.ref fqTAP, _, PySem.W.mg_of X G aqTAP, rfl, fun c H ρ => .tup (vs := [V.str "tap"]) (.inr ⟨_, _, _, lqTAP, rfl, rfl, by show 1 ≤ sizeLine; decide, (.cons ⟨_, rfl⟩ (.nil) : Vals [V.str "tap"] _)⟩) (.cons (.str _) (.nil))⟩
  have qWAYS : GC K mg "WAYS" (.tup [(.str "end"), (.str "front"), (.str "rank")]) := ⟨.ref fqWAYS, _, PySem.W.mg_of X G aqWAYS, rfl, fun c H ρ => .tup (vs := [V.str "end", V.str "front", V.str "rank"]) (.inr ⟨_, _, _, lqWAYS, rfl, rfl, by show 3 ≤ sizeLine; decide, (.cons ⟨_, rfl⟩ (.cons ⟨_, rfl⟩ (.cons ⟨_, rfl⟩ (.nil))) : Vals [V.str "end", V.str "front", V.str "rank"] _)⟩) (.cons (.str _) (.cons (.str _) (.cons (.str _) (.nil))))⟩
  have clC0 : Cls K C0 := ⟨pgC0, hdC0, poC0, saC0⟩
  have cfC0 : ClsF K C0 := ⟨clC0, haC0, hn, ht, hmC0⟩
  have ggC0 := PySem.W.mg_of X G aC0
  have qNoneTypeC0 : PySem.W.kitOne K (.type "NoneType") (.ref C0) = some false := kit_ref icC0 tcC0 (by kernel_rfl) rfl
  have qboolC0 : PySem.W.kitOne K (.type "bool") (.ref C0) = some false := kit_ref icC0 tcC0 (by kernel_rfl) rfl
  have qintC0 : PySem.W.kitOne K (.type "int") (.ref C0) = some false := kit_ref icC0 tcC0 (by kernel_rfl) rfl
  have qstrC0 : PySem.W.kitOne K (.type "str") (.ref C0) = some false := kit_ref icC0 tcC0 (by kernel_rfl) rfl
  have qtupleC0 : PySem.W.kitOne K (.type "tuple") (.ref C0) = some false := kit_ref icC0 tcC0 (by kernel_rfl) rfl
  have qlistC0 : PySem.W.kitOne K (.type "list") (.ref C0) = some false := kit_ref icC0 tcC0 (by kernel_rfl) rfl
  have qdictC0 : PySem.W.kitOne K (.type "dict") (.ref C0) = some false := kit_ref icC0 tcC0 (by kernel_rfl) rfl
  have clC1 : Cls K C1 := ⟨pgC1, hdC1, poC1, saC1⟩
  have cfC1 : ClsF K C1 := ⟨clC1, haC1, hn, ht, hmC1⟩
  have ggC1 := PySem.W.mg_of X G aC1
  have qNoneTypeC1 : PySem.W.kitOne K (.type "NoneType") (.ref C1) = some false := kit_ref icC1 tcC1 (by kernel_rfl) rfl
  have qboolC1 : PySem.W.kitOne K (.type "bool") (.ref C1) = some false := kit_ref icC1 tcC1 (by kernel_rfl) rfl
  have qintC1 : PySem.W.kitOne K (.type "int") (.ref C1) = some false := kit_ref icC1 tcC1 (by kernel_rfl) rfl
  have qstrC1 : PySem.W.kitOne K (.type "str") (.ref C1) = some false := kit_ref icC1 tcC1 (by kernel_rfl) rfl
  have qtupleC1 : PySem.W.kitOne K (.type "tuple") (.ref C1) = some false := kit_ref icC1 tcC1 (by kernel_rfl) rfl
  have qlistC1 : PySem.W.kitOne K (.type "list") (.ref C1) = some false := kit_ref icC1 tcC1 (by kernel_rfl) rfl
  have qdictC1 : PySem.W.kitOne K (.type "dict") (.ref C1) = some false := kit_ref icC1 tcC1 (by kernel_rfl) rfl
  have ne01 : C0 ≠ C1 := fun z => by cases z; rw [s00] at s01; cases s01
  have q01 : PySem.W.kitOne K (.ref C0) (.ref C1) = some false := kit_ref icC1 tcC1 s01 (beq_eq_false_iff_ne.mpr fun z => ne01 (by cases z; rfl))
  have ne10 : C1 ≠ C0 := fun z => by cases z; rw [s11] at s10; cases s10
  have q10 : PySem.W.kitOne K (.ref C1) (.ref C0) = some false := kit_ref icC0 tcC0 s10 (beq_eq_false_iff_ne.mpr fun z => ne10 (by cases z; rfl))
  have kit0 : ∀ dw, KitOk K (cOf l.prog w C0 C1 tmsteps_of dw) (.cls 0) := fun dw t b e hb => by
    cases t with
    | non => simp only [isTab] at e; cases e; exact qNoneTypeC0
    | bl => simp only [isTab] at e; cases e; exact qboolC0
    | int => simp only [isTab] at e; cases e; exact qintC0
    | str => simp only [isTab] at e; cases e; exact qstrC0
    | tup => simp only [isTab] at e; cases e; exact qtupleC0
    | lst => simp only [isTab] at e; cases e; exact qlistC0
    | dic => simp only [isTab] at e; cases e; exact qdictC0
    | ins j =>
      have hj : j < 2 := hb j rfl
      simp only [isTab] at e
      match j, hj, e with
      | 0, _, e => cases e; exact kit_self
      | 1, _, e => cases e; exact q10
  have kit1 : ∀ dw, KitOk K (cOf l.prog w C0 C1 tmsteps_of dw) (.cls 1) := fun dw t b e hb => by
    cases t with
    | non => simp only [isTab] at e; cases e; exact qNoneTypeC1
    | bl => simp only [isTab] at e; cases e; exact qboolC1
    | int => simp only [isTab] at e; cases e; exact qintC1
    | str => simp only [isTab] at e; cases e; exact qstrC1
    | tup => simp only [isTab] at e; cases e; exact qtupleC1
    | lst => simp only [isTab] at e; cases e; exact qlistC1
    | dic => simp only [isTab] at e; cases e; exact qdictC1
    | ins j =>
      have hj : j < 2 := hb j rfl
      simp only [isTab] at e
      match j, hj, e with
      | 0, _, e => cases e; exact q01
      | 1, _, e => cases e; exact kit_self
  have Fx : ∀ dw, Facts K (cOf l.prog w C0 C1 tmsteps_of dw) := fun dw => by
    refine ⟨fun k hk => ?_, fun k hk => ?_, fun k hk => ?_, fun k j hk hj e => ?_⟩
    · have hk : k < 2 := hk
      match k, hk with
      | 0, _ => exact cfC0
      | 1, _ => exact cfC1
    · have hk : k < 2 := hk
      match k, hk with
      | 0, _ => show fl0.Nodup; decide +kernel
      | 1, _ => show fl1.Nodup; decide +kernel
    · have hk : k < 2 := hk
      match k, hk with
      | 0, _ => show fl0.length < 1000; decide
      | 1, _ => show fl1.length < 1000; decide
    · have hk : k < 2 := hk
      have hj : j < 2 := hj
      match k, j, hk, hj, e with
      | 0, 0, _, _, e => rfl
      | 0, 1, _, _, e => exact absurd e ne01
      | 1, 0, _, _, e => exact absurd e ne10
      | 1, 1, _, _, e => rfl
  have TT := tabs cmsteps_of tmsteps_of (tabIn_of adsteps_of ldsteps_of rfl lcmsteps_of vtmsteps_of)
  refine ⟨PySem.W.fnOf "law" "law" (defArgs slaw) (defBody slaw) (defScope slaw) .none kVlaw dclaw pmlaw anlaw cdlaw ctlaw, [(cmsteps_of, tmsteps_of)], spLawT K tmsteps_of, ⟨fun p hp => by rw [List.mem_singleton.mp hp]; exact TT.2, fun p hp => by rw [List.mem_singleton.mp hp]; exact ntmsteps_of, fun p hp => by rw [List.mem_singleton.mp hp]; exact TT.1, fun s v => .of_eq rfl, fun G a ns hl hT hS => ⟨a, ns, rfl, hS, hl, hT (cmsteps_of, tmsteps_of) (List.mem_singleton.mpr rfl), fun _ => rfl⟩, fun base _ _ TBs => ?_⟩⟩
  have TBmsteps_of := TBs (cmsteps_of, tmsteps_of) (List.mem_singleton.mpr rfl)
  have Fpgoes := fun_mk (st := inClass (topS 22) 5) lpgoes cpgoes kpgoes
  have bpgoes := Fpgoes.binds (ps := ["self"]) fun _ _ _ _ _ _ us hl => match us, hl with | [_], _ => rfl
  have qpgoes : Pr l.prog w K mg base C1 "goes" "_goes" := ⟨ppgoes, fpgoes, _, ⟨apgoes, gpgoes, tpgoes, ⟨_, rpgoes⟩⟩, ok_get Fpgoes scpgoes rfl clC1 n4C1, bpgoes⟩
  have Fpguard := fun_mk (st := inClass (topS 15) 5) lpguard cpguard kpguard
  have bpguard := Fpguard.binds (ps := ["self"]) fun _ _ _ _ _ _ us hl => match us, hl with | [_], _ => rfl
  have qpguard : Pr l.prog w K mg base C0 "guard" "_guard" := ⟨ppguard, fpguard, _, ⟨apguard, gpguard, tpguard, ⟨_, rpguard⟩⟩, ok_get Fpguard scpguard rfl clC0 n4C0, bpguard⟩
  have Fphold := fun_mk (st := inClass (topS 15) 3) lphold cphold kphold
  have bphold := Fphold.binds (ps := ["self"]) fun _ _ _ _ _ _ us hl => match us, hl with | [_], _ => rfl
  have qphold : Pr l.prog w K mg base C0 "hold" "_hold" := ⟨pphold, fphold, _, ⟨aphold, gphold, tphold, ⟨_, rphold⟩⟩, ok_get Fphold scphold rfl clC0 n2C0, bphold⟩
  have Fplag := fun_mk (st := inClass (topS 22) 6) lplag cplag kplag
  have bplag := Fplag.binds (ps := ["self"]) fun _ _ _ _ _ _ us hl => match us, hl with | [_], _ => rfl
  have qplag : Pr l.prog w K mg base C1 "lag" "_lag" := ⟨pplag, fplag, _, ⟨aplag, gplag, tplag, ⟨_, rplag⟩⟩, ok_get Fplag scplag rfl clC1 n5C1, bplag⟩
  have Fpmany := fun_mk (st := inClass (topS 22) 4) lpmany cpmany kpmany
  have bpmany := Fpmany.binds (ps := ["self"]) fun _ _ _ _ _ _ us hl => match us, hl with | [_], _ => rfl
  have qpmany : Pr l.prog w K mg base C1 "many" "_many" := ⟨ppmany, fpmany, _, ⟨apmany, gpmany, tpmany, ⟨_, rpmany⟩⟩, ok_get Fpmany scpmany rfl clC1 n3C1, bpmany⟩
  have Fppins := fun_mk (st := inClass (topS 15) 4) lppins cppins kppins
  have bppins := Fppins.binds (ps := ["self"]) fun _ _ _ _ _ _ us hl => match us, hl with | [_], _ => rfl
  have qppins : Pr l.prog w K mg base C0 "pins" "_pins" := ⟨pppins, fppins, _, ⟨appins, gppins, tppins, ⟨_, rppins⟩⟩, ok_get Fppins scppins rfl clC0 n3C0, bppins⟩
  have Fproom := fun_mk (st := inClass (topS 22) 2) lproom cproom kproom
  have bproom := Fproom.binds (ps := ["self"]) fun _ _ _ _ _ _ us hl => match us, hl with | [_], _ => rfl
  have qproom : Pr l.prog w K mg base C1 "room" "_room" := ⟨pproom, fproom, _, ⟨aproom, gproom, tproom, ⟨_, rproom⟩⟩, ok_get Fproom scproom rfl clC1 n1C1, bproom⟩
  have Fprule := fun_mk (st := inClass (topS 22) 1) lprule cprule kprule
  have bprule := Fprule.binds (ps := ["self"]) fun _ _ _ _ _ _ us hl => match us, hl with | [_], _ => rfl
  have qprule : Pr l.prog w K mg base C1 "rule" "_rule" := ⟨pprule, fprule, _, ⟨aprule, gprule, tprule, ⟨_, rprule⟩⟩, ok_get Fprule scprule rfl clC1 n0C1, bprule⟩
  have Fpstill := fun_mk (st := inClass (topS 15) 2) lpstill cpstill kpstill
  have bpstill := Fpstill.binds (ps := ["self"]) fun _ _ _ _ _ _ us hl => match us, hl with | [_], _ => rfl
  have qpstill : Pr l.prog w K mg base C0 "still" "_still" := ⟨ppstill, fpstill, _, ⟨apstill, gpstill, tpstill, ⟨_, rpstill⟩⟩, ok_get Fpstill scpstill rfl clC0 n1C0, bpstill⟩
  have Fptop := fun_mk (st := inClass (topS 22) 3) lptop cptop kptop
  have bptop := Fptop.binds (ps := ["self"]) fun _ _ _ _ _ _ us hl => match us, hl with | [_], _ => rfl
  have qptop : Pr l.prog w K mg base C1 "top" "_top" := ⟨pptop, fptop, _, ⟨aptop, gptop, tptop, ⟨_, rptop⟩⟩, ok_get Fptop scptop rfl clC1 n2C1, bptop⟩
  have Fpway := fun_mk (st := inClass (topS 15) 1) lpway cpway kpway
  have bpway := Fpway.binds (ps := ["self"]) fun _ _ _ _ _ _ us hl => match us, hl with | [_], _ => rfl
  have qpway : Pr l.prog w K mg base C0 "way" "_way" := ⟨ppway, fpway, _, ⟨apway, gpway, tpway, ⟨_, rpway⟩⟩, ok_get Fpway scpway rfl clC0 n0C0, bpway⟩
  have T : ∀ dw, Tx l.prog w K mg base (cOf l.prog w C0 C1 tmsteps_of dw) := fun dw => { F := Fx dw, pw := ⟨rfl, rfl⟩, f0 := fun _ => rfl, k0 := (by show 0 < 2; decide), l0 := rfl, g0 := ggC0, kit0 := kit0 dw, n_way := n0C0, n_still := n1C0, n_hold := n2C0, n_pins := n3C0, n_guard := n4C0, f1 := fun _ => rfl, k1 := (by show 1 < 2; decide), l1 := rfl, g1 := ggC1, kit1 := kit1 dw, n_rule := n0C1, n_room := n1C1, n_top := n2C1, n_many := n3C1, n_goes := n4C1, n_lag := n5C1, q_goes := qpgoes, q_guard := qpguard, q_hold := qphold, q_lag := qplag, q_many := qpmany, q_pins := qppins, q_room := qproom, q_rule := qprule, q_still := qpstill, q_top := qptop, q_way := qpway, c_GREATEST_LAG := qGREATEST_LAG, c_GREATEST_RANK := qGREATEST_RANK, c_MOST_PINS := qMOST_PINS, c_MOST_ROOM := qMOST_ROOM, c_MOST_STANDINGS := qMOST_STANDINGS, c_MOST_TICKS := qMOST_TICKS, c_MOST_WAITING := qMOST_WAITING, c_NOTHING := qNOTHING, c_TAP := qTAP, c_WAYS := qWAYS, m_abs := y_abs, m_all := y_all, m_any := y_any, m_bool := y_bool, m_enumerate := y_enumerate, m_int := y_int, m_isinstance := y_isinstance, m_len := y_len, m_list := y_list, m_max := y_max, m_min := y_min, m_range := y_range, m_sorted := y_sorted, m_str := y_str, m_tuple := y_tuple }
  have Fi1 := fun_mk (st := sIHouse) li1 ci1 ki1
  have Di1 : GI K mg C1 "House" "House.__init__" sIHouse ["self", "rule", "room", "top", "many", "goes", "lag"] := ⟨fi1, _, Fi1, ⟨mkC1, ai1, ii1, kpC1⟩, ggC1, Fi1.binds (ps := ["self", "rule", "room", "top", "many", "goes", "lag"]) fun _ _ _ _ _ _ us hl => match us, hl with | [_, _, _, _, _, _, _], _ => rfl⟩
  have Fi0 := fun_mk (st := sIRule) li0 ci0 ki0
  have Di0 : GI K mg C0 "Rule" "Rule.__init__" sIRule ["self", "way", "still", "hold", "pins", "guard"] := ⟨fi0, _, Fi0, ⟨mkC0, ai0, ii0, kpC0⟩, ggC0, Fi0.binds (ps := ["self", "way", "still", "hold", "pins", "guard"]) fun _ _ _ _ _ _ us hl => match us, hl with | [_, _, _, _, _, _], _ => rfl⟩
  have G_is_number : ∀ dw, Own l.prog w K mg base (cOf l.prog w C0 C1 tmsteps_of dw) 1 "is_number" Fis_number := fun dw => okis_number (T dw) Ddis_number 
  have G_is_number_within : ∀ dw, Own l.prog w K mg base (cOf l.prog w C0 C1 tmsteps_of dw) 2 "is_number_within" Fis_number_within := fun dw => okis_number_within (T dw) Ddis_number_within (G_is_number dw)
  have G_is_lag : ∀ dw, Own l.prog w K mg base (cOf l.prog w C0 C1 tmsteps_of dw) 3 "is_lag" Fis_lag := fun dw => okis_lag (T dw) Ddis_lag (G_is_number_within dw)
  have I_House : ∀ dw, OwnI l.prog w K mg base (cOf l.prog w C0 C1 tmsteps_of dw) 4 "House" 1 IHouse := fun dw => okIHouse (T dw) Di1 (G_is_number_within dw) (G_is_lag dw)
  have G_is_one_of : ∀ dw, Own l.prog w K mg base (cOf l.prog w C0 C1 tmsteps_of dw) 1 "is_one_of" Fis_one_of := fun dw => okis_one_of (T dw) Ddis_one_of 
  have I_Rule : ∀ dw, OwnI l.prog w K mg base (cOf l.prog w C0 C1 tmsteps_of dw) 3 "Rule" 0 IRule := fun dw => okIRule (T dw) Di0 (G_is_one_of dw) (G_is_number_within dw)
  have G_check_house : ∀ dw, OwnD l.prog w K mg base (cOf l.prog w C0 C1 tmsteps_of dw) 1 "check_house" Fcheck_house [(.str "house")] := fun dw => okcheck_house (T dw) Ddcheck_house 
  have G_walked : ∀ dw, OwnA1 l.prog w K mg base (cOf l.prog w C0 C1 tmsteps_of dw) 1 "walked" 3 Fwalked := fun dw => okwalked (T dw) Ddwalked 
  have G_first_standing : ∀ dw, Own l.prog w K mg base (cOf l.prog w C0 C1 tmsteps_of dw) 3 "first_standing" Ffirst_standing := fun dw => okfirst_standing (T dw) Ddfirst_standing (G_check_house dw)
  have G_changes_at : ∀ dw, Own l.prog w K mg base (cOf l.prog w C0 C1 tmsteps_of dw) 3 "changes_at" Fchanges_at := fun dw => okchanges_at (T dw) Ddchanges_at 
  have G_changed : ∀ dw, Own l.prog w K mg base (cOf l.prog w C0 C1 tmsteps_of dw) 1 "changed" Fchanged := fun dw => okchanged (T dw) Ddchanged 
  have G_must_draw : ∀ dw, Own l.prog w K mg base (cOf l.prog w C0 C1 tmsteps_of dw) 3 "must_draw" Fmust_draw := fun dw => okmust_draw (T dw) Ddmust_draw 
  have G_undrawn_rows : ∀ dw, Own l.prog w K mg base (cOf l.prog w C0 C1 tmsteps_of dw) 1 "undrawn_rows" Fundrawn_rows := fun dw => okundrawn_rows (T dw) Ddundrawn_rows 
  have G_place_by_way : ∀ dw, Own l.prog w K mg base (cOf l.prog w C0 C1 tmsteps_of dw) 1 "place_by_way" Fplace_by_way := fun dw => okplace_by_way (T dw) Ddplace_by_way 
  have G_place_for : ∀ dw, Own l.prog w K mg base (cOf l.prog w C0 C1 tmsteps_of dw) 3 "place_for" Fplace_for := fun dw => okplace_for (T dw) Ddplace_for (G_place_by_way dw)
  have G_drawn_rows : ∀ dw, Own l.prog w K mg base (cOf l.prog w C0 C1 tmsteps_of dw) 4 "drawn_rows" Fdrawn_rows := fun dw => okdrawn_rows (T dw) Dddrawn_rows (G_undrawn_rows dw) (G_place_for dw)
  have G_stood_on : ∀ dw, Own l.prog w K mg base (cOf l.prog w C0 C1 tmsteps_of dw) 3 "stood_on" Fstood_on := fun dw => okstood_on (T dw) Ddstood_on 
  have G_followed : ∀ dw, Own l.prog w K mg base (cOf l.prog w C0 C1 tmsteps_of dw) 1 "followed" Ffollowed := fun dw => okfollowed (T dw) Ddfollowed 
  have G_settled_at : ∀ dw, Own l.prog w K mg base (cOf l.prog w C0 C1 tmsteps_of dw) 5 "settled_at" Fsettled_at := fun dw => oksettled_at (T dw) Ddsettled_at (G_changed dw) (G_must_draw dw) (G_drawn_rows dw) (G_undrawn_rows dw) (G_followed dw) (G_stood_on dw)
  have G_hands_at : ∀ dw, Own l.prog w K mg base (cOf l.prog w C0 C1 tmsteps_of dw) 3 "hands_at" Fhands_at := fun dw => okhands_at (T dw) Ddhands_at 
  have G_outcome_of : ∀ dw, Own l.prog w K mg base (cOf l.prog w C0 C1 tmsteps_of dw) 3 "outcome_of" Foutcome_of := fun dw => okoutcome_of (T dw) Ddoutcome_of 
  have G_handled : ∀ dw, Own l.prog w K mg base (cOf l.prog w C0 C1 tmsteps_of dw) 4 "handled" Fhandled := fun dw => okhandled (T dw) Ddhandled (G_outcome_of dw)
  have G_steps_at : ∀ dw, Own l.prog w K mg base (cOf l.prog w C0 C1 tmsteps_of dw) 6 "steps_at" Fsteps_at := fun dw => oksteps_at (T dw) Ddsteps_at (G_changes_at dw) (G_settled_at dw) (G_hands_at dw) (G_handled dw)
  have G_steps_of : ∀ dw, Own l.prog w K mg base (cOf l.prog w C0 C1 tmsteps_of dw) 15 "steps_of" Fsteps_of := fun dw => oksteps_of (T dw) Ddsteps_of TBmsteps_of (by simp [cOf]) (fun p hp _ => by simpa [cOf] using congrArg Prod.snd (List.mem_singleton.mp hp)) (G_walked dw) (G_first_standing dw) (G_steps_at dw)
  have G_standings_of : ∀ dw, Own l.prog w K mg base (cOf l.prog w C0 C1 tmsteps_of dw) 16 "standings_of" Fstandings_of := fun dw => okstandings_of (T dw) Ddstandings_of (G_check_house dw) (G_steps_of dw)
  have G_are_ranks : ∀ dw, Own l.prog w K mg base (cOf l.prog w C0 C1 tmsteps_of dw) 3 "are_ranks" Fare_ranks := fun dw => okare_ranks (T dw) Ddare_ranks (G_is_number_within dw)
  have G_is_look : ∀ dw, Own l.prog w K mg base (cOf l.prog w C0 C1 tmsteps_of dw) 3 "is_look" Fis_look := fun dw => okis_look (T dw) Ddis_look (G_is_number_within dw)
  have G_is_item : ∀ dw, Own l.prog w K mg base (cOf l.prog w C0 C1 tmsteps_of dw) 3 "is_item" Fis_item := fun dw => okis_item (T dw) Ddis_item (G_is_number_within dw)
  have G_is_standing : ∀ dw, Own l.prog w K mg base (cOf l.prog w C0 C1 tmsteps_of dw) 4 "is_standing" Fis_standing := fun dw => okis_standing (T dw) Ddis_standing (G_check_house dw) (G_is_item dw) (G_are_ranks dw) (G_is_number_within dw) (G_is_look dw)
  have G_check_standing : ∀ dw, Own l.prog w K mg base (cOf l.prog w C0 C1 tmsteps_of dw) 5 "check_standing" Fcheck_standing := fun dw => okcheck_standing (T dw) Ddcheck_standing (G_is_standing dw)
  have G_last_ticks : ∀ dw, Own l.prog w K mg base (cOf l.prog w C0 C1 tmsteps_of dw) 1 "last_ticks" Flast_ticks := fun dw => oklast_ticks (T dw) Ddlast_ticks 
  have G_course_by : ∀ dw, Own l.prog w K mg base (cOf l.prog w C0 C1 tmsteps_of dw) 1 "course_by" Fcourse_by := fun dw => okcourse_by (T dw) Ddcourse_by 
  have G_course_to : ∀ dw, Own l.prog w K mg base (cOf l.prog w C0 C1 tmsteps_of dw) 16 "course_to" Fcourse_to := fun dw => okcourse_to (T dw) Ddcourse_to (G_check_standing dw) (G_last_ticks dw) (G_steps_of dw) (G_first_standing dw) (G_course_by dw)
  exact ok_law Flaw T I_House I_Rule G_standings_of G_first_standing G_course_to
end K27

open PySem PySem.W PyProof.Rows
set_option Elab.async false
set_option linter.all false
set_option maxRecDepth 100000 in
set_option pp.maxSteps 60 in
set_option pp.deepTerms false in
set_option maxHeartbeats 0 in
theorem PySem.Challenge.cw_undertap_k27_known_standings_holds : PySem.Challenge.rw_undertap_k27_known_standings.Holds := by
  w_on; o_law; k_head; (case hw => w_witness2)
  k_fill
  refine Gu.walkU (l := PySem.Challenge.rw_undertap_k27_known_standings) (n := 63) (k := 17) (x := "script") rfl (by decide) rfl ⟨rfl, by decide, by decide⟩ (fun w h Y => PySem.W.km_in_of Y) ?F
  case F =>
    intro w mg fa h tabs KX G hmg
    have hlaw : mg (PySem.Str.ofString "law") = some (.ref fa) := hmg
    clear hmg
    refine' K27.all_mk KX G hlaw (fun c P => tabs "steps_of" c P (by decide +kernel)) ?aC0 ?aC1 ?alaw ?llaw ?claw ?klaw ?adis_number ?ldis_number ?cdis_number ?kdis_number ?adis_number_within ?ldis_number_within ?cdis_number_within ?kdis_number_within ?adis_lag ?ldis_lag ?cdis_lag ?kdis_lag ?adis_one_of ?ldis_one_of ?cdis_one_of ?kdis_one_of ?adcheck_house ?ldcheck_house ?cdcheck_house ?kdcheck_house ?tdcheck_house ?adwalked ?ldwalked ?cdwalked ?kdwalked ?adfirst_standing ?ldfirst_standing ?cdfirst_standing ?kdfirst_standing ?adchanges_at ?ldchanges_at ?cdchanges_at ?kdchanges_at ?adchanged ?ldchanged ?cdchanged ?kdchanged ?admust_draw ?ldmust_draw ?cdmust_draw ?kdmust_draw ?adundrawn_rows ?ldundrawn_rows ?cdundrawn_rows ?kdundrawn_rows ?adplace_by_way ?ldplace_by_way ?cdplace_by_way ?kdplace_by_way ?adplace_for ?ldplace_for ?cdplace_for ?kdplace_for ?addrawn_rows ?lddrawn_rows ?cddrawn_rows ?kddrawn_rows ?adstood_on ?ldstood_on ?cdstood_on ?kdstood_on ?adfollowed ?ldfollowed ?cdfollowed ?kdfollowed ?adsettled_at ?ldsettled_at ?cdsettled_at ?kdsettled_at ?adhands_at ?ldhands_at ?cdhands_at ?kdhands_at ?adoutcome_of ?ldoutcome_of ?cdoutcome_of ?kdoutcome_of ?adhandled ?ldhandled ?cdhandled ?kdhandled ?adsteps_at ?ldsteps_at ?cdsteps_at ?kdsteps_at ?adsteps_of ?ldsteps_of ?cdsteps_of ?kdsteps_of ?lcmsteps_of ?vtmsteps_of ?ntmsteps_of ?adstandings_of ?ldstandings_of ?cdstandings_of ?kdstandings_of ?adare_ranks ?ldare_ranks ?cdare_ranks ?kdare_ranks ?adis_look ?ldis_look ?cdis_look ?kdis_look ?adis_item ?ldis_item ?cdis_item ?kdis_item ?adis_standing ?ldis_standing ?cdis_standing ?kdis_standing ?adcheck_standing ?ldcheck_standing ?cdcheck_standing ?kdcheck_standing ?adlast_ticks ?ldlast_ticks ?cdlast_ticks ?kdlast_ticks ?adcourse_by ?ldcourse_by ?cdcourse_by ?kdcourse_by ?adcourse_to ?ldcourse_to ?cdcourse_to ?kdcourse_to ?ai1 ?ii1 ?li1 ?ci1 ?ki1 ?ai0 ?ii0 ?li0 ?ci0 ?ki0 ?apgoes ?gpgoes ?tpgoes ?rpgoes ?lpgoes ?cpgoes ?kpgoes ?apguard ?gpguard ?tpguard ?rpguard ?lpguard ?cpguard ?kpguard ?aphold ?gphold ?tphold ?rphold ?lphold ?cphold ?kphold ?aplag ?gplag ?tplag ?rplag ?lplag ?cplag ?kplag ?apmany ?gpmany ?tpmany ?rpmany ?lpmany ?cpmany ?kpmany ?appins ?gppins ?tppins ?rppins ?lppins ?cppins ?kppins ?aproom ?gproom ?tproom ?rproom ?lproom ?cproom ?kproom ?aprule ?gprule ?tprule ?rprule ?lprule ?cprule ?kprule ?apstill ?gpstill ?tpstill ?rpstill ?lpstill ?cpstill ?kpstill ?aptop ?gptop ?tptop ?rptop ?lptop ?cptop ?kptop ?apway ?gpway ?tpway ?rpway ?lpway ?cpway ?kpway ?pgC0 ?hdC0 ?poC0 ?saC0 ?mkC0 ?kpC0 ?n0C0 ?n1C0 ?n2C0 ?n3C0 ?n4C0 ?haC0 ?hmC0 ?icC0 ?tcC0 ?pgC1 ?hdC1 ?poC1 ?saC1 ?mkC1 ?kpC1 ?n0C1 ?n1C1 ?n2C1 ?n3C1 ?n4C1 ?n5C1 ?haC1 ?hmC1 ?icC1 ?tcC1 ?s00 ?s01 ?s10 ?s11 ?hn ?ht ?aqGREATEST_LAG ?aqGREATEST_RANK ?aqMOST_PINS ?aqMOST_ROOM ?aqMOST_STANDINGS ?aqMOST_TICKS ?aqMOST_WAITING ?aqNOTHING ?lqNOTHING ?aqTAP ?lqTAP ?aqWAYS ?lqWAYS ?z_abs ?z_all ?z_any ?z_bool ?z_enumerate ?z_int ?z_isinstance ?z_len ?z_list ?z_max ?z_min ?z_range ?z_sorted ?z_str ?z_tuple
    (case aC0 => k_is)
    (case aC1 => k_is)
    (case alaw => k_is)
    (case llaw => k_is)
    (case claw => k_is)
    (case klaw => k_is)
    (case adis_number => k_is)
    (case ldis_number => k_is)
    (case cdis_number => k_is)
    (case kdis_number => k_is)
    (case adis_number_within => k_is)
    (case ldis_number_within => k_is)
    (case cdis_number_within => k_is)
    (case kdis_number_within => k_is)
    (case adis_lag => k_is)
    (case ldis_lag => k_is)
    (case cdis_lag => k_is)
    (case kdis_lag => k_is)
    (case adis_one_of => k_is)
    (case ldis_one_of => k_is)
    (case cdis_one_of => k_is)
    (case kdis_one_of => k_is)
    (case adcheck_house => k_is)
    (case ldcheck_house => k_is)
    (case cdcheck_house => k_is)
    (case kdcheck_house => k_is)
    (case tdcheck_house => k_is)
    (case adwalked => k_is)
    (case ldwalked => k_is)
    (case cdwalked => k_is)
    (case kdwalked => k_is)
    (case adfirst_standing => k_is)
    (case ldfirst_standing => k_is)
    (case cdfirst_standing => k_is)
    (case kdfirst_standing => k_is)
    (case adchanges_at => k_is)
    (case ldchanges_at => k_is)
    (case cdchanges_at => k_is)
    (case kdchanges_at => k_is)
    (case adchanged => k_is)
    (case ldchanged => k_is)
    (case cdchanged => k_is)
    (case kdchanged => k_is)
    (case admust_draw => k_is)
    (case ldmust_draw => k_is)
    (case cdmust_draw => k_is)
    (case kdmust_draw => k_is)
    (case adundrawn_rows => k_is)
    (case ldundrawn_rows => k_is)
    (case cdundrawn_rows => k_is)
    (case kdundrawn_rows => k_is)
    (case adplace_by_way => k_is)
    (case ldplace_by_way => k_is)
    (case cdplace_by_way => k_is)
    (case kdplace_by_way => k_is)
    (case adplace_for => k_is)
    (case ldplace_for => k_is)
    (case cdplace_for => k_is)
    (case kdplace_for => k_is)
    (case addrawn_rows => k_is)
    (case lddrawn_rows => k_is)
    (case cddrawn_rows => k_is)
    (case kddrawn_rows => k_is)
    (case adstood_on => k_is)
    (case ldstood_on => k_is)
    (case cdstood_on => k_is)
    (case kdstood_on => k_is)
    (case adfollowed => k_is)
    (case ldfollowed => k_is)
    (case cdfollowed => k_is)
    (case kdfollowed => k_is)
    (case adsettled_at => k_is)
    (case ldsettled_at => k_is)
    (case cdsettled_at => k_is)
    (case kdsettled_at => k_is)
    (case adhands_at => k_is)
    (case ldhands_at => k_is)
    (case cdhands_at => k_is)
    (case kdhands_at => k_is)
    (case adoutcome_of => k_is)
    (case ldoutcome_of => k_is)
    (case cdoutcome_of => k_is)
    (case kdoutcome_of => k_is)
    (case adhandled => k_is)
    (case ldhandled => k_is)
    (case cdhandled => k_is)
    (case kdhandled => k_is)
    (case adsteps_at => k_is)
    (case ldsteps_at => k_is)
    (case cdsteps_at => k_is)
    (case kdsteps_at => k_is)
    (case adsteps_of => k_is)
    (case ldsteps_of => k_is)
    (case cdsteps_of => k_is)
    (case kdsteps_of => k_is)
    (case lcmsteps_of => k_is)
    (case vtmsteps_of => rfl)
    (case ntmsteps_of => kernel_rfl)
    (case adstandings_of => k_is)
    (case ldstandings_of => k_is)
    (case cdstandings_of => k_is)
    (case kdstandings_of => k_is)
    (case adare_ranks => k_is)
    (case ldare_ranks => k_is)
    (case cdare_ranks => k_is)
    (case kdare_ranks => k_is)
    (case adis_look => k_is)
    (case ldis_look => k_is)
    (case cdis_look => k_is)
    (case kdis_look => k_is)
    (case adis_item => k_is)
    (case ldis_item => k_is)
    (case cdis_item => k_is)
    (case kdis_item => k_is)
    (case adis_standing => k_is)
    (case ldis_standing => k_is)
    (case cdis_standing => k_is)
    (case kdis_standing => k_is)
    (case adcheck_standing => k_is)
    (case ldcheck_standing => k_is)
    (case cdcheck_standing => k_is)
    (case kdcheck_standing => k_is)
    (case adlast_ticks => k_is)
    (case ldlast_ticks => k_is)
    (case cdlast_ticks => k_is)
    (case kdlast_ticks => k_is)
    (case adcourse_by => k_is)
    (case ldcourse_by => k_is)
    (case cdcourse_by => k_is)
    (case kdcourse_by => k_is)
    (case adcourse_to => k_is)
    (case ldcourse_to => k_is)
    (case cdcourse_to => k_is)
    (case kdcourse_to => k_is)
    (case ai1 => k_is)
    (case ii1 => k_is)
    (case li1 => k_is)
    (case ci1 => k_is)
    (case ki1 => k_is)
    (case ai0 => k_is)
    (case ii0 => k_is)
    (case li0 => k_is)
    (case ci0 => k_is)
    (case ki0 => k_is)
    (case apgoes => k_is)
    (case gpgoes => k_is)
    (case tpgoes => k_is)
    (case rpgoes => k_is)
    (case lpgoes => k_is)
    (case cpgoes => k_is)
    (case kpgoes => k_is)
    (case apguard => k_is)
    (case gpguard => k_is)
    (case tpguard => k_is)
    (case rpguard => k_is)
    (case lpguard => k_is)
    (case cpguard => k_is)
    (case kpguard => k_is)
    (case aphold => k_is)
    (case gphold => k_is)
    (case tphold => k_is)
    (case rphold => k_is)
    (case lphold => k_is)
    (case cphold => k_is)
    (case kphold => k_is)
    (case aplag => k_is)
    (case gplag => k_is)
    (case tplag => k_is)
    (case rplag => k_is)
    (case lplag => k_is)
    (case cplag => k_is)
    (case kplag => k_is)
    (case apmany => k_is)
    (case gpmany => k_is)
    (case tpmany => k_is)
    (case rpmany => k_is)
    (case lpmany => k_is)
    (case cpmany => k_is)
    (case kpmany => k_is)
    (case appins => k_is)
    (case gppins => k_is)
    (case tppins => k_is)
    (case rppins => k_is)
    (case lppins => k_is)
    (case cppins => k_is)
    (case kppins => k_is)
    (case aproom => k_is)
    (case gproom => k_is)
    (case tproom => k_is)
    (case rproom => k_is)
    (case lproom => k_is)
    (case cproom => k_is)
    (case kproom => k_is)
    (case aprule => k_is)
    (case gprule => k_is)
    (case tprule => k_is)
    (case rprule => k_is)
    (case lprule => k_is)
    (case cprule => k_is)
    (case kprule => k_is)
    (case apstill => k_is)
    (case gpstill => k_is)
    (case tpstill => k_is)
    (case rpstill => k_is)
    (case lpstill => k_is)
    (case cpstill => k_is)
    (case kpstill => k_is)
    (case aptop => k_is)
    (case gptop => k_is)
    (case tptop => k_is)
    (case rptop => k_is)
    (case lptop => k_is)
    (case cptop => k_is)
    (case kptop => k_is)
    (case apway => k_is)
    (case gpway => k_is)
    (case tpway => k_is)
    (case rpway => k_is)
    (case lpway => k_is)
    (case cpway => k_is)
    (case kpway => k_is)
    (case pgC0 => k_is)
    (case hdC0 => k_is)
    (case poC0 => k_is)
    (case saC0 => k_is)
    (case mkC0 => k_is)
    (case kpC0 => k_is)
    (case n0C0 => k_is)
    (case n1C0 => k_is)
    (case n2C0 => k_is)
    (case n3C0 => k_is)
    (case n4C0 => k_is)
    (case haC0 => k_is)
    (case hmC0 => k_is)
    (case icC0 => k_is)
    (case tcC0 => k_is)
    (case pgC1 => k_is)
    (case hdC1 => k_is)
    (case poC1 => k_is)
    (case saC1 => k_is)
    (case mkC1 => k_is)
    (case kpC1 => k_is)
    (case n0C1 => k_is)
    (case n1C1 => k_is)
    (case n2C1 => k_is)
    (case n3C1 => k_is)
    (case n4C1 => k_is)
    (case n5C1 => k_is)
    (case haC1 => k_is)
    (case hmC1 => k_is)
    (case icC1 => k_is)
    (case tcC1 => k_is)
    (case s00 => k_is)
    (case s01 => k_is)
    (case s10 => k_is)
    (case s11 => k_is)
    (case hn => k_is)
    (case ht => k_is)
    (case aqGREATEST_LAG => k_is)
    (case aqGREATEST_RANK => k_is)
    (case aqMOST_PINS => k_is)
    (case aqMOST_ROOM => k_is)
    (case aqMOST_STANDINGS => k_is)
    (case aqMOST_TICKS => k_is)
    (case aqMOST_WAITING => k_is)
    (case aqNOTHING => k_is)
    (case lqNOTHING => k_is)
    (case aqTAP => k_is)
    (case lqTAP => k_is)
    (case aqWAYS => k_is)
    (case lqWAYS => k_is)
    (case z_abs => k_is)
    (case z_all => k_is)
    (case z_any => k_is)
    (case z_bool => k_is)
    (case z_enumerate => k_is)
    (case z_int => k_is)
    (case z_isinstance => k_is)
    (case z_len => k_is)
    (case z_list => k_is)
    (case z_max => k_is)
    (case z_min => k_is)
    (case z_range => k_is)
    (case z_sorted => k_is)
    (case z_str => k_is)
    (case z_tuple => k_is)
