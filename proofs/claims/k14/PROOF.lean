import PyProof.Rows.All
import Wide.All
import OpenK.AllK
import Wide.FinOn
import HandS.ForMost
import HandS.Wide
import HandS.IsInst
import HandS.Property
import HandS.MakeKw
import HandS.More
import HandS.OwnEq
import HandS.Codes
import HandS.MakeKwOnly
import HandS.Small
import HandS.Ends
import HandS.Exc
import HandS.ExcValue
import HandS.ExcInit
import HandS.Deep
import HandS.TupAny
import HandS.Style
import KE.KeyNested
import HandS.Comp
import HandS.Iter
import KE.GoesEnum
import HandS.Words
import HandS.WordsExc
import HandS.Defaults
import HandS.Dict
import HandS.WordsDict
import HandS.SortInts
import PySem.Challenge.RW_undertap_k14_whole_what_rules_bar
set_option Elab.async false
set_option linter.all false
set_option maxRecDepth 100000
/-! What all laws share: the state of the draws. -/
namespace Dr
open PySem PySem.Spec PyProof.Rows L2
/-- the pairs of the draws' dict -/
def kD (g c : Addr) (r t : Int) : List (Key × V) := [(.inr "great", .ref g), (.inr "rest", .int r), (.inr "cells", .ref c), (.inr "turn", .int t)]
theorem k_great (g c : Addr) (r t : Int) : valV (kD g c r t) (.inr "great") = some (.ref g) := valV_pos rfl
theorem k_rest (g c : Addr) (r t : Int) : valV (kD g c r t) (.inr "rest") = some (.int r) :=
  (valV_neg (show ¬ (.inr "great" : Key) = .inr "rest" by decide +kernel)).trans (valV_pos rfl)
theorem k_cells (g c : Addr) (r t : Int) : valV (kD g c r t) (.inr "cells") = some (.ref c) :=
  (valV_neg (show ¬ (.inr "great" : Key) = .inr "cells" by decide +kernel)).trans ((valV_neg (show ¬ (.inr "rest" : Key) = .inr "cells" by decide +kernel)).trans (valV_pos rfl))
theorem k_turn (g c : Addr) (r t : Int) : valV (kD g c r t) (.inr "turn") = some (.int t) :=
  (valV_neg (show ¬ (.inr "great" : Key) = .inr "turn" by decide +kernel)).trans ((valV_neg (show ¬ (.inr "rest" : Key) = .inr "turn" by decide +kernel)).trans ((valV_neg (show ¬ (.inr "cells" : Key) = .inr "turn" by decide +kernel)).trans (valV_pos rfl)))
theorem p_rest (g c : Addr) (r t x : Int) : putK (kD g c r t) (.inr "rest") (.int x) = kD g c x t := by kernel_rfl
theorem p_turn (g c : Addr) (r t x : Int) : putK (kD g c r t) (.inr "turn") (.int x) = kD g c r x := by kernel_rfl
theorem dg_of {H : Hp} {d : Addr} {kvs : List (Key × V)} {x : Str} {v : V} (h : H d = some (.dK kvs)) (e : valV kvs (.inr x) = some v) : DGet H d (.str x) (some v) := by
  have q := DGet.k (k := .inr x) h
  rw [e] at q
  exact q
theorem dp_of {H : Hp} {d : Addr} {kvs kvs' : List (Key × V)} {x : Str} {v : V} (h : H d = some (.dK kvs)) (e : putK kvs (.inr x) v = kvs') (hl : kvs.length < sizeLine) : DPut H d (.str x) v (upd H d (.dK kvs')) := by
  have q := DPut.k (k := .inr x) (v := v) h hl
  rw [e] at q
  exact q
theorem kD_len (g c : Addr) (r t : Int) : (kD g c r t).length < sizeLine := small1000 (show 4 ≤ 1000 by decide)
theorem ints_dp {K : PySem.W.Frag} {H : Hp} : ∀ ns : List Int, DpAll K H (ns.map V.int) (ns.map PyData.int)
  | [] => .nil
  | n :: r => .cons (.int n) (ints_dp r)
theorem ints_lay : ∀ ns : List Int, PyData.canLayAll0 (ns.map PyData.int) = true
  | [] => by simp [PyData.canLayAll0]
  | n :: r => by simp [PyData.canLayAll0, PyData.canLay0, ints_lay r]
theorem ints_depth : ∀ ns : List Int, PyData.depthAll (ns.map PyData.int) = 0
  | [] => by simp [PyData.depthAll]
  | n :: r => by simp [PyData.depthAll, PyData.depth, ints_depth r]
theorem ints_shaped (ns : List Int) : SeqAt.shaped (.list (ns.map PyData.int)) = true := by
  have h1 := ints_depth ns
  have h2 : PyData.depth (.list (ns.map PyData.int)) ≤ 64 := by
    simp only [PyData.depth]
    omega
  show (PyData.canLay0 (.list (ns.map PyData.int)) && decide (PyData.depth (.list (ns.map PyData.int)) ≤ 64)) = true
  rw [Bool.and_eq_true]
  exact ⟨by simp only [PyData.canLay0]; exact ints_lay ns, decide_eq_true h2⟩
/-- the draws stand at d: their large numbers at g, all numbers at c -/
structure Dw (H : Hp) (d g c : Addr) : Prop where
  ex : ∃ (gs cs : List Int) (r t : Int), H d = some (.dK (kD g c r t)) ∧ H g = some (.lst (gs.map V.int)) ∧ H c = some (.lst (cs.map V.int))
  gc : g ≠ c
/-- all but the draws' dict and their large numbers stands as it stood -/
def Fr2 (d g : Addr) (H H' : Hp) : Prop := ∀ b o, b ≠ d → b ≠ g → H b = some o → H' b = some o
theorem Fr2.refl {d g : Addr} (H : Hp) : Fr2 d g H H := fun _ _ _ _ h => h
theorem Fr2.trans {d g : Addr} {H H1 H2 : Hp} (a : Fr2 d g H H1) (b : Fr2 d g H1 H2) : Fr2 d g H H2 := fun c o h1 h2 h => b c o h1 h2 (a c o h1 h2 h)
theorem Fr2.same {d g : Addr} {H H' : Hp} (a : Same H H') : Fr2 d g H H' := fun c o _ _ h => a c o h
theorem Fr2.new {d g p : Addr} {H H' : Hp} {o : HO} (a : Fr2 d g H H') (n : H' p = none) : Fr2 d g H (upd H' p o) := fun b u h1 h2 h => by
  have e := a b u h1 h2 h
  rw [upd_ne (ne_of_none e n)]
  exact e
theorem Dw.dg {H : Hp} {d g c : Addr} (D : Dw H d g c) : d ≠ g := by
  obtain ⟨⟨gs, cs, r, t, hd, hg, hc⟩, _⟩ := D
  exact ne_of hd hg (by intro z; cases z)
theorem Dw.dc {H : Hp} {d g c : Addr} (D : Dw H d g c) : d ≠ c := by
  obtain ⟨⟨gs, cs, r, t, hd, hg, hc⟩, _⟩ := D
  exact ne_of hd hc (by intro z; cases z)
theorem Dw.keep {H H' : Hp} {d g c : Addr} (D : Dw H d g c) (k : ∀ b o, b = d ∨ b = g ∨ b = c → H b = some o → H' b = some o) : Dw H' d g c := by
  obtain ⟨⟨gs, cs, r, t, hd, hg, hc⟩, gc⟩ := D
  exact ⟨⟨gs, cs, r, t, k _ _ (.inl rfl) hd, k _ _ (.inr (.inl rfl)) hg, k _ _ (.inr (.inr rfl)) hc⟩, gc⟩
theorem Dw.new {H : Hp} {d g c p : Addr} {o : HO} (D : Dw H d g c) (n : H p = none) : Dw (upd H p o) d g c := D.keep fun b u _ e => by
  rw [upd_ne (ne_of_none e n)]
  exact e
theorem Dw.same {H H' : Hp} {d g c : Addr} (D : Dw H d g c) (k : Same H H') : Dw H' d g c := D.keep fun b u _ e => k b u e
theorem same_upd {H : Hp} {p : Addr} {o : HO} (h : H p = none) : Same H (upd H p o) := fun b x e => by
  rw [upd_ne (ne_of_none e h)]
  exact e
/-- a number from 0 to m - 1 is drawn -/
def spTake : Sp := fun vs H Q _ => ∃ (d g c : Addr) (m : Int), vs = [.ref d, .int m] ∧ Dw H d g c ∧ 0 < m ∧ m < 1000000 ∧
  ∀ (i : Int) (H' : Hp), 0 ≤ i → i < m → Dw H' d g c → Fr2 d g H H' → Q (.int i) H'
/-- one of the items is drawn -/
def spPick : Sp := fun vs H Q _ => ∃ (d g c s : Addr) (xs : List V), vs = [.ref d, .ref s] ∧ Dw H d g c ∧ H s = some (.lst xs) ∧ s ≠ g ∧ xs ≠ [] ∧ xs.length < 1000 ∧
  ∀ (i : Nat) (x : V) (H' : Hp), xs[i]? = some x → Dw H' d g c → Fr2 d g H H' → Q x H'
/-- a number from 0 on, mixed; the draws go on -/
def spBlend : Sp := fun vs H Q _ => ∃ (d g c : Addr) (gs cs : List Int) (r t : Int), vs = [.ref d] ∧ H d = some (.dK (kD g c r t)) ∧ H g = some (.lst (gs.map V.int)) ∧ H c = some (.lst (cs.map V.int)) ∧ g ≠ c ∧
  ∀ (i : Int) (H' : Hp), (∀ b o, b ≠ d → H b = some o → H' b = some o) → H' d = some (.dK (kD g c r (t + 1))) → Q (.int i) H'
def spBegin (K : PySem.W.Frag) : Sp := fun vs H Q _ => ∃ (a : Addr) (ns : List Int), vs = [.ref a] ∧ SqL K H a (ns.map V.int) ∧ ns.length ≤ 63 ∧
  ∀ (d g c : Addr) (H' : Hp), Same H H' → H d = none → H g = none → H c = none → Dw H' d g c → Q (.ref d) H'
end Dr

/-! Defs that are called only where no guard of repr stands on the stack: repr of data shows its whole text there. -/
namespace Gd
open PySem PySem.Spec PyProof.Rows L2 Dr
section
variable {P : Program} {w : World} {K : PySem.W.Frag} {mg : Str → Option Value} {base : Heap} {CX : CXT} {k : Nat} {f : Addr} {fd : FuncData} {ps : List Str} {sp : Sp}
/-- the promise of a def, kept where no guard stands on the stack -/
structure FnG (P : Program) (w : World) (K : PySem.W.Frag) (mg : Str → Option Value) (base : Heap)
    (k : Nat) (f : Addr) (fd : FuncData) (ps : List Str) (sp : Sp) : Prop where
  many : ∀ xs G R W, sp xs G R W → xs.length = ps.length
  goes : ∀ (B : Around) (below : List Env) (z : Shared) (G : Hp) (as : Args) (ys : List Value) (xs : List V) (R : VK) (W : XK),
    B.guards = some [] → Room k B → Env0 P w K mg base B below z G → BindsTo z fd as (ps.zip ys) → Vals xs ys →
    sp xs G R W → codeAny (model P w) B (.call (.ref f) as) (CR CX0 below P w G z R W) z
/-- a def of the text, by its body -/
theorem okG {x qual : Str} {st : Stmt} {N : List Str} (F : Fun K x qual st f fd) (S : FnScope N ps (defScope st))
    (many : ∀ xs G R W, sp xs G R W → xs.length = ps.length)
    (body : ∀ (c : Value) (B : Around) (below : List Env) (z : Shared) (G : Hp) (xs : List V) (R : VK) (W : XK), B.guards = some [] →
      Room k (B.deeper (envOfC qual (defScope st) z.heap.objs.size f c)) → sp xs G R W →
      ∃ t, PSs (cxOf CX0 P w K mg base N qual (defScope st) f c B below z G W).nox (defBody st) t ∧
        t { nx := fun _ G' => R .non G', rt := R } (start N xs) G) : FnG P w K mg base (k + 1) f fd ps sp := by
  obtain ⟨oc, od, kV, doc, pm, an, c, ct, osl, rfl, look, code⟩ := F.ex
  refine ⟨many, ?_⟩
  intro B below z G as ys xs R W gd room e0 bind rel holds
  have old : ∀ b o, base.get? b = some o → z.heap.get? b = some o := fun b o q => (e0.bs b o q).1
  have inK := e0.mod.kin.keeps old
  have slots : ∀ y ∈ ps.zip ys, (defScope st).names.lookup y.1 = some .local ∨ ((defScope st).names.lookup y.1 = some .cell ∧
      ((cellsFrom (z.heap.objs.size + 1) (defScope st).names []).lookup y.1).isSome = true) := by
    rintro ⟨n, v⟩ hy
    cases S.par n (List.of_mem_zip hy).1 with
    | inl q => exact .inl q
    | inr q => exact .inr ⟨q, PySem.W.cellsFrom_some _ _ _ (.inl q)⟩
  apply codeAny_call_function room.depth (inK _ _ look) rfl S.co S.gen rfl (PySem.W.codeRec_of inK code) (bind _ _ _ _ _)
  apply wpAny_newFunctionEnv_cells S.kind slots
  intro env henv z1 started
  subst henv
  refine ⟨(e0.mod.nolimit.keeps old).keeps started.toInCall.keep, codeAny_func ?_⟩
  obtain ⟨t, walk, asks⟩ := body c B below z G xs R W gd (room.deeper _) holds
  have inv := inv_start (CX := CX0) (E := W) S room.hd e0 (many _ _ _ _ holds) rel started
  refine wpAny_mono (walk.nox.run [] z1 (start N xs) G _ inv asks) ?_ (fun _ _ q => q)
  intro fl z2 q
  cases fl with
  | next =>
    obtain ⟨_, G', J, q⟩ := q
    exact ⟨.non, G', J.os, J.bare, J.base, J.hok, rfl, q⟩
  | ret u =>
    obtain ⟨v, _, G', J, rv, q⟩ := q
    exact ⟨v, G', J.os, J.bare, J.base, J.hok, rv, q⟩
  | brk => obtain ⟨_, _, _, no⟩ := q; exact False.elim no
  | cont => obtain ⟨_, _, _, no⟩ := q; exact False.elim no
end
section
variable {X : Cx} {k : Nat} {f : Addr} {fd : FuncData} {ps : List Str} {sp : Sp} {dvs : List V} {ds : List Value} {x : Str} {p pos : Pos} {e : Expr} {es : List Expr} {t : TA}
/-- such a def is called by its name -/
theorem pe_callG (F : FnG X.prog X.w X.K X.mg X.base k f fd ps sp) (gd : X.A.guards = some []) (room : Room k X.A) (glob : Gl X x) (here : X.mg x = some (.ref f))
    (kept : PySem.W.keepIn X.K (.ref f) = true) (bind : L2.Binds X.K fd ps ds) (dflt : Vals dvs ds) (args : PA X (e :: es) t)
    (nm : (x == ("__debug__" : Str)) = false := by decide) (each : starEach (e :: es) X.env = (false, eval e X.env) :: starEach es X.env := by rfl)
    (plain : (backTo pos (starEach es X.env)).any (·.1) = false := by rfl) : PE X (.Call (.Name x p) (e :: es) [] pos) (tCall sp dvs E0 t) := by
  constructor
  intro pins z σ G R I asks
  apply wpAny_Call_Name_kw (ld_glob I glob here ?_ nm)
  apply PySem.W.callWith_K (h₀ := X.base) I.ok.mod.kin kept ?_ each plain
  apply thn (args.run pos pins z σ G _ I asks)
  rintro us z1 ⟨vs, G1, I1, r, q⟩
  refine ⟨I1.kIn, ?_⟩
  have rel := r.append dflt
  have many : (us ++ ds).length = ps.length := rel.length ▸ F.many _ _ _ _ q
  apply wpAny_call (codeAny_mono (F.goes X.A X.stack z1 G1 ⟨us, []⟩ (us ++ ds) (vs ++ dvs) _ E0 gd room I1.env0 (bind z1 us I1.kIn many) rel q) ?_)
  intro end1 z2 hq
  cases end1 with
  | error _ => exact False.elim hq
  | ok fl => cases fl with
    | ret _ => exact I1.after hq
    | next => exact False.elim hq
    | brk => exact False.elim hq
    | cont => exact False.elim hq
/-- repr of data: the text that they show -/
theorem call_repr (gd : X.A.guards = some []) (room : X.A.units + 66 < cLine) : CallR X (.builtin "repr") (fun xs G R => ∃ x d, xs = [x] ∧ Dp X.K G x d ∧
    d.showable = true ∧ d.hasDict = false ∧ d.depth ≤ 64 ∧ d.shown.length ≤ sizeLine ∧ R (.str d.shown) G) := by
  rintro pins z σ G xs us R I rel ⟨x, d, rfl, hd, h1, h2, h3, h4, q⟩
  obtain ⟨u, rfl, ru⟩ := vals1 rel
  obtain ⟨as, rd⟩ := Dp.reads I d x u hd ru
  cases hd with
  | non => cases ru; exact PySem.P.repr_of_none ⟨.str _, G, I.tok _, ⟨_, rfl⟩, q⟩
  | bl b => cases ru; exact PySem.P.repr_of_bool ⟨.str _, G, I.tok _, ⟨_, rfl⟩, q⟩
  | int i => obtain ⟨t, rfl⟩ := ru; exact PySem.P.repr_of_int (of_decide_eq_true h1) ⟨.str _, G, I.tok _, ⟨_, rfl⟩, q⟩
  | str y => obtain ⟨t, rfl⟩ := ru; exact PySem.P.repr_of_str ⟨.str _, G, I.tok _, ⟨_, rfl⟩, q⟩ h4
  | lst _ _ =>
    cases ru
    exact repr_of_reads' rd h1 (fun z => by rw [h2] at z; cases z) gd (by omega) (fun _ _ z => z) (fun h' _ tk more => ⟨.str _, G, I.kept more, ⟨_, rfl⟩, q⟩) h4
  | tup _ _ =>
    cases ru
    exact repr_of_reads' rd h1 (fun z => by rw [h2] at z; cases z) gd (by omega) (fun _ _ z => z) (fun h' _ tk more => ⟨.str _, G, I.kept more, ⟨_, rfl⟩, q⟩) h4
end
/-- the law's own end, its def kept where no guard stands -/
theorem walkG {l : PySem.W.OpenLaw} {n k : Nat} {q : Program} {loose : List Str} {XP : (Str → Option Value) → Heap → Prop} {YP : World → Heap → Prop} {d : DefRec}
    {K : Params → PySem.W.Frag} {sp : World → Sp} {x : Str}
    (most : l.most = some n) (line : n ≤ sizeLine) (plain : d.params.defaults = []) (room : Room k callerA)
    (inK : ∀ (w : World) (h : Heap), YP w h → (K w.params).In h)
    (F : ∀ (w : World) (mg : Str → Option Value) (fa : Addr) (h : Heap), (K w.params).In h → h.Ns mainGlobals mg → mg d.name = some (.ref fa) →
      ∃ fd : FuncData, (∀ (z : Shared) (u : Value), BindsTo z fd ⟨[u], []⟩ [(x, u)]) ∧
        ∀ base : Heap, (K w.params).In base → base.Ns mainGlobals mg → FnG l.prog w (K w.params) mg base k fa fd [x] (sp w))
    (asks : ∀ (w : World) (G : Hp) (a : Addr) (ns : List Int), ns.length ≤ n → Only G → SqL (K w.params) G a (ns.map V.int) → sp w [.ref a] G (fun v _ => v = .bl true) E0) :
    PySem.W.WalkO q loose XP YP l.row.toRowW d [] (fun f vs => PySem.call f vs) := by
  apply Att.attach_call most plain
  intro w s₀ z mg mb fa o pm cd doc a vs ns ground Y ho hd hcd here isl areI few gens
  obtain ⟨fd, bind, F⟩ := F w mg fa _ (inK w _ Y) ground.T.g here
  have KX := inK w _ Y
  have rel := vals_ints areI
  have lenV := areI.length
  have few' : ns.length ≤ sizeLine := Nat.le_trans few line
  -- nothing but the script is tracked; what is written stands in the base
  have core : ∀ G : Hp, Only G → SqL (K w.params) G a (ns.map V.int) → HOk l.prog w G z.heap → (∀ b, b ≠ a → G b = none) → (G a ≠ none → (K w.params).lookup a = none) →
      codeAny (model l.prog w) callerA (.call (.ref fa) ⟨[.ref a], []⟩)
        (fun r s' => r = .ok (.ret (.bool true)) ∧ OldK z.heap s'.heap ∧ s'.os = z.os ∧ AllBare s'.gens) z := by
    intro G only isS ok alone outside
    have keepB : ∀ {b : Addr} {u : Obj}, z.heap.get? b = some u → b ≠ a → (hidT z.heap G).get? b = some u := fun e ne => hidT_get e (alone _ ne)
    have nsB : ∀ {b : Addr} {m : Str → Option Value}, z.heap.Ns b m → (hidT z.heap G).Ns b m := by
      rintro b m ⟨u, es, ep, e, hdat, r⟩
      refine ⟨u, es, ep, keepB e fun same => ?_, hdat, r⟩
      rw [same, isl] at e
      cases e
      exact nomatch hdat
    have kB : (K w.params).In (hidT z.heap G) := by
      intro b u e
      cases hG : G b with
      | none => exact hidT_get (KX b u e) hG
      | some v =>
        have same : b = a := Classical.byContradiction fun ne => by rw [alone b ne] at hG; cases hG
        subst same
        rw [outside (by rw [hG]; simp)] at e
        cases e
    have mod : Mod (K w.params) mg (hidT z.heap G) :=
      ⟨kB, nsB ground.T.g, ⟨mb, nsB ground.T.b, ground.T.builtins⟩, let ⟨mc, i1, i2⟩ := ground.T.nolimit; ⟨mc, nsB i1, i2⟩⟩
    have e0 : Env0 l.prog w (K w.params) mg (hidT z.heap G) callerA [] z G :=
      { frames := rfl, mod := mod, bs := fun _ _ e => of_hidT e, bsz := Nat.le_of_eq (hidT_size _ _), funs := trivial, frf := fun b no => (nomatch no), hok := ok, bare := .of_eq gens }
    refine codeAny_mono ((F _ kB (nsB ground.T.g)).goes callerA [] z G _ [.ref a] [.ref a] _ _ rfl room e0 (bind z (.ref a)) (.cons rfl .nil) (asks w G a ns few only isS)) ?_
    intro end1 z2 hq
    cases end1 with
    | error _ => exact False.elim hq
    | ok fl => cases fl with
      | next => exact False.elim hq
      | brk => exact False.elim hq
      | cont => exact False.elim hq
      | ret u =>
        obtain ⟨v, G', os, bare, un, ok', rv, isT⟩ := hq
        obtain rfl : v = .bl true := isT
        obtain rfl : u = Value.bool true := rv
        refine ⟨rfl, OldK.of_keep fun b u e => ?_, os, bare⟩
        cases hG : G b with
        | none => exact un.keep b u e hG (fun no => nomatch no) (fun no => nomatch no)
        | some v =>
          cases only b with
          | inl no => rw [hG] at no; cases no
          | inr lock =>
            obtain ⟨ob, ys, lock⟩ := lock
            have one := (ok b _ lock).1
            rw [e] at one
            cases one
            exact (ok' b _ (un.frzs b _ _ lock)).1
  cases hK : (K w.params).lookup a with
  | none =>
    let G : Hp := fun b => if b = a then some (.frz { cls := .type "list", data := .seq vs.toArray } (.lst (ns.map V.int))) else none
    have at_a : G a = some (.frz { cls := .type "list", data := .seq vs.toArray } (.lst (ns.map V.int))) := if_pos rfl
    have off : ∀ b, b ≠ a → G b = none := fun b ne => if_neg ne
    refine core G (fun b => ?_) (.inl (.inr ⟨_, at_a⟩)) (fun b u hG => ?_) off fun _ => hK
    · by_cases ne : b = a
      · subst ne; exact .inr ⟨_, _, at_a⟩
      · exact .inl (off b ne)
    · by_cases ne : b = a
      · subst ne
        rw [at_a] at hG
        cases hG
        exact ⟨isl, by rw [List.length_map]; exact few', vs, _, rel, isl⟩
      · rw [off b ne] at hG
        cases hG
  | some o2 =>
    have own := KX a o2 hK
    rw [isl] at own
    cases own
    exact core (fun _ => none) (fun _ => .inl rfl) (.inr ⟨_, vs.toArray, _, hK, rfl, rfl, rfl, by rw [List.size_toArray, lenV]; exact few', by simpa using rel⟩)
      (fun b u no => nomatch no) (fun _ _ => rfl) (fun no => absurd rfl no)
end Gd

/-! == and != where the left side is an instance whose class has an own __eq__ (and no own __ne__): both answers, beside anything. -/
namespace Oe
open PySem PySem.Spec PyProof.Rows L2 Dr
section
variable {prog : Program} {w : World} {A : Around} {E : Value → Shared → Prop} {z : Shared} {K : PySem.W.Frag} {x C f : Addr} {ox : Obj} {od : Option Obj} {b : Value}
/-- a found builtin is called as a special method -/
theorem special_blt {M : Model} {name : Str} {id : String} {as : List Value} {Q : Option Value → Shared → Prop} (inK : K.In z.heap) (I : PySem.W.InstAt z.heap x ox C od)
    (found : PySem.W.findIn K (.ref C) name = some (some (.builtin id))) (plain : bindSpecial (.builtin id) (.ref x) = pure (.builtin id, [.ref x]))
    (go : wpAny M A (call (.builtin id) (.ref x :: as)) (fun v => Q (some v)) E z) : wpAny M A (callSpecialIfBound? (.ref x) name as) Q E z := by
  unfold callSpecialIfBound? bindSpecialIfBound?
  apply wpAny_holding
  apply wpAny_bind
  apply wpAny_bind
  apply wpAny_bind
  refine I.type.here ((PySem.W.looks_findIn inK found).here ?_)
  apply wpAny_bind
  apply wpAny_askSetting
  apply wpAny_ite
  have fin : wpAny M A (call (.builtin id) ([.ref x] ++ as) >>= fun v => pure (some v)) Q E z := wpAny_bind (wpAny_mono go (fun _ _ q => wpAny_pure q) fun _ _ q => q)
  split
  · exact wpAny_bind ((PySem.W.Looks.of_pure plain).here (wpAny_pure (by exact fin)))
  · exact wpAny_tryCatch (wpAny_bind ((PySem.W.Looks.of_pure plain).here (wpAny_pure (by exact fin))))
/-- object.__ne__ asks the own __eq__ -/
theorem object_ne {Q : Value → Shared → Prop} (inK : K.In z.heap) (I : PySem.W.InstAt z.heap x ox C od) (isO : PySem.W.mroIn K C (.type "object") = some true)
    (found : PySem.W.findIn K (.ref C) "__eq__" = some (some (.ref f))) (isF : PySem.W.isFn K (.ref f) = true) (room : A.units + 2 < cLine)
    (go : wpAny (model prog w) A.in1 (call (.ref f) [.ref x, b]) (fun v s' => ∃ r, v = .bool r ∧ Q (.bool (!r)) s') E z) :
    wpAny (model prog w) A (call (.builtin "object.__ne__") [.ref x, b]) Q E z := by
  have sub : PySem.W.Looks (model prog w) z.heap (isInstance (.ref x) (.type "object")) true := I.type.andThen (PySem.W.looks_mroIn inK isO)
  apply wpAny_call
  apply codeAny_call_builtin PySem.F.cmp_object.ne.plain PySem.F.cmpEntry_ne
  refine PySem.W.check_slot (self := .ref x) (rest := [b]) (kw := []) PySem.F.cmpKind_ne PySem.F.cmpSplit_ne sub (PySem.F.cmpArgs_ne _ _) ?_
  unfold Builtin.«object.__ne__»
  have run : wpAny (model prog w) A.in1 (callSpecialIfBound? (.ref x) (Str.ofString "__eq__") [b]) (fun v s' => ∃ r, v = some (.bool r) ∧ Q (.bool (!r)) s') E z :=
    PySem.W.ifBound_K inK I found isF (wpAny_mono go (fun v s' ⟨r, e, q⟩ => ⟨r, by rw [e], q⟩) fun _ _ q => q)
  repeat (first
    | with_reducible refine wpAny_cRoomFor (show A.in1.units < cLine from by show A.units + 1 < cLine; omega) ?_
    | (refine wpAny_bind (m := callSpecialIfBound? (.ref x) (Str.ofString "__eq__") [b]) (wpAny_mono run (fun v s' hv => ?_) fun _ _ q => q))
    | wp_step)
  obtain ⟨r, rfl, q⟩ := hv
  repeat (first | exact q | exact wpAny_pure q | exact wpAny_truthy_bool q | (refine wpAny_bind (m := truthy (.bool _)) (wpAny_truthy_bool ?_)) | wp_step)
/-- x != b, x an instance with its own __eq__ -/
theorem rc_ne {Q : Value → Shared → Prop} {tb : Value} (inK : K.In z.heap) (I : PySem.W.InstAt z.heap x ox C od) (isO : PySem.W.mroIn K C (.type "object") = some true)
    (none_ : PySem.W.findIn K (.ref C) "__ne__" = some (some (.builtin "object.__ne__"))) (found : PySem.W.findIn K (.ref C) "__eq__" = some (some (.ref f))) (isF : PySem.W.isFn K (.ref f) = true)
    (right : PySem.W.Looks (model prog w) z.heap (typeOf b) tb) (first : PySem.W.notFirst K C tb = true) (room : A.units + 3 < cLine)
    (go : wpAny (model prog w) A.in1 (call (.ref f) [.ref x, b]) (fun v s' => ∃ r, v = .bool r ∧ Q (.bool (!r)) s') E z) :
    wpAny (model prog w) A (richCompare .NotEq (.ref x) b) Q E z := by
  have one : wpAny (model prog w) A (tryCompare (.ref x) (cmpInfo .NotEq).2.1 b) (fun o s' => ∃ r, o = some (.bool (!r)) ∧ Q (.bool (!r)) s') E z := by
    unfold tryCompare
    apply wpAny_bind
    refine special_blt inK I none_ (PySem.F.cmp_object.ne.bind _) (object_ne inK I isO found isF (by omega) (wpAny_mono go (fun v s' ⟨r, e, q⟩ => ⟨r, e, ?_⟩) fun _ _ q => q))
    exact wpAny_pure ⟨r, rfl, q⟩
  unfold richCompare
  simp only [oneThing_ref]
  apply wpAny_holding
  apply wpAny_bind
  refine wpAny_cRoomFor (by omega) ?_
  apply wpAny_bind
  refine I.type.here ?_
  apply wpAny_bind
  refine right.here ?_
  split
  · rename_i differ
    have below : PySem.W.subIn K tb (.ref C) = some false := by
      cases Bool.or_eq_true_iff.mp first with
      | inl e => rw [beq_iff_eq.mp e] at differ; simp at differ
      | inr e => exact beq_iff_eq.mp e
    apply wpAny_bind
    refine (PySem.W.looks_subIn inK below).here ?_
    simp only [Bool.false_eq_true, if_false]
    apply wpAny_bind
    refine wpAny_mono one (fun o s' ⟨r, e, q⟩ => ?_) fun _ _ q => q
    subst e
    exact wpAny_pure q
  · apply wpAny_bind
    apply wpAny_pure
    simp only [Bool.false_eq_true, if_false]
    apply wpAny_bind
    refine wpAny_mono one (fun o s' ⟨r, e, q⟩ => ?_) fun _ _ q => q
    subst e
    exact wpAny_pure q
end
section
variable {X : Cx} {k : Nat} {C f : Addr} {fd : FuncData} {ps : List Str} {sp : Sp}
/-- what a class with an own __eq__ says of itself -/
structure OwnEq (K : PySem.W.Frag) (C f : Addr) : Prop where
  eq : PySem.W.findIn K (.ref C) "__eq__" = some (some (.ref f))
  ne : PySem.W.findIn K (.ref C) "__ne__" = some (some (.builtin "object.__ne__"))
  fn : PySem.W.isFn K (.ref f) = true
  ob : PySem.W.mroIn K C (.type "object") = some true
/-- left.__eq__(right), asked by its promise -/
def rOwn (K : PySem.W.Frag) (C : Addr) (sp : Sp) (g : Bool → Bool) : R2 := fun x y H Q => ∃ a dx fs t, x = .ref a ∧ H a = some (.ins C dx fs) ∧ TyX K H y t ∧ PySem.W.notFirst K C t = true ∧
  sp [x, y] H (fun v H' => ∃ b, v = .bl b ∧ Q (.bl (g b)) H') E0
theorem own_run {A : Around} {pins : List (Addr × Obj)} {σ : L2.St} {H : Hp} {s : Shared} {Q : VK} {x : Addr} {y : V} {u : Value} (F : FnOk X.prog X.w X.K X.mg X.base CX0 k f fd ps sp) (hr : Room k A) (fr : A.frames = X.A.frames) (hb : L2.Binds X.K fd ps []) (I : Inv X pins σ H s) (ry : RelV y u)
    (q : sp [.ref x, y] H Q E0) : wpAny (model X.prog X.w) A (call (.ref f) [.ref x, u]) (EP X pins σ Q) X.xe s := by
  have old := I.env0
  have e0 : Env0 X.prog X.w X.K X.mg X.base A X.stack s H :=
    { frames := fr.trans old.frames, mod := old.mod, bs := old.bs, bsz := old.bsz, funs := old.funs, frf := old.frf, hok := old.hok, bare := old.bare }
  have two : Vals [V.ref x, y] [Value.ref x, u] := .cons rfl (.cons ry .nil)
  have many : [Value.ref x, u].length = ps.length := two.length ▸ F.len _ _ _ _ q
  have bind := hb s [.ref x, u] I.kIn (by simpa using many)
  apply wpAny_call (codeAny_mono (F.run A X.stack s H ⟨[.ref x, u], []⟩ [.ref x, u] [.ref x, y] Q E0 hr e0 (by simpa using bind) two q) ?_)
  intro end1 z2 hq
  cases end1 with
  | error _ => exact False.elim hq
  | ok fl => cases fl with
    | ret _ => exact I.after hq
    | next => exact False.elim hq
    | brk => exact False.elim hq
    | cont => exact False.elim hq
theorem op_eqO (O : OwnEq X.K C f) (F : FnOk X.prog X.w X.K X.mg X.base CX0 k f fd ps sp) (hr : Room k X.A) (hb : L2.Binds X.K fd ps []) : OpR X (compareOp .Eq) (rOwn X.K C sp id) := by
  rintro pins s σ H x y v u Q I rx ry ⟨a, dx, fs, t, rfl, ha, ty, first, q⟩
  cases rx
  obtain ⟨mA, J, _⟩ := ins_get I.hok ha
  obtain ⟨od, J, _⟩ := J.look
  obtain ⟨m, hF⟩ := I.fr
  obtain ⟨P, kit, p, _⟩ := kit_of I ry ty
  show wpAny (model X.prog X.w) X.A (richCompare .Eq (.ref a) u) (EP X pins σ Q) X.xe s
  refine PySem.W.cmp_K (op := .Eq) (tb := t) (by have := hr.un; omega) hF I.ok.mod.kin J (kit.ty _ _ I.kIn p) first O.eq O.fn ?_
  refine wpAny_mono (own_run F hr rfl hb I ry q) (fun r s' hq => ?_) fun _ _ q => q
  obtain ⟨v, H', I', rv, b, rfl, q⟩ := hq
  cases rv
  exact ⟨.bl b, H', I', rfl, q⟩
theorem op_neO (O : OwnEq X.K C f) (F : FnOk X.prog X.w X.K X.mg X.base CX0 k f fd ps sp) (hr : Room (k + 1) X.A) (hb : L2.Binds X.K fd ps []) : OpR X (compareOp .NotEq) (rOwn X.K C sp not) := by
  rintro pins s σ H x y v u Q I rx ry ⟨a, dx, fs, t, rfl, ha, ty, first, q⟩
  cases rx
  obtain ⟨mA, J, _⟩ := ins_get I.hok ha
  obtain ⟨od, J, _⟩ := J.look
  obtain ⟨P, kit, p, _⟩ := kit_of I ry ty
  show wpAny (model X.prog X.w) X.A (richCompare .NotEq (.ref a) u) (EP X pins σ Q) X.xe s
  refine rc_ne I.kIn J O.ob O.ne O.eq O.fn (kit.ty _ _ I.kIn p) first (by have := hr.un; omega) ?_
  refine wpAny_mono (own_run F hr.in1 rfl hb I ry q) (fun r s' hq => ?_) fun _ _ q => q
  obtain ⟨v, H', I', rv, b, rfl, q⟩ := hq
  cases rv
  exact ⟨b, rfl, .bl (!b), H', I', rfl, q⟩
end
end Oe

/-! An exception that is kept behind its except suite: it is tracked from there on. -/
namespace Ek
open PySem PySem.Spec PyProof.Rows L2
/-- an exception of the class cls, with its own dict at d, at a -/
def ExK (cls : Value) (d : Option Addr) (a : Addr) : HO := .ext fun h => ∃ (oe : Obj) (vs : Array Value), h.get? a = some oe ∧ Zc cls d oe ∧ oe.data = .fields vs
theorem exK_ok {P : Program} {w : World} {H : Hp} {h : Heap} {a : Addr} {cls : Value} {d : Option Addr} {oe : Obj} {vs : Array Value} (e : h.get? a = some oe) (z : Zc cls d oe) (f : oe.data = .fields vs) : ObjOk P w H h a (ExK cls d a) :=
  ⟨⟨oe, vs, e, z, f⟩, ⟨oe, e⟩, fun _ _ ⟨o, v, q, r⟩ k => ⟨o, v, k o q, r⟩⟩
section
variable {X : Cx} {pins : List (Addr × Obj)} {σ : L2.St} {H : Hp} {s : Shared}
/-- an object that is there, and new to this call, is tracked from now on -/
theorem track {a : Addr} {o : HO} {oe : Obj} {vs : Array Value} (I : L2.Inv X pins σ H s) (there : s.heap.get? a = some oe) (flds : oe.data = .fields vs) (free : H a = none) (new : X.s_0.heap.get? a = none) (noL : a ≠ X.env.locals)
    (noP : ∀ p ∈ X.pn ++ pins, p.1 ≠ a) (good : ObjOk X.prog X.w (upd H a o) s.heap a o) : L2.Inv X pins σ (upd H a o) s := by
  have off : ∀ b, b ≠ a → upd H a o b = H b := fun b ne => upd_ne ne
  have cells : ∀ x c, X.env.cells.lookup x = some c → c ≠ a := by
    rintro x c look rfl
    obtain ⟨v, u, hu, hv⟩ := I.cell x c look
    rw [there] at hu
    cases hu
    rw [flds] at hv
    cases hv
  have was : ∀ b u, X.s_0.heap.get? b = some u → b ≠ a := by
    rintro b u q rfl
    rw [new] at q
    cases q
  have B := I.base
  refine { ok := I.ok, os := I.os, bare := I.bare, base := ?_, loc := I.loc, cell := I.cell, free := (off _ noL.symm).trans I.free, freeC := fun x c q => (off _ (cells x c q)).trans (I.freeC x c q),
           pin := fun p hp => ?_, hok := HOk.laidN I.hok (fun _ _ q => q) free good, len := I.len }
  · refine { keep := B.keep, slot := B.slot, free := fun b u q n x => (off b (was b u q)).trans (B.free b u q n x), there := B.there, tups := fun b xs q => ?_, frzs := fun b u v q => ?_, tbls := fun b ps q => ?_ }
    · have z := B.tups b xs q
      exact (off b (ne_of_none z free)).trans z
    · have z := B.frzs b u v q
      exact (off b (ne_of_none z free)).trans z
    · obtain ⟨m, z⟩ := B.tbls b ps q
      exact ⟨m, (off b (ne_of_none z free)).trans z⟩
  · obtain ⟨p1, p2, p3, p4, p5⟩ := I.pin p hp
    exact ⟨p1, (off _ (noP p hp)).trans p2, p3, p4, p5⟩
end
/-- what 'except c as n: suite' wishes, if the exception is kept: behind the suite it is tracked -/
def wKeep (K : PySem.W.Frag) (c : Value) (i : Nat) (ts : Addr → Value → Option Addr → TS) (Wout : WX) (D : Ends) : WX := fun cls d σ H => ∃ b, PySem.W.exmOne K cls c = some b ∧
  (b = true → ∀ a, H a = none → ts a cls d { nx := fun σ' H' => H' a = none → D.nx (σ'.set i none) (upd H' a (ExK cls d a)), rt := fun _ _ => False, bk := fun _ _ => False, ct := fun _ _ => False } (σ.set i (some (.ref a))) H) ∧
  (b = false → Wout cls d σ H)
section
variable {X : Cx} {x n : Str} {c : Value} {i : Nat} {body suite : List Stmt} {b₀ : Stmt} {np pos pos' : Pos} {tb : WX → TS} {ts : Addr → Value → Option Addr → TS} {Wout : WX}
theorem ps_try_keep (own : X.stack = X.env :: X.outer) (fr : X.env.frame = some X.env.locals) (once : X.N.Nodup) (slot : X.N[i]? = some n) (local_ : X.env.kindOf n = some .local) (names : Names X x c) (out : Takes X Wout) (noEx : X.ex = [])
    (inBody : ∀ (W : WX) (pn : List (Addr × Obj)) (xe : Value → Shared → Prop), Takes (X.tr pn xe) W → PassesOwn (model X.prog X.w) X.A X.env xe → PSs (X.tr pn xe) body (tb W))
    (inSuite : ∀ (a : Addr) (oe : Obj) (cls : Value) (d : Option Addr) (pn : List (Addr × Obj)), Zc cls d oe → (∃ vs, oe.data = .fields vs) → PSs (X.suite a ((a, oe) :: pn)) (b₀ :: suite) (ts a cls d)) :
    PS X (.Try body [.ExceptHandler (some (.Name x np)) (some n) (b₀ :: suite) pos'] [] [] pos) (fun D σ H => tb (wKeep X.K c i ts Wout D) D σ H) := by
  constructor
  intro pins s σ H D I asks
  have ok := I.ok
  have frames : X.A.frames = some (X.env :: X.outer) := by rw [ok.frames, own]
  apply wpAny_Try_except
  have inside := inBody (wKeep X.K c i ts Wout D) (X.pn ++ pins) (fun e s₁ => wpAny (model X.prog X.w) X.A (noteFrame e X.env) (fun _ s₂ => wpAny (model X.prog X.w) X.A (setFlight e none) (fun _ s₃ =>
    wpAny (model X.prog X.w) X.A (handleBy e X.env [.ExceptHandler (some (.Name x np)) (some n) (b₀ :: suite) pos']) (SP X pins D) X.xe s₃) X.xe s₂) X.xe s₁) ?takes PassesOwn.looking
  case takes =>
    rintro u s' ⟨a, B, sI, pins', σ', H', cls, d, rfl, J', nb, up, sky, na, os, ag, b, is, yes, no⟩
    have J : L2.Inv X pins σ' H' sI := J'.ofTry ok
    have sky : Sky B (X.env :: X.outer) a (Zc cls d) X.env.locals s'.heap := by rw [← own]; exact sky
    refine Sky.land Zc.steady frames fr sky fun h3 fl3 up3 => ?_
    have J3 : L2.Inv X pins σ' H' { s' with heap := h3 } := J.landed nb fl3.1 (up.trans up3) os ag
    obtain ⟨oe3, vs3, he3, hz3, hd3⟩ := fl3.there
    have noFrame : a ∉ frs (X.env :: X.outer) := by
      intro mem
      obtain ⟨_, o', e', differ⟩ := fl3.2.2.1.mem mem
      rw [he3] at e'
      cases e'
      exact differ _ hd3
    have noL : a ≠ X.env.locals := fun z => noFrame (List.mem_filterMap.mpr ⟨X.env, List.mem_cons_self, by rw [fr, z]⟩)
    have noF : a ∉ X.fs := by
      intro mem
      obtain ⟨e, he, q⟩ := List.mem_filterMap.mp mem
      exact noFrame (List.mem_filterMap.mpr ⟨e, List.mem_cons_of_mem _ he, q⟩)
    have ground : B.get? a = none := fl3.2.1
    have fresh : ∀ u, sI.heap.get? a = some u → False := fun u q => by
      have z := nb a u q (by rw [own]; exact noFrame)
      rw [ground] at z
      cases z
    have new0 : X.s_0.heap.get? a = none := by
      cases q : X.s_0.heap.get? a with
      | none => rfl
      | some u =>
        obtain ⟨u', q'⟩ := J.base.there a u q (by rw [noEx]; exact fun z => nomatch z)
        exact (fresh _ q').elim
    have noP : ∀ p ∈ X.pn ++ pins, p.1 ≠ a := by
      rintro p hp z
      have q := (J.pin p hp).1
      rw [z] at q
      exact fresh _ q
    have S3 := J3.suite he3 hd3 na noL noF
    apply wpAny_handleBy_cons (codeAny_handlers_test ?_) (by intro q; cases q)
    have typ : PySem.W.Looks (model X.prog X.w) h3 (typeOf (.ref a)) cls := fun A Q E s k q => wpAny_typeOf_ref (k _ _ he3) (by rw [hz3.1]; exact q)
    have match_ := PySem.W.exm_one (M := model X.prog X.w) (J3.kIn) typ is
    have named : ∀ {Q : Value → Shared → Prop} {E : Value → Shared → Prop}, Q c { s' with heap := h3 } →
        wpAny (model X.prog X.w) (X.A.mark (some (.ref a))) (eval (.Name x np) X.env) Q E { s' with heap := h3 } := by
      intro Q E q
      obtain ⟨glob, dbg, way⟩ := names
      rcases way with m | ⟨m, v, nn⟩
      · exact ld_glob (X := X.suite a ((a, oe3) :: (X.pn ++ pins))) S3 glob m q dbg
      · exact ld_blt (X := X.suite a ((a, oe3) :: (X.pn ++ pins))) S3 glob m v q nn dbg
    refine named (match_.here ?_)
    cases b with
    | true =>
      apply codeAny_handlers_suite_as
      refine HandSPX.lands_againZ fl3 fun h4 fl4 up4 => ?_
      have J4 : L2.Inv X pins σ' H' { s' with heap := h4 } := J.landed nb fl4.1 ((up.trans up3).trans up4) os ag
      obtain ⟨oe4, vs4, he4, hz4, hd4⟩ := fl4.there
      have S4 := J4.suite he4 hd4 na noL noF
      refine store_ok (X := X.suite a ((a, oe4) :: (X.pn ++ pins))) (v := .ref a) S4 once slot (.inl local_) rfl (fun s5 S5 => ?_) (.inr local_)
      have run := (inSuite a oe4 cls d (X.pn ++ pins) hz4 ⟨_, hd4⟩).run [] s5 _ H' _ S5 (yes rfl a na)
      refine wpAny_mono run (fun f s6 hsp => ?_) (fun _ _ z => False.elim z)
      cases f with
      | next =>
        obtain ⟨σ6, H6, S6, q6⟩ := hsp
        obtain ⟨pa, pb, pc, pd, pe⟩ := S6.pin (a, oe4) (List.mem_append_left _ List.mem_cons_self)
        have S7 : L2.Inv X ((a, oe4) :: pins) σ6 H6 s6 := (S6.unsuite ok).pins_of fun p hp => by
          rcases List.mem_cons.mp hp with rfl | hp
          · exact ⟨pa, pb, pc, pd, pe⟩
          · exact (S6.unsuite ok).pin p (List.mem_append_right _ hp)
        refine gone_ok S7 once slot local_ fun s7 J7 => ?_
        obtain ⟨ra, rb, _, _, _⟩ := J7.pin (a, oe4) (List.mem_append_right _ List.mem_cons_self)
        have J8 : L2.Inv X pins (σ6.set i none) H6 s7 := J7.pins_of fun p hp => J7.pin p (List.mem_append_right _ (List.mem_cons_of_mem _ hp))
        exact ⟨_, _, track J8 ra hd4 rb new0 noL noP (exK_ok ra hz4 hd4), q6 pb⟩
      | brk => obtain ⟨_, _, _, no6⟩ := hsp; exact False.elim no6
      | cont => obtain ⟨_, _, _, no6⟩ := hsp; exact False.elim no6
      | ret u => obtain ⟨_, _, _, _, _, no6⟩ := hsp; exact False.elim no6
    | false =>
      show wpAny _ X.A (handleBy (.ref a) X.env []) _ _ _
      apply wpAny_handleBy_nil
      obtain ⟨k1, k2, k3, oe, vs, T, oT, ts', he, hz, hd, h1, hr⟩ := id fl3
      unfold PySem.passOn
      refine wpAny_bind (wpAny_field he hd h1 ?_)
      rw [if_neg (show ¬ ((Value.ref T == Value.none) = true) from fun z => by cases z)]
      have fin : wpAny (model X.prog X.w) X.A (setFlight (.ref a) X.env.frame) (fun _ s4 => wpAny (model X.prog X.w) X.A (throw (.ref a) : Sem Flow) (SP X pins D) X.xe s4) X.xe { s' with heap := h3 } := by
        rw [fr]
        refine HandSPX.setFlight_upZ fl3 fun h4 hh4 up4 => wpAny_throw (out _ _ ?_)
        exact ⟨a, B, sI, pins, σ', H', cls, d, rfl, J, nb, (up.trans up3).trans up4, .inr (.inr (by rw [own]; exact hh4)), na, os, ag, no rfl⟩
      first
        | exact wpAny_bind (wpAny_pure (wpAny_bind fin))
        | exact wpAny_bind fin
  refine wpAny_mono (inside.run [] s σ H D (I.toTry _) asks) (fun f s1 hsp => ?_) (fun _ _ he => he)
  cases f with
  | next => obtain ⟨σ', H', J', q⟩ := hsp; exact wpAny_execs_nil ⟨σ', H', J'.ofTry ok, q⟩
  | brk => obtain ⟨σ', H', J', q⟩ := hsp; exact ⟨σ', H', J'.ofTry ok, q⟩
  | cont => obtain ⟨σ', H', J', q⟩ := hsp; exact ⟨σ', H', J'.ofTry ok, q⟩
  | ret u => obtain ⟨v, σ', H', J', r, q⟩ := hsp; exact ⟨v, σ', H', J'.ofTry ok, r, q⟩
end
end Ek

/-! An evaluator over plain data; what it has to do with the abstract heap. Values by content, objects that may change by number. -/
namespace Ev
open PySem PySem.Spec PyProof.Rows L2 Dr

/-- plain values: frozen lists, dicts, instances by content; objects that may change by their numbers -/
inductive D where
  | non | bl (b : Bool) | int (i : Int) | str (x : Str) | tup (xs : List D) | lst (xs : List D) | dct (ks : List Key) (xs : List D) | tct (ks : List D) (xs : List D)
  | loc (n : Nat) | draw | ins (k : Nat) (fs : List D) | exn (k : Nat) (fs : List D)
/-- what stands at a number -/
inductive O where
  | lst (xs : List D) | dK (ks : List Key) (xs : List D) | tD (ks : List D) (xs : List D) | ins (k : Nat) (fs : List D) | dead
/-- the addresses of the store; those that may still change -/
structure Sto where
  a : List Addr
  l : List Addr
def Sto.nil : Sto := ⟨[], []⟩
def Sto.push (ρ : Sto) (p : Addr) : Sto := ⟨ρ.a ++ [p], ρ.l ++ [p]⟩
/-- all ways that the draws can take; an error leaves with its class, its fields, the store -/
inductive Tr (α : Type) where
  | ret (a : α) | bad | err (k : Nat) (fs : List D) (h : List O) | pick (n : Nat) (k : Nat → Tr α)
def Tr.bind {α β : Type} : Tr α → (α → Tr β) → Tr β
  | .ret a, f => f a
  | .bad, _ => .bad
  | .err k fs h, _ => .err k fs h
  | .pick n k, f => .pick n fun i => (k i).bind f
abbrev XP := Nat → List D → List O → Prop
def Tr.All {α : Type} (P : α → Prop) (X : XP) : Tr α → Prop
  | .ret a => P a
  | .bad => False
  | .err k fs h => X k fs h
  | .pick n k => ∀ i, i < n → (k i).All P X
theorem Tr.All.mono2 {α : Type} {P R : α → Prop} {X Y : XP} : ∀ {t : Tr α}, t.All P X → (∀ a, P a → R a) → (∀ k fs h, X k fs h → Y k fs h) → t.All R Y
  | .ret _, h, m, _ => m _ h
  | .bad, h, _, _ => h
  | .err _ _ _, h, _, m => m _ _ _ h
  | .pick _ _, h, m, m2 => fun i hi => Tr.All.mono2 (h i hi) m m2
theorem Tr.All.mono {α : Type} {P R : α → Prop} {X : XP} {t : Tr α} (h : t.All P X) (m : ∀ a, P a → R a) : t.All R X := h.mono2 m fun _ _ _ q => q
theorem Tr.all_bind {α β : Type} {P : β → Prop} {X : XP} {f : α → Tr β} : ∀ {t : Tr α}, (t.bind f).All P X ↔ t.All (fun a => (f a).All P X) X
  | .ret _ => Iff.rfl
  | .bad => Iff.rfl
  | .err _ _ _ => Iff.rfl
  | .pick n k => ⟨fun h i hi => Tr.all_bind.mp (h i hi), fun h i hi => Tr.all_bind.mpr (h i hi)⟩
/-- errors are not let out -/
def Tr.calm {α : Type} : Tr α → Tr α
  | .ret a => .ret a
  | .bad => .bad
  | .err _ _ _ => .bad
  | .pick n k => .pick n fun i => (k i).calm
theorem Tr.all_calm {α : Type} {P : α → Prop} {X : XP} {Y : XP} : ∀ {t : Tr α}, t.calm.All P X → t.All P Y
  | .ret _, h => h
  | .bad, h => h
  | .err _ _ _, h => False.elim h
  | .pick n k, h => fun i hi => Tr.all_calm (h i hi)
/-- a step over the store -/
abbrev M (α : Type) := List O → Tr (α × List O)
def M.ret {α : Type} (a : α) : M α := fun h => .ret (a, h)
def M.bad {α : Type} : M α := fun _ => .bad
def M.bind {α β : Type} (m : M α) (f : α → M β) : M β := fun h => (m h).bind fun r => f r.1 r.2
theorem M.all_bind {α β : Type} {P : β × List O → Prop} {X : XP} {m : M α} {f : α → M β} {h : List O} : (M.bind m f h).All P X ↔ (m h).All (fun r => (f r.1 r.2).All P X) X := Tr.all_bind
abbrev Sg := List (Option D)

/-- where the draws stand; each class's address and the names of its attributes; the error classes likewise; what a caller may still change; what is wished of an error -/
structure Ct where
  n : Nat
  dw : Option (Addr × Addr × Addr)
  cA : Nat → Addr
  cF : Nat → List Str
  m : Nat
  eA : Nat → Addr
  eF : Nat → List Str
  P : Program
  w : World
  hid : List Addr
  E : XK
/-- not to be changed: no object of the store, of a caller's store, of the draws -/
structure Off (c : Ct) (ρ : Sto) (a : Addr) : Prop where
  st : a ∉ ρ.l
  hd : a ∉ c.hid
  dw : ∀ d g e, c.dw = some (d, g, e) → a ≠ d ∧ a ≠ g
/-- a dict whose keys are nested tuples: each key with its tuple's address -/
def tdO (P : Program) (w : World) (a : Addr) (ks : List (NestedKey × Addr)) (vs : List V) : HO := .ext fun h => ∃ xs : List (NestedKey × Addr × Value), h.DictOfH (nestedKind P w) a xs ∧ xs.map (fun x => (x.1, x.2.1)) = ks ∧ Vals vs (xs.map (·.2.2))
mutual
/-- a value as a key of such a dict -/
def nkD : D → Option NestedKey
  | .non => some .none
  | .bl b => some (.num (if b then 1 else 0))
  | .int i => some (.num i)
  | .str x => some (.text x)
  | .tup xs => match nkDs xs with
    | some ks => some (.tup ks)
    | none => none
  | _ => none
def nkDs : List D → Option (List NestedKey)
  | [] => some []
  | x :: xs => match nkD x, nkDs xs with
    | some k, some ks => some (k :: ks)
    | _, _ => none
end
section
variable (K : PySem.W.Frag) (c : Ct)
mutual
inductive RV (H : Hp) (ρ : Sto) : D → V → Prop
  | non : RV H ρ .non .non
  | bl (b : Bool) : RV H ρ (.bl b) (.bl b)
  | int (i : Int) : RV H ρ (.int i) (.int i)
  | str (x : Str) : RV H ρ (.str x) (.str x)
  | tup {a : Addr} {vs : List V} {xs : List D} : SqT K H a vs → RVs H ρ xs vs → RV H ρ (.tup xs) (.ref a)
  | lst {a : Addr} {vs : List V} {xs : List D} : H a = some (.lst vs) → Off c ρ a → RVs H ρ xs vs → RV H ρ (.lst xs) (.ref a)
  | dct {a : Addr} {kws : List (Key × V)} {ks : List Key} {xs : List D} : Rd H a (.dK kws) → Off c ρ a → kws.map (·.1) = ks → RVs H ρ xs (kws.map (·.2)) → RV H ρ (.dct ks xs) (.ref a)
  | tct {a : Addr} {kas : List (NestedKey × Addr)} {vs : List V} {ks xs : List D} : Rd H a (tdO c.P c.w a kas vs) → Off c ρ a → nkDs ks = some (kas.map (·.1)) → RVs H ρ ks (kas.map fun p => V.ref p.2) → RVs H ρ xs vs → RV H ρ (.tct ks xs) (.ref a)
  | loc {n : Nat} {a : Addr} : ρ.a[n]? = some a → RV H ρ (.loc n) (.ref a)
  | draw {d g e : Addr} : c.dw = some (d, g, e) → RV H ρ .draw (.ref d)
  | ins {k : Nat} {fs : List D} {a dx : Addr} {vs : List V} : H a = some (.ins (c.cA k) dx (((c.cF k).take fs.length).zip vs)) → Off c ρ a → (fs.length ≤ (c.cF k).length ∧ k < c.n) → RVs H ρ fs vs → RV H ρ (.ins k fs) (.ref a)
  | exn {k : Nat} {fs : List D} {a : Addr} {od : Option Addr} {vs : List V} : H a = some (Ek.ExK (.ref (c.eA k)) od a) → Off c ρ a → (k < c.m ∧ fs.length = (c.eF k).length) → (fs ≠ [] → ∃ dd, od = some dd ∧ H dd = some (.xd ((c.eF k).zip vs)) ∧ Off c ρ dd) → RVs H ρ fs vs → RV H ρ (.exn k fs) (.ref a)
inductive RVs (H : Hp) (ρ : Sto) : List D → List V → Prop
  | nil : RVs H ρ [] []
  | cons {x : D} {xs : List D} {v : V} {vs : List V} : RV H ρ x v → RVs H ρ xs vs → RVs H ρ (x :: xs) (v :: vs)
end
def RO (H : Hp) (ρ : Sto) : O → Addr → Prop
  | .lst xs, a => ∃ vs, H a = some (.lst vs) ∧ RVs K c H ρ xs vs
  | .dK ks xs, a => ∃ kws : List (Key × V), H a = some (.dK kws) ∧ kws.map (·.1) = ks ∧ RVs K c H ρ xs (kws.map (·.2))
  | .tD ks xs, a => ∃ (kas : List (NestedKey × Addr)) (vs : List V), H a = some (tdO c.P c.w a kas vs) ∧ nkDs ks = some (kas.map (·.1)) ∧ RVs K c H ρ ks (kas.map fun p => V.ref p.2) ∧ RVs K c H ρ xs vs
  | .dead, _ => True
  | .ins k fs, a => ∃ dx vs, H a = some (.ins (c.cA k) dx (((c.cF k).take fs.length).zip vs)) ∧ (fs.length ≤ (c.cF k).length ∧ k < c.n) ∧ RVs K c H ρ fs vs
/-- the store is the tracked part of the heap -/
structure Ok (ρ : Sto) (h : List O) (H : Hp) : Prop where
  len : ρ.a.length = h.length
  nd : ρ.a.Nodup
  objs : ∀ (n : Nat) (o : O) (a : Addr), h[n]? = some o → ρ.a[n]? = some a → RO K c H ρ o a
  lv : ∀ (n : Nat) (o : O) (a : Addr), h[n]? = some o → ρ.a[n]? = some a → o ≠ .dead → a ∈ ρ.l
  sub : ∀ a, a ∈ ρ.l → a ∈ ρ.a
  ex : ∀ a, a ∈ ρ.a → ∃ u, H a = some u
  dw : ∀ d g e, c.dw = some (d, g, e) → Dw H d g e ∧ d ∉ ρ.a ∧ g ∉ ρ.a ∧ e ∉ ρ.a
  hid : ∀ a, a ∈ c.hid → (∃ u, H a = some u) ∧ a ∉ ρ.a
/-- from one moment to a later one -/
structure Le (ρ : Sto) (H : Hp) (ρ' : Sto) (H' : Hp) : Prop where
  pre : ρ.a <+: ρ'.a
  new : ∀ p, p ∈ ρ'.l → p ∉ ρ.l → H p = none
  fr : ∀ b o, b ∉ ρ.l → (∀ d g e, c.dw = some (d, g, e) → b ≠ d ∧ b ≠ g) → H b = some o → H' b = some o
  tups : ∀ b xs, H b = some (.tup xs) → H' b = some (.tup xs)
  frzs : ∀ b o u, H b = some (.frz o u) → H' b = some (.frz o u)
  kept : ∀ b, H' b = none → H b = none
end
section
variable {K : PySem.W.Frag} {c : Ct} {ρ ρ1 ρ2 : Sto} {H H1 H2 : Hp}
theorem Le.refl : Le c ρ H ρ H := ⟨List.prefix_refl _, fun p h n => absurd h n, fun _ _ _ _ h => h, fun _ _ h => h, fun _ _ _ h => h, fun _ h => h⟩
theorem Le.trans (a : Le c ρ H ρ1 H1) (b : Le c ρ1 H1 ρ2 H2) : Le c ρ H ρ2 H2 where
  pre := a.pre.trans b.pre
  new := fun p hp hn => by
    by_cases q : p ∈ ρ1.l
    · exact a.new p q hn
    · exact a.kept p (b.new p hp q)
  fr := fun b' o hb hd h => by
    have h1 := a.fr b' o hb hd h
    refine b.fr b' o (fun q => ?_) hd h1
    have := a.new b' q hb
    rw [h] at this
    cases this
  tups := fun b' xs h => b.tups _ _ (a.tups _ _ h)
  frzs := fun b' o u h => b.frzs _ _ _ (a.frzs _ _ _ h)
  kept := fun b' h => a.kept _ (b.kept _ h)
theorem Le.rd (l : Le c ρ H ρ1 H1) {a : Addr} {xs : List V} (h : SqT K H a xs) : SqT K H1 a xs := by
  rcases h with (h | ⟨o, h⟩) | h
  · exact .inl (.inl (l.tups _ _ h))
  · exact .inl (.inr ⟨o, l.frzs _ _ _ h⟩)
  · exact .inr h
/-- what is not to be changed stays -/
theorem Le.off (l : Le c ρ H ρ1 H1) {a : Addr} {u : HO} (h : H a = some u) (o : Off c ρ a) : H1 a = some u ∧ Off c ρ1 a :=
  ⟨l.fr a u o.st o.dw h, ⟨fun z => absurd (h.symm.trans (l.new a z o.st)) (by simp), o.hd, o.dw⟩⟩
theorem pre_get {α : Type} {l l' : List α} (p : l <+: l') {n : Nat} {a : α} (h : l[n]? = some a) : l'[n]? = some a := by
  obtain ⟨t, rfl⟩ := p
  obtain ⟨hn, e⟩ := List.getElem?_eq_some_iff.mp h
  rw [List.getElem?_append_left hn]
  exact h
/-! a value as another moment sees it: the same objects, none of them to be changed there -/
/-- what takes every value from one moment to another -/
structure Mv (K : PySem.W.Frag) (c c1 : Ct) (H : Hp) (ρ : Sto) (H1 : Hp) (ρ1 : Sto) : Prop where
  sq : ∀ a xs, SqT K H a xs → SqT K H1 a xs
  off : ∀ a u, H a = some u → Off c ρ a → H1 a = some u ∧ Off c1 ρ1 a
  n : c1.n = c.n
  dw : c1.dw = c.dw
  cA : c1.cA = c.cA
  cF : c1.cF = c.cF
  m : c1.m = c.m
  eA : c1.eA = c.eA
  eF : c1.eF = c.eF
  P : c1.P = c.P
  w : c1.w = c.w
theorem Mv.rd {c1 : Ct} (m : Mv K c c1 H ρ H1 ρ1) {a : Addr} {u : HO} (r : Rd H a u) (o : Off c ρ a) : Rd H1 a u ∧ Off c1 ρ1 a := by
  rcases r with r | ⟨ob, r⟩
  · exact ⟨.inl (m.off a _ r o).1, (m.off a _ r o).2⟩
  · exact ⟨.inr ⟨ob, (m.off a _ r o).1⟩, (m.off a _ r o).2⟩
theorem Le.offR (l : Le c ρ H ρ1 H1) {a : Addr} {u : HO} (r : Rd H a u) (o : Off c ρ a) : Rd H1 a u ∧ Off c ρ1 a := by
  rcases r with r | ⟨ob, r⟩
  · exact ⟨.inl (l.off r o).1, (l.off r o).2⟩
  · exact ⟨.inr ⟨ob, (l.off r o).1⟩, (l.off r o).2⟩
mutual
/-- no numbers of the store -/
def noL : D → Bool
  | .loc _ => false
  | .tup xs => noLs xs
  | .lst xs => noLs xs
  | .dct _ xs => noLs xs
  | .tct ks xs => noLs ks && noLs xs
  | .ins _ fs => noLs fs
  | .exn _ fs => noLs fs
  | _ => true
def noLs : List D → Bool
  | [] => true
  | x :: xs => noL x && noLs xs
end
mutual
theorem RV.mv {c1 : Ct} (m : Mv K c c1 H ρ H1 ρ1) : ∀ (x : D) (v : V), (noL x = true ∨ ∀ (n : Nat) (a : Addr), ρ.a[n]? = some a → ρ1.a[n]? = some a) → RV K c H ρ x v → RV K c1 H1 ρ1 x v
  | .non, _, _, h => by cases h; exact .non
  | .bl b, _, _, h => by cases h; exact .bl b
  | .int b, _, _, h => by cases h; exact .int b
  | .str b, _, _, h => by cases h; exact .str b
  | .tup xs, _, lc, h => by
    cases h with
    | tup h1 h2 => exact .tup (m.sq _ _ h1) (RVs.mv m xs _ (lc.imp (fun z => by simpa [noL] using z) id) h2)
  | .lst xs, _, lc, h => by
    cases h with
    | lst h1 o h2 => obtain ⟨e, o1⟩ := m.off _ _ h1 o; exact .lst e o1 (RVs.mv m xs _ (lc.imp (fun z => by simpa [noL] using z) id) h2)
  | .dct ks xs, _, lc, h => by
    cases h with
    | dct h1 o e h2 => obtain ⟨e1, o1⟩ := m.rd h1 o; exact .dct e1 o1 e (RVs.mv m xs _ (lc.imp (fun z => by simpa [noL] using z) id) h2)
  | .tct ks xs, _, lc, h => by
    cases h with
    | tct h1 o e h2 h3 =>
      obtain ⟨e1, o1⟩ := m.rd h1 o
      exact .tct (by rw [m.P, m.w]; exact e1) o1 e (RVs.mv m ks _ (lc.imp (fun z => by simp [noL] at z; exact z.1) id) h2) (RVs.mv m xs _ (lc.imp (fun z => by simp [noL] at z; exact z.2) id) h3)
  | .loc n, _, lc, h => by
    cases h with
    | loc h1 =>
      rcases lc with z | z
      · simp [noL] at z
      · exact .loc (z _ _ h1)
  | .draw, _, _, h => by
    cases h with
    | draw h1 => exact .draw (m.dw.trans h1)
  | .ins k fs, _, lc, h => by
    cases h with
    | ins h1 o hk h2 => obtain ⟨e1, o1⟩ := m.off _ _ h1 o; exact .ins (by rw [m.cA, m.cF]; exact e1) o1 (by rw [m.cF, m.n]; exact hk) (RVs.mv m fs _ (lc.imp (fun z => by simpa [noL] using z) id) h2)
  | .exn k fs, _, lc, h => by
    cases h with
    | exn h1 o hk hf h2 =>
      obtain ⟨e1, o1⟩ := m.off _ _ h1 o
      refine .exn (by rw [m.eA]; exact e1) o1 (by rw [m.m, m.eF]; exact hk) (fun z => ?_) (RVs.mv m fs _ (lc.imp (fun z => by simpa [noL] using z) id) h2)
      obtain ⟨dd, z1, z2, z3⟩ := hf z
      obtain ⟨z4, z5⟩ := m.off _ _ z2 z3
      exact ⟨dd, z1, by rw [m.eF]; exact z4, z5⟩
theorem RVs.mv {c1 : Ct} (m : Mv K c c1 H ρ H1 ρ1) : ∀ (xs : List D) (vs : List V), (noLs xs = true ∨ ∀ (n : Nat) (a : Addr), ρ.a[n]? = some a → ρ1.a[n]? = some a) → RVs K c H ρ xs vs → RVs K c1 H1 ρ1 xs vs
  | [], _, _, h => by cases h; exact .nil
  | x :: xs, _, lc, h => by
    cases h with
    | cons h1 h2 => exact .cons (RV.mv m x _ (lc.imp (fun z => by simp [noLs] at z; exact z.1) id) h1) (RVs.mv m xs _ (lc.imp (fun z => by simp [noLs] at z; exact z.2) id) h2)
end
theorem Le.mv (l : Le c ρ H ρ1 H1) : Mv K c c H ρ H1 ρ1 := ⟨fun _ _ h => l.rd h, fun _ _ h o => l.off h o, rfl, rfl, rfl, rfl, rfl, rfl, rfl, rfl, rfl⟩
theorem RV.le (l : Le c ρ H ρ1 H1) {x : D} {v : V} (h : RV K c H ρ x v) : RV K c H1 ρ1 x v := RV.mv l.mv x v (.inr fun _ _ => pre_get l.pre) h
theorem RVs.le (l : Le c ρ H ρ1 H1) {x : List D} {v : List V} (h : RVs K c H ρ x v) : RVs K c H1 ρ1 x v := RVs.mv l.mv x v (.inr fun _ _ => pre_get l.pre) h
theorem RVs.len : ∀ {xs : List D} {vs : List V}, RVs K c H ρ xs vs → xs.length = vs.length
  | [], _, h => by cases h; rfl
  | _ :: _, _, h => by cases h with | cons h1 h2 => simp [RVs.len h2]
theorem RVs.get : ∀ {xs : List D} {vs : List V} {i : Nat} {x : D}, RVs K c H ρ xs vs → xs[i]? = some x → ∃ v, vs[i]? = some v ∧ RV K c H ρ x v
  | [], _, _, _, _, e => by simp at e
  | _ :: _, _, 0, _, h, e => by
    cases h with
    | cons h1 h2 => simp at e; subst e; exact ⟨_, rfl, h1⟩
  | _ :: xs, _, i + 1, x, h, e => by
    cases h with
    | cons h1 h2 =>
      obtain ⟨v, q1, q2⟩ := RVs.get (i := i) (x := x) h2 (by simpa using e)
      exact ⟨v, by simpa using q1, q2⟩
theorem RVs.getV : ∀ {xs : List D} {vs : List V} {i : Nat} {v : V}, RVs K c H ρ xs vs → vs[i]? = some v → ∃ x, xs[i]? = some x ∧ RV K c H ρ x v
  | [], _, _, _, h, e => by cases h; simp at e
  | _ :: _, _, 0, _, h, e => by
    cases h with
    | cons h1 h2 => simp at e; subst e; exact ⟨_, rfl, h1⟩
  | _ :: xs, _, i + 1, x, h, e => by
    cases h with
    | cons h1 h2 =>
      obtain ⟨v, q1, q2⟩ := RVs.getV (i := i) (v := x) h2 (by simpa using e)
      exact ⟨v, by simpa using q1, q2⟩
theorem RVs.append : ∀ {xs ys : List D} {vs ws : List V}, RVs K c H ρ xs vs → RVs K c H ρ ys ws → RVs K c H ρ (xs ++ ys) (vs ++ ws)
  | [], _, _, _, h, s => by cases h; exact s
  | _ :: _, _, _, _, h, s => by cases h with | cons h1 h2 => exact .cons h1 (RVs.append h2 s)
theorem RVs.take : ∀ {xs : List D} {vs : List V} (n : Nat), RVs K c H ρ xs vs → RVs K c H ρ (xs.take n) (vs.take n)
  | _, _, 0, _ => by simp; exact .nil
  | [], _, n + 1, h => by cases h; exact .nil
  | _ :: _, _, n + 1, h => by cases h with | cons h1 h2 => exact .cons h1 (RVs.take n h2)
theorem RVs.drop : ∀ {xs : List D} {vs : List V} (n : Nat), RVs K c H ρ xs vs → RVs K c H ρ (xs.drop n) (vs.drop n)
  | _, _, 0, h => by simpa using h
  | [], _, n + 1, h => by cases h; exact .nil
  | _ :: _, _, n + 1, h => by cases h with | cons h1 h2 => exact RVs.drop n h2
theorem RVs.set {x : D} {v : V} (r : RV K c H ρ x v) : ∀ {xs : List D} {vs : List V} (i : Nat), RVs K c H ρ xs vs → RVs K c H ρ (xs.set i x) (vs.set i v)
  | [], _, _, h => by cases h; exact .nil
  | _ :: _, _, 0, h => by cases h with | cons h1 h2 => exact .cons r h2
  | _ :: _, _, i + 1, h => by cases h with | cons h1 h2 => exact .cons h1 (RVs.set r i h2)
theorem RVs.reverse : ∀ {xs : List D} {vs : List V}, RVs K c H ρ xs vs → RVs K c H ρ xs.reverse vs.reverse
  | [], _, h => by cases h; exact .nil
  | _ :: _, _, h => by
    cases h with
    | cons h1 h2 =>
      rw [List.reverse_cons, List.reverse_cons]
      exact (RVs.reverse h2).append (.cons h1 .nil)
theorem RO.le (l : Le c ρ H ρ1 H1) {o : O} {a : Addr} (same : H1 a = H a) (h : RO K c H ρ o a) : RO K c H1 ρ1 o a := by
  cases o with
  | lst xs => obtain ⟨vs, h1, h2⟩ := h; exact ⟨vs, same.trans h1, h2.le l⟩
  | dK ks xs => obtain ⟨vs, h1, h2, h3⟩ := h; exact ⟨vs, same.trans h1, h2, h3.le l⟩
  | tD ks xs => obtain ⟨kas, vs, h1, h2, h3, h4⟩ := h; exact ⟨kas, vs, same.trans h1, h2, h3.le l, h4.le l⟩
  | ins k fs => obtain ⟨dx, vs, h1, h2, h3⟩ := h; exact ⟨dx, vs, same.trans h1, h2, h3.le l⟩
  | dead => trivial
theorem RO.there {o : O} {a : Addr} (h : RO K c H ρ o a) (nd : o ≠ .dead) : ∃ u, H a = some u ∧ (∀ xs, u ≠ .tup xs) ∧ ∀ o' u', u ≠ .frz o' u' := by
  cases o with
  | lst xs => obtain ⟨vs, h1, h2⟩ := h; exact ⟨_, h1, ⟨(fun _ => by intro z; cases z), (fun _ _ => by intro z; cases z)⟩⟩
  | dK ks xs => obtain ⟨vs, h1, h2, h3⟩ := h; exact ⟨_, h1, ⟨(fun _ => by intro z; cases z), (fun _ _ => by intro z; cases z)⟩⟩
  | tD ks xs => obtain ⟨kas, vs, h1, h2, h3, h4⟩ := h; exact ⟨_, h1, ⟨(fun _ => by intro z; cases z), (fun _ _ => by intro z; cases z)⟩⟩
  | ins k fs => obtain ⟨dx, vs, h1, h2, h3⟩ := h; exact ⟨_, h1, ⟨(fun _ => by intro z; cases z), (fun _ _ => by intro z; cases z)⟩⟩
  | dead => exact absurd rfl nd
theorem Ok.at_ {h : List O} (ok : Ok K c ρ h H) {n : Nat} {a : Addr} (e : ρ.a[n]? = some a) : ∃ o, h[n]? = some o ∧ RO K c H ρ o a := by
  obtain ⟨hn, _⟩ := List.getElem?_eq_some_iff.mp e
  have hn' : n < h.length := by rw [← ok.len]; exact hn
  exact ⟨h[n], List.getElem?_eq_getElem hn', ok.objs n _ a (List.getElem?_eq_getElem hn') e⟩
theorem Ok.addr {h : List O} (ok : Ok K c ρ h H) {n : Nat} {o : O} (e : h[n]? = some o) : ∃ a, ρ.a[n]? = some a ∧ RO K c H ρ o a := by
  obtain ⟨hn, _⟩ := List.getElem?_eq_some_iff.mp e
  have hn' : n < ρ.a.length := by rw [ok.len]; exact hn
  exact ⟨ρ.a[n], List.getElem?_eq_getElem hn', ok.objs n o _ e (List.getElem?_eq_getElem hn')⟩
theorem Ok.fresh {h : List O} (ok : Ok K c ρ h H) {p : Addr} (np : H p = none) : p ∉ ρ.a ∧ p ∉ c.hid := ⟨fun z => let ⟨u, e⟩ := ok.ex _ z; absurd (np.symm.trans e) (by simp), fun z => let ⟨⟨u, e⟩, _⟩ := ok.hid _ z; absurd (np.symm.trans e) (by simp)⟩
/-- a new object is none of ours -/
theorem Ok.offN {h : List O} (ok : Ok K c ρ h H) {p : Addr} (np : H p = none) : Off c ρ p := ⟨fun z => (ok.fresh np).1 (ok.sub _ z), (ok.fresh np).2, fun d g e z => by
  obtain ⟨⟨⟨gs, cs, r, t, hd, hg, hc⟩, _⟩, h1, h2, h3⟩ := ok.dw d g e z
  exact ⟨(ne_of_none hd np).symm, (ne_of_none hg np).symm⟩⟩
theorem up_ex {p : Addr} {o : HO} {a : Addr} (h : ∃ u, H a = some u) : ∃ u, upd H p o a = some u := by
  by_cases q : a = p
  · subst q; exact ⟨_, upd_same⟩
  · rw [upd_ne q]; exact h
/-- a new object, not of the store -/
theorem Ok.other {h : List O} (ok : Ok K c ρ h H) {p : Addr} {o : HO} (np : H p = none) : Le c ρ H ρ (upd H p o) ∧ Ok K c ρ h (upd H p o) := by
  have l : Le c ρ H ρ (upd H p o) := ⟨List.prefix_refl _, fun q h n => absurd h n, fun b u _ _ e => by rw [upd_ne (ne_of_none e np)]; exact e, fun b xs e => by rw [upd_ne (ne_of_none e np)]; exact e, fun b xs u e => by rw [upd_ne (ne_of_none e np)]; exact e, fun b e => by
    by_cases q : b = p
    · rw [q]; exact np
    · rw [upd_ne q] at e; exact e⟩
  refine ⟨l, ok.len, ok.nd, fun n u a e1 e2 => ?_, ok.lv, ok.sub, fun a ha => up_ex (ok.ex a ha), fun d g e z => ?_, fun a ha => ⟨up_ex (ok.hid a ha).1, (ok.hid a ha).2⟩⟩
  · have r := ok.objs n u a e1 e2
    obtain ⟨y, hy⟩ := ok.ex a (List.mem_of_getElem? e2)
    exact r.le l (by rw [upd_ne (ne_of_none hy np)])
  · obtain ⟨D, h1⟩ := ok.dw d g e z
    exact ⟨D.new np, h1⟩
/-- a new object of the store -/
theorem Ok.push {h : List O} (ok : Ok K c ρ h H) {p : Addr} {u : HO} {o : O} (np : H p = none) (new : ∀ H1, Le c ρ H (ρ.push p) H1 → H1 p = some u → RO K c H1 (ρ.push p) o p) : Le c ρ H (ρ.push p) (upd H p u) ∧ Ok K c (ρ.push p) (h ++ [o]) (upd H p u) := by
  obtain ⟨l0, ok0⟩ := ok.other (o := u) np
  obtain ⟨hp, hp2⟩ := ok.fresh np
  have l : Le c ρ H (ρ.push p) (upd H p u) := ⟨List.prefix_append _ _, fun q hq n => by
    rcases List.mem_append.mp hq with z | z
    · exact absurd z n
    · rw [List.mem_singleton.mp z]; exact np, l0.fr, l0.tups, l0.frzs, l0.kept⟩
  refine ⟨l, by simp [Sto.push, ok.len], ?_, fun n o' a e1 e2 => ?_, fun n o' a e1 e2 e3 => ?_, fun a ha => ?_, fun a ha => ?_, fun d g e z => ?_, fun a ha => ?_⟩
  · show (ρ.a ++ [p]).Nodup
    rw [List.nodup_append]
    exact ⟨ok.nd, by simp, fun a ha b hb => by rw [List.mem_singleton.mp hb]; intro z; rw [z] at ha; exact hp ha⟩
  · have e2 : (ρ.a ++ [p])[n]? = some a := e2
    by_cases hn : n < h.length
    · rw [List.getElem?_append_left hn] at e1
      rw [List.getElem?_append_left (by rw [ok.len]; exact hn)] at e2
      have r := ok.objs n o' a e1 e2
      obtain ⟨y, hy⟩ := ok.ex a (List.mem_of_getElem? e2)
      exact r.le l (by rw [upd_ne (ne_of_none hy np)])
    · rw [List.getElem?_append_right (by omega)] at e1
      rw [List.getElem?_append_right (by rw [ok.len]; omega)] at e2
      have h0 : n - h.length = 0 := by
        obtain ⟨q, _⟩ := List.getElem?_eq_some_iff.mp e1
        simp at q; omega
      rw [h0] at e1
      rw [show n - ρ.a.length = 0 by rw [ok.len]; exact h0] at e2
      simp at e1 e2
      subst e1 e2
      exact new _ l upd_same
  · have e2 : (ρ.a ++ [p])[n]? = some a := e2
    show a ∈ ρ.l ++ [p]
    by_cases hn : n < h.length
    · rw [List.getElem?_append_left hn] at e1
      rw [List.getElem?_append_left (by rw [ok.len]; exact hn)] at e2
      exact List.mem_append_left _ (ok.lv n o' a e1 e2 e3)
    · rw [List.getElem?_append_right (by rw [ok.len]; omega)] at e2
      have := List.mem_of_getElem? e2
      exact List.mem_append_right _ this
  · rcases List.mem_append.mp ha with z | z
    · exact List.mem_append_left _ (ok.sub a z)
    · exact List.mem_append_right _ z
  · rcases List.mem_append.mp ha with z | z
    · exact up_ex (ok.ex a z)
    · rw [List.mem_singleton.mp z]; exact ⟨_, upd_same⟩
  · obtain ⟨Dx, h1, h2, h3⟩ := ok.dw d g e z
    obtain ⟨⟨gs, cs, r, t, hd, hg, hc⟩, _⟩ := id Dx
    have a1 := ne_of_none hd np
    have a2 := ne_of_none hg np
    have a3 := ne_of_none hc np
    exact ⟨Dx.new np, by simp [Sto.push, h1, a1], by simp [Sto.push, h2, a2], by simp [Sto.push, h3, a3]⟩
  · obtain ⟨h0, h1⟩ := ok0.hid a ha
    refine ⟨h0, fun z => ?_⟩
    rcases List.mem_append.mp z with z | z
    · exact h1 z
    · rw [List.mem_singleton.mp z] at ha; exact hp2 ha
/-- an object of the store is changed -/
theorem Ok.put {h : List O} (ok : Ok K c ρ h H) {n : Nat} {p : Addr} {u : HO} {o o0 : O} (h0 : h[n]? = some o0) (nd : o0 ≠ .dead) (hn : ρ.a[n]? = some p) (new : ∀ H1, Le c ρ H ρ H1 → H1 p = some u → RO K c H1 ρ o p) : Le c ρ H ρ (upd H p u) ∧ Ok K c ρ (h.set n o) (upd H p u) := by
  have r0 := ok.objs n o0 p h0 hn
  obtain ⟨y, hy, ht, hf⟩ := r0.there nd
  have hp : p ∈ ρ.a := List.mem_of_getElem? hn
  have hl : p ∈ ρ.l := ok.lv n o0 p h0 hn nd
  have l : Le c ρ H ρ (upd H p u) := ⟨List.prefix_refl _, fun q h n => absurd h n, fun b x nb _ e => by rw [upd_ne (fun z => nb (by rw [z]; exact hl))]; exact e,
    fun b xs e => by rw [upd_ne (fun z => by rw [z, hy] at e; cases e; exact ht _ rfl)]; exact e, fun b x z e => by rw [upd_ne (fun z => by rw [z, hy] at e; cases e; exact hf _ _ rfl)]; exact e, fun b e => by
    by_cases q : b = p
    · rw [q, upd_same] at e; cases e
    · rw [upd_ne q] at e; exact e⟩
  refine ⟨l, by simp [ok.len], ok.nd, fun m x a e1 e2 => ?_, fun m x a e1 e2 e3 => ?_, ok.sub, fun a ha => up_ex (ok.ex a ha), fun d g e z => ?_, fun a ha => ⟨up_ex (ok.hid a ha).1, (ok.hid a ha).2⟩⟩
  · by_cases hm : m = n
    · subst hm
      rw [hn] at e2; cases e2
      obtain ⟨q, _⟩ := List.getElem?_eq_some_iff.mp h0
      rw [List.getElem?_set_self q] at e1; cases e1
      exact new _ l upd_same
    · rw [List.getElem?_set_ne (Ne.symm hm)] at e1
      have ap : a ≠ p := fun z => by
        subst z
        obtain ⟨q1, w1⟩ := List.getElem?_eq_some_iff.mp e2
        obtain ⟨q2, w2⟩ := List.getElem?_eq_some_iff.mp hn
        exact hm ((List.getElem_inj ok.nd).mp (w1.trans w2.symm))
      exact (ok.objs m x a e1 e2).le l (by rw [upd_ne ap])
  · by_cases hm : m = n
    · subst hm
      rw [hn] at e2; cases e2
      exact hl
    · rw [List.getElem?_set_ne (Ne.symm hm)] at e1
      exact ok.lv m x a e1 e2 e3
  · obtain ⟨Dx, h1, h2, h3⟩ := ok.dw d g e z
    refine ⟨Dx.keep fun b x hb e => ?_, h1, h2, h3⟩
    have : b ≠ p := by
      rintro rfl
      rcases hb with rfl | rfl | rfl
      · exact h1 hp
      · exact h2 hp
      · exact h3 hp
    rw [upd_ne this]
    exact e
end
/-! ### what a step says of the code -/
section
variable (K : PySem.W.Frag) (c : Ct)
/-- the slots -/
def Env (H : Hp) (ρ : Sto) (s : Sg) (σ : L2.St) : Prop := s.length = σ.length ∧ ∀ (i : Nat) (x : D), s[i]? = some (some x) → ∃ v, σ[i]? = some (some v) ∧ RV K c H ρ x v
def PV (ρ : Sto) (H : Hp) (Q : VK) : D × List O → Prop := fun r => ∀ ρ' H' v, Le c ρ H ρ' H' → Ok K c ρ' r.2 H' → RV K c H' ρ' r.1 v → Q v H'
def PB (ρ : Sto) (H : Hp) (Q : Bool → Hp → Prop) : Bool × List O → Prop := fun r => ∀ ρ' H', Le c ρ H ρ' H' → Ok K c ρ' r.2 H' → Q r.1 H'
def PVs (ρ : Sto) (H : Hp) (Q : List V → Hp → Prop) : List D × List O → Prop := fun r => ∀ ρ' H' vs, Le c ρ H ρ' H' → Ok K c ρ' r.2 H' → RVs K c H' ρ' r.1 vs → Q vs H'
/-- an error that leaves, its own dict at d -/
def PX (ρ : Sto) (H : Hp) : XP := fun k fs h => k < c.m ∧ fs.length = (c.eF k).length ∧ ∀ ρ' H' d vs, Le c ρ H ρ' H' → Ok K c ρ' h H' → (fs ≠ [] → ∃ dd, d = some dd ∧ H' dd = some (.xd ((c.eF k).zip vs)) ∧ Off c ρ' dd) → RVs K c H' ρ' fs vs → c.E (.ref (c.eA k)) d H'
/-- how a statement ends -/
inductive Out where
  | nx (s : Sg) | rt (x : D) | bk (s : Sg) | ct (s : Sg)
def PD (ρ : Sto) (H : Hp) (E : Ends) : Out × List O → Prop := fun r => match r.1 with
  | .nx s => ∀ ρ' H' σ, Le c ρ H ρ' H' → Ok K c ρ' r.2 H' → Env K c H' ρ' s σ → E.nx σ H'
  | .rt x => ∀ ρ' H' v, Le c ρ H ρ' H' → Ok K c ρ' r.2 H' → RV K c H' ρ' x v → E.rt v H'
  | .bk s => ∀ ρ' H' σ, Le c ρ H ρ' H' → Ok K c ρ' r.2 H' → Env K c H' ρ' s σ → E.bk σ H'
  | .ct s => ∀ ρ' H' σ, Le c ρ H ρ' H' → Ok K c ρ' r.2 H' → Env K c H' ρ' s σ → E.ct σ H'
def tE (f : Sg → M D) : TE := fun σ H Q => ∃ ρ h s, Ok K c ρ h H ∧ Env K c H ρ s σ ∧ (f s h).All (PV K c ρ H Q) (PX K c ρ H)
def tT (f : Sg → M Bool) : TT := fun σ H Q => ∃ ρ h s, Ok K c ρ h H ∧ Env K c H ρ s σ ∧ (f s h).All (PB K c ρ H Q) (PX K c ρ H)
def tA (f : Sg → M (List D)) : TA := fun σ H Q => ∃ ρ h s, Ok K c ρ h H ∧ Env K c H ρ s σ ∧ (f s h).All (PVs K c ρ H Q) (PX K c ρ H)
def tS (f : Sg → M Out) : TS := fun E σ H => ∃ ρ h s, Ok K c ρ h H ∧ Env K c H ρ s σ ∧ (f s h).All (PD K c ρ H E) (PX K c ρ H)
/-- a target: the value, the slots -/
def tG (f : D → Sg → M Sg) : TG := fun v σ H Q => ∃ ρ h s x, Ok K c ρ h H ∧ Env K c H ρ s σ ∧ RV K c H ρ x v ∧
  (f x s h).All (fun r => ∀ ρ' H' σ', Le c ρ H ρ' H' → Ok K c ρ' r.2 H' → Env K c H' ρ' r.1 σ' → Q σ' H') (PX K c ρ H)
def tGs (f : List D → Sg → M Sg) : TGs := fun vs σ H Q => ∃ ρ h s xs, Ok K c ρ h H ∧ Env K c H ρ s σ ∧ RVs K c H ρ xs vs ∧
  (f xs s h).All (fun r => ∀ ρ' H' σ', Le c ρ H ρ' H' → Ok K c ρ' r.2 H' → Env K c H' ρ' r.1 σ' → Q σ' H') (PX K c ρ H)
/-- other objects that a caller may change, another wish of an error -/
def Ct.at (hid : List Addr) (E : XK) : Ct := { c with hid := hid, E := E }
/-- a def -/
def spF (F : List D → M D) : Sp := fun vs H Q E => ∃ hid ρ h xs, Ok K (c.at hid E) ρ h H ∧ RVs K (c.at hid E) H ρ xs vs ∧ (F xs h).All (PV K (c.at hid E) ρ H Q) (PX K (c.at hid E) ρ H)
end
section
variable {K : PySem.W.Frag} {c : Ct} {ρ ρ1 ρ2 : Sto} {H H1 H2 : Hp}
theorem Env.le {s : Sg} {σ : L2.St} (l : Le c ρ H ρ1 H1) (e : Env K c H ρ s σ) : Env K c H1 ρ1 s σ := ⟨e.1, fun i x h => let ⟨v, h1, h2⟩ := e.2 i x h; ⟨v, h1, h2.le l⟩⟩
theorem Env.set {s : Sg} {σ : L2.St} (e : Env K c H ρ s σ) {i : Nat} {x : D} {v : V} (r : RV K c H ρ x v) : Env K c H ρ (s.set i (some x)) (σ.set i (some v)) := by
  refine ⟨by simp [e.1], fun j y h => ?_⟩
  by_cases hj : j = i
  · subst hj
    obtain ⟨q, w⟩ := List.getElem?_eq_some_iff.mp h
    simp at q w
    refine ⟨v, by rw [List.getElem?_set_self (by rw [← e.1]; exact q)], by rw [← w]; exact r⟩
  · rw [List.getElem?_set_ne (Ne.symm hj)] at h
    obtain ⟨v', h1, h2⟩ := e.2 j y h
    exact ⟨v', by rw [List.getElem?_set_ne (Ne.symm hj)]; exact h1, h2⟩
theorem PV.le {Q : VK} {r : D × List O} (l : Le c ρ H ρ1 H1) (h : PV K c ρ H Q r) : PV K c ρ1 H1 Q r := fun ρ' H' v l' => h ρ' H' v (l.trans l')
theorem PB.le {Q : Bool → Hp → Prop} {r : Bool × List O} (l : Le c ρ H ρ1 H1) (h : PB K c ρ H Q r) : PB K c ρ1 H1 Q r := fun ρ' H' l' => h ρ' H' (l.trans l')
theorem PVs.le {Q : List V → Hp → Prop} {r : List D × List O} (l : Le c ρ H ρ1 H1) (h : PVs K c ρ H Q r) : PVs K c ρ1 H1 Q r := fun ρ' H' v l' => h ρ' H' v (l.trans l')
theorem PX.le {k : Nat} {fs : List D} {h' : List O} (l : Le c ρ H ρ1 H1) (h : PX K c ρ H k fs h') : PX K c ρ1 H1 k fs h' := ⟨h.1, h.2.1, fun ρ' H' d vs l' => h.2.2 ρ' H' d vs (l.trans l')⟩
theorem PD.le {E : Ends} {r : Out × List O} (l : Le c ρ H ρ1 H1) (h : PD K c ρ H E r) : PD K c ρ1 H1 E r := by
  obtain ⟨o, h'⟩ := r
  cases o with
  | nx s => exact fun ρ' H' v l' => h ρ' H' v (l.trans l')
  | rt s => exact fun ρ' H' v l' => h ρ' H' v (l.trans l')
  | bk s => exact fun ρ' H' v l' => h ρ' H' v (l.trans l')
  | ct s => exact fun ρ' H' v l' => h ρ' H' v (l.trans l')
/-- all of it, as seen later -/
theorem Tr.All.le {α : Type} {P R : α → Prop} {t : Tr α} (l : Le c ρ H ρ1 H1) (q : t.All P (PX K c ρ H)) (m : ∀ a, P a → R a) : t.All R (PX K c ρ1 H1) := q.mono2 m fun _ _ _ z => z.le l
end
theorem PE.imp {X : Cx} {e : Expr} {t t' : TE} (h : PE X e t) (i : ∀ σ H Q, t' σ H Q → t σ H Q) : PE X e t' := ⟨fun pins s σ H Q I q => h.run pins s σ H Q I (i _ _ _ q)⟩
theorem PT.imp {X : Cx} {e : Expr} {t t' : TT} (h : PT X e t) (i : ∀ σ H Q, t' σ H Q → t σ H Q) : PT X e t' := ⟨fun pins s σ H Q I q => h.run pins s σ H Q I (i _ _ _ q)⟩
theorem PW.imp {X : Cx} {e : Expr} {t t' : TT} (h : PW X e t) (i : ∀ σ H Q, t' σ H Q → t σ H Q) : PW X e t' := ⟨fun wh pins s σ H Q I q => h.run wh pins s σ H Q I (i _ _ _ q)⟩
theorem PA.imp {X : Cx} {e : List Expr} {t t' : TA} (h : PA X e t) (i : ∀ σ H Q, t' σ H Q → t σ H Q) : PA X e t' := ⟨fun pos pins s σ H Q I q => h.run pos pins s σ H Q I (i _ _ _ q)⟩
theorem PS.imp {X : Cx} {e : Stmt} {t t' : TS} (h : PS X e t) (i : ∀ E σ H, t' E σ H → t E σ H) : PS X e t' := ⟨fun pins s σ H Q I q => h.run pins s σ H Q I (i _ _ _ q)⟩
theorem PSs.imp {X : Cx} {e : List Stmt} {t t' : TS} (h : PSs X e t) (i : ∀ E σ H, t' E σ H → t E σ H) : PSs X e t' := ⟨fun pins s σ H Q I q => h.run pins s σ H Q I (i _ _ _ q)⟩
theorem PG.imp {X : Cx} {e : Expr} {t t' : TG} (h : PG X e t) (i : ∀ v σ H Q, t' v σ H Q → t v σ H Q) : PG X e t' := ⟨fun pins s σ H v u Q I r q => h.run pins s σ H v u Q I r (i _ _ _ _ q)⟩
theorem PGs.imp {X : Cx} {e : List Expr} {t t' : TGs} (h : PGs X e t) (i : ∀ v σ H Q, t' v σ H Q → t v σ H Q) : PGs X e t' := ⟨fun pins s σ H v u Q I r q => h.run pins s σ H v u Q I r (i _ _ _ _ q)⟩
end Ev

/-! Expressions of the evaluator. -/
namespace Ev
open PySem PySem.Spec PyProof.Rows L2 Dr
abbrev EE (c : Ct) (X : Cx) (e : Expr) (f : Sg → M D) : Prop := PE X e (tE X.K c f)
abbrev ET (c : Ct) (X : Cx) (e : Expr) (f : Sg → M Bool) : Prop := PT X e (tT X.K c f)
abbrev EW (c : Ct) (X : Cx) (e : Expr) (f : Sg → M Bool) : Prop := PW X e (tT X.K c f)
abbrev EA (c : Ct) (X : Cx) (es : List Expr) (f : Sg → M (List D)) : Prop := PA X es (tA X.K c f)
/-! ### steps -/
def fVar (i : Nat) : Sg → M D := fun s h => match s[i]? with
  | some (some x) => .ret (x, h)
  | _ => .bad
def fC (x : D) : Sg → M D := fun _ h => .ret (x, h)
def f1 (op : D → M D) (fa : Sg → M D) : Sg → M D := fun s => M.bind (fa s) op
def f2 (op : D → D → M D) (fa fb : Sg → M D) : Sg → M D := fun s => M.bind (fa s) fun x => M.bind (fb s) fun y => op x y
def fNil : Sg → M (List D) := fun _ h => .ret ([], h)
def fCons (fa : Sg → M D) (fr : Sg → M (List D)) : Sg → M (List D) := fun s => M.bind (fa s) fun x => M.bind (fr s) fun xs => M.ret (x :: xs)
def fN (op : List D → M D) (fa : Sg → M (List D)) : Sg → M D := fun s => M.bind (fa s) op
/-- a pure look at the store -/
abbrev Cmp := List O → D → D → Option Bool
def cmpV (p : Cmp) : D → D → M D := fun x y h => match p h x y with
  | some b => .ret (.bl b, h)
  | none => .bad
def cmpB (p : Cmp) : D → D → M Bool := fun x y h => match p h x y with
  | some b => .ret (b, h)
  | none => .bad
def t2 (p : Cmp) (fa fb : Sg → M D) : Sg → M Bool := fun s => M.bind (fa s) fun x => M.bind (fb s) fun y => cmpB p x y
def asB : D → M Bool := fun x h => match x with
  | .bl b => .ret (b, h)
  | _ => .bad
def tVal (fa : Sg → M D) : Sg → M Bool := fun s => M.bind (fa s) asB
def tAndF (fa fb : Sg → M Bool) : Sg → M Bool := fun s => M.bind (fa s) fun b => if b = true then fb s else M.ret false
def tOrF (fa fb : Sg → M Bool) : Sg → M Bool := fun s => M.bind (fa s) fun b => if b = true then M.ret true else fb s
def tNotF (fa : Sg → M Bool) : Sg → M Bool := fun s => M.bind (fa s) fun b => M.ret (!b)
def fAnd (fa fb : Sg → M D) : Sg → M D := fun s => M.bind (M.bind (fa s) asB) fun b => if b = true then fb s else M.ret (.bl false)
def fOr (fa fb : Sg → M D) : Sg → M D := fun s => M.bind (M.bind (fa s) asB) fun b => if b = true then M.ret (.bl true) else fb s
def fNot (fa : Sg → M D) : Sg → M D := fun s => M.bind (M.bind (fa s) asB) fun b => M.ret (.bl (!b))
def fIf (ft : Sg → M Bool) (fa fb : Sg → M D) : Sg → M D := fun s => M.bind (ft s) fun b => if b = true then fa s else fb s
def fChain (p q : Cmp) (fa fb fc : Sg → M D) : Sg → M D := fun s => M.bind (fa s) fun x => M.bind (fb s) fun y => M.bind (cmpB p x y) fun k => if k = true then M.bind (fc s) fun z => cmpV q y z else M.ret (.bl false)
def tChainF (p q : Cmp) (fa fb fc : Sg → M D) : Sg → M Bool := fun s => M.bind (fChain p q fa fb fc s) asB
section
variable {X : Cx} {c : Ct} {e a b d : Expr} {es : List Expr} {fa fb fc : Sg → M D} {ft fu : Sg → M Bool} {fr : Sg → M (List D)} {pos : Pos}
theorem ev_var (i : Nat) {x : Str} (hN : X.N[i]? = some x := by rfl) (hv : Vis X.env.scope x := by first | exact Or.inl rfl | exact Or.inr (Or.inl rfl) | exact Or.inr (Or.inr rfl)) (hd : (x == ("__debug__" : Str)) = false := by decide)
    (hcd : (x == ("__classdict__" : Str)) = false := by decide) : EE c X (.Name x pos) (fVar i) := PE.imp (pe_var hN hv hd hcd) fun σ H Q ⟨ρ, h, s, ok, env, q⟩ => by
  unfold fVar at q
  split at q
  · rename_i x hx
    obtain ⟨v, h1, h2⟩ := env.2 i x hx
    exact ⟨v, h1, q ρ H v .refl ok h2⟩
  · exact q.elim
theorem ev_c {x : D} {v : V} (hp : PE X e (tC v)) (r : ∀ H ρ, RV X.K c H ρ x v) : EE c X e (fC x) := PE.imp hp fun σ H Q ⟨ρ, h, s, ok, env, q⟩ => q ρ H v .refl ok (r H ρ)
theorem ev_int {i : Int} {j : Nat} : EE c X (.Constant (.int i) j pos) (fC (.int i)) := ev_c pe_int fun _ _ => .int i
theorem ev_bl {i : Bool} {j : Nat} : EE c X (.Constant (.bool i) j pos) (fC (.bl i)) := ev_c pe_bl fun _ _ => .bl i
theorem ev_non {j : Nat} : EE c X (.Constant .none j pos) (fC .non) := ev_c pe_non fun _ _ => .non
theorem ev_str {i : Str} {j : Nat} : EE c X (.Constant (.str i) j pos) (fC (.str i)) := ev_c pe_str fun _ _ => .str i
/-- a constant of the module -/
theorem ev_glob {x : Str} {d : D} {v : V} {u : Value} (hm : X.mg x = some u) (r : RelV v u) (rv : ∀ H ρ, RV X.K c H ρ d v) (hg : Gl X x := by rfl) (hd : (x == ("__debug__" : Str)) = false := by decide) : EE c X (.Name x pos) (fC d) := ev_c (pe_glob hg hm r hd) rv
/-! a step by values -/
def Op1 (K : PySem.W.Frag) (c : Ct) (r : V → Hp → VK → Prop) (op : D → M D) : Prop := ∀ {ρ h H x v Q}, Ok K c ρ h H → RV K c H ρ x v → (op x h).All (PV K c ρ H Q) (PX K c ρ H) → r v H Q
def Op2 (K : PySem.W.Frag) (c : Ct) (r : R2) (op : D → D → M D) : Prop := ∀ {ρ h H x y v w Q}, Ok K c ρ h H → RV K c H ρ x v → RV K c H ρ y w → (op x y h).All (PV K c ρ H Q) (PX K c ρ H) → r v w H Q
def OpN (K : PySem.W.Frag) (c : Ct) (r : List V → Hp → VK → Prop) (op : List D → M D) : Prop := ∀ {ρ h H xs vs Q}, Ok K c ρ h H → RVs K c H ρ xs vs → (op xs h).All (PV K c ρ H Q) (PX K c ρ H) → r vs H Q
def CmpS (K : PySem.W.Frag) (c : Ct) (r : R2) (p : Cmp) : Prop := ∀ {ρ h H x y v w Q b}, Ok K c ρ h H → RV K c H ρ x v → RV K c H ρ y w → p h x y = some b → Q (.bl b) H → r v w H Q
theorem tE_1 {r : V → Hp → VK → Prop} {op : D → M D} (ho : Op1 X.K c r op) {σ H Q} (q : tE X.K c (f1 op fa) σ H Q) : tE X.K c fa σ H fun x H1 => r x H1 Q := by
  obtain ⟨ρ, h, s, ok, env, q⟩ := q
  exact ⟨ρ, h, s, ok, env, (M.all_bind.mp q).mono fun ⟨x, h1⟩ q1 ρ1 H1 v l1 ok1 r1 => ho ok1 r1 (Tr.All.le l1 q1 fun r q => q.le l1)⟩
theorem tE_2 {r : R2} {op : D → D → M D} (ho : Op2 X.K c r op) {σ H Q} (q : tE X.K c (f2 op fa fb) σ H Q) : tE X.K c fa σ H fun x H1 => tE X.K c fb σ H1 fun y H2 => r x y H2 Q := by
  obtain ⟨ρ, h, s, ok, env, q⟩ := q
  refine ⟨ρ, h, s, ok, env, (M.all_bind.mp q).mono fun ⟨x, h1⟩ q1 ρ1 H1 v l1 ok1 r1 => ?_⟩
  exact ⟨ρ1, h1, s, ok1, env.le l1, Tr.All.le l1 (M.all_bind.mp q1) fun ⟨y, h2⟩ q2 ρ2 H2 w l2 ok2 r2 => ho ok2 (r1.le l2) r2 (Tr.All.le (l1.trans l2) q2 fun r q => q.le (l1.trans l2))⟩
theorem ev_op {op : Operator} {r : R2} {g : D → D → M D} (ho : OpR X (binaryOp op) r) (hs : Op2 X.K c r g) (ha : EE c X a fa) (hb : EE c X b fb) : EE c X (.BinOp a op b pos) (f2 g fa fb) :=
  PE.imp (pe_op ho ha hb) fun σ H Q q => tE_2 hs q
theorem ev_un {op : UnaryOp} {r : V → Hp → VK → Prop} {g : D → M D} (ho : UnR X (unaryOp op) r) (hs : Op1 X.K c r g) (ha : EE c X a fa) : EE c X (.UnaryOp op a pos) (f1 g fa) :=
  PE.imp (pe_un ho ha) fun σ H Q q => tE_1 hs q
theorem CmpS.v {K : PySem.W.Frag} {r : R2} {p : Cmp} (h : CmpS K c r p) : Op2 K c r (cmpV p) := fun {ρ hh H x y v w Q} ok r1 r2 q => by
  unfold cmpV at q
  split at q
  · rename_i b hb
    exact h ok r1 r2 hb (q ρ H _ .refl ok (.bl b))
  · exact q.elim
theorem ev_cmp {op : CmpOp} {r : R2} {p : Cmp} (ho : OpR X (compareOp op) r) (hs : CmpS X.K c r p) (ha : EE c X a fa) (hb : EE c X b fb) (hm : behindInMarks op b = false := by rfl) : EE c X (.Compare a [op] [b] pos) (f2 (cmpV p) fa fb) :=
  PE.imp (pe_cmpR ho ha hb hm) fun σ H Q q => tE_2 hs.v q
theorem et_cmp {op : CmpOp} {r : R2} {p : Cmp} (ho : OpR X (compareOp op) r) (hs : CmpS X.K c r p) (ha : EE c X a fa) (hb : EE c X b fb) (hm : behindInMarks op b = false := by rfl) : ET c X (.Compare a [op] [b] pos) (t2 p fa fb) :=
  PT.imp (pt_cmpR ho ha hb hm) fun σ H Q ⟨ρ, h, s, ok, env, q⟩ => by
    refine ⟨ρ, h, s, ok, env, (M.all_bind.mp q).mono fun ⟨x, h1⟩ q1 ρ1 H1 v l1 ok1 r1 => ?_⟩
    refine ⟨ρ1, h1, s, ok1, env.le l1, Tr.All.le l1 (M.all_bind.mp q1) fun ⟨y, h2⟩ q2 ρ2 H2 w l2 ok2 r2 => ?_⟩
    dsimp only [cmpB] at q2
    split at q2
    · rename_i k hk
      exact hs ok2 (r1.le l2) r2 hk ⟨_, rfl, q2 ρ2 H2 (l1.trans l2) ok2⟩
    · exact q2.elim
theorem ev_chain {op op' : CmpOp} {r r' : R2} {p p' : Cmp} (ho : OpR X (compareOp op) r) (ho' : OpR X (compareOp op') r') (hs : CmpS X.K c r p) (hs' : CmpS X.K c r' p') (ha : EE c X a fa) (hb : EE c X b fb) (hd : EE c X d fc) (hm : lastMarks [op, op'] [b, d] = false := by with_unfolding_all rfl) :
    EE c X (.Compare a [op, op'] [b, d] pos) (fChain p p' fa fb fc) :=
  PE.imp (pe_chain ho ho' ha hb hd hm) fun σ H Q ⟨ρ, h, s, ok, env, q⟩ => by
    refine ⟨ρ, h, s, ok, env, (M.all_bind.mp q).mono fun ⟨x, h1⟩ q1 ρ1 H1 v l1 ok1 r1 => ?_⟩
    refine ⟨ρ1, h1, s, ok1, env.le l1, Tr.All.le l1 (M.all_bind.mp q1) fun ⟨y, h2⟩ q2 ρ2 H2 w l2 ok2 r2 => ?_⟩
    have q2 := M.all_bind.mp q2
    dsimp only [cmpB] at q2
    split at q2
    · rename_i k hk
      refine hs ok2 (r1.le l2) r2 hk ⟨k, rfl, ?_⟩
      replace q2 : ((if k = true then M.bind (fc s) fun z => cmpV p' y z else M.ret (.bl false)) h2).All (PV X.K c ρ H Q) (PX X.K c ρ H) := q2
      by_cases hk : k = true
      · rw [if_pos hk] at q2 ⊢
        refine ⟨ρ2, h2, s, ok2, env.le (l1.trans l2), Tr.All.le (l1.trans l2) (M.all_bind.mp q2) fun ⟨z, h3⟩ q3 ρ3 H3 u l3 ok3 r3 => ?_⟩
        exact hs'.v ok3 (r2.le l3) r3 (Tr.All.le (l1.trans (l2.trans l3)) q3 fun r q => q.le (l1.trans (l2.trans l3)))
      · rw [if_neg hk] at q2 ⊢
        exact q2 ρ2 H2 _ (l1.trans l2) ok2 (.bl false)
    · exact q2.elim
/-! tests -/
theorem tE_b {f : Sg → M D} {σ H} {Q : Bool → Hp → Prop} (q : tT X.K c (tVal f) σ H Q) : tE X.K c f σ H fun x H1 => ∃ k, x = .bl k ∧ Q k H1 := by
  obtain ⟨ρ, h, s, ok, env, q⟩ := q
  refine ⟨ρ, h, s, ok, env, (M.all_bind.mp q).mono fun ⟨x, h1⟩ q1 ρ1 H1 v l1 ok1 r1 => ?_⟩
  dsimp only [asB] at q1
  split at q1
  · cases r1
    exact ⟨_, rfl, q1 ρ1 H1 l1 ok1⟩
  · exact q1.elim
theorem et_val {f : Sg → M D} (h : EE c X e f) (he : ∀ whole, isTrue e X.env whole = (do let v ← whole; standAt e.pos; holding [v] (truthy v)) := by intro _; rfl) : ET c X e (tVal f) := PT.imp (pt_val h he) fun σ H Q q => tE_b q
theorem et_not (h : ET c X a ft) : ET c X (.UnaryOp .Not a pos) (tNotF ft) := PT.imp (pt_not h) fun σ H Q ⟨ρ, h, s, ok, env, q⟩ =>
  ⟨ρ, h, s, ok, env, (M.all_bind.mp q).mono fun ⟨x, h1⟩ q1 ρ1 H1 l1 ok1 => q1 ρ1 H1 l1 ok1⟩
theorem ew_and1 (h : ET c X a ft) : EW c X (.BoolOp .And [a] pos) ft := pw_and1 h
theorem ew_or1 (h : ET c X a ft) : EW c X (.BoolOp .Or [a] pos) ft := pw_or1 h
theorem ew_and (h : ET c X a ft) (h2 : EW c X (.BoolOp .And (b :: es) pos) fu) : EW c X (.BoolOp .And (a :: b :: es) pos) (tAndF ft fu) := PW.imp (pw_and h h2) fun σ H Q ⟨ρ, h, s, ok, env, q⟩ => by
  refine ⟨ρ, h, s, ok, env, (M.all_bind.mp q).mono fun ⟨x, h1⟩ q1 ρ1 H1 l1 ok1 => ?_⟩
  dsimp only at q1 ⊢
  by_cases hx : x = true
  · rw [if_pos hx] at q1 ⊢
    exact ⟨ρ1, h1, s, ok1, env.le l1, Tr.All.le l1 q1 fun r q => q.le l1⟩
  · rw [if_neg hx] at q1 ⊢
    exact q1 ρ1 H1 l1 ok1
theorem ew_or (h : ET c X a ft) (h2 : EW c X (.BoolOp .Or (b :: es) pos) fu) : EW c X (.BoolOp .Or (a :: b :: es) pos) (tOrF ft fu) := PW.imp (pw_or h h2) fun σ H Q ⟨ρ, h, s, ok, env, q⟩ => by
  refine ⟨ρ, h, s, ok, env, (M.all_bind.mp q).mono fun ⟨x, h1⟩ q1 ρ1 H1 l1 ok1 => ?_⟩
  dsimp only at q1 ⊢
  by_cases hx : x = true
  · rw [if_pos hx] at q1 ⊢
    exact q1 ρ1 H1 l1 ok1
  · rw [if_neg hx] at q1 ⊢
    exact ⟨ρ1, h1, s, ok1, env.le l1, Tr.All.le l1 q1 fun r q => q.le l1⟩
theorem ew_t (h : EW c X e ft) : ET c X e ft := h.pt
/-! and, or, not as values -/
theorem ev_one {op : BoolOp} (h : EE c X a fa) : EE c X (.BoolOp op [a] pos) fa := pe_one h
theorem ev_and (h : EE c X a fa) (h2 : EE c X (.BoolOp .And (b :: es) pos) fb) : EE c X (.BoolOp .And (a :: b :: es) pos) (fAnd fa fb) := PE.imp (pe_and h h2) fun σ H Q ⟨ρ, h, s, ok, env, q⟩ => by
  refine ⟨ρ, h, s, ok, env, (M.all_bind.mp (M.all_bind.mp q)).mono fun ⟨x, h1⟩ q1 ρ1 H1 v l1 ok1 r1 => ?_⟩
  dsimp only [asB] at q1
  split at q1
  · rename_i k
    cases r1
    refine ⟨k, rfl, ?_⟩
    replace q1 : ((if k = true then fb s else M.ret (.bl false)) h1).All (PV X.K c ρ H Q) (PX X.K c ρ H) := q1
    by_cases hx : k = true
    · rw [if_pos hx] at q1 ⊢
      exact ⟨ρ1, h1, s, ok1, env.le l1, Tr.All.le l1 q1 fun r q => q.le l1⟩
    · rw [if_neg hx] at q1 ⊢
      exact q1 ρ1 H1 _ l1 ok1 (.bl _)
  · exact q1.elim
theorem ev_or (h : EE c X a fa) (h2 : EE c X (.BoolOp .Or (b :: es) pos) fb) : EE c X (.BoolOp .Or (a :: b :: es) pos) (fOr fa fb) := PE.imp (pe_or h h2) fun σ H Q ⟨ρ, h, s, ok, env, q⟩ => by
  refine ⟨ρ, h, s, ok, env, (M.all_bind.mp (M.all_bind.mp q)).mono fun ⟨x, h1⟩ q1 ρ1 H1 v l1 ok1 r1 => ?_⟩
  dsimp only [asB] at q1
  split at q1
  · rename_i k
    cases r1
    refine ⟨k, rfl, ?_⟩
    replace q1 : ((if k = true then M.ret (.bl true) else fb s) h1).All (PV X.K c ρ H Q) (PX X.K c ρ H) := q1
    by_cases hx : k = true
    · rw [if_pos hx] at q1 ⊢
      exact q1 ρ1 H1 _ l1 ok1 (.bl _)
    · rw [if_neg hx] at q1 ⊢
      exact ⟨ρ1, h1, s, ok1, env.le l1, Tr.All.le l1 q1 fun r q => q.le l1⟩
  · exact q1.elim
theorem ev_not (h : EE c X a fa) : EE c X (.UnaryOp .Not a pos) (fNot fa) := PE.imp (pe_not h) fun σ H Q ⟨ρ, h, s, ok, env, q⟩ => by
  refine ⟨ρ, h, s, ok, env, (M.all_bind.mp (M.all_bind.mp q)).mono fun ⟨x, h1⟩ q1 ρ1 H1 v l1 ok1 r1 => ?_⟩
  dsimp only [asB] at q1
  split at q1
  · cases r1
    exact ⟨_, rfl, q1 ρ1 H1 _ l1 ok1 (.bl _)⟩
  · exact q1.elim
theorem ev_if (h : ET c X d ft) (ha : EE c X a fa) (hb : EE c X b fb) : EE c X (.IfExp d a b pos) (fIf ft fa fb) := PE.imp (pe_ifExp h ha hb) fun σ H Q ⟨ρ, h, s, ok, env, q⟩ => by
  refine ⟨ρ, h, s, ok, env, (M.all_bind.mp q).mono fun ⟨x, h1⟩ q1 ρ1 H1 l1 ok1 => ?_⟩
  dsimp only at q1 ⊢
  by_cases hx : x = true
  · rw [if_pos hx] at q1 ⊢
    exact ⟨ρ1, h1, s, ok1, env.le l1, Tr.All.le l1 q1 fun r q => q.le l1⟩
  · rw [if_neg hx] at q1 ⊢
    exact ⟨ρ1, h1, s, ok1, env.le l1, Tr.All.le l1 q1 fun r q => q.le l1⟩
/-! arguments, displays, calls -/
theorem ea_nil : EA c X [] fNil := PA.imp pa_nil fun σ H Q ⟨ρ, h, s, ok, env, q⟩ => q ρ H [] .refl ok .nil
theorem ea_cons (ha : EE c X e fa) (hr : EA c X es fr) (hs : starEach (e :: es) X.env = (false, eval e X.env) :: starEach es X.env := by rfl) : EA c X (e :: es) (fCons fa fr) := PA.imp (pa_cons ha hr hs) fun σ H Q ⟨ρ, h, s, ok, env, q⟩ => by
  refine ⟨ρ, h, s, ok, env, (M.all_bind.mp q).mono fun ⟨x, h1⟩ q1 ρ1 H1 v l1 ok1 r1 => ?_⟩
  exact ⟨ρ1, h1, s, ok1, env.le l1, Tr.All.le l1 (M.all_bind.mp q1) fun ⟨y, h2⟩ q2 ρ2 H2 w l2 ok2 r2 => q2 ρ2 H2 _ (l1.trans l2) ok2 (.cons (r1.le l2) r2)⟩
theorem tA_N {r : List V → Hp → VK → Prop} {op : List D → M D} (ho : OpN X.K c r op) {σ H Q} (q : tE X.K c (fN op fr) σ H Q) : tA X.K c fr σ H fun x H1 => r x H1 Q := by
  obtain ⟨ρ, h, s, ok, env, q⟩ := q
  exact ⟨ρ, h, s, ok, env, (M.all_bind.mp q).mono fun ⟨x, h1⟩ q1 ρ1 H1 v l1 ok1 r1 => ho ok1 r1 (Tr.All.le l1 q1 fun r q => q.le l1)⟩
/-- lists and tuples are short -/
def lim : Nat := 1000000
theorem lim_line {n : Nat} (h : n ≤ lim) : n < sizeLine := Nat.lt_of_le_of_lt h (by decide)
def mkTup (xs : List D) : M D := fun h => if xs.length ≤ lim then .ret (.tup xs, h) else .bad
def mkLst (xs : List D) : M D := fun h => if xs.length ≤ lim then .ret (.loc h.length, h ++ [.lst xs]) else .bad
theorem Ok.tup {K : PySem.W.Frag} {ρ h H xs vs Q} (ok : Ok K c ρ h H) (r : RVs K c H ρ xs vs) (q : (mkTup xs h).All (PV K c ρ H Q) (PX K c ρ H)) : vs.length ≤ sizeLine ∧ ∀ p, H p = none → Q (.ref p) (upd H p (.tup vs)) := by
  unfold mkTup at q
  split at q
  · rename_i hl
    refine ⟨by rw [← r.len]; exact Nat.le_of_lt (lim_line hl), fun p np => ?_⟩
    obtain ⟨l, ok1⟩ := ok.other (o := .tup vs) np
    exact q ρ _ _ l ok1 (.tup (SqT.of upd_same) (r.le l))
  · exact q.elim
theorem Ok.lst {K : PySem.W.Frag} {ρ h H xs vs Q} (ok : Ok K c ρ h H) (r : RVs K c H ρ xs vs) (q : (mkLst xs h).All (PV K c ρ H Q) (PX K c ρ H)) : vs.length ≤ sizeLine ∧ ∀ p, H p = none → Q (.ref p) (upd H p (.lst vs)) := by
  unfold mkLst at q
  split at q
  · rename_i hl
    refine ⟨by rw [← r.len]; exact Nat.le_of_lt (lim_line hl), fun p np => ?_⟩
    obtain ⟨l, ok1⟩ := ok.push (u := .lst vs) (o := .lst xs) np fun H1 l e => ⟨vs, e, r.le l⟩
    exact q _ _ _ l ok1 (.loc (by rw [← ok.len]; simp [Sto.push]))
  · exact q.elim
theorem ev_tup {k : Nat} (ha : EA c X es fr) : EE c X (.Tuple es k pos) (fN mkTup fr) := PE.imp (pe_tup ha) fun σ H Q q => tA_N (r := fun vs H Q => vs.length ≤ sizeLine ∧ ∀ p, H p = none → Q (.ref p) (upd H p (.tup vs))) (fun ok r q => ok.tup r q) q
theorem ev_lst (ha : EA c X es fr) : EE c X (.List es pos) (fN mkLst fr) := PE.imp (pe_lst ha) fun σ H Q q => tA_N (r := fun vs H Q => vs.length ≤ sizeLine ∧ ∀ p, H p = none → Q (.ref p) (upd H p (.lst vs))) (fun ok r q => ok.lst r q) q
/-- a list that nobody changes -/
def mkFz (xs : List D) : M D := fun h => if xs.length ≤ lim then .ret (.lst xs, h) else .bad
/-- a new list, in either way -/
structure MkOk (K : PySem.W.Frag) (c : Ct) (mk : List D → M D) : Prop where
  go : ∀ {ρ h H xs vs Q}, Ok K c ρ h H → RVs K c H ρ xs vs → (mk xs h).All (PV K c ρ H Q) (PX K c ρ H) → vs.length ≤ sizeLine ∧ ∀ p, H p = none → Q (.ref p) (upd H p (.lst vs))
theorem mk_lst {K : PySem.W.Frag} : MkOk K c mkLst := ⟨fun ok r q => ok.lst r q⟩
theorem mk_fz {K : PySem.W.Frag} : MkOk K c mkFz := ⟨fun {ρ h H xs vs Q} ok r q => by
  unfold mkFz at q
  split at q
  · rename_i hl
    refine ⟨by rw [← r.len]; exact Nat.le_of_lt (lim_line hl), fun p np => ?_⟩
    obtain ⟨l, ok1⟩ := ok.other (o := .lst vs) np
    have o1 := ok.offN np
    exact q ρ _ _ l ok1 (.lst upd_same o1 (r.le l))
  · exact q.elim⟩
theorem ev_lstF {mk : List D → M D} (m : MkOk X.K c mk) (ha : EA c X es fr) : EE c X (.List es pos) (fN mk fr) := PE.imp (pe_lst ha) fun σ H Q q => tA_N (r := fun vs H Q => vs.length ≤ sizeLine ∧ ∀ p, H p = none → Q (.ref p) (upd H p (.lst vs))) (fun ok r q => m.go ok r q) q
/-! what stands in a value -/
def lstD (h : List O) : D → Option (List D)
  | .lst xs => some xs
  | .loc n => match h[n]? with
    | some (.lst xs) => some xs
    | _ => none
  | _ => none
theorem lstD_ok {K : PySem.W.Frag} {ρ h H x v xs} (ok : Ok K c ρ h H) (r : RV K c H ρ x v) (e : lstD h x = some xs) : ∃ a vs, v = .ref a ∧ H a = some (.lst vs) ∧ RVs K c H ρ xs vs := by
  unfold lstD at e
  split at e
  · cases e
    cases r with
    | lst h1 _ h2 => exact ⟨_, _, rfl, h1, h2⟩
  · split at e
    · rename_i hx
      cases e
      cases r with
      | loc g1 =>
        obtain ⟨vs, e1, e2⟩ := ok.objs _ _ _ hx g1
        exact ⟨_, _, rfl, e1, e2⟩
    · cases e
  · cases e
def seqD (h : List O) : D → Option (List D)
  | .tup xs => some xs
  | x => lstD h x
theorem seqD_ok {K : PySem.W.Frag} {ρ h H x v xs} (ok : Ok K c ρ h H) (r : RV K c H ρ x v) (e : seqD h x = some xs) : ∃ a vs, v = .ref a ∧ (SqL K H a vs ∨ SqT K H a vs) ∧ RVs K c H ρ xs vs := by
  unfold seqD at e
  split at e
  · cases e
    cases r with
    | tup h1 h2 => exact ⟨_, _, rfl, .inr h1, h2⟩
  · obtain ⟨a, vs, e0, e1, e2⟩ := lstD_ok ok r e
    exact ⟨a, vs, e0, .inl (SqL.of e1), e2⟩
/-- a built-in by its name -/
theorem ev_blt {id : String} {r : List V → Hp → VK → Prop} {x : Str} {p : Pos} {op : List D → M D} (hc : CallR X (.builtin id) r) (ho : OpN X.K c r op) (hm : X.mg x = none) (hv : bootBuiltins x = some (.builtin id)) (ha : EA c X (e :: es) fr) (hg : Gl X x := by rfl) (hn : x ≠ "__name__" := by decide) (hdb : (x == ("__debug__" : Str)) = false := by decide)
    (hs : starEach (e :: es) X.env = (false, eval e X.env) :: starEach es X.env := by rfl) (hp : (backTo pos (starEach es X.env)).any (·.1) = false := by rfl) : EE c X (.Call (.Name x p) (e :: es) [] pos) (fN op fr) :=
  PE.imp (pe_callB hc hg hm hv ha hn hdb hs hp) fun σ H Q q => tA_N ho q
theorem ev_bty {T : String} {r : List V → Hp → VK → Prop} {x : Str} {p : Pos} {op : List D → M D} (hc : CallR X (.type T) r) (ho : OpN X.K c r op) (hm : X.mg x = none) (hv : bootBuiltins x = some (.type T)) (ha : EA c X (e :: es) fr) (hg : Gl X x := by rfl) (hn : x ≠ "__name__" := by decide) (hdb : (x == ("__debug__" : Str)) = false := by decide)
    (hs : starEach (e :: es) X.env = (false, eval e X.env) :: starEach es X.env := by rfl) (hp : (backTo pos (starEach es X.env)).any (·.1) = false := by rfl) : EE c X (.Call (.Name x p) (e :: es) [] pos) (fN op fr) :=
  PE.imp (pe_callTy hc hg hm hv ha hn hdb hs hp) fun σ H Q q => tA_N ho q
end
end Ev

/-! Operators, built-ins, subscripts of the evaluator. -/
namespace Ev
open PySem PySem.Spec PyProof.Rows L2 Dr
variable {c : Ct}
/-! ### comparisons -/
def pI (f : Int → Int → Bool) : Cmp := fun _ x y => match x, y with
  | .int i, .int j => some (f i j)
  | _, _ => none
theorem cmp_int {K : PySem.W.Frag} {f : Int → Int → Bool} : CmpS K c (rI0 fun i j => .bl (f i j)) (pI f) := fun {ρ h H x y v w Q b} ok r1 r2 e q => by
  unfold pI at e
  split at e
  · cases r1
    cases r2
    cases e
    exact ⟨_, _, rfl, rfl, q⟩
  · cases e
def isNone : D → Bool
  | .non => true
  | _ => false
theorem isNone_ok {K : PySem.W.Frag} {H : Hp} {ρ : Sto} {x : D} {v : V} (r : RV K c H ρ x v) : decide (v = .non) = isNone x := by
  cases r <;> rfl
def pIsN (f : Bool → Bool) : Cmp := fun _ x y => match y with
  | .non => some (f (isNone x))
  | _ => none
theorem cmp_isN {K : PySem.W.Frag} : CmpS K c (fun x y H Q => y = .non ∧ Q (.bl (decide (x = .non))) H) (pIsN fun b => b) := fun {ρ h H x y v w Q b} ok r1 r2 e q => by
  unfold pIsN at e
  split at e
  · cases r2
    cases e
    exact ⟨rfl, by rw [isNone_ok r1]; exact q⟩
  · cases e
theorem cmp_notN {K : PySem.W.Frag} : CmpS K c (fun x y H Q => y = .non ∧ Q (.bl (!decide (x = .non))) H) (pIsN fun b => !b) := fun {ρ h H x y v w Q b} ok r1 r2 e q => by
  unfold pIsN at e
  split at e
  · cases r2
    cases e
    exact ⟨rfl, by rw [isNone_ok r1]; exact q⟩
  · cases e
/-! data -/
def mapO {α β : Type} (f : α → Option β) : List α → Option (List β)
  | [] => some []
  | x :: xs => match f x with
    | some y => match mapO f xs with
      | some ys => some (y :: ys)
      | none => none
    | none => none
def toP (h : List O) : Nat → D → Option PyData
  | 0, _ => none
  | n + 1, x => match x with
    | .non => some .none
    | .bl b => some (.bool b)
    | .int i => some (.int i)
    | .str z => some (.str z)
    | .tup xs => match mapO (toP h n) xs with
      | some ds => some (.tuple ds)
      | none => none
    | .lst xs => match mapO (toP h n) xs with
      | some ds => some (.list ds)
      | none => none
    | .loc k => match h[k]? with
      | some (.lst xs) => match mapO (toP h n) xs with
        | some ds => some (.list ds)
        | none => none
      | _ => none
    | .draw => none
    | .ins _ _ => none
    | .dct _ _ => none
    | .tct _ _ => none
    | .exn _ _ => none
theorem toPs_ok {K : PySem.W.Frag} {ρ : Sto} {H : Hp} {f : D → Option PyData} (hf : ∀ x d v, f x = some d → RV K c H ρ x v → Dp K H v d) : ∀ {xs : List D} {ds : List PyData} {vs : List V}, mapO f xs = some ds → RVs K c H ρ xs vs → DpAll K H vs ds
  | [], ds, vs, e, r => by
    cases r
    simp only [mapO] at e
    cases e
    exact .nil
  | x :: xs, ds, vs, e, r => by
    cases r with
    | cons r1 r2 =>
      simp only [mapO] at e
      split at e
      · rename_i y hy
        split at e
        · rename_i ys hys
          cases e
          exact .cons (hf _ _ _ hy r1) (toPs_ok hf hys r2)
        · cases e
      · cases e
theorem toP_ok {K : PySem.W.Frag} {ρ : Sto} {h : List O} {H : Hp} (ok : Ok K c ρ h H) : ∀ (n : Nat) (x : D) (d : PyData) (v : V), toP h n x = some d → RV K c H ρ x v → Dp K H v d
  | 0, _, _, _, e, _ => by simp only [toP] at e; cases e
  | n + 1, x, d, v, e, r => by
    cases r with
    | non => simp only [toP] at e; cases e; exact .non
    | bl b => simp only [toP] at e; cases e; exact .bl b
    | int b => simp only [toP] at e; cases e; exact .int b
    | str b => simp only [toP] at e; cases e; exact .str b
    | tup h1 h2 =>
      simp only [toP] at e
      split at e
      · rename_i ds hds
        cases e
        exact .tup h1 (toPs_ok (toP_ok ok n) hds h2)
      · cases e
    | loc h1 =>
      simp only [toP] at e
      split at e
      · rename_i xs hx
        split at e
        · rename_i ds hds
          cases e
          obtain ⟨vs, e1, e2⟩ := ok.objs _ _ _ hx h1
          exact .lst (SqL.of e1) (toPs_ok (toP_ok ok n) hds e2)
        · cases e
      · cases e
    | lst h1 _ h2 =>
      simp only [toP] at e
      split at e
      · rename_i ds hds
        cases e
        exact .lst (SqL.of h1) (toPs_ok (toP_ok ok n) hds h2)
      · cases e
    | draw h1 => simp only [toP] at e; cases e
    | ins h1 hk hl h2 => simp only [toP] at e; cases e
    | dct _ _ _ _ => simp only [toP] at e; cases e
    | tct _ _ _ _ _ => simp only [toP] at e; cases e
    | exn _ _ _ _ _ => simp only [toP] at e; cases e
def deep : Nat := 24
def pEq (f : Bool → Bool) : Cmp := fun h x y => match toP h deep x, toP h deep y with
  | some d, some e => if (SeqAt.shaped d && SeqAt.shaped e) = true then some (f (PyData.eqv d e)) else none
  | _, _ => none
theorem cmp_eq {K : PySem.W.Frag} : CmpS K c (rEqD K) (pEq fun b => b) := fun {ρ h H x y v w Q b} ok r1 r2 e q => by
  unfold pEq at e
  split at e
  · rename_i d1 d2 h1 h2
    split at e
    · rename_i hs
      have hs := Bool.and_eq_true_iff.mp hs
      cases e
      exact ⟨d1, d2, toP_ok ok _ _ _ _ h1 r1, toP_ok ok _ _ _ _ h2 r2, hs.1, hs.2, q⟩
    · cases e
  · cases e
theorem cmp_ne {K : PySem.W.Frag} : CmpS K c (rNeD K) (pEq fun b => !b) := fun {ρ h H x y v w Q b} ok r1 r2 e q => by
  unfold pEq at e
  split at e
  · rename_i d1 d2 h1 h2
    split at e
    · rename_i hs
      have hs := Bool.and_eq_true_iff.mp hs
      cases e
      exact ⟨d1, d2, toP_ok ok _ _ _ _ h1 r1, toP_ok ok _ _ _ _ h2 r2, hs.1, hs.2, q⟩
    · cases e
  · cases e
/-- in a list of data -/
def pIn (f : Bool → Bool) : Cmp := fun h x y => match toP h deep x, toP h deep y with
  | some d, some (.list ds) => if (SeqAt.shaped d && SeqAt.shaped (.list ds)) = true then some (f (ds.any fun z => PyData.eqv z d)) else none
  | _, _ => none
theorem cmp_in {K : PySem.W.Frag} : CmpS K c (rInD K) (pIn fun b => b) := fun {ρ h H x y v w Q b} ok r1 r2 e q => by
  unfold pIn at e
  split at e
  · rename_i d1 d2 h1 h2
    split at e
    · rename_i hs
      have hs := Bool.and_eq_true_iff.mp hs
      cases e
      exact ⟨d1, d2, toP_ok ok _ _ _ _ h1 r1, toP_ok ok _ _ _ _ h2 r2, hs.1, hs.2, q⟩
    · cases e
  · cases e
theorem cmp_notIn {K : PySem.W.Frag} : CmpS K c (rNotInD K) (pIn fun b => !b) := fun {ρ h H x y v w Q b} ok r1 r2 e q => by
  unfold pIn at e
  split at e
  · rename_i d1 d2 h1 h2
    split at e
    · rename_i hs
      have hs := Bool.and_eq_true_iff.mp hs
      cases e
      exact ⟨d1, d2, toP_ok ok _ _ _ _ h1 r1, toP_ok ok _ _ _ _ h2 r2, hs.1, hs.2, q⟩
    · cases e
  · cases e
/-- in a tuple of flat values -/
def toV : D → Option V
  | .non => some .non
  | .bl b => some (.bl b)
  | .int i => some (.int i)
  | .str z => some (.str z)
  | _ => none
theorem toV_ok {K : PySem.W.Frag} {ρ : Sto} {H : Hp} {x : D} {v w : V} (e : toV x = some v) (r : RV K c H ρ x w) : w = v ∧ flatV v = true := by
  cases r <;> simp only [toV] at e <;> cases e <;> exact ⟨rfl, rfl⟩
theorem toVs_ok {K : PySem.W.Frag} {ρ : Sto} {H : Hp} : ∀ {xs : List D} {vs ws : List V}, mapO toV xs = some vs → RVs K c H ρ xs ws → ws = vs ∧ vs.all flatV = true
  | [], _, _, e, r => by cases r; simp only [mapO] at e; cases e; exact ⟨rfl, rfl⟩
  | x :: xs, _, _, e, r => by
    cases r with
    | cons r1 r2 =>
      simp only [mapO] at e
      split at e
      · rename_i y hy
        split at e
        · rename_i ys hys
          cases e
          obtain ⟨q1, q2⟩ := toV_ok hy r1
          obtain ⟨q3, q4⟩ := toVs_ok hys r2
          exact ⟨by rw [q1, q3], by rw [List.all_cons, q2, q4]; rfl⟩
        · cases e
      · cases e
def pInT (neg : Bool) : Cmp := fun _ x y => match y with
  | .tup xs => match toV x, mapO toV xs with
    | some v, some vs => some (if neg then !inV v vs else inV v vs)
    | _, _ => none
  | _ => none
theorem cmp_inT {K : PySem.W.Frag} (neg : Bool) : CmpS K c (rIn K neg) (pInT neg) := fun {ρ h H x y v w Q b} ok r1 r2 e q => by
  unfold pInT at e
  split at e
  · cases r2 with
    | tup h1 h2 =>
      split at e
      · rename_i v' vs' hv hvs
        cases e
        obtain ⟨q1, q2⟩ := toV_ok hv r1
        obtain ⟨q3, q4⟩ := toVs_ok hvs h2
        subst q1 q3
        exact ⟨_, _, rfl, .inr h1, q2, q4, q⟩
      · cases e
  · cases e
/-! ### operators -/
def oI (p : Int → Int → Bool) (f : Int → Int → Int) : D → D → M D := fun x y h => match x, y with
  | .int i, .int j => if p i j = true then .ret (.int (f i j), h) else .bad
  | _, _ => .bad
theorem op_I {K : PySem.W.Frag} {C : Int → Int → Prop} {p : Int → Int → Bool} {f : Int → Int → Int} (hp : ∀ i j, p i j = true → C i j) : Op2 K c (rI C fun i j => .int (f i j)) (oI p f) := fun {ρ h H x y v w Q} ok r1 r2 q => by
  unfold oI at q
  split at q
  · cases r1
    cases r2
    split at q
    · rename_i hh
      exact ⟨_, _, rfl, rfl, hp _ _ hh, q ρ H _ .refl ok (.int _)⟩
    · exact q.elim
  · exact q.elim
theorem op_I0 {K : PySem.W.Frag} {f : Int → Int → Int} : Op2 K c (rI0 fun i j => .int (f i j)) (oI (fun _ _ => true) f) := fun {ρ h H x y v w Q} ok r1 r2 q => by
  unfold oI at q
  split at q
  · cases r1
    cases r2
    exact ⟨_, _, rfl, rfl, q ρ H _ .refl ok (.int _)⟩
  · exact q.elim
def oNeg : D → M D := fun x h => match x with
  | .int i => .ret (.int (-i), h)
  | _ => .bad
theorem op_neg {K : PySem.W.Frag} : Op1 K c (rU fun i => .int (-i)) oNeg := fun {ρ h H x v Q} ok r1 q => by
  unfold oNeg at q
  split at q
  · cases r1
    exact ⟨_, rfl, q ρ H _ .refl ok (.int _)⟩
  · exact q.elim
/-- tuple + tuple -/
def oCatT : D → D → M D := fun x y h => match x, y with
  | .tup xs, .tup ys => mkTup (xs ++ ys) h
  | _, _ => .bad
theorem op_catTup {K : PySem.W.Frag} : Op2 K c (rCatA K) oCatT := fun {ρ h H x y v w Q} ok r1 r2 q => by
  unfold oCatT at q
  split at q
  · cases r1 with
    | tup h1 h2 =>
      cases r2 with
      | tup h3 h4 =>
        obtain ⟨hl, q1⟩ := ok.tup (h2.append h4) q
        refine ⟨_, _, _, _, rfl, rfl, h1, h3, by rw [← List.length_append]; exact hl, fun e => ?_, fun _ e => ?_, fun _ _ p np => q1 p np⟩
        · unfold mkTup at q
          split at q
          · subst e
            have := h2.len
            simp at this
            subst this
            exact q ρ H _ .refl ok (.tup h3 h4)
          · exact q.elim
        · unfold mkTup at q
          split at q
          · subst e
            have := h4.len
            simp at this
            subst this
            exact q ρ H _ .refl ok (.tup h1 (by simpa using h2))
          · exact q.elim
  · exact q.elim
/-- list + list -/
def oCatL (mk : List D → M D) : D → D → M D := fun x y h => match lstD h x, lstD h y with
  | some xs, some ys => mk (xs ++ ys) h
  | _, _ => .bad
theorem op_catLst {K : PySem.W.Frag} {mk : List D → M D} (m : MkOk K c mk) : Op2 K c rCat (oCatL mk) := fun {ρ h H x y v w Q} ok r1 r2 q => by
  unfold oCatL at q
  split at q
  · rename_i xs ys e1 e2
    obtain ⟨a, vs, rfl, g1, g2⟩ := lstD_ok ok r1 e1
    obtain ⟨b, ws, rfl, g3, g4⟩ := lstD_ok ok r2 e2
    obtain ⟨hl, q1⟩ := m.go ok (g2.append g4) q
    exact ⟨_, _, _, _, rfl, rfl, g1, g3, by rw [← List.length_append]; exact hl, q1⟩
  · exact q.elim
/-- list * int -/
def oRep (mk : List D → M D) : D → D → M D := fun x y h => match y with
  | .int k => match lstD h x with
    | some xs => if (decide (-(2 ^ 63) ≤ k) && decide (k < 2 ^ 63)) = true then mk (List.replicate k.toNat xs).flatten h else .bad
    | _ => .bad
  | _ => .bad
theorem RVs.rep {K : PySem.W.Frag} {ρ : Sto} {H : Hp} {xs : List D} {vs : List V} (r : RVs K c H ρ xs vs) : ∀ n, RVs K c H ρ (List.replicate n xs).flatten (List.replicate n vs).flatten
  | 0 => .nil
  | n + 1 => by
    rw [List.replicate_succ, List.replicate_succ, List.flatten_cons, List.flatten_cons]
    exact r.append (RVs.rep r n)
theorem op_repLst {K : PySem.W.Frag} {mk : List D → M D} (m : MkOk K c mk) : Op2 K c rRep (oRep mk) := fun {ρ h H x y v w Q} ok r1 r2 q => by
  unfold oRep at q
  split at q
  · cases r2
    split at q
    · rename_i xs e1
      obtain ⟨a, vs, rfl, g1, g2⟩ := lstD_ok ok r1 e1
      split at q
      · rename_i hb
        have hb := Bool.and_eq_true_iff.mp hb
        obtain ⟨hl, q1⟩ := m.go ok (g2.rep _) q
        refine ⟨_, _, _, rfl, rfl, g1, of_decide_eq_true hb.1, of_decide_eq_true hb.2, ?_, q1⟩
        rw [List.length_flatten, List.map_replicate, List.sum_replicate_nat] at hl
        rw [Nat.mul_comm]; exact hl
      · exact q.elim
    · exact q.elim
  · exact q.elim
/-! ### subscripts -/
def oIx : D → D → M D := fun x y h => match y with
  | .int i => match seqD h x with
    | some xs => match atI xs i with
      | some z => .ret (z, h)
      | none => .bad
    | none => .bad
  | _ => .bad
theorem RVs.at_ {K : PySem.W.Frag} {ρ : Sto} {H : Hp} {xs : List D} {vs : List V} {i : Int} {x : D} (r : RVs K c H ρ xs vs) (e : atI xs i = some x) : ∃ v, atI vs i = some v ∧ RV K c H ρ x v := by
  unfold atI at e ⊢
  rw [← r.len]
  cases q : ixN xs.length i with
  | none => rw [q] at e; cases e
  | some j =>
    rw [q] at e
    obtain ⟨v, h1, h2⟩ := r.get (i := j) (x := x) e
    exact ⟨v, h1, h2⟩
theorem op_ix {K : PySem.W.Frag} : Op2 K c (fun x y H Q => rIxL K x y H Q ∨ rIxT K x y H Q) oIx := fun {ρ h H x y v w Q} ok r1 r2 q => by
  unfold oIx at q
  split at q
  · cases r2
    split at q
    · rename_i xs hx
      obtain ⟨a, vs, rfl, e1, e2⟩ := seqD_ok ok r1 hx
      split at q
      · rename_i z hz
        obtain ⟨v, g1, g2⟩ := e2.at_ hz
        rcases e1 with e1 | e1
        · exact .inl ⟨_, _, _, _, rfl, rfl, e1, g1, q ρ H _ .refl ok g2⟩
        · exact .inr ⟨_, _, _, _, rfl, rfl, e1, g1, q ρ H _ .refl ok g2⟩
      · exact q.elim
    · exact q.elim
  · exact q.elim
section
variable {X : Cx} {e a b d : Expr} {es : List Expr} {fa fb fl fh : Sg → M D} {fr : Sg → M (List D)} {pos p2 : Pos}
theorem ev_ix (ha : EE c X a fa) (hb : EE c X b fb) (hs : PlainIx b := by exact fun _ _ => rfl) : EE c X (.Subscript a b pos) (f2 oIx fa fb) := PE.imp (pe_ix (IxR.or ix_list ix_tup) ha hb hs) fun σ H Q q => tE_2 op_ix q
end
end Ev

/-! Slices, isinstance, built-in functions and methods, attributes. -/
namespace Ev
open PySem PySem.Spec PyProof.Rows L2 Dr
variable {c : Ct}
/-! ### slices -/
def tO (K : PySem.W.Frag) (c : Ct) (f : Sg → M (Option Int)) : TO := fun σ H Q => ∃ ρ h s, Ok K c ρ h H ∧ Env K c H ρ s σ ∧ (f s h).All (fun r => ∀ ρ' H', Le c ρ H ρ' H' → Ok K c ρ' r.2 H' → Q r.1 H') (PX K c ρ H)
theorem PO.imp {X : Cx} {e : Option Expr} {t t' : TO} (h : PO X e t) (i : ∀ σ H Q, t' σ H Q → t σ H Q) : PO X e t' := ⟨fun pins s σ H Q I q => h.run pins s σ H Q I (i _ _ _ q)⟩
abbrev EO (c : Ct) (X : Cx) (e : Option Expr) (f : Sg → M (Option Int)) : Prop := PO X e (tO X.K c f)
def fNo : Sg → M (Option Int) := fun _ h => .ret (none, h)
def asI : D → M (Option Int) := fun x h => match x with
  | .int i => .ret (some i, h)
  | _ => .bad
def fPart (fa : Sg → M D) : Sg → M (Option Int) := fun s => M.bind (fa s) asI
def cutD {α : Type} (xs : List α) (lo hi : Option Int) : List α := (xs.drop (HT.sIx xs.length 0 lo)).take (HT.sIx xs.length xs.length hi - HT.sIx xs.length 0 lo)
def oSl (mk : List D → M D) : D → Option Int → Option Int → M D := fun x lo hi h => match x with
  | .tup xs => mkTup (cutD xs lo hi) h
  | x => match lstD h x with
    | some xs => mk (cutD xs lo hi) h
    | none => .bad
def fSl (mk : List D → M D) (fa : Sg → M D) (fl fh : Sg → M (Option Int)) : Sg → M D := fun s => M.bind (fa s) fun x => M.bind (fl s) fun lo => M.bind (fh s) fun hi => oSl mk x lo hi
section
variable {X : Cx} {e a b d : Expr} {es : List Expr} {fa fb : Sg → M D} {fl fh : Sg → M (Option Int)} {fr : Sg → M (List D)} {pos p2 : Pos} {lo hi : Option Expr}
theorem eo_no : EO c X none fNo := PO.imp po_none fun σ H Q ⟨ρ, h, s, ok, env, q⟩ => q ρ H .refl ok
theorem eo_some (h : EE c X e fa) : EO c X (some e) (fPart fa) := PO.imp (po_some h) fun σ H Q ⟨ρ, h, s, ok, env, q⟩ => by
  refine ⟨ρ, h, s, ok, env, (M.all_bind.mp q).mono fun ⟨x, h1⟩ q1 ρ1 H1 v l1 ok1 r1 => ?_⟩
  dsimp only [asI] at q1
  split at q1
  · cases r1
    exact ⟨_, rfl, q1 ρ1 H1 l1 ok1⟩
  · exact q1.elim
theorem RVs.cut {K : PySem.W.Frag} {ρ : Sto} {H : Hp} {xs : List D} {vs : List V} (r : RVs K c H ρ xs vs) (lo hi : Option Int) : RVs K c H ρ (cutD xs lo hi) (cutV vs lo hi) := by
  unfold cutD cutV
  rw [r.len]
  exact (r.drop _).take _
theorem cut_whole {α : Type} {xs : List α} {lo hi : Option Int} (h : HT.sIx xs.length 0 lo = 0 ∧ HT.sIx xs.length xs.length hi = xs.length) : cutD xs lo hi = xs := by
  unfold cutD
  rw [h.1, h.2]
  simp
theorem ev_sl {mk : List D → M D} (m : MkOk X.K c mk) (ha : EE c X a fa) (hl : EO c X lo fl) (hh : EO c X hi fh) : EE c X (.Subscript a (.Slice lo hi none p2) pos) (fSl mk fa fl fh) := PE.imp (pe_slice (SlR.or sl_list sl_tupA) ha hl hh) fun σ H Q ⟨ρ, h, s, ok, env, q⟩ => by
  refine ⟨ρ, h, s, ok, env, (M.all_bind.mp q).mono fun ⟨x, h1⟩ q1 ρ1 H1 v l1 ok1 r1 => ?_⟩
  refine ⟨ρ1, h1, s, ok1, env.le l1, Tr.All.le l1 (M.all_bind.mp q1) fun ⟨o1, h2⟩ q2 ρ2 H2 l2 ok2 => ?_⟩
  refine ⟨ρ2, h2, s, ok2, env.le (l1.trans l2), Tr.All.le (l1.trans l2) (M.all_bind.mp q2) fun ⟨o2, h3⟩ q3 ρ3 H3 l3 ok3 => ?_⟩
  have r3 := r1.le (l2.trans l3)
  dsimp only [oSl] at q3
  split at q3
  · cases r3 with
    | tup g1 g2 =>
      have q4 := Tr.All.le (R := PV X.K c ρ3 H3 Q) (l1.trans (l2.trans l3)) q3 fun r q => q.le (l1.trans (l2.trans l3))
      obtain ⟨hl, k⟩ := ok3.tup (g2.cut o1 o2) q4
      refine .inr ⟨_, _, rfl, g1, fun hw => ?_, fun _ => k⟩
      unfold mkTup at q4
      split at q4
      · rw [← g2.len] at hw
        rw [cut_whole hw] at q4
        exact q4 ρ3 H3 _ .refl ok3 (.tup g1 g2)
      · exact q4.elim
  · split at q3
    · rename_i xs hx
      obtain ⟨a, vs, rfl, e1, e2⟩ := lstD_ok ok3 r3 hx
      have q4 := Tr.All.le (R := PV X.K c ρ3 H3 Q) (l1.trans (l2.trans l3)) q3 fun r q => q.le (l1.trans (l2.trans l3))
      obtain ⟨hl, k⟩ := m.go ok3 (e2.cut o1 o2) q4
      exact .inl ⟨_, _, rfl, SqL.of e1, k⟩
    · exact q3.elim
end
/-! ### isinstance -/
structure ClsF (K : PySem.W.Frag) (C : Addr) : Prop where
  cl : Cls K C
  ha : PySem.W.findIn K (.ref C) "__class__" = some (some (.builtin "object.__class__"))
  hn : PySem.W.specialIn K (.builtin "object.__class__") "__get__" = some (some (.builtin "getset_descriptor.__get__"))
  ht : PySem.W.takesIn K (.builtin "object.__class__") = some true
  hm : PySem.W.mroIn K C (.type "object") = some true
structure Facts (K : PySem.W.Frag) (c : Ct) : Prop where
  cls : ∀ k, k < c.n → ClsF K (c.cA k)
  nd : ∀ k, k < c.n → (c.cF k).Nodup
  few : ∀ k, k < c.n → (c.cF k).length < 1000
  inj : ∀ k j, k < c.n → j < c.n → c.cA k = c.cA j → k = j
inductive Ty where
  | non | bl | int | str | tup | lst | dic | ins (k : Nat)
inductive Tg where
  | int | bl | str | tup | lst | dic | cls (k : Nat)
def tyD (h : List O) : D → Option Ty
  | .non => some .non
  | .bl _ => some .bl
  | .int _ => some .int
  | .str _ => some .str
  | .tup _ => some .tup
  | .lst _ => some .lst
  | .dct _ _ => some .dic
  | .loc n => match h[n]? with
    | some (.lst _) => some .lst
    | some (.dK _ _) => some .dic
    | some (.ins k _) => some (.ins k)
    | _ => none
  | .ins k _ => some (.ins k)
  | _ => none
def Ty.val (c : Ct) : Ty → Value
  | .non => .type "NoneType"
  | .bl => .type "bool"
  | .int => .type "int"
  | .str => .type "str"
  | .tup => .type "tuple"
  | .lst => .type "list"
  | .dic => .type "dict"
  | .ins k => .ref (c.cA k)
def Tg.val (c : Ct) : Tg → Value
  | .bl => .type "bool"
  | .int => .type "int"
  | .str => .type "str"
  | .tup => .type "tuple"
  | .lst => .type "list"
  | .dic => .type "dict"
  | .cls k => .ref (c.cA k)
def Tg.v (c : Ct) : Tg → V
  | .bl => .ty "bool"
  | .int => .ty "int"
  | .str => .ty "str"
  | .tup => .ty "tuple"
  | .lst => .ty "list"
  | .dic => .ty "dict"
  | .cls k => .ref (c.cA k)
def isTab : Tg → Ty → Option Bool
  | .int, .int => some true
  | .int, .bl => some true
  | .bl, .bl => some true
  | .str, .str => some true
  | .tup, .tup => some true
  | .lst, .lst => some true
  | .dic, .dic => some true
  | .cls k, .ins j => some (k == j)
  | .cls _, _ => some false
  | _, .ins _ => none
  | _, _ => some false
def KitOk (K : PySem.W.Frag) (c : Ct) (g : Tg) : Prop := ∀ t b, isTab g t = some b → (∀ k, t = .ins k → k < c.n) → PySem.W.kitOne K (t.val c) (g.val c) = some b
theorem kit_int {K : PySem.W.Frag} : KitOk K c .int := fun t b e _ => by cases t <;> simp only [isTab] at e <;> cases e <;> exact kit_ty (by decide +kernel)
theorem kit_bl {K : PySem.W.Frag} : KitOk K c .bl := fun t b e _ => by cases t <;> simp only [isTab] at e <;> cases e <;> exact kit_ty (by decide +kernel)
theorem kit_str {K : PySem.W.Frag} : KitOk K c .str := fun t b e _ => by cases t <;> simp only [isTab] at e <;> cases e <;> exact kit_ty (by decide +kernel)
theorem kit_tup {K : PySem.W.Frag} : KitOk K c .tup := fun t b e _ => by cases t <;> simp only [isTab] at e <;> cases e <;> exact kit_ty (by decide +kernel)
theorem kit_lst {K : PySem.W.Frag} : KitOk K c .lst := fun t b e _ => by cases t <;> simp only [isTab] at e <;> cases e <;> exact kit_ty (by decide +kernel)
theorem kit_dic {K : PySem.W.Frag} : KitOk K c .dic := fun t b e _ => by cases t <;> simp only [isTab] at e <;> cases e <;> exact kit_ty (by decide +kernel)
def isI (g : Tg) : D → M D := fun x h => match tyD h x with
  | some t => match isTab g t with
    | some b => .ret (.bl b, h)
    | none => .bad
  | none => .bad
theorem tyX_of {K : PySem.W.Frag} (F : Facts K c) {ρ h H x v t} (ok : Ok K c ρ h H) (r : RV K c H ρ x v) (e : tyD h x = some t) : TyX K H v (t.val c) ∧ ∀ k, t = .ins k → k < c.n := by
  cases r with
  | non => cases e; exact ⟨.base .non, fun _ z => by cases z⟩
  | bl b => cases e; exact ⟨.base (.bl b), fun _ z => by cases z⟩
  | int b => cases e; exact ⟨.base (.int b), fun _ z => by cases z⟩
  | str b => cases e; exact ⟨.base (.str b), fun _ z => by cases z⟩
  | tup h1 h2 =>
    cases e
    refine ⟨?_, fun _ z => by cases z⟩
    rcases h1 with (h1 | ⟨o, h1⟩) | ⟨o, its, n, h1, hc, _⟩
    · exact .base (.tup h1)
    · exact .fTuple h1
    · exact .kTuple h1 hc
  | lst h1 _ _ => cases e; exact ⟨.base (.lst h1), fun _ z => by cases z⟩
  | dct h1 _ _ _ =>
    cases e
    rcases h1 with h1 | ⟨ob, h1⟩
    · exact ⟨.base (.dK h1), fun _ z => by cases z⟩
    · exact ⟨.fDict h1, fun _ z => by cases z⟩
  | loc h1 =>
    simp only [tyD] at e
    split at e
    · rename_i q
      cases e
      obtain ⟨vs, e1, _⟩ := ok.objs _ _ _ q h1
      exact ⟨.base (.lst e1), fun _ z => by cases z⟩
    · rename_i q
      cases e
      obtain ⟨vs, e1, _⟩ := ok.objs _ _ _ q h1
      exact ⟨.base (.dK e1), fun _ z => by cases z⟩
    · rename_i q
      cases e
      obtain ⟨dx, vs, e1, ⟨_, hk⟩, _⟩ := ok.objs _ _ _ q h1
      have C := F.cls _ hk
      exact ⟨.base (.ins e1 C.cl C.ha C.hn C.ht C.hm), fun _ z => by cases z; exact hk⟩
    · cases e
  | draw _ => cases e
  | tct _ _ _ _ _ => cases e
  | exn _ _ _ _ _ => cases e
  | ins h1 _ hk h2 =>
    cases e
    have C := F.cls _ hk.2
    exact ⟨.base (.ins h1 C.cl C.ha C.hn C.ht C.hm), fun _ z => by cases z; exact hk.2⟩
section
variable {X : Cx} {e a b d o : Expr} {es : List Expr} {fa fb fo : Sg → M D} {fr : Sg → M (List D)} {pos p2 p : Pos}
theorem ev_isi (g : Tg) (F : Facts X.K c) (kit : KitOk X.K c g) (mI : X.mg "isinstance" = none) (ha : EE c X a fa) (hT : PE X b (tC (g.v c))) (hg : Gl X "isinstance" := by rfl)
    (hs : starEach [a, b] X.env = (false, eval a X.env) :: starEach [b] X.env := by rfl) (hs2 : starEach [b] X.env = (false, eval b X.env) :: starEach [] X.env := by rfl) (hp : (backTo pos (starEach [b] X.env)).any (·.1) = false := by rfl) :
    EE c X (.Call (.Name "isinstance" p) [a, b] [] pos) (f1 (isI g) fa) :=
  PE.imp (pe_callB call_isi hg mI boot_isinstance (pa_cons ha (pa_cons hT pa_nil hs2) hs) (by decide) (by decide) hs hp) fun σ H Q ⟨ρ, h, s, ok, env, q⟩ => by
    refine ⟨ρ, h, s, ok, env, (M.all_bind.mp q).mono fun ⟨x, h1⟩ q1 ρ1 H1 v l1 ok1 r1 => ?_⟩
    dsimp only [isI] at q1
    split at q1
    · rename_i t ht
      split at q1
      · rename_i b' hb
        obtain ⟨tx, hk⟩ := tyX_of F ok1 r1 ht
        refine ⟨v, _, t.val c, g.val c, b', rfl, ?_, tx, kit t b' hb hk, q1 ρ1 H1 _ l1 ok1 (.bl b')⟩
        cases g <;> first | exact .ty _ | exact .own _
      · exact q1.elim
    · exact q1.elim
end
/-! ### built-in functions -/
def oLen : List D → M D := fun xs h => match xs with
  | [.str z] => if z.length ≤ lim then .ret (.int z.length, h) else .bad
  | [x] => match seqD h x with
    | some ys => .ret (.int ys.length, h)
    | none => .bad
  | _ => .bad
theorem vs1 {K : PySem.W.Frag} {ρ H x vs} (r : RVs K c H ρ [x] vs) : ∃ v, vs = [v] ∧ RV K c H ρ x v := by
  cases r with
  | cons r1 r2 => cases r2; exact ⟨_, rfl, r1⟩
theorem vs2 {K : PySem.W.Frag} {ρ H x y vs} (r : RVs K c H ρ [x, y] vs) : ∃ v w, vs = [v, w] ∧ RV K c H ρ x v ∧ RV K c H ρ y w := by
  cases r with
  | cons r1 r2 =>
    obtain ⟨w, rfl, r3⟩ := vs1 r2
    exact ⟨_, _, rfl, r1, r3⟩
theorem op_len {K : PySem.W.Frag} : OpN K c (fun xs H Q => ∃ x n, xs = [x] ∧ LenV K x H n ∧ Q (.int n) H) oLen := fun {ρ h H xs vs Q} ok r q => by
  unfold oLen at q
  split at q
  · obtain ⟨v, rfl, r1⟩ := vs1 r
    cases r1
    split at q
    · rename_i hz
      exact ⟨_, _, rfl, ⟨Nat.le_of_lt (lim_line hz), rfl⟩, q ρ H _ .refl ok (.int _)⟩
    · exact q.elim
  · obtain ⟨v, rfl, r1⟩ := vs1 r
    split at q
    · rename_i ys hy
      obtain ⟨a, vs, rfl, e1, e2⟩ := seqD_ok ok r1 hy
      rcases e1 with e1 | e1
      · exact ⟨_, _, rfl, .inl ⟨_, e1, e2.len⟩, q ρ H _ .refl ok (.int _)⟩
      · exact ⟨_, _, rfl, .inr ⟨_, e1, e2.len⟩, q ρ H _ .refl ok (.int _)⟩
    · exact q.elim
  · exact q.elim
def o2I (f : Int → Int → Int) : List D → M D := fun xs h => match xs with
  | [.int i, .int j] => .ret (.int (f i j), h)
  | _ => .bad
theorem op_2I {K : PySem.W.Frag} {f : Int → Int → Int} : OpN K c (fun xs H Q => ∃ i j, xs = [.int i, .int j] ∧ Q (.int (f i j)) H) (o2I f) := fun {ρ h H xs vs Q} ok r q => by
  unfold o2I at q
  split at q
  · obtain ⟨v, w, rfl, r1, r2⟩ := vs2 r
    cases r1
    cases r2
    exact ⟨_, _, rfl, q ρ H _ .refl ok (.int _)⟩
  · exact q.elim
def oInt : List D → M D := fun xs h => match xs with
  | [.int i] => .ret (.int i, h)
  | [.bl b] => .ret (.int (if b then 1 else 0), h)
  | _ => .bad
theorem op_int {K : PySem.W.Frag} : OpN K c (fun xs H Q => (∃ i, xs = [.int i] ∧ Q (.int i) H) ∨ ∃ k, xs = [.bl k] ∧ Q (.int (if k then 1 else 0)) H) oInt := fun {ρ h H xs vs Q} ok r q => by
  unfold oInt at q
  split at q
  · obtain ⟨v, rfl, r1⟩ := vs1 r
    cases r1
    exact .inl ⟨_, rfl, q ρ H _ .refl ok (.int _)⟩
  · obtain ⟨v, rfl, r1⟩ := vs1 r
    cases r1
    exact .inr ⟨_, rfl, q ρ H _ .refl ok (.int _)⟩
  · exact q.elim
def oBlD : D → Option Bool
  | .bl b => some b
  | _ => none
def oBls (f : List Bool → Bool) : List D → M D := fun xs h => match xs with
  | [x] => match lstD h x with
    | some ys => match mapO oBlD ys with
      | some bs => .ret (.bl (f bs), h)
      | none => .bad
    | _ => .bad
  | _ => .bad
theorem bls_ok {K : PySem.W.Frag} {ρ : Sto} {H : Hp} : ∀ {xs : List D} {bs : List Bool} {ws : List V}, mapO oBlD xs = some bs → RVs K c H ρ xs ws → ws = bs.map V.bl
  | [], _, _, e, r => by cases r; simp only [mapO] at e; cases e; rfl
  | x :: xs, _, _, e, r => by
    cases r with
    | cons r1 r2 =>
      simp only [mapO] at e
      split at e
      · rename_i y hy
        split at e
        · rename_i ys hys
          cases e
          cases r1 <;> simp only [oBlD] at hy <;> cases hy
          rw [bls_ok hys r2]
          rfl
        · cases e
      · cases e
theorem op_bls {K : PySem.W.Frag} {f : List Bool → Bool} : OpN K c (fun vs H Q => ∃ (a : Addr) (bs : List Bool), vs = [V.ref a] ∧ SqL K H a (bs.map V.bl) ∧ Q (.bl (f bs)) H) (oBls f) := fun {ρ h H xs vs Q} ok r q => by
  unfold oBls at q
  split at q
  · obtain ⟨v, rfl, r1⟩ := vs1 r
    split at q
    · rename_i ys hy
      split at q
      · rename_i bs hb
        obtain ⟨a, ws, rfl, e1, e2⟩ := lstD_ok ok r1 hy
        refine ⟨_, bs, rfl, ?_, q ρ H _ .refl ok (.bl _)⟩
        rw [← bls_ok hb e2]
        exact SqL.of e1
      · exact q.elim
    · exact q.elim
  · exact q.elim
def oTuple : List D → M D := fun xs h => match xs with
  | [x] => match seqD h x with
    | some ys => .ret (.tup ys, h)
    | _ => .bad
  | _ => .bad
theorem op_tuple {K : PySem.W.Frag} : OpN K c (fun xs H Q => ∃ p ys, xs = [.ref p] ∧ ((SqL K H p ys ∧ ∀ l, H l = none → Q (.ref l) (upd H l (.tup ys))) ∨ (SqT K H p ys ∧ Q (.ref p) H))) oTuple := fun {ρ h H xs vs Q} ok r q => by
  unfold oTuple at q
  split at q
  · obtain ⟨v, rfl, r1⟩ := vs1 r
    split at q
    · rename_i ys hy
      obtain ⟨a, ws, rfl, e1, e2⟩ := seqD_ok ok r1 hy
      rcases e1 with e1 | e1
      · refine ⟨_, ws, rfl, .inl ⟨e1, fun p np => ?_⟩⟩
        obtain ⟨l, ok1⟩ := ok.other (o := .tup ws) np
        exact q ρ _ _ l ok1 (.tup (SqT.of upd_same) (e2.le l))
      · exact ⟨_, _, rfl, .inr ⟨e1, q ρ H _ .refl ok (.tup e1 e2)⟩⟩
    · exact q.elim
  · exact q.elim
def oList (mk : List D → M D) : List D → M D := fun xs h => match xs with
  | [x] => match seqD h x with
    | some ys => mk ys h
    | _ => .bad
  | _ => .bad
theorem op_list {K : PySem.W.Frag} {mk : List D → M D} (m : MkOk K c mk) : OpN K c (fun xs H Q => ∃ p ys, xs = [.ref p] ∧ (SqL K H p ys ∨ SqT K H p ys) ∧ ∀ l, H l = none → Q (.ref l) (upd H l (.lst ys))) (oList mk) := fun {ρ h H xs vs Q} ok r q => by
  unfold oList at q
  split at q
  · obtain ⟨v, rfl, r1⟩ := vs1 r
    split at q
    · rename_i ys hy
      obtain ⟨a, ws, rfl, e1, e2⟩ := seqD_ok ok r1 hy
      exact ⟨_, ws, rfl, e1, (m.go ok e2 q).2⟩
    · exact q.elim
  · exact q.elim
end Ev

/-! Methods of lists, attributes, instances. -/
namespace Ev
open PySem PySem.Spec PyProof.Rows L2 Dr
variable {c : Ct}
/-! ### methods of lists -/
def isL : D → M Unit := fun x h => match lstD h x with
  | some _ => .ret ((), h)
  | none => .bad
def fM (op : D → List D → M D) (fo : Sg → M D) (fa : Sg → M (List D)) : Sg → M D := fun s => M.bind (fo s) fun x => M.bind (isL x) fun _ => M.bind (fa s) fun xs => op x xs
def OpM (K : PySem.W.Frag) (c : Ct) (r : V → List V → Hp → VK → Prop) (op : D → List D → M D) : Prop := ∀ {ρ h H x v xs vs Q}, Ok K c ρ h H → RV K c H ρ x v → RVs K c H ρ xs vs → (op x xs h).All (PV K c ρ H Q) (PX K c ρ H) → r v vs H Q
section
variable {X : Cx} {e a b d o : Expr} {es : List Expr} {fa fb fo : Sg → M D} {fr : Sg → M (List D)} {pos p2 p : Pos}
theorem tM_of {r : V → List V → Hp → VK → Prop} {op : D → List D → M D} (ho : OpM X.K c r op) {σ H Q} (q : tE X.K c (fM op fo fr) σ H Q) : tE X.K c fo σ H fun x H1 => tyV X.K "list" x H1 ∧ tA X.K c fr σ H1 fun xs H2 => r x xs H2 Q := by
  obtain ⟨ρ, h, s, ok, env, q⟩ := q
  refine ⟨ρ, h, s, ok, env, (M.all_bind.mp q).mono fun ⟨x, h1⟩ q1 ρ1 H1 v l1 ok1 r1 => ?_⟩
  have q1 := M.all_bind.mp q1
  dsimp only [isL] at q1
  split at q1
  · rename_i ys hy
    obtain ⟨a, vs, rfl, e1, e2⟩ := lstD_ok ok1 r1 hy
    refine ⟨.inl ⟨rfl, _, SqL.of e1⟩, ρ1, h1, s, ok1, env.le l1, Tr.All.le l1 (M.all_bind.mp q1) fun ⟨xs, h2⟩ q2 ρ2 H2 ws l2 ok2 r2 => ?_⟩
    exact ho ok2 (r1.le l2) r2 (Tr.All.le (l1.trans l2) q2 fun r q => q.le (l1.trans l2))
  · exact q1.elim
theorem ev_meth {name : Str} {apos : Pos} {id : String} {r : V → List V → Hp → VK → Prop} {op : D → List D → M D} (pa : PlainAttrs "list") (slot : Slot "list" name id) (hty : typeOf (.builtin id) = pure (.type "method_descriptor")) (hm : MtR X id r) (hop : OpM X.K c r op) (ho : EE c X o fo) (ha : EA c X (e :: es) fr)
    (hbase : attributeBase o name X.env (eval o X.env) = eval o X.env := by rfl)
    (hfew : ((backTo pos (starEach (e :: es) X.env)).all (fun x => !x.1) && (backToKw pos (keywordEach [] X.env)).all (fun x => x.1.isSome)
      && decide ((e :: es).length + ([] : List Keyword).length + (if ([] : List Keyword).isEmpty then 0 else 1) < 30)) = true := by rfl)
    (hline : (apos.endLine == pos.line) = true := by rfl) (hs : starEach (e :: es) X.env = (false, eval e X.env) :: starEach es X.env := by rfl) (hplain : (backTo pos (starEach es X.env)).any (·.1) = false := by rfl) : EE c X (.Call (.Attribute o name apos) (e :: es) [] pos) (fM op fo fr) :=
  PE.imp (pe_bm pa slot hty hm ho ha hbase hfew hline hs hplain) fun σ H Q q => tM_of hop q
def mAppend : D → List D → M D := fun x ys h => match x, ys with
  | .loc n, [y] => match h[n]? with
    | some (.lst xs) => if xs.length < lim then .ret (.non, h.set n (.lst (xs ++ [y]))) else .bad
    | _ => .bad
  | _, _ => .bad
theorem op_append {K : PySem.W.Frag} : OpM K c rAppend mAppend := fun {ρ h H x v xs vs Q} ok r1 r2 q => by
  unfold mAppend at q
  split at q
  · cases r1 with
    | loc g1 =>
      obtain ⟨w, rfl, r3⟩ := vs1 r2
      split at q
      · rename_i ys hy
        split at q
        · rename_i hl
          obtain ⟨us, e1, e2⟩ := ok.objs _ _ _ hy g1
          refine ⟨_, us, w, rfl, rfl, e1, by rw [← e2.len]; exact lim_line (Nat.le_of_lt hl), ?_⟩
          obtain ⟨l, ok1⟩ := ok.put (u := .lst (us ++ [w])) (o := .lst (ys ++ [_])) hy (by simp) g1 fun H1 l e => ⟨_, e, (e2.le l).append (.cons (r3.le l) .nil)⟩
          exact q _ _ _ l ok1 .non
        · exact q.elim
      · exact q.elim
  · exact q.elim
def mInsert : D → List D → M D := fun x ys h => match x, ys with
  | .loc n, [.int i, y] => match h[n]? with
    | some (.lst xs) => if xs.length < lim ∧ 0 ≤ i ∧ i < 2 ^ 63 then .ret (.non, h.set n (.lst (xs.take i.toNat ++ [y] ++ xs.drop i.toNat))) else .bad
    | _ => .bad
  | _, _ => .bad
theorem op_insert {K : PySem.W.Frag} : OpM K c (fun x vs H Q => ∃ (l : Addr) (xs : List V) (i : Int) (y : V), x = .ref l ∧ vs = [.int i, y] ∧ H l = some (.lst xs) ∧ xs.length < sizeLine ∧ 0 ≤ i ∧ i < 2 ^ 63 ∧
    Q .non (upd H l (.lst (xs.take i.toNat ++ [y] ++ xs.drop i.toNat)))) mInsert := fun {ρ h H x v xs vs Q} ok r1 r2 q => by
  unfold mInsert at q
  split at q
  · cases r1 with
    | loc g1 =>
      obtain ⟨w0, w, rfl, r0, r3⟩ := vs2 r2
      cases r0
      split at q
      · rename_i ys hy
        split at q
        · rename_i hl
          obtain ⟨us, e1, e2⟩ := ok.objs _ _ _ hy g1
          refine ⟨_, us, _, w, rfl, rfl, e1, by rw [← e2.len]; exact lim_line (Nat.le_of_lt hl.1), hl.2.1, hl.2.2, ?_⟩
          refine (fun (z : _ ∧ _) => q _ _ _ z.1 z.2 .non) (ok.put hy (by simp) g1 fun H1 l e => ⟨_, e, (((e2.le l).take _).append (.cons (r3.le l) .nil)).append ((e2.le l).drop _)⟩)
        · exact q.elim
      · exact q.elim
  · exact q.elim
def mIndex : D → List D → M D := fun x ys h => match ys with
  | [y] => match toP h deep x, toP h deep y with
    | some (.list ds), some d => if (SeqAt.shaped (.list ds) && SeqAt.shaped d) = true then
        (if ds.findIdx (fun z => PyData.eqv z d) < ds.length then .ret (.int ((ds.findIdx fun z => PyData.eqv z d : Nat) : Int), h) else .bad) else .bad
    | _, _ => .bad
  | _ => .bad
theorem op_index {K : PySem.W.Frag} : OpM K c (rIndexD K) mIndex := fun {ρ h H x v xs vs Q} ok r1 r2 q => by
  unfold mIndex at q
  split at q
  · obtain ⟨w, rfl, r3⟩ := vs1 r2
    split at q
    · rename_i ds d h1 h2
      split at q
      · rename_i hs
        have hs := Bool.and_eq_true_iff.mp hs
        split at q
        · rename_i hl
          have p1 := toP_ok ok _ _ _ _ h1 r1
          have p2 := toP_ok ok _ _ _ _ h2 r3
          have ⟨a, ea⟩ : ∃ a, v = .ref a := by
            cases p1 with
            | lst _ _ => exact ⟨_, rfl⟩
          subst ea
          exact ⟨a, w, d, ds, _, ds[ds.findIdx fun z => PyData.eqv z d], rfl, rfl, p1, p2, hs.1, hs.2, List.getElem?_eq_getElem hl, List.findIdx_getElem (w := hl), fun m z' hm hz => by
            obtain ⟨hm', ez⟩ := List.getElem?_eq_some_iff.mp hz
            have := List.not_of_lt_findIdx hm
            rw [ez] at this
            simpa using this, q _ _ _ .refl ok (.int _)⟩
        · exact q.elim
      · exact q.elim
    · exact q.elim
  · exact q.elim
def mPopAt : D → List D → M D := fun x ys h => match x, ys with
  | .loc n, [.int i] => match h[n]? with
    | some (.lst xs) => if -(2 ^ 63) ≤ i ∧ i < 2 ^ 63 then match seqIndex? i xs.length with
        | some k => match xs[k]? with
          | some y => .ret (y, h.set n (.lst (xs.eraseIdx k)))
          | none => .bad
        | none => .bad
      else .bad
    | _ => .bad
  | _, _ => .bad
theorem RVs.erase {K : PySem.W.Frag} {ρ : Sto} {H : Hp} : ∀ {xs : List D} {vs : List V} (i : Nat), RVs K c H ρ xs vs → RVs K c H ρ (xs.eraseIdx i) (vs.eraseIdx i)
  | [], _, _, h => by cases h; exact .nil
  | _ :: _, _, 0, h => by cases h with | cons h1 h2 => exact h2
  | _ :: _, _, i + 1, h => by cases h with | cons h1 h2 => exact .cons h1 (RVs.erase i h2)
theorem op_popAt {K : PySem.W.Frag} : OpM K c rPopAt mPopAt := fun {ρ h H x v xs vs Q} ok r1 r2 q => by
  unfold mPopAt at q
  split at q
  · cases r1 with
    | loc g1 =>
      obtain ⟨w, rfl, r3⟩ := vs1 r2
      cases r3
      split at q
      · rename_i ys hy
        split at q
        · rename_i hb
          split at q
          · rename_i k hk
            split at q
            · rename_i y hyk
              obtain ⟨us, e1, e2⟩ := ok.objs _ _ _ hy g1
              obtain ⟨u, f1, f2⟩ := e2.get hyk
              refine ⟨_, us, _, k, u, rfl, rfl, e1, hb.1, hb.2, by rw [← e2.len]; exact hk, f1, ?_⟩
              refine (fun (z : _ ∧ _) => q _ _ _ z.1 z.2 (f2.le z.1)) (ok.put hy (by simp) g1 fun H1 l e => ⟨_, e, (e2.le l).erase k⟩)
            · exact q.elim
          · exact q.elim
        · exact q.elim
      · exact q.elim
  · exact q.elim
/-! ### attributes -/
theorem zip_lookup : ∀ {ns : List Str} {vs : List V} {i : Nat} {f : Str} {v : V}, ns.Nodup → ns[i]? = some f → vs[i]? = some v → (ns.zip vs).lookup f = some v
  | [], _, _, _, _, _, e, _ => by simp at e
  | _ :: _, [], _, _, _, _, _, e => by simp at e
  | n :: ns, w :: vs, 0, f, v, _, e1, e2 => by
    simp at e1 e2
    subst e1 e2
    simp [List.lookup_cons]
  | n :: ns, w :: vs, i + 1, f, v, nd, e1, e2 => by
    simp only [List.getElem?_cons_succ] at e1 e2
    have hne : f ≠ n := fun z => by
      subst z
      exact (List.nodup_cons.mp nd).1 (List.mem_of_getElem? e1)
    rw [List.zip_cons_cons, List.lookup_cons, beq_eq_false_iff_ne.mpr hne]
    exact zip_lookup (List.nodup_cons.mp nd).2 e1 e2
def insD (h : List O) : D → Option (Nat × List D)
  | .ins k fs => some (k, fs)
  | .loc n => match h[n]? with
    | some (.ins k fs) => some (k, fs)
    | _ => none
  | _ => none
theorem insD_ok {K : PySem.W.Frag} {ρ h H x v k fs} (ok : Ok K c ρ h H) (r : RV K c H ρ x v) (e : insD h x = some (k, fs)) : ∃ a dx vs, v = .ref a ∧ H a = some (.ins (c.cA k) dx (((c.cF k).take fs.length).zip vs)) ∧ (fs.length ≤ (c.cF k).length ∧ k < c.n) ∧ RVs K c H ρ fs vs := by
  unfold insD at e
  split at e
  · cases e
    cases r with
    | ins h1 _ h2 h3 => exact ⟨_, _, _, rfl, h1, h2, h3⟩
  · split at e
    · rename_i hx
      cases e
      cases r with
      | loc g1 =>
        obtain ⟨dx, vs, e1, e2, e3⟩ := ok.objs _ _ _ hx g1
        exact ⟨_, _, _, rfl, e1, e2, e3⟩
    · cases e
  · cases e
def oFld (k i : Nat) : D → M D := fun x h => match insD h x with
  | some (j, fs) => if j = k then match fs[i]? with
      | some y => .ret (y, h)
      | none => .bad
    else .bad
  | none => .bad
theorem fld_of {K : PySem.W.Frag} (F : Facts K c) {k i : Nat} {f : Str} (hf : (c.cF k)[i]? = some f) {ρ h H x v} {Q : VK} (ok : Ok K c ρ h H) (r1 : RV K c H ρ x v) (q : (oFld k i x h).All (PV K c ρ H Q) (PX K c ρ H)) :
    k < c.n ∧ ∃ a dx fs w, v = .ref a ∧ H a = some (.ins (c.cA k) dx fs) ∧ fs.lookup f = some w ∧ Q w H := by
  unfold oFld at q
  split at q
  · rename_i j fs hy
    split at q
    · rename_i hj
      subst hj
      split at q
      · rename_i y hyi
        obtain ⟨a, dx, vs, rfl, e1, ⟨e2, hk⟩, e3⟩ := insD_ok ok r1 hy
        obtain ⟨w, f1, f2⟩ := e3.get hyi
        refine ⟨hk, a, dx, _, w, rfl, e1, zip_lookup ?_ ?_ f1, q _ _ _ .refl ok f2⟩
        · exact (F.nd _ hk).sublist (List.take_sublist _ _)
        · have : i < fs.length := (List.getElem?_eq_some_iff.mp hyi).1
          rw [List.getElem?_take_of_lt this]
          exact hf
      · exact q.elim
    · exact q.elim
  · exact q.elim
/-- a property whose getter gives an attribute -/
structure Pr (P : Program) (w : World) (K : PySem.W.Frag) (mg : Str → Option Value) (base : Heap) (C : Addr) (name fld : Str) : Prop where
  ex : ∃ (p g : Addr) (fd : FuncData), PropOf K C name p g ∧ FnOk P w K mg base CX0 1 g fd ["self"] (getSp C fld) ∧ L2.Binds K fd ["self"] []
theorem ev_prop {name fld : Str} (k i : Nat) (F : Facts X.K c) (hf : (c.cF k)[i]? = some fld) (hk : k < c.n) (p : Pr X.prog X.w X.K X.mg X.base (c.cA k) name fld) (hr : Room 2 X.A) (he : EE c X e fa) (hab : attributeBase e name X.env (eval e X.env) = eval e X.env := by rfl) : EE c X (.Attribute e name pos) (f1 (oFld k i) fa) := by
  obtain ⟨p, g, fd, hp, G, hb⟩ := p.ex
  refine PE.imp (pe_prop he (F.cls _ hk).cl hp G hr hb .nil pass0 hab) fun σ H Q ⟨ρ, h, s, ok, env, q⟩ => ?_
  refine ⟨ρ, h, s, ok, env, (M.all_bind.mp q).mono fun ⟨x, h1⟩ q1 ρ1 H1 v l1 ok1 r1 => ?_⟩
  obtain ⟨_, a, dx, fs, w, rfl, e1, e2, q2⟩ := fld_of (Q := Q) F hf ok1 r1 (Tr.All.le l1 q1 fun r q => q.le l1)
  exact ⟨a, dx, fs, rfl, e1, a, dx, fs, w, rfl, e1, e2, q2⟩
theorem ev_fld {fld : Str} (k i : Nat) (F : Facts X.K c) (hf : (c.cF k)[i]? = some fld) (na : NoAttr X.K (c.cA k) fld) (he : EE c X e fa) (hab : attributeBase e fld X.env (eval e X.env) = eval e X.env := by rfl) : EE c X (.Attribute e fld pos) (f1 (oFld k i) fa) := by
  refine PE.imp (pe_fld he hab) fun σ H Q ⟨ρ, h, s, ok, env, q⟩ => ?_
  refine ⟨ρ, h, s, ok, env, (M.all_bind.mp q).mono fun ⟨x, h1⟩ q1 ρ1 H1 v l1 ok1 r1 => ?_⟩
  obtain ⟨hk, a, dx, fs, w, rfl, e1, e2, q2⟩ := fld_of (Q := Q) F hf ok1 r1 (Tr.All.le l1 q1 fun r q => q.le l1)
  exact ⟨a, _, dx, fs, w, rfl, e1, (F.cls _ hk).cl, na, e2, q2⟩
/-! ### what is left behind a def: its own objects as they stand -/
/-- a value with the objects of the store by content -/
def frz (h : List O) : Nat → D → Option D
  | 0, _ => none
  | n + 1, x => if noL x = true then some x else match x with
    | .tup xs => match mapO (frz h n) xs with
      | some ys => some (.tup ys)
      | none => none
    | .lst xs => match mapO (frz h n) xs with
      | some ys => some (.lst ys)
      | none => none
    | .dct ks xs => match mapO (frz h n) xs with
      | some ys => some (.dct ks ys)
      | none => none
    | .ins k xs => match mapO (frz h n) xs with
      | some ys => some (.ins k ys)
      | none => none
    | .loc i => match h[i]? with
      | some (.lst xs) => match mapO (frz h n) xs with
        | some ys => some (.lst ys)
        | none => none
      | some (.dK ks xs) => match mapO (frz h n) xs with
        | some ys => some (.dct ks ys)
        | none => none
      | some (.tD ks xs) => if noLs ks = true then match mapO (frz h n) xs with
          | some ys => some (.tct ks ys)
          | none => none
        else none
      | some (.ins k xs) => match mapO (frz h n) xs with
        | some ys => some (.ins k ys)
        | none => none
      | _ => none
    | _ => none
theorem mapO_len {α β : Type} {f : α → Option β} : ∀ {xs : List α} {ys : List β}, mapO f xs = some ys → ys.length = xs.length
  | [], _, e => by simp only [mapO] at e; cases e; rfl
  | x :: xs, _, e => by
    simp only [mapO] at e
    split at e
    · split at e
      · rename_i h
        cases e
        simp [mapO_len h]
      · cases e
    · cases e
theorem frzs_ok {K : PySem.W.Frag} {c c1 : Ct} {ρ ρ1 : Sto} {H : Hp} {f : D → Option D} (hf : ∀ x y v, f x = some y → RV K c H ρ x v → RV K c1 H ρ1 y v) : ∀ {xs ys : List D} {vs : List V}, mapO f xs = some ys → RVs K c H ρ xs vs → RVs K c1 H ρ1 ys vs
  | [], _, _, e, r => by
    simp only [mapO] at e
    cases e
    cases r
    exact .nil
  | x :: xs, _, _, e, r => by
    cases r with
    | cons r1 r2 =>
      simp only [mapO] at e
      split at e
      · rename_i y hy
        split at e
        · rename_i ys hys
          cases e
          exact .cons (hf _ _ _ hy r1) (frzs_ok hf hys r2)
        · cases e
      · cases e
theorem frz_ok {K : PySem.W.Frag} {c1 : Ct} {ρ ρ1 : Sto} {h : List O} {H : Hp} (ok : Ok K c ρ h H) (m : Mv K c c1 H ρ H ρ1) (tr : ∀ a, a ∈ ρ.l → Off c1 ρ1 a) : ∀ (n : Nat) (x y : D) (v : V), frz h n x = some y → RV K c H ρ x v → RV K c1 H ρ1 y v
  | 0, _, _, _, e, _ => by simp only [frz] at e; cases e
  | n + 1, x, y, v, e, r => by
    simp only [frz] at e
    split at e
    · rename_i hn
      cases e
      exact RV.mv m x v (.inl hn) r
    · have ih := frz_ok ok m tr n
      cases r with
      | non => cases e
      | bl b => cases e
      | int b => cases e
      | str b => cases e
      | draw h1 => cases e
      | tct _ _ _ _ _ => cases e
      | exn _ _ _ _ _ => cases e
      | tup h1 h2 =>
        dsimp only at e
        split at e
        · rename_i ys hys
          cases e
          exact .tup (m.sq _ _ h1) (frzs_ok ih hys h2)
        · cases e
      | lst h1 o h2 =>
        dsimp only at e
        split at e
        · rename_i ys hys
          cases e
          obtain ⟨e1, o1⟩ := m.off _ _ h1 o
          exact .lst e1 o1 (frzs_ok ih hys h2)
        · cases e
      | dct h1 o ek h2 =>
        dsimp only at e
        split at e
        · rename_i ys hys
          cases e
          obtain ⟨e1, o1⟩ := m.rd h1 o
          exact .dct e1 o1 ek (frzs_ok ih hys h2)
        · cases e
      | ins h1 o hk h2 =>
        dsimp only at e
        split at e
        · rename_i ys hys
          cases e
          obtain ⟨e1, o1⟩ := m.off _ _ h1 o
          have hl := mapO_len hys
          exact .ins (by rw [m.cA, m.cF, hl]; exact e1) o1 (by rw [m.cF, m.n, hl]; exact hk) (frzs_ok ih hys h2)
        · cases e
      | @loc i a h1 =>
        dsimp only at e
        have live : ∀ o, h[i]? = some o → o ≠ .dead → Off c1 ρ1 a := fun o e1 e2 => tr a (ok.lv i o a e1 h1 e2)
        split at e
        · rename_i xs hx
          split at e
          · rename_i ys hys
            cases e
            obtain ⟨vs, e1, e2⟩ := ok.objs _ _ _ hx h1
            exact .lst e1 (live _ hx (by simp)) (frzs_ok ih hys e2)
          · cases e
        · rename_i ks xs hx
          split at e
          · rename_i ys hys
            cases e
            obtain ⟨vs, e1, e2, e3⟩ := ok.objs _ _ _ hx h1
            exact .dct (.inl e1) (live _ hx (by simp)) e2 (frzs_ok ih hys e3)
          · cases e
        · rename_i ks xs hx
          split at e
          · rename_i hks
            split at e
            · rename_i ys hys
              cases e
              obtain ⟨kas, vs, e1, e2, e3, e4⟩ := ok.objs _ _ _ hx h1
              exact .tct (.inl (by rw [m.P, m.w]; exact e1)) (live _ hx (by simp)) e2 (RVs.mv m _ _ (.inl hks) e3) (frzs_ok ih hys e4)
            · cases e
          · cases e
        · rename_i k xs hx
          split at e
          · rename_i ys hys
            cases e
            obtain ⟨dx, vs, e1, e2, e3⟩ := ok.objs _ _ _ hx h1
            have hl := mapO_len hys
            exact .ins (by rw [m.cA, m.cF, hl]; exact e1) (live _ hx (by simp)) (by rw [m.cF, m.n, hl]; exact e2) (frzs_ok ih hys e3)
          · cases e
        · cases e
theorem frz_noL {h : List O} {n : Nat} {x : D} (e : noL x = true) : frz h (n + 1) x = some x := by simp only [frz]; rw [if_pos e]
/-- what ran over a store of its own leaves ours as it was -/
theorem Ok.apart {K : PySem.W.Frag} {hid : List Addr} {E : XK} {ρ ρ' : Sto} {h h' : List O} {H H' : Hp} (ok : Ok K c ρ h H) (l : Le (c.at hid E) Sto.nil H ρ' H') (ok' : Ok K (c.at hid E) ρ' h' H') : Le c ρ H ρ H' ∧ Ok K c ρ h H' := by
  have l1 : Le c ρ H ρ H' := ⟨List.prefix_refl _, fun p a b => absurd a b, fun b o _ hd e => l.fr b o (by simp [Sto.nil]) hd e, l.tups, l.frzs, l.kept⟩
  have keep : ∀ a, (∃ u, H a = some u) → ∃ u, H' a = some u := fun a ⟨u, e⟩ => by
    cases q : H' a with
    | some u => exact ⟨u, rfl⟩
    | none => rw [l.kept a q] at e; cases e
  have apart : ∀ a, a ∈ ρ.a → ∀ d g e, c.dw = some (d, g, e) → a ≠ d ∧ a ≠ g := fun a ha d g e z => by
    obtain ⟨_, n1, n2, _⟩ := ok.dw d g e z
    exact ⟨fun q => n1 (q ▸ ha), fun q => n2 (q ▸ ha)⟩
  refine ⟨l1, ok.len, ok.nd, fun n o a e1 e2 => ?_, ok.lv, ok.sub, fun a ha => keep a (ok.ex a ha), fun d g e z => ?_, fun a ha => ⟨keep a (ok.hid a ha).1, (ok.hid a ha).2⟩⟩
  · have r := ok.objs n o a e1 e2
    have ha := List.mem_of_getElem? e2
    obtain ⟨u, hu⟩ := ok.ex a ha
    exact r.le l1 ((l.fr a u (by simp [Sto.nil]) (apart a ha) hu).trans hu.symm)
  · obtain ⟨Dx, n1, n2, n3⟩ := ok.dw d g e z
    obtain ⟨Dy, _⟩ := ok'.dw d g e z
    exact ⟨Dy, n1, n2, n3⟩
/-- both ends of a step -/
def Tr.both {α β : Type} (t : Tr α) (f : α → Tr β) (g : Nat → List D → List O → Tr β) : Tr β := match t with
  | .ret a => f a
  | .bad => .bad
  | .err k fs h => g k fs h
  | .pick n k => .pick n fun i => (k i).both f g
theorem Tr.all_both {α β : Type} {P : β → Prop} {X : XP} {f : α → Tr β} {g : Nat → List D → List O → Tr β} : ∀ {t : Tr α}, (t.both f g).All P X ↔ t.All (fun a => (f a).All P X) (fun k fs h => (g k fs h).All P X)
  | .ret _ => Iff.rfl
  | .bad => Iff.rfl
  | .err _ _ _ => Iff.rfl
  | .pick n k => ⟨fun h i hi => Tr.all_both.mp (h i hi), fun h i hi => Tr.all_both.mpr (h i hi)⟩
def far : Nat := 40
/-- a call over a store of its own: its objects as they stand at its end -/
def oPure (F : List D → M D) : List D → M D := fun xs h => if noLs xs = true then (F xs []).both
    (fun r => match frz r.2 far r.1 with
      | some y => .ret (y, h)
      | none => .bad)
    (fun k fs h1 => match mapO (frz h1 far) fs with
      | some gs => .err k gs h
      | none => .bad)
  else .bad
theorem Ok.begin {K : PySem.W.Frag} {E : XK} {ρ : Sto} {h : List O} {H : Hp} (ok : Ok K c ρ h H) : Ok K (c.at (c.hid ++ ρ.l) E) Sto.nil [] H := ⟨rfl, List.nodup_nil, fun n o a e => by simp at e, fun n o a e => by simp at e, fun a h => h, fun a h => by simp [Sto.nil] at h,
  fun d g e z => ⟨(ok.dw d g e z).1, by simp [Sto.nil], by simp [Sto.nil], by simp [Sto.nil]⟩, fun a ha => ⟨by
    rcases List.mem_append.mp ha with z | z
    · exact (ok.hid a z).1
    · exact ok.ex a (ok.sub a z), by simp [Sto.nil]⟩⟩
theorem mv_start {K : PySem.W.Frag} {E : XK} {ρ : Sto} {H : Hp} : Mv K c (c.at (c.hid ++ ρ.l) E) H ρ H Sto.nil := ⟨fun _ _ h => h, fun a u e o => ⟨e, by simp [Sto.nil], fun z => by
    rcases List.mem_append.mp z with z | z
    · exact o.hd z
    · exact o.st z, o.dw⟩, rfl, rfl, rfl, rfl, rfl, rfl, rfl, rfl, rfl⟩
theorem mv_back {K : PySem.W.Frag} {E : XK} {ρ ρ1 : Sto} {H : Hp} : Mv K (c.at (c.hid ++ ρ.l) E) c H ρ1 H ρ := ⟨fun _ _ h => h, fun a u e o => ⟨e, fun z => o.hd (List.mem_append_right _ z), fun z => o.hd (List.mem_append_left _ z), o.dw⟩, rfl, rfl, rfl, rfl, rfl, rfl, rfl, rfl, rfl⟩
/-- the end of such a call: what is new to it is none of ours -/
theorem tr_back {K : PySem.W.Frag} {E : XK} {ρ ρ1 : Sto} {h : List O} {H H1 : Hp} (ok : Ok K c ρ h H) (l : Le (c.at (c.hid ++ ρ.l) E) Sto.nil H ρ1 H1) : ∀ a, a ∈ ρ1.l → Off c ρ a := fun a ha => ok.offN (l.new a ha (by simp [Sto.nil]))
theorem px_back {K : PySem.W.Frag} {ρ : Sto} {h : List O} {H : Hp} (ok : Ok K c ρ h H) {k : Nat} {fs gs : List D} {h1 : List O} (e : mapO (frz h1 far) fs = some gs) (q : PX K c ρ H k gs h) : PX K (c.at (c.hid ++ ρ.l) c.E) Sto.nil H k fs h1 := by
  refine ⟨q.1, (mapO_len e).symm.trans q.2.1, fun ρ1 H1 d vs l1 ok1 own r => ?_⟩
  obtain ⟨l2, ok2⟩ := ok.apart l1 ok1
  refine q.2.2 ρ H1 d vs l2 ok2 (fun z => ?_) (frzs_ok (frz_ok ok1 mv_back (tr_back ok l1) far) e r)
  obtain ⟨dd, e1, e2, o⟩ := own fun z2 => z (by rw [z2] at e; simp only [mapO] at e; cases e; rfl)
  exact ⟨dd, e1, e2, ((mv_back (K := K)).off _ _ e2 o).2⟩
theorem op_pure {K : PySem.W.Frag} {F : List D → M D} : OpN K c (fun vs H Q => spF K c F vs H Q c.E) (oPure F) := fun {ρ h H xs vs Q} ok r q => by
  unfold oPure at q
  split at q
  · rename_i hx
    refine ⟨c.hid ++ ρ.l, Sto.nil, [], xs, ok.begin, RVs.mv mv_start xs vs (.inl hx) r, (Tr.all_both.mp q).mono2 (fun ⟨y, h1⟩ q1 ρ1 H1 v l1 ok1 r1 => ?_) (fun k fs h1 q1 => ?_)⟩
    · dsimp only at q1
      split at q1
      · rename_i z hz
        obtain ⟨l2, ok2⟩ := ok.apart l1 ok1
        exact q1 ρ H1 v l2 ok2 (frz_ok ok1 mv_back (tr_back ok l1) far _ _ _ hz r1)
      · exact q1.elim
    · split at q1
      · rename_i gs hg
        exact px_back ok hg q1
      · exact q1.elim
  · exact q.elim
/-! ### a new instance -/
def insOf (k n : Nat) (h : List O) : Option (List D) := match (h[0]? : Option O) with
  | some (.ins j fs) => if j = k ∧ fs.length = n then mapO (frz h far) fs else none
  | _ => none
/-- its __init__ runs over a store of its own -/
def oMk (k n : Nat) (F : List D → M D) : List D → M D := fun xs h => if noLs xs = true then (F (.loc 0 :: xs) [.ins k []]).both
    (fun r => match r.1, insOf k n r.2 with
      | .non, some gs => .ret (.ins k gs, h)
      | _, _ => .bad)
    (fun k fs h1 => match mapO (frz h1 far) fs with
      | some gs => .err k gs h
      | none => .bad)
  else .bad
/-- the same, the instance a part of our store -/
def oMkL (k n : Nat) (F : List D → M D) : List D → M D := fun xs h => if noLs xs = true then (F (.loc 0 :: xs) [.ins k []]).both
    (fun r => match r.1, insOf k n r.2 with
      | .non, some gs => .ret (.loc h.length, h ++ [.ins k gs])
      | _, _ => .bad)
    (fun k fs h1 => match mapO (frz h1 far) fs with
      | some gs => .err k gs h
      | none => .bad)
  else .bad
theorem insOf_ok {K : PySem.W.Frag} {c c1 : Ct} {ρ ρ1 : Sto} {h : List O} {H : Hp} {k n : Nat} {gs : List D} {a : Addr} (ok : Ok K c ρ h H) (m : Mv K c c1 H ρ H ρ1) (tr : ∀ a, a ∈ ρ.l → Off c1 ρ1 a) (e : insOf k n h = some gs) (h0 : ρ.a[0]? = some a) :
    ∃ dx vs, H a = some (.ins (c1.cA k) dx (((c1.cF k).take gs.length).zip vs)) ∧ Off c1 ρ1 a ∧ (gs.length ≤ (c1.cF k).length ∧ k < c1.n) ∧ RVs K c1 H ρ1 gs vs ∧ gs.length = n := by
  unfold insOf at e
  split at e
  · rename_i j fs hj
    split at e
    · rename_i hc
      obtain ⟨rfl, hl⟩ := hc
      obtain ⟨dx, vs, e1, e2, e3⟩ := ok.objs _ _ _ hj h0
      have hg := mapO_len e
      exact ⟨dx, vs, by rw [m.cA, m.cF, hg]; exact e1, tr a (ok.lv _ _ _ hj h0 (by simp)), by rw [m.cF, m.n, hg]; exact e2, frzs_ok (frz_ok ok m tr far) e e3, by rw [hg, hl]⟩
    · cases e
  · cases e
/-- the new instance's own dict and the instance, in an empty store -/
theorem Ok.beginI {K : PySem.W.Frag} {ρ : Sto} {h : List O} {H : Hp} {k : Nat} {x dx : Addr} (ok : Ok K c ρ h H) (hk : k < c.n) (nx : H x = Option.none) (ndx : H dx = Option.none) (ne : dx ≠ x) :
    Le (c.at (c.hid ++ ρ.l) c.E) Sto.nil H (Sto.nil.push x) (upd (upd H dx (.own x)) x (.ins (c.cA k) dx [])) ∧ Ok K (c.at (c.hid ++ ρ.l) c.E) (Sto.nil.push x) [.ins k []] (upd (upd H dx (.own x)) x (.ins (c.cA k) dx [])) := by
  obtain ⟨l1, ok1⟩ := (ok.begin (E := c.E)).other (o := .own x) ndx
  have nx' : (upd H dx (.own x)) x = Option.none := by rw [upd_ne (Ne.symm ne)]; exact nx
  obtain ⟨l2, ok2⟩ := ok1.push (u := .ins (c.cA k) dx []) (o := .ins k []) nx' fun H1 l e => ⟨dx, [], e, ⟨Nat.zero_le _, hk⟩, .nil⟩
  exact ⟨l1.trans l2, ok2⟩
theorem op_mk {K : PySem.W.Frag} {k n : Nat} (hk : k < c.n) {F : List D → M D} : OpN K c (fun vs H Q => ∀ x dx, H x = Option.none → H dx = Option.none → dx ≠ x → spF K c F (.ref x :: vs) (upd (upd H dx (.own x)) x (.ins (c.cA k) dx [])) (fun v H2 => v = .non ∧ Q (.ref x) H2) c.E) (oMk k n F) :=
  fun {ρ h H xs vs Q} ok r q x dx nx ndx ne => by
    unfold oMk at q
    split at q
    · rename_i hx
      obtain ⟨l, ok2⟩ := ok.beginI hk nx ndx ne
      refine ⟨c.hid ++ ρ.l, _, _, _, ok2, .cons (.loc rfl) ((RVs.mv mv_start xs vs (.inl hx) r).le l), (Tr.all_both.mp q).mono2 (fun ⟨y, h1⟩ q1 ρ3 H3 v l3 ok3 r3 => ?_) (fun k fs h1 q1 => ?_)⟩
      · dsimp only at q1
        split at q1
        · rename_i gs hg
          cases r3
          refine ⟨rfl, ?_⟩
          have l13 := l.trans l3
          have hx3 : ρ3.a[0]? = some x := pre_get l3.pre (by rfl)
          obtain ⟨dx', ws, e1, o, e2, e3, _⟩ := insOf_ok ok3 mv_back (tr_back ok l13) hg hx3
          obtain ⟨l4, ok4⟩ := ok.apart l13 ok3
          exact q1 ρ H3 _ l4 ok4 (.ins e1 o e2 e3)
        · exact q1.elim
      · split at q1
        · rename_i gs hg
          exact (px_back ok hg q1).le l
        · exact q1.elim
    · exact q.elim
/-! ### what is not changed any more -/
def Sto.kill (ρ : Sto) (p : Addr) : Sto := ⟨ρ.a, ρ.l.filter fun q => decide (q ≠ p)⟩
theorem Ok.kill {K : PySem.W.Frag} {ρ : Sto} {h : List O} {H : Hp} {i : Nat} {p : Addr} (ok : Ok K c ρ h H) (hi : ρ.a[i]? = some p) : Le c ρ H (ρ.kill p) H ∧ Ok K c (ρ.kill p) (h.set i .dead) H := by
  have sub : ∀ a, a ∈ (ρ.kill p).l → a ∈ ρ.l := fun a ha => (List.mem_filter.mp ha).1
  have l : Le c ρ H (ρ.kill p) H := ⟨List.prefix_refl _, fun q hq n => absurd (sub q hq) n, fun _ _ _ _ h => h, fun _ _ h => h, fun _ _ _ h => h, fun _ h => h⟩
  have inj : ∀ m : Nat, ρ.a[m]? = some p → m = i := fun m e2 => by
    obtain ⟨q1, w1⟩ := List.getElem?_eq_some_iff.mp e2
    obtain ⟨q2, w2⟩ := List.getElem?_eq_some_iff.mp hi
    exact (List.getElem_inj ok.nd).mp (w1.trans w2.symm)
  refine ⟨l, by show ρ.a.length = _; rw [List.length_set]; exact ok.len, ok.nd, fun n o a e1 e2 => ?_, fun n o a e1 e2 e3 => ?_, fun a ha => ok.sub a (sub a ha), ok.ex, ok.dw, ok.hid⟩
  · have e2 : ρ.a[n]? = some a := e2
    by_cases hn : n = i
    · subst hn
      obtain ⟨q, w⟩ := List.getElem?_eq_some_iff.mp e1
      simp at w
      subst w
      trivial
    · rw [List.getElem?_set_ne (Ne.symm hn)] at e1
      exact (ok.objs n o a e1 e2).le l rfl
  · have e2 : ρ.a[n]? = some a := e2
    by_cases hn : n = i
    · subst hn
      obtain ⟨q, w⟩ := List.getElem?_eq_some_iff.mp e1
      simp at w
      exact absurd w.symm e3
    · rw [List.getElem?_set_ne (Ne.symm hn)] at e1
      exact List.mem_filter.mpr ⟨ok.lv n o a e1 e2 e3, decide_eq_true fun z => hn (inj n (z ▸ e2))⟩
def mapK (f : D → List O → Option (D × List O)) : List D → List O → Option (List D × List O)
  | [], h => some ([], h)
  | x :: xs, h => match f x h with
    | some (y, h1) => match mapK f xs h1 with
      | some (ys, h2) => some (y :: ys, h2)
      | none => none
    | none => none
/-- a value by content; what stood in the store for it is closed -/
def frzK : Nat → D → List O → Option (D × List O)
  | 0, _, _ => none
  | n + 1, x, h => if noL x = true then some (x, h) else match x with
    | .tup xs => match mapK (frzK n) xs h with
      | some (ys, h1) => some (.tup ys, h1)
      | none => none
    | .lst xs => match mapK (frzK n) xs h with
      | some (ys, h1) => some (.lst ys, h1)
      | none => none
    | .dct ks xs => match mapK (frzK n) xs h with
      | some (ys, h1) => some (.dct ks ys, h1)
      | none => none
    | .loc i => match h[i]? with
      | some (.lst xs) => match mapK (frzK n) xs (h.set i .dead) with
        | some (ys, h1) => some (.lst ys, h1)
        | none => none
      | some (.dK ks xs) => match mapK (frzK n) xs (h.set i .dead) with
        | some (ys, h1) => some (.dct ks ys, h1)
        | none => none
      | some (.tD ks xs) => if noLs ks = true then match mapK (frzK n) xs (h.set i .dead) with
          | some (ys, h1) => some (.tct ks ys, h1)
          | none => none
        else none
      | some (.ins k xs) => match mapK (frzK n) xs (h.set i .dead) with
        | some (ys, h1) => some (.ins k ys, h1)
        | none => none
      | _ => none
    | _ => none
/-- an object that cannot be read any more, and cannot be closed -/
def Lk (p : Addr) (ρ : Sto) (h : List O) : Prop := p ∈ ρ.l ∧ ∀ i : Nat, ρ.a[i]? = some p → h[i]? = some .dead
theorem Lk.kill {p a : Addr} {ρ : Sto} {h : List O} {i : Nat} {o : O} (l : Lk p ρ h) (g : ρ.a[i]? = some a) (e : h[i]? = some o) (nd : o ≠ .dead) : Lk p (ρ.kill a) (h.set i .dead) := by
  refine ⟨List.mem_filter.mpr ⟨l.1, decide_eq_true fun z => ?_⟩, fun j hj => ?_⟩
  · have := l.2 i (by rw [g, z])
    rw [e] at this
    exact nd (by cases this; rfl)
  · by_cases q : j = i
    · subst q
      obtain ⟨hl, _⟩ := List.getElem?_eq_some_iff.mp e
      rw [List.getElem?_set_self hl]
    · rw [List.getElem?_set_ne (Ne.symm q)]
      exact l.2 j hj
/-- as it stands then -/
structure Clo (K : PySem.W.Frag) (c : Ct) (ρ : Sto) (h0 h : List O) (H : Hp) (P : Sto → Prop) : Prop where
  ex : ∃ ρ', ρ'.a = ρ.a ∧ Le c ρ H ρ' H ∧ Ok K c ρ' h H ∧ P ρ' ∧ ∀ p, Lk p ρ h0 → Lk p ρ' h
theorem frzKs_ok {K : PySem.W.Frag} {H : Hp} {f : D → List O → Option (D × List O)} (hf : ∀ (ρ : Sto) (h : List O) x y h1 v, Ok K c ρ h H → f x h = some (y, h1) → RV K c H ρ x v → Clo K c ρ h h1 H fun ρ' => RV K c H ρ' y v) :
    ∀ (xs : List D) (ys : List D) (ρ : Sto) (h h1 : List O) (vs : List V), Ok K c ρ h H → mapK f xs h = some (ys, h1) → RVs K c H ρ xs vs → Clo K c ρ h h1 H fun ρ' => RVs K c H ρ' ys vs
  | [], _, ρ, h, _, _, ok, e, r => by
    simp only [mapK] at e
    cases e
    cases r
    exact ⟨ρ, rfl, .refl, ok, .nil, fun _ z => z⟩
  | x :: xs, _, ρ, h, _, _, ok, e, r => by
    cases r with
    | cons r1 r2 =>
      simp only [mapK] at e
      split at e
      · rename_i y h1 hy
        split at e
        · rename_i ys h2 hys
          cases e
          obtain ⟨ρ1, a1, l1, ok1, q1, k1⟩ := (hf _ _ _ _ _ _ ok hy r1).ex
          obtain ⟨ρ2, a2, l2, ok2, q2, k2⟩ := (frzKs_ok hf xs ys ρ1 h1 _ _ ok1 hys (r2.le l1)).ex
          exact ⟨ρ2, a2.trans a1, l1.trans l2, ok2, .cons (q1.le l2) q2, fun p z => k2 p (k1 p z)⟩
        · cases e
      · cases e
theorem mapK_len {f : D → List O → Option (D × List O)} : ∀ {xs ys : List D} {h h1 : List O}, mapK f xs h = some (ys, h1) → ys.length = xs.length
  | [], _, _, _, e => by simp only [mapK] at e; cases e; rfl
  | x :: xs, _, _, _, e => by
    simp only [mapK] at e
    split at e
    · split at e
      · rename_i h
        cases e
        simp [mapK_len h]
      · cases e
    · cases e
theorem offK {ρ : Sto} {p : Addr} {K : PySem.W.Frag} {h : List O} {H : Hp} (ok : Ok K c ρ h H) (hp : p ∈ ρ.a) : Off c (ρ.kill p) p := ⟨fun z => by simpa using (List.mem_filter.mp z).2, fun z => (ok.hid _ z).2 hp, fun d g e z => by
  obtain ⟨_, n1, n2, _⟩ := ok.dw d g e z
  exact ⟨fun q => n1 (q ▸ hp), fun q => n2 (q ▸ hp)⟩⟩
theorem frzK_ok {K : PySem.W.Frag} {H : Hp} : ∀ (n : Nat) (ρ : Sto) (h : List O) (x y : D) (h1 : List O) (v : V), Ok K c ρ h H → frzK n x h = some (y, h1) → RV K c H ρ x v → Clo K c ρ h h1 H fun ρ' => RV K c H ρ' y v
  | 0, _, _, _, _, _, _, _, e, _ => by simp only [frzK] at e; cases e
  | n + 1, ρ, h, x, y, h1, v, ok, e, r => by
    simp only [frzK] at e
    split at e
    · cases e
      exact ⟨ρ, rfl, .refl, ok, r, fun _ z => z⟩
    · have ih := frzKs_ok (frzK_ok (K := K) (H := H) n)
      cases r with
      | non => cases e
      | bl b => cases e
      | int b => cases e
      | str b => cases e
      | draw h1 => cases e
      | tct _ _ _ _ _ => cases e
      | exn _ _ _ _ _ => cases e
      | ins _ _ _ _ => cases e
      | tup g1 g2 =>
        dsimp only at e
        split at e
        · rename_i ys h2 hys
          cases e
          obtain ⟨ρ1, a1, l1, ok1, q1, k1⟩ := (ih _ _ _ _ _ _ ok hys g2).ex
          exact ⟨ρ1, a1, l1, ok1, .tup (l1.rd g1) q1, k1⟩
        · cases e
      | lst g1 o g2 =>
        dsimp only at e
        split at e
        · rename_i ys h2 hys
          cases e
          obtain ⟨ρ1, a1, l1, ok1, q1, k1⟩ := (ih _ _ _ _ _ _ ok hys g2).ex
          exact ⟨ρ1, a1, l1, ok1, .lst (l1.off g1 o).1 (l1.off g1 o).2 q1, k1⟩
        · cases e
      | dct g1 o ek g2 =>
        dsimp only at e
        split at e
        · rename_i ys h2 hys
          cases e
          obtain ⟨ρ1, a1, l1, ok1, q1, k1⟩ := (ih _ _ _ _ _ _ ok hys g2).ex
          exact ⟨ρ1, a1, l1, ok1, .dct (l1.offR g1 o).1 (l1.offR g1 o).2 ek q1, k1⟩
        · cases e
      | @loc i a g1 =>
        dsimp only at e
        obtain ⟨lk, okk⟩ := ok.kill g1
        have offp := offK ok (List.mem_of_getElem? g1)
        split at e
        · rename_i xs hx
          split at e
          · rename_i ys h2 hys
            cases e
            obtain ⟨vs, e1, e2⟩ := ok.objs _ _ _ hx g1
            obtain ⟨ρ1, a1, l1, ok1, q1, k1⟩ := (ih _ _ _ _ _ _ okk hys (e2.le lk)).ex
            obtain ⟨f1, f2⟩ := l1.off e1 offp
            exact ⟨ρ1, a1, lk.trans l1, ok1, .lst f1 f2 q1, fun p z => k1 p (z.kill g1 hx (by simp))⟩
          · cases e
        · rename_i ks xs hx
          split at e
          · rename_i ys h2 hys
            cases e
            obtain ⟨kws, e1, e2, e3⟩ := ok.objs _ _ _ hx g1
            obtain ⟨ρ1, a1, l1, ok1, q1, k1⟩ := (ih _ _ _ _ _ _ okk hys (e3.le lk)).ex
            obtain ⟨f1, f2⟩ := l1.off e1 offp
            exact ⟨ρ1, a1, lk.trans l1, ok1, .dct (.inl f1) f2 e2 q1, fun p z => k1 p (z.kill g1 hx (by simp))⟩
          · cases e
        · rename_i ks xs hx
          split at e
          · rename_i hks
            split at e
            · rename_i ys h2 hys
              cases e
              obtain ⟨kas, vs, e1, e2, e3, e4⟩ := ok.objs _ _ _ hx g1
              obtain ⟨ρ1, a1, l1, ok1, q1, k1⟩ := (ih _ _ _ _ _ _ okk hys (e4.le lk)).ex
              obtain ⟨f1, f2⟩ := l1.off e1 offp
              exact ⟨ρ1, a1, lk.trans l1, ok1, .tct (.inl f1) f2 e2 ((e3.le lk).le l1) q1, fun p z => k1 p (z.kill g1 hx (by simp))⟩
            · cases e
          · cases e
        · rename_i k xs hx
          split at e
          · rename_i ys h2 hys
            cases e
            obtain ⟨dx, vs, e1, e2, e3⟩ := ok.objs _ _ _ hx g1
            obtain ⟨ρ1, a1, l1, ok1, q1, k1⟩ := (ih _ _ _ _ _ _ okk hys (e3.le lk)).ex
            obtain ⟨f1, f2⟩ := l1.off e1 offp
            have hl := mapK_len hys
            exact ⟨ρ1, a1, lk.trans l1, ok1, .ins (by rw [hl]; exact f1) f2 (by rw [hl]; exact e2) q1, fun p z => k1 p (z.kill g1 hx (by simp))⟩
          · cases e
        · cases e
/-- a value from now on by content -/
def oFz : D → M D := fun x h => match frzK far x h with
  | some (y, h1) => .ret (y, h1)
  | none => .bad
/-- a slot's value from now on by content -/
def sFz (i : Nat) : Sg → M Out := fun s h => match s[i]? with
  | some (some x) => match frzK far x h with
    | some (y, h1) => .ret (.nx (s.set i (some y)), h1)
    | none => .bad
  | _ => .bad
section
variable {X : Cx} {e : Expr} {fa : Sg → M D}
theorem ev_fz (ha : EE c X e fa) : EE c X e (f1 oFz fa) := PE.imp ha fun σ H Q ⟨ρ, h, s, ok, env, q⟩ => ⟨ρ, h, s, ok, env, (M.all_bind.mp q).mono fun ⟨x, h1⟩ q1 ρ1 H1 v l1 ok1 r1 => by
  dsimp only [oFz] at q1
  split at q1
  · rename_i y h2 hy
    obtain ⟨ρ2, _, l2, ok2, r2, _⟩ := (frzK_ok far _ _ _ _ _ _ ok1 hy r1).ex
    exact q1 ρ2 H1 v (l1.trans l2) ok2 r2
  · exact q1.elim⟩
end
/-! ### a result that the caller goes on to change -/
theorem Ok.adopt {K : PySem.W.Frag} {ρ : Sto} {h : List O} {H H1 : Hp} {p : Addr} {o : O} (ok : Ok K c ρ h H) (l : Le c ρ H ρ H1) (ok1 : Ok K c ρ h H1) (same : ∀ a, a ∈ ρ.a → H1 a = H a) (np : H p = none) (hp : ∃ u, H1 p = some u)
    (new : Le c ρ H (ρ.push p) H1 → RO K c H1 (ρ.push p) o p) (hd : ∀ d g e, c.dw = some (d, g, e) → Dw H d g e) : Le c ρ H (ρ.push p) H1 ∧ Ok K c (ρ.push p) (h ++ [o]) H1 := by
  obtain ⟨hp1, hp2⟩ := ok.fresh np
  have l1 : Le c ρ H (ρ.push p) H1 := ⟨List.prefix_append _ _, fun q hq n => by
    rcases List.mem_append.mp hq with z | z
    · exact absurd z n
    · rw [List.mem_singleton.mp z]; exact np, l.fr, l.tups, l.frzs, l.kept⟩
  refine ⟨l1, by simp [Sto.push, ok.len], ?_, fun n o' a e1 e2 => ?_, fun n o' a e1 e2 e3 => ?_, fun a ha => ?_, fun a ha => ?_, fun d g e z => ?_, fun a ha => ?_⟩
  · show (ρ.a ++ [p]).Nodup
    rw [List.nodup_append]
    exact ⟨ok.nd, by simp, fun a ha b hb => by rw [List.mem_singleton.mp hb]; intro z; rw [z] at ha; exact hp1 ha⟩
  · have e2 : (ρ.a ++ [p])[n]? = some a := e2
    by_cases hn : n < h.length
    · rw [List.getElem?_append_left hn] at e1
      rw [List.getElem?_append_left (by rw [ok.len]; exact hn)] at e2
      exact (ok.objs n o' a e1 e2).le l1 (same a (List.mem_of_getElem? e2))
    · rw [List.getElem?_append_right (by omega)] at e1
      rw [List.getElem?_append_right (by rw [ok.len]; omega)] at e2
      have h0 : n - h.length = 0 := by
        obtain ⟨q, _⟩ := List.getElem?_eq_some_iff.mp e1
        simp at q; omega
      rw [h0] at e1
      rw [show n - ρ.a.length = 0 by rw [ok.len]; exact h0] at e2
      simp at e1 e2
      subst e1 e2
      exact new l1
  · have e2 : (ρ.a ++ [p])[n]? = some a := e2
    show a ∈ ρ.l ++ [p]
    by_cases hn : n < h.length
    · rw [List.getElem?_append_left hn] at e1
      rw [List.getElem?_append_left (by rw [ok.len]; exact hn)] at e2
      exact List.mem_append_left _ (ok.lv n o' a e1 e2 e3)
    · rw [List.getElem?_append_right (by rw [ok.len]; omega)] at e2
      have := List.mem_of_getElem? e2
      exact List.mem_append_right _ this
  · rcases List.mem_append.mp ha with z | z
    · exact List.mem_append_left _ (ok.sub a z)
    · exact List.mem_append_right _ z
  · rcases List.mem_append.mp ha with z | z
    · exact ok1.ex a z
    · rw [List.mem_singleton.mp z]; exact hp
  · obtain ⟨Dx, h1, h2, h3⟩ := ok1.dw d g e z
    obtain ⟨⟨gs, cs, r, t, hd', hg', hc'⟩, _⟩ := hd d g e z
    have a1 := ne_of_none hd' np
    have a2 := ne_of_none hg' np
    have a3 := ne_of_none hc' np
    exact ⟨Dx, by simp [Sto.push, h1, a1], by simp [Sto.push, h2, a2], by simp [Sto.push, h3, a3]⟩
  · obtain ⟨h0, h1⟩ := ok1.hid a ha
    refine ⟨h0, fun z => ?_⟩
    rcases List.mem_append.mp z with z | z
    · exact h1 z
    · rw [List.mem_singleton.mp z] at ha; exact hp2 ha
theorem Ok.same {K : PySem.W.Frag} {hid : List Addr} {E : XK} {ρ ρ' : Sto} {h : List O} {H H' : Hp} (ok : Ok K c ρ h H) (l : Le (c.at hid E) Sto.nil H ρ' H') : ∀ a, a ∈ ρ.a → H' a = H a := fun a ha => by
  obtain ⟨u, hu⟩ := ok.ex a ha
  refine (l.fr a u (by simp [Sto.nil]) (fun d g e z => ?_) hu).trans hu.symm
  obtain ⟨_, n1, n2, _⟩ := ok.dw d g e z
  exact ⟨fun q => n1 (q ▸ ha), fun q => n2 (q ▸ ha)⟩
/-- the object at i, its items by content -/
def thaw (h : List O) (x : D) : Option O := match x with
  | .loc i => match h[i]? with
    | some (.lst xs) => match mapK (frzK far) xs (h.set i .dead) with
      | some (ys, _) => some (.lst ys)
      | none => none
    | some (.dK ks xs) => match mapK (frzK far) xs (h.set i .dead) with
      | some (ys, _) => some (.dK ks ys)
      | none => none
    | some (.ins k xs) => match mapK (frzK far) xs (h.set i .dead) with
      | some (ys, _) => some (.ins k ys)
      | none => none
    | _ => none
  | _ => none
def oPureT (F : List D → M D) : List D → M D := fun xs h => if noLs xs = true then (F xs []).both
    (fun r => match thaw r.2 r.1 with
      | some o => .ret (.loc h.length, h ++ [o])
      | none => .bad)
    (fun k fs h1 => match mapO (frz h1 far) fs with
      | some gs => .err k gs h
      | none => .bad)
  else .bad
/-- no numbers are left -/
theorem noLs_of {f : D → List O → Option (D × List O)} (hf : ∀ x h y h1, f x h = some (y, h1) → noL y = true) : ∀ (xs ys : List D) (h h1 : List O), mapK f xs h = some (ys, h1) → noLs ys = true
  | [], _, _, _, e => by simp only [mapK] at e; cases e; rfl
  | x :: xs, _, _, _, e => by
    simp only [mapK] at e
    split at e
    · rename_i y h1 hy
      split at e
      · rename_i ys h2 hys
        cases e
        simp [noLs, hf _ _ _ _ hy, noLs_of hf xs ys _ _ hys]
      · cases e
    · cases e
theorem noL_of : ∀ (n : Nat) (x : D) (h : List O) (y : D) (h1 : List O), frzK n x h = some (y, h1) → noL y = true
  | 0, _, _, _, _, e => by simp only [frzK] at e; cases e
  | n + 1, x, h, y, h1, e => by
    have ih := noLs_of (noL_of n)
    simp only [frzK] at e
    split at e
    · rename_i hx
      cases e
      exact hx
    · split at e
      · split at e
        · rename_i hys
          cases e
          simpa [noL] using ih _ _ _ _ hys
        · cases e
      · split at e
        · rename_i hys
          cases e
          simpa [noL] using ih _ _ _ _ hys
        · cases e
      · split at e
        · rename_i hys
          cases e
          simpa [noL] using ih _ _ _ _ hys
        · cases e
      · split at e
        · split at e
          · rename_i hys
            cases e
            simpa [noL] using ih _ _ _ _ hys
          · cases e
        · split at e
          · rename_i hys
            cases e
            simpa [noL] using ih _ _ _ _ hys
          · cases e
        · split at e
          · rename_i hks
            split at e
            · rename_i hys
              cases e
              simpa [noL, hks] using ih _ _ _ _ hys
            · cases e
          · cases e
        · split at e
          · rename_i hys
            cases e
            simpa [noL] using ih _ _ _ _ hys
          · cases e
        · cases e
      · cases e
theorem Ok.lock {K : PySem.W.Frag} {ρ : Sto} {h : List O} {H : Hp} {i : Nat} {p : Addr} (ok : Ok K c ρ h H) (hi : ρ.a[i]? = some p) : Ok K c ρ (h.set i .dead) H ∧ (p ∈ ρ.l → Lk p ρ (h.set i .dead)) := by
  have inj : ∀ m : Nat, ρ.a[m]? = some p → m = i := fun m e2 => by
    obtain ⟨q1, w1⟩ := List.getElem?_eq_some_iff.mp e2
    obtain ⟨q2, w2⟩ := List.getElem?_eq_some_iff.mp hi
    exact (List.getElem_inj ok.nd).mp (w1.trans w2.symm)
  have hl : i < h.length := by rw [← ok.len]; exact (List.getElem?_eq_some_iff.mp hi).1
  refine ⟨⟨by rw [List.length_set]; exact ok.len, ok.nd, fun n o a e1 e2 => ?_, fun n o a e1 e2 e3 => ?_, ok.sub, ok.ex, ok.dw, ok.hid⟩, fun hp => ⟨hp, fun j hj => by rw [inj j hj, List.getElem?_set_self hl]⟩⟩
  · by_cases hn : n = i
    · subst hn
      rw [List.getElem?_set_self hl] at e1
      cases e1
      trivial
    · rw [List.getElem?_set_ne (Ne.symm hn)] at e1
      exact ok.objs n o a e1 e2
  · by_cases hn : n = i
    · subst hn
      rw [List.getElem?_set_self hl] at e1
      cases e1
      exact absurd rfl e3
    · rw [List.getElem?_set_ne (Ne.symm hn)] at e1
      exact ok.lv n o a e1 e2 e3
theorem op_pureT {K : PySem.W.Frag} {F : List D → M D} : OpN K c (fun vs H Q => spF K c F vs H Q c.E) (oPureT F) := fun {ρ h H xs vs Q} ok r q => by
  unfold oPureT at q
  split at q
  · rename_i hx
    refine ⟨c.hid ++ ρ.l, Sto.nil, [], xs, ok.begin, RVs.mv mv_start xs vs (.inl hx) r, (Tr.all_both.mp q).mono2 (fun ⟨y, h1⟩ q1 ρ1 H1 v l1 ok1 r1 => ?_) (fun k fs h1 q1 => ?_)⟩
    · dsimp only at q1
      split at q1
      · rename_i o ho
        obtain ⟨l2, ok2⟩ := ok.apart l1 ok1
        unfold thaw at ho
        split at ho
        · rename_i i
          cases r1 with
          | @loc _ p g1 =>
            have g1 : ρ1.a[i]? = some p := g1
            have live : ∀ o, h1[i]? = some o → o ≠ .dead → H p = none := fun o e1 e2 => l1.new p (ok1.lv i o p e1 g1 e2) (by simp [Sto.nil])
            obtain ⟨okk, lk⟩ := ok1.lock g1
            have key : ∀ (xs ys : List D) (h2 : List O) (ws : List V), mapK (frzK far) xs (h1.set i .dead) = some (ys, h2) → RVs K (c.at (c.hid ++ ρ.l) c.E) H1 ρ1 xs ws → p ∈ ρ1.l → H p = none → RVs K c H1 (ρ.push p) ys ws := fun xs ys h2 ws e r hp np => by
              obtain ⟨ρ2, a2, l2, ok2, q2, k2⟩ := (frzKs_ok (frzK_ok far) xs ys _ _ _ _ okk e r).ex
              have hl := noLs_of (noL_of far) _ _ _ _ e
              have hp2 := (k2 p (lk hp)).1
              refine RVs.mv (c := c.at (c.hid ++ ρ.l) c.E) (ρ := ρ2) ⟨fun _ _ h => h, fun a u e o => ⟨e, fun z => ?_, fun z => o.hd (List.mem_append_left _ z), o.dw⟩, rfl, rfl, rfl, rfl, rfl, rfl, rfl, rfl, rfl⟩ ys ws (.inl hl) q2
              rcases List.mem_append.mp z with z | z
              · exact o.hd (List.mem_append_right _ z)
              · rw [List.mem_singleton.mp z] at o
                exact o.st hp2
            have fin : ∀ o0, h1[i]? = some o0 → o0 ≠ .dead → (∀ l : Le c ρ H (ρ.push p) H1, RO K c H1 (ρ.push p) o p) → Q (.ref p) H1 := fun o0 e1 e2 new => by
              have hp := ok1.lv i o0 p e1 g1 e2
              have np := live o0 e1 e2
              obtain ⟨l3, ok3⟩ := ok.adopt l2 ok2 (ok.same l1) np (ok1.ex p (ok1.sub p hp)) new fun d g e z => (ok.dw d g e z).1
              exact q1 _ H1 _ l3 ok3 (.loc (by rw [← ok.len]; simp [Sto.push]))
            split at ho
            · rename_i xs hx
              split at ho
              · rename_i ys h2 hys
                cases ho
                obtain ⟨vs, e1, e2⟩ := ok1.objs _ _ _ hx g1
                exact fin _ hx (by simp) fun _ => ⟨vs, e1, key _ _ _ _ hys e2 (ok1.lv i _ p hx g1 (by simp)) (live _ hx (by simp))⟩
              · cases ho
            · rename_i ks xs hx
              split at ho
              · rename_i ys h2 hys
                cases ho
                obtain ⟨vs, e1, e2, e3⟩ := ok1.objs _ _ _ hx g1
                exact fin _ hx (by simp) fun _ => ⟨vs, e1, e2, key _ _ _ _ hys e3 (ok1.lv i _ p hx g1 (by simp)) (live _ hx (by simp))⟩
              · cases ho
            · rename_i k xs hx
              split at ho
              · rename_i ys h2 hys
                cases ho
                obtain ⟨dx, vs, e1, e2, e3⟩ := ok1.objs _ _ _ hx g1
                have hl := mapK_len hys
                exact fin _ hx (by simp) fun _ => ⟨dx, vs, by rw [hl]; exact e1, by rw [hl]; exact e2, key _ _ _ _ hys e3 (ok1.lv i _ p hx g1 (by simp)) (live _ hx (by simp))⟩
              · cases ho
            · cases ho
        · cases ho
      · exact q1.elim
    · split at q1
      · rename_i gs hg
        exact px_back ok hg q1
      · exact q1.elim
  · exact q.elim
end
end Ev

/-! Statements, targets, loops, comprehensions. -/
namespace Ev
open PySem PySem.Spec PyProof.Rows L2 Dr
variable {c : Ct}
/-! ### targets -/
def off (vs : List Nat) (σ σ' : L2.St) : Prop := wipe σ' vs = wipe σ vs
theorem wipe_set {σ : L2.St} {i : Nat} {v : Option V} : ∀ {vs : List Nat}, i ∈ vs → wipe (σ.set i v) vs = wipe σ vs
  | [], h => by cases h
  | w :: vs, h => by
    show (wipe (σ.set i v) vs).set w none = (wipe σ vs).set w none
    by_cases hm : i ∈ vs
    · rw [wipe_set hm]
    · have e : i = w := (List.mem_cons.mp h).resolve_right hm
      subst e
      have key : ∀ (us : List Nat), i ∉ us → wipe (σ.set i v) us = (wipe σ us).set i v := by
        intro us
        induction us with
        | nil => intro _; rfl
        | cons u us ih =>
          intro hu
          have h1 : i ≠ u := fun z => hu (by simp [z])
          have h2 : i ∉ us := fun z => hu (by simp [z])
          show (wipe (σ.set i v) us).set u none = ((wipe σ us).set u none).set i v
          rw [ih h2, List.set_comm _ _ h1]
      rw [key vs hm, List.set_set]
def tGt (K : PySem.W.Frag) (c : Ct) (vs : List Nat) (f : D → Sg → M Sg) : TG := fun v σ H Q => ∃ ρ h s x, Ok K c ρ h H ∧ Env K c H ρ s σ ∧ RV K c H ρ x v ∧
  (f x s h).All (fun r => ∀ ρ' H' σ', Le c ρ H ρ' H' → Ok K c ρ' r.2 H' → Env K c H' ρ' r.1 σ' → off vs σ σ' → Q σ' H') (PX K c ρ H)
def tGts (K : PySem.W.Frag) (c : Ct) (vs : List Nat) (f : List D → Sg → M Sg) : TGs := fun ws σ H Q => ∃ ρ h s xs, Ok K c ρ h H ∧ Env K c H ρ s σ ∧ RVs K c H ρ xs ws ∧
  (f xs s h).All (fun r => ∀ ρ' H' σ', Le c ρ H ρ' H' → Ok K c ρ' r.2 H' → Env K c H' ρ' r.1 σ' → off vs σ σ' → Q σ' H') (PX K c ρ H)
abbrev EG (c : Ct) (X : Cx) (vs : List Nat) (e : Expr) (f : D → Sg → M Sg) : Prop := PG X e (tGt X.K c vs f)
abbrev EGs (c : Ct) (X : Cx) (vs : List Nat) (es : List Expr) (f : List D → Sg → M Sg) : Prop := PGs X es (tGts X.K c vs f)
abbrev ES (c : Ct) (X : Cx) (e : Stmt) (f : Sg → M Out) : Prop := PS X e (tS X.K c f)
abbrev ESs (c : Ct) (X : Cx) (e : List Stmt) (f : Sg → M Out) : Prop := PSs X e (tS X.K c f)
def gSet (i : Nat) : D → Sg → M Sg := fun x s => M.ret (s.set i (some x))
def gEnd : List D → Sg → M Sg := fun xs s => match xs with
  | [] => M.ret s
  | _ => M.bad
def gAnd (g : D → Sg → M Sg) (gs : List D → Sg → M Sg) : List D → Sg → M Sg := fun xs s => match xs with
  | x :: r => M.bind (g x s) fun s' => gs r s'
  | [] => M.bad
def gTupF (n : Nat) (gs : List D → Sg → M Sg) : D → Sg → M Sg := fun x s => match x with
  | .tup xs => if xs.length = n then gs xs s else M.bad
  | _ => M.bad
section
variable {X : Cx} {e a b d : Expr} {es : List Expr} {fa fb : Sg → M D} {ft fu : Sg → M Bool} {fr : Sg → M (List D)} {pos p1 : Pos} {vs : List Nat}
theorem eg_set {x : Str} (i : Nat) (hN : X.N.Nodup) (hi : X.N[i]? = some x := by rfl) (hx : Loc X.env.scope x := by first | exact Or.inl rfl | exact Or.inr rfl) (hv : i ∈ vs := by decide) (hf : X.fn x = true ∨ X.env.scope.names.lookup x = some .local := by first | exact .inl rfl | exact .inr rfl) : EG c X vs (.Name x pos) (gSet i) :=
  PG.imp (pg_name hN hi hx hf) fun v σ H Q ⟨ρ, h, s, y, ok, env, r, q⟩ => q ρ H _ .refl ok (env.set r) (wipe_set hv)
theorem egs_nil : EGs c X vs [] gEnd := PGs.imp pgs_nil fun ws σ H Q ⟨ρ, h, s, xs, ok, env, r, q⟩ => by
  unfold gEnd at q
  split at q
  · cases r
    exact ⟨rfl, q ρ H _ .refl ok env rfl⟩
  · exact q.elim
theorem egs_cons {g : D → Sg → M Sg} {gs : List D → Sg → M Sg} (h1 : EG c X vs e g) (h2 : EGs c X vs es gs) (hs : (assignEach (e :: es) X.env).map (·.2) = assign e X.env :: (assignEach es X.env).map (·.2) := by rfl) : EGs c X vs (e :: es) (gAnd g gs) :=
  PGs.imp (pgs_cons h1 h2 hs) fun ws σ H Q ⟨ρ, h, s, xs, ok, env, r, q⟩ => by
    unfold gAnd at q
    split at q
    · cases r with
      | cons r1 r2 =>
        refine ⟨_, _, rfl, ρ, h, s, _, ok, env, r1, (M.all_bind.mp q).mono fun ⟨s1, h1⟩ q1 ρ1 H1 σ1 l1 ok1 env1 o1 => ?_⟩
        refine ⟨ρ1, h1, s1, _, ok1, env1, r2.le l1, Tr.All.le l1 q1 fun r q ρ2 H2 σ2 l2 ok2 env2 o2 => q ρ2 H2 σ2 (l1.trans l2) ok2 env2 (o2.trans o1)⟩
    · exact q.elim
theorem eg_tup {k n : Nat} {gs : List D → Sg → M Sg} (h : EGs c X vs es gs) (hc : X.calm = true := by rfl) (hn : (assignEach es X.env).length = n := by rfl) (hst : (assignEach es X.env).findIdx? (·.1) = none := by rfl) : EG c X vs (.Tuple es k pos) (gTupF n gs) :=
  PG.imp (pg_tup hc h hn hst) fun v σ H Q ⟨ρ, h, s, y, ok, env, r, q⟩ => by
    unfold gTupF at q
    split at q
    · cases r with
      | tup g1 g2 =>
        split at q
        · rename_i hl
          exact ⟨_, _, rfl, g1, by rw [← g2.len]; exact hl, ρ, h, s, _, ok, env, g2, q⟩
        · exact q.elim
    · exact q.elim
/-! ### small statements -/
def sSeq (f g : Sg → M Out) : Sg → M Out := fun s => M.bind (f s) fun o => match o with
  | .nx s' => g s'
  | o => M.ret o
def sRet (fa : Sg → M D) : Sg → M Out := fun s => M.bind (fa s) fun x => M.ret (.rt x)
def sRetN : Sg → M Out := fun _ => M.ret (.rt .non)
def sExpr (fa : Sg → M D) : Sg → M Out := fun s => M.bind (fa s) fun _ => M.ret (.nx s)
def sSet (i : Nat) (fa : Sg → M D) : Sg → M Out := fun s => M.bind (fa s) fun x => M.ret (.nx (s.set i (some x)))
def sAsg (fa : Sg → M D) (g : D → Sg → M Sg) : Sg → M Out := fun s => M.bind (fa s) fun x => M.bind (g x s) fun s' => M.ret (.nx s')
def sIf (ft : Sg → M Bool) (f g : Sg → M Out) : Sg → M Out := fun s => M.bind (ft s) fun b => if b = true then f s else g s
def sNx : Sg → M Out := fun s => M.ret (.nx s)
def sBk : Sg → M Out := fun s => M.ret (.bk s)
def sCt : Sg → M Out := fun s => M.ret (.ct s)
def sBad : Sg → M Out := fun _ => M.bad
theorem tS_bad {K : PySem.W.Frag} {E σ H} (h : tS K c sBad E σ H) : False := by
  obtain ⟨ρ, h, s, ok, env, q⟩ := h
  exact q
theorem es_bad {st : Stmt} : ES c X st sBad := PS.imp ps_never fun E σ H h => tS_bad h
theorem ess_bad {sts : List Stmt} : ESs c X sts sBad := PSs.imp pss_never fun E σ H h => tS_bad h
theorem ess_nil : ESs c X [] sNx := PSs.imp pss_nil fun E σ H ⟨ρ, h, s, ok, env, q⟩ => q ρ H σ .refl ok env
theorem es_pass : ES c X (.Pass pos) sNx := PS.imp ps_pass fun E σ H ⟨ρ, h, s, ok, env, q⟩ => q ρ H σ .refl ok env
theorem es_break : ES c X (.Break pos) sBk := PS.imp ps_break fun E σ H ⟨ρ, h, s, ok, env, q⟩ => q ρ H σ .refl ok env
theorem es_continue : ES c X (.Continue pos) sCt := PS.imp ps_continue fun E σ H ⟨ρ, h, s, ok, env, q⟩ => q ρ H σ .refl ok env
theorem ess_one {st : Stmt} {f : Sg → M Out} (h : ES c X st f) : ESs c X [st] f := pss_one h
theorem ess_cons {st : Stmt} {sts : List Stmt} {f g : Sg → M Out} (h : ES c X st f) (h2 : ESs c X sts g) : ESs c X (st :: sts) (sSeq f g) := PSs.imp (pss_cons h h2) fun E σ H ⟨ρ, h, s, ok, env, q⟩ => by
  refine ⟨ρ, h, s, ok, env, (M.all_bind.mp q).mono fun ⟨o, h1⟩ q1 => ?_⟩
  cases o with
  | nx s1 => exact fun ρ1 H1 σ1 l1 ok1 env1 => ⟨ρ1, h1, s1, ok1, env1, Tr.All.le l1 q1 fun r q => q.le l1⟩
  | rt x => exact q1
  | bk s1 => exact q1
  | ct s1 => exact q1
theorem es_ret (h : EE c X e fa) : ES c X (.Return (some e) pos) (sRet fa) := PS.imp (ps_ret h) fun E σ H ⟨ρ, h, s, ok, env, q⟩ =>
  ⟨ρ, h, s, ok, env, (M.all_bind.mp q).mono fun ⟨o, h1⟩ q1 ρ1 H1 v l1 ok1 r1 => q1 ρ1 H1 v l1 ok1 r1⟩
theorem es_retN : ES c X (.Return none pos) sRetN := PS.imp ps_retN fun E σ H ⟨ρ, h, s, ok, env, q⟩ => q ρ H _ .refl ok .non
theorem es_expr (h : EE c X e fa) (hs : swapsWith e none pos.line X.env = pure false := by rfl) : ES c X (.Expr e pos) (sExpr fa) := PS.imp (ps_expr h hs) fun E σ H ⟨ρ, h, s, ok, env, q⟩ =>
  ⟨ρ, h, s, ok, env, (M.all_bind.mp q).mono fun ⟨o, h1⟩ q1 ρ1 H1 v l1 ok1 r1 => q1 ρ1 H1 σ l1 ok1 (env.le l1)⟩
theorem es_set {x : Str} (i : Nat) (hN : X.N.Nodup) (h : EE c X e fa) (hi : X.N[i]? = some x := by rfl) (hx : Loc X.env.scope x := by first | exact Or.inl rfl | exact Or.inr rfl) (hs : swapsWith e (some (.Name x p1)) pos.line X.env = pure false := by rfl) (hf : X.fn x = true ∨ X.env.scope.names.lookup x = some .local := by first | exact .inl rfl | exact .inr rfl) :
    ES c X (.Assign [.Name x p1] e pos) (sSet i fa) := PS.imp (ps_set hN hi hx h hs hf) fun E σ H ⟨ρ, h, s, ok, env, q⟩ =>
  ⟨ρ, h, s, ok, env, (M.all_bind.mp q).mono fun ⟨o, h1⟩ q1 ρ1 H1 v l1 ok1 r1 => q1 ρ1 H1 _ l1 ok1 ((env.le l1).set r1)⟩
theorem es_asg {tg : Expr} {g : D → Sg → M Sg} (vs : List Nat) (he : EE c X e fa) (hg : EG c X vs tg g) (hs : swapsWithSole [tg] e pos.line X.env = pure false := by rfl) (hw : swappedStores [tg] e X.env = pure none := by rfl)
    (h1 : (assignEach [tg] X.env).map (·.2) = [assign tg X.env] := by rfl) : ES c X (.Assign [tg] e pos) (sAsg fa g) := PS.imp (ps_asg he hg hs hw h1) fun E σ H ⟨ρ, h, s, ok, env, q⟩ =>
  ⟨ρ, h, s, ok, env, (M.all_bind.mp q).mono fun ⟨o, h1⟩ q1 ρ1 H1 v l1 ok1 r1 => ⟨ρ1, h1, s, o, ok1, env.le l1, r1, Tr.All.le l1 (M.all_bind.mp q1) fun ⟨s2, h2⟩ q2 ρ2 H2 σ2 l2 ok2 env2 _ => q2 ρ2 H2 σ2 (l1.trans l2) ok2 env2⟩⟩
theorem es_if {sa sb : List Stmt} {f g : Sg → M Out} (hc : ET c X e ft) (h1 : ESs c X sa f) (h2 : ESs c X sb g) : ES c X (.If e sa sb pos) (sIf ft f g) := PS.imp (ps_if hc h1 h2) fun E σ H ⟨ρ, h, s, ok, env, q⟩ => by
  refine ⟨ρ, h, s, ok, env, (M.all_bind.mp q).mono fun ⟨x, h1⟩ q1 ρ1 H1 l1 ok1 => ?_⟩
  dsimp only at q1 ⊢
  by_cases hx : x = true
  · rw [if_pos hx] at q1 ⊢
    exact ⟨ρ1, h1, s, ok1, env.le l1, Tr.All.le l1 q1 fun r q => q.le l1⟩
  · rw [if_neg hx] at q1 ⊢
    exact ⟨ρ1, h1, s, ok1, env.le l1, Tr.All.le l1 q1 fun r q => q.le l1⟩
/-- a, b = x, y -/
def sPar (i j : Nat) (fr : Sg → M (List D)) : Sg → M Out := fun s => M.bind (fr s) fun xs => match xs with
  | [x, y] => M.ret (.nx ((s.set i (some x)).set j (some y)))
  | _ => M.bad
theorem es_par {x y : Str} {kt k2 : Nat} {px py pt pt2 : Pos} (i j : Nat) (hN : X.N.Nodup) (hij : i ≠ j) (ha : EA c X [a, b] fr) (hi : X.N[i]? = some x := by rfl) (hj : X.N[j]? = some y := by rfl) (hx : X.env.scope.names.lookup x = some .local := by rfl) (hy : X.env.scope.names.lookup y = some .local := by rfl) (hc : X.calm = true := by rfl)
    (hw : swappedStores [.Tuple [.Name x px, .Name y py] kt pt] (.Tuple [a, b] k2 pt2) X.env = pure (some [x, y]) := by rfl) : ES c X (.Assign [.Tuple [.Name x px, .Name y py] kt pt] (.Tuple [a, b] k2 pt2) pos) (sPar i j fr) :=
  PS.imp (ps_par hc hN hi hj hij hx hy ha hw) fun E σ H ⟨ρ, h, s, ok, env, q⟩ => by
    refine ⟨ρ, h, s, ok, env, (M.all_bind.mp q).mono fun ⟨o, h1⟩ q1 ρ1 H1 v l1 ok1 r1 => ?_⟩
    rcases o with _ | ⟨x, _ | ⟨y, _ | _⟩⟩
    · exact q1.elim
    · exact q1.elim
    · obtain ⟨v, w, rfl, r2, r3⟩ := vs2 r1
      exact ⟨v, w, rfl, q1 ρ1 H1 _ l1 ok1 (((env.le l1).set r2).set r3)⟩
    · exact q1.elim
/-! name op= e -/
def oAug (p : D → D → M D) : D → D → M D := p
def sAug (i : Nat) (op : D → D → M D) (fa : Sg → M D) : Sg → M Out := fun s => match s[i]? with
  | some (some x) => M.bind (fa s) fun y => M.bind (op x y) fun z => M.ret (.nx (s.set i (some z)))
  | _ => M.bad
def oExt : D → D → M D := fun x y h => match x with
  | .loc a => match h[a]?, lstD h y with
    | some (.lst xs), some ys => if (xs ++ ys).length ≤ lim then .ret (.loc a, h.set a (.lst (xs ++ ys))) else .bad
    | _, _ => .bad
  | .int i => match y with
    | .int j => .ret (.int (i + j), h)
    | _ => .bad
  | _ => .bad
theorem op_ext {K : PySem.W.Frag} : Op2 K c (fun x y H Q => rExt2 x y H Q ∨ rI0 (fun i j => .int (i + j)) x y H Q) oExt := fun {ρ h H x y v w Q} ok r1 r2 q => by
  unfold oExt at q
  split at q
  · cases r1 with
    | loc h1 =>
      split at q
      · rename_i xs ys e1 e2
        split at q
        · rename_i hl
          obtain ⟨vs, g1, g2⟩ := ok.objs _ _ _ e1 h1
          obtain ⟨b, ws, rfl, g3, g4⟩ := lstD_ok ok r2 e2
          refine .inl ⟨_, _, _, _, rfl, rfl, g1, g3, ?_, ?_⟩
          · rw [← g2.len, ← g4.len, ← List.length_append]; exact Nat.le_of_lt (lim_line hl)
          · obtain ⟨l, ok1⟩ := ok.put (u := .lst (vs ++ ws)) (o := .lst (xs ++ ys)) e1 (by simp) h1 fun H1 l e => ⟨_, e, (g2.le l).append (g4.le l)⟩
            exact q _ _ _ l ok1 (.loc h1)
        · exact q.elim
      · exact q.elim
  · cases r1
    split at q
    · cases r2
      exact .inr ⟨_, _, rfl, rfl, q _ _ _ .refl ok (.int _)⟩
    · exact q.elim
  · exact q.elim
theorem es_aug {x : Str} {op : Operator} {ti : R2} {g : D → D → M D} (i : Nat) (hN : X.N.Nodup) (ho : PIp X op ti) (hs : Op2 X.K c ti g) (he : EE c X e fa) (hi : X.N[i]? = some x := by rfl) (hx : Loc X.env.scope x := by first | exact Or.inl rfl | exact Or.inr rfl) (hf : X.fn x = true ∨ X.env.scope.names.lookup x = some .local := by first | exact .inl rfl | exact .inr rfl) :
    ES c X (.AugAssign (.Name x p1) op e pos) (sAug i g fa) := PS.imp (ps_aug hN hi hx he ho hf) fun E σ H ⟨ρ, h, s, ok, env, q⟩ => by
  unfold sAug at q
  rcases hy : s[i]? with _ | _ | y
  · rw [hy] at q
    exact q.elim
  · rw [hy] at q
    exact q.elim
  · rw [hy] at q
    replace q : (M.bind (fa s) (fun y' => M.bind (g y y') fun z => M.ret (.nx (s.set i (some z)))) h).All (PD X.K c ρ H E) (PX X.K c ρ H) := q
    obtain ⟨v, e1, r0⟩ := env.2 i y hy
    refine ⟨v, e1, ρ, h, s, ok, env, (M.all_bind.mp q).mono fun ⟨o, h1⟩ q1 ρ1 H1 w l1 ok1 r1 => ?_⟩
    refine hs ok1 (r0.le l1) r1 (Tr.All.le l1 (M.all_bind.mp q1) fun ⟨z, h2⟩ q2 ρ2 H2 u l2 ok2 r2 => ?_)
    exact q2 ρ2 H2 _ (l1.trans l2) ok2 ((env.le (l1.trans l2)).set r2)
theorem ip_ext : PIp X .Add (fun x y H Q => rExt2 x y H Q ∨ rI0 (fun i j => .int (i + j)) x y H Q) := fun pins s σ H x y v u Q I r1 r2 q => by
  rcases q with q | q
  · exact iop_ext pins s σ H x y v u Q I r1 r2 q
  · exact iop_add pins s σ H x y v u Q I r1 r2 q
/-! o.f = e, at the end of the attributes -/
/-- a new field behind the others, or another value of one that is there -/
def putN (fs : List D) (i : Nat) (y : D) : Option (List D) := if i < fs.length then some (fs.set i y) else if i = fs.length then some (fs ++ [y]) else none
def sFldF (k i : Nat) (fo fv : Sg → M D) : Sg → M Out := fun s => M.bind (fv s) fun y => M.bind (fo s) fun x h => match x with
  | .loc n => match h[n]? with
    | some (.ins j fs) => if j = k then match putN fs i y with
        | some gs => .ret (.nx s, h.set n (.ins j gs))
        | none => .bad
      else .bad
    | _ => .bad
  | _ => .bad
theorem putF_zip {f : Str} {v : V} : ∀ {ns : List Str} {vs : List V}, ns.Nodup → ns[vs.length]? = some f → putF f v ((ns.take vs.length).zip vs) = (ns.take (vs.length + 1)).zip (vs ++ [v])
  | [], _, _, e => by simp at e
  | n :: ns, [], nd, e => by
    simp at e
    subst e
    simp [putF]
  | n :: ns, w :: vs, nd, e => by
    simp only [List.length_cons, List.getElem?_cons_succ] at e
    have hne : n ≠ f := fun z => by
      subst z
      exact (List.nodup_cons.mp nd).1 (List.mem_of_getElem? e)
    have ih := putF_zip (f := f) (v := v) (List.nodup_cons.mp nd).2 e
    simp only [List.length_cons, List.take_succ_cons, List.zip_cons_cons, putF, if_neg hne, List.cons_append, ih]
theorem putF_set {f : Str} {v : V} : ∀ {ns : List Str} {vs : List V} {i : Nat}, ns.Nodup → ns[i]? = some f → i < vs.length → putF f v ((ns.take vs.length).zip vs) = (ns.take vs.length).zip (vs.set i v)
  | [], _, _, _, e, _ => by simp at e
  | _ :: _, [], _, _, _, h => by simp at h
  | n :: ns, w :: vs, 0, _, e, _ => by
    simp at e
    subst e
    simp [putF]
  | n :: ns, w :: vs, i + 1, nd, e, h => by
    simp only [List.getElem?_cons_succ] at e
    have hne : n ≠ f := fun z => by
      subst z
      exact (List.nodup_cons.mp nd).1 (List.mem_of_getElem? e)
    have ih := putF_set (f := f) (v := v) (List.nodup_cons.mp nd).2 e (by simpa using h)
    simp only [List.length_cons, List.take_succ_cons, List.zip_cons_cons, putF, if_neg hne, List.set_cons_succ, ih]
theorem es_fld {o : Expr} {fld : Str} {fo fv : Sg → M D} (k i : Nat) (F : Facts X.K c) (hf : (c.cF k)[i]? = some fld) (na : NoAttr X.K (c.cA k) fld) (ho : EE c X o fo) (hv : EE c X e fv) (hs : swapsWith e (some (.Attribute o fld p1)) pos.line X.env = pure false := by rfl) :
    ES c X (.Assign [.Attribute o fld p1] e pos) (sFldF k i fo fv) := PS.imp (ps_fld ho hv hs) fun E σ H ⟨ρ, h, s, ok, env, q⟩ => by
  refine ⟨ρ, h, s, ok, env, (M.all_bind.mp q).mono fun ⟨y, h1⟩ q1 ρ1 H1 w l1 ok1 r1 => ?_⟩
  refine ⟨ρ1, h1, s, ok1, env.le l1, Tr.All.le l1 (M.all_bind.mp q1) fun ⟨x, h2⟩ q2 ρ2 H2 u l2 ok2 r2 => ?_⟩
  dsimp only at q2
  split at q2
  · cases r2 with
    | loc g1 =>
      split at q2
      · rename_i n j fs hy
        split at q2
        · rename_i hj
          subst hj
          split at q2
          · rename_i gs hg
            obtain ⟨dx, vs, e1, ⟨e2, hk⟩, e3⟩ := ok2.objs _ _ _ hy g1
            have el := e3.len
            have fin : ∀ ws, RVs X.K c H2 ρ2 gs ws → (gs.length ≤ (c.cF j).length) → putF fld w (((c.cF j).take fs.length).zip vs) = ((c.cF j).take gs.length).zip ws → E.nx σ (upd H2 _ (.ins (c.cA j) dx (putF fld w (((c.cF j).take fs.length).zip vs)))) := fun ws rw_ hl hp => by
              obtain ⟨l, ok3⟩ := ok2.put (u := .ins (c.cA j) dx (((c.cF j).take gs.length).zip ws)) (o := .ins j gs) hy (by simp) g1 fun H1 l e => ⟨dx, ws, e, ⟨hl, hk⟩, rw_.le l⟩
              rw [hp]
              exact q2 _ _ _ (l1.trans (l2.trans l)) ok3 (env.le (l1.trans (l2.trans l)))
            refine ⟨_, _, dx, _, rfl, e1, (F.cls _ hk).cl, na, ?_, ?_⟩
            · rw [List.length_zip, List.length_take]
              have := F.few _ hk
              omega
            · unfold putN at hg
              split at hg
              · rename_i hi
                cases hg
                refine fin (vs.set i w) (e3.set (r1.le l2) i) (by rw [List.length_set]; exact e2) ?_
                rw [List.length_set, el]
                exact putF_set (F.nd _ hk) hf (by rw [← el]; exact hi)
              · split at hg
                · rename_i hi
                  cases hg
                  subst hi
                  rw [el] at hf
                  refine fin (vs ++ [w]) (e3.append (.cons (r1.le l2) .nil)) ?_ ?_
                  · rw [List.length_append, el]
                    have := (List.getElem?_eq_some_iff.mp hf).1
                    exact this
                  · rw [List.length_append, el]
                    exact putF_zip (F.nd _ hk) hf
                · cases hg
          · exact q2.elim
        · exact q2.elim
      · exact q2.elim
  · exact q2.elim
end
end Ev

/-! enumerate over a list or a tuple; a list or a tuple walked, whichever it is. -/
namespace Ev
open PySem PySem.Spec PyProof.Rows L2 Dr
theorem meets_enum1 {v : Value} {ob : Obj} {G : Heap → Prop} (begins : Begins v ob G) :
    Meets (Builtin.«enumerate.__new__» ⟨[.type "enumerate", v], []⟩) (fun _ R z => G z.heap ∧
      R (.ok (.ret (.ref (z.heap.push ob).objs.size)))
        { z with heap := (z.heap.push ob).push { cls := .type "enumerate", data := .fields #[.none, .bool false, .ref z.heap.objs.size, rawInt 0, .none, .none] } }) := by
  apply Meets.of_wp
  intro prog w A R z asked
  obtain ⟨heap, gens, dr, tk, os⟩ := z
  obtain ⟨stands, asked⟩ := asked
  have subt := sub_enumerate
  have first : ∀ {B : Around} {E R' : Value → Shared → Prop}, R' (.ref heap.objs.size) ⟨heap.push ob, gens, dr, tk, os⟩ →
      wpAny (model prog w) B (pyIter v) R' E ⟨heap, gens, dr, tk, os⟩ := by
    intro B E R' q
    exact begins.iter prog w B E ⟨heap, gens, dr, tk, os⟩ R' stands q
  wp_walk using first
  refine wpAny_stack_any (fun _ => wpAny_pure ?_)
  split
  · next cl _ _ _ _ _ =>
    cases (cl == Value.type "enumerate") <;>
      (wp_walk using first
       exact ⟨_, rfl, asked⟩)
  · wp_walk using first
    exact ⟨_, rfl, asked⟩
theorem call_enum1 {prog : Program} {w : World} {A : Around} {E : Value → Shared → Prop} {z : Shared} {v : Value} {ob : Obj} {G : Heap → Prop} {R : Value → Shared → Prop}
    (begins : Begins v ob G) (stands : G z.heap)
    (after : ∀ g, IsEnum g (z.heap.objs.size + 1) z.heap.objs.size 0 .none → g.get? z.heap.objs.size = some ob → g.objs.size = z.heap.objs.size + 2 →
      (∀ b u, z.heap.get? b = some u → g.get? b = some u) → R (.ref (z.heap.objs.size + 1)) { z with heap := g }) :
    wpAny (model prog w) A (call (.type "enumerate") [v]) R E z := by
  apply callType_new F.called_enumerate (by decide) (F.typeCall_enumerate_1 _) (F.newCall_enumerate_1 _) (fun o => F.args_object_init_2 o _)
    F.entry_enumerate_new (meets_enum1 begins)
  refine ⟨stands, ?_⟩
  have len : (z.heap.push ob).objs.size = z.heap.objs.size + 1 := Heap.size_push ..
  show _ ∧ _
  rw [len]
  have made : IsEnum ((z.heap.push ob).push { cls := .type "enumerate", data := .fields #[.none, .bool false, .ref z.heap.objs.size, rawInt 0, .none, .none] })
      (z.heap.objs.size + 1) z.heap.objs.size 0 .none := by
    have q := Heap.get?_push_size (z.heap.push ob)
      (o := { cls := .type "enumerate", data := .fields #[.none, .bool false, .ref z.heap.objs.size, rawInt 0, .none, .none] }) rfl
    rwa [len] at q
  refine ⟨⟨_, made, rfl⟩, after _ made ?_ ?_ ?_⟩
  · exact Heap.get?_push_of_some _ (Heap.get?_push_size _ begins.free)
  · rw [Heap.size_push, len]
  · exact fun b u q => Heap.get?_push_of_some _ (Heap.get?_push_of_some _ q)
/-- the tuple at a, each item in a new pair -/
def ItEnT (K : PySem.W.Frag) (a : Addr) : It where
  go := fun i G => ∃ (xs : List V) (x : V), SqT K G a xs ∧ xs[i]? = some x
  yld := fun i G v G' => ∃ T x, v = .ref T ∧ G T = none ∧ G' = upd G T (.tup [.int (i : Nat), x]) ∧ ∀ xs, SqT K G a xs → xs[i]? = some x
  stop := fun i G => ∃ xs : List V, SqT K G a xs ∧ xs.length ≤ i
theorem turn_enT {P : Program} {w : World} {K : PySem.W.Frag} {elts : List Expr} {kk : Nat} {tpos : Pos} (a e it : Addr) :
    Turn P w K (.Tuple elts kk tpos) (ItEnT K a) [e, it] e (fun i h => (∃ was, IsEnum h e it ((i : Nat) : Int) was) ∧ h.IsTupleIter it a i ∧ e ≠ it) := by
  refine ⟨by simp, ?_, ?_, ?_, ?_, ?_⟩
  · rintro i h ⟨⟨was, he⟩, ⟨o, ho, hc, hd⟩, _⟩ b hb
    rcases List.mem_cons.mp hb with rfl | hb
    · exact ⟨_, he, fun v q => nomatch q⟩
    · obtain rfl := List.mem_singleton.mp hb
      exact ⟨o, ho, fun v q => by rw [hd] at q; cases q⟩
  · rintro i h h' ⟨⟨was, he⟩, hi, ne⟩ k
    exact ⟨⟨was, k e (by simp) _ he⟩, hi.at (fun o q => k it (by simp) o q), ne⟩
  · rintro X rfl rfl rfl calm i pins s σ G E I own ⟨⟨was, he⟩, hit, ne⟩ ⟨xs, x, hq, hx⟩
    obtain ⟨its, rv, tup, _⟩ := I.tuple hq
    have tup' : s.heap.IsTuple a its.toArray := tup
    obtain ⟨u, hu, ru⟩ := rv.get hx
    have el : e < s.heap.objs.size := Heap.lt_size he
    have il : it < s.heap.objs.size := by
      obtain ⟨_, q, _⟩ := hit
      exact Heap.lt_size q
    have ai : a ≠ it := by
      rintro rfl
      obtain ⟨o1, q1, c1, _⟩ := tup
      obtain ⟨o2, q2, c2, _⟩ := hit
      rw [q1] at q2
      cases q2
      rw [c1] at c2
      simp at c2
    have ea : e ≠ a := by
      rintro rfl
      obtain ⟨o1, q1, c1, _⟩ := tup
      have q2 : s.heap.get? e = some _ := he
      rw [q1] at q2
      cases q2
      simp at c1
    have small : i < its.toArray.size := by
      have := (List.getElem?_eq_some_iff.mp hu).1
      simpa using this
    refine wpAny_pyNext_enum_itemD (Draws.tuple (prog := X.prog) (w := X.w) (A := X.A.in1) (I.ok.hd calm) it a ai its.toArray) he ⟨hit, tup'⟩ small ne (by simp [ne, ea]) ?_
    intro y h1 tk hy out st hT _ others
    have yu : y = u := by
      have q : its.toArray[i]? = some u := by simpa using hu
      rw [q] at hy
      exact (Option.some.inj hy).symm
    subst yu
    refine ⟨_, rfl, wpAny_letOwnedTupleGo_enum (s := { s with heap := h1, toks := tk + 1 }) out ?_⟩
    intro h2 again but
    have far : ∀ b, b < s.heap.objs.size → s.heap.objs.size ≠ b := fun b hb => Nat.ne_of_gt hb
    have pair : h2.get? s.heap.objs.size = some { cls := .type "tuple", data := .seq #[.int i tk, y] } := (but.2 _ (far e el)).trans hT
    have laid : ObjOk X.prog X.w (upd G s.heap.objs.size (.tup [.int (i : Nat), x])) h2 s.heap.objs.size (.tup [.int (i : Nat), x]) := by
      refine ⟨by show 2 ≤ sizeLine; decide, [.int i tk, y], .cons ⟨_, rfl⟩ (.cons ru .nil), ⟨_, pair, rfl, _, rfl⟩⟩
    have later : Inv X pins σ (upd G s.heap.objs.size (.tup [.int (i : Nat), x])) { s with heap := h2, toks := tk + 1 } := by
      refine I.turnedNew (ch := [e, it]) ?_ own (Nat.le_refl _) laid
      intro b ob hb q
      have b1 : b ≠ e := fun z => hb (by simp [z])
      have b2 : b ≠ it := fun z => hb (by simp [z])
      exact (but.2 b b1).trans (others b ob b1 b2 q)
    refine ⟨.ref s.heap.objs.size, _, later, rfl, ⟨_, x, rfl, I.hok.fresh (Nat.le_refl _), rfl, ?_⟩, ⟨⟨y, ?_⟩, ?_, ne⟩, ?_⟩
    · intro ys hys
      rw [I.tuple_inj hys hq]
      exact hx
    · have e1 : ((i + 1 : Nat) : Int) = (i : Int) + 1 := by omega
      rw [e1]
      exact again
    · exact st.1.at (fun o q => (but.2 it (Ne.symm ne)).trans q)
    · intro b hb
      have bl : b < s.heap.objs.size := by
        rcases List.mem_cons.mp hb with rfl | hb
        · exact el
        · obtain rfl := List.mem_singleton.mp hb
          exact il
      rw [upd_ne (Nat.ne_of_lt bl)]
      exact (own b hb).1
  · rintro X rfl rfl rfl calm i pins s σ G E I own ⟨⟨was, he⟩, hit, ne⟩ ⟨xs, hq, few⟩
    obtain ⟨its, rv, tup, _⟩ := I.tuple hq
    have tup' : s.heap.IsTuple a its.toArray := tup
    have len := rv.length
    have ai : a ≠ it := by
      rintro rfl
      obtain ⟨o1, q1, c1, _⟩ := tup
      obtain ⟨o2, q2, c2, _⟩ := hit
      rw [q1] at q2
      cases q2
      rw [c1] at c2
      simp at c2
    have hT : s.TypeIs (.ref e) "enumerate" := ⟨_, he, rfl⟩
    unfold pyNext
    refine wpAny_bind (wpAny_attempt (wpAny_callSpecial?_slot (name := Str.ofString "__next__") hT F.slot_enumerate_next
      (wpAny_call_entry F.slot_enumerate_next hT F.entry_enumerate_next ?_ (F.args_enumerate_next_1 _))))
    show wpAny _ _ (field (.ref e) 2 >>= _) _ _ _
    refine wpAny_bind (wpAny_field he rfl (x := .ref it) rfl ?_)
    have past : its.toArray[i]? = none := by
      simp
      omega
    refine wpAny_bind (wpAny_nextOf_tuple_end (I.ok.hd calm) hit tup' past ?_)
    intro h1 ex but sto
    obtain ⟨o, ho, hc⟩ := sto
    refine wpAny_bind (wpAny_isInstance (T := "StopIteration") (b := true) ⟨o, ho, hc⟩ isSubtype_stop ?_)
    obtain ⟨f0, f1, f2, f3, f4, f5⟩ := own it (by simp)
    exact wpAny_pure ⟨rfl, I.turned (t' := s.toks) (fun b ob hb q => but b ob hb q) f0 f1 f3 f4 f5⟩
  · rintro A i s R E ⟨⟨_, he⟩, _, _⟩ h
    exact wpAny_pyIter_enum he h
end Ev

/-! Loops and comprehensions. -/
namespace Ev
open PySem PySem.Spec PyProof.Rows L2 Dr
variable {c : Ct}
/-! ### what is walked -/
structure Src where
  fuel : Nat
  get : Nat → List O → Option (Option D)
/-- the iterator yields what the source says; more may be hidden by then -/
def Feed (K : PySem.W.Frag) (c : Ct) (J : It) (g : Nat → List O → Option (Option D)) (ρ0 : Sto) (H0 : Hp) : Prop :=
  ∀ hid E ρ h H i, (∀ b, b ∈ hid → b ∈ c.hid ∨ H0 b = none) → Le c ρ0 H0 ρ H → Ok K (c.at hid E) ρ h H →
    (g i h = some none → J.stop i H) ∧
    ∀ x, g i h = some (some x) → J.go i H ∧ ∀ v H', J.yld i H v H' → Le c ρ H ρ H' ∧ Ok K (c.at hid E) ρ h H' ∧ RV K (c.at hid E) H' ρ x v
theorem Le.hide {hid : List Addr} {E : XK} {ρ ρ' : Sto} {H H' : Hp} (l : Le c ρ H ρ' H') : Le (c.at hid E) ρ H ρ' H' := ⟨l.pre, l.new, l.fr, l.tups, l.frzs, l.kept⟩
theorem Le.show_ {hid : List Addr} {E : XK} {ρ ρ' : Sto} {H H' : Hp} (l : Le (c.at hid E) ρ H ρ' H') : Le c ρ H ρ' H' := ⟨l.pre, l.new, l.fr, l.tups, l.frzs, l.kept⟩
/-- what is hidden since was not there -/
theorem mv_hide {K : PySem.W.Frag} {hid : List Addr} {E : XK} {ρ0 ρ : Sto} {H0 H : Hp} (l : Le c ρ0 H0 ρ H) (hh : ∀ b, b ∈ hid → b ∈ c.hid ∨ H0 b = none) : Mv K c (c.at hid E) H0 ρ0 H ρ := ⟨fun _ _ h => l.rd h, fun a u e o => by
  obtain ⟨e1, o1⟩ := l.off e o
  exact ⟨e1, o1.st, fun z => (hh a z).elim o1.hd fun n => absurd (n.symm.trans e) (by simp), o1.dw⟩, rfl, rfl, rfl, rfl, rfl, rfl, rfl, rfl, rfl⟩
theorem RVs.hide {K : PySem.W.Frag} {hid : List Addr} {E : XK} {ρ0 ρ : Sto} {H0 H : Hp} (l : Le c ρ0 H0 ρ H) (hh : ∀ b, b ∈ hid → b ∈ c.hid ∨ H0 b = none) {xs : List D} {vs : List V} (r : RVs K c H0 ρ0 xs vs) : RVs K (c.at hid E) H ρ xs vs := RVs.mv (mv_hide l hh) xs vs (.inr fun _ _ => pre_get l.pre) r
theorem RV.hide {K : PySem.W.Frag} {hid : List Addr} {E : XK} {ρ0 ρ : Sto} {H0 H : Hp} (l : Le c ρ0 H0 ρ H) (hh : ∀ b, b ∈ hid → b ∈ c.hid ∨ H0 b = none) {x : D} {v : V} (r : RV K c H0 ρ0 x v) : RV K (c.at hid E) H ρ x v := RV.mv (mv_hide l hh) x v (.inr fun _ _ => pre_get l.pre) r
def tI (K : PySem.W.Frag) (c : Ct) (f : Sg → M Src) : TI := fun σ H R => ∃ ρ h s, Ok K c ρ h H ∧ Env K c H ρ s σ ∧
  (f s h).All (fun r => ∀ ρ' H', Le c ρ H ρ' H' → Ok K c ρ' r.2 H' → ∀ J, Feed K c J r.1.get ρ' H' → R J H') (PX K c ρ H)
abbrev EI (c : Ct) (X : Cx) (tg e : Expr) (f : Sg → M Src) : Prop := PI X tg e (tI X.K c f)
theorem PI.imp {X : Cx} {tg e : Expr} {t t' : TI} (h : PI X tg e t) (i : ∀ σ H R, t' σ H R → t σ H R) : PI X tg e t' := ⟨fun pins s σ H Q I q => h.run pins s σ H Q I (i _ _ _ q)⟩
def getT (f : Nat → D → D) (xs : List D) : Nat → List O → Option (Option D) := fun i _ => some (match xs[i]? with
  | some x => some (f i x)
  | none => none)
def getL (f : Nat → D → D) (n : Nat) : Nat → List O → Option (Option D) := fun i h => match h[n]? with
  | some (.lst xs) => some (match xs[i]? with
    | some x => some (f i x)
    | none => none)
  | _ => none
def srcV (f : Nat → D → D) : D → M Src := fun x h => match x with
  | .tup xs => .ret (⟨xs.length, getT f xs⟩, h)
  | .lst xs => .ret (⟨xs.length, getT f xs⟩, h)
  | .loc n => match h[n]? with
    | some (.lst xs) => .ret (⟨xs.length, getL f n⟩, h)
    | _ => .bad
  | _ => .bad
def fSrc (f : Nat → D → D) (fa : Sg → M D) : Sg → M Src := fun s => M.bind (fa s) (srcV f)
def noF : Nat → D → D := fun _ x => x
def enF : Nat → D → D := fun i x => .tup [.int (i : Nat), x]
section
variable {K : PySem.W.Frag} {ρ : Sto} {H : Hp} {h : List O}
theorem feed_tup {a : Addr} {xs : List D} {vs : List V} (g1 : SqT K H a vs) (g2 : RVs K c H ρ xs vs) : Feed K c (Itt K a) (getT noF xs) ρ H := fun hid E ρ1 h1 H1 i hh l ok => by
  have s1 := l.rd g1
  have s2 : RVs K (c.at hid E) H1 ρ1 xs vs := g2.hide l hh
  refine ⟨fun e => ?_, fun x e => ?_⟩
  · unfold getT at e
    cases q : xs[i]? with
    | some y => rw [q] at e; cases e
    | none =>
      refine ⟨vs, s1, ?_⟩
      rw [← s2.len]
      exact List.getElem?_eq_none_iff.mp q
  · unfold getT at e
    cases q : xs[i]? with
    | none => rw [q] at e; cases e
    | some y =>
      rw [q] at e
      cases e
      obtain ⟨v, q1, q2⟩ := s2.get q
      refine ⟨⟨vs, v, s1, q1⟩, fun w H' yl => ?_⟩
      obtain ⟨rfl, yl⟩ := yl
      have := yl vs s1
      rw [q1] at this
      cases this
      exact ⟨.refl, ok, q2⟩
theorem feed_fz {a : Addr} {xs : List D} {vs : List V} (g1 : H a = some (.lst vs)) (o : Off c ρ a) (g2 : RVs K c H ρ xs vs) : Feed K c (Itl K a) (getT noF xs) ρ H := fun hid E ρ1 h1 H1 i hh l ok => by
  have s1 : SqL K H1 a vs := SqL.of (l.off g1 o).1
  have s2 : RVs K (c.at hid E) H1 ρ1 xs vs := g2.hide l hh
  refine ⟨fun e => ?_, fun x e => ?_⟩
  · unfold getT at e
    cases q : xs[i]? with
    | some y => rw [q] at e; cases e
    | none =>
      refine ⟨vs, s1, ?_⟩
      rw [← s2.len]
      exact List.getElem?_eq_none_iff.mp q
  · unfold getT at e
    cases q : xs[i]? with
    | none => rw [q] at e; cases e
    | some y =>
      rw [q] at e
      cases e
      obtain ⟨v, q1, q2⟩ := s2.get q
      refine ⟨⟨vs, v, s1, q1⟩, fun w H' yl => ?_⟩
      obtain ⟨rfl, yl⟩ := yl
      have := yl vs s1
      rw [q1] at this
      cases this
      exact ⟨.refl, ok, q2⟩
theorem feed_enF {a : Addr} {xs : List D} {vs : List V} (g1 : H a = some (.lst vs)) (o : Off c ρ a) (g2 : RVs K c H ρ xs vs) : Feed K c (Ite K a) (getT enF xs) ρ H := fun hid E ρ1 h1 H1 i hh l ok => by
  have s1 : SqL K H1 a vs := SqL.of (l.off g1 o).1
  have s2 : RVs K (c.at hid E) H1 ρ1 xs vs := g2.hide l hh
  refine ⟨fun e => ?_, fun x e => ?_⟩
  · unfold getT at e
    cases q : xs[i]? with
    | some y => rw [q] at e; cases e
    | none =>
      refine ⟨vs, s1, ?_⟩
      rw [← s2.len]
      exact List.getElem?_eq_none_iff.mp q
  · unfold getT at e
    cases q : xs[i]? with
    | none => rw [q] at e; cases e
    | some y =>
      rw [q] at e
      cases e
      obtain ⟨v, q1, q2⟩ := s2.get q
      refine ⟨⟨vs, v, s1, q1⟩, fun w H' yl => ?_⟩
      obtain ⟨T, z, rfl, nT, rfl, yl⟩ := yl
      have := yl vs s1
      rw [q1] at this
      cases this
      obtain ⟨l2, ok2⟩ := ok.other (o := .tup [.int (i : Nat), v]) nT
      exact ⟨l2.show_, ok2, .tup (SqT.of upd_same) (.cons (.int _) (.cons (q2.le l2) .nil))⟩
theorem feed_lst {a : Addr} {n : Nat} (g1 : ρ.a[n]? = some a) : Feed K c (Itl K a) (getL noF n) ρ H := fun hid E ρ1 h1 H1 i hh l ok => by
  have a1 := pre_get l.pre g1
  refine ⟨fun e => ?_, fun x e => ?_⟩
  · unfold getL at e
    split at e
    · rename_i xs hx
      obtain ⟨vs, e1, e2⟩ := ok.objs _ _ _ hx a1
      cases q : xs[i]? with
      | some y => rw [q] at e; cases e
      | none =>
        refine ⟨vs, SqL.of e1, ?_⟩
        rw [← e2.len]
        exact List.getElem?_eq_none_iff.mp q
    · cases e
  · unfold getL at e
    split at e
    · rename_i xs hx
      obtain ⟨vs, e1, e2⟩ := ok.objs _ _ _ hx a1
      cases q : xs[i]? with
      | none => rw [q] at e; cases e
      | some y =>
        rw [q] at e
        cases e
        obtain ⟨v, q1, q2⟩ := e2.get q
        refine ⟨⟨vs, v, SqL.of e1, q1⟩, fun w H' yl => ?_⟩
        obtain ⟨rfl, yl⟩ := yl
        have := yl vs (SqL.of e1)
        rw [q1] at this
        cases this
        exact ⟨.refl, ok, q2⟩
    · cases e
theorem feed_enT {a : Addr} {xs : List D} {vs : List V} (g1 : SqT K H a vs) (g2 : RVs K c H ρ xs vs) : Feed K c (ItEnT K a) (getT enF xs) ρ H := fun hid E ρ1 h1 H1 i hh l ok => by
  have s1 := l.rd g1
  have s2 : RVs K (c.at hid E) H1 ρ1 xs vs := g2.hide l hh
  refine ⟨fun e => ?_, fun x e => ?_⟩
  · unfold getT at e
    cases q : xs[i]? with
    | some y => rw [q] at e; cases e
    | none =>
      refine ⟨vs, s1, ?_⟩
      rw [← s2.len]
      exact List.getElem?_eq_none_iff.mp q
  · unfold getT at e
    cases q : xs[i]? with
    | none => rw [q] at e; cases e
    | some y =>
      rw [q] at e
      cases e
      obtain ⟨v, q1, q2⟩ := s2.get q
      refine ⟨⟨vs, v, s1, q1⟩, fun w H' yl => ?_⟩
      obtain ⟨T, z, rfl, nT, rfl, yl⟩ := yl
      have := yl vs s1
      rw [q1] at this
      cases this
      obtain ⟨l2, ok2⟩ := ok.other (o := .tup [.int (i : Nat), v]) nT
      exact ⟨l2.show_, ok2, .tup (SqT.of upd_same) (.cons (.int _) (.cons (q2.le l2) .nil))⟩
theorem feed_enL {a : Addr} {n : Nat} (g1 : ρ.a[n]? = some a) : Feed K c (Ite K a) (getL enF n) ρ H := fun hid E ρ1 h1 H1 i hh l ok => by
  have a1 := pre_get l.pre g1
  refine ⟨fun e => ?_, fun x e => ?_⟩
  · unfold getL at e
    split at e
    · rename_i xs hx
      obtain ⟨vs, e1, e2⟩ := ok.objs _ _ _ hx a1
      cases q : xs[i]? with
      | some y => rw [q] at e; cases e
      | none =>
        refine ⟨vs, SqL.of e1, ?_⟩
        rw [← e2.len]
        exact List.getElem?_eq_none_iff.mp q
    · cases e
  · unfold getL at e
    split at e
    · rename_i xs hx
      obtain ⟨vs, e1, e2⟩ := ok.objs _ _ _ hx a1
      cases q : xs[i]? with
      | none => rw [q] at e; cases e
      | some y =>
        rw [q] at e
        cases e
        obtain ⟨v, q1, q2⟩ := e2.get q
        refine ⟨⟨vs, v, SqL.of e1, q1⟩, fun w H' yl => ?_⟩
        obtain ⟨T, z, rfl, nT, rfl, yl⟩ := yl
        have := yl vs (SqL.of e1)
        rw [q1] at this
        cases this
        obtain ⟨l2, ok2⟩ := ok.other (o := .tup [.int (i : Nat), v]) nT
        exact ⟨l2.show_, ok2, .tup (SqT.of upd_same) (.cons (.int _) (.cons (q2.le l2) .nil))⟩
    · cases e
def getR (lo : Int) (n : Nat) : Nat → List O → Option (Option D) := fun i _ => some (if i < n then some (.int (lo + i)) else none)
theorem feed_rng {lo : Int} {n : Nat} : Feed K c (Itr lo n) (getR lo n) ρ H := fun hid E ρ1 h1 H1 i hh l ok => by
  unfold getR
  refine ⟨fun e => ?_, fun x e => ?_⟩
  · by_cases q : i < n
    · rw [if_pos q] at e; cases e
    · exact Nat.le_of_not_lt q
  · by_cases q : i < n
    · rw [if_pos q] at e
      cases e
      refine ⟨q, fun w H' yl => ?_⟩
      obtain ⟨rfl, rfl⟩ := yl
      exact ⟨.refl, ok, .int _⟩
    · rw [if_neg q] at e; cases e
end
section
variable {X : Cx} {tg e a b d : Expr} {es : List Expr} {fa fb : Sg → M D} {ft fu : Sg → M Bool} {fr : Sg → M (List D)} {pos p p1 : Pos}
/-- a list or a tuple -/
def iSeq (K : PySem.W.Frag) (tl : TE) : TI := fun σ H R => tl σ H fun x H1 => ∃ a, x = .ref a ∧ (((∃ xs, SqL K H1 a xs) ∧ R (Itl K a) H1) ∨ ((∃ xs, SqT K H1 a xs) ∧ R (Itt K a) H1))
theorem pi_seq {tl : TE} (he : PE X e tl) : PI X tg e (iSeq X.K tl) := by
  constructor
  intro pins z σ G R I asks
  apply thn (he.run pins z σ G _ I asks)
  rintro u z1 ⟨x, G1, I1, ru, q⟩
  obtain ⟨a, rfl, q⟩ := q
  obtain rfl : u = Value.ref a := ru
  have fresh : ∀ b ∈ [z1.heap.objs.size], FpOk X pins G1 b := by
    intro b hb
    obtain rfl := List.mem_singleton.mp hb
    exact I1.fpOk (Nat.le_refl _) (I1.hok.fresh (Nat.le_refl _))
  rcases q with ⟨⟨xs, hq⟩, q⟩ | ⟨⟨xs, hq⟩, q⟩
  · obtain ⟨its, _, pl, _⟩ := I1.list hq
    apply wpAny_pyIter_list pl.isList
    refine ⟨_, _, _, _, G1, rfl, I1.kept (t' := z1.toks) ?_, turn_list a _, ⟨_, Heap.get?_push_size _ rfl, rfl, rfl⟩, fresh, q⟩
    exact fun b u q => Heap.get?_push_of_some _ q
  · obtain ⟨its, _, tu, _⟩ := I1.tuple hq
    have tu : z1.heap.IsTuple a its.toArray := tu
    apply wpAny_pyIter_tuple tu
    refine ⟨_, _, _, _, G1, rfl, I1.kept (t' := z1.toks) ?_, turn_tuple a _, ⟨_, Heap.get?_push_size _ rfl, rfl, rfl⟩, fresh, q⟩
    exact fun b u q => Heap.get?_push_of_some _ q
theorem ei_seq (he : EE c X e fa) : EI c X tg e (fSrc noF fa) := PI.imp (pi_seq he) fun σ H R ⟨ρ, h, s, ok, env, q⟩ => by
  refine ⟨ρ, h, s, ok, env, (M.all_bind.mp q).mono fun ⟨x, h1⟩ q1 ρ1 H1 v l1 ok1 r1 => ?_⟩
  dsimp only [srcV] at q1
  split at q1
  · cases r1 with
    | tup g1 g2 => exact ⟨_, rfl, .inr ⟨⟨_, g1⟩, q1 ρ1 H1 l1 ok1 _ (feed_tup g1 g2)⟩⟩
  · cases r1 with
    | lst g1 o g2 => exact ⟨_, rfl, .inl ⟨⟨_, SqL.of g1⟩, q1 ρ1 H1 l1 ok1 _ (feed_fz g1 o g2)⟩⟩
  · cases r1 with
    | loc g1 =>
      split at q1
      · rename_i xs hx
        obtain ⟨vs, e1, e2⟩ := ok1.objs _ _ _ hx g1
        exact ⟨_, rfl, .inl ⟨⟨_, SqL.of e1⟩, q1 ρ1 H1 l1 ok1 _ (feed_lst g1)⟩⟩
      · exact q1.elim
  · exact q1.elim
/-- enumerate of a list or a tuple -/
def iEnA (K : PySem.W.Frag) (ta : TA) : TI := fun σ H R => ta σ H fun vs H1 => ∃ a, vs = [.ref a] ∧ (((∃ xs, SqL K H1 a xs) ∧ R (Ite K a) H1) ∨ ((∃ xs, SqT K H1 a xs) ∧ R (ItEnT K a) H1))
theorem pi_enA {ta : TA} {tpos : Pos} {elts : List Expr} {kk : Nat} (glob : Gl X "enumerate") (none : X.mg "enumerate" = none) (args : PA X [e] ta) (each : starEach [e] X.env = [(false, eval e X.env)] := by rfl) :
    PI X (.Tuple elts kk tpos) (.Call (.Name "enumerate" p) [e] [] pos) (iEnA X.K ta) := by
  constructor
  intro pins z σ G R I asks
  refine Call_ (ld_blt I glob none boot_enumerate ?_)
  refine PyProof.Rows.callWith_type1 (thn (args.run pos pins z σ G _ I asks) ?_) each rfl
  rintro us z1 ⟨vs, G1, I1, rr, q⟩
  obtain ⟨a, rfl, q⟩ := q
  obtain ⟨u, rfl, ru⟩ := vals1 rr
  obtain rfl : u = Value.ref a := ru
  have later : ∀ {g : Heap}, (∀ b u, z1.heap.get? b = some u → g.get? b = some u) → Inv X pins σ G1 { z1 with heap := g } := fun k => I1.kept (t' := z1.toks) k
  have fresh : ∀ b ∈ [z1.heap.objs.size + 1, z1.heap.objs.size], FpOk X pins G1 b := by
    intro b hb
    have le : z1.heap.objs.size ≤ b := by
      rcases List.mem_cons.mp hb with rfl | hb
      · exact Nat.le_succ _
      · obtain rfl := List.mem_singleton.mp hb
        exact Nat.le_refl _
    exact I1.fpOk le (I1.hok.fresh le)
  rcases q with ⟨⟨xs, hq⟩, q⟩ | ⟨⟨xs, hq⟩, q⟩
  · obtain ⟨its, _, pl, _⟩ := I1.list hq
    refine call_enumerate_list pl.isList ?_
    intro g he hit _ hk
    apply wpAny_pyIter_enum he
    exact ⟨_, _, _, _, G1, rfl, later hk, turn_enum a _ _, ⟨⟨.none, he⟩, hit, Nat.succ_ne_self _⟩, fresh, q⟩
  · obtain ⟨its, _, tu, _⟩ := I1.tuple hq
    have tu : z1.heap.IsTuple a its.toArray := tu
    refine call_enum1 (begins_tuple a its.toArray) tu ?_
    intro g he hit _ hk
    apply wpAny_pyIter_enum he
    exact ⟨_, _, _, _, G1, rfl, later hk, turn_enT a _ _, ⟨⟨.none, he⟩, ⟨_, hit, rfl, rfl⟩, Nat.succ_ne_self _⟩, fresh, q⟩
theorem ei_enum {elts : List Expr} {kk : Nat} {tpos : Pos} (hm : X.mg "enumerate" = none) (he : EE c X e fa) (hg : Gl X "enumerate" := by rfl) (hs : starEach [e] X.env = (false, eval e X.env) :: starEach [] X.env := by rfl) (each : starEach [e] X.env = [(false, eval e X.env)] := by rfl) : EI c X (.Tuple elts kk tpos) (.Call (.Name "enumerate" p) [e] [] pos) (fSrc enF fa) :=
  PI.imp (pi_enA hg hm (pa_cons he pa_nil hs) each) fun σ H R ⟨ρ, h, s, ok, env, q⟩ => by
    refine ⟨ρ, h, s, ok, env, (M.all_bind.mp q).mono fun ⟨x, h1⟩ q1 ρ1 H1 v l1 ok1 r1 => ?_⟩
    dsimp only [srcV] at q1
    split at q1
    · cases r1 with
      | tup g1 g2 => exact ⟨_, rfl, .inr ⟨⟨_, g1⟩, q1 ρ1 H1 l1 ok1 _ (feed_enT g1 g2)⟩⟩
    · cases r1 with
      | lst g1 o g2 => exact ⟨_, rfl, .inl ⟨⟨_, SqL.of g1⟩, q1 ρ1 H1 l1 ok1 _ (feed_enF g1 o g2)⟩⟩
    · cases r1 with
      | loc g1 =>
        split at q1
        · rename_i xs hx
          obtain ⟨vs, e1, e2⟩ := ok1.objs _ _ _ hx g1
          exact ⟨_, rfl, .inl ⟨⟨_, SqL.of e1⟩, q1 ρ1 H1 l1 ok1 _ (feed_enL g1)⟩⟩
        · exact q1.elim
    · exact q1.elim
def srcR1 : D → M Src := fun x h => match x with
  | .int j => if -(2 ^ 62) ≤ j ∧ j < 2 ^ 62 then .ret (⟨j.toNat, getR 0 j.toNat⟩, h) else .bad
  | _ => .bad
theorem ei_range (hm : X.mg "range" = none) (he : EE c X e fa) (hg : Gl X "range" := by rfl) (hs : starEach [e] X.env = (false, eval e X.env) :: starEach [] X.env := by rfl) (each : starEach [e] X.env = [(false, eval e X.env)] := by rfl) : EI c X tg (.Call (.Name "range" p) [e] [] pos) (fun s => M.bind (fa s) srcR1) :=
  PI.imp (pi_range1 hg hm (pa_cons he pa_nil hs) each) fun σ H R ⟨ρ, h, s, ok, env, q⟩ => by
    refine ⟨ρ, h, s, ok, env, (M.all_bind.mp q).mono fun ⟨x, h1⟩ q1 ρ1 H1 v l1 ok1 r1 => ?_⟩
    dsimp only [srcR1] at q1
    split at q1
    · cases r1
      split at q1
      · rename_i hb
        exact ⟨_, rfl, hb.1, hb.2, q1 ρ1 H1 l1 ok1 _ feed_rng⟩
      · exact q1.elim
    · exact q1.elim
def srcR2 : D → D → M Src := fun x y h => match x, y with
  | .int i, .int j => if -(2 ^ 62) ≤ i ∧ i < 2 ^ 62 ∧ -(2 ^ 62) ≤ j ∧ j < 2 ^ 62 then .ret (⟨(j - i).toNat, getR i (j - i).toNat⟩, h) else .bad
  | _, _ => .bad
theorem ei_range2 (hm : X.mg "range" = none) (ha : EE c X a fa) (hb : EE c X b fb) (hg : Gl X "range" := by rfl) (hs : starEach [a, b] X.env = (false, eval a X.env) :: starEach [b] X.env := by rfl) (hs1 : starEach [b] X.env = (false, eval b X.env) :: starEach [] X.env := by rfl)
    (each : starEach [a, b] X.env = [(false, eval a X.env), (false, eval b X.env)] := by rfl) (each1 : starEach [b] X.env = [(false, eval b X.env)] := by rfl) : EI c X tg (.Call (.Name "range" p) [a, b] [] pos) (fun s => M.bind (fa s) fun x => M.bind (fb s) fun y => srcR2 x y) :=
  PI.imp (pi_range2 hg hm (pa_cons ha (pa_cons hb pa_nil hs1) hs) each each1) fun σ H R ⟨ρ, h, s, ok, env, q⟩ => by
    refine ⟨ρ, h, s, ok, env, (M.all_bind.mp q).mono fun ⟨x, h1⟩ q1 ρ1 H1 v l1 ok1 r1 => ?_⟩
    refine ⟨ρ1, h1, s, ok1, env.le l1, Tr.All.le l1 (M.all_bind.mp q1) fun ⟨y, h2⟩ q2 ρ2 H2 w l2 ok2 r2 => ?_⟩
    dsimp only [srcR2] at q2
    split at q2
    · cases r1
      cases r2
      split at q2
      · rename_i hb
        exact ⟨_, _, rfl, hb, q2 ρ2 H2 (l1.trans l2) ok2 _ feed_rng⟩
      · exact q2.elim
    · exact q2.elim
end
end Ev

/-! for; comprehensions. -/
namespace Ev
open PySem PySem.Spec PyProof.Rows L2 Dr
variable {c : Ct}
section
variable {X : Cx} {tg e a b d : Expr} {es : List Expr} {fa fb : Sg → M D} {ft fu : Sg → M Bool} {fr : Sg → M (List D)} {pos p p1 : Pos}
/-! ### for -/
def loop (get : Nat → List O → Option (Option D)) (body : D → Sg → M Out) : Nat → Nat → Sg → M Out
  | 0, i => fun s h => match get i h with
    | some none => .ret (.nx s, h)
    | _ => .bad
  | n + 1, i => fun s h => match get i h with
    | some none => .ret (.nx s, h)
    | some (some x) => (body x s h).bind fun r => match r.1 with
      | .nx s' => loop get body n (i + 1) s' r.2
      | .ct s' => loop get body n (i + 1) s' r.2
      | .bk s' => .ret (.nx s', r.2)
      | .rt y => .ret (.rt y, r.2)
    | none => .bad
def sFor (fi : Sg → M Src) (g : D → Sg → M Sg) (fb : Sg → M Out) : Sg → M Out := fun s => M.bind (fi s) fun S => loop S.get (fun x s => M.bind (g x s) fb) S.fuel 0 s
theorem es_for {body : List Stmt} {fi : Sg → M Src} {g : D → Sg → M Sg} {fb : Sg → M Out} (vs : List Nat) (hi : EI c X tg e fi) (hg : EG c X vs tg g) (hb : ESs c X body fb) (hp : PassesOwn (model X.prog X.w) X.A X.env X.xe := by exact PassesOwn.never) (hc : X.calm = true := by rfl)
    (hs : ∀ x, foldedSetIterable e X.env x = pure x := by intro _; rfl) : ES c X (.For tg e body [] pos) (sFor fi g fb) := PS.imp (ps_for hp hc hi hg hb hs) fun E σ H ⟨ρ, h, s, ok, env, q⟩ => by
  refine ⟨ρ, h, s, ok, env, (M.all_bind.mp q).mono fun ⟨S, h1⟩ q1 ρ1 H1 l1 ok1 J feed => ?_⟩
  refine ⟨fun i m σ2 H2 => ∃ ρ2 h2 s2, Le c ρ1 H1 ρ2 H2 ∧ Ok X.K c ρ2 h2 H2 ∧ Env X.K c H2 ρ2 s2 σ2 ∧ (loop S.get (fun x s => M.bind (g x s) fb) m i s2 h2).All (PD X.K c ρ2 H2 E) (PX X.K c ρ2 H2), ⟨S.fuel, ρ1, h1, s, .refl, ok1, env.le l1, Tr.All.le l1 q1 fun r q => q.le l1⟩, ?_⟩
  rintro i m σ2 H2 ⟨ρ2, h2, s2, l2, ok2, env2, q2⟩
  obtain ⟨F1, F2⟩ := feed c.hid c.E ρ2 h2 H2 i (fun b z => .inl z) l2 ok2
  rcases hget : S.get i h2 with _ | _ | x
  · cases m <;> (simp only [loop, hget] at q2; exact q2.elim)
  · refine .inl ⟨F1 hget, ?_⟩
    cases m <;> (simp only [loop, hget] at q2; exact q2 ρ2 H2 σ2 .refl ok2 env2)
  · cases m with
    | zero => simp only [loop, hget] at q2; exact q2.elim
    | succ m =>
      simp only [loop, hget] at q2
      obtain ⟨go, F3⟩ := F2 x hget
      refine .inr ⟨go, fun σ3 H3 => ∃ ρ3 h3 s3, Le c ρ1 H1 ρ3 H3 ∧ Ok X.K c ρ3 h3 H3 ∧ Env X.K c H3 ρ3 s3 σ3 ∧ (loop S.get (fun x s => M.bind (g x s) fb) m (i + 1) s3 h3).All (PD X.K c ρ3 H3 E) (PX X.K c ρ3 H3), fun σ3 H3 z => ⟨m, Nat.lt_succ_self _, z⟩, fun v H3 y => ?_⟩
      obtain ⟨l3, ok3, r3⟩ := F3 v H3 y
      have q3 := M.all_bind.mp (Tr.all_bind.mp q2)
      refine ⟨ρ2, h2, s2, x, ok3, env2.le l3, r3, Tr.All.le l3 q3 fun ⟨s4, h4⟩ q4 ρ4 H4 σ4 l4 ok4 env4 _ => ?_⟩
      have l24 := l3.trans l4
      refine ⟨ρ4, h4, s4, ok4, env4, Tr.All.le l24 q4 fun ⟨o, h5⟩ q5 => ?_⟩
      cases o with
      | nx s5 => exact fun ρ5 H5 σ5 l5 ok5 env5 => ⟨ρ5, h5, s5, l2.trans (l24.trans l5), ok5, env5, Tr.All.le (l24.trans l5) q5 fun r q => q.le (l24.trans l5)⟩
      | ct s5 => exact fun ρ5 H5 σ5 l5 ok5 env5 => ⟨ρ5, h5, s5, l2.trans (l24.trans l5), ok5, env5, Tr.All.le (l24.trans l5) q5 fun r q => q.le (l24.trans l5)⟩
      | rt y => exact fun ρ5 H5 v l5 ok5 r5 => q5 ρ5 H5 v (l24.trans l5) ok5 r5
      | bk s5 => exact fun ρ5 H5 v l5 ok5 r5 => q5 ρ5 H5 v (l24.trans l5) ok5 r5
/-! ### comprehensions -/
def wipeS (s : Sg) : List Nat → Sg
  | [] => s
  | v :: vs => (wipeS s vs).set v none
theorem Env.wipe {K : PySem.W.Frag} {ρ : Sto} {H : Hp} {s : Sg} {σ : L2.St} (e : Env K c H ρ s σ) : ∀ vs, Env K c H ρ (wipeS s vs) (L2.wipe σ vs)
  | [] => e
  | v :: vs => by
    have ih := Env.wipe e vs
    refine ⟨by simp [wipeS, L2.wipe, ih.1], fun j x hx => ?_⟩
    by_cases hj : j = v
    · subst hj
      have hx : ((wipeS s vs).set j none)[j]? = some (some x) := hx
      obtain ⟨q, w⟩ := List.getElem?_eq_some_iff.mp hx
      simp at w
    · have hx : ((wipeS s vs).set v none)[j]? = some (some x) := hx
      rw [List.getElem?_set_ne (Ne.symm hj)] at hx
      obtain ⟨v', h1, h2⟩ := ih.2 j x hx
      refine ⟨v', ?_, h2⟩
      show ((L2.wipe σ vs).set v none)[j]? = _
      rw [List.getElem?_set_ne (Ne.symm hj)]
      exact h1
theorem Env.hide {K : PySem.W.Frag} {hid : List Addr} {E : XK} {ρ0 ρ : Sto} {H0 H : Hp} {s : Sg} {σ : L2.St} (l : Le c ρ0 H0 ρ H) (hh : ∀ b, b ∈ hid → b ∈ c.hid ∨ H0 b = none) (e : Env K c H0 ρ0 s σ) : Env K (c.at hid E) H ρ s σ := ⟨e.1, fun i x h => let ⟨v, h1, h2⟩ := e.2 i x h; ⟨v, h1, h2.hide l hh⟩⟩
/-- item by item behind those that are there -/
def comp (get : Nat → List O → Option (Option D)) (body : D → M (Option D)) : Nat → Nat → List D → M (List D)
  | 0, i, acc => fun h => match get i h with
    | some none => .ret (acc, h)
    | _ => .bad
  | m + 1, i, acc => fun h => match get i h with
    | some none => .ret (acc, h)
    | some (some x) => (body x h).bind fun r => match r.1 with
      | none => comp get body m (i + 1) acc r.2
      | some y => if acc.length < lim then comp get body m (i + 1) (acc ++ [y]) r.2 else .bad
    | none => .bad
def cBody (s : Sg) (g : D → Sg → M Sg) (ft : Sg → M Bool) (fe : Sg → M D) : D → M (Option D) := fun x => M.bind (g x s) fun s2 => M.bind (ft s2) fun b => if b = true then M.bind (fe s2) fun y => M.ret (some y) else M.ret none
/-- a list by a comprehension, which nobody changes; no error leaves its turns -/
def fLc (vs : List Nat) (fi : Sg → M Src) (g : D → Sg → M Sg) (ft : Sg → M Bool) (fe : Sg → M D) : Sg → M D := fun s => M.bind (fi s) fun S h =>
  (comp S.get (cBody (wipeS s vs) g ft fe) S.fuel 0 [] h).calm.bind fun r => .ret (.lst r.1, r.2)
/-- the same, a part of the store -/
def fLcL (vs : List Nat) (fi : Sg → M Src) (g : D → Sg → M Sg) (ft : Sg → M Bool) (fe : Sg → M D) : Sg → M D := fun s => M.bind (fi s) fun S h =>
  (comp S.get (cBody (wipeS s vs) g ft fe) S.fuel 0 [] h).calm.bind fun r => .ret (.loc r.2.length, r.2 ++ [.lst r.1])
def tTrue : Sg → M Bool := fun _ => M.ret true
theorem ets_nil : PTs X [] (tT X.K c tTrue) := ⟨fun pins s σ H Q I ⟨ρ, h, z, ok, env, q⟩ => pts_nil.run pins s σ H Q I (q ρ H .refl ok)⟩
theorem ets_one (h : ET c X e ft) : PTs X [e] (tT X.K c ft) := pts_one h
/-- nothing is wished of an error in a block -/
def EF : XK := fun _ _ _ => False
/-- in a block, while the list at D is made -/
abbrev Ct.blk (c : Ct) (D : Addr) : Ct := c.at (D :: c.hid) EF
theorem RO.mv {K : PySem.W.Frag} {c c1 : Ct} {ρ ρ1 : Sto} {H H1 : Hp} (m : Mv K c c1 H ρ H1 ρ1) (lc : ∀ (n : Nat) (a : Addr), ρ.a[n]? = some a → ρ1.a[n]? = some a) {o : O} {a : Addr} (same : H1 a = H a) (h : RO K c H ρ o a) : RO K c1 H1 ρ1 o a := by
  cases o with
  | lst xs => obtain ⟨vs, h1, h2⟩ := h; exact ⟨vs, same.trans h1, RVs.mv m _ _ (.inr lc) h2⟩
  | dK ks xs => obtain ⟨vs, h1, h2, h3⟩ := h; exact ⟨vs, same.trans h1, h2, RVs.mv m _ _ (.inr lc) h3⟩
  | tD ks xs => obtain ⟨kas, vs, h1, h2, h3, h4⟩ := h; exact ⟨kas, vs, same.trans (by rw [m.P, m.w]; exact h1), h2, RVs.mv m _ _ (.inr lc) h3, RVs.mv m _ _ (.inr lc) h4⟩
  | ins k fs => obtain ⟨dx, vs, h1, h2, h3⟩ := h; exact ⟨dx, vs, same.trans (by rw [m.cA, m.cF]; exact h1), by rw [m.cF, m.n]; exact h2, RVs.mv m _ _ (.inr lc) h3⟩
  | dead => trivial
/-- a new list that is hidden from now on -/
theorem Ok.hide {K : PySem.W.Frag} {ρ : Sto} {h : List O} {H : Hp} {D : Addr} {u : HO} (ok : Ok K c ρ h H) (nD : H D = none) : Le c ρ H ρ (upd H D u) ∧ Ok K (c.blk D) ρ h (upd H D u) := by
  obtain ⟨l, ok1⟩ := ok.other (o := u) nD
  have hh : ∀ b, b ∈ D :: c.hid → b ∈ c.hid ∨ H b = none := fun b hb => by
    rcases List.mem_cons.mp hb with rfl | z
    · exact .inr nD
    · exact .inl z
  refine ⟨l, ok.len, ok.nd, fun n o a e1 e2 => ?_, ok.lv, ok.sub, ok1.ex, ok1.dw, fun a ha => ?_⟩
  · obtain ⟨y, hy⟩ := ok.ex a (List.mem_of_getElem? e2)
    exact (ok.objs n o a e1 e2).mv (mv_hide l hh) (fun _ _ z => z) (by rw [upd_ne (ne_of_none hy nD)])
  · rcases List.mem_cons.mp ha with rfl | z
    · exact ⟨⟨_, upd_same⟩, (ok.fresh nD).1⟩
    · exact ok1.hid a z
/-- an item is put behind those of the hidden list -/
theorem Ok.app {K : PySem.W.Frag} {ρ1 ρ : Sto} {h : List O} {H1 H : Hp} {D : Addr} {u : HO} (nD : H1 D = none) (l : Le c ρ1 H1 ρ H) (ok : Ok K (c.blk D) ρ h H) (hD : ∃ us, H D = some (.lst us)) (hdw : ∀ d g e, c.dw = some (d, g, e) → d ≠ D ∧ g ≠ D ∧ e ≠ D) : Le c ρ1 H1 ρ (upd H D u) ∧ Ok K (c.blk D) ρ h (upd H D u) ∧ Mv K (c.blk D) (c.blk D) H ρ (upd H D u) ρ := by
  obtain ⟨us, hD⟩ := hD
  have offD : ∀ a, Off (c.blk D) ρ a → a ≠ D := fun a o z => o.hd (z ▸ List.mem_cons_self)
  have hDa := (ok.hid D List.mem_cons_self).2
  have m : Mv K (c.blk D) (c.blk D) H ρ (upd H D u) ρ := ⟨fun a xs q => by
      rcases q with (q | ⟨o, q⟩) | q
      · exact .inl (.inl (by rw [upd_ne (fun z => by rw [z, hD] at q; cases q)]; exact q))
      · exact .inl (.inr ⟨o, by rw [upd_ne (fun z => by rw [z, hD] at q; cases q)]; exact q⟩)
      · exact .inr q, fun a v e o => ⟨by rw [upd_ne (offD a o)]; exact e, o⟩, rfl, rfl, rfl, rfl, rfl, rfl, rfl, rfl, rfl⟩
  refine ⟨⟨l.pre, l.new, fun b o hb hd e => ?_, fun b xs e => ?_, fun b o v e => ?_, fun b e => ?_⟩, ⟨ok.len, ok.nd, fun n o a e1 e2 => ?_, ok.lv, ok.sub, fun a ha => up_ex (ok.ex a ha), fun d g e z => ?_, fun a ha => ⟨up_ex (ok.hid a ha).1, (ok.hid a ha).2⟩⟩, m⟩
  · rw [upd_ne (ne_of_none e nD)]; exact l.fr b o hb hd e
  · rw [upd_ne (ne_of_none e nD)]; exact l.tups b xs e
  · rw [upd_ne (ne_of_none e nD)]; exact l.frzs b o v e
  · by_cases q : b = D
    · rw [q]; exact nD
    · rw [upd_ne q] at e; exact l.kept b e
  · have hne : a ≠ D := fun z => hDa (z ▸ List.mem_of_getElem? e2)
    exact (ok.objs n o a e1 e2).mv m (fun _ _ z => z) (by rw [upd_ne hne])
  · obtain ⟨Dx, h1, h2, h3⟩ := ok.dw d g e z
    refine ⟨Dx.keep fun b x hb e' => ?_, h1, h2, h3⟩
    have : b ≠ D := by
      obtain ⟨w1, w2, w3⟩ := hdw d g e z
      rcases hb with rfl | rfl | rfl
      · exact w1
      · exact w2
      · exact w3
    rw [upd_ne this]
    exact e'
/-- the list is done: it is ours, hidden no more -/
theorem Ok.show_ {K : PySem.W.Frag} {ρ : Sto} {h : List O} {H : Hp} {D : Addr} (ok : Ok K (c.blk D) ρ h H) : Ok K c ρ h H := ⟨ok.len, ok.nd, fun n o a e1 e2 => RO.mv (c := c.blk D) ⟨fun _ _ h => h, fun a u e o => ⟨e, o.st, fun z => o.hd (List.mem_cons_of_mem D z), o.dw⟩, rfl, rfl, rfl, rfl, rfl, rfl, rfl, rfl, rfl⟩ (fun _ _ z => z) rfl (ok.objs n o a e1 e2), ok.lv, ok.sub, ok.ex, ok.dw, fun a ha => ok.hid a (List.mem_cons_of_mem _ ha)⟩
theorem RVs.show_ {K : PySem.W.Frag} {ρ : Sto} {H : Hp} {D : Addr} {xs : List Ev.D} {vs : List V} (r : RVs K (c.blk D) H ρ xs vs) : RVs K c H ρ xs vs := RVs.mv (c := c.blk D) ⟨fun _ _ h => h, fun a u e o => ⟨e, o.st, fun z => o.hd (List.mem_cons_of_mem D z), o.dw⟩, rfl, rfl, rfl, rfl, rfl, rfl, rfl, rfl, rfl⟩ xs vs (.inr fun _ _ z => z) r
theorem Tr.calm_any {α : Type} {P : α → Prop} {X Y : XP} : ∀ {t : Tr α}, t.calm.All P X → t.calm.All P Y
  | .ret _, h => h
  | .bad, h => h
  | .err _ _ _, h => False.elim h
  | .pick n k, h => fun i hi => Tr.calm_any (t := k i) (h i hi)
theorem Tr.calm_bind {α β : Type} {f : α → Tr β} : ∀ {t : Tr α}, (t.bind f).calm = t.calm.bind fun a => (f a).calm
  | .ret _ => rfl
  | .bad => rfl
  | .err _ _ _ => rfl
  | .pick n k => by simp only [Tr.bind, Tr.calm]; congr 1; funext i; exact Tr.calm_bind
theorem wipe_idem {σ : L2.St} (vs : List Nat) : L2.wipe (L2.wipe σ vs) vs = L2.wipe σ vs := by
  have idem : ∀ us : List Nat, (∀ u ∈ us, u ∈ vs) → L2.wipe (L2.wipe σ vs) us = L2.wipe σ vs := by
    intro us
    induction us with
    | nil => intro _; rfl
    | cons u us ih =>
      intro hu
      show (L2.wipe (L2.wipe σ vs) us).set u none = _
      rw [ih fun w hw => hu w (List.mem_cons_of_mem _ hw)]
      apply List.ext_getElem?
      intro j
      by_cases hj : j = u
      · subst hj
        have none_at : ∀ ws : List Nat, j ∈ ws → ∀ z, (L2.wipe σ ws)[j]? = some z → z = none := by
          intro ws
          induction ws with
          | nil => intro h; cases h
          | cons w ws ih2 =>
            intro hm z hz
            have hz : ((L2.wipe σ ws).set w none)[j]? = some z := hz
            by_cases hw : w = j
            · subst hw
              obtain ⟨q, e⟩ := List.getElem?_eq_some_iff.mp hz
              simp at e
              exact e.symm
            · rw [List.getElem?_set_ne hw] at hz
              exact ih2 ((List.mem_cons.mp hm).resolve_left (fun z => hw z.symm)) z hz
        by_cases hl : j < (L2.wipe σ vs).length
        · rw [List.getElem?_set_self hl]
          have := none_at vs (hu j (List.mem_cons_self)) _ (List.getElem?_eq_getElem hl)
          rw [List.getElem?_eq_getElem hl, this]
        · rw [List.getElem?_eq_none (by simpa using hl), List.getElem?_eq_none (by simpa using hl)]
      · rw [List.getElem?_set_ne (Ne.symm hj)]
  exact idem vs fun _ h => h
theorem lc_core {fi : Sg → M Src} {g : D → Sg → M Sg} {ft : Sg → M Bool} {fe : Sg → M D} {vs : List Nat} {K : PySem.W.Frag} {σ H Q} {fin : List D × List O → D × List O}
    (hfin : ∀ (ρ1 ρ' : Sto) (H1 H' : Hp) (Dd : Addr) (us : List V) r, H1 Dd = none → Dd ∉ c.hid → (∀ d g e, c.dw = some (d, g, e) → Dd ≠ d ∧ Dd ≠ g ∧ Dd ≠ e) → Le c ρ1 H1 ρ' H' → Ok K (c.blk Dd) ρ' r.2 H' → H' Dd = some (.lst us) → RVs K (c.blk Dd) H' ρ' r.1 us → PV K c ρ1 H1 Q (fin r) → Q (.ref Dd) H')
    (q : tE K c (fun s => M.bind (fi s) fun S h => (comp S.get (cBody (wipeS s vs) g ft fe) S.fuel 0 [] h).calm.bind fun r => .ret (fin r)) σ H Q) :
    tI K c fi σ H fun J H1 => ∀ Dd, H1 Dd = none → ∃ W : Nat → Nat → Hp → Prop, (∃ m, W 0 m (upd H1 Dd (.lst []))) ∧ ∀ i m H, W i m H →
      (J.stop i H ∧ Q (.ref Dd) H) ∨ (J.go i H ∧ ∃ Nx : Hp → Prop, (∀ H', Nx H' → ∃ m', m' < m ∧ W (i + 1) m' H') ∧ ∀ x H', J.yld i H x H' → tGt K (c.blk Dd) vs g x (L2.wipe σ vs) H' fun σ2 H2 => L2.wipe σ2 vs = L2.wipe σ vs ∧ tT K (c.blk Dd) ft σ2 H2 fun b H3 =>
        if b = true then tE K (c.blk Dd) fe σ2 H3 fun y H4 => ∃ acc, H4 Dd = some (.lst acc) ∧ acc.length < sizeLine ∧ Nx (upd H4 Dd (.lst (acc ++ [y]))) else Nx H3) := by
  obtain ⟨ρ, h, s, ok, env, q⟩ := q
  refine ⟨ρ, h, s, ok, env, (M.all_bind.mp q).mono fun ⟨S, h1⟩ q1 ρ1 H1 l1 ok1 J feed Dd nD => ?_⟩
  have q1 := Tr.all_bind.mp q1
  have hdw : ∀ d g e, c.dw = some (d, g, e) → d ≠ Dd ∧ g ≠ Dd ∧ e ≠ Dd := fun d g e z => by
    obtain ⟨⟨⟨gs, cs, r, t, hd', hg', hc'⟩, _⟩, _⟩ := ok1.dw d g e z
    exact ⟨ne_of_none hd' nD, ne_of_none hg' nD, ne_of_none hc' nD⟩
  have hh : ∀ b, b ∈ Dd :: c.hid → b ∈ c.hid ∨ H1 b = none := fun b hb => by
    rcases List.mem_cons.mp hb with rfl | z
    · exact .inr nD
    · exact .inl z
  obtain ⟨lD, okD⟩ := ok1.hide (u := .lst []) nD
  let F : List D × List O → Prop := fun r => PV K c ρ1 H1 Q (fin r)
  refine ⟨fun i m H2 => ∃ ρ2 h2 us acc, Le c ρ1 H1 ρ2 H2 ∧ Ok K (c.blk Dd) ρ2 h2 H2 ∧ H2 Dd = some (.lst us) ∧ RVs K (c.blk Dd) H2 ρ2 acc us ∧ (comp S.get (cBody (wipeS s vs) g ft fe) m i acc h2).calm.All F (fun _ _ _ => False),
    ⟨S.fuel, ρ1, h1, [], [], lD, okD, upd_same, .nil, Tr.calm_any (q1.mono fun r z => PV.le l1 z)⟩, ?_⟩
  rintro i m H2 ⟨ρ2, h2, us, acc, l2, ok2, hD2, racc, q2⟩
  have env2 : Env K (c.blk Dd) H2 ρ2 (wipeS s vs) (L2.wipe σ vs) := ((env.le l1).hide l2 hh).wipe vs
  obtain ⟨F1, F2⟩ := feed (Dd :: c.hid) EF ρ2 h2 H2 i hh l2 ok2
  rcases hget : S.get i h2 with _ | _ | x
  · cases m <;> (simp only [comp, hget] at q2; exact q2.elim)
  · refine .inl ⟨F1 hget, ?_⟩
    cases m <;> (simp only [comp, hget] at q2; exact hfin ρ1 ρ2 H1 H2 Dd us _ nD (ok1.fresh nD).2 (fun d g e z => ⟨(hdw d g e z).1.symm, (hdw d g e z).2.1.symm, (hdw d g e z).2.2.symm⟩) l2 ok2 hD2 racc q2)
  · cases m with
    | zero => simp only [comp, hget] at q2; exact q2.elim
    | succ m =>
      simp only [comp, hget] at q2
      obtain ⟨go, F3⟩ := F2 x hget
      refine .inr ⟨go, fun H3 => ∃ ρ2 h2 us acc, Le c ρ1 H1 ρ2 H3 ∧ Ok K (c.blk Dd) ρ2 h2 H3 ∧ H3 Dd = some (.lst us) ∧ RVs K (c.blk Dd) H3 ρ2 acc us ∧ (comp S.get (cBody (wipeS s vs) g ft fe) m (i + 1) acc h2).calm.All F (fun _ _ _ => False), fun H3 z => ⟨m, Nat.lt_succ_self _, z⟩, fun v H3 y => ?_⟩
      obtain ⟨l3, ok3, r3⟩ := F3 v H3 y
      rw [Tr.calm_bind] at q2
      have q3 := Tr.all_bind.mp q2
      have q3 := Tr.all_calm (Y := PX K (c.blk Dd) ρ2 H3) q3
      have q3 := M.all_bind.mp q3
      have offD : ∀ {ρ : Sto} {h : List O} {H : Hp}, Ok K (c.blk Dd) ρ h H → Dd ∉ ρ.l := fun ok z => (ok.hid Dd List.mem_cons_self).2 (ok.sub _ z)
      have keep : ∀ {ρ ρ' : Sto} {h : List O} {H H' : Hp}, Ok K (c.blk Dd) ρ h H → Le c ρ H ρ' H' → H Dd = some (.lst us) → H' Dd = some (.lst us) := fun ok l e => l.fr Dd _ (offD ok) (fun d g e z => ⟨(hdw d g e z).1.symm, (hdw d g e z).2.1.symm⟩) e
      have hD3 : H3 Dd = some (.lst us) := keep ok2 l3 hD2
      refine ⟨ρ2, h2, wipeS s vs, x, ok3, env2.le l3.hide, r3, q3.mono fun ⟨s4, h4⟩ q4 ρ4 H4 σ4 l4 ok4 env4 of4 => ⟨?_, ?_⟩⟩
      · have of4 : L2.wipe σ4 vs = L2.wipe (L2.wipe σ vs) vs := of4
        rw [of4]
        exact wipe_idem vs
      · have l24 := l3.trans l4.show_
        refine ⟨ρ4, h4, s4, ok4, env4, Tr.All.le l4 (M.all_bind.mp q4) fun ⟨b, h5⟩ q5 ρ5 H5 l5 ok5 => ?_⟩
        have l25 := l24.trans l5.show_
        dsimp only at q5 ⊢
        by_cases hb : b = true
        · rw [if_pos hb] at q5 ⊢
          refine ⟨ρ5, h5, s4, ok5, env4.le l5, Tr.All.le (l4.trans l5) (M.all_bind.mp q5) fun ⟨y, h6⟩ q6 ρ6 H6 w l6 ok6 r6 => ?_⟩
          have l26 := l25.trans l6.show_
          have hD6 : H6 Dd = some (.lst us) := keep ok2 l26 hD2
          replace q6 : (if acc.length < lim then comp S.get (cBody (wipeS s vs) g ft fe) m (i + 1) (acc ++ [y]) h6 else .bad).calm.All F (fun _ _ _ => False) := q6
          split at q6
          · rename_i hlt
            refine ⟨us, hD6, by rw [← racc.len]; exact lim_line (Nat.le_of_lt hlt), ?_⟩
            obtain ⟨l7, ok7, m7⟩ := Ok.app (u := .lst (us ++ [w])) nD (l2.trans l26) ok6 ⟨us, hD6⟩ hdw
            exact ⟨ρ6, h6, _, acc ++ [y], l7, ok7, upd_same, RVs.mv m7 _ _ (.inr fun _ _ z => z) ((racc.le l26.hide).append (.cons r6 .nil)), q6⟩
          · exact q6.elim
        · rw [if_neg hb] at q5 ⊢
          have q5 : (comp S.get (cBody (wipeS s vs) g ft fe) m (i + 1) acc h5).calm.All F (fun _ _ _ => False) := q5
          exact ⟨ρ5, h5, us, acc, l2.trans l25, ok5, keep ok2 l25 hD2, racc.le l25.hide, q5⟩
/-! whatever is hidden -/
def tEh (K : PySem.W.Frag) (c : Ct) (f : Sg → M D) : TE := fun σ H Q => ∃ hid, tE K (c.at hid EF) f σ H Q
def tTh (K : PySem.W.Frag) (c : Ct) (f : Sg → M Bool) : TT := fun σ H Q => ∃ hid, tT K (c.at hid EF) f σ H Q
def tGh (K : PySem.W.Frag) (c : Ct) (vs : List Nat) (f : D → Sg → M Sg) : TG := fun v σ H Q => ∃ hid, tGt K (c.at hid EF) vs f v σ H Q
theorem eh_E {e : Expr} {f : Sg → M D} (h : ∀ hid, EE (c.at hid EF) X e f) : PE X e (tEh X.K c f) := ⟨fun pins s σ H Q I ⟨hid, q⟩ => (h hid).run pins s σ H Q I q⟩
theorem eh_Ts {es : List Expr} {f : Sg → M Bool} (h : ∀ hid, PTs X es (tT X.K (c.at hid EF) f)) : PTs X es (tTh X.K c f) := ⟨fun pins s σ H Q I ⟨hid, q⟩ => (h hid).run pins s σ H Q I q⟩
theorem eh_G {e : Expr} {vs : List Nat} {f : D → Sg → M Sg} (h : ∀ hid, EG (c.at hid EF) X vs e f) : PG X e (tGh X.K c vs f) := ⟨fun pins s σ H v u Q I r ⟨hid, q⟩ => (h hid).run pins s σ H v u Q I r q⟩
theorem lc_of {fi : Sg → M Src} {g : D → Sg → M Sg} {ft : Sg → M Bool} {fe : Sg → M D} {vs : List Nat} {K : PySem.W.Frag} {σ H Q} {fin : List D × List O → D × List O}
    (hfin : ∀ (ρ1 ρ' : Sto) (H1 H' : Hp) (Dd : Addr) (us : List V) r, H1 Dd = none → Dd ∉ c.hid → (∀ d g e, c.dw = some (d, g, e) → Dd ≠ d ∧ Dd ≠ g ∧ Dd ≠ e) → Le c ρ1 H1 ρ' H' → Ok K (c.blk Dd) ρ' r.2 H' → H' Dd = some (.lst us) → RVs K (c.blk Dd) H' ρ' r.1 us → PV K c ρ1 H1 Q (fin r) → Q (.ref Dd) H')
    (q : tE K c (fun s => M.bind (fi s) fun S h => (comp S.get (cBody (wipeS s vs) g ft fe) S.fuel 0 [] h).calm.bind fun r => .ret (fin r)) σ H Q) : tLc (tI K c fi) (tGh K c vs g) (tTh K c ft) (tEh K c fe) vs σ H Q := by
  obtain ⟨ρ, h, s, ok, env, q0⟩ := lc_core hfin q
  refine ⟨ρ, h, s, ok, env, q0.mono fun r z ρ' H' l ok' J feed Dd nD => ?_⟩
  obtain ⟨W, w0, step⟩ := z ρ' H' l ok' J feed Dd nD
  refine ⟨W, w0, fun i m H w => ?_⟩
  rcases step i m H w with ⟨s1, s2⟩ | ⟨go, Nx, n1, n2⟩
  · exact .inl ⟨s1, s2⟩
  · refine .inr ⟨go, Nx, n1, fun x H' y => ⟨Dd :: c.hid, ?_⟩⟩
    obtain ⟨ρ2, h2, s2, x2, ok2, env2, r2, q2⟩ := n2 x H' y
    refine ⟨ρ2, h2, s2, x2, ok2, env2, r2, q2.mono fun r z ρ3 H3 σ3 l3 ok3 env3 of3 => ?_⟩
    obtain ⟨a, ρ4, h4, s4, ok4, env4, q4⟩ := z ρ3 H3 σ3 l3 ok3 env3 of3
    refine ⟨a, Dd :: c.hid, ρ4, h4, s4, ok4, env4, q4.mono fun r z ρ5 H5 l5 ok5 => ?_⟩
    have z := z ρ5 H5 l5 ok5
    dsimp only at z ⊢
    split at z
    · rename_i hb
      rw [if_pos hb]
      exact ⟨Dd :: c.hid, z⟩
    · rename_i hb
      rw [if_neg hb]
      exact z
theorem fin_fz {K : PySem.W.Frag} {Q : VK} (ρ1 ρ' : Sto) (H1 H' : Hp) (Dd : Addr) (us : List V) (r : List D × List O) (nD : H1 Dd = none) (h1 : Dd ∉ c.hid) (hdw : ∀ d g e, c.dw = some (d, g, e) → Dd ≠ d ∧ Dd ≠ g ∧ Dd ≠ e) (l : Le c ρ1 H1 ρ' H') (ok : Ok K (c.blk Dd) ρ' r.2 H') (hD : H' Dd = some (.lst us)) (rv : RVs K (c.blk Dd) H' ρ' r.1 us) (q : PV K c ρ1 H1 Q (.lst r.1, r.2)) : Q (.ref Dd) H' :=
  q ρ' H' _ l ok.show_ (.lst hD ⟨fun z => (ok.hid Dd List.mem_cons_self).2 (ok.sub _ z), h1, fun d g e z => ⟨(hdw d g e z).1, (hdw d g e z).2.1⟩⟩ rv.show_)
theorem fin_loc {K : PySem.W.Frag} {Q : VK} (ρ1 ρ' : Sto) (H1 H' : Hp) (Dd : Addr) (us : List V) (r : List D × List O) (nD : H1 Dd = none) (h1 : Dd ∉ c.hid) (hdw : ∀ d g e, c.dw = some (d, g, e) → Dd ≠ d ∧ Dd ≠ g ∧ Dd ≠ e) (l : Le c ρ1 H1 ρ' H') (ok : Ok K (c.blk Dd) ρ' r.2 H') (hD : H' Dd = some (.lst us)) (rv : RVs K (c.blk Dd) H' ρ' r.1 us) (q : PV K c ρ1 H1 Q (.loc r.2.length, r.2 ++ [.lst r.1])) : Q (.ref Dd) H' := by
  have nd := (ok.hid Dd List.mem_cons_self).2
  have mv : Mv K (c.blk Dd) c H' ρ' H' (ρ'.push Dd) := ⟨fun _ _ h => h, fun a u e o => ⟨e, fun z => by
    rcases List.mem_append.mp z with z | z
    · exact o.st z
    · exact o.hd (by rw [List.mem_singleton.mp z]; exact List.mem_cons_self), fun z => o.hd (List.mem_cons_of_mem _ z), o.dw⟩, rfl, rfl, rfl, rfl, rfl, rfl, rfl, rfl, rfl⟩
  have lc : ∀ (n : Nat) (a : Addr), ρ'.a[n]? = some a → (ρ'.push Dd).a[n]? = some a := fun n a e => pre_get (List.prefix_append _ _) e
  have l2 : Le c ρ1 H1 (ρ'.push Dd) H' := ⟨l.pre.trans (List.prefix_append _ _), fun p hp np => by
    rcases List.mem_append.mp hp with z | z
    · exact l.new p z np
    · rw [List.mem_singleton.mp z]; exact nD, l.fr, l.tups, l.frzs, l.kept⟩
  refine q (ρ'.push Dd) H' _ l2 ⟨by simp [Sto.push, ok.len], ?_, fun n o' a e1 e2 => ?_, fun n o' a e1 e2 e3 => ?_, fun a ha => ?_, fun a ha => ?_, fun d g e z => ?_, fun a ha => ⟨(ok.hid a (List.mem_cons_of_mem _ ha)).1, fun z => ?_⟩⟩ (.loc (by rw [← ok.len]; simp [Sto.push]))
  · show (ρ'.a ++ [Dd]).Nodup
    rw [List.nodup_append]
    exact ⟨ok.nd, by simp, fun a ha b hb => by rw [List.mem_singleton.mp hb]; intro z; rw [z] at ha; exact nd ha⟩
  · have e2 : (ρ'.a ++ [Dd])[n]? = some a := e2
    by_cases hn : n < r.2.length
    · rw [List.getElem?_append_left hn] at e1
      rw [List.getElem?_append_left (by rw [ok.len]; exact hn)] at e2
      exact (ok.objs n o' a e1 e2).mv mv lc rfl
    · rw [List.getElem?_append_right (by omega)] at e1
      rw [List.getElem?_append_right (by rw [ok.len]; omega)] at e2
      have h0 : n - r.2.length = 0 := by
        obtain ⟨q, _⟩ := List.getElem?_eq_some_iff.mp e1
        simp at q; omega
      rw [h0] at e1
      rw [show n - ρ'.a.length = 0 by rw [ok.len]; exact h0] at e2
      simp at e1 e2
      subst e1 e2
      exact ⟨us, hD, RVs.mv mv _ _ (.inr lc) rv⟩
  · have e2 : (ρ'.a ++ [Dd])[n]? = some a := e2
    show a ∈ ρ'.l ++ [Dd]
    by_cases hn : n < r.2.length
    · rw [List.getElem?_append_left hn] at e1
      rw [List.getElem?_append_left (by rw [ok.len]; exact hn)] at e2
      exact List.mem_append_left _ (ok.lv n o' a e1 e2 e3)
    · rw [List.getElem?_append_right (by rw [ok.len]; omega)] at e2
      exact List.mem_append_right _ (List.mem_of_getElem? e2)
  · rcases List.mem_append.mp ha with z | z
    · exact List.mem_append_left _ (ok.sub a z)
    · exact List.mem_append_right _ z
  · rcases List.mem_append.mp ha with z | z
    · exact ok.ex a z
    · rw [List.mem_singleton.mp z]; exact ⟨_, hD⟩
  · obtain ⟨Dx, h1, h2, h3⟩ := ok.dw d g e z
    obtain ⟨w1, w2, w3⟩ := hdw d g e z
    exact ⟨Dx, by simp [Sto.push, h1, w1.symm], by simp [Sto.push, h2, w2.symm], by simp [Sto.push, h3, w3.symm]⟩
  · rcases List.mem_append.mp z with z | z
    · exact (ok.hid a (List.mem_cons_of_mem _ ha)).2 z
    · rw [List.mem_singleton.mp z] at ha; exact h1 ha
theorem ev_lc {elt iter : Expr} {ifs : List Expr} {scope : Scope} {fi : Sg → M Src} {g : D → Sg → M Sg} {fe : Sg → M D} (own : List (Str × Nat)) (hN : X.N.Nodup) (ok : BlkOk X.N X.env.scope scope own) (hi : EI c X tg iter fi)
    (hg : ∀ (s : Shared) (H : Hp) (C : Addr) (cl : List (Str × Addr)) (fp : List Addr) (hid : List Addr), EG (c.at hid EF) (X.blk s H scope (compEnvC scope cl C X.env) fp) (own.map (·.2)) tg g)
    (ht : ∀ (s : Shared) (H : Hp) (C : Addr) (cl : List (Str × Addr)) (fp : List Addr) (hid : List Addr), PTs (X.blk s H scope (compEnvC scope cl C X.env) fp) ifs (tT X.K (c.at hid EF) ft))
    (he : ∀ (s : Shared) (H : Hp) (C : Addr) (cl : List (Str × Addr)) (fp : List Addr) (hid : List Addr), EE (c.at hid EF) (X.blk s H scope (compEnvC scope cl C X.env) fp) elt fe) (hc : X.calm = true := by rfl) (hs : ∀ x, foldedSetIterable iter X.env x = pure x := by intro _; rfl) :
    EE c X (.ListComp elt [⟨tg, iter, ifs, 0⟩] scope pos) (fLc (own.map (·.2)) fi g ft fe) := PE.imp (pe_lc (g := tGh X.K c (own.map (·.2)) g) (tt := tTh X.K c ft) (te := tEh X.K c fe) hc hN hi ok (fun s H C cl fp => eh_G (hg s H C cl fp)) (fun s H C cl fp => eh_Ts (ht s H C cl fp)) (fun s H C cl fp => eh_E (he s H C cl fp)) hs) fun σ H Q q => lc_of fin_fz q
theorem ev_lcL {elt iter : Expr} {ifs : List Expr} {scope : Scope} {fi : Sg → M Src} {g : D → Sg → M Sg} {fe : Sg → M D} (own : List (Str × Nat)) (hN : X.N.Nodup) (ok : BlkOk X.N X.env.scope scope own) (hi : EI c X tg iter fi)
    (hg : ∀ (s : Shared) (H : Hp) (C : Addr) (cl : List (Str × Addr)) (fp : List Addr) (hid : List Addr), EG (c.at hid EF) (X.blk s H scope (compEnvC scope cl C X.env) fp) (own.map (·.2)) tg g)
    (ht : ∀ (s : Shared) (H : Hp) (C : Addr) (cl : List (Str × Addr)) (fp : List Addr) (hid : List Addr), PTs (X.blk s H scope (compEnvC scope cl C X.env) fp) ifs (tT X.K (c.at hid EF) ft))
    (he : ∀ (s : Shared) (H : Hp) (C : Addr) (cl : List (Str × Addr)) (fp : List Addr) (hid : List Addr), EE (c.at hid EF) (X.blk s H scope (compEnvC scope cl C X.env) fp) elt fe) (hc : X.calm = true := by rfl) (hs : ∀ x, foldedSetIterable iter X.env x = pure x := by intro _; rfl) :
    EE c X (.ListComp elt [⟨tg, iter, ifs, 0⟩] scope pos) (fLcL (own.map (·.2)) fi g ft fe) := PE.imp (pe_lc (g := tGh X.K c (own.map (·.2)) g) (tt := tTh X.K c ft) (te := tEh X.K c fe) hc hN hi ok (fun s H C cl fp => eh_G (hg s H C cl fp)) (fun s H C cl fp => eh_Ts (ht s H C cl fp)) (fun s H C cl fp => eh_E (he s H C cl fp)) hs) fun σ H Q q => lc_of fin_loc q
theorem es_setLc {elt iter : Expr} {ifs : List Expr} {scope : Scope} {fi : Sg → M Src} {g : D → Sg → M Sg} {fe : Sg → M D} {y : Str} {py spos : Pos} (i : Nat) (own : List (Str × Nat)) (hN : X.N.Nodup) (ok : BlkOk X.N X.env.scope scope own) (hi : EI c X tg iter fi)
    (hg : ∀ (s : Shared) (H : Hp) (C : Addr) (cl : List (Str × Addr)) (fp : List Addr) (hid : List Addr), EG (c.at hid EF) (X.blk s H scope (compEnvC scope cl C X.env) fp) (own.map (·.2)) tg g)
    (ht : ∀ (s : Shared) (H : Hp) (C : Addr) (cl : List (Str × Addr)) (fp : List Addr) (hid : List Addr), PTs (X.blk s H scope (compEnvC scope cl C X.env) fp) ifs (tT X.K (c.at hid EF) ft))
    (he : ∀ (s : Shared) (H : Hp) (C : Addr) (cl : List (Str × Addr)) (fp : List Addr) (hid : List Addr), EE (c.at hid EF) (X.blk s H scope (compEnvC scope cl C X.env) fp) elt fe)
    (hsw : swapsWith (.ListComp elt [⟨tg, iter, ifs, 0⟩] scope pos) (some (.Name y py)) spos.line X.env = pure true) (hy : X.N[i]? = some y := by rfl) (hyl : X.env.scope.names.lookup y = some .local := by rfl) (hc : X.calm = true := by rfl) (hs : ∀ x, foldedSetIterable iter X.env x = pure x := by intro _; rfl) :
    ES c X (.Assign [.Name y py] (.ListComp elt [⟨tg, iter, ifs, 0⟩] scope pos) spos) (sSet i (fLc (own.map (·.2)) fi g ft fe)) := PS.imp (ps_setLc (g := tGh X.K c (own.map (·.2)) g) (tt := tTh X.K c ft) (te := tEh X.K c fe) hc hN hy hyl hsw hi ok (fun s H C cl fp => eh_G (hg s H C cl fp)) (fun s H C cl fp => eh_Ts (ht s H C cl fp)) (fun s H C cl fp => eh_E (he s H C cl fp)) hs) fun E σ H q => by
  refine lc_of (g := g) (fe := fe) (Q := fun x H1 => gName i x σ H1 E.nx) fin_fz ?_
  obtain ⟨ρ, h, s, ok, env, q⟩ := q
  exact ⟨ρ, h, s, ok, env, (M.all_bind.mp q).mono fun ⟨o, h1⟩ q1 ρ1 H1 v l1 ok1 r1 => q1 ρ1 H1 _ l1 ok1 ((env.le l1).set r1)⟩
theorem es_setLcL {elt iter : Expr} {ifs : List Expr} {scope : Scope} {fi : Sg → M Src} {g : D → Sg → M Sg} {fe : Sg → M D} {y : Str} {py spos : Pos} (i : Nat) (own : List (Str × Nat)) (hN : X.N.Nodup) (ok : BlkOk X.N X.env.scope scope own) (hi : EI c X tg iter fi)
    (hg : ∀ (s : Shared) (H : Hp) (C : Addr) (cl : List (Str × Addr)) (fp : List Addr) (hid : List Addr), EG (c.at hid EF) (X.blk s H scope (compEnvC scope cl C X.env) fp) (own.map (·.2)) tg g)
    (ht : ∀ (s : Shared) (H : Hp) (C : Addr) (cl : List (Str × Addr)) (fp : List Addr) (hid : List Addr), PTs (X.blk s H scope (compEnvC scope cl C X.env) fp) ifs (tT X.K (c.at hid EF) ft))
    (he : ∀ (s : Shared) (H : Hp) (C : Addr) (cl : List (Str × Addr)) (fp : List Addr) (hid : List Addr), EE (c.at hid EF) (X.blk s H scope (compEnvC scope cl C X.env) fp) elt fe)
    (hsw : swapsWith (.ListComp elt [⟨tg, iter, ifs, 0⟩] scope pos) (some (.Name y py)) spos.line X.env = pure true) (hy : X.N[i]? = some y := by rfl) (hyl : X.env.scope.names.lookup y = some .local := by rfl) (hc : X.calm = true := by rfl) (hs : ∀ x, foldedSetIterable iter X.env x = pure x := by intro _; rfl) :
    ES c X (.Assign [.Name y py] (.ListComp elt [⟨tg, iter, ifs, 0⟩] scope pos) spos) (sSet i (fLcL (own.map (·.2)) fi g ft fe)) := PS.imp (ps_setLc (g := tGh X.K c (own.map (·.2)) g) (tt := tTh X.K c ft) (te := tEh X.K c fe) hc hN hy hyl hsw hi ok (fun s H C cl fp => eh_G (hg s H C cl fp)) (fun s H C cl fp => eh_Ts (ht s H C cl fp)) (fun s H C cl fp => eh_E (he s H C cl fp)) hs) fun E σ H q => by
  refine lc_of (g := g) (fe := fe) (Q := fun x H1 => gName i x σ H1 E.nx) fin_loc ?_
  obtain ⟨ρ, h, s, ok, env, q⟩ := q
  exact ⟨ρ, h, s, ok, env, (M.all_bind.mp q).mono fun ⟨o, h1⟩ q1 ρ1 H1 v l1 ok1 r1 => q1 ρ1 H1 _ l1 ok1 ((env.le l1).set r1)⟩
end
end Ev

/-! A def by its steps. -/
namespace Ev
open PySem PySem.Spec PyProof.Rows L2 Dr
variable {c : Ct}
def outD : Out → M D
  | .rt d => M.ret d
  | .nx _ => M.ret .non
  | _ => M.bad
def mkF (np nn : Nat) (f : Sg → M Out) : List D → M D := fun xs => if xs.length = np then M.bind (f (xs.map some ++ List.replicate (nn - xs.length) none)) outD else M.bad
theorem env_start {K : PySem.W.Frag} {ρ : Sto} {H : Hp} {xs : List D} {vs : List V} (r : RVs K c H ρ xs vs) (N : List Str) : Env K c H ρ (xs.map some ++ List.replicate (N.length - xs.length) none) (L2.start N vs) := by
  have hl := r.len
  refine ⟨by simp [L2.start, hl], fun i x e => ?_⟩
  by_cases hi : i < xs.length
  · rw [List.getElem?_append_left (by simpa using hi), List.getElem?_map] at e
    cases q : xs[i]? with
    | none => rw [q] at e; cases e
    | some y =>
      rw [q] at e
      simp at e
      subst e
      obtain ⟨v, h1, h2⟩ := r.get q
      refine ⟨v, ?_, h2⟩
      unfold L2.start
      rw [List.getElem?_append_left (by simp; omega), List.getElem?_map, h1]
      rfl
  · rw [List.getElem?_append_right (by simp; omega)] at e
    have := List.mem_of_getElem? e
    rw [List.mem_replicate] at this
    cases this.2
theorem spF_len {K : PySem.W.Frag} {np nn : Nat} {fB : Sg → M Out} {vs : List V} {H : Hp} {Q : VK} {E : XK} (h : spF K c (mkF np nn fB) vs H Q E) : vs.length = np ∧
    ∃ hid ρ h xs, Ok K (c.at hid E) ρ h H ∧ RVs K (c.at hid E) H ρ xs vs ∧ (M.bind (fB (xs.map some ++ List.replicate (nn - xs.length) none)) outD h).All (PV K (c.at hid E) ρ H Q) (PX K (c.at hid E) ρ H) := by
  obtain ⟨hid, ρ, h, xs, ok, r, q⟩ := h
  unfold mkF at q
  by_cases hl : xs.length = np
  · rw [if_pos hl] at q
    exact ⟨r.len.symm.trans hl, hid, ρ, h, xs, ok, r, q⟩
  · rw [if_neg hl] at q
    exact q.elim
theorem spF_run {X : Cx} {N : List Str} {fB : Sg → M Out} {sts : List Stmt} {vs : List V} {H : Hp} {Q : VK} {E : XK}
    (h : ∃ hid ρ h xs, Ok X.K (c.at hid E) ρ h H ∧ RVs X.K (c.at hid E) H ρ xs vs ∧ (M.bind (fB (xs.map some ++ List.replicate (N.length - xs.length) none)) outD h).All (PV X.K (c.at hid E) ρ H Q) (PX X.K (c.at hid E) ρ H)) (b : ∀ hid, ESs (c.at hid E) X sts fB) :
    ∃ t, PSs X sts t ∧ t { nx := fun _ H' => Q .non H', rt := Q } (L2.start N vs) H := by
  obtain ⟨hid, ρ, h, xs, ok, r, q⟩ := h
  refine ⟨_, b hid, ρ, h, _, ok, env_start r N, (M.all_bind.mp q).mono fun ⟨o, h1⟩ q1 => ?_⟩
  cases o with
  | nx s1 => exact fun ρ1 H1 σ1 l1 ok1 _ => q1 ρ1 H1 _ l1 ok1 .non
  | rt d => exact q1
  | bk s1 => exact q1.elim
  | ct s1 => exact q1.elim
/-- errors that leave a body go where the def's errors go -/
abbrev PX' (X : Cx) (E : XK) : Prop := Passes (L2.CX X.prog X.w) X E
theorem pass_body {P : Program} {w : World} {K : PySem.W.Frag} {mg : Str → Option Value} {base : Heap} {N : List Str} {qual : Str} {sc : Scope} {f : Addr} {cd : Value} {A : Around} {outer : List PySem.Env} {s : Shared} {H : Hp} {E : XK} :
    PX' (cxOf (L2.CX P w) P w K mg base N qual sc f cd A outer s H E) E := passes_call (X := cxOf (L2.CX P w) P w K mg base N qual sc f cd A outer s H E) (W := fun cls d _ H => E cls d H) (takes_of rfl rfl rfl rfl) fun _ _ _ _ h => h
theorem pass_EF {X : Cx} : PX' X EF := fun _ _ _ _ _ _ _ h => by
  obtain ⟨_, _, _, _, _, _, _, _, _, _, _, _, z⟩ := h
  exact z.elim
theorem own_body {P : Program} {w : World} {K : PySem.W.Frag} {mg : Str → Option Value} {base : Heap} {N : List Str} {qual : Str} {sc : Scope} {f : Addr} {cd : Value} {A : Around} {outer : List PySem.Env} {s : Shared} {H : Hp} {E : XK} :
    PassesOwn (model P w) (cxOf (L2.CX P w) P w K mg base N qual sc f cd A outer s H E).A (cxOf (L2.CX P w) P w K mg base N qual sc f cd A outer s H E).env (cxOf (L2.CX P w) P w K mg base N qual sc f cd A outer s H E).xe := passes_of rfl
theorem fn_ev {P : Program} {w : World} {K : PySem.W.Frag} {mg : Str → Option Value} {base : Heap} {x qual : Str} {st : Stmt} {f : Addr} {fd : FuncData} {N ps : List Str} {k : Nat} {fB : Sg → M Out} (F : Fun K x qual st f fd) (S : FnScope N ps (defScope st))
    (body : ∀ (cdv : Value) (A : Around) (outer : List PySem.Env) (s : Shared) (H : Hp) (E : XK) (hid : List Addr), Room k (A.deeper (envOfC qual (defScope st) s.heap.objs.size f cdv)) → PX' (cxOf (L2.CX P w) P w K mg base N qual (defScope st) f cdv A outer s H E) E →
      ESs (c.at hid E) (cxOf (L2.CX P w) P w K mg base N qual (defScope st) f cdv A outer s H E) (defBody st) fB) : FnOk P w K mg base (L2.CX P w) (k + 1) f fd ps (spF K c (mkF ps.length N.length fB)) :=
  F.okX S (fun vs H Q E h => (spF_len h).1) (fun cdv A outer s H vs Q E hr h => spF_run (spF_len h).2 fun hid => body cdv A outer s H E hid hr pass_body)
/-- a def that no error leaves -/
theorem fn_calm {P : Program} {w : World} {K : PySem.W.Frag} {mg : Str → Option Value} {base : Heap} {k : Nat} {f : Addr} {fd : FuncData} {ps : List Str} {sp : Sp} {CX : CXT} (F : FnOk P w K mg base CX0 k f fd ps sp) : FnOk P w K mg base CX k f fd ps sp :=
  ⟨F.len, fun A outer s H args us vs Q E hr he hb hv hs => codeAny_mono (F.run A outer s H args us vs Q E hr he hb hv hs) fun r s' hq => by
    cases r with
    | error e => exact False.elim hq
    | ok fl => cases fl with
      | ret u => exact hq
      | next => exact hq
      | brk => exact hq
      | cont => exact hq⟩
/-- the draws -/
def oTake : List D → M D := fun xs h => match xs with
  | [.draw, .int m] => if 0 < m ∧ m < 1000000 then .pick m.toNat fun i => .ret (.int (i : Nat), h) else .bad
  | _ => .bad
theorem op_take {K : PySem.W.Frag} : ∀ vs H Q E, spF K c oTake vs H Q E → spTake vs H Q E := fun vs H Q E ⟨hid, ρ, h, xs, ok, r, q⟩ => by
  unfold oTake at q
  split at q
  · rename_i m
    obtain ⟨v, w, rfl, r1, r2⟩ := vs2 r
    cases r2
    cases r1 with
    | @draw d g e hd =>
      split at q
      · rename_i hm
        obtain ⟨D, n1, n2, n3⟩ := ok.dw _ _ _ hd
        refine ⟨d, g, e, m, rfl, D, hm.1, hm.2, fun i H' h0 hi D' fr => ?_⟩
        have qi := q i.toNat (by omega)
        have apart : ∀ b, b ∈ ρ.a → b ≠ d ∧ b ≠ g := fun b hb => ⟨fun z => n1 (z ▸ hb), fun z => n2 (z ▸ hb)⟩
        have kept : ∀ b, H' b = none → H b = none := fun b hb => by
          cases ho : H b with
          | none => rfl
          | some o =>
            exfalso
            by_cases z1 : b = d
            · obtain ⟨⟨gs, cs, rr, t, hd', hg', hc'⟩, _⟩ := id D'
              rw [z1, hd'] at hb; cases hb
            · by_cases z2 : b = g
              · obtain ⟨⟨gs, cs, rr, t, hd', hg', hc'⟩, _⟩ := id D'
                rw [z2, hg'] at hb; cases hb
              · rw [fr b o z1 z2 ho] at hb; cases hb
        have dlist : ∀ b o, (b = d ∨ b = g) → H b = some o → (∀ xs, o ≠ .tup xs) ∧ ∀ o' u', o ≠ .frz o' u' := by
          obtain ⟨⟨gs, cs, rr, t, hd', hg', hc'⟩, _⟩ := id D
          rintro b o (rfl | rfl) ho
          · rw [hd'] at ho; cases ho; exact ⟨(fun _ => by intro z; cases z), (fun _ _ => by intro z; cases z)⟩
          · rw [hg'] at ho; cases ho; exact ⟨(fun _ => by intro z; cases z), (fun _ _ => by intro z; cases z)⟩
        have l : Le (c.at hid E) ρ H ρ H' := by
          refine ⟨List.prefix_refl _, fun p hp hn => absurd hp hn, fun b o hb hdw ho => ?_, fun b xs ho => ?_, fun b o u ho => ?_, kept⟩
          · obtain ⟨z1, z2⟩ := hdw d g e hd
            exact fr b o z1 z2 ho
          · refine fr b _ (fun z => ?_) (fun z => ?_) ho
            · exact (dlist b _ (.inl z) ho).1 _ rfl
            · exact (dlist b _ (.inr z) ho).1 _ rfl
          · refine fr b _ (fun z => ?_) (fun z => ?_) ho
            · exact (dlist b _ (.inl z) ho).2 _ _ rfl
            · exact (dlist b _ (.inr z) ho).2 _ _ rfl
        have there : ∀ a, (∃ u, H a = some u) → ∃ u, H' a = some u := fun a ⟨u, e⟩ => by
          cases q : H' a with
          | some u => exact ⟨u, rfl⟩
          | none => rw [kept a q] at e; cases e
        have ok' : Ok K (c.at hid E) ρ h H' := by
          refine ⟨ok.len, ok.nd, fun n o a e1 e2 => ?_, ok.lv, ok.sub, fun a ha => there a (ok.ex a ha), fun d' g' e' z => ?_, fun a ha => ⟨there a (ok.hid a ha).1, (ok.hid a ha).2⟩⟩
          · obtain ⟨z1, z2⟩ := apart a (List.mem_of_getElem? e2)
            obtain ⟨u, hu⟩ := ok.ex a (List.mem_of_getElem? e2)
            exact (ok.objs n o a e1 e2).le l ((fr a u z1 z2 hu).trans hu.symm)
          · rw [hd] at z
            cases z
            exact ⟨D', n1, n2, n3⟩
        have := qi ρ H' (.int (i.toNat : Nat)) l ok' (.int _)
        rwa [show ((i.toNat : Nat) : Int) = i by omega] at this
      · exact q.elim
  · exact q.elim
end Ev

/-! Defs, classes, constants of the text, each as one fact. -/
namespace Ev
open PySem PySem.Spec PyProof.Rows L2 Dr
variable {c : Ct}
/-! ### as the top leaves them -/
/-- a def of the module -/
structure GD (K : PySem.W.Frag) (mg : Str → Option Value) (x : Str) (st : Stmt) (ps : List Str) : Prop where
  ex : ∃ (f : Addr) (fd : FuncData), Fun K x x st f fd ∧ mg x = some (.ref f) ∧ L2.Binds K fd ps []
/-- a constant of the module -/
structure GC (K : PySem.W.Frag) (mg : Str → Option Value) (x : Str) (d : D) : Prop where
  ex : ∃ (v : V) (u : Value), mg x = some u ∧ RelV v u ∧ ∀ c H ρ, RV K c H ρ d v
/-- a class with its __init__ -/
structure GI (K : PySem.W.Frag) (mg : Str → Option Value) (C : Addr) (x qual : Str) (st : Stmt) (ps : List Str) : Prop where
  ex : ∃ (f : Addr) (fd : FuncData), Fun K "__init__" qual st f fd ∧ Mk K C f ∧ mg x = some (.ref C) ∧ L2.Binds K fd ps []
/-- a method of a class -/
structure GM (K : PySem.W.Frag) (C : Addr) (m qual : Str) (st : Stmt) (ps : List Str) : Prop where
  ex : ∃ (f : Addr) (fd : FuncData), Fun K m qual st f fd ∧ Meth K C m f ∧ L2.Binds K fd ps []
/-! ### what they do -/
structure Own (P : Program) (w : World) (K : PySem.W.Frag) (mg : Str → Option Value) (base : Heap) (c : Ct) (k : Nat) (x : Str) (F : List D → M D) : Prop where
  ex : ∃ (f : Addr) (fd : FuncData) (ps : List Str), mg x = some (.ref f) ∧ PySem.W.keepIn K (.ref f) = true ∧ FnOk P w K mg base (L2.CX P w) k f fd ps (spF K c F) ∧ L2.Binds K fd ps []
structure OwnD (P : Program) (w : World) (K : PySem.W.Frag) (mg : Str → Option Value) (base : Heap) (c : Ct) (k : Nat) (x : Str) (F : List D → M D) (dds : List D) : Prop where
  ex : ∃ (f : Addr) (fd : FuncData) (ps : List Str) (dvs : List V) (ds : List Value), mg x = some (.ref f) ∧ PySem.W.keepIn K (.ref f) = true ∧ FnOk P w K mg base (L2.CX P w) k f fd ps (spF K c F) ∧ L2.Binds K fd ps ds ∧ Vals dvs ds ∧ ∀ c H ρ, RVs K c H ρ dds dvs
structure OwnI (P : Program) (w : World) (K : PySem.W.Frag) (mg : Str → Option Value) (base : Heap) (c : Ct) (k : Nat) (x : Str) (j : Nat) (F : List D → M D) : Prop where
  ex : ∃ (f : Addr) (fd : FuncData) (ps : List Str), mg x = some (.ref (c.cA j)) ∧ Mk K (c.cA j) f ∧ FnOk P w K mg base (L2.CX P w) k f fd ps (spF K c F) ∧ L2.Binds K fd ps []
structure OwnM (P : Program) (w : World) (K : PySem.W.Frag) (mg : Str → Option Value) (base : Heap) (c : Ct) (k : Nat) (j : Nat) (m : Str) (F : List D → M D) : Prop where
  ex : ∃ (f : Addr) (fd : FuncData) (ps : List Str), Meth K (c.cA j) m f ∧ FnOk P w K mg base (L2.CX P w) k f fd ps (spF K c F) ∧ L2.Binds K fd ps []
section
variable {P : Program} {w : World} {K : PySem.W.Frag} {mg : Str → Option Value} {base : Heap} {x qual m : Str} {st : Stmt} {N ps : List Str} {k j : Nat} {fB : Sg → M Out} {F : List D → M D} {dds : List D} {hid : List Addr} {E : XK}
theorem Own.at (G : Own P w K mg base c k x F) : Own P w K mg base (c.at hid E) k x F := ⟨G.ex⟩
theorem OwnD.at (G : OwnD P w K mg base c k x F dds) : OwnD P w K mg base (c.at hid E) k x F dds := ⟨G.ex⟩
theorem OwnI.at (G : OwnI P w K mg base c k x j F) : OwnI P w K mg base (c.at hid E) k x j F := ⟨G.ex⟩
theorem OwnM.at (G : OwnM P w K mg base c k j m F) : OwnM P w K mg base (c.at hid E) k j m F := ⟨G.ex⟩
theorem Facts.at (F : Facts K c) : Facts K (c.at hid E) := ⟨F.cls, F.nd, F.few, F.inj⟩
theorem KitOk.at {g : Tg} (k : KitOk K c g) : KitOk K (c.at hid E) g := fun t b e hb => by
  have := k t b e hb
  cases t <;> cases g <;> exact this
theorem own_ev (G : GD K mg x st ps) (S : FnScope N ps (defScope st)) (body : ∀ (f : Addr) (cdv : Value) (A : Around) (outer : List PySem.Env) (s : Shared) (H : Hp) (E : XK) (hid : List Addr), Room k (A.deeper (envOfC x (defScope st) s.heap.objs.size f cdv)) → PX' (cxOf (L2.CX P w) P w K mg base N x (defScope st) f cdv A outer s H E) E →
      ESs (c.at hid E) (cxOf (L2.CX P w) P w K mg base N x (defScope st) f cdv A outer s H E) (defBody st) fB) : Own P w K mg base c (k + 1) x (mkF ps.length N.length fB) := by
  obtain ⟨f, fd, F, g, b⟩ := G.ex
  exact ⟨f, fd, ps, g, F.kp, fn_ev F S (body f), b⟩
theorem ownI_ev (G : GI K mg (c.cA j) x qual st ps) (S : FnScope N ps (defScope st)) (body : ∀ (f : Addr) (cdv : Value) (A : Around) (outer : List PySem.Env) (s : Shared) (H : Hp) (E : XK) (hid : List Addr), Room k (A.deeper (envOfC qual (defScope st) s.heap.objs.size f cdv)) → PX' (cxOf (L2.CX P w) P w K mg base N qual (defScope st) f cdv A outer s H E) E →
      ESs (c.at hid E) (cxOf (L2.CX P w) P w K mg base N qual (defScope st) f cdv A outer s H E) (defBody st) fB) : OwnI P w K mg base c (k + 1) x j (mkF ps.length N.length fB) := by
  obtain ⟨f, fd, F, m, g, b⟩ := G.ex
  exact ⟨f, fd, ps, g, m, fn_ev F S (body f), b⟩
theorem ownM_ev (G : GM K (c.cA j) m qual st ps) (S : FnScope N ps (defScope st)) (body : ∀ (f : Addr) (cdv : Value) (A : Around) (outer : List PySem.Env) (s : Shared) (H : Hp) (E : XK) (hid : List Addr), Room k (A.deeper (envOfC qual (defScope st) s.heap.objs.size f cdv)) → PX' (cxOf (L2.CX P w) P w K mg base N qual (defScope st) f cdv A outer s H E) E →
      ESs (c.at hid E) (cxOf (L2.CX P w) P w K mg base N qual (defScope st) f cdv A outer s H E) (defBody st) fB) : OwnM P w K mg base c (k + 1) j m (mkF ps.length N.length fB) := by
  obtain ⟨f, fd, F, m, b⟩ := G.ex
  exact ⟨f, fd, ps, m, fn_ev F S (body f), b⟩
theorem own_take {f : Addr} {fd : FuncData} {ps : List Str} (F : FnOk P w K mg base CX0 k f fd ps spTake) (kp : PySem.W.keepIn K (.ref f) = true) (b : L2.Binds K fd ps []) (g : mg x = some (.ref f)) : Own P w K mg base c k x oTake :=
  ⟨f, fd, ps, g, kp, fn_calm (F.imp op_take), b⟩
end
/-- a def with defaults -/
structure GDD (K : PySem.W.Frag) (mg : Str → Option Value) (x : Str) (st : Stmt) (ps : List Str) (dds : List D) : Prop where
  ex : ∃ (f : Addr) (fd : FuncData) (dvs : List V) (ds : List Value), FunD K x x (defArgs st) (defBody st) (defScope st) dvs [] f fd ∧ mg x = some (.ref f) ∧ L2.Binds K fd ps ds ∧ Vals dvs ds ∧ ∀ c H ρ, RVs K c H ρ dds dvs
theorem ownD_ev {P : Program} {w : World} {K : PySem.W.Frag} {mg : Str → Option Value} {base : Heap} {x : Str} {st : Stmt} {N ps : List Str} {k : Nat} {fB : Sg → M Out} {dds : List D} (G : GDD K mg x st ps dds) (S : FnScope N ps (defScope st))
    (body : ∀ (f : Addr) (cdv : Value) (A : Around) (outer : List PySem.Env) (s : Shared) (H : Hp) (E : XK) (hid : List Addr), Room k (A.deeper (envOfC x (defScope st) s.heap.objs.size f cdv)) → PX' (cxOf (L2.CX P w) P w K mg base N x (defScope st) f cdv A outer s H E) E →
      ESs (c.at hid E) (cxOf (L2.CX P w) P w K mg base N x (defScope st) f cdv A outer s H E) (defBody st) fB) : OwnD P w K mg base c (k + 1) x (mkF ps.length N.length fB) dds := by
  obtain ⟨f, fd, dvs, ds, F, g, b, r, rr⟩ := G.ex
  refine ⟨f, fd, ps, dvs, ds, g, F.kp, F.ok S (fun vs H Q E h => ?_) (fun cdv A outer s H vs Q E hr h => ?_), b, r, rr⟩
  · exact (spF_len h).1
  · exact spF_run (spF_len h).2 fun hid => body f cdv A outer s H E hid hr pass_body
section
variable {X : Cx} {e o : Expr} {es : List Expr} {fa : Sg → M D} {fr : Sg → M (List D)} {pos p apos : Pos} {x m : Str} {k j : Nat} {F : List D → M D}
theorem ev_const {d : D} (g : GC X.K X.mg x d) (hg : Gl X x := by rfl) (hd : (x == ("__debug__" : Str)) = false := by decide) : EE c X (.Name x pos) (fC d) := by
  obtain ⟨v, u, h1, h2, h3⟩ := g.ex
  exact ev_glob h1 h2 (h3 c) hg hd
/-- a call over the caller's store -/
theorem op_own {K : PySem.W.Frag} {F : List D → M D} : OpN K c (fun vs H Q => spF K c F vs H Q c.E) F := fun {ρ h H xs vs Q} ok r q => ⟨c.hid, ρ, h, xs, ok, r, q⟩
theorem ev_own (G : Own X.prog X.w X.K X.mg X.base c k x F) (hr : Room k X.A) (px : PX' X c.E) (ha : EA c X (e :: es) fr) (hg : Gl X x := by rfl) (hdb : (x == ("__debug__" : Str)) = false := by decide)
    (he : starEach (e :: es) X.env = (false, eval e X.env) :: starEach es X.env := by rfl) (hpl : (backTo pos (starEach es X.env)).any (·.1) = false := by rfl) : EE c X (.Call (.Name x p) (e :: es) [] pos) (fN F fr) := by
  obtain ⟨f, fd, ps, g, kp, H, b⟩ := G.ex
  refine PE.imp (pe_call H hr hg g kp b .nil px ha hdb he hpl) fun σ H Q q => ?_
  exact tA_N (r := fun vs H Q => spF X.K c F (vs ++ []) H Q c.E) (fun {ρ h H xs vs Q} ok r q => by dsimp only; rw [List.append_nil]; exact op_own ok r q) q
theorem ev_ownD {dds : List D} (G : OwnD X.prog X.w X.K X.mg X.base c k x F dds) (hr : Room k X.A) (px : PX' X c.E) (ha : EA c X (e :: es) fr) (hg : Gl X x := by rfl) (hdb : (x == ("__debug__" : Str)) = false := by decide)
    (he : starEach (e :: es) X.env = (false, eval e X.env) :: starEach es X.env := by rfl) (hpl : (backTo pos (starEach es X.env)).any (·.1) = false := by rfl) : EE c X (.Call (.Name x p) (e :: es) [] pos) (fN (fun xs => F (xs ++ dds)) fr) := by
  obtain ⟨f, fd, ps, dvs, ds, g, kp, H, b, r, rr⟩ := G.ex
  refine PE.imp (pe_call H hr hg g kp b r px ha hdb he hpl) fun σ H Q q => ?_
  exact tA_N (r := fun vs H Q => spF X.K c F (vs ++ dvs) H Q c.E) (fun {ρ h H xs vs Q} ok r q => op_own ok (r.append (rr _ _ _)) q) q
theorem ev_pureD {dds : List D} (G : OwnD X.prog X.w X.K X.mg X.base c k x F dds) (hr : Room k X.A) (px : PX' X c.E) (ha : EA c X (e :: es) fr) (hg : Gl X x := by rfl) (hdb : (x == ("__debug__" : Str)) = false := by decide)
    (he : starEach (e :: es) X.env = (false, eval e X.env) :: starEach es X.env := by rfl) (hpl : (backTo pos (starEach es X.env)).any (·.1) = false := by rfl) : EE c X (.Call (.Name x p) (e :: es) [] pos) (fN (fun xs => oPure F (xs ++ dds)) fr) := by
  obtain ⟨f, fd, ps, dvs, ds, g, kp, H, b, r, rr⟩ := G.ex
  refine PE.imp (pe_call H hr hg g kp b r px ha hdb he hpl) fun σ H Q q => ?_
  exact tA_N (r := fun vs H Q => spF X.K c F (vs ++ dvs) H Q c.E) (fun {ρ h H xs vs Q} ok r q => op_pure ok (r.append (rr _ _ _)) q) q
theorem ev_pure (G : Own X.prog X.w X.K X.mg X.base c k x F) (hr : Room k X.A) (px : PX' X c.E) (ha : EA c X (e :: es) fr) (hg : Gl X x := by rfl) (hdb : (x == ("__debug__" : Str)) = false := by decide)
    (he : starEach (e :: es) X.env = (false, eval e X.env) :: starEach es X.env := by rfl) (hpl : (backTo pos (starEach es X.env)).any (·.1) = false := by rfl) : EE c X (.Call (.Name x p) (e :: es) [] pos) (fN (oPure F) fr) := by
  obtain ⟨f, fd, ps, g, kp, H, b⟩ := G.ex
  refine PE.imp (pe_call H hr hg g kp b .nil px ha hdb he hpl) fun σ H Q q => ?_
  exact tA_N (r := fun vs H Q => spF X.K c F (vs ++ []) H Q c.E) (fun {ρ h H xs vs Q} ok r q => by dsimp only; rw [List.append_nil]; exact op_pure ok r q) q
theorem ev_pureT (G : Own X.prog X.w X.K X.mg X.base c k x F) (hr : Room k X.A) (px : PX' X c.E) (ha : EA c X (e :: es) fr) (hg : Gl X x := by rfl) (hdb : (x == ("__debug__" : Str)) = false := by decide)
    (he : starEach (e :: es) X.env = (false, eval e X.env) :: starEach es X.env := by rfl) (hpl : (backTo pos (starEach es X.env)).any (·.1) = false := by rfl) : EE c X (.Call (.Name x p) (e :: es) [] pos) (fN (oPureT F) fr) := by
  obtain ⟨f, fd, ps, g, kp, H, b⟩ := G.ex
  refine PE.imp (pe_call H hr hg g kp b .nil px ha hdb he hpl) fun σ H Q q => ?_
  exact tA_N (r := fun vs H Q => spF X.K c F (vs ++ []) H Q c.E) (fun {ρ h H xs vs Q} ok r q => by dsimp only; rw [List.append_nil]; exact op_pureT ok r q) q
theorem ev_mk {n : Nat} (hj : j < c.n) (G : OwnI X.prog X.w X.K X.mg X.base c k x j F) (hr : Room (k + 1) X.A) (px : PX' X c.E) (ha : EA c X (e :: es) fr) (hg : Gl X x := by rfl) (hdb : (x == ("__debug__" : Str)) = false := by decide)
    (he : starEach (e :: es) X.env = (false, eval e X.env) :: starEach es X.env := by rfl) (hpl : (backTo pos (starEach es X.env)).any (·.1) = false := by rfl) : EE c X (.Call (.Name x p) (e :: es) [] pos) (fN (oMk j n F) fr) := by
  obtain ⟨f, fd, ps, g, m, H, b⟩ := G.ex
  refine PE.imp (pe_make m H hr hg g b .nil px ha hdb he hpl) fun σ H Q q => ?_
  obtain ⟨ρ, h, s, ok, env, q⟩ := q
  exact ⟨ρ, h, s, ok, env, (M.all_bind.mp q).mono fun ⟨x, h1⟩ q1 ρ1 H1 v l1 ok1 r1 => by dsimp only; rw [List.append_nil]; exact op_mk hj ok1 r1 (Tr.All.le l1 q1 fun r q => q.le l1)⟩
/-- o.m(e, ..) of a frozen instance, over a store of its own -/
def fMth (op : List D → M D) (fo : Sg → M D) (fa : Sg → M (List D)) (k : Nat) : Sg → M D := fun s => M.bind (fo s) fun x => M.bind (fun h => match insD h x with
  | some (j, fs) => if j = k then .ret ((), h) else .bad
  | none => .bad) fun _ => M.bind (fa s) fun xs => op (x :: xs)
end
/-! a chain as a test -/
section
variable {X : Cx} {pos : Pos}
variable {a b d : Expr} {fa fb fc : Sg → M D}
theorem et_chain {op op' : CmpOp} {r r' : R2} {p p' : Cmp} (ho : OpR X (compareOp op) r) (ho' : OpR X (compareOp op') r') (hs : CmpS X.K c r p) (hs' : CmpS X.K c r' p') (ha : EE c X a fa) (hb : EE c X b fb) (hd : EE c X d fc) (hm : lastMarks [op, op'] [b, d] = false := by with_unfolding_all rfl) :
    ET c X (.Compare a [op, op'] [b, d] pos) (tChainF p p' fa fb fc) :=
  PT.imp (pt_chain ho ho' ha hb hd hm) fun σ H Q q => by
    have q2 := tE_b q
    obtain ⟨ρ, h, s, ok, env, q⟩ := q2
    refine ⟨ρ, h, s, ok, env, (M.all_bind.mp q).mono fun ⟨x, h1⟩ q1 ρ1 H1 v l1 ok1 r1 => ?_⟩
    refine ⟨ρ1, h1, s, ok1, env.le l1, Tr.All.le l1 (M.all_bind.mp q1) fun ⟨y, h2⟩ q2 ρ2 H2 w l2 ok2 r2 => ?_⟩
    have q2 := M.all_bind.mp q2
    dsimp only [cmpB] at q2
    split at q2
    · rename_i k hk
      refine hs ok2 (r1.le l2) r2 hk ⟨k, rfl, ?_⟩
      replace q2 : ((if k = true then M.bind (fc s) fun z => cmpV p' y z else M.ret (.bl false)) h2).All (PV X.K c ρ H fun x H1 => ∃ k, x = .bl k ∧ Q k H1) (PX X.K c ρ H) := q2
      by_cases hk : k = true
      · rw [if_pos hk] at q2 ⊢
        refine ⟨ρ2, h2, s, ok2, env.le (l1.trans l2), Tr.All.le (l1.trans l2) (M.all_bind.mp q2) fun ⟨z, h3⟩ q3 ρ3 H3 u l3 ok3 r3 => ?_⟩
        exact hs'.v ok3 (r2.le l3) r3 (Tr.All.le (l1.trans (l2.trans l3)) q3 fun r q => q.le (l1.trans (l2.trans l3)))
      · rw [if_neg hk] at q2 ⊢
        exact q2 ρ2 H2 _ (l1.trans l2) ok2 (.bl false)
    · exact q2.elim
end
theorem units65 {k : Nat} {A : Around} (r : Room k A) : A.units + 65 < cLine := by have := r.un; omega
theorem units1 {k : Nat} {A : Around} (r : Room k A) : A.units + 1 < cLine := by have := r.un; omega
end Ev

/-! Dicts with ints and texts as keys; all the additions; more built-ins. -/
namespace Ev
open PySem PySem.Spec PyProof.Rows L2 Dr
variable {c : Ct}
/-! ### all the additions, all the products -/
def oAdd (mk : List D → M D) : D → D → M D := fun x y => match x with
  | .int _ => oI (fun _ _ => true) (fun i j => i + j) x y
  | .tup _ => oCatT x y
  | _ => oCatL mk x y
theorem op_addAll {K : PySem.W.Frag} {mk : List D → M D} (m : MkOk K c mk) : Op2 K c (fun x y H Q => (rI0 (fun i j => .int (i + j)) x y H Q) ∨ (rCatA K x y H Q ∨ rCat x y H Q)) (oAdd mk) := fun {ρ h H x y v w Q} ok r1 r2 q => by
  unfold oAdd at q
  split at q
  · exact .inl (op_I0 ok r1 r2 q)
  · exact .inr (.inl (op_catTup ok r1 r2 q))
  · exact .inr (.inr (op_catLst m ok r1 r2 q))
theorem opr_add {X : Cx} : OpR X (binaryOp .Add) (fun x y H Q => (rI0 (fun i j => .int (i + j)) x y H Q) ∨ (rCatA X.K x y H Q ∨ rCat x y H Q)) := OpR.or op_add (OpR.or op_catA op_cat)
def pMul : Int → Int → Bool := fun i j => (decide (-(2 ^ 64) < i) && decide (i < 2 ^ 64)) || (decide (-(2 ^ 64) < j) && decide (j < 2 ^ 64))
theorem pMul_ok (i j : Int) (h : pMul i j = true) : CMul i j := by
  unfold pMul at h
  rcases Bool.or_eq_true_iff.mp h with h | h
  · have := Bool.and_eq_true_iff.mp h
    exact .inl ⟨of_decide_eq_true this.1, of_decide_eq_true this.2⟩
  · have := Bool.and_eq_true_iff.mp h
    exact .inr ⟨of_decide_eq_true this.1, of_decide_eq_true this.2⟩
def oMul (mk : List D → M D) : D → D → M D := fun x y => match x with
  | .int _ => oI pMul (fun i j => i * j) x y
  | _ => oRep mk x y
theorem op_mulAll {K : PySem.W.Frag} {mk : List D → M D} (m : MkOk K c mk) : Op2 K c (fun x y H Q => rI CMul (fun i j => .int (i * j)) x y H Q ∨ rRep x y H Q) (oMul mk) := fun {ρ h H x y v w Q} ok r1 r2 q => by
  unfold oMul at q
  split at q
  · exact .inl (op_I pMul_ok ok r1 r2 q)
  · exact .inr (op_repLst m ok r1 r2 q)
theorem opr_mul {X : Cx} : OpR X (binaryOp .Mult) (fun x y H Q => rI CMul (fun i j => .int (i * j)) x y H Q ∨ rRep x y H Q) := OpR.or op_mul op_rep
/-! ### numbers -/
def pNz : Int → Int → Bool := fun _ j => decide (j ≠ 0)
theorem pNz_ok (i j : Int) (h : pNz i j = true) : j ≠ 0 := of_decide_eq_true h
def pDiv : Int → Int → Bool := fun _ j => decide (j ≠ 0) && decide (j.natAbs < 1073741824)
theorem pDiv_ok (i j : Int) (h : pDiv i j = true) : CDivN i j := by
  have := Bool.and_eq_true_iff.mp h
  exact ⟨of_decide_eq_true this.1, of_decide_eq_true this.2⟩
/-! ### keys -/
def toK : D → Option Key
  | .int i => some (.inl i)
  | .str z => some (.inr z)
  | _ => none
theorem toK_ok {K : PySem.W.Frag} {ρ : Sto} {H : Hp} {x : D} {k : Key} {v : V} (e : toK x = some k) (r : RV K c H ρ x v) : v = kV k := by
  cases r <;> simp only [toK] at e <;> cases e <;> rfl
def valD (kvs : List (Key × D)) (k : Key) : Option D := (kvs.find? fun kv => decide (kv.1 = k)).map (·.2)
def putD (kvs : List (Key × D)) (k : Key) (v : D) : List (Key × D) :=
  if (kvs.any fun kv => decide (kv.1 = k)) = true then kvs.map (fun kv => if kv.1 = k then (kv.1, v) else kv) else kvs ++ [(k, v)]
def mergeD (kvs more : List (Key × D)) : List (Key × D) := more.foldl (fun acc kv => putD acc kv.1 kv.2) kvs
/-- the pairs of a dict and those of the store -/
structure RK (K : PySem.W.Frag) (c : Ct) (H : Hp) (ρ : Sto) (kvs : List (Key × D)) (kws : List (Key × V)) : Prop where
  ks : kws.map (·.1) = kvs.map (·.1)
  vs : RVs K c H ρ (kvs.map (·.2)) (kws.map (·.2))
section
variable {K : PySem.W.Frag} {ρ : Sto} {H : Hp}
theorem RK.cons_inv {k : Key} {x : D} {kvs : List (Key × D)} {kws : List (Key × V)} (r : RK K c H ρ ((k, x) :: kvs) kws) : ∃ v kws', kws = (k, v) :: kws' ∧ RV K c H ρ x v ∧ RK K c H ρ kvs kws' := by
  cases kws with
  | nil => have := r.ks; simp at this
  | cons q qs =>
    obtain ⟨a, b⟩ := q
    have h1 := r.ks
    simp at h1
    obtain ⟨rfl, h1⟩ := h1
    have h2 := r.vs
    simp at h2
    cases h2 with
    | cons h3 h4 => exact ⟨_, _, rfl, h3, ⟨h1, h4⟩⟩
theorem RK.cons {k : Key} {x : D} {v : V} {kvs : List (Key × D)} {kws : List (Key × V)} (r1 : RV K c H ρ x v) (r : RK K c H ρ kvs kws) : RK K c H ρ ((k, x) :: kvs) ((k, v) :: kws) :=
  ⟨by simp [r.ks], by simp; exact .cons r1 r.vs⟩
theorem RK.nil : RK K c H ρ [] [] := ⟨rfl, .nil⟩
theorem RK.nil_inv {kws : List (Key × V)} (r : RK K c H ρ [] kws) : kws = [] := by
  have := r.ks
  simpa using this
theorem RK.append : ∀ {kvs kvs2 : List (Key × D)} {kws kws2 : List (Key × V)}, RK K c H ρ kvs kws → RK K c H ρ kvs2 kws2 → RK K c H ρ (kvs ++ kvs2) (kws ++ kws2)
  | [], _, _, _, r, s => by rw [r.nil_inv]; exact s
  | (k, x) :: kvs, _, _, _, r, s => by
    obtain ⟨v, kws', rfl, r1, r2⟩ := r.cons_inv
    exact .cons r1 (RK.append r2 s)
theorem RK.len : ∀ {kvs : List (Key × D)} {kws : List (Key × V)}, RK K c H ρ kvs kws → kvs.length = kws.length := fun r => by
  have := congrArg List.length r.ks
  simpa using this.symm
theorem RK.val : ∀ {kvs : List (Key × D)} {kws : List (Key × V)} (k : Key), RK K c H ρ kvs kws → (valD kvs k = none ∧ L2.valV kws k = none) ∨ ∃ x v, valD kvs k = some x ∧ L2.valV kws k = some v ∧ RV K c H ρ x v
  | [], _, k, r => by rw [r.nil_inv]; exact .inl ⟨rfl, rfl⟩
  | (k0, x) :: kvs, _, k, r => by
    obtain ⟨v, kws', rfl, r1, r2⟩ := r.cons_inv
    by_cases h : k0 = k
    · exact .inr ⟨x, v, by simp [valD, List.find?_cons, h], L2.valV_pos (p := (k0, v)) h, r1⟩
    · rw [L2.valV_neg (p := (k0, v)) h, show valD ((k0, x) :: kvs) k = valD kvs k by simp [valD, List.find?_cons, h]]
      exact RK.val k r2
theorem RK.mapPut {k : Key} {y : D} {w : V} (r0 : RV K c H ρ y w) : ∀ {kvs : List (Key × D)} {kws : List (Key × V)}, RK K c H ρ kvs kws → RK K c H ρ (kvs.map fun kv => if kv.1 = k then (kv.1, y) else kv) (kws.map fun kv => if kv.1 = k then (kv.1, w) else kv)
  | [], _, r => by rw [r.nil_inv]; exact .nil
  | (k0, x) :: kvs, _, r => by
    obtain ⟨v, kws', rfl, r1, r2⟩ := r.cons_inv
    rw [List.map_cons, List.map_cons]
    by_cases h : k0 = k
    · rw [if_pos h, if_pos h]; exact .cons r0 (RK.mapPut r0 r2)
    · rw [if_neg h, if_neg h]; exact .cons r1 (RK.mapPut r0 r2)
theorem RK.any {k : Key} : ∀ {kvs : List (Key × D)} {kws : List (Key × V)}, RK K c H ρ kvs kws → (kvs.any fun kv => decide (kv.1 = k)) = (kws.any fun kv => decide (kv.1 = k))
  | [], _, r => by rw [r.nil_inv]; rfl
  | (k0, x) :: kvs, _, r => by
    obtain ⟨v, kws', rfl, r1, r2⟩ := r.cons_inv
    rw [List.any_cons, List.any_cons, RK.any r2]
theorem RK.put {k : Key} {y : D} {w : V} (r0 : RV K c H ρ y w) {kvs : List (Key × D)} {kws : List (Key × V)} (r : RK K c H ρ kvs kws) : RK K c H ρ (putD kvs k y) (L2.putK kws k w) := by
  unfold putD L2.putK
  rw [r.any]
  split
  · exact r.mapPut r0
  · exact r.append (.cons r0 .nil)
theorem RK.merge : ∀ {more : List (Key × D)} {ms : List (Key × V)} {kvs : List (Key × D)} {kws : List (Key × V)}, RK K c H ρ kvs kws → RK K c H ρ more ms → RK K c H ρ (mergeD kvs more) (L2.mergeK kws ms)
  | [], _, _, _, r, s => by rw [s.nil_inv]; exact r
  | (k0, x) :: more, _, _, _, r, s => by
    obtain ⟨v, kws', rfl, r1, r2⟩ := s.cons_inv
    show RK K c H ρ (mergeD (putD _ k0 x) more) (L2.mergeK (L2.putK _ k0 v) kws')
    exact RK.merge (r.put r1) r2
theorem RK.le {ρ1 : Sto} {H1 : Hp} (l : Le c ρ H ρ1 H1) {kvs : List (Key × D)} {kws : List (Key × V)} (r : RK K c H ρ kvs kws) : RK K c H1 ρ1 kvs kws := ⟨r.ks, r.vs.le l⟩
theorem RK.zip {ks : List Key} {xs : List D} {kws : List (Key × V)} (h1 : kws.map (·.1) = ks) (h2 : RVs K c H ρ xs (kws.map (·.2))) : RK K c H ρ (ks.zip xs) kws := by
  have hl : ks.length = xs.length := by rw [← h1, h2.len]; simp
  refine ⟨?_, ?_⟩
  · rw [List.map_fst_zip (by omega)]; exact h1
  · rw [List.map_snd_zip (by omega)]; exact h2
theorem RK.of {ks : List Key} {xs : List D} {a : Addr} (r : RO K c H ρ (.dK ks xs) a) : ∃ kws, H a = some (.dK kws) ∧ RK K c H ρ (ks.zip xs) kws := by
  obtain ⟨kws, h1, h2, h3⟩ := r
  exact ⟨kws, h1, .zip h2 h3⟩
/-- a dict of the store by its pairs -/
def dkO (kvs : List (Key × D)) : O := .dK (kvs.map (·.1)) (kvs.map (·.2))
theorem RK.to {kvs : List (Key × D)} {kws : List (Key × V)} {a : Addr} (e : H a = some (.dK kws)) (r : RK K c H ρ kvs kws) : RO K c H ρ (dkO kvs) a := ⟨kws, e, r.ks, r.vs⟩
end
/-- the pairs of a dict -/
def dctD (h : List O) : D → Option (List (Key × D))
  | .dct ks xs => some (ks.zip xs)
  | .loc n => match h[n]? with
    | some (.dK ks xs) => some (ks.zip xs)
    | _ => none
  | _ => none
theorem dctD_ok {K : PySem.W.Frag} {ρ h H x v kvs} (ok : Ok K c ρ h H) (r : RV K c H ρ x v) (e : dctD h x = some kvs) : ∃ a kws, v = .ref a ∧ Rd H a (.dK kws) ∧ RK K c H ρ kvs kws := by
  unfold dctD at e
  split at e
  · cases e
    cases r with
    | dct h1 _ h2 h3 => exact ⟨_, _, rfl, h1, .zip h2 h3⟩
  · split at e
    · rename_i hx
      cases e
      cases r with
      | loc g1 =>
        obtain ⟨kws, e1, e2⟩ := RK.of (ok.objs _ _ _ hx g1)
        exact ⟨_, _, rfl, .inl e1, e2⟩
    · cases e
  · cases e
/-! ### o[i] -/
def rIxD (x y : V) (H : Hp) (Q : VK) : Prop := ∃ a v, x = .ref a ∧ DGet H a y (some v) ∧ Q v H
theorem ix_dict {X : Cx} (hu : X.A.units + 1 < cLine) : IxR X rIxD := by
  intro value slice pins s σ H x y v u Q I rx ry h hs
  obtain ⟨a, z, ex, g, q⟩ := h
  subst ex
  obtain rfl : v = Value.ref a := rx
  have hT := dict_typeIs I g
  have h₂ := d_getItem (E := X.xe) hu I g ry fun w' s' I' rw' => (⟨z, H, I', rw', q⟩ : EP X pins σ Q w' s')
  unfold subscriptTail
  refine wpAny_bind ?_
  rw [getitemInPython_of_ne hT.not_modules]
  refine wpAny_bind (wpAny_specialOf hT PySem.F.slot_dict_getitem.lookup ?_)
  have fin : wpAny (model X.prog X.w) X.A (subscripted slice false (.ref a) u) (fun r s₃ => wpAny (model X.prog X.w) X.A (letTemporaryGo value (.ref a) r >>= fun _ => pure r) (EP X pins σ Q) X.xe s₃) X.xe s := by
    rw [hs]
    exact wpAny_operating (wpAny_mono h₂ (fun r s₃ h₃ => wpAny_bind (wpAny_letTemporaryGo (wpAny_pure h₃))) fun _ _ x => x)
  first
    | exact wpAny_pure (wpAny_bind fin)
    | exact wpAny_bind (wpAny_pure (wpAny_bind fin))
    | exact wpAny_bind fin
theorem dget {H : Hp} {a : Addr} {kws : List (Key × V)} {k : Key} (r : Rd H a (.dK kws)) : DGet H a (kV k) (valV kws k) := .inl ⟨_, _, r, rfl, rfl⟩
def oGet : D → D → M D := fun x y h => match dctD h x with
  | some kvs => match toK y with
    | some k => match valD kvs k with
      | some z => .ret (z, h)
      | none => .bad
    | none => .bad
  | none => oIx x y h
theorem op_get {K : PySem.W.Frag} : Op2 K c (fun x y H Q => (rIxL K x y H Q ∨ rIxT K x y H Q) ∨ rIxD x y H Q) oGet := fun {ρ h H x y v w Q} ok r1 r2 q => by
  unfold oGet at q
  split at q
  · rename_i kvs hx
    split at q
    · rename_i k hk
      split at q
      · rename_i z hz
        obtain ⟨a, kws, rfl, e1, e2⟩ := dctD_ok ok r1 hx
        have := toK_ok hk r2
        subst this
        rcases e2.val k with ⟨e3, _⟩ | ⟨x, v, e3, e4, e5⟩
        · rw [hz] at e3; cases e3
        · rw [hz] at e3; cases e3
          exact .inr ⟨_, v, rfl, by rw [← e4]; exact dget e1, q ρ H _ .refl ok e5⟩
      · exact q.elim
    · exact q.elim
  · exact .inl (op_ix ok r1 r2 q)
/-! ### o[i] = v -/
def oPut (o i v : D) : M Unit := fun h => match o with
  | .loc n => match h[n]? with
    | some (.dK ks xs) => match toK i with
      | some k => if ks.length < lim then .ret ((), h.set n (dkO (putD (ks.zip xs) k v))) else .bad
      | none => .bad
    | some (.lst xs) => match i with
      | .int j => match ixN xs.length j with
        | some m => .ret ((), h.set n (.lst (xs.set m v)))
        | none => .bad
      | _ => .bad
    | _ => .bad
  | _ => .bad
theorem set_any {X : Cx} (hu : X.A.units + 1 < cLine) : PSet X (fun o i v H Q => rSetL o i v H Q ∨ rSetD o i v H Q) := by
  intro pins s σ H o i v ov iv u Q I ro ri rv h
  rcases h with h | h
  · exact set_list pins s σ H o i v ov iv u Q I ro ri rv h
  · exact set_dict hu pins s σ H o i v ov iv u Q I ro ri rv h
theorem op_put {K : PySem.W.Frag} {ρ h H} {x i y : D} {v j w : V} {Q : Hp → Prop} {Y : XP} (ok : Ok K c ρ h H) (r1 : RV K c H ρ x v) (r2 : RV K c H ρ i j) (r3 : RV K c H ρ y w)
    (q : (oPut x i y h).All (fun r => ∀ ρ' H', Le c ρ H ρ' H' → Ok K c ρ' r.2 H' → Q H') Y) : rSetL v j w H Q ∨ rSetD v j w H Q := by
  unfold oPut at q
  split at q
  · rename_i n
    cases r1 with
    | loc g1 =>
      split at q
      · rename_i ks xs hx
        split at q
        · rename_i k hk
          split at q
          · rename_i hl
            obtain ⟨kws, e1, e2⟩ := RK.of (ok.objs _ _ _ hx g1)
            obtain ⟨_, z1, z2, z3⟩ := ok.objs _ _ _ hx g1
            rw [e1] at z1; cases z1
            have := toK_ok hk r2
            subst this
            obtain ⟨l, ok1⟩ := ok.put (u := .dK (L2.putK kws k w)) (o := dkO (putD (ks.zip xs) k y)) hx (by simp) g1 fun H1 l e => RK.to e ((e2.le l).put (r3.le l))
            exact .inr ⟨_, _, rfl, DPut.k e1 (by have : kws.length = ks.length := by rw [← z2]; simp
                                                 rw [this]; exact lim_line (Nat.le_of_lt hl)), q _ _ l ok1⟩
          · exact q.elim
        · exact q.elim
      · rename_i xs hx
        split at q
        · rename_i m
          split at q
          · rename_i m hm
            cases r2
            obtain ⟨us, e1, e2⟩ := ok.objs _ _ _ hx g1
            obtain ⟨l, ok1⟩ := ok.put (u := .lst (us.set m w)) (o := .lst (xs.set m y)) hx (by simp) g1 fun H1 l e => ⟨_, e, (e2.le l).set (r3.le l) m⟩
            exact .inl ⟨_, us, _, m, rfl, rfl, e1, by rw [← e2.len]; exact hm, q _ _ l ok1⟩
          · exact q.elim
        · exact q.elim
      · exact q.elim
  · exact q.elim
def gSub (fo fi : Sg → M D) : D → Sg → M Sg := fun x s => M.bind (fo s) fun o => M.bind (fi s) fun i => M.bind (oPut o i x) fun _ => M.ret s
section
variable {X : Cx} {e a b d o i : Expr} {es : List Expr} {fa fb fo fi : Sg → M D} {fr : Sg → M (List D)} {pos p p1 : Pos} {vs : List Nat}
theorem ev_get (hu : X.A.units + 1 < cLine) (ha : EE c X a fa) (hb : EE c X b fb) (hs : PlainIx b := by exact fun _ _ => rfl) : EE c X (.Subscript a b pos) (f2 oGet fa fb) :=
  PE.imp (pe_ix (IxR.or (IxR.or ix_list ix_tup) (ix_dict hu)) ha hb hs) fun σ H Q q => tE_2 op_get q
theorem eg_sub (hu : X.A.units + 1 < cLine) (ho : EE c X o fo) (hi : EE c X i fi) (ha : ∀ v, assign (.Subscript o i pos) X.env v = (do
      let ov ← holding [v] (eval o X.env)
      let iv ← holding [v, ov] (eval i X.env)
      standAt pos
      holding [v, ov, iv] (setItem ov iv v)
      release [v, ov, iv] []) := by intro _; rfl) : EG c X vs (.Subscript o i pos) (gSub fo fi) :=
  PG.imp (pg_sub ho hi (set_any hu) ha) fun v σ H Q ⟨ρ, h, s, y, ok, env, r, q⟩ => by
    refine ⟨ρ, h, s, ok, env, (M.all_bind.mp q).mono fun ⟨x, h1⟩ q1 ρ1 H1 v1 l1 ok1 r1 => ?_⟩
    refine ⟨ρ1, h1, s, ok1, env.le l1, Tr.All.le l1 (M.all_bind.mp q1) fun ⟨z, h2⟩ q2 ρ2 H2 v2 l2 ok2 r2 => ?_⟩
    refine op_put ok2 (r1.le l2) r2 (r.le (l1.trans l2)) ((M.all_bind.mp q2).mono fun ⟨_, h3⟩ q3 ρ3 H3 l3 ok3 => ?_)
    have l := l1.trans (l2.trans l3)
    exact q3 ρ3 H3 σ l ok3 (env.le l) rfl
/-! ### displays -/
theorem ev_dnew : EE c X (.Dict [] [] pos) (fun _ h => .ret (.loc h.length, h ++ [.dK [] []])) := PE.imp pe_dnewK fun σ H Q ⟨ρ, h, s, ok, env, q⟩ p np => by
  obtain ⟨l, ok1⟩ := ok.push (u := .dK []) (o := .dK [] []) np fun H1 l e => RK.to (kvs := []) e .nil
  exact q _ _ _ l ok1 (.loc (by rw [← ok.len]; simp [Sto.push]))
def fPNil : Sg → M (List (Key × D)) := fun _ => M.ret []
def asK (x : D) : M Key := fun h => match toK x with
  | some k => .ret (k, h)
  | none => .bad
def fPCons (fk fv : Sg → M D) (fr : Sg → M (List (Key × D))) : Sg → M (List (Key × D)) := fun s => M.bind (fk s) fun x => M.bind (asK x) fun k => M.bind (fv s) fun y => M.bind (fr s) fun r => M.ret ((k, y) :: r)
def EPs (c : Ct) (X : Cx) (pos : Pos) (keys : List (Option Expr)) (values : List Expr) (f : Sg → M (List (Key × D))) : Prop := ∃ trs, PPs X pos keys values trs ∧ ∀ σ H Q, (∃ ρ h s, Ok X.K c ρ h H ∧ Env X.K c H ρ s σ ∧
  (f s h).All (fun r => ∀ ρ' H' kws, Le c ρ H ρ' H' → Ok X.K c ρ' r.2 H' → RK X.K c H' ρ' r.1 kws → Q (kws.map fun kv => (kV kv.1, kv.2)) H') (PX X.K c ρ H)) → tPairs trs σ H Q
theorem epp_nil : EPs c X pos [] [] fPNil := ⟨[], pps_nil, fun σ H Q ⟨ρ, h, s, ok, env, q⟩ => q ρ H [] .refl ok .nil⟩
theorem epp_cons {k v : Expr} {ks : List (Option Expr)} {vs : List Expr} {fk fv : Sg → M D} {fr : Sg → M (List (Key × D))} (hk : EE c X k fk) (hv : EE c X v fv) (hr : EPs c X pos ks vs fr) : EPs c X pos (some k :: ks) (v :: vs) (fPCons fk fv fr) := by
  obtain ⟨trs, h1, h2⟩ := hr
  refine ⟨_, pps_cons hk hv h1, fun σ H Q ⟨ρ, h, s, ok, env, q⟩ => ?_⟩
  refine ⟨ρ, h, s, ok, env, (M.all_bind.mp q).mono fun ⟨x, h1⟩ q1 ρ1 H1 v1 l1 ok1 r1 => ?_⟩
  have q1 := M.all_bind.mp q1
  dsimp only [asK] at q1
  split at q1
  · rename_i k0 hk0
    have := toK_ok hk0 r1
    subst this
    have q1 := M.all_bind.mp q1
    refine ⟨ρ1, h1, s, ok1, env.le l1, Tr.All.le l1 q1 fun ⟨y, h2'⟩ q2 ρ2 H2 v2 l2 ok2 r2 => ?_⟩
    refine h2 _ _ _ ⟨ρ2, h2', s, ok2, env.le (l1.trans l2), Tr.All.le (l1.trans l2) (M.all_bind.mp q2) fun ⟨ps, h3⟩ q3 ρ3 H3 kws l3 ok3 r3 => ?_⟩
    exact q3 ρ3 H3 ((k0, v2) :: kws) (l1.trans (l2.trans l3)) ok3 (.cons (r2.le l3) r3)
  · exact q1.elim
def fDisp (fr : Sg → M (List (Key × D))) : Sg → M D := fun s h => (fr s (h ++ [.dK [] []])).bind fun r => match r.2[h.length]? with
  | some (.dK [] []) => if r.1.length ≤ 15 then .ret (.loc h.length, r.2.set h.length (dkO (mergeD [] r.1))) else .bad
  | _ => .bad
theorem ev_disp {keys : List (Option Expr)} {values : List Expr} {fr : Sg → M (List (Key × D))} (hp : EPs c X pos keys values fr) (hall : keys.all (·.isSome) = true := by rfl) (hl : keys.length = values.length := by rfl) (h0 : keys ≠ [] := by simp)
    (h15 : keys.length ≤ 15 := by decide) : EE c X (.Dict keys values pos) (fDisp fr) := by
  obtain ⟨trs, h1, h2⟩ := hp
  refine PE.imp (pe_disp h1 hall hl h0 h15) fun σ H Q ⟨ρ, h, s, ok, env, q⟩ p np => ?_
  obtain ⟨l, ok1⟩ := ok.push (u := .dK []) (o := .dK [] []) np fun H1 l e => RK.to (kvs := []) e .nil
  have hp : (ρ.push p).a[h.length]? = some p := by rw [← ok.len]; simp [Sto.push]
  refine h2 _ _ _ ⟨_, _, s, ok1, env.le l, Tr.All.le l (Tr.all_bind.mp q) fun ⟨ps, h3⟩ q3 ρ3 H3 kws l3 ok3 r3 => ?_⟩
  dsimp only at q3
  split at q3
  · rename_i hd
    split at q3
    · rename_i h15
      have hp3 := pre_get l3.pre hp
      obtain ⟨kw0, e1, e2⟩ := RK.of (ok3.objs _ _ _ hd hp3)
      rw [RK.nil_inv (kws := kw0) (by simpa using e2)] at e1
      refine ⟨e1, kws, rfl, by rw [← r3.len]; exact h15, ?_⟩
      obtain ⟨l4, ok4⟩ := ok3.put (u := .dK (L2.mergeK [] kws)) (o := dkO (mergeD [] ps)) hd (by simp) hp3 fun H1 l e => RK.to e (RK.merge .nil (r3.le l))
      exact q3 _ _ _ (l.trans (l3.trans l4)) ok4 (.loc (pre_get l4.pre hp3))
    · exact q3.elim
  · exact q3.elim
/-! ### in -/
def rInDk (neg : Bool) : R2 := fun x y H Q => ∃ a o, y = .ref a ∧ DGet H a x o ∧ Q (.bl (neg != o.isSome)) H
theorem op_in_dk (hu : X.A.units + 1 < cLine) : OpR X (compareOp .In) (rInDk false) := by
  intro pins s σ H x y v u Q I rx ry h
  obtain ⟨a, o, ey, g, q⟩ := h
  subst ey
  obtain rfl : u = Value.ref a := ry
  refine d_in hu I g rx fun s' I' => ⟨.bl o.isSome, H, I', rfl, ?_⟩
  simpa using q
theorem op_notIn_dk (hu : X.A.units + 1 < cLine) : OpR X (compareOp .NotIn) (rInDk true) := by
  intro pins s σ H x y v u Q I rx ry h
  obtain ⟨a, o, ey, g, q⟩ := h
  subst ey
  obtain rfl : u = Value.ref a := ry
  refine d_notIn hu I g rx fun s' I' => ⟨.bl (!o.isSome), H, I', rfl, ?_⟩
  simpa using q
def pInA (neg : Bool) : Cmp := fun h x y => match dctD h y with
  | some kvs => match toK x with
    | some k => some (neg != (valD kvs k).isSome)
    | none => none
  | none => match y with
    | .tup _ => pInT neg h x y
    | _ => if neg = true then pIn (fun b => !b) h x y else pIn (fun b => b) h x y
theorem cmp_inA {K : PySem.W.Frag} : CmpS K c (fun x y H Q => (rIn K false x y H Q ∨ rInD K x y H Q) ∨ rInDk false x y H Q) (pInA false) := fun {ρ h H x y v w Q b} ok r1 r2 e q => by
  unfold pInA at e
  split at e
  · rename_i kvs hx
    split at e
    · rename_i k hk
      cases e
      obtain ⟨a, kws, rfl, e1, e2⟩ := dctD_ok ok r2 hx
      have := toK_ok hk r1
      subst this
      refine .inr ⟨_, _, rfl, dget e1, ?_⟩
      rcases e2.val k with ⟨e3, e4⟩ | ⟨x, v, e3, e4, e5⟩
      · rw [e3] at q; rw [e4]; exact q
      · rw [e3] at q; rw [e4]; exact q
    · cases e
  · split at e
    · exact .inl (.inl (cmp_inT false ok r1 r2 e q))
    · rw [if_neg (by decide)] at e
      exact .inl (.inr (cmp_in ok r1 r2 e q))
theorem cmp_notInA {K : PySem.W.Frag} : CmpS K c (fun x y H Q => (rIn K true x y H Q ∨ rNotInD K x y H Q) ∨ rInDk true x y H Q) (pInA true) := fun {ρ h H x y v w Q b} ok r1 r2 e q => by
  unfold pInA at e
  split at e
  · rename_i kvs hx
    split at e
    · rename_i k hk
      cases e
      obtain ⟨a, kws, rfl, e1, e2⟩ := dctD_ok ok r2 hx
      have := toK_ok hk r1
      subst this
      refine .inr ⟨_, _, rfl, dget e1, ?_⟩
      rcases e2.val k with ⟨e3, e4⟩ | ⟨x, v, e3, e4, e5⟩
      · rw [e3] at q; rw [e4]; exact q
      · rw [e3] at q; rw [e4]; exact q
    · cases e
  · split at e
    · exact .inl (.inl (cmp_inT true ok r1 r2 e q))
    · rw [if_pos rfl] at e
      exact .inl (.inr (cmp_notIn ok r1 r2 e q))
theorem opr_in (hu : X.A.units + 65 < cLine) : OpR X (compareOp .In) (fun x y H Q => (rIn X.K false x y H Q ∨ rInD X.K x y H Q) ∨ rInDk false x y H Q) := OpR.or (OpR.or op_in_seq (op_inD hu)) (op_in_dk (by omega))
theorem opr_notIn (hu : X.A.units + 65 < cLine) : OpR X (compareOp .NotIn) (fun x y H Q => (rIn X.K true x y H Q ∨ rNotInD X.K x y H Q) ∨ rInDk true x y H Q) := OpR.or (OpR.or op_notIn_seq (op_notInD hu)) (op_notIn_dk (by omega))
/-! ### three names at once -/
def sPar3 (i j k : Nat) (fr : Sg → M (List D)) : Sg → M Out := fun s => M.bind (fr s) fun xs => match xs with
  | [x, y, z] => M.ret (.nx (((s.set i (some x)).set j (some y)).set k (some z)))
  | _ => M.bad
/-! ### len, dict -/
def oLenA : List D → M D := fun xs h => match xs with
  | [.loc n] => match h[n]? with
    | some (.dK ks _) => .ret (.int ks.length, h)
    | _ => oLen xs h
  | _ => oLen xs h
theorem op_lenA {K : PySem.W.Frag} : OpN K c (fun xs H Q => (∃ x n, xs = [x] ∧ LenV K x H n ∧ Q (.int n) H) ∨ ∃ a kvs, xs = [V.ref a] ∧ H a = some (.dK kvs) ∧ Q (.int kvs.length) H) oLenA := fun {ρ h H xs vs Q} ok r q => by
  unfold oLenA at q
  split at q
  · split at q
    · rename_i hx
      obtain ⟨v, rfl, r1⟩ := vs1 r
      cases r1 with
      | loc g1 =>
        obtain ⟨kws, e1, e2, e3⟩ := ok.objs _ _ _ hx g1
        refine .inr ⟨_, kws, rfl, e1, ?_⟩
        have := q ρ H (.int _) .refl ok (.int _)
        rw [← e2] at this
        simpa using this
    · exact .inl (op_len ok r q)
  · exact .inl (op_len ok r q)
theorem callr_len : CallR X (.builtin "len") (fun xs H Q => (∃ x n, xs = [x] ∧ LenV X.K x H n ∧ Q (.int n) H) ∨ ∃ a kvs, xs = [V.ref a] ∧ H a = some (.dK kvs) ∧ Q (.int kvs.length) H) := CallR.or call_len call_lenD
def oDict : List D → M D := fun xs h => match xs with
  | [x] => match dctD h x with
    | some kvs => .ret (.loc h.length, h ++ [dkO kvs])
    | _ => .bad
  | _ => .bad
theorem op_dict {K : PySem.W.Frag} : OpN K c (fun xs H Q => ∃ (a : Addr) (kvs : List (Key × V)), xs = [.ref a] ∧ Rd H a (.dK kvs) ∧ ∀ p, H p = none → Q (.ref p) (upd H p (.dK kvs))) oDict := fun {ρ h H xs vs Q} ok r q => by
  unfold oDict at q
  split at q
  · split at q
    · rename_i kvs hx
      obtain ⟨v, rfl, r1⟩ := vs1 r
      obtain ⟨a, kws, rfl, e1, e2⟩ := dctD_ok ok r1 hx
      refine ⟨_, kws, rfl, e1, fun p np => ?_⟩
      obtain ⟨l, ok1⟩ := ok.push (u := .dK kws) (o := dkO kvs) np fun H1 l e => RK.to e (e2.le l)
      exact q _ _ _ l ok1 (.loc (by rw [← ok.len]; simp [Sto.push]))
    · exact q.elim
  · exact q.elim
/-! ### xs[::-1] -/
def oRev (mk : List D → M D) : D → M D := fun x h => match lstD h x with
  | some xs => if xs.length ≤ lim then mk xs.reverse h else .bad
  | none => .bad
theorem ev_rev {mk : List D → M D} {k : Nat} {q1 q2 q3 : Pos} (m : MkOk X.K c mk) (ha : EE c X a fa) : EE c X (.Subscript a (.Slice none none (some (.UnaryOp .USub (.Constant (.int 1) k q1) q2)) q3) pos) (f1 (oRev mk) fa) := PE.imp (pe_revL ha) fun σ H Q ⟨ρ, h, s, ok, env, q⟩ => by
  refine ⟨ρ, h, s, ok, env, (M.all_bind.mp q).mono fun ⟨x, h1⟩ q1 ρ1 H1 v l1 ok1 r1 => ?_⟩
  unfold oRev at q1
  dsimp only at q1
  split at q1
  · rename_i xs hx
    split at q1
    · obtain ⟨a, vs, rfl, e1, e2⟩ := lstD_ok ok1 r1 hx
      exact ⟨_, _, rfl, SqL.of e1, (m.go ok1 e2.reverse (Tr.All.le l1 q1 fun r q => q.le l1)).2⟩
    · exact q1.elim
  · exact q1.elim
#print rSortedI
#check @RVs.reverse
#check @op_list
#print axioms op_bls
#check @op_bls
#check @bls_ok
end
end Ev

/-! Walks of a dict (locked meanwhile); truth; isinstance of two types; sorted ints; while. -/
namespace Ev
open PySem PySem.Spec PyProof.Rows L2 Dr
variable {c : Ct}
/-! ### locking -/
/-- the object at a is known in another way, all else stands -/
structure Swp (H H1 : Hp) (a : Addr) : Prop where
  ne : ∀ b o, b ≠ a → H b = some o → H1 b = some o
  rd : ∀ u, (∀ o' u', u ≠ .frz o' u') → Rd H a u → Rd H1 a u
  no : ∀ o, H a = some o → (∀ vs, o ≠ .lst vs) ∧ (∀ C dx fs, o ≠ .ins C dx fs) ∧ (∀ e, o ≠ .xd e) ∧ (∀ cls od, o ≠ Ek.ExK cls od a) ∧ (∀ vs, o ≠ .tup vs)
  fz : ∀ o vs, H a ≠ some (.frz o (.tup vs))
section
variable {K : PySem.W.Frag} {ρ : Sto} {H H1 : Hp} {a : Addr}
theorem Swp.at (s : Swp H H1 a) {b : Addr} {o : HO} (e : H b = some o) (n : b = a → False) : H1 b = some o := s.ne b o n e
theorem Swp.rds (s : Swp H H1 a) {b : Addr} {u : HO} (n : ∀ o' u', u ≠ .frz o' u') (r : Rd H b u) : Rd H1 b u := by
  by_cases q : b = a
  · subst q; exact s.rd u n r
  · rcases r with r | ⟨o, r⟩
    · exact .inl (s.ne b _ q r)
    · exact .inr ⟨o, s.ne b _ q r⟩
theorem Swp.sq (s : Swp H H1 a) {b : Addr} {xs : List V} (r : SqT K H b xs) : SqT K H1 b xs := by
  rcases r with r | r
  · exact .inl (s.rds (fun _ _ z => by cases z) r)
  · exact .inr r
theorem tdO_frz {P : Program} {w : World} {a : Addr} {ks : List (NestedKey × Addr)} {vs : List V} : ∀ o' u', tdO P w a ks vs ≠ .frz o' u' := fun _ _ z => by unfold tdO at z; cases z
mutual
theorem RV.swp (s : Swp H H1 a) : ∀ (x : D) (v : V), RV K c H ρ x v → RV K c H1 ρ x v
  | .non, _, h => by cases h; exact .non
  | .bl b, _, h => by cases h; exact .bl b
  | .int b, _, h => by cases h; exact .int b
  | .str b, _, h => by cases h; exact .str b
  | .tup xs, _, h => by
    cases h with
    | tup h1 h2 => exact .tup (s.sq h1) (RVs.swp s xs _ h2)
  | .lst xs, _, h => by
    cases h with
    | lst h1 o h2 => exact .lst (s.at h1 fun z => by subst z; exact (s.no _ h1).1 _ rfl) o (RVs.swp s xs _ h2)
  | .dct ks xs, _, h => by
    cases h with
    | dct h1 o e h2 => exact .dct (s.rds (fun _ _ z => by cases z) h1) o e (RVs.swp s xs _ h2)
  | .tct ks xs, _, h => by
    cases h with
    | tct h1 o e h2 h3 => exact .tct (s.rds tdO_frz h1) o e (RVs.swp s ks _ h2) (RVs.swp s xs _ h3)
  | .loc n, _, h => by
    cases h with
    | loc h1 => exact .loc h1
  | .draw, _, h => by
    cases h with
    | draw h1 => exact .draw h1
  | .ins k fs, _, h => by
    cases h with
    | ins h1 o hk h2 => exact .ins (s.at h1 fun z => by subst z; exact (s.no _ h1).2.1 _ _ _ rfl) o hk (RVs.swp s fs _ h2)
  | .exn k fs, _, h => by
    cases h with
    | exn h1 o hk hf h2 =>
      refine .exn (s.at h1 fun z => by subst z; exact (s.no _ h1).2.2.2.1 _ _ rfl) o hk (fun z => ?_) (RVs.swp s fs _ h2)
      obtain ⟨dd, z1, z2, z3⟩ := hf z
      exact ⟨dd, z1, s.at z2 fun z => by subst z; exact (s.no _ z2).2.2.1 _ rfl, z3⟩
theorem RVs.swp (s : Swp H H1 a) : ∀ (xs : List D) (vs : List V), RVs K c H ρ xs vs → RVs K c H1 ρ xs vs
  | [], _, h => by cases h; exact .nil
  | x :: xs, _, h => by
    cases h with
    | cons h1 h2 => exact .cons (RV.swp s x _ h1) (RVs.swp s xs _ h2)
end
theorem RO.swp (s : Swp H H1 a) {o : O} {b : Addr} (n : o ≠ .dead → b ≠ a) (h : RO K c H ρ o b) : RO K c H1 ρ o b := by
  cases o with
  | lst xs => obtain ⟨vs, h1, h2⟩ := h; exact ⟨vs, s.ne _ _ (n (by simp)) h1, RVs.swp s _ _ h2⟩
  | dK ks xs => obtain ⟨vs, h1, h2, h3⟩ := h; exact ⟨vs, s.ne _ _ (n (by simp)) h1, h2, RVs.swp s _ _ h3⟩
  | tD ks xs => obtain ⟨kas, vs, h1, h2, h3, h4⟩ := h; exact ⟨kas, vs, s.ne _ _ (n (by simp)) h1, h2, RVs.swp s _ _ h3, RVs.swp s _ _ h4⟩
  | ins k fs => obtain ⟨dx, vs, h1, h2, h3⟩ := h; exact ⟨dx, vs, s.ne _ _ (n (by simp)) h1, h2, RVs.swp s _ _ h3⟩
  | dead => trivial
theorem Swp.there (s : Swp H H1 a) (e : ∃ u, H1 a = some u) {b : Addr} (h : ∃ u, H b = some u) : ∃ u, H1 b = some u := by
  by_cases q : b = a
  · subst q; exact e
  · obtain ⟨u, h⟩ := h; exact ⟨u, s.ne _ _ q h⟩
theorem Ok.swp (s : Swp H H1 a) (e : ∃ u, H1 a = some u) {h : List O} (na : a ∉ ρ.l) (ok : Ok K c ρ h H) (nd : ∀ d g e, c.dw = some (d, g, e) → a ≠ d ∧ a ≠ g) : Ok K c ρ h H1 where
  len := ok.len
  nd := ok.nd
  objs := fun n o b e1 e2 => (ok.objs n o b e1 e2).swp s fun z => fun q => na (by rw [← q]; exact ok.lv n o b e1 e2 z)
  lv := ok.lv
  sub := ok.sub
  ex := fun b hb => s.there e (ok.ex b hb)
  dw := fun d g e z => by
    obtain ⟨D, h1⟩ := ok.dw d g e z
    obtain ⟨n1, n2⟩ := nd d g e z
    refine ⟨D.keep fun b o hb eb => s.ne b o (fun q => ?_) eb, h1⟩
    subst q
    obtain ⟨⟨gs, cs, r, t, hd, hg, hc⟩, _⟩ := id D
    rcases hb with rfl | rfl | rfl
    · exact n1 rfl
    · exact n2 rfl
    · rw [hc] at eb; cases eb; exact (s.no _ hc).1 _ rfl
  hid := fun b hb => ⟨s.there e (ok.hid b hb).1, (ok.hid b hb).2⟩
theorem Env.swp (s : Swp H H1 a) {z : Sg} {σ : L2.St} (e : Env K c H ρ z σ) : Env K c H1 ρ z σ := ⟨e.1, fun i x h => let ⟨v, h1, h2⟩ := e.2 i x h; ⟨v, h1, RV.swp s _ _ h2⟩⟩
theorem swp_lock {u : HO} {od : Obj} (e : H a = some u) (nu : ∀ o' u', u ≠ .frz o' u') (no : (∀ vs, u ≠ .lst vs) ∧ (∀ C dx fs, u ≠ .ins C dx fs) ∧ (∀ e, u ≠ .xd e) ∧ (∀ cls od, u ≠ Ek.ExK cls od a) ∧ (∀ vs, u ≠ .tup vs)) : Swp H (upd H a (.frz od u)) a where
  ne := fun b o n e => by rw [upd_ne n]; exact e
  rd := fun v n r => by
    rcases r with r | ⟨o, r⟩
    · rw [e] at r; cases r; exact .inr ⟨od, upd_same⟩
    · rw [e] at r; cases r; exact absurd rfl (nu _ _)
  no := fun o z => by rw [e] at z; cases z; exact no
  fz := fun o vs z => by rw [e] at z; cases z; exact absurd rfl (nu _ _)
theorem swp_open {u : HO} {od : Obj} (e : H a = some (.frz od u)) (nu : ∀ vs, u ≠ .tup vs) : Swp H (upd H a u) a where
  ne := fun b o n e => by rw [upd_ne n]; exact e
  rd := fun v n r => by
    rcases r with r | ⟨o, r⟩
    · rw [e] at r; cases r; exact absurd rfl (n _ _)
    · rw [e] at r; cases r; exact .inl upd_same
  no := fun o z => by
    rw [e] at z; cases z
    exact ⟨(fun _ => by intro z; cases z), (fun _ _ _ => by intro z; cases z), (fun _ => by intro z; cases z), (fun _ _ => by intro z; unfold Ek.ExK at z; cases z), (fun _ => by intro z; cases z)⟩
  fz := fun o vs z => by rw [e] at z; cases z; exact nu _ rfl
/-- back behind the lock -/
theorem Le.open {ρ' : Sto} {H' : Hp} {u : HO} {od : Obj} (e : H a = some u) (nu : ∀ o' u', u ≠ .frz o' u') (nt : ∀ vs, u ≠ .tup vs) (l : Le c ρ (upd H a (.frz od u)) ρ' H') (e' : H' a = some (.frz od u)) : Le c ρ H ρ' (upd H' a u) where
  pre := l.pre
  new := fun p hp hn => by
    have := l.new p hp hn
    by_cases q : p = a
    · rw [q, upd_same] at this; cases this
    · rw [upd_ne q] at this; exact this
  fr := fun b o hb hd eb => by
    by_cases q : b = a
    · rw [q] at eb ⊢; rw [upd_same]; exact e.symm.trans eb
    · rw [upd_ne q]; exact l.fr b o hb hd (by rw [upd_ne q]; exact eb)
  tups := fun b xs eb => by
    by_cases q : b = a
    · rw [q, e] at eb; cases eb; exact absurd rfl (nt _)
    · rw [upd_ne q]; exact l.tups b xs (by rw [upd_ne q]; exact eb)
  frzs := fun b o z eb => by
    by_cases q : b = a
    · rw [q, e] at eb; cases eb; exact absurd rfl (nu _ _)
    · rw [upd_ne q]; exact l.frzs b o z (by rw [upd_ne q]; exact eb)
  kept := fun b eb => by
    by_cases q : b = a
    · rw [q, upd_same] at eb; cases eb
    · rw [upd_ne q] at eb
      have := l.kept b eb
      rwa [upd_ne q] at this
end
/-! ### for x in d, d a slot with a dict by content -/
def kD : Key → D
  | .inl i => .int i
  | .inr z => .str z
theorem kD_ok {K : PySem.W.Frag} {ρ : Sto} {H : Hp} (k : Key) : RV K c H ρ (kD k) (kV k) := by
  cases k with
  | inl i => exact .int i
  | inr z => exact .str z
def getK (ks : List Key) : Nat → List O → Option (Option D) := fun i _ => some (match ks[i]? with
  | some k => some (kD k)
  | none => none)
theorem feed_keys {K : PySem.W.Frag} {ρ : Sto} {H : Hp} {a : Addr} {od : Obj} {kws : List (Key × V)} {ks : List Key} (e : H a = some (.frz od (.dK kws))) (hk : kws.map (·.1) = ks) : Feed K c (Itk a od kws) (getK ks) ρ H := fun hid E ρ1 h1 H1 i hh l ok => by
  have e1 := l.frzs _ _ _ e
  subst hk
  refine ⟨fun z => ?_, fun x z => ?_⟩
  · unfold getK at z
    cases q : (kws.map (·.1))[i]? with
    | some y => rw [q] at z; cases z
    | none => exact ⟨e1, by simpa using List.getElem?_eq_none_iff.mp q⟩
  · unfold getK at z
    cases q : (kws.map (·.1))[i]? with
    | none => rw [q] at z; cases z
    | some y =>
      rw [q] at z
      cases z
      have hi : i < kws.length := by simpa using (List.getElem?_eq_some_iff.mp q).1
      refine ⟨⟨e1, hi⟩, fun w H' yl => ?_⟩
      obtain ⟨rfl, k, v, e2, rfl⟩ := yl
      have : y = k := by
        rw [List.getElem?_map, e2] at q
        simpa using q.symm
      subst this
      exact ⟨.refl, ok, kD_ok _⟩
section
variable {X : Cx} {tg e a b d : Expr} {es : List Expr} {fa fb : Sg → M D} {ft fu : Sg → M Bool} {fr : Sg → M (List D)} {pos p p1 p2 : Pos}
theorem for_loop {g : D → Sg → M Sg} {fb : Sg → M Out} {S : Src} {J : It} {E : Ends} {vs : List Nat} {ρ1 : Sto} {H1 : Hp} {h1 : List O} {s : Sg} {σ : L2.St} (ok1 : Ok X.K c ρ1 h1 H1) (env : Env X.K c H1 ρ1 s σ) (feed : Feed X.K c J S.get ρ1 H1)
    (q : (loop S.get (fun x s => M.bind (g x s) fb) S.fuel 0 s h1).All (PD X.K c ρ1 H1 E) (PX X.K c ρ1 H1)) :
    ∃ W : Nat → Nat → L2.St → Hp → Prop, (∃ m, W 0 m σ H1) ∧ ∀ (i m : Nat) (σ : L2.St) (H : Hp), W i m σ H → J.stop i H ∧ E.nx σ H ∨ J.go i H ∧ ∃ N : L2.St → Hp → Prop, (∀ σ' H', N σ' H' → ∃ m', m' < m ∧ W (i + 1) m' σ' H') ∧
      ∀ (x : V) (H' : Hp), J.yld i H x H' → tGt X.K c vs g x σ H' fun σ2 H2 => tS X.K c fb { nx := N, rt := E.rt, bk := E.nx, ct := N } σ2 H2 := by
  refine ⟨fun i m σ2 H2 => ∃ ρ2 h2 s2, Le c ρ1 H1 ρ2 H2 ∧ Ok X.K c ρ2 h2 H2 ∧ Env X.K c H2 ρ2 s2 σ2 ∧ (loop S.get (fun x s => M.bind (g x s) fb) m i s2 h2).All (PD X.K c ρ2 H2 E) (PX X.K c ρ2 H2), ⟨S.fuel, ρ1, h1, s, .refl, ok1, env, q⟩, ?_⟩
  rintro i m σ2 H2 ⟨ρ2, h2, s2, l2, ok2, env2, q2⟩
  obtain ⟨F1, F2⟩ := feed c.hid c.E ρ2 h2 H2 i (fun b z => .inl z) l2 ok2
  rcases hget : S.get i h2 with _ | _ | x
  · cases m <;> (simp only [loop, hget] at q2; exact q2.elim)
  · refine .inl ⟨F1 hget, ?_⟩
    cases m <;> (simp only [loop, hget] at q2; exact q2 ρ2 H2 σ2 .refl ok2 env2)
  · cases m with
    | zero => simp only [loop, hget] at q2; exact q2.elim
    | succ m =>
      simp only [loop, hget] at q2
      obtain ⟨go, F3⟩ := F2 x hget
      refine .inr ⟨go, fun σ3 H3 => ∃ ρ3 h3 s3, Le c ρ1 H1 ρ3 H3 ∧ Ok X.K c ρ3 h3 H3 ∧ Env X.K c H3 ρ3 s3 σ3 ∧ (loop S.get (fun x s => M.bind (g x s) fb) m (i + 1) s3 h3).All (PD X.K c ρ3 H3 E) (PX X.K c ρ3 H3), fun σ3 H3 z => ⟨m, Nat.lt_succ_self _, z⟩, fun v H3 y => ?_⟩
      obtain ⟨l3, ok3, r3⟩ := F3 v H3 y
      have q3 := M.all_bind.mp (Tr.all_bind.mp q2)
      refine ⟨ρ2, h2, s2, x, ok3, env2.le l3, r3, Tr.All.le l3 q3 fun ⟨s4, h4⟩ q4 ρ4 H4 σ4 l4 ok4 env4 _ => ?_⟩
      have l24 := l3.trans l4
      refine ⟨ρ4, h4, s4, ok4, env4, Tr.All.le l24 q4 fun ⟨o, h5⟩ q5 => ?_⟩
      cases o with
      | nx s5 => exact fun ρ5 H5 σ5 l5 ok5 env5 => ⟨ρ5, h5, s5, l2.trans (l24.trans l5), ok5, env5, Tr.All.le (l24.trans l5) q5 fun r q => q.le (l24.trans l5)⟩
      | ct s5 => exact fun ρ5 H5 σ5 l5 ok5 env5 => ⟨ρ5, h5, s5, l2.trans (l24.trans l5), ok5, env5, Tr.All.le (l24.trans l5) q5 fun r q => q.le (l24.trans l5)⟩
      | rt y => exact fun ρ5 H5 v l5 ok5 r5 => q5 ρ5 H5 v (l24.trans l5) ok5 r5
      | bk s5 => exact fun ρ5 H5 v l5 ok5 r5 => q5 ρ5 H5 v (l24.trans l5) ok5 r5
theorem ps_or {st : Stmt} {t u : TS} (h : PS X st t) (h2 : PS X st u) : PS X st (fun D σ H => t D σ H ∨ u D σ H) := ⟨fun pins s σ H D I q => q.elim (h.run pins s σ H D I) (h2.run pins s σ H D I)⟩
/-- a slot's value by content, then the statement -/
theorem es_fz {st : Stmt} {f : Sg → M Out} (i : Nat) (h : ES c X st f) : ES c X st (sSeq (sFz i) f) := PS.imp h fun E σ H ⟨ρ, hh, s, ok, env, q⟩ => by
  have q := M.all_bind.mp q
  unfold sFz at q
  split at q
  · rename_i x hx
    split at q
    · rename_i y h1 hy
      obtain ⟨v, g1, g2⟩ := env.2 i x hx
      obtain ⟨ρ1, a1, l1, ok1, r1, _⟩ := (frzK_ok far ρ hh x y h1 v ok hy g2).ex
      have env1 : Env X.K c H ρ1 (s.set i (some y)) σ := by
        have := (env.le l1).set (i := i) r1
        have e : σ.set i (some v) = σ := by
          obtain ⟨z1, z2⟩ := List.getElem?_eq_some_iff.mp g1
          rw [← z2, List.set_getElem_self]
        rwa [e] at this
      exact ⟨ρ1, h1, _, ok1, env1, Tr.All.le l1 q fun r q => q.le l1⟩
    · exact q.elim
  · exact q.elim
def sForK (i : Nat) (g : D → Sg → M Sg) (fb : Sg → M Out) : Sg → M Out := fun s h => match s[i]? with
  | some (some (.dct ks _)) => (loop (getK ks) (fun x s => M.bind (g x s) fb) ks.length 0 s h).calm
  | _ => .bad
theorem es_forK {x : Str} {body : List Stmt} {g : D → Sg → M Sg} {fb : Sg → M Out} (i : Nat) (vs : List Nat) (hg : EG c X vs tg g) (hb : ESs c X body fb) (hN : X.N[i]? = some x := by rfl) (hv : Vis X.env.scope x := by first | exact Or.inl rfl | exact Or.inr (Or.inl rfl) | exact Or.inr (Or.inr rfl))
    (hd : (x == ("__debug__" : Str)) = false := by decide) (hcd : (x == ("__classdict__" : Str)) = false := by decide) (hp : PassesOwn (model X.prog X.w) X.A X.env X.xe := by exact PassesOwn.never) (hc : X.calm = true := by rfl)
    (hs : ∀ y, foldedSetIterable (.Name x p1) X.env y = pure y := by intro _; rfl) : ES c X (.For tg (.Name x p1) body [] pos) (sForK i g fb) :=
  PS.imp (ps_or (ps_lock (ps_for hp hc (pi_keys (pe_var hN hv hd hcd)) hg hb hs)) (ps_for hp hc (pi_keys (pe_var hN hv hd hcd)) hg hb hs)) fun E σ H ⟨ρ, h, s, ok, env, q⟩ => by
    unfold sForK at q
    split at q
    · rename_i ks xs hx
      obtain ⟨v, g1, g2⟩ := env.2 i _ hx
      cases g2 with
      | @dct ad kws _ _ r0 off ek rv =>
        have q0 := q
        have q := Tr.all_calm (Y := PX X.K c ρ H) q
        rcases r0 with r0 | ⟨od, r0⟩
        · refine .inl ⟨ad, .dK kws, r0, trivial, fun od => ?_⟩
          have nu : ∀ o' u', HO.dK kws ≠ .frz o' u' := fun _ _ z => by cases z
          have nt : ∀ vs, HO.dK kws ≠ .tup vs := fun _ z => by cases z
          have sw := swp_lock (od := od) r0 nu ⟨(fun _ => by intro z; cases z), (fun _ _ _ => by intro z; cases z), (fun _ => by intro z; cases z), (fun _ _ => by intro z; unfold Ek.ExK at z; cases z), nt⟩
          have okL : Ok X.K c ρ h (upd H ad (.frz od (.dK kws))) := ok.swp sw ⟨_, upd_same⟩ off.st fun d g e z => off.dw d g e z
          have envL := env.swp sw
          refine ⟨_, g1, ad, od, rfl, .inl ⟨kws, upd_same, ?_⟩⟩
          refine for_loop (S := ⟨ks.length, getK ks⟩) okL envL (feed_keys upd_same ek) ?_
          · refine Tr.All.mono (Tr.all_calm q0) fun ⟨o, h2⟩ q2 => ?_
            have back : ∀ ρ' H', Le c ρ (upd H ad (.frz od (.dK kws))) ρ' H' → Ok X.K c ρ' h2 H' → H' ad = some (.frz od (.dK kws)) ∧ Le c ρ H ρ' (upd H' ad (.dK kws)) ∧ Ok X.K c ρ' h2 (upd H' ad (.dK kws)) ∧ Swp H' (upd H' ad (.dK kws)) ad := fun ρ' H' l ok' => by
              have e' := l.frzs _ _ _ (upd_same (H := H) (a := ad) (o := .frz od (.dK kws)))
              have s2 := swp_open e' nt
              have l2 := l.open r0 nu nt e'
              have o2 := l2.off r0 off
              exact ⟨e', l2, ok'.swp s2 ⟨_, upd_same⟩ o2.2.st fun d g e z => off.dw d g e z, s2⟩
            cases o with
            | nx s2 => exact fun ρ' H' σ' l ok' env' => let ⟨e', l2, ok2, s2⟩ := back ρ' H' l ok'; ⟨e', q2 ρ' _ σ' l2 ok2 (env'.swp s2)⟩
            | rt y => exact fun ρ' H' w l ok' r' => let ⟨e', l2, ok2, s2⟩ := back ρ' H' l ok'; ⟨e', q2 ρ' _ w l2 ok2 (RV.swp s2 _ _ r')⟩
            | bk s2 => exact fun ρ' H' σ' l ok' env' => let ⟨e', l2, ok2, s2⟩ := back ρ' H' l ok'; ⟨e', q2 ρ' _ σ' l2 ok2 (env'.swp s2)⟩
            | ct s2 => exact fun ρ' H' σ' l ok' env' => let ⟨e', l2, ok2, s2⟩ := back ρ' H' l ok'; ⟨e', q2 ρ' _ σ' l2 ok2 (env'.swp s2)⟩
        · refine .inr ⟨_, g1, ad, od, rfl, .inl ⟨kws, r0, ?_⟩⟩
          exact for_loop (S := ⟨ks.length, getK ks⟩) ok env (feed_keys r0 ek) q
    · exact q.elim
end
end Ev

/-! isinstance of two types; sorted ints; truth; while; three names at once. -/
namespace Ev
open PySem PySem.Spec PyProof.Rows L2 Dr
variable {c : Ct}
section
variable {X : Cx} {tg e a b d : Expr} {es : List Expr} {fa fb : Sg → M D} {ft fu : Sg → M Bool} {fr : Sg → M (List D)} {pos p p1 p2 : Pos}
/-! ### isinstance(x, (S, T)) -/
theorem kitAny_two {K : PySem.W.Frag} {t u1 u2 : Value} {b1 b2 : Bool} (h1 : PySem.W.kitOne K t u1 = some b1) (h2 : PySem.W.kitOne K t u2 = some b2) : PySem.W.kitAny K t [u1, u2] = some (b1 || b2) := by
  cases b1 <;> cases b2 <;> simp [PySem.W.kitAny, h1, h2]
def isI2 (g1 g2 : Tg) : D → M D := fun x h => match tyD h x with
  | some t => match isTab g1 t, isTab g2 t with
    | some b, some b' => .ret (.bl (b || b'), h)
    | _, _ => .bad
  | none => .bad
theorem Tg.clsV {c : Ct} (g : Tg) : ClsV (g.v c) (g.val c) := by cases g <;> first | exact .ty _ | exact .own _
theorem ev_isi2 {k : Nat} {b1 b2 : Expr} (g1 g2 : Tg) (F : Facts X.K c) (k1 : KitOk X.K c g1) (k2 : KitOk X.K c g2) (mI : X.mg "isinstance" = none) (ha : EE c X a fa) (hT1 : PE X b1 (tC (g1.v c))) (hT2 : PE X b2 (tC (g2.v c))) (hg : Gl X "isinstance" := by rfl)
    (hs : starEach [a, .Tuple [b1, b2] k p2] X.env = (false, eval a X.env) :: starEach [.Tuple [b1, b2] k p2] X.env := by rfl) (hs2 : starEach [.Tuple [b1, b2] k p2] X.env = (false, eval (.Tuple [b1, b2] k p2) X.env) :: starEach [] X.env := by rfl) (hp : (backTo pos (starEach [.Tuple [b1, b2] k p2] X.env)).any (·.1) = false := by rfl)
    (hs3 : starEach [b1, b2] X.env = (false, eval b1 X.env) :: starEach [b2] X.env := by rfl) (hs4 : starEach [b2] X.env = (false, eval b2 X.env) :: starEach [] X.env := by rfl) :
    EE c X (.Call (.Name "isinstance" p) [a, .Tuple [b1, b2] k p2] [] pos) (f1 (isI2 g1 g2) fa) :=
  PE.imp (pe_callB call_isiT hg mI boot_isinstance (pa_cons ha (pa_cons (pe_tup (pa_cons hT1 (pa_cons hT2 pa_nil hs4) hs3)) pa_nil hs2) hs) (by decide) (by decide) hs hp) fun σ H Q ⟨ρ, h, s, ok, env, q⟩ => by
    refine ⟨ρ, h, s, ok, env, (M.all_bind.mp q).mono fun ⟨x, h1⟩ q1 ρ1 H1 v l1 ok1 r1 => ?_⟩
    refine ⟨by show 2 ≤ sizeLine; decide, fun tp np => ?_⟩
    dsimp only [isI2] at q1
    split at q1
    · rename_i t ht
      split at q1
      · rename_i b' b2' hb1 hb2
        obtain ⟨l2, ok2⟩ := ok1.other (o := .tup [g1.v c, g2.v c]) np
        obtain ⟨tx, hk⟩ := tyX_of F ok2 (r1.le l2) ht
        exact ⟨v, tp, [g1.v c, g2.v c], t.val c, [g1.val c, g2.val c], b' || b2', rfl, upd_same, .cons (Tg.clsV g1) (.cons (Tg.clsV g2) .nil), tx, kitAny_two (k1 t b' hb1 hk) (k2 t b2' hb2 hk), q1 ρ1 _ _ (l1.trans l2) ok2 (.bl _)⟩
      · exact q1.elim
    · exact q1.elim
/-! ### sorted ints -/
def insI (i : Int) : List Int → List Int
  | [] => [i]
  | j :: js => if i ≤ j then i :: j :: js else j :: insI i js
def sortI : List Int → List Int
  | [] => []
  | i :: is => insI i (sortI is)
theorem insI_perm (i : Int) : ∀ l : List Int, (insI i l).Perm (i :: l)
  | [] => .refl _
  | j :: js => by
    unfold insI
    split
    · exact .refl _
    · exact ((insI_perm i js).cons j).trans (.swap _ _ _)
theorem sortI_perm : ∀ l : List Int, (sortI l).Perm l
  | [] => .refl _
  | i :: is => (insI_perm i _).trans ((sortI_perm is).cons i)
theorem insI_sorted (i : Int) : ∀ l : List Int, l.Pairwise (· ≤ ·) → (insI i l).Pairwise (· ≤ ·)
  | [], _ => by simp [insI]
  | j :: js, h => by
    unfold insI
    obtain ⟨h1, h2⟩ := List.pairwise_cons.mp h
    split
    · rename_i hij
      refine List.pairwise_cons.mpr ⟨fun k hk => ?_, h⟩
      rcases List.mem_cons.mp hk with rfl | hk
      · exact hij
      · exact Int.le_trans hij (h1 k hk)
    · rename_i hij
      refine List.pairwise_cons.mpr ⟨fun k hk => ?_, insI_sorted i js h2⟩
      rcases List.mem_cons.mp ((insI_perm i js).mem_iff.mp hk) with rfl | hk
      · omega
      · exact h1 k hk
theorem sortI_sorted : ∀ l : List Int, (sortI l).Pairwise (· ≤ ·)
  | [] => .nil
  | i :: is => insI_sorted i _ (sortI_sorted is)
theorem sort_uniq : ∀ {a b : List Int}, a.Perm b → a.Pairwise (· ≤ ·) → b.Pairwise (· ≤ ·) → a = b
  | [], b, p, _, _ => by rw [List.nil_perm.mp p]
  | x :: xs, [], p, _, _ => absurd p.length_eq (by simp)
  | x :: xs, y :: ys, p, ha, hb => by
    obtain ⟨a1, a2⟩ := List.pairwise_cons.mp ha
    obtain ⟨b1, b2⟩ := List.pairwise_cons.mp hb
    have e : x = y := by
      have h1 : x ∈ y :: ys := p.mem_iff.mp (by simp)
      have h2 : y ∈ x :: xs := p.mem_iff.mpr (by simp)
      rcases List.mem_cons.mp h1 with h1 | h1
      · exact h1
      · rcases List.mem_cons.mp h2 with h2 | h2
        · exact h2.symm
        · exact Int.le_antisymm (a1 _ h2) (b1 _ h1)
    subst e
    rw [sort_uniq (List.Perm.cons_inv p) a2 b2]
def oIntD : D → Option Int
  | .int i => some i
  | _ => none
def oSortI (mk : List D → M D) : List D → M D := fun xs h => match xs with
  | [x] => match lstD h x with
    | some ys => match mapO oIntD ys with
      | some is => mk ((sortI is).map .int) h
      | none => .bad
    | none => .bad
  | _ => .bad
theorem ints_ok {K : PySem.W.Frag} {ρ : Sto} {H : Hp} : ∀ {xs : List D} {is : List Int} {ws : List V}, mapO oIntD xs = some is → RVs K c H ρ xs ws → ws = is.map V.int
  | [], _, _, e, r => by cases r; simp only [mapO] at e; cases e; rfl
  | x :: xs, _, _, e, r => by
    cases r with
    | cons r1 r2 =>
      simp only [mapO] at e
      split at e
      · rename_i i hi
        split at e
        · rename_i js hjs
          cases e
          rw [ints_ok hjs r2]
          cases r1 <;> simp only [oIntD] at hi <;> cases hi
          rfl
        · cases e
      · cases e
theorem rv_ints {K : PySem.W.Frag} {ρ : Sto} {H : Hp} : ∀ is : List Int, RVs K c H ρ (is.map D.int) (is.map V.int)
  | [] => .nil
  | i :: is => .cons (.int i) (rv_ints is)
theorem op_sortedI {K : PySem.W.Frag} {mk : List D → M D} (m : MkOk K c mk) : OpN K c (rSortedI K) (oSortI mk) := fun {ρ h H xs vs Q} ok r q => by
  unfold oSortI at q
  split at q
  · split at q
    · rename_i ys hx
      split at q
      · rename_i is his
        obtain ⟨v, rfl, r1⟩ := vs1 r
        obtain ⟨a, us, rfl, e1, e2⟩ := lstD_ok ok r1 hx
        have := ints_ok his e2
        subst this
        refine ⟨a, is, rfl, SqL.of e1, fun ns p hp hs np => ?_⟩
        have e : ns = sortI is := sort_uniq (hp.trans (sortI_perm is).symm) hs (sortI_sorted is)
        subst e
        exact (m.go ok (rv_ints _) q).2 p np
      · exact q.elim
    · exact q.elim
  · exact q.elim
/-! ### truth of a value -/
def truD (h : List O) : D → Option Bool
  | .non => some false
  | .bl b => some b
  | .int i => some (i != 0)
  | .str z => if z.length ≤ lim then some ((z.length : Int) != 0) else none
  | .tup xs => some (!xs.isEmpty)
  | x => match lstD h x with
    | some xs => some (!xs.isEmpty)
    | none => none
def asT : D → M Bool := fun x h => match truD h x with
  | some b => .ret (b, h)
  | none => .bad
def tTruth (fa : Sg → M D) : Sg → M Bool := fun s => M.bind (fa s) asT
theorem RVs.empty {K : PySem.W.Frag} {ρ : Sto} {H : Hp} {xs : List D} {vs : List V} (r : RVs K c H ρ xs vs) : xs.isEmpty = vs.isEmpty := by cases r <;> rfl
theorem tru_ok {K : PySem.W.Frag} {ρ h H x v b} (ok : Ok K c ρ h H) (r : RV K c H ρ x v) (e : truD h x = some b) : TruV K v H b := by
  have far_ : ∀ {xs}, lstD h x = some xs → b = !xs.isEmpty → TruV K v H b := fun hx hb => by
    obtain ⟨a, vs, rfl, e1, e2⟩ := lstD_ok ok r hx
    exact .inl ⟨vs, SqL.of e1, by rw [hb, e2.empty]⟩
  unfold truD at e
  split at e
  · cases e; cases r; rfl
  · cases e; cases r; rfl
  · cases e; cases r; rfl
  · split at e
    · rename_i hz
      cases e; cases r
      exact ⟨Nat.le_of_lt (lim_line hz), rfl⟩
    · cases e
  · cases e
    cases r with
    | tup h1 h2 => exact .inr (.inl ⟨_, h1, by rw [h2.empty]⟩)
  · split at e
    · rename_i hx
      cases e
      exact far_ hx rfl
    · cases e
theorem et_truth (h : EE c X e fa) (he : ∀ whole, isTrue e X.env whole = (do let v ← whole; standAt e.pos; holding [v] (truthy v)) := by intro _; rfl) : ET c X e (tTruth fa) := PT.imp (pt_truth h he) fun σ H Q ⟨ρ, h, s, ok, env, q⟩ => by
  refine ⟨ρ, h, s, ok, env, (M.all_bind.mp q).mono fun ⟨x, h1⟩ q1 ρ1 H1 v l1 ok1 r1 => ?_⟩
  dsimp only [asT] at q1
  split at q1
  · rename_i b hb
    exact ⟨b, tru_ok ok1 r1 hb, q1 ρ1 H1 l1 ok1⟩
  · exact q1.elim
/-! ### while, at most so many turns -/
def wloop (ft : Sg → M Bool) (fb : Sg → M Out) : Nat → Sg → M Out
  | 0 => fun _ _ => .bad
  | n + 1 => fun s => M.bind (ft s) fun b => if b = true then M.bind (fb s) fun o => match o with
    | .nx s' => wloop ft fb n s'
    | .ct s' => wloop ft fb n s'
    | .bk s' => M.ret (.nx s')
    | .rt y => M.ret (.rt y) else M.ret (.nx s)
def sWhile (n : Nat) (ft : Sg → M Bool) (fb : Sg → M Out) : Sg → M Out := wloop ft fb n
theorem es_while {body : List Stmt} {fb : Sg → M Out} (n : Nat) (ht : ET c X e ft) (hb : ESs c X body fb) (hp : PassesOwn (model X.prog X.w) X.A X.env X.xe := by exact PassesOwn.never) : ES c X (.While e body [] pos) (sWhile n ft fb) :=
  PS.imp (ps_while hp ht hb) fun E σ H ⟨ρ, h, s, ok, env, q⟩ => by
    refine ⟨fun m σ1 H1 => ∃ ρ1 h1 s1, Le c ρ H ρ1 H1 ∧ Ok X.K c ρ1 h1 H1 ∧ Env X.K c H1 ρ1 s1 σ1 ∧ (wloop ft fb m s1 h1).All (PD X.K c ρ1 H1 E) (PX X.K c ρ1 H1), ⟨n, ρ, h, s, .refl, ok, env, q⟩, ?_⟩
    rintro m σ1 H1 ⟨ρ1, h1, s1, l1, ok1, env1, q1⟩
    cases m with
    | zero => exact q1.elim
    | succ m =>
      simp only [wloop] at q1
      refine ⟨ρ1, h1, s1, ok1, env1, Tr.All.mono (M.all_bind.mp q1) fun ⟨k, h2⟩ q2 ρ2 H2 l2 ok2 => ?_⟩
      dsimp only at q2 ⊢
      by_cases hk : k = true
      · rw [if_pos hk] at q2 ⊢
        refine ⟨fun σ3 H3 => ∃ ρ3 h3 s3, Le c ρ H ρ3 H3 ∧ Ok X.K c ρ3 h3 H3 ∧ Env X.K c H3 ρ3 s3 σ3 ∧ (wloop ft fb m s3 h3).All (PD X.K c ρ3 H3 E) (PX X.K c ρ3 H3), fun σ' H' z => ⟨m, Nat.lt_succ_self _, z⟩, ?_⟩
        refine ⟨ρ2, h2, s1, ok2, env1.le l2, Tr.All.le l2 (M.all_bind.mp q2) fun ⟨o, h3⟩ q3 => ?_⟩
        have l12 := l1.trans l2
        cases o with
        | nx s5 => exact fun ρ5 H5 σ5 l5 ok5 env5 => ⟨ρ5, h3, s5, l12.trans l5, ok5, env5, Tr.All.le (l2.trans l5) q3 fun r q => q.le (l2.trans l5)⟩
        | ct s5 => exact fun ρ5 H5 σ5 l5 ok5 env5 => ⟨ρ5, h3, s5, l12.trans l5, ok5, env5, Tr.All.le (l2.trans l5) q3 fun r q => q.le (l2.trans l5)⟩
        | rt y => exact fun ρ5 H5 v l5 ok5 r5 => q3 ρ5 H5 v (l2.trans l5) ok5 r5
        | bk s5 => exact fun ρ5 H5 v l5 ok5 r5 => q3 ρ5 H5 v (l2.trans l5) ok5 r5
      · rw [if_neg hk] at q2 ⊢
        exact q2 ρ2 H2 σ1 l2 ok2 (env1.le l2)
/-! ### a, b, c = x, y, z -/
theorem vs3 {K : PySem.W.Frag} {ρ H x y z vs} (r : RVs K c H ρ [x, y, z] vs) : ∃ u v w, vs = [u, v, w] ∧ RV K c H ρ x u ∧ RV K c H ρ y v ∧ RV K c H ρ z w := by
  cases r with
  | cons r1 r2 =>
    obtain ⟨v, w, rfl, r3, r4⟩ := vs2 r2
    exact ⟨_, _, _, rfl, r1, r3, r4⟩
theorem es_par3 {x y z : Str} {kt k2 : Nat} {px py pz pt pt2 : Pos} (i j k : Nat) (hN : X.N.Nodup) (hij : i ≠ j) (hik : i ≠ k) (hjk : j ≠ k) (ha : EA c X [a, b, d] fr) (hi : X.N[i]? = some x := by rfl) (hj : X.N[j]? = some y := by rfl) (hk : X.N[k]? = some z := by rfl) (hx : X.env.scope.names.lookup x = some .local := by rfl) (hy : X.env.scope.names.lookup y = some .local := by rfl) (hz : X.env.scope.names.lookup z = some .local := by rfl) (hc : X.calm = true := by rfl)
    (hw : swappedStores [.Tuple [.Name x px, .Name y py, .Name z pz] kt pt] (.Tuple [a, b, d] k2 pt2) X.env = pure (some [x, y, z]) := by rfl) (hs : swapsWithSole [.Tuple [.Name x px, .Name y py, .Name z pz] kt pt] (.Tuple [a, b, d] k2 pt2) pos.line X.env = pure false := by rfl) :
    ES c X (.Assign [.Tuple [.Name x px, .Name y py, .Name z pz] kt pt] (.Tuple [a, b, d] k2 pt2) pos) (sPar3 i j k fr) :=
  PS.imp (ps_par3 hc hN hi hj hk hij hik hjk hx hy hz ha hw hs) fun E σ H ⟨ρ, h, s, ok, env, q⟩ => by
    refine ⟨ρ, h, s, ok, env, (M.all_bind.mp q).mono fun ⟨o, h1⟩ q1 ρ1 H1 v l1 ok1 r1 => ?_⟩
    rcases o with _ | ⟨x, _ | ⟨y, _ | ⟨z, _ | _⟩⟩⟩
    · exact q1.elim
    · exact q1.elim
    · exact q1.elim
    · obtain ⟨u, v, w, rfl, r2, r3, r4⟩ := vs3 r1
      exact ⟨u, v, w, rfl, q1 ρ1 H1 _ l1 ok1 ((((env.le l1).set r2).set r3).set r4)⟩
    · exact q1.elim
end
end Ev

/-! The usual law: draws, then turns. -/
namespace Ev
open PySem PySem.Spec PyProof.Rows L2 Dr
def Tr.allB {α : Type} (p : α → Bool) : Tr α → Bool
  | .ret a => p a
  | .bad => false
  | .err _ _ _ => false
  | .pick n k => (List.range n).all fun i => (k i).allB p
theorem Tr.all_of {α : Type} {p : α → Bool} {P : α → Prop} {X : XP} (h : ∀ a, p a = true → P a) : ∀ {t : Tr α}, t.allB p = true → t.All P X
  | .ret a, e => h a e
  | .bad, e => by simp [Tr.allB] at e
  | .err _ _ _, e => by simp [Tr.allB] at e
  | .pick n k, e => fun i hi => Tr.all_of h (List.all_eq_true.mp e i (List.mem_range.mpr hi))
def tSx {δ : Type} (K : PySem.W.Frag) (ct : δ → Ct) (f : Sg → M Out) : TS := fun E σ H => ∃ dw, tS K (ct dw) f E σ H
theorem ess_any {δ : Type} {X : Cx} {sts : List Stmt} {ct : δ → Ct} {f : Sg → M Out} (h : ∀ dw, ESs (ct dw) X sts f) : PSs X sts (tSx X.K ct f) := ⟨fun pins s σ H D I ⟨dw, q⟩ => (h dw).run pins s σ H D I q⟩
def drawS (n : Nat) : Sg := none :: some .draw :: List.replicate (n - 2) none
def okNx (n : Nat) (r : Out × List O) : Bool := match r.1 with
  | .nx s => s.length == n && (match (s[1]? : Option (Option D)) with
    | some (some D.draw) => true
    | _ => false)
  | _ => false
section
variable {K : PySem.W.Frag} {c : Ct} {ρ : Sto} {H : Hp} {d g e : Addr} {n : Nat}
theorem env_draw {σ : L2.St} (hc : c.dw = some (d, g, e)) (h2 : 2 ≤ n) (hl : σ.length = n) (h1 : σ[1]? = some (some (.ref d))) : Env K c H ρ (drawS n) σ := by
  refine ⟨by simp [drawS, hl]; omega, fun i x hx => ?_⟩
  match i, hx with
  | 0, hx => simp [drawS] at hx
  | 1, hx =>
    simp [drawS] at hx
    subst hx
    exact ⟨_, h1, .draw hc⟩
  | i + 2, hx =>
    simp only [drawS, List.getElem?_cons_succ] at hx
    have := List.mem_of_getElem? hx
    rw [List.mem_replicate] at this
    cases this.2
theorem ok_draw (hc : c.dw = some (d, g, e)) (hh : c.hid = []) (D : Dw H d g e) : Ok K c Sto.nil [] H := ⟨rfl, List.nodup_nil, fun n o a e => by simp at e, fun n o a e => by simp at e, fun a h => h, fun a h => by simp [Sto.nil] at h, fun d' g' e' z => by
  rw [hc] at z
  cases z
  exact ⟨D, by simp [Sto.nil], by simp [Sto.nil], by simp [Sto.nil]⟩, fun a h => by rw [hh] at h; cases h⟩
theorem turn_of {E : Ends} (hc : c.dw = some (d, g, e)) {r : Out × List O} (h : okNx n r = true) (hE : ∀ σ H', σ.length = n → σ[1]? = some (some (V.ref d)) → Dw H' d g e → E.nx σ H') : PD K c ρ H E r := by
  obtain ⟨o, h'⟩ := r
  unfold okNx at h
  cases o with
  | nx s =>
    have h := Bool.and_eq_true_iff.mp h
    intro ρ1 H1 σ l ok env
    have e1 : s.length = n := by simpa using h.1
    have e2 := h.2
    split at e2
    · rename_i hs
      obtain ⟨v, h1, h2⟩ := env.2 1 _ hs
      cases h2 with
      | draw hd =>
        rw [hc] at hd
        cases hd
        exact hE σ H1 (by rw [← env.1, e1]) h1 (ok.dw _ _ _ hc).1
    · cases e2
  | rt x => cases h
  | bk s => cases h
  | ct s => cases h
end
/-! the ways one by one -/
def Tr.sub {α : Type} : Tr α → Nat → Tr α
  | .pick n k, i => if i < n then k i else .bad
  | _, _ => .bad
def Tr.isPick {α : Type} (n : Nat) : Tr α → Bool
  | .pick m _ => m == n
  | _ => false
theorem Tr.split {α : Type} {p : α → Bool} {n : Nat} : ∀ {t : Tr α}, t.isPick n = true → (∀ i, i < n → (t.sub i).allB p = true) → t.allB p = true
  | .ret _, h, _ => Bool.noConfusion h
  | .bad, h, _ => Bool.noConfusion h
  | .err _ _ _, h, _ => Bool.noConfusion h
  | .pick m k, h, q => by
    have e : m = n := by simpa [Tr.isPick] using h
    subst e
    refine List.all_eq_true.mpr fun i hi => ?_
    have hi := List.mem_range.mp hi
    have := q i hi
    simpa only [Tr.sub, if_pos hi] using this
theorem Tr.split2 {α : Type} {p : α → Bool} {n m : Nat} {t : Tr α} (h : t.isPick n = true) (h2 : ∀ i, i < n → (t.sub i).isPick m = true) (q : ∀ i, i < n → ∀ j, j < m → ((t.sub i).sub j).allB p = true) : t.allB p = true :=
  Tr.split h fun i hi => Tr.split (h2 i hi) (q i hi)
/-- a step that gives True -/
def isT (r : D × List O) : Bool := match r.1 with
  | .bl true => true
  | _ => false
/-- a step has just one outcome -/
structure Is {α : Type} (m : Tr (α × List O)) (v : α) (h : List O) : Prop where
  out : ∀ X, m.All (fun r => r = (v, h)) X
theorem pure_true {F : List D → M D} {xs : List D} (hx : noLs xs = true) (h : (F xs []).allB isT = true) (g : List O) : Is (oPure F xs g) (.bl true) g := by
  refine ⟨fun X => ?_⟩
  unfold oPure
  rw [if_pos hx]
  refine Tr.all_both.mpr ((Tr.all_of (P := fun r => isT r = true) (X := fun _ _ _ => False) (fun _ h => h) h).mono2 (fun r hr => ?_) fun _ _ _ z => z.elim)
  unfold isT at hr
  split at hr
  · rename_i e
    rw [e, show frz r.2 far (D.bl true) = some (D.bl true) from rfl]
    exact rfl
  · cases hr
theorem Is.bind {α β : Type} {m : M α} {f : α → M β} {h g : List O} {v : α} {P : β × List O → Prop} {X : XP} (a : Is (m h) v g) (b : (f v g).All P X) : (M.bind m f h).All P X := M.all_bind.mpr (Tr.All.mono (a.out X) fun r e => by rw [e]; exact b)
theorem is_val {fa : Sg → M D} {s : Sg} {h g : List O} {b : Bool} (a : Is (fa s h) (.bl b) g) : Is (tVal fa s h) b g := ⟨fun _ => Is.bind a rfl⟩
theorem is_not {ft : Sg → M Bool} {s : Sg} {h g : List O} {b : Bool} (a : Is (ft s h) b g) : Is (tNotF ft s h) (!b) g := ⟨fun _ => Is.bind a rfl⟩
theorem is_or {ft fu : Sg → M Bool} {s : Sg} {h g k : List O} {b : Bool} (a : Is (ft s h) false g) (a2 : Is (fu s g) b k) : Is (tOrF ft fu s h) b k := ⟨fun X => Is.bind a (a2.out X)⟩
theorem is_and {ft fu : Sg → M Bool} {s : Sg} {h g k : List O} {b : Bool} (a : Is (ft s h) true g) (a2 : Is (fu s g) b k) : Is (tAndF ft fu s h) b k := ⟨fun X => Is.bind a (a2.out X)⟩
/-- a block goes on to the next turn -/
structure Nx (n : Nat) (m : Tr (Out × List O)) : Prop where
  out : ∀ X, m.All (fun r => okNx n r = true) X
theorem nx_turn {n : Nat} {m : Tr (Out × List O)} {P : Out × List O → Prop} {X : XP} (h : Nx n m) (k : ∀ r, okNx n r = true → P r) : m.All P X := (h.out X).mono k
theorem nx_of {n : Nat} {m : Tr (Out × List O)} (h : m.allB (okNx n) = true) : Nx n m := ⟨fun _ => Tr.all_of (fun _ e => e) h⟩
theorem nx_if {n : Nat} {ft : Sg → M Bool} {f1 f2 : Sg → M Out} {s : Sg} {h g : List O} (a : Is (ft s h) false g) (b : Nx n (f2 s g)) : Nx n (sIf ft f1 f2 s h) := ⟨fun X => Is.bind a (b.out X)⟩
theorem nx_seq {n : Nat} {f1 f2 : Sg → M Out} {s s' : Sg} {h g : List O} (a : Is (f1 s h) (.nx s') g) (b : Nx n (f2 s' g)) : Nx n (sSeq f1 f2 s h) := ⟨fun X => Is.bind a (b.out X)⟩
theorem is_if {ft : Sg → M Bool} {f1 f2 : Sg → M Out} {s : Sg} {h g g' : List O} {o : Out} (a : Is (ft s h) false g) (b : Is (f2 s g) o g') : Is (sIf ft f1 f2 s h) o g' := ⟨fun X => Is.bind a (b.out X)⟩
theorem is_nx {s : Sg} {h : List O} : Is (sNx s h) (.nx s) h := ⟨fun _ => rfl⟩
theorem nx_end {n : Nat} {s : Sg} {h : List O} (a : okNx n (.nx s, h) = true) : Nx n (sNx s h) := ⟨fun _ => a⟩
theorem is_call {F : List D → M D} {i : Nat} {s : Sg} {h g : List O} {x y : D} (hx : s[i]? = some (some x)) (a : Is (F [x] h) y g) : Is (fN F (fCons (fVar i) fNil) s h) y g := by
  have e : fCons (fVar i) fNil s h = .ret ([x], h) := by
    unfold fCons fVar fNil
    show ((match s[i]? with
      | some (some x) => .ret (x, h)
      | _ => .bad : Tr (D × List O)).bind _) = _
    rw [hx]
    rfl
  refine ⟨fun X => ?_⟩
  unfold fN
  refine M.all_bind.mpr ?_
  rw [e]
  exact a.out X
section
variable {K : PySem.W.Frag} {c : Ct} {ρ : Sto} {H : Hp} {d g e : Addr} {n : Nat}
theorem tSx_turn {δ : Type} {ct : δ → Ct} {dw : δ} {f : Sg → M Out} {E : Ends} {σ : L2.St} (hd : (ct dw).dw = some (d, g, e)) (hh : (ct dw).hid = []) (D : Dw H d g e) (h2 : 2 ≤ n) (hl : σ.length = n) (h1 : σ[1]? = some (some (V.ref d))) (chk : Nx n (f (drawS n) []))
    (hE : ∀ σ H', σ.length = n → σ[1]? = some (some (V.ref d)) → Dw H' d g e → E.nx σ H') : tSx K ct f E σ H := ⟨dw, Sto.nil, [], drawS n, ok_draw hd hh D, env_draw hd h2 hl h1, (chk.out _).mono fun r hr => turn_of hd hr hE⟩
end
def spLaw (K : PySem.W.Frag) : Sp := fun vs H Q _ => ∃ (a : Addr) (ns : List Int), vs = [.ref a] ∧ SqL K H a (ns.map V.int) ∧ ns.length ≤ 63 ∧ ∀ H', Q (.bl true) H'
theorem ok_get {P : Program} {w : World} {K : PySem.W.Frag} {mg : Str → Option Value} {base : Heap} {C f : Addr} {fd : FuncData} {x qual fld : Str} {st : Stmt} {p1 p2 p3 : Pos} (F : Fun K x qual st f fd) (S : FnScope ["self"] ["self"] (defScope st))
    (hb : defBody st = [.Return (some (.Attribute (.Name "self" p1) fld p2)) p3]) (c : Cls K C) (n : NoAttr K C fld) : FnOk P w K mg base CX0 1 f fd ["self"] (getSp C fld) := by
  obtain ⟨oc, od, kV, doc, pm, an, cdv, ct, osl, rfl, look, code⟩ := F.ex
  exact fn_getter look code S rfl hb c n
end Ev
/-! arguments that are drawn -/
namespace Ev
open PySem PySem.Spec PyProof.Rows L2 Dr
theorem is_fN {op : List D → M D} {fa : Sg → M (List D)} {s : Sg} {h : List O} {v : D} {g : List O} (q : ∀ X, (fa s h).All (fun r => Is (op r.1 r.2) v g) X) : Is (fN op fa s h) v g := ⟨fun X => M.all_bind.mpr ((q X).mono fun r z => z.out X)⟩
theorem al_nil {s : Sg} {h : List O} {P : List D × List O → Prop} {X : XP} (q : P ([], h)) : (fNil s h).All P X := q
theorem al_var {s : Sg} {h : List O} {P : List D × List O → Prop} {X : XP} {i : Nat} {x : D} {fr : Sg → M (List D)} (hx : s[i]? = some (some x)) (q : (fr s h).All (fun r => P (x :: r.1, r.2)) X) : (fCons (fVar i) fr s h).All P X := by
  unfold fCons
  refine M.all_bind.mpr ?_
  unfold fVar
  rw [hx]
  exact M.all_bind.mpr q
theorem take_all {s : Sg} {h : List O} {P : D × List O → Prop} {X : XP} {m : Int} (hd : s[1]? = some (some .draw)) (hm : 0 < m ∧ m < 1000000) (q : ∀ i : Nat, i < m.toNat → P (.int i, h)) : (fN oTake (fCons (fVar 1) (fCons (fC (.int m)) fNil)) s h).All P X := by
  unfold fN
  refine M.all_bind.mpr (al_var hd ?_)
  show (match m with
    | m => if 0 < m ∧ m < 1000000 then Tr.pick m.toNat fun i => .ret (.int (i : Nat), h) else .bad).All P X
  dsimp only
  rw [if_pos hm]
  exact q
theorem al_take {s : Sg} {h : List O} {P : List D × List O → Prop} {X : XP} {m : Int} {fr : Sg → M (List D)} (hd : s[1]? = some (some .draw)) (hm : 0 < m ∧ m < 1000000) (q : ∀ i : Nat, i < m.toNat → (fr s h).All (fun r => P (.int i :: r.1, r.2)) X) :
    (fCons (fN oTake (fCons (fVar 1) (fCons (fC (.int m)) fNil))) fr s h).All P X := by
  unfold fCons
  exact M.all_bind.mpr (take_all hd hm fun i hi => M.all_bind.mpr (q i hi))
theorem al_take1 {s : Sg} {h : List O} {P : List D × List O → Prop} {X : XP} {m k : Int} {mk : List D → M D} {fr : Sg → M (List D)} (hd : s[1]? = some (some .draw)) (hm : 0 < m ∧ m < 1000000) (q : ∀ i : Nat, i < m.toNat → (fr s h).All (fun r => P (.int (k + i) :: r.1, r.2)) X) :
    (fCons (f2 (oAdd mk) (fC (.int k)) (fN oTake (fCons (fVar 1) (fCons (fC (.int m)) fNil)))) fr s h).All P X := by
  unfold fCons
  refine M.all_bind.mpr ?_
  unfold f2
  refine M.all_bind.mpr ?_
  refine M.all_bind.mpr (take_all hd hm fun i hi => ?_)
  exact M.all_bind.mpr (q i hi)
end Ev

/-! Steps over typed values: equality of plain values; pure calls. -/
namespace Ev
open PySem PySem.Spec PyProof.Rows L2 Dr
theorem Tr.bind_ret {α β : Type} (a : α) (f : α → Tr β) : (Tr.ret a).bind f = f a := rfl
theorem Tr.bind_bad {α β : Type} (f : α → Tr β) : (Tr.bad : Tr α).bind f = .bad := rfl
theorem M.ret_ap {α : Type} (a : α) (h : List O) : M.ret a h = .ret (a, h) := rfl
theorem M.bad_ap {α : Type} (h : List O) : (M.bad : M α) h = .bad := rfl
theorem M.bind_ap {α β : Type} (m : M α) (f : α → M β) (h : List O) : M.bind m f h = (m h).bind fun r => f r.1 r.2 := rfl
theorem bind_ite {α β : Type} {p : Prop} [Decidable p] (a b : Tr α) (f : α → Tr β) : (if p then a else b).bind f = if p then a.bind f else b.bind f := by split <;> rfl
theorem ap_ite {α : Type} {p : Prop} [Decidable p] (a b : M α) (h : List O) : (if p then a else b) h = if p then a h else b h := by split <;> rfl
theorem Nat_le_lim : lim = 1000000 := rfl
/-- a pure call gives what the def gives over an empty store -/
theorem pure_fz {F : List D → M D} {xs : List D} {v y : D} {g : List O} (h : List O) (e : F xs [] = .ret (v, g)) (hx : noLs xs = true) (hf : frz g far v = some y) : oPure F xs h = .ret (y, h) := by
  unfold oPure
  rw [if_pos hx, e]
  show (match frz g far v with
    | some y => Tr.ret (y, h)
    | none => .bad) = _
  rw [hf]
theorem pure_ret {F : List D → M D} {xs : List D} {v : D} (h : List O) (e : ∃ g, F xs [] = .ret (v, g)) (hx : noLs xs = true) (hv : noL v = true) : oPure F xs h = .ret (v, h) := by
  obtain ⟨g, e⟩ := e
  exact pure_fz h e hx (frz_noL hv)
theorem atI_at {α : Type} (xs : List α) (i : Nat) : atI xs (i : Int) = xs[i]? := by
  unfold atI ixN
  rw [if_pos (by omega)]
  by_cases h : i < xs.length
  · rw [if_pos (by omega)]; rfl
  · rw [if_neg (by omega), List.getElem?_eq_none (by omega)]; rfl
/-! == of values without numbers of the store -/
mutual
def toT : D → PyData
  | .non => .none
  | .bl b => .bool b
  | .int i => .int i
  | .str z => .str z
  | .tup xs => .tuple (toTs xs)
  | .lst xs => .list (toTs xs)
  | _ => .none
def toTs : List D → List PyData
  | [] => []
  | x :: xs => toT x :: toTs xs
end
mutual
def okT : Nat → D → Bool
  | _, .non => true
  | _, .bl _ => true
  | _, .int _ => true
  | _, .str z => PyData.strOk z
  | 0, .tup _ => false
  | n + 1, .tup xs => okTs n xs
  | 0, .lst _ => false
  | n + 1, .lst xs => okTs n xs
  | _, .loc _ => false
  | _, .draw => false
  | _, .ins _ _ => false
  | _, .dct _ _ => false
  | _, .tct _ _ => false
  | _, .exn _ _ => false
def okTs : Nat → List D → Bool
  | _, [] => true
  | n, x :: xs => okT n x && okTs n xs
end
mutual
def eqT : D → D → Bool
  | .non, .non => true
  | .bl a, .bl b => a == b
  | .bl a, .int j => (if a then 1 else 0) == j
  | .int i, .bl b => i == (if b then 1 else 0)
  | .int i, .int j => i == j
  | .str x, .str y => x == y
  | .tup xs, .tup ys => eqTs xs ys
  | .lst xs, .lst ys => eqTs xs ys
  | _, _ => false
def eqTs : List D → List D → Bool
  | [], [] => true
  | x :: xs, y :: ys => eqT x y && eqTs xs ys
  | _, _ => false
end
mutual
theorem toP_T (h : List O) : ∀ (n : Nat) (x : D), okT n x = true → toP h (n + 1) x = some (toT x)
  | _, .non, _ => rfl
  | _, .bl _, _ => rfl
  | _, .int _, _ => rfl
  | _, .str z, _ => rfl
  | 0, .tup _, e => by simp [okT] at e
  | n + 1, .tup xs, e => by
    have e : okTs n xs = true := by simpa [okT] using e
    show (match mapO (toP h (n + 1)) xs with
      | some ds => some (PyData.tuple ds)
      | none => none) = _
    rw [toPs_T h n xs e]
    simp [toT]
  | 0, .lst _, e => by simp [okT] at e
  | n + 1, .lst xs, e => by
    have e : okTs n xs = true := by simpa [okT] using e
    show (match mapO (toP h (n + 1)) xs with
      | some ds => some (PyData.list ds)
      | none => none) = _
    rw [toPs_T h n xs e]
    simp [toT]
  | _, .loc _, e => by simp [okT] at e
  | _, .draw, e => by simp [okT] at e
  | _, .ins _ _, e => by simp [okT] at e
  | _, .dct _ _, e => by simp [okT] at e
  | _, .tct _ _, e => by simp [okT] at e
  | _, .exn _ _, e => by simp [okT] at e
theorem toPs_T (h : List O) : ∀ (n : Nat) (xs : List D), okTs n xs = true → mapO (toP h (n + 1)) xs = some (toTs xs)
  | _, [], _ => rfl
  | n, x :: xs, e => by
    have e : (okT n x && okTs n xs) = true := by simpa [okTs] using e
    have e := Bool.and_eq_true_iff.mp e
    simp only [mapO, toP_T h n x e.1, toPs_T h n xs e.2, toTs]
end
mutual
theorem okT_lay : ∀ (n : Nat) (x : D), okT n x = true → (toT x).canLay0 = true ∧ (toT x).depth ≤ n
  | _, .non, _ => ⟨rfl, Nat.zero_le _⟩
  | _, .bl _, _ => ⟨rfl, Nat.zero_le _⟩
  | _, .int _, _ => ⟨rfl, Nat.zero_le _⟩
  | _, .str z, e => ⟨by simpa [okT, toT, PyData.canLay0] using e, Nat.zero_le _⟩
  | 0, .tup _, e => by simp [okT] at e
  | n + 1, .tup xs, e => by
    have e : okTs n xs = true := by simpa [okT] using e
    obtain ⟨h1, h2⟩ := okTs_lay n xs e
    exact ⟨by simpa [toT, PyData.canLay0] using h1, by simp [toT, PyData.depth]; exact h2⟩
  | 0, .lst _, e => by simp [okT] at e
  | n + 1, .lst xs, e => by
    have e : okTs n xs = true := by simpa [okT] using e
    obtain ⟨h1, h2⟩ := okTs_lay n xs e
    exact ⟨by simpa [toT, PyData.canLay0] using h1, by simp [toT, PyData.depth]; exact h2⟩
  | _, .loc _, e => by simp [okT] at e
  | _, .draw, e => by simp [okT] at e
  | _, .ins _ _, e => by simp [okT] at e
  | _, .dct _ _, e => by simp [okT] at e
  | _, .tct _ _, e => by simp [okT] at e
  | _, .exn _ _, e => by simp [okT] at e
theorem okTs_lay : ∀ (n : Nat) (xs : List D), okTs n xs = true → PyData.canLayAll0 (toTs xs) = true ∧ PyData.depthAll (toTs xs) ≤ n
  | _, [], _ => ⟨rfl, Nat.zero_le _⟩
  | n, x :: xs, e => by
    have e : (okT n x && okTs n xs) = true := by simpa [okTs] using e
    have e := Bool.and_eq_true_iff.mp e
    obtain ⟨h1, h2⟩ := okT_lay n x e.1
    obtain ⟨h3, h4⟩ := okTs_lay n xs e.2
    exact ⟨by simp [toTs, PyData.canLayAll0, h1, h3], by simp [toTs, PyData.depthAll]; omega⟩
end
mutual
theorem eqT_eqv : ∀ (n : Nat) (x y : D), okT n x = true → okT n y = true → PyData.eqv (toT x) (toT y) = eqT x y
  | n, .non, y, _, h => by cases y <;> simp_all [toT, eqT, PyData.eqv, okT]
  | n, .bl a, y, _, h => by cases y <;> simp_all [toT, eqT, PyData.eqv, okT]
  | n, .int i, y, _, h => by cases y <;> simp_all [toT, eqT, PyData.eqv, okT]
  | n, .str z, y, _, h => by cases y <;> simp_all [toT, eqT, PyData.eqv, okT]
  | 0, .tup _, _, h, _ => by simp [okT] at h
  | n + 1, .tup xs, y, h1, h2 => by
    have h1 : okTs n xs = true := by simpa [okT] using h1
    cases y with
    | tup ys =>
      have h2 : okTs n ys = true := by simpa [okT] using h2
      simpa [toT, eqT, PyData.eqv] using eqTs_eqv n xs ys h1 h2
    | _ => simp_all [toT, eqT, PyData.eqv, okT]
  | 0, .lst _, _, h, _ => by simp [okT] at h
  | n + 1, .lst xs, y, h1, h2 => by
    have h1 : okTs n xs = true := by simpa [okT] using h1
    cases y with
    | lst ys =>
      have h2 : okTs n ys = true := by simpa [okT] using h2
      simpa [toT, eqT, PyData.eqv] using eqTs_eqv n xs ys h1 h2
    | _ => simp_all [toT, eqT, PyData.eqv, okT]
  | n, .loc _, _, h, _ => by simp [okT] at h
  | n, .draw, _, h, _ => by simp [okT] at h
  | n, .ins _ _, _, h, _ => by simp [okT] at h
  | n, .dct _ _, _, h, _ => by simp [okT] at h
  | n, .tct _ _, _, h, _ => by simp [okT] at h
  | n, .exn _ _, _, h, _ => by simp [okT] at h
theorem eqTs_eqv : ∀ (n : Nat) (xs ys : List D), okTs n xs = true → okTs n ys = true → PyData.eqvAll (toTs xs) (toTs ys) = eqTs xs ys
  | _, [], [], _, _ => rfl
  | _, [], _ :: _, _, _ => rfl
  | _, _ :: _, [], _, _ => rfl
  | n, x :: xs, y :: ys, h1, h2 => by
    have h1 := Bool.and_eq_true_iff.mp (show (okT n x && okTs n xs) = true by simpa [okTs] using h1)
    have h2 := Bool.and_eq_true_iff.mp (show (okT n y && okTs n ys) = true by simpa [okTs] using h2)
    simp only [toTs, PyData.eqvAll, eqTs, eqT_eqv n x y h1.1 h2.1, eqTs_eqv n xs ys h1.2 h2.2]
end
mutual
theorem okT_up : ∀ (n : Nat) (x : D), okT n x = true → okT (n + 1) x = true
  | _, .non, _ => rfl
  | _, .bl _, _ => rfl
  | _, .int _, _ => rfl
  | _, .str z, e => by simpa [okT] using e
  | 0, .tup _, e => by simp [okT] at e
  | n + 1, .tup xs, e => by
    have e : okTs n xs = true := by simpa [okT] using e
    simpa [okT] using okTs_up n xs e
  | 0, .lst _, e => by simp [okT] at e
  | n + 1, .lst xs, e => by
    have e : okTs n xs = true := by simpa [okT] using e
    simpa [okT] using okTs_up n xs e
  | _, .loc _, e => by simp [okT] at e
  | _, .draw, e => by simp [okT] at e
  | _, .ins _ _, e => by simp [okT] at e
  | _, .dct _ _, e => by simp [okT] at e
  | _, .tct _ _, e => by simp [okT] at e
  | _, .exn _ _, e => by simp [okT] at e
theorem okTs_up : ∀ (n : Nat) (xs : List D), okTs n xs = true → okTs (n + 1) xs = true
  | _, [], _ => rfl
  | n, x :: xs, e => by
    have e := Bool.and_eq_true_iff.mp (show (okT n x && okTs n xs) = true by simpa [okTs] using e)
    simp [okTs, okT_up n x e.1, okTs_up n xs e.2]
end
theorem pEq_T (f : Bool → Bool) (h : List O) {x y : D} (hx : okT 23 x = true) (hy : okT 23 y = true) : pEq f h x y = some (f (eqT x y)) := by
  unfold pEq deep
  rw [toP_T h 23 x hx, toP_T h 23 y hy]
  obtain ⟨a1, a2⟩ := okT_lay _ _ hx
  obtain ⟨b1, b2⟩ := okT_lay _ _ hy
  dsimp only
  rw [if_pos (by unfold SeqAt.shaped; rw [a1, b1, decide_eq_true (show (toT x).depth ≤ 64 by omega), decide_eq_true (show (toT y).depth ≤ 64 by omega)]; rfl), eqT_eqv 23 x y hx hy]
/-- x in a list of such values -/
theorem pIn_T (f : Bool → Bool) {h : List O} {x : D} {ys : List D} (hx : okT 23 x = true) (hy : okTs 22 ys = true) : pIn f h x (.lst ys) = some (f (ys.any fun y => eqT y x)) := by
  obtain ⟨a1, a2⟩ := okT_lay _ _ hx
  obtain ⟨b1, b2⟩ := okTs_lay _ _ hy
  have e2 : toP h deep (.lst ys) = some (.list (toTs ys)) := toP_T h 23 (.lst ys) (by simpa [okT] using hy)
  unfold pIn
  rw [show toP h deep x = _ from toP_T h 23 x hx, e2]
  dsimp only
  rw [if_pos (by
    unfold SeqAt.shaped
    rw [a1, decide_eq_true (show (toT x).depth ≤ 64 by omega), show (PyData.list (toTs ys)).canLay0 = true by simpa [PyData.canLay0] using b1, decide_eq_true (show (PyData.list (toTs ys)).depth ≤ 64 by simp [PyData.depth]; omega)]; rfl)]
  have : ∀ zs : List D, okTs 22 zs = true → ((toTs zs).any fun z => PyData.eqv z (toT x)) = zs.any fun y => eqT y x := by
    intro zs
    induction zs with
    | nil => intro _; rfl
    | cons z zs ih =>
      intro h1
      have h1 := Bool.and_eq_true_iff.mp (show (okT 22 z && okTs 22 zs) = true by simpa [okTs] using h1)
      have up : ∀ (m : Nat), (∀ w : D, okT m w = true → okT (m + 1) w = true) := fun m w hw => okT_up m w hw
      simp only [toTs, List.any_cons, ih h1.2, eqT_eqv 23 z x (up 22 z h1.1) hx]
  rw [this ys hy]
end Ev

/-! One step after the other: what a piece gives, from what its pieces give. -/
namespace Ev
open PySem PySem.Spec PyProof.Rows L2 Dr
section
variable {s s1 s2 : Sg} {h h1 h2 h3 h4 : List O} {x y z v : D} {xs : List D} {b b2 : Bool} {fa fb fc : Sg → M D} {ft fu : Sg → M Bool} {fr : Sg → M (List D)} {f g : Sg → M Out} {R : Tr (Out × List O)} {i j : Nat}
theorem r_seq (e : f s h = .ret (.nx s1, h1)) (k : g s1 h1 = R) : sSeq f g s h = R := by unfold sSeq; rw [M.bind_ap, e]; exact k
theorem r_seq_rt (e : f s h = .ret (.rt x, h1)) : sSeq f g s h = .ret (.rt x, h1) := by unfold sSeq; rw [M.bind_ap, e]; rfl
def seqK (g : Sg → M Out) : Out → List O → Tr (Out × List O)
  | .nx s, h => g s h
  | o, h => .ret (o, h)
theorem r_seqK {o : Out} (e : f s h = .ret (o, h1)) (k : seqK g o h1 = R) : sSeq f g s h = R := by
  unfold sSeq; rw [M.bind_ap, e, ← k]
  cases o <;> rfl
theorem r_seqK_nx (k : g s1 h1 = R) : seqK g (.nx s1) h1 = R := k
theorem r_ifK (e : ft s h = .ret (b, h1)) (k : (if b = true then f s h1 else g s h1) = R) : sIf ft f g s h = R := by unfold sIf; rw [M.bind_ap, e, Tr.bind_ret]; dsimp only; rw [← k]; split <;> rfl
theorem r_tandK (e : ft s h = .ret (b, h1)) (k : (if b = true then fu s h1 else .ret (false, h1)) = .ret (b2, h2)) : tAndF ft fu s h = .ret (b2, h2) := by unfold tAndF; rw [M.bind_ap, e, Tr.bind_ret, ← k]; dsimp only; split <;> rfl
theorem r_torK (e : ft s h = .ret (b, h1)) (k : (if b = true then .ret (true, h1) else fu s h1) = .ret (b2, h2)) : tOrF ft fu s h = .ret (b2, h2) := by unfold tOrF; rw [M.bind_ap, e, Tr.bind_ret, ← k]; dsimp only; split <;> rfl
theorem r_andK (e : fa s h = .ret (.bl b, h1)) (k : (if b = true then fb s h1 else .ret (.bl false, h1)) = .ret (x, h2)) : fAnd fa fb s h = .ret (x, h2) := by unfold fAnd; rw [M.bind_ap, M.bind_ap, e, ← k]; cases b <;> rfl
theorem r_orK (e : fa s h = .ret (.bl b, h1)) (k : (if b = true then .ret (.bl true, h1) else fb s h1) = .ret (x, h2)) : fOr fa fb s h = .ret (x, h2) := by unfold fOr; rw [M.bind_ap, M.bind_ap, e, ← k]; cases b <;> rfl
theorem r_ifxK (e : ft s h = .ret (b, h1)) (k : (if b = true then fa s h1 else fb s h1) = .ret (x, h2)) : fIf ft fa fb s h = .ret (x, h2) := by unfold fIf; rw [M.bind_ap, e, Tr.bind_ret, ← k]; dsimp only; split <;> rfl
theorem r_ift (e : ft s h = .ret (true, h1)) (k : f s h1 = R) : sIf ft f g s h = R := by unfold sIf; rw [M.bind_ap, e, Tr.bind_ret]; exact k
theorem r_iff (e : ft s h = .ret (false, h1)) (k : g s h1 = R) : sIf ft f g s h = R := by unfold sIf; rw [M.bind_ap, e, Tr.bind_ret]; exact k
theorem r_if (e : ft s h = .ret (b, h1)) (k1 : b = true → f s h1 = R) (k2 : b = false → g s h1 = R) : sIf ft f g s h = R := by
  cases b
  · exact r_iff e (k2 rfl)
  · exact r_ift e (k1 rfl)
theorem r_ret (e : fa s h = .ret (x, h1)) : sRet fa s h = .ret (.rt x, h1) := by unfold sRet; rw [M.bind_ap, e]; rfl
theorem r_expr (e : fa s h = .ret (x, h1)) : sExpr fa s h = .ret (.nx s, h1) := by unfold sExpr; rw [M.bind_ap, e]; rfl
theorem r_setN (e : fa s h = .ret (x, h1)) (hs : s.set i (some x) = s1) : sSet i fa s h = .ret (.nx s1, h1) := by subst hs; unfold sSet; rw [M.bind_ap, e]; rfl
theorem r_parN (e : fr s h = .ret ([x, y], h1)) (hs : (s.set i (some x)).set j (some y) = s1) : sPar i j fr s h = .ret (.nx s1, h1) := by subst hs; unfold sPar; rw [M.bind_ap, e]; rfl
theorem r_gtup {n : Nat} {gs : List D → Sg → M Sg} (hl : xs.length = n) (k : gs xs s h = .ret (s1, h1)) : gTupF n gs (.tup xs) s h = .ret (s1, h1) := by unfold gTupF; dsimp only; rw [if_pos hl]; exact k
theorem r_gand {g : D → Sg → M Sg} {gs : List D → Sg → M Sg} (e : g x s h = .ret (s1, h1)) (k : gs xs s1 h1 = .ret (s2, h2)) : gAnd g gs (x :: xs) s h = .ret (s2, h2) := by unfold gAnd; dsimp only; rw [M.bind_ap, e]; exact k
theorem r_gend : gEnd [] s h = .ret (s, h) := rfl
theorem r_gset (hs : s.set i (some x) = s1) : gSet i x s h = .ret (s1, h) := by subst hs; rfl
theorem r_isSet {w : Option D} (k : s.set i w = s1) : s.set i w = s1 := k
theorem r_le0 {n : Nat} : ([] : List D).length ≤ n := Nat.zero_le _
theorem r_leS {n : Nat} (h : xs.length ≤ n) : (x :: xs).length ≤ n + 1 := Nat.succ_le_succ h
theorem r_set (e : fa s h = .ret (x, h1)) : sSet i fa s h = .ret (.nx (s.set i (some x)), h1) := by unfold sSet; rw [M.bind_ap, e]; rfl
theorem r_asg {g : D → Sg → M Sg} (e : fa s h = .ret (x, h1)) (k : g x s h1 = .ret (s1, h2)) : sAsg fa g s h = .ret (.nx s1, h2) := by unfold sAsg; rw [M.bind_ap, e, Tr.bind_ret, M.bind_ap, k]; rfl
theorem r_par (e : fr s h = .ret ([x, y], h1)) : sPar i j fr s h = .ret (.nx ((s.set i (some x)).set j (some y)), h1) := by unfold sPar; rw [M.bind_ap, e]; rfl
theorem r_nx : sNx s h = .ret (.nx s, h) := rfl
/-! expressions -/
theorem r_var (e : s[i]? = some (some x)) : fVar i s h = .ret (x, h) := by unfold fVar; rw [e]
theorem r_c : fC x s h = .ret (x, h) := rfl
theorem r_1 {op : D → M D} (e : fa s h = .ret (x, h1)) (k : op x h1 = .ret (v, h2)) : f1 op fa s h = .ret (v, h2) := by unfold f1; rw [M.bind_ap, e, Tr.bind_ret]; exact k
theorem r_2 {op : D → D → M D} (e : fa s h = .ret (x, h1)) (e2 : fb s h1 = .ret (y, h2)) (k : op x y h2 = .ret (v, h3)) : f2 op fa fb s h = .ret (v, h3) := by
  unfold f2; rw [M.bind_ap, e, Tr.bind_ret, M.bind_ap, e2, Tr.bind_ret]; exact k
theorem r_nil : fNil s h = .ret ([], h) := rfl
theorem r_cons (e : fa s h = .ret (x, h1)) (k : fr s h1 = .ret (xs, h2)) : fCons fa fr s h = .ret (x :: xs, h2) := by unfold fCons; rw [M.bind_ap, e, Tr.bind_ret, M.bind_ap, k]; rfl
theorem r_N {op : List D → M D} (e : fr s h = .ret (xs, h1)) (k : op xs h1 = .ret (v, h2)) : fN op fr s h = .ret (v, h2) := by unfold fN; rw [M.bind_ap, e, Tr.bind_ret]; exact k
theorem r_cmpV {p : Cmp} (e : p h x y = some b) : cmpV p x y h = .ret (.bl b, h) := by unfold cmpV; rw [e]
theorem r_t2 {p : Cmp} (e : fa s h = .ret (x, h1)) (e2 : fb s h1 = .ret (y, h2)) (k : p h2 x y = some b) : t2 p fa fb s h = .ret (b, h2) := by
  unfold t2 cmpB; rw [M.bind_ap, e, Tr.bind_ret, M.bind_ap, e2, Tr.bind_ret]; dsimp only; rw [k]
theorem r_tval (e : fa s h = .ret (.bl b, h1)) : tVal fa s h = .ret (b, h1) := by unfold tVal; rw [M.bind_ap, e]; rfl
theorem r_tnot (e : ft s h = .ret (b, h1)) : tNotF ft s h = .ret (!b, h1) := by unfold tNotF; rw [M.bind_ap, e]; rfl
/-- both sides have no effect on the store -/
theorem r_tand (e : ft s h = .ret (b, h1)) (e2 : b = true → fu s h1 = .ret (b2, h1)) : tAndF ft fu s h = .ret (b && b2, h1) := by
  unfold tAndF; rw [M.bind_ap, e, Tr.bind_ret]
  cases b
  · rfl
  · exact e2 rfl
theorem r_tor (e : ft s h = .ret (b, h1)) (e2 : b = false → fu s h1 = .ret (b2, h1)) : tOrF ft fu s h = .ret (b || b2, h1) := by
  unfold tOrF; rw [M.bind_ap, e, Tr.bind_ret]
  cases b
  · exact e2 rfl
  · rfl
theorem r_and (e : fa s h = .ret (.bl b, h1)) (e2 : b = true → fb s h1 = .ret (.bl b2, h1)) : fAnd fa fb s h = .ret (.bl (b && b2), h1) := by
  unfold fAnd; rw [M.bind_ap, M.bind_ap, e]
  cases b
  · rfl
  · exact e2 rfl
theorem r_or (e : fa s h = .ret (.bl b, h1)) (e2 : b = false → fb s h1 = .ret (.bl b2, h1)) : fOr fa fb s h = .ret (.bl (b || b2), h1) := by
  unfold fOr; rw [M.bind_ap, M.bind_ap, e]
  cases b
  · exact e2 rfl
  · rfl
theorem r_not (e : fa s h = .ret (.bl b, h1)) : fNot fa s h = .ret (.bl (!b), h1) := by unfold fNot; rw [M.bind_ap, M.bind_ap, e]; rfl
theorem r_ifx (e : ft s h = .ret (b, h1)) (k1 : b = true → fa s h1 = .ret (x, h2)) (k2 : b = false → fb s h1 = .ret (y, h2)) : fIf ft fa fb s h = .ret (if b = true then x else y, h2) := by
  unfold fIf; rw [M.bind_ap, e, Tr.bind_ret]
  cases b
  · exact k2 rfl
  · exact k1 rfl
theorem r_tup (e : fr s h = .ret (xs, h1)) (hl : xs.length ≤ 1000000) : fN mkTup fr s h = .ret (.tup xs, h1) := r_N e (if_pos hl)
theorem r_lst (e : fr s h = .ret (xs, h1)) (hl : xs.length ≤ 1000000) : fN mkLst fr s h = .ret (.loc h1.length, h1 ++ [.lst xs]) := r_N e (if_pos hl)
theorem r_fz (e : fr s h = .ret (xs, h1)) (hl : xs.length ≤ 1000000) : fN mkFz fr s h = .ret (.lst xs, h1) := r_N e (if_pos hl)
theorem r_tupc (hl : xs.length ≤ 1000000) : mkTup xs h = .ret (.tup xs, h) := if_pos hl
theorem r_fzc (hl : xs.length ≤ 1000000) : mkFz xs h = .ret (.lst xs, h) := if_pos hl
theorem r_app {n : Nat} {zs : List D} (e : fa s h = .ret (.loc n, h1)) (e1 : h1[n]? = some (.lst zs)) (e2 : fr s h1 = .ret ([y], h2)) (e3 : h2[n]? = some (.lst xs)) (hl : xs.length < 1000000) : fM mAppend fa fr s h = .ret (.non, h2.set n (.lst (xs ++ [y]))) := by
  unfold fM isL lstD
  rw [M.bind_ap, e, Tr.bind_ret, M.bind_ap]
  dsimp only
  rw [e1]
  show ((fr s h1).bind _) = _
  rw [e2, Tr.bind_ret]
  unfold mAppend
  dsimp only
  rw [e3]
  exact if_pos hl
theorem mkF_of {np nn : Nat} {o : Out} (hn : xs.length = np) (e : f (xs.map some ++ List.replicate (nn - xs.length) none) h = .ret (o, h1)) (k : outD o h1 = .ret (v, h2)) : mkF np nn f xs h = .ret (v, h2) := by
  unfold mkF
  rw [if_pos hn, M.bind_ap, e]
  exact k
theorem F_ret {np nn : Nat} {o : Out} {V : D} (hn : xs.length = np) (e : f (xs.map some ++ List.replicate (nn - xs.length) none) h = .ret (o, h1)) (k : outD o h1 = .ret (v, h2)) (hv : v = V) : ∃ g, mkF np nn f xs h = .ret (V, g) := by
  subst hv
  exact ⟨_, mkF_of hn e k⟩
theorem F_retN {np nn : Nat} {o : Out} {V : D} (hn : xs.length = np) (hs : xs.map some ++ List.replicate (nn - xs.length) none = s) (e : f s h = .ret (o, h1)) (k : outD o h1 = .ret (v, h2)) (hv : v = V) : ∃ g, mkF np nn f xs h = .ret (V, g) := by
  subst hv hs
  exact ⟨_, mkF_of hn e k⟩
theorem r_sl {mk : List D → M D} {fl fh : Sg → M (Option Int)} {lo hi : Option Int} (e : fa s h = .ret (x, h1)) (e1 : fl s h1 = .ret (lo, h2)) (e2 : fh s h2 = .ret (hi, h3)) (k : oSl mk x lo hi h3 = .ret (v, h4)) : fSl mk fa fl fh s h = .ret (v, h4) := by
  unfold fSl; rw [M.bind_ap, e, Tr.bind_ret, M.bind_ap, e1, Tr.bind_ret, M.bind_ap, e2, Tr.bind_ret]; exact k
theorem r_no : fNo s h = .ret (none, h) := rfl
theorem r_part {i : Int} (e : fa s h = .ret (.int i, h1)) : fPart fa s h = .ret (some i, h1) := by unfold fPart; rw [M.bind_ap, e]; rfl
theorem r_M {n : Nat} {zs ys : List D} {op : D → List D → M D} (e : fa s h = .ret (.loc n, h1)) (e1 : h1[n]? = some (.lst zs)) (e2 : fr s h1 = .ret (ys, h2)) (k : op (.loc n) ys h2 = .ret (v, h3)) : fM op fa fr s h = .ret (v, h3) := by
  unfold fM isL lstD
  rw [M.bind_ap, e, Tr.bind_ret, M.bind_ap]
  dsimp only
  rw [e1]
  show ((fr s h1).bind _) = _
  rw [e2, Tr.bind_ret]
  exact k
theorem r_aug {op : D → D → M D} (e0 : s[i]? = some (some x)) (e : fa s h = .ret (y, h1)) (k : op x y h1 = .ret (z, h2)) (hs : s.set i (some z) = s1) : sAug i op fa s h = .ret (.nx s1, h2) := by
  subst hs
  unfold sAug
  rw [e0]
  dsimp only
  rw [M.bind_ap, e, Tr.bind_ret, M.bind_ap, k]
  rfl
theorem r_chainK {p q : Cmp} (e : fa s h = .ret (x, h1)) (e2 : fb s h1 = .ret (y, h2)) (k : p h2 x y = some b) (kk : (if b = true then M.bind (fc s) (fun z => cmpV q y z) h2 else .ret (.bl false, h2)) = .ret (v, h3)) : fChain p q fa fb fc s h = .ret (v, h3) := by
  unfold fChain
  rw [M.bind_ap, e, Tr.bind_ret, M.bind_ap, e2, Tr.bind_ret, ← kk]
  unfold cmpB
  rw [M.bind_ap]
  dsimp only
  rw [k, Tr.bind_ret]
  cases b <;> rfl
theorem r_bind2 {q : Cmp} (e : fc s h = .ret (z, h1)) (k : cmpV q y z h1 = .ret (v, h2)) : M.bind (fc s) (fun z => cmpV q y z) h = .ret (v, h2) := by rw [M.bind_ap, e]; exact k
theorem r_tchain {p q : Cmp} (e : fChain p q fa fb fc s h = .ret (.bl b, h1)) : tChainF p q fa fb fc s h = .ret (b, h1) := by unfold tChainF; rw [M.bind_ap, e]; rfl
theorem r_fld {k : Nat} {fo fv : Sg → M D} {n : Nat} {fs : List D} {h4 : List O} (e1 : fv s h = .ret (y, h1)) (e2 : fo s h1 = .ret (.loc n, h2)) (e3 : h2[n]? = some (.ins k fs)) (e4 : fs.length = i) (e5 : h2.set n (.ins k (fs ++ [y])) = h4) : sFldF k i fo fv s h = .ret (.nx s, h4) := by
  subst e5
  unfold sFldF
  rw [M.bind_ap, e1, Tr.bind_ret, M.bind_ap, e2, Tr.bind_ret]
  dsimp only
  rw [e3]
  dsimp only
  rw [if_pos rfl, show putN fs i y = some (fs ++ [y]) by unfold putN; rw [if_neg (by omega), if_pos e4.symm]]
theorem r_pure {F : List D → M D} (e : fr s h = .ret (xs, h1)) (k : oPure F xs h1 = .ret (v, h2)) : fN (oPure F) fr s h = .ret (v, h2) := r_N e k
theorem r_if2 {g' : Sg → M Out} : sIf ft f g' s h = (ft s h).bind fun r => if r.1 = true then f s r.2 else g' s r.2 := by
  unfold sIf; rw [M.bind_ap]; congr 1; funext r; split <;> rfl
theorem F_retX {np nn : Nat} {o : Out} {V : D} {H : List O} (hn : xs.length = np) (hs : xs.map some ++ List.replicate (nn - xs.length) none = s) (e : f s h = .ret (o, h1)) (k : outD o h1 = .ret (v, h2)) (hv : v = V) (hh : h2 = H) : mkF np nn f xs h = .ret (V, H) := by
  subst hv hs hh
  exact mkF_of hn e k
end
end Ev

/-! Comprehensions and loops over lists of a type. -/
namespace Ev
open PySem PySem.Spec PyProof.Rows L2 Dr
/-- what is walked is known, whatever the store -/
structure Sr {α : Type} (m : Tr (Src × List O)) (h1 : List O) (ys : List α) (e : Nat → α → D) : Prop where
  ex : ∃ S : Src, m = .ret (S, h1) ∧ S.fuel = ys.length ∧ ∀ i h, S.get i h = some ((ys[i]?).map (e i))
section
variable {α : Type} {vs : List Nat} {fi : Sg → M Src} {fa : Sg → M D} {g : D → Sg → M Sg} {ft : Sg → M Bool} {fe : Sg → M D} {s : Sg} {h h1 : List O}
theorem sr_tup {xs : List D} (ys : List α) (e : α → D) (ha : fa s h = .ret (.tup xs, h1)) (hx : xs = ys.map e) : Sr (fSrc noF fa s h) h1 ys fun _ => e := by
  subst hx
  refine ⟨⟨(ys.map e).length, getT noF (ys.map e)⟩, ?_, by simp, fun i h => by show getT noF (ys.map e) i h = _; unfold getT noF; rw [List.getElem?_map]; cases ys[i]? <;> rfl⟩
  unfold fSrc
  rw [M.bind_ap, ha]
  rfl
theorem sr_lst {xs : List D} (ys : List α) (e : α → D) (ha : fa s h = .ret (.lst xs, h1)) (hx : xs = ys.map e) : Sr (fSrc noF fa s h) h1 ys fun _ => e := by
  subst hx
  refine ⟨⟨(ys.map e).length, getT noF (ys.map e)⟩, ?_, by simp, fun i h => by show getT noF (ys.map e) i h = _; unfold getT noF; rw [List.getElem?_map]; cases ys[i]? <;> rfl⟩
  unfold fSrc
  rw [M.bind_ap, ha]
  rfl
theorem sr_tupE {xs : List D} (ys : List α) (e : α → D) (ha : fa s h = .ret (.tup xs, h1)) (hx : xs = ys.map e) : Sr (fSrc enF fa s h) h1 ys fun i y => .tup [.int (i : Nat), e y] := by
  subst hx
  refine ⟨⟨(ys.map e).length, getT enF (ys.map e)⟩, ?_, by simp, fun i h => by show getT enF (ys.map e) i h = _; unfold getT enF; rw [List.getElem?_map]; cases ys[i]? <;> rfl⟩
  unfold fSrc
  rw [M.bind_ap, ha]
  rfl
theorem sr_lstE {xs : List D} (ys : List α) (e : α → D) (ha : fa s h = .ret (.lst xs, h1)) (hx : xs = ys.map e) : Sr (fSrc enF fa s h) h1 ys fun i y => .tup [.int (i : Nat), e y] := by
  subst hx
  refine ⟨⟨(ys.map e).length, getT enF (ys.map e)⟩, ?_, by simp, fun i h => by show getT enF (ys.map e) i h = _; unfold getT enF; rw [List.getElem?_map]; cases ys[i]? <;> rfl⟩
  unfold fSrc
  rw [M.bind_ap, ha]
  rfl
theorem sr_rng {j : Nat} {z : Int} (ha : fa s h = .ret (.int z, h1)) (hz : z = (j : Nat)) (hl : j ≤ 1000000) : Sr ((fun s => M.bind (fa s) srcR1) s h) h1 (List.range j) fun _ (i : Nat) => .int (i : Nat) := by
  subst hz
  refine ⟨⟨j, getR 0 j⟩, ?_, by simp, fun i h => by
    show getR 0 j i h = _
    unfold getR
    by_cases q : i < j
    · rw [if_pos q, List.getElem?_range q]; simp
    · rw [if_neg q, List.getElem?_eq_none (by simpa using q)]; rfl⟩
  dsimp only
  rw [M.bind_ap, ha, Tr.bind_ret]
  show srcR1 (D.int (j : Nat)) h1 = _
  unfold srcR1
  dsimp only
  rw [if_pos (by omega), Int.toNat_natCast]
theorem r_itet {c : Prop} [Decidable c] {β : Type} {a b R : β} (hc : c) (k : a = R) : (if c then a else b) = R := by rw [if_pos hc]; exact k
theorem r_itef {c : Prop} [Decidable c] {β : Type} {a b R : β} (hc : ¬ c) (k : b = R) : (if c then a else b) = R := by rw [if_neg hc]; exact k
theorem body_some {x y : D} {s1 : Sg} {h2 h3 : List O} (e1 : g x s h = .ret (s1, h1)) (e2 : ft s1 h1 = .ret (true, h2)) (e3 : fe s1 h2 = .ret (y, h3)) : cBody s g ft fe x h = .ret (some y, h3) := by
  unfold cBody
  rw [M.bind_ap, e1, Tr.bind_ret, M.bind_ap, e2, Tr.bind_ret]
  dsimp only
  rw [if_pos rfl, M.bind_ap, e3]
  rfl
theorem body_none {x : D} {s1 : Sg} {h2 : List O} (e1 : g x s h = .ret (s1, h1)) (e2 : ft s1 h1 = .ret (false, h2)) : cBody s g ft fe x h = .ret (none, h2) := by
  unfold cBody
  rw [M.bind_ap, e1, Tr.bind_ret, M.bind_ap, e2]
  rfl
theorem comp_runT {get : Nat → List O → Option (Option D)} {body : D → M (Option D)} {ys : List α} {e : Nat → α → D} {φ : Nat → α → Option D}
    (hg : ∀ i h, get i h = some ((ys[i]?).map (e i))) (hb : ∀ i y, ys[i]? = some y → body (e i y) h = .ret (φ i y, h)) :
    ∀ (k i : Nat) (acc : List D), i + k = ys.length → acc.length + k ≤ lim → comp get body k i acc h = .ret (acc ++ ((ys.drop i).zipIdx i).filterMap fun p => φ p.2 p.1, h)
  | 0, i, acc, e, _ => by
    have : ys[i]? = none := List.getElem?_eq_none (by omega)
    simp only [comp, hg, this, Option.map_none]
    rw [List.drop_of_length_le (by omega)]
    simp
  | k + 1, i, acc, ee, hl => by
    have hi : i < ys.length := by omega
    have he : ys[i]? = some ys[i] := List.getElem?_eq_getElem hi
    simp only [comp, hg, he, Option.map_some]
    rw [hb i _ he, Tr.bind_ret]
    rw [List.drop_eq_getElem_cons hi, List.zipIdx_cons]
    cases q : φ i ys[i] with
    | none =>
      dsimp only
      rw [comp_runT hg hb k (i + 1) acc (by omega) (by omega), List.filterMap_cons_none (by exact q)]
    | some y =>
      dsimp only
      rw [if_pos (by omega), comp_runT hg hb k (i + 1) (acc ++ [y]) (by omega) (by simp; omega), List.filterMap_cons_some (by exact q)]
      simp
theorem zipIdx_fm (φ : α → Option D) : ∀ (ys : List α) (i : Nat), ((ys.zipIdx i).filterMap fun p => φ p.1) = ys.filterMap φ
  | [], _ => rfl
  | y :: ys, i => by
    rw [List.zipIdx_cons, List.filterMap_cons, List.filterMap_cons, zipIdx_fm φ ys (i + 1)]
/-- a comprehension, its items by place -/
theorem lcI {ys : List α} {e : Nat → α → D} (φ : Nat → α → Option D) (hs : Sr (fi s h) h1 ys e) (hl : ys.length ≤ 1000000) (hb : ∀ i y, ys[i]? = some y → cBody (wipeS s vs) g ft fe (e i y) h1 = .ret (φ i y, h1)) :
    fLc vs fi g ft fe s h = .ret (.lst (ys.zipIdx.filterMap fun p => φ p.2 p.1), h1) := by
  obtain ⟨S, e1, e2, e3⟩ := hs.ex
  unfold fLc
  rw [M.bind_ap, e1, Tr.bind_ret]
  dsimp only
  rw [e2, comp_runT e3 hb ys.length 0 [] (by omega) (by simpa [lim] using hl)]
  simp [Tr.calm, Tr.bind]
/-- .. by their values -/
theorem lcV {ys : List α} {e : α → D} (φ : α → Option D) (hs : Sr (fi s h) h1 ys fun _ => e) (hl : ys.length ≤ 1000000) (hb : ∀ y, y ∈ ys → cBody (wipeS s vs) g ft fe (e y) h1 = .ret (φ y, h1)) :
    fLc vs fi g ft fe s h = .ret (.lst (ys.filterMap φ), h1) := by
  rw [lcI (fun _ => φ) hs hl fun i y hy => hb y (List.mem_of_getElem? hy), zipIdx_fm φ ys 0]
/-- every item gives one -/
theorem lcM {ys : List α} {e : α → D} (φ : α → D) (hs : Sr (fi s h) h1 ys fun _ => e) (hl : ys.length ≤ 1000000) (hb : ∀ y, y ∈ ys → cBody (wipeS s vs) g ft fe (e y) h1 = .ret (some (φ y), h1)) :
    fLc vs fi g ft fe s h = .ret (.lst (ys.map φ), h1) := by
  rw [lcV (fun y => some (φ y)) hs hl hb, List.filterMap_eq_map']
/-! ### loops -/
theorem ex_step {P : Out → List O → Prop} {X : Tr (Out × List O)} {o : Out} {h' : List O} (e : X = .ret (o, h')) (q : P o h') : ∃ o h', X = .ret (o, h') ∧ P o h' := ⟨o, h', e, q⟩
theorem loop_inv {get : Nat → List O → Option (Option D)} {body : D → Sg → M Out} {ys : List α} {e : Nat → α → D} (I : Nat → Sg → List O → Prop) (Z : Out × List O → Prop)
    (hg : ∀ i h, get i h = some ((ys[i]?).map (e i)))
    (hb : ∀ i y s h, ys[i]? = some y → I i s h → ∃ o h', body (e i y) s h = .ret (o, h') ∧ match o with
      | .nx s' => I (i + 1) s' h'
      | .ct s' => I (i + 1) s' h'
      | .bk s' => Z (.nx s', h')
      | .rt v => Z (.rt v, h'))
    (hz : ∀ s h, I ys.length s h → Z (.nx s, h)) :
    ∀ (k i : Nat) (s : Sg) (h : List O), i + k = ys.length → I i s h → ∃ r, loop get body k i s h = .ret r ∧ Z r
  | 0, i, s, h, e, hi => by
    have e : i = ys.length := by omega
    subst e
    have : ys[ys.length]? = none := List.getElem?_eq_none (Nat.le_refl _)
    exact ⟨_, by simp only [loop, hg, this, Option.map_none], hz _ _ hi⟩
  | k + 1, i, s, h, ee, hi => by
    have hl : i < ys.length := by omega
    have he : ys[i]? = some ys[i] := List.getElem?_eq_getElem hl
    obtain ⟨o, h', e1, q⟩ := hb i _ s h he hi
    simp only [loop, hg, he, Option.map_some]
    rw [e1, Tr.bind_ret]
    cases o with
    | nx s' => exact loop_inv I Z hg hb hz k (i + 1) s' h' (by omega) q
    | ct s' => exact loop_inv I Z hg hb hz k (i + 1) s' h' (by omega) q
    | bk s' => exact ⟨_, rfl, q⟩
    | rt v => exact ⟨_, rfl, q⟩
theorem forI {fb : Sg → M Out} {ys : List α} {e : Nat → α → D} (I : Nat → Sg → List O → Prop) (Z : Out × List O → Prop) (hs : Sr (fi s h) h1 ys e) (h0 : I 0 s h1)
    (hb : ∀ i y s h, ys[i]? = some y → I i s h → ∃ o h', M.bind (g (e i y) s) fb h = .ret (o, h') ∧ match o with
      | .nx s' => I (i + 1) s' h'
      | .ct s' => I (i + 1) s' h'
      | .bk s' => Z (.nx s', h')
      | .rt v => Z (.rt v, h'))
    (hz : ∀ s h, I ys.length s h → Z (.nx s, h)) : ∃ r, sFor fi g fb s h = .ret r ∧ Z r := by
  obtain ⟨S, e1, e2, e3⟩ := hs.ex
  unfold sFor
  rw [M.bind_ap, e1, Tr.bind_ret]
  dsimp only
  rw [e2]
  exact loop_inv I Z e3 hb hz ys.length 0 s h1 (by omega) h0
end
end Ev
namespace Ev
open PySem PySem.Spec PyProof.Rows L2 Dr
theorem mapO_nl {g : List O} {n : Nat} : ∀ {xs : List D}, noLs xs = true → mapO (frz g (n + 1)) xs = some xs
  | [], _ => rfl
  | x :: xs, h => by
    have h := Bool.and_eq_true_iff.mp (show (noL x && noLs xs) = true by simpa [noLs] using h)
    simp only [mapO, frz_noL h.1, mapO_nl h.2]
theorem frz_lst {g : List O} {m : Nat} {xs : List D} (h : g[m]? = some (.lst xs)) (hx : noLs xs = true) : ∀ n : Nat, frz g (n + 2) (.loc m) = some (.lst xs) := fun n => by
  rw [frz]
  rw [if_neg (by simp [noL])]
  simp only [h, mapO_nl hx]
end Ev

namespace Und
open PySem PySem.Spec PyProof.Rows L2 Dr Ev
def fl0 : List Str := ["_way", "_still", "_hold", "_pins", "_guard"]
def fl1 : List Str := ["_rule", "_room", "_top", "_many", "_goes", "_lag"]
abbrev ncheck_house : List Str := ["value", "part"]
def bcheck_house : Sg → M Out :=
  (sIf (tNotF (tVal (f1 (isI (.cls 1)) (fVar 0)))) sBad sNx)
def Fcheck_house : List D → M D := mkF 2 2 bcheck_house
abbrev nis_number : List Str := ["value"]
def bis_number : Sg → M Out :=
  (sRet (fAnd (f1 (isI .int) (fVar 0)) (fNot (f1 (isI .bl) (fVar 0)))))
def Fis_number : List D → M D := mkF 1 1 bis_number
abbrev nis_number_within : List Str := ["value", "least", "most"]
def bis_number_within : Sg → M Out :=
  (sRet (fAnd (fN (oPure Fis_number) (fCons (fVar 0) fNil)) (fChain (pI fun i j => decide (i ≤ j)) (pI fun i j => decide (i ≤ j)) (fVar 1) (fVar 0) (fVar 2))))
def Fis_number_within : List D → M D := mkF 3 3 bis_number_within
abbrev nare_ranks : List Str := ["house", "thing", "most", "rank"]
def bare_ranks : Sg → M Out :=
  (sSeq (sIf (tOrF (tNotF (tVal (f1 (isI .tup) (fVar 1)))) (t2 (pI fun i j => decide (j < i)) (fN oLenA (fCons (fVar 1) fNil)) (fVar 2))) (sRet (fC (.bl false))) sNx)
  (sRet (fN (oBls fun bs => bs.all id) (fCons (fLc [3] (fSrc noF (fVar 1)) (gSet 3) tTrue (fN (oPure Fis_number_within) (fCons (fVar 3) (fCons (fC (.int 0)) (fCons (f1 (oFld 1 2) (fVar 0)) fNil))))) fNil))))
def Fare_ranks : List D → M D := mkF 3 4 bare_ranks
abbrev nis_look : List Str := ["house", "thing", "many", "age", "place", "spot"]
def bis_look : Sg → M Out :=
  (sSeq (sIf (tOrF (tNotF (tVal (f1 (isI .tup) (fVar 1)))) (t2 (pInA true) (fN oLenA (fCons (fVar 1) fNil)) (fN mkTup (fCons (fC (.int 0)) (fCons (fC (.int 3)) fNil))))) (sRet (fC (.bl false))) sNx)
  (sSeq (sIf (t2 (pEq fun b => b) (fVar 1) (fN mkTup fNil)) (sRet (fC (.bl true))) sNx)
  (sSeq (sAsg (fVar 1) (gTupF 3 (gAnd (gSet 3) (gAnd (gSet 4) (gAnd (gSet 5) gEnd)))))
  (sRet (fAnd (fN (oPure Fis_number_within) (fCons (fVar 3) (fCons (fC (.int 0)) (fCons (f2 (oI (fun _ _ => true) fun i j => i - j) (f2 oGet (f1 (oFld 1 5) (fVar 0)) (fC (.int 1))) (fC (.int 1))) fNil)))) (fAnd (fN (oPure Fis_number_within) (fCons (fVar 4) (fCons (fC (.int 0)) (fCons (f2 (oI (fun _ _ => true) fun i j => i - j) (f1 (oFld 1 1) (fVar 0)) (fC (.int 1))) fNil)))) (fN (oPure Fis_number_within) (fCons (fVar 5) (fCons (f1 oNeg (fC (.int 1))) (fCons (f2 (oI (fun _ _ => true) fun i j => i - j) (fVar 2) (fC (.int 1))) fNil))))))))))
def Fis_look : List D → M D := mkF 3 6 bis_look
abbrev nis_item : List Str := ["house", "thing", "rank", "is_gone", "stood"]
def bis_item : Sg → M Out :=
  (sSeq (sIf (tOrF (tNotF (tVal (f1 (isI .tup) (fVar 1)))) (t2 (pEq fun b => !b) (fN oLenA (fCons (fVar 1) fNil)) (fC (.int 3)))) (sRet (fC (.bl false))) sNx)
  (sSeq (sAsg (fVar 1) (gTupF 3 (gAnd (gSet 2) (gAnd (gSet 3) (gAnd (gSet 4) gEnd)))))
  (sSeq (sIf (tOrF (tNotF (tVal (f1 (isI .bl) (fVar 3)))) (tAndF (tVal (fVar 3)) (tNotF (tVal (f1 (oFld 1 4) (fVar 0)))))) (sRet (fC (.bl false))) sNx)
  (sRet (fAnd (fN (oPure Fis_number_within) (fCons (fVar 2) (fCons (fC (.int 0)) (fCons (f1 (oFld 1 2) (fVar 0)) fNil)))) (fN (oPure Fis_number_within) (fCons (fVar 4) (fCons (fC (.int 0)) (fCons (f1 (oFld 0 4) (f1 (oFld 1 0) (fVar 0))) fNil)))))))))
def Fis_item : List D → M D := mkF 2 5 bis_item
abbrev nis_standing : List Str := ["house", "thing", "shown", "waiting", "quiet", "look", "item"]
def bis_standing : Sg → M Out :=
  (sSeq (sExpr (fN (fun xs => oPure Fcheck_house (xs ++ [(.str "house")])) (fCons (fVar 0) fNil)))
  (sSeq (sIf (tOrF (tNotF (tVal (f1 (isI .tup) (fVar 1)))) (t2 (pEq fun b => !b) (fN oLenA (fCons (fVar 1) fNil)) (fC (.int 4)))) (sRet (fC (.bl false))) sNx)
  (sSeq (sAsg (fVar 1) (gTupF 4 (gAnd (gSet 2) (gAnd (gSet 3) (gAnd (gSet 4) (gAnd (gSet 5) gEnd))))))
  (sSeq (sIf (tOrF (tNotF (tVal (f1 (isI .tup) (fVar 2)))) (t2 (pI fun i j => decide (j < i)) (fN oLenA (fCons (fVar 2) fNil)) (f1 (oFld 1 1) (fVar 0)))) (sRet (fC (.bl false))) sNx)
  (sRet (fAnd (fN (oBls fun bs => bs.all id) (fCons (fLc [6] (fSrc noF (fVar 2)) (gSet 6) tTrue (fN (oPure Fis_item) (fCons (fVar 0) (fCons (fVar 6) fNil)))) fNil)) (fAnd (fN (oPure Fare_ranks) (fCons (fVar 0) (fCons (fVar 3) (fCons (f1 (oFld 1 3) (fVar 0)) fNil)))) (fAnd (fN (oPure Fis_number_within) (fCons (fVar 4) (fCons (fC (.int 0)) (fCons (f1 (oFld 0 1) (f1 (oFld 1 0) (fVar 0))) fNil)))) (fN (oPure Fis_look) (fCons (fVar 0) (fCons (fVar 5) (fCons (fN oLenA (fCons (fVar 2) fNil)) fNil))))))))))))
def Fis_standing : List D → M D := mkF 2 7 bis_standing
abbrev ncheck_standing : List Str := ["house", "standing"]
def bcheck_standing : Sg → M Out :=
  (sIf (tNotF (tVal (fN (oPure Fis_standing) (fCons (fVar 0) (fCons (fVar 1) fNil))))) sBad sNx)
def Fcheck_standing : List D → M D := mkF 2 2 bcheck_standing
abbrev nchanged : List Str := ["standing", "change", "shown", "waiting", "place", "rank", "is_gone", "stood"]
def bchanged : Sg → M Out :=
  (sSeq (sAsg (fSl mkFz (fVar 0) fNo (fPart (fC (.int 2)))) (gTupF 2 (gAnd (gSet 2) (gAnd (gSet 3) gEnd))))
  (sSeq (sIf (t2 (pEq fun b => b) (f2 oGet (fVar 1) (fC (.int 0))) (fC (.str "come"))) (sRet (fN mkTup (fCons (fVar 2) (fCons (f2 (oAdd mkFz) (fVar 3) (fN mkTup (fCons (f2 oGet (fVar 1) (fC (.int 1))) fNil))) fNil)))) sNx)
  (sSeq (sIf (t2 (pEq fun b => b) (f2 oGet (fVar 1) (fC (.int 0))) (fC (.str "go"))) (sSeq (sSet 4 (f2 oGet (fVar 1) (fC (.int 1))))
  (sSeq (sAsg (f2 oGet (fVar 2) (fVar 4)) (gTupF 3 (gAnd (gSet 5) (gAnd (gSet 6) (gAnd (gSet 7) gEnd)))))
  (sRet (fN mkTup (fCons (f2 (oAdd mkFz) (f2 (oAdd mkFz) (fSl mkFz (fVar 2) fNo (fPart (fVar 4))) (fN mkTup (fCons (fN mkTup (fCons (fVar 5) (fCons (fC (.bl true)) (fCons (fVar 7) fNil)))) fNil))) (fSl mkFz (fVar 2) (fPart (f2 (oAdd mkFz) (fVar 4) (fC (.int 1)))) fNo)) (fCons (fVar 3) fNil)))))) sNx)
  (sRet (fN mkTup (fCons (fVar 2) (fCons (fVar 3) fNil)))))))
def Fchanged : List D → M D := mkF 2 8 bchanged
abbrev nmust_draw : List Str := ["rule", "shown", "waiting", "quiet", "look", "rank", "is_gone", "stood"]
def bmust_draw : Sg → M Out :=
  (sSeq (sIf (tOrF (t2 (pI fun i j => decide (i < j)) (fVar 3) (f1 (oFld 0 1) (fVar 0))) (tAndF (t2 (pEq fun b => !b) (fVar 4) (fN mkTup fNil)) (t2 (pI fun i j => decide (i < j)) (f2 oGet (fVar 4) (fC (.int 0))) (f1 (oFld 0 2) (fVar 0))))) (sRet (fC (.bl false))) sNx)
  (sRet (fOr (f2 (cmpV (pEq fun b => !b)) (fVar 2) (fN mkTup fNil)) (fN (oBls fun bs => bs.any id) (fCons (fLc [5, 6, 7] (fSrc noF (fVar 1)) (gTupF 3 (gAnd (gSet 5) (gAnd (gSet 6) (gAnd (gSet 7) gEnd)))) tTrue (fVar 6)) fNil)))))
def Fmust_draw : List D → M D := mkF 5 8 bmust_draw
abbrev nundrawn_rows : List Str := ["shown", "place", "rank", "is_gone", "stood"]
def bundrawn_rows : Sg → M Out :=
  (sRet (fLc [1, 2, 3, 4] (fSrc enF (fVar 0)) (gTupF 2 (gAnd (gSet 1) (gAnd (gTupF 3 (gAnd (gSet 2) (gAnd (gSet 3) (gAnd (gSet 4) gEnd)))) gEnd))) tTrue (fN mkTup (fCons (fVar 2) (fCons (fVar 3) (fCons (fVar 1) fNil))))))
def Fundrawn_rows : List D → M D := mkF 1 5 bundrawn_rows
abbrev nplace_by_way : List Str := ["way", "ranks", "rank", "place", "other"]
def bplace_by_way : Sg → M Out :=
  (sSeq (sIf (t2 (pEq fun b => b) (fVar 0) (fC (.str "front"))) (sRet (fC (.int 0))) sNx)
  (sSeq (sIf (t2 (pEq fun b => b) (fVar 0) (fC (.str "rank"))) (sFor (fSrc enF (fVar 1)) (gTupF 2 (gAnd (gSet 3) (gAnd (gSet 4) gEnd))) (sIf (t2 (pI fun i j => decide (j < i)) (fVar 4) (fVar 2)) (sRet (fVar 3)) sNx)) sNx)
  (sRet (fN oLenA (fCons (fVar 1) fNil)))))
def Fplace_by_way : List D → M D := mkF 3 5 bplace_by_way
abbrev nplace_for : List Str := ["rule", "ranks", "rank"]
def bplace_for : Sg → M Out :=
  (sRet (fN (o2I fun i j => if j > i then j else i) (fCons (fN (oPure Fplace_by_way) (fCons (f1 (oFld 0 0) (fVar 0)) (fCons (fVar 1) (fCons (fVar 2) fNil)))) (fCons (fN (o2I fun i j => if j < i then j else i) (fCons (f1 (oFld 0 3) (fVar 0)) (fCons (fN oLenA (fCons (fVar 1) fNil)) fNil))) fNil))))
def Fplace_for : List D → M D := mkF 3 3 bplace_for
abbrev ndrawn_rows : List Str := ["house", "shown", "waiting", "rows", "rank", "row"]
def bdrawn_rows : Sg → M Out :=
  (sSeq (sSet 3 (fLcL [5] (fSrc noF (fN (oPure Fundrawn_rows) (fCons (fVar 1) fNil))) (gSet 5) (tNotF (tVal (f2 oGet (fVar 5) (fC (.int 1))))) (fVar 5)))
  (sSeq (sFor (fSrc noF (fVar 2)) (gSet 4) (sSeq (sExpr (fM mInsert (fVar 3) (fCons (fN (oPure Fplace_for) (fCons (f1 (oFld 1 0) (fVar 0)) (fCons (fLc [5] (fSrc noF (fVar 3)) (gSet 5) tTrue (f2 oGet (fVar 5) (fC (.int 0)))) (fCons (fVar 4) fNil)))) (fCons (fN mkTup (fCons (fVar 4) (fCons (fC (.bl false)) (fCons (fC .non) fNil)))) fNil))))
  (sSet 3 (fSl mkLst (fVar 3) fNo (fPart (f1 (oFld 1 1) (fVar 0)))))))
  (sRet (fVar 3))))
def Fdrawn_rows : List D → M D := mkF 3 6 bdrawn_rows
abbrev nstood_on : List Str := ["rule", "shown", "rows", "items", "place", "rank", "is_gone", "before", "stood"]
def bstood_on : Sg → M Out :=
  (sSeq (sSet 3 (fN mkLst fNil))
  (sSeq (sFor (fSrc enF (fVar 2)) (gTupF 2 (gAnd (gSet 4) (gAnd (gTupF 3 (gAnd (gSet 5) (gAnd (gSet 6) (gAnd (gSet 7) gEnd)))) gEnd))) (sSeq (sSet 8 (fIf (t2 (pEq fun b => b) (fVar 7) (fVar 4)) (fN (o2I fun i j => if j < i then j else i) (fCons (f2 (oAdd mkFz) (f2 oGet (f2 oGet (fVar 1) (fVar 4)) (fC (.int 2))) (fC (.int 1))) (fCons (f1 (oFld 0 4) (fVar 0)) fNil))) (fC (.int 0))))
  (sExpr (fM mAppend (fVar 3) (fCons (fN mkTup (fCons (fVar 5) (fCons (fVar 6) (fCons (fVar 8) fNil)))) fNil)))))
  (sRet (fN oTuple (fCons (fVar 3) fNil)))))
def Fstood_on : List D → M D := mkF 3 9 bstood_on
abbrev nfollowed : List Str := ["look", "rows", "age", "place", "spot", "befores", "row"]
def bfollowed : Sg → M Out :=
  (sSeq (sIf (t2 (pEq fun b => b) (fVar 0) (fN mkTup fNil)) (sRet (fN mkTup fNil)) sNx)
  (sSeq (sAsg (fVar 0) (gTupF 3 (gAnd (gSet 2) (gAnd (gSet 3) (gAnd (gSet 4) gEnd)))))
  (sSeq (sSet 5 (fLc [6] (fSrc noF (fVar 1)) (gSet 6) tTrue (f2 oGet (fVar 6) (fC (.int 2)))))
  (sRet (fN mkTup (fCons (f2 (oAdd mkFz) (fVar 2) (fC (.int 1))) (fCons (fVar 3) (fCons (fIf (t2 (pInA false) (fVar 4) (fVar 5)) (fM mIndex (fVar 5) (fCons (fVar 4) fNil)) (f1 oNeg (fC (.int 1)))) fNil))))))))
def Ffollowed : List D → M D := mkF 2 7 bfollowed
abbrev nsettled_at : List Str := ["house", "standing", "change", "rule", "quiet", "look", "shown", "waiting", "rows"]
def bsettled_at : Sg → M Out :=
  (sSeq (sSet 3 (f1 (oFld 1 0) (fVar 0)))
  (sSeq (sAsg (fSl mkFz (fVar 1) (fPart (fC (.int 2))) fNo) (gTupF 2 (gAnd (gSet 4) (gAnd (gSet 5) gEnd))))
  (sSeq (sAsg (fN (oPure Fchanged) (fCons (fVar 1) (fCons (fVar 2) fNil))) (gTupF 2 (gAnd (gSet 6) (gAnd (gSet 7) gEnd))))
  (sSeq (sIf (tVal (fN (oPure Fmust_draw) (fCons (fVar 3) (fCons (fVar 6) (fCons (fVar 7) (fCons (fVar 4) (fCons (fVar 5) fNil))))))) (sSeq (sSet 8 (fN (oPure Fdrawn_rows) (fCons (fVar 0) (fCons (fVar 6) (fCons (fVar 7) fNil)))))
  (sSeq (sSet 7 (fN mkTup fNil))
  (sSet 4 (fC (.int 0))))) (sSeq (sSet 8 (fN (oPure Fundrawn_rows) (fCons (fVar 6) fNil)))
  (sSet 4 (fN (o2I fun i j => if j < i then j else i) (fCons (f2 (oAdd mkFz) (fVar 4) (fC (.int 1))) (fCons (f1 (oFld 0 1) (fVar 3)) fNil))))))
  (sRet (fN mkTup (fCons (fN (oPure Fstood_on) (fCons (fVar 3) (fCons (fVar 6) (fCons (fVar 8) fNil)))) (fCons (fVar 7) (fCons (fVar 4) (fCons (fN (oPure Ffollowed) (fCons (fVar 5) (fCons (fVar 8) fNil))) fNil))))))))))
def Fsettled_at : List D → M D := mkF 3 9 bsettled_at
abbrev noutcome_of : List Str := ["rule", "shown", "look", "age", "place", "spot", "rank", "is_gone", "stood"]
def boutcome_of : Sg → M Out :=
  (sSeq (sAsg (fVar 2) (gTupF 3 (gAnd (gSet 3) (gAnd (gSet 4) (gAnd (gSet 5) gEnd)))))
  (sSeq (sIf (t2 (pI fun i j => decide (j ≤ i)) (fVar 4) (fN oLenA (fCons (fVar 1) fNil))) (sRet (fC (.str "empty"))) sNx)
  (sSeq (sAsg (f2 oGet (fVar 1) (fVar 4)) (gTupF 3 (gAnd (gSet 6) (gAnd (gSet 7) (gAnd (gSet 8) gEnd)))))
  (sSeq (sIf (t2 (pI fun i j => decide (i < j)) (fVar 8) (f1 (oFld 0 4) (fVar 0))) (sRet (fC (.str "back"))) sNx)
  (sSeq (sIf (tVal (fVar 7)) (sRet (fC (.str "gone"))) sNx)
  (sRet (fIf (t2 (pEq fun b => b) (fVar 5) (fVar 4)) (fC (.str "right")) (fC (.str "other")))))))))
def Foutcome_of : List D → M D := mkF 3 9 boutcome_of
abbrev nhandled : List Str := ["rule", "settled", "hand", "shown", "waiting", "quiet", "look"]
def bhandled : Sg → M Out :=
  (sSeq (sAsg (fVar 1) (gTupF 4 (gAnd (gSet 3) (gAnd (gSet 4) (gAnd (gSet 5) (gAnd (gSet 6) gEnd))))))
  (sSeq (sIf (t2 (pEq fun b => b) (f2 oGet (fVar 2) (fC (.int 0))) (fC (.str "look"))) (sRet (fN mkTup (fCons (fN mkTup (fCons (fVar 3) (fCons (fVar 4) (fCons (fVar 5) (fCons (fN mkTup (fCons (fC (.int 0)) (fCons (f2 oGet (fVar 2) (fC (.int 1))) (fCons (f2 oGet (fVar 2) (fC (.int 1))) fNil)))) fNil))))) (fCons (fC (.str "")) fNil)))) sNx)
  (sSeq (sIf (t2 (pEq fun b => b) (f2 oGet (fVar 2) (fC (.int 0))) (fC (.str "tap"))) (sRet (fN mkTup (fCons (fN mkTup (fCons (fVar 3) (fCons (fVar 4) (fCons (fVar 5) (fCons (fN mkTup fNil) fNil))))) (fCons (fN (oPure Foutcome_of) (fCons (fVar 0) (fCons (fVar 3) (fCons (fVar 6) fNil)))) fNil)))) sNx)
  (sRet (fN mkTup (fCons (fVar 1) (fCons (fC (.str "")) fNil)))))))
def Fhandled : List D → M D := mkF 3 7 bhandled
abbrev nchanges_at : List Str := ["house", "standing", "shown", "waiting", "changes", "rank", "place", "is_gone", "stood"]
def bchanges_at : Sg → M Out :=
  (sSeq (sAsg (fSl mkFz (fVar 1) fNo (fPart (fC (.int 2)))) (gTupF 2 (gAnd (gSet 2) (gAnd (gSet 3) gEnd))))
  (sSeq (sSet 4 (fN mkLst fNil))
  (sSeq (sIf (t2 (pI fun i j => decide (i < j)) (fN oLenA (fCons (fVar 3) fNil)) (f1 (oFld 1 3) (fVar 0))) (sAug 4 oExt (fLc [5] (fun s => M.bind ((f2 (oAdd mkFz) (f1 (oFld 1 2) (fVar 0)) (fC (.int 1))) s) srcR1) (gSet 5) tTrue (fN mkTup (fCons (fC (.str "come")) (fCons (fVar 5) fNil))))) sNx)
  (sSeq (sIf (tVal (f1 (oFld 1 4) (fVar 0))) (sAug 4 oExt (fLc [6, 5, 7, 8] (fSrc enF (fVar 2)) (gTupF 2 (gAnd (gSet 6) (gAnd (gTupF 3 (gAnd (gSet 5) (gAnd (gSet 7) (gAnd (gSet 8) gEnd)))) gEnd))) (tNotF (tVal (fVar 7))) (fN mkTup (fCons (fC (.str "go")) (fCons (fVar 6) fNil))))) sNx)
  (sRet (f2 (oAdd mkFz) (fVar 4) (fN mkFz (fCons (fC (.tup [(.str "none")])) fNil))))))))
def Fchanges_at : List D → M D := mkF 2 9 bchanges_at
abbrev nhands_at : List Str := ["house", "settled", "shown", "look", "least", "most", "place"]
def bhands_at : Sg → M Out :=
  (sSeq (sPar 2 3 (fCons (f2 oGet (fVar 1) (fC (.int 0))) (fCons (f2 oGet (fVar 1) (fC (.int 3))) fNil)))
  (sSeq (sIf (t2 (pEq fun b => b) (fVar 3) (fN mkTup fNil)) (sRet (f2 (oAdd mkFz) (fLc [6] (fun s => M.bind ((fN oLenA (fCons (fVar 2) fNil)) s) srcR1) (gSet 6) tTrue (fN mkTup (fCons (fC (.str "look")) (fCons (fVar 6) fNil)))) (fN mkFz (fCons (fC (.tup [(.str "none")])) fNil)))) sNx)
  (sSeq (sAsg (f1 (oFld 1 5) (fVar 0)) (gTupF 2 (gAnd (gSet 4) (gAnd (gSet 5) gEnd))))
  (sSeq (sIf (t2 (pEq fun b => b) (f2 oGet (fVar 3) (fC (.int 0))) (fVar 5)) (sRet (fN mkFz (fCons (fC (.tup [(.str "tap")])) fNil))) sNx)
  (sRet (fIf (t2 (pI fun i j => decide (j ≤ i)) (f2 oGet (fVar 3) (fC (.int 0))) (fVar 4)) (fN mkFz (fCons (fC (.tup [(.str "none")])) (fCons (fC (.tup [(.str "tap")])) fNil))) (fN mkFz (fCons (fC (.tup [(.str "none")])) fNil))))))))
def Fhands_at : List D → M D := mkF 2 7 bhands_at
abbrev nis_comparable : List Str := ["thing"]
def bis_comparable : Sg → M Out :=
  (sRet (fAnd (f1 (isI .tup) (fVar 0)) (fOr (f2 (cmpV (pI fun i j => decide (i < j))) (fN oLenA (fCons (fVar 0) fNil)) (fC (.int 2))) (fN (oPure Fis_number) (fCons (f2 oGet (fVar 0) (fC (.int 1))) fNil)))))
def Fis_comparable : List D → M D := mkF 1 1 bis_comparable
abbrev nstep_at : List Str := ["house", "standing", "moment", "change", "hand", "settled"]
def bstep_at : Sg → M Out :=
  (sSeq (sIf (tOrF (tNotF (tVal (f1 (isI .tup) (fVar 2)))) (t2 (pEq fun b => !b) (fN oLenA (fCons (fVar 2) fNil)) (fC (.int 2)))) (sRet (fC .non)) sNx)
  (sSeq (sAsg (fVar 2) (gTupF 2 (gAnd (gSet 3) (gAnd (gSet 4) gEnd))))
  (sSeq (sIf (tOrF (tNotF (tVal (fN (oPure Fis_comparable) (fCons (fVar 3) fNil)))) (tNotF (tVal (fN (oPure Fis_comparable) (fCons (fVar 4) fNil))))) (sRet (fC .non)) sNx)
  (sSeq (sIf (t2 (pInA true) (fVar 3) (fN (oPure Fchanges_at) (fCons (fVar 0) (fCons (fVar 1) fNil)))) (sRet (fC .non)) sNx)
  (sSeq (sSet 5 (fN (oPure Fsettled_at) (fCons (fVar 0) (fCons (fVar 1) (fCons (fVar 3) fNil)))))
  (sSeq (sIf (t2 (pInA true) (fVar 4) (fN (oPure Fhands_at) (fCons (fVar 0) (fCons (fVar 5) fNil)))) (sRet (fC .non)) sNx)
  (sRet (fN (oPure Fhandled) (fCons (f1 (oFld 1 0) (fVar 0)) (fCons (fVar 5) (fCons (fVar 4) fNil)))))))))))
def Fstep_at : List D → M D := mkF 3 6 bstep_at
abbrev ntick_at : List Str := ["house", "standing", "moment", "step"]
def btick_at : Sg → M Out :=
  (sSeq (sExpr (fN (oPure Fcheck_standing) (fCons (fVar 0) (fCons (fVar 1) fNil))))
  (sSeq (sSet 3 (fN (oPure Fstep_at) (fCons (fVar 0) (fCons (fVar 1) (fCons (fVar 2) fNil)))))
  (sSeq (sIf (t2 (pIsN fun b => b) (fVar 3) (fC .non)) sBad sNx)
  (sRet (fVar 3)))))
def Ftick_at : List D → M D := mkF 3 4 btick_at
abbrev nis_lag : List Str := ["value", "least", "most"]
def bis_lag : Sg → M Out :=
  (sSeq (sIf (tOrF (tNotF (tVal (f1 (isI .tup) (fVar 0)))) (t2 (pEq fun b => !b) (fN oLenA (fCons (fVar 0) fNil)) (fC (.int 2)))) (sRet (fC (.bl false))) sNx)
  (sSeq (sAsg (fVar 0) (gTupF 2 (gAnd (gSet 1) (gAnd (gSet 2) gEnd))))
  (sRet (fAnd (fN (oPure Fis_number_within) (fCons (fVar 2) (fCons (fC (.int 1)) (fCons (fC (.int 3)) fNil)))) (fN (oPure Fis_number_within) (fCons (fVar 1) (fCons (fC (.int 1)) (fCons (fVar 2) fNil))))))))
def Fis_lag : List D → M D := mkF 1 3 bis_lag
abbrev nIHouse : List Str := ["self", "rule", "room", "top", "many", "goes", "lag"]
def bIHouse : Sg → M Out :=
  (sSeq (sIf (tNotF (tVal (f1 (isI (.cls 0)) (fVar 1)))) sBad sNx)
  (sSeq (sIf (tNotF (tVal (fN (oPure Fis_number_within) (fCons (fVar 2) (fCons (fC (.int 1)) (fCons (fC (.int 4)) fNil)))))) sBad sNx)
  (sSeq (sIf (tNotF (tVal (fN (oPure Fis_number_within) (fCons (fVar 3) (fCons (fC (.int 0)) (fCons (fC (.int 2)) fNil)))))) sBad sNx)
  (sSeq (sIf (tNotF (tVal (fN (oPure Fis_number_within) (fCons (fVar 4) (fCons (fC (.int 1)) (fCons (fC (.int 2)) fNil)))))) sBad sNx)
  (sSeq (sIf (tNotF (tVal (f1 (isI .bl) (fVar 5)))) sBad sNx)
  (sSeq (sIf (tNotF (tVal (fN (oPure Fis_lag) (fCons (fVar 6) fNil)))) sBad sNx)
  (sSeq (sFldF 1 0 (fVar 0) (fVar 1))
  (sSeq (sFldF 1 1 (fVar 0) (fVar 2))
  (sSeq (sFldF 1 2 (fVar 0) (fVar 3))
  (sSeq (sFldF 1 3 (fVar 0) (fVar 4))
  (sSeq (sFldF 1 4 (fVar 0) (fVar 5))
  (sFldF 1 5 (fVar 0) (fVar 6)))))))))))))
def IHouse : List D → M D := mkF 7 7 bIHouse
abbrev nis_one_of : List Str := ["value", "texts"]
def bis_one_of : Sg → M Out :=
  (sRet (fAnd (f1 (isI .str) (fVar 0)) (f2 (cmpV (pInA false)) (fVar 0) (fVar 1))))
def Fis_one_of : List D → M D := mkF 2 2 bis_one_of
abbrev nIRule : List Str := ["self", "way", "still", "hold", "pins", "guard"]
def bIRule : Sg → M Out :=
  (sSeq (sIf (tNotF (tVal (fN (oPure Fis_one_of) (fCons (fVar 1) (fCons (fC (.tup [(.str "end"), (.str "front"), (.str "rank")])) fNil))))) sBad sNx)
  (sSeq (sIf (tNotF (tVal (fN (oPure Fis_number_within) (fCons (fVar 2) (fCons (fC (.int 0)) (fCons (fC (.int 3)) fNil)))))) sBad sNx)
  (sSeq (sIf (tNotF (tVal (fN (oPure Fis_number_within) (fCons (fVar 3) (fCons (fC (.int 0)) (fCons (fC (.int 3)) fNil)))))) sBad sNx)
  (sSeq (sIf (tNotF (tVal (fN (oPure Fis_number_within) (fCons (fVar 4) (fCons (fC (.int 0)) (fCons (fC (.int 2)) fNil)))))) sBad sNx)
  (sSeq (sIf (tNotF (tVal (fN (oPure Fis_number_within) (fCons (fVar 5) (fCons (fC (.int 0)) (fCons (fC (.int 3)) fNil)))))) sBad sNx)
  (sSeq (sFldF 0 0 (fVar 0) (fVar 1))
  (sSeq (sFldF 0 1 (fVar 0) (fVar 2))
  (sSeq (sFldF 0 2 (fVar 0) (fVar 3))
  (sSeq (sFldF 0 3 (fVar 0) (fVar 4))
  (sFldF 0 4 (fVar 0) (fVar 5)))))))))))
def IRule : List D → M D := mkF 6 6 bIRule
abbrev nfirst_standing : List Str := ["house"]
def bfirst_standing : Sg → M Out :=
  (sSeq (sExpr (fN (fun xs => oPure Fcheck_house (xs ++ [(.str "house")])) (fCons (fVar 0) fNil)))
  (sRet (fN mkTup (fCons (fN mkTup fNil) (fCons (fN mkTup fNil) (fCons (f1 (oFld 0 1) (f1 (oFld 1 0) (fVar 0))) (fCons (fN mkTup fNil) fNil)))))))
def Ffirst_standing : List D → M D := mkF 1 1 bfirst_standing
abbrev nsteps_at : List Str := ["house", "standing", "steps", "change", "settled", "hand", "behind", "outcome"]
def bsteps_at : Sg → M Out :=
  (sSeq (sSet 2 (fN mkLst fNil))
  (sSeq (sFor (fSrc noF (fN (oPure Fchanges_at) (fCons (fVar 0) (fCons (fVar 1) fNil)))) (gSet 3) (sSeq (sSet 4 (fN (oPure Fsettled_at) (fCons (fVar 0) (fCons (fVar 1) (fCons (fVar 3) fNil)))))
  (sFor (fSrc noF (fN (oPure Fhands_at) (fCons (fVar 0) (fCons (fVar 4) fNil)))) (gSet 5) (sSeq (sAsg (fN (oPure Fhandled) (fCons (f1 (oFld 1 0) (fVar 0)) (fCons (fVar 4) (fCons (fVar 5) fNil)))) (gTupF 2 (gAnd (gSet 6) (gAnd (gSet 7) gEnd))))
  (sExpr (fM mAppend (fVar 2) (fCons (fN mkTup (fCons (fN mkTup (fCons (fVar 3) (fCons (fVar 5) fNil))) (fCons (fVar 6) (fCons (fVar 7) fNil)))) fNil)))))))
  (sRet (fVar 2))))
def Fsteps_at : List D → M D := mkF 2 8 bsteps_at
abbrev nmoments_at : List Str := ["house", "standing", "moment", "behind", "outcome"]
def bmoments_at : Sg → M Out :=
  (sSeq (sExpr (fN (oPure Fcheck_standing) (fCons (fVar 0) (fCons (fVar 1) fNil))))
  (sRet (fLc [2, 3, 4] (fSrc noF (fN (oPure Fsteps_at) (fCons (fVar 0) (fCons (fVar 1) fNil)))) (gTupF 3 (gAnd (gSet 2) (gAnd (gSet 3) (gAnd (gSet 4) gEnd)))) tTrue (fVar 2))))
def Fmoments_at : List D → M D := mkF 2 5 bmoments_at
abbrev npairs_shown : List Str := ["standing", "rank", "is_gone", "stood"]
def bpairs_shown : Sg → M Out :=
  (sRet (fN oTuple (fCons (fLc [1, 2, 3] (fSrc noF (f2 oGet (fVar 0) (fC (.int 0)))) (gTupF 3 (gAnd (gSet 1) (gAnd (gSet 2) (gAnd (gSet 3) gEnd)))) tTrue (fN mkTup (fCons (fVar 1) (fCons (fVar 2) fNil)))) fNil)))
def Fpairs_shown : List D → M D := mkF 1 4 bpairs_shown
abbrev nsteps_along : List Str := ["house", "moments", "steps", "standing", "moment", "step"]
def bsteps_along : Sg → M Out :=
  (sSeq (sSet 2 (fN mkLst fNil))
  (sSeq (sSet 3 (fN (oPure Ffirst_standing) (fCons (fVar 0) fNil)))
  (sSeq (sFor (fSrc noF (fVar 1)) (gSet 4) (sSeq (sSet 5 (fN (oPure Fstep_at) (fCons (fVar 0) (fCons (fVar 3) (fCons (fVar 4) fNil)))))
  (sSeq (sIf (t2 (pIsN fun b => b) (fVar 5) (fC .non)) (sRet (fVar 2)) sNx)
  (sSeq (sExpr (fM mAppend (fVar 2) (fCons (fVar 5) fNil)))
  (sSet 3 (f2 oGet (fVar 5) (fC (.int 0))))))))
  (sRet (fVar 2)))))
def Fsteps_along : List D → M D := mkF 2 6 bsteps_along
abbrev nis_list : List Str := ["value"]
def bis_list : Sg → M Out :=
  (sRet (f1 (isI2 .lst .tup) (fVar 0)))
def Fis_list : List D → M D := mkF 1 1 bis_list
abbrev nchecked_steps : List Str := ["house", "course", "steps"]
def bchecked_steps : Sg → M Out :=
  (sSeq (sExpr (fN (fun xs => oPure Fcheck_house (xs ++ [(.str "house")])) (fCons (fVar 0) fNil)))
  (sSeq (sIf (tNotF (tVal (fN (oPure Fis_list) (fCons (fVar 1) fNil)))) sBad sNx)
  (sSeq (sSet 2 (fN (oPure Fsteps_along) (fCons (fVar 0) (fCons (fVar 1) fNil))))
  (sSeq (sIf (t2 (pI fun i j => decide (i < j)) (fN oLenA (fCons (fVar 2) fNil)) (fN oLenA (fCons (fVar 1) fNil))) sBad sNx)
  (sRet (fVar 2))))))
def Fchecked_steps : List D → M D := mkF 2 3 bchecked_steps
abbrev nrun_of : List Str := ["house", "course", "standing", "outcome"]
def brun_of : Sg → M Out :=
  (sRet (fLc [2, 3] (fSrc noF (fN (oPure Fchecked_steps) (fCons (fVar 0) (fCons (fVar 1) fNil)))) (gTupF 2 (gAnd (gSet 2) (gAnd (gSet 3) gEnd))) tTrue (fN mkTup (fCons (fN (oPure Fpairs_shown) (fCons (fVar 2) fNil)) (fCons (f2 oGet (fVar 2) (fC (.int 1))) (fCons (fVar 3) fNil))))))
def Frun_of : List D → M D := mkF 2 4 brun_of
end Und

/-! The program's values as types, and its functions over them. -/
namespace Md
open PySem PySem.Spec PyProof.Rows L2 Dr Ev Und
inductive Way where | fin | front | rank
  deriving DecidableEq
structure Rl where
  way : Way
  still : Int
  hold : Int
  pins : Int
  guard : Int
  deriving DecidableEq
structure Hs where
  rule : Rl
  room : Int
  top : Int
  many : Int
  goes : Bool
  least : Int
  most : Int
  deriving DecidableEq
structure Item where
  rank : Int
  gone : Bool
  stood : Int
  deriving DecidableEq
structure Look where
  age : Int
  place : Int
  spot : Int
  deriving DecidableEq
structure Stand where
  shown : List Item
  waiting : List Int
  quiet : Int
  look : Option Look
  deriving DecidableEq
inductive Change where | none | come (r : Int) | go (p : Int)
  deriving DecidableEq
inductive Hand where | none | look (p : Int) | tap
  deriving DecidableEq
structure Row where
  rank : Int
  gone : Bool
  before : Option Nat
  deriving DecidableEq
def Way.s : Way → Str | .fin => "end" | .front => "front" | .rank => "rank"
def eR (r : Rl) : D := .ins 0 [.str r.way.s, .int r.still, .int r.hold, .int r.pins, .int r.guard]
def eH (h : Hs) : D := .ins 1 [eR h.rule, .int h.room, .int h.top, .int h.many, .bl h.goes, .tup [.int h.least, .int h.most]]
def eI (i : Item) : D := .tup [.int i.rank, .bl i.gone, .int i.stood]
def eSh (xs : List Item) : D := .tup (xs.map eI)
def eW (ws : List Int) : D := .tup (ws.map .int)
def eL : Option Look → D
  | .none => .tup []
  | some l => .tup [.int l.age, .int l.place, .int l.spot]
def eS (s : Stand) : D := .tup [eSh s.shown, eW s.waiting, .int s.quiet, eL s.look]
def eC : Change → D
  | .none => .tup [.str "none"]
  | .come r => .tup [.str "come", .int r]
  | .go p => .tup [.str "go", .int p]
def eHd : Hand → D
  | .none => .tup [.str "none"]
  | .look p => .tup [.str "look", .int p]
  | .tap => .tup [.str "tap"]
def eM (m : Change × Hand) : D := .tup [eC m.1, eHd m.2]
def eB : Option Nat → D
  | .none => .non
  | some p => .int (p : Nat)
def eRow (r : Row) : D := .tup [.int r.rank, .bl r.gone, eB r.before]
/-! ### the functions -/
def mustDraw (r : Rl) (shown : List Item) (waiting : List Int) (quiet : Int) (look : Option Look) : Bool :=
  if (decide (quiet < r.still) || (match look with | .none => false | some l => decide (l.age < r.hold))) = true then false
  else !waiting.isEmpty || shown.any (·.gone)
def placeByWay (w : Way) (ranks : List Int) (rank : Int) : Nat := match w with
  | .front => 0
  | .rank => ranks.findIdx fun o => decide (rank < o)
  | .fin => ranks.length
def placeFor (r : Rl) (ranks : List Int) (rank : Int) : Int :=
  let a : Int := (placeByWay r.way ranks rank : Nat)
  let b : Int := if (ranks.length : Int) < r.pins then (ranks.length : Int) else r.pins
  if b > a then b else a
def undrawnRow (p : Item × Nat) : Row := ⟨p.1.rank, p.1.gone, some p.2⟩
def undrawnRows (sh : List Item) : List Row := sh.zipIdx.map undrawnRow
def putIn (h : Hs) (rows : List Row) (rank : Int) : List Row :=
  let i := (placeFor h.rule (rows.map (·.rank)) rank).toNat
  (rows.take i ++ [(⟨rank, false, none⟩ : Row)] ++ rows.drop i).take h.room.toNat
def drawnRows (h : Hs) (sh : List Item) (ws : List Int) : List Row := ws.foldl (putIn h) ((undrawnRows sh).filter fun r => !r.gone)
def minI (i j : Int) : Int := if j < i then j else i
def stoodAt (r : Rl) (sh : List Item) (row : Row) (place : Nat) : Item :=
  ⟨row.rank, row.gone, if row.before = some place then minI ((sh.getD place ⟨0, false, 0⟩).stood + 1) r.guard else 0⟩
def stoodOn (r : Rl) (sh : List Item) (rows : List Row) : List Item := rows.zipIdx.map fun p => stoodAt r sh p.1 p.2
def atB (spot : Int) : Option Nat → Bool
  | none => false
  | some p => decide ((p : Int) = spot)
def spotOf (rows : List Row) (spot : Int) : Int :=
  if (rows.any fun w => atB spot w.before) = true then ((rows.findIdx fun w => atB spot w.before : Nat) : Int) else -1
def followed (l : Option Look) (rows : List Row) : Option Look := match l with
  | none => none
  | some l => some ⟨l.age + 1, l.place, spotOf rows l.spot⟩
def changed (s : Stand) : Change → List Item × List Int
  | .none => (s.shown, s.waiting)
  | .come r => (s.shown, s.waiting ++ [r])
  | .go p => (s.shown.set p.toNat { (s.shown.getD p.toNat ⟨0, false, 0⟩) with gone := true }, s.waiting)
def settled (h : Hs) (s : Stand) (c : Change) : Stand :=
  let (sh, ws) := changed s c
  if mustDraw h.rule sh ws s.quiet s.look = true then
    let rows := drawnRows h sh ws
    ⟨stoodOn h.rule sh rows, [], 0, followed s.look rows⟩
  else
    let rows := undrawnRows sh
    ⟨stoodOn h.rule sh rows, ws, minI (s.quiet + 1) h.rule.still, followed s.look rows⟩
def changesAt (h : Hs) (s : Stand) : List Change :=
  (if (s.waiting.length : Int) < h.many then (List.range (h.top + 1).toNat).map fun r : Nat => Change.come r else []) ++
  (if h.goes = true then (s.shown.zipIdx.filter fun p => !p.1.gone).map fun p => Change.go p.2 else []) ++ [.none]
def handsAt (h : Hs) (s : Stand) : List Hand := match s.look with
  | none => (List.range s.shown.length).map (fun p : Nat => Hand.look p) ++ [.none]
  | some l => if l.age = h.most then [.tap] else if h.least ≤ l.age then [.none, .tap] else [.none]
def outcomeOf (r : Rl) (sh : List Item) (l : Look) : Str :=
  if (sh.length : Int) ≤ l.place then "empty" else
    let it := sh.getD l.place.toNat ⟨0, false, 0⟩
    if it.stood < r.guard then "back" else if it.gone = true then "gone" else if l.spot = l.place then "right" else "other"
def handled (r : Rl) (s : Stand) : Hand → Stand × Str
  | .none => (s, "")
  | .look p => ({ s with look := some ⟨0, p, p⟩ }, "")
  | .tap => ({ s with look := none }, match s.look with | none => "" | some l => outcomeOf r s.shown l)
/-- what the step gives, and whether it can come -/
def can (h : Hs) (s : Stand) (m : Change × Hand) : Bool := decide (m.1 ∈ changesAt h s) && decide (m.2 ∈ handsAt h (settled h s m.1))
def tick (h : Hs) (s : Stand) (m : Change × Hand) : Stand × Str := handled h.rule (settled h s m.1) m.2
def first0 (h : Hs) : Stand := ⟨[], [], h.rule.still, none⟩
/-! ### of the right form -/
structure OkR (r : Rl) : Prop where
  still : 0 ≤ r.still ∧ r.still ≤ 3
  hold : 0 ≤ r.hold ∧ r.hold ≤ 3
  pins : 0 ≤ r.pins ∧ r.pins ≤ 2
  guard : 0 ≤ r.guard ∧ r.guard ≤ 3
structure OkH (h : Hs) : Prop where
  rule : OkR h.rule
  room : 1 ≤ h.room ∧ h.room ≤ 4
  top : 0 ≤ h.top ∧ h.top ≤ 2
  many : 1 ≤ h.many ∧ h.many ≤ 2
  lag : 1 ≤ h.least ∧ h.least ≤ h.most ∧ h.most ≤ 3
structure OkI (h : Hs) (i : Item) : Prop where
  rank : 0 ≤ i.rank ∧ i.rank ≤ h.top
  gone : i.gone = true → h.goes = true
  stood : 0 ≤ i.stood ∧ i.stood ≤ h.rule.guard
structure OkL (h : Hs) (n : Nat) (l : Look) : Prop where
  age : 0 ≤ l.age ∧ l.age ≤ h.most - 1
  place : 0 ≤ l.place ∧ l.place ≤ h.room - 1
  spot : -1 ≤ l.spot ∧ l.spot ≤ (n : Int) - 1
structure OkS (h : Hs) (s : Stand) : Prop where
  few : (s.shown.length : Int) ≤ h.room
  items : ∀ i ∈ s.shown, OkI h i
  waits : (s.waiting.length : Int) ≤ h.many
  ranks : ∀ r ∈ s.waiting, 0 ≤ r ∧ r ≤ h.top
  quiet : 0 ≤ s.quiet ∧ s.quiet ≤ h.rule.still
  look : ∀ l, s.look = some l → OkL h s.shown.length l
/-! ### equal values -/
theorem okTs_map {α : Type} {n : Nat} {f : α → D} (h : ∀ a, okT n (f a) = true) : ∀ xs : List α, okTs n (xs.map f) = true
  | [] => rfl
  | x :: xs => by simp [okTs, h x, okTs_map h xs]
theorem okT_eL (n : Nat) (l : Option Look) : okT (n + 1) (eL l) = true := by cases l <;> rfl
theorem okT_eI (n : Nat) (i : Item) : okT (n + 1) (eI i) = true := rfl
theorem okT_eW (n : Nat) (ws : List Int) : okT (n + 1) (eW ws) = true := by simpa [eW, okT] using okTs_map (n := n) (f := D.int) (fun _ => rfl) ws
theorem okT_eB (n : Nat) (b : Option Nat) : okT n (eB b) = true := by cases b <;> cases n <;> rfl
theorem eqT_eL_nil (l : Option Look) : eqT (eL l) (.tup []) = l.isNone := by cases l <;> rfl
theorem eqT_eW_nil (ws : List Int) : eqT (eW ws) (.tup []) = ws.isEmpty := by cases ws <;> rfl
theorem neL (l : Option Look) (h : List O) : pEq (fun b => !b) h (eL l) (.tup []) = some (!l.isNone) := by rw [pEq_T _ h (okT_eL 22 l) (show okT 23 (.tup []) = true from rfl), eqT_eL_nil]
theorem eqL (l : Option Look) (h : List O) : pEq (fun b => b) h (eL l) (.tup []) = some l.isNone := by rw [pEq_T _ h (okT_eL 22 l) (show okT 23 (.tup []) = true from rfl), eqT_eL_nil]
theorem neW (l : List Int) (h : List O) : pEq (fun b => !b) h (eW l) (.tup []) = some (!l.isEmpty) := by rw [pEq_T _ h (okT_eW 22 l) (show okT 23 (.tup []) = true from rfl), eqT_eW_nil]
theorem eqI (f : Bool → Bool) (i j : Int) (h : List O) : pEq f h (.int i) (.int j) = some (f (i == j)) := by rw [pEq_T f h rfl rfl]; rfl
theorem eqStr (f : Bool → Bool) (x y : Str) (h : List O) (hx : PyData.strOk x = true) (hy : PyData.strOk y = true) : pEq f h (.str x) (.str y) = some (f (x == y)) := by rw [pEq_T f h (by simpa [okT] using hx) (by simpa [okT] using hy)]; rfl
end Md
namespace Md
open PySem PySem.Spec PyProof.Rows L2 Dr Ev Und
/-! ### no numbers of the store -/
theorem noLs_map {α : Type} {f : α → D} (h : ∀ a, noL (f a) = true) : ∀ xs : List α, noLs (xs.map f) = true
  | [] => rfl
  | x :: xs => by simp [noLs, h x, noLs_map h xs]
theorem nl_ints (ws : List Int) : noL (.lst (ws.map .int)) = true := by simpa [noL] using noLs_map (f := D.int) (fun _ => rfl) ws
theorem nl_R (r : Rl) : noL (eR r) = true := rfl
theorem nl_H (h : Hs) : noL (eH h) = true := rfl
theorem nl_I (i : Item) : noL (eI i) = true := rfl
theorem nl_Sh (xs : List Item) : noL (eSh xs) = true := by simpa [eSh, noL] using noLs_map nl_I xs
theorem nl_W (ws : List Int) : noL (eW ws) = true := by simpa [eW, noL] using noLs_map (f := D.int) (fun _ => rfl) ws
theorem nl_L (l : Option Look) : noL (eL l) = true := by cases l <;> rfl
theorem nl_S (s : Stand) : noL (eS s) = true := by simp [eS, noL, noLs, nl_Sh, nl_W, nl_L]
theorem nl_C (c : Change) : noL (eC c) = true := by cases c <;> rfl
theorem nl_Hd (c : Hand) : noL (eHd c) = true := by cases c <;> rfl
theorem nl_M (m : Change × Hand) : noL (eM m) = true := by simp [eM, noL, noLs, nl_C, nl_Hd]
theorem nl_B (b : Option Nat) : noL (eB b) = true := by cases b <;> rfl
theorem nl_Row (r : Row) : noL (eRow r) = true := by simp [eRow, noL, noLs, nl_B]
theorem nl_rows (rs : List Row) : noL (.lst (rs.map eRow)) = true := by simpa [noL] using noLs_map nl_Row rs
theorem nl_way (w : Way) : noL (.str w.s) = true := rfl
end Md

/-! What the program's defs give. -/
namespace Md
open PySem PySem.Spec PyProof.Rows L2 Dr Ev Und
def gones (sh : List Item) : List D := sh.map fun i => .bl i.gone
theorem gones_any (sh : List Item) (h : List O) : oBls (fun bs => bs.any id) [.lst (gones sh)] h = .ret (.bl (sh.any (·.gone)), h) := by
  have key : ∀ sh : List Item, mapO oBlD (gones sh) = some (sh.map (·.gone)) := by
    intro sh
    induction sh with
    | nil => rfl
    | cons i sh ih =>
      have : gones (i :: sh) = .bl i.gone :: gones sh := rfl
      rw [this]
      simp only [mapO, oBlD, ih, List.map_cons]
  unfold oBls lstD
  dsimp only
  rw [key]
  dsimp only
  rw [List.any_map]
  rfl
theorem lc_gone (sh : List Item) (a b c d : Option D) (h : List O) (hs : sh.length ≤ 10) :
    fLc [5, 6, 7] (fSrc noF (fVar 1)) (gTupF 3 (gAnd (gSet 5) (gAnd (gSet 6) (gAnd (gSet 7) gEnd)))) tTrue (fVar 6) [a, some (eSh sh), b, c, d, none, none, none] h = .ret (.lst (gones sh), h) := lcM (e := eI) (fun i => .bl i.gone) (sr_tup sh eI rfl rfl) (by omega) fun y _ => rfl
theorem must_ok (r : Rl) (sh : List Item) (ws : List Int) (q : Int) (l : Option Look) (hs : sh.length ≤ 10) : ∃ g, Fmust_draw [eR r, eSh sh, eW ws, .int q, eL l] [] = .ret (.bl (mustDraw r sh ws q l), g) := by
  by_cases hq : q < r.still
  · apply F_retN rfl (by simp only [List.map_cons, List.map_nil, List.length_cons, List.length_nil, Nat.reduceAdd, Nat.reduceSub, List.replicate_succ, List.replicate_zero, List.cons_append, List.nil_append, List.set_cons_succ, List.set_cons_zero]; rfl)
    · unfold bmust_draw; repeat' (first | (with_reducible exact neL l _) | (with_reducible apply r_isSet; (first | (simp only [List.map_cons, List.map_nil, List.length_cons, List.length_nil, Nat.reduceAdd, Nat.reduceSub, List.replicate_succ, List.replicate_zero, List.cons_append, List.nil_append, List.set_cons_succ, List.set_cons_zero]; done) | (simp only [List.map_cons, List.map_nil, List.length_cons, List.length_nil, Nat.reduceAdd, Nat.reduceSub, List.replicate_succ, List.replicate_zero, List.cons_append, List.nil_append, List.set_cons_succ, List.set_cons_zero]; rfl))) | (with_reducible rfl) | (with_reducible exact r_nx) | (with_reducible exact r_c) | (with_reducible exact r_nil) | (with_reducible exact r_no) | (with_reducible exact r_pnil) | (with_reducible exact r_gend) | exact Nat.le_of_ble_eq_true rfl | (with_reducible apply r_seqK_nx) | (with_reducible apply r_seqK) | (with_reducible apply r_ifK) | (with_reducible apply r_tandK) | (with_reducible apply r_torK) | (with_reducible apply r_andK) | (with_reducible apply r_orK) | (with_reducible apply r_ifxK) | (with_reducible apply r_ret) | (with_reducible apply r_setN) | (with_reducible apply r_expr) | (with_reducible apply r_asg) | (with_reducible apply r_parN) | (with_reducible apply r_var) | (with_reducible apply r_1) | (with_reducible apply r_tup) | (with_reducible apply r_lst) | (with_reducible apply r_fz) | (with_reducible apply r_2) | (with_reducible apply r_cons) | (with_reducible apply r_N) | (with_reducible apply r_t2) | (with_reducible apply r_tval) | (with_reducible apply r_tnot) | (with_reducible apply r_not) | (with_reducible apply r_cmpV) | (with_reducible apply r_gtup) | (with_reducible apply r_gand) | (with_reducible apply r_gset) | (with_reducible apply r_sl) | (with_reducible apply r_part) | (with_reducible apply r_M) | (with_reducible apply r_aug) | (with_reducible apply r_chainK) | (with_reducible apply r_bind2) | (with_reducible apply r_tchain) | (with_reducible apply r_fld) | (with_reducible apply r_disp) | (with_reducible apply r_pcons) | (with_reducible apply r_itet; focus (first | assumption | with_reducible rfl | (simp_all; done) | (simp_all; omega))) | (with_reducible apply r_itef; focus (first | assumption | with_reducible rfl | (simp_all; done) | (simp_all; omega))) | (simp only [List.map_cons, List.map_nil, List.length_cons, List.length_nil, Nat.reduceAdd, Nat.reduceSub, List.replicate_succ, List.replicate_zero, List.cons_append, List.nil_append, List.set_cons_succ, List.set_cons_zero]; done) | (simp only [List.map_cons, List.map_nil, List.length_cons, List.length_nil, Nat.reduceAdd, Nat.reduceSub, List.replicate_succ, List.replicate_zero, List.cons_append, List.nil_append, List.set_cons_succ, List.set_cons_zero]; rfl) | rfl | exact neL l _)
    · rfl
    · simp [mustDraw, hq]
  by_cases hc : ∃ k, l = some k ∧ k.age < r.hold
  · obtain ⟨l, rfl, hc⟩ := hc
    apply F_retN rfl (by simp only [List.map_cons, List.map_nil, List.length_cons, List.length_nil, Nat.reduceAdd, Nat.reduceSub, List.replicate_succ, List.replicate_zero, List.cons_append, List.nil_append, List.set_cons_succ, List.set_cons_zero]; rfl)
    · unfold bmust_draw; repeat' (first | (with_reducible exact neL (some l) _) | (with_reducible apply r_isSet; (first | (simp only [List.map_cons, List.map_nil, List.length_cons, List.length_nil, Nat.reduceAdd, Nat.reduceSub, List.replicate_succ, List.replicate_zero, List.cons_append, List.nil_append, List.set_cons_succ, List.set_cons_zero]; done) | (simp only [List.map_cons, List.map_nil, List.length_cons, List.length_nil, Nat.reduceAdd, Nat.reduceSub, List.replicate_succ, List.replicate_zero, List.cons_append, List.nil_append, List.set_cons_succ, List.set_cons_zero]; rfl))) | (with_reducible rfl) | (with_reducible exact r_nx) | (with_reducible exact r_c) | (with_reducible exact r_nil) | (with_reducible exact r_no) | (with_reducible exact r_pnil) | (with_reducible exact r_gend) | exact Nat.le_of_ble_eq_true rfl | (with_reducible apply r_seqK_nx) | (with_reducible apply r_seqK) | (with_reducible apply r_ifK) | (with_reducible apply r_tandK) | (with_reducible apply r_torK) | (with_reducible apply r_andK) | (with_reducible apply r_orK) | (with_reducible apply r_ifxK) | (with_reducible apply r_ret) | (with_reducible apply r_setN) | (with_reducible apply r_expr) | (with_reducible apply r_asg) | (with_reducible apply r_parN) | (with_reducible apply r_var) | (with_reducible apply r_1) | (with_reducible apply r_tup) | (with_reducible apply r_lst) | (with_reducible apply r_fz) | (with_reducible apply r_2) | (with_reducible apply r_cons) | (with_reducible apply r_N) | (with_reducible apply r_t2) | (with_reducible apply r_tval) | (with_reducible apply r_tnot) | (with_reducible apply r_not) | (with_reducible apply r_cmpV) | (with_reducible apply r_gtup) | (with_reducible apply r_gand) | (with_reducible apply r_gset) | (with_reducible apply r_sl) | (with_reducible apply r_part) | (with_reducible apply r_M) | (with_reducible apply r_aug) | (with_reducible apply r_chainK) | (with_reducible apply r_bind2) | (with_reducible apply r_tchain) | (with_reducible apply r_fld) | (with_reducible apply r_disp) | (with_reducible apply r_pcons) | (with_reducible apply r_itet; focus (first | assumption | with_reducible rfl | (simp_all; done) | (simp_all; omega))) | (with_reducible apply r_itef; focus (first | assumption | with_reducible rfl | (simp_all; done) | (simp_all; omega))) | (simp only [List.map_cons, List.map_nil, List.length_cons, List.length_nil, Nat.reduceAdd, Nat.reduceSub, List.replicate_succ, List.replicate_zero, List.cons_append, List.nil_append, List.set_cons_succ, List.set_cons_zero]; done) | (simp only [List.map_cons, List.map_nil, List.length_cons, List.length_nil, Nat.reduceAdd, Nat.reduceSub, List.replicate_succ, List.replicate_zero, List.cons_append, List.nil_append, List.set_cons_succ, List.set_cons_zero]; rfl) | rfl | exact neL (some l) _)
    · rfl
    · simp [mustDraw, hc]
  by_cases hw : ws = []
  · subst hw
    cases l with
    | none =>
      apply F_retN rfl (by simp only [List.map_cons, List.map_nil, List.length_cons, List.length_nil, Nat.reduceAdd, Nat.reduceSub, List.replicate_succ, List.replicate_zero, List.cons_append, List.nil_append, List.set_cons_succ, List.set_cons_zero]; rfl)
      · unfold bmust_draw; repeat' (first | (with_reducible exact neL none _) | (with_reducible exact neW [] _) | (with_reducible exact lc_gone sh _ _ _ _ _ hs) | (with_reducible exact gones_any sh _) | (with_reducible apply r_isSet; (first | (simp only [List.map_cons, List.map_nil, List.length_cons, List.length_nil, Nat.reduceAdd, Nat.reduceSub, List.replicate_succ, List.replicate_zero, List.cons_append, List.nil_append, List.set_cons_succ, List.set_cons_zero]; done) | (simp only [List.map_cons, List.map_nil, List.length_cons, List.length_nil, Nat.reduceAdd, Nat.reduceSub, List.replicate_succ, List.replicate_zero, List.cons_append, List.nil_append, List.set_cons_succ, List.set_cons_zero]; rfl))) | (with_reducible rfl) | (with_reducible exact r_nx) | (with_reducible exact r_c) | (with_reducible exact r_nil) | (with_reducible exact r_no) | (with_reducible exact r_pnil) | (with_reducible exact r_gend) | exact Nat.le_of_ble_eq_true rfl | (with_reducible apply r_seqK_nx) | (with_reducible apply r_seqK) | (with_reducible apply r_ifK) | (with_reducible apply r_tandK) | (with_reducible apply r_torK) | (with_reducible apply r_andK) | (with_reducible apply r_orK) | (with_reducible apply r_ifxK) | (with_reducible apply r_ret) | (with_reducible apply r_setN) | (with_reducible apply r_expr) | (with_reducible apply r_asg) | (with_reducible apply r_parN) | (with_reducible apply r_var) | (with_reducible apply r_1) | (with_reducible apply r_tup) | (with_reducible apply r_lst) | (with_reducible apply r_fz) | (with_reducible apply r_2) | (with_reducible apply r_cons) | (with_reducible apply r_N) | (with_reducible apply r_t2) | (with_reducible apply r_tval) | (with_reducible apply r_tnot) | (with_reducible apply r_not) | (with_reducible apply r_cmpV) | (with_reducible apply r_gtup) | (with_reducible apply r_gand) | (with_reducible apply r_gset) | (with_reducible apply r_sl) | (with_reducible apply r_part) | (with_reducible apply r_M) | (with_reducible apply r_aug) | (with_reducible apply r_chainK) | (with_reducible apply r_bind2) | (with_reducible apply r_tchain) | (with_reducible apply r_fld) | (with_reducible apply r_disp) | (with_reducible apply r_pcons) | (with_reducible apply r_itet; focus (first | assumption | with_reducible rfl | (simp_all; done) | (simp_all; omega))) | (with_reducible apply r_itef; focus (first | assumption | with_reducible rfl | (simp_all; done) | (simp_all; omega))) | (simp only [List.map_cons, List.map_nil, List.length_cons, List.length_nil, Nat.reduceAdd, Nat.reduceSub, List.replicate_succ, List.replicate_zero, List.cons_append, List.nil_append, List.set_cons_succ, List.set_cons_zero]; done) | (simp only [List.map_cons, List.map_nil, List.length_cons, List.length_nil, Nat.reduceAdd, Nat.reduceSub, List.replicate_succ, List.replicate_zero, List.cons_append, List.nil_append, List.set_cons_succ, List.set_cons_zero]; rfl) | rfl | exact neL none _ | exact neW [] _ | exact lc_gone sh _ _ _ _ _ hs | exact gones_any sh _)
      · rfl
      · simp [mustDraw, hq]
    | some l =>
      have hl : ¬ l.age < r.hold := fun z => hc ⟨l, rfl, z⟩
      apply F_retN rfl (by simp only [List.map_cons, List.map_nil, List.length_cons, List.length_nil, Nat.reduceAdd, Nat.reduceSub, List.replicate_succ, List.replicate_zero, List.cons_append, List.nil_append, List.set_cons_succ, List.set_cons_zero]; rfl)
      · unfold bmust_draw; repeat' (first | (with_reducible exact neL (some l) _) | (with_reducible exact neW [] _) | (with_reducible exact lc_gone sh _ _ _ _ _ hs) | (with_reducible exact gones_any sh _) | (with_reducible apply r_isSet; (first | (simp only [List.map_cons, List.map_nil, List.length_cons, List.length_nil, Nat.reduceAdd, Nat.reduceSub, List.replicate_succ, List.replicate_zero, List.cons_append, List.nil_append, List.set_cons_succ, List.set_cons_zero]; done) | (simp only [List.map_cons, List.map_nil, List.length_cons, List.length_nil, Nat.reduceAdd, Nat.reduceSub, List.replicate_succ, List.replicate_zero, List.cons_append, List.nil_append, List.set_cons_succ, List.set_cons_zero]; rfl))) | (with_reducible rfl) | (with_reducible exact r_nx) | (with_reducible exact r_c) | (with_reducible exact r_nil) | (with_reducible exact r_no) | (with_reducible exact r_pnil) | (with_reducible exact r_gend) | exact Nat.le_of_ble_eq_true rfl | (with_reducible apply r_seqK_nx) | (with_reducible apply r_seqK) | (with_reducible apply r_ifK) | (with_reducible apply r_tandK) | (with_reducible apply r_torK) | (with_reducible apply r_andK) | (with_reducible apply r_orK) | (with_reducible apply r_ifxK) | (with_reducible apply r_ret) | (with_reducible apply r_setN) | (with_reducible apply r_expr) | (with_reducible apply r_asg) | (with_reducible apply r_parN) | (with_reducible apply r_var) | (with_reducible apply r_1) | (with_reducible apply r_tup) | (with_reducible apply r_lst) | (with_reducible apply r_fz) | (with_reducible apply r_2) | (with_reducible apply r_cons) | (with_reducible apply r_N) | (with_reducible apply r_t2) | (with_reducible apply r_tval) | (with_reducible apply r_tnot) | (with_reducible apply r_not) | (with_reducible apply r_cmpV) | (with_reducible apply r_gtup) | (with_reducible apply r_gand) | (with_reducible apply r_gset) | (with_reducible apply r_sl) | (with_reducible apply r_part) | (with_reducible apply r_M) | (with_reducible apply r_aug) | (with_reducible apply r_chainK) | (with_reducible apply r_bind2) | (with_reducible apply r_tchain) | (with_reducible apply r_fld) | (with_reducible apply r_disp) | (with_reducible apply r_pcons) | (with_reducible apply r_itet; focus (first | assumption | with_reducible rfl | (simp_all; done) | (simp_all; omega))) | (with_reducible apply r_itef; focus (first | assumption | with_reducible rfl | (simp_all; done) | (simp_all; omega))) | (simp only [List.map_cons, List.map_nil, List.length_cons, List.length_nil, Nat.reduceAdd, Nat.reduceSub, List.replicate_succ, List.replicate_zero, List.cons_append, List.nil_append, List.set_cons_succ, List.set_cons_zero]; done) | (simp only [List.map_cons, List.map_nil, List.length_cons, List.length_nil, Nat.reduceAdd, Nat.reduceSub, List.replicate_succ, List.replicate_zero, List.cons_append, List.nil_append, List.set_cons_succ, List.set_cons_zero]; rfl) | rfl | exact neL (some l) _ | exact neW [] _ | exact lc_gone sh _ _ _ _ _ hs | exact gones_any sh _)
      · rfl
      · simp [mustDraw, hq, hl]
  · have hw2 : ws.isEmpty = false := by cases ws <;> simp_all
    cases l with
    | none =>
      apply F_retN rfl (by simp only [List.map_cons, List.map_nil, List.length_cons, List.length_nil, Nat.reduceAdd, Nat.reduceSub, List.replicate_succ, List.replicate_zero, List.cons_append, List.nil_append, List.set_cons_succ, List.set_cons_zero]; rfl)
      · unfold bmust_draw; repeat' (first | (with_reducible exact neL none _) | (with_reducible exact neW ws _) | (with_reducible apply r_isSet; (first | (simp only [List.map_cons, List.map_nil, List.length_cons, List.length_nil, Nat.reduceAdd, Nat.reduceSub, List.replicate_succ, List.replicate_zero, List.cons_append, List.nil_append, List.set_cons_succ, List.set_cons_zero]; done) | (simp only [List.map_cons, List.map_nil, List.length_cons, List.length_nil, Nat.reduceAdd, Nat.reduceSub, List.replicate_succ, List.replicate_zero, List.cons_append, List.nil_append, List.set_cons_succ, List.set_cons_zero]; rfl))) | (with_reducible rfl) | (with_reducible exact r_nx) | (with_reducible exact r_c) | (with_reducible exact r_nil) | (with_reducible exact r_no) | (with_reducible exact r_pnil) | (with_reducible exact r_gend) | exact Nat.le_of_ble_eq_true rfl | (with_reducible apply r_seqK_nx) | (with_reducible apply r_seqK) | (with_reducible apply r_ifK) | (with_reducible apply r_tandK) | (with_reducible apply r_torK) | (with_reducible apply r_andK) | (with_reducible apply r_orK) | (with_reducible apply r_ifxK) | (with_reducible apply r_ret) | (with_reducible apply r_setN) | (with_reducible apply r_expr) | (with_reducible apply r_asg) | (with_reducible apply r_parN) | (with_reducible apply r_var) | (with_reducible apply r_1) | (with_reducible apply r_tup) | (with_reducible apply r_lst) | (with_reducible apply r_fz) | (with_reducible apply r_2) | (with_reducible apply r_cons) | (with_reducible apply r_N) | (with_reducible apply r_t2) | (with_reducible apply r_tval) | (with_reducible apply r_tnot) | (with_reducible apply r_not) | (with_reducible apply r_cmpV) | (with_reducible apply r_gtup) | (with_reducible apply r_gand) | (with_reducible apply r_gset) | (with_reducible apply r_sl) | (with_reducible apply r_part) | (with_reducible apply r_M) | (with_reducible apply r_aug) | (with_reducible apply r_chainK) | (with_reducible apply r_bind2) | (with_reducible apply r_tchain) | (with_reducible apply r_fld) | (with_reducible apply r_disp) | (with_reducible apply r_pcons) | (with_reducible apply r_itet; focus (first | assumption | with_reducible rfl | (simp_all; done) | (simp_all; omega))) | (with_reducible apply r_itef; focus (first | assumption | with_reducible rfl | (simp_all; done) | (simp_all; omega))) | (simp only [List.map_cons, List.map_nil, List.length_cons, List.length_nil, Nat.reduceAdd, Nat.reduceSub, List.replicate_succ, List.replicate_zero, List.cons_append, List.nil_append, List.set_cons_succ, List.set_cons_zero]; done) | (simp only [List.map_cons, List.map_nil, List.length_cons, List.length_nil, Nat.reduceAdd, Nat.reduceSub, List.replicate_succ, List.replicate_zero, List.cons_append, List.nil_append, List.set_cons_succ, List.set_cons_zero]; rfl) | rfl | exact neL none _ | exact neW ws _)
      · rfl
      · simp [mustDraw, hq, hw2]
    | some l =>
      have hl : ¬ l.age < r.hold := fun z => hc ⟨l, rfl, z⟩
      apply F_retN rfl (by simp only [List.map_cons, List.map_nil, List.length_cons, List.length_nil, Nat.reduceAdd, Nat.reduceSub, List.replicate_succ, List.replicate_zero, List.cons_append, List.nil_append, List.set_cons_succ, List.set_cons_zero]; rfl)
      · unfold bmust_draw; repeat' (first | (with_reducible exact neL (some l) _) | (with_reducible exact neW ws _) | (with_reducible apply r_isSet; (first | (simp only [List.map_cons, List.map_nil, List.length_cons, List.length_nil, Nat.reduceAdd, Nat.reduceSub, List.replicate_succ, List.replicate_zero, List.cons_append, List.nil_append, List.set_cons_succ, List.set_cons_zero]; done) | (simp only [List.map_cons, List.map_nil, List.length_cons, List.length_nil, Nat.reduceAdd, Nat.reduceSub, List.replicate_succ, List.replicate_zero, List.cons_append, List.nil_append, List.set_cons_succ, List.set_cons_zero]; rfl))) | (with_reducible rfl) | (with_reducible exact r_nx) | (with_reducible exact r_c) | (with_reducible exact r_nil) | (with_reducible exact r_no) | (with_reducible exact r_pnil) | (with_reducible exact r_gend) | exact Nat.le_of_ble_eq_true rfl | (with_reducible apply r_seqK_nx) | (with_reducible apply r_seqK) | (with_reducible apply r_ifK) | (with_reducible apply r_tandK) | (with_reducible apply r_torK) | (with_reducible apply r_andK) | (with_reducible apply r_orK) | (with_reducible apply r_ifxK) | (with_reducible apply r_ret) | (with_reducible apply r_setN) | (with_reducible apply r_expr) | (with_reducible apply r_asg) | (with_reducible apply r_parN) | (with_reducible apply r_var) | (with_reducible apply r_1) | (with_reducible apply r_tup) | (with_reducible apply r_lst) | (with_reducible apply r_fz) | (with_reducible apply r_2) | (with_reducible apply r_cons) | (with_reducible apply r_N) | (with_reducible apply r_t2) | (with_reducible apply r_tval) | (with_reducible apply r_tnot) | (with_reducible apply r_not) | (with_reducible apply r_cmpV) | (with_reducible apply r_gtup) | (with_reducible apply r_gand) | (with_reducible apply r_gset) | (with_reducible apply r_sl) | (with_reducible apply r_part) | (with_reducible apply r_M) | (with_reducible apply r_aug) | (with_reducible apply r_chainK) | (with_reducible apply r_bind2) | (with_reducible apply r_tchain) | (with_reducible apply r_fld) | (with_reducible apply r_disp) | (with_reducible apply r_pcons) | (with_reducible apply r_itet; focus (first | assumption | with_reducible rfl | (simp_all; done) | (simp_all; omega))) | (with_reducible apply r_itef; focus (first | assumption | with_reducible rfl | (simp_all; done) | (simp_all; omega))) | (simp only [List.map_cons, List.map_nil, List.length_cons, List.length_nil, Nat.reduceAdd, Nat.reduceSub, List.replicate_succ, List.replicate_zero, List.cons_append, List.nil_append, List.set_cons_succ, List.set_cons_zero]; done) | (simp only [List.map_cons, List.map_nil, List.length_cons, List.length_nil, Nat.reduceAdd, Nat.reduceSub, List.replicate_succ, List.replicate_zero, List.cons_append, List.nil_append, List.set_cons_succ, List.set_cons_zero]; rfl) | rfl | exact neL (some l) _ | exact neW ws _)
      · rfl
      · simp [mustDraw, hq, hw2, hl]
theorem p_must (r : Rl) (sh : List Item) (ws : List Int) (q : Int) (l : Option Look) (hs : sh.length ≤ 10) (h : List O) : oPure Fmust_draw [eR r, eSh sh, eW ws, .int q, eL l] h = .ret (.bl (mustDraw r sh ws q l), h) :=
  pure_ret h (must_ok r sh ws q l hs) (by simp [noLs, nl_R, nl_Sh, nl_W, nl_L, noL]) rfl
end Md

namespace Md
open PySem PySem.Spec PyProof.Rows L2 Dr Ev Und
theorem eqC {x y : Str} {b : Bool} (h : List O) (e : (PyData.strOk x && PyData.strOk y && ((x == y) == b)) = true) : pEq (fun b => b) h (.str x) (.str y) = some b := by
  simp only [Bool.and_eq_true, beq_iff_eq] at e
  obtain ⟨⟨e1, e2⟩, e3⟩ := e
  rw [eqStr _ _ _ _ e1 e2, e3]
theorem eqWay (w v : Way) (h : List O) : pEq (fun b => b) h (.str w.s) (.str v.s) = some (decide (w = v)) := by
  cases w <;> cases v <;> exact (pEq_T _ h (by decide +kernel) (by decide +kernel)).trans (by decide +kernel)
theorem len_fz {h : List O} {xs : List D} {k : Nat} (hk : xs.length = k) : oLenA [.lst xs] h = .ret (.int (k : Nat), h) := by
  subst hk
  rfl
theorem findIdx_at {α : Type} {p : α → Bool} {xs : List α} {i : Nat} {y : α} (h : xs[i]? = some y) (hp : p y = true) (hn : ∀ j z, j < i → xs[j]? = some z → p z = false) : xs.findIdx p = i := by
  obtain ⟨hl, e⟩ := List.getElem?_eq_some_iff.mp h
  rw [List.findIdx_eq hl]
  exact ⟨by rw [e]; exact hp, fun j hj => hn j _ hj (List.getElem?_eq_getElem _)⟩
theorem findIdx_none {α : Type} {p : α → Bool} {xs : List α} (hn : ∀ (j : Nat) (z : α), xs[j]? = some z → p z = false) : xs.findIdx p = xs.length := by
  rw [List.findIdx_eq_length]
  intro x hx
  obtain ⟨j, hj⟩ := List.mem_iff_getElem?.mp hx
  exact hn j x hj
theorem way_ok (w : Way) (ranks : List Int) (rank : Int) (h : List O) : Fplace_by_way [.str w.s, .lst (ranks.map .int), .int rank] h = .ret (.int (placeByWay w ranks rank : Nat), h) := by
  have hlen : oLenA [.lst (ranks.map .int)] h = .ret (.int (ranks.length : Nat), h) := len_fz (by simp)
  cases w with
  | front =>
    apply F_retX rfl (by simp only [List.map_cons, List.map_nil, List.length_cons, List.length_nil, Nat.reduceAdd, Nat.reduceSub, List.replicate_succ, List.replicate_zero, List.cons_append, List.nil_append, List.set_cons_succ, List.set_cons_zero]; rfl)
    · unfold bplace_by_way; repeat' (first | (with_reducible exact eqWay .front .front _) | (with_reducible apply r_isSet; (first | (simp only [List.map_cons, List.map_nil, List.length_cons, List.length_nil, Nat.reduceAdd, Nat.reduceSub, List.replicate_succ, List.replicate_zero, List.cons_append, List.nil_append, List.set_cons_succ, List.set_cons_zero]; done) | (simp only [List.map_cons, List.map_nil, List.length_cons, List.length_nil, Nat.reduceAdd, Nat.reduceSub, List.replicate_succ, List.replicate_zero, List.cons_append, List.nil_append, List.set_cons_succ, List.set_cons_zero]; rfl))) | (with_reducible rfl) | (with_reducible exact r_nx) | (with_reducible exact r_c) | (with_reducible exact r_nil) | (with_reducible exact r_no) | (with_reducible exact r_pnil) | (with_reducible exact r_gend) | exact Nat.le_of_ble_eq_true rfl | (with_reducible apply r_seqK_nx) | (with_reducible apply r_seqK) | (with_reducible apply r_ifK) | (with_reducible apply r_tandK) | (with_reducible apply r_torK) | (with_reducible apply r_andK) | (with_reducible apply r_orK) | (with_reducible apply r_ifxK) | (with_reducible apply r_ret) | (with_reducible apply r_setN) | (with_reducible apply r_expr) | (with_reducible apply r_asg) | (with_reducible apply r_parN) | (with_reducible apply r_var) | (with_reducible apply r_1) | (with_reducible apply r_tup) | (with_reducible apply r_lst) | (with_reducible apply r_fz) | (with_reducible apply r_2) | (with_reducible apply r_cons) | (with_reducible apply r_N) | (with_reducible apply r_t2) | (with_reducible apply r_tval) | (with_reducible apply r_tnot) | (with_reducible apply r_not) | (with_reducible apply r_cmpV) | (with_reducible apply r_gtup) | (with_reducible apply r_gand) | (with_reducible apply r_gset) | (with_reducible apply r_sl) | (with_reducible apply r_part) | (with_reducible apply r_M) | (with_reducible apply r_aug) | (with_reducible apply r_chainK) | (with_reducible apply r_bind2) | (with_reducible apply r_tchain) | (with_reducible apply r_fld) | (with_reducible apply r_disp) | (with_reducible apply r_pcons) | (with_reducible apply r_itet; focus (first | assumption | with_reducible rfl | (simp_all; done) | (simp_all; omega))) | (with_reducible apply r_itef; focus (first | assumption | with_reducible rfl | (simp_all; done) | (simp_all; omega))) | (simp only [List.map_cons, List.map_nil, List.length_cons, List.length_nil, Nat.reduceAdd, Nat.reduceSub, List.replicate_succ, List.replicate_zero, List.cons_append, List.nil_append, List.set_cons_succ, List.set_cons_zero]; done) | (simp only [List.map_cons, List.map_nil, List.length_cons, List.length_nil, Nat.reduceAdd, Nat.reduceSub, List.replicate_succ, List.replicate_zero, List.cons_append, List.nil_append, List.set_cons_succ, List.set_cons_zero]; rfl) | rfl | exact eqWay .front .front _)
    · rfl
    · rfl
    · rfl
  | fin =>
    apply F_retX rfl (by simp only [List.map_cons, List.map_nil, List.length_cons, List.length_nil, Nat.reduceAdd, Nat.reduceSub, List.replicate_succ, List.replicate_zero, List.cons_append, List.nil_append, List.set_cons_succ, List.set_cons_zero]; rfl)
    · unfold bplace_by_way; repeat' (first | (with_reducible exact eqWay .fin .front _) | (with_reducible exact eqWay .fin .rank _) | (with_reducible exact hlen) | (with_reducible apply r_isSet; (first | (simp only [List.map_cons, List.map_nil, List.length_cons, List.length_nil, Nat.reduceAdd, Nat.reduceSub, List.replicate_succ, List.replicate_zero, List.cons_append, List.nil_append, List.set_cons_succ, List.set_cons_zero]; done) | (simp only [List.map_cons, List.map_nil, List.length_cons, List.length_nil, Nat.reduceAdd, Nat.reduceSub, List.replicate_succ, List.replicate_zero, List.cons_append, List.nil_append, List.set_cons_succ, List.set_cons_zero]; rfl))) | (with_reducible rfl) | (with_reducible exact r_nx) | (with_reducible exact r_c) | (with_reducible exact r_nil) | (with_reducible exact r_no) | (with_reducible exact r_pnil) | (with_reducible exact r_gend) | exact Nat.le_of_ble_eq_true rfl | (with_reducible apply r_seqK_nx) | (with_reducible apply r_seqK) | (with_reducible apply r_ifK) | (with_reducible apply r_tandK) | (with_reducible apply r_torK) | (with_reducible apply r_andK) | (with_reducible apply r_orK) | (with_reducible apply r_ifxK) | (with_reducible apply r_ret) | (with_reducible apply r_setN) | (with_reducible apply r_expr) | (with_reducible apply r_asg) | (with_reducible apply r_parN) | (with_reducible apply r_var) | (with_reducible apply r_1) | (with_reducible apply r_tup) | (with_reducible apply r_lst) | (with_reducible apply r_fz) | (with_reducible apply r_2) | (with_reducible apply r_cons) | (with_reducible apply r_N) | (with_reducible apply r_t2) | (with_reducible apply r_tval) | (with_reducible apply r_tnot) | (with_reducible apply r_not) | (with_reducible apply r_cmpV) | (with_reducible apply r_gtup) | (with_reducible apply r_gand) | (with_reducible apply r_gset) | (with_reducible apply r_sl) | (with_reducible apply r_part) | (with_reducible apply r_M) | (with_reducible apply r_aug) | (with_reducible apply r_chainK) | (with_reducible apply r_bind2) | (with_reducible apply r_tchain) | (with_reducible apply r_fld) | (with_reducible apply r_disp) | (with_reducible apply r_pcons) | (with_reducible apply r_itet; focus (first | assumption | with_reducible rfl | (simp_all; done) | (simp_all; omega))) | (with_reducible apply r_itef; focus (first | assumption | with_reducible rfl | (simp_all; done) | (simp_all; omega))) | (simp only [List.map_cons, List.map_nil, List.length_cons, List.length_nil, Nat.reduceAdd, Nat.reduceSub, List.replicate_succ, List.replicate_zero, List.cons_append, List.nil_append, List.set_cons_succ, List.set_cons_zero]; done) | (simp only [List.map_cons, List.map_nil, List.length_cons, List.length_nil, Nat.reduceAdd, Nat.reduceSub, List.replicate_succ, List.replicate_zero, List.cons_append, List.nil_append, List.set_cons_succ, List.set_cons_zero]; rfl) | rfl | exact eqWay .fin .front _ | exact eqWay .fin .rank _ | exact hlen)
    · rfl
    · rfl
    · rfl
  | rank =>
    obtain ⟨r, e, z⟩ := forI (s := [some (.str Way.rank.s), some (.lst (ranks.map .int)), some (.int rank), none, none]) (h := h) (h1 := h) (fi := fSrc enF (fVar 1)) (g := gTupF 2 (gAnd (gSet 3) (gAnd (gSet 4) gEnd))) (fb := sIf (t2 (pI fun i j => decide (j < i)) (fVar 4) (fVar 2)) (sRet (fVar 3)) sNx) (ys := ranks) (e := fun i y => .tup [.int (i : Nat), .int y])
      (fun i s g => g = h ∧ (∃ a b, s = [some (.str Way.rank.s), some (.lst (ranks.map .int)), some (.int rank), a, b]) ∧ ∀ j y, j < i → ranks[j]? = some y → ¬ rank < y)
      (fun r => r = (.rt (.int (placeByWay .rank ranks rank : Nat)), h) ∨ ((∃ a b, r = (.nx [some (.str Way.rank.s), some (.lst (ranks.map .int)), some (.int rank), a, b], h)) ∧ placeByWay .rank ranks rank = ranks.length))
      (sr_lstE ranks D.int rfl rfl) ⟨rfl, ⟨none, none, rfl⟩, fun j y hj => absurd hj (by omega)⟩ (by
        rintro i y s g hy ⟨rfl, ⟨a, b, rfl⟩, hs⟩
        by_cases hr : rank < y
        · refine ⟨.rt (.int (i : Nat)), g, ?_, ?_⟩
          · show sIf _ _ _ [some (.str Way.rank.s), some (.lst (ranks.map .int)), some (.int rank), some (.int (i : Nat)), some (.int y)] g = _
            repeat' (first | (with_reducible apply r_isSet; (first | (simp only [List.map_cons, List.map_nil, List.length_cons, List.length_nil, Nat.reduceAdd, Nat.reduceSub, List.replicate_succ, List.replicate_zero, List.cons_append, List.nil_append, List.set_cons_succ, List.set_cons_zero]; done) | (simp only [List.map_cons, List.map_nil, List.length_cons, List.length_nil, Nat.reduceAdd, Nat.reduceSub, List.replicate_succ, List.replicate_zero, List.cons_append, List.nil_append, List.set_cons_succ, List.set_cons_zero]; rfl))) | (with_reducible rfl) | (with_reducible exact r_nx) | (with_reducible exact r_c) | (with_reducible exact r_nil) | (with_reducible exact r_no) | (with_reducible exact r_pnil) | (with_reducible exact r_gend) | exact Nat.le_of_ble_eq_true rfl | (with_reducible apply r_seqK_nx) | (with_reducible apply r_seqK) | (with_reducible apply r_ifK) | (with_reducible apply r_tandK) | (with_reducible apply r_torK) | (with_reducible apply r_andK) | (with_reducible apply r_orK) | (with_reducible apply r_ifxK) | (with_reducible apply r_ret) | (with_reducible apply r_setN) | (with_reducible apply r_expr) | (with_reducible apply r_asg) | (with_reducible apply r_parN) | (with_reducible apply r_var) | (with_reducible apply r_1) | (with_reducible apply r_tup) | (with_reducible apply r_lst) | (with_reducible apply r_fz) | (with_reducible apply r_2) | (with_reducible apply r_cons) | (with_reducible apply r_N) | (with_reducible apply r_t2) | (with_reducible apply r_tval) | (with_reducible apply r_tnot) | (with_reducible apply r_not) | (with_reducible apply r_cmpV) | (with_reducible apply r_gtup) | (with_reducible apply r_gand) | (with_reducible apply r_gset) | (with_reducible apply r_sl) | (with_reducible apply r_part) | (with_reducible apply r_M) | (with_reducible apply r_aug) | (with_reducible apply r_chainK) | (with_reducible apply r_bind2) | (with_reducible apply r_tchain) | (with_reducible apply r_fld) | (with_reducible apply r_disp) | (with_reducible apply r_pcons) | (with_reducible apply r_itet; focus (first | assumption | with_reducible rfl | (simp_all; done) | (simp_all; omega))) | (with_reducible apply r_itef; focus (first | assumption | with_reducible rfl | (simp_all; done) | (simp_all; omega))) | (simp only [List.map_cons, List.map_nil, List.length_cons, List.length_nil, Nat.reduceAdd, Nat.reduceSub, List.replicate_succ, List.replicate_zero, List.cons_append, List.nil_append, List.set_cons_succ, List.set_cons_zero]; done) | (simp only [List.map_cons, List.map_nil, List.length_cons, List.length_nil, Nat.reduceAdd, Nat.reduceSub, List.replicate_succ, List.replicate_zero, List.cons_append, List.nil_append, List.set_cons_succ, List.set_cons_zero]; rfl) | rfl)
          · refine .inl ?_
            show (Out.rt (D.int _), g) = (Out.rt (D.int ((ranks.findIdx fun o => decide (rank < o) : Nat) : Int)), g)
            rw [findIdx_at hy (by simpa using hr) fun j z hj hz => by simpa using hs j z hj hz]
        · refine ⟨.nx [some (.str Way.rank.s), some (.lst (ranks.map .int)), some (.int rank), some (.int (i : Nat)), some (.int y)], g, ?_, ?_⟩
          · show sIf _ _ _ [some (.str Way.rank.s), some (.lst (ranks.map .int)), some (.int rank), some (.int (i : Nat)), some (.int y)] g = _
            repeat' (first | (with_reducible apply r_isSet; (first | (simp only [List.map_cons, List.map_nil, List.length_cons, List.length_nil, Nat.reduceAdd, Nat.reduceSub, List.replicate_succ, List.replicate_zero, List.cons_append, List.nil_append, List.set_cons_succ, List.set_cons_zero]; done) | (simp only [List.map_cons, List.map_nil, List.length_cons, List.length_nil, Nat.reduceAdd, Nat.reduceSub, List.replicate_succ, List.replicate_zero, List.cons_append, List.nil_append, List.set_cons_succ, List.set_cons_zero]; rfl))) | (with_reducible rfl) | (with_reducible exact r_nx) | (with_reducible exact r_c) | (with_reducible exact r_nil) | (with_reducible exact r_no) | (with_reducible exact r_pnil) | (with_reducible exact r_gend) | exact Nat.le_of_ble_eq_true rfl | (with_reducible apply r_seqK_nx) | (with_reducible apply r_seqK) | (with_reducible apply r_ifK) | (with_reducible apply r_tandK) | (with_reducible apply r_torK) | (with_reducible apply r_andK) | (with_reducible apply r_orK) | (with_reducible apply r_ifxK) | (with_reducible apply r_ret) | (with_reducible apply r_setN) | (with_reducible apply r_expr) | (with_reducible apply r_asg) | (with_reducible apply r_parN) | (with_reducible apply r_var) | (with_reducible apply r_1) | (with_reducible apply r_tup) | (with_reducible apply r_lst) | (with_reducible apply r_fz) | (with_reducible apply r_2) | (with_reducible apply r_cons) | (with_reducible apply r_N) | (with_reducible apply r_t2) | (with_reducible apply r_tval) | (with_reducible apply r_tnot) | (with_reducible apply r_not) | (with_reducible apply r_cmpV) | (with_reducible apply r_gtup) | (with_reducible apply r_gand) | (with_reducible apply r_gset) | (with_reducible apply r_sl) | (with_reducible apply r_part) | (with_reducible apply r_M) | (with_reducible apply r_aug) | (with_reducible apply r_chainK) | (with_reducible apply r_bind2) | (with_reducible apply r_tchain) | (with_reducible apply r_fld) | (with_reducible apply r_disp) | (with_reducible apply r_pcons) | (with_reducible apply r_itet; focus (first | assumption | with_reducible rfl | (simp_all; done) | (simp_all; omega))) | (with_reducible apply r_itef; focus (first | assumption | with_reducible rfl | (simp_all; done) | (simp_all; omega))) | (simp only [List.map_cons, List.map_nil, List.length_cons, List.length_nil, Nat.reduceAdd, Nat.reduceSub, List.replicate_succ, List.replicate_zero, List.cons_append, List.nil_append, List.set_cons_succ, List.set_cons_zero]; done) | (simp only [List.map_cons, List.map_nil, List.length_cons, List.length_nil, Nat.reduceAdd, Nat.reduceSub, List.replicate_succ, List.replicate_zero, List.cons_append, List.nil_append, List.set_cons_succ, List.set_cons_zero]; rfl) | rfl)
          · refine ⟨rfl, ⟨_, _, rfl⟩, fun j z hj hz => ?_⟩
            by_cases q : j = i
            · subst q; rw [hy] at hz; cases hz; exact hr
            · exact hs j z (by omega) hz)
      (by
        rintro s g ⟨rfl, ⟨a, b, rfl⟩, hs⟩
        refine .inr ⟨⟨a, b, rfl⟩, ?_⟩
        exact findIdx_none fun j z hz => by simpa using hs j z (List.getElem?_eq_some_iff.mp hz).1 hz)
    rcases z with z | ⟨⟨a, b, z⟩, z2⟩
    · subst z
      apply F_retX rfl (by simp only [List.map_cons, List.map_nil, List.length_cons, List.length_nil, Nat.reduceAdd, Nat.reduceSub, List.replicate_succ, List.replicate_zero, List.cons_append, List.nil_append, List.set_cons_succ, List.set_cons_zero]; rfl)
      · unfold bplace_by_way; repeat' (first | (with_reducible exact eqWay .rank .front _) | (with_reducible exact eqWay .rank .rank _) | (with_reducible exact e) | (with_reducible exact hlen) | (with_reducible apply r_isSet; (first | (simp only [List.map_cons, List.map_nil, List.length_cons, List.length_nil, Nat.reduceAdd, Nat.reduceSub, List.replicate_succ, List.replicate_zero, List.cons_append, List.nil_append, List.set_cons_succ, List.set_cons_zero]; done) | (simp only [List.map_cons, List.map_nil, List.length_cons, List.length_nil, Nat.reduceAdd, Nat.reduceSub, List.replicate_succ, List.replicate_zero, List.cons_append, List.nil_append, List.set_cons_succ, List.set_cons_zero]; rfl))) | (with_reducible rfl) | (with_reducible exact r_nx) | (with_reducible exact r_c) | (with_reducible exact r_nil) | (with_reducible exact r_no) | (with_reducible exact r_pnil) | (with_reducible exact r_gend) | exact Nat.le_of_ble_eq_true rfl | (with_reducible apply r_seqK_nx) | (with_reducible apply r_seqK) | (with_reducible apply r_ifK) | (with_reducible apply r_tandK) | (with_reducible apply r_torK) | (with_reducible apply r_andK) | (with_reducible apply r_orK) | (with_reducible apply r_ifxK) | (with_reducible apply r_ret) | (with_reducible apply r_setN) | (with_reducible apply r_expr) | (with_reducible apply r_asg) | (with_reducible apply r_parN) | (with_reducible apply r_var) | (with_reducible apply r_1) | (with_reducible apply r_tup) | (with_reducible apply r_lst) | (with_reducible apply r_fz) | (with_reducible apply r_2) | (with_reducible apply r_cons) | (with_reducible apply r_N) | (with_reducible apply r_t2) | (with_reducible apply r_tval) | (with_reducible apply r_tnot) | (with_reducible apply r_not) | (with_reducible apply r_cmpV) | (with_reducible apply r_gtup) | (with_reducible apply r_gand) | (with_reducible apply r_gset) | (with_reducible apply r_sl) | (with_reducible apply r_part) | (with_reducible apply r_M) | (with_reducible apply r_aug) | (with_reducible apply r_chainK) | (with_reducible apply r_bind2) | (with_reducible apply r_tchain) | (with_reducible apply r_fld) | (with_reducible apply r_disp) | (with_reducible apply r_pcons) | (with_reducible apply r_itet; focus (first | assumption | with_reducible rfl | (simp_all; done) | (simp_all; omega))) | (with_reducible apply r_itef; focus (first | assumption | with_reducible rfl | (simp_all; done) | (simp_all; omega))) | (simp only [List.map_cons, List.map_nil, List.length_cons, List.length_nil, Nat.reduceAdd, Nat.reduceSub, List.replicate_succ, List.replicate_zero, List.cons_append, List.nil_append, List.set_cons_succ, List.set_cons_zero]; done) | (simp only [List.map_cons, List.map_nil, List.length_cons, List.length_nil, Nat.reduceAdd, Nat.reduceSub, List.replicate_succ, List.replicate_zero, List.cons_append, List.nil_append, List.set_cons_succ, List.set_cons_zero]; rfl) | rfl | exact eqWay .rank .front _ | exact eqWay .rank .rank _ | exact e | exact hlen)
      · rfl
      · rfl
      · rfl
    · subst z
      apply F_retX rfl (by simp only [List.map_cons, List.map_nil, List.length_cons, List.length_nil, Nat.reduceAdd, Nat.reduceSub, List.replicate_succ, List.replicate_zero, List.cons_append, List.nil_append, List.set_cons_succ, List.set_cons_zero]; rfl)
      · unfold bplace_by_way; repeat' (first | (with_reducible exact eqWay .rank .front _) | (with_reducible exact eqWay .rank .rank _) | (with_reducible exact e) | (with_reducible exact hlen) | (with_reducible apply r_isSet; (first | (simp only [List.map_cons, List.map_nil, List.length_cons, List.length_nil, Nat.reduceAdd, Nat.reduceSub, List.replicate_succ, List.replicate_zero, List.cons_append, List.nil_append, List.set_cons_succ, List.set_cons_zero]; done) | (simp only [List.map_cons, List.map_nil, List.length_cons, List.length_nil, Nat.reduceAdd, Nat.reduceSub, List.replicate_succ, List.replicate_zero, List.cons_append, List.nil_append, List.set_cons_succ, List.set_cons_zero]; rfl))) | (with_reducible rfl) | (with_reducible exact r_nx) | (with_reducible exact r_c) | (with_reducible exact r_nil) | (with_reducible exact r_no) | (with_reducible exact r_pnil) | (with_reducible exact r_gend) | exact Nat.le_of_ble_eq_true rfl | (with_reducible apply r_seqK_nx) | (with_reducible apply r_seqK) | (with_reducible apply r_ifK) | (with_reducible apply r_tandK) | (with_reducible apply r_torK) | (with_reducible apply r_andK) | (with_reducible apply r_orK) | (with_reducible apply r_ifxK) | (with_reducible apply r_ret) | (with_reducible apply r_setN) | (with_reducible apply r_expr) | (with_reducible apply r_asg) | (with_reducible apply r_parN) | (with_reducible apply r_var) | (with_reducible apply r_1) | (with_reducible apply r_tup) | (with_reducible apply r_lst) | (with_reducible apply r_fz) | (with_reducible apply r_2) | (with_reducible apply r_cons) | (with_reducible apply r_N) | (with_reducible apply r_t2) | (with_reducible apply r_tval) | (with_reducible apply r_tnot) | (with_reducible apply r_not) | (with_reducible apply r_cmpV) | (with_reducible apply r_gtup) | (with_reducible apply r_gand) | (with_reducible apply r_gset) | (with_reducible apply r_sl) | (with_reducible apply r_part) | (with_reducible apply r_M) | (with_reducible apply r_aug) | (with_reducible apply r_chainK) | (with_reducible apply r_bind2) | (with_reducible apply r_tchain) | (with_reducible apply r_fld) | (with_reducible apply r_disp) | (with_reducible apply r_pcons) | (with_reducible apply r_itet; focus (first | assumption | with_reducible rfl | (simp_all; done) | (simp_all; omega))) | (with_reducible apply r_itef; focus (first | assumption | with_reducible rfl | (simp_all; done) | (simp_all; omega))) | (simp only [List.map_cons, List.map_nil, List.length_cons, List.length_nil, Nat.reduceAdd, Nat.reduceSub, List.replicate_succ, List.replicate_zero, List.cons_append, List.nil_append, List.set_cons_succ, List.set_cons_zero]; done) | (simp only [List.map_cons, List.map_nil, List.length_cons, List.length_nil, Nat.reduceAdd, Nat.reduceSub, List.replicate_succ, List.replicate_zero, List.cons_append, List.nil_append, List.set_cons_succ, List.set_cons_zero]; rfl) | rfl | exact eqWay .rank .front _ | exact eqWay .rank .rank _ | exact e | exact hlen)
      · rfl
      · rw [z2]
      · rfl
theorem p_way (w : Way) (ranks : List Int) (rank : Int) (h : List O) : oPure Fplace_by_way [.str w.s, .lst (ranks.map .int), .int rank] h = .ret (.int (placeByWay w ranks rank : Nat), h) :=
  pure_ret h ⟨_, way_ok w ranks rank []⟩ (by simp [noLs, noL]; simpa [noL] using nl_ints ranks) rfl
end Md

namespace Md
open PySem PySem.Spec PyProof.Rows L2 Dr Ev Und
theorem undrawn_ok (sh : List Item) (h : List O) (hs : sh.length ≤ 10) : Fundrawn_rows [eSh sh] h = .ret (.lst ((undrawnRows sh).map eRow), h) := by
  have lc : fLc [1, 2, 3, 4] (fSrc enF (fVar 0)) (gTupF 2 (gAnd (gSet 1) (gAnd (gTupF 3 (gAnd (gSet 2) (gAnd (gSet 3) (gAnd (gSet 4) gEnd)))) gEnd))) tTrue (fN mkTup (fCons (fVar 2) (fCons (fVar 3) (fCons (fVar 1) fNil))))
      [some (eSh sh), none, none, none, none] h = .ret (.lst ((undrawnRows sh).map eRow), h) := by
    rw [lcI (fun i y => some (eRow (undrawnRow (y, i)))) (sr_tupE sh eI rfl rfl) (by omega) (fun i y _ => rfl)]
    rw [show (fun p : Item × Nat => some (eRow (undrawnRow (p.1, p.2)))) = fun p => some ((eRow ∘ undrawnRow) p) from rfl, List.filterMap_eq_map']
    simp [undrawnRows]
  apply F_retX rfl (by simp only [List.map_cons, List.map_nil, List.length_cons, List.length_nil, Nat.reduceAdd, Nat.reduceSub, List.replicate_succ, List.replicate_zero, List.cons_append, List.nil_append, List.set_cons_succ, List.set_cons_zero]; rfl)
  · unfold bundrawn_rows; repeat' (first | (with_reducible exact lc) | (with_reducible apply r_isSet; (first | (simp only [List.map_cons, List.map_nil, List.length_cons, List.length_nil, Nat.reduceAdd, Nat.reduceSub, List.replicate_succ, List.replicate_zero, List.cons_append, List.nil_append, List.set_cons_succ, List.set_cons_zero]; done) | (simp only [List.map_cons, List.map_nil, List.length_cons, List.length_nil, Nat.reduceAdd, Nat.reduceSub, List.replicate_succ, List.replicate_zero, List.cons_append, List.nil_append, List.set_cons_succ, List.set_cons_zero]; rfl))) | (with_reducible rfl) | (with_reducible exact r_nx) | (with_reducible exact r_c) | (with_reducible exact r_nil) | (with_reducible exact r_no) | (with_reducible exact r_pnil) | (with_reducible exact r_gend) | exact Nat.le_of_ble_eq_true rfl | (with_reducible apply r_seqK_nx) | (with_reducible apply r_seqK) | (with_reducible apply r_ifK) | (with_reducible apply r_tandK) | (with_reducible apply r_torK) | (with_reducible apply r_andK) | (with_reducible apply r_orK) | (with_reducible apply r_ifxK) | (with_reducible apply r_ret) | (with_reducible apply r_setN) | (with_reducible apply r_expr) | (with_reducible apply r_asg) | (with_reducible apply r_parN) | (with_reducible apply r_var) | (with_reducible apply r_1) | (with_reducible apply r_tup) | (with_reducible apply r_lst) | (with_reducible apply r_fz) | (with_reducible apply r_2) | (with_reducible apply r_cons) | (with_reducible apply r_N) | (with_reducible apply r_t2) | (with_reducible apply r_tval) | (with_reducible apply r_tnot) | (with_reducible apply r_not) | (with_reducible apply r_cmpV) | (with_reducible apply r_gtup) | (with_reducible apply r_gand) | (with_reducible apply r_gset) | (with_reducible apply r_sl) | (with_reducible apply r_part) | (with_reducible apply r_M) | (with_reducible apply r_aug) | (with_reducible apply r_chainK) | (with_reducible apply r_bind2) | (with_reducible apply r_tchain) | (with_reducible apply r_fld) | (with_reducible apply r_disp) | (with_reducible apply r_pcons) | (with_reducible apply r_itet; focus (first | assumption | with_reducible rfl | (simp_all; done) | (simp_all; omega))) | (with_reducible apply r_itef; focus (first | assumption | with_reducible rfl | (simp_all; done) | (simp_all; omega))) | (simp only [List.map_cons, List.map_nil, List.length_cons, List.length_nil, Nat.reduceAdd, Nat.reduceSub, List.replicate_succ, List.replicate_zero, List.cons_append, List.nil_append, List.set_cons_succ, List.set_cons_zero]; done) | (simp only [List.map_cons, List.map_nil, List.length_cons, List.length_nil, Nat.reduceAdd, Nat.reduceSub, List.replicate_succ, List.replicate_zero, List.cons_append, List.nil_append, List.set_cons_succ, List.set_cons_zero]; rfl) | rfl | exact lc)
  · rfl
  · rfl
  · rfl
theorem p_undrawn (sh : List Item) (h : List O) (hs : sh.length ≤ 10) : oPure Fundrawn_rows [eSh sh] h = .ret (.lst ((undrawnRows sh).map eRow), h) :=
  pure_ret h ⟨_, undrawn_ok sh [] hs⟩ (by simp [noLs, nl_Sh]) (nl_rows _)
theorem place_ok (r : Rl) (ranks : List Int) (rank : Int) (h : List O) : Fplace_for [eR r, .lst (ranks.map .int), .int rank] h = .ret (.int (placeFor r ranks rank), h) := by
  have hlen : oLenA [.lst (ranks.map .int)] h = .ret (.int (ranks.length : Nat), h) := len_fz (by simp)
  apply F_retX rfl (by simp only [List.map_cons, List.map_nil, List.length_cons, List.length_nil, Nat.reduceAdd, Nat.reduceSub, List.replicate_succ, List.replicate_zero, List.cons_append, List.nil_append, List.set_cons_succ, List.set_cons_zero]; rfl)
  · unfold bplace_for; repeat' (first | (with_reducible exact p_way r.way ranks rank h) | (with_reducible exact hlen) | (with_reducible apply r_isSet; (first | (simp only [List.map_cons, List.map_nil, List.length_cons, List.length_nil, Nat.reduceAdd, Nat.reduceSub, List.replicate_succ, List.replicate_zero, List.cons_append, List.nil_append, List.set_cons_succ, List.set_cons_zero]; done) | (simp only [List.map_cons, List.map_nil, List.length_cons, List.length_nil, Nat.reduceAdd, Nat.reduceSub, List.replicate_succ, List.replicate_zero, List.cons_append, List.nil_append, List.set_cons_succ, List.set_cons_zero]; rfl))) | (with_reducible rfl) | (with_reducible exact r_nx) | (with_reducible exact r_c) | (with_reducible exact r_nil) | (with_reducible exact r_no) | (with_reducible exact r_pnil) | (with_reducible exact r_gend) | exact Nat.le_of_ble_eq_true rfl | (with_reducible apply r_seqK_nx) | (with_reducible apply r_seqK) | (with_reducible apply r_ifK) | (with_reducible apply r_tandK) | (with_reducible apply r_torK) | (with_reducible apply r_andK) | (with_reducible apply r_orK) | (with_reducible apply r_ifxK) | (with_reducible apply r_ret) | (with_reducible apply r_setN) | (with_reducible apply r_expr) | (with_reducible apply r_asg) | (with_reducible apply r_parN) | (with_reducible apply r_var) | (with_reducible apply r_1) | (with_reducible apply r_tup) | (with_reducible apply r_lst) | (with_reducible apply r_fz) | (with_reducible apply r_2) | (with_reducible apply r_cons) | (with_reducible apply r_N) | (with_reducible apply r_t2) | (with_reducible apply r_tval) | (with_reducible apply r_tnot) | (with_reducible apply r_not) | (with_reducible apply r_cmpV) | (with_reducible apply r_gtup) | (with_reducible apply r_gand) | (with_reducible apply r_gset) | (with_reducible apply r_sl) | (with_reducible apply r_part) | (with_reducible apply r_M) | (with_reducible apply r_aug) | (with_reducible apply r_chainK) | (with_reducible apply r_bind2) | (with_reducible apply r_tchain) | (with_reducible apply r_fld) | (with_reducible apply r_disp) | (with_reducible apply r_pcons) | (with_reducible apply r_itet; focus (first | assumption | with_reducible rfl | (simp_all; done) | (simp_all; omega))) | (with_reducible apply r_itef; focus (first | assumption | with_reducible rfl | (simp_all; done) | (simp_all; omega))) | (simp only [List.map_cons, List.map_nil, List.length_cons, List.length_nil, Nat.reduceAdd, Nat.reduceSub, List.replicate_succ, List.replicate_zero, List.cons_append, List.nil_append, List.set_cons_succ, List.set_cons_zero]; done) | (simp only [List.map_cons, List.map_nil, List.length_cons, List.length_nil, Nat.reduceAdd, Nat.reduceSub, List.replicate_succ, List.replicate_zero, List.cons_append, List.nil_append, List.set_cons_succ, List.set_cons_zero]; rfl) | rfl | exact p_way r.way ranks rank h | exact hlen)
  · rfl
  · rfl
  · rfl
theorem p_place (r : Rl) (ranks : List Int) (rank : Int) (h : List O) : oPure Fplace_for [eR r, .lst (ranks.map .int), .int rank] h = .ret (.int (placeFor r ranks rank), h) :=
  pure_ret h ⟨_, place_ok r ranks rank []⟩ (by simp [noLs, nl_R]; exact ⟨nl_ints ranks, rfl⟩) rfl
theorem cut_to {α : Type} (xs : List α) (k : Int) (hk : 0 ≤ k) : Ev.cutD xs none (some k) = xs.take k.toNat := by
  unfold Ev.cutD HT.sIx
  dsimp only
  rw [if_neg (by omega), List.drop_zero, Nat.sub_zero]
  by_cases h : k.toNat ≤ xs.length
  · rw [Nat.min_eq_left h]
  · rw [Nat.min_eq_right (by omega), List.take_length, List.take_of_length_le (by omega)]
theorem placeFor_bd (r : Rl) (ranks : List Int) (rank : Int) (hr : OkR r) : 0 ≤ placeFor r ranks rank ∧ placeFor r ranks rank ≤ ranks.length := by
  have h1 : placeByWay r.way ranks rank ≤ ranks.length := by
    unfold placeByWay
    cases r.way with
    | front => exact Nat.zero_le _
    | fin => exact Nat.le_refl _
    | rank => exact List.findIdx_le_length
  have := hr.pins
  unfold placeFor
  dsimp only
  split <;> split <;> omega
theorem putIn_len (hs : Hs) (rows : List Row) (rank : Int) : (putIn hs rows rank).length ≤ hs.room.toNat := by
  unfold putIn
  rw [List.length_take]
  exact Nat.min_le_left _ _
theorem undrawn_len (sh : List Item) : (undrawnRows sh).length = sh.length := by simp [undrawnRows]
theorem mInsert_ok {n : Nat} {h : List O} {xs : List D} {i : Int} {y : D} (hn : h[n]? = some (.lst xs)) (hl : xs.length < 1000) (h0 : 0 ≤ i) (h1 : i ≤ 1000) : mInsert (.loc n) [.int i, y] h = .ret (.non, h.set n (.lst (xs.take i.toNat ++ [y] ++ xs.drop i.toNat))) := by
  unfold mInsert
  dsimp only
  rw [hn]
  exact if_pos ⟨by unfold lim; omega, h0, by omega⟩
theorem oSl_lst {n : Nat} {h : List O} {xs : List D} {lo hi : Option Int} (hn : h[n]? = some (.lst xs)) (hl : (Ev.cutD xs lo hi).length ≤ 1000000) : oSl mkLst (.loc n) lo hi h = .ret (.loc h.length, h ++ [.lst (Ev.cutD xs lo hi)]) := by
  unfold oSl lstD
  dsimp only
  rw [hn]
  exact if_pos hl
/-- over a list that stands in the store, kept as it is by the turns -/
theorem sr_loc {α : Type} {fa : Sg → M D} {s : Sg} {h h1 : List O} {n : Nat} {xs : List D} (ys : List α) (e : α → D) (ha : fa s h = .ret (.loc n, h1)) (hn : h1[n]? = some (.lst xs)) (hx : xs = ys.map e) : ∃ S : Src, fSrc noF fa s h = .ret (S, h1) ∧ S.fuel = ys.length ∧ ∀ i, S.get i h1 = some ((ys[i]?).map e) := by
  subst hx
  refine ⟨⟨(ys.map e).length, getL noF n⟩, ?_, by simp, fun i => ?_⟩
  · unfold fSrc
    rw [M.bind_ap, ha, Tr.bind_ret]
    show srcV noF (D.loc n) h1 = _
    unfold srcV
    simp only [hn]
  · show getL noF n i h1 = _
    unfold getL noF
    rw [hn]
    dsimp only
    rw [List.getElem?_map]
    cases ys[i]? <;> rfl
theorem comp_runH {α : Type} {get : Nat → List O → Option (Option D)} {body : D → M (Option D)} {h : List O} {ys : List α} {e : α → D} {φ : α → D}
    (hg : ∀ i, get i h = some ((ys[i]?).map e)) (hb : ∀ y, y ∈ ys → body (e y) h = .ret (some (φ y), h)) :
    ∀ (k i : Nat) (acc : List D), i + k = ys.length → acc.length + k ≤ lim → comp get body k i acc h = .ret (acc ++ (ys.drop i).map φ, h)
  | 0, i, acc, ee, _ => by
    have : ys[i]? = none := List.getElem?_eq_none (by omega)
    simp only [comp, hg, this, Option.map_none]
    rw [List.drop_of_length_le (by omega)]
    simp
  | k + 1, i, acc, ee, hl => by
    have hi : i < ys.length := by omega
    have he : ys[i]? = some ys[i] := List.getElem?_eq_getElem hi
    simp only [comp, hg, he, Option.map_some]
    rw [hb _ (List.getElem_mem hi), Tr.bind_ret]
    dsimp only
    rw [if_pos (by omega), comp_runH hg hb k (i + 1) (acc ++ [φ ys[i]]) (by omega) (by simp; omega), List.drop_eq_getElem_cons hi, List.map_cons, List.append_assoc]
    rfl
theorem lcH {α : Type} {vs : List Nat} {fa : Sg → M D} {g : D → Sg → M Sg} {ft : Sg → M Bool} {fe : Sg → M D} {s : Sg} {h h1 : List O} {n : Nat} {xs : List D} (ys : List α) (e : α → D) (φ : α → D) (ha : fa s h = .ret (.loc n, h1)) (hn : h1[n]? = some (.lst xs)) (hx : xs = ys.map e) (hl : ys.length ≤ 1000000)
    (hb : ∀ y, y ∈ ys → cBody (wipeS s vs) g ft fe (e y) h1 = .ret (some (φ y), h1)) : fLc vs (fSrc noF fa) g ft fe s h = .ret (.lst (ys.map φ), h1) := by
  obtain ⟨S, e1, e2, e3⟩ := sr_loc ys e ha hn hx
  unfold fLc
  rw [M.bind_ap, e1, Tr.bind_ret]
  dsimp only
  rw [e2, comp_runH e3 hb ys.length 0 [] (by omega) (by simpa [lim] using hl)]
  simp [Tr.calm, Tr.bind]
theorem lcVL {α : Type} {vs : List Nat} {fi : Sg → M Src} {g : D → Sg → M Sg} {ft : Sg → M Bool} {fe : Sg → M D} {s : Sg} {h h1 : List O} {ys : List α} {e : α → D} (φ : α → Option D) (hs : Sr (fi s h) h1 ys fun _ => e) (hl : ys.length ≤ 1000000) (hb : ∀ y, y ∈ ys → cBody (wipeS s vs) g ft fe (e y) h1 = .ret (φ y, h1)) :
    fLcL vs fi g ft fe s h = .ret (.loc h1.length, h1 ++ [.lst (ys.filterMap φ)]) := by
  obtain ⟨S, e1, e2, e3⟩ := hs.ex
  unfold fLcL
  rw [M.bind_ap, e1, Tr.bind_ret]
  dsimp only
  rw [e2, comp_runT (φ := fun _ => φ) e3 (fun i y hy => hb y (List.mem_of_getElem? hy)) ys.length 0 [] (by omega) (by simpa [lim] using hl)]
  simp [Tr.calm, Tr.bind, zipIdx_fm φ ys 0]
def begun (hs : Hs) (sh : List Item) (ws : List Int) (i : Nat) : List Row := (ws.take i).foldl (putIn hs) ((undrawnRows sh).filter fun r => !r.gone)
theorem begun_len (hs : Hs) (ok : OkH hs) (sh : List Item) (ws : List Int) (hl : sh.length ≤ 10) (i : Nat) : (begun hs sh ws i).length ≤ 10 := by
  have key : ∀ (us : List Int) (rows : List Row), rows.length ≤ 10 → (us.foldl (putIn hs) rows).length ≤ 10 := by
    intro us
    induction us with
    | nil => intro rows h; exact h
    | cons u us ih =>
      intro rows _
      refine ih _ (Nat.le_trans (putIn_len hs rows u) ?_)
      have := ok.room
      omega
  refine key _ _ (Nat.le_trans (List.length_filter_le _ _) ?_)
  rw [undrawn_len]
  exact hl
theorem drawn_ok (hs : Hs) (ok : OkH hs) (sh : List Item) (ws : List Int) (h : List O) (hl : sh.length ≤ 10) :
    ∃ m g, Fdrawn_rows [eH hs, eSh sh, eW ws] h = .ret (.loc m, g) ∧ g[m]? = some (.lst ((drawnRows hs sh ws).map eRow)) := by
  have un := p_undrawn sh h hl
  have lc0 : fLcL [5] (fSrc noF (fN (oPure Fundrawn_rows) (fCons (fVar 1) fNil))) (gSet 5) (tNotF (tVal (f2 oGet (fVar 5) (fC (.int 1))))) (fVar 5) [some (eH hs), some (eSh sh), some (eW ws), none, none, none] h =
      .ret (.loc h.length, h ++ [.lst (((undrawnRows sh).filter fun r => !r.gone).map eRow)]) := by
    rw [lcVL (fun r => if r.gone then none else some (eRow r)) (sr_lst (undrawnRows sh) eRow (r_N (r_cons rfl r_nil) un) rfl) (by rw [undrawn_len]; omega) (fun r _ => by
      obtain ⟨a, b, c⟩ := r
      cases b <;> rfl)]
    congr 5
    induction undrawnRows sh with
    | nil => rfl
    | cons r rs ih => cases hg : r.gone <;> simp [hg, ih]
  obtain ⟨r, e, z⟩ := forI (s := [some (eH hs), some (eSh sh), some (eW ws), some (.loc h.length), none, none]) (h := h ++ [.lst (((undrawnRows sh).filter fun r => !r.gone).map eRow)]) (h1 := h ++ [.lst (((undrawnRows sh).filter fun r => !r.gone).map eRow)])
    (fi := fSrc noF (fVar 2)) (g := gSet 4) (fb := sSeq (sExpr (fM mInsert (fVar 3) (fCons (fN (oPure Fplace_for) (fCons (f1 (oFld 1 0) (fVar 0)) (fCons (fLc [5] (fSrc noF (fVar 3)) (gSet 5) tTrue (f2 oGet (fVar 5) (fC (.int 0)))) (fCons (fVar 4) fNil)))) (fCons (fN mkTup (fCons (fVar 4) (fCons (fC (.bl false)) (fCons (fC .non) fNil)))) fNil))))
  (sSet 3 (fSl mkLst (fVar 3) fNo (fPart (f1 (oFld 1 1) (fVar 0)))))) (ys := ws) (e := fun _ => D.int)
    (fun i s g => ∃ m a, s = [some (eH hs), some (eSh sh), some (eW ws), some (.loc m), a, none] ∧ g[m]? = some (.lst ((begun hs sh ws i).map eRow)))
    (fun r => ∃ m a g, r = (.nx [some (eH hs), some (eSh sh), some (eW ws), some (.loc m), a, none], g) ∧ g[m]? = some (.lst ((drawnRows hs sh ws).map eRow)))
    (sr_tup ws D.int rfl rfl) ⟨_, none, rfl, by simp [begun]⟩ (by
      rintro i y s g hy ⟨m, a, rfl, hm⟩
      have hlen := begun_len hs ok sh ws hl i
      have hlt : m < g.length := (List.getElem?_eq_some_iff.mp hm).1
      have lc1 : fLc [5] (fSrc noF (fVar 3)) (gSet 5) tTrue (f2 oGet (fVar 5) (fC (.int 0))) [some (eH hs), some (eSh sh), some (eW ws), some (.loc m), some (.int y), none] g = .ret (.lst (((begun hs sh ws i).map (·.rank)).map .int), g) := by
        rw [lcH (begun hs sh ws i) eRow (fun r => .int r.rank) rfl hm rfl (by omega) (fun r _ => rfl)]
        simp
      have pl := p_place hs.rule ((begun hs sh ws i).map (·.rank)) y g
      have bd := placeFor_bd hs.rule ((begun hs sh ws i).map (·.rank)) y ok.rule
      have ins := mInsert_ok (y := .tup [.int y, .bl false, .non]) hm (by simp; omega) bd.1 (by have := bd.2; simp at this; omega)
      generalize hG : g.set m (.lst (((begun hs sh ws i).map eRow).take (placeFor hs.rule ((begun hs sh ws i).map (·.rank)) y).toNat ++ [.tup [.int y, .bl false, .non]] ++ ((begun hs sh ws i).map eRow).drop (placeFor hs.rule ((begun hs sh ws i).map (·.rank)) y).toNat)) = G at ins
      have hx : G[m]? = some (.lst (((begun hs sh ws i).map eRow).take (placeFor hs.rule ((begun hs sh ws i).map (·.rank)) y).toNat ++ [.tup [.int y, .bl false, .non]] ++ ((begun hs sh ws i).map eRow).drop (placeFor hs.rule ((begun hs sh ws i).map (·.rank)) y).toNat)) := by
        rw [← hG, List.getElem?_set_self hlt]
      have hr := ok.room
      have cut := oSl_lst (lo := none) (hi := some hs.room) hx (by rw [cut_to _ _ (by omega), List.length_take]; omega)
      rw [cut_to _ _ (by omega)] at cut
      apply ex_step
      case e =>
        show sSeq _ _ [some (eH hs), some (eSh sh), some (eW ws), some (.loc m), some (.int y), none] g = _
        repeat' (first | (with_reducible exact lc1) | (with_reducible exact pl) | (with_reducible exact hm) | (with_reducible exact ins) | (with_reducible exact cut) | (with_reducible apply r_isSet; (first | (simp only [List.map_cons, List.map_nil, List.length_cons, List.length_nil, Nat.reduceAdd, Nat.reduceSub, List.replicate_succ, List.replicate_zero, List.cons_append, List.nil_append, List.set_cons_succ, List.set_cons_zero]; done) | (simp only [List.map_cons, List.map_nil, List.length_cons, List.length_nil, Nat.reduceAdd, Nat.reduceSub, List.replicate_succ, List.replicate_zero, List.cons_append, List.nil_append, List.set_cons_succ, List.set_cons_zero]; rfl))) | (with_reducible rfl) | (with_reducible exact r_nx) | (with_reducible exact r_c) | (with_reducible exact r_nil) | (with_reducible exact r_no) | (with_reducible exact r_pnil) | (with_reducible exact r_gend) | exact Nat.le_of_ble_eq_true rfl | (with_reducible apply r_seqK_nx) | (with_reducible apply r_seqK) | (with_reducible apply r_ifK) | (with_reducible apply r_tandK) | (with_reducible apply r_torK) | (with_reducible apply r_andK) | (with_reducible apply r_orK) | (with_reducible apply r_ifxK) | (with_reducible apply r_ret) | (with_reducible apply r_setN) | (with_reducible apply r_expr) | (with_reducible apply r_asg) | (with_reducible apply r_parN) | (with_reducible apply r_var) | (with_reducible apply r_1) | (with_reducible apply r_tup) | (with_reducible apply r_lst) | (with_reducible apply r_fz) | (with_reducible apply r_2) | (with_reducible apply r_cons) | (with_reducible apply r_N) | (with_reducible apply r_t2) | (with_reducible apply r_tval) | (with_reducible apply r_tnot) | (with_reducible apply r_not) | (with_reducible apply r_cmpV) | (with_reducible apply r_gtup) | (with_reducible apply r_gand) | (with_reducible apply r_gset) | (with_reducible apply r_sl) | (with_reducible apply r_part) | (with_reducible apply r_M) | (with_reducible apply r_aug) | (with_reducible apply r_chainK) | (with_reducible apply r_bind2) | (with_reducible apply r_tchain) | (with_reducible apply r_fld) | (with_reducible apply r_disp) | (with_reducible apply r_pcons) | (with_reducible apply r_itet; focus (first | assumption | with_reducible rfl | (simp_all; done) | (simp_all; omega))) | (with_reducible apply r_itef; focus (first | assumption | with_reducible rfl | (simp_all; done) | (simp_all; omega))) | (simp only [List.map_cons, List.map_nil, List.length_cons, List.length_nil, Nat.reduceAdd, Nat.reduceSub, List.replicate_succ, List.replicate_zero, List.cons_append, List.nil_append, List.set_cons_succ, List.set_cons_zero]; done) | (simp only [List.map_cons, List.map_nil, List.length_cons, List.length_nil, Nat.reduceAdd, Nat.reduceSub, List.replicate_succ, List.replicate_zero, List.cons_append, List.nil_append, List.set_cons_succ, List.set_cons_zero]; rfl) | rfl | exact lc1 | exact pl | exact hm | exact ins | exact cut)
      case q =>
        refine ⟨_, _, rfl, ?_⟩
        rw [List.getElem?_concat_length]
        congr 2
        have hb : begun hs sh ws (i + 1) = putIn hs (begun hs sh ws i) y := by
          unfold begun
          rw [List.take_add_one, hy, List.foldl_append]
          rfl
        rw [hb]
        simp [putIn, List.map_take, List.map_drop, eRow, eB])
    (by
      rintro s g ⟨m, a, rfl, hm⟩
      exact ⟨m, a, g, rfl, by rw [hm]; simp [begun, drawnRows]⟩)
  obtain ⟨m, a, g, rfl, hm⟩ := z
  refine ⟨m, g, ?_, hm⟩
  apply F_retX rfl (by simp only [List.map_cons, List.map_nil, List.length_cons, List.length_nil, Nat.reduceAdd, Nat.reduceSub, List.replicate_succ, List.replicate_zero, List.cons_append, List.nil_append, List.set_cons_succ, List.set_cons_zero]; rfl)
  · unfold bdrawn_rows; repeat' (first | (with_reducible exact lc0) | (with_reducible exact e) | (with_reducible apply r_isSet; (first | (simp only [List.map_cons, List.map_nil, List.length_cons, List.length_nil, Nat.reduceAdd, Nat.reduceSub, List.replicate_succ, List.replicate_zero, List.cons_append, List.nil_append, List.set_cons_succ, List.set_cons_zero]; done) | (simp only [List.map_cons, List.map_nil, List.length_cons, List.length_nil, Nat.reduceAdd, Nat.reduceSub, List.replicate_succ, List.replicate_zero, List.cons_append, List.nil_append, List.set_cons_succ, List.set_cons_zero]; rfl))) | (with_reducible rfl) | (with_reducible exact r_nx) | (with_reducible exact r_c) | (with_reducible exact r_nil) | (with_reducible exact r_no) | (with_reducible exact r_pnil) | (with_reducible exact r_gend) | exact Nat.le_of_ble_eq_true rfl | (with_reducible apply r_seqK_nx) | (with_reducible apply r_seqK) | (with_reducible apply r_ifK) | (with_reducible apply r_tandK) | (with_reducible apply r_torK) | (with_reducible apply r_andK) | (with_reducible apply r_orK) | (with_reducible apply r_ifxK) | (with_reducible apply r_ret) | (with_reducible apply r_setN) | (with_reducible apply r_expr) | (with_reducible apply r_asg) | (with_reducible apply r_parN) | (with_reducible apply r_var) | (with_reducible apply r_1) | (with_reducible apply r_tup) | (with_reducible apply r_lst) | (with_reducible apply r_fz) | (with_reducible apply r_2) | (with_reducible apply r_cons) | (with_reducible apply r_N) | (with_reducible apply r_t2) | (with_reducible apply r_tval) | (with_reducible apply r_tnot) | (with_reducible apply r_not) | (with_reducible apply r_cmpV) | (with_reducible apply r_gtup) | (with_reducible apply r_gand) | (with_reducible apply r_gset) | (with_reducible apply r_sl) | (with_reducible apply r_part) | (with_reducible apply r_M) | (with_reducible apply r_aug) | (with_reducible apply r_chainK) | (with_reducible apply r_bind2) | (with_reducible apply r_tchain) | (with_reducible apply r_fld) | (with_reducible apply r_disp) | (with_reducible apply r_pcons) | (with_reducible apply r_itet; focus (first | assumption | with_reducible rfl | (simp_all; done) | (simp_all; omega))) | (with_reducible apply r_itef; focus (first | assumption | with_reducible rfl | (simp_all; done) | (simp_all; omega))) | (simp only [List.map_cons, List.map_nil, List.length_cons, List.length_nil, Nat.reduceAdd, Nat.reduceSub, List.replicate_succ, List.replicate_zero, List.cons_append, List.nil_append, List.set_cons_succ, List.set_cons_zero]; done) | (simp only [List.map_cons, List.map_nil, List.length_cons, List.length_nil, Nat.reduceAdd, Nat.reduceSub, List.replicate_succ, List.replicate_zero, List.cons_append, List.nil_append, List.set_cons_succ, List.set_cons_zero]; rfl) | rfl | exact lc0 | exact e)
  · rfl
  · rfl
  · rfl
theorem frz_rows {g : List O} {m : Nat} (rs : List Row) (h : g[m]? = some (.lst (rs.map eRow))) : frz g far (.loc m) = some (.lst (rs.map eRow)) := frz_lst h (noLs_map nl_Row rs) 38
theorem p_drawn (hs : Hs) (ok : OkH hs) (sh : List Item) (ws : List Int) (hl : sh.length ≤ 10) (h : List O) : oPure Fdrawn_rows [eH hs, eSh sh, eW ws] h = .ret (.lst ((drawnRows hs sh ws).map eRow), h) := by
  obtain ⟨m, g, e1, e2⟩ := drawn_ok hs ok sh ws [] hl
  exact pure_fz h e1 (by simp [noLs, nl_H, nl_Sh, nl_W]) (frz_rows _ e2)
end Md

namespace Md
open PySem PySem.Spec PyProof.Rows L2 Dr Ev Und
theorem eqB (b : Option Nat) (p : Nat) (h : List O) : pEq (fun b => b) h (eB b) (.int (p : Nat)) = some (decide (b = some p)) := by
  rw [pEq_T _ h (okT_eB 23 b) rfl]
  cases b with
  | none => rfl
  | some q =>
    show some ((q : Int) == (p : Int)) = some (decide (some q = some p))
    congr 1
    rw [Bool.eq_iff_iff]
    simp
    omega
theorem stood_ok (r : Rl) (sh : List Item) (rows : List Row) (h : List O) (hb : ∀ w ∈ rows, ∀ p, w.before = some p → p < sh.length) (hl : rows.length ≤ 10) :
    ∃ g, Fstood_on [eR r, eSh sh, .lst (rows.map eRow)] h = .ret (eSh (stoodOn r sh rows), h ++ g) := by
  let st (i : Nat) : List Item := (stoodOn r sh rows).take i
  have hst : ∀ i y, rows[i]? = some y → (stoodOn r sh rows).take (i + 1) = (stoodOn r sh rows).take i ++ [stoodAt r sh y i] := by
    intro i y hy
    rw [List.take_add_one]
    congr 1
    unfold stoodOn
    rw [List.getElem?_map, List.getElem?_zipIdx, hy]
    simp
  obtain ⟨q, e, z⟩ := forI (s := [some (eR r), some (eSh sh), some (.lst (rows.map eRow)), some (.loc h.length), none, none, none, none, none]) (h := h ++ [.lst []]) (h1 := h ++ [.lst []]) (fi := fSrc enF (fVar 2))
    (g := gTupF 2 (gAnd (gSet 4) (gAnd (gTupF 3 (gAnd (gSet 5) (gAnd (gSet 6) (gAnd (gSet 7) gEnd)))) gEnd)))
    (fb := sSeq (sSet 8 (fIf (t2 (pEq fun b => b) (fVar 7) (fVar 4)) (fN (o2I fun i j => if j < i then j else i) (fCons (f2 (oAdd mkFz) (f2 oGet (f2 oGet (fVar 1) (fVar 4)) (fC (.int 2))) (fC (.int 1))) (fCons (f1 (oFld 0 4) (fVar 0)) fNil))) (fC (.int 0))))
  (sExpr (fM mAppend (fVar 3) (fCons (fN mkTup (fCons (fVar 5) (fCons (fVar 6) (fCons (fVar 8) fNil)))) fNil)))) (ys := rows) (e := fun i y => .tup [.int (i : Nat), eRow y])
    (fun i s g => (∃ a b c d e, s = [some (eR r), some (eSh sh), some (.lst (rows.map eRow)), some (.loc h.length), a, b, c, d, e]) ∧ g = h ++ [.lst ((st i).map eI)])
    (fun q => ∃ a b c d e, q = (.nx [some (eR r), some (eSh sh), some (.lst (rows.map eRow)), some (.loc h.length), a, b, c, d, e], h ++ [.lst ((stoodOn r sh rows).map eI)]))
    (sr_lstE rows eRow rfl rfl) ⟨⟨_, _, _, _, _, rfl⟩, by simp [st]⟩ (by
      rintro i y s g hy ⟨⟨a, b, c, d, e, rfl⟩, rfl⟩
      have e1 : (h ++ [O.lst ((st i).map eI)])[h.length]? = some (.lst ((st i).map eI)) := by simp
      have app : ∀ z, mAppend (.loc h.length) [z] (h ++ [O.lst ((st i).map eI)]) = .ret (.non, h ++ [.lst ((st i).map eI ++ [z])]) := by
        intro z
        unfold mAppend
        dsimp only
        rw [e1]
        dsimp only
        rw [if_pos (by unfold lim; simp [st, stoodOn]; omega)]
        simp
      by_cases hp : y.before = some i
      · have hi : i < sh.length := hb y (List.mem_of_getElem? hy) i hp
        have hg : oGet (eSh sh) (.int (i : Nat)) (h ++ [O.lst ((st i).map eI)]) = .ret (eI (sh.getD i ⟨0, false, 0⟩), h ++ [O.lst ((st i).map eI)]) := by
          unfold eSh oGet dctD oIx seqD
          dsimp only
          rw [atI_at, List.getElem?_map, List.getElem?_eq_getElem hi]
          simp [hi]
        apply ex_step
        · show sSeq _ _ [some (eR r), some (eSh sh), some (.lst (rows.map eRow)), some (.loc h.length), some (.int (i : Nat)), some (.int y.rank), some (.bl y.gone), some (eB y.before), e] _ = _
          repeat' (first | (with_reducible exact eqB y.before i _) | (with_reducible exact hg) | (with_reducible exact e1) | (with_reducible exact app _) | (with_reducible apply r_isSet; (first | (simp only [List.map_cons, List.map_nil, List.length_cons, List.length_nil, Nat.reduceAdd, Nat.reduceSub, List.replicate_succ, List.replicate_zero, List.cons_append, List.nil_append, List.set_cons_succ, List.set_cons_zero]; done) | (simp only [List.map_cons, List.map_nil, List.length_cons, List.length_nil, Nat.reduceAdd, Nat.reduceSub, List.replicate_succ, List.replicate_zero, List.cons_append, List.nil_append, List.set_cons_succ, List.set_cons_zero]; rfl))) | (with_reducible rfl) | (with_reducible exact r_nx) | (with_reducible exact r_c) | (with_reducible exact r_nil) | (with_reducible exact r_no) | (with_reducible exact r_pnil) | (with_reducible exact r_gend) | exact Nat.le_of_ble_eq_true rfl | (with_reducible apply r_seqK_nx) | (with_reducible apply r_seqK) | (with_reducible apply r_ifK) | (with_reducible apply r_tandK) | (with_reducible apply r_torK) | (with_reducible apply r_andK) | (with_reducible apply r_orK) | (with_reducible apply r_ifxK) | (with_reducible apply r_ret) | (with_reducible apply r_setN) | (with_reducible apply r_expr) | (with_reducible apply r_asg) | (with_reducible apply r_parN) | (with_reducible apply r_var) | (with_reducible apply r_1) | (with_reducible apply r_tup) | (with_reducible apply r_lst) | (with_reducible apply r_fz) | (with_reducible apply r_2) | (with_reducible apply r_cons) | (with_reducible apply r_N) | (with_reducible apply r_t2) | (with_reducible apply r_tval) | (with_reducible apply r_tnot) | (with_reducible apply r_not) | (with_reducible apply r_cmpV) | (with_reducible apply r_gtup) | (with_reducible apply r_gand) | (with_reducible apply r_gset) | (with_reducible apply r_sl) | (with_reducible apply r_part) | (with_reducible apply r_M) | (with_reducible apply r_aug) | (with_reducible apply r_chainK) | (with_reducible apply r_bind2) | (with_reducible apply r_tchain) | (with_reducible apply r_fld) | (with_reducible apply r_disp) | (with_reducible apply r_pcons) | (with_reducible apply r_itet; focus (first | assumption | with_reducible rfl | (simp_all; done) | (simp_all; omega))) | (with_reducible apply r_itef; focus (first | assumption | with_reducible rfl | (simp_all; done) | (simp_all; omega))) | (simp only [List.map_cons, List.map_nil, List.length_cons, List.length_nil, Nat.reduceAdd, Nat.reduceSub, List.replicate_succ, List.replicate_zero, List.cons_append, List.nil_append, List.set_cons_succ, List.set_cons_zero]; done) | (simp only [List.map_cons, List.map_nil, List.length_cons, List.length_nil, Nat.reduceAdd, Nat.reduceSub, List.replicate_succ, List.replicate_zero, List.cons_append, List.nil_append, List.set_cons_succ, List.set_cons_zero]; rfl) | rfl | exact eqB y.before i _ | exact hg | exact e1 | exact app _)
        · refine ⟨⟨_, _, _, _, _, rfl⟩, ?_⟩
          show _ = h ++ [O.lst (((stoodOn r sh rows).take (i + 1)).map eI)]
          rw [hst i y hy]
          simp [st, eI, stoodAt, hp, minI]
      · apply ex_step
        · show sSeq _ _ [some (eR r), some (eSh sh), some (.lst (rows.map eRow)), some (.loc h.length), some (.int (i : Nat)), some (.int y.rank), some (.bl y.gone), some (eB y.before), e] _ = _
          repeat' (first | (with_reducible exact eqB y.before i _) | (with_reducible exact e1) | (with_reducible exact app _) | (with_reducible apply r_isSet; (first | (simp only [List.map_cons, List.map_nil, List.length_cons, List.length_nil, Nat.reduceAdd, Nat.reduceSub, List.replicate_succ, List.replicate_zero, List.cons_append, List.nil_append, List.set_cons_succ, List.set_cons_zero]; done) | (simp only [List.map_cons, List.map_nil, List.length_cons, List.length_nil, Nat.reduceAdd, Nat.reduceSub, List.replicate_succ, List.replicate_zero, List.cons_append, List.nil_append, List.set_cons_succ, List.set_cons_zero]; rfl))) | (with_reducible rfl) | (with_reducible exact r_nx) | (with_reducible exact r_c) | (with_reducible exact r_nil) | (with_reducible exact r_no) | (with_reducible exact r_pnil) | (with_reducible exact r_gend) | exact Nat.le_of_ble_eq_true rfl | (with_reducible apply r_seqK_nx) | (with_reducible apply r_seqK) | (with_reducible apply r_ifK) | (with_reducible apply r_tandK) | (with_reducible apply r_torK) | (with_reducible apply r_andK) | (with_reducible apply r_orK) | (with_reducible apply r_ifxK) | (with_reducible apply r_ret) | (with_reducible apply r_setN) | (with_reducible apply r_expr) | (with_reducible apply r_asg) | (with_reducible apply r_parN) | (with_reducible apply r_var) | (with_reducible apply r_1) | (with_reducible apply r_tup) | (with_reducible apply r_lst) | (with_reducible apply r_fz) | (with_reducible apply r_2) | (with_reducible apply r_cons) | (with_reducible apply r_N) | (with_reducible apply r_t2) | (with_reducible apply r_tval) | (with_reducible apply r_tnot) | (with_reducible apply r_not) | (with_reducible apply r_cmpV) | (with_reducible apply r_gtup) | (with_reducible apply r_gand) | (with_reducible apply r_gset) | (with_reducible apply r_sl) | (with_reducible apply r_part) | (with_reducible apply r_M) | (with_reducible apply r_aug) | (with_reducible apply r_chainK) | (with_reducible apply r_bind2) | (with_reducible apply r_tchain) | (with_reducible apply r_fld) | (with_reducible apply r_disp) | (with_reducible apply r_pcons) | (with_reducible apply r_itet; focus (first | assumption | with_reducible rfl | (simp_all; done) | (simp_all; omega))) | (with_reducible apply r_itef; focus (first | assumption | with_reducible rfl | (simp_all; done) | (simp_all; omega))) | (simp only [List.map_cons, List.map_nil, List.length_cons, List.length_nil, Nat.reduceAdd, Nat.reduceSub, List.replicate_succ, List.replicate_zero, List.cons_append, List.nil_append, List.set_cons_succ, List.set_cons_zero]; done) | (simp only [List.map_cons, List.map_nil, List.length_cons, List.length_nil, Nat.reduceAdd, Nat.reduceSub, List.replicate_succ, List.replicate_zero, List.cons_append, List.nil_append, List.set_cons_succ, List.set_cons_zero]; rfl) | rfl | exact eqB y.before i _ | exact e1 | exact app _)
        · refine ⟨⟨_, _, _, _, _, rfl⟩, ?_⟩
          show _ = h ++ [O.lst (((stoodOn r sh rows).take (i + 1)).map eI)]
          rw [hst i y hy]
          simp [st, eI, stoodAt, hp])
    (by
      rintro s g ⟨⟨a, b, c, d, e, rfl⟩, rfl⟩
      refine ⟨a, b, c, d, e, ?_⟩
      have : (stoodOn r sh rows).take rows.length = stoodOn r sh rows := List.take_of_length_le (by simp [stoodOn])
      simp only [st, this])
  obtain ⟨a, b, c, d, e', rfl⟩ := z
  refine ⟨[.lst ((stoodOn r sh rows).map eI)], ?_⟩
  have tp : oTuple [.loc h.length] (h ++ [O.lst ((stoodOn r sh rows).map eI)]) = .ret (eSh (stoodOn r sh rows), h ++ [O.lst ((stoodOn r sh rows).map eI)]) := by
    unfold oTuple seqD lstD
    simp [eSh]
  apply F_retX rfl (by simp only [List.map_cons, List.map_nil, List.length_cons, List.length_nil, Nat.reduceAdd, Nat.reduceSub, List.replicate_succ, List.replicate_zero, List.cons_append, List.nil_append, List.set_cons_succ, List.set_cons_zero]; rfl)
  · unfold bstood_on; repeat' (first | (with_reducible exact e) | (with_reducible exact tp) | (with_reducible apply r_isSet; (first | (simp only [List.map_cons, List.map_nil, List.length_cons, List.length_nil, Nat.reduceAdd, Nat.reduceSub, List.replicate_succ, List.replicate_zero, List.cons_append, List.nil_append, List.set_cons_succ, List.set_cons_zero]; done) | (simp only [List.map_cons, List.map_nil, List.length_cons, List.length_nil, Nat.reduceAdd, Nat.reduceSub, List.replicate_succ, List.replicate_zero, List.cons_append, List.nil_append, List.set_cons_succ, List.set_cons_zero]; rfl))) | (with_reducible rfl) | (with_reducible exact r_nx) | (with_reducible exact r_c) | (with_reducible exact r_nil) | (with_reducible exact r_no) | (with_reducible exact r_pnil) | (with_reducible exact r_gend) | exact Nat.le_of_ble_eq_true rfl | (with_reducible apply r_seqK_nx) | (with_reducible apply r_seqK) | (with_reducible apply r_ifK) | (with_reducible apply r_tandK) | (with_reducible apply r_torK) | (with_reducible apply r_andK) | (with_reducible apply r_orK) | (with_reducible apply r_ifxK) | (with_reducible apply r_ret) | (with_reducible apply r_setN) | (with_reducible apply r_expr) | (with_reducible apply r_asg) | (with_reducible apply r_parN) | (with_reducible apply r_var) | (with_reducible apply r_1) | (with_reducible apply r_tup) | (with_reducible apply r_lst) | (with_reducible apply r_fz) | (with_reducible apply r_2) | (with_reducible apply r_cons) | (with_reducible apply r_N) | (with_reducible apply r_t2) | (with_reducible apply r_tval) | (with_reducible apply r_tnot) | (with_reducible apply r_not) | (with_reducible apply r_cmpV) | (with_reducible apply r_gtup) | (with_reducible apply r_gand) | (with_reducible apply r_gset) | (with_reducible apply r_sl) | (with_reducible apply r_part) | (with_reducible apply r_M) | (with_reducible apply r_aug) | (with_reducible apply r_chainK) | (with_reducible apply r_bind2) | (with_reducible apply r_tchain) | (with_reducible apply r_fld) | (with_reducible apply r_disp) | (with_reducible apply r_pcons) | (with_reducible apply r_itet; focus (first | assumption | with_reducible rfl | (simp_all; done) | (simp_all; omega))) | (with_reducible apply r_itef; focus (first | assumption | with_reducible rfl | (simp_all; done) | (simp_all; omega))) | (simp only [List.map_cons, List.map_nil, List.length_cons, List.length_nil, Nat.reduceAdd, Nat.reduceSub, List.replicate_succ, List.replicate_zero, List.cons_append, List.nil_append, List.set_cons_succ, List.set_cons_zero]; done) | (simp only [List.map_cons, List.map_nil, List.length_cons, List.length_nil, Nat.reduceAdd, Nat.reduceSub, List.replicate_succ, List.replicate_zero, List.cons_append, List.nil_append, List.set_cons_succ, List.set_cons_zero]; rfl) | rfl | exact e | exact tp)
  · rfl
  · rfl
  · rfl
theorem p_stood (r : Rl) (sh : List Item) (rows : List Row) (hb : ∀ w ∈ rows, ∀ p, w.before = some p → p < sh.length) (hl : rows.length ≤ 10) (h : List O) : oPure Fstood_on [eR r, eSh sh, .lst (rows.map eRow)] h = .ret (eSh (stoodOn r sh rows), h) := by
  obtain ⟨g, e⟩ := stood_ok r sh rows [] hb hl
  exact pure_ret h ⟨_, e⟩ (by simp [noLs, nl_R, nl_Sh, nl_rows]) (nl_Sh _)
end Md

namespace Md
open PySem PySem.Spec PyProof.Rows L2 Dr Ev Und
theorem pInA_fz {h : List O} {x : D} {ys : List D} (hx : okT 23 x = true) (hy : okTs 22 ys = true) : pInA false h x (.lst ys) = some (ys.any fun y => Ev.eqT y x) := by
  show pIn (fun b => b) h x (.lst ys) = _
  exact pIn_T (fun b => b) hx hy
theorem pNInA_fz {h : List O} {x : D} {ys : List D} (hx : okT 23 x = true) (hy : okTs 22 ys = true) : pInA true h x (.lst ys) = some (!ys.any fun y => Ev.eqT y x) := by
  show pIn (fun b => !b) h x (.lst ys) = _
  exact pIn_T (fun b => !b) hx hy
theorem toP_fz {h : List O} {ys : List D} (hy : okTs 22 ys = true) : toP h deep (.lst ys) = some (.list (toTs ys)) := toP_T h 23 (.lst ys) (by simpa [okT] using hy)
theorem toTs_len : ∀ ys : List D, (toTs ys).length = ys.length
  | [] => rfl
  | y :: ys => by simp [toTs, toTs_len ys]
theorem toTs_find (x : D) (hx : okT 23 x = true) : ∀ ys : List D, okTs 22 ys = true → (toTs ys).findIdx (fun z => PyData.eqv z (toT x)) = ys.findIdx fun y => Ev.eqT y x
  | [], _ => rfl
  | y :: ys, e => by
    have e := Bool.and_eq_true_iff.mp (show (okT 22 y && okTs 22 ys) = true by simpa [okTs] using e)
    simp only [toTs, List.findIdx_cons, toTs_find x hx ys e.2, eqT_eqv 23 y x (okT_up 22 y e.1) hx]
theorem mIndex_T {h : List O} {x : D} {ys : List D} (hx : okT 23 x = true) (hy : okTs 22 ys = true) (ha : (ys.any fun y => Ev.eqT y x) = true) : mIndex (.lst ys) [x] h = .ret (.int (ys.findIdx fun y => Ev.eqT y x : Nat), h) := by
  obtain ⟨a1, a2⟩ := okT_lay _ _ hx
  obtain ⟨b1, b2⟩ := okTs_lay _ _ hy
  unfold mIndex
  dsimp only
  rw [toP_fz hy, show toP h deep x = _ from toP_T h 23 x hx]
  dsimp only
  rw [if_pos (by
    unfold SeqAt.shaped
    rw [a1, decide_eq_true (show (toT x).depth ≤ 64 by omega), show (PyData.list (toTs ys)).canLay0 = true by simpa [PyData.canLay0] using b1, decide_eq_true (show (PyData.list (toTs ys)).depth ≤ 64 by simp [PyData.depth]; omega)]; rfl)]
  rw [toTs_find x hx ys hy, toTs_len]
  rw [if_pos (by
    have := List.findIdx_lt_length (p := fun y => Ev.eqT y x) (xs := ys)
    rw [this]
    simpa using ha)]
theorem eqB_int (b : Option Nat) (i : Int) : Ev.eqT (eB b) (.int i) = atB i b := by
  cases b with
  | none => rfl
  | some p =>
    show ((p : Int) == i) = decide ((p : Int) = i)
    rw [Bool.eq_iff_iff]
    simp
theorem r_Mf {op : D → List D → M D} {fo : Sg → M D} {fr : Sg → M (List D)} {s : Sg} {h : List O} {v : D} (xs ys : List D) {o : D} (ho : o = .lst xs) (e : fo s h = .ret (o, h)) (e2 : fr s h = .ret (ys, h)) (k : op o ys h = .ret (v, h)) : fM op fo fr s h = .ret (v, h) := by
  subst ho
  unfold fM isL
  rw [M.bind_ap, e, Tr.bind_ret, M.bind_ap]
  show (Tr.ret _).bind _ = _
  rw [Tr.bind_ret]
  dsimp only
  rw [M.bind_ap, e2, Tr.bind_ret]
  exact k
theorem followed_ok (l : Option Look) (rows : List Row) (h : List O) (hl : rows.length ≤ 10) :
    ∃ g, Ffollowed [eL l, .lst (rows.map eRow)] h = .ret (eL (followed l rows), g) := by
  cases l with
  | none =>
    apply F_retN rfl (by simp only [List.map_cons, List.map_nil, List.length_cons, List.length_nil, Nat.reduceAdd, Nat.reduceSub, List.replicate_succ, List.replicate_zero, List.cons_append, List.nil_append, List.set_cons_succ, List.set_cons_zero]; rfl)
    · unfold bfollowed; repeat' (first | (with_reducible exact eqL none _) | (with_reducible apply r_isSet; (first | (simp only [List.map_cons, List.map_nil, List.length_cons, List.length_nil, Nat.reduceAdd, Nat.reduceSub, List.replicate_succ, List.replicate_zero, List.cons_append, List.nil_append, List.set_cons_succ, List.set_cons_zero]; done) | (simp only [List.map_cons, List.map_nil, List.length_cons, List.length_nil, Nat.reduceAdd, Nat.reduceSub, List.replicate_succ, List.replicate_zero, List.cons_append, List.nil_append, List.set_cons_succ, List.set_cons_zero]; rfl))) | (with_reducible rfl) | (with_reducible exact r_nx) | (with_reducible exact r_c) | (with_reducible exact r_nil) | (with_reducible exact r_no) | (with_reducible exact r_pnil) | (with_reducible exact r_gend) | exact Nat.le_of_ble_eq_true rfl | (with_reducible apply r_seqK_nx) | (with_reducible apply r_seqK) | (with_reducible apply r_ifK) | (with_reducible apply r_tandK) | (with_reducible apply r_torK) | (with_reducible apply r_andK) | (with_reducible apply r_orK) | (with_reducible apply r_ifxK) | (with_reducible apply r_ret) | (with_reducible apply r_setN) | (with_reducible apply r_expr) | (with_reducible apply r_asg) | (with_reducible apply r_parN) | (with_reducible apply r_var) | (with_reducible apply r_1) | (with_reducible apply r_tup) | (with_reducible apply r_lst) | (with_reducible apply r_fz) | (with_reducible apply r_2) | (with_reducible apply r_cons) | (with_reducible apply r_N) | (with_reducible apply r_t2) | (with_reducible apply r_tval) | (with_reducible apply r_tnot) | (with_reducible apply r_not) | (with_reducible apply r_cmpV) | (with_reducible apply r_gtup) | (with_reducible apply r_gand) | (with_reducible apply r_gset) | (with_reducible apply r_sl) | (with_reducible apply r_part) | (with_reducible apply r_M) | (with_reducible apply r_aug) | (with_reducible apply r_chainK) | (with_reducible apply r_bind2) | (with_reducible apply r_tchain) | (with_reducible apply r_fld) | (with_reducible apply r_disp) | (with_reducible apply r_pcons) | (with_reducible apply r_itet; focus (first | assumption | with_reducible rfl | (simp_all; done) | (simp_all; omega))) | (with_reducible apply r_itef; focus (first | assumption | with_reducible rfl | (simp_all; done) | (simp_all; omega))) | (simp only [List.map_cons, List.map_nil, List.length_cons, List.length_nil, Nat.reduceAdd, Nat.reduceSub, List.replicate_succ, List.replicate_zero, List.cons_append, List.nil_append, List.set_cons_succ, List.set_cons_zero]; done) | (simp only [List.map_cons, List.map_nil, List.length_cons, List.length_nil, Nat.reduceAdd, Nat.reduceSub, List.replicate_succ, List.replicate_zero, List.cons_append, List.nil_append, List.set_cons_succ, List.set_cons_zero]; rfl) | rfl | exact eqL none _)
    · rfl
    · rfl
  | some l =>
    have lc : fLc [6] (fSrc noF (fVar 1)) (gSet 6) tTrue (f2 oGet (fVar 6) (fC (.int 2))) [some (eL (some l)), some (.lst (rows.map eRow)), some (.int l.age), some (.int l.place), some (.int l.spot), none, none] h = .ret (.lst (rows.map fun w => eB w.before), h) := lcM (e := eRow) (fun w => eB w.before) (sr_lst rows eRow rfl rfl) (by omega) fun r _ => rfl
    have oks : okTs 22 (rows.map fun w => eB w.before) = true := okTs_map (f := fun w : Row => eB w.before) (fun w => okT_eB 22 w.before) rows
    have inn := pInA_fz (h := h) (x := .int l.spot) rfl oks
    have any : ((rows.map fun w => eB w.before).any fun y => Ev.eqT y (.int l.spot)) = rows.any fun w => atB l.spot w.before := by
      rw [List.any_map]
      congr 1
      funext w
      exact eqB_int w.before l.spot
    have fnd : ((rows.map fun w => eB w.before).findIdx fun y => Ev.eqT y (.int l.spot)) = rows.findIdx fun w => atB l.spot w.before := by
      rw [List.findIdx_map]
      congr 1
      funext w
      exact eqB_int w.before l.spot
    cases ha : (rows.any fun w => atB l.spot w.before) with
    | true =>
      have ix := mIndex_T (h := h) (x := .int l.spot) rfl oks (any.trans ha)
      rw [fnd] at ix
      rw [any, ha] at inn
      apply F_retN rfl (by simp only [List.map_cons, List.map_nil, List.length_cons, List.length_nil, Nat.reduceAdd, Nat.reduceSub, List.replicate_succ, List.replicate_zero, List.cons_append, List.nil_append, List.set_cons_succ, List.set_cons_zero]; rfl)
      · unfold bfollowed; repeat' (first | (with_reducible exact eqL (some l) _) | (with_reducible exact lc) | (with_reducible exact inn) | (with_reducible exact r_Mf _ _ rfl (r_var rfl) (r_cons (r_var rfl) r_nil) ix) | (with_reducible exact ix) | (with_reducible apply r_isSet; (first | (simp only [List.map_cons, List.map_nil, List.length_cons, List.length_nil, Nat.reduceAdd, Nat.reduceSub, List.replicate_succ, List.replicate_zero, List.cons_append, List.nil_append, List.set_cons_succ, List.set_cons_zero]; done) | (simp only [List.map_cons, List.map_nil, List.length_cons, List.length_nil, Nat.reduceAdd, Nat.reduceSub, List.replicate_succ, List.replicate_zero, List.cons_append, List.nil_append, List.set_cons_succ, List.set_cons_zero]; rfl))) | (with_reducible rfl) | (with_reducible exact r_nx) | (with_reducible exact r_c) | (with_reducible exact r_nil) | (with_reducible exact r_no) | (with_reducible exact r_pnil) | (with_reducible exact r_gend) | exact Nat.le_of_ble_eq_true rfl | (with_reducible apply r_seqK_nx) | (with_reducible apply r_seqK) | (with_reducible apply r_ifK) | (with_reducible apply r_tandK) | (with_reducible apply r_torK) | (with_reducible apply r_andK) | (with_reducible apply r_orK) | (with_reducible apply r_ifxK) | (with_reducible apply r_ret) | (with_reducible apply r_setN) | (with_reducible apply r_expr) | (with_reducible apply r_asg) | (with_reducible apply r_parN) | (with_reducible apply r_var) | (with_reducible apply r_1) | (with_reducible apply r_tup) | (with_reducible apply r_lst) | (with_reducible apply r_fz) | (with_reducible apply r_2) | (with_reducible apply r_cons) | (with_reducible apply r_N) | (with_reducible apply r_t2) | (with_reducible apply r_tval) | (with_reducible apply r_tnot) | (with_reducible apply r_not) | (with_reducible apply r_cmpV) | (with_reducible apply r_gtup) | (with_reducible apply r_gand) | (with_reducible apply r_gset) | (with_reducible apply r_sl) | (with_reducible apply r_part) | (with_reducible apply r_M) | (with_reducible apply r_aug) | (with_reducible apply r_chainK) | (with_reducible apply r_bind2) | (with_reducible apply r_tchain) | (with_reducible apply r_fld) | (with_reducible apply r_disp) | (with_reducible apply r_pcons) | (with_reducible apply r_itet; focus (first | assumption | with_reducible rfl | (simp_all; done) | (simp_all; omega))) | (with_reducible apply r_itef; focus (first | assumption | with_reducible rfl | (simp_all; done) | (simp_all; omega))) | (simp only [List.map_cons, List.map_nil, List.length_cons, List.length_nil, Nat.reduceAdd, Nat.reduceSub, List.replicate_succ, List.replicate_zero, List.cons_append, List.nil_append, List.set_cons_succ, List.set_cons_zero]; done) | (simp only [List.map_cons, List.map_nil, List.length_cons, List.length_nil, Nat.reduceAdd, Nat.reduceSub, List.replicate_succ, List.replicate_zero, List.cons_append, List.nil_append, List.set_cons_succ, List.set_cons_zero]; rfl) | rfl | exact eqL (some l) _ | exact lc | exact inn | exact r_Mf _ _ rfl (r_var rfl) (r_cons (r_var rfl) r_nil) ix | exact ix)
      · rfl
      · have : spotOf rows l.spot = ((rows.findIdx fun w => atB l.spot w.before : Nat) : Int) := by unfold spotOf; rw [if_pos ha]
        simp only [followed, eL, this]
    | false =>
      rw [any, ha] at inn
      apply F_retN rfl (by simp only [List.map_cons, List.map_nil, List.length_cons, List.length_nil, Nat.reduceAdd, Nat.reduceSub, List.replicate_succ, List.replicate_zero, List.cons_append, List.nil_append, List.set_cons_succ, List.set_cons_zero]; rfl)
      · unfold bfollowed; repeat' (first | (with_reducible exact eqL (some l) _) | (with_reducible exact lc) | (with_reducible exact inn) | (with_reducible apply r_isSet; (first | (simp only [List.map_cons, List.map_nil, List.length_cons, List.length_nil, Nat.reduceAdd, Nat.reduceSub, List.replicate_succ, List.replicate_zero, List.cons_append, List.nil_append, List.set_cons_succ, List.set_cons_zero]; done) | (simp only [List.map_cons, List.map_nil, List.length_cons, List.length_nil, Nat.reduceAdd, Nat.reduceSub, List.replicate_succ, List.replicate_zero, List.cons_append, List.nil_append, List.set_cons_succ, List.set_cons_zero]; rfl))) | (with_reducible rfl) | (with_reducible exact r_nx) | (with_reducible exact r_c) | (with_reducible exact r_nil) | (with_reducible exact r_no) | (with_reducible exact r_pnil) | (with_reducible exact r_gend) | exact Nat.le_of_ble_eq_true rfl | (with_reducible apply r_seqK_nx) | (with_reducible apply r_seqK) | (with_reducible apply r_ifK) | (with_reducible apply r_tandK) | (with_reducible apply r_torK) | (with_reducible apply r_andK) | (with_reducible apply r_orK) | (with_reducible apply r_ifxK) | (with_reducible apply r_ret) | (with_reducible apply r_setN) | (with_reducible apply r_expr) | (with_reducible apply r_asg) | (with_reducible apply r_parN) | (with_reducible apply r_var) | (with_reducible apply r_1) | (with_reducible apply r_tup) | (with_reducible apply r_lst) | (with_reducible apply r_fz) | (with_reducible apply r_2) | (with_reducible apply r_cons) | (with_reducible apply r_N) | (with_reducible apply r_t2) | (with_reducible apply r_tval) | (with_reducible apply r_tnot) | (with_reducible apply r_not) | (with_reducible apply r_cmpV) | (with_reducible apply r_gtup) | (with_reducible apply r_gand) | (with_reducible apply r_gset) | (with_reducible apply r_sl) | (with_reducible apply r_part) | (with_reducible apply r_M) | (with_reducible apply r_aug) | (with_reducible apply r_chainK) | (with_reducible apply r_bind2) | (with_reducible apply r_tchain) | (with_reducible apply r_fld) | (with_reducible apply r_disp) | (with_reducible apply r_pcons) | (with_reducible apply r_itet; focus (first | assumption | with_reducible rfl | (simp_all; done) | (simp_all; omega))) | (with_reducible apply r_itef; focus (first | assumption | with_reducible rfl | (simp_all; done) | (simp_all; omega))) | (simp only [List.map_cons, List.map_nil, List.length_cons, List.length_nil, Nat.reduceAdd, Nat.reduceSub, List.replicate_succ, List.replicate_zero, List.cons_append, List.nil_append, List.set_cons_succ, List.set_cons_zero]; done) | (simp only [List.map_cons, List.map_nil, List.length_cons, List.length_nil, Nat.reduceAdd, Nat.reduceSub, List.replicate_succ, List.replicate_zero, List.cons_append, List.nil_append, List.set_cons_succ, List.set_cons_zero]; rfl) | rfl | exact eqL (some l) _ | exact lc | exact inn)
      · rfl
      · have : spotOf rows l.spot = -1 := by unfold spotOf; rw [if_neg (by rw [ha]; decide)]
        simp only [followed, eL, this]
theorem p_followed (l : Option Look) (rows : List Row) (hl : rows.length ≤ 10) (h : List O) : oPure Ffollowed [eL l, .lst (rows.map eRow)] h = .ret (eL (followed l rows), h) :=
  pure_ret h (followed_ok l rows [] hl) (by simp [noLs, nl_L, nl_rows]) (nl_L _)
end Md

namespace Md
open PySem PySem.Spec PyProof.Rows L2 Dr Ev Und
/-- a change that can come -/
def okC (s : Stand) : Change → Prop
  | .go p => 0 ≤ p ∧ p < s.shown.length
  | _ => True
theorem eS_items (s : Stand) : eS s = .tup [eSh s.shown, eW s.waiting, .int s.quiet, eL s.look] := rfl
theorem getI {sh : List Item} {p : Nat} (hp : p < sh.length) (h : List O) : oGet (eSh sh) (.int (p : Nat)) h = .ret (eI (sh.getD p ⟨0, false, 0⟩), h) := by
  unfold eSh oGet dctD oIx seqD
  dsimp only
  rw [atI_at, List.getElem?_map, List.getElem?_eq_getElem hp]
  simp [hp]
theorem sl_to {xs : List D} {h : List O} (k : Int) (hk : 0 ≤ k) (hl : xs.length ≤ 1000) : oSl mkFz (.tup xs) none (some k) h = .ret (.tup (xs.take k.toNat), h) := by
  unfold oSl
  dsimp only
  rw [cut_to _ _ hk]
  exact if_pos (by rw [List.length_take]; unfold lim; omega)
theorem cut_from {α : Type} (xs : List α) (k : Int) (hk : 0 ≤ k) : Ev.cutD xs (some k) none = xs.drop k.toNat := by
  unfold Ev.cutD HT.sIx
  dsimp only
  rw [if_neg (by omega)]
  by_cases h : k.toNat ≤ xs.length
  · rw [Nat.min_eq_left h, List.take_of_length_le (by simp)]
  · rw [Nat.min_eq_right (by omega), Nat.sub_self, List.take_zero, List.drop_of_length_le (by omega)]
theorem sl_from {xs : List D} {h : List O} (k : Int) (hk : 0 ≤ k) (hl : xs.length ≤ 1000) : oSl mkFz (.tup xs) (some k) none h = .ret (.tup (xs.drop k.toNat), h) := by
  unfold oSl
  dsimp only
  rw [cut_from _ _ hk]
  exact if_pos (by rw [List.length_drop]; unfold lim; omega)
theorem cat_tup {xs ys : List D} {h : List O} (hl : xs.length + ys.length ≤ 1000) : oAdd mkFz (.tup xs) (.tup ys) h = .ret (.tup (xs ++ ys), h) := by
  show mkTup (xs ++ ys) h = _
  exact if_pos (by rw [List.length_append]; unfold lim; omega)
theorem changed_ok (s : Stand) (c : Change) (hc : okC s c) (hl : s.shown.length ≤ 10) (hw : s.waiting.length ≤ 10) : ∃ g, Fchanged [eS s, eC c] [] = .ret (.tup [eSh (changed s c).1, eW (changed s c).2], g) := by
  have sl : ∀ h, oSl mkFz (eS s) none (some 2) h = .ret (.tup [eSh s.shown, eW s.waiting], h) := fun h => sl_to 2 (by decide) (by simp)
  cases c with
  | none =>
    apply F_retN rfl (by simp only [List.map_cons, List.map_nil, List.length_cons, List.length_nil, Nat.reduceAdd, Nat.reduceSub, List.replicate_succ, List.replicate_zero, List.cons_append, List.nil_append, List.set_cons_succ, List.set_cons_zero]; rfl)
    · unfold bchanged; repeat' (first | (with_reducible exact sl _) | (with_reducible exact eqC (b := false) _ (by decide +kernel)) | (with_reducible apply r_isSet; (first | (simp only [List.map_cons, List.map_nil, List.length_cons, List.length_nil, Nat.reduceAdd, Nat.reduceSub, List.replicate_succ, List.replicate_zero, List.cons_append, List.nil_append, List.set_cons_succ, List.set_cons_zero]; done) | (simp only [List.map_cons, List.map_nil, List.length_cons, List.length_nil, Nat.reduceAdd, Nat.reduceSub, List.replicate_succ, List.replicate_zero, List.cons_append, List.nil_append, List.set_cons_succ, List.set_cons_zero]; rfl))) | (with_reducible rfl) | (with_reducible exact r_nx) | (with_reducible exact r_c) | (with_reducible exact r_nil) | (with_reducible exact r_no) | (with_reducible exact r_pnil) | (with_reducible exact r_gend) | exact Nat.le_of_ble_eq_true rfl | (with_reducible apply r_seqK_nx) | (with_reducible apply r_seqK) | (with_reducible apply r_ifK) | (with_reducible apply r_tandK) | (with_reducible apply r_torK) | (with_reducible apply r_andK) | (with_reducible apply r_orK) | (with_reducible apply r_ifxK) | (with_reducible apply r_ret) | (with_reducible apply r_setN) | (with_reducible apply r_expr) | (with_reducible apply r_asg) | (with_reducible apply r_parN) | (with_reducible apply r_var) | (with_reducible apply r_1) | (with_reducible apply r_tup) | (with_reducible apply r_lst) | (with_reducible apply r_fz) | (with_reducible apply r_2) | (with_reducible apply r_cons) | (with_reducible apply r_N) | (with_reducible apply r_t2) | (with_reducible apply r_tval) | (with_reducible apply r_tnot) | (with_reducible apply r_not) | (with_reducible apply r_cmpV) | (with_reducible apply r_gtup) | (with_reducible apply r_gand) | (with_reducible apply r_gset) | (with_reducible apply r_sl) | (with_reducible apply r_part) | (with_reducible apply r_M) | (with_reducible apply r_aug) | (with_reducible apply r_chainK) | (with_reducible apply r_bind2) | (with_reducible apply r_tchain) | (with_reducible apply r_fld) | (with_reducible apply r_disp) | (with_reducible apply r_pcons) | (with_reducible apply r_itet; focus (first | assumption | with_reducible rfl | (simp_all; done) | (simp_all; omega))) | (with_reducible apply r_itef; focus (first | assumption | with_reducible rfl | (simp_all; done) | (simp_all; omega))) | (simp only [List.map_cons, List.map_nil, List.length_cons, List.length_nil, Nat.reduceAdd, Nat.reduceSub, List.replicate_succ, List.replicate_zero, List.cons_append, List.nil_append, List.set_cons_succ, List.set_cons_zero]; done) | (simp only [List.map_cons, List.map_nil, List.length_cons, List.length_nil, Nat.reduceAdd, Nat.reduceSub, List.replicate_succ, List.replicate_zero, List.cons_append, List.nil_append, List.set_cons_succ, List.set_cons_zero]; rfl) | rfl | exact sl _ | exact eqC (b := false) _ (by decide +kernel))
    · rfl
    · rfl
  | come r =>
    have ct := cat_tup (xs := s.waiting.map D.int) (ys := [.int r]) (h := []) (by simp; omega)
    apply F_retN rfl (by simp only [List.map_cons, List.map_nil, List.length_cons, List.length_nil, Nat.reduceAdd, Nat.reduceSub, List.replicate_succ, List.replicate_zero, List.cons_append, List.nil_append, List.set_cons_succ, List.set_cons_zero]; rfl)
    · unfold bchanged; repeat' (first | (with_reducible exact sl _) | (with_reducible exact eqC (b := true) _ (by decide +kernel)) | (with_reducible exact ct) | (with_reducible apply r_isSet; (first | (simp only [List.map_cons, List.map_nil, List.length_cons, List.length_nil, Nat.reduceAdd, Nat.reduceSub, List.replicate_succ, List.replicate_zero, List.cons_append, List.nil_append, List.set_cons_succ, List.set_cons_zero]; done) | (simp only [List.map_cons, List.map_nil, List.length_cons, List.length_nil, Nat.reduceAdd, Nat.reduceSub, List.replicate_succ, List.replicate_zero, List.cons_append, List.nil_append, List.set_cons_succ, List.set_cons_zero]; rfl))) | (with_reducible rfl) | (with_reducible exact r_nx) | (with_reducible exact r_c) | (with_reducible exact r_nil) | (with_reducible exact r_no) | (with_reducible exact r_pnil) | (with_reducible exact r_gend) | exact Nat.le_of_ble_eq_true rfl | (with_reducible apply r_seqK_nx) | (with_reducible apply r_seqK) | (with_reducible apply r_ifK) | (with_reducible apply r_tandK) | (with_reducible apply r_torK) | (with_reducible apply r_andK) | (with_reducible apply r_orK) | (with_reducible apply r_ifxK) | (with_reducible apply r_ret) | (with_reducible apply r_setN) | (with_reducible apply r_expr) | (with_reducible apply r_asg) | (with_reducible apply r_parN) | (with_reducible apply r_var) | (with_reducible apply r_1) | (with_reducible apply r_tup) | (with_reducible apply r_lst) | (with_reducible apply r_fz) | (with_reducible apply r_2) | (with_reducible apply r_cons) | (with_reducible apply r_N) | (with_reducible apply r_t2) | (with_reducible apply r_tval) | (with_reducible apply r_tnot) | (with_reducible apply r_not) | (with_reducible apply r_cmpV) | (with_reducible apply r_gtup) | (with_reducible apply r_gand) | (with_reducible apply r_gset) | (with_reducible apply r_sl) | (with_reducible apply r_part) | (with_reducible apply r_M) | (with_reducible apply r_aug) | (with_reducible apply r_chainK) | (with_reducible apply r_bind2) | (with_reducible apply r_tchain) | (with_reducible apply r_fld) | (with_reducible apply r_disp) | (with_reducible apply r_pcons) | (with_reducible apply r_itet; focus (first | assumption | with_reducible rfl | (simp_all; done) | (simp_all; omega))) | (with_reducible apply r_itef; focus (first | assumption | with_reducible rfl | (simp_all; done) | (simp_all; omega))) | (simp only [List.map_cons, List.map_nil, List.length_cons, List.length_nil, Nat.reduceAdd, Nat.reduceSub, List.replicate_succ, List.replicate_zero, List.cons_append, List.nil_append, List.set_cons_succ, List.set_cons_zero]; done) | (simp only [List.map_cons, List.map_nil, List.length_cons, List.length_nil, Nat.reduceAdd, Nat.reduceSub, List.replicate_succ, List.replicate_zero, List.cons_append, List.nil_append, List.set_cons_succ, List.set_cons_zero]; rfl) | rfl | exact sl _ | exact eqC (b := true) _ (by decide +kernel) | exact ct)
    · rfl
    · simp [Md.changed, eW]
  | go p =>
    obtain ⟨h0, h1⟩ := hc
    obtain ⟨q, rfl⟩ := Int.eq_ofNat_of_zero_le h0
    have hq : q < s.shown.length := by omega
    have g0 := getI hq []
    have s1 := sl_to (xs := s.shown.map eI) (h := []) (q : Nat) h0 (by simp; omega)
    have s2 := sl_from (xs := s.shown.map eI) (h := []) ((q : Nat) + 1) (by omega) (by simp; omega)
    have c1 := cat_tup (xs := (s.shown.map eI).take (q : Int).toNat) (ys := [.tup [.int (s.shown.getD q ⟨0, false, 0⟩).rank, .bl true, .int (s.shown.getD q ⟨0, false, 0⟩).stood]]) (h := []) (by simp; omega)
    have c2 := cat_tup (xs := (s.shown.map eI).take (q : Int).toNat ++ [.tup [.int (s.shown.getD q ⟨0, false, 0⟩).rank, .bl true, .int (s.shown.getD q ⟨0, false, 0⟩).stood]]) (ys := (s.shown.map eI).drop ((q : Int) + 1).toNat) (h := []) (by simp; omega)
    apply F_retN rfl (by simp only [List.map_cons, List.map_nil, List.length_cons, List.length_nil, Nat.reduceAdd, Nat.reduceSub, List.replicate_succ, List.replicate_zero, List.cons_append, List.nil_append, List.set_cons_succ, List.set_cons_zero]; rfl)
    · unfold bchanged; repeat' (first | (with_reducible exact sl _) | (with_reducible exact eqC (b := false) _ (by decide +kernel)) | (with_reducible exact eqC (b := true) _ (by decide +kernel)) | (with_reducible exact g0) | (with_reducible exact s1) | (with_reducible exact s2) | (with_reducible exact c1) | (with_reducible exact c2) | (with_reducible apply r_isSet; (first | (simp only [List.map_cons, List.map_nil, List.length_cons, List.length_nil, Nat.reduceAdd, Nat.reduceSub, List.replicate_succ, List.replicate_zero, List.cons_append, List.nil_append, List.set_cons_succ, List.set_cons_zero]; done) | (simp only [List.map_cons, List.map_nil, List.length_cons, List.length_nil, Nat.reduceAdd, Nat.reduceSub, List.replicate_succ, List.replicate_zero, List.cons_append, List.nil_append, List.set_cons_succ, List.set_cons_zero]; rfl))) | (with_reducible rfl) | (with_reducible exact r_nx) | (with_reducible exact r_c) | (with_reducible exact r_nil) | (with_reducible exact r_no) | (with_reducible exact r_pnil) | (with_reducible exact r_gend) | exact Nat.le_of_ble_eq_true rfl | (with_reducible apply r_seqK_nx) | (with_reducible apply r_seqK) | (with_reducible apply r_ifK) | (with_reducible apply r_tandK) | (with_reducible apply r_torK) | (with_reducible apply r_andK) | (with_reducible apply r_orK) | (with_reducible apply r_ifxK) | (with_reducible apply r_ret) | (with_reducible apply r_setN) | (with_reducible apply r_expr) | (with_reducible apply r_asg) | (with_reducible apply r_parN) | (with_reducible apply r_var) | (with_reducible apply r_1) | (with_reducible apply r_tup) | (with_reducible apply r_lst) | (with_reducible apply r_fz) | (with_reducible apply r_2) | (with_reducible apply r_cons) | (with_reducible apply r_N) | (with_reducible apply r_t2) | (with_reducible apply r_tval) | (with_reducible apply r_tnot) | (with_reducible apply r_not) | (with_reducible apply r_cmpV) | (with_reducible apply r_gtup) | (with_reducible apply r_gand) | (with_reducible apply r_gset) | (with_reducible apply r_sl) | (with_reducible apply r_part) | (with_reducible apply r_M) | (with_reducible apply r_aug) | (with_reducible apply r_chainK) | (with_reducible apply r_bind2) | (with_reducible apply r_tchain) | (with_reducible apply r_fld) | (with_reducible apply r_disp) | (with_reducible apply r_pcons) | (with_reducible apply r_itet; focus (first | assumption | with_reducible rfl | (simp_all; done) | (simp_all; omega))) | (with_reducible apply r_itef; focus (first | assumption | with_reducible rfl | (simp_all; done) | (simp_all; omega))) | (simp only [List.map_cons, List.map_nil, List.length_cons, List.length_nil, Nat.reduceAdd, Nat.reduceSub, List.replicate_succ, List.replicate_zero, List.cons_append, List.nil_append, List.set_cons_succ, List.set_cons_zero]; done) | (simp only [List.map_cons, List.map_nil, List.length_cons, List.length_nil, Nat.reduceAdd, Nat.reduceSub, List.replicate_succ, List.replicate_zero, List.cons_append, List.nil_append, List.set_cons_succ, List.set_cons_zero]; rfl) | rfl | exact sl _ | exact eqC (b := false) _ (by decide +kernel) | exact eqC (b := true) _ (by decide +kernel) | exact g0 | exact s1 | exact s2 | exact c1 | exact c2)
    · rfl
    · simp only [Md.changed, eSh, eW, List.map_set, Int.toNat_natCast]
      rw [List.set_eq_take_append_cons_drop, if_pos (by simpa using hq)]
      simp [eI]
theorem changed_len (s : Stand) (c : Change) : (changed s c).1.length = s.shown.length := by cases c <;> simp [Md.changed]
theorem undrawn_before {sh : List Item} {w : Row} (h : w ∈ undrawnRows sh) {p : Nat} (e : w.before = some p) : p < sh.length := by
  obtain ⟨⟨i, q⟩, h1, rfl⟩ := List.mem_map.mp h
  have := List.mem_zipIdx h1
  simp [undrawnRow] at e
  omega
theorem putIn_mem {hs : Hs} {rows : List Row} {rank : Int} {w : Row} (h : w ∈ putIn hs rows rank) : w ∈ rows ∨ w.before = none := by
  have h := List.mem_of_mem_take h
  rcases List.mem_append.mp h with h | h
  · rcases List.mem_append.mp h with h | h
    · exact .inl (List.mem_of_mem_take h)
    · rw [List.mem_singleton.mp h]; exact .inr rfl
  · exact .inl (List.mem_of_mem_drop h)
theorem fold_mem {hs : Hs} {w : Row} : ∀ {ws : List Int} {rows : List Row}, w ∈ ws.foldl (putIn hs) rows → w ∈ rows ∨ w.before = none
  | [], _, h => .inl h
  | u :: us, rows, h => by
    rcases fold_mem (ws := us) h with h | h
    · exact putIn_mem h
    · exact .inr h
theorem drawn_before {hs : Hs} {sh : List Item} {ws : List Int} {w : Row} (h : w ∈ drawnRows hs sh ws) {p : Nat} (e : w.before = some p) : p < sh.length := by
  rcases fold_mem h with h | h
  · exact undrawn_before (List.mem_filter.mp h).1 e
  · rw [h] at e; cases e
theorem drawn_len (hs : Hs) (ok : OkH hs) (sh : List Item) (ws : List Int) (hl : sh.length ≤ 10) : (drawnRows hs sh ws).length ≤ 10 := by
  have := begun_len hs ok sh ws hl ws.length
  simpa [begun, drawnRows] using this
theorem settled_ok (hs : Hs) (ok : OkH hs) (s : Stand) (c : Change) (hc : okC s c) (hl : s.shown.length ≤ 9) (hw : s.waiting.length ≤ 9) : ∃ g, Fsettled_at [eH hs, eS s, eC c] [] = .ret (eS (settled hs s c), g) := by
  have sl : oSl mkFz (eS s) (some 2) none [] = .ret (.tup [.int s.quiet, eL s.look], []) := sl_from 2 (by decide) (by simp)
  have p1 := pure_ret [] (changed_ok s c hc (by omega) (by omega)) (by simp [noLs, nl_S, nl_C]) (by simp [noL, noLs, nl_Sh, nl_W])
  have hl' : (changed s c).1.length ≤ 9 := by rw [changed_len]; exact hl
  have p2 := p_must hs.rule (changed s c).1 (changed s c).2 s.quiet s.look (by omega) []
  cases hm : mustDraw hs.rule (changed s c).1 (changed s c).2 s.quiet s.look with
  | true =>
    rw [hm] at p2
    have e1 := p_drawn hs ok (changed s c).1 (changed s c).2 (by omega) []
    have e2 := p_stood hs.rule (changed s c).1 (drawnRows hs (changed s c).1 (changed s c).2) (fun w hw p hp => drawn_before hw hp) (drawn_len hs ok _ _ (by omega)) []
    have e3 := p_followed s.look _ (drawn_len hs ok (changed s c).1 (changed s c).2 (by omega)) []
    apply F_retN rfl (by simp only [List.map_cons, List.map_nil, List.length_cons, List.length_nil, Nat.reduceAdd, Nat.reduceSub, List.replicate_succ, List.replicate_zero, List.cons_append, List.nil_append, List.set_cons_succ, List.set_cons_zero]; rfl)
    · unfold bsettled_at; repeat' (first | (with_reducible exact sl) | (with_reducible exact p1) | (with_reducible exact p2) | (with_reducible exact e1) | (with_reducible exact e2) | (with_reducible exact e3) | (with_reducible apply r_isSet; (first | (simp only [List.map_cons, List.map_nil, List.length_cons, List.length_nil, Nat.reduceAdd, Nat.reduceSub, List.replicate_succ, List.replicate_zero, List.cons_append, List.nil_append, List.set_cons_succ, List.set_cons_zero]; done) | (simp only [List.map_cons, List.map_nil, List.length_cons, List.length_nil, Nat.reduceAdd, Nat.reduceSub, List.replicate_succ, List.replicate_zero, List.cons_append, List.nil_append, List.set_cons_succ, List.set_cons_zero]; rfl))) | (with_reducible rfl) | (with_reducible exact r_nx) | (with_reducible exact r_c) | (with_reducible exact r_nil) | (with_reducible exact r_no) | (with_reducible exact r_pnil) | (with_reducible exact r_gend) | exact Nat.le_of_ble_eq_true rfl | (with_reducible apply r_seqK_nx) | (with_reducible apply r_seqK) | (with_reducible apply r_ifK) | (with_reducible apply r_tandK) | (with_reducible apply r_torK) | (with_reducible apply r_andK) | (with_reducible apply r_orK) | (with_reducible apply r_ifxK) | (with_reducible apply r_ret) | (with_reducible apply r_setN) | (with_reducible apply r_expr) | (with_reducible apply r_asg) | (with_reducible apply r_parN) | (with_reducible apply r_var) | (with_reducible apply r_1) | (with_reducible apply r_tup) | (with_reducible apply r_lst) | (with_reducible apply r_fz) | (with_reducible apply r_2) | (with_reducible apply r_cons) | (with_reducible apply r_N) | (with_reducible apply r_t2) | (with_reducible apply r_tval) | (with_reducible apply r_tnot) | (with_reducible apply r_not) | (with_reducible apply r_cmpV) | (with_reducible apply r_gtup) | (with_reducible apply r_gand) | (with_reducible apply r_gset) | (with_reducible apply r_sl) | (with_reducible apply r_part) | (with_reducible apply r_M) | (with_reducible apply r_aug) | (with_reducible apply r_chainK) | (with_reducible apply r_bind2) | (with_reducible apply r_tchain) | (with_reducible apply r_fld) | (with_reducible apply r_disp) | (with_reducible apply r_pcons) | (with_reducible apply r_itet; focus (first | assumption | with_reducible rfl | (simp_all; done) | (simp_all; omega))) | (with_reducible apply r_itef; focus (first | assumption | with_reducible rfl | (simp_all; done) | (simp_all; omega))) | (simp only [List.map_cons, List.map_nil, List.length_cons, List.length_nil, Nat.reduceAdd, Nat.reduceSub, List.replicate_succ, List.replicate_zero, List.cons_append, List.nil_append, List.set_cons_succ, List.set_cons_zero]; done) | (simp only [List.map_cons, List.map_nil, List.length_cons, List.length_nil, Nat.reduceAdd, Nat.reduceSub, List.replicate_succ, List.replicate_zero, List.cons_append, List.nil_append, List.set_cons_succ, List.set_cons_zero]; rfl) | rfl | exact sl | exact p1 | exact p2 | exact e1 | exact e2 | exact e3)
    · rfl
    · simp [settled, hm, eS, eW]
  | false =>
    rw [hm] at p2
    have e1 := p_undrawn (changed s c).1 [] (by omega)
    have e2 := p_stood hs.rule (changed s c).1 (undrawnRows (changed s c).1) (fun w hw p hp => undrawn_before hw hp) (by rw [undrawn_len]; omega) []
    have e3 := p_followed s.look (undrawnRows (changed s c).1) (by rw [undrawn_len]; omega) []
    apply F_retN rfl (by simp only [List.map_cons, List.map_nil, List.length_cons, List.length_nil, Nat.reduceAdd, Nat.reduceSub, List.replicate_succ, List.replicate_zero, List.cons_append, List.nil_append, List.set_cons_succ, List.set_cons_zero]; rfl)
    · unfold bsettled_at; repeat' (first | (with_reducible exact sl) | (with_reducible exact p1) | (with_reducible exact p2) | (with_reducible exact e1) | (with_reducible exact e2) | (with_reducible exact e3) | (with_reducible apply r_isSet; (first | (simp only [List.map_cons, List.map_nil, List.length_cons, List.length_nil, Nat.reduceAdd, Nat.reduceSub, List.replicate_succ, List.replicate_zero, List.cons_append, List.nil_append, List.set_cons_succ, List.set_cons_zero]; done) | (simp only [List.map_cons, List.map_nil, List.length_cons, List.length_nil, Nat.reduceAdd, Nat.reduceSub, List.replicate_succ, List.replicate_zero, List.cons_append, List.nil_append, List.set_cons_succ, List.set_cons_zero]; rfl))) | (with_reducible rfl) | (with_reducible exact r_nx) | (with_reducible exact r_c) | (with_reducible exact r_nil) | (with_reducible exact r_no) | (with_reducible exact r_pnil) | (with_reducible exact r_gend) | exact Nat.le_of_ble_eq_true rfl | (with_reducible apply r_seqK_nx) | (with_reducible apply r_seqK) | (with_reducible apply r_ifK) | (with_reducible apply r_tandK) | (with_reducible apply r_torK) | (with_reducible apply r_andK) | (with_reducible apply r_orK) | (with_reducible apply r_ifxK) | (with_reducible apply r_ret) | (with_reducible apply r_setN) | (with_reducible apply r_expr) | (with_reducible apply r_asg) | (with_reducible apply r_parN) | (with_reducible apply r_var) | (with_reducible apply r_1) | (with_reducible apply r_tup) | (with_reducible apply r_lst) | (with_reducible apply r_fz) | (with_reducible apply r_2) | (with_reducible apply r_cons) | (with_reducible apply r_N) | (with_reducible apply r_t2) | (with_reducible apply r_tval) | (with_reducible apply r_tnot) | (with_reducible apply r_not) | (with_reducible apply r_cmpV) | (with_reducible apply r_gtup) | (with_reducible apply r_gand) | (with_reducible apply r_gset) | (with_reducible apply r_sl) | (with_reducible apply r_part) | (with_reducible apply r_M) | (with_reducible apply r_aug) | (with_reducible apply r_chainK) | (with_reducible apply r_bind2) | (with_reducible apply r_tchain) | (with_reducible apply r_fld) | (with_reducible apply r_disp) | (with_reducible apply r_pcons) | (with_reducible apply r_itet; focus (first | assumption | with_reducible rfl | (simp_all; done) | (simp_all; omega))) | (with_reducible apply r_itef; focus (first | assumption | with_reducible rfl | (simp_all; done) | (simp_all; omega))) | (simp only [List.map_cons, List.map_nil, List.length_cons, List.length_nil, Nat.reduceAdd, Nat.reduceSub, List.replicate_succ, List.replicate_zero, List.cons_append, List.nil_append, List.set_cons_succ, List.set_cons_zero]; done) | (simp only [List.map_cons, List.map_nil, List.length_cons, List.length_nil, Nat.reduceAdd, Nat.reduceSub, List.replicate_succ, List.replicate_zero, List.cons_append, List.nil_append, List.set_cons_succ, List.set_cons_zero]; rfl) | rfl | exact sl | exact p1 | exact p2 | exact e1 | exact e2 | exact e3)
    · rfl
    · simp [settled, hm, eS, eW, minI]
theorem p_settled (hs : Hs) (ok : OkH hs) (s : Stand) (c : Change) (hc : okC s c) (hl : s.shown.length ≤ 9) (hw : s.waiting.length ≤ 9) (h : List O) : oPure Fsettled_at [eH hs, eS s, eC c] h = .ret (eS (settled hs s c), h) :=
  pure_ret h (settled_ok hs ok s c hc hl hw) (by simp [noLs, nl_H, nl_S, nl_C]) (nl_S _)
end Md

namespace Md
open PySem PySem.Spec PyProof.Rows L2 Dr Ev Und
theorem ext_fz {a : Nat} {h : List O} {xs ys : List D} (ha : h[a]? = some (.lst xs)) (hl : xs.length + ys.length ≤ 1000) : oExt (.loc a) (.lst ys) h = .ret (.loc a, h.set a (.lst (xs ++ ys))) := by
  unfold oExt lstD
  dsimp only
  rw [ha]
  exact if_pos (by rw [List.length_append]; unfold lim; omega)
theorem cat_lf {a : Nat} {h : List O} {xs ys : List D} (ha : h[a]? = some (.lst xs)) (hl : xs.length + ys.length ≤ 1000) : oAdd mkFz (.loc a) (.lst ys) h = .ret (.lst (xs ++ ys), h) := by
  show oCatL mkFz (.loc a) (.lst ys) h = _
  unfold oCatL lstD
  dsimp only
  rw [ha]
  exact if_pos (by rw [List.length_append]; unfold lim; omega)
theorem cat_ff {h : List O} {xs ys : List D} (hl : xs.length + ys.length ≤ 1000) : oAdd mkFz (.lst xs) (.lst ys) h = .ret (.lst (xs ++ ys), h) := by
  show oCatL mkFz (.lst xs) (.lst ys) h = _
  unfold oCatL lstD
  exact if_pos (by rw [List.length_append]; unfold lim; omega)
theorem len_tup {xs : List D} {k : Nat} (hk : xs.length = k) (h : List O) : oLenA [.tup xs] h = .ret (.int (k : Nat), h) := by
  subst hk; rfl
def comes (hs : Hs) : List Change := (List.range (hs.top + 1).toNat).map fun r : Nat => Change.come r
def goesOf (s : Stand) : List Change := (s.shown.zipIdx.filter fun p => !p.1.gone).map fun p => Change.go p.2
theorem changes_ok (hs : Hs) (ok : OkH hs) (s : Stand) (hl : s.shown.length ≤ 9) (hw : s.waiting.length ≤ 9) : ∃ g, Fchanges_at [eH hs, eS s] [] = .ret (.lst ((changesAt hs s).map eC), g) := by
  have sl : ∀ h, oSl mkFz (eS s) none (some 2) h = .ret (.tup [eSh s.shown, eW s.waiting], h) := fun h => sl_to 2 (by decide) (by simp)
  have ln : ∀ h, oLenA [eW s.waiting] h = .ret (.int (s.waiting.length : Nat), h) := fun h => len_tup (by simp) h
  have ht := ok.top
  have cl : ((comes hs).map eC).length ≤ 3 := by simp [comes]; omega
  have gl : ((goesOf s).map eC).length ≤ 9 := by
    have := List.length_filter_le (fun p : Item × Nat => !p.1.gone) s.shown.zipIdx
    simp [goesOf] at *
    omega
  have lc1 : ∀ g, fLc [5] (fun s => M.bind ((f2 (oAdd mkFz) (f1 (oFld 1 2) (fVar 0)) (fC (.int 1))) s) srcR1) (gSet 5) tTrue (fN mkTup (fCons (fC (.str "come")) (fCons (fVar 5) fNil)))
      [some (eH hs), some (eS s), some (eSh s.shown), some (eW s.waiting), some (.loc 0), none, none, none, none] g = .ret (.lst ((comes hs).map eC), g) := by
    intro g
    rw [lcM (fun r => eC (.come (r : Nat))) (sr_rng (fa := f2 (oAdd mkFz) (f1 (oFld 1 2) (fVar 0)) (fC (.int 1))) (j := (hs.top + 1).toNat) (r_2 (r_1 rfl rfl) r_c (by rfl : oAdd mkFz (.int hs.top) (.int 1) g = .ret (.int (hs.top + 1), g))) (by omega) (by omega)) (by simp; omega) (fun i _ => rfl)]
    simp [comes]
  have lc2 : ∀ g, fLc [6, 5, 7, 8] (fSrc enF (fVar 2)) (gTupF 2 (gAnd (gSet 6) (gAnd (gTupF 3 (gAnd (gSet 5) (gAnd (gSet 7) (gAnd (gSet 8) gEnd)))) gEnd))) (tNotF (tVal (fVar 7))) (fN mkTup (fCons (fC (.str "go")) (fCons (fVar 6) fNil)))
      [some (eH hs), some (eS s), some (eSh s.shown), some (eW s.waiting), some (.loc 0), none, none, none, none] g = .ret (.lst ((goesOf s).map eC), g) := by
    intro g
    rw [lcI (fun i y => if y.gone then none else some (eC (.go (i : Nat)))) (sr_tupE s.shown eI rfl rfl) (by omega) (fun i y _ => by
      obtain ⟨a, b, c⟩ := y
      cases b <;> rfl)]
    congr 3
    unfold goesOf
    generalize s.shown.zipIdx = zs
    induction zs with
    | nil => rfl
    | cons r rs ih =>
      simp only [List.map_map] at ih ⊢
      cases hg : r.1.gone <;> simp [hg, ih]
  by_cases hm : (s.waiting.length : Int) < hs.many
  · have x1 := ext_fz (a := 0) (h := [O.lst []]) (xs := []) (ys := (comes hs).map eC) rfl (by simp at *; omega)
    by_cases hg : hs.goes = true
    · have x2 := ext_fz (a := 0) (h := [O.lst ([] ++ (comes hs).map eC)]) (xs := [] ++ (comes hs).map eC) (ys := (goesOf s).map eC) rfl (by simp at *; omega)
      have x3 := cat_lf (a := 0) (h := [O.lst ([] ++ (comes hs).map eC ++ (goesOf s).map eC)]) (xs := [] ++ (comes hs).map eC ++ (goesOf s).map eC) (ys := [.tup [.str "none"]]) rfl (by simp at *; omega)
      apply F_retN rfl (by simp only [List.map_cons, List.map_nil, List.length_cons, List.length_nil, Nat.reduceAdd, Nat.reduceSub, List.replicate_succ, List.replicate_zero, List.cons_append, List.nil_append, List.set_cons_succ, List.set_cons_zero]; rfl)
      · unfold bchanges_at; repeat' (first | (with_reducible exact sl _) | (with_reducible exact ln _) | (with_reducible exact lc1 _) | (with_reducible exact x1) | (with_reducible exact lc2 _) | (with_reducible exact x2) | (with_reducible exact x3) | (with_reducible apply r_isSet; (first | (simp only [List.map_cons, List.map_nil, List.length_cons, List.length_nil, Nat.reduceAdd, Nat.reduceSub, List.replicate_succ, List.replicate_zero, List.cons_append, List.nil_append, List.set_cons_succ, List.set_cons_zero]; done) | (simp only [List.map_cons, List.map_nil, List.length_cons, List.length_nil, Nat.reduceAdd, Nat.reduceSub, List.replicate_succ, List.replicate_zero, List.cons_append, List.nil_append, List.set_cons_succ, List.set_cons_zero]; rfl))) | (with_reducible rfl) | (with_reducible exact r_nx) | (with_reducible exact r_c) | (with_reducible exact r_nil) | (with_reducible exact r_no) | (with_reducible exact r_pnil) | (with_reducible exact r_gend) | exact Nat.le_of_ble_eq_true rfl | (with_reducible apply r_seqK_nx) | (with_reducible apply r_seqK) | (with_reducible apply r_ifK) | (with_reducible apply r_tandK) | (with_reducible apply r_torK) | (with_reducible apply r_andK) | (with_reducible apply r_orK) | (with_reducible apply r_ifxK) | (with_reducible apply r_ret) | (with_reducible apply r_setN) | (with_reducible apply r_expr) | (with_reducible apply r_asg) | (with_reducible apply r_parN) | (with_reducible apply r_var) | (with_reducible apply r_1) | (with_reducible apply r_tup) | (with_reducible apply r_lst) | (with_reducible apply r_fz) | (with_reducible apply r_2) | (with_reducible apply r_cons) | (with_reducible apply r_N) | (with_reducible apply r_t2) | (with_reducible apply r_tval) | (with_reducible apply r_tnot) | (with_reducible apply r_not) | (with_reducible apply r_cmpV) | (with_reducible apply r_gtup) | (with_reducible apply r_gand) | (with_reducible apply r_gset) | (with_reducible apply r_sl) | (with_reducible apply r_part) | (with_reducible apply r_M) | (with_reducible apply r_aug) | (with_reducible apply r_chainK) | (with_reducible apply r_bind2) | (with_reducible apply r_tchain) | (with_reducible apply r_fld) | (with_reducible apply r_disp) | (with_reducible apply r_pcons) | (with_reducible apply r_itet; focus (first | assumption | with_reducible rfl | (simp_all; done) | (simp_all; omega))) | (with_reducible apply r_itef; focus (first | assumption | with_reducible rfl | (simp_all; done) | (simp_all; omega))) | (simp only [List.map_cons, List.map_nil, List.length_cons, List.length_nil, Nat.reduceAdd, Nat.reduceSub, List.replicate_succ, List.replicate_zero, List.cons_append, List.nil_append, List.set_cons_succ, List.set_cons_zero]; done) | (simp only [List.map_cons, List.map_nil, List.length_cons, List.length_nil, Nat.reduceAdd, Nat.reduceSub, List.replicate_succ, List.replicate_zero, List.cons_append, List.nil_append, List.set_cons_succ, List.set_cons_zero]; rfl) | rfl | exact sl _ | exact ln _ | exact lc1 _ | exact x1 | exact lc2 _ | exact x2 | exact x3)
      · rfl
      · simp [changesAt, hm, hg, comes, goesOf, eC]
    · have x3 := cat_lf (a := 0) (h := [O.lst ([] ++ (comes hs).map eC)]) (xs := [] ++ (comes hs).map eC) (ys := [.tup [.str "none"]]) rfl (by simp at *; omega)
      apply F_retN rfl (by simp only [List.map_cons, List.map_nil, List.length_cons, List.length_nil, Nat.reduceAdd, Nat.reduceSub, List.replicate_succ, List.replicate_zero, List.cons_append, List.nil_append, List.set_cons_succ, List.set_cons_zero]; rfl)
      · unfold bchanges_at; repeat' (first | (with_reducible exact sl _) | (with_reducible exact ln _) | (with_reducible exact lc1 _) | (with_reducible exact x1) | (with_reducible exact lc2 _) | (with_reducible exact x3) | (with_reducible apply r_isSet; (first | (simp only [List.map_cons, List.map_nil, List.length_cons, List.length_nil, Nat.reduceAdd, Nat.reduceSub, List.replicate_succ, List.replicate_zero, List.cons_append, List.nil_append, List.set_cons_succ, List.set_cons_zero]; done) | (simp only [List.map_cons, List.map_nil, List.length_cons, List.length_nil, Nat.reduceAdd, Nat.reduceSub, List.replicate_succ, List.replicate_zero, List.cons_append, List.nil_append, List.set_cons_succ, List.set_cons_zero]; rfl))) | (with_reducible rfl) | (with_reducible exact r_nx) | (with_reducible exact r_c) | (with_reducible exact r_nil) | (with_reducible exact r_no) | (with_reducible exact r_pnil) | (with_reducible exact r_gend) | exact Nat.le_of_ble_eq_true rfl | (with_reducible apply r_seqK_nx) | (with_reducible apply r_seqK) | (with_reducible apply r_ifK) | (with_reducible apply r_tandK) | (with_reducible apply r_torK) | (with_reducible apply r_andK) | (with_reducible apply r_orK) | (with_reducible apply r_ifxK) | (with_reducible apply r_ret) | (with_reducible apply r_setN) | (with_reducible apply r_expr) | (with_reducible apply r_asg) | (with_reducible apply r_parN) | (with_reducible apply r_var) | (with_reducible apply r_1) | (with_reducible apply r_tup) | (with_reducible apply r_lst) | (with_reducible apply r_fz) | (with_reducible apply r_2) | (with_reducible apply r_cons) | (with_reducible apply r_N) | (with_reducible apply r_t2) | (with_reducible apply r_tval) | (with_reducible apply r_tnot) | (with_reducible apply r_not) | (with_reducible apply r_cmpV) | (with_reducible apply r_gtup) | (with_reducible apply r_gand) | (with_reducible apply r_gset) | (with_reducible apply r_sl) | (with_reducible apply r_part) | (with_reducible apply r_M) | (with_reducible apply r_aug) | (with_reducible apply r_chainK) | (with_reducible apply r_bind2) | (with_reducible apply r_tchain) | (with_reducible apply r_fld) | (with_reducible apply r_disp) | (with_reducible apply r_pcons) | (with_reducible apply r_itet; focus (first | assumption | with_reducible rfl | (simp_all; done) | (simp_all; omega))) | (with_reducible apply r_itef; focus (first | assumption | with_reducible rfl | (simp_all; done) | (simp_all; omega))) | (simp only [List.map_cons, List.map_nil, List.length_cons, List.length_nil, Nat.reduceAdd, Nat.reduceSub, List.replicate_succ, List.replicate_zero, List.cons_append, List.nil_append, List.set_cons_succ, List.set_cons_zero]; done) | (simp only [List.map_cons, List.map_nil, List.length_cons, List.length_nil, Nat.reduceAdd, Nat.reduceSub, List.replicate_succ, List.replicate_zero, List.cons_append, List.nil_append, List.set_cons_succ, List.set_cons_zero]; rfl) | rfl | exact sl _ | exact ln _ | exact lc1 _ | exact x1 | exact lc2 _ | exact x3)
      · rfl
      · simp [changesAt, hm, hg, comes, goesOf, eC]
  · by_cases hg : hs.goes = true
    · have x2 := ext_fz (a := 0) (h := [O.lst []]) (xs := []) (ys := (goesOf s).map eC) rfl (by simp at *; omega)
      have x3 := cat_lf (a := 0) (h := [O.lst ([] ++ (goesOf s).map eC)]) (xs := [] ++ (goesOf s).map eC) (ys := [.tup [.str "none"]]) rfl (by simp at *; omega)
      apply F_retN rfl (by simp only [List.map_cons, List.map_nil, List.length_cons, List.length_nil, Nat.reduceAdd, Nat.reduceSub, List.replicate_succ, List.replicate_zero, List.cons_append, List.nil_append, List.set_cons_succ, List.set_cons_zero]; rfl)
      · unfold bchanges_at; repeat' (first | (with_reducible exact sl _) | (with_reducible exact ln _) | (with_reducible exact lc2 _) | (with_reducible exact x2) | (with_reducible exact x3) | (with_reducible apply r_isSet; (first | (simp only [List.map_cons, List.map_nil, List.length_cons, List.length_nil, Nat.reduceAdd, Nat.reduceSub, List.replicate_succ, List.replicate_zero, List.cons_append, List.nil_append, List.set_cons_succ, List.set_cons_zero]; done) | (simp only [List.map_cons, List.map_nil, List.length_cons, List.length_nil, Nat.reduceAdd, Nat.reduceSub, List.replicate_succ, List.replicate_zero, List.cons_append, List.nil_append, List.set_cons_succ, List.set_cons_zero]; rfl))) | (with_reducible rfl) | (with_reducible exact r_nx) | (with_reducible exact r_c) | (with_reducible exact r_nil) | (with_reducible exact r_no) | (with_reducible exact r_pnil) | (with_reducible exact r_gend) | exact Nat.le_of_ble_eq_true rfl | (with_reducible apply r_seqK_nx) | (with_reducible apply r_seqK) | (with_reducible apply r_ifK) | (with_reducible apply r_tandK) | (with_reducible apply r_torK) | (with_reducible apply r_andK) | (with_reducible apply r_orK) | (with_reducible apply r_ifxK) | (with_reducible apply r_ret) | (with_reducible apply r_setN) | (with_reducible apply r_expr) | (with_reducible apply r_asg) | (with_reducible apply r_parN) | (with_reducible apply r_var) | (with_reducible apply r_1) | (with_reducible apply r_tup) | (with_reducible apply r_lst) | (with_reducible apply r_fz) | (with_reducible apply r_2) | (with_reducible apply r_cons) | (with_reducible apply r_N) | (with_reducible apply r_t2) | (with_reducible apply r_tval) | (with_reducible apply r_tnot) | (with_reducible apply r_not) | (with_reducible apply r_cmpV) | (with_reducible apply r_gtup) | (with_reducible apply r_gand) | (with_reducible apply r_gset) | (with_reducible apply r_sl) | (with_reducible apply r_part) | (with_reducible apply r_M) | (with_reducible apply r_aug) | (with_reducible apply r_chainK) | (with_reducible apply r_bind2) | (with_reducible apply r_tchain) | (with_reducible apply r_fld) | (with_reducible apply r_disp) | (with_reducible apply r_pcons) | (with_reducible apply r_itet; focus (first | assumption | with_reducible rfl | (simp_all; done) | (simp_all; omega))) | (with_reducible apply r_itef; focus (first | assumption | with_reducible rfl | (simp_all; done) | (simp_all; omega))) | (simp only [List.map_cons, List.map_nil, List.length_cons, List.length_nil, Nat.reduceAdd, Nat.reduceSub, List.replicate_succ, List.replicate_zero, List.cons_append, List.nil_append, List.set_cons_succ, List.set_cons_zero]; done) | (simp only [List.map_cons, List.map_nil, List.length_cons, List.length_nil, Nat.reduceAdd, Nat.reduceSub, List.replicate_succ, List.replicate_zero, List.cons_append, List.nil_append, List.set_cons_succ, List.set_cons_zero]; rfl) | rfl | exact sl _ | exact ln _ | exact lc2 _ | exact x2 | exact x3)
      · rfl
      · simp [changesAt, hm, hg, comes, goesOf, eC]
    · have x3 := cat_lf (a := 0) (h := [O.lst []]) (xs := []) (ys := [.tup [.str "none"]]) rfl (by simp)
      apply F_retN rfl (by simp only [List.map_cons, List.map_nil, List.length_cons, List.length_nil, Nat.reduceAdd, Nat.reduceSub, List.replicate_succ, List.replicate_zero, List.cons_append, List.nil_append, List.set_cons_succ, List.set_cons_zero]; rfl)
      · unfold bchanges_at; repeat' (first | (with_reducible exact sl _) | (with_reducible exact ln _) | (with_reducible exact lc2 _) | (with_reducible exact x3) | (with_reducible apply r_isSet; (first | (simp only [List.map_cons, List.map_nil, List.length_cons, List.length_nil, Nat.reduceAdd, Nat.reduceSub, List.replicate_succ, List.replicate_zero, List.cons_append, List.nil_append, List.set_cons_succ, List.set_cons_zero]; done) | (simp only [List.map_cons, List.map_nil, List.length_cons, List.length_nil, Nat.reduceAdd, Nat.reduceSub, List.replicate_succ, List.replicate_zero, List.cons_append, List.nil_append, List.set_cons_succ, List.set_cons_zero]; rfl))) | (with_reducible rfl) | (with_reducible exact r_nx) | (with_reducible exact r_c) | (with_reducible exact r_nil) | (with_reducible exact r_no) | (with_reducible exact r_pnil) | (with_reducible exact r_gend) | exact Nat.le_of_ble_eq_true rfl | (with_reducible apply r_seqK_nx) | (with_reducible apply r_seqK) | (with_reducible apply r_ifK) | (with_reducible apply r_tandK) | (with_reducible apply r_torK) | (with_reducible apply r_andK) | (with_reducible apply r_orK) | (with_reducible apply r_ifxK) | (with_reducible apply r_ret) | (with_reducible apply r_setN) | (with_reducible apply r_expr) | (with_reducible apply r_asg) | (with_reducible apply r_parN) | (with_reducible apply r_var) | (with_reducible apply r_1) | (with_reducible apply r_tup) | (with_reducible apply r_lst) | (with_reducible apply r_fz) | (with_reducible apply r_2) | (with_reducible apply r_cons) | (with_reducible apply r_N) | (with_reducible apply r_t2) | (with_reducible apply r_tval) | (with_reducible apply r_tnot) | (with_reducible apply r_not) | (with_reducible apply r_cmpV) | (with_reducible apply r_gtup) | (with_reducible apply r_gand) | (with_reducible apply r_gset) | (with_reducible apply r_sl) | (with_reducible apply r_part) | (with_reducible apply r_M) | (with_reducible apply r_aug) | (with_reducible apply r_chainK) | (with_reducible apply r_bind2) | (with_reducible apply r_tchain) | (with_reducible apply r_fld) | (with_reducible apply r_disp) | (with_reducible apply r_pcons) | (with_reducible apply r_itet; focus (first | assumption | with_reducible rfl | (simp_all; done) | (simp_all; omega))) | (with_reducible apply r_itef; focus (first | assumption | with_reducible rfl | (simp_all; done) | (simp_all; omega))) | (simp only [List.map_cons, List.map_nil, List.length_cons, List.length_nil, Nat.reduceAdd, Nat.reduceSub, List.replicate_succ, List.replicate_zero, List.cons_append, List.nil_append, List.set_cons_succ, List.set_cons_zero]; done) | (simp only [List.map_cons, List.map_nil, List.length_cons, List.length_nil, Nat.reduceAdd, Nat.reduceSub, List.replicate_succ, List.replicate_zero, List.cons_append, List.nil_append, List.set_cons_succ, List.set_cons_zero]; rfl) | rfl | exact sl _ | exact ln _ | exact lc2 _ | exact x3)
      · rfl
      · simp [changesAt, hm, hg, comes, goesOf, eC]
theorem nl_cs (cs : List Change) : noL (.lst (cs.map eC)) = true := by simpa [noL] using noLs_map nl_C cs
theorem nl_hds (cs : List Hand) : noL (.lst (cs.map eHd)) = true := by simpa [noL] using noLs_map nl_Hd cs
theorem p_changes (hs : Hs) (ok : OkH hs) (s : Stand) (hl : s.shown.length ≤ 9) (hw : s.waiting.length ≤ 9) (h : List O) : oPure Fchanges_at [eH hs, eS s] h = .ret (.lst ((changesAt hs s).map eC), h) :=
  pure_ret h (changes_ok hs ok s hl hw) (by simp [noLs, nl_H, nl_S]) (nl_cs _)
end Md

namespace Md
open PySem PySem.Spec PyProof.Rows L2 Dr Ev Und
theorem hands_ok (hs : Hs) (s : Stand) (hl : s.shown.length ≤ 9) : ∃ g, Fhands_at [eH hs, eS s] [] = .ret (.lst ((handsAt hs s).map eHd), g) := by
  cases hk : s.look with
  | none =>
    have ln : ∀ h, oLenA [eSh s.shown] h = .ret (.int (s.shown.length : Nat), h) := fun h => len_tup (by simp) h
    have eq : ∀ h, pEq (fun b => b) h (eL s.look) (.tup []) = some true := fun h => by rw [eqL, hk]; rfl
    have lc : fLc [6] (fun s => M.bind ((fN oLenA (fCons (fVar 2) fNil)) s) srcR1) (gSet 6) tTrue (fN mkTup (fCons (fC (.str "look")) (fCons (fVar 6) fNil))) [some (eH hs), some (eS s), some (eSh s.shown), some (eL s.look), none, none, none] [] =
        .ret (.lst (((List.range s.shown.length).map (fun p : Nat => Hand.look p)).map eHd), []) := by
      rw [lcM (fun r => eHd (.look (r : Nat))) (sr_rng (fa := fN oLenA (fCons (fVar 2) fNil)) (j := s.shown.length) (r_N (r_cons rfl r_nil) (ln [])) rfl (by omega)) (by simp; omega) (fun i _ => rfl)]
      simp
    have ct := cat_ff (h := []) (xs := ((List.range s.shown.length).map (fun p : Nat => Hand.look p)).map eHd) (ys := [.tup [.str "none"]]) (by simp; omega)
    have e2 : (handsAt hs s).map eHd = ((List.range s.shown.length).map (fun p : Nat => Hand.look p)).map eHd ++ [.tup [.str "none"]] := by simp [handsAt, hk, eHd]
    rw [e2]
    clear hk e2 ln
    apply F_retN rfl (by simp only [List.map_cons, List.map_nil, List.length_cons, List.length_nil, Nat.reduceAdd, Nat.reduceSub, List.replicate_succ, List.replicate_zero, List.cons_append, List.nil_append, List.set_cons_succ, List.set_cons_zero]; rfl)
    · unfold bhands_at; repeat' (first | (with_reducible exact eq _) | (with_reducible exact lc) | (with_reducible exact ct) | (with_reducible apply r_isSet; (first | (simp only [List.map_cons, List.map_nil, List.length_cons, List.length_nil, Nat.reduceAdd, Nat.reduceSub, List.replicate_succ, List.replicate_zero, List.cons_append, List.nil_append, List.set_cons_succ, List.set_cons_zero]; done) | (simp only [List.map_cons, List.map_nil, List.length_cons, List.length_nil, Nat.reduceAdd, Nat.reduceSub, List.replicate_succ, List.replicate_zero, List.cons_append, List.nil_append, List.set_cons_succ, List.set_cons_zero]; rfl))) | (with_reducible rfl) | (with_reducible exact r_nx) | (with_reducible exact r_c) | (with_reducible exact r_nil) | (with_reducible exact r_no) | (with_reducible exact r_pnil) | (with_reducible exact r_gend) | exact Nat.le_of_ble_eq_true rfl | (with_reducible apply r_seqK_nx) | (with_reducible apply r_seqK) | (with_reducible apply r_ifK) | (with_reducible apply r_tandK) | (with_reducible apply r_torK) | (with_reducible apply r_andK) | (with_reducible apply r_orK) | (with_reducible apply r_ifxK) | (with_reducible apply r_ret) | (with_reducible apply r_setN) | (with_reducible apply r_expr) | (with_reducible apply r_asg) | (with_reducible apply r_parN) | (with_reducible apply r_var) | (with_reducible apply r_1) | (with_reducible apply r_tup) | (with_reducible apply r_lst) | (with_reducible apply r_fz) | (with_reducible apply r_2) | (with_reducible apply r_cons) | (with_reducible apply r_N) | (with_reducible apply r_t2) | (with_reducible apply r_tval) | (with_reducible apply r_tnot) | (with_reducible apply r_not) | (with_reducible apply r_cmpV) | (with_reducible apply r_gtup) | (with_reducible apply r_gand) | (with_reducible apply r_gset) | (with_reducible apply r_sl) | (with_reducible apply r_part) | (with_reducible apply r_M) | (with_reducible apply r_aug) | (with_reducible apply r_chainK) | (with_reducible apply r_bind2) | (with_reducible apply r_tchain) | (with_reducible apply r_fld) | (with_reducible apply r_disp) | (with_reducible apply r_pcons) | (with_reducible apply r_itet; focus (first | assumption | with_reducible rfl | (simp_all; done) | (simp_all; omega))) | (with_reducible apply r_itef; focus (first | assumption | with_reducible rfl | (simp_all; done) | (simp_all; omega))) | (simp only [List.map_cons, List.map_nil, List.length_cons, List.length_nil, Nat.reduceAdd, Nat.reduceSub, List.replicate_succ, List.replicate_zero, List.cons_append, List.nil_append, List.set_cons_succ, List.set_cons_zero]; done) | (simp only [List.map_cons, List.map_nil, List.length_cons, List.length_nil, Nat.reduceAdd, Nat.reduceSub, List.replicate_succ, List.replicate_zero, List.cons_append, List.nil_append, List.set_cons_succ, List.set_cons_zero]; rfl) | rfl | exact eq _ | exact lc | exact ct)
    · rfl
    · rfl
  | some l =>
    have eq : ∀ h, pEq (fun b => b) h (eL (some l)) (.tup []) = some false := fun h => by rw [eqL]; rfl
    have eS' : eS s = .tup [eSh s.shown, eW s.waiting, .int s.quiet, eL (some l)] := by rw [← hk]; rfl
    rw [eS']
    by_cases h1 : l.age = hs.most
    · have q : ∀ h, pEq (fun b => b) h (.int l.age) (.int hs.most) = some true := fun h => by rw [eqI]; simp [h1]
      apply F_retN rfl (by simp only [List.map_cons, List.map_nil, List.length_cons, List.length_nil, Nat.reduceAdd, Nat.reduceSub, List.replicate_succ, List.replicate_zero, List.cons_append, List.nil_append, List.set_cons_succ, List.set_cons_zero]; rfl)
      · unfold bhands_at; repeat' (first | (with_reducible exact eq _) | (with_reducible exact q _) | (with_reducible apply r_isSet; (first | (simp only [List.map_cons, List.map_nil, List.length_cons, List.length_nil, Nat.reduceAdd, Nat.reduceSub, List.replicate_succ, List.replicate_zero, List.cons_append, List.nil_append, List.set_cons_succ, List.set_cons_zero]; done) | (simp only [List.map_cons, List.map_nil, List.length_cons, List.length_nil, Nat.reduceAdd, Nat.reduceSub, List.replicate_succ, List.replicate_zero, List.cons_append, List.nil_append, List.set_cons_succ, List.set_cons_zero]; rfl))) | (with_reducible rfl) | (with_reducible exact r_nx) | (with_reducible exact r_c) | (with_reducible exact r_nil) | (with_reducible exact r_no) | (with_reducible exact r_pnil) | (with_reducible exact r_gend) | exact Nat.le_of_ble_eq_true rfl | (with_reducible apply r_seqK_nx) | (with_reducible apply r_seqK) | (with_reducible apply r_ifK) | (with_reducible apply r_tandK) | (with_reducible apply r_torK) | (with_reducible apply r_andK) | (with_reducible apply r_orK) | (with_reducible apply r_ifxK) | (with_reducible apply r_ret) | (with_reducible apply r_setN) | (with_reducible apply r_expr) | (with_reducible apply r_asg) | (with_reducible apply r_parN) | (with_reducible apply r_var) | (with_reducible apply r_1) | (with_reducible apply r_tup) | (with_reducible apply r_lst) | (with_reducible apply r_fz) | (with_reducible apply r_2) | (with_reducible apply r_cons) | (with_reducible apply r_N) | (with_reducible apply r_t2) | (with_reducible apply r_tval) | (with_reducible apply r_tnot) | (with_reducible apply r_not) | (with_reducible apply r_cmpV) | (with_reducible apply r_gtup) | (with_reducible apply r_gand) | (with_reducible apply r_gset) | (with_reducible apply r_sl) | (with_reducible apply r_part) | (with_reducible apply r_M) | (with_reducible apply r_aug) | (with_reducible apply r_chainK) | (with_reducible apply r_bind2) | (with_reducible apply r_tchain) | (with_reducible apply r_fld) | (with_reducible apply r_disp) | (with_reducible apply r_pcons) | (with_reducible apply r_itet; focus (first | assumption | with_reducible rfl | (simp_all; done) | (simp_all; omega))) | (with_reducible apply r_itef; focus (first | assumption | with_reducible rfl | (simp_all; done) | (simp_all; omega))) | (simp only [List.map_cons, List.map_nil, List.length_cons, List.length_nil, Nat.reduceAdd, Nat.reduceSub, List.replicate_succ, List.replicate_zero, List.cons_append, List.nil_append, List.set_cons_succ, List.set_cons_zero]; done) | (simp only [List.map_cons, List.map_nil, List.length_cons, List.length_nil, Nat.reduceAdd, Nat.reduceSub, List.replicate_succ, List.replicate_zero, List.cons_append, List.nil_append, List.set_cons_succ, List.set_cons_zero]; rfl) | rfl | exact eq _ | exact q _)
      · rfl
      · simp [handsAt, hk, eHd, h1]
    · have q : ∀ h, pEq (fun b => b) h (.int l.age) (.int hs.most) = some false := fun h => by rw [eqI]; simp [h1]
      by_cases h2 : hs.least ≤ l.age
      · apply F_retN rfl (by simp only [List.map_cons, List.map_nil, List.length_cons, List.length_nil, Nat.reduceAdd, Nat.reduceSub, List.replicate_succ, List.replicate_zero, List.cons_append, List.nil_append, List.set_cons_succ, List.set_cons_zero]; rfl)
        · unfold bhands_at; repeat' (first | (with_reducible exact eq _) | (with_reducible exact q _) | (with_reducible apply r_isSet; (first | (simp only [List.map_cons, List.map_nil, List.length_cons, List.length_nil, Nat.reduceAdd, Nat.reduceSub, List.replicate_succ, List.replicate_zero, List.cons_append, List.nil_append, List.set_cons_succ, List.set_cons_zero]; done) | (simp only [List.map_cons, List.map_nil, List.length_cons, List.length_nil, Nat.reduceAdd, Nat.reduceSub, List.replicate_succ, List.replicate_zero, List.cons_append, List.nil_append, List.set_cons_succ, List.set_cons_zero]; rfl))) | (with_reducible rfl) | (with_reducible exact r_nx) | (with_reducible exact r_c) | (with_reducible exact r_nil) | (with_reducible exact r_no) | (with_reducible exact r_pnil) | (with_reducible exact r_gend) | exact Nat.le_of_ble_eq_true rfl | (with_reducible apply r_seqK_nx) | (with_reducible apply r_seqK) | (with_reducible apply r_ifK) | (with_reducible apply r_tandK) | (with_reducible apply r_torK) | (with_reducible apply r_andK) | (with_reducible apply r_orK) | (with_reducible apply r_ifxK) | (with_reducible apply r_ret) | (with_reducible apply r_setN) | (with_reducible apply r_expr) | (with_reducible apply r_asg) | (with_reducible apply r_parN) | (with_reducible apply r_var) | (with_reducible apply r_1) | (with_reducible apply r_tup) | (with_reducible apply r_lst) | (with_reducible apply r_fz) | (with_reducible apply r_2) | (with_reducible apply r_cons) | (with_reducible apply r_N) | (with_reducible apply r_t2) | (with_reducible apply r_tval) | (with_reducible apply r_tnot) | (with_reducible apply r_not) | (with_reducible apply r_cmpV) | (with_reducible apply r_gtup) | (with_reducible apply r_gand) | (with_reducible apply r_gset) | (with_reducible apply r_sl) | (with_reducible apply r_part) | (with_reducible apply r_M) | (with_reducible apply r_aug) | (with_reducible apply r_chainK) | (with_reducible apply r_bind2) | (with_reducible apply r_tchain) | (with_reducible apply r_fld) | (with_reducible apply r_disp) | (with_reducible apply r_pcons) | (with_reducible apply r_itet; focus (first | assumption | with_reducible rfl | (simp_all; done) | (simp_all; omega))) | (with_reducible apply r_itef; focus (first | assumption | with_reducible rfl | (simp_all; done) | (simp_all; omega))) | (simp only [List.map_cons, List.map_nil, List.length_cons, List.length_nil, Nat.reduceAdd, Nat.reduceSub, List.replicate_succ, List.replicate_zero, List.cons_append, List.nil_append, List.set_cons_succ, List.set_cons_zero]; done) | (simp only [List.map_cons, List.map_nil, List.length_cons, List.length_nil, Nat.reduceAdd, Nat.reduceSub, List.replicate_succ, List.replicate_zero, List.cons_append, List.nil_append, List.set_cons_succ, List.set_cons_zero]; rfl) | rfl | exact eq _ | exact q _)
        · rfl
        · simp [handsAt, hk, eHd, h1, h2]
      · apply F_retN rfl (by simp only [List.map_cons, List.map_nil, List.length_cons, List.length_nil, Nat.reduceAdd, Nat.reduceSub, List.replicate_succ, List.replicate_zero, List.cons_append, List.nil_append, List.set_cons_succ, List.set_cons_zero]; rfl)
        · unfold bhands_at; repeat' (first | (with_reducible exact eq _) | (with_reducible exact q _) | (with_reducible apply r_isSet; (first | (simp only [List.map_cons, List.map_nil, List.length_cons, List.length_nil, Nat.reduceAdd, Nat.reduceSub, List.replicate_succ, List.replicate_zero, List.cons_append, List.nil_append, List.set_cons_succ, List.set_cons_zero]; done) | (simp only [List.map_cons, List.map_nil, List.length_cons, List.length_nil, Nat.reduceAdd, Nat.reduceSub, List.replicate_succ, List.replicate_zero, List.cons_append, List.nil_append, List.set_cons_succ, List.set_cons_zero]; rfl))) | (with_reducible rfl) | (with_reducible exact r_nx) | (with_reducible exact r_c) | (with_reducible exact r_nil) | (with_reducible exact r_no) | (with_reducible exact r_pnil) | (with_reducible exact r_gend) | exact Nat.le_of_ble_eq_true rfl | (with_reducible apply r_seqK_nx) | (with_reducible apply r_seqK) | (with_reducible apply r_ifK) | (with_reducible apply r_tandK) | (with_reducible apply r_torK) | (with_reducible apply r_andK) | (with_reducible apply r_orK) | (with_reducible apply r_ifxK) | (with_reducible apply r_ret) | (with_reducible apply r_setN) | (with_reducible apply r_expr) | (with_reducible apply r_asg) | (with_reducible apply r_parN) | (with_reducible apply r_var) | (with_reducible apply r_1) | (with_reducible apply r_tup) | (with_reducible apply r_lst) | (with_reducible apply r_fz) | (with_reducible apply r_2) | (with_reducible apply r_cons) | (with_reducible apply r_N) | (with_reducible apply r_t2) | (with_reducible apply r_tval) | (with_reducible apply r_tnot) | (with_reducible apply r_not) | (with_reducible apply r_cmpV) | (with_reducible apply r_gtup) | (with_reducible apply r_gand) | (with_reducible apply r_gset) | (with_reducible apply r_sl) | (with_reducible apply r_part) | (with_reducible apply r_M) | (with_reducible apply r_aug) | (with_reducible apply r_chainK) | (with_reducible apply r_bind2) | (with_reducible apply r_tchain) | (with_reducible apply r_fld) | (with_reducible apply r_disp) | (with_reducible apply r_pcons) | (with_reducible apply r_itet; focus (first | assumption | with_reducible rfl | (simp_all; done) | (simp_all; omega))) | (with_reducible apply r_itef; focus (first | assumption | with_reducible rfl | (simp_all; done) | (simp_all; omega))) | (simp only [List.map_cons, List.map_nil, List.length_cons, List.length_nil, Nat.reduceAdd, Nat.reduceSub, List.replicate_succ, List.replicate_zero, List.cons_append, List.nil_append, List.set_cons_succ, List.set_cons_zero]; done) | (simp only [List.map_cons, List.map_nil, List.length_cons, List.length_nil, Nat.reduceAdd, Nat.reduceSub, List.replicate_succ, List.replicate_zero, List.cons_append, List.nil_append, List.set_cons_succ, List.set_cons_zero]; rfl) | rfl | exact eq _ | exact q _)
        · rfl
        · simp [handsAt, hk, eHd, h1, h2]
theorem p_hands (hs : Hs) (s : Stand) (hl : s.shown.length ≤ 9) (h : List O) : oPure Fhands_at [eH hs, eS s] h = .ret (.lst ((handsAt hs s).map eHd), h) :=
  pure_ret h (hands_ok hs s hl) (by simp [noLs, nl_H, nl_S]) (nl_hds _)
theorem outcome_ok (r : Rl) (sh : List Item) (l : Look) (h0 : 0 ≤ l.place) : ∃ g, Foutcome_of [eR r, eSh sh, eL (some l)] [] = .ret (.str (outcomeOf r sh l), g) := by
  obtain ⟨p, hp⟩ := Int.eq_ofNat_of_zero_le h0
  have ln : ∀ h, oLenA [eSh sh] h = .ret (.int (sh.length : Nat), h) := fun h => len_tup (by simp) h
  by_cases h1 : (sh.length : Int) ≤ l.place
  · apply F_retN rfl (by simp only [List.map_cons, List.map_nil, List.length_cons, List.length_nil, Nat.reduceAdd, Nat.reduceSub, List.replicate_succ, List.replicate_zero, List.cons_append, List.nil_append, List.set_cons_succ, List.set_cons_zero]; rfl)
    · unfold boutcome_of; repeat' (first | (with_reducible exact ln _) | (with_reducible apply r_isSet; (first | (simp only [List.map_cons, List.map_nil, List.length_cons, List.length_nil, Nat.reduceAdd, Nat.reduceSub, List.replicate_succ, List.replicate_zero, List.cons_append, List.nil_append, List.set_cons_succ, List.set_cons_zero]; done) | (simp only [List.map_cons, List.map_nil, List.length_cons, List.length_nil, Nat.reduceAdd, Nat.reduceSub, List.replicate_succ, List.replicate_zero, List.cons_append, List.nil_append, List.set_cons_succ, List.set_cons_zero]; rfl))) | (with_reducible rfl) | (with_reducible exact r_nx) | (with_reducible exact r_c) | (with_reducible exact r_nil) | (with_reducible exact r_no) | (with_reducible exact r_pnil) | (with_reducible exact r_gend) | exact Nat.le_of_ble_eq_true rfl | (with_reducible apply r_seqK_nx) | (with_reducible apply r_seqK) | (with_reducible apply r_ifK) | (with_reducible apply r_tandK) | (with_reducible apply r_torK) | (with_reducible apply r_andK) | (with_reducible apply r_orK) | (with_reducible apply r_ifxK) | (with_reducible apply r_ret) | (with_reducible apply r_setN) | (with_reducible apply r_expr) | (with_reducible apply r_asg) | (with_reducible apply r_parN) | (with_reducible apply r_var) | (with_reducible apply r_1) | (with_reducible apply r_tup) | (with_reducible apply r_lst) | (with_reducible apply r_fz) | (with_reducible apply r_2) | (with_reducible apply r_cons) | (with_reducible apply r_N) | (with_reducible apply r_t2) | (with_reducible apply r_tval) | (with_reducible apply r_tnot) | (with_reducible apply r_not) | (with_reducible apply r_cmpV) | (with_reducible apply r_gtup) | (with_reducible apply r_gand) | (with_reducible apply r_gset) | (with_reducible apply r_sl) | (with_reducible apply r_part) | (with_reducible apply r_M) | (with_reducible apply r_aug) | (with_reducible apply r_chainK) | (with_reducible apply r_bind2) | (with_reducible apply r_tchain) | (with_reducible apply r_fld) | (with_reducible apply r_disp) | (with_reducible apply r_pcons) | (with_reducible apply r_itet; focus (first | assumption | with_reducible rfl | (simp_all; done) | (simp_all; omega))) | (with_reducible apply r_itef; focus (first | assumption | with_reducible rfl | (simp_all; done) | (simp_all; omega))) | (simp only [List.map_cons, List.map_nil, List.length_cons, List.length_nil, Nat.reduceAdd, Nat.reduceSub, List.replicate_succ, List.replicate_zero, List.cons_append, List.nil_append, List.set_cons_succ, List.set_cons_zero]; done) | (simp only [List.map_cons, List.map_nil, List.length_cons, List.length_nil, Nat.reduceAdd, Nat.reduceSub, List.replicate_succ, List.replicate_zero, List.cons_append, List.nil_append, List.set_cons_succ, List.set_cons_zero]; rfl) | rfl | exact ln _)
    · rfl
    · simp [outcomeOf, h1]
  · have hl : p < sh.length := by omega
    have gi := getI hl []
    rw [← hp] at gi
    have ht : l.place.toNat = p := by omega
    by_cases h2 : (sh.getD p ⟨0, false, 0⟩).stood < r.guard
    · apply F_retN rfl (by simp only [List.map_cons, List.map_nil, List.length_cons, List.length_nil, Nat.reduceAdd, Nat.reduceSub, List.replicate_succ, List.replicate_zero, List.cons_append, List.nil_append, List.set_cons_succ, List.set_cons_zero]; rfl)
      · unfold boutcome_of; repeat' (first | (with_reducible exact ln _) | (with_reducible exact gi) | (with_reducible apply r_isSet; (first | (simp only [List.map_cons, List.map_nil, List.length_cons, List.length_nil, Nat.reduceAdd, Nat.reduceSub, List.replicate_succ, List.replicate_zero, List.cons_append, List.nil_append, List.set_cons_succ, List.set_cons_zero]; done) | (simp only [List.map_cons, List.map_nil, List.length_cons, List.length_nil, Nat.reduceAdd, Nat.reduceSub, List.replicate_succ, List.replicate_zero, List.cons_append, List.nil_append, List.set_cons_succ, List.set_cons_zero]; rfl))) | (with_reducible rfl) | (with_reducible exact r_nx) | (with_reducible exact r_c) | (with_reducible exact r_nil) | (with_reducible exact r_no) | (with_reducible exact r_pnil) | (with_reducible exact r_gend) | exact Nat.le_of_ble_eq_true rfl | (with_reducible apply r_seqK_nx) | (with_reducible apply r_seqK) | (with_reducible apply r_ifK) | (with_reducible apply r_tandK) | (with_reducible apply r_torK) | (with_reducible apply r_andK) | (with_reducible apply r_orK) | (with_reducible apply r_ifxK) | (with_reducible apply r_ret) | (with_reducible apply r_setN) | (with_reducible apply r_expr) | (with_reducible apply r_asg) | (with_reducible apply r_parN) | (with_reducible apply r_var) | (with_reducible apply r_1) | (with_reducible apply r_tup) | (with_reducible apply r_lst) | (with_reducible apply r_fz) | (with_reducible apply r_2) | (with_reducible apply r_cons) | (with_reducible apply r_N) | (with_reducible apply r_t2) | (with_reducible apply r_tval) | (with_reducible apply r_tnot) | (with_reducible apply r_not) | (with_reducible apply r_cmpV) | (with_reducible apply r_gtup) | (with_reducible apply r_gand) | (with_reducible apply r_gset) | (with_reducible apply r_sl) | (with_reducible apply r_part) | (with_reducible apply r_M) | (with_reducible apply r_aug) | (with_reducible apply r_chainK) | (with_reducible apply r_bind2) | (with_reducible apply r_tchain) | (with_reducible apply r_fld) | (with_reducible apply r_disp) | (with_reducible apply r_pcons) | (with_reducible apply r_itet; focus (first | assumption | with_reducible rfl | (simp_all; done) | (simp_all; omega))) | (with_reducible apply r_itef; focus (first | assumption | with_reducible rfl | (simp_all; done) | (simp_all; omega))) | (simp only [List.map_cons, List.map_nil, List.length_cons, List.length_nil, Nat.reduceAdd, Nat.reduceSub, List.replicate_succ, List.replicate_zero, List.cons_append, List.nil_append, List.set_cons_succ, List.set_cons_zero]; done) | (simp only [List.map_cons, List.map_nil, List.length_cons, List.length_nil, Nat.reduceAdd, Nat.reduceSub, List.replicate_succ, List.replicate_zero, List.cons_append, List.nil_append, List.set_cons_succ, List.set_cons_zero]; rfl) | rfl | exact ln _ | exact gi)
      · rfl
      · simp only [outcomeOf, h1, ht, h2, if_true, if_false]
    · cases h3 : (sh.getD p ⟨0, false, 0⟩).gone with
      | true =>
        apply F_retN rfl (by simp only [List.map_cons, List.map_nil, List.length_cons, List.length_nil, Nat.reduceAdd, Nat.reduceSub, List.replicate_succ, List.replicate_zero, List.cons_append, List.nil_append, List.set_cons_succ, List.set_cons_zero]; rfl)
        · unfold boutcome_of; repeat' (first | (with_reducible exact ln _) | (with_reducible exact gi) | (with_reducible apply r_isSet; (first | (simp only [List.map_cons, List.map_nil, List.length_cons, List.length_nil, Nat.reduceAdd, Nat.reduceSub, List.replicate_succ, List.replicate_zero, List.cons_append, List.nil_append, List.set_cons_succ, List.set_cons_zero]; done) | (simp only [List.map_cons, List.map_nil, List.length_cons, List.length_nil, Nat.reduceAdd, Nat.reduceSub, List.replicate_succ, List.replicate_zero, List.cons_append, List.nil_append, List.set_cons_succ, List.set_cons_zero]; rfl))) | (with_reducible rfl) | (with_reducible exact r_nx) | (with_reducible exact r_c) | (with_reducible exact r_nil) | (with_reducible exact r_no) | (with_reducible exact r_pnil) | (with_reducible exact r_gend) | exact Nat.le_of_ble_eq_true rfl | (with_reducible apply r_seqK_nx) | (with_reducible apply r_seqK) | (with_reducible apply r_ifK) | (with_reducible apply r_tandK) | (with_reducible apply r_torK) | (with_reducible apply r_andK) | (with_reducible apply r_orK) | (with_reducible apply r_ifxK) | (with_reducible apply r_ret) | (with_reducible apply r_setN) | (with_reducible apply r_expr) | (with_reducible apply r_asg) | (with_reducible apply r_parN) | (with_reducible apply r_var) | (with_reducible apply r_1) | (with_reducible apply r_tup) | (with_reducible apply r_lst) | (with_reducible apply r_fz) | (with_reducible apply r_2) | (with_reducible apply r_cons) | (with_reducible apply r_N) | (with_reducible apply r_t2) | (with_reducible apply r_tval) | (with_reducible apply r_tnot) | (with_reducible apply r_not) | (with_reducible apply r_cmpV) | (with_reducible apply r_gtup) | (with_reducible apply r_gand) | (with_reducible apply r_gset) | (with_reducible apply r_sl) | (with_reducible apply r_part) | (with_reducible apply r_M) | (with_reducible apply r_aug) | (with_reducible apply r_chainK) | (with_reducible apply r_bind2) | (with_reducible apply r_tchain) | (with_reducible apply r_fld) | (with_reducible apply r_disp) | (with_reducible apply r_pcons) | (with_reducible apply r_itet; focus (first | assumption | with_reducible rfl | (simp_all; done) | (simp_all; omega))) | (with_reducible apply r_itef; focus (first | assumption | with_reducible rfl | (simp_all; done) | (simp_all; omega))) | (simp only [List.map_cons, List.map_nil, List.length_cons, List.length_nil, Nat.reduceAdd, Nat.reduceSub, List.replicate_succ, List.replicate_zero, List.cons_append, List.nil_append, List.set_cons_succ, List.set_cons_zero]; done) | (simp only [List.map_cons, List.map_nil, List.length_cons, List.length_nil, Nat.reduceAdd, Nat.reduceSub, List.replicate_succ, List.replicate_zero, List.cons_append, List.nil_append, List.set_cons_succ, List.set_cons_zero]; rfl) | rfl | exact ln _ | exact gi)
        · rfl
        · simp only [outcomeOf, h1, ht, h2, h3, if_true, if_false]
      | false =>
        have q := eqI (fun b => b) l.spot l.place []
        by_cases h4 : l.spot = l.place
        · apply F_retN rfl (by simp only [List.map_cons, List.map_nil, List.length_cons, List.length_nil, Nat.reduceAdd, Nat.reduceSub, List.replicate_succ, List.replicate_zero, List.cons_append, List.nil_append, List.set_cons_succ, List.set_cons_zero]; rfl)
          · unfold boutcome_of; repeat' (first | (with_reducible exact ln _) | (with_reducible exact gi) | (with_reducible exact q) | (with_reducible apply r_isSet; (first | (simp only [List.map_cons, List.map_nil, List.length_cons, List.length_nil, Nat.reduceAdd, Nat.reduceSub, List.replicate_succ, List.replicate_zero, List.cons_append, List.nil_append, List.set_cons_succ, List.set_cons_zero]; done) | (simp only [List.map_cons, List.map_nil, List.length_cons, List.length_nil, Nat.reduceAdd, Nat.reduceSub, List.replicate_succ, List.replicate_zero, List.cons_append, List.nil_append, List.set_cons_succ, List.set_cons_zero]; rfl))) | (with_reducible rfl) | (with_reducible exact r_nx) | (with_reducible exact r_c) | (with_reducible exact r_nil) | (with_reducible exact r_no) | (with_reducible exact r_pnil) | (with_reducible exact r_gend) | exact Nat.le_of_ble_eq_true rfl | (with_reducible apply r_seqK_nx) | (with_reducible apply r_seqK) | (with_reducible apply r_ifK) | (with_reducible apply r_tandK) | (with_reducible apply r_torK) | (with_reducible apply r_andK) | (with_reducible apply r_orK) | (with_reducible apply r_ifxK) | (with_reducible apply r_ret) | (with_reducible apply r_setN) | (with_reducible apply r_expr) | (with_reducible apply r_asg) | (with_reducible apply r_parN) | (with_reducible apply r_var) | (with_reducible apply r_1) | (with_reducible apply r_tup) | (with_reducible apply r_lst) | (with_reducible apply r_fz) | (with_reducible apply r_2) | (with_reducible apply r_cons) | (with_reducible apply r_N) | (with_reducible apply r_t2) | (with_reducible apply r_tval) | (with_reducible apply r_tnot) | (with_reducible apply r_not) | (with_reducible apply r_cmpV) | (with_reducible apply r_gtup) | (with_reducible apply r_gand) | (with_reducible apply r_gset) | (with_reducible apply r_sl) | (with_reducible apply r_part) | (with_reducible apply r_M) | (with_reducible apply r_aug) | (with_reducible apply r_chainK) | (with_reducible apply r_bind2) | (with_reducible apply r_tchain) | (with_reducible apply r_fld) | (with_reducible apply r_disp) | (with_reducible apply r_pcons) | (with_reducible apply r_itet; focus (first | assumption | with_reducible rfl | (simp_all; done) | (simp_all; omega))) | (with_reducible apply r_itef; focus (first | assumption | with_reducible rfl | (simp_all; done) | (simp_all; omega))) | (simp only [List.map_cons, List.map_nil, List.length_cons, List.length_nil, Nat.reduceAdd, Nat.reduceSub, List.replicate_succ, List.replicate_zero, List.cons_append, List.nil_append, List.set_cons_succ, List.set_cons_zero]; done) | (simp only [List.map_cons, List.map_nil, List.length_cons, List.length_nil, Nat.reduceAdd, Nat.reduceSub, List.replicate_succ, List.replicate_zero, List.cons_append, List.nil_append, List.set_cons_succ, List.set_cons_zero]; rfl) | rfl | exact ln _ | exact gi | exact q)
          · rfl
          · simp only [outcomeOf, h1, ht, h2, h3, h4, if_false, Bool.false_eq_true, eq_self, reduceIte]
        · apply F_retN rfl (by simp only [List.map_cons, List.map_nil, List.length_cons, List.length_nil, Nat.reduceAdd, Nat.reduceSub, List.replicate_succ, List.replicate_zero, List.cons_append, List.nil_append, List.set_cons_succ, List.set_cons_zero]; rfl)
          · unfold boutcome_of; repeat' (first | (with_reducible exact ln _) | (with_reducible exact gi) | (with_reducible exact q) | (with_reducible apply r_isSet; (first | (simp only [List.map_cons, List.map_nil, List.length_cons, List.length_nil, Nat.reduceAdd, Nat.reduceSub, List.replicate_succ, List.replicate_zero, List.cons_append, List.nil_append, List.set_cons_succ, List.set_cons_zero]; done) | (simp only [List.map_cons, List.map_nil, List.length_cons, List.length_nil, Nat.reduceAdd, Nat.reduceSub, List.replicate_succ, List.replicate_zero, List.cons_append, List.nil_append, List.set_cons_succ, List.set_cons_zero]; rfl))) | (with_reducible rfl) | (with_reducible exact r_nx) | (with_reducible exact r_c) | (with_reducible exact r_nil) | (with_reducible exact r_no) | (with_reducible exact r_pnil) | (with_reducible exact r_gend) | exact Nat.le_of_ble_eq_true rfl | (with_reducible apply r_seqK_nx) | (with_reducible apply r_seqK) | (with_reducible apply r_ifK) | (with_reducible apply r_tandK) | (with_reducible apply r_torK) | (with_reducible apply r_andK) | (with_reducible apply r_orK) | (with_reducible apply r_ifxK) | (with_reducible apply r_ret) | (with_reducible apply r_setN) | (with_reducible apply r_expr) | (with_reducible apply r_asg) | (with_reducible apply r_parN) | (with_reducible apply r_var) | (with_reducible apply r_1) | (with_reducible apply r_tup) | (with_reducible apply r_lst) | (with_reducible apply r_fz) | (with_reducible apply r_2) | (with_reducible apply r_cons) | (with_reducible apply r_N) | (with_reducible apply r_t2) | (with_reducible apply r_tval) | (with_reducible apply r_tnot) | (with_reducible apply r_not) | (with_reducible apply r_cmpV) | (with_reducible apply r_gtup) | (with_reducible apply r_gand) | (with_reducible apply r_gset) | (with_reducible apply r_sl) | (with_reducible apply r_part) | (with_reducible apply r_M) | (with_reducible apply r_aug) | (with_reducible apply r_chainK) | (with_reducible apply r_bind2) | (with_reducible apply r_tchain) | (with_reducible apply r_fld) | (with_reducible apply r_disp) | (with_reducible apply r_pcons) | (with_reducible apply r_itet; focus (first | assumption | with_reducible rfl | (simp_all; done) | (simp_all; omega))) | (with_reducible apply r_itef; focus (first | assumption | with_reducible rfl | (simp_all; done) | (simp_all; omega))) | (simp only [List.map_cons, List.map_nil, List.length_cons, List.length_nil, Nat.reduceAdd, Nat.reduceSub, List.replicate_succ, List.replicate_zero, List.cons_append, List.nil_append, List.set_cons_succ, List.set_cons_zero]; done) | (simp only [List.map_cons, List.map_nil, List.length_cons, List.length_nil, Nat.reduceAdd, Nat.reduceSub, List.replicate_succ, List.replicate_zero, List.cons_append, List.nil_append, List.set_cons_succ, List.set_cons_zero]; rfl) | rfl | exact ln _ | exact gi | exact q)
          · rfl
          · simp only [outcomeOf, h1, ht, h2, h3, h4, if_false, Bool.false_eq_true, eq_self, reduceIte]
theorem p_outcome (r : Rl) (sh : List Item) (l : Look) (h0 : 0 ≤ l.place) (h : List O) : oPure Foutcome_of [eR r, eSh sh, eL (some l)] h = .ret (.str (outcomeOf r sh l), h) :=
  pure_ret h (outcome_ok r sh l h0) (by simp [noLs, nl_R, nl_Sh, nl_L]) rfl
end Md

namespace Md
open PySem PySem.Spec PyProof.Rows L2 Dr Ev Und
theorem okT_eC (n : Nat) (c : Change) : okT (n + 1) (eC c) = true := by cases c <;> simp only [eC, okT, okTs, Bool.and_true] <;> decide +kernel
theorem okT_eHd (n : Nat) (c : Hand) : okT (n + 1) (eHd c) = true := by cases c <;> simp only [eHd, okT, okTs, Bool.and_true] <;> decide +kernel
theorem eqTs2 (x y : D) (xs ys : List D) : eqTs (x :: xs) (y :: ys) = (Ev.eqT x y && eqTs xs ys) := by rw [eqTs]
theorem eqT_eC (a b : Change) : Ev.eqT (eC a) (eC b) = decide (a = b) := by
  have s1 : ((Str.ofString "none") == (Str.ofString "come")) = false := by decide +kernel
  have s2 : ((Str.ofString "none") == (Str.ofString "go")) = false := by decide +kernel
  have s3 : ((Str.ofString "come") == (Str.ofString "none")) = false := by decide +kernel
  have s4 : ((Str.ofString "come") == (Str.ofString "go")) = false := by decide +kernel
  have s5 : ((Str.ofString "go") == (Str.ofString "none")) = false := by decide +kernel
  have s6 : ((Str.ofString "go") == (Str.ofString "come")) = false := by decide +kernel
  have t1 : ((Str.ofString "none") == (Str.ofString "none")) = true := by decide +kernel
  have t2 : ((Str.ofString "come") == (Str.ofString "come")) = true := by decide +kernel
  have t3 : ((Str.ofString "go") == (Str.ofString "go")) = true := by decide +kernel
  cases a <;> cases b <;> simp only [eC, Ev.eqT, eqTs, s1, s2, s3, s4, s5, s6, t1, t2, t3, Bool.false_and, Bool.true_and, Bool.and_true] <;> first | rfl | (rw [Bool.eq_iff_iff]; simp)
theorem eqT_eHd (a b : Hand) : Ev.eqT (eHd a) (eHd b) = decide (a = b) := by
  have s1 : ((Str.ofString "none") == (Str.ofString "look")) = false := by decide +kernel
  have s2 : ((Str.ofString "none") == (Str.ofString "tap")) = false := by decide +kernel
  have s3 : ((Str.ofString "look") == (Str.ofString "none")) = false := by decide +kernel
  have s4 : ((Str.ofString "look") == (Str.ofString "tap")) = false := by decide +kernel
  have s5 : ((Str.ofString "tap") == (Str.ofString "none")) = false := by decide +kernel
  have s6 : ((Str.ofString "tap") == (Str.ofString "look")) = false := by decide +kernel
  have t1 : ((Str.ofString "none") == (Str.ofString "none")) = true := by decide +kernel
  have t2 : ((Str.ofString "look") == (Str.ofString "look")) = true := by decide +kernel
  have t3 : ((Str.ofString "tap") == (Str.ofString "tap")) = true := by decide +kernel
  cases a <;> cases b <;> simp only [eHd, Ev.eqT, eqTs, s1, s2, s3, s4, s5, s6, t1, t2, t3, Bool.false_and, Bool.true_and, Bool.and_true] <;> first | rfl | (rw [Bool.eq_iff_iff]; simp)
theorem any_mem {α : Type} [DecidableEq α] {e : α → D} (he : ∀ a b, Ev.eqT (e a) (e b) = decide (a = b)) (xs : List α) (a : α) : ((xs.map e).any fun y => Ev.eqT y (e a)) = decide (a ∈ xs) := by
  rw [List.any_map, Bool.eq_iff_iff]
  simp [he]
theorem handled_ok (r : Rl) (s : Stand) (hd : Hand) (hl : ∀ l, s.look = some l → 0 ≤ l.place) (ht : hd = .tap → s.look ≠ none) : ∃ g, Fhandled [eR r, eS s, eHd hd] [] = .ret (.tup [eS (handled r s hd).1, .str (handled r s hd).2], g) := by
  cases hd with
  | none =>
    apply F_retN rfl (by simp only [List.map_cons, List.map_nil, List.length_cons, List.length_nil, Nat.reduceAdd, Nat.reduceSub, List.replicate_succ, List.replicate_zero, List.cons_append, List.nil_append, List.set_cons_succ, List.set_cons_zero]; rfl)
    · unfold bhandled; repeat' (first | (with_reducible exact eqC (b := false) _ (by decide +kernel)) | (with_reducible apply r_isSet; (first | (simp only [List.map_cons, List.map_nil, List.length_cons, List.length_nil, Nat.reduceAdd, Nat.reduceSub, List.replicate_succ, List.replicate_zero, List.cons_append, List.nil_append, List.set_cons_succ, List.set_cons_zero]; done) | (simp only [List.map_cons, List.map_nil, List.length_cons, List.length_nil, Nat.reduceAdd, Nat.reduceSub, List.replicate_succ, List.replicate_zero, List.cons_append, List.nil_append, List.set_cons_succ, List.set_cons_zero]; rfl))) | (with_reducible rfl) | (with_reducible exact r_nx) | (with_reducible exact r_c) | (with_reducible exact r_nil) | (with_reducible exact r_no) | (with_reducible exact r_pnil) | (with_reducible exact r_gend) | exact Nat.le_of_ble_eq_true rfl | (with_reducible apply r_seqK_nx) | (with_reducible apply r_seqK) | (with_reducible apply r_ifK) | (with_reducible apply r_tandK) | (with_reducible apply r_torK) | (with_reducible apply r_andK) | (with_reducible apply r_orK) | (with_reducible apply r_ifxK) | (with_reducible apply r_ret) | (with_reducible apply r_setN) | (with_reducible apply r_expr) | (with_reducible apply r_asg) | (with_reducible apply r_parN) | (with_reducible apply r_var) | (with_reducible apply r_1) | (with_reducible apply r_tup) | (with_reducible apply r_lst) | (with_reducible apply r_fz) | (with_reducible apply r_2) | (with_reducible apply r_cons) | (with_reducible apply r_N) | (with_reducible apply r_t2) | (with_reducible apply r_tval) | (with_reducible apply r_tnot) | (with_reducible apply r_not) | (with_reducible apply r_cmpV) | (with_reducible apply r_gtup) | (with_reducible apply r_gand) | (with_reducible apply r_gset) | (with_reducible apply r_sl) | (with_reducible apply r_part) | (with_reducible apply r_M) | (with_reducible apply r_aug) | (with_reducible apply r_chainK) | (with_reducible apply r_bind2) | (with_reducible apply r_tchain) | (with_reducible apply r_fld) | (with_reducible apply r_disp) | (with_reducible apply r_pcons) | (with_reducible apply r_itet; focus (first | assumption | with_reducible rfl | (simp_all; done) | (simp_all; omega))) | (with_reducible apply r_itef; focus (first | assumption | with_reducible rfl | (simp_all; done) | (simp_all; omega))) | (simp only [List.map_cons, List.map_nil, List.length_cons, List.length_nil, Nat.reduceAdd, Nat.reduceSub, List.replicate_succ, List.replicate_zero, List.cons_append, List.nil_append, List.set_cons_succ, List.set_cons_zero]; done) | (simp only [List.map_cons, List.map_nil, List.length_cons, List.length_nil, Nat.reduceAdd, Nat.reduceSub, List.replicate_succ, List.replicate_zero, List.cons_append, List.nil_append, List.set_cons_succ, List.set_cons_zero]; rfl) | rfl | exact eqC (b := false) _ (by decide +kernel))
    · rfl
    · rfl
  | look p =>
    apply F_retN rfl (by simp only [List.map_cons, List.map_nil, List.length_cons, List.length_nil, Nat.reduceAdd, Nat.reduceSub, List.replicate_succ, List.replicate_zero, List.cons_append, List.nil_append, List.set_cons_succ, List.set_cons_zero]; rfl)
    · unfold bhandled; repeat' (first | (with_reducible exact eqC (b := true) _ (by decide +kernel)) | (with_reducible apply r_isSet; (first | (simp only [List.map_cons, List.map_nil, List.length_cons, List.length_nil, Nat.reduceAdd, Nat.reduceSub, List.replicate_succ, List.replicate_zero, List.cons_append, List.nil_append, List.set_cons_succ, List.set_cons_zero]; done) | (simp only [List.map_cons, List.map_nil, List.length_cons, List.length_nil, Nat.reduceAdd, Nat.reduceSub, List.replicate_succ, List.replicate_zero, List.cons_append, List.nil_append, List.set_cons_succ, List.set_cons_zero]; rfl))) | (with_reducible rfl) | (with_reducible exact r_nx) | (with_reducible exact r_c) | (with_reducible exact r_nil) | (with_reducible exact r_no) | (with_reducible exact r_pnil) | (with_reducible exact r_gend) | exact Nat.le_of_ble_eq_true rfl | (with_reducible apply r_seqK_nx) | (with_reducible apply r_seqK) | (with_reducible apply r_ifK) | (with_reducible apply r_tandK) | (with_reducible apply r_torK) | (with_reducible apply r_andK) | (with_reducible apply r_orK) | (with_reducible apply r_ifxK) | (with_reducible apply r_ret) | (with_reducible apply r_setN) | (with_reducible apply r_expr) | (with_reducible apply r_asg) | (with_reducible apply r_parN) | (with_reducible apply r_var) | (with_reducible apply r_1) | (with_reducible apply r_tup) | (with_reducible apply r_lst) | (with_reducible apply r_fz) | (with_reducible apply r_2) | (with_reducible apply r_cons) | (with_reducible apply r_N) | (with_reducible apply r_t2) | (with_reducible apply r_tval) | (with_reducible apply r_tnot) | (with_reducible apply r_not) | (with_reducible apply r_cmpV) | (with_reducible apply r_gtup) | (with_reducible apply r_gand) | (with_reducible apply r_gset) | (with_reducible apply r_sl) | (with_reducible apply r_part) | (with_reducible apply r_M) | (with_reducible apply r_aug) | (with_reducible apply r_chainK) | (with_reducible apply r_bind2) | (with_reducible apply r_tchain) | (with_reducible apply r_fld) | (with_reducible apply r_disp) | (with_reducible apply r_pcons) | (with_reducible apply r_itet; focus (first | assumption | with_reducible rfl | (simp_all; done) | (simp_all; omega))) | (with_reducible apply r_itef; focus (first | assumption | with_reducible rfl | (simp_all; done) | (simp_all; omega))) | (simp only [List.map_cons, List.map_nil, List.length_cons, List.length_nil, Nat.reduceAdd, Nat.reduceSub, List.replicate_succ, List.replicate_zero, List.cons_append, List.nil_append, List.set_cons_succ, List.set_cons_zero]; done) | (simp only [List.map_cons, List.map_nil, List.length_cons, List.length_nil, Nat.reduceAdd, Nat.reduceSub, List.replicate_succ, List.replicate_zero, List.cons_append, List.nil_append, List.set_cons_succ, List.set_cons_zero]; rfl) | rfl | exact eqC (b := true) _ (by decide +kernel))
    · rfl
    · rfl
  | tap =>
    cases hk : s.look with
    | none => exact absurd hk (ht rfl)
    | some l =>
      have eS' : eS s = .tup [eSh s.shown, eW s.waiting, .int s.quiet, eL (some l)] := by rw [← hk]; rfl
      have p := pure_ret [] (outcome_ok r s.shown l (hl l hk)) (by simp [noLs, nl_R, nl_Sh, nl_L]) rfl
      rw [eS']
      apply F_retN rfl (by simp only [List.map_cons, List.map_nil, List.length_cons, List.length_nil, Nat.reduceAdd, Nat.reduceSub, List.replicate_succ, List.replicate_zero, List.cons_append, List.nil_append, List.set_cons_succ, List.set_cons_zero]; rfl)
      · unfold bhandled; repeat' (first | (with_reducible exact eqC (b := true) _ (by decide +kernel)) | (with_reducible exact eqC (b := false) _ (by decide +kernel)) | (with_reducible exact p) | (with_reducible apply r_isSet; (first | (simp only [List.map_cons, List.map_nil, List.length_cons, List.length_nil, Nat.reduceAdd, Nat.reduceSub, List.replicate_succ, List.replicate_zero, List.cons_append, List.nil_append, List.set_cons_succ, List.set_cons_zero]; done) | (simp only [List.map_cons, List.map_nil, List.length_cons, List.length_nil, Nat.reduceAdd, Nat.reduceSub, List.replicate_succ, List.replicate_zero, List.cons_append, List.nil_append, List.set_cons_succ, List.set_cons_zero]; rfl))) | (with_reducible rfl) | (with_reducible exact r_nx) | (with_reducible exact r_c) | (with_reducible exact r_nil) | (with_reducible exact r_no) | (with_reducible exact r_pnil) | (with_reducible exact r_gend) | exact Nat.le_of_ble_eq_true rfl | (with_reducible apply r_seqK_nx) | (with_reducible apply r_seqK) | (with_reducible apply r_ifK) | (with_reducible apply r_tandK) | (with_reducible apply r_torK) | (with_reducible apply r_andK) | (with_reducible apply r_orK) | (with_reducible apply r_ifxK) | (with_reducible apply r_ret) | (with_reducible apply r_setN) | (with_reducible apply r_expr) | (with_reducible apply r_asg) | (with_reducible apply r_parN) | (with_reducible apply r_var) | (with_reducible apply r_1) | (with_reducible apply r_tup) | (with_reducible apply r_lst) | (with_reducible apply r_fz) | (with_reducible apply r_2) | (with_reducible apply r_cons) | (with_reducible apply r_N) | (with_reducible apply r_t2) | (with_reducible apply r_tval) | (with_reducible apply r_tnot) | (with_reducible apply r_not) | (with_reducible apply r_cmpV) | (with_reducible apply r_gtup) | (with_reducible apply r_gand) | (with_reducible apply r_gset) | (with_reducible apply r_sl) | (with_reducible apply r_part) | (with_reducible apply r_M) | (with_reducible apply r_aug) | (with_reducible apply r_chainK) | (with_reducible apply r_bind2) | (with_reducible apply r_tchain) | (with_reducible apply r_fld) | (with_reducible apply r_disp) | (with_reducible apply r_pcons) | (with_reducible apply r_itet; focus (first | assumption | with_reducible rfl | (simp_all; done) | (simp_all; omega))) | (with_reducible apply r_itef; focus (first | assumption | with_reducible rfl | (simp_all; done) | (simp_all; omega))) | (simp only [List.map_cons, List.map_nil, List.length_cons, List.length_nil, Nat.reduceAdd, Nat.reduceSub, List.replicate_succ, List.replicate_zero, List.cons_append, List.nil_append, List.set_cons_succ, List.set_cons_zero]; done) | (simp only [List.map_cons, List.map_nil, List.length_cons, List.length_nil, Nat.reduceAdd, Nat.reduceSub, List.replicate_succ, List.replicate_zero, List.cons_append, List.nil_append, List.set_cons_succ, List.set_cons_zero]; rfl) | rfl | exact eqC (b := true) _ (by decide +kernel) | exact eqC (b := false) _ (by decide +kernel) | exact p)
      · rfl
      · simp [handled, hk, eS, eL]
/-! ### looks at values -/
theorem num_ok (i : Int) : ∃ g, Fis_number [.int i] [] = .ret (.bl true, g) := by
  apply F_retN rfl (by simp only [List.map_cons, List.map_nil, List.length_cons, List.length_nil, Nat.reduceAdd, Nat.reduceSub, List.replicate_succ, List.replicate_zero, List.cons_append, List.nil_append, List.set_cons_succ, List.set_cons_zero]; rfl)
  · unfold bis_number; repeat' (first | (with_reducible apply r_isSet; (first | (simp only [List.map_cons, List.map_nil, List.length_cons, List.length_nil, Nat.reduceAdd, Nat.reduceSub, List.replicate_succ, List.replicate_zero, List.cons_append, List.nil_append, List.set_cons_succ, List.set_cons_zero]; done) | (simp only [List.map_cons, List.map_nil, List.length_cons, List.length_nil, Nat.reduceAdd, Nat.reduceSub, List.replicate_succ, List.replicate_zero, List.cons_append, List.nil_append, List.set_cons_succ, List.set_cons_zero]; rfl))) | (with_reducible rfl) | (with_reducible exact r_nx) | (with_reducible exact r_c) | (with_reducible exact r_nil) | (with_reducible exact r_no) | (with_reducible exact r_pnil) | (with_reducible exact r_gend) | exact Nat.le_of_ble_eq_true rfl | (with_reducible apply r_seqK_nx) | (with_reducible apply r_seqK) | (with_reducible apply r_ifK) | (with_reducible apply r_tandK) | (with_reducible apply r_torK) | (with_reducible apply r_andK) | (with_reducible apply r_orK) | (with_reducible apply r_ifxK) | (with_reducible apply r_ret) | (with_reducible apply r_setN) | (with_reducible apply r_expr) | (with_reducible apply r_asg) | (with_reducible apply r_parN) | (with_reducible apply r_var) | (with_reducible apply r_1) | (with_reducible apply r_tup) | (with_reducible apply r_lst) | (with_reducible apply r_fz) | (with_reducible apply r_2) | (with_reducible apply r_cons) | (with_reducible apply r_N) | (with_reducible apply r_t2) | (with_reducible apply r_tval) | (with_reducible apply r_tnot) | (with_reducible apply r_not) | (with_reducible apply r_cmpV) | (with_reducible apply r_gtup) | (with_reducible apply r_gand) | (with_reducible apply r_gset) | (with_reducible apply r_sl) | (with_reducible apply r_part) | (with_reducible apply r_M) | (with_reducible apply r_aug) | (with_reducible apply r_chainK) | (with_reducible apply r_bind2) | (with_reducible apply r_tchain) | (with_reducible apply r_fld) | (with_reducible apply r_disp) | (with_reducible apply r_pcons) | (with_reducible apply r_itet; focus (first | assumption | with_reducible rfl | (simp_all; done) | (simp_all; omega))) | (with_reducible apply r_itef; focus (first | assumption | with_reducible rfl | (simp_all; done) | (simp_all; omega))) | (simp only [List.map_cons, List.map_nil, List.length_cons, List.length_nil, Nat.reduceAdd, Nat.reduceSub, List.replicate_succ, List.replicate_zero, List.cons_append, List.nil_append, List.set_cons_succ, List.set_cons_zero]; done) | (simp only [List.map_cons, List.map_nil, List.length_cons, List.length_nil, Nat.reduceAdd, Nat.reduceSub, List.replicate_succ, List.replicate_zero, List.cons_append, List.nil_append, List.set_cons_succ, List.set_cons_zero]; rfl) | rfl)
  · rfl
  · rfl
theorem num_bl (b : Bool) : ∃ g, Fis_number [.bl b] [] = .ret (.bl false, g) := by
  apply F_retN rfl (by simp only [List.map_cons, List.map_nil, List.length_cons, List.length_nil, Nat.reduceAdd, Nat.reduceSub, List.replicate_succ, List.replicate_zero, List.cons_append, List.nil_append, List.set_cons_succ, List.set_cons_zero]; rfl)
  · unfold bis_number; repeat' (first | (with_reducible apply r_isSet; (first | (simp only [List.map_cons, List.map_nil, List.length_cons, List.length_nil, Nat.reduceAdd, Nat.reduceSub, List.replicate_succ, List.replicate_zero, List.cons_append, List.nil_append, List.set_cons_succ, List.set_cons_zero]; done) | (simp only [List.map_cons, List.map_nil, List.length_cons, List.length_nil, Nat.reduceAdd, Nat.reduceSub, List.replicate_succ, List.replicate_zero, List.cons_append, List.nil_append, List.set_cons_succ, List.set_cons_zero]; rfl))) | (with_reducible rfl) | (with_reducible exact r_nx) | (with_reducible exact r_c) | (with_reducible exact r_nil) | (with_reducible exact r_no) | (with_reducible exact r_pnil) | (with_reducible exact r_gend) | exact Nat.le_of_ble_eq_true rfl | (with_reducible apply r_seqK_nx) | (with_reducible apply r_seqK) | (with_reducible apply r_ifK) | (with_reducible apply r_tandK) | (with_reducible apply r_torK) | (with_reducible apply r_andK) | (with_reducible apply r_orK) | (with_reducible apply r_ifxK) | (with_reducible apply r_ret) | (with_reducible apply r_setN) | (with_reducible apply r_expr) | (with_reducible apply r_asg) | (with_reducible apply r_parN) | (with_reducible apply r_var) | (with_reducible apply r_1) | (with_reducible apply r_tup) | (with_reducible apply r_lst) | (with_reducible apply r_fz) | (with_reducible apply r_2) | (with_reducible apply r_cons) | (with_reducible apply r_N) | (with_reducible apply r_t2) | (with_reducible apply r_tval) | (with_reducible apply r_tnot) | (with_reducible apply r_not) | (with_reducible apply r_cmpV) | (with_reducible apply r_gtup) | (with_reducible apply r_gand) | (with_reducible apply r_gset) | (with_reducible apply r_sl) | (with_reducible apply r_part) | (with_reducible apply r_M) | (with_reducible apply r_aug) | (with_reducible apply r_chainK) | (with_reducible apply r_bind2) | (with_reducible apply r_tchain) | (with_reducible apply r_fld) | (with_reducible apply r_disp) | (with_reducible apply r_pcons) | (with_reducible apply r_itet; focus (first | assumption | with_reducible rfl | (simp_all; done) | (simp_all; omega))) | (with_reducible apply r_itef; focus (first | assumption | with_reducible rfl | (simp_all; done) | (simp_all; omega))) | (simp only [List.map_cons, List.map_nil, List.length_cons, List.length_nil, Nat.reduceAdd, Nat.reduceSub, List.replicate_succ, List.replicate_zero, List.cons_append, List.nil_append, List.set_cons_succ, List.set_cons_zero]; done) | (simp only [List.map_cons, List.map_nil, List.length_cons, List.length_nil, Nat.reduceAdd, Nat.reduceSub, List.replicate_succ, List.replicate_zero, List.cons_append, List.nil_append, List.set_cons_succ, List.set_cons_zero]; rfl) | rfl)
  · rfl
  · rfl
theorem within_ok (i a b : Int) : ∃ g, Fis_number_within [.int i, .int a, .int b] [] = .ret (.bl (decide (a ≤ i) && decide (i ≤ b)), g) := by
  have p := pure_ret [] (num_ok i) rfl rfl
  by_cases h : a ≤ i
  · apply F_retN rfl (by simp only [List.map_cons, List.map_nil, List.length_cons, List.length_nil, Nat.reduceAdd, Nat.reduceSub, List.replicate_succ, List.replicate_zero, List.cons_append, List.nil_append, List.set_cons_succ, List.set_cons_zero]; rfl)
    · unfold bis_number_within; repeat' (first | (with_reducible exact p) | (with_reducible apply r_isSet; (first | (simp only [List.map_cons, List.map_nil, List.length_cons, List.length_nil, Nat.reduceAdd, Nat.reduceSub, List.replicate_succ, List.replicate_zero, List.cons_append, List.nil_append, List.set_cons_succ, List.set_cons_zero]; done) | (simp only [List.map_cons, List.map_nil, List.length_cons, List.length_nil, Nat.reduceAdd, Nat.reduceSub, List.replicate_succ, List.replicate_zero, List.cons_append, List.nil_append, List.set_cons_succ, List.set_cons_zero]; rfl))) | (with_reducible rfl) | (with_reducible exact r_nx) | (with_reducible exact r_c) | (with_reducible exact r_nil) | (with_reducible exact r_no) | (with_reducible exact r_pnil) | (with_reducible exact r_gend) | exact Nat.le_of_ble_eq_true rfl | (with_reducible apply r_seqK_nx) | (with_reducible apply r_seqK) | (with_reducible apply r_ifK) | (with_reducible apply r_tandK) | (with_reducible apply r_torK) | (with_reducible apply r_andK) | (with_reducible apply r_orK) | (with_reducible apply r_ifxK) | (with_reducible apply r_ret) | (with_reducible apply r_setN) | (with_reducible apply r_expr) | (with_reducible apply r_asg) | (with_reducible apply r_parN) | (with_reducible apply r_var) | (with_reducible apply r_1) | (with_reducible apply r_tup) | (with_reducible apply r_lst) | (with_reducible apply r_fz) | (with_reducible apply r_2) | (with_reducible apply r_cons) | (with_reducible apply r_N) | (with_reducible apply r_t2) | (with_reducible apply r_tval) | (with_reducible apply r_tnot) | (with_reducible apply r_not) | (with_reducible apply r_cmpV) | (with_reducible apply r_gtup) | (with_reducible apply r_gand) | (with_reducible apply r_gset) | (with_reducible apply r_sl) | (with_reducible apply r_part) | (with_reducible apply r_M) | (with_reducible apply r_aug) | (with_reducible apply r_chainK) | (with_reducible apply r_bind2) | (with_reducible apply r_tchain) | (with_reducible apply r_fld) | (with_reducible apply r_disp) | (with_reducible apply r_pcons) | (with_reducible apply r_itet; focus (first | assumption | with_reducible rfl | (simp_all; done) | (simp_all; omega))) | (with_reducible apply r_itef; focus (first | assumption | with_reducible rfl | (simp_all; done) | (simp_all; omega))) | (simp only [List.map_cons, List.map_nil, List.length_cons, List.length_nil, Nat.reduceAdd, Nat.reduceSub, List.replicate_succ, List.replicate_zero, List.cons_append, List.nil_append, List.set_cons_succ, List.set_cons_zero]; done) | (simp only [List.map_cons, List.map_nil, List.length_cons, List.length_nil, Nat.reduceAdd, Nat.reduceSub, List.replicate_succ, List.replicate_zero, List.cons_append, List.nil_append, List.set_cons_succ, List.set_cons_zero]; rfl) | rfl | exact p)
    · rfl
    · simp [h]
  · apply F_retN rfl (by simp only [List.map_cons, List.map_nil, List.length_cons, List.length_nil, Nat.reduceAdd, Nat.reduceSub, List.replicate_succ, List.replicate_zero, List.cons_append, List.nil_append, List.set_cons_succ, List.set_cons_zero]; rfl)
    · unfold bis_number_within; repeat' (first | (with_reducible exact p) | (with_reducible apply r_isSet; (first | (simp only [List.map_cons, List.map_nil, List.length_cons, List.length_nil, Nat.reduceAdd, Nat.reduceSub, List.replicate_succ, List.replicate_zero, List.cons_append, List.nil_append, List.set_cons_succ, List.set_cons_zero]; done) | (simp only [List.map_cons, List.map_nil, List.length_cons, List.length_nil, Nat.reduceAdd, Nat.reduceSub, List.replicate_succ, List.replicate_zero, List.cons_append, List.nil_append, List.set_cons_succ, List.set_cons_zero]; rfl))) | (with_reducible rfl) | (with_reducible exact r_nx) | (with_reducible exact r_c) | (with_reducible exact r_nil) | (with_reducible exact r_no) | (with_reducible exact r_pnil) | (with_reducible exact r_gend) | exact Nat.le_of_ble_eq_true rfl | (with_reducible apply r_seqK_nx) | (with_reducible apply r_seqK) | (with_reducible apply r_ifK) | (with_reducible apply r_tandK) | (with_reducible apply r_torK) | (with_reducible apply r_andK) | (with_reducible apply r_orK) | (with_reducible apply r_ifxK) | (with_reducible apply r_ret) | (with_reducible apply r_setN) | (with_reducible apply r_expr) | (with_reducible apply r_asg) | (with_reducible apply r_parN) | (with_reducible apply r_var) | (with_reducible apply r_1) | (with_reducible apply r_tup) | (with_reducible apply r_lst) | (with_reducible apply r_fz) | (with_reducible apply r_2) | (with_reducible apply r_cons) | (with_reducible apply r_N) | (with_reducible apply r_t2) | (with_reducible apply r_tval) | (with_reducible apply r_tnot) | (with_reducible apply r_not) | (with_reducible apply r_cmpV) | (with_reducible apply r_gtup) | (with_reducible apply r_gand) | (with_reducible apply r_gset) | (with_reducible apply r_sl) | (with_reducible apply r_part) | (with_reducible apply r_M) | (with_reducible apply r_aug) | (with_reducible apply r_chainK) | (with_reducible apply r_bind2) | (with_reducible apply r_tchain) | (with_reducible apply r_fld) | (with_reducible apply r_disp) | (with_reducible apply r_pcons) | (with_reducible apply r_itet; focus (first | assumption | with_reducible rfl | (simp_all; done) | (simp_all; omega))) | (with_reducible apply r_itef; focus (first | assumption | with_reducible rfl | (simp_all; done) | (simp_all; omega))) | (simp only [List.map_cons, List.map_nil, List.length_cons, List.length_nil, Nat.reduceAdd, Nat.reduceSub, List.replicate_succ, List.replicate_zero, List.cons_append, List.nil_append, List.set_cons_succ, List.set_cons_zero]; done) | (simp only [List.map_cons, List.map_nil, List.length_cons, List.length_nil, Nat.reduceAdd, Nat.reduceSub, List.replicate_succ, List.replicate_zero, List.cons_append, List.nil_append, List.set_cons_succ, List.set_cons_zero]; rfl) | rfl | exact p)
    · rfl
    · simp [h]
theorem within_p (i a b : Int) (h : List O) : oPure Fis_number_within [.int i, .int a, .int b] h = .ret (.bl (decide (a ≤ i) && decide (i ≤ b)), h) := pure_ret h (within_ok i a b) rfl rfl
theorem within_t {i a b : Int} (q : a ≤ i ∧ i ≤ b) (h : List O) : oPure Fis_number_within [.int i, .int a, .int b] h = .ret (.bl true, h) := by rw [within_p]; simp [q]
theorem alls_true {k : Nat} {h : List O} : oBls (fun bs => bs.all id) [.lst (List.replicate k (.bl true))] h = .ret (.bl true, h) := by
  have key : ∀ k, mapO oBlD (List.replicate k (.bl true)) = some (List.replicate k true) := by
    intro k
    induction k with
    | zero => rfl
    | succ k ih => simp only [List.replicate_succ, mapO, oBlD, ih]
  unfold oBls lstD
  dsimp only
  rw [key]
  dsimp only
  rw [show (List.replicate k true).all id = true by simp]
theorem ranks_ok (hs : Hs) (ws : List Int) (most : Int) (hl : (ws.length : Int) ≤ most) (h10 : ws.length ≤ 10) (hr : ∀ r ∈ ws, 0 ≤ r ∧ r ≤ hs.top) : ∃ g, Fare_ranks [eH hs, eW ws, .int most] [] = .ret (.bl true, g) := by
  have ln : ∀ h, oLenA [eW ws] h = .ret (.int (ws.length : Nat), h) := fun h => len_tup (by simp) h
  have lc : fLc [3] (fSrc noF (fVar 1)) (gSet 3) tTrue (fN (oPure Fis_number_within) (fCons (fVar 3) (fCons (fC (.int 0)) (fCons (f1 (oFld 1 2) (fVar 0)) fNil)))) [some (eH hs), some (eW ws), some (.int most), none] [] = .ret (.lst (List.replicate ws.length (.bl true)), []) := by
    rw [lcM (e := D.int) (fun _ => .bl true) (sr_tup ws D.int rfl rfl) (by omega) (fun y hy => body_some (s1 := [some (eH hs), some (eW ws), some (.int most), some (.int y)]) rfl rfl (r_N (r_cons rfl (r_cons r_c (r_cons rfl r_nil))) (within_t (hr y hy) _)))]
    rw [List.map_const']
  apply F_retN rfl (by simp only [List.map_cons, List.map_nil, List.length_cons, List.length_nil, Nat.reduceAdd, Nat.reduceSub, List.replicate_succ, List.replicate_zero, List.cons_append, List.nil_append, List.set_cons_succ, List.set_cons_zero]; rfl)
  · unfold bare_ranks; repeat' (first | (with_reducible exact ln _) | (with_reducible exact lc) | (with_reducible exact alls_true) | (with_reducible apply r_isSet; (first | (simp only [List.map_cons, List.map_nil, List.length_cons, List.length_nil, Nat.reduceAdd, Nat.reduceSub, List.replicate_succ, List.replicate_zero, List.cons_append, List.nil_append, List.set_cons_succ, List.set_cons_zero]; done) | (simp only [List.map_cons, List.map_nil, List.length_cons, List.length_nil, Nat.reduceAdd, Nat.reduceSub, List.replicate_succ, List.replicate_zero, List.cons_append, List.nil_append, List.set_cons_succ, List.set_cons_zero]; rfl))) | (with_reducible rfl) | (with_reducible exact r_nx) | (with_reducible exact r_c) | (with_reducible exact r_nil) | (with_reducible exact r_no) | (with_reducible exact r_pnil) | (with_reducible exact r_gend) | exact Nat.le_of_ble_eq_true rfl | (with_reducible apply r_seqK_nx) | (with_reducible apply r_seqK) | (with_reducible apply r_ifK) | (with_reducible apply r_tandK) | (with_reducible apply r_torK) | (with_reducible apply r_andK) | (with_reducible apply r_orK) | (with_reducible apply r_ifxK) | (with_reducible apply r_ret) | (with_reducible apply r_setN) | (with_reducible apply r_expr) | (with_reducible apply r_asg) | (with_reducible apply r_parN) | (with_reducible apply r_var) | (with_reducible apply r_1) | (with_reducible apply r_tup) | (with_reducible apply r_lst) | (with_reducible apply r_fz) | (with_reducible apply r_2) | (with_reducible apply r_cons) | (with_reducible apply r_N) | (with_reducible apply r_t2) | (with_reducible apply r_tval) | (with_reducible apply r_tnot) | (with_reducible apply r_not) | (with_reducible apply r_cmpV) | (with_reducible apply r_gtup) | (with_reducible apply r_gand) | (with_reducible apply r_gset) | (with_reducible apply r_sl) | (with_reducible apply r_part) | (with_reducible apply r_M) | (with_reducible apply r_aug) | (with_reducible apply r_chainK) | (with_reducible apply r_bind2) | (with_reducible apply r_tchain) | (with_reducible apply r_fld) | (with_reducible apply r_disp) | (with_reducible apply r_pcons) | (with_reducible apply r_itet; focus (first | assumption | with_reducible rfl | (simp_all; done) | (simp_all; omega))) | (with_reducible apply r_itef; focus (first | assumption | with_reducible rfl | (simp_all; done) | (simp_all; omega))) | (simp only [List.map_cons, List.map_nil, List.length_cons, List.length_nil, Nat.reduceAdd, Nat.reduceSub, List.replicate_succ, List.replicate_zero, List.cons_append, List.nil_append, List.set_cons_succ, List.set_cons_zero]; done) | (simp only [List.map_cons, List.map_nil, List.length_cons, List.length_nil, Nat.reduceAdd, Nat.reduceSub, List.replicate_succ, List.replicate_zero, List.cons_append, List.nil_append, List.set_cons_succ, List.set_cons_zero]; rfl) | rfl | exact ln _ | exact lc | exact alls_true)
  · rfl
  · rfl
theorem item_ok (hs : Hs) (i : Item) (ok : OkI hs i) : ∃ g, Fis_item [eH hs, eI i] [] = .ret (.bl true, g) := by
  have w1 := within_t ok.rank []
  have w2 := within_t ok.stood []
  cases hg : i.gone with
  | true =>
    have := ok.gone hg
    have e : eI i = .tup [.int i.rank, .bl true, .int i.stood] := by rw [← hg]; rfl
    rw [e]
    apply F_retN rfl (by simp only [List.map_cons, List.map_nil, List.length_cons, List.length_nil, Nat.reduceAdd, Nat.reduceSub, List.replicate_succ, List.replicate_zero, List.cons_append, List.nil_append, List.set_cons_succ, List.set_cons_zero]; rfl)
    · unfold bis_item; repeat' (first | (with_reducible exact w1) | (with_reducible exact w2) | (with_reducible exact eqI _ _ _ _) | (with_reducible apply r_isSet; (first | (simp only [List.map_cons, List.map_nil, List.length_cons, List.length_nil, Nat.reduceAdd, Nat.reduceSub, List.replicate_succ, List.replicate_zero, List.cons_append, List.nil_append, List.set_cons_succ, List.set_cons_zero]; done) | (simp only [List.map_cons, List.map_nil, List.length_cons, List.length_nil, Nat.reduceAdd, Nat.reduceSub, List.replicate_succ, List.replicate_zero, List.cons_append, List.nil_append, List.set_cons_succ, List.set_cons_zero]; rfl))) | (with_reducible rfl) | (with_reducible exact r_nx) | (with_reducible exact r_c) | (with_reducible exact r_nil) | (with_reducible exact r_no) | (with_reducible exact r_pnil) | (with_reducible exact r_gend) | exact Nat.le_of_ble_eq_true rfl | (with_reducible apply r_seqK_nx) | (with_reducible apply r_seqK) | (with_reducible apply r_ifK) | (with_reducible apply r_tandK) | (with_reducible apply r_torK) | (with_reducible apply r_andK) | (with_reducible apply r_orK) | (with_reducible apply r_ifxK) | (with_reducible apply r_ret) | (with_reducible apply r_setN) | (with_reducible apply r_expr) | (with_reducible apply r_asg) | (with_reducible apply r_parN) | (with_reducible apply r_var) | (with_reducible apply r_1) | (with_reducible apply r_tup) | (with_reducible apply r_lst) | (with_reducible apply r_fz) | (with_reducible apply r_2) | (with_reducible apply r_cons) | (with_reducible apply r_N) | (with_reducible apply r_t2) | (with_reducible apply r_tval) | (with_reducible apply r_tnot) | (with_reducible apply r_not) | (with_reducible apply r_cmpV) | (with_reducible apply r_gtup) | (with_reducible apply r_gand) | (with_reducible apply r_gset) | (with_reducible apply r_sl) | (with_reducible apply r_part) | (with_reducible apply r_M) | (with_reducible apply r_aug) | (with_reducible apply r_chainK) | (with_reducible apply r_bind2) | (with_reducible apply r_tchain) | (with_reducible apply r_fld) | (with_reducible apply r_disp) | (with_reducible apply r_pcons) | (with_reducible apply r_itet; focus (first | assumption | with_reducible rfl | (simp_all; done) | (simp_all; omega))) | (with_reducible apply r_itef; focus (first | assumption | with_reducible rfl | (simp_all; done) | (simp_all; omega))) | (simp only [List.map_cons, List.map_nil, List.length_cons, List.length_nil, Nat.reduceAdd, Nat.reduceSub, List.replicate_succ, List.replicate_zero, List.cons_append, List.nil_append, List.set_cons_succ, List.set_cons_zero]; done) | (simp only [List.map_cons, List.map_nil, List.length_cons, List.length_nil, Nat.reduceAdd, Nat.reduceSub, List.replicate_succ, List.replicate_zero, List.cons_append, List.nil_append, List.set_cons_succ, List.set_cons_zero]; rfl) | rfl | exact w1 | exact w2 | exact eqI _ _ _ _)
    · rfl
    · rfl
  | false =>
    have e : eI i = .tup [.int i.rank, .bl false, .int i.stood] := by rw [← hg]; rfl
    rw [e]
    apply F_retN rfl (by simp only [List.map_cons, List.map_nil, List.length_cons, List.length_nil, Nat.reduceAdd, Nat.reduceSub, List.replicate_succ, List.replicate_zero, List.cons_append, List.nil_append, List.set_cons_succ, List.set_cons_zero]; rfl)
    · unfold bis_item; repeat' (first | (with_reducible exact w1) | (with_reducible exact w2) | (with_reducible exact eqI _ _ _ _) | (with_reducible apply r_isSet; (first | (simp only [List.map_cons, List.map_nil, List.length_cons, List.length_nil, Nat.reduceAdd, Nat.reduceSub, List.replicate_succ, List.replicate_zero, List.cons_append, List.nil_append, List.set_cons_succ, List.set_cons_zero]; done) | (simp only [List.map_cons, List.map_nil, List.length_cons, List.length_nil, Nat.reduceAdd, Nat.reduceSub, List.replicate_succ, List.replicate_zero, List.cons_append, List.nil_append, List.set_cons_succ, List.set_cons_zero]; rfl))) | (with_reducible rfl) | (with_reducible exact r_nx) | (with_reducible exact r_c) | (with_reducible exact r_nil) | (with_reducible exact r_no) | (with_reducible exact r_pnil) | (with_reducible exact r_gend) | exact Nat.le_of_ble_eq_true rfl | (with_reducible apply r_seqK_nx) | (with_reducible apply r_seqK) | (with_reducible apply r_ifK) | (with_reducible apply r_tandK) | (with_reducible apply r_torK) | (with_reducible apply r_andK) | (with_reducible apply r_orK) | (with_reducible apply r_ifxK) | (with_reducible apply r_ret) | (with_reducible apply r_setN) | (with_reducible apply r_expr) | (with_reducible apply r_asg) | (with_reducible apply r_parN) | (with_reducible apply r_var) | (with_reducible apply r_1) | (with_reducible apply r_tup) | (with_reducible apply r_lst) | (with_reducible apply r_fz) | (with_reducible apply r_2) | (with_reducible apply r_cons) | (with_reducible apply r_N) | (with_reducible apply r_t2) | (with_reducible apply r_tval) | (with_reducible apply r_tnot) | (with_reducible apply r_not) | (with_reducible apply r_cmpV) | (with_reducible apply r_gtup) | (with_reducible apply r_gand) | (with_reducible apply r_gset) | (with_reducible apply r_sl) | (with_reducible apply r_part) | (with_reducible apply r_M) | (with_reducible apply r_aug) | (with_reducible apply r_chainK) | (with_reducible apply r_bind2) | (with_reducible apply r_tchain) | (with_reducible apply r_fld) | (with_reducible apply r_disp) | (with_reducible apply r_pcons) | (with_reducible apply r_itet; focus (first | assumption | with_reducible rfl | (simp_all; done) | (simp_all; omega))) | (with_reducible apply r_itef; focus (first | assumption | with_reducible rfl | (simp_all; done) | (simp_all; omega))) | (simp only [List.map_cons, List.map_nil, List.length_cons, List.length_nil, Nat.reduceAdd, Nat.reduceSub, List.replicate_succ, List.replicate_zero, List.cons_append, List.nil_append, List.set_cons_succ, List.set_cons_zero]; done) | (simp only [List.map_cons, List.map_nil, List.length_cons, List.length_nil, Nat.reduceAdd, Nat.reduceSub, List.replicate_succ, List.replicate_zero, List.cons_append, List.nil_append, List.set_cons_succ, List.set_cons_zero]; rfl) | rfl | exact w1 | exact w2 | exact eqI _ _ _ _)
    · rfl
    · rfl
theorem look_ok (hs : Hs) (l : Option Look) (n : Nat) (ok : ∀ k, l = some k → OkL hs n k) : ∃ g, Fis_look [eH hs, eL l, .int (n : Nat)] [] = .ret (.bl true, g) := by
  cases l with
  | none =>
    apply F_retN rfl (by simp only [List.map_cons, List.map_nil, List.length_cons, List.length_nil, Nat.reduceAdd, Nat.reduceSub, List.replicate_succ, List.replicate_zero, List.cons_append, List.nil_append, List.set_cons_succ, List.set_cons_zero]; rfl)
    · unfold bis_look; repeat' (first | (with_reducible exact eqL none _) | (with_reducible apply r_isSet; (first | (simp only [List.map_cons, List.map_nil, List.length_cons, List.length_nil, Nat.reduceAdd, Nat.reduceSub, List.replicate_succ, List.replicate_zero, List.cons_append, List.nil_append, List.set_cons_succ, List.set_cons_zero]; done) | (simp only [List.map_cons, List.map_nil, List.length_cons, List.length_nil, Nat.reduceAdd, Nat.reduceSub, List.replicate_succ, List.replicate_zero, List.cons_append, List.nil_append, List.set_cons_succ, List.set_cons_zero]; rfl))) | (with_reducible rfl) | (with_reducible exact r_nx) | (with_reducible exact r_c) | (with_reducible exact r_nil) | (with_reducible exact r_no) | (with_reducible exact r_pnil) | (with_reducible exact r_gend) | exact Nat.le_of_ble_eq_true rfl | (with_reducible apply r_seqK_nx) | (with_reducible apply r_seqK) | (with_reducible apply r_ifK) | (with_reducible apply r_tandK) | (with_reducible apply r_torK) | (with_reducible apply r_andK) | (with_reducible apply r_orK) | (with_reducible apply r_ifxK) | (with_reducible apply r_ret) | (with_reducible apply r_setN) | (with_reducible apply r_expr) | (with_reducible apply r_asg) | (with_reducible apply r_parN) | (with_reducible apply r_var) | (with_reducible apply r_1) | (with_reducible apply r_tup) | (with_reducible apply r_lst) | (with_reducible apply r_fz) | (with_reducible apply r_2) | (with_reducible apply r_cons) | (with_reducible apply r_N) | (with_reducible apply r_t2) | (with_reducible apply r_tval) | (with_reducible apply r_tnot) | (with_reducible apply r_not) | (with_reducible apply r_cmpV) | (with_reducible apply r_gtup) | (with_reducible apply r_gand) | (with_reducible apply r_gset) | (with_reducible apply r_sl) | (with_reducible apply r_part) | (with_reducible apply r_M) | (with_reducible apply r_aug) | (with_reducible apply r_chainK) | (with_reducible apply r_bind2) | (with_reducible apply r_tchain) | (with_reducible apply r_fld) | (with_reducible apply r_disp) | (with_reducible apply r_pcons) | (with_reducible apply r_itet; focus (first | assumption | with_reducible rfl | (simp_all; done) | (simp_all; omega))) | (with_reducible apply r_itef; focus (first | assumption | with_reducible rfl | (simp_all; done) | (simp_all; omega))) | (simp only [List.map_cons, List.map_nil, List.length_cons, List.length_nil, Nat.reduceAdd, Nat.reduceSub, List.replicate_succ, List.replicate_zero, List.cons_append, List.nil_append, List.set_cons_succ, List.set_cons_zero]; done) | (simp only [List.map_cons, List.map_nil, List.length_cons, List.length_nil, Nat.reduceAdd, Nat.reduceSub, List.replicate_succ, List.replicate_zero, List.cons_append, List.nil_append, List.set_cons_succ, List.set_cons_zero]; rfl) | rfl | exact eqL none _)
    · rfl
    · rfl
  | some k =>
    have o := ok k rfl
    have w1 := within_t o.age []
    have w2 := within_t o.place []
    have w3 := within_t o.spot []
    apply F_retN rfl (by simp only [List.map_cons, List.map_nil, List.length_cons, List.length_nil, Nat.reduceAdd, Nat.reduceSub, List.replicate_succ, List.replicate_zero, List.cons_append, List.nil_append, List.set_cons_succ, List.set_cons_zero]; rfl)
    · unfold bis_look; repeat' (first | (with_reducible exact eqL (some k) _) | (with_reducible exact w1) | (with_reducible exact w2) | (with_reducible exact w3) | (with_reducible apply r_isSet; (first | (simp only [List.map_cons, List.map_nil, List.length_cons, List.length_nil, Nat.reduceAdd, Nat.reduceSub, List.replicate_succ, List.replicate_zero, List.cons_append, List.nil_append, List.set_cons_succ, List.set_cons_zero]; done) | (simp only [List.map_cons, List.map_nil, List.length_cons, List.length_nil, Nat.reduceAdd, Nat.reduceSub, List.replicate_succ, List.replicate_zero, List.cons_append, List.nil_append, List.set_cons_succ, List.set_cons_zero]; rfl))) | (with_reducible rfl) | (with_reducible exact r_nx) | (with_reducible exact r_c) | (with_reducible exact r_nil) | (with_reducible exact r_no) | (with_reducible exact r_pnil) | (with_reducible exact r_gend) | exact Nat.le_of_ble_eq_true rfl | (with_reducible apply r_seqK_nx) | (with_reducible apply r_seqK) | (with_reducible apply r_ifK) | (with_reducible apply r_tandK) | (with_reducible apply r_torK) | (with_reducible apply r_andK) | (with_reducible apply r_orK) | (with_reducible apply r_ifxK) | (with_reducible apply r_ret) | (with_reducible apply r_setN) | (with_reducible apply r_expr) | (with_reducible apply r_asg) | (with_reducible apply r_parN) | (with_reducible apply r_var) | (with_reducible apply r_1) | (with_reducible apply r_tup) | (with_reducible apply r_lst) | (with_reducible apply r_fz) | (with_reducible apply r_2) | (with_reducible apply r_cons) | (with_reducible apply r_N) | (with_reducible apply r_t2) | (with_reducible apply r_tval) | (with_reducible apply r_tnot) | (with_reducible apply r_not) | (with_reducible apply r_cmpV) | (with_reducible apply r_gtup) | (with_reducible apply r_gand) | (with_reducible apply r_gset) | (with_reducible apply r_sl) | (with_reducible apply r_part) | (with_reducible apply r_M) | (with_reducible apply r_aug) | (with_reducible apply r_chainK) | (with_reducible apply r_bind2) | (with_reducible apply r_tchain) | (with_reducible apply r_fld) | (with_reducible apply r_disp) | (with_reducible apply r_pcons) | (with_reducible apply r_itet; focus (first | assumption | with_reducible rfl | (simp_all; done) | (simp_all; omega))) | (with_reducible apply r_itef; focus (first | assumption | with_reducible rfl | (simp_all; done) | (simp_all; omega))) | (simp only [List.map_cons, List.map_nil, List.length_cons, List.length_nil, Nat.reduceAdd, Nat.reduceSub, List.replicate_succ, List.replicate_zero, List.cons_append, List.nil_append, List.set_cons_succ, List.set_cons_zero]; done) | (simp only [List.map_cons, List.map_nil, List.length_cons, List.length_nil, Nat.reduceAdd, Nat.reduceSub, List.replicate_succ, List.replicate_zero, List.cons_append, List.nil_append, List.set_cons_succ, List.set_cons_zero]; rfl) | rfl | exact eqL (some k) _ | exact w1 | exact w2 | exact w3)
    · rfl
    · rfl
theorem house_ok (hs : Hs) : ∃ g, Fcheck_house [eH hs, .str "house"] [] = .ret (.non, g) := by
  apply F_retN rfl (by simp only [List.map_cons, List.map_nil, List.length_cons, List.length_nil, Nat.reduceAdd, Nat.reduceSub, List.replicate_succ, List.replicate_zero, List.cons_append, List.nil_append, List.set_cons_succ, List.set_cons_zero]; rfl)
  · unfold bcheck_house; repeat' (first | (with_reducible apply r_isSet; (first | (simp only [List.map_cons, List.map_nil, List.length_cons, List.length_nil, Nat.reduceAdd, Nat.reduceSub, List.replicate_succ, List.replicate_zero, List.cons_append, List.nil_append, List.set_cons_succ, List.set_cons_zero]; done) | (simp only [List.map_cons, List.map_nil, List.length_cons, List.length_nil, Nat.reduceAdd, Nat.reduceSub, List.replicate_succ, List.replicate_zero, List.cons_append, List.nil_append, List.set_cons_succ, List.set_cons_zero]; rfl))) | (with_reducible rfl) | (with_reducible exact r_nx) | (with_reducible exact r_c) | (with_reducible exact r_nil) | (with_reducible exact r_no) | (with_reducible exact r_pnil) | (with_reducible exact r_gend) | exact Nat.le_of_ble_eq_true rfl | (with_reducible apply r_seqK_nx) | (with_reducible apply r_seqK) | (with_reducible apply r_ifK) | (with_reducible apply r_tandK) | (with_reducible apply r_torK) | (with_reducible apply r_andK) | (with_reducible apply r_orK) | (with_reducible apply r_ifxK) | (with_reducible apply r_ret) | (with_reducible apply r_setN) | (with_reducible apply r_expr) | (with_reducible apply r_asg) | (with_reducible apply r_parN) | (with_reducible apply r_var) | (with_reducible apply r_1) | (with_reducible apply r_tup) | (with_reducible apply r_lst) | (with_reducible apply r_fz) | (with_reducible apply r_2) | (with_reducible apply r_cons) | (with_reducible apply r_N) | (with_reducible apply r_t2) | (with_reducible apply r_tval) | (with_reducible apply r_tnot) | (with_reducible apply r_not) | (with_reducible apply r_cmpV) | (with_reducible apply r_gtup) | (with_reducible apply r_gand) | (with_reducible apply r_gset) | (with_reducible apply r_sl) | (with_reducible apply r_part) | (with_reducible apply r_M) | (with_reducible apply r_aug) | (with_reducible apply r_chainK) | (with_reducible apply r_bind2) | (with_reducible apply r_tchain) | (with_reducible apply r_fld) | (with_reducible apply r_disp) | (with_reducible apply r_pcons) | (with_reducible apply r_itet; focus (first | assumption | with_reducible rfl | (simp_all; done) | (simp_all; omega))) | (with_reducible apply r_itef; focus (first | assumption | with_reducible rfl | (simp_all; done) | (simp_all; omega))) | (simp only [List.map_cons, List.map_nil, List.length_cons, List.length_nil, Nat.reduceAdd, Nat.reduceSub, List.replicate_succ, List.replicate_zero, List.cons_append, List.nil_append, List.set_cons_succ, List.set_cons_zero]; done) | (simp only [List.map_cons, List.map_nil, List.length_cons, List.length_nil, Nat.reduceAdd, Nat.reduceSub, List.replicate_succ, List.replicate_zero, List.cons_append, List.nil_append, List.set_cons_succ, List.set_cons_zero]; rfl) | rfl)
  · rfl
  · rfl
theorem house_p (hs : Hs) (h : List O) : oPure Fcheck_house [eH hs, .str "house"] h = .ret (.non, h) := pure_ret h (house_ok hs) rfl rfl
theorem standing_ok (hs : Hs) (ho : OkH hs) (s : Stand) (ok : OkS hs s) : ∃ g, Fis_standing [eH hs, eS s] [] = .ret (.bl true, g) := by
  have hr := ho.room
  have hm := ho.many
  have hw := ok.waits
  have hf := ok.few
  have ln : ∀ h, oLenA [eSh s.shown] h = .ret (.int (s.shown.length : Nat), h) := fun h => len_tup (by simp) h
  have hp := house_p hs []
  have lc : fLc [6] (fSrc noF (fVar 2)) (gSet 6) tTrue (fN (oPure Fis_item) (fCons (fVar 0) (fCons (fVar 6) fNil))) [some (eH hs), some (eS s), some (eSh s.shown), some (eW s.waiting), some (.int s.quiet), some (eL s.look), none] [] = .ret (.lst (List.replicate s.shown.length (.bl true)), []) := by
    rw [lcM (e := eI) (fun _ => .bl true) (sr_tup s.shown eI rfl rfl) (by omega) (fun y hy => body_some (s1 := [some (eH hs), some (eS s), some (eSh s.shown), some (eW s.waiting), some (.int s.quiet), some (eL s.look), some (eI y)]) rfl rfl (r_N (r_cons rfl (r_cons rfl r_nil)) (pure_ret _ (item_ok hs y (ok.items y hy)) (by simp [noLs, nl_H, nl_I]) rfl)))]
    rw [List.map_const']
  have al := alls_true (k := s.shown.length) (h := [])
  have p2 := pure_ret [] (ranks_ok hs s.waiting hs.many hw (by omega) ok.ranks) (by simp [noLs, noL, nl_W, nl_H]) rfl
  have p3 := within_t ok.quiet []
  have p4 := pure_ret [] (look_ok hs s.look s.shown.length ok.look) (by simp [noLs, noL, nl_L, nl_H]) rfl
  apply F_retN rfl (by simp only [List.map_cons, List.map_nil, List.length_cons, List.length_nil, Nat.reduceAdd, Nat.reduceSub, List.replicate_succ, List.replicate_zero, List.cons_append, List.nil_append, List.set_cons_succ, List.set_cons_zero]; rfl)
  · unfold bis_standing; repeat' (first | (with_reducible exact hp) | (with_reducible exact ln _) | (with_reducible exact eqI _ _ _ _) | (with_reducible exact lc) | (with_reducible exact al) | (with_reducible exact p2) | (with_reducible exact p3) | (with_reducible exact p4) | (with_reducible apply r_isSet; (first | (simp only [List.map_cons, List.map_nil, List.length_cons, List.length_nil, Nat.reduceAdd, Nat.reduceSub, List.replicate_succ, List.replicate_zero, List.cons_append, List.nil_append, List.set_cons_succ, List.set_cons_zero]; done) | (simp only [List.map_cons, List.map_nil, List.length_cons, List.length_nil, Nat.reduceAdd, Nat.reduceSub, List.replicate_succ, List.replicate_zero, List.cons_append, List.nil_append, List.set_cons_succ, List.set_cons_zero]; rfl))) | (with_reducible rfl) | (with_reducible exact r_nx) | (with_reducible exact r_c) | (with_reducible exact r_nil) | (with_reducible exact r_no) | (with_reducible exact r_pnil) | (with_reducible exact r_gend) | exact Nat.le_of_ble_eq_true rfl | (with_reducible apply r_seqK_nx) | (with_reducible apply r_seqK) | (with_reducible apply r_ifK) | (with_reducible apply r_tandK) | (with_reducible apply r_torK) | (with_reducible apply r_andK) | (with_reducible apply r_orK) | (with_reducible apply r_ifxK) | (with_reducible apply r_ret) | (with_reducible apply r_setN) | (with_reducible apply r_expr) | (with_reducible apply r_asg) | (with_reducible apply r_parN) | (with_reducible apply r_var) | (with_reducible apply r_1) | (with_reducible apply r_tup) | (with_reducible apply r_lst) | (with_reducible apply r_fz) | (with_reducible apply r_2) | (with_reducible apply r_cons) | (with_reducible apply r_N) | (with_reducible apply r_t2) | (with_reducible apply r_tval) | (with_reducible apply r_tnot) | (with_reducible apply r_not) | (with_reducible apply r_cmpV) | (with_reducible apply r_gtup) | (with_reducible apply r_gand) | (with_reducible apply r_gset) | (with_reducible apply r_sl) | (with_reducible apply r_part) | (with_reducible apply r_M) | (with_reducible apply r_aug) | (with_reducible apply r_chainK) | (with_reducible apply r_bind2) | (with_reducible apply r_tchain) | (with_reducible apply r_fld) | (with_reducible apply r_disp) | (with_reducible apply r_pcons) | (with_reducible apply r_itet; focus (first | assumption | with_reducible rfl | (simp_all; done) | (simp_all; omega))) | (with_reducible apply r_itef; focus (first | assumption | with_reducible rfl | (simp_all; done) | (simp_all; omega))) | (simp only [List.map_cons, List.map_nil, List.length_cons, List.length_nil, Nat.reduceAdd, Nat.reduceSub, List.replicate_succ, List.replicate_zero, List.cons_append, List.nil_append, List.set_cons_succ, List.set_cons_zero]; done) | (simp only [List.map_cons, List.map_nil, List.length_cons, List.length_nil, Nat.reduceAdd, Nat.reduceSub, List.replicate_succ, List.replicate_zero, List.cons_append, List.nil_append, List.set_cons_succ, List.set_cons_zero]; rfl) | rfl | exact hp | exact ln _ | exact eqI _ _ _ _ | exact lc | exact al | exact p2 | exact p3 | exact p4)
  · rfl
  · rfl
theorem standing_p (hs : Hs) (ho : OkH hs) (s : Stand) (ok : OkS hs s) (h : List O) : oPure Fis_standing [eH hs, eS s] h = .ret (.bl true, h) := pure_ret h (standing_ok hs ho s ok) (by simp [noLs, nl_H, nl_S]) rfl
theorem check_ok (hs : Hs) (ho : OkH hs) (s : Stand) (ok : OkS hs s) : ∃ g, Fcheck_standing [eH hs, eS s] [] = .ret (.non, g) := by
  have p := standing_p hs ho s ok []
  apply F_retN rfl (by simp only [List.map_cons, List.map_nil, List.length_cons, List.length_nil, Nat.reduceAdd, Nat.reduceSub, List.replicate_succ, List.replicate_zero, List.cons_append, List.nil_append, List.set_cons_succ, List.set_cons_zero]; rfl)
  · unfold bcheck_standing; repeat' (first | (with_reducible exact p) | (with_reducible apply r_isSet; (first | (simp only [List.map_cons, List.map_nil, List.length_cons, List.length_nil, Nat.reduceAdd, Nat.reduceSub, List.replicate_succ, List.replicate_zero, List.cons_append, List.nil_append, List.set_cons_succ, List.set_cons_zero]; done) | (simp only [List.map_cons, List.map_nil, List.length_cons, List.length_nil, Nat.reduceAdd, Nat.reduceSub, List.replicate_succ, List.replicate_zero, List.cons_append, List.nil_append, List.set_cons_succ, List.set_cons_zero]; rfl))) | (with_reducible rfl) | (with_reducible exact r_nx) | (with_reducible exact r_c) | (with_reducible exact r_nil) | (with_reducible exact r_no) | (with_reducible exact r_pnil) | (with_reducible exact r_gend) | exact Nat.le_of_ble_eq_true rfl | (with_reducible apply r_seqK_nx) | (with_reducible apply r_seqK) | (with_reducible apply r_ifK) | (with_reducible apply r_tandK) | (with_reducible apply r_torK) | (with_reducible apply r_andK) | (with_reducible apply r_orK) | (with_reducible apply r_ifxK) | (with_reducible apply r_ret) | (with_reducible apply r_setN) | (with_reducible apply r_expr) | (with_reducible apply r_asg) | (with_reducible apply r_parN) | (with_reducible apply r_var) | (with_reducible apply r_1) | (with_reducible apply r_tup) | (with_reducible apply r_lst) | (with_reducible apply r_fz) | (with_reducible apply r_2) | (with_reducible apply r_cons) | (with_reducible apply r_N) | (with_reducible apply r_t2) | (with_reducible apply r_tval) | (with_reducible apply r_tnot) | (with_reducible apply r_not) | (with_reducible apply r_cmpV) | (with_reducible apply r_gtup) | (with_reducible apply r_gand) | (with_reducible apply r_gset) | (with_reducible apply r_sl) | (with_reducible apply r_part) | (with_reducible apply r_M) | (with_reducible apply r_aug) | (with_reducible apply r_chainK) | (with_reducible apply r_bind2) | (with_reducible apply r_tchain) | (with_reducible apply r_fld) | (with_reducible apply r_disp) | (with_reducible apply r_pcons) | (with_reducible apply r_itet; focus (first | assumption | with_reducible rfl | (simp_all; done) | (simp_all; omega))) | (with_reducible apply r_itef; focus (first | assumption | with_reducible rfl | (simp_all; done) | (simp_all; omega))) | (simp only [List.map_cons, List.map_nil, List.length_cons, List.length_nil, Nat.reduceAdd, Nat.reduceSub, List.replicate_succ, List.replicate_zero, List.cons_append, List.nil_append, List.set_cons_succ, List.set_cons_zero]; done) | (simp only [List.map_cons, List.map_nil, List.length_cons, List.length_nil, Nat.reduceAdd, Nat.reduceSub, List.replicate_succ, List.replicate_zero, List.cons_append, List.nil_append, List.set_cons_succ, List.set_cons_zero]; rfl) | rfl | exact p)
  · rfl
  · rfl
theorem check_p (hs : Hs) (ho : OkH hs) (s : Stand) (ok : OkS hs s) (h : List O) : oPure Fcheck_standing [eH hs, eS s] h = .ret (.non, h) := pure_ret h (check_ok hs ho s ok) (by simp [noLs, nl_H, nl_S]) rfl
theorem first_ok (hs : Hs) : ∃ g, Ffirst_standing [eH hs] [] = .ret (eS (first0 hs), g) := by
  have hp := house_p hs []
  apply F_retN rfl (by simp only [List.map_cons, List.map_nil, List.length_cons, List.length_nil, Nat.reduceAdd, Nat.reduceSub, List.replicate_succ, List.replicate_zero, List.cons_append, List.nil_append, List.set_cons_succ, List.set_cons_zero]; rfl)
  · unfold bfirst_standing; repeat' (first | (with_reducible exact hp) | (with_reducible apply r_isSet; (first | (simp only [List.map_cons, List.map_nil, List.length_cons, List.length_nil, Nat.reduceAdd, Nat.reduceSub, List.replicate_succ, List.replicate_zero, List.cons_append, List.nil_append, List.set_cons_succ, List.set_cons_zero]; done) | (simp only [List.map_cons, List.map_nil, List.length_cons, List.length_nil, Nat.reduceAdd, Nat.reduceSub, List.replicate_succ, List.replicate_zero, List.cons_append, List.nil_append, List.set_cons_succ, List.set_cons_zero]; rfl))) | (with_reducible rfl) | (with_reducible exact r_nx) | (with_reducible exact r_c) | (with_reducible exact r_nil) | (with_reducible exact r_no) | (with_reducible exact r_pnil) | (with_reducible exact r_gend) | exact Nat.le_of_ble_eq_true rfl | (with_reducible apply r_seqK_nx) | (with_reducible apply r_seqK) | (with_reducible apply r_ifK) | (with_reducible apply r_tandK) | (with_reducible apply r_torK) | (with_reducible apply r_andK) | (with_reducible apply r_orK) | (with_reducible apply r_ifxK) | (with_reducible apply r_ret) | (with_reducible apply r_setN) | (with_reducible apply r_expr) | (with_reducible apply r_asg) | (with_reducible apply r_parN) | (with_reducible apply r_var) | (with_reducible apply r_1) | (with_reducible apply r_tup) | (with_reducible apply r_lst) | (with_reducible apply r_fz) | (with_reducible apply r_2) | (with_reducible apply r_cons) | (with_reducible apply r_N) | (with_reducible apply r_t2) | (with_reducible apply r_tval) | (with_reducible apply r_tnot) | (with_reducible apply r_not) | (with_reducible apply r_cmpV) | (with_reducible apply r_gtup) | (with_reducible apply r_gand) | (with_reducible apply r_gset) | (with_reducible apply r_sl) | (with_reducible apply r_part) | (with_reducible apply r_M) | (with_reducible apply r_aug) | (with_reducible apply r_chainK) | (with_reducible apply r_bind2) | (with_reducible apply r_tchain) | (with_reducible apply r_fld) | (with_reducible apply r_disp) | (with_reducible apply r_pcons) | (with_reducible apply r_itet; focus (first | assumption | with_reducible rfl | (simp_all; done) | (simp_all; omega))) | (with_reducible apply r_itef; focus (first | assumption | with_reducible rfl | (simp_all; done) | (simp_all; omega))) | (simp only [List.map_cons, List.map_nil, List.length_cons, List.length_nil, Nat.reduceAdd, Nat.reduceSub, List.replicate_succ, List.replicate_zero, List.cons_append, List.nil_append, List.set_cons_succ, List.set_cons_zero]; done) | (simp only [List.map_cons, List.map_nil, List.length_cons, List.length_nil, Nat.reduceAdd, Nat.reduceSub, List.replicate_succ, List.replicate_zero, List.cons_append, List.nil_append, List.set_cons_succ, List.set_cons_zero]; rfl) | rfl | exact hp)
  · rfl
  · rfl
theorem first_p (hs : Hs) (h : List O) : oPure Ffirst_standing [eH hs] h = .ret (eS (first0 hs), h) := pure_ret h (first_ok hs) rfl rfl
theorem compC_ok (c : Change) : ∃ g, Fis_comparable [eC c] [] = .ret (.bl true, g) := by
  cases c with
  | none =>
    apply F_retN rfl (by simp only [List.map_cons, List.map_nil, List.length_cons, List.length_nil, Nat.reduceAdd, Nat.reduceSub, List.replicate_succ, List.replicate_zero, List.cons_append, List.nil_append, List.set_cons_succ, List.set_cons_zero]; rfl)
    · unfold bis_comparable; repeat' (first | (with_reducible apply r_isSet; (first | (simp only [List.map_cons, List.map_nil, List.length_cons, List.length_nil, Nat.reduceAdd, Nat.reduceSub, List.replicate_succ, List.replicate_zero, List.cons_append, List.nil_append, List.set_cons_succ, List.set_cons_zero]; done) | (simp only [List.map_cons, List.map_nil, List.length_cons, List.length_nil, Nat.reduceAdd, Nat.reduceSub, List.replicate_succ, List.replicate_zero, List.cons_append, List.nil_append, List.set_cons_succ, List.set_cons_zero]; rfl))) | (with_reducible rfl) | (with_reducible exact r_nx) | (with_reducible exact r_c) | (with_reducible exact r_nil) | (with_reducible exact r_no) | (with_reducible exact r_pnil) | (with_reducible exact r_gend) | exact Nat.le_of_ble_eq_true rfl | (with_reducible apply r_seqK_nx) | (with_reducible apply r_seqK) | (with_reducible apply r_ifK) | (with_reducible apply r_tandK) | (with_reducible apply r_torK) | (with_reducible apply r_andK) | (with_reducible apply r_orK) | (with_reducible apply r_ifxK) | (with_reducible apply r_ret) | (with_reducible apply r_setN) | (with_reducible apply r_expr) | (with_reducible apply r_asg) | (with_reducible apply r_parN) | (with_reducible apply r_var) | (with_reducible apply r_1) | (with_reducible apply r_tup) | (with_reducible apply r_lst) | (with_reducible apply r_fz) | (with_reducible apply r_2) | (with_reducible apply r_cons) | (with_reducible apply r_N) | (with_reducible apply r_t2) | (with_reducible apply r_tval) | (with_reducible apply r_tnot) | (with_reducible apply r_not) | (with_reducible apply r_cmpV) | (with_reducible apply r_gtup) | (with_reducible apply r_gand) | (with_reducible apply r_gset) | (with_reducible apply r_sl) | (with_reducible apply r_part) | (with_reducible apply r_M) | (with_reducible apply r_aug) | (with_reducible apply r_chainK) | (with_reducible apply r_bind2) | (with_reducible apply r_tchain) | (with_reducible apply r_fld) | (with_reducible apply r_disp) | (with_reducible apply r_pcons) | (with_reducible apply r_itet; focus (first | assumption | with_reducible rfl | (simp_all; done) | (simp_all; omega))) | (with_reducible apply r_itef; focus (first | assumption | with_reducible rfl | (simp_all; done) | (simp_all; omega))) | (simp only [List.map_cons, List.map_nil, List.length_cons, List.length_nil, Nat.reduceAdd, Nat.reduceSub, List.replicate_succ, List.replicate_zero, List.cons_append, List.nil_append, List.set_cons_succ, List.set_cons_zero]; done) | (simp only [List.map_cons, List.map_nil, List.length_cons, List.length_nil, Nat.reduceAdd, Nat.reduceSub, List.replicate_succ, List.replicate_zero, List.cons_append, List.nil_append, List.set_cons_succ, List.set_cons_zero]; rfl) | rfl)
    · rfl
    · rfl
  | come r =>
    have p := pure_ret [] (num_ok r) rfl rfl
    apply F_retN rfl (by simp only [List.map_cons, List.map_nil, List.length_cons, List.length_nil, Nat.reduceAdd, Nat.reduceSub, List.replicate_succ, List.replicate_zero, List.cons_append, List.nil_append, List.set_cons_succ, List.set_cons_zero]; rfl)
    · unfold bis_comparable; repeat' (first | (with_reducible exact p) | (with_reducible apply r_isSet; (first | (simp only [List.map_cons, List.map_nil, List.length_cons, List.length_nil, Nat.reduceAdd, Nat.reduceSub, List.replicate_succ, List.replicate_zero, List.cons_append, List.nil_append, List.set_cons_succ, List.set_cons_zero]; done) | (simp only [List.map_cons, List.map_nil, List.length_cons, List.length_nil, Nat.reduceAdd, Nat.reduceSub, List.replicate_succ, List.replicate_zero, List.cons_append, List.nil_append, List.set_cons_succ, List.set_cons_zero]; rfl))) | (with_reducible rfl) | (with_reducible exact r_nx) | (with_reducible exact r_c) | (with_reducible exact r_nil) | (with_reducible exact r_no) | (with_reducible exact r_pnil) | (with_reducible exact r_gend) | exact Nat.le_of_ble_eq_true rfl | (with_reducible apply r_seqK_nx) | (with_reducible apply r_seqK) | (with_reducible apply r_ifK) | (with_reducible apply r_tandK) | (with_reducible apply r_torK) | (with_reducible apply r_andK) | (with_reducible apply r_orK) | (with_reducible apply r_ifxK) | (with_reducible apply r_ret) | (with_reducible apply r_setN) | (with_reducible apply r_expr) | (with_reducible apply r_asg) | (with_reducible apply r_parN) | (with_reducible apply r_var) | (with_reducible apply r_1) | (with_reducible apply r_tup) | (with_reducible apply r_lst) | (with_reducible apply r_fz) | (with_reducible apply r_2) | (with_reducible apply r_cons) | (with_reducible apply r_N) | (with_reducible apply r_t2) | (with_reducible apply r_tval) | (with_reducible apply r_tnot) | (with_reducible apply r_not) | (with_reducible apply r_cmpV) | (with_reducible apply r_gtup) | (with_reducible apply r_gand) | (with_reducible apply r_gset) | (with_reducible apply r_sl) | (with_reducible apply r_part) | (with_reducible apply r_M) | (with_reducible apply r_aug) | (with_reducible apply r_chainK) | (with_reducible apply r_bind2) | (with_reducible apply r_tchain) | (with_reducible apply r_fld) | (with_reducible apply r_disp) | (with_reducible apply r_pcons) | (with_reducible apply r_itet; focus (first | assumption | with_reducible rfl | (simp_all; done) | (simp_all; omega))) | (with_reducible apply r_itef; focus (first | assumption | with_reducible rfl | (simp_all; done) | (simp_all; omega))) | (simp only [List.map_cons, List.map_nil, List.length_cons, List.length_nil, Nat.reduceAdd, Nat.reduceSub, List.replicate_succ, List.replicate_zero, List.cons_append, List.nil_append, List.set_cons_succ, List.set_cons_zero]; done) | (simp only [List.map_cons, List.map_nil, List.length_cons, List.length_nil, Nat.reduceAdd, Nat.reduceSub, List.replicate_succ, List.replicate_zero, List.cons_append, List.nil_append, List.set_cons_succ, List.set_cons_zero]; rfl) | rfl | exact p)
    · rfl
    · rfl
  | go r =>
    have p := pure_ret [] (num_ok r) rfl rfl
    apply F_retN rfl (by simp only [List.map_cons, List.map_nil, List.length_cons, List.length_nil, Nat.reduceAdd, Nat.reduceSub, List.replicate_succ, List.replicate_zero, List.cons_append, List.nil_append, List.set_cons_succ, List.set_cons_zero]; rfl)
    · unfold bis_comparable; repeat' (first | (with_reducible exact p) | (with_reducible apply r_isSet; (first | (simp only [List.map_cons, List.map_nil, List.length_cons, List.length_nil, Nat.reduceAdd, Nat.reduceSub, List.replicate_succ, List.replicate_zero, List.cons_append, List.nil_append, List.set_cons_succ, List.set_cons_zero]; done) | (simp only [List.map_cons, List.map_nil, List.length_cons, List.length_nil, Nat.reduceAdd, Nat.reduceSub, List.replicate_succ, List.replicate_zero, List.cons_append, List.nil_append, List.set_cons_succ, List.set_cons_zero]; rfl))) | (with_reducible rfl) | (with_reducible exact r_nx) | (with_reducible exact r_c) | (with_reducible exact r_nil) | (with_reducible exact r_no) | (with_reducible exact r_pnil) | (with_reducible exact r_gend) | exact Nat.le_of_ble_eq_true rfl | (with_reducible apply r_seqK_nx) | (with_reducible apply r_seqK) | (with_reducible apply r_ifK) | (with_reducible apply r_tandK) | (with_reducible apply r_torK) | (with_reducible apply r_andK) | (with_reducible apply r_orK) | (with_reducible apply r_ifxK) | (with_reducible apply r_ret) | (with_reducible apply r_setN) | (with_reducible apply r_expr) | (with_reducible apply r_asg) | (with_reducible apply r_parN) | (with_reducible apply r_var) | (with_reducible apply r_1) | (with_reducible apply r_tup) | (with_reducible apply r_lst) | (with_reducible apply r_fz) | (with_reducible apply r_2) | (with_reducible apply r_cons) | (with_reducible apply r_N) | (with_reducible apply r_t2) | (with_reducible apply r_tval) | (with_reducible apply r_tnot) | (with_reducible apply r_not) | (with_reducible apply r_cmpV) | (with_reducible apply r_gtup) | (with_reducible apply r_gand) | (with_reducible apply r_gset) | (with_reducible apply r_sl) | (with_reducible apply r_part) | (with_reducible apply r_M) | (with_reducible apply r_aug) | (with_reducible apply r_chainK) | (with_reducible apply r_bind2) | (with_reducible apply r_tchain) | (with_reducible apply r_fld) | (with_reducible apply r_disp) | (with_reducible apply r_pcons) | (with_reducible apply r_itet; focus (first | assumption | with_reducible rfl | (simp_all; done) | (simp_all; omega))) | (with_reducible apply r_itef; focus (first | assumption | with_reducible rfl | (simp_all; done) | (simp_all; omega))) | (simp only [List.map_cons, List.map_nil, List.length_cons, List.length_nil, Nat.reduceAdd, Nat.reduceSub, List.replicate_succ, List.replicate_zero, List.cons_append, List.nil_append, List.set_cons_succ, List.set_cons_zero]; done) | (simp only [List.map_cons, List.map_nil, List.length_cons, List.length_nil, Nat.reduceAdd, Nat.reduceSub, List.replicate_succ, List.replicate_zero, List.cons_append, List.nil_append, List.set_cons_succ, List.set_cons_zero]; rfl) | rfl | exact p)
    · rfl
    · rfl
theorem compH_ok (c : Hand) : ∃ g, Fis_comparable [eHd c] [] = .ret (.bl true, g) := by
  cases c with
  | none =>
    apply F_retN rfl (by simp only [List.map_cons, List.map_nil, List.length_cons, List.length_nil, Nat.reduceAdd, Nat.reduceSub, List.replicate_succ, List.replicate_zero, List.cons_append, List.nil_append, List.set_cons_succ, List.set_cons_zero]; rfl)
    · unfold bis_comparable; repeat' (first | (with_reducible apply r_isSet; (first | (simp only [List.map_cons, List.map_nil, List.length_cons, List.length_nil, Nat.reduceAdd, Nat.reduceSub, List.replicate_succ, List.replicate_zero, List.cons_append, List.nil_append, List.set_cons_succ, List.set_cons_zero]; done) | (simp only [List.map_cons, List.map_nil, List.length_cons, List.length_nil, Nat.reduceAdd, Nat.reduceSub, List.replicate_succ, List.replicate_zero, List.cons_append, List.nil_append, List.set_cons_succ, List.set_cons_zero]; rfl))) | (with_reducible rfl) | (with_reducible exact r_nx) | (with_reducible exact r_c) | (with_reducible exact r_nil) | (with_reducible exact r_no) | (with_reducible exact r_pnil) | (with_reducible exact r_gend) | exact Nat.le_of_ble_eq_true rfl | (with_reducible apply r_seqK_nx) | (with_reducible apply r_seqK) | (with_reducible apply r_ifK) | (with_reducible apply r_tandK) | (with_reducible apply r_torK) | (with_reducible apply r_andK) | (with_reducible apply r_orK) | (with_reducible apply r_ifxK) | (with_reducible apply r_ret) | (with_reducible apply r_setN) | (with_reducible apply r_expr) | (with_reducible apply r_asg) | (with_reducible apply r_parN) | (with_reducible apply r_var) | (with_reducible apply r_1) | (with_reducible apply r_tup) | (with_reducible apply r_lst) | (with_reducible apply r_fz) | (with_reducible apply r_2) | (with_reducible apply r_cons) | (with_reducible apply r_N) | (with_reducible apply r_t2) | (with_reducible apply r_tval) | (with_reducible apply r_tnot) | (with_reducible apply r_not) | (with_reducible apply r_cmpV) | (with_reducible apply r_gtup) | (with_reducible apply r_gand) | (with_reducible apply r_gset) | (with_reducible apply r_sl) | (with_reducible apply r_part) | (with_reducible apply r_M) | (with_reducible apply r_aug) | (with_reducible apply r_chainK) | (with_reducible apply r_bind2) | (with_reducible apply r_tchain) | (with_reducible apply r_fld) | (with_reducible apply r_disp) | (with_reducible apply r_pcons) | (with_reducible apply r_itet; focus (first | assumption | with_reducible rfl | (simp_all; done) | (simp_all; omega))) | (with_reducible apply r_itef; focus (first | assumption | with_reducible rfl | (simp_all; done) | (simp_all; omega))) | (simp only [List.map_cons, List.map_nil, List.length_cons, List.length_nil, Nat.reduceAdd, Nat.reduceSub, List.replicate_succ, List.replicate_zero, List.cons_append, List.nil_append, List.set_cons_succ, List.set_cons_zero]; done) | (simp only [List.map_cons, List.map_nil, List.length_cons, List.length_nil, Nat.reduceAdd, Nat.reduceSub, List.replicate_succ, List.replicate_zero, List.cons_append, List.nil_append, List.set_cons_succ, List.set_cons_zero]; rfl) | rfl)
    · rfl
    · rfl
  | look r =>
    have p := pure_ret [] (num_ok r) rfl rfl
    apply F_retN rfl (by simp only [List.map_cons, List.map_nil, List.length_cons, List.length_nil, Nat.reduceAdd, Nat.reduceSub, List.replicate_succ, List.replicate_zero, List.cons_append, List.nil_append, List.set_cons_succ, List.set_cons_zero]; rfl)
    · unfold bis_comparable; repeat' (first | (with_reducible exact p) | (with_reducible apply r_isSet; (first | (simp only [List.map_cons, List.map_nil, List.length_cons, List.length_nil, Nat.reduceAdd, Nat.reduceSub, List.replicate_succ, List.replicate_zero, List.cons_append, List.nil_append, List.set_cons_succ, List.set_cons_zero]; done) | (simp only [List.map_cons, List.map_nil, List.length_cons, List.length_nil, Nat.reduceAdd, Nat.reduceSub, List.replicate_succ, List.replicate_zero, List.cons_append, List.nil_append, List.set_cons_succ, List.set_cons_zero]; rfl))) | (with_reducible rfl) | (with_reducible exact r_nx) | (with_reducible exact r_c) | (with_reducible exact r_nil) | (with_reducible exact r_no) | (with_reducible exact r_pnil) | (with_reducible exact r_gend) | exact Nat.le_of_ble_eq_true rfl | (with_reducible apply r_seqK_nx) | (with_reducible apply r_seqK) | (with_reducible apply r_ifK) | (with_reducible apply r_tandK) | (with_reducible apply r_torK) | (with_reducible apply r_andK) | (with_reducible apply r_orK) | (with_reducible apply r_ifxK) | (with_reducible apply r_ret) | (with_reducible apply r_setN) | (with_reducible apply r_expr) | (with_reducible apply r_asg) | (with_reducible apply r_parN) | (with_reducible apply r_var) | (with_reducible apply r_1) | (with_reducible apply r_tup) | (with_reducible apply r_lst) | (with_reducible apply r_fz) | (with_reducible apply r_2) | (with_reducible apply r_cons) | (with_reducible apply r_N) | (with_reducible apply r_t2) | (with_reducible apply r_tval) | (with_reducible apply r_tnot) | (with_reducible apply r_not) | (with_reducible apply r_cmpV) | (with_reducible apply r_gtup) | (with_reducible apply r_gand) | (with_reducible apply r_gset) | (with_reducible apply r_sl) | (with_reducible apply r_part) | (with_reducible apply r_M) | (with_reducible apply r_aug) | (with_reducible apply r_chainK) | (with_reducible apply r_bind2) | (with_reducible apply r_tchain) | (with_reducible apply r_fld) | (with_reducible apply r_disp) | (with_reducible apply r_pcons) | (with_reducible apply r_itet; focus (first | assumption | with_reducible rfl | (simp_all; done) | (simp_all; omega))) | (with_reducible apply r_itef; focus (first | assumption | with_reducible rfl | (simp_all; done) | (simp_all; omega))) | (simp only [List.map_cons, List.map_nil, List.length_cons, List.length_nil, Nat.reduceAdd, Nat.reduceSub, List.replicate_succ, List.replicate_zero, List.cons_append, List.nil_append, List.set_cons_succ, List.set_cons_zero]; done) | (simp only [List.map_cons, List.map_nil, List.length_cons, List.length_nil, Nat.reduceAdd, Nat.reduceSub, List.replicate_succ, List.replicate_zero, List.cons_append, List.nil_append, List.set_cons_succ, List.set_cons_zero]; rfl) | rfl | exact p)
    · rfl
    · rfl
  | tap =>
    apply F_retN rfl (by simp only [List.map_cons, List.map_nil, List.length_cons, List.length_nil, Nat.reduceAdd, Nat.reduceSub, List.replicate_succ, List.replicate_zero, List.cons_append, List.nil_append, List.set_cons_succ, List.set_cons_zero]; rfl)
    · unfold bis_comparable; repeat' (first | (with_reducible apply r_isSet; (first | (simp only [List.map_cons, List.map_nil, List.length_cons, List.length_nil, Nat.reduceAdd, Nat.reduceSub, List.replicate_succ, List.replicate_zero, List.cons_append, List.nil_append, List.set_cons_succ, List.set_cons_zero]; done) | (simp only [List.map_cons, List.map_nil, List.length_cons, List.length_nil, Nat.reduceAdd, Nat.reduceSub, List.replicate_succ, List.replicate_zero, List.cons_append, List.nil_append, List.set_cons_succ, List.set_cons_zero]; rfl))) | (with_reducible rfl) | (with_reducible exact r_nx) | (with_reducible exact r_c) | (with_reducible exact r_nil) | (with_reducible exact r_no) | (with_reducible exact r_pnil) | (with_reducible exact r_gend) | exact Nat.le_of_ble_eq_true rfl | (with_reducible apply r_seqK_nx) | (with_reducible apply r_seqK) | (with_reducible apply r_ifK) | (with_reducible apply r_tandK) | (with_reducible apply r_torK) | (with_reducible apply r_andK) | (with_reducible apply r_orK) | (with_reducible apply r_ifxK) | (with_reducible apply r_ret) | (with_reducible apply r_setN) | (with_reducible apply r_expr) | (with_reducible apply r_asg) | (with_reducible apply r_parN) | (with_reducible apply r_var) | (with_reducible apply r_1) | (with_reducible apply r_tup) | (with_reducible apply r_lst) | (with_reducible apply r_fz) | (with_reducible apply r_2) | (with_reducible apply r_cons) | (with_reducible apply r_N) | (with_reducible apply r_t2) | (with_reducible apply r_tval) | (with_reducible apply r_tnot) | (with_reducible apply r_not) | (with_reducible apply r_cmpV) | (with_reducible apply r_gtup) | (with_reducible apply r_gand) | (with_reducible apply r_gset) | (with_reducible apply r_sl) | (with_reducible apply r_part) | (with_reducible apply r_M) | (with_reducible apply r_aug) | (with_reducible apply r_chainK) | (with_reducible apply r_bind2) | (with_reducible apply r_tchain) | (with_reducible apply r_fld) | (with_reducible apply r_disp) | (with_reducible apply r_pcons) | (with_reducible apply r_itet; focus (first | assumption | with_reducible rfl | (simp_all; done) | (simp_all; omega))) | (with_reducible apply r_itef; focus (first | assumption | with_reducible rfl | (simp_all; done) | (simp_all; omega))) | (simp only [List.map_cons, List.map_nil, List.length_cons, List.length_nil, Nat.reduceAdd, Nat.reduceSub, List.replicate_succ, List.replicate_zero, List.cons_append, List.nil_append, List.set_cons_succ, List.set_cons_zero]; done) | (simp only [List.map_cons, List.map_nil, List.length_cons, List.length_nil, Nat.reduceAdd, Nat.reduceSub, List.replicate_succ, List.replicate_zero, List.cons_append, List.nil_append, List.set_cons_succ, List.set_cons_zero]; rfl) | rfl)
    · rfl
    · rfl
/-! ### the step -/
theorem notin_ok {α : Type} [DecidableEq α] {e : α → D} (he : ∀ a b, Ev.eqT (e a) (e b) = decide (a = b)) (hk : ∀ a, okT 22 (e a) = true) {xs : List α} {a : α} {h : List O} : pInA true h (e a) (.lst (xs.map e)) = some (!decide (a ∈ xs)) := by
  rw [pNInA_fz (okT_up 22 _ (hk a)) (okTs_map hk xs), any_mem he]
theorem okC_of {hs : Hs} {s : Stand} {c : Change} (h : c ∈ changesAt hs s) : okC s c := by
  cases c with
  | none => trivial
  | come r => trivial
  | go p =>
    unfold changesAt at h
    simp only [List.mem_append, List.mem_singleton] at h
    rcases h with (h | h) | h
    · split at h <;> simp at h
    · split at h
      · obtain ⟨⟨i, q⟩, h1, h2⟩ := List.mem_map.mp h
        have := (List.mem_filter.mp h1).1
        have := List.mem_zipIdx this
        simp at h2
        subst h2
        exact ⟨by omega, by simp at this; omega⟩
      · simp at h
    · simp at h
theorem look_of {hs : Hs} {s : Stand} (h : Hand.tap ∈ handsAt hs s) : s.look ≠ none := by
  intro e
  unfold handsAt at h
  rw [e] at h
  simp at h
theorem settled_look {hs : Hs} {s : Stand} {c : Change} : ∀ l, (settled hs s c).look = some l → ∃ k, s.look = some k ∧ k.place = l.place := by
  intro l h
  have key : ∀ rows, followed s.look rows = some l → ∃ k, s.look = some k ∧ k.place = l.place := by
    intro rows h
    unfold followed at h
    split at h
    · cases h
    · rename_i k hk
      cases h
      exact ⟨k, hk, rfl⟩
  unfold settled at h
  dsimp only at h
  split at h
  · exact key _ h
  · exact key _ h
theorem step_ok (hs : Hs) (ho : OkH hs) (s : Stand) (ok : OkS hs s) (m : Change × Hand) (hm : can hs s m = true) : ∃ g, Fstep_at [eH hs, eS s, eM m] [] = .ret (.tup [eS (tick hs s m).1, .str (tick hs s m).2], g) := by
  obtain ⟨c, hd⟩ := m
  have hr := ho.room
  have hmany := ho.many
  have hw := ok.waits
  have hf := ok.few
  obtain ⟨h1, h2⟩ := Bool.and_eq_true_iff.mp hm
  have h1 : c ∈ changesAt hs s := of_decide_eq_true h1
  have h2 : hd ∈ handsAt hs (settled hs s c) := of_decide_eq_true h2
  have q1 := fun h => pure_ret h (compC_ok c) (by simp [noLs, nl_C]) rfl
  have q2 := fun h => pure_ret h (compH_ok hd) (by simp [noLs, nl_Hd]) rfl
  have e1 := p_changes hs ho s (by omega) (by omega) []
  have n1 := notin_ok (e := eC) eqT_eC (fun a => okT_eC 21 a) (a := c) (xs := changesAt hs s) (h := [])
  rw [decide_eq_true h1] at n1
  have p3 := p_settled hs ho s c (okC_of h1) (by omega) (by omega) []
  have sl : (settled hs s c).shown.length ≤ 9 := by
    unfold settled
    dsimp only
    split
    · simp only [stoodOn, List.length_map, List.length_zipIdx]
      have hz : ∀ (us : List Int) (rows : List Row), rows.length ≤ 9 → (us.foldl (putIn hs) rows).length ≤ 9 := by
        intro us
        induction us with
        | nil => intro rows h; exact h
        | cons u us ih =>
          intro rows _
          exact ih _ (Nat.le_trans (putIn_len hs rows u) (by omega))
      refine hz _ _ (Nat.le_trans (List.length_filter_le _ _) ?_)
      rw [undrawn_len, changed_len]
      omega
    · simp only [stoodOn, List.length_map, List.length_zipIdx, undrawn_len, changed_len]
      omega
  have e2 := p_hands hs (settled hs s c) sl []
  have n2 := notin_ok (e := eHd) eqT_eHd (fun a => okT_eHd 21 a) (a := hd) (xs := handsAt hs (settled hs s c)) (h := [])
  rw [decide_eq_true h2] at n2
  have p4 := fun h => pure_ret h (handled_ok hs.rule (settled hs s c) hd (fun l hl => by
    obtain ⟨k, hk, e⟩ := settled_look l hl
    have := (ok.look k hk).place
    omega) (fun e => look_of (by rw [← e]; exact h2))) (by simp [noLs, nl_R, nl_S, nl_Hd]) (by simp [noL, noLs, nl_S])
  apply F_retN rfl (by simp only [List.map_cons, List.map_nil, List.length_cons, List.length_nil, Nat.reduceAdd, Nat.reduceSub, List.replicate_succ, List.replicate_zero, List.cons_append, List.nil_append, List.set_cons_succ, List.set_cons_zero]; rfl)
  · unfold bstep_at; repeat' (first | (with_reducible exact eqI _ _ _ _) | (with_reducible exact q1 _) | (with_reducible exact q2 _) | (with_reducible exact e1) | (with_reducible exact n1) | (with_reducible exact p3) | (with_reducible exact e2) | (with_reducible exact n2) | (with_reducible exact p4 _) | (with_reducible apply r_isSet; (first | (simp only [List.map_cons, List.map_nil, List.length_cons, List.length_nil, Nat.reduceAdd, Nat.reduceSub, List.replicate_succ, List.replicate_zero, List.cons_append, List.nil_append, List.set_cons_succ, List.set_cons_zero]; done) | (simp only [List.map_cons, List.map_nil, List.length_cons, List.length_nil, Nat.reduceAdd, Nat.reduceSub, List.replicate_succ, List.replicate_zero, List.cons_append, List.nil_append, List.set_cons_succ, List.set_cons_zero]; rfl))) | (with_reducible rfl) | (with_reducible exact r_nx) | (with_reducible exact r_c) | (with_reducible exact r_nil) | (with_reducible exact r_no) | (with_reducible exact r_pnil) | (with_reducible exact r_gend) | exact Nat.le_of_ble_eq_true rfl | (with_reducible apply r_seqK_nx) | (with_reducible apply r_seqK) | (with_reducible apply r_ifK) | (with_reducible apply r_tandK) | (with_reducible apply r_torK) | (with_reducible apply r_andK) | (with_reducible apply r_orK) | (with_reducible apply r_ifxK) | (with_reducible apply r_ret) | (with_reducible apply r_setN) | (with_reducible apply r_expr) | (with_reducible apply r_asg) | (with_reducible apply r_parN) | (with_reducible apply r_var) | (with_reducible apply r_1) | (with_reducible apply r_tup) | (with_reducible apply r_lst) | (with_reducible apply r_fz) | (with_reducible apply r_2) | (with_reducible apply r_cons) | (with_reducible apply r_N) | (with_reducible apply r_t2) | (with_reducible apply r_tval) | (with_reducible apply r_tnot) | (with_reducible apply r_not) | (with_reducible apply r_cmpV) | (with_reducible apply r_gtup) | (with_reducible apply r_gand) | (with_reducible apply r_gset) | (with_reducible apply r_sl) | (with_reducible apply r_part) | (with_reducible apply r_M) | (with_reducible apply r_aug) | (with_reducible apply r_chainK) | (with_reducible apply r_bind2) | (with_reducible apply r_tchain) | (with_reducible apply r_fld) | (with_reducible apply r_disp) | (with_reducible apply r_pcons) | (with_reducible apply r_itet; focus (first | assumption | with_reducible rfl | (simp_all; done) | (simp_all; omega))) | (with_reducible apply r_itef; focus (first | assumption | with_reducible rfl | (simp_all; done) | (simp_all; omega))) | (simp only [List.map_cons, List.map_nil, List.length_cons, List.length_nil, Nat.reduceAdd, Nat.reduceSub, List.replicate_succ, List.replicate_zero, List.cons_append, List.nil_append, List.set_cons_succ, List.set_cons_zero]; done) | (simp only [List.map_cons, List.map_nil, List.length_cons, List.length_nil, Nat.reduceAdd, Nat.reduceSub, List.replicate_succ, List.replicate_zero, List.cons_append, List.nil_append, List.set_cons_succ, List.set_cons_zero]; rfl) | rfl | exact eqI _ _ _ _ | exact q1 _ | exact q2 _ | exact e1 | exact n1 | exact p3 | exact e2 | exact n2 | exact p4 _)
  · rfl
  · rfl
theorem tick_ok (hs : Hs) (ho : OkH hs) (s : Stand) (ok : OkS hs s) (m : Change × Hand) (hm : can hs s m = true) : ∃ g, Ftick_at [eH hs, eS s, eM m] [] = .ret (.tup [eS (tick hs s m).1, .str (tick hs s m).2], g) := by
  have p1 := check_p hs ho s ok []
  have p2 := pure_ret [] (step_ok hs ho s ok m hm) (by simp [noLs, noL, eM, nl_H, nl_S, nl_C, nl_Hd]) (by simp [noL, noLs, nl_S])
  apply F_retN rfl (by simp only [List.map_cons, List.map_nil, List.length_cons, List.length_nil, Nat.reduceAdd, Nat.reduceSub, List.replicate_succ, List.replicate_zero, List.cons_append, List.nil_append, List.set_cons_succ, List.set_cons_zero]; rfl)
  · unfold btick_at; repeat' (first | (with_reducible exact p1) | (with_reducible exact p2) | (with_reducible apply r_isSet; (first | (simp only [List.map_cons, List.map_nil, List.length_cons, List.length_nil, Nat.reduceAdd, Nat.reduceSub, List.replicate_succ, List.replicate_zero, List.cons_append, List.nil_append, List.set_cons_succ, List.set_cons_zero]; done) | (simp only [List.map_cons, List.map_nil, List.length_cons, List.length_nil, Nat.reduceAdd, Nat.reduceSub, List.replicate_succ, List.replicate_zero, List.cons_append, List.nil_append, List.set_cons_succ, List.set_cons_zero]; rfl))) | (with_reducible rfl) | (with_reducible exact r_nx) | (with_reducible exact r_c) | (with_reducible exact r_nil) | (with_reducible exact r_no) | (with_reducible exact r_pnil) | (with_reducible exact r_gend) | exact Nat.le_of_ble_eq_true rfl | (with_reducible apply r_seqK_nx) | (with_reducible apply r_seqK) | (with_reducible apply r_ifK) | (with_reducible apply r_tandK) | (with_reducible apply r_torK) | (with_reducible apply r_andK) | (with_reducible apply r_orK) | (with_reducible apply r_ifxK) | (with_reducible apply r_ret) | (with_reducible apply r_setN) | (with_reducible apply r_expr) | (with_reducible apply r_asg) | (with_reducible apply r_parN) | (with_reducible apply r_var) | (with_reducible apply r_1) | (with_reducible apply r_tup) | (with_reducible apply r_lst) | (with_reducible apply r_fz) | (with_reducible apply r_2) | (with_reducible apply r_cons) | (with_reducible apply r_N) | (with_reducible apply r_t2) | (with_reducible apply r_tval) | (with_reducible apply r_tnot) | (with_reducible apply r_not) | (with_reducible apply r_cmpV) | (with_reducible apply r_gtup) | (with_reducible apply r_gand) | (with_reducible apply r_gset) | (with_reducible apply r_sl) | (with_reducible apply r_part) | (with_reducible apply r_M) | (with_reducible apply r_aug) | (with_reducible apply r_chainK) | (with_reducible apply r_bind2) | (with_reducible apply r_tchain) | (with_reducible apply r_fld) | (with_reducible apply r_disp) | (with_reducible apply r_pcons) | (with_reducible apply r_itet; focus (first | assumption | with_reducible rfl | (simp_all; done) | (simp_all; omega))) | (with_reducible apply r_itef; focus (first | assumption | with_reducible rfl | (simp_all; done) | (simp_all; omega))) | (simp only [List.map_cons, List.map_nil, List.length_cons, List.length_nil, Nat.reduceAdd, Nat.reduceSub, List.replicate_succ, List.replicate_zero, List.cons_append, List.nil_append, List.set_cons_succ, List.set_cons_zero]; done) | (simp only [List.map_cons, List.map_nil, List.length_cons, List.length_nil, Nat.reduceAdd, Nat.reduceSub, List.replicate_succ, List.replicate_zero, List.cons_append, List.nil_append, List.set_cons_succ, List.set_cons_zero]; rfl) | rfl | exact p1 | exact p2)
  · rfl
  · rfl
theorem tick_p (hs : Hs) (ho : OkH hs) (s : Stand) (ok : OkS hs s) (m : Change × Hand) (hm : can hs s m = true) (h : List O) : oPure Ftick_at [eH hs, eS s, eM m] h = .ret (.tup [eS (tick hs s m).1, .str (tick hs s m).2], h) :=
  pure_ret h (tick_ok hs ho s ok m hm) (by simp [noLs, noL, eM, nl_H, nl_S, nl_C, nl_Hd]) (by simp [noL, noLs, nl_S])
end Md

/-! Standings stay of the right form. -/
namespace Md
open PySem
structure OkRow (hs : Hs) (w : Row) : Prop where
  rank : 0 ≤ w.rank ∧ w.rank ≤ hs.top
  gone : w.gone = true → hs.goes = true
theorem changed_items {hs : Hs} {s : Stand} (ok : OkS hs s) {c : Change} (hc : c ∈ changesAt hs s) : ∀ i ∈ (changed s c).1, OkI hs i := by
  cases c with
  | none => exact ok.items
  | come r => exact ok.items
  | go p =>
    have hg : hs.goes = true := by
      unfold changesAt at hc
      simp only [List.mem_append, List.mem_singleton] at hc
      rcases hc with (h | h) | h
      · split at h <;> simp at h
      · split at h
        · assumption
        · simp at h
      · simp at h
    obtain ⟨h0, h1⟩ := okC_of hc
    intro i hi
    rcases List.mem_or_eq_of_mem_set hi with h | h
    · exact ok.items i h
    · have hp : p.toNat < s.shown.length := by omega
      have o := ok.items _ (List.getElem_mem hp)
      rw [h]
      have e : s.shown.getD p.toNat ⟨0, false, 0⟩ = s.shown[p.toNat] := by simp [hp]
      rw [e]
      exact ⟨o.rank, fun _ => hg, o.stood⟩
theorem changed_waits {hs : Hs} {s : Stand} (ok : OkS hs s) {c : Change} (hc : c ∈ changesAt hs s) : ((changed s c).2.length : Int) ≤ hs.many ∧ ∀ r ∈ (changed s c).2, 0 ≤ r ∧ r ≤ hs.top := by
  cases c with
  | none => exact ⟨ok.waits, ok.ranks⟩
  | go p => exact ⟨ok.waits, ok.ranks⟩
  | come r =>
    unfold changesAt at hc
    simp only [List.mem_append, List.mem_singleton] at hc
    rcases hc with (h | h) | h
    · split at h
      · rename_i hm
        obtain ⟨k, h1, h2⟩ := List.mem_map.mp h
        have := List.mem_range.mp h1
        simp at h2
        subst h2
        refine ⟨by simp [changed]; omega, fun q hq => ?_⟩
        rcases List.mem_append.mp hq with h | h
        · exact ok.ranks q h
        · rw [List.mem_singleton.mp h]; omega
      · simp at h
    · split at h <;> simp at h
    · simp at h
theorem undrawn_rows_ok {hs : Hs} {sh : List Item} (ok : ∀ i ∈ sh, OkI hs i) : ∀ w ∈ undrawnRows sh, OkRow hs w := by
  intro w hw
  obtain ⟨⟨i, q⟩, h1, rfl⟩ := List.mem_map.mp hw
  have hi : i ∈ sh := List.fst_mem_of_mem_zipIdx h1
  exact ⟨(ok i hi).rank, (ok i hi).gone⟩
theorem fold_rows_ok {hs : Hs} : ∀ {ws : List Int} {rows : List Row}, (∀ w ∈ rows, OkRow hs w) → (∀ r ∈ ws, 0 ≤ r ∧ r ≤ hs.top) → ∀ w ∈ ws.foldl (putIn hs) rows, OkRow hs w
  | [], _, h, _ => h
  | u :: us, rows, h, hr => by
    refine fold_rows_ok (ws := us) (fun w hw => ?_) (fun r q => hr r (List.mem_cons_of_mem _ q))
    have h1 := List.mem_of_mem_take hw
    rcases List.mem_append.mp h1 with h1 | h1
    · rcases List.mem_append.mp h1 with h1 | h1
      · exact h w (List.mem_of_mem_take h1)
      · rw [List.mem_singleton.mp h1]
        exact ⟨hr u (List.mem_cons_self), fun z => by cases z⟩
    · exact h w (List.mem_of_mem_drop h1)
theorem fold_rows_len {hs : Hs} : ∀ {ws : List Int} {rows : List Row}, (rows.length : Int) ≤ hs.room → ((ws.foldl (putIn hs) rows).length : Int) ≤ hs.room
  | [], _, h => h
  | u :: us, rows, h => fold_rows_len (ws := us) (by have := putIn_len hs rows u; omega)
/-- what stands ahead of the hand -/
structure OkM (hs : Hs) (s : Stand) : Prop where
  few : (s.shown.length : Int) ≤ hs.room
  items : ∀ i ∈ s.shown, OkI hs i
  waits : (s.waiting.length : Int) ≤ hs.many
  ranks : ∀ r ∈ s.waiting, 0 ≤ r ∧ r ≤ hs.top
  quiet : 0 ≤ s.quiet ∧ s.quiet ≤ hs.rule.still
  look : ∀ l, s.look = some l → (1 ≤ l.age ∧ l.age ≤ hs.most) ∧ (0 ≤ l.place ∧ l.place ≤ hs.room - 1) ∧ -1 ≤ l.spot ∧ l.spot ≤ (s.shown.length : Int) - 1
theorem stood_items {hs : Hs} (ho : OkH hs) {sh : List Item} (ok : ∀ i ∈ sh, OkI hs i) {rows : List Row} (hr : ∀ w ∈ rows, OkRow hs w) (hb : ∀ w ∈ rows, ∀ p, w.before = some p → p < sh.length) : ∀ i ∈ stoodOn hs.rule sh rows, OkI hs i := by
  intro i hi
  obtain ⟨⟨w, q⟩, h1, rfl⟩ := List.mem_map.mp hi
  have hw : w ∈ rows := List.fst_mem_of_mem_zipIdx h1
  refine ⟨(hr w hw).rank, (hr w hw).gone, ?_⟩
  have hg := ho.rule.guard
  show 0 ≤ (if w.before = some q then minI ((sh.getD q ⟨0, false, 0⟩).stood + 1) hs.rule.guard else 0) ∧ (if w.before = some q then minI ((sh.getD q ⟨0, false, 0⟩).stood + 1) hs.rule.guard else 0) ≤ hs.rule.guard
  split
  · rename_i e
    have hq := hb w hw q e
    have o := (ok _ (List.getElem_mem hq)).stood
    have e2 : sh.getD q ⟨0, false, 0⟩ = sh[q] := by simp [hq]
    rw [e2]
    unfold minI
    split <;> omega
  · omega
theorem spotOf_bd (rows : List Row) (spot : Int) : -1 ≤ spotOf rows spot ∧ spotOf rows spot ≤ (rows.length : Int) - 1 := by
  unfold spotOf
  split
  · rename_i h
    have : rows.findIdx (fun w => atB spot w.before) < rows.length := by
      rw [List.findIdx_lt_length]
      simpa using h
    omega
  · omega
theorem settled_okM {hs : Hs} (ho : OkH hs) {s : Stand} (ok : OkS hs s) {c : Change} (hc : c ∈ changesAt hs s) : OkM hs (settled hs s c) := by
  have hi := changed_items ok hc
  have hw := changed_waits ok hc
  have hl : ((changed s c).1.length : Int) ≤ hs.room := by rw [changed_len]; exact ok.few
  have hst := ho.rule.still
  have hq := ok.quiet
  have hmany := ho.many
  have look : ∀ rows : List Row, ∀ l, followed s.look rows = some l → (1 ≤ l.age ∧ l.age ≤ hs.most) ∧ (0 ≤ l.place ∧ l.place ≤ hs.room - 1) ∧ -1 ≤ l.spot ∧ l.spot ≤ (rows.length : Int) - 1 := by
    intro rows l h
    unfold followed at h
    split at h
    · cases h
    · rename_i k hk
      have o := ok.look k hk
      have := o.age
      have := spotOf_bd rows k.spot
      cases h
      exact ⟨⟨by simp; omega, by simp; omega⟩, o.place, this⟩
  unfold settled
  dsimp only
  split
  · have hr := fold_rows_ok (hs := hs) (ws := (changed s c).2) (rows := (undrawnRows (changed s c).1).filter fun r => !r.gone) (fun w h => undrawn_rows_ok hi w (List.mem_filter.mp h).1) hw.2
    have hln : ((drawnRows hs (changed s c).1 (changed s c).2).length : Int) ≤ hs.room := fold_rows_len (by
      have := List.length_filter_le (fun r : Row => !r.gone) (undrawnRows (changed s c).1)
      rw [undrawn_len] at this
      omega)
    refine ⟨by simpa [stoodOn] using hln, stood_items ho hi hr fun w h p e => drawn_before h e, by simp; omega, fun r h => by simp at h, by simp; omega, fun l h => ?_⟩
    have := look _ l h
    simpa [stoodOn] using this
  · refine ⟨by simpa [stoodOn, undrawn_len] using hl, stood_items ho hi (undrawn_rows_ok hi) fun w h p e => undrawn_before h e, hw.1, hw.2, by simp only [minI]; split <;> omega, fun l h => ?_⟩
    have := look _ l h
    simpa [stoodOn] using this
theorem tick_okS {hs : Hs} (ho : OkH hs) {s : Stand} (ok : OkS hs s) {m : Change × Hand} (hm : can hs s m = true) : OkS hs (tick hs s m).1 := by
  obtain ⟨c, hd⟩ := m
  obtain ⟨h1, h2⟩ := Bool.and_eq_true_iff.mp hm
  have h1 : c ∈ changesAt hs s := of_decide_eq_true h1
  have h2 : hd ∈ handsAt hs (settled hs s c) := of_decide_eq_true h2
  have M := settled_okM ho ok h1
  have hlag := ho.lag
  show OkS hs (handled hs.rule (settled hs s c) hd).1
  cases hd with
  | none =>
    refine ⟨M.few, M.items, M.waits, M.ranks, M.quiet, fun l hl => ?_⟩
    have hl : (settled hs s c).look = some l := hl
    obtain ⟨a, b, d⟩ := M.look l hl
    refine ⟨⟨by omega, ?_⟩, b, d⟩
    unfold handsAt at h2
    rw [hl] at h2
    dsimp only at h2
    split at h2
    · simp at h2
    · omega
  | look p =>
    have hp : 0 ≤ p ∧ p < (settled hs s c).shown.length := by
      unfold handsAt at h2
      split at h2
      · simp at h2
        obtain ⟨k, h3, rfl⟩ := h2
        omega
      · split at h2
        · simp at h2
        · split at h2 <;> simp at h2
    have := M.few
    refine ⟨M.few, M.items, M.waits, M.ranks, M.quiet, fun l hl => ?_⟩
    cases hl
    exact ⟨⟨by simp, by simp; omega⟩, ⟨by simp; omega, by simp; omega⟩, ⟨by simp; omega, by simp [handled]; omega⟩⟩
  | tap => exact ⟨M.few, M.items, M.waits, M.ranks, M.quiet, fun l hl => by cases hl⟩
theorem first_okS {hs : Hs} (ho : OkH hs) : OkS hs (first0 hs) := by
  have := ho.room
  have := ho.many
  have := ho.rule.still
  exact ⟨by simp [first0]; omega, fun i h => absurd h (by simp [first0]), by simp [first0]; omega, fun r h => absurd h (by simp [first0]), by simp [first0]; omega, fun l h => absurd h (by simp [first0])⟩
/-! runs -/
def led (hs : Hs) : Stand → List (Change × Hand) → List (Stand × Str)
  | _, [] => []
  | s, m :: ms => tick hs s m :: led hs (tick hs s m).1 ms
def canAll (hs : Hs) : Stand → List (Change × Hand) → Bool
  | _, [] => true
  | s, m :: ms => can hs s m && canAll hs (tick hs s m).1 ms
def behind (hs : Hs) : Stand → List (Change × Hand) → Stand
  | s, [] => s
  | s, m :: ms => behind hs (tick hs s m).1 ms
theorem led_len (hs : Hs) : ∀ (s : Stand) (ms : List (Change × Hand)), (led hs s ms).length = ms.length
  | _, [] => rfl
  | s, m :: ms => by simp [led, led_len]
theorem led_snoc (hs : Hs) : ∀ (s : Stand) (ms : List (Change × Hand)) (m : Change × Hand), led hs s (ms ++ [m]) = led hs s ms ++ [tick hs (behind hs s ms) m]
  | _, [], _ => rfl
  | s, q :: ms, m => by simp [led, behind, led_snoc hs _ ms m]
theorem behind_snoc (hs : Hs) : ∀ (s : Stand) (ms : List (Change × Hand)) (m : Change × Hand), behind hs s (ms ++ [m]) = (tick hs (behind hs s ms) m).1
  | _, [], _ => rfl
  | s, q :: ms, m => by simp [behind, behind_snoc hs _ ms m]
theorem canAll_at (hs : Hs) : ∀ (s : Stand) (a b : List (Change × Hand)) (m : Change × Hand), canAll hs s (a ++ m :: b) = true → can hs (behind hs s a) m = true
  | s, [], b, m, h => (Bool.and_eq_true_iff.mp h).1
  | s, q :: a, b, m, h => canAll_at hs _ a b m (Bool.and_eq_true_iff.mp h).2
theorem behind_okS {hs : Hs} (ho : OkH hs) : ∀ {s : Stand} (a b : List (Change × Hand)), OkS hs s → canAll hs s (a ++ b) = true → OkS hs (behind hs s a)
  | s, [], b, ok, h => ok
  | s, q :: a, b, ok, h => by
    have h := Bool.and_eq_true_iff.mp h
    exact behind_okS ho a b (tick_okS ho ok h.1) h.2
end Md

/-! Rules and houses are made. -/
namespace Md
open PySem PySem.Spec PyProof.Rows L2 Dr Ev Und
theorem mk_of {k n : Nat} {F : List D → M D} {xs fs : List D} (e : ∃ g, F (.loc 0 :: xs) [.ins k []] = .ret (.non, g) ∧ g[0]? = some (.ins k fs)) (hx : noLs xs = true) (hl : fs.length = n) (hf : noLs fs = true) (h : List O) : oMk k n F xs h = .ret (.ins k fs, h) := by
  obtain ⟨g, e1, e2⟩ := e
  unfold oMk
  rw [if_pos hx, e1]
  show (match D.non, insOf k n g with
    | .non, some gs => Tr.ret (D.ins k gs, h)
    | _, _ => .bad) = _
  have : insOf k n g = some fs := by
    unfold insOf
    rw [e2]
    dsimp only
    rw [if_pos ⟨rfl, hl⟩]
    exact mapO_nl (n := 39) hf
  rw [this]
theorem oneof_ok (w : Way) : ∃ g, Fis_one_of [.str w.s, .tup [.str "end", .str "front", .str "rank"]] [] = .ret (.bl true, g) := by
  cases w with
  | fin =>
    have q : pInT false [] (.str Way.fin.s) (.tup [.str "end", .str "front", .str "rank"]) = some true := by decide +kernel
    have q2 : pInA false [] (.str Way.fin.s) (.tup [.str "end", .str "front", .str "rank"]) = some true := q
    apply F_retN rfl (by simp only [List.map_cons, List.map_nil, List.length_cons, List.length_nil, Nat.reduceAdd, Nat.reduceSub, List.replicate_succ, List.replicate_zero, List.cons_append, List.nil_append, List.set_cons_succ, List.set_cons_zero]; rfl)
    · unfold bis_one_of; repeat' (first | (with_reducible exact q2) | (with_reducible apply r_isSet; (first | (simp only [List.map_cons, List.map_nil, List.length_cons, List.length_nil, Nat.reduceAdd, Nat.reduceSub, List.replicate_succ, List.replicate_zero, List.cons_append, List.nil_append, List.set_cons_succ, List.set_cons_zero]; done) | (simp only [List.map_cons, List.map_nil, List.length_cons, List.length_nil, Nat.reduceAdd, Nat.reduceSub, List.replicate_succ, List.replicate_zero, List.cons_append, List.nil_append, List.set_cons_succ, List.set_cons_zero]; rfl))) | (with_reducible rfl) | (with_reducible exact r_nx) | (with_reducible exact r_c) | (with_reducible exact r_nil) | (with_reducible exact r_no) | (with_reducible exact r_pnil) | (with_reducible exact r_gend) | exact Nat.le_of_ble_eq_true rfl | (with_reducible apply r_seqK_nx) | (with_reducible apply r_seqK) | (with_reducible apply r_ifK) | (with_reducible apply r_tandK) | (with_reducible apply r_torK) | (with_reducible apply r_andK) | (with_reducible apply r_orK) | (with_reducible apply r_ifxK) | (with_reducible apply r_ret) | (with_reducible apply r_setN) | (with_reducible apply r_expr) | (with_reducible apply r_asg) | (with_reducible apply r_parN) | (with_reducible apply r_var) | (with_reducible apply r_1) | (with_reducible apply r_tup) | (with_reducible apply r_lst) | (with_reducible apply r_fz) | (with_reducible apply r_2) | (with_reducible apply r_cons) | (with_reducible apply r_N) | (with_reducible apply r_t2) | (with_reducible apply r_tval) | (with_reducible apply r_tnot) | (with_reducible apply r_not) | (with_reducible apply r_cmpV) | (with_reducible apply r_gtup) | (with_reducible apply r_gand) | (with_reducible apply r_gset) | (with_reducible apply r_sl) | (with_reducible apply r_part) | (with_reducible apply r_M) | (with_reducible apply r_aug) | (with_reducible apply r_chainK) | (with_reducible apply r_bind2) | (with_reducible apply r_tchain) | (with_reducible apply r_fld) | (with_reducible apply r_disp) | (with_reducible apply r_pcons) | (with_reducible apply r_itet; focus (first | assumption | with_reducible rfl | (simp_all; done) | (simp_all; omega))) | (with_reducible apply r_itef; focus (first | assumption | with_reducible rfl | (simp_all; done) | (simp_all; omega))) | (simp only [List.map_cons, List.map_nil, List.length_cons, List.length_nil, Nat.reduceAdd, Nat.reduceSub, List.replicate_succ, List.replicate_zero, List.cons_append, List.nil_append, List.set_cons_succ, List.set_cons_zero]; done) | (simp only [List.map_cons, List.map_nil, List.length_cons, List.length_nil, Nat.reduceAdd, Nat.reduceSub, List.replicate_succ, List.replicate_zero, List.cons_append, List.nil_append, List.set_cons_succ, List.set_cons_zero]; rfl) | rfl | exact q2)
    · rfl
    · rfl
  | front =>
    have q : pInT false [] (.str Way.front.s) (.tup [.str "end", .str "front", .str "rank"]) = some true := by decide +kernel
    have q2 : pInA false [] (.str Way.front.s) (.tup [.str "end", .str "front", .str "rank"]) = some true := q
    apply F_retN rfl (by simp only [List.map_cons, List.map_nil, List.length_cons, List.length_nil, Nat.reduceAdd, Nat.reduceSub, List.replicate_succ, List.replicate_zero, List.cons_append, List.nil_append, List.set_cons_succ, List.set_cons_zero]; rfl)
    · unfold bis_one_of; repeat' (first | (with_reducible exact q2) | (with_reducible apply r_isSet; (first | (simp only [List.map_cons, List.map_nil, List.length_cons, List.length_nil, Nat.reduceAdd, Nat.reduceSub, List.replicate_succ, List.replicate_zero, List.cons_append, List.nil_append, List.set_cons_succ, List.set_cons_zero]; done) | (simp only [List.map_cons, List.map_nil, List.length_cons, List.length_nil, Nat.reduceAdd, Nat.reduceSub, List.replicate_succ, List.replicate_zero, List.cons_append, List.nil_append, List.set_cons_succ, List.set_cons_zero]; rfl))) | (with_reducible rfl) | (with_reducible exact r_nx) | (with_reducible exact r_c) | (with_reducible exact r_nil) | (with_reducible exact r_no) | (with_reducible exact r_pnil) | (with_reducible exact r_gend) | exact Nat.le_of_ble_eq_true rfl | (with_reducible apply r_seqK_nx) | (with_reducible apply r_seqK) | (with_reducible apply r_ifK) | (with_reducible apply r_tandK) | (with_reducible apply r_torK) | (with_reducible apply r_andK) | (with_reducible apply r_orK) | (with_reducible apply r_ifxK) | (with_reducible apply r_ret) | (with_reducible apply r_setN) | (with_reducible apply r_expr) | (with_reducible apply r_asg) | (with_reducible apply r_parN) | (with_reducible apply r_var) | (with_reducible apply r_1) | (with_reducible apply r_tup) | (with_reducible apply r_lst) | (with_reducible apply r_fz) | (with_reducible apply r_2) | (with_reducible apply r_cons) | (with_reducible apply r_N) | (with_reducible apply r_t2) | (with_reducible apply r_tval) | (with_reducible apply r_tnot) | (with_reducible apply r_not) | (with_reducible apply r_cmpV) | (with_reducible apply r_gtup) | (with_reducible apply r_gand) | (with_reducible apply r_gset) | (with_reducible apply r_sl) | (with_reducible apply r_part) | (with_reducible apply r_M) | (with_reducible apply r_aug) | (with_reducible apply r_chainK) | (with_reducible apply r_bind2) | (with_reducible apply r_tchain) | (with_reducible apply r_fld) | (with_reducible apply r_disp) | (with_reducible apply r_pcons) | (with_reducible apply r_itet; focus (first | assumption | with_reducible rfl | (simp_all; done) | (simp_all; omega))) | (with_reducible apply r_itef; focus (first | assumption | with_reducible rfl | (simp_all; done) | (simp_all; omega))) | (simp only [List.map_cons, List.map_nil, List.length_cons, List.length_nil, Nat.reduceAdd, Nat.reduceSub, List.replicate_succ, List.replicate_zero, List.cons_append, List.nil_append, List.set_cons_succ, List.set_cons_zero]; done) | (simp only [List.map_cons, List.map_nil, List.length_cons, List.length_nil, Nat.reduceAdd, Nat.reduceSub, List.replicate_succ, List.replicate_zero, List.cons_append, List.nil_append, List.set_cons_succ, List.set_cons_zero]; rfl) | rfl | exact q2)
    · rfl
    · rfl
  | rank =>
    have q : pInT false [] (.str Way.rank.s) (.tup [.str "end", .str "front", .str "rank"]) = some true := by decide +kernel
    have q2 : pInA false [] (.str Way.rank.s) (.tup [.str "end", .str "front", .str "rank"]) = some true := q
    apply F_retN rfl (by simp only [List.map_cons, List.map_nil, List.length_cons, List.length_nil, Nat.reduceAdd, Nat.reduceSub, List.replicate_succ, List.replicate_zero, List.cons_append, List.nil_append, List.set_cons_succ, List.set_cons_zero]; rfl)
    · unfold bis_one_of; repeat' (first | (with_reducible exact q2) | (with_reducible apply r_isSet; (first | (simp only [List.map_cons, List.map_nil, List.length_cons, List.length_nil, Nat.reduceAdd, Nat.reduceSub, List.replicate_succ, List.replicate_zero, List.cons_append, List.nil_append, List.set_cons_succ, List.set_cons_zero]; done) | (simp only [List.map_cons, List.map_nil, List.length_cons, List.length_nil, Nat.reduceAdd, Nat.reduceSub, List.replicate_succ, List.replicate_zero, List.cons_append, List.nil_append, List.set_cons_succ, List.set_cons_zero]; rfl))) | (with_reducible rfl) | (with_reducible exact r_nx) | (with_reducible exact r_c) | (with_reducible exact r_nil) | (with_reducible exact r_no) | (with_reducible exact r_pnil) | (with_reducible exact r_gend) | exact Nat.le_of_ble_eq_true rfl | (with_reducible apply r_seqK_nx) | (with_reducible apply r_seqK) | (with_reducible apply r_ifK) | (with_reducible apply r_tandK) | (with_reducible apply r_torK) | (with_reducible apply r_andK) | (with_reducible apply r_orK) | (with_reducible apply r_ifxK) | (with_reducible apply r_ret) | (with_reducible apply r_setN) | (with_reducible apply r_expr) | (with_reducible apply r_asg) | (with_reducible apply r_parN) | (with_reducible apply r_var) | (with_reducible apply r_1) | (with_reducible apply r_tup) | (with_reducible apply r_lst) | (with_reducible apply r_fz) | (with_reducible apply r_2) | (with_reducible apply r_cons) | (with_reducible apply r_N) | (with_reducible apply r_t2) | (with_reducible apply r_tval) | (with_reducible apply r_tnot) | (with_reducible apply r_not) | (with_reducible apply r_cmpV) | (with_reducible apply r_gtup) | (with_reducible apply r_gand) | (with_reducible apply r_gset) | (with_reducible apply r_sl) | (with_reducible apply r_part) | (with_reducible apply r_M) | (with_reducible apply r_aug) | (with_reducible apply r_chainK) | (with_reducible apply r_bind2) | (with_reducible apply r_tchain) | (with_reducible apply r_fld) | (with_reducible apply r_disp) | (with_reducible apply r_pcons) | (with_reducible apply r_itet; focus (first | assumption | with_reducible rfl | (simp_all; done) | (simp_all; omega))) | (with_reducible apply r_itef; focus (first | assumption | with_reducible rfl | (simp_all; done) | (simp_all; omega))) | (simp only [List.map_cons, List.map_nil, List.length_cons, List.length_nil, Nat.reduceAdd, Nat.reduceSub, List.replicate_succ, List.replicate_zero, List.cons_append, List.nil_append, List.set_cons_succ, List.set_cons_zero]; done) | (simp only [List.map_cons, List.map_nil, List.length_cons, List.length_nil, Nat.reduceAdd, Nat.reduceSub, List.replicate_succ, List.replicate_zero, List.cons_append, List.nil_append, List.set_cons_succ, List.set_cons_zero]; rfl) | rfl | exact q2)
    · rfl
    · rfl
theorem iRule_ok (r : Rl) (ok : OkR r) : IRule [.loc 0, .str r.way.s, .int r.still, .int r.hold, .int r.pins, .int r.guard] [.ins 0 []] = .ret (.non, [.ins 0 [.str r.way.s, .int r.still, .int r.hold, .int r.pins, .int r.guard]]) := by
  have p0 := pure_ret [O.ins 0 []] (oneof_ok r.way) rfl rfl
  have p1 := within_t ok.still [O.ins 0 []]
  have p2 := within_t ok.hold [O.ins 0 []]
  have p3 := within_t ok.pins [O.ins 0 []]
  have p4 := within_t ok.guard [O.ins 0 []]
  apply F_retX rfl (by simp only [List.map_cons, List.map_nil, List.length_cons, List.length_nil, Nat.reduceAdd, Nat.reduceSub, List.replicate_succ, List.replicate_zero, List.cons_append, List.nil_append, List.set_cons_succ, List.set_cons_zero]; rfl)
  · unfold bIRule; repeat' (first | (with_reducible exact p0) | (with_reducible exact p1) | (with_reducible exact p2) | (with_reducible exact p3) | (with_reducible exact p4) | (with_reducible apply r_isSet; (first | (simp only [List.map_cons, List.map_nil, List.length_cons, List.length_nil, Nat.reduceAdd, Nat.reduceSub, List.replicate_succ, List.replicate_zero, List.cons_append, List.nil_append, List.set_cons_succ, List.set_cons_zero]; done) | (simp only [List.map_cons, List.map_nil, List.length_cons, List.length_nil, Nat.reduceAdd, Nat.reduceSub, List.replicate_succ, List.replicate_zero, List.cons_append, List.nil_append, List.set_cons_succ, List.set_cons_zero]; rfl))) | (with_reducible rfl) | (with_reducible exact r_nx) | (with_reducible exact r_c) | (with_reducible exact r_nil) | (with_reducible exact r_no) | (with_reducible exact r_pnil) | (with_reducible exact r_gend) | exact Nat.le_of_ble_eq_true rfl | (with_reducible apply r_seqK_nx) | (with_reducible apply r_seqK) | (with_reducible apply r_ifK) | (with_reducible apply r_tandK) | (with_reducible apply r_torK) | (with_reducible apply r_andK) | (with_reducible apply r_orK) | (with_reducible apply r_ifxK) | (with_reducible apply r_ret) | (with_reducible apply r_setN) | (with_reducible apply r_expr) | (with_reducible apply r_asg) | (with_reducible apply r_parN) | (with_reducible apply r_var) | (with_reducible apply r_1) | (with_reducible apply r_tup) | (with_reducible apply r_lst) | (with_reducible apply r_fz) | (with_reducible apply r_2) | (with_reducible apply r_cons) | (with_reducible apply r_N) | (with_reducible apply r_t2) | (with_reducible apply r_tval) | (with_reducible apply r_tnot) | (with_reducible apply r_not) | (with_reducible apply r_cmpV) | (with_reducible apply r_gtup) | (with_reducible apply r_gand) | (with_reducible apply r_gset) | (with_reducible apply r_sl) | (with_reducible apply r_part) | (with_reducible apply r_M) | (with_reducible apply r_aug) | (with_reducible apply r_chainK) | (with_reducible apply r_bind2) | (with_reducible apply r_tchain) | (with_reducible apply r_fld) | (with_reducible apply r_disp) | (with_reducible apply r_pcons) | (with_reducible apply r_itet; focus (first | assumption | with_reducible rfl | (simp_all; done) | (simp_all; omega))) | (with_reducible apply r_itef; focus (first | assumption | with_reducible rfl | (simp_all; done) | (simp_all; omega))) | (simp only [List.map_cons, List.map_nil, List.length_cons, List.length_nil, Nat.reduceAdd, Nat.reduceSub, List.replicate_succ, List.replicate_zero, List.cons_append, List.nil_append, List.set_cons_succ, List.set_cons_zero]; done) | (simp only [List.map_cons, List.map_nil, List.length_cons, List.length_nil, Nat.reduceAdd, Nat.reduceSub, List.replicate_succ, List.replicate_zero, List.cons_append, List.nil_append, List.set_cons_succ, List.set_cons_zero]; rfl) | rfl | exact p0 | exact p1 | exact p2 | exact p3 | exact p4)
  · rfl
  · rfl
  · rfl
theorem rule_mk (r : Rl) (ok : OkR r) (h : List O) : oMk 0 5 IRule [.str r.way.s, .int r.still, .int r.hold, .int r.pins, .int r.guard] h = .ret (eR r, h) :=
  mk_of ⟨_, iRule_ok r ok, rfl⟩ rfl rfl rfl h
theorem lag_ok (a b : Int) (hl : 1 ≤ a ∧ a ≤ b ∧ b ≤ 3) : ∃ g, Fis_lag [.tup [.int a, .int b]] [] = .ret (.bl true, g) := by
  have p1 := within_t (i := b) (a := 1) (b := 3) (by omega) []
  have p2 := within_t (i := a) (a := 1) (b := b) (by omega) []
  apply F_retN rfl (by simp only [List.map_cons, List.map_nil, List.length_cons, List.length_nil, Nat.reduceAdd, Nat.reduceSub, List.replicate_succ, List.replicate_zero, List.cons_append, List.nil_append, List.set_cons_succ, List.set_cons_zero]; rfl)
  · unfold bis_lag; repeat' (first | (with_reducible exact eqI _ _ _ _) | (with_reducible exact p1) | (with_reducible exact p2) | (with_reducible apply r_isSet; (first | (simp only [List.map_cons, List.map_nil, List.length_cons, List.length_nil, Nat.reduceAdd, Nat.reduceSub, List.replicate_succ, List.replicate_zero, List.cons_append, List.nil_append, List.set_cons_succ, List.set_cons_zero]; done) | (simp only [List.map_cons, List.map_nil, List.length_cons, List.length_nil, Nat.reduceAdd, Nat.reduceSub, List.replicate_succ, List.replicate_zero, List.cons_append, List.nil_append, List.set_cons_succ, List.set_cons_zero]; rfl))) | (with_reducible rfl) | (with_reducible exact r_nx) | (with_reducible exact r_c) | (with_reducible exact r_nil) | (with_reducible exact r_no) | (with_reducible exact r_pnil) | (with_reducible exact r_gend) | exact Nat.le_of_ble_eq_true rfl | (with_reducible apply r_seqK_nx) | (with_reducible apply r_seqK) | (with_reducible apply r_ifK) | (with_reducible apply r_tandK) | (with_reducible apply r_torK) | (with_reducible apply r_andK) | (with_reducible apply r_orK) | (with_reducible apply r_ifxK) | (with_reducible apply r_ret) | (with_reducible apply r_setN) | (with_reducible apply r_expr) | (with_reducible apply r_asg) | (with_reducible apply r_parN) | (with_reducible apply r_var) | (with_reducible apply r_1) | (with_reducible apply r_tup) | (with_reducible apply r_lst) | (with_reducible apply r_fz) | (with_reducible apply r_2) | (with_reducible apply r_cons) | (with_reducible apply r_N) | (with_reducible apply r_t2) | (with_reducible apply r_tval) | (with_reducible apply r_tnot) | (with_reducible apply r_not) | (with_reducible apply r_cmpV) | (with_reducible apply r_gtup) | (with_reducible apply r_gand) | (with_reducible apply r_gset) | (with_reducible apply r_sl) | (with_reducible apply r_part) | (with_reducible apply r_M) | (with_reducible apply r_aug) | (with_reducible apply r_chainK) | (with_reducible apply r_bind2) | (with_reducible apply r_tchain) | (with_reducible apply r_fld) | (with_reducible apply r_disp) | (with_reducible apply r_pcons) | (with_reducible apply r_itet; focus (first | assumption | with_reducible rfl | (simp_all; done) | (simp_all; omega))) | (with_reducible apply r_itef; focus (first | assumption | with_reducible rfl | (simp_all; done) | (simp_all; omega))) | (simp only [List.map_cons, List.map_nil, List.length_cons, List.length_nil, Nat.reduceAdd, Nat.reduceSub, List.replicate_succ, List.replicate_zero, List.cons_append, List.nil_append, List.set_cons_succ, List.set_cons_zero]; done) | (simp only [List.map_cons, List.map_nil, List.length_cons, List.length_nil, Nat.reduceAdd, Nat.reduceSub, List.replicate_succ, List.replicate_zero, List.cons_append, List.nil_append, List.set_cons_succ, List.set_cons_zero]; rfl) | rfl | exact eqI _ _ _ _ | exact p1 | exact p2)
  · rfl
  · rfl
theorem iHouse_ok (hs : Hs) (ok : OkH hs) : IHouse [.loc 0, eR hs.rule, .int hs.room, .int hs.top, .int hs.many, .bl hs.goes, .tup [.int hs.least, .int hs.most]] [.ins 1 []] = .ret (.non, [.ins 1 [eR hs.rule, .int hs.room, .int hs.top, .int hs.many, .bl hs.goes, .tup [.int hs.least, .int hs.most]]]) := by
  have p1 := within_t ok.room [O.ins 1 []]
  have p2 := within_t ok.top [O.ins 1 []]
  have p3 := within_t ok.many [O.ins 1 []]
  have p4 := pure_ret [O.ins 1 []] (lag_ok hs.least hs.most ok.lag) rfl rfl
  apply F_retX rfl (by simp only [List.map_cons, List.map_nil, List.length_cons, List.length_nil, Nat.reduceAdd, Nat.reduceSub, List.replicate_succ, List.replicate_zero, List.cons_append, List.nil_append, List.set_cons_succ, List.set_cons_zero]; rfl)
  · unfold bIHouse; repeat' (first | (with_reducible exact p1) | (with_reducible exact p2) | (with_reducible exact p3) | (with_reducible exact p4) | (with_reducible apply r_isSet; (first | (simp only [List.map_cons, List.map_nil, List.length_cons, List.length_nil, Nat.reduceAdd, Nat.reduceSub, List.replicate_succ, List.replicate_zero, List.cons_append, List.nil_append, List.set_cons_succ, List.set_cons_zero]; done) | (simp only [List.map_cons, List.map_nil, List.length_cons, List.length_nil, Nat.reduceAdd, Nat.reduceSub, List.replicate_succ, List.replicate_zero, List.cons_append, List.nil_append, List.set_cons_succ, List.set_cons_zero]; rfl))) | (with_reducible rfl) | (with_reducible exact r_nx) | (with_reducible exact r_c) | (with_reducible exact r_nil) | (with_reducible exact r_no) | (with_reducible exact r_pnil) | (with_reducible exact r_gend) | exact Nat.le_of_ble_eq_true rfl | (with_reducible apply r_seqK_nx) | (with_reducible apply r_seqK) | (with_reducible apply r_ifK) | (with_reducible apply r_tandK) | (with_reducible apply r_torK) | (with_reducible apply r_andK) | (with_reducible apply r_orK) | (with_reducible apply r_ifxK) | (with_reducible apply r_ret) | (with_reducible apply r_setN) | (with_reducible apply r_expr) | (with_reducible apply r_asg) | (with_reducible apply r_parN) | (with_reducible apply r_var) | (with_reducible apply r_1) | (with_reducible apply r_tup) | (with_reducible apply r_lst) | (with_reducible apply r_fz) | (with_reducible apply r_2) | (with_reducible apply r_cons) | (with_reducible apply r_N) | (with_reducible apply r_t2) | (with_reducible apply r_tval) | (with_reducible apply r_tnot) | (with_reducible apply r_not) | (with_reducible apply r_cmpV) | (with_reducible apply r_gtup) | (with_reducible apply r_gand) | (with_reducible apply r_gset) | (with_reducible apply r_sl) | (with_reducible apply r_part) | (with_reducible apply r_M) | (with_reducible apply r_aug) | (with_reducible apply r_chainK) | (with_reducible apply r_bind2) | (with_reducible apply r_tchain) | (with_reducible apply r_fld) | (with_reducible apply r_disp) | (with_reducible apply r_pcons) | (with_reducible apply r_itet; focus (first | assumption | with_reducible rfl | (simp_all; done) | (simp_all; omega))) | (with_reducible apply r_itef; focus (first | assumption | with_reducible rfl | (simp_all; done) | (simp_all; omega))) | (simp only [List.map_cons, List.map_nil, List.length_cons, List.length_nil, Nat.reduceAdd, Nat.reduceSub, List.replicate_succ, List.replicate_zero, List.cons_append, List.nil_append, List.set_cons_succ, List.set_cons_zero]; done) | (simp only [List.map_cons, List.map_nil, List.length_cons, List.length_nil, Nat.reduceAdd, Nat.reduceSub, List.replicate_succ, List.replicate_zero, List.cons_append, List.nil_append, List.set_cons_succ, List.set_cons_zero]; rfl) | rfl | exact p1 | exact p2 | exact p3 | exact p4)
  · rfl
  · rfl
  · rfl
theorem house_mk (hs : Hs) (ok : OkH hs) (h : List O) : oMk 1 6 IHouse [eR hs.rule, .int hs.room, .int hs.top, .int hs.many, .bl hs.goes, .tup [.int hs.least, .int hs.most]] h = .ret (eH hs, h) :=
  mk_of ⟨_, iHouse_ok hs ok, rfl⟩ rfl rfl rfl h
end Md

/-! All ways of the draws, step by step. -/
namespace Ev
open PySem PySem.Spec PyProof.Rows L2 Dr
/-- every way ends so -/
structure Al {α : Type} (t : Tr α) (P : α → Prop) : Prop where
  all : t.All P fun _ _ _ => False
theorem Al.mono {α : Type} {t : Tr α} {P Q : α → Prop} (a : Al t P) (h : ∀ r, P r → Q r) : Al t Q := ⟨a.all.mono h⟩
theorem al_bind {α β : Type} {m : M α} {f : α → M β} {h : List O} {P : β × List O → Prop} (a : Al (m h) fun r => Al (f r.1 r.2) P) : Al (M.bind m f h) P := ⟨M.all_bind.mpr (a.all.mono fun r q => q.all)⟩
theorem al_tbind {α β : Type} {t : Tr α} {f : α → Tr β} {P : β → Prop} (a : Al t fun r => Al (f r) P) : Al (t.bind f) P := ⟨Tr.all_bind.mpr (a.all.mono fun r q => q.all)⟩
section
variable {s s1 s2 : Sg} {h h1 h2 : List O} {x y z v : D} {xs : List D} {fa fb fc : Sg → M D} {ft fu : Sg → M Bool} {fr : Sg → M (List D)} {f g : Sg → M Out} {i j : Nat}
theorem a_of {α : Type} {m : Tr α} {r : α} {P : α → Prop} (e : m = .ret r) (p : P r) : Al m P := by rw [e]; exact ⟨p⟩
theorem a_seq {P : Out × List O → Prop} (a : Al (f s h) fun r => Al (seqK g r.1 r.2) P) : Al (sSeq f g s h) P :=
  al_bind (a.mono fun r q => by
    obtain ⟨o, h1⟩ := r
    cases o <;> exact q)
theorem a_seqk {P : Out × List O → Prop} (a : Al (g s1 h1) P) : Al (seqK g (.nx s1) h1) P := a
theorem a_seqr {P : Out × List O → Prop} (a : P (.rt x, h1)) : Al (seqK g (.rt x) h1) P := ⟨a⟩
theorem a_nx {P : Out × List O → Prop} (a : P (.nx s, h)) : Al (sNx s h) P := ⟨a⟩
theorem a_set {P : Out × List O → Prop} (a : Al (fa s h) fun r => P (.nx (s.set i (some r.1)), r.2)) : Al (sSet i fa s h) P := al_bind (a.mono fun r q => ⟨q⟩)
theorem a_ret {P : Out × List O → Prop} (a : Al (fa s h) fun r => P (.rt r.1, r.2)) : Al (sRet fa s h) P := al_bind (a.mono fun r q => ⟨q⟩)
theorem a_expr {P : Out × List O → Prop} (a : Al (fa s h) fun r => P (.nx s, r.2)) : Al (sExpr fa s h) P := al_bind (a.mono fun r q => ⟨q⟩)
theorem a_asg {P : Out × List O → Prop} {g : D → Sg → M Sg} (a : Al (fa s h) fun r => Al (g r.1 s r.2) fun q => P (.nx q.1, q.2)) : Al (sAsg fa g s h) P := al_bind (a.mono fun r q => al_bind (q.mono fun r q => ⟨q⟩))
theorem a_if {P : Out × List O → Prop} (a : Al (ft s h) fun r => Al (if r.1 = true then f s r.2 else g s r.2) P) : Al (sIf ft f g s h) P := al_bind (a.mono fun r q => by
  obtain ⟨b, h1⟩ := r
  cases b <;> exact q)
theorem a_N {P : D × List O → Prop} {op : List D → M D} (a : Al (fr s h) fun r => Al (op r.1 r.2) P) : Al (fN op fr s h) P := al_bind a
theorem a_cons {P : List D × List O → Prop} (a : Al (fa s h) fun r => Al (fr s r.2) fun q => P (r.1 :: q.1, q.2)) : Al (fCons fa fr s h) P := al_bind (a.mono fun r q => al_bind (q.mono fun r q => ⟨q⟩))
theorem a_nil {P : List D × List O → Prop} (a : P ([], h)) : Al (fNil s h) P := ⟨a⟩
theorem a_1 {P : D × List O → Prop} {op : D → M D} (a : Al (fa s h) fun r => Al (op r.1 r.2) P) : Al (f1 op fa s h) P := al_bind a
theorem a_2 {P : D × List O → Prop} {op : D → D → M D} (a : Al (fa s h) fun r => Al (fb s r.2) fun q => Al (op r.1 q.1 q.2) P) : Al (f2 op fa fb s h) P := al_bind (a.mono fun r q => al_bind q)
theorem a_tval {P : Bool × List O → Prop} (a : Al (fa s h) fun r => Al (asB r.1 r.2) P) : Al (tVal fa s h) P := al_bind a
theorem a_asB {P : Bool × List O → Prop} {b : Bool} (a : P (b, h)) : Al (asB (.bl b) h) P := ⟨a⟩
theorem a_tnot {P : Bool × List O → Prop} (a : Al (ft s h) fun r => P (!r.1, r.2)) : Al (tNotF ft s h) P := al_bind (a.mono fun r q => ⟨q⟩)
theorem a_tor {P : Bool × List O → Prop} (a : Al (ft s h) fun r => (r.1 = true → P (true, r.2)) ∧ (r.1 = false → Al (fu s r.2) P)) : Al (tOrF ft fu s h) P := al_bind (a.mono fun r q => by
  obtain ⟨b, h1⟩ := r
  cases b
  · exact q.2 rfl
  · exact ⟨q.1 rfl⟩)
theorem a_tand {P : Bool × List O → Prop} (a : Al (ft s h) fun r => (r.1 = true → Al (fu s r.2) P) ∧ (r.1 = false → P (false, r.2))) : Al (tAndF ft fu s h) P := al_bind (a.mono fun r q => by
  obtain ⟨b, h1⟩ := r
  cases b
  · exact ⟨q.2 rfl⟩
  · exact q.1 rfl)
theorem a_par {P : Out × List O → Prop} (a : Al (fr s h) fun r => match r.1 with
    | [x, y] => P (.nx ((s.set i (some x)).set j (some y)), r.2)
    | _ => False) : Al (sPar i j fr s h) P := al_bind (a.mono fun r q => by
  obtain ⟨zs, h1⟩ := r
  rcases zs with _ | ⟨x, _ | ⟨y, _ | _⟩⟩
  · exact q.elim
  · exact q.elim
  · exact ⟨q⟩
  · exact q.elim)
theorem a_take {P : D × List O → Prop} {m : Int} (h0 : 0 < m) (h1 : m < 1000000) (a : ∀ i : Nat, (i : Int) < m → P (.int (i : Nat), h)) : Al (oTake [.draw, .int m] h) P := by
  constructor
  unfold oTake
  dsimp only
  rw [if_pos ⟨h0, h1⟩]
  exact fun i hi => a i (by omega)
theorem a_F {P : D × List O → Prop} {np nn : Nat} (hn : xs.length = np) (hs : xs.map some ++ List.replicate (nn - xs.length) none = s) (a : Al (f s h) fun r => Al (outD r.1 r.2) P) : Al (mkF np nn f xs h) P := by
  subst hs
  unfold mkF
  rw [if_pos hn]
  exact al_bind a
theorem a_rt {P : D × List O → Prop} (a : P (x, h)) : Al (outD (.rt x) h) P := ⟨a⟩
theorem a_pure {P : D × List O → Prop} {F : List D → M D} (hx : noLs xs = true) (a : Al (F xs []) fun r => ∃ y, frz r.2 far r.1 = some y ∧ P (y, h)) : Al (oPure F xs h) P := by
  constructor
  unfold oPure
  rw [if_pos hx]
  refine Tr.all_both.mpr (a.all.mono2 (fun r q => ?_) fun _ _ _ z => z.elim)
  obtain ⟨y, e, q⟩ := q
  rw [e]
  exact q
theorem a_fz {P : D × List O → Prop} (a : Al (fr s h) fun r => r.1.length ≤ 1000000 ∧ P (.lst r.1, r.2)) : Al (fN mkFz fr s h) P := al_bind (a.mono fun r q => by
  unfold mkFz
  rw [if_pos (show r.1.length ≤ lim from q.1)]
  exact ⟨q.2⟩)
end
theorem a_disp {s : Sg} {h : List O} {fr : Sg → M (List (Key × D))} {P : D × List O → Prop} (a : Al (fr s (h ++ [.dK [] []])) fun r => r.2[h.length]? = some (.dK [] []) ∧ r.1.length ≤ 15 ∧ P (.loc h.length, r.2.set h.length (dkO (mergeD [] r.1)))) : Al (fDisp fr s h) P := by
  unfold fDisp
  refine al_tbind (a.mono fun r q => ?_)
  rw [q.1]
  dsimp only
  rw [if_pos q.2.1]
  exact ⟨q.2.2⟩
theorem a_pcons {s : Sg} {h : List O} {fk fv : Sg → M D} {fr : Sg → M (List (Key × D))} {P : List (Key × D) × List O → Prop} {x : D} {k : Key} {h1 : List O} (e : fk s h = .ret (x, h1)) (ek : toK x = some k) (a : Al (fv s h1) fun r => Al (fr s r.2) fun q => P ((k, r.1) :: q.1, q.2)) : Al (fPCons fk fv fr s h) P := by
  unfold fPCons
  refine al_bind (a_of e (al_bind (a_of (r := (k, h1)) ?_ ?_)))
  · unfold asK
    dsimp only
    rw [ek]
  · exact al_bind (a.mono fun r q => al_bind (q.mono fun r q => ⟨q⟩))
theorem a_pnil {s : Sg} {h : List O} {P : List (Key × D) × List O → Prop} (a : P ([], h)) : Al (fPNil s h) P := ⟨a⟩
theorem r_disp {s : Sg} {h h1 h2 : List O} {fr : Sg → M (List (Key × D))} {ps : List (Key × D)} (e : fr s (h ++ [.dK [] []]) = .ret (ps, h1)) (e1 : h1[h.length]? = some (.dK [] [])) (hl : ps.length ≤ 15) (e2 : h1.set h.length (dkO (mergeD [] ps)) = h2) : fDisp fr s h = .ret (.loc h.length, h2) := by
  subst e2
  unfold fDisp
  rw [e, Tr.bind_ret]
  dsimp only
  rw [e1]
  dsimp only
  rw [if_pos hl]
theorem r_pcons {s : Sg} {h h1 h2 h3 : List O} {fk fv : Sg → M D} {fr : Sg → M (List (Key × D))} {x y : D} {k : Key} {ps : List (Key × D)} (e : fk s h = .ret (x, h1)) (ek : toK x = some k) (e1 : fv s h1 = .ret (y, h2)) (e2 : fr s h2 = .ret (ps, h3)) : fPCons fk fv fr s h = .ret ((k, y) :: ps, h3) := by
  unfold fPCons
  rw [M.bind_ap, e, Tr.bind_ret, M.bind_ap]
  unfold asK
  dsimp only
  rw [ek, Tr.bind_ret, M.bind_ap, e1, Tr.bind_ret, M.bind_ap, e2]
  rfl
theorem r_pnil {s : Sg} {h : List O} : fPNil s h = .ret ([], h) := rfl
/-- what has one outcome only -/
theorem al_ret {α : Type} {m : Tr α} {P : α → Prop} (h : Al m P) {r : α} (e : m = .ret r) : P r := by
  have := h.all
  rw [e] at this
  exact this
end Ev
namespace Ev
open PySem PySem.Spec PyProof.Rows L2 Dr
theorem al_calm {α : Type} {P : α → Prop} : ∀ {t : Tr α}, (t.All P fun _ _ _ => False) → t.calm.All P fun _ _ _ => False
  | .ret _, h => h
  | .bad, h => h
  | .err _ _ _, h => h
  | .pick n k, h => fun i hi => al_calm (h i hi)
theorem al_comp {get : Nat → List O → Option (Option D)} {body : D → M (Option D)} {h : List O} {n : Nat} {e : Nat → D} {Q : D → Prop} (hg : ∀ i g, get i g = some (if i < n then some (e i) else none))
    (hb : ∀ i, i < n → Al (body (e i) h) fun r => ∃ y, r = (some y, h) ∧ Q y) : ∀ (k i : Nat) (acc : List D), i + k = n → acc.length + k ≤ lim → (∀ y ∈ acc, Q y) → Al (comp get body k i acc h) fun r => r.2 = h ∧ r.1.length = acc.length + k ∧ ∀ y ∈ r.1, Q y
  | 0, i, acc, ee, _, ha => by
    refine ⟨?_⟩
    simp only [comp, hg]
    rw [if_neg (by omega)]
    exact ⟨rfl, rfl, ha⟩
  | k + 1, i, acc, ee, hl, ha => by
    have hi : i < n := by omega
    refine ⟨?_⟩
    simp only [comp, hg]
    rw [if_pos hi]
    refine Tr.all_bind.mpr ((hb i hi).all.mono ?_)
    rintro _ ⟨y, rfl, hq⟩
    dsimp only
    rw [if_pos (by omega)]
    refine (al_comp hg hb k (i + 1) (acc ++ [y]) (by omega) (by simp; omega) (fun z hz => ?_)).all.mono fun r q => ⟨q.1, by rw [q.2.1]; simp; omega, q.2.2⟩
    rcases List.mem_append.mp hz with hz | hz
    · exact ha z hz
    · rw [List.mem_singleton.mp hz]; exact hq
/-- a comprehension over a range, each turn of which draws -/
theorem a_lcR {fa : Sg → M D} {vs : List Nat} {g : D → Sg → M Sg} {ft : Sg → M Bool} {fe : Sg → M D} {s : Sg} {h : List O} {Q : D → Prop} {P : D × List O → Prop}
    (a : Al (fa s h) fun r => ∃ j : Nat, r.1 = .int (j : Nat) ∧ j ≤ 1000 ∧ (∀ i, i < j → Al (cBody (wipeS s vs) g ft fe (.int (i : Nat)) r.2) fun q => ∃ y, q = (some y, r.2) ∧ Q y) ∧ ∀ ys : List D, ys.length = j → (∀ y ∈ ys, Q y) → P (.lst ys, r.2)) :
    Al (fLc vs (fun s => M.bind (fa s) srcR1) g ft fe s h) P := by
  unfold fLc
  refine al_bind (al_bind (a.mono ?_))
  rintro ⟨x, h1⟩ ⟨j, e, hj, hb, q⟩
  dsimp only at e hb q
  subst e
  have e2 : srcR1 (D.int (j : Nat)) h1 = .ret (⟨j, getR 0 j⟩, h1) := by
    unfold srcR1
    dsimp only
    rw [if_pos (by omega), Int.toNat_natCast]
  refine a_of e2 ?_
  dsimp only
  refine al_tbind ⟨al_calm ?_⟩
  refine (al_comp (n := j) (e := fun i => .int (i : Nat)) (Q := Q) (fun i g => by
    unfold getR
    by_cases z : i < j
    · rw [if_pos z, if_pos z]; simp
    · rw [if_neg z, if_neg z]) hb j 0 [] (by omega) (by simp [lim]; omega) (by simp)).all.mono ?_
  rintro ⟨ys, h2⟩ ⟨z1, z2, z3⟩
  dsimp only at z1 z2 z3 ⊢
  subst z1
  exact ⟨q ys (by simpa using z2) z3⟩
theorem a_take0 {s : Sg} {h : List O} {P : D × List O → Prop} {m : Int} (hd : s[0]? = some (some .draw)) (h0 : 0 < m) (h1 : m < 1000000) (q : ∀ i : Nat, (i : Int) < m → P (.int (i : Nat), h)) : Al (fN oTake (fCons (fVar 0) (fCons (fC (.int m)) fNil)) s h) P :=
  a_N (a_of (r_cons (r_var hd) (r_cons r_c r_nil)) (a_take h0 h1 q))
theorem a_ifx {s : Sg} {h : List O} {P : D × List O → Prop} {ft : Sg → M Bool} {fa fb : Sg → M D} (a : Al (ft s h) fun r => Al (if r.1 = true then fa s r.2 else fb s r.2) P) : Al (fIf ft fa fb s h) P := al_bind (a.mono fun r q => by
  obtain ⟨b, h1⟩ := r
  cases b <;> exact q)
theorem pure_trueA {F : List D → M D} {xs : List D} (hx : noLs xs = true) (h : Al (F xs []) fun r => isT r = true) (g : List O) : Is (oPure F xs g) (.bl true) g := by
  refine ⟨fun X => ?_⟩
  unfold oPure
  rw [if_pos hx]
  refine Tr.all_both.mpr (h.all.mono2 (fun r hr => ?_) fun _ _ _ z => z.elim)
  unfold isT at hr
  split at hr
  · rename_i e
    rw [e, show frz r.2 far (D.bl true) = some (D.bl true) from rfl]
    exact rfl
  · cases hr
end Ev
namespace Ev
open PySem PySem.Spec PyProof.Rows L2 Dr
theorem a_loop {get : Nat → List O → Option (Option D)} {body : D → Sg → M Out} {n : Nat} {e : Nat → D} {P : Out × List O → Prop} (I : Nat → Sg → List O → Prop) (hg : ∀ i g, get i g = some (if i < n then some (e i) else none))
    (hb : ∀ i s h, i < n → I i s h → Al (body (e i) s h) fun r => match r.1 with
      | .nx s' => I (i + 1) s' r.2
      | .ct s' => I (i + 1) s' r.2
      | .bk s' => P (.nx s', r.2)
      | .rt v => P (.rt v, r.2))
    (hz : ∀ s h, I n s h → P (.nx s, h)) : ∀ (k i : Nat) (s : Sg) (h : List O), i + k = n → I i s h → Al (loop get body k i s h) P
  | 0, i, s, h, ee, hi => by
    have ee : i = n := by omega
    subst ee
    refine ⟨?_⟩
    simp only [loop, hg]
    rw [if_neg (by omega)]
    exact hz s h hi
  | k + 1, i, s, h, ee, hi => by
    have hl : i < n := by omega
    refine ⟨?_⟩
    simp only [loop, hg]
    rw [if_pos hl]
    refine Tr.all_bind.mpr ((hb i s h hl hi).all.mono ?_)
    rintro ⟨o, h'⟩ q
    cases o with
    | nx s' => exact (a_loop I hg hb hz k (i + 1) s' h' (by omega) q).all
    | ct s' => exact (a_loop I hg hb hz k (i + 1) s' h' (by omega) q).all
    | bk s' => exact q
    | rt v => exact q
theorem a_forR {fa : Sg → M D} {g : D → Sg → M Sg} {fb : Sg → M Out} {s : Sg} {h h1 : List O} {j : Nat} {P : Out × List O → Prop} (I : Nat → Sg → List O → Prop) (ha : fa s h = .ret (.int (j : Nat), h1)) (hj : j ≤ 1000) (h0 : I 0 s h1)
    (hb : ∀ i s h, i < j → I i s h → Al (M.bind (g (.int (i : Nat)) s) fb h) fun r => match r.1 with
      | .nx s' => I (i + 1) s' r.2
      | .ct s' => I (i + 1) s' r.2
      | .bk s' => P (.nx s', r.2)
      | .rt v => P (.rt v, r.2))
    (hz : ∀ s h, I j s h → P (.nx s, h)) : Al (sFor (fun s => M.bind (fa s) srcR1) g fb s h) P := by
  unfold sFor
  refine al_bind (al_bind (a_of ha ?_))
  have e2 : srcR1 (D.int (j : Nat)) h1 = .ret (⟨j, getR 0 j⟩, h1) := by
    unfold srcR1
    dsimp only
    rw [if_pos (by omega), Int.toNat_natCast]
  refine a_of e2 ?_
  dsimp only
  exact a_loop (n := j) (e := fun i => .int (i : Nat)) I (fun i g => by
    unfold getR
    by_cases z : i < j
    · rw [if_pos z, if_pos z]; simp
    · rw [if_neg z, if_neg z]) hb hz j 0 s h1 (by omega) h0
theorem a_t2 {fa fb : Sg → M D} {s : Sg} {h : List O} {p : Cmp} {P : Bool × List O → Prop} (a : Al (fa s h) fun r => Al (fb s r.2) fun q => ∃ b, p q.2 r.1 q.1 = some b ∧ P (b, q.2)) : Al (t2 p fa fb s h) P := by
  unfold t2
  refine al_bind (a.mono fun r q => al_bind (q.mono fun q z => ?_))
  obtain ⟨b, e, z⟩ := z
  unfold cmpB
  rw [e]
  exact ⟨z⟩
end Ev

/-! What the laws' own helpers give, whatever their law: their steps are given as they stand there. -/
namespace Md
open PySem PySem.Spec PyProof.Rows L2 Dr Ev Und
theorem al_of {α : Type} {t : Tr α} {P : α → Prop} (h : Al t P) : t.All P fun _ _ _ => False := h.all
/-- _law_pick -/
def pickB : Sg → M Out := sRet (f2 oGet (fVar 1) (fN oTake (fCons (fVar 0) (fCons (fN oLenA (fCons (fVar 1) fNil)) fNil))))
def pickF : List D → M D := mkF 2 2 pickB
theorem pick_all {P : D × List O → Prop} {h : List O} {xs : List D} (h0 : 0 < xs.length) (hl : xs.length < 1000) (a : ∀ x ∈ xs, P (x, h)) : Al (pickF [.draw, .lst xs] h) P := by
  refine a_F (xs := [.draw, .lst xs]) (np := 2) (nn := 2) (f := pickB) (s := [some .draw, some (.lst xs)]) rfl rfl ?_
  unfold pickB
  refine a_ret (a_2 (a_of rfl (a_N (a_of (r_cons rfl (r_cons (r_N (r_cons rfl r_nil) (len_fz rfl)) r_nil)) (a_take (by omega) (by omega) fun i hi => ?_)))))
  have hi : i < xs.length := by omega
  refine a_of (r := (xs[i], h)) ?_ (a_rt (a _ (List.getElem_mem hi)))
  unfold oGet dctD oIx seqD lstD
  dsimp only
  rw [atI_at, List.getElem?_eq_getElem hi]
theorem noL_mem : ∀ {xs : List D} {x : D}, noLs xs = true → x ∈ xs → noL x = true
  | y :: ys, x, h, hx => by
    have h := Bool.and_eq_true_iff.mp (show (noL y && noLs ys) = true by simpa [noLs] using h)
    rcases List.mem_cons.mp hx with rfl | hx
    · exact h.1
    · exact noL_mem h.2 hx
theorem p_pick {P : D × List O → Prop} {h : List O} {xs : List D} (h0 : 0 < xs.length) (hl : xs.length < 1000) (hx : noLs xs = true) (a : ∀ x ∈ xs, P (x, h)) : Al (oPure pickF [.draw, .lst xs] h) P :=
  a_pure (by simp [noLs, noL]; simpa [noL] using hx) (pick_all h0 hl fun x m => ⟨x, frz_noL (n := 39) (noL_mem hx m), a x m⟩)
/-- _law_led -/
def bledF : Sg → M Out := sSeq (sPar 2 3 (fCons (fN (oPure Ffirst_standing) (fCons (fVar 0) fNil)) (fCons (fN mkLst fNil) fNil)))
  (sSeq (sFor (fSrc noF (fVar 1)) (gSet 4) (sSeq (sAsg (fN (oPure Ftick_at) (fCons (fVar 0) (fCons (fVar 2) (fCons (fVar 4) fNil)))) (gTupF 2 (gAnd (gSet 2) (gAnd (gSet 5) gEnd))))
  (sExpr (fM mAppend (fVar 3) (fCons (fN mkTup (fCons (fVar 2) (fCons (fVar 5) fNil))) fNil)))))
  (sRet (fVar 3)))
def ledF : List D → M D := mkF 2 6 bledF
def eP (p : Stand × Str) : D := .tup [eS p.1, .str p.2]
theorem nl_P (p : Stand × Str) : noL (eP p) = true := by simp [eP, noL, noLs, nl_S]
theorem led_ok (hs : Hs) (ho : OkH hs) (ms : List (Change × Hand)) (hc : canAll hs (first0 hs) ms = true) (hl : ms.length ≤ 1000) :
    ledF [eH hs, .lst (ms.map eM)] [] = .ret (.loc 0, [.lst ((led hs (first0 hs) ms).map eP)]) := by
  obtain ⟨q, e, z⟩ := forI (s := [some (eH hs), some (.lst (ms.map eM)), some (eS (first0 hs)), some (.loc 0), none, none]) (h := [.lst []]) (h1 := [.lst []]) (fi := fSrc noF (fVar 1)) (g := gSet 4)
    (fb := sSeq (sAsg (fN (oPure Ftick_at) (fCons (fVar 0) (fCons (fVar 2) (fCons (fVar 4) fNil)))) (gTupF 2 (gAnd (gSet 2) (gAnd (gSet 5) gEnd))))
      (sExpr (fM mAppend (fVar 3) (fCons (fN mkTup (fCons (fVar 2) (fCons (fVar 5) fNil))) fNil)))) (ys := ms) (e := fun _ => eM)
    (fun i s g => ∃ a b, s = [some (eH hs), some (.lst (ms.map eM)), some (eS (behind hs (first0 hs) (ms.take i))), some (.loc 0), a, b] ∧ g = [.lst ((led hs (first0 hs) (ms.take i)).map eP)])
    (fun q => ∃ a b c, q = (.nx [some (eH hs), some (.lst (ms.map eM)), a, some (.loc 0), b, c], [.lst ((led hs (first0 hs) ms).map eP)]))
    (sr_lst ms eM rfl rfl) ⟨none, none, rfl, rfl⟩ (by
      rintro i y s g hy ⟨a, b, rfl, rfl⟩
      obtain ⟨hi, hy2⟩ := List.getElem?_eq_some_iff.mp hy
      have split : ms = ms.take i ++ y :: ms.drop (i + 1) := by rw [← hy2, List.getElem_cons_drop, List.take_append_drop]
      have nx : ms.take (i + 1) = ms.take i ++ [y] := by rw [List.take_add_one, hy]; rfl
      have can1 : can hs (behind hs (first0 hs) (ms.take i)) y = true := canAll_at hs _ _ (ms.drop (i + 1)) y (by rw [← split]; exact hc)
      have ok1 : OkS hs (behind hs (first0 hs) (ms.take i)) := behind_okS ho _ (ms.drop i) (first_okS ho) (by rw [List.take_append_drop]; exact hc)
      have tk := tick_p hs ho _ ok1 y can1 [O.lst ((led hs (first0 hs) (ms.take i)).map eP)]
      have e1 : [O.lst ((led hs (first0 hs) (ms.take i)).map eP)][0]? = some (.lst ((led hs (first0 hs) (ms.take i)).map eP)) := rfl
      have app : ∀ z, mAppend (.loc 0) [z] [O.lst ((led hs (first0 hs) (ms.take i)).map eP)] = .ret (.non, [.lst ((led hs (first0 hs) (ms.take i)).map eP ++ [z])]) := by
        intro z
        unfold mAppend
        dsimp only
        rw [e1]
        dsimp only
        rw [if_pos (by unfold lim; rw [List.length_map, led_len, List.length_take]; omega)]
        rfl
      apply ex_step
      · show sSeq _ _ [some (eH hs), some (.lst (ms.map eM)), some (eS (behind hs (first0 hs) (ms.take i))), some (.loc 0), some (eM y), b] _ = _
        repeat' (first | (with_reducible exact tk) | (with_reducible exact e1) | (with_reducible exact app _) | (with_reducible apply r_isSet; (first | (simp only [List.map_cons, List.map_nil, List.length_cons, List.length_nil, Nat.reduceAdd, Nat.reduceSub, List.replicate_succ, List.replicate_zero, List.cons_append, List.nil_append, List.set_cons_succ, List.set_cons_zero]; done) | (simp only [List.map_cons, List.map_nil, List.length_cons, List.length_nil, Nat.reduceAdd, Nat.reduceSub, List.replicate_succ, List.replicate_zero, List.cons_append, List.nil_append, List.set_cons_succ, List.set_cons_zero]; rfl))) | (with_reducible rfl) | (with_reducible exact r_nx) | (with_reducible exact r_c) | (with_reducible exact r_nil) | (with_reducible exact r_no) | (with_reducible exact r_pnil) | (with_reducible exact r_gend) | exact Nat.le_of_ble_eq_true rfl | (with_reducible apply r_seqK_nx) | (with_reducible apply r_seqK) | (with_reducible apply r_ifK) | (with_reducible apply r_tandK) | (with_reducible apply r_torK) | (with_reducible apply r_andK) | (with_reducible apply r_orK) | (with_reducible apply r_ifxK) | (with_reducible apply r_ret) | (with_reducible apply r_setN) | (with_reducible apply r_expr) | (with_reducible apply r_asg) | (with_reducible apply r_parN) | (with_reducible apply r_var) | (with_reducible apply r_1) | (with_reducible apply r_tup) | (with_reducible apply r_lst) | (with_reducible apply r_fz) | (with_reducible apply r_2) | (with_reducible apply r_cons) | (with_reducible apply r_N) | (with_reducible apply r_t2) | (with_reducible apply r_tval) | (with_reducible apply r_tnot) | (with_reducible apply r_not) | (with_reducible apply r_cmpV) | (with_reducible apply r_gtup) | (with_reducible apply r_gand) | (with_reducible apply r_gset) | (with_reducible apply r_sl) | (with_reducible apply r_part) | (with_reducible apply r_M) | (with_reducible apply r_aug) | (with_reducible apply r_chainK) | (with_reducible apply r_bind2) | (with_reducible apply r_tchain) | (with_reducible apply r_fld) | (with_reducible apply r_disp) | (with_reducible apply r_pcons) | (with_reducible apply r_itet; focus (first | assumption | with_reducible rfl | (simp_all; done) | (simp_all; omega))) | (with_reducible apply r_itef; focus (first | assumption | with_reducible rfl | (simp_all; done) | (simp_all; omega))) | (simp only [List.map_cons, List.map_nil, List.length_cons, List.length_nil, Nat.reduceAdd, Nat.reduceSub, List.replicate_succ, List.replicate_zero, List.cons_append, List.nil_append, List.set_cons_succ, List.set_cons_zero]; done) | (simp only [List.map_cons, List.map_nil, List.length_cons, List.length_nil, Nat.reduceAdd, Nat.reduceSub, List.replicate_succ, List.replicate_zero, List.cons_append, List.nil_append, List.set_cons_succ, List.set_cons_zero]; rfl) | rfl | exact tk | exact e1 | exact app _)
      · refine ⟨some (eM y), some (.str (tick hs (behind hs (first0 hs) (ms.take i)) y).2), ?_, ?_⟩
        · rw [nx, behind_snoc]
        · rw [nx, led_snoc]
          simp [eP])
    (by
      rintro s g ⟨a, b, rfl, rfl⟩
      exact ⟨_, _, _, by rw [List.take_length]⟩)
  obtain ⟨a, b, c, rfl⟩ := z
  apply F_retX rfl (by simp only [List.map_cons, List.map_nil, List.length_cons, List.length_nil, Nat.reduceAdd, Nat.reduceSub, List.replicate_succ, List.replicate_zero, List.cons_append, List.nil_append, List.set_cons_succ, List.set_cons_zero]; rfl)
  · unfold bledF; repeat' (first | (with_reducible exact first_p hs _) | (with_reducible exact e) | (with_reducible apply r_isSet; (first | (simp only [List.map_cons, List.map_nil, List.length_cons, List.length_nil, Nat.reduceAdd, Nat.reduceSub, List.replicate_succ, List.replicate_zero, List.cons_append, List.nil_append, List.set_cons_succ, List.set_cons_zero]; done) | (simp only [List.map_cons, List.map_nil, List.length_cons, List.length_nil, Nat.reduceAdd, Nat.reduceSub, List.replicate_succ, List.replicate_zero, List.cons_append, List.nil_append, List.set_cons_succ, List.set_cons_zero]; rfl))) | (with_reducible rfl) | (with_reducible exact r_nx) | (with_reducible exact r_c) | (with_reducible exact r_nil) | (with_reducible exact r_no) | (with_reducible exact r_pnil) | (with_reducible exact r_gend) | exact Nat.le_of_ble_eq_true rfl | (with_reducible apply r_seqK_nx) | (with_reducible apply r_seqK) | (with_reducible apply r_ifK) | (with_reducible apply r_tandK) | (with_reducible apply r_torK) | (with_reducible apply r_andK) | (with_reducible apply r_orK) | (with_reducible apply r_ifxK) | (with_reducible apply r_ret) | (with_reducible apply r_setN) | (with_reducible apply r_expr) | (with_reducible apply r_asg) | (with_reducible apply r_parN) | (with_reducible apply r_var) | (with_reducible apply r_1) | (with_reducible apply r_tup) | (with_reducible apply r_lst) | (with_reducible apply r_fz) | (with_reducible apply r_2) | (with_reducible apply r_cons) | (with_reducible apply r_N) | (with_reducible apply r_t2) | (with_reducible apply r_tval) | (with_reducible apply r_tnot) | (with_reducible apply r_not) | (with_reducible apply r_cmpV) | (with_reducible apply r_gtup) | (with_reducible apply r_gand) | (with_reducible apply r_gset) | (with_reducible apply r_sl) | (with_reducible apply r_part) | (with_reducible apply r_M) | (with_reducible apply r_aug) | (with_reducible apply r_chainK) | (with_reducible apply r_bind2) | (with_reducible apply r_tchain) | (with_reducible apply r_fld) | (with_reducible apply r_disp) | (with_reducible apply r_pcons) | (with_reducible apply r_itet; focus (first | assumption | with_reducible rfl | (simp_all; done) | (simp_all; omega))) | (with_reducible apply r_itef; focus (first | assumption | with_reducible rfl | (simp_all; done) | (simp_all; omega))) | (simp only [List.map_cons, List.map_nil, List.length_cons, List.length_nil, Nat.reduceAdd, Nat.reduceSub, List.replicate_succ, List.replicate_zero, List.cons_append, List.nil_append, List.set_cons_succ, List.set_cons_zero]; done) | (simp only [List.map_cons, List.map_nil, List.length_cons, List.length_nil, Nat.reduceAdd, Nat.reduceSub, List.replicate_succ, List.replicate_zero, List.cons_append, List.nil_append, List.set_cons_succ, List.set_cons_zero]; rfl) | rfl | exact first_p hs _ | exact e)
  · rfl
  · rfl
  · rfl
theorem p_led (hs : Hs) (ho : OkH hs) (ms : List (Change × Hand)) (hc : canAll hs (first0 hs) ms = true) (hl : ms.length ≤ 1000) (h : List O) :
    oPure ledF [eH hs, .lst (ms.map eM)] h = .ret (.lst ((led hs (first0 hs) ms).map eP), h) :=
  pure_fz h (led_ok hs ho ms hc hl) (by simp [noLs, nl_H]; simpa [noL] using noLs_map nl_M ms) (frz_lst rfl (noLs_map nl_P _) 38)
end Md

/-! All steps at a standing; all moments. -/
namespace Md
open PySem PySem.Spec PyProof.Rows L2 Dr Ev Und
def stepsFor (hs : Hs) (s : Stand) (c : Change) : List ((Change × Hand) × Stand × Str) := (handsAt hs (settled hs s c)).map fun d => ((c, d), handled hs.rule (settled hs s c) d)
def stepsAt (hs : Hs) (s : Stand) : List ((Change × Hand) × Stand × Str) := (changesAt hs s).flatMap (stepsFor hs s)
def momentsAt (hs : Hs) (s : Stand) : List (Change × Hand) := (stepsAt hs s).map (·.1)
def eStep (x : (Change × Hand) × Stand × Str) : D := .tup [eM x.1, eS x.2.1, .str x.2.2]
theorem nl_Step (x : (Change × Hand) × Stand × Str) : noL (eStep x) = true := by simp [eStep, noL, noLs, nl_M, nl_S]
theorem hands_len (hs : Hs) (s : Stand) (hl : s.shown.length ≤ 9) : (handsAt hs s).length ≤ 10 := by
  unfold handsAt
  split
  · simp; omega
  · split
    · simp
    · split <;> simp
theorem changes_len (hs : Hs) (ok : OkH hs) (s : Stand) (hl : s.shown.length ≤ 9) : (changesAt hs s).length ≤ 20 := by
  have h1 := List.length_filter_le (fun p : Item × Nat => !p.1.gone) s.shown.zipIdx
  have ht := ok.top
  unfold changesAt
  rw [List.length_append, List.length_append]
  have a : (if (s.waiting.length : Int) < hs.many then (List.range (hs.top + 1).toNat).map (fun r : Nat => Change.come r) else []).length ≤ 3 := by
    split
    · simp; omega
    · simp
  have b : (if hs.goes = true then (s.shown.zipIdx.filter fun p => !p.1.gone).map (fun p => Change.go p.2) else []).length ≤ 9 := by
    split
    · simp at h1 ⊢; omega
    · simp
  simp at a b ⊢
  omega
theorem settled_len (hs : Hs) (ho : OkH hs) (s : Stand) (ok : OkS hs s) (c : Change) : (settled hs s c).shown.length ≤ 9 := by
  have hr := ho.room
  have hf := ok.few
  unfold settled
  dsimp only
  split
  · simp only [stoodOn, List.length_map, List.length_zipIdx]
    have hz : ∀ (us : List Int) (rows : List Row), rows.length ≤ 9 → (us.foldl (putIn hs) rows).length ≤ 9 := by
      intro us
      induction us with
      | nil => intro rows h; exact h
      | cons u us ih =>
        intro rows _
        exact ih _ (Nat.le_trans (putIn_len hs rows u) (by omega))
    refine hz _ _ (Nat.le_trans (List.length_filter_le _ _) ?_)
    rw [undrawn_len, changed_len]
    omega
  · simp only [stoodOn, List.length_map, List.length_zipIdx, undrawn_len, changed_len]
    omega
theorem p_handled (hs : Hs) (s : Stand) (ok : OkS hs s) (c : Change) (d : Hand) (hd : d ∈ handsAt hs (settled hs s c)) (h : List O) :
    oPure Fhandled [eR hs.rule, eS (settled hs s c), eHd d] h = .ret (.tup [eS (handled hs.rule (settled hs s c) d).1, .str (handled hs.rule (settled hs s c) d).2], h) :=
  pure_ret h (handled_ok hs.rule (settled hs s c) d (fun l hl => by
    obtain ⟨k, hk, e⟩ := settled_look l hl
    have := (ok.look k hk).place
    omega) (fun e => look_of (by rw [← e]; exact hd))) (by simp [noLs, nl_R, nl_S, nl_Hd]) (by simp [noL, noLs, nl_S])
abbrev stepSg (hs : Hs) (s : Stand) (a b c d e : Option D) : Sg := [some (eH hs), some (eS s), some (.loc 0), a, b, c, d, e]
theorem steps_ok (hs : Hs) (ho : OkH hs) (s : Stand) (ok : OkS hs s) : ∃ g, Fsteps_at [eH hs, eS s] [] = .ret (.loc 0, g) ∧ g[0]? = some (.lst ((stepsAt hs s).map eStep)) := by
  have hr := ho.room
  have hf := ok.few
  have hm := ho.many
  have hw := ok.waits
  have chl := changes_len hs ho s (by omega)
  have fl : ∀ cs : List Change, cs.length ≤ 20 → (cs.flatMap (stepsFor hs s)).length ≤ cs.length * 10 := by
    intro cs
    induction cs with
    | nil => intro _; simp
    | cons c cs ih =>
      intro h
      simp only [List.length_cons] at h
      have h1 := ih (by omega)
      have h2 : (stepsFor hs s c).length ≤ 10 := by
        unfold stepsFor
        rw [List.length_map]
        exact hands_len hs _ (settled_len hs ho s ok c)
      simp only [List.flatMap_cons, List.length_append, List.length_cons]
      omega
  obtain ⟨q, e, z⟩ := forI (s := stepSg hs s none none none none none) (h := [.lst []]) (h1 := [.lst []]) (fi := fSrc noF (fN (oPure Fchanges_at) (fCons (fVar 0) (fCons (fVar 1) fNil)))) (g := gSet 3)
    (fb := sSeq (sSet 4 (fN (oPure Fsettled_at) (fCons (fVar 0) (fCons (fVar 1) (fCons (fVar 3) fNil)))))
      (sFor (fSrc noF (fN (oPure Fhands_at) (fCons (fVar 0) (fCons (fVar 4) fNil)))) (gSet 5) (sSeq (sAsg (fN (oPure Fhandled) (fCons (f1 (oFld 1 0) (fVar 0)) (fCons (fVar 4) (fCons (fVar 5) fNil)))) (gTupF 2 (gAnd (gSet 6) (gAnd (gSet 7) gEnd))))
      (sExpr (fM mAppend (fVar 2) (fCons (fN mkTup (fCons (fN mkTup (fCons (fVar 3) (fCons (fVar 5) fNil))) (fCons (fVar 6) (fCons (fVar 7) fNil)))) fNil))))))
    (ys := changesAt hs s) (e := fun _ => eC)
    (fun i z g => (∃ a b c d e, z = stepSg hs s a b c d e) ∧ g = [.lst ((((changesAt hs s).take i).flatMap (stepsFor hs s)).map eStep)])
    (fun q => ∃ a b c d e, q = (.nx (stepSg hs s a b c d e), [.lst ((stepsAt hs s).map eStep)]))
    (sr_lst (changesAt hs s) eC (r_N (r_cons rfl (r_cons rfl r_nil)) (p_changes hs ho s (by omega) (by omega) _)) rfl) ⟨⟨_, _, _, _, _, rfl⟩, rfl⟩ (by
      rintro i ch z g hy ⟨⟨a, b, c, d, e, rfl⟩, rfl⟩
      have hc : ch ∈ changesAt hs s := List.mem_of_getElem? hy
      have hi : i < (changesAt hs s).length := (List.getElem?_eq_some_iff.mp hy).1
      have nx : (changesAt hs s).take (i + 1) = (changesAt hs s).take i ++ [ch] := by rw [List.take_add_one, hy]; rfl
      generalize hP : ((changesAt hs s).take i).flatMap (stepsFor hs s) = P
      have hPl : P.length ≤ 200 := by
        rw [← hP]
        have := fl ((changesAt hs s).take i) (by rw [List.length_take]; omega)
        rw [List.length_take] at this
        omega
      have sl := settled_len hs ho s ok ch
      have st := p_settled hs ho s ch (okC_of hc) (by omega) (by omega) [O.lst (P.map eStep)]
      have hlen := hands_len hs (settled hs s ch) sl
      obtain ⟨q2, e2, z2⟩ := forI (s := stepSg hs s (some (eC ch)) (some (eS (settled hs s ch))) c d e) (h := [O.lst (P.map eStep)]) (h1 := [O.lst (P.map eStep)]) (fi := fSrc noF (fN (oPure Fhands_at) (fCons (fVar 0) (fCons (fVar 4) fNil)))) (g := gSet 5)
        (fb := sSeq (sAsg (fN (oPure Fhandled) (fCons (f1 (oFld 1 0) (fVar 0)) (fCons (fVar 4) (fCons (fVar 5) fNil)))) (gTupF 2 (gAnd (gSet 6) (gAnd (gSet 7) gEnd))))
          (sExpr (fM mAppend (fVar 2) (fCons (fN mkTup (fCons (fN mkTup (fCons (fVar 3) (fCons (fVar 5) fNil))) (fCons (fVar 6) (fCons (fVar 7) fNil)))) fNil))))
        (ys := handsAt hs (settled hs s ch)) (e := fun _ => eHd)
        (fun j z g => (∃ c d e, z = stepSg hs s (some (eC ch)) (some (eS (settled hs s ch))) c d e) ∧ g = [.lst ((P ++ (stepsFor hs s ch).take j).map eStep)])
        (fun q => ∃ c d e, q = (.nx (stepSg hs s (some (eC ch)) (some (eS (settled hs s ch))) c d e), [.lst ((P ++ stepsFor hs s ch).map eStep)]))
        (sr_lst (handsAt hs (settled hs s ch)) eHd (r_N (r_cons rfl (r_cons rfl r_nil)) (p_hands hs (settled hs s ch) sl _)) rfl) ⟨⟨_, _, _, rfl⟩, by simp⟩ (by
          rintro j hd z g hz ⟨⟨c, d, e, rfl⟩, rfl⟩
          have hmem : hd ∈ handsAt hs (settled hs s ch) := List.mem_of_getElem? hz
          have hj : j < (handsAt hs (settled hs s ch)).length := (List.getElem?_eq_some_iff.mp hz).1
          have sj : (stepsFor hs s ch)[j]? = some ((ch, hd), handled hs.rule (settled hs s ch) hd) := by unfold stepsFor; rw [List.getElem?_map, hz]; rfl
          have nj : (stepsFor hs s ch).take (j + 1) = (stepsFor hs s ch).take j ++ [((ch, hd), handled hs.rule (settled hs s ch) hd)] := by rw [List.take_add_one, sj]; rfl
          generalize hG : (P ++ (stepsFor hs s ch).take j) = G
          have hGl : G.length ≤ 300 := by
            rw [← hG, List.length_append, List.length_take]
            omega
          have hh := p_handled hs s ok ch hd hmem [O.lst (G.map eStep)]
          have e1 : [O.lst (G.map eStep)][0]? = some (.lst (G.map eStep)) := rfl
          have app : ∀ z, mAppend (.loc 0) [z] [O.lst (G.map eStep)] = .ret (.non, [.lst (G.map eStep ++ [z])]) := by
            intro z
            unfold mAppend
            dsimp only
            rw [e1]
            dsimp only
            rw [if_pos (by unfold lim; rw [List.length_map]; omega)]
            rfl
          apply ex_step
          · show sSeq _ _ (stepSg hs s (some (eC ch)) (some (eS (settled hs s ch))) (some (eHd hd)) d e) _ = _
            refine r_seq (s1 := stepSg hs s (some (eC ch)) (some (eS (settled hs s ch))) (some (eHd hd)) (some (eS (handled hs.rule (settled hs s ch) hd).1)) (some (.str (handled hs.rule (settled hs s ch) hd).2))) (r_asg (r_N (r_cons (r_1 rfl rfl) (r_cons rfl (r_cons rfl r_nil))) hh) rfl) ?_
            exact r_expr (r_M rfl e1 (r_cons (r_tup (r_cons (r_tup (r_cons rfl (r_cons rfl r_nil)) (Nat.le_of_ble_eq_true rfl)) (r_cons rfl (r_cons rfl r_nil))) (Nat.le_of_ble_eq_true rfl)) r_nil) (app _))
          · refine ⟨⟨_, _, _, rfl⟩, ?_⟩
            rw [nj, ← List.append_assoc, hG]
            simp [eStep, eM])
        (by
          rintro z g ⟨⟨c, d, e, rfl⟩, rfl⟩
          refine ⟨c, d, e, ?_⟩
          rw [List.take_of_length_le (by unfold stepsFor; rw [List.length_map]; exact Nat.le_refl _)])
      obtain ⟨c2, d2, e2', rfl⟩ := z2
      apply ex_step
      · show sSeq _ _ (stepSg hs s (some (eC ch)) b c d e) _ = _
        exact r_seq (s1 := stepSg hs s (some (eC ch)) (some (eS (settled hs s ch))) c d e) (r_setN (r_N (r_cons rfl (r_cons rfl (r_cons rfl r_nil))) st) rfl) e2
      · refine ⟨⟨_, _, _, _, _, rfl⟩, ?_⟩
        rw [nx, List.flatMap_append, hP]
        simp)
    (by
      rintro z g ⟨⟨a, b, c, d, e, rfl⟩, rfl⟩
      refine ⟨a, b, c, d, e, ?_⟩
      rw [List.take_length]
      rfl)
  obtain ⟨a, b, c, d, e', rfl⟩ := z
  refine ⟨[.lst ((stepsAt hs s).map eStep)], ?_, rfl⟩
  apply F_retX rfl (by simp only [List.map_cons, List.map_nil, List.length_cons, List.length_nil, Nat.reduceAdd, Nat.reduceSub, List.replicate_succ, List.replicate_zero, List.cons_append, List.nil_append, List.set_cons_succ, List.set_cons_zero]; rfl)
  · unfold bsteps_at; repeat' (first | (with_reducible exact e) | (with_reducible apply r_isSet; (first | (simp only [List.map_cons, List.map_nil, List.length_cons, List.length_nil, Nat.reduceAdd, Nat.reduceSub, List.replicate_succ, List.replicate_zero, List.cons_append, List.nil_append, List.set_cons_succ, List.set_cons_zero]; done) | (simp only [List.map_cons, List.map_nil, List.length_cons, List.length_nil, Nat.reduceAdd, Nat.reduceSub, List.replicate_succ, List.replicate_zero, List.cons_append, List.nil_append, List.set_cons_succ, List.set_cons_zero]; rfl))) | (with_reducible rfl) | (with_reducible exact r_nx) | (with_reducible exact r_c) | (with_reducible exact r_nil) | (with_reducible exact r_no) | (with_reducible exact r_pnil) | (with_reducible exact r_gend) | exact Nat.le_of_ble_eq_true rfl | (with_reducible apply r_seqK_nx) | (with_reducible apply r_seqK) | (with_reducible apply r_ifK) | (with_reducible apply r_tandK) | (with_reducible apply r_torK) | (with_reducible apply r_andK) | (with_reducible apply r_orK) | (with_reducible apply r_ifxK) | (with_reducible apply r_ret) | (with_reducible apply r_setN) | (with_reducible apply r_expr) | (with_reducible apply r_asg) | (with_reducible apply r_parN) | (with_reducible apply r_var) | (with_reducible apply r_1) | (with_reducible apply r_tup) | (with_reducible apply r_lst) | (with_reducible apply r_fz) | (with_reducible apply r_2) | (with_reducible apply r_cons) | (with_reducible apply r_N) | (with_reducible apply r_t2) | (with_reducible apply r_tval) | (with_reducible apply r_tnot) | (with_reducible apply r_not) | (with_reducible apply r_cmpV) | (with_reducible apply r_gtup) | (with_reducible apply r_gand) | (with_reducible apply r_gset) | (with_reducible apply r_sl) | (with_reducible apply r_part) | (with_reducible apply r_M) | (with_reducible apply r_aug) | (with_reducible apply r_chainK) | (with_reducible apply r_bind2) | (with_reducible apply r_tchain) | (with_reducible apply r_fld) | (with_reducible apply r_disp) | (with_reducible apply r_pcons) | (with_reducible apply r_itet; focus (first | assumption | with_reducible rfl | (simp_all; done) | (simp_all; omega))) | (with_reducible apply r_itef; focus (first | assumption | with_reducible rfl | (simp_all; done) | (simp_all; omega))) | (simp only [List.map_cons, List.map_nil, List.length_cons, List.length_nil, Nat.reduceAdd, Nat.reduceSub, List.replicate_succ, List.replicate_zero, List.cons_append, List.nil_append, List.set_cons_succ, List.set_cons_zero]; done) | (simp only [List.map_cons, List.map_nil, List.length_cons, List.length_nil, Nat.reduceAdd, Nat.reduceSub, List.replicate_succ, List.replicate_zero, List.cons_append, List.nil_append, List.set_cons_succ, List.set_cons_zero]; rfl) | rfl | exact e)
  · rfl
  · rfl
  · rfl
theorem steps_few (hs : Hs) (ho : OkH hs) (s : Stand) (ok : OkS hs s) : (stepsAt hs s).length ≤ 1000 := by
  have hr := ho.room
  have hf := ok.few
  have chl := changes_len hs ho s (by omega)
  have fl : ∀ cs : List Change, (cs.flatMap (stepsFor hs s)).length ≤ cs.length * 10 := by
    intro cs
    induction cs with
    | nil => simp
    | cons c cs ih =>
      have h2 : (stepsFor hs s c).length ≤ 10 := by
        unfold stepsFor
        rw [List.length_map]
        exact hands_len hs _ (settled_len hs ho s ok c)
      simp only [List.flatMap_cons, List.length_append, List.length_cons]
      omega
  have := fl (changesAt hs s)
  unfold stepsAt
  omega
theorem p_steps (hs : Hs) (ho : OkH hs) (s : Stand) (ok : OkS hs s) (h : List O) : oPure Fsteps_at [eH hs, eS s] h = .ret (.lst ((stepsAt hs s).map eStep), h) := by
  obtain ⟨g, e1, e2⟩ := steps_ok hs ho s ok
  exact pure_fz h e1 (by simp [noLs, nl_H, nl_S]) (frz_lst e2 (noLs_map nl_Step _) 38)
theorem moments_ok (hs : Hs) (ho : OkH hs) (s : Stand) (ok : OkS hs s) : Fmoments_at [eH hs, eS s] [] = .ret (.lst ((momentsAt hs s).map eM), []) := by
  have lc : fLc [2, 3, 4] (fSrc noF (fN (oPure Fsteps_at) (fCons (fVar 0) (fCons (fVar 1) fNil)))) (gTupF 3 (gAnd (gSet 2) (gAnd (gSet 3) (gAnd (gSet 4) gEnd)))) tTrue (fVar 2) [some (eH hs), some (eS s), none, none, none] [] = .ret (.lst ((momentsAt hs s).map eM), []) := by
    rw [lcM (fun x => eM x.1) (sr_lst (stepsAt hs s) eStep (r_N (r_cons rfl (r_cons rfl r_nil)) (p_steps hs ho s ok _)) rfl) (Nat.le_trans (steps_few hs ho s ok) (by decide)) fun y _ => rfl]
    simp [momentsAt]
  apply F_retX rfl (by simp only [List.map_cons, List.map_nil, List.length_cons, List.length_nil, Nat.reduceAdd, Nat.reduceSub, List.replicate_succ, List.replicate_zero, List.cons_append, List.nil_append, List.set_cons_succ, List.set_cons_zero]; rfl)
  · unfold bmoments_at; repeat' (first | (with_reducible exact check_p hs ho s ok _) | (with_reducible exact lc) | (with_reducible apply r_isSet; (first | (simp only [List.map_cons, List.map_nil, List.length_cons, List.length_nil, Nat.reduceAdd, Nat.reduceSub, List.replicate_succ, List.replicate_zero, List.cons_append, List.nil_append, List.set_cons_succ, List.set_cons_zero]; done) | (simp only [List.map_cons, List.map_nil, List.length_cons, List.length_nil, Nat.reduceAdd, Nat.reduceSub, List.replicate_succ, List.replicate_zero, List.cons_append, List.nil_append, List.set_cons_succ, List.set_cons_zero]; rfl))) | (with_reducible rfl) | (with_reducible exact r_nx) | (with_reducible exact r_c) | (with_reducible exact r_nil) | (with_reducible exact r_no) | (with_reducible exact r_pnil) | (with_reducible exact r_gend) | exact Nat.le_of_ble_eq_true rfl | (with_reducible apply r_seqK_nx) | (with_reducible apply r_seqK) | (with_reducible apply r_ifK) | (with_reducible apply r_tandK) | (with_reducible apply r_torK) | (with_reducible apply r_andK) | (with_reducible apply r_orK) | (with_reducible apply r_ifxK) | (with_reducible apply r_ret) | (with_reducible apply r_setN) | (with_reducible apply r_expr) | (with_reducible apply r_asg) | (with_reducible apply r_parN) | (with_reducible apply r_var) | (with_reducible apply r_1) | (with_reducible apply r_tup) | (with_reducible apply r_lst) | (with_reducible apply r_fz) | (with_reducible apply r_2) | (with_reducible apply r_cons) | (with_reducible apply r_N) | (with_reducible apply r_t2) | (with_reducible apply r_tval) | (with_reducible apply r_tnot) | (with_reducible apply r_not) | (with_reducible apply r_cmpV) | (with_reducible apply r_gtup) | (with_reducible apply r_gand) | (with_reducible apply r_gset) | (with_reducible apply r_sl) | (with_reducible apply r_part) | (with_reducible apply r_M) | (with_reducible apply r_aug) | (with_reducible apply r_chainK) | (with_reducible apply r_bind2) | (with_reducible apply r_tchain) | (with_reducible apply r_fld) | (with_reducible apply r_disp) | (with_reducible apply r_pcons) | (with_reducible apply r_itet; focus (first | assumption | with_reducible rfl | (simp_all; done) | (simp_all; omega))) | (with_reducible apply r_itef; focus (first | assumption | with_reducible rfl | (simp_all; done) | (simp_all; omega))) | (simp only [List.map_cons, List.map_nil, List.length_cons, List.length_nil, Nat.reduceAdd, Nat.reduceSub, List.replicate_succ, List.replicate_zero, List.cons_append, List.nil_append, List.set_cons_succ, List.set_cons_zero]; done) | (simp only [List.map_cons, List.map_nil, List.length_cons, List.length_nil, Nat.reduceAdd, Nat.reduceSub, List.replicate_succ, List.replicate_zero, List.cons_append, List.nil_append, List.set_cons_succ, List.set_cons_zero]; rfl) | rfl | exact check_p hs ho s ok _ | exact lc)
  · rfl
  · rfl
  · rfl
theorem p_moments (hs : Hs) (ho : OkH hs) (s : Stand) (ok : OkS hs s) (h : List O) : oPure Fmoments_at [eH hs, eS s] h = .ret (.lst ((momentsAt hs s).map eM), h) :=
  pure_fz h (moments_ok hs ho s ok) (by simp [noLs, nl_H, nl_S]) (frz_noL (n := 39) (by simpa [noL] using noLs_map nl_M (momentsAt hs s)))
theorem moments_can {hs : Hs} {s : Stand} {m : Change × Hand} (h : m ∈ momentsAt hs s) : can hs s m = true := by
  obtain ⟨x, h1, rfl⟩ := List.mem_map.mp h
  obtain ⟨c, h2, h3⟩ := List.mem_flatMap.mp h1
  obtain ⟨d, h4, rfl⟩ := List.mem_map.mp h3
  unfold can
  rw [decide_eq_true h2, decide_eq_true h4]
  rfl
theorem moments_ne (hs : Hs) (s : Stand) : momentsAt hs s ≠ [] := by
  have h1 : Change.none ∈ changesAt hs s := by unfold changesAt; simp
  have h2 : ∀ s', handsAt hs s' ≠ [] := by
    intro s' e
    unfold handsAt at e
    split at e
    · simp at e
    · split at e
      · simp at e
      · split at e <;> simp at e
  intro e
  obtain ⟨d, hd⟩ := List.exists_mem_of_ne_nil _ (h2 (settled hs s .none))
  have : ((Change.none, d) : Change × Hand) ∈ momentsAt hs s := List.mem_map.mpr ⟨((.none, d), handled hs.rule (settled hs s .none) d), List.mem_flatMap.mpr ⟨.none, h1, List.mem_map.mpr ⟨d, hd, rfl⟩⟩, rfl⟩
  rw [e] at this
  cases this
end Md

/-! Models of rules and houses as the laws draw them: dicts. -/
namespace Md
open PySem PySem.Spec PyProof.Rows L2 Dr Ev Und
def wKs : List Key := [.inr "way", .inr "still", .inr "hold", .inr "pins", .inr "guard"]
def hKs : List Key := [.inr "way", .inr "room", .inr "top", .inr "many", .inr "goes", .inr "lag"]
def wVs (r : Rl) : List D := [.str r.way.s, .int r.still, .int r.hold, .int r.pins, .int r.guard]
def wO (r : Rl) : O := .dK wKs (wVs r)
def wD (r : Rl) : D := .dct wKs (wVs r)
def hVs (w : D) (hs : Hs) : List D := [w, .int hs.room, .int hs.top, .int hs.many, .bl hs.goes, .tup [.int hs.least, .int hs.most]]
def hO (n : Nat) (hs : Hs) : O := .dK hKs (hVs (.loc n) hs)
def hD (hs : Hs) : D := .dct hKs (hVs (wD hs.rule) hs)
theorem nl_wD (r : Rl) : noL (wD r) = true := rfl
theorem nl_hD (hs : Hs) : noL (hD hs) = true := rfl
/-! reading them -/
theorem w_way (r : Rl) (h : List O) : oGet (wD r) (.str "way") h = .ret (.str r.way.s, h) := by kernel_rfl
theorem w_still (r : Rl) (h : List O) : oGet (wD r) (.str "still") h = .ret (.int r.still, h) := by kernel_rfl
theorem w_hold (r : Rl) (h : List O) : oGet (wD r) (.str "hold") h = .ret (.int r.hold, h) := by kernel_rfl
theorem w_pins (r : Rl) (h : List O) : oGet (wD r) (.str "pins") h = .ret (.int r.pins, h) := by kernel_rfl
theorem w_guard (r : Rl) (h : List O) : oGet (wD r) (.str "guard") h = .ret (.int r.guard, h) := by kernel_rfl
theorem h_way (hs : Hs) (h : List O) : oGet (hD hs) (.str "way") h = .ret (wD hs.rule, h) := by kernel_rfl
theorem h_room (hs : Hs) (h : List O) : oGet (hD hs) (.str "room") h = .ret (.int hs.room, h) := by kernel_rfl
theorem h_top (hs : Hs) (h : List O) : oGet (hD hs) (.str "top") h = .ret (.int hs.top, h) := by kernel_rfl
theorem h_many (hs : Hs) (h : List O) : oGet (hD hs) (.str "many") h = .ret (.int hs.many, h) := by kernel_rfl
theorem h_goes (hs : Hs) (h : List O) : oGet (hD hs) (.str "goes") h = .ret (.bl hs.goes, h) := by kernel_rfl
theorem h_lag (hs : Hs) (h : List O) : oGet (hD hs) (.str "lag") h = .ret (.tup [.int hs.least, .int hs.most], h) := by kernel_rfl
/-- _law_rule -/
def bruleF : Sg → M Out := sRet (fN (oMk 0 5 IRule) (fCons (f2 oGet (fVar 0) (fC (.str "way"))) (fCons (f2 oGet (fVar 0) (fC (.str "still"))) (fCons (f2 oGet (fVar 0) (fC (.str "hold"))) (fCons (f2 oGet (fVar 0) (fC (.str "pins"))) (fCons (f2 oGet (fVar 0) (fC (.str "guard"))) fNil))))))
def ruleF : List D → M D := mkF 1 1 bruleF
theorem rule_ok (r : Rl) (ok : OkR r) : ruleF [wD r] [] = .ret (eR r, []) := by
  have mk := rule_mk r ok []
  apply F_retX rfl (by simp only [List.map_cons, List.map_nil, List.length_cons, List.length_nil, Nat.reduceAdd, Nat.reduceSub, List.replicate_succ, List.replicate_zero, List.cons_append, List.nil_append, List.set_cons_succ, List.set_cons_zero]; rfl)
  · unfold bruleF; repeat' (first | (with_reducible exact w_way r _) | (with_reducible exact w_still r _) | (with_reducible exact w_hold r _) | (with_reducible exact w_pins r _) | (with_reducible exact w_guard r _) | (with_reducible exact mk) | (with_reducible apply r_isSet; (first | (simp only [List.map_cons, List.map_nil, List.length_cons, List.length_nil, Nat.reduceAdd, Nat.reduceSub, List.replicate_succ, List.replicate_zero, List.cons_append, List.nil_append, List.set_cons_succ, List.set_cons_zero]; done) | (simp only [List.map_cons, List.map_nil, List.length_cons, List.length_nil, Nat.reduceAdd, Nat.reduceSub, List.replicate_succ, List.replicate_zero, List.cons_append, List.nil_append, List.set_cons_succ, List.set_cons_zero]; rfl))) | (with_reducible rfl) | (with_reducible exact r_nx) | (with_reducible exact r_c) | (with_reducible exact r_nil) | (with_reducible exact r_no) | (with_reducible exact r_pnil) | (with_reducible exact r_gend) | exact Nat.le_of_ble_eq_true rfl | (with_reducible apply r_seqK_nx) | (with_reducible apply r_seqK) | (with_reducible apply r_ifK) | (with_reducible apply r_tandK) | (with_reducible apply r_torK) | (with_reducible apply r_andK) | (with_reducible apply r_orK) | (with_reducible apply r_ifxK) | (with_reducible apply r_ret) | (with_reducible apply r_setN) | (with_reducible apply r_expr) | (with_reducible apply r_asg) | (with_reducible apply r_parN) | (with_reducible apply r_var) | (with_reducible apply r_1) | (with_reducible apply r_tup) | (with_reducible apply r_lst) | (with_reducible apply r_fz) | (with_reducible apply r_2) | (with_reducible apply r_cons) | (with_reducible apply r_N) | (with_reducible apply r_t2) | (with_reducible apply r_tval) | (with_reducible apply r_tnot) | (with_reducible apply r_not) | (with_reducible apply r_cmpV) | (with_reducible apply r_gtup) | (with_reducible apply r_gand) | (with_reducible apply r_gset) | (with_reducible apply r_sl) | (with_reducible apply r_part) | (with_reducible apply r_M) | (with_reducible apply r_aug) | (with_reducible apply r_chainK) | (with_reducible apply r_bind2) | (with_reducible apply r_tchain) | (with_reducible apply r_fld) | (with_reducible apply r_disp) | (with_reducible apply r_pcons) | (with_reducible apply r_itet; focus (first | assumption | with_reducible rfl | (simp_all; done) | (simp_all; omega))) | (with_reducible apply r_itef; focus (first | assumption | with_reducible rfl | (simp_all; done) | (simp_all; omega))) | (simp only [List.map_cons, List.map_nil, List.length_cons, List.length_nil, Nat.reduceAdd, Nat.reduceSub, List.replicate_succ, List.replicate_zero, List.cons_append, List.nil_append, List.set_cons_succ, List.set_cons_zero]; done) | (simp only [List.map_cons, List.map_nil, List.length_cons, List.length_nil, Nat.reduceAdd, Nat.reduceSub, List.replicate_succ, List.replicate_zero, List.cons_append, List.nil_append, List.set_cons_succ, List.set_cons_zero]; rfl) | rfl | exact w_way r _ | exact w_still r _ | exact w_hold r _ | exact w_pins r _ | exact w_guard r _ | exact mk)
  · rfl
  · rfl
  · rfl
theorem p_rule (r : Rl) (ok : OkR r) (h : List O) : oPure ruleF [wD r] h = .ret (eR r, h) := pure_ret h ⟨_, rule_ok r ok⟩ rfl rfl
/-- _law_house -/
def bhouseF : Sg → M Out := sRet (fN (oMk 1 6 IHouse) (fCons (fN (oPure ruleF) (fCons (f2 oGet (fVar 0) (fC (.str "way"))) fNil)) (fCons (f2 oGet (fVar 0) (fC (.str "room"))) (fCons (f2 oGet (fVar 0) (fC (.str "top"))) (fCons (f2 oGet (fVar 0) (fC (.str "many"))) (fCons (f2 oGet (fVar 0) (fC (.str "goes"))) (fCons (f2 oGet (fVar 0) (fC (.str "lag"))) fNil)))))))
def houseF : List D → M D := mkF 1 1 bhouseF
theorem hse_ok (hs : Hs) (ok : OkH hs) : houseF [hD hs] [] = .ret (eH hs, []) := by
  have mk := house_mk hs ok []
  have pr := p_rule hs.rule ok.rule []
  apply F_retX rfl (by simp only [List.map_cons, List.map_nil, List.length_cons, List.length_nil, Nat.reduceAdd, Nat.reduceSub, List.replicate_succ, List.replicate_zero, List.cons_append, List.nil_append, List.set_cons_succ, List.set_cons_zero]; rfl)
  · unfold bhouseF; repeat' (first | (with_reducible exact h_way hs _) | (with_reducible exact h_room hs _) | (with_reducible exact h_top hs _) | (with_reducible exact h_many hs _) | (with_reducible exact h_goes hs _) | (with_reducible exact h_lag hs _) | (with_reducible exact pr) | (with_reducible exact mk) | (with_reducible apply r_isSet; (first | (simp only [List.map_cons, List.map_nil, List.length_cons, List.length_nil, Nat.reduceAdd, Nat.reduceSub, List.replicate_succ, List.replicate_zero, List.cons_append, List.nil_append, List.set_cons_succ, List.set_cons_zero]; done) | (simp only [List.map_cons, List.map_nil, List.length_cons, List.length_nil, Nat.reduceAdd, Nat.reduceSub, List.replicate_succ, List.replicate_zero, List.cons_append, List.nil_append, List.set_cons_succ, List.set_cons_zero]; rfl))) | (with_reducible rfl) | (with_reducible exact r_nx) | (with_reducible exact r_c) | (with_reducible exact r_nil) | (with_reducible exact r_no) | (with_reducible exact r_pnil) | (with_reducible exact r_gend) | exact Nat.le_of_ble_eq_true rfl | (with_reducible apply r_seqK_nx) | (with_reducible apply r_seqK) | (with_reducible apply r_ifK) | (with_reducible apply r_tandK) | (with_reducible apply r_torK) | (with_reducible apply r_andK) | (with_reducible apply r_orK) | (with_reducible apply r_ifxK) | (with_reducible apply r_ret) | (with_reducible apply r_setN) | (with_reducible apply r_expr) | (with_reducible apply r_asg) | (with_reducible apply r_parN) | (with_reducible apply r_var) | (with_reducible apply r_1) | (with_reducible apply r_tup) | (with_reducible apply r_lst) | (with_reducible apply r_fz) | (with_reducible apply r_2) | (with_reducible apply r_cons) | (with_reducible apply r_N) | (with_reducible apply r_t2) | (with_reducible apply r_tval) | (with_reducible apply r_tnot) | (with_reducible apply r_not) | (with_reducible apply r_cmpV) | (with_reducible apply r_gtup) | (with_reducible apply r_gand) | (with_reducible apply r_gset) | (with_reducible apply r_sl) | (with_reducible apply r_part) | (with_reducible apply r_M) | (with_reducible apply r_aug) | (with_reducible apply r_chainK) | (with_reducible apply r_bind2) | (with_reducible apply r_tchain) | (with_reducible apply r_fld) | (with_reducible apply r_disp) | (with_reducible apply r_pcons) | (with_reducible apply r_itet; focus (first | assumption | with_reducible rfl | (simp_all; done) | (simp_all; omega))) | (with_reducible apply r_itef; focus (first | assumption | with_reducible rfl | (simp_all; done) | (simp_all; omega))) | (simp only [List.map_cons, List.map_nil, List.length_cons, List.length_nil, Nat.reduceAdd, Nat.reduceSub, List.replicate_succ, List.replicate_zero, List.cons_append, List.nil_append, List.set_cons_succ, List.set_cons_zero]; done) | (simp only [List.map_cons, List.map_nil, List.length_cons, List.length_nil, Nat.reduceAdd, Nat.reduceSub, List.replicate_succ, List.replicate_zero, List.cons_append, List.nil_append, List.set_cons_succ, List.set_cons_zero]; rfl) | rfl | exact h_way hs _ | exact h_room hs _ | exact h_top hs _ | exact h_many hs _ | exact h_goes hs _ | exact h_lag hs _ | exact pr | exact mk)
  · rfl
  · rfl
  · rfl
theorem p_hse (hs : Hs) (ok : OkH hs) (h : List O) : oPure houseF [hD hs] h = .ret (eH hs, h) := pure_ret h ⟨_, hse_ok hs ok⟩ rfl rfl
/-! drawing them -/
theorem tk_peak {P : D × List O → Prop} {s : Sg} {h : List O} {peak : Int} (i : Nat) (hd : s[0]? = some (some .draw)) (hp : s[i]? = some (some (.int peak))) (h0 : 0 ≤ peak) (h3 : peak ≤ 100) (q : ∀ i : Nat, (i : Int) ≤ peak → P (.int (i : Nat), h)) :
    Al (fN oTake (fCons (fVar 0) (fCons (f2 (oAdd mkFz) (fVar i) (fC (.int 1))) fNil)) s h) P := by
  refine a_N (a_of (r := ([.draw, .int (peak + 1)], h)) (r_cons (r_var hd) (r_cons (r_2 (r_var hp) r_c rfl) r_nil)) ?_)
  exact a_take (by omega) (by omega) fun i hi => q i (by omega)
theorem tk_in {P : D × List O → Prop} {s : Sg} {h : List O} {most : Int} (i : Nat) (hd : s[0]? = some (some .draw)) (hp : s[i]? = some (some (.int most))) (h0 : 0 < most) (h3 : most ≤ 100) (q : ∀ i : Nat, (i : Int) < most → P (.int (i : Nat), h)) :
    Al (fN oTake (fCons (fVar 0) (fCons (fVar i) fNil)) s h) P := by
  refine a_N (a_of (r := ([.draw, .int most], h)) (r_cons (r_var hd) (r_cons (r_var hp) r_nil)) ?_)
  exact a_take (by omega) (by omega) fun i hi => q i hi
def bwayF : Sg → M Out := sRet (fDisp (fPCons (fC (.str "way")) (fN (oPure pickF) (fCons (fVar 0) (fCons (fN mkFz (fCons (fC (.str "end")) (fCons (fC (.str "front")) (fCons (fC (.str "rank")) fNil)))) fNil))) (fPCons (fC (.str "still")) (fN oTake (fCons (fVar 0) (fCons (f2 (oAdd mkFz) (fVar 1) (fC (.int 1))) fNil))) (fPCons (fC (.str "hold")) (fN oTake (fCons (fVar 0) (fCons (f2 (oAdd mkFz) (fVar 1) (fC (.int 1))) fNil))) (fPCons (fC (.str "pins")) (fN oTake (fCons (fVar 0) (fCons (fC (.int 3)) fNil))) (fPCons (fC (.str "guard")) (fN oTake (fCons (fVar 0) (fCons (f2 (oAdd mkFz) (fVar 1) (fC (.int 1))) fNil))) fPNil))))))
def wayF : List D → M D := mkF 2 2 bwayF
theorem ways_of {x : D} (h : x ∈ [D.str "end", .str "front", .str "rank"]) : ∃ w : Way, x = .str w.s := by
  simp at h
  rcases h with rfl | rfl | rfl
  · exact ⟨.fin, rfl⟩
  · exact ⟨.front, rfl⟩
  · exact ⟨.rank, rfl⟩
theorem merge_way (a b c d e : D) : dkO (mergeD [] [(.inr "way", a), (.inr "still", b), (.inr "hold", c), (.inr "pins", d), (.inr "guard", e)]) = .dK wKs [a, b, c, d, e] := by kernel_rfl
theorem way_all {P : D × List O → Prop} {h : List O} {peak : Int} (h0 : 0 ≤ peak) (h3 : peak ≤ 3) (a : ∀ r : Rl, OkR r → r.still ≤ peak → r.hold ≤ peak → r.guard ≤ peak → P (.loc h.length, h ++ [wO r])) : Al (wayF [.draw, .int peak] h) P := by
  refine a_F (xs := [.draw, .int peak]) (np := 2) (nn := 2) (f := bwayF) (s := [some .draw, some (.int peak)]) rfl rfl ?_
  unfold bwayF
  refine a_ret (a_disp ?_)
  refine a_pcons r_c rfl (a_N (a_of (r_cons rfl (r_cons (r_fz (r_cons r_c (r_cons r_c (r_cons r_c r_nil))) (by decide)) r_nil)) (p_pick (by decide) (by decide) rfl fun x hx => ?_)))
  obtain ⟨w, rfl⟩ := ways_of hx
  refine a_pcons r_c rfl (tk_peak 1 rfl rfl h0 (by omega) fun i1 h1 => ?_)
  refine a_pcons r_c rfl (tk_peak 1 rfl rfl h0 (by omega) fun i2 h2 => ?_)
  refine a_pcons r_c rfl (a_take0 rfl (by decide) (by decide) fun i3 h3 => ?_)
  refine a_pcons r_c rfl (tk_peak 1 rfl rfl h0 (by omega) fun i4 h4 => ?_)
  refine a_pnil ⟨by simp, Nat.le_of_ble_eq_true rfl, a_rt ?_⟩
  have := a ⟨w, i1, i2, i3, i4⟩ ⟨by simp; omega, by simp; omega, by simp; omega, by simp; omega⟩ h1 h2 h4
  dsimp only
  rw [merge_way]
  simpa [wO, wVs] using this
def bhomeF : Sg → M Out := 
  (sSeq (sSet 3 (f2 (oAdd mkFz) (fC (.int 1)) (fN oTake (fCons (fVar 0) (fCons (fC (.int 3)) fNil)))))
  (sSeq (sSet 4 (fDisp (fPCons (fC (.str "way")) (fN wayF (fCons (fVar 0) (fCons (fVar 2) fNil))) (fPCons (fC (.str "room")) (f2 (oAdd mkFz) (fC (.int 1)) (fN oTake (fCons (fVar 0) (fCons (fVar 1) fNil)))) (fPCons (fC (.str "top")) (fN oTake (fCons (fVar 0) (fCons (fC (.int 3)) fNil))) fPNil)))))
  (sSeq (sAsg (fN mkTup (fCons (f2 (oAdd mkFz) (fC (.int 1)) (fN oTake (fCons (fVar 0) (fCons (fC (.int 2)) fNil)))) (fCons (f2 (cmpV (pEq fun b => b)) (fN oTake (fCons (fVar 0) (fCons (fC (.int 2)) fNil))) (fC (.int 0))) fNil))) (gTupF 2 (gAnd (Ev.gSub (fVar 4) (fC (.str "many"))) (gAnd (Ev.gSub (fVar 4) (fC (.str "goes"))) gEnd))))
  (sSeq (sAsg (fN mkTup (fCons (f2 (oAdd mkFz) (fC (.int 1)) (fN oTake (fCons (fVar 0) (fCons (fVar 3) fNil)))) (fCons (fVar 3) fNil))) (Ev.gSub (fVar 4) (fC (.str "lag"))))
  (sRet (fVar 4))))))
def homeF : List D → M D := mkF 3 5 bhomeF
theorem merge_home (a b c : D) : dkO (mergeD [] [(.inr "way", a), (.inr "room", b), (.inr "top", c)]) = .dK [.inr "way", .inr "room", .inr "top"] [a, b, c] := by kernel_rfl
theorem put_many (a b c v : D) (w : O) : oPut (.loc 0) (.str "many") v [.dK [.inr "way", .inr "room", .inr "top"] [a, b, c], w] = .ret ((), [.dK [.inr "way", .inr "room", .inr "top", .inr "many"] [a, b, c, v], w]) := by kernel_rfl
theorem put_goes (a b c d v : D) (w : O) : oPut (.loc 0) (.str "goes") v [.dK [.inr "way", .inr "room", .inr "top", .inr "many"] [a, b, c, d], w] = .ret ((), [.dK [.inr "way", .inr "room", .inr "top", .inr "many", .inr "goes"] [a, b, c, d, v], w]) := by kernel_rfl
theorem put_lag (a b c d e v : D) (w : O) : oPut (.loc 0) (.str "lag") v [.dK [.inr "way", .inr "room", .inr "top", .inr "many", .inr "goes"] [a, b, c, d, e], w] = .ret ((), [.dK hKs [a, b, c, d, e, v], w]) := by kernel_rfl
theorem r_gsub {fo fi : Sg → M D} {s : Sg} {h h1 h2 h3 : List O} {o i x : D} (e1 : fo s h = .ret (o, h1)) (e2 : fi s h1 = .ret (i, h2)) (k : oPut o i x h2 = .ret ((), h3)) : Ev.gSub fo fi x s h = .ret (s, h3) := by
  unfold Ev.gSub
  rw [M.bind_ap, e1, Tr.bind_ret, M.bind_ap, e2, Tr.bind_ret, M.bind_ap, k]
  rfl
/-- a drawn home, in a store of its own -/
theorem home_all {P : D × List O → Prop} {space peak : Int} (s0 : 1 ≤ space) (s4 : space ≤ 4) (h0 : 0 ≤ peak) (h3 : peak ≤ 3) (a : ∀ hs : Hs, OkH hs → P (.loc 0, [hO 1 hs, wO hs.rule])) : Al (homeF [.draw, .int space, .int peak] []) P := by
  refine a_F (xs := [.draw, .int space, .int peak]) (np := 3) (nn := 5) (f := bhomeF) (s := [some .draw, some (.int space), some (.int peak), none, none]) rfl rfl ?_
  unfold bhomeF
  refine a_seq (a_set (a_2 (a_of r_c (a_take0 rfl (by decide) (by decide) fun i1 h1 => ?_))))
  refine a_of (r := (.int (1 + (i1 : Nat)), [])) rfl (a_seqk ?_)
  simp only [List.set_cons_succ, List.set_cons_zero]
  refine a_seq (a_set (a_disp ?_))
  refine a_pcons r_c rfl (a_N (a_of (r_cons rfl (r_cons rfl r_nil)) (way_all h0 h3 fun r okr _ _ _ => ?_)))
  refine a_pcons r_c rfl (a_2 (a_of r_c (tk_in 1 rfl rfl (by omega) (by omega) fun i2 h2 => a_of (r := (.int (1 + (i2 : Nat)), _)) rfl ?_)))
  refine a_pcons r_c rfl (a_take0 rfl (by decide) (by decide) fun i3 h3' => ?_)
  refine a_pnil ⟨rfl, Nat.le_of_ble_eq_true rfl, a_seqk ?_⟩
  dsimp only
  rw [merge_home]
  simp only [List.nil_append, List.length_nil, List.length_cons, List.set_cons_succ, List.set_cons_zero, List.cons_append, Nat.zero_add]
  refine a_seq (a_asg (a_N (a_cons (a_2 (a_of r_c (a_take0 rfl (by decide) (by decide) fun i4 h4 => a_of (r := (.int (1 + (i4 : Nat)), _)) rfl ?_))))))
  refine a_cons (a_2 (a_take0 rfl (by decide) (by decide) fun i5 h5 => a_of r_c (a_of (r_cmpV (eqI (fun b => b) (i5 : Nat) 0 _)) (a_nil (a_of (r_tupc ?_) ?_)))))
  · exact Nat.le_of_ble_eq_true rfl
  refine a_of (r_gtup rfl (r_gand (r_gsub rfl r_c (put_many _ _ _ _ _)) (r_gand (r_gsub rfl r_c (put_goes _ _ _ _ _ _)) r_gend))) (a_seqk ?_)
  refine a_seq (a_asg (a_N (a_cons (a_2 (a_of r_c (tk_in 3 rfl rfl (by omega) (by omega) fun i6 h6 => a_of (r := (.int (1 + (i6 : Nat)), _)) rfl ?_))))))
  refine a_cons (a_of rfl (a_nil (a_of (r_tupc ?_) ?_)))
  · exact Nat.le_of_ble_eq_true rfl
  refine a_of (r_gsub rfl r_c (put_lag _ _ _ _ _ _ _)) (a_seqk (a_ret (a_of rfl (a_rt ?_))))
  exact a ⟨r, 1 + (i2 : Nat), (i3 : Nat), 1 + (i4 : Nat), ((i5 : Nat) : Int) == 0, 1 + (i6 : Nat), 1 + (i1 : Nat)⟩ ⟨okr, by simp; omega, by simp; omega, by simp; omega, by simp; omega⟩
end Md

namespace K14
open PySem PySem.Spec PyProof.Rows L2 Dr Ev Und
def topS (i : Nat) : Stmt := PySem.Challenge.pw_undertap_k14_whole_what_rules_bar.main.body.getD i (.Pass ⟨0, 0, 0, 0⟩)
structure Tx (P : Program) (w : World) (K : PySem.W.Frag) (mg : Str → Option Value) (base : Heap) (c : Ct) : Prop where
  F : Facts K c
  f0 : ∀ i : Nat, (c.cF 0)[i]? = fl0[i]?
  k0 : 0 < c.n
  l0 : (c.cF 0).length = 5
  g0 : mg "Rule" = some (.ref (c.cA 0))
  kit0 : KitOk K c (.cls 0)
  n_way : NoAttr K (c.cA 0) "_way"
  n_still : NoAttr K (c.cA 0) "_still"
  n_hold : NoAttr K (c.cA 0) "_hold"
  n_pins : NoAttr K (c.cA 0) "_pins"
  n_guard : NoAttr K (c.cA 0) "_guard"
  f1 : ∀ i : Nat, (c.cF 1)[i]? = fl1[i]?
  k1 : 1 < c.n
  l1 : (c.cF 1).length = 6
  g1 : mg "House" = some (.ref (c.cA 1))
  kit1 : KitOk K c (.cls 1)
  n_rule : NoAttr K (c.cA 1) "_rule"
  n_room : NoAttr K (c.cA 1) "_room"
  n_top : NoAttr K (c.cA 1) "_top"
  n_many : NoAttr K (c.cA 1) "_many"
  n_goes : NoAttr K (c.cA 1) "_goes"
  n_lag : NoAttr K (c.cA 1) "_lag"
  q_goes : Pr P w K mg base (c.cA 1) "goes" "_goes"
  q_guard : Pr P w K mg base (c.cA 0) "guard" "_guard"
  q_hold : Pr P w K mg base (c.cA 0) "hold" "_hold"
  q_lag : Pr P w K mg base (c.cA 1) "lag" "_lag"
  q_many : Pr P w K mg base (c.cA 1) "many" "_many"
  q_pins : Pr P w K mg base (c.cA 0) "pins" "_pins"
  q_room : Pr P w K mg base (c.cA 1) "room" "_room"
  q_rule : Pr P w K mg base (c.cA 1) "rule" "_rule"
  q_still : Pr P w K mg base (c.cA 0) "still" "_still"
  q_top : Pr P w K mg base (c.cA 1) "top" "_top"
  q_way : Pr P w K mg base (c.cA 0) "way" "_way"
  c_GREATEST_LAG : GC K mg "GREATEST_LAG" (.int 3)
  c_GREATEST_RANK : GC K mg "GREATEST_RANK" (.int 2)
  c_MOST_PINS : GC K mg "MOST_PINS" (.int 2)
  c_MOST_ROOM : GC K mg "MOST_ROOM" (.int 4)
  c_MOST_TICKS : GC K mg "MOST_TICKS" (.int 3)
  c_MOST_WAITING : GC K mg "MOST_WAITING" (.int 2)
  c_NOTHING : GC K mg "NOTHING" (.tup [(.str "none")])
  c_TAP : GC K mg "TAP" (.tup [(.str "tap")])
  c_WAYS : GC K mg "WAYS" (.tup [(.str "end"), (.str "front"), (.str "rank")])
  m_abs : mg "abs" = none
  m_all : mg "all" = none
  m_any : mg "any" = none
  m_bool : mg "bool" = none
  m_enumerate : mg "enumerate" = none
  m_int : mg "int" = none
  m_isinstance : mg "isinstance" = none
  m_len : mg "len" = none
  m_max : mg "max" = none
  m_min : mg "min" = none
  m_range : mg "range" = none
  m_str : mg "str" = none
  m_tuple : mg "tuple" = none
variable {P : Program} {w : World} {K : PySem.W.Frag} {mg : Str → Option Value} {base : Heap} {c : Ct}
abbrev n_law_pick : List Str := ["draw", "some"]
def b_law_pick : Sg → M Out :=
  (sRet (f2 oGet (fVar 1) (fN oTake (fCons (fVar 0) (fCons (fN oLenA (fCons (fVar 1) fNil)) fNil)))))
def F_law_pick : List D → M D := mkF 2 2 b_law_pick
abbrev s_law_pick : Stmt := topS 55
theorem sc_law_pick : FnScope n_law_pick ["draw", "some"] (defScope s_law_pick) := ⟨rfl, rfl, rfl, by decide +kernel, rfl, by decide +kernel, by decide +kernel⟩
theorem ok_law_pick (T : Tx P w K mg base c) (D : GD K mg "_law_pick" s_law_pick ["draw", "some"]) (G__law_take : Own P w K mg base c 3 "_law_take" oTake) : Own P w K mg base c 4 "_law_pick" F_law_pick :=
  own_ev D sc_law_pick fun f cdv A outer s H E hid hr px =>
    have nd : (n_law_pick).Nodup := sc_law_pick.nd;
     (ess_one (es_ret (ev_get (units1 hr) (ev_var 1) (ev_own G__law_take.at (hr.mono (by decide)) px (ea_cons (ev_var 0) (ea_cons (ev_blt callr_len op_lenA T.m_len PySem.boot_len (ea_cons (ev_var 1) ea_nil)) ea_nil))))))
abbrev n_law_way : List Str := ["draw", "peak"]
def b_law_way : Sg → M Out :=
  (sRet (fDisp (fPCons (fC (.str "way")) (fN (oPure F_law_pick) (fCons (fVar 0) (fCons (fN mkFz (fCons (fC (.str "end")) (fCons (fC (.str "front")) (fCons (fC (.str "rank")) fNil)))) fNil))) (fPCons (fC (.str "still")) (fN oTake (fCons (fVar 0) (fCons (f2 (oAdd mkFz) (fVar 1) (fC (.int 1))) fNil))) (fPCons (fC (.str "hold")) (fN oTake (fCons (fVar 0) (fCons (f2 (oAdd mkFz) (fVar 1) (fC (.int 1))) fNil))) (fPCons (fC (.str "pins")) (fN oTake (fCons (fVar 0) (fCons (fC (.int 3)) fNil))) (fPCons (fC (.str "guard")) (fN oTake (fCons (fVar 0) (fCons (f2 (oAdd mkFz) (fVar 1) (fC (.int 1))) fNil))) fPNil)))))))
def F_law_way : List D → M D := mkF 2 2 b_law_way
abbrev s_law_way : Stmt := topS 56
theorem sc_law_way : FnScope n_law_way ["draw", "peak"] (defScope s_law_way) := ⟨rfl, rfl, rfl, by decide +kernel, rfl, by decide +kernel, by decide +kernel⟩
theorem ok_law_way (T : Tx P w K mg base c) (D : GD K mg "_law_way" s_law_way ["draw", "peak"]) (G__law_pick : Own P w K mg base c 4 "_law_pick" F_law_pick) (G__law_take : Own P w K mg base c 3 "_law_take" oTake) : Own P w K mg base c 5 "_law_way" F_law_way :=
  own_ev D sc_law_way fun f cdv A outer s H E hid hr px =>
    have nd : (n_law_way).Nodup := sc_law_way.nd;
     (ess_one (es_ret (ev_disp (epp_cons ev_str (ev_pure G__law_pick.at (hr.mono (by decide)) px (ea_cons (ev_var 0) (ea_cons (ev_lstF mk_fz (ea_cons ev_str (ea_cons ev_str (ea_cons ev_str ea_nil)))) ea_nil))) (epp_cons ev_str (ev_own G__law_take.at (hr.mono (by decide)) px (ea_cons (ev_var 0) (ea_cons (ev_op opr_add (op_addAll mk_fz) (ev_var 1) ev_int) ea_nil))) (epp_cons ev_str (ev_own G__law_take.at (hr.mono (by decide)) px (ea_cons (ev_var 0) (ea_cons (ev_op opr_add (op_addAll mk_fz) (ev_var 1) ev_int) ea_nil))) (epp_cons ev_str (ev_own G__law_take.at (hr.mono (by decide)) px (ea_cons (ev_var 0) (ea_cons ev_int ea_nil))) (epp_cons ev_str (ev_own G__law_take.at (hr.mono (by decide)) px (ea_cons (ev_var 0) (ea_cons (ev_op opr_add (op_addAll mk_fz) (ev_var 1) ev_int) ea_nil))) epp_nil))))))))
abbrev n_law_home : List Str := ["draw", "space", "peak", "most", "found"]
def b_law_home : Sg → M Out :=
  (sSeq (sSet 3 (f2 (oAdd mkFz) (fC (.int 1)) (fN oTake (fCons (fVar 0) (fCons (fC (.int 3)) fNil)))))
  (sSeq (sSet 4 (fDisp (fPCons (fC (.str "way")) (fN F_law_way (fCons (fVar 0) (fCons (fVar 2) fNil))) (fPCons (fC (.str "room")) (f2 (oAdd mkFz) (fC (.int 1)) (fN oTake (fCons (fVar 0) (fCons (fVar 1) fNil)))) (fPCons (fC (.str "top")) (fN oTake (fCons (fVar 0) (fCons (fC (.int 3)) fNil))) fPNil)))))
  (sSeq (sAsg (fN mkTup (fCons (f2 (oAdd mkFz) (fC (.int 1)) (fN oTake (fCons (fVar 0) (fCons (fC (.int 2)) fNil)))) (fCons (f2 (cmpV (pEq fun b => b)) (fN oTake (fCons (fVar 0) (fCons (fC (.int 2)) fNil))) (fC (.int 0))) fNil))) (gTupF 2 (gAnd (gSub (fVar 4) (fC (.str "many"))) (gAnd (gSub (fVar 4) (fC (.str "goes"))) gEnd))))
  (sSeq (sAsg (fN mkTup (fCons (f2 (oAdd mkFz) (fC (.int 1)) (fN oTake (fCons (fVar 0) (fCons (fVar 3) fNil)))) (fCons (fVar 3) fNil))) (gSub (fVar 4) (fC (.str "lag"))))
  (sRet (fVar 4))))))
def F_law_home : List D → M D := mkF 3 5 b_law_home
abbrev s_law_home : Stmt := topS 58
theorem sc_law_home : FnScope n_law_home ["draw", "space", "peak"] (defScope s_law_home) := ⟨rfl, rfl, rfl, by decide +kernel, rfl, by decide +kernel, by decide +kernel⟩
theorem ok_law_home (T : Tx P w K mg base c) (D : GD K mg "_law_home" s_law_home ["draw", "space", "peak"]) (G__law_take : Own P w K mg base c 3 "_law_take" oTake) (G__law_way : Own P w K mg base c 5 "_law_way" F_law_way) : Own P w K mg base c 6 "_law_home" F_law_home :=
  own_ev D sc_law_home fun f cdv A outer s H E hid hr px =>
    have nd : (n_law_home).Nodup := sc_law_home.nd;
     (ess_cons (es_set 3 nd (ev_op opr_add (op_addAll mk_fz) ev_int (ev_own G__law_take.at (hr.mono (by decide)) px (ea_cons (ev_var 0) (ea_cons ev_int ea_nil)))))
      (ess_cons (es_set 4 nd (ev_disp (epp_cons ev_str (ev_own G__law_way.at (hr.mono (by decide)) px (ea_cons (ev_var 0) (ea_cons (ev_var 2) ea_nil))) (epp_cons ev_str (ev_op opr_add (op_addAll mk_fz) ev_int (ev_own G__law_take.at (hr.mono (by decide)) px (ea_cons (ev_var 0) (ea_cons (ev_var 1) ea_nil)))) (epp_cons ev_str (ev_own G__law_take.at (hr.mono (by decide)) px (ea_cons (ev_var 0) (ea_cons ev_int ea_nil))) epp_nil)))))
      (ess_cons (es_asg [] (ev_tup (ea_cons (ev_op opr_add (op_addAll mk_fz) ev_int (ev_own G__law_take.at (hr.mono (by decide)) px (ea_cons (ev_var 0) (ea_cons ev_int ea_nil)))) (ea_cons (ev_cmp (op_eqD hr.units) cmp_eq (ev_own G__law_take.at (hr.mono (by decide)) px (ea_cons (ev_var 0) (ea_cons ev_int ea_nil))) ev_int) ea_nil))) (eg_tup (egs_cons (eg_sub (units1 hr) (ev_var 4) ev_str) (egs_cons (eg_sub (units1 hr) (ev_var 4) ev_str) egs_nil))))
      (ess_cons (es_asg [] (ev_tup (ea_cons (ev_op opr_add (op_addAll mk_fz) ev_int (ev_own G__law_take.at (hr.mono (by decide)) px (ea_cons (ev_var 0) (ea_cons (ev_var 3) ea_nil)))) (ea_cons (ev_var 3) ea_nil))) (eg_sub (units1 hr) (ev_var 4) ev_str))
      (ess_one (es_ret (ev_var 4)))))))
abbrev sis_number : Stmt := topS 12
theorem scis_number : FnScope nis_number ["value"] (defScope sis_number) := ⟨rfl, rfl, rfl, by decide +kernel, rfl, by decide +kernel, by decide +kernel⟩
theorem okis_number (T : Tx P w K mg base c) (D : GD K mg "is_number" sis_number ["value"]) : Own P w K mg base c 1 "is_number" Fis_number :=
  own_ev D scis_number fun f cdv A outer s H E hid hr px =>
    have nd : (nis_number).Nodup := scis_number.nd;
     (ess_one (es_ret (ev_and (ev_isi .int T.F.at kit_int T.m_isinstance (ev_var 0) (pe_bltn (by rfl) T.m_int boot_int rfl)) (ev_one (ev_not (ev_isi .bl T.F.at kit_bl T.m_isinstance (ev_var 0) (pe_bltn (by rfl) T.m_bool boot_bool rfl)))))))
abbrev sis_number_within : Stmt := topS 13
theorem scis_number_within : FnScope nis_number_within ["value", "least", "most"] (defScope sis_number_within) := ⟨rfl, rfl, rfl, by decide +kernel, rfl, by decide +kernel, by decide +kernel⟩
theorem okis_number_within (T : Tx P w K mg base c) (D : GD K mg "is_number_within" sis_number_within ["value", "least", "most"]) (G_is_number : Own P w K mg base c 1 "is_number" Fis_number) : Own P w K mg base c 2 "is_number_within" Fis_number_within :=
  own_ev D scis_number_within fun f cdv A outer s H E hid hr px =>
    have nd : (nis_number_within).Nodup := scis_number_within.nd;
     (ess_one (es_ret (ev_and (ev_pure G_is_number.at (hr.mono (by decide)) px (ea_cons (ev_var 0) ea_nil)) (ev_one (ev_chain op_le op_le cmp_int cmp_int (ev_var 1) (ev_var 0) (ev_var 2))))))
abbrev sis_lag : Stmt := topS 21
theorem scis_lag : FnScope nis_lag ["value"] (defScope sis_lag) := ⟨rfl, rfl, rfl, by decide +kernel, rfl, by decide +kernel, by decide +kernel⟩
theorem okis_lag (T : Tx P w K mg base c) (D : GD K mg "is_lag" sis_lag ["value"]) (G_is_number_within : Own P w K mg base c 2 "is_number_within" Fis_number_within) : Own P w K mg base c 3 "is_lag" Fis_lag :=
  own_ev D scis_lag fun f cdv A outer s H E hid hr px =>
    have nd : (nis_lag).Nodup := scis_lag.nd;
     (ess_cons (es_if (ew_t (ew_or (et_not (et_val (ev_isi .tup T.F.at kit_tup T.m_isinstance (ev_var 0) (pe_bltn (by rfl) T.m_tuple boot_tuple rfl)))) (ew_or1 (et_cmp (op_neD hr.units) cmp_ne (ev_blt callr_len op_lenA T.m_len PySem.boot_len (ea_cons (ev_var 0) ea_nil)) ev_int)))) (ess_one (es_ret ev_bl)) ess_nil)
      (ess_cons (es_asg [1, 2] (ev_var 0) (eg_tup (egs_cons (eg_set 1 nd) (egs_cons (eg_set 2 nd) egs_nil))))
      (ess_one (es_ret (ev_and (ev_pure G_is_number_within.at (hr.mono (by decide)) px (ea_cons (ev_var 2) (ea_cons ev_int (ea_cons (ev_const T.c_GREATEST_LAG) ea_nil)))) (ev_one (ev_pure G_is_number_within.at (hr.mono (by decide)) px (ea_cons (ev_var 1) (ea_cons ev_int (ea_cons (ev_var 2) ea_nil))))))))))
abbrev sIHouse : Stmt := inClass (topS 22) 0
theorem scIHouse : FnScope nIHouse ["self", "rule", "room", "top", "many", "goes", "lag"] (defScope sIHouse) := ⟨rfl, rfl, rfl, by decide +kernel, rfl, by decide +kernel, by decide +kernel⟩
theorem okIHouse (T : Tx P w K mg base c) (D : GI K mg (c.cA 1) "House" "House.__init__" sIHouse ["self", "rule", "room", "top", "many", "goes", "lag"]) (G_is_number_within : Own P w K mg base c 2 "is_number_within" Fis_number_within) (G_is_lag : Own P w K mg base c 3 "is_lag" Fis_lag) : OwnI P w K mg base c 4 "House" 1 IHouse :=
  ownI_ev D scIHouse fun f cdv A outer s H E hid hr px =>
    have nd : (nIHouse).Nodup := scIHouse.nd;
     (ess_cons (es_if (et_not (et_val (ev_isi (.cls 0) T.F.at T.kit0.at T.m_isinstance (ev_var 1) (pe_glob (by rfl) T.g0 rfl)))) (ess_one es_bad) ess_nil)
      (ess_cons (es_if (et_not (et_val (ev_pure G_is_number_within.at (hr.mono (by decide)) px (ea_cons (ev_var 2) (ea_cons ev_int (ea_cons (ev_const T.c_MOST_ROOM) ea_nil)))))) (ess_one es_bad) ess_nil)
      (ess_cons (es_if (et_not (et_val (ev_pure G_is_number_within.at (hr.mono (by decide)) px (ea_cons (ev_var 3) (ea_cons ev_int (ea_cons (ev_const T.c_GREATEST_RANK) ea_nil)))))) (ess_one es_bad) ess_nil)
      (ess_cons (es_if (et_not (et_val (ev_pure G_is_number_within.at (hr.mono (by decide)) px (ea_cons (ev_var 4) (ea_cons ev_int (ea_cons (ev_const T.c_MOST_WAITING) ea_nil)))))) (ess_one es_bad) ess_nil)
      (ess_cons (es_if (et_not (et_val (ev_isi .bl T.F.at kit_bl T.m_isinstance (ev_var 5) (pe_bltn (by rfl) T.m_bool boot_bool rfl)))) (ess_one es_bad) ess_nil)
      (ess_cons (es_if (et_not (et_val (ev_pure G_is_lag.at (hr.mono (by decide)) px (ea_cons (ev_var 6) ea_nil)))) (ess_one es_bad) ess_nil)
      (ess_cons (es_fld 1 0 T.F.at (T.f1 0) T.n_rule (ev_var 0) (ev_var 1))
      (ess_cons (es_fld 1 1 T.F.at (T.f1 1) T.n_room (ev_var 0) (ev_var 2))
      (ess_cons (es_fld 1 2 T.F.at (T.f1 2) T.n_top (ev_var 0) (ev_var 3))
      (ess_cons (es_fld 1 3 T.F.at (T.f1 3) T.n_many (ev_var 0) (ev_var 4))
      (ess_cons (es_fld 1 4 T.F.at (T.f1 4) T.n_goes (ev_var 0) (ev_var 5))
      (ess_one (es_fld 1 5 T.F.at (T.f1 5) T.n_lag (ev_var 0) (ev_var 6))))))))))))))
abbrev sis_one_of : Stmt := topS 14
theorem scis_one_of : FnScope nis_one_of ["value", "texts"] (defScope sis_one_of) := ⟨rfl, rfl, rfl, by decide +kernel, rfl, by decide +kernel, by decide +kernel⟩
theorem okis_one_of (T : Tx P w K mg base c) (D : GD K mg "is_one_of" sis_one_of ["value", "texts"]) : Own P w K mg base c 1 "is_one_of" Fis_one_of :=
  own_ev D scis_one_of fun f cdv A outer s H E hid hr px =>
    have nd : (nis_one_of).Nodup := scis_one_of.nd;
     (ess_one (es_ret (ev_and (ev_isi .str T.F.at kit_str T.m_isinstance (ev_var 0) (pe_bltn (by rfl) T.m_str boot_str rfl)) (ev_one (ev_cmp (opr_in (units65 hr)) cmp_inA (ev_var 0) (ev_var 1))))))
abbrev sIRule : Stmt := inClass (topS 15) 0
theorem scIRule : FnScope nIRule ["self", "way", "still", "hold", "pins", "guard"] (defScope sIRule) := ⟨rfl, rfl, rfl, by decide +kernel, rfl, by decide +kernel, by decide +kernel⟩
theorem okIRule (T : Tx P w K mg base c) (D : GI K mg (c.cA 0) "Rule" "Rule.__init__" sIRule ["self", "way", "still", "hold", "pins", "guard"]) (G_is_one_of : Own P w K mg base c 1 "is_one_of" Fis_one_of) (G_is_number_within : Own P w K mg base c 2 "is_number_within" Fis_number_within) : OwnI P w K mg base c 3 "Rule" 0 IRule :=
  ownI_ev D scIRule fun f cdv A outer s H E hid hr px =>
    have nd : (nIRule).Nodup := scIRule.nd;
     (ess_cons (es_if (et_not (et_val (ev_pure G_is_one_of.at (hr.mono (by decide)) px (ea_cons (ev_var 1) (ea_cons (ev_const T.c_WAYS) ea_nil))))) (ess_one es_bad) ess_nil)
      (ess_cons (es_if (et_not (et_val (ev_pure G_is_number_within.at (hr.mono (by decide)) px (ea_cons (ev_var 2) (ea_cons ev_int (ea_cons (ev_const T.c_MOST_TICKS) ea_nil)))))) (ess_one es_bad) ess_nil)
      (ess_cons (es_if (et_not (et_val (ev_pure G_is_number_within.at (hr.mono (by decide)) px (ea_cons (ev_var 3) (ea_cons ev_int (ea_cons (ev_const T.c_MOST_TICKS) ea_nil)))))) (ess_one es_bad) ess_nil)
      (ess_cons (es_if (et_not (et_val (ev_pure G_is_number_within.at (hr.mono (by decide)) px (ea_cons (ev_var 4) (ea_cons ev_int (ea_cons (ev_const T.c_MOST_PINS) ea_nil)))))) (ess_one es_bad) ess_nil)
      (ess_cons (es_if (et_not (et_val (ev_pure G_is_number_within.at (hr.mono (by decide)) px (ea_cons (ev_var 5) (ea_cons ev_int (ea_cons (ev_const T.c_MOST_TICKS) ea_nil)))))) (ess_one es_bad) ess_nil)
      (ess_cons (es_fld 0 0 T.F.at (T.f0 0) T.n_way (ev_var 0) (ev_var 1))
      (ess_cons (es_fld 0 1 T.F.at (T.f0 1) T.n_still (ev_var 0) (ev_var 2))
      (ess_cons (es_fld 0 2 T.F.at (T.f0 2) T.n_hold (ev_var 0) (ev_var 3))
      (ess_cons (es_fld 0 3 T.F.at (T.f0 3) T.n_pins (ev_var 0) (ev_var 4))
      (ess_one (es_fld 0 4 T.F.at (T.f0 4) T.n_guard (ev_var 0) (ev_var 5))))))))))))
abbrev n_law_rule : List Str := ["mode"]
def b_law_rule : Sg → M Out :=
  (sRet (fN (oMk 0 5 IRule) (fCons (f2 oGet (fVar 0) (fC (.str "way"))) (fCons (f2 oGet (fVar 0) (fC (.str "still"))) (fCons (f2 oGet (fVar 0) (fC (.str "hold"))) (fCons (f2 oGet (fVar 0) (fC (.str "pins"))) (fCons (f2 oGet (fVar 0) (fC (.str "guard"))) fNil)))))))
def F_law_rule : List D → M D := mkF 1 1 b_law_rule
abbrev s_law_rule : Stmt := topS 57
theorem sc_law_rule : FnScope n_law_rule ["mode"] (defScope s_law_rule) := ⟨rfl, rfl, rfl, by decide +kernel, rfl, by decide +kernel, by decide +kernel⟩
theorem ok_law_rule (T : Tx P w K mg base c) (D : GD K mg "_law_rule" s_law_rule ["mode"]) (I_Rule : OwnI P w K mg base c 3 "Rule" 0 IRule) : Own P w K mg base c 5 "_law_rule" F_law_rule :=
  own_ev D sc_law_rule fun f cdv A outer s H E hid hr px =>
    have nd : (n_law_rule).Nodup := sc_law_rule.nd;
     (ess_one (es_ret (ev_mk T.k0 I_Rule.at (hr.mono (by decide)) px (ea_cons (ev_get (units1 hr) (ev_var 0) ev_str) (ea_cons (ev_get (units1 hr) (ev_var 0) ev_str) (ea_cons (ev_get (units1 hr) (ev_var 0) ev_str) (ea_cons (ev_get (units1 hr) (ev_var 0) ev_str) (ea_cons (ev_get (units1 hr) (ev_var 0) ev_str) ea_nil))))))))
abbrev n_law_house : List Str := ["home"]
def b_law_house : Sg → M Out :=
  (sRet (fN (oMk 1 6 IHouse) (fCons (fN (oPure F_law_rule) (fCons (f2 oGet (fVar 0) (fC (.str "way"))) fNil)) (fCons (f2 oGet (fVar 0) (fC (.str "room"))) (fCons (f2 oGet (fVar 0) (fC (.str "top"))) (fCons (f2 oGet (fVar 0) (fC (.str "many"))) (fCons (f2 oGet (fVar 0) (fC (.str "goes"))) (fCons (f2 oGet (fVar 0) (fC (.str "lag"))) fNil))))))))
def F_law_house : List D → M D := mkF 1 1 b_law_house
abbrev s_law_house : Stmt := topS 59
theorem sc_law_house : FnScope n_law_house ["home"] (defScope s_law_house) := ⟨rfl, rfl, rfl, by decide +kernel, rfl, by decide +kernel, by decide +kernel⟩
theorem ok_law_house (T : Tx P w K mg base c) (D : GD K mg "_law_house" s_law_house ["home"]) (I_House : OwnI P w K mg base c 4 "House" 1 IHouse) (G__law_rule : Own P w K mg base c 5 "_law_rule" F_law_rule) : Own P w K mg base c 6 "_law_house" F_law_house :=
  own_ev D sc_law_house fun f cdv A outer s H E hid hr px =>
    have nd : (n_law_house).Nodup := sc_law_house.nd;
     (ess_one (es_ret (ev_mk T.k1 I_House.at (hr.mono (by decide)) px (ea_cons (ev_pure G__law_rule.at (hr.mono (by decide)) px (ea_cons (ev_get (units1 hr) (ev_var 0) ev_str) ea_nil)) (ea_cons (ev_get (units1 hr) (ev_var 0) ev_str) (ea_cons (ev_get (units1 hr) (ev_var 0) ev_str) (ea_cons (ev_get (units1 hr) (ev_var 0) ev_str) (ea_cons (ev_get (units1 hr) (ev_var 0) ev_str) (ea_cons (ev_get (units1 hr) (ev_var 0) ev_str) ea_nil)))))))))
abbrev scheck_house : Stmt := topS 23
theorem sccheck_house : FnScope ncheck_house ["value", "part"] (defScope scheck_house) := ⟨rfl, rfl, rfl, by decide +kernel, rfl, by decide +kernel, by decide +kernel⟩
theorem okcheck_house (T : Tx P w K mg base c) (D : GDD K mg "check_house" scheck_house ["value", "part"] [(.str "house")]) : OwnD P w K mg base c 1 "check_house" Fcheck_house [(.str "house")] :=
  ownD_ev D sccheck_house fun f cdv A outer s H E hid hr px =>
    have nd : (ncheck_house).Nodup := sccheck_house.nd;
     (ess_one (es_if (et_not (et_val (ev_isi (.cls 1) T.F.at T.kit1.at T.m_isinstance (ev_var 0) (pe_glob (by rfl) T.g1 rfl)))) (ess_one es_bad) ess_nil))
abbrev sfirst_standing : Stmt := topS 32
theorem scfirst_standing : FnScope nfirst_standing ["house"] (defScope sfirst_standing) := ⟨rfl, rfl, rfl, by decide +kernel, rfl, by decide +kernel, by decide +kernel⟩
theorem okfirst_standing (T : Tx P w K mg base c) (D : GD K mg "first_standing" sfirst_standing ["house"]) (G_check_house : OwnD P w K mg base c 1 "check_house" Fcheck_house [(.str "house")]) : Own P w K mg base c 3 "first_standing" Ffirst_standing :=
  own_ev D scfirst_standing fun f cdv A outer s H E hid hr px =>
    have nd : (nfirst_standing).Nodup := scfirst_standing.nd;
     (ess_cons (es_expr (ev_pureD G_check_house.at (hr.mono (by decide)) px (ea_cons (ev_var 0) ea_nil)))
      (ess_one (es_ret (ev_tup (ea_cons (ev_tup ea_nil) (ea_cons (ev_tup ea_nil) (ea_cons (ev_prop 0 1 T.F.at (T.f0 1) T.k0 T.q_still (hr.mono (by decide)) (ev_prop 1 0 T.F.at (T.f1 0) T.k1 T.q_rule (hr.mono (by decide)) (ev_var 0))) (ea_cons (ev_tup ea_nil) ea_nil))))))))
abbrev sare_ranks : Stmt := topS 27
theorem scare_ranks : FnScope nare_ranks ["house", "thing", "most"] (defScope sare_ranks) := ⟨rfl, rfl, rfl, by decide +kernel, rfl, by decide +kernel, by decide +kernel⟩
theorem okare_ranks (T : Tx P w K mg base c) (D : GD K mg "are_ranks" sare_ranks ["house", "thing", "most"]) (G_is_number_within : Own P w K mg base c 2 "is_number_within" Fis_number_within) : Own P w K mg base c 3 "are_ranks" Fare_ranks :=
  own_ev D scare_ranks fun f cdv A outer s H E hid hr px =>
    have nd : (nare_ranks).Nodup := scare_ranks.nd;
     (ess_cons (es_if (ew_t (ew_or (et_not (et_val (ev_isi .tup T.F.at kit_tup T.m_isinstance (ev_var 1) (pe_bltn (by rfl) T.m_tuple boot_tuple rfl)))) (ew_or1 (et_cmp op_gt cmp_int (ev_blt callr_len op_lenA T.m_len PySem.boot_len (ea_cons (ev_var 1) ea_nil)) (ev_var 2))))) (ess_one (es_ret ev_bl)) ess_nil)
      (ess_one (es_ret (ev_blt (cr_all rfl) op_bls T.m_all (by decide +kernel) (ea_cons (ev_lc [("rank", 3)] nd (blkOk_by (N := nare_ranks) (sc := defScope sare_ranks) (by decide +kernel)) (ei_seq (ev_var 1)) (fun _ _ _ _ _ _ => (eg_set 3 nd)) (fun _ _ _ _ _ _ => ets_nil) (fun _ _ _ _ _ _ => (ev_pure G_is_number_within.at (hr.mono (by decide)) pass_EF (ea_cons (ev_var 3) (ea_cons ev_int (ea_cons (ev_prop 1 2 T.F.at (T.f1 2) T.k1 T.q_top (hr.mono (by decide)) (ev_var 0)) ea_nil)))))) ea_nil)))))
abbrev sis_look : Stmt := topS 29
theorem scis_look : FnScope nis_look ["house", "thing", "many"] (defScope sis_look) := ⟨rfl, rfl, rfl, by decide +kernel, rfl, by decide +kernel, by decide +kernel⟩
theorem okis_look (T : Tx P w K mg base c) (D : GD K mg "is_look" sis_look ["house", "thing", "many"]) (G_is_number_within : Own P w K mg base c 2 "is_number_within" Fis_number_within) : Own P w K mg base c 3 "is_look" Fis_look :=
  own_ev D scis_look fun f cdv A outer s H E hid hr px =>
    have nd : (nis_look).Nodup := scis_look.nd;
     (ess_cons (es_if (ew_t (ew_or (et_not (et_val (ev_isi .tup T.F.at kit_tup T.m_isinstance (ev_var 1) (pe_bltn (by rfl) T.m_tuple boot_tuple rfl)))) (ew_or1 (et_cmp (opr_notIn (units65 hr)) cmp_notInA (ev_blt callr_len op_lenA T.m_len PySem.boot_len (ea_cons (ev_var 1) ea_nil)) (ev_tup (ea_cons ev_int (ea_cons ev_int ea_nil))))))) (ess_one (es_ret ev_bl)) ess_nil)
      (ess_cons (es_if (et_cmp (op_eqD hr.units) cmp_eq (ev_var 1) (ev_tup ea_nil)) (ess_one (es_ret ev_bl)) ess_nil)
      (ess_cons (es_asg [3, 4, 5] (ev_var 1) (eg_tup (egs_cons (eg_set 3 nd) (egs_cons (eg_set 4 nd) (egs_cons (eg_set 5 nd) egs_nil)))))
      (ess_one (es_ret (ev_and (ev_pure G_is_number_within.at (hr.mono (by decide)) px (ea_cons (ev_var 3) (ea_cons ev_int (ea_cons (ev_op op_sub op_I0 (ev_get (units1 hr) (ev_prop 1 5 T.F.at (T.f1 5) T.k1 T.q_lag (hr.mono (by decide)) (ev_var 0)) ev_int) ev_int) ea_nil)))) (ev_and (ev_pure G_is_number_within.at (hr.mono (by decide)) px (ea_cons (ev_var 4) (ea_cons ev_int (ea_cons (ev_op op_sub op_I0 (ev_prop 1 1 T.F.at (T.f1 1) T.k1 T.q_room (hr.mono (by decide)) (ev_var 0)) ev_int) ea_nil)))) (ev_one (ev_pure G_is_number_within.at (hr.mono (by decide)) px (ea_cons (ev_var 5) (ea_cons (ev_un un_neg op_neg ev_int) (ea_cons (ev_op op_sub op_I0 (ev_var 2) ev_int) ea_nil))))))))))))
abbrev sis_item : Stmt := topS 28
theorem scis_item : FnScope nis_item ["house", "thing"] (defScope sis_item) := ⟨rfl, rfl, rfl, by decide +kernel, rfl, by decide +kernel, by decide +kernel⟩
theorem okis_item (T : Tx P w K mg base c) (D : GD K mg "is_item" sis_item ["house", "thing"]) (G_is_number_within : Own P w K mg base c 2 "is_number_within" Fis_number_within) : Own P w K mg base c 3 "is_item" Fis_item :=
  own_ev D scis_item fun f cdv A outer s H E hid hr px =>
    have nd : (nis_item).Nodup := scis_item.nd;
     (ess_cons (es_if (ew_t (ew_or (et_not (et_val (ev_isi .tup T.F.at kit_tup T.m_isinstance (ev_var 1) (pe_bltn (by rfl) T.m_tuple boot_tuple rfl)))) (ew_or1 (et_cmp (op_neD hr.units) cmp_ne (ev_blt callr_len op_lenA T.m_len PySem.boot_len (ea_cons (ev_var 1) ea_nil)) ev_int)))) (ess_one (es_ret ev_bl)) ess_nil)
      (ess_cons (es_asg [2, 3, 4] (ev_var 1) (eg_tup (egs_cons (eg_set 2 nd) (egs_cons (eg_set 3 nd) (egs_cons (eg_set 4 nd) egs_nil)))))
      (ess_cons (es_if (ew_t (ew_or (et_not (et_val (ev_isi .bl T.F.at kit_bl T.m_isinstance (ev_var 3) (pe_bltn (by rfl) T.m_bool boot_bool rfl)))) (ew_or1 (ew_t (ew_and (et_val (ev_var 3)) (ew_and1 (et_not (et_val (ev_prop 1 4 T.F.at (T.f1 4) T.k1 T.q_goes (hr.mono (by decide)) (ev_var 0)))))))))) (ess_one (es_ret ev_bl)) ess_nil)
      (ess_one (es_ret (ev_and (ev_pure G_is_number_within.at (hr.mono (by decide)) px (ea_cons (ev_var 2) (ea_cons ev_int (ea_cons (ev_prop 1 2 T.F.at (T.f1 2) T.k1 T.q_top (hr.mono (by decide)) (ev_var 0)) ea_nil)))) (ev_one (ev_pure G_is_number_within.at (hr.mono (by decide)) px (ea_cons (ev_var 4) (ea_cons ev_int (ea_cons (ev_prop 0 4 T.F.at (T.f0 4) T.k0 T.q_guard (hr.mono (by decide)) (ev_prop 1 0 T.F.at (T.f1 0) T.k1 T.q_rule (hr.mono (by decide)) (ev_var 0))) ea_nil)))))))))))
abbrev sis_standing : Stmt := topS 30
theorem scis_standing : FnScope nis_standing ["house", "thing"] (defScope sis_standing) := ⟨rfl, rfl, rfl, by decide +kernel, rfl, by decide +kernel, by decide +kernel⟩
theorem okis_standing (T : Tx P w K mg base c) (D : GD K mg "is_standing" sis_standing ["house", "thing"]) (G_check_house : OwnD P w K mg base c 1 "check_house" Fcheck_house [(.str "house")]) (G_is_item : Own P w K mg base c 3 "is_item" Fis_item) (G_are_ranks : Own P w K mg base c 3 "are_ranks" Fare_ranks) (G_is_number_within : Own P w K mg base c 2 "is_number_within" Fis_number_within) (G_is_look : Own P w K mg base c 3 "is_look" Fis_look) : Own P w K mg base c 4 "is_standing" Fis_standing :=
  own_ev D scis_standing fun f cdv A outer s H E hid hr px =>
    have nd : (nis_standing).Nodup := scis_standing.nd;
     (ess_cons (es_expr (ev_pureD G_check_house.at (hr.mono (by decide)) px (ea_cons (ev_var 0) ea_nil)))
      (ess_cons (es_if (ew_t (ew_or (et_not (et_val (ev_isi .tup T.F.at kit_tup T.m_isinstance (ev_var 1) (pe_bltn (by rfl) T.m_tuple boot_tuple rfl)))) (ew_or1 (et_cmp (op_neD hr.units) cmp_ne (ev_blt callr_len op_lenA T.m_len PySem.boot_len (ea_cons (ev_var 1) ea_nil)) ev_int)))) (ess_one (es_ret ev_bl)) ess_nil)
      (ess_cons (es_asg [2, 3, 4, 5] (ev_var 1) (eg_tup (egs_cons (eg_set 2 nd) (egs_cons (eg_set 3 nd) (egs_cons (eg_set 4 nd) (egs_cons (eg_set 5 nd) egs_nil))))))
      (ess_cons (es_if (ew_t (ew_or (et_not (et_val (ev_isi .tup T.F.at kit_tup T.m_isinstance (ev_var 2) (pe_bltn (by rfl) T.m_tuple boot_tuple rfl)))) (ew_or1 (et_cmp op_gt cmp_int (ev_blt callr_len op_lenA T.m_len PySem.boot_len (ea_cons (ev_var 2) ea_nil)) (ev_prop 1 1 T.F.at (T.f1 1) T.k1 T.q_room (hr.mono (by decide)) (ev_var 0)))))) (ess_one (es_ret ev_bl)) ess_nil)
      (ess_one (es_ret (ev_and (ev_blt (cr_all rfl) op_bls T.m_all (by decide +kernel) (ea_cons (ev_lc [("item", 6)] nd (blkOk_by (N := nis_standing) (sc := defScope sis_standing) (by decide +kernel)) (ei_seq (ev_var 2)) (fun _ _ _ _ _ _ => (eg_set 6 nd)) (fun _ _ _ _ _ _ => ets_nil) (fun _ _ _ _ _ _ => (ev_pure G_is_item.at (hr.mono (by decide)) pass_EF (ea_cons (ev_var 0) (ea_cons (ev_var 6) ea_nil))))) ea_nil)) (ev_and (ev_pure G_are_ranks.at (hr.mono (by decide)) px (ea_cons (ev_var 0) (ea_cons (ev_var 3) (ea_cons (ev_prop 1 3 T.F.at (T.f1 3) T.k1 T.q_many (hr.mono (by decide)) (ev_var 0)) ea_nil)))) (ev_and (ev_pure G_is_number_within.at (hr.mono (by decide)) px (ea_cons (ev_var 4) (ea_cons ev_int (ea_cons (ev_prop 0 1 T.F.at (T.f0 1) T.k0 T.q_still (hr.mono (by decide)) (ev_prop 1 0 T.F.at (T.f1 0) T.k1 T.q_rule (hr.mono (by decide)) (ev_var 0))) ea_nil)))) (ev_one (ev_pure G_is_look.at (hr.mono (by decide)) px (ea_cons (ev_var 0) (ea_cons (ev_var 5) (ea_cons (ev_blt callr_len op_lenA T.m_len PySem.boot_len (ea_cons (ev_var 2) ea_nil)) ea_nil))))))))))))))
abbrev scheck_standing : Stmt := topS 31
theorem sccheck_standing : FnScope ncheck_standing ["house", "standing"] (defScope scheck_standing) := ⟨rfl, rfl, rfl, by decide +kernel, rfl, by decide +kernel, by decide +kernel⟩
theorem okcheck_standing (T : Tx P w K mg base c) (D : GD K mg "check_standing" scheck_standing ["house", "standing"]) (G_is_standing : Own P w K mg base c 4 "is_standing" Fis_standing) : Own P w K mg base c 5 "check_standing" Fcheck_standing :=
  own_ev D sccheck_standing fun f cdv A outer s H E hid hr px =>
    have nd : (ncheck_standing).Nodup := sccheck_standing.nd;
     (ess_one (es_if (et_not (et_val (ev_pure G_is_standing.at (hr.mono (by decide)) px (ea_cons (ev_var 0) (ea_cons (ev_var 1) ea_nil))))) (ess_one es_bad) ess_nil))
abbrev schanges_at : Stmt := topS 33
theorem scchanges_at : FnScope nchanges_at ["house", "standing"] (defScope schanges_at) := ⟨rfl, rfl, rfl, by decide +kernel, rfl, by decide +kernel, by decide +kernel⟩
theorem okchanges_at (T : Tx P w K mg base c) (D : GD K mg "changes_at" schanges_at ["house", "standing"]) : Own P w K mg base c 3 "changes_at" Fchanges_at :=
  own_ev D scchanges_at fun f cdv A outer s H E hid hr px =>
    have nd : (nchanges_at).Nodup := scchanges_at.nd;
     (ess_cons (es_asg [2, 3] (ev_sl mk_fz (ev_var 1) eo_no (eo_some ev_int)) (eg_tup (egs_cons (eg_set 2 nd) (egs_cons (eg_set 3 nd) egs_nil))))
      (ess_cons (es_set 4 nd (ev_lstF mk_lst ea_nil))
      (ess_cons (es_if (et_cmp op_lt cmp_int (ev_blt callr_len op_lenA T.m_len PySem.boot_len (ea_cons (ev_var 3) ea_nil)) (ev_prop 1 3 T.F.at (T.f1 3) T.k1 T.q_many (hr.mono (by decide)) (ev_var 0))) (ess_one (es_aug 4 nd ip_ext op_ext (ev_lc [("rank", 5)] nd (blkOk_by (N := nchanges_at) (sc := defScope schanges_at) (by decide +kernel)) (ei_range T.m_range (ev_op opr_add (op_addAll mk_fz) (ev_prop 1 2 T.F.at (T.f1 2) T.k1 T.q_top (hr.mono (by decide)) (ev_var 0)) ev_int)) (fun _ _ _ _ _ _ => (eg_set 5 nd)) (fun _ _ _ _ _ _ => ets_nil) (fun _ _ _ _ _ _ => (ev_tup (ea_cons ev_str (ea_cons (ev_var 5) ea_nil))))))) ess_nil)
      (ess_cons (es_if (et_val (ev_prop 1 4 T.F.at (T.f1 4) T.k1 T.q_goes (hr.mono (by decide)) (ev_var 0))) (ess_one (es_aug 4 nd ip_ext op_ext (ev_lc [("place", 6), ("rank", 5), ("is_gone", 7), ("stood", 8)] nd (blkOk_by (N := nchanges_at) (sc := defScope schanges_at) (by decide +kernel)) (ei_enum T.m_enumerate (ev_var 2)) (fun _ _ _ _ _ _ => (eg_tup (egs_cons (eg_set 6 nd) (egs_cons (eg_tup (egs_cons (eg_set 5 nd) (egs_cons (eg_set 7 nd) (egs_cons (eg_set 8 nd) egs_nil)))) egs_nil)))) (fun _ _ _ _ _ _ => (ets_one (et_not (et_val (ev_var 7))))) (fun _ _ _ _ _ _ => (ev_tup (ea_cons ev_str (ea_cons (ev_var 6) ea_nil))))))) ess_nil)
      (ess_one (es_ret (ev_op opr_add (op_addAll mk_fz) (ev_var 4) (ev_lstF mk_fz (ea_cons (ev_const T.c_NOTHING) ea_nil)))))))))
abbrev schanged : Stmt := topS 34
theorem scchanged : FnScope nchanged ["standing", "change"] (defScope schanged) := ⟨rfl, rfl, rfl, by decide +kernel, rfl, by decide +kernel, by decide +kernel⟩
theorem okchanged (T : Tx P w K mg base c) (D : GD K mg "changed" schanged ["standing", "change"]) : Own P w K mg base c 1 "changed" Fchanged :=
  own_ev D scchanged fun f cdv A outer s H E hid hr px =>
    have nd : (nchanged).Nodup := scchanged.nd;
     (ess_cons (es_asg [2, 3] (ev_sl mk_fz (ev_var 0) eo_no (eo_some ev_int)) (eg_tup (egs_cons (eg_set 2 nd) (egs_cons (eg_set 3 nd) egs_nil))))
      (ess_cons (es_if (et_cmp (op_eqD hr.units) cmp_eq (ev_get (units1 hr) (ev_var 1) ev_int) ev_str) (ess_one (es_ret (ev_tup (ea_cons (ev_var 2) (ea_cons (ev_op opr_add (op_addAll mk_fz) (ev_var 3) (ev_tup (ea_cons (ev_get (units1 hr) (ev_var 1) ev_int) ea_nil))) ea_nil))))) ess_nil)
      (ess_cons (es_if (et_cmp (op_eqD hr.units) cmp_eq (ev_get (units1 hr) (ev_var 1) ev_int) ev_str) (ess_cons (es_set 4 nd (ev_get (units1 hr) (ev_var 1) ev_int))
      (ess_cons (es_asg [5, 6, 7] (ev_get (units1 hr) (ev_var 2) (ev_var 4)) (eg_tup (egs_cons (eg_set 5 nd) (egs_cons (eg_set 6 nd) (egs_cons (eg_set 7 nd) egs_nil)))))
      (ess_one (es_ret (ev_tup (ea_cons (ev_op opr_add (op_addAll mk_fz) (ev_op opr_add (op_addAll mk_fz) (ev_sl mk_fz (ev_var 2) eo_no (eo_some (ev_var 4))) (ev_tup (ea_cons (ev_tup (ea_cons (ev_var 5) (ea_cons ev_bl (ea_cons (ev_var 7) ea_nil)))) ea_nil))) (ev_sl mk_fz (ev_var 2) (eo_some (ev_op opr_add (op_addAll mk_fz) (ev_var 4) ev_int)) eo_no)) (ea_cons (ev_var 3) ea_nil))))))) ess_nil)
      (ess_one (es_ret (ev_tup (ea_cons (ev_var 2) (ea_cons (ev_var 3) ea_nil))))))))
abbrev smust_draw : Stmt := topS 35
theorem scmust_draw : FnScope nmust_draw ["rule", "shown", "waiting", "quiet", "look"] (defScope smust_draw) := ⟨rfl, rfl, rfl, by decide +kernel, rfl, by decide +kernel, by decide +kernel⟩
theorem okmust_draw (T : Tx P w K mg base c) (D : GD K mg "must_draw" smust_draw ["rule", "shown", "waiting", "quiet", "look"]) : Own P w K mg base c 3 "must_draw" Fmust_draw :=
  own_ev D scmust_draw fun f cdv A outer s H E hid hr px =>
    have nd : (nmust_draw).Nodup := scmust_draw.nd;
     (ess_cons (es_if (ew_t (ew_or (et_cmp op_lt cmp_int (ev_var 3) (ev_prop 0 1 T.F.at (T.f0 1) T.k0 T.q_still (hr.mono (by decide)) (ev_var 0))) (ew_or1 (ew_t (ew_and (et_cmp (op_neD hr.units) cmp_ne (ev_var 4) (ev_tup ea_nil)) (ew_and1 (et_cmp op_lt cmp_int (ev_get (units1 hr) (ev_var 4) ev_int) (ev_prop 0 2 T.F.at (T.f0 2) T.k0 T.q_hold (hr.mono (by decide)) (ev_var 0))))))))) (ess_one (es_ret ev_bl)) ess_nil)
      (ess_one (es_ret (ev_or (ev_cmp (op_neD hr.units) cmp_ne (ev_var 2) (ev_tup ea_nil)) (ev_one (ev_blt (cr_any rfl) op_bls T.m_any (by decide +kernel) (ea_cons (ev_lc [("rank", 5), ("is_gone", 6), ("stood", 7)] nd (blkOk_by (N := nmust_draw) (sc := defScope smust_draw) (by decide +kernel)) (ei_seq (ev_var 1)) (fun _ _ _ _ _ _ => (eg_tup (egs_cons (eg_set 5 nd) (egs_cons (eg_set 6 nd) (egs_cons (eg_set 7 nd) egs_nil))))) (fun _ _ _ _ _ _ => ets_nil) (fun _ _ _ _ _ _ => (ev_var 6))) ea_nil)))))))
abbrev sundrawn_rows : Stmt := topS 38
theorem scundrawn_rows : FnScope nundrawn_rows ["shown"] (defScope sundrawn_rows) := ⟨rfl, rfl, rfl, by decide +kernel, rfl, by decide +kernel, by decide +kernel⟩
theorem okundrawn_rows (T : Tx P w K mg base c) (D : GD K mg "undrawn_rows" sundrawn_rows ["shown"]) : Own P w K mg base c 1 "undrawn_rows" Fundrawn_rows :=
  own_ev D scundrawn_rows fun f cdv A outer s H E hid hr px =>
    have nd : (nundrawn_rows).Nodup := scundrawn_rows.nd;
     (ess_one (es_ret (ev_lc [("place", 1), ("rank", 2), ("is_gone", 3), ("stood", 4)] nd (blkOk_by (N := nundrawn_rows) (sc := defScope sundrawn_rows) (by decide +kernel)) (ei_enum T.m_enumerate (ev_var 0)) (fun _ _ _ _ _ _ => (eg_tup (egs_cons (eg_set 1 nd) (egs_cons (eg_tup (egs_cons (eg_set 2 nd) (egs_cons (eg_set 3 nd) (egs_cons (eg_set 4 nd) egs_nil)))) egs_nil)))) (fun _ _ _ _ _ _ => ets_nil) (fun _ _ _ _ _ _ => (ev_tup (ea_cons (ev_var 2) (ea_cons (ev_var 3) (ea_cons (ev_var 1) ea_nil))))))))
abbrev splace_by_way : Stmt := topS 36
theorem scplace_by_way : FnScope nplace_by_way ["way", "ranks", "rank"] (defScope splace_by_way) := ⟨rfl, rfl, rfl, by decide +kernel, rfl, by decide +kernel, by decide +kernel⟩
theorem okplace_by_way (T : Tx P w K mg base c) (D : GD K mg "place_by_way" splace_by_way ["way", "ranks", "rank"]) : Own P w K mg base c 1 "place_by_way" Fplace_by_way :=
  own_ev D scplace_by_way fun f cdv A outer s H E hid hr px =>
    have nd : (nplace_by_way).Nodup := scplace_by_way.nd;
     (ess_cons (es_if (et_cmp (op_eqD hr.units) cmp_eq (ev_var 0) ev_str) (ess_one (es_ret ev_int)) ess_nil)
      (ess_cons (es_if (et_cmp (op_eqD hr.units) cmp_eq (ev_var 0) ev_str) (ess_one (es_for [3, 4] (ei_enum T.m_enumerate (ev_var 1)) (eg_tup (egs_cons (eg_set 3 nd) (egs_cons (eg_set 4 nd) egs_nil))) (ess_one (es_if (et_cmp op_gt cmp_int (ev_var 4) (ev_var 2)) (ess_one (es_ret (ev_var 3))) ess_nil)) (hp := own_body))) ess_nil)
      (ess_one (es_ret (ev_blt callr_len op_lenA T.m_len PySem.boot_len (ea_cons (ev_var 1) ea_nil))))))
abbrev splace_for : Stmt := topS 37
theorem scplace_for : FnScope nplace_for ["rule", "ranks", "rank"] (defScope splace_for) := ⟨rfl, rfl, rfl, by decide +kernel, rfl, by decide +kernel, by decide +kernel⟩
theorem okplace_for (T : Tx P w K mg base c) (D : GD K mg "place_for" splace_for ["rule", "ranks", "rank"]) (G_place_by_way : Own P w K mg base c 1 "place_by_way" Fplace_by_way) : Own P w K mg base c 3 "place_for" Fplace_for :=
  own_ev D scplace_for fun f cdv A outer s H E hid hr px =>
    have nd : (nplace_for).Nodup := scplace_for.nd;
     (ess_one (es_ret (ev_blt (call_max2 rfl) op_2I T.m_max (by decide +kernel) (ea_cons (ev_pure G_place_by_way.at (hr.mono (by decide)) px (ea_cons (ev_prop 0 0 T.F.at (T.f0 0) T.k0 T.q_way (hr.mono (by decide)) (ev_var 0)) (ea_cons (ev_var 1) (ea_cons (ev_var 2) ea_nil)))) (ea_cons (ev_blt (call_min2 rfl) op_2I T.m_min (by decide +kernel) (ea_cons (ev_prop 0 3 T.F.at (T.f0 3) T.k0 T.q_pins (hr.mono (by decide)) (ev_var 0)) (ea_cons (ev_blt callr_len op_lenA T.m_len PySem.boot_len (ea_cons (ev_var 1) ea_nil)) ea_nil))) ea_nil)))))
abbrev sdrawn_rows : Stmt := topS 39
theorem scdrawn_rows : FnScope ndrawn_rows ["house", "shown", "waiting"] (defScope sdrawn_rows) := ⟨rfl, rfl, rfl, by decide +kernel, rfl, by decide +kernel, by decide +kernel⟩
theorem okdrawn_rows (T : Tx P w K mg base c) (D : GD K mg "drawn_rows" sdrawn_rows ["house", "shown", "waiting"]) (G_undrawn_rows : Own P w K mg base c 1 "undrawn_rows" Fundrawn_rows) (G_place_for : Own P w K mg base c 3 "place_for" Fplace_for) : Own P w K mg base c 4 "drawn_rows" Fdrawn_rows :=
  own_ev D scdrawn_rows fun f cdv A outer s H E hid hr px =>
    have nd : (ndrawn_rows).Nodup := scdrawn_rows.nd;
     (ess_cons (es_setLcL 3 [("row", 5)] nd (blkOk_by (N := ndrawn_rows) (sc := defScope sdrawn_rows) (by decide +kernel)) (ei_seq (ev_pure G_undrawn_rows.at (hr.mono (by decide)) px (ea_cons (ev_var 1) ea_nil))) (fun _ _ _ _ _ _ => (eg_set 5 nd)) (fun _ _ _ _ _ _ => (ets_one (et_not (et_val (ev_get (units1 hr) (ev_var 5) ev_int))))) (fun _ _ _ _ _ _ => (ev_var 5)) (sw_true rfl rfl rfl (by decide +kernel)))
      (ess_cons (es_for [4] (ei_seq (ev_var 2)) (eg_set 4 nd) (ess_cons (es_expr (ev_meth PySem.F.plainAttrs_list PySem.F.slot_list_insert PySem.F.type_list_insert mt_insert op_insert (ev_var 3) (ea_cons (ev_pure G_place_for.at (hr.mono (by decide)) px (ea_cons (ev_prop 1 0 T.F.at (T.f1 0) T.k1 T.q_rule (hr.mono (by decide)) (ev_var 0)) (ea_cons (ev_lc [("row", 5)] nd (blkOk_by (N := ndrawn_rows) (sc := defScope sdrawn_rows) (by decide +kernel)) (ei_seq (ev_var 3)) (fun _ _ _ _ _ _ => (eg_set 5 nd)) (fun _ _ _ _ _ _ => ets_nil) (fun _ _ _ _ _ _ => (ev_get (units1 hr) (ev_var 5) ev_int))) (ea_cons (ev_var 4) ea_nil)))) (ea_cons (ev_tup (ea_cons (ev_var 4) (ea_cons ev_bl (ea_cons ev_non ea_nil)))) ea_nil))))
      (ess_one (es_set 3 nd (ev_sl mk_lst (ev_var 3) eo_no (eo_some (ev_prop 1 1 T.F.at (T.f1 1) T.k1 T.q_room (hr.mono (by decide)) (ev_var 0))))))) (hp := own_body))
      (ess_one (es_ret (ev_var 3)))))
abbrev sstood_on : Stmt := topS 40
theorem scstood_on : FnScope nstood_on ["rule", "shown", "rows"] (defScope sstood_on) := ⟨rfl, rfl, rfl, by decide +kernel, rfl, by decide +kernel, by decide +kernel⟩
theorem okstood_on (T : Tx P w K mg base c) (D : GD K mg "stood_on" sstood_on ["rule", "shown", "rows"]) : Own P w K mg base c 3 "stood_on" Fstood_on :=
  own_ev D scstood_on fun f cdv A outer s H E hid hr px =>
    have nd : (nstood_on).Nodup := scstood_on.nd;
     (ess_cons (es_set 3 nd (ev_lstF mk_lst ea_nil))
      (ess_cons (es_for [4, 5, 6, 7] (ei_enum T.m_enumerate (ev_var 2)) (eg_tup (egs_cons (eg_set 4 nd) (egs_cons (eg_tup (egs_cons (eg_set 5 nd) (egs_cons (eg_set 6 nd) (egs_cons (eg_set 7 nd) egs_nil)))) egs_nil))) (ess_cons (es_set 8 nd (ev_if (et_cmp (op_eqD hr.units) cmp_eq (ev_var 7) (ev_var 4)) (ev_blt (call_min2 rfl) op_2I T.m_min (by decide +kernel) (ea_cons (ev_op opr_add (op_addAll mk_fz) (ev_get (units1 hr) (ev_get (units1 hr) (ev_var 1) (ev_var 4)) ev_int) ev_int) (ea_cons (ev_prop 0 4 T.F.at (T.f0 4) T.k0 T.q_guard (hr.mono (by decide)) (ev_var 0)) ea_nil))) ev_int))
      (ess_one (es_expr (ev_meth PySem.F.plainAttrs_list PySem.F.slot_list_append PySem.F.type_list_append mt_append op_append (ev_var 3) (ea_cons (ev_tup (ea_cons (ev_var 5) (ea_cons (ev_var 6) (ea_cons (ev_var 8) ea_nil)))) ea_nil))))) (hp := own_body))
      (ess_one (es_ret (ev_bty call_tuple_of op_tuple T.m_tuple (by decide +kernel) (ea_cons (ev_var 3) ea_nil))))))
abbrev sfollowed : Stmt := topS 41
theorem scfollowed : FnScope nfollowed ["look", "rows"] (defScope sfollowed) := ⟨rfl, rfl, rfl, by decide +kernel, rfl, by decide +kernel, by decide +kernel⟩
theorem okfollowed (T : Tx P w K mg base c) (D : GD K mg "followed" sfollowed ["look", "rows"]) : Own P w K mg base c 1 "followed" Ffollowed :=
  own_ev D scfollowed fun f cdv A outer s H E hid hr px =>
    have nd : (nfollowed).Nodup := scfollowed.nd;
     (ess_cons (es_if (et_cmp (op_eqD hr.units) cmp_eq (ev_var 0) (ev_tup ea_nil)) (ess_one (es_ret (ev_tup ea_nil))) ess_nil)
      (ess_cons (es_asg [2, 3, 4] (ev_var 0) (eg_tup (egs_cons (eg_set 2 nd) (egs_cons (eg_set 3 nd) (egs_cons (eg_set 4 nd) egs_nil)))))
      (ess_cons (es_setLc 5 [("row", 6)] nd (blkOk_by (N := nfollowed) (sc := defScope sfollowed) (by decide +kernel)) (ei_seq (ev_var 1)) (fun _ _ _ _ _ _ => (eg_set 6 nd)) (fun _ _ _ _ _ _ => ets_nil) (fun _ _ _ _ _ _ => (ev_get (units1 hr) (ev_var 6) ev_int)) (sw_true rfl rfl rfl (by decide +kernel)))
      (ess_one (es_ret (ev_tup (ea_cons (ev_op opr_add (op_addAll mk_fz) (ev_var 2) ev_int) (ea_cons (ev_var 3) (ea_cons (ev_if (et_cmp (opr_in (units65 hr)) cmp_inA (ev_var 4) (ev_var 5)) (ev_meth PySem.F.plainAttrs_list PySem.F.slot_list_index PySem.F.type_list_index (mt_indexD (units65 hr)) op_index (ev_var 5) (ea_cons (ev_var 4) ea_nil)) (ev_un un_neg op_neg ev_int)) ea_nil)))))))))
abbrev ssettled_at : Stmt := topS 42
theorem scsettled_at : FnScope nsettled_at ["house", "standing", "change"] (defScope ssettled_at) := ⟨rfl, rfl, rfl, by decide +kernel, rfl, by decide +kernel, by decide +kernel⟩
theorem oksettled_at (T : Tx P w K mg base c) (D : GD K mg "settled_at" ssettled_at ["house", "standing", "change"]) (G_changed : Own P w K mg base c 1 "changed" Fchanged) (G_must_draw : Own P w K mg base c 3 "must_draw" Fmust_draw) (G_drawn_rows : Own P w K mg base c 4 "drawn_rows" Fdrawn_rows) (G_undrawn_rows : Own P w K mg base c 1 "undrawn_rows" Fundrawn_rows) (G_followed : Own P w K mg base c 1 "followed" Ffollowed) (G_stood_on : Own P w K mg base c 3 "stood_on" Fstood_on) : Own P w K mg base c 5 "settled_at" Fsettled_at :=
  own_ev D scsettled_at fun f cdv A outer s H E hid hr px =>
    have nd : (nsettled_at).Nodup := scsettled_at.nd;
     (ess_cons (es_set 3 nd (ev_prop 1 0 T.F.at (T.f1 0) T.k1 T.q_rule (hr.mono (by decide)) (ev_var 0)))
      (ess_cons (es_asg [4, 5] (ev_sl mk_fz (ev_var 1) (eo_some ev_int) eo_no) (eg_tup (egs_cons (eg_set 4 nd) (egs_cons (eg_set 5 nd) egs_nil))))
      (ess_cons (es_asg [6, 7] (ev_pure G_changed.at (hr.mono (by decide)) px (ea_cons (ev_var 1) (ea_cons (ev_var 2) ea_nil))) (eg_tup (egs_cons (eg_set 6 nd) (egs_cons (eg_set 7 nd) egs_nil))))
      (ess_cons (es_if (et_val (ev_pure G_must_draw.at (hr.mono (by decide)) px (ea_cons (ev_var 3) (ea_cons (ev_var 6) (ea_cons (ev_var 7) (ea_cons (ev_var 4) (ea_cons (ev_var 5) ea_nil))))))) (ess_cons (es_set 8 nd (ev_pure G_drawn_rows.at (hr.mono (by decide)) px (ea_cons (ev_var 0) (ea_cons (ev_var 6) (ea_cons (ev_var 7) ea_nil)))))
      (ess_cons (es_set 7 nd (ev_tup ea_nil))
      (ess_one (es_set 4 nd ev_int)))) (ess_cons (es_set 8 nd (ev_pure G_undrawn_rows.at (hr.mono (by decide)) px (ea_cons (ev_var 6) ea_nil)))
      (ess_one (es_set 4 nd (ev_blt (call_min2 rfl) op_2I T.m_min (by decide +kernel) (ea_cons (ev_op opr_add (op_addAll mk_fz) (ev_var 4) ev_int) (ea_cons (ev_prop 0 1 T.F.at (T.f0 1) T.k0 T.q_still (hr.mono (by decide)) (ev_var 3)) ea_nil)))))))
      (ess_one (es_ret (ev_tup (ea_cons (ev_pure G_stood_on.at (hr.mono (by decide)) px (ea_cons (ev_var 3) (ea_cons (ev_var 6) (ea_cons (ev_var 8) ea_nil)))) (ea_cons (ev_var 7) (ea_cons (ev_var 4) (ea_cons (ev_pure G_followed.at (hr.mono (by decide)) px (ea_cons (ev_var 5) (ea_cons (ev_var 8) ea_nil))) ea_nil)))))))))))
abbrev shands_at : Stmt := topS 43
theorem schands_at : FnScope nhands_at ["house", "settled"] (defScope shands_at) := ⟨rfl, rfl, rfl, by decide +kernel, rfl, by decide +kernel, by decide +kernel⟩
theorem okhands_at (T : Tx P w K mg base c) (D : GD K mg "hands_at" shands_at ["house", "settled"]) : Own P w K mg base c 3 "hands_at" Fhands_at :=
  own_ev D schands_at fun f cdv A outer s H E hid hr px =>
    have nd : (nhands_at).Nodup := schands_at.nd;
     (ess_cons (es_par 2 3 nd (by decide) (ea_cons (ev_get (units1 hr) (ev_var 1) ev_int) (ea_cons (ev_get (units1 hr) (ev_var 1) ev_int) ea_nil)))
      (ess_cons (es_if (et_cmp (op_eqD hr.units) cmp_eq (ev_var 3) (ev_tup ea_nil)) (ess_one (es_ret (ev_op opr_add (op_addAll mk_fz) (ev_lc [("place", 6)] nd (blkOk_by (N := nhands_at) (sc := defScope shands_at) (by decide +kernel)) (ei_range T.m_range (ev_blt callr_len op_lenA T.m_len PySem.boot_len (ea_cons (ev_var 2) ea_nil))) (fun _ _ _ _ _ _ => (eg_set 6 nd)) (fun _ _ _ _ _ _ => ets_nil) (fun _ _ _ _ _ _ => (ev_tup (ea_cons ev_str (ea_cons (ev_var 6) ea_nil))))) (ev_lstF mk_fz (ea_cons (ev_const T.c_NOTHING) ea_nil))))) ess_nil)
      (ess_cons (es_asg [4, 5] (ev_prop 1 5 T.F.at (T.f1 5) T.k1 T.q_lag (hr.mono (by decide)) (ev_var 0)) (eg_tup (egs_cons (eg_set 4 nd) (egs_cons (eg_set 5 nd) egs_nil))))
      (ess_cons (es_if (et_cmp (op_eqD hr.units) cmp_eq (ev_get (units1 hr) (ev_var 3) ev_int) (ev_var 5)) (ess_one (es_ret (ev_lstF mk_fz (ea_cons (ev_const T.c_TAP) ea_nil)))) ess_nil)
      (ess_one (es_ret (ev_if (et_cmp op_ge cmp_int (ev_get (units1 hr) (ev_var 3) ev_int) (ev_var 4)) (ev_lstF mk_fz (ea_cons (ev_const T.c_NOTHING) (ea_cons (ev_const T.c_TAP) ea_nil))) (ev_lstF mk_fz (ea_cons (ev_const T.c_NOTHING) ea_nil)))))))))
abbrev soutcome_of : Stmt := topS 44
theorem scoutcome_of : FnScope noutcome_of ["rule", "shown", "look"] (defScope soutcome_of) := ⟨rfl, rfl, rfl, by decide +kernel, rfl, by decide +kernel, by decide +kernel⟩
theorem okoutcome_of (T : Tx P w K mg base c) (D : GD K mg "outcome_of" soutcome_of ["rule", "shown", "look"]) : Own P w K mg base c 3 "outcome_of" Foutcome_of :=
  own_ev D scoutcome_of fun f cdv A outer s H E hid hr px =>
    have nd : (noutcome_of).Nodup := scoutcome_of.nd;
     (ess_cons (es_asg [3, 4, 5] (ev_var 2) (eg_tup (egs_cons (eg_set 3 nd) (egs_cons (eg_set 4 nd) (egs_cons (eg_set 5 nd) egs_nil)))))
      (ess_cons (es_if (et_cmp op_ge cmp_int (ev_var 4) (ev_blt callr_len op_lenA T.m_len PySem.boot_len (ea_cons (ev_var 1) ea_nil))) (ess_one (es_ret ev_str)) ess_nil)
      (ess_cons (es_asg [6, 7, 8] (ev_get (units1 hr) (ev_var 1) (ev_var 4)) (eg_tup (egs_cons (eg_set 6 nd) (egs_cons (eg_set 7 nd) (egs_cons (eg_set 8 nd) egs_nil)))))
      (ess_cons (es_if (et_cmp op_lt cmp_int (ev_var 8) (ev_prop 0 4 T.F.at (T.f0 4) T.k0 T.q_guard (hr.mono (by decide)) (ev_var 0))) (ess_one (es_ret ev_str)) ess_nil)
      (ess_cons (es_if (et_val (ev_var 7)) (ess_one (es_ret ev_str)) ess_nil)
      (ess_one (es_ret (ev_if (et_cmp (op_eqD hr.units) cmp_eq (ev_var 5) (ev_var 4)) ev_str ev_str))))))))
abbrev shandled : Stmt := topS 45
theorem schandled : FnScope nhandled ["rule", "settled", "hand"] (defScope shandled) := ⟨rfl, rfl, rfl, by decide +kernel, rfl, by decide +kernel, by decide +kernel⟩
theorem okhandled (T : Tx P w K mg base c) (D : GD K mg "handled" shandled ["rule", "settled", "hand"]) (G_outcome_of : Own P w K mg base c 3 "outcome_of" Foutcome_of) : Own P w K mg base c 4 "handled" Fhandled :=
  own_ev D schandled fun f cdv A outer s H E hid hr px =>
    have nd : (nhandled).Nodup := schandled.nd;
     (ess_cons (es_asg [3, 4, 5, 6] (ev_var 1) (eg_tup (egs_cons (eg_set 3 nd) (egs_cons (eg_set 4 nd) (egs_cons (eg_set 5 nd) (egs_cons (eg_set 6 nd) egs_nil))))))
      (ess_cons (es_if (et_cmp (op_eqD hr.units) cmp_eq (ev_get (units1 hr) (ev_var 2) ev_int) ev_str) (ess_one (es_ret (ev_tup (ea_cons (ev_tup (ea_cons (ev_var 3) (ea_cons (ev_var 4) (ea_cons (ev_var 5) (ea_cons (ev_tup (ea_cons ev_int (ea_cons (ev_get (units1 hr) (ev_var 2) ev_int) (ea_cons (ev_get (units1 hr) (ev_var 2) ev_int) ea_nil)))) ea_nil))))) (ea_cons ev_str ea_nil))))) ess_nil)
      (ess_cons (es_if (et_cmp (op_eqD hr.units) cmp_eq (ev_get (units1 hr) (ev_var 2) ev_int) ev_str) (ess_one (es_ret (ev_tup (ea_cons (ev_tup (ea_cons (ev_var 3) (ea_cons (ev_var 4) (ea_cons (ev_var 5) (ea_cons (ev_tup ea_nil) ea_nil))))) (ea_cons (ev_pure G_outcome_of.at (hr.mono (by decide)) px (ea_cons (ev_var 0) (ea_cons (ev_var 3) (ea_cons (ev_var 6) ea_nil)))) ea_nil))))) ess_nil)
      (ess_one (es_ret (ev_tup (ea_cons (ev_var 1) (ea_cons ev_str ea_nil))))))))
abbrev ssteps_at : Stmt := topS 46
theorem scsteps_at : FnScope nsteps_at ["house", "standing"] (defScope ssteps_at) := ⟨rfl, rfl, rfl, by decide +kernel, rfl, by decide +kernel, by decide +kernel⟩
theorem oksteps_at (T : Tx P w K mg base c) (D : GD K mg "steps_at" ssteps_at ["house", "standing"]) (G_changes_at : Own P w K mg base c 3 "changes_at" Fchanges_at) (G_settled_at : Own P w K mg base c 5 "settled_at" Fsettled_at) (G_hands_at : Own P w K mg base c 3 "hands_at" Fhands_at) (G_handled : Own P w K mg base c 4 "handled" Fhandled) : Own P w K mg base c 6 "steps_at" Fsteps_at :=
  own_ev D scsteps_at fun f cdv A outer s H E hid hr px =>
    have nd : (nsteps_at).Nodup := scsteps_at.nd;
     (ess_cons (es_set 2 nd (ev_lstF mk_lst ea_nil))
      (ess_cons (es_for [3] (ei_seq (ev_pure G_changes_at.at (hr.mono (by decide)) px (ea_cons (ev_var 0) (ea_cons (ev_var 1) ea_nil)))) (eg_set 3 nd) (ess_cons (es_set 4 nd (ev_pure G_settled_at.at (hr.mono (by decide)) px (ea_cons (ev_var 0) (ea_cons (ev_var 1) (ea_cons (ev_var 3) ea_nil)))))
      (ess_one (es_for [5] (ei_seq (ev_pure G_hands_at.at (hr.mono (by decide)) px (ea_cons (ev_var 0) (ea_cons (ev_var 4) ea_nil)))) (eg_set 5 nd) (ess_cons (es_asg [6, 7] (ev_pure G_handled.at (hr.mono (by decide)) px (ea_cons (ev_prop 1 0 T.F.at (T.f1 0) T.k1 T.q_rule (hr.mono (by decide)) (ev_var 0)) (ea_cons (ev_var 4) (ea_cons (ev_var 5) ea_nil)))) (eg_tup (egs_cons (eg_set 6 nd) (egs_cons (eg_set 7 nd) egs_nil))))
      (ess_one (es_expr (ev_meth PySem.F.plainAttrs_list PySem.F.slot_list_append PySem.F.type_list_append mt_append op_append (ev_var 2) (ea_cons (ev_tup (ea_cons (ev_tup (ea_cons (ev_var 3) (ea_cons (ev_var 5) ea_nil))) (ea_cons (ev_var 6) (ea_cons (ev_var 7) ea_nil)))) ea_nil))))) (hp := own_body)))) (hp := own_body))
      (ess_one (es_ret (ev_var 2)))))
abbrev smoments_at : Stmt := topS 49
theorem scmoments_at : FnScope nmoments_at ["house", "standing"] (defScope smoments_at) := ⟨rfl, rfl, rfl, by decide +kernel, rfl, by decide +kernel, by decide +kernel⟩
theorem okmoments_at (T : Tx P w K mg base c) (D : GD K mg "moments_at" smoments_at ["house", "standing"]) (G_check_standing : Own P w K mg base c 5 "check_standing" Fcheck_standing) (G_steps_at : Own P w K mg base c 6 "steps_at" Fsteps_at) : Own P w K mg base c 7 "moments_at" Fmoments_at :=
  own_ev D scmoments_at fun f cdv A outer s H E hid hr px =>
    have nd : (nmoments_at).Nodup := scmoments_at.nd;
     (ess_cons (es_expr (ev_pure G_check_standing.at (hr.mono (by decide)) px (ea_cons (ev_var 0) (ea_cons (ev_var 1) ea_nil))))
      (ess_one (es_ret (ev_lc [("moment", 2), ("behind", 3), ("outcome", 4)] nd (blkOk_by (N := nmoments_at) (sc := defScope smoments_at) (by decide +kernel)) (ei_seq (ev_pure G_steps_at.at (hr.mono (by decide)) px (ea_cons (ev_var 0) (ea_cons (ev_var 1) ea_nil)))) (fun _ _ _ _ _ _ => (eg_tup (egs_cons (eg_set 2 nd) (egs_cons (eg_set 3 nd) (egs_cons (eg_set 4 nd) egs_nil))))) (fun _ _ _ _ _ _ => ets_nil) (fun _ _ _ _ _ _ => (ev_var 2))))))
abbrev sis_comparable : Stmt := topS 47
theorem scis_comparable : FnScope nis_comparable ["thing"] (defScope sis_comparable) := ⟨rfl, rfl, rfl, by decide +kernel, rfl, by decide +kernel, by decide +kernel⟩
theorem okis_comparable (T : Tx P w K mg base c) (D : GD K mg "is_comparable" sis_comparable ["thing"]) (G_is_number : Own P w K mg base c 1 "is_number" Fis_number) : Own P w K mg base c 2 "is_comparable" Fis_comparable :=
  own_ev D scis_comparable fun f cdv A outer s H E hid hr px =>
    have nd : (nis_comparable).Nodup := scis_comparable.nd;
     (ess_one (es_ret (ev_and (ev_isi .tup T.F.at kit_tup T.m_isinstance (ev_var 0) (pe_bltn (by rfl) T.m_tuple boot_tuple rfl)) (ev_one (ev_or (ev_cmp op_lt cmp_int (ev_blt callr_len op_lenA T.m_len PySem.boot_len (ea_cons (ev_var 0) ea_nil)) ev_int) (ev_one (ev_pure G_is_number.at (hr.mono (by decide)) px (ea_cons (ev_get (units1 hr) (ev_var 0) ev_int) ea_nil))))))))
abbrev sstep_at : Stmt := topS 48
theorem scstep_at : FnScope nstep_at ["house", "standing", "moment"] (defScope sstep_at) := ⟨rfl, rfl, rfl, by decide +kernel, rfl, by decide +kernel, by decide +kernel⟩
theorem okstep_at (T : Tx P w K mg base c) (D : GD K mg "step_at" sstep_at ["house", "standing", "moment"]) (G_is_comparable : Own P w K mg base c 2 "is_comparable" Fis_comparable) (G_changes_at : Own P w K mg base c 3 "changes_at" Fchanges_at) (G_settled_at : Own P w K mg base c 5 "settled_at" Fsettled_at) (G_hands_at : Own P w K mg base c 3 "hands_at" Fhands_at) (G_handled : Own P w K mg base c 4 "handled" Fhandled) : Own P w K mg base c 6 "step_at" Fstep_at :=
  own_ev D scstep_at fun f cdv A outer s H E hid hr px =>
    have nd : (nstep_at).Nodup := scstep_at.nd;
     (ess_cons (es_if (ew_t (ew_or (et_not (et_val (ev_isi .tup T.F.at kit_tup T.m_isinstance (ev_var 2) (pe_bltn (by rfl) T.m_tuple boot_tuple rfl)))) (ew_or1 (et_cmp (op_neD hr.units) cmp_ne (ev_blt callr_len op_lenA T.m_len PySem.boot_len (ea_cons (ev_var 2) ea_nil)) ev_int)))) (ess_one (es_ret ev_non)) ess_nil)
      (ess_cons (es_asg [3, 4] (ev_var 2) (eg_tup (egs_cons (eg_set 3 nd) (egs_cons (eg_set 4 nd) egs_nil))))
      (ess_cons (es_if (ew_t (ew_or (et_not (et_val (ev_pure G_is_comparable.at (hr.mono (by decide)) px (ea_cons (ev_var 3) ea_nil)))) (ew_or1 (et_not (et_val (ev_pure G_is_comparable.at (hr.mono (by decide)) px (ea_cons (ev_var 4) ea_nil))))))) (ess_one (es_ret ev_non)) ess_nil)
      (ess_cons (es_if (et_cmp (opr_notIn (units65 hr)) cmp_notInA (ev_var 3) (ev_pure G_changes_at.at (hr.mono (by decide)) px (ea_cons (ev_var 0) (ea_cons (ev_var 1) ea_nil)))) (ess_one (es_ret ev_non)) ess_nil)
      (ess_cons (es_set 5 nd (ev_pure G_settled_at.at (hr.mono (by decide)) px (ea_cons (ev_var 0) (ea_cons (ev_var 1) (ea_cons (ev_var 3) ea_nil)))))
      (ess_cons (es_if (et_cmp (opr_notIn (units65 hr)) cmp_notInA (ev_var 4) (ev_pure G_hands_at.at (hr.mono (by decide)) px (ea_cons (ev_var 0) (ea_cons (ev_var 5) ea_nil)))) (ess_one (es_ret ev_non)) ess_nil)
      (ess_one (es_ret (ev_pure G_handled.at (hr.mono (by decide)) px (ea_cons (ev_prop 1 0 T.F.at (T.f1 0) T.k1 T.q_rule (hr.mono (by decide)) (ev_var 0)) (ea_cons (ev_var 5) (ea_cons (ev_var 4) ea_nil))))))))))))
abbrev stick_at : Stmt := topS 50
theorem sctick_at : FnScope ntick_at ["house", "standing", "moment"] (defScope stick_at) := ⟨rfl, rfl, rfl, by decide +kernel, rfl, by decide +kernel, by decide +kernel⟩
theorem oktick_at (T : Tx P w K mg base c) (D : GD K mg "tick_at" stick_at ["house", "standing", "moment"]) (G_check_standing : Own P w K mg base c 5 "check_standing" Fcheck_standing) (G_step_at : Own P w K mg base c 6 "step_at" Fstep_at) : Own P w K mg base c 7 "tick_at" Ftick_at :=
  own_ev D sctick_at fun f cdv A outer s H E hid hr px =>
    have nd : (ntick_at).Nodup := sctick_at.nd;
     (ess_cons (es_expr (ev_pure G_check_standing.at (hr.mono (by decide)) px (ea_cons (ev_var 0) (ea_cons (ev_var 1) ea_nil))))
      (ess_cons (es_set 3 nd (ev_pure G_step_at.at (hr.mono (by decide)) px (ea_cons (ev_var 0) (ea_cons (ev_var 1) (ea_cons (ev_var 2) ea_nil)))))
      (ess_cons (es_if (et_cmp op_isN cmp_isN (ev_var 3) ev_non) (ess_one es_bad) ess_nil)
      (ess_one (es_ret (ev_var 3))))))
abbrev n_law_results : List Str := ["draw", "made", "many", "here", "found", "turn", "some", "busy", "moment_here", "result"]
def b_law_results : Sg → M Out :=
  (sSeq (sPar 3 4 (fCons (fN (oPure Ffirst_standing) (fCons (fVar 1) fNil)) (fCons (fN mkFz fNil) fNil)))
  (sSeq (sFor (fun s => M.bind ((fVar 2) s) srcR1) (gSet 5) (sSeq (sSet 6 (fN (oPure Fmoments_at) (fCons (fVar 1) (fCons (fVar 3) fNil))))
  (sSeq (sSet 7 (fLc [8] (fSrc noF (fVar 6)) (gSet 8) (t2 (pEq fun b => !b) (f2 oGet (fVar 8) (fC (.int 1))) (fN mkTup (fCons (fC (.str "none")) fNil))) (fVar 8)))
  (sSeq (sSet 8 (fN (oPure F_law_pick) (fCons (fVar 0) (fCons (fIf (tAndF (t2 (pEq fun b => !b) (fVar 7) (fN mkFz fNil)) (t2 (pI fun i j => decide (j < i)) (fN oTake (fCons (fVar 0) (fCons (fC (.int 3)) fNil))) (fC (.int 0)))) (fVar 7) (fVar 6)) fNil))))
  (sSeq (sAsg (fN (oPure Ftick_at) (fCons (fVar 1) (fCons (fVar 3) (fCons (fVar 8) fNil)))) (gTupF 2 (gAnd (gSet 3) (gAnd (gSet 9) gEnd))))
  (sSet 4 (f2 (oAdd mkFz) (fVar 4) (f2 (oMul mkFz) (fN mkFz (fCons (fVar 9) fNil)) (fN oInt (fCons (fAnd (f2 (cmpV (pEq fun b => !b)) (fVar 9) (fC (.str ""))) (f2 (cmpV (pInA true)) (fVar 9) (fVar 4))) fNil))))))))))
  (sRet (fVar 4))))
def F_law_results : List D → M D := mkF 3 10 b_law_results
abbrev s_law_results : Stmt := topS 60
theorem sc_law_results : FnScope n_law_results ["draw", "made", "many"] (defScope s_law_results) := ⟨rfl, rfl, rfl, by decide +kernel, rfl, by decide +kernel, by decide +kernel⟩
theorem ok_law_results (T : Tx P w K mg base c) (D : GD K mg "_law_results" s_law_results ["draw", "made", "many"]) (G_first_standing : Own P w K mg base c 3 "first_standing" Ffirst_standing) (G_moments_at : Own P w K mg base c 7 "moments_at" Fmoments_at) (G__law_pick : Own P w K mg base c 4 "_law_pick" F_law_pick) (G__law_take : Own P w K mg base c 3 "_law_take" oTake) (G_tick_at : Own P w K mg base c 7 "tick_at" Ftick_at) : Own P w K mg base c 8 "_law_results" F_law_results :=
  own_ev D sc_law_results fun f cdv A outer s H E hid hr px =>
    have nd : (n_law_results).Nodup := sc_law_results.nd;
     (ess_cons (es_par 3 4 nd (by decide) (ea_cons (ev_pure G_first_standing.at (hr.mono (by decide)) px (ea_cons (ev_var 1) ea_nil)) (ea_cons (ev_lstF mk_fz ea_nil) ea_nil)))
      (ess_cons (es_for [5] (ei_range T.m_range (ev_var 2)) (eg_set 5 nd) (ess_cons (es_set 6 nd (ev_pure G_moments_at.at (hr.mono (by decide)) px (ea_cons (ev_var 1) (ea_cons (ev_var 3) ea_nil))))
      (ess_cons (es_setLc 7 [("moment_here", 8)] nd (blkOk_by (N := n_law_results) (sc := defScope s_law_results) (by decide +kernel)) (ei_seq (ev_var 6)) (fun _ _ _ _ _ _ => (eg_set 8 nd)) (fun _ _ _ _ _ _ => (ets_one (et_cmp (op_neD hr.units) cmp_ne (ev_get (units1 hr) (ev_var 8) ev_int) (ev_tup (ea_cons ev_str ea_nil))))) (fun _ _ _ _ _ _ => (ev_var 8)) (sw_true rfl rfl rfl (by decide +kernel)))
      (ess_cons (es_set 8 nd (ev_pure G__law_pick.at (hr.mono (by decide)) px (ea_cons (ev_var 0) (ea_cons (ev_if (ew_t (ew_and (et_cmp (op_neD hr.units) cmp_ne (ev_var 7) (ev_lstF mk_fz ea_nil)) (ew_and1 (et_cmp op_gt cmp_int (ev_own G__law_take.at (hr.mono (by decide)) px (ea_cons (ev_var 0) (ea_cons ev_int ea_nil))) ev_int)))) (ev_var 7) (ev_var 6)) ea_nil))))
      (ess_cons (es_asg [3, 9] (ev_pure G_tick_at.at (hr.mono (by decide)) px (ea_cons (ev_var 1) (ea_cons (ev_var 3) (ea_cons (ev_var 8) ea_nil)))) (eg_tup (egs_cons (eg_set 3 nd) (egs_cons (eg_set 9 nd) egs_nil))))
      (ess_one (es_set 4 nd (ev_op opr_add (op_addAll mk_fz) (ev_var 4) (ev_op opr_mul (op_mulAll mk_fz) (ev_lstF mk_fz (ea_cons (ev_var 9) ea_nil)) (ev_bty call_int1 op_int T.m_int (by decide +kernel) (ea_cons (ev_and (ev_cmp (op_neD hr.units) cmp_ne (ev_var 9) ev_str) (ev_one (ev_cmp (opr_notIn (units65 hr)) cmp_notInA (ev_var 9) (ev_var 4)))) ea_nil)))))))))) (hp := own_body))
      (ess_one (es_ret (ev_var 4)))))
abbrev n_law_barred : List Str := ["home", "mode", "most", "found"]
def b_law_barred : Sg → M Out :=
  (sSeq (sPar3 1 2 3 (fCons (f2 oGet (fVar 0) (fC (.str "way"))) (fCons (f2 oGet (f2 oGet (fVar 0) (fC (.str "lag"))) (fC (.int 1))) (fCons (fN mkLst fNil) fNil))))
  (sSeq (sIf (t2 (pI fun i j => decide (j ≤ i)) (f2 oGet (fVar 1) (fC (.str "hold"))) (fVar 2)) (sSet 3 (f2 (oAdd mkLst) (fVar 3) (fN mkFz (fCons (fC (.str "other")) (fCons (fC (.str "empty")) fNil))))) sNx)
  (sSeq (sIf (t2 (pI fun i j => decide (j ≤ i)) (f2 oGet (fVar 1) (fC (.str "guard"))) (fVar 2)) (sExpr (fM mAppend (fVar 3) (fCons (fC (.str "other")) fNil))) sNx)
  (sSeq (sIf (tNotF (tVal (f2 oGet (fVar 0) (fC (.str "goes"))))) (sSet 3 (f2 (oAdd mkLst) (f2 (oAdd mkFz) (fVar 3) (fN mkFz (fCons (fC (.str "gone")) (fCons (fC (.str "empty")) fNil)))) (f2 (oMul mkFz) (fN mkFz (fCons (fC (.str "other")) fNil)) (fN oInt (fCons (f2 (cmpV (pEq fun b => b)) (f2 oGet (fVar 1) (fC (.str "way"))) (fC (.str "end"))) fNil))))) sNx)
  (sRet (f2 (oAdd mkFz) (fVar 3) (f2 (oMul mkFz) (fN mkFz (fCons (fC (.str "back")) fNil)) (fN oInt (fCons (f2 (cmpV (pEq fun b => b)) (f2 oGet (fVar 1) (fC (.str "guard"))) (fC (.int 0))) fNil)))))))))
def F_law_barred : List D → M D := mkF 1 4 b_law_barred
abbrev s_law_barred : Stmt := topS 61
theorem sc_law_barred : FnScope n_law_barred ["home"] (defScope s_law_barred) := ⟨rfl, rfl, rfl, by decide +kernel, rfl, by decide +kernel, by decide +kernel⟩
theorem ok_law_barred (T : Tx P w K mg base c) (D : GD K mg "_law_barred" s_law_barred ["home"]) : Own P w K mg base c 1 "_law_barred" F_law_barred :=
  own_ev D sc_law_barred fun f cdv A outer s H E hid hr px =>
    have nd : (n_law_barred).Nodup := sc_law_barred.nd;
     (ess_cons (es_par3 1 2 3 nd (by decide) (by decide) (by decide) (ea_cons (ev_get (units1 hr) (ev_var 0) ev_str) (ea_cons (ev_get (units1 hr) (ev_get (units1 hr) (ev_var 0) ev_str) ev_int) (ea_cons (ev_lstF mk_lst ea_nil) ea_nil))))
      (ess_cons (es_if (et_cmp op_ge cmp_int (ev_get (units1 hr) (ev_var 1) ev_str) (ev_var 2)) (ess_one (es_set 3 nd (ev_op opr_add (op_addAll mk_lst) (ev_var 3) (ev_lstF mk_fz (ea_cons ev_str (ea_cons ev_str ea_nil)))))) ess_nil)
      (ess_cons (es_if (et_cmp op_ge cmp_int (ev_get (units1 hr) (ev_var 1) ev_str) (ev_var 2)) (ess_one (es_expr (ev_meth PySem.F.plainAttrs_list PySem.F.slot_list_append PySem.F.type_list_append mt_append op_append (ev_var 3) (ea_cons ev_str ea_nil)))) ess_nil)
      (ess_cons (es_if (et_not (et_val (ev_get (units1 hr) (ev_var 0) ev_str))) (ess_one (es_set 3 nd (ev_op opr_add (op_addAll mk_lst) (ev_op opr_add (op_addAll mk_fz) (ev_var 3) (ev_lstF mk_fz (ea_cons ev_str (ea_cons ev_str ea_nil)))) (ev_op opr_mul (op_mulAll mk_fz) (ev_lstF mk_fz (ea_cons ev_str ea_nil)) (ev_bty call_int1 op_int T.m_int (by decide +kernel) (ea_cons (ev_cmp (op_eqD hr.units) cmp_eq (ev_get (units1 hr) (ev_var 1) ev_str) ev_str) ea_nil)))))) ess_nil)
      (ess_one (es_ret (ev_op opr_add (op_addAll mk_fz) (ev_var 3) (ev_op opr_mul (op_mulAll mk_fz) (ev_lstF mk_fz (ea_cons ev_str ea_nil)) (ev_bty call_int1 op_int T.m_int (by decide +kernel) (ea_cons (ev_cmp (op_eqD hr.units) cmp_eq (ev_get (units1 hr) (ev_var 1) ev_str) ev_int) ea_nil))))))))))
end K14

/-! What rules bar: the outcomes along a course that the program lets. -/
namespace K14
open PySem PySem.Spec PyProof.Rows L2 Dr Ev Und Md
example : F_law_pick = pickF := rfl
def five : List Str := ["back", "empty", "gone", "other", "right"]
theorem five_ok : ∀ x ∈ five, PyData.strOk x = true := by decide +kernel
theorem outcome_five (r : Rl) (sh : List Item) (l : Look) : Md.outcomeOf r sh l ∈ five := by
  unfold Md.outcomeOf five
  dsimp only
  repeat' split
  all_goals simp
theorem tick_five (hs : Hs) (s : Stand) (m : Change × Hand) : (tick hs s m).2 = "" ∨ (tick hs s m).2 ∈ five := by
  unfold tick Md.handled
  split
  · exact .inl rfl
  · exact .inl rfl
  · dsimp only
    split
    · exact .inl rfl
    · exact .inr (outcome_five _ _ _)
theorem eqT_str (x y : Str) : Ev.eqT (.str x) (.str y) = (x == y) := rfl
theorem any_str (xs : List Str) (x : Str) : ((xs.map D.str).any fun y => Ev.eqT y (.str x)) = decide (x ∈ xs) := by
  rw [List.any_map, Bool.eq_iff_iff]
  simp [Ev.eqT]
theorem okTs_strs : ∀ {xs : List Str}, (∀ x ∈ xs, x ∈ five) → okTs 22 (xs.map .str) = true
  | [], _ => rfl
  | x :: xs, h => by
    have h1 := five_ok x (h x (by simp))
    have h2 := okTs_strs (xs := xs) fun y hy => h y (by simp [hy])
    simp [okTs, okT, h1, h2]
theorem ne_hand (d : Hand) (h : List O) : pEq (fun b => !b) h (eHd d) (.tup [.str "none"]) = some (!decide (d = .none)) := by
  have e : (D.tup [.str "none"]) = eHd .none := rfl
  rw [e, pEq_T _ h (okT_eHd 22 d) (okT_eHd 22 .none), eqT_eHd]
theorem ne_nil (ms : List (Change × Hand)) (h : List O) : pEq (fun b => !b) h (.lst (ms.map eM)) (.lst []) = some (!ms.isEmpty) := by
  have okM : ∀ m : Change × Hand, okT 22 (eM m) = true := fun m => by simp [eM, okT, okTs, okT_eC, okT_eHd]
  have ok : okT 23 (.lst (ms.map eM)) = true := by simpa [okT] using okTs_map (n := 22) okM ms
  rw [pEq_T _ h ok rfl]
  cases ms <;> rfl
def busyOf (ms : List (Change × Hand)) : List (Change × Hand) := ms.filter fun m => !decide (m.2 = .none)
/-- what a turn adds -/
def added (xs : List Str) (x : Str) : List Str := if x ≠ "" ∧ x ∉ xs then xs ++ [x] else xs
abbrev rSg (hs : Hs) (st : Stand) (xs : List Str) (a b c d e : Option D) : Sg := [some .draw, some (eH hs), some (.int 30), some (eS st), some (.lst (xs.map .str)), a, b, c, d, e]
theorem add_ok {hs : Hs} {st : Stand} {xs : List Str} {a b c d : Option D} {x : Str} (hx : x = "" ∨ x ∈ five) (hxs : ∀ y ∈ xs, y ∈ five) (hl : xs.length ≤ 100) (h : List O) :
    sSet 4 (f2 (oAdd mkFz) (fVar 4) (f2 (oMul mkFz) (fN mkFz (fCons (fVar 9) fNil)) (fN oInt (fCons (fAnd (f2 (cmpV (pEq fun b => !b)) (fVar 9) (fC (.str ""))) (f2 (cmpV (pInA true)) (fVar 9) (fVar 4))) fNil)))) (rSg hs st xs a b c d (some (.str x))) h =
      .ret (.nx (rSg hs st (added xs x) a b c d (some (.str x))), h) := by
  have okx : okT 23 (.str x) = true := by
    rcases hx with rfl | hx
    · decide +kernel
    · simpa [okT] using five_ok x hx
  have ne : pEq (fun b => !b) h (.str x) (.str "") = some (!(x == "")) := by rw [pEq_T _ h okx (by decide +kernel)]; rfl
  have ni : pInA true h (.str x) (.lst (xs.map .str)) = some (!decide (x ∈ xs)) := by rw [pNInA_fz okx (okTs_strs hxs), any_str]
  have cat : ∀ ys : List D, ys.length ≤ 100 → oAdd mkFz (.lst (xs.map .str)) (.lst ys) h = .ret (.lst (xs.map .str ++ ys), h) := fun ys hy => cat_ff (by simp; omega)
  have rep : ∀ k : Nat, k ≤ 1 → oMul mkFz (.lst [.str x]) (.int (k : Nat)) h = .ret (.lst (List.replicate k (D.str x)), h) := by
    intro k hk
    rcases (show k = 0 ∨ k = 1 by omega) with rfl | rfl <;> rfl
  by_cases h1 : x = ""
  · have e1 : (!(x == "")) = false := by rw [h1]; decide +kernel
    rw [e1] at ne
    refine r_setN (r_2 rfl (r_2 (r_fz (r_cons rfl r_nil) (Nat.le_of_ble_eq_true rfl)) (r_N (r_cons (r_andK (r_2 rfl r_c (r_cmpV ne)) rfl) r_nil) (rfl : oInt [.bl false] h = .ret (.int ((0 : Nat) : Int), h))) (rep 0 (by omega))) (cat [] (by simp))) ?_
    simp [added, h1]
  · have e1 : (!(x == "")) = true := by simpa using h1
    rw [e1] at ne
    by_cases h2 : x ∈ xs
    · have e2 : (!decide (x ∈ xs)) = false := by simp [h2]
      rw [e2] at ni
      refine r_setN (r_2 rfl (r_2 (r_fz (r_cons rfl r_nil) (Nat.le_of_ble_eq_true rfl)) (r_N (r_cons (r_andK (r_2 rfl r_c (r_cmpV ne)) (r_2 rfl rfl (r_cmpV ni))) r_nil) (rfl : oInt [.bl false] h = .ret (.int ((0 : Nat) : Int), h))) (rep 0 (by omega))) (cat [] (by simp))) ?_
      simp [added, h2]
    · have e2 : (!decide (x ∈ xs)) = true := by simp [h2]
      rw [e2] at ni
      refine r_setN (r_2 rfl (r_2 (r_fz (r_cons rfl r_nil) (Nat.le_of_ble_eq_true rfl)) (r_N (r_cons (r_andK (r_2 rfl r_c (r_cmpV ne)) (r_2 rfl rfl (r_cmpV ni))) r_nil) (rfl : oInt [.bl true] h = .ret (.int ((1 : Nat) : Int), h))) (rep 1 (by omega))) (cat [.str x] (by simp))) ?_
      simp [added, h1, h2]
theorem added_len (xs : List Str) (x : Str) : (added xs x).length ≤ xs.length + 1 := by
  unfold added
  split <;> simp
theorem results_all (hs : Hs) (ho : OkH hs) (I : Stand → Prop) (Q : Str → Prop) (h0 : I (first0 hs)) (hstep : ∀ s m, OkS hs s → I s → can hs s m = true → I (tick hs s m).1 ∧ ((tick hs s m).2 ∈ five → Q (tick hs s m).2)) :
    Al (F_law_results [.draw, eH hs, .int 30] []) fun r => ∃ xs : List Str, r = (.lst (xs.map .str), []) ∧ (∀ x ∈ xs, x ∈ five) ∧ (∀ x ∈ xs, Q x) ∧ xs.length ≤ 30 := by
  refine a_F (xs := [.draw, eH hs, .int 30]) (np := 3) (nn := 10) (f := b_law_results) (s := [some .draw, some (eH hs), some (.int 30), none, none, none, none, none, none, none]) rfl rfl ?_
  unfold b_law_results
  refine a_seq (a_of (r := (.nx (rSg hs (first0 hs) [] none none none none none), [])) (r_parN (r_cons (r_N (r_cons rfl r_nil) (first_p hs [])) (r_cons (r_fz r_nil (by decide)) r_nil)) rfl) (a_seqk ?_))
  refine a_seq (a_forR (j := 30) (h1 := []) (fun i z g => g = [] ∧ ∃ st xs a b c d e, z = rSg hs st xs a b c d e ∧ OkS hs st ∧ I st ∧ xs.length ≤ i ∧ (∀ x ∈ xs, x ∈ five) ∧ ∀ x ∈ xs, Q x) rfl (by decide) ⟨rfl, first0 hs, [], _, _, _, _, _, rfl, first_okS ho, h0, by simp, by simp, by simp⟩ ?_ ?_)
  · rintro i z g hi ⟨rfl, st, xs, a, b, c, d, e, rfl, ok, hI, hl, hf, hq⟩
    show Al (sSeq _ _ (rSg hs st xs (some (.int (i : Nat))) b c d e) []) _
    have ms := p_moments hs ho st ok []
    refine a_seq (a_of (r := (.nx (rSg hs st xs (some (.int (i : Nat))) (some (.lst ((momentsAt hs st).map eM))) c d e), [])) (r_setN (r_N (r_cons rfl (r_cons rfl r_nil)) ms) rfl) (a_seqk ?_))
    have lc : fLc [8] (fSrc noF (fVar 6)) (gSet 8) (t2 (pEq fun b => !b) (f2 oGet (fVar 8) (fC (.int 1))) (fN mkTup (fCons (fC (.str "none")) fNil))) (fVar 8) (rSg hs st xs (some (.int (i : Nat))) (some (.lst ((momentsAt hs st).map eM))) c d e) [] = .ret (.lst ((busyOf (momentsAt hs st)).map eM), []) := by
      have few : (momentsAt hs st).length ≤ 1000 := by unfold momentsAt; rw [List.length_map]; exact steps_few hs ho st ok
      rw [lcV (fun m => if m.2 = .none then none else some (eM m)) (sr_lst (momentsAt hs st) eM rfl rfl) (by omega) fun m _ => by
        have ne := ne_hand m.2 []
        by_cases hm : m.2 = .none
        · rw [if_pos hm]
          rw [hm] at ne
          refine body_none (s1 := rSg hs st xs (some (.int (i : Nat))) (some (.lst ((momentsAt hs st).map eM))) c (some (eM m)) e) rfl (r_t2 (r_2 rfl r_c (x := eM m) (y := .int 1) (v := eHd m.2) rfl) (r_tup (r_cons r_c r_nil) (by decide)) (by rw [hm]; exact ne))
        · rw [if_neg hm]
          refine body_some (s1 := rSg hs st xs (some (.int (i : Nat))) (some (.lst ((momentsAt hs st).map eM))) c (some (eM m)) e) rfl (r_t2 (r_2 rfl r_c (x := eM m) (y := .int 1) (v := eHd m.2) rfl) (r_tup (r_cons r_c r_nil) (by decide)) (by rw [ne]; simp [hm])) rfl]
      congr 3
      unfold busyOf
      induction momentsAt hs st with
      | nil => rfl
      | cons m ms ih => by_cases hm : m.2 = .none <;> simp [hm, ih]
    refine a_seq (a_of (r := (.nx (rSg hs st xs (some (.int (i : Nat))) (some (.lst ((momentsAt hs st).map eM))) (some (.lst ((busyOf (momentsAt hs st)).map eM))) d e), [])) (r_setN lc rfl) (a_seqk ?_))
    have go : ∀ m : Change × Hand, m ∈ momentsAt hs st → Al (seqK (sSeq (sAsg (fN (oPure Ftick_at) (fCons (fVar 1) (fCons (fVar 3) (fCons (fVar 8) fNil)))) (gTupF 2 (gAnd (gSet 3) (gAnd (gSet 9) gEnd))))
        (sSet 4 (f2 (oAdd mkFz) (fVar 4) (f2 (oMul mkFz) (fN mkFz (fCons (fVar 9) fNil)) (fN oInt (fCons (fAnd (f2 (cmpV (pEq fun b => !b)) (fVar 9) (fC (.str ""))) (f2 (cmpV (pInA true)) (fVar 9) (fVar 4))) fNil))))))
        (.nx (rSg hs st xs (some (.int (i : Nat))) (some (.lst ((momentsAt hs st).map eM))) (some (.lst ((busyOf (momentsAt hs st)).map eM))) (some (eM m)) e)) [])
        fun r => match r.1 with
          | .nx s' => r.2 = [] ∧ ∃ st xs a b c d e, s' = rSg hs st xs a b c d e ∧ OkS hs st ∧ I st ∧ xs.length ≤ i + 1 ∧ (∀ x ∈ xs, x ∈ five) ∧ ∀ x ∈ xs, Q x
          | .ct s' => r.2 = [] ∧ ∃ st xs a b c d e, s' = rSg hs st xs a b c d e ∧ OkS hs st ∧ I st ∧ xs.length ≤ i + 1 ∧ (∀ x ∈ xs, x ∈ five) ∧ ∀ x ∈ xs, Q x
          | .bk s' => Al (seqK (sRet (fVar 4)) (.nx s') r.2) fun r => Al (outD r.1 r.2) fun r => ∃ xs : List Str, r = (.lst (xs.map .str), []) ∧ (∀ x ∈ xs, x ∈ five) ∧ (∀ x ∈ xs, Q x) ∧ xs.length ≤ 30
          | .rt v => Al (seqK (sRet (fVar 4)) (.rt v) r.2) fun r => Al (outD r.1 r.2) fun r => ∃ xs : List Str, r = (.lst (xs.map .str), []) ∧ (∀ x ∈ xs, x ∈ five) ∧ (∀ x ∈ xs, Q x) ∧ xs.length ≤ 30 := by
      intro m hm
      have cn := moments_can hm
      have tk := tick_p hs ho st ok m cn []
      obtain ⟨hI', hQ'⟩ := hstep st m ok hI cn
      have tf := tick_five hs st m
      refine a_seqk (a_seq (a_of (r := (.nx (rSg hs (tick hs st m).1 xs (some (.int (i : Nat))) (some (.lst ((momentsAt hs st).map eM))) (some (.lst ((busyOf (momentsAt hs st)).map eM))) (some (eM m)) (some (.str (tick hs st m).2))), [])) (r_asg (r_N (r_cons rfl (r_cons rfl (r_cons rfl r_nil))) tk) rfl) (a_seqk ?_)))
      refine a_of (add_ok tf hf (by omega) []) ?_
      refine ⟨rfl, (tick hs st m).1, added xs (tick hs st m).2, _, _, _, _, _, rfl, tick_okS ho ok cn, hI', ?_, ?_, ?_⟩
      · have := added_len xs (tick hs st m).2
        omega
      · intro x hx
        unfold added at hx
        split at hx
        · rename_i hc
          rcases List.mem_append.mp hx with hx | hx
          · exact hf x hx
          · rw [List.mem_singleton.mp hx]
            rcases tf with z | z
            · exact absurd z hc.1
            · exact z
        · exact hf x hx
      · intro x hx
        unfold added at hx
        split at hx
        · rename_i hc
          rcases List.mem_append.mp hx with hx | hx
          · exact hq x hx
          · rw [List.mem_singleton.mp hx]
            rcases tf with z | z
            · exact absurd z hc.1
            · exact hQ' z
        · exact hq x hx
    have few : (momentsAt hs st).length < 1000 := by
      have h1 := changes_len hs ho st (by have := ho.room; have := ok.few; omega)
      have h2 : (momentsAt hs st).length ≤ 200 := by
        unfold momentsAt stepsAt
        rw [List.length_map]
        have fl : ∀ cs : List Change, (cs.flatMap (stepsFor hs st)).length ≤ cs.length * 10 := by
          intro cs
          induction cs with
          | nil => simp
          | cons c cs ih =>
            have h2 : (stepsFor hs st c).length ≤ 10 := by
              unfold stepsFor
              rw [List.length_map]
              exact hands_len hs _ (settled_len hs ho st ok c)
            simp only [List.flatMap_cons, List.length_append, List.length_cons]
            omega
        have := fl (changesAt hs st)
        omega
      omega
    have bl : (busyOf (momentsAt hs st)).length < 1000 := Nat.lt_of_le_of_lt (List.length_filter_le _ _) few
    have pickAll : Al (oPure F_law_pick [.draw, .lst ((momentsAt hs st).map eM)] []) fun r => ∃ m, m ∈ momentsAt hs st ∧ r = (eM m, []) :=
      p_pick (by rw [List.length_map]; exact List.length_pos_iff.mpr (moments_ne hs st)) (by simpa using few) (noLs_map nl_M _) fun x hx => by
        obtain ⟨m, hm, rfl⟩ := List.mem_map.mp hx
        exact ⟨m, hm, rfl⟩
    have pickBusy : busyOf (momentsAt hs st) ≠ [] → Al (oPure F_law_pick [.draw, .lst ((busyOf (momentsAt hs st)).map eM)] []) fun r => ∃ m, m ∈ momentsAt hs st ∧ r = (eM m, []) := fun hb =>
      p_pick (by rw [List.length_map]; exact List.length_pos_iff.mpr hb) (by simpa using bl) (noLs_map nl_M _) fun x hx => by
        obtain ⟨m, hm, rfl⟩ := List.mem_map.mp hx
        exact ⟨m, (List.mem_filter.mp hm).1, rfl⟩
    refine a_seq (a_set (a_N ?_))
    refine a_cons (a_of rfl (a_cons (a_ifx (a_tand ?_))))
    refine a_t2 (a_of (r := (.lst ((busyOf (momentsAt hs st)).map eM), [])) rfl (a_of (r_fz r_nil (by decide)) ?_))
    refine ⟨_, ne_nil _ _, ?_⟩
    refine ⟨fun hb => a_t2 (a_take0 rfl (by decide) (by decide) fun i5 h5 => a_of r_c ⟨decide ((0 : Int) < (i5 : Nat)), rfl, ?_⟩), fun hb => ?_⟩
    · have hb : busyOf (momentsAt hs st) ≠ [] := by intro z; rw [z] at hb; exact absurd hb (by decide)
      dsimp only
      by_cases h6 : (0 : Int) < (i5 : Nat)
      · rw [if_pos (decide_eq_true h6)]
        refine a_of rfl (a_nil ((pickBusy hb).mono ?_))
        rintro _ ⟨m, hm, rfl⟩
        exact go m hm
      · rw [if_neg (by simpa using h6)]
        refine a_of rfl (a_nil (pickAll.mono ?_))
        rintro _ ⟨m, hm, rfl⟩
        exact go m hm
    · dsimp only
      rw [if_neg (by decide)]
      refine a_of rfl (a_nil (pickAll.mono ?_))
      rintro _ ⟨m, hm, rfl⟩
      exact go m hm
  · rintro z g ⟨rfl, st, xs, a, b, c, d, e, rfl, ok, hI, hl, hf, hq⟩
    exact a_seqk (a_ret (a_of rfl (a_rt ⟨xs, rfl, hf, hq, hl⟩)))
end K14

namespace Md
open PySem
/-! ### where items are now that were shown ahead of the tick -/
def NB (rows : List Md.Row) : Prop := rows.Pairwise fun a b => ∀ p, a.before = some p → b.before ≠ some p
def rowsOf (hs : Hs) (s : Stand) (c : Change) : List Md.Row :=
  if mustDraw hs.rule (Md.changed s c).1 (Md.changed s c).2 s.quiet s.look = true then drawnRows hs (Md.changed s c).1 (Md.changed s c).2 else undrawnRows (Md.changed s c).1
theorem settled_rows (hs : Hs) (s : Stand) (c : Change) : (settled hs s c).shown = stoodOn hs.rule (Md.changed s c).1 (rowsOf hs s c) ∧ (settled hs s c).look = followed s.look (rowsOf hs s c) := by
  unfold settled rowsOf
  dsimp only
  split <;> exact ⟨rfl, rfl⟩
theorem undrawn_get (sh : List Item) (i : Nat) (h : i < sh.length) : (undrawnRows sh)[i]? = some ⟨sh[i].rank, sh[i].gone, some i⟩ := by
  unfold undrawnRows
  rw [List.getElem?_map, List.getElem?_zipIdx, List.getElem?_eq_getElem h]
  simp [undrawnRow]
theorem undrawn_nb (sh : List Item) : NB (undrawnRows sh) := by
  unfold NB
  rw [List.pairwise_iff_getElem]
  intro i j hi hj hij p e1 e2
  rw [undrawn_len] at hi hj
  have a := undrawn_get sh i hi
  have b := undrawn_get sh j hj
  rw [List.getElem?_eq_getElem (by rw [undrawn_len]; exact hi)] at a
  rw [List.getElem?_eq_getElem (by rw [undrawn_len]; exact hj)] at b
  cases a' : (undrawnRows sh)[i]'(by rw [undrawn_len]; exact hi) with
  | mk r1 g1 b1 =>
    cases b' : (undrawnRows sh)[j]'(by rw [undrawn_len]; exact hj) with
    | mk r2 g2 b2 =>
      rw [a'] at a e1
      rw [b'] at b e2
      simp at a b e1 e2
      rw [a.2.2] at e1
      rw [b.2.2] at e2
      cases e1
      cases e2
      omega
theorem putIn_nb {hs : Hs} {rows : List Md.Row} (h : NB rows) (r : Int) : NB (Md.putIn hs rows r) := by
  unfold Md.putIn
  dsimp only
  refine List.Pairwise.sublist (List.take_sublist _ _) ?_
  generalize (placeFor hs.rule (rows.map (·.rank)) r).toNat = i
  have e : rows = rows.take i ++ rows.drop i := (List.take_append_drop i rows).symm
  unfold NB at h
  rw [e] at h
  obtain ⟨h1, h2, h3⟩ := List.pairwise_append.mp h
  rw [List.append_assoc]
  refine List.pairwise_append.mpr ⟨h1, List.pairwise_append.mpr ⟨by simp, h2, fun a ha b hb p e1 => ?_⟩, fun a ha b hb p e1 => ?_⟩
  · rw [List.mem_singleton.mp ha] at e1
    cases e1
  · rcases List.mem_append.mp hb with hb | hb
    · rw [List.mem_singleton.mp hb]
      exact fun z => by cases z
    · exact h3 a ha b hb p e1
theorem fold_nb {hs : Hs} : ∀ {ws : List Int} {rows : List Md.Row}, NB rows → NB (ws.foldl (Md.putIn hs) rows)
  | [], _, h => h
  | u :: us, _, h => fold_nb (ws := us) (putIn_nb h u)
theorem rows_nb (hs : Hs) (s : Stand) (c : Change) : NB (rowsOf hs s c) := by
  unfold rowsOf
  split
  · exact fold_nb (List.Pairwise.sublist List.filter_sublist (undrawn_nb _))
  · exact undrawn_nb _
theorem rows_before (hs : Hs) (s : Stand) (c : Change) {w : Md.Row} (h : w ∈ rowsOf hs s c) {p : Nat} (e : w.before = some p) : p < s.shown.length := by
  rw [← changed_len s c]
  unfold rowsOf at h
  split at h
  · exact drawn_before h e
  · exact undrawn_before h e
theorem spot_at {rows : List Md.Row} (h : NB rows) {k p : Nat} {w : Md.Row} (hk : rows[k]? = some w) (e : w.before = some p) : spotOf rows (p : Nat) = (k : Nat) := by
  obtain ⟨hl, hw⟩ := List.getElem?_eq_some_iff.mp hk
  have at1 : atB (p : Nat) w.before = true := by rw [e]; simp [atB]
  have any : (rows.any fun w => atB (p : Nat) w.before) = true := List.any_eq_true.mpr ⟨w, List.mem_of_getElem? hk, at1⟩
  unfold spotOf
  rw [if_pos any]
  congr 1
  rw [List.findIdx_eq hl]
  refine ⟨by rw [hw]; exact at1, fun j hj => ?_⟩
  cases q : atB (p : Nat) (rows[j]'(by omega)).before with
  | false => rfl
  | true =>
    exfalso
    have := List.pairwise_iff_getElem.mp h j k (by omega) hl hj p
    cases b : (rows[j]'(by omega)).before with
    | none => rw [b] at q; simp [atB] at q
    | some x =>
      rw [b] at q
      have : x = p := by simp [atB] at q; omega
      subst this
      exact List.pairwise_iff_getElem.mp h j k (by omega) hl hj x b (by rw [hw]; exact e)
theorem stood_get (r : Rl) (sh : List Item) (rows : List Md.Row) (k : Nat) (w : Md.Row) (hk : rows[k]? = some w) : (stoodOn r sh rows)[k]? = some (stoodAt r sh w k) := by
  unfold stoodOn
  rw [List.getElem?_map, List.getElem?_zipIdx, hk]
  simp
/-- nothing goes: the list does not get shorter -/
theorem putIn_grow {hs : Hs} {rows : List Md.Row} {r : Int} {n : Nat} (h : n ≤ rows.length) (hn : (n : Int) ≤ hs.room) : n ≤ (Md.putIn hs rows r).length := by
  unfold Md.putIn
  dsimp only
  rw [List.length_take]
  simp only [List.length_append, List.length_take, List.length_drop, List.length_singleton]
  omega
theorem fold_grow {hs : Hs} {n : Nat} (hn : (n : Int) ≤ hs.room) : ∀ {ws : List Int} {rows : List Md.Row}, n ≤ rows.length → n ≤ (ws.foldl (Md.putIn hs) rows).length
  | [], _, h => h
  | u :: us, _, h => fold_grow hn (ws := us) (putIn_grow h hn)
theorem changed_ng {hs : Hs} {s : Stand} (ok : OkS hs s) {c : Change} (hc : c ∈ changesAt hs s) (hg : hs.goes = false) : ∀ i ∈ (Md.changed s c).1, i.gone = false := by
  intro i hi
  cases q : i.gone with
  | false => rfl
  | true => have := (changed_items ok hc i hi).gone q; rw [hg] at this; cases this
theorem filter_ng {sh : List Item} (h : ∀ i ∈ sh, i.gone = false) : (undrawnRows sh).filter (fun r => !r.gone) = undrawnRows sh := by
  rw [List.filter_eq_self]
  intro r hr
  obtain ⟨⟨i, q⟩, h1, rfl⟩ := List.mem_map.mp hr
  have := h i (List.fst_mem_of_mem_zipIdx h1)
  simp [undrawnRow, this]
theorem rows_grow {hs : Hs} {s : Stand} (ok : OkS hs s) {c : Change} (hc : c ∈ changesAt hs s) (hg : hs.goes = false) : s.shown.length ≤ (rowsOf hs s c).length := by
  unfold rowsOf
  split
  · unfold drawnRows
    rw [filter_ng (changed_ng ok hc hg)]
    exact fold_grow ok.few (by rw [undrawn_len, changed_len]; exact Nat.le_refl _)
  · rw [undrawn_len, changed_len]
    exact Nat.le_refl _
/-- .. and by "end" those that are there stay where they are -/
theorem putIn_fin {hs : Hs} (hf : hs.rule.way = .fin) (ho : OkH hs) {rows : List Md.Row} {r : Int} {k : Nat} (hk : k < rows.length) (hr : (k : Int) < hs.room) : (Md.putIn hs rows r)[k]? = rows[k]? := by
  have hp : (placeFor hs.rule (rows.map (·.rank)) r).toNat = rows.length := by
    have := ho.rule.pins
    unfold placeFor placeByWay
    rw [hf]
    simp only [List.length_map]
    (repeat' split) <;> omega
  unfold Md.putIn
  dsimp only
  rw [hp, List.take_length, List.drop_length, List.append_nil, List.getElem?_take, if_pos (by omega), List.getElem?_append_left hk]
theorem fold_fin {hs : Hs} (hf : hs.rule.way = .fin) (ho : OkH hs) {n : Nat} (hn : (n : Int) ≤ hs.room) {k : Nat} (hk : k < n) : ∀ {ws : List Int} {rows : List Md.Row}, n ≤ rows.length → (ws.foldl (Md.putIn hs) rows)[k]? = rows[k]?
  | [], _, _ => rfl
  | u :: us, rows, h => by
    rw [List.foldl_cons, fold_fin hf ho hn hk (ws := us) (putIn_grow h hn), putIn_fin hf ho (by omega) (by omega)]
theorem rows_fin {hs : Hs} (hf : hs.rule.way = .fin) (ho : OkH hs) {s : Stand} (ok : OkS hs s) {c : Change} (hc : c ∈ changesAt hs s) (hg : hs.goes = false) {k : Nat} (hk : k < s.shown.length) : ∃ w, (rowsOf hs s c)[k]? = some w ∧ w.before = some k := by
  have un := undrawn_get (Md.changed s c).1 k (by rw [changed_len]; exact hk)
  unfold rowsOf
  split
  · unfold drawnRows
    rw [filter_ng (changed_ng ok hc hg), fold_fin hf ho ok.few hk (by rw [undrawn_len, changed_len]; exact Nat.le_refl _)]
    exact ⟨_, un, rfl⟩
  · exact ⟨_, un, rfl⟩
theorem rows_held {hs : Hs} {s : Stand} {c : Change} {l : Look} (hl : s.look = some l) (h : l.age < hs.rule.hold) : rowsOf hs s c = undrawnRows (Md.changed s c).1 := by
  unfold rowsOf
  rw [if_neg]
  unfold mustDraw
  rw [hl]
  simp [h]
/-! ### what holds of a look along a course -/
def keeps (hs : Hs) : Prop := hs.rule.hold ≥ hs.most ∨ hs.goes = false
def stays (hs : Hs) : Prop := hs.rule.hold ≥ hs.most ∨ (hs.goes = false ∧ hs.rule.way = .fin)
structure LookOk (hs : Hs) (shown : List Item) (l : Look) : Prop where
  place : keeps hs → l.place < shown.length
  spot : stays hs → l.spot = l.place
  young : l.spot ≠ l.place → ∀ i, shown[l.place.toNat]? = some i → i.stood < l.age
def Inv (hs : Hs) (s : Stand) : Prop := ∀ l, s.look = some l → LookOk hs s.shown l
theorem inv_settled {hs : Hs} (ho : OkH hs) {s : Stand} (ok : OkS hs s) (inv : Inv hs s) {c : Change} (hc : c ∈ changesAt hs s) : ∀ l, (settled hs s c).look = some l → LookOk hs (settled hs s c).shown l := by
  obtain ⟨e1, e2⟩ := settled_rows hs s c
  rw [e1, e2]
  intro l' hl'
  cases hl : s.look with
  | none => rw [hl] at hl'; cases hl'
  | some l =>
    rw [hl] at hl'
    cases hl'
    have o := ok.look l hl
    have v := inv l hl
    have hp := o.place
    have ha := o.age
    have len : (stoodOn hs.rule (Md.changed s c).1 (rowsOf hs s c)).length = (rowsOf hs s c).length := by simp [stoodOn]
    have grow : keeps hs → s.shown.length ≤ (rowsOf hs s c).length := by
      rintro (h | h)
      · rw [rows_held hl (by omega), undrawn_len, changed_len]
        exact Nat.le_refl _
      · exact rows_grow ok hc h
    refine ⟨fun h => ?_, fun h => ?_, fun h i hi => ?_⟩
    · have h1 := v.place h
      have h2 := grow h
      rw [len]
      show l.place < _
      omega
    · have hk : keeps hs := h.imp id fun z => z.1
      have h1 := v.place hk
      have h2 := v.spot h
      obtain ⟨k, hk'⟩ := Int.eq_ofNat_of_zero_le hp.1
      have hkl : k < s.shown.length := by omega
      have at_ : ∃ w, (rowsOf hs s c)[k]? = some w ∧ w.before = some k := by
        rcases h with h | h
        · rw [rows_held hl (by omega)]
          exact ⟨_, undrawn_get (Md.changed s c).1 k (by rw [changed_len]; exact hkl), rfl⟩
        · exact rows_fin h.2 ho ok hc h.1 hkl
      obtain ⟨w, q1, q2⟩ := at_
      show spotOf (rowsOf hs s c) l.spot = l.place
      rw [h2, hk']
      exact spot_at (rows_nb hs s c) q1 q2
    · show i.stood < l.age + 1
      have hi : (stoodOn hs.rule (Md.changed s c).1 (rowsOf hs s c))[l.place.toNat]? = some i := hi
      have h : spotOf (rowsOf hs s c) l.spot ≠ l.place := h
      have hlt := (List.getElem?_eq_some_iff.mp hi).1
      rw [len] at hlt
      have hw : (rowsOf hs s c)[l.place.toNat]? = some (rowsOf hs s c)[l.place.toNat] := List.getElem?_eq_getElem hlt
      generalize (rowsOf hs s c)[l.place.toNat] = w at hw
      rw [stood_get _ _ _ _ _ hw] at hi
      cases hi
      show (if w.before = some l.place.toNat then minI (((Md.changed s c).1.getD l.place.toNat ⟨0, false, 0⟩).stood + 1) hs.rule.guard else 0) < l.age + 1
      split
      · rename_i e
        have hb := rows_before hs s c (List.mem_of_getElem? hw) e
        have ne : l.spot ≠ l.place := by
          intro z
          apply h
          have := spot_at (rows_nb hs s c) hw e
          rw [z]
          rw [Int.toNat_of_nonneg hp.1] at this
          exact this
        have old : ∃ j, s.shown[l.place.toNat]? = some j := ⟨_, List.getElem?_eq_getElem hb⟩
        obtain ⟨j, hj⟩ := old
        have y := v.young ne j hj
        have st : ((Md.changed s c).1.getD l.place.toNat ⟨0, false, 0⟩).stood = j.stood := by
          cases c with
          | none => simp [Md.changed, hj]
          | come r => simp [Md.changed, hj]
          | go p =>
            simp only [Md.changed]
            by_cases q : p.toNat = l.place.toNat
            · rw [q]
              have hd : s.shown.getD l.place.toNat ⟨0, false, 0⟩ = j := by simp [hj]
              rw [hd]
              simp [hb]
            · simp [List.getElem?_set_ne q, hj]
        rw [st]
        unfold minI
        split <;> omega
      · omega
theorem inv_tick {hs : Hs} (ho : OkH hs) {s : Stand} (ok : OkS hs s) (inv : Inv hs s) {m : Change × Hand} (hm : can hs s m = true) : Inv hs (tick hs s m).1 := by
  obtain ⟨c, d⟩ := m
  obtain ⟨h1, h2⟩ := Bool.and_eq_true_iff.mp hm
  replace h1 : c ∈ changesAt hs s := of_decide_eq_true h1
  replace h2 : d ∈ handsAt hs (settled hs s c) := of_decide_eq_true h2
  have h1' : c ∈ changesAt hs s := h1
  cases d with
  | none => exact inv_settled ho ok inv h1'
  | tap => exact fun l hl => by cases hl
  | look p =>
    intro l hl
    cases hl
    have hp : 0 ≤ p ∧ p < (settled hs s c).shown.length := by
      unfold handsAt at h2
      split at h2
      · simp at h2
        obtain ⟨k, h3, rfl⟩ := h2
        omega
      · split at h2
        · simp at h2
        · split at h2 <;> simp at h2
    exact ⟨fun _ => hp.2, fun _ => rfl, fun z => absurd rfl z⟩
theorem inv_first (hs : Hs) : Inv hs (first0 hs) := fun l hl => by cases hl
/-! ### what does not come -/
def Bar (hs : Hs) (x : Str) : Prop := (hs.rule.hold ≥ hs.most ∧ (x = "other" ∨ x = "empty")) ∨ (hs.rule.guard ≥ hs.most ∧ x = "other") ∨ (hs.goes = false ∧ (x = "gone" ∨ x = "empty" ∨ (x = "other" ∧ hs.rule.way = .fin))) ∨ (hs.rule.guard = 0 ∧ x = "back")
theorem not_bar {hs : Hs} (ho : OkH hs) {s : Stand} (ok : OkS hs s) (inv : Inv hs s) {c : Change} (hc : c ∈ changesAt hs s) {l : Look} (hl : (settled hs s c).look = some l) : ¬ Bar hs (Md.outcomeOf hs.rule (settled hs s c).shown l) := by
  have v := inv_settled ho ok inv hc l hl
  have M := settled_okM ho ok hc
  obtain ⟨a1, a2, a3⟩ := M.look l hl
  have s1 : (("empty" : Str) = "other") = False := by decide +kernel
  have s2 : (("empty" : Str) = "gone") = False := by decide +kernel
  have s3 : (("empty" : Str) = "back") = False := by decide +kernel
  have s4 : (("back" : Str) = "other") = False := by decide +kernel
  have s5 : (("back" : Str) = "empty") = False := by decide +kernel
  have s6 : (("back" : Str) = "gone") = False := by decide +kernel
  have s7 : (("gone" : Str) = "other") = False := by decide +kernel
  have s8 : (("gone" : Str) = "empty") = False := by decide +kernel
  have s9 : (("gone" : Str) = "back") = False := by decide +kernel
  have t1 : (("right" : Str) = "other") = False := by decide +kernel
  have t2 : (("right" : Str) = "empty") = False := by decide +kernel
  have t3 : (("right" : Str) = "gone") = False := by decide +kernel
  have t4 : (("right" : Str) = "back") = False := by decide +kernel
  have t5 : (("other" : Str) = "empty") = False := by decide +kernel
  have t6 : (("other" : Str) = "gone") = False := by decide +kernel
  have t7 : (("other" : Str) = "back") = False := by decide +kernel
  unfold Md.outcomeOf
  by_cases h1 : ((settled hs s c).shown.length : Int) ≤ l.place
  · rw [if_pos h1]
    have nk : ¬ keeps hs := fun k => by have := v.place k; omega
    rintro (h | h | h | h)
    · exact nk (.inl h.1)
    · rw [s1] at h; exact h.2
    · exact nk (.inr h.1)
    · rw [s3] at h; exact h.2
  · rw [if_neg h1]
    dsimp only
    have hp : l.place.toNat < (settled hs s c).shown.length := by omega
    have hi : (settled hs s c).shown[l.place.toNat]? = some (settled hs s c).shown[l.place.toNat] := List.getElem?_eq_getElem hp
    have hd : (settled hs s c).shown.getD l.place.toNat ⟨0, false, 0⟩ = (settled hs s c).shown[l.place.toNat] := by simp [hp]
    rw [hd]
    have oi := M.items _ (List.getElem_mem hp)
    generalize (settled hs s c).shown[l.place.toNat] = i at hi oi
    by_cases h2 : i.stood < hs.rule.guard
    · rw [if_pos h2]
      have := oi.stood
      rintro (h | h | h | h)
      · rw [s4, s5] at h; simp at h
      · rw [s4] at h; exact h.2
      · rw [s4, s5, s6] at h; simp at h
      · omega
    · rw [if_neg h2]
      by_cases h3 : i.gone = true
      · rw [if_pos h3]
        have := oi.gone h3
        rintro (h | h | h | h)
        · rw [s7, s8] at h; simp at h
        · rw [s7] at h; exact h.2
        · rw [this] at h; exact absurd h.1 (by decide)
        · rw [s9] at h; exact h.2
      · rw [if_neg h3]
        by_cases h4 : l.spot = l.place
        · rw [if_pos h4, Bar, t1, t2, t3, t4]
          simp
        · rw [if_neg h4]
          have y := v.young h4 i hi
          have ns : ¬ stays hs := fun k => h4 (v.spot k)
          rintro (h | h | h | h)
          · exact ns (.inl h.1)
          · omega
          · rw [t5, t6] at h
            simp at h
            exact ns (.inr h)
          · rw [t7] at h; exact h.2
theorem tick_bar {hs : Hs} (ho : OkH hs) {s : Stand} (ok : OkS hs s) (inv : Inv hs s) {m : Change × Hand} (hm : can hs s m = true) (hf : (tick hs s m).2 ≠ "") : ¬ Bar hs (tick hs s m).2 := by
  obtain ⟨c, d⟩ := m
  obtain ⟨h1, h2⟩ := Bool.and_eq_true_iff.mp hm
  replace h1 : c ∈ changesAt hs s := of_decide_eq_true h1
  replace h2 : d ∈ handsAt hs (settled hs s c) := of_decide_eq_true h2
  cases d with
  | none => exact absurd rfl hf
  | look p => exact absurd rfl hf
  | tap =>
    cases hl : (settled hs s c).look with
    | none => exact absurd hl (look_of h2)
    | some l =>
      have e : (tick hs s (c, .tap)).2 = Md.outcomeOf hs.rule (settled hs s c).shown l := by
        show (match (settled hs s c).look with | none => ("" : Str) | some l => Md.outcomeOf hs.rule (settled hs s c).shown l) = _
        rw [hl]
      rw [e]
      exact not_bar ho ok inv h1 hl
end Md

namespace K14
open PySem PySem.Spec PyProof.Rows L2 Dr Ev Und Md
example : F_law_house = houseF := rfl
example : F_law_home = homeF := rfl
example : F_law_way = wayF := rfl
/-! ### what is barred -/
def barL (hs : Hs) : List Str :=
  let a : List Str := if hs.most ≤ hs.rule.hold then ["other", "empty"] else []
  let b := if hs.most ≤ hs.rule.guard then a ++ (["other"] : List Str) else a
  let c := if hs.goes = false then b ++ ((["gone", "empty"] : List Str) ++ (if hs.rule.way = .fin then (["other"] : List Str) else [])) else b
  c ++ (if hs.rule.guard = 0 then (["back"] : List Str) else [])
theorem bar_of {hs : Hs} {x : Str} (h : x ∈ barL hs) : Bar hs x := by
  unfold barL at h
  dsimp only at h
  rcases List.mem_append.mp h with h | h
  · have hb : x ∈ (if hs.most ≤ hs.rule.guard then (if hs.most ≤ hs.rule.hold then (["other", "empty"] : List Str) else []) ++ (["other"] : List Str) else (if hs.most ≤ hs.rule.hold then (["other", "empty"] : List Str) else [])) → Bar hs x := by
      intro h
      have ha : x ∈ (if hs.most ≤ hs.rule.hold then (["other", "empty"] : List Str) else []) → Bar hs x := by
        intro h
        split at h
        · rename_i q
          exact .inl ⟨q, by simpa using h⟩
        · simp at h
      split at h
      · rename_i q
        rcases List.mem_append.mp h with h | h
        · exact ha h
        · exact .inr (.inl ⟨q, by simpa using h⟩)
      · exact ha h
    split at h
    · rename_i q
      rcases List.mem_append.mp h with h | h
      · exact hb h
      · refine .inr (.inr (.inl ⟨q, ?_⟩))
        rcases List.mem_append.mp h with h | h
        · simp at h
          rcases h with h | h
          · exact .inl h
          · exact .inr (.inl h)
        · split at h
          · rename_i w
            exact .inr (.inr ⟨by simpa using h, w⟩)
          · simp at h
    · exact hb h
  · split at h
    · rename_i q
      exact .inr (.inr (.inr ⟨q, by simpa using h⟩))
    · simp at h
theorem cat_lL {n : Nat} {h : List O} {xs ys : List D} (hn : h[n]? = some (.lst xs)) (hl : xs.length + ys.length ≤ 1000) : oAdd mkLst (.loc n) (.lst ys) h = .ret (.loc h.length, h ++ [.lst (xs ++ ys)]) := by
  show oCatL mkLst (.loc n) (.lst ys) h = _
  unfold oCatL lstD
  dsimp only
  rw [hn]
  exact if_pos (by rw [List.length_append]; unfold lim; omega)
theorem cat_fL {h : List O} {xs ys : List D} (hl : xs.length + ys.length ≤ 1000) : oAdd mkLst (.lst xs) (.lst ys) h = .ret (.loc h.length, h ++ [.lst (xs ++ ys)]) := by
  show oCatL mkLst (.lst xs) (.lst ys) h = _
  unfold oCatL lstD
  exact if_pos (by rw [List.length_append]; unfold lim; omega)
theorem rep_b (x : D) (b : Bool) (h : List O) : oMul mkFz (.lst [x]) (.int (if b = true then 1 else 0)) h = .ret (.lst (if b = true then [x] else []), h) := by cases b <;> rfl
theorem int_b (b : Bool) (h : List O) : oInt [.bl b] h = .ret (.int (if b = true then 1 else 0), h) := by cases b <;> rfl
abbrev bSg (hs : Hs) (n : Nat) : Sg := [some (hD hs), some (wD hs.rule), some (.int hs.most), some (.loc n)]
/-- the list that is made, wherever it stands -/
structure At (z : Out × List O) (hs : Hs) (xs : List Str) : Prop where
  ex : ∃ n, z.1 = .nx (bSg hs n) ∧ z.2[n]? = some (.lst (xs.map .str))
theorem ap_lst {n : Nat} {h : List O} {xs : List D} {y : D} (hn : h[n]? = some (.lst xs)) (hl : xs.length ≤ 100) : mAppend (.loc n) [y] h = .ret (.non, h.set n (.lst (xs ++ [y]))) := by
  unfold mAppend
  dsimp only
  rw [hn]
  exact if_pos (by unfold lim; omega)
theorem barred_ok (hs : Hs) : ∃ g, F_law_barred [hD hs] [] = .ret (.lst ((barL hs).map .str), g) := by
  have e0 : sPar3 1 2 3 (fCons (f2 oGet (fVar 0) (fC (.str "way"))) (fCons (f2 oGet (f2 oGet (fVar 0) (fC (.str "lag"))) (fC (.int 1))) (fCons (fN mkLst fNil) fNil))) [some (hD hs), none, none, none] [] = .ret (.nx (bSg hs 0), [.lst []]) := by
    unfold sPar3
    rw [M.bind_ap, r_cons (r_2 rfl r_c (h_way hs _)) (r_cons (r_2 (r_2 rfl r_c (h_lag hs _)) r_c rfl) (r_cons (r_lst r_nil (by decide)) r_nil))]
    rfl
  generalize ha : (if hs.most ≤ hs.rule.hold then (["other", "empty"] : List Str) else []) = a
  generalize hb : (if hs.most ≤ hs.rule.guard then a ++ (["other"] : List Str) else a) = b
  generalize hc : (if hs.goes = false then b ++ ((["gone", "empty"] : List Str) ++ (if hs.rule.way = .fin then (["other"] : List Str) else [])) else b) = c
  have la : a.length ≤ 2 := by rw [← ha]; split <;> simp
  have lb : b.length ≤ 3 := by
    rw [← hb]
    split
    · simp; omega
    · omega
  have lc : c.length ≤ 6 := by
    rw [← hc]
    split
    · split <;> simp <;> omega
    · omega
  have s1 : ∃ n h, sIf (t2 (pI fun i j => decide (j ≤ i)) (f2 oGet (fVar 1) (fC (.str "hold"))) (fVar 2)) (sSet 3 (f2 (oAdd mkLst) (fVar 3) (fN mkFz (fCons (fC (.str "other")) (fCons (fC (.str "empty")) fNil))))) sNx (bSg hs 0) [.lst []] = .ret (.nx (bSg hs n), h) ∧ h[n]? = some (.lst (a.map .str)) := by
    by_cases q : hs.most ≤ hs.rule.hold
    · rw [if_pos q] at ha
      subst ha
      exact ⟨_, _, r_ift (r_t2 (r_2 rfl r_c (w_hold hs.rule _)) rfl (by simp [pI, q])) (r_setN (r_2 rfl (r_fz (r_cons r_c (r_cons r_c r_nil)) (by decide)) (cat_lL (n := 0) (xs := []) rfl (by simp))) rfl), rfl⟩
    · rw [if_neg q] at ha
      subst ha
      exact ⟨0, _, r_iff (r_t2 (r_2 rfl r_c (w_hold hs.rule _)) rfl (by simp [pI, q])) r_nx, rfl⟩
  obtain ⟨n1, h1, e1, g1⟩ := s1
  have s2 : ∃ n h, sIf (t2 (pI fun i j => decide (j ≤ i)) (f2 oGet (fVar 1) (fC (.str "guard"))) (fVar 2)) (sExpr (fM mAppend (fVar 3) (fCons (fC (.str "other")) fNil))) sNx (bSg hs n1) h1 = .ret (.nx (bSg hs n), h) ∧ h[n]? = some (.lst (b.map .str)) := by
    by_cases q : hs.most ≤ hs.rule.guard
    · rw [if_pos q] at hb
      subst hb
      refine ⟨n1, _, r_ift (r_t2 (r_2 rfl r_c (w_guard hs.rule _)) rfl (by simp [pI, q])) (r_expr (r_M rfl g1 (r_cons r_c r_nil) (ap_lst g1 (by simp; omega)))), ?_⟩
      rw [List.getElem?_set_self (List.getElem?_eq_some_iff.mp g1).1]
      simp
    · rw [if_neg q] at hb
      subst hb
      exact ⟨n1, _, r_iff (r_t2 (r_2 rfl r_c (w_guard hs.rule _)) rfl (by simp [pI, q])) r_nx, g1⟩
  obtain ⟨n2, h2, e2, g2⟩ := s2
  have s3 : ∃ n h, sIf (tNotF (tVal (f2 oGet (fVar 0) (fC (.str "goes"))))) (sSet 3 (f2 (oAdd mkLst) (f2 (oAdd mkFz) (fVar 3) (fN mkFz (fCons (fC (.str "gone")) (fCons (fC (.str "empty")) fNil)))) (f2 (oMul mkFz) (fN mkFz (fCons (fC (.str "other")) fNil)) (fN oInt (fCons (f2 (cmpV (pEq fun b => b)) (f2 oGet (fVar 1) (fC (.str "way"))) (fC (.str "end"))) fNil))))) sNx (bSg hs n2) h2 = .ret (.nx (bSg hs n), h) ∧ h[n]? = some (.lst (c.map .str)) := by
    cases q : hs.goes with
    | false =>
      rw [if_pos q] at hc
      have ew : pEq (fun b => b) h2 (.str hs.rule.way.s) (.str "end") = some (decide (hs.rule.way = .fin)) := eqWay hs.rule.way .fin h2
      have tv := r_tnot (r_tval (s := bSg hs n2) (h := h2) (b := hs.goes) (fa := f2 oGet (fVar 0) (fC (.str "goes"))) (r_2 rfl r_c (h_goes hs h2)))
      rw [q] at tv
      refine ⟨_, _, r_ift tv (r_setN (r_2 (r_2 rfl (r_fz (r_cons r_c (r_cons r_c r_nil)) (by decide)) (cat_lf g2 (by simp; omega))) (r_2 (r_fz (r_cons r_c r_nil) (by decide)) (r_N (r_cons (r_2 (r_2 rfl r_c (w_way hs.rule _)) r_c (r_cmpV ew)) r_nil) (int_b _ _)) (rep_b _ _ _)) (cat_fL (by rw [List.length_append, List.length_map]; split <;> simp <;> omega))) rfl), ?_⟩
      rw [List.getElem?_concat_length, ← hc]
      by_cases w : hs.rule.way = .fin <;> simp [w]
    | true =>
      rw [if_neg (by rw [q]; decide)] at hc
      subst hc
      have tv := r_tnot (r_tval (s := bSg hs n2) (h := h2) (b := hs.goes) (fa := f2 oGet (fVar 0) (fC (.str "goes"))) (r_2 rfl r_c (h_goes hs h2)))
      rw [q] at tv
      exact ⟨n2, _, r_iff tv r_nx, g2⟩
  obtain ⟨n3, h3, e3, g3⟩ := s3
  have eg : pEq (fun b => b) h3 (.int hs.rule.guard) (.int 0) = some (hs.rule.guard == 0) := eqI (fun b => b) _ _ _
  have e4 : (f2 (oAdd mkFz) (fVar 3) (f2 (oMul mkFz) (fN mkFz (fCons (fC (.str "back")) fNil)) (fN oInt (fCons (f2 (cmpV (pEq fun b => b)) (f2 oGet (fVar 1) (fC (.str "guard"))) (fC (.int 0))) fNil)))) (bSg hs n3) h3 = .ret (.lst (c.map .str ++ (if (hs.rule.guard == 0) = true then [.str "back"] else [])), h3) :=
    r_2 rfl (r_2 (r_fz (r_cons r_c r_nil) (by decide)) (r_N (r_cons (r_2 (r_2 rfl r_c (w_guard hs.rule _)) r_c (r_cmpV eg)) r_nil) (int_b _ _)) (rep_b _ _ _)) (cat_lf g3 (by rw [List.length_map]; split <;> simp <;> omega))
  have fin : (c.map .str ++ (if (hs.rule.guard == 0) = true then [D.str "back"] else [])) = (barL hs).map .str := by
    unfold barL
    dsimp only
    rw [ha, hb, hc]
    by_cases q : hs.rule.guard = 0 <;> simp [q]
  rw [fin] at e4
  refine ⟨h3, ?_⟩
  refine mkF_of (o := .rt (.lst ((barL hs).map .str))) (h1 := h3) rfl ?_ rfl
  show b_law_barred [some (hD hs), none, none, none] [] = _
  unfold b_law_barred
  exact r_seq e0 (r_seq e1 (r_seq e2 (r_seq e3 (r_ret e4))))
theorem nl_strs (xs : List Str) : noL (.lst (xs.map .str)) = true := by simpa [noL] using noLs_map (f := D.str) (fun _ => rfl) xs
theorem p_barred (hs : Hs) (h : List O) : oPure F_law_barred [hD hs] h = .ret (.lst ((barL hs).map .str), h) := pure_ret h (barred_ok hs) rfl (nl_strs _)
end K14

namespace K14
open PySem PySem.Spec PyProof.Rows L2 Dr Ev Und Md
theorem a_gsub {fo fi : Sg → M D} {s : Sg} {h : List O} {x : D} {P : Sg × List O → Prop} (a : Al (fo s h) fun r => Al (fi s r.2) fun q => ∃ h3, oPut r.1 q.1 x q.2 = .ret ((), h3) ∧ P (s, h3)) : Al (Ev.gSub fo fi x s h) P := by
  unfold Ev.gSub
  refine al_bind (a.mono fun r q => al_bind (q.mono fun q z => ?_))
  obtain ⟨h3, e, z⟩ := z
  exact al_bind (a_of e ⟨z⟩)
abbrev lSg (a b c d : Option D) : Sg := [none, some .draw, none, a, b, c, d]
abbrev st2 (hs : Hs) (r : Rl) : List O := [hO 1 hs, wO r]
theorem l_lag (hs : Hs) (r : Rl) : oGet (.loc 0) (.str "lag") (st2 hs r) = .ret (.tup [.int hs.least, .int hs.most], st2 hs r) := by kernel_rfl
theorem l_way (hs : Hs) (r : Rl) : oGet (.loc 0) (.str "way") (st2 hs r) = .ret (.loc 1, st2 hs r) := by kernel_rfl
theorem l_pins (hs : Hs) (r : Rl) : oGet (.loc 1) (.str "pins") (st2 hs r) = .ret (.int r.pins, st2 hs r) := by kernel_rfl
theorem put_hold (hs : Hs) (r : Rl) (v : Int) : oPut (.loc 1) (.str "hold") (.int v) (st2 hs r) = .ret ((), st2 hs { r with hold := v }) := by kernel_rfl
theorem put_guard (hs : Hs) (r : Rl) (v : Int) : oPut (.loc 1) (.str "guard") (.int v) (st2 hs r) = .ret ((), st2 hs { r with guard := v }) := by kernel_rfl
theorem put_pins (hs : Hs) (r : Rl) (v : Int) : oPut (.loc 1) (.str "pins") (.int v) (st2 hs r) = .ret ((), st2 hs { r with pins := v }) := by kernel_rfl
theorem fz_home (hs : Hs) : frzK far (.loc 0) (st2 hs hs.rule) = some (hD hs, [.dead, .dead]) := by kernel_rfl
theorem fz_same {x : D} (hx : noL x = true) (h : List O) : frzK far x h = some (x, h) := by
  show frzK (39 + 1) x h = _
  cases x <;> (rw [frzK]; rw [if_pos hx])
  all_goals (intros; rename_i z; cases z)
theorem r_sfz {s s1 : Sg} {h h1 : List O} {i : Nat} {x y : D} (e0 : s[i]? = some (some x)) (e : frzK far x h = some (y, h1)) (hs : s.set i (some y) = s1) : sFz i s h = .ret (.nx s1, h1) := by
  subst hs
  unfold sFz
  rw [e0]
  dsimp only
  rw [e]
/-- one of two values, drawn -/
theorem pick_two {P : D × List O → Prop} {h : List O} {x y : D} (hx : noL x = true) (hy : noL y = true) (a : P (x, h)) (b : P (y, h)) : Al (oPure F_law_pick [.draw, .lst [x, y]] h) P :=
  p_pick (by simp) (by simp) (by simp [noLs, hx, hy]) fun z hz => by
    simp at hz
    rcases hz with rfl | rfl
    · exact a
    · exact b
theorem pick_three {P : D × List O → Prop} {h : List O} {x y z : D} (hx : noL x = true) (hy : noL y = true) (hz : noL z = true) (a : P (x, h)) (b : P (y, h)) (c : P (z, h)) : Al (oPure F_law_pick [.draw, .lst [x, y, z]] h) P :=
  p_pick (by simp) (by simp) (by simp [noLs, hx, hy, hz]) fun w hw => by
    simp at hw
    rcases hw with rfl | rfl | rfl
    · exact a
    · exact b
    · exact c
theorem empty_ne (h : List O) : pEq (fun b => !b) h (.lst []) (.lst []) = some false := by rw [pEq_T _ h rfl rfl]; rfl
/-- the last three steps -/
theorem tail_ok (hs : Hs) (ho : OkH hs) (a c d : Option D) : Al ((sSeq (sSeq (sFz 3) (sSet 5 (fN (oPure F_law_results) (fCons (fVar 1) (fCons (fN (oPure F_law_house) (fCons (fVar 3) fNil)) (fCons (fC (.int 30)) fNil))))))
  (sSeq (sSeq (sFz 3) (sIf (t2 (pEq fun b => !b) (fLc [6] (fSrc noF (fVar 5)) (gSet 6) (t2 (pInA false) (fVar 6) (fN (oPure F_law_barred) (fCons (fVar 3) fNil))) (fVar 6)) (fN mkFz fNil)) (sRet (fC (.bl false))) sNx))
  (sIf (t2 (pEq fun b => !b) (fLc [6] (fSrc noF (fVar 5)) (gSet 6) (t2 (pInA true) (fVar 6) (fN mkFz (fCons (fC (.str "back")) (fCons (fC (.str "empty")) (fCons (fC (.str "gone")) (fCons (fC (.str "other")) (fCons (fC (.str "right")) fNil))))))) (fVar 6)) (fN mkFz fNil)) (sRet (fC (.bl false))) sNx))) (lSg (some (.loc 0)) a c d) (st2 hs hs.rule)) fun r => okNx 7 r = true := by
  refine a_seq (a_seq (a_of (r := (.nx (lSg (some (hD hs)) a c d), [.dead, .dead])) (r_sfz rfl (fz_home hs) rfl) (a_seqk ?_)))
  refine a_set (a_N (a_of (r_cons rfl (r_cons (r_N (r_cons rfl r_nil) (p_hse hs ho _)) (r_cons r_c r_nil))) ?_))
  refine a_pure (by simp [noLs, nl_H, noL]) ((results_all hs ho (Inv hs) (fun x => ¬ Bar hs x) (inv_first hs) fun s m ok hI cn => ⟨inv_tick ho ok hI cn, fun hf => tick_bar ho ok hI cn fun z => ?_⟩).mono ?_)
  · rw [z] at hf
    exact absurd hf (by decide +kernel)
  rintro _ ⟨xs, rfl, hf, hq, hl⟩
  refine ⟨_, frz_noL (n := 39) (nl_strs xs), a_seqk ?_⟩
  simp only [List.set_cons_succ, List.set_cons_zero]
  have okx : ∀ x ∈ xs, okT 23 (.str x) = true := fun x hx => by simpa [okT] using five_ok x (hf x hx)
  have barfive : ∀ x ∈ barL hs, x ∈ five := by
    intro x hx
    rcases bar_of hx with h | h | h | h
    · rcases h.2 with rfl | rfl <;> simp [five]
    · rw [h.2]; simp [five]
    · rcases h.2 with rfl | rfl | h
      · simp [five]
      · simp [five]
      · rw [h.1]; simp [five]
    · rw [h.2]; simp [five]
  have lc1 : fLc [6] (fSrc noF (fVar 5)) (gSet 6) (t2 (pInA false) (fVar 6) (fN (oPure F_law_barred) (fCons (fVar 3) fNil))) (fVar 6) (lSg (some (hD hs)) a (some (.lst (xs.map .str))) d) [.dead, .dead] = .ret (.lst [], [.dead, .dead]) := by
    rw [lcV (fun _ => none) (sr_lst xs D.str rfl rfl) (by omega) fun x hx => by
      have e := pInA_fz (h := [O.dead, O.dead]) (okx x hx) (okTs_strs barfive)
      rw [any_str, decide_eq_false fun z => hq x hx (bar_of z)] at e
      exact body_none (s1 := lSg (some (hD hs)) a (some (.lst (xs.map .str))) (some (.str x))) rfl (r_t2 rfl (r_N (r_cons rfl r_nil) (p_barred hs _)) e)]
    simp
  have lc2 : fLc [6] (fSrc noF (fVar 5)) (gSet 6) (t2 (pInA true) (fVar 6) (fN mkFz (fCons (fC (.str "back")) (fCons (fC (.str "empty")) (fCons (fC (.str "gone")) (fCons (fC (.str "other")) (fCons (fC (.str "right")) fNil))))))) (fVar 6) (lSg (some (hD hs)) a (some (.lst (xs.map .str))) d) [.dead, .dead] = .ret (.lst [], [.dead, .dead]) := by
    rw [lcV (fun _ => none) (sr_lst xs D.str rfl rfl) (by omega) fun x hx => by
      have e := pNInA_fz (h := [O.dead, O.dead]) (okx x hx) (okTs_strs (xs := five) fun _ z => z)
      rw [any_str, decide_eq_true (hf x hx)] at e
      exact body_none (s1 := lSg (some (hD hs)) a (some (.lst (xs.map .str))) (some (.str x))) rfl (r_t2 rfl (r_fz (r_cons r_c (r_cons r_c (r_cons r_c (r_cons r_c (r_cons r_c r_nil))))) (by decide)) e)]
    simp
  refine a_seq (a_seq (a_of (r := (.nx (lSg (some (hD hs)) a (some (.lst (xs.map .str))) d), [.dead, .dead])) (r_sfz rfl (fz_same (nl_hD hs) _) rfl) (a_seqk ?_)))
  refine a_if (a_of (r := (false, [.dead, .dead])) (r_t2 lc1 (r_fz r_nil (by decide)) (empty_ne _)) ?_)
  dsimp only
  rw [if_neg (by decide)]
  refine a_nx (a_seqk ?_)
  refine a_if (a_of (r := (false, [.dead, .dead])) (r_t2 lc2 (r_fz r_nil (by decide)) (empty_ne _)) ?_)
  dsimp only
  rw [if_neg (by decide)]
  exact a_nx rfl
/-- one drawn parameter is put otherwise -/
def Near (most : Int) (r r1 : Rl) : Prop := ∃ v : Int, (v = 0 ∨ (v = most ∧ most < 3)) ∧ (r1 = { r with hold := v } ∨ r1 = { r with guard := v } ∨ r1 = { r with pins := v })
theorem near_ok {hs : Hs} (ho : OkH hs) {r1 : Rl} (h : Near hs.most hs.rule r1) : OkR r1 := by
  have o := ho.rule
  have l := ho.lag
  obtain ⟨v, hv, h⟩ := h
  have hv : 0 ≤ v ∧ v ≤ 2 := by rcases hv with rfl | ⟨rfl, h⟩ <;> omega
  rcases h with rfl | rfl | rfl
  · exact ⟨o.still, by show 0 ≤ v ∧ v ≤ 3; omega, o.pins, o.guard⟩
  · exact ⟨o.still, o.hold, o.pins, by show 0 ≤ v ∧ v ≤ 3; omega⟩
  · exact ⟨o.still, o.hold, hv, o.guard⟩
def bodyB : Sg → M Out :=
  (sSeq (sSet 3 (fN F_law_home (fCons (fVar 1) (fCons (fC (.int 4)) (fCons (fC (.int 3)) fNil)))))
  (sSeq (sSet 4 (f2 oGet (f2 oGet (fVar 3) (fC (.str "lag"))) (fC (.int 1))))
  (sSeq (sAsg (fIf (t2 (pI fun i j => decide (i < j)) (fVar 4) (fC (.int 3))) (fN (oPure F_law_pick) (fCons (fVar 1) (fCons (fN mkFz (fCons (fC (.int 0)) (fCons (fVar 4) fNil))) fNil))) (fC (.int 0))) (Ev.gSub (f2 oGet (fVar 3) (fC (.str "way"))) (fN (oPure F_law_pick) (fCons (fVar 1) (fCons (fN mkFz (fCons (fC (.str "hold")) (fCons (fC (.str "guard")) (fCons (fC (.str "pins")) fNil)))) fNil)))))
  (sSeq (sIf (t2 (pEq fun b => b) (fN oTake (fCons (fVar 1) (fCons (fC (.int 3)) fNil))) (fC (.int 0))) (sSeq (sAsg (fN (o2I fun i j => if j < i then j else i) (fCons (fC (.int 2)) (fCons (f2 oGet (f2 oGet (fVar 3) (fC (.str "way"))) (fC (.str "pins"))) fNil))) (Ev.gSub (f2 oGet (fVar 3) (fC (.str "way"))) (fC (.str "pins"))))
  (sAsg (fVar 4) (Ev.gSub (f2 oGet (fVar 3) (fC (.str "way"))) (fN (oPure F_law_pick) (fCons (fVar 1) (fCons (fN mkFz (fCons (fC (.str "hold")) (fCons (fC (.str "guard")) fNil))) fNil)))))) sNx)
  (sSeq (sSeq (sFz 3) (sSet 5 (fN (oPure F_law_results) (fCons (fVar 1) (fCons (fN (oPure F_law_house) (fCons (fVar 3) fNil)) (fCons (fC (.int 30)) fNil))))))
  (sSeq (sSeq (sFz 3) (sIf (t2 (pEq fun b => !b) (fLc [6] (fSrc noF (fVar 5)) (gSet 6) (t2 (pInA false) (fVar 6) (fN (oPure F_law_barred) (fCons (fVar 3) fNil))) (fVar 6)) (fN mkFz fNil)) (sRet (fC (.bl false))) sNx))
  (sIf (t2 (pEq fun b => !b) (fLc [6] (fSrc noF (fVar 5)) (gSet 6) (t2 (pInA true) (fVar 6) (fN mkFz (fCons (fC (.str "back")) (fCons (fC (.str "empty")) (fCons (fC (.str "gone")) (fCons (fC (.str "other")) (fCons (fC (.str "right")) fNil))))))) (fVar 6)) (fN mkFz fNil)) (sRet (fC (.bl false))) sNx)))))))
theorem law_al : Al (bodyB (drawS 7) []) fun r => okNx 7 r = true := by
  unfold bodyB
  refine a_seq (a_set (a_N (a_of (r_cons rfl (r_cons r_c (r_cons r_c r_nil))) (home_all (by decide) (by decide) (by decide) (by decide) fun hs ho => a_seqk ?_))))
  show Al _ _
  refine a_seq (a_of (r := (.nx (lSg (some (.loc 0)) (some (.int hs.most)) none none), st2 hs hs.rule)) (r_setN (r_2 (r_2 rfl r_c (l_lag hs hs.rule)) r_c rfl) rfl) (a_seqk ?_))
  -- the second part, from any rule that is near
  have two : ∀ r1 : Rl, OkR r1 → Al (seqK (sSeq (sIf (t2 (pEq fun b => b) (fN oTake (fCons (fVar 1) (fCons (fC (.int 3)) fNil))) (fC (.int 0))) (sSeq (sAsg (fN (o2I fun i j => if j < i then j else i) (fCons (fC (.int 2)) (fCons (f2 oGet (f2 oGet (fVar 3) (fC (.str "way"))) (fC (.str "pins"))) fNil))) (Ev.gSub (f2 oGet (fVar 3) (fC (.str "way"))) (fC (.str "pins"))))
      (sAsg (fVar 4) (Ev.gSub (f2 oGet (fVar 3) (fC (.str "way"))) (fN (oPure F_law_pick) (fCons (fVar 1) (fCons (fN mkFz (fCons (fC (.str "hold")) (fCons (fC (.str "guard")) fNil))) fNil)))))) sNx)
      ((sSeq (sSeq (sFz 3) (sSet 5 (fN (oPure F_law_results) (fCons (fVar 1) (fCons (fN (oPure F_law_house) (fCons (fVar 3) fNil)) (fCons (fC (.int 30)) fNil))))))
  (sSeq (sSeq (sFz 3) (sIf (t2 (pEq fun b => !b) (fLc [6] (fSrc noF (fVar 5)) (gSet 6) (t2 (pInA false) (fVar 6) (fN (oPure F_law_barred) (fCons (fVar 3) fNil))) (fVar 6)) (fN mkFz fNil)) (sRet (fC (.bl false))) sNx))
  (sIf (t2 (pEq fun b => !b) (fLc [6] (fSrc noF (fVar 5)) (gSet 6) (t2 (pInA true) (fVar 6) (fN mkFz (fCons (fC (.str "back")) (fCons (fC (.str "empty")) (fCons (fC (.str "gone")) (fCons (fC (.str "other")) (fCons (fC (.str "right")) fNil))))))) (fVar 6)) (fN mkFz fNil)) (sRet (fC (.bl false))) sNx)))))
      (.nx (lSg (some (.loc 0)) (some (.int hs.most)) none none)) (st2 hs r1)) fun r => okNx 7 r = true := by
    intro r1 ok1
    have lag := ho.lag
    have okOf : ∀ r, OkR r → OkH { hs with rule := r } := fun r h => ⟨h, ho.room, ho.top, ho.many, ho.lag⟩
    refine a_seqk (a_seq (a_if (a_t2 (a_N ?_))))
    refine a_of (r_cons rfl (r_cons r_c r_nil)) (a_take (by decide) (by decide) fun i1 h1 => ?_)
    refine a_of r_c ⟨_, eqI (fun b => b) (i1 : Nat) 0 _, ?_⟩
    dsimp only
    by_cases q : (((i1 : Nat) : Int) == 0) = true
    · rw [if_pos q]
      have mi : o2I (fun i j => if j < i then j else i) [.int 2, .int r1.pins] (st2 hs r1) = .ret (.int (if r1.pins < 2 then r1.pins else 2), st2 hs r1) := rfl
      have hp := ok1.pins
      refine a_seq (a_asg (a_of (r_N (r_cons r_c (r_cons (r_2 (r_2 rfl r_c (l_way hs r1)) r_c (l_pins hs r1)) r_nil)) mi) (a_of (r_gsub (r_2 rfl r_c (l_way hs r1)) r_c (put_pins hs r1 _)) (a_seqk ?_))))
      generalize hr2 : ({ r1 with pins := if r1.pins < 2 then r1.pins else 2 } : Rl) = r2
      have ok2 : OkR r2 := by rw [← hr2]; exact ⟨ok1.still, ok1.hold, by show 0 ≤ (if r1.pins < 2 then r1.pins else 2) ∧ (if r1.pins < 2 then r1.pins else 2) ≤ 2; split <;> omega, ok1.guard⟩
      refine a_asg (a_of rfl (a_gsub (a_of (r_2 rfl r_c (l_way hs r2)) (a_N (a_of (r_cons rfl (r_cons (r_fz (r_cons r_c (r_cons r_c r_nil)) (by decide)) r_nil)) (pick_two rfl rfl ?_ ?_))))))
      · refine ⟨_, put_hold hs r2 hs.most, a_seqk ?_⟩
        exact tail_ok { hs with rule := { r2 with hold := hs.most } } (okOf _ ⟨ok2.still, by show 0 ≤ hs.most ∧ hs.most ≤ 3; omega, ok2.pins, ok2.guard⟩) _ _ _
      · refine ⟨_, put_guard hs r2 hs.most, a_seqk ?_⟩
        exact tail_ok { hs with rule := { r2 with guard := hs.most } } (okOf _ ⟨ok2.still, ok2.hold, ok2.pins, by show 0 ≤ hs.most ∧ hs.most ≤ 3; omega⟩) _ _ _
    · rw [if_neg q]
      exact a_nx (a_seqk (tail_ok { hs with rule := r1 } (okOf _ ok1) _ _ _))
  have one : ∀ v : Int, (v = 0 ∨ (v = hs.most ∧ hs.most < 3)) → Al (Ev.gSub (f2 oGet (fVar 3) (fC (.str "way"))) (fN (oPure F_law_pick) (fCons (fVar 1) (fCons (fN mkFz (fCons (fC (.str "hold")) (fCons (fC (.str "guard")) (fCons (fC (.str "pins")) fNil)))) fNil))) (.int v) (lSg (some (.loc 0)) (some (.int hs.most)) none none) (st2 hs hs.rule)) fun q => ∃ r1, OkR r1 ∧ q = (lSg (some (.loc 0)) (some (.int hs.most)) none none, st2 hs r1) := by
    intro v hv
    refine a_gsub (a_of (r_2 rfl r_c (l_way hs hs.rule)) (a_N (a_of (r_cons rfl (r_cons (r_fz (r_cons r_c (r_cons r_c (r_cons r_c r_nil))) (by decide)) r_nil)) (pick_three rfl rfl rfl ?_ ?_ ?_))))
    · exact ⟨_, put_hold hs hs.rule v, _, near_ok ho ⟨v, hv, .inl rfl⟩, rfl⟩
    · exact ⟨_, put_guard hs hs.rule v, _, near_ok ho ⟨v, hv, .inr (.inl rfl)⟩, rfl⟩
    · exact ⟨_, put_pins hs hs.rule v, _, near_ok ho ⟨v, hv, .inr (.inr rfl)⟩, rfl⟩
  have val : Al (fIf (t2 (pI fun i j => decide (i < j)) (fVar 4) (fC (.int 3))) (fN (oPure F_law_pick) (fCons (fVar 1) (fCons (fN mkFz (fCons (fC (.int 0)) (fCons (fVar 4) fNil))) fNil))) (fC (.int 0)) (lSg (some (.loc 0)) (some (.int hs.most)) none none) (st2 hs hs.rule)) fun r => ∃ v : Int, (v = 0 ∨ (v = hs.most ∧ hs.most < 3)) ∧ r = (.int v, st2 hs hs.rule) := by
    refine a_ifx (a_t2 (a_of rfl (a_of r_c ⟨_, rfl, ?_⟩)))
    dsimp only
    by_cases q : hs.most < 3
    · rw [if_pos (by simpa using q)]
      exact a_N (a_of (r_cons rfl (r_cons (r_fz (r_cons r_c (r_cons rfl r_nil)) (Nat.le_of_ble_eq_true rfl)) r_nil)) (pick_two rfl rfl ⟨0, .inl rfl, rfl⟩ ⟨hs.most, .inr ⟨rfl, q⟩, rfl⟩))
    · rw [if_neg (by simpa using q)]
      exact a_of r_c ⟨0, .inl rfl, rfl⟩
  refine a_seq (a_asg (val.mono ?_))
  rintro _ ⟨v, hv, rfl⟩
  refine (one v hv).mono ?_
  rintro _ ⟨r1, ok1, rfl⟩
  exact two r1 ok1
theorem nx_al {n : Nat} {m : Tr (Out × List O)} (h : Al m fun r => okNx n r = true) : Nx n m := ⟨fun X => h.all.mono2 (fun _ q => q) fun _ _ _ z => z.elim⟩
theorem law_body : Nx 7 (bodyB (drawS 7) []) := nx_al law_al
end K14

namespace K14
open PySem PySem.Spec PyProof.Rows L2 Dr Ev Und
section
variable {P : Program} {w : World} {K : PySem.W.Frag} {mg : Str → Option Value} {base : Heap}
abbrev sBegin : Stmt := topS 52
abbrev sBlend : Stmt := topS 53
abbrev sTake : Stmt := topS 54
theorem scBegin : FnScope ["script", "great", "cell"] ["script"] (defScope sBegin) := ⟨rfl, rfl, rfl, by decide +kernel, rfl, by decide +kernel, by decide +kernel⟩
theorem scBlend : FnScope ["draw", "turn", "found", "prime", "blend", "cell"] ["draw"] (defScope sBlend) := ⟨rfl, rfl, rfl, by decide +kernel, rfl, by decide +kernel, by decide +kernel⟩
theorem scTake : FnScope ["draw", "size", "found"] ["draw", "size"] (defScope sTake) := ⟨rfl, rfl, rfl, by decide +kernel, rfl, by decide +kernel, by decide +kernel⟩
theorem ok_take {f fB : Addr} {fd fdB : FuncData} (F : Fun K "_law_take" "_law_take" sTake f fd) (GB : FnOk P w K mg base CX0 2 fB fdB ["draw"] spBlend) (kB : PySem.W.keepIn K (.ref fB) = true) (bB : L2.Binds K fdB ["draw"] []) (gB : mg "_law_blend" = some (.ref fB)) (mi : mg "int" = none) :
    FnOk P w K mg base CX0 3 f fd ["draw", "size"] spTake := by
  refine F.ok scTake (fun vs H Q E h => ?_) (fun cdv A outer s H vs Q E hr h => ?_)
  · obtain ⟨d, g, c, m, rfl, _⟩ := h
    rfl
  · obtain ⟨d, g, c, m, rfl, D, h0, hm, k⟩ := h
    have hu := hu_of hr
    obtain ⟨⟨gs, cs, r, t, hd, hg, hc⟩, gc⟩ := id D
    have dg := D.dg
    have dc := D.dc
    refine ⟨_, C8.pss_cut (ps_if (PW.pt (pw_and (pt_cmpR op_eq (pe_dget hu (pv 0) pe_str (fun _ _ => rfl)) pe_int (nomark _)) (pw_and1 (pt_cmpR (op_neD hr.units) (pe_dget hu (pv 0) pe_str (fun _ _ => rfl)) (pe_lst pa_nil) (nomark _)))))
        (pss_one (ps_dput hu (pv 0) pe_str (pe_bm PySem.F.plainAttrs_list PySem.F.slot_list_pop PySem.F.type_list_pop mt_popAt (pe_dget hu (pv 0) pe_str (fun _ _ => rfl)) (pa_cons pe_int pa_nil)) rfl)) pss_nil)
      (C8.pss_cut (ps_if (pt_cmpR op_eq (pe_dget hu (pv 0) pe_str (fun _ _ => rfl)) pe_int (nomark _))
        (pss_one (ps_dput hu (pv 0) pe_str (pe_call GB hr (by rfl) gB kB bB .nil pass0 (pa_cons (pv 0) pa_nil)) rfl)) pss_nil)
      (pss_cons (ps_set (i := 2) scTake.nd rfl (Or.inl rfl) (pe_op op_mod (pe_callTy call_int1 (by rfl) mi (by decide +kernel) (pa_cons (pe_dget hu (pv 0) pe_str (fun _ _ => rfl)) pa_nil)) (pv 1)))
      (pss_cons (ps_dput hu (pv 0) pe_str (pe_op op_fdiv (pe_dget hu (pv 0) pe_str (fun _ _ => rfl)) (pv 1)) rfl)
      (pss_one (ps_ret (pv 2)))))), ?_⟩
    -- between the statements: the draws, somehow
    refine ⟨fun σ H1 => σ = [some (.ref d), some (.int m), none] ∧ Dw H1 d g c ∧ Fr2 d g H H1, ?_, ?_⟩
    · refine ⟨_, rfl, d, _, rfl, dg_of hd (k_rest g c r t), rfl, _, rfl, ?_⟩
      refine ite2 (fun _ => ?_) (fun _ => iteF ⟨rfl, D, Fr2.refl H⟩)
      refine ⟨_, rfl, d, _, rfl, dg_of hd (k_great g c r t), Nat.zero_le _, fun p np => ?_⟩
      have hg' : (upd H p (.lst [])) g = some (.lst (gs.map V.int)) := by rw [upd_ne (ne_of_none hg np)]; exact hg
      have hd' : (upd H p (.lst [])) d = some (.dK (kD g c r t)) := by rw [upd_ne (ne_of_none hd np)]; exact hd
      refine ⟨_, _, .lst (SqL.of hg') (ints_dp gs), .lst (SqL.of upd_same) .nil, ints_shaped gs, by decide +kernel, _, rfl, ?_⟩
      cases gs with
      | nil => exact iteF ⟨rfl, D.new np, (Fr2.refl H).new np⟩
      | cons x gs =>
        refine iteT ?_
        refine ⟨_, rfl, d, _, rfl, dg_of hd' (k_great g c r t), .inl ⟨rfl, _, SqL.of hg'⟩, g, _, 0, 0, .int x, rfl, rfl, hg', by decide, by decide, by simp [seqIndex?], rfl, ?_⟩
        have hd2 : (upd (upd H p (.lst [])) g (.lst (((x :: gs).map V.int).eraseIdx 0))) d = some (.dK (kD g c r t)) := by rw [upd_ne dg]; exact hd'
        refine ⟨_, rfl, d, _, rfl, dp_of hd2 (p_rest g c r t x) (kD_len g c r t), rfl, ⟨⟨gs, cs, x, t, upd_same, ?_, ?_⟩, gc⟩, fun b o bd bg e => ?_⟩
        · rw [upd_ne dg.symm, upd_same]
          rfl
        · rw [upd_ne dc.symm, upd_ne gc.symm, upd_ne (ne_of_none hc np)]
          exact hc
        · rw [upd_ne bd, upd_ne bg, upd_ne (ne_of_none e np)]
          exact e
    · rintro σ H1 ⟨rfl, D1, fr1⟩
      obtain ⟨⟨gs1, cs1, r1, t1, hd1, hg1, hc1⟩, _⟩ := id D1
      refine ⟨fun σ H2 => σ = [some (.ref d), some (.int m), none] ∧ Dw H2 d g c ∧ Fr2 d g H H2, ?_, ?_⟩
      · refine ⟨_, rfl, d, _, rfl, dg_of hd1 (k_rest g c r1 t1), rfl, _, rfl, ?_⟩
        refine ite2 (fun _ => ?_) (fun _ => ⟨rfl, D1, fr1⟩)
        refine ⟨_, rfl, d, g, c, gs1, cs1, r1, t1, rfl, hd1, hg1, hc1, gc, fun i H2 k2 hd2 => ?_⟩
        refine ⟨_, rfl, d, _, rfl, dp_of hd2 (p_rest g c r1 (t1 + 1) i) (kD_len g c r1 (t1 + 1)), rfl, ⟨⟨gs1, cs1, i, t1 + 1, upd_same, ?_, ?_⟩, gc⟩, fun b o bd bg e => ?_⟩
        · rw [upd_ne dg.symm]
          exact k2 _ _ dg.symm hg1
        · rw [upd_ne dc.symm]
          exact k2 _ _ dc.symm hc1
        · rw [upd_ne bd]
          exact k2 _ _ bd (fr1 _ _ bd bg e)
      · rintro σ H2 ⟨rfl, D2, fr2⟩
        obtain ⟨⟨gs2, cs2, r2, t2, hd2, hg2, hc2⟩, _⟩ := id D2
        refine ⟨_, rfl, d, _, rfl, dg_of hd2 (k_rest g c r2 t2), .inl ⟨_, rfl, _, rfl, _, _, rfl, rfl, h0, ?_⟩⟩
        refine ⟨_, rfl, d, _, rfl, dg_of hd2 (k_rest g c r2 t2), _, rfl, _, _, rfl, rfl, ⟨h0, by omega⟩, ?_⟩
        refine ⟨_, rfl, d, _, rfl, dp_of hd2 (p_rest g c r2 t2 _) (kD_len g c r2 t2), _, rfl, ?_⟩
        refine k _ _ (Int.emod_nonneg _ (by omega)) (Int.emod_lt_of_pos _ h0) ⟨⟨gs2, cs2, r2 / m, t2, upd_same, ?_, ?_⟩, gc⟩ fun b o bd bg e => ?_
        · rw [upd_ne dg.symm]
          exact hg2
        · rw [upd_ne dc.symm]
          exact hc2
        · rw [upd_ne bd]
          exact fr2 _ _ bd bg e
theorem prime_ok {i : Nat} {x : V} (h : [V.int 2147483629, V.int 2147483587, V.int 2147483579, V.int 2147483563][i]? = some x) : ∃ p : Int, x = .int p ∧ 0 < p ∧ p < 2147483648 := by
  match i, h with
  | 0, h => exact ⟨_, (Option.some.inj h).symm, by decide, by decide⟩
  | 1, h => exact ⟨_, (Option.some.inj h).symm, by decide, by decide⟩
  | 2, h => exact ⟨_, (Option.some.inj h).symm, by decide, by decide⟩
  | 3, h => exact ⟨_, (Option.some.inj h).symm, by decide, by decide⟩
  | n + 4, h => simp at h
theorem ok_blend {f : Addr} {fd : FuncData} (F : Fun K "_law_blend" "_law_blend" sBlend f fd) (mi : mg "int" = none) :
    FnOk P w K mg base CX0 2 f fd ["draw"] spBlend := by
  refine F.ok scBlend (fun vs H Q E h => ?_) (fun cdv A outer s H vs Q E hr h => ?_)
  · obtain ⟨d, g, c, gs, cs, r, t, rfl, _⟩ := h
    rfl
  · obtain ⟨d, g, c, gs, cs, r, t, rfl, hd, hg, hc, gc, k⟩ := h
    have hu := hu_of hr
    have dc : d ≠ c := ne_of hd hc (by intro z; cases z)
    refine ⟨_, pss_cons (ps_set (i := 1) scBlend.nd rfl (Or.inl rfl) (pe_op op_add (pe_dget hu (pv 0) pe_str (fun _ _ => rfl)) pe_int))
      (pss_cons (ps_dput hu (pv 0) pe_str (pv 1) rfl)
      (pss_cons (ps_set (i := 2) scBlend.nd rfl (Or.inl rfl) pe_int)
      (pss_cons (ps_for PassesOwn.never rfl (pi_list (pe_lst (pa_cons pe_int (pa_cons pe_int (pa_cons pe_int (pa_cons pe_int pa_nil)))))) (pg_name (i := 3) scBlend.nd rfl (Or.inl rfl))
        (pss_cons (ps_set (i := 4) scBlend.nd rfl (Or.inl rfl) (pe_op op_mod (pe_callTy call_int1 (by rfl) mi (by decide +kernel) (pa_cons (pe_op op_add (pe_op op_mul (pv 1) pe_int) (pe_op op_fdiv (pv 3) pe_int)) pa_nil)) (pv 3)))
        (pss_cons (ps_for PassesOwn.never rfl (pi_list (pe_dget hu (pv 0) pe_str (fun _ _ => rfl))) (pg_name (i := 5) scBlend.nd rfl (Or.inl rfl))
          (pss_one (ps_set (i := 4) scBlend.nd rfl (Or.inl rfl) (pe_op op_mod (pe_callTy call_int1 (by rfl) mi (by decide +kernel) (pa_cons (pe_op op_add (pe_op op_mul (pv 4) pe_int) (pv 5)) pa_nil)) (pv 3)))))
        (pss_one (ps_set (i := 2) scBlend.nd rfl (Or.inl rfl) (pe_op op_add (pe_op op_mul (pv 2) pe_int) (pe_op op_mod (pe_callTy call_int1 (by rfl) mi (by decide +kernel) (pa_cons (pe_op op_pow (pv 4) pe_int) pa_nil)) (pv 3))))))))
      (pss_one (ps_ret (pv 2)))))), ?_⟩
    refine ⟨_, rfl, d, _, rfl, dg_of hd (k_turn g c r t), _, _, rfl, rfl, ?_⟩
    refine ⟨_, rfl, _, rfl, d, _, rfl, dp_of hd (p_turn g c r t (t + 1)) (kD_len g c r t), ?_⟩
    have hd1 : (upd H d (.dK (kD g c r (t + 1)))) d = some (.dK (kD g c r (t + 1))) := upd_same
    have hc1 : (upd H d (.dK (kD g c r (t + 1)))) c = some (.lst (cs.map V.int)) := by rw [upd_ne dc.symm]; exact hc
    have k1 : ∀ b o, b ≠ d → H b = some o → (upd H d (.dK (kD g c r (t + 1)))) b = some o := fun b o bd e => by rw [upd_ne bd]; exact e
    revert hd1 hc1 k1
    generalize upd H d (.dK (kD g c r (t + 1))) = H1
    intro hd1 hc1 k1
    -- the four primes
    refine ⟨by decide, fun l nl => ?_⟩
    have hd2 : (upd H1 l (.lst [V.int 2147483629, V.int 2147483587, V.int 2147483579, V.int 2147483563])) d = some (.dK (kD g c r (t + 1))) := by rw [upd_ne (ne_of_none hd1 nl)]; exact hd1
    have hc2 : (upd H1 l (.lst [V.int 2147483629, V.int 2147483587, V.int 2147483579, V.int 2147483563])) c = some (.lst (cs.map V.int)) := by rw [upd_ne (ne_of_none hc1 nl)]; exact hc1
    have hl2 : (upd H1 l (.lst [V.int 2147483629, V.int 2147483587, V.int 2147483579, V.int 2147483563])) l = some (.lst [V.int 2147483629, V.int 2147483587, V.int 2147483579, V.int 2147483563]) := upd_same
    have k2 : ∀ b o, b ≠ d → H b = some o → (upd H1 l (.lst [V.int 2147483629, V.int 2147483587, V.int 2147483579, V.int 2147483563])) b = some o := fun b o bd e => by rw [upd_ne (ne_of_none (k1 b o bd e) nl)]; exact k1 b o bd e
    refine ⟨l, rfl, ⟨_, SqL.of hl2⟩, for_list (K := K) (a := l) (xs := [V.int 2147483629, V.int 2147483587, V.int 2147483579, V.int 2147483563]) (fun i σ H' => ∃ (n : Int) (v3 v4 v5 : Option V), σ = [some (.ref d), some (.int (t + 1)), some (.int n), v3, v4, v5] ∧ H' = upd H1 l (.lst [V.int 2147483629, V.int 2147483587, V.int 2147483579, V.int 2147483563]))
      ⟨0, none, none, none, rfl, rfl⟩ (fun i σ H' _ ⟨_, _, _, _, _, e⟩ => e ▸ SqL.of hl2) ?_ ?_⟩
    · rintro i x σ H' hi ⟨n, v3, v4, v5, rfl, rfl⟩
      obtain ⟨p, rfl, hp0, hp1⟩ := prime_ok hi
      refine ⟨_, rfl, _, _, rfl, rfl, .inr (by decide), _, rfl, _, _, rfl, rfl, ⟨by decide, by decide⟩, _, _, rfl, rfl, .inl ⟨_, rfl, _, rfl, _, _, rfl, rfl, hp0, ?_⟩⟩
      refine ⟨_, rfl, d, _, rfl, dg_of hd2 (k_cells g c r (t + 1)), c, rfl, ⟨_, SqL.of hc2⟩, for_list (K := K) (a := c) (xs := cs.map V.int) (fun i σ H' => ∃ (y : Int) (v5 : Option V), σ = [some (.ref d), some (.int (t + 1)), some (.int n), some (.int p), some (.int y), v5] ∧ 0 ≤ y ∧ y < p ∧ H' = upd H1 l (.lst [V.int 2147483629, V.int 2147483587, V.int 2147483579, V.int 2147483563]))
        ⟨_, v5, rfl, Int.emod_nonneg _ (by omega), Int.emod_lt_of_pos _ hp0, rfl⟩ (fun i σ H' _ ⟨_, _, _, _, _, e⟩ => e ▸ SqL.of hc2) ?_ ?_⟩
      · rintro j x σ H' hj ⟨y, v5, rfl, y0, y1, rfl⟩
        obtain ⟨z, rfl⟩ : ∃ z, x = V.int z := by
          rw [List.getElem?_map] at hj
          cases e : cs[j]? with
          | none => rw [e] at hj; cases hj
          | some z => rw [e] at hj; exact ⟨z, (Option.some.inj hj).symm⟩
        exact ⟨_, rfl, _, _, rfl, rfl, .inr (by decide), _, rfl, _, _, rfl, rfl, .inl ⟨_, rfl, _, rfl, _, _, rfl, rfl, hp0, _, _, rfl, Int.emod_nonneg _ (by omega), Int.emod_lt_of_pos _ hp0, rfl⟩⟩
      · rintro σ H' ⟨y, v5, rfl, y0, y1, rfl⟩
        exact ⟨_, rfl, _, _, rfl, rfl, .inr (by decide), _, rfl, _, _, rfl, rfl, ⟨by decide, by decide, by omega⟩, .inl ⟨_, rfl, _, rfl, _, _, rfl, rfl, hp0, _, _, rfl, rfl, _, _, _, _, rfl, rfl⟩⟩
    · rintro σ H' ⟨n, v3, v4, v5, rfl, rfl⟩
      exact ⟨_, rfl, k n _ k2 hd2⟩
theorem ok_begin {f : Addr} {fd : FuncData} (F : Fun K "_law_begin" "_law_begin" sBegin f fd) (ma : mg "abs" = none) :
    FnOk P w K mg base CX0 2 f fd ["script"] (spBegin K) := by
  refine F.ok scBegin (fun vs H Q E h => ?_) (fun cdv A outer s H vs Q E hr h => ?_)
  · obtain ⟨a, ns, rfl, _⟩ := h
    rfl
  · obtain ⟨a, ns, rfl, hS, hlen, k⟩ := h
    refine ⟨_, pss_cons (ps_setLc (i := 1) (own := [("cell", 2)]) (g := gName 2) rfl scBegin.nd rfl rfl (sw_true rfl rfl rfl (by decide +kernel)) (pi_list (pv 0)) (blkOk_by (N := ["script", "great", "cell"]) (sc := defScope sBegin) (by decide +kernel))
        (fun _ _ _ _ _ => pg_name (i := 2) scBegin.nd rfl (Or.inl rfl)) (fun _ _ _ _ _ => pts_one (pt_cmpR op_ge (pe_callB call_abs (by rfl) ma (by decide +kernel) (pa_cons (pv 2) pa_nil)) (pe_op op_pow pe_int pe_int) (nomark _)))
        (fun _ _ _ _ _ => pe_op op_sub (pe_callB call_abs (by rfl) ma (by decide +kernel) (pa_cons (pv 2) pa_nil)) (pe_op op_pow pe_int pe_int)))
      (pss_one (ps_ret (pe_disp (pps_cons pe_str (pv 1) (pps_cons pe_str pe_int (pps_cons pe_str
        (pe_lc (own := [("cell", 2)]) (g := gName 2) rfl scBegin.nd (pi_list (pv 0)) (blkOk_by (N := ["script", "great", "cell"]) (sc := defScope sBegin) (by decide +kernel))
          (fun _ _ _ _ _ => pg_name (i := 2) scBegin.nd rfl (Or.inl rfl)) (fun _ _ _ _ _ => pts_nil) (fun _ _ _ _ _ => pe_callB call_abs (by rfl) ma (by decide +kernel) (pa_cons (pv 2) pa_nil)))
        (pps_cons pe_str pe_int pps_nil)))) (by rfl) (by rfl) (fun z => by cases z) (by decide)))), ?_⟩
    have item : ∀ (i : Nat) (x : V), (ns.map V.int)[i]? = some x → ∃ z, x = V.int z := fun i x hi => by
      rw [List.getElem?_map] at hi
      cases e : ns[i]? with
      | none => rw [e] at hi; cases hi
      | some z => rw [e] at hi; exact ⟨z, (Option.some.inj hi).symm⟩
    -- great
    refine ⟨_, rfl, a, rfl, ⟨_, hS⟩, fun g ng => lc_list (K := K) (a := a) (xs := ns.map V.int) (fun i H' => ∃ gs : List Int, H' = upd H g (.lst (gs.map V.int)) ∧ gs.length ≤ i) ⟨[], rfl, Nat.le_refl _⟩
      (fun i H' _ ⟨gs, e, _⟩ => e ▸ (same_upd ng).seq hS) ?_ ?_⟩
    · rintro i x H' hi ⟨gs, rfl, hgl⟩
      have hil : i < (ns.map V.int).length := (List.getElem?_eq_some_iff.mp hi).1
      rw [List.length_map] at hil
      obtain ⟨z, rfl⟩ := item i x hi
      refine ⟨rfl, _, rfl, _, rfl, _, _, rfl, rfl, ⟨by decide, by decide, by decide⟩, _, _, rfl, rfl, _, rfl, ?_⟩
      refine ite2 (fun _ => ?_) (fun _ => ⟨gs, rfl, by omega⟩)
      refine ⟨_, rfl, _, rfl, _, _, rfl, rfl, ⟨by decide, by decide, by decide⟩, _, _, rfl, rfl, _, upd_same, ?_, ?_⟩
      · rw [List.length_map]
        exact small1000 (by omega)
      · refine ⟨gs ++ [(if z < 0 then -z else z) - 10 ^ (Int.toNat 18)], ?_, ?_⟩
        · rw [upd_upd, List.map_append]
          rfl
        · rw [List.length_append]
          show gs.length + 1 ≤ i + 1
          omega
    · rintro H1 ⟨gs, rfl, _⟩
      intro d nd
      have dg : d ≠ g := fun e => by
        subst e
        rw [upd_same] at nd
        cases nd
      have nd0 : H d = none := (same_upd ng).free nd
      have s1 : Same H (upd (upd H g (.lst (gs.map V.int))) d (.dK [])) := (same_upd ng).trans (same_upd nd)
      refine ⟨_, rfl, ?_⟩
      refine ⟨_, rfl, a, rfl, ⟨_, s1.seq hS⟩, fun c nc => lc_list (K := K) (a := a) (xs := ns.map V.int) (fun i H' => ∃ cs : List Int, H' = upd (upd (upd H g (.lst (gs.map V.int))) d (.dK [])) c (.lst (cs.map V.int)) ∧ cs.length ≤ i) ⟨[], rfl, Nat.le_refl _⟩
        (fun i H' _ ⟨cs, e, _⟩ => e ▸ (s1.trans (same_upd nc)).seq hS) ?_ ?_⟩
      · rintro i x H' hi ⟨cs, rfl, hcl⟩
        have hil : i < (ns.map V.int).length := (List.getElem?_eq_some_iff.mp hi).1
        rw [List.length_map] at hil
        obtain ⟨z, rfl⟩ := item i x hi
        refine ⟨rfl, ?_⟩
        dsimp only [tYes]
        rw [if_pos rfl]
        refine ⟨_, rfl, _, rfl, _, upd_same, ?_, ?_⟩
        · rw [List.length_map]
          exact small1000 (by omega)
        · refine ⟨cs ++ [if z < 0 then -z else z], ?_, ?_⟩
          · rw [upd_upd, List.map_append]
            rfl
          · rw [List.length_append]
            show cs.length + 1 ≤ i + 1
            omega
      · rintro H2 ⟨cs, rfl, _⟩
        have cd : c ≠ d := fun e => by
          subst e
          rw [upd_same] at nc
          cases nc
        have nc1 : (upd H g (.lst (gs.map V.int))) c = none := by
          rw [upd_ne cd] at nc
          exact nc
        have cg : c ≠ g := fun e => by
          subst e
          rw [upd_same] at nc1
          cases nc1
        have nc0 : H c = none := (same_upd ng).free nc1
        refine ⟨by rw [upd_ne cd.symm, upd_same], [(.inr "great", .ref g), (.inr "rest", .int 0), (.inr "cells", .ref c), (.inr "turn", .int 0)], rfl, by show 4 ≤ 15; decide, ?_⟩
        refine k d g c _ (fun b o e => ?_) nd0 ng nc0 ⟨⟨gs, cs, 0, 0, ?_, ?_, ?_⟩, cg.symm⟩
        · rw [upd_ne (ne_of_none e nd0)]
          exact (s1.trans (same_upd nc)) b o e
        · rw [upd_same]
          exact congrArg (fun z => some (HO.dK z)) (by kernel_rfl)
        · rw [upd_ne dg.symm, upd_ne cg.symm, upd_ne dg.symm, upd_same]
        · rw [upd_ne cd, upd_same]
end
end K14

namespace K14
open PySem PySem.Spec PyProof.Rows L2 Dr Ev Und
theorem scpgoes : FnScope ["self"] ["self"] (defScope (inClass (topS 22) 5)) := ⟨rfl, rfl, rfl, by decide +kernel, rfl, by decide +kernel, by decide +kernel⟩
theorem scpguard : FnScope ["self"] ["self"] (defScope (inClass (topS 15) 5)) := ⟨rfl, rfl, rfl, by decide +kernel, rfl, by decide +kernel, by decide +kernel⟩
theorem scphold : FnScope ["self"] ["self"] (defScope (inClass (topS 15) 3)) := ⟨rfl, rfl, rfl, by decide +kernel, rfl, by decide +kernel, by decide +kernel⟩
theorem scplag : FnScope ["self"] ["self"] (defScope (inClass (topS 22) 6)) := ⟨rfl, rfl, rfl, by decide +kernel, rfl, by decide +kernel, by decide +kernel⟩
theorem scpmany : FnScope ["self"] ["self"] (defScope (inClass (topS 22) 4)) := ⟨rfl, rfl, rfl, by decide +kernel, rfl, by decide +kernel, by decide +kernel⟩
theorem scppins : FnScope ["self"] ["self"] (defScope (inClass (topS 15) 4)) := ⟨rfl, rfl, rfl, by decide +kernel, rfl, by decide +kernel, by decide +kernel⟩
theorem scproom : FnScope ["self"] ["self"] (defScope (inClass (topS 22) 2)) := ⟨rfl, rfl, rfl, by decide +kernel, rfl, by decide +kernel, by decide +kernel⟩
theorem scprule : FnScope ["self"] ["self"] (defScope (inClass (topS 22) 1)) := ⟨rfl, rfl, rfl, by decide +kernel, rfl, by decide +kernel, by decide +kernel⟩
theorem scpstill : FnScope ["self"] ["self"] (defScope (inClass (topS 15) 2)) := ⟨rfl, rfl, rfl, by decide +kernel, rfl, by decide +kernel, by decide +kernel⟩
theorem scptop : FnScope ["self"] ["self"] (defScope (inClass (topS 22) 3)) := ⟨rfl, rfl, rfl, by decide +kernel, rfl, by decide +kernel, by decide +kernel⟩
theorem scpway : FnScope ["self"] ["self"] (defScope (inClass (topS 15) 1)) := ⟨rfl, rfl, rfl, by decide +kernel, rfl, by decide +kernel, by decide +kernel⟩
def cOf (P : Program) (w : World) (a0 a1 : Addr) (dw : Option (Addr × Addr × Addr)) : Ct := ⟨2, dw, fun k => match k with | 0 => a0 | _ => a1, fun k => match k with | 0 => fl0 | 1 => fl1 | _ => [], 0, fun _ => a0, fun _ => [], P, w, [], EF⟩
abbrev slaw : Stmt := topS 62
abbrev nlaw : List Str := ["script", "draw", "turn", "home", "most", "found", "result"]
theorem sclaw : FnScope nlaw ["script"] (defScope slaw) := ⟨rfl, rfl, rfl, by decide +kernel, rfl, by decide +kernel, by decide +kernel⟩
def blaw : Sg → M Out :=
  (sSeq (sSet 3 (fN F_law_home (fCons (fVar 1) (fCons (fC (.int 4)) (fCons (fC (.int 3)) fNil)))))
  (sSeq (sSet 4 (f2 oGet (f2 oGet (fVar 3) (fC (.str "lag"))) (fC (.int 1))))
  (sSeq (sAsg (fIf (t2 (pI fun i j => decide (i < j)) (fVar 4) (fC (.int 3))) (fN (oPure F_law_pick) (fCons (fVar 1) (fCons (fN mkFz (fCons (fC (.int 0)) (fCons (fVar 4) fNil))) fNil))) (fC (.int 0))) (gSub (f2 oGet (fVar 3) (fC (.str "way"))) (fN (oPure F_law_pick) (fCons (fVar 1) (fCons (fN mkFz (fCons (fC (.str "hold")) (fCons (fC (.str "guard")) (fCons (fC (.str "pins")) fNil)))) fNil)))))
  (sSeq (sIf (t2 (pEq fun b => b) (fN oTake (fCons (fVar 1) (fCons (fC (.int 3)) fNil))) (fC (.int 0))) (sSeq (sAsg (fN (o2I fun i j => if j < i then j else i) (fCons (fC (.int 2)) (fCons (f2 oGet (f2 oGet (fVar 3) (fC (.str "way"))) (fC (.str "pins"))) fNil))) (gSub (f2 oGet (fVar 3) (fC (.str "way"))) (fC (.str "pins"))))
  (sAsg (fVar 4) (gSub (f2 oGet (fVar 3) (fC (.str "way"))) (fN (oPure F_law_pick) (fCons (fVar 1) (fCons (fN mkFz (fCons (fC (.str "hold")) (fCons (fC (.str "guard")) fNil))) fNil)))))) sNx)
  (sSeq (sSeq (sFz 3) (sSet 5 (fN (oPure F_law_results) (fCons (fVar 1) (fCons (fN (oPure F_law_house) (fCons (fVar 3) fNil)) (fCons (fC (.int 30)) fNil))))))
  (sSeq (sSeq (sFz 3) (sIf (t2 (pEq fun b => !b) (fLc [6] (fSrc noF (fVar 5)) (gSet 6) (t2 (pInA false) (fVar 6) (fN (oPure F_law_barred) (fCons (fVar 3) fNil))) (fVar 6)) (fN mkFz fNil)) (sRet (fC (.bl false))) sNx))
  (sIf (t2 (pEq fun b => !b) (fLc [6] (fSrc noF (fVar 5)) (gSet 6) (t2 (pInA true) (fVar 6) (fN mkFz (fCons (fC (.str "back")) (fCons (fC (.str "empty")) (fCons (fC (.str "gone")) (fCons (fC (.str "other")) (fCons (fC (.str "right")) fNil))))))) (fVar 6)) (fN mkFz fNil)) (sRet (fC (.bl false))) sNx)))))))
theorem chk_law : Nx 7 (blaw (drawS 7) []) := law_body
variable {P : Program} {w : World} {K : PySem.W.Frag} {mg : Str → Option Value} {base : Heap}
theorem ok_law {a0 a1 fB f : Addr} {fdB fd : FuncData} (F : Fun K "law" "law" slaw f fd) (T : ∀ dw, Tx P w K mg base (cOf P w a0 a1 dw)) (GB : FnOk P w K mg base CX0 2 fB fdB ["script"] (spBegin K)) (kB : PySem.W.keepIn K (.ref fB) = true) (bB : L2.Binds K fdB ["script"] []) (gB : mg "_law_begin" = some (.ref fB))
    (G__law_home : ∀ dw, Own P w K mg base (cOf P w a0 a1 dw) 6 "_law_home" F_law_home) (G__law_pick : ∀ dw, Own P w K mg base (cOf P w a0 a1 dw) 4 "_law_pick" F_law_pick) (G__law_take : ∀ dw, Own P w K mg base (cOf P w a0 a1 dw) 3 "_law_take" oTake) (G__law_results : ∀ dw, Own P w K mg base (cOf P w a0 a1 dw) 8 "_law_results" F_law_results) (G__law_house : ∀ dw, Own P w K mg base (cOf P w a0 a1 dw) 6 "_law_house" F_law_house) (G__law_barred : ∀ dw, Own P w K mg base (cOf P w a0 a1 dw) 1 "_law_barred" F_law_barred) : FnOk P w K mg base CX0 9 f fd ["script"] (spLaw K) := by
  refine F.ok sclaw (fun vs H Q E h => ?_) (fun cdv A outer s H vs Q E hr h => ?_)
  · obtain ⟨a, ns, rfl, _⟩ := h
    rfl
  · obtain ⟨a, ns, rfl, hS, hlen, k⟩ := h
    have nd := sclaw.nd
    have T0 := T none
    refine ⟨_, pss_cons (ps_set (i := 1) nd rfl (Or.inl rfl) (pe_call GB (hr.mono (by decide)) (by rfl) gB kB bB .nil pass0 (pa_cons (pv 0) pa_nil)))
      (pss_cons (ps_for PassesOwn.never rfl (pi_range1 rfl T0.m_range (pa_cons (pe_op op_add pe_int (pe_callB (call_min2 rfl) (by rfl) T0.m_min (by decide +kernel) (pa_cons (pe_callB call_len_seq (by rfl) T0.m_len PySem.boot_len (pa_cons (pv 0) pa_nil)) (pa_cons pe_int pa_nil)))) pa_nil)) (pg_name (i := 2) nd rfl (.inl rfl))
        (ess_any (ct := cOf P w a0 a1) (f := blaw) fun dw => (ess_cons (es_set 3 nd (ev_own (G__law_home dw).at (hr.mono (by decide)) pass_EF (ea_cons (ev_var 1) (ea_cons ev_int (ea_cons ev_int ea_nil)))))
      (ess_cons (es_set 4 nd (ev_get (units1 hr) (ev_get (units1 hr) (ev_var 3) ev_str) ev_int))
      (ess_cons (es_asg [] (ev_if (et_cmp op_lt cmp_int (ev_var 4) ev_int) (ev_pure (G__law_pick dw).at (hr.mono (by decide)) pass_EF (ea_cons (ev_var 1) (ea_cons (ev_lstF mk_fz (ea_cons ev_int (ea_cons (ev_var 4) ea_nil))) ea_nil))) ev_int) (eg_sub (units1 hr) (ev_get (units1 hr) (ev_var 3) ev_str) (ev_pure (G__law_pick dw).at (hr.mono (by decide)) pass_EF (ea_cons (ev_var 1) (ea_cons (ev_lstF mk_fz (ea_cons ev_str (ea_cons ev_str (ea_cons ev_str ea_nil)))) ea_nil)))))
      (ess_cons (es_if (et_cmp (op_eqD hr.units) cmp_eq (ev_own (G__law_take dw).at (hr.mono (by decide)) pass_EF (ea_cons (ev_var 1) (ea_cons ev_int ea_nil))) ev_int) (ess_cons (es_asg [] (ev_blt (call_min2 rfl) op_2I (T dw).m_min (by decide +kernel) (ea_cons ev_int (ea_cons (ev_get (units1 hr) (ev_get (units1 hr) (ev_var 3) ev_str) ev_str) ea_nil))) (eg_sub (units1 hr) (ev_get (units1 hr) (ev_var 3) ev_str) ev_str))
      (ess_one (es_asg [] (ev_var 4) (eg_sub (units1 hr) (ev_get (units1 hr) (ev_var 3) ev_str) (ev_pure (G__law_pick dw).at (hr.mono (by decide)) pass_EF (ea_cons (ev_var 1) (ea_cons (ev_lstF mk_fz (ea_cons ev_str (ea_cons ev_str ea_nil))) ea_nil))))))) ess_nil)
      (ess_cons (es_fz 3 (es_set 5 nd (ev_pure (G__law_results dw).at (hr.mono (by decide)) pass_EF (ea_cons (ev_var 1) (ea_cons (ev_pure (G__law_house dw).at (hr.mono (by decide)) pass_EF (ea_cons (ev_var 3) ea_nil)) (ea_cons ev_int ea_nil))))))
      (ess_cons (es_fz 3 (es_if (et_cmp (op_neD hr.units) cmp_ne (ev_lc [("result", 6)] nd (blkOk_by (N := nlaw) (sc := defScope slaw) (by decide +kernel)) (ei_seq (ev_var 5)) (fun _ _ _ _ _ _ => (eg_set 6 nd)) (fun _ _ _ _ _ _ => (ets_one (et_cmp (opr_in (units65 hr)) cmp_inA (ev_var 6) (ev_pure (G__law_barred dw).at (hr.mono (by decide)) pass_EF (ea_cons (ev_var 3) ea_nil))))) (fun _ _ _ _ _ _ => (ev_var 6))) (ev_lstF mk_fz ea_nil)) (ess_one (es_ret ev_bl)) ess_nil))
      (ess_one (es_if (et_cmp (op_neD hr.units) cmp_ne (ev_lc [("result", 6)] nd (blkOk_by (N := nlaw) (sc := defScope slaw) (by decide +kernel)) (ei_seq (ev_var 5)) (fun _ _ _ _ _ _ => (eg_set 6 nd)) (fun _ _ _ _ _ _ => (ets_one (et_cmp (opr_notIn (units65 hr)) cmp_notInA (ev_var 6) (ev_lstF mk_fz (ea_cons ev_str (ea_cons ev_str (ea_cons ev_str (ea_cons ev_str (ea_cons ev_str ea_nil))))))))) (fun _ _ _ _ _ _ => (ev_var 6))) (ev_lstF mk_fz ea_nil)) (ess_one (es_ret ev_bl)) ess_nil))))))))))
      (pss_one (ps_ret pe_bl))), ?_⟩
    refine ⟨_, rfl, a, ns, rfl, hS, hlen, fun d g e H1 s1 nd1 ng1 nc1 D1 => ?_⟩
    refine ⟨_, rfl, a, _, rfl, .inl (s1.seq hS), _, _, rfl, _, _, rfl, rfl, _, rfl, ?_, ?_, ?_⟩
    · simp only [List.length_map]; (repeat' split) <;> omega
    · simp only [List.length_map]; (repeat' split) <;> omega
    refine for_range (lo := 0) (fun i σ H' => σ.length = 7 ∧ σ[1]? = some (some (V.ref d)) ∧ Dw H' d g e) ?_ ?_ ?_
    · exact ⟨rfl, rfl, D1⟩
    rotate_left
    · exact fun σ H' _ => k H'
    rintro i σ H2 hi ⟨hl, h1, D2⟩
    exact tSx_turn (ct := cOf P w a0 a1) (dw := some (d, g, e)) (f := blaw) (n := 7) rfl rfl D2 (by decide) (by simpa using hl) (by rw [List.getElem?_set_ne (by decide)]; exact h1) chk_law fun σ H' a b c => ⟨a, b, c⟩
theorem kit_self {K : PySem.W.Frag} {t : Value} : PySem.W.kitOne K t t = some true := by
  unfold PySem.W.kitOne
  rw [if_pos (beq_self_eq_true t)]
theorem kit_ref {K : PySem.W.Frag} {C : Addr} {t : Value} {b : Bool} (h1 : PySem.W.isClsIn K C = true) (h2 : PySem.W.typeIn K (.ref C) = some (.type "type")) (h3 : PySem.W.subIn K t (.ref C) = some b) (h4 : (t == Value.ref C) = false) : PySem.W.kitOne K t (.ref C) = some b := by
  have h1' : (PySem.W.clsIn K C).isSome = true := h1
  unfold PySem.W.kitOne
  rw [if_neg (by rw [h4]; decide)]
  show (if ((PySem.W.clsIn K C).isSome && PySem.W.typeIn K (.ref C) == some (.type "type")) = true then PySem.W.subIn K t (.ref C) else none) = some b
  rw [h1', h2, if_pos (by rfl)]
  exact h3
set_option maxHeartbeats 0 in
theorem all_mk {l : PySem.W.OpenLaw} {w : World} {K : PySem.W.Frag} {h : Heap} {mg : Str → Option Value} {fa C0 C1 flaw_begin flaw_blend flaw_take flaw fd_law_pick fd_law_way fd_law_home fdis_number fdis_number_within fdis_lag fdis_one_of fd_law_rule fd_law_house tdcheck_house fdcheck_house fdfirst_standing fdare_ranks fdis_look fdis_item fdis_standing fdcheck_standing fdchanges_at fdchanged fdmust_draw fdundrawn_rows fdplace_by_way fdplace_for fddrawn_rows fdstood_on fdfollowed fdsettled_at fdhands_at fdoutcome_of fdhandled fdsteps_at fdmoments_at fdis_comparable fdstep_at fdtick_at fd_law_results fd_law_barred fi1 fi0 ppgoes fpgoes ppguard fpguard pphold fphold pplag fplag ppmany fpmany pppins fppins pproom fproom pprule fprule ppstill fpstill pptop fptop ppway fpway fqNOTHING fqTAP fqWAYS : Addr}
    {oclaw_begin kVlaw_begin dclaw_begin pmlaw_begin cdlaw_begin ctlaw_begin oclaw_blend kVlaw_blend dclaw_blend pmlaw_blend cdlaw_blend ctlaw_blend oclaw_take kVlaw_take dclaw_take pmlaw_take cdlaw_take ctlaw_take oclaw kVlaw dclaw pmlaw cdlaw ctlaw ocd_law_pick kVd_law_pick dcd_law_pick pmd_law_pick cdd_law_pick ctd_law_pick ocd_law_way kVd_law_way dcd_law_way pmd_law_way cdd_law_way ctd_law_way ocd_law_home kVd_law_home dcd_law_home pmd_law_home cdd_law_home ctd_law_home ocdis_number kVdis_number dcdis_number pmdis_number cddis_number ctdis_number ocdis_number_within kVdis_number_within dcdis_number_within pmdis_number_within cddis_number_within ctdis_number_within ocdis_lag kVdis_lag dcdis_lag pmdis_lag cddis_lag ctdis_lag ocdis_one_of kVdis_one_of dcdis_one_of pmdis_one_of cddis_one_of ctdis_one_of ocd_law_rule kVd_law_rule dcd_law_rule pmd_law_rule cdd_law_rule ctd_law_rule ocd_law_house kVd_law_house dcd_law_house pmd_law_house cdd_law_house ctd_law_house ocdcheck_house kVdcheck_house dcdcheck_house pmdcheck_house cddcheck_house ctdcheck_house ocdfirst_standing kVdfirst_standing dcdfirst_standing pmdfirst_standing cddfirst_standing ctdfirst_standing ocdare_ranks kVdare_ranks dcdare_ranks pmdare_ranks cddare_ranks ctdare_ranks ocdis_look kVdis_look dcdis_look pmdis_look cddis_look ctdis_look ocdis_item kVdis_item dcdis_item pmdis_item cddis_item ctdis_item ocdis_standing kVdis_standing dcdis_standing pmdis_standing cddis_standing ctdis_standing ocdcheck_standing kVdcheck_standing dcdcheck_standing pmdcheck_standing cddcheck_standing ctdcheck_standing ocdchanges_at kVdchanges_at dcdchanges_at pmdchanges_at cddchanges_at ctdchanges_at ocdchanged kVdchanged dcdchanged pmdchanged cddchanged ctdchanged ocdmust_draw kVdmust_draw dcdmust_draw pmdmust_draw cddmust_draw ctdmust_draw ocdundrawn_rows kVdundrawn_rows dcdundrawn_rows pmdundrawn_rows cddundrawn_rows ctdundrawn_rows ocdplace_by_way kVdplace_by_way dcdplace_by_way pmdplace_by_way cddplace_by_way ctdplace_by_way ocdplace_for kVdplace_for dcdplace_for pmdplace_for cddplace_for ctdplace_for ocddrawn_rows kVddrawn_rows dcddrawn_rows pmddrawn_rows cdddrawn_rows ctddrawn_rows ocdstood_on kVdstood_on dcdstood_on pmdstood_on cddstood_on ctdstood_on ocdfollowed kVdfollowed dcdfollowed pmdfollowed cddfollowed ctdfollowed ocdsettled_at kVdsettled_at dcdsettled_at pmdsettled_at cddsettled_at ctdsettled_at ocdhands_at kVdhands_at dcdhands_at pmdhands_at cddhands_at ctdhands_at ocdoutcome_of kVdoutcome_of dcdoutcome_of pmdoutcome_of cddoutcome_of ctdoutcome_of ocdhandled kVdhandled dcdhandled pmdhandled cddhandled ctdhandled ocdsteps_at kVdsteps_at dcdsteps_at pmdsteps_at cddsteps_at ctdsteps_at ocdmoments_at kVdmoments_at dcdmoments_at pmdmoments_at cddmoments_at ctdmoments_at ocdis_comparable kVdis_comparable dcdis_comparable pmdis_comparable cddis_comparable ctdis_comparable ocdstep_at kVdstep_at dcdstep_at pmdstep_at cddstep_at ctdstep_at ocdtick_at kVdtick_at dcdtick_at pmdtick_at cddtick_at ctdtick_at ocd_law_results kVd_law_results dcd_law_results pmd_law_results cdd_law_results ctd_law_results ocd_law_barred kVd_law_barred dcd_law_barred pmd_law_barred cdd_law_barred ctd_law_barred oci1 kVi1 dci1 pmi1 cdi1 cti1 oci0 kVi0 dci0 pmi0 cdi0 cti0 ocpgoes kVpgoes dcpgoes pmpgoes cdpgoes ctpgoes ocpguard kVpguard dcpguard pmpguard cdpguard ctpguard ocphold kVphold dcphold pmphold cdphold ctphold ocplag kVplag dcplag pmplag cdplag ctplag ocpmany kVpmany dcpmany pmpmany cdpmany ctpmany ocppins kVppins dcppins pmppins cdppins ctppins ocproom kVproom dcproom pmproom cdproom ctproom ocprule kVprule dcprule pmprule cdprule ctprule ocpstill kVpstill dcpstill pmpstill cdpstill ctpstill ocptop kVptop dcptop pmptop cdptop ctptop ocpway kVpway dcpway pmpway cdpway ctpway : Value} {odlaw_begin anlaw_begin odlaw_blend anlaw_blend odlaw_take anlaw_take odlaw anlaw odd_law_pick and_law_pick odd_law_way and_law_way odd_law_home and_law_home oddis_number andis_number oddis_number_within andis_number_within oddis_lag andis_lag oddis_one_of andis_one_of odd_law_rule and_law_rule odd_law_house and_law_house oddcheck_house andcheck_house odtdcheck_house oddfirst_standing andfirst_standing oddare_ranks andare_ranks oddis_look andis_look oddis_item andis_item oddis_standing andis_standing oddcheck_standing andcheck_standing oddchanges_at andchanges_at oddchanged andchanged oddmust_draw andmust_draw oddundrawn_rows andundrawn_rows oddplace_by_way andplace_by_way oddplace_for andplace_for odddrawn_rows anddrawn_rows oddstood_on andstood_on oddfollowed andfollowed oddsettled_at andsettled_at oddhands_at andhands_at oddoutcome_of andoutcome_of oddhandled andhandled oddsteps_at andsteps_at oddmoments_at andmoments_at oddis_comparable andis_comparable oddstep_at andstep_at oddtick_at andtick_at odd_law_results and_law_results odd_law_barred and_law_barred odi1 ani1 odi0 ani0 odpgoes anpgoes odpguard anpguard odphold anphold odplag anplag odpmany anpmany odppins anppins odproom anproom odprule anprule odpstill anpstill odptop anptop odpway anpway odqNOTHING odqTAP odqWAYS : Option Addr} {sllaw_begin sllaw_blend sllaw_take sllaw sld_law_pick sld_law_way sld_law_home sldis_number sldis_number_within sldis_lag sldis_one_of sld_law_rule sld_law_house sldcheck_house sltdcheck_house sldfirst_standing sldare_ranks sldis_look sldis_item sldis_standing sldcheck_standing sldchanges_at sldchanged sldmust_draw sldundrawn_rows sldplace_by_way sldplace_for slddrawn_rows sldstood_on sldfollowed sldsettled_at sldhands_at sldoutcome_of sldhandled sldsteps_at sldmoments_at sldis_comparable sldstep_at sldtick_at sld_law_results sld_law_barred sli1 sli0 slpgoes slpguard slphold slplag slpmany slppins slproom slprule slpstill slptop slpway slqNOTHING slqTAP slqWAYS : Array (Option Value)} {repgoes repguard rephold replag repmany reppins reproom reprule repstill reptop repway : List Value} {udcheck_house0 uqGREATEST_LAG uqGREATEST_RANK uqMOST_PINS uqMOST_ROOM uqMOST_TICKS uqMOST_WAITING uqNOTHING0 uqTAP0 uqWAYS0 uqWAYS1 uqWAYS2 : Tok} {ndcheck_house nqNOTHING nqTAP nqWAYS : Nat}
    (X : K.In h) (G : h.Ns mainGlobals mg) (hfa : mg "law" = some (.ref fa))
    (aC0 : PySem.W.nsIn K mainGlobals "Rule" = some (some (.ref C0)))
    (aC1 : PySem.W.nsIn K mainGlobals "House" = some (some (.ref C1)))
    (alaw_begin : PySem.W.nsIn K mainGlobals "_law_begin" = some (some (.ref flaw_begin)))
    (llaw_begin : K.lookup flaw_begin = some ⟨oclaw_begin, odlaw_begin, .func (PySem.W.fnOf "_law_begin" "_law_begin" (defArgs (sBegin)) (defBody (sBegin)) (defScope (sBegin)) .none kVlaw_begin dclaw_begin pmlaw_begin anlaw_begin cdlaw_begin ctlaw_begin), sllaw_begin⟩)
    (claw_begin : PySem.W.codeIn K cdlaw_begin "_law_begin" = true)
    (klaw_begin : PySem.W.keepIn K (.ref flaw_begin) = true)
    (alaw_blend : PySem.W.nsIn K mainGlobals "_law_blend" = some (some (.ref flaw_blend)))
    (llaw_blend : K.lookup flaw_blend = some ⟨oclaw_blend, odlaw_blend, .func (PySem.W.fnOf "_law_blend" "_law_blend" (defArgs (sBlend)) (defBody (sBlend)) (defScope (sBlend)) .none kVlaw_blend dclaw_blend pmlaw_blend anlaw_blend cdlaw_blend ctlaw_blend), sllaw_blend⟩)
    (claw_blend : PySem.W.codeIn K cdlaw_blend "_law_blend" = true)
    (klaw_blend : PySem.W.keepIn K (.ref flaw_blend) = true)
    (alaw_take : PySem.W.nsIn K mainGlobals "_law_take" = some (some (.ref flaw_take)))
    (llaw_take : K.lookup flaw_take = some ⟨oclaw_take, odlaw_take, .func (PySem.W.fnOf "_law_take" "_law_take" (defArgs (sTake)) (defBody (sTake)) (defScope (sTake)) .none kVlaw_take dclaw_take pmlaw_take anlaw_take cdlaw_take ctlaw_take), sllaw_take⟩)
    (claw_take : PySem.W.codeIn K cdlaw_take "_law_take" = true)
    (klaw_take : PySem.W.keepIn K (.ref flaw_take) = true)
    (alaw : PySem.W.nsIn K mainGlobals "law" = some (some (.ref flaw)))
    (llaw : K.lookup flaw = some ⟨oclaw, odlaw, .func (PySem.W.fnOf "law" "law" (defArgs (slaw)) (defBody (slaw)) (defScope (slaw)) .none kVlaw dclaw pmlaw anlaw cdlaw ctlaw), sllaw⟩)
    (claw : PySem.W.codeIn K cdlaw "law" = true)
    (klaw : PySem.W.keepIn K (.ref flaw) = true)
    (ad_law_pick : PySem.W.nsIn K mainGlobals "_law_pick" = some (some (.ref fd_law_pick)))
    (ld_law_pick : K.lookup fd_law_pick = some ⟨ocd_law_pick, odd_law_pick, .func (PySem.W.fnOf "_law_pick" "_law_pick" (defArgs (s_law_pick)) (defBody (s_law_pick)) (defScope (s_law_pick)) .none kVd_law_pick dcd_law_pick pmd_law_pick and_law_pick cdd_law_pick ctd_law_pick), sld_law_pick⟩)
    (cd_law_pick : PySem.W.codeIn K cdd_law_pick "_law_pick" = true)
    (kd_law_pick : PySem.W.keepIn K (.ref fd_law_pick) = true)
    (ad_law_way : PySem.W.nsIn K mainGlobals "_law_way" = some (some (.ref fd_law_way)))
    (ld_law_way : K.lookup fd_law_way = some ⟨ocd_law_way, odd_law_way, .func (PySem.W.fnOf "_law_way" "_law_way" (defArgs (s_law_way)) (defBody (s_law_way)) (defScope (s_law_way)) .none kVd_law_way dcd_law_way pmd_law_way and_law_way cdd_law_way ctd_law_way), sld_law_way⟩)
    (cd_law_way : PySem.W.codeIn K cdd_law_way "_law_way" = true)
    (kd_law_way : PySem.W.keepIn K (.ref fd_law_way) = true)
    (ad_law_home : PySem.W.nsIn K mainGlobals "_law_home" = some (some (.ref fd_law_home)))
    (ld_law_home : K.lookup fd_law_home = some ⟨ocd_law_home, odd_law_home, .func (PySem.W.fnOf "_law_home" "_law_home" (defArgs (s_law_home)) (defBody (s_law_home)) (defScope (s_law_home)) .none kVd_law_home dcd_law_home pmd_law_home and_law_home cdd_law_home ctd_law_home), sld_law_home⟩)
    (cd_law_home : PySem.W.codeIn K cdd_law_home "_law_home" = true)
    (kd_law_home : PySem.W.keepIn K (.ref fd_law_home) = true)
    (adis_number : PySem.W.nsIn K mainGlobals "is_number" = some (some (.ref fdis_number)))
    (ldis_number : K.lookup fdis_number = some ⟨ocdis_number, oddis_number, .func (PySem.W.fnOf "is_number" "is_number" (defArgs (sis_number)) (defBody (sis_number)) (defScope (sis_number)) .none kVdis_number dcdis_number pmdis_number andis_number cddis_number ctdis_number), sldis_number⟩)
    (cdis_number : PySem.W.codeIn K cddis_number "is_number" = true)
    (kdis_number : PySem.W.keepIn K (.ref fdis_number) = true)
    (adis_number_within : PySem.W.nsIn K mainGlobals "is_number_within" = some (some (.ref fdis_number_within)))
    (ldis_number_within : K.lookup fdis_number_within = some ⟨ocdis_number_within, oddis_number_within, .func (PySem.W.fnOf "is_number_within" "is_number_within" (defArgs (sis_number_within)) (defBody (sis_number_within)) (defScope (sis_number_within)) .none kVdis_number_within dcdis_number_within pmdis_number_within andis_number_within cddis_number_within ctdis_number_within), sldis_number_within⟩)
    (cdis_number_within : PySem.W.codeIn K cddis_number_within "is_number_within" = true)
    (kdis_number_within : PySem.W.keepIn K (.ref fdis_number_within) = true)
    (adis_lag : PySem.W.nsIn K mainGlobals "is_lag" = some (some (.ref fdis_lag)))
    (ldis_lag : K.lookup fdis_lag = some ⟨ocdis_lag, oddis_lag, .func (PySem.W.fnOf "is_lag" "is_lag" (defArgs (sis_lag)) (defBody (sis_lag)) (defScope (sis_lag)) .none kVdis_lag dcdis_lag pmdis_lag andis_lag cddis_lag ctdis_lag), sldis_lag⟩)
    (cdis_lag : PySem.W.codeIn K cddis_lag "is_lag" = true)
    (kdis_lag : PySem.W.keepIn K (.ref fdis_lag) = true)
    (adis_one_of : PySem.W.nsIn K mainGlobals "is_one_of" = some (some (.ref fdis_one_of)))
    (ldis_one_of : K.lookup fdis_one_of = some ⟨ocdis_one_of, oddis_one_of, .func (PySem.W.fnOf "is_one_of" "is_one_of" (defArgs (sis_one_of)) (defBody (sis_one_of)) (defScope (sis_one_of)) .none kVdis_one_of dcdis_one_of pmdis_one_of andis_one_of cddis_one_of ctdis_one_of), sldis_one_of⟩)
    (cdis_one_of : PySem.W.codeIn K cddis_one_of "is_one_of" = true)
    (kdis_one_of : PySem.W.keepIn K (.ref fdis_one_of) = true)
    (ad_law_rule : PySem.W.nsIn K mainGlobals "_law_rule" = some (some (.ref fd_law_rule)))
    (ld_law_rule : K.lookup fd_law_rule = some ⟨ocd_law_rule, odd_law_rule, .func (PySem.W.fnOf "_law_rule" "_law_rule" (defArgs (s_law_rule)) (defBody (s_law_rule)) (defScope (s_law_rule)) .none kVd_law_rule dcd_law_rule pmd_law_rule and_law_rule cdd_law_rule ctd_law_rule), sld_law_rule⟩)
    (cd_law_rule : PySem.W.codeIn K cdd_law_rule "_law_rule" = true)
    (kd_law_rule : PySem.W.keepIn K (.ref fd_law_rule) = true)
    (ad_law_house : PySem.W.nsIn K mainGlobals "_law_house" = some (some (.ref fd_law_house)))
    (ld_law_house : K.lookup fd_law_house = some ⟨ocd_law_house, odd_law_house, .func (PySem.W.fnOf "_law_house" "_law_house" (defArgs (s_law_house)) (defBody (s_law_house)) (defScope (s_law_house)) .none kVd_law_house dcd_law_house pmd_law_house and_law_house cdd_law_house ctd_law_house), sld_law_house⟩)
    (cd_law_house : PySem.W.codeIn K cdd_law_house "_law_house" = true)
    (kd_law_house : PySem.W.keepIn K (.ref fd_law_house) = true)
    (adcheck_house : PySem.W.nsIn K mainGlobals "check_house" = some (some (.ref fdcheck_house)))
    (ldcheck_house : K.lookup fdcheck_house = some ⟨ocdcheck_house, oddcheck_house, .func (PySem.W.fnOf "check_house" "check_house" (defArgs (scheck_house)) (defBody (scheck_house)) (defScope (scheck_house)) (.ref tdcheck_house) kVdcheck_house dcdcheck_house pmdcheck_house andcheck_house cddcheck_house ctdcheck_house), sldcheck_house⟩)
    (cdcheck_house : PySem.W.codeIn K cddcheck_house "check_house" = true)
    (kdcheck_house : PySem.W.keepIn K (.ref fdcheck_house) = true)
    (tdcheck_house : K.lookup tdcheck_house = some ⟨.type "tuple", odtdcheck_house, .seq #[.str "house" udcheck_house0] ndcheck_house, sltdcheck_house⟩)
    (adfirst_standing : PySem.W.nsIn K mainGlobals "first_standing" = some (some (.ref fdfirst_standing)))
    (ldfirst_standing : K.lookup fdfirst_standing = some ⟨ocdfirst_standing, oddfirst_standing, .func (PySem.W.fnOf "first_standing" "first_standing" (defArgs (sfirst_standing)) (defBody (sfirst_standing)) (defScope (sfirst_standing)) .none kVdfirst_standing dcdfirst_standing pmdfirst_standing andfirst_standing cddfirst_standing ctdfirst_standing), sldfirst_standing⟩)
    (cdfirst_standing : PySem.W.codeIn K cddfirst_standing "first_standing" = true)
    (kdfirst_standing : PySem.W.keepIn K (.ref fdfirst_standing) = true)
    (adare_ranks : PySem.W.nsIn K mainGlobals "are_ranks" = some (some (.ref fdare_ranks)))
    (ldare_ranks : K.lookup fdare_ranks = some ⟨ocdare_ranks, oddare_ranks, .func (PySem.W.fnOf "are_ranks" "are_ranks" (defArgs (sare_ranks)) (defBody (sare_ranks)) (defScope (sare_ranks)) .none kVdare_ranks dcdare_ranks pmdare_ranks andare_ranks cddare_ranks ctdare_ranks), sldare_ranks⟩)
    (cdare_ranks : PySem.W.codeIn K cddare_ranks "are_ranks" = true)
    (kdare_ranks : PySem.W.keepIn K (.ref fdare_ranks) = true)
    (adis_look : PySem.W.nsIn K mainGlobals "is_look" = some (some (.ref fdis_look)))
    (ldis_look : K.lookup fdis_look = some ⟨ocdis_look, oddis_look, .func (PySem.W.fnOf "is_look" "is_look" (defArgs (sis_look)) (defBody (sis_look)) (defScope (sis_look)) .none kVdis_look dcdis_look pmdis_look andis_look cddis_look ctdis_look), sldis_look⟩)
    (cdis_look : PySem.W.codeIn K cddis_look "is_look" = true)
    (kdis_look : PySem.W.keepIn K (.ref fdis_look) = true)
    (adis_item : PySem.W.nsIn K mainGlobals "is_item" = some (some (.ref fdis_item)))
    (ldis_item : K.lookup fdis_item = some ⟨ocdis_item, oddis_item, .func (PySem.W.fnOf "is_item" "is_item" (defArgs (sis_item)) (defBody (sis_item)) (defScope (sis_item)) .none kVdis_item dcdis_item pmdis_item andis_item cddis_item ctdis_item), sldis_item⟩)
    (cdis_item : PySem.W.codeIn K cddis_item "is_item" = true)
    (kdis_item : PySem.W.keepIn K (.ref fdis_item) = true)
    (adis_standing : PySem.W.nsIn K mainGlobals "is_standing" = some (some (.ref fdis_standing)))
    (ldis_standing : K.lookup fdis_standing = some ⟨ocdis_standing, oddis_standing, .func (PySem.W.fnOf "is_standing" "is_standing" (defArgs (sis_standing)) (defBody (sis_standing)) (defScope (sis_standing)) .none kVdis_standing dcdis_standing pmdis_standing andis_standing cddis_standing ctdis_standing), sldis_standing⟩)
    (cdis_standing : PySem.W.codeIn K cddis_standing "is_standing" = true)
    (kdis_standing : PySem.W.keepIn K (.ref fdis_standing) = true)
    (adcheck_standing : PySem.W.nsIn K mainGlobals "check_standing" = some (some (.ref fdcheck_standing)))
    (ldcheck_standing : K.lookup fdcheck_standing = some ⟨ocdcheck_standing, oddcheck_standing, .func (PySem.W.fnOf "check_standing" "check_standing" (defArgs (scheck_standing)) (defBody (scheck_standing)) (defScope (scheck_standing)) .none kVdcheck_standing dcdcheck_standing pmdcheck_standing andcheck_standing cddcheck_standing ctdcheck_standing), sldcheck_standing⟩)
    (cdcheck_standing : PySem.W.codeIn K cddcheck_standing "check_standing" = true)
    (kdcheck_standing : PySem.W.keepIn K (.ref fdcheck_standing) = true)
    (adchanges_at : PySem.W.nsIn K mainGlobals "changes_at" = some (some (.ref fdchanges_at)))
    (ldchanges_at : K.lookup fdchanges_at = some ⟨ocdchanges_at, oddchanges_at, .func (PySem.W.fnOf "changes_at" "changes_at" (defArgs (schanges_at)) (defBody (schanges_at)) (defScope (schanges_at)) .none kVdchanges_at dcdchanges_at pmdchanges_at andchanges_at cddchanges_at ctdchanges_at), sldchanges_at⟩)
    (cdchanges_at : PySem.W.codeIn K cddchanges_at "changes_at" = true)
    (kdchanges_at : PySem.W.keepIn K (.ref fdchanges_at) = true)
    (adchanged : PySem.W.nsIn K mainGlobals "changed" = some (some (.ref fdchanged)))
    (ldchanged : K.lookup fdchanged = some ⟨ocdchanged, oddchanged, .func (PySem.W.fnOf "changed" "changed" (defArgs (schanged)) (defBody (schanged)) (defScope (schanged)) .none kVdchanged dcdchanged pmdchanged andchanged cddchanged ctdchanged), sldchanged⟩)
    (cdchanged : PySem.W.codeIn K cddchanged "changed" = true)
    (kdchanged : PySem.W.keepIn K (.ref fdchanged) = true)
    (admust_draw : PySem.W.nsIn K mainGlobals "must_draw" = some (some (.ref fdmust_draw)))
    (ldmust_draw : K.lookup fdmust_draw = some ⟨ocdmust_draw, oddmust_draw, .func (PySem.W.fnOf "must_draw" "must_draw" (defArgs (smust_draw)) (defBody (smust_draw)) (defScope (smust_draw)) .none kVdmust_draw dcdmust_draw pmdmust_draw andmust_draw cddmust_draw ctdmust_draw), sldmust_draw⟩)
    (cdmust_draw : PySem.W.codeIn K cddmust_draw "must_draw" = true)
    (kdmust_draw : PySem.W.keepIn K (.ref fdmust_draw) = true)
    (adundrawn_rows : PySem.W.nsIn K mainGlobals "undrawn_rows" = some (some (.ref fdundrawn_rows)))
    (ldundrawn_rows : K.lookup fdundrawn_rows = some ⟨ocdundrawn_rows, oddundrawn_rows, .func (PySem.W.fnOf "undrawn_rows" "undrawn_rows" (defArgs (sundrawn_rows)) (defBody (sundrawn_rows)) (defScope (sundrawn_rows)) .none kVdundrawn_rows dcdundrawn_rows pmdundrawn_rows andundrawn_rows cddundrawn_rows ctdundrawn_rows), sldundrawn_rows⟩)
    (cdundrawn_rows : PySem.W.codeIn K cddundrawn_rows "undrawn_rows" = true)
    (kdundrawn_rows : PySem.W.keepIn K (.ref fdundrawn_rows) = true)
    (adplace_by_way : PySem.W.nsIn K mainGlobals "place_by_way" = some (some (.ref fdplace_by_way)))
    (ldplace_by_way : K.lookup fdplace_by_way = some ⟨ocdplace_by_way, oddplace_by_way, .func (PySem.W.fnOf "place_by_way" "place_by_way" (defArgs (splace_by_way)) (defBody (splace_by_way)) (defScope (splace_by_way)) .none kVdplace_by_way dcdplace_by_way pmdplace_by_way andplace_by_way cddplace_by_way ctdplace_by_way), sldplace_by_way⟩)
    (cdplace_by_way : PySem.W.codeIn K cddplace_by_way "place_by_way" = true)
    (kdplace_by_way : PySem.W.keepIn K (.ref fdplace_by_way) = true)
    (adplace_for : PySem.W.nsIn K mainGlobals "place_for" = some (some (.ref fdplace_for)))
    (ldplace_for : K.lookup fdplace_for = some ⟨ocdplace_for, oddplace_for, .func (PySem.W.fnOf "place_for" "place_for" (defArgs (splace_for)) (defBody (splace_for)) (defScope (splace_for)) .none kVdplace_for dcdplace_for pmdplace_for andplace_for cddplace_for ctdplace_for), sldplace_for⟩)
    (cdplace_for : PySem.W.codeIn K cddplace_for "place_for" = true)
    (kdplace_for : PySem.W.keepIn K (.ref fdplace_for) = true)
    (addrawn_rows : PySem.W.nsIn K mainGlobals "drawn_rows" = some (some (.ref fddrawn_rows)))
    (lddrawn_rows : K.lookup fddrawn_rows = some ⟨ocddrawn_rows, odddrawn_rows, .func (PySem.W.fnOf "drawn_rows" "drawn_rows" (defArgs (sdrawn_rows)) (defBody (sdrawn_rows)) (defScope (sdrawn_rows)) .none kVddrawn_rows dcddrawn_rows pmddrawn_rows anddrawn_rows cdddrawn_rows ctddrawn_rows), slddrawn_rows⟩)
    (cddrawn_rows : PySem.W.codeIn K cdddrawn_rows "drawn_rows" = true)
    (kddrawn_rows : PySem.W.keepIn K (.ref fddrawn_rows) = true)
    (adstood_on : PySem.W.nsIn K mainGlobals "stood_on" = some (some (.ref fdstood_on)))
    (ldstood_on : K.lookup fdstood_on = some ⟨ocdstood_on, oddstood_on, .func (PySem.W.fnOf "stood_on" "stood_on" (defArgs (sstood_on)) (defBody (sstood_on)) (defScope (sstood_on)) .none kVdstood_on dcdstood_on pmdstood_on andstood_on cddstood_on ctdstood_on), sldstood_on⟩)
    (cdstood_on : PySem.W.codeIn K cddstood_on "stood_on" = true)
    (kdstood_on : PySem.W.keepIn K (.ref fdstood_on) = true)
    (adfollowed : PySem.W.nsIn K mainGlobals "followed" = some (some (.ref fdfollowed)))
    (ldfollowed : K.lookup fdfollowed = some ⟨ocdfollowed, oddfollowed, .func (PySem.W.fnOf "followed" "followed" (defArgs (sfollowed)) (defBody (sfollowed)) (defScope (sfollowed)) .none kVdfollowed dcdfollowed pmdfollowed andfollowed cddfollowed ctdfollowed), sldfollowed⟩)
    (cdfollowed : PySem.W.codeIn K cddfollowed "followed" = true)
    (kdfollowed : PySem.W.keepIn K (.ref fdfollowed) = true)
    (adsettled_at : PySem.W.nsIn K mainGlobals "settled_at" = some (some (.ref fdsettled_at)))
    (ldsettled_at : K.lookup fdsettled_at = some ⟨ocdsettled_at, oddsettled_at, .func (PySem.W.fnOf "settled_at" "settled_at" (defArgs (ssettled_at)) (defBody (ssettled_at)) (defScope (ssettled_at)) .none kVdsettled_at dcdsettled_at pmdsettled_at andsettled_at cddsettled_at ctdsettled_at), sldsettled_at⟩)
    (cdsettled_at : PySem.W.codeIn K cddsettled_at "settled_at" = true)
    (kdsettled_at : PySem.W.keepIn K (.ref fdsettled_at) = true)
    (adhands_at : PySem.W.nsIn K mainGlobals "hands_at" = some (some (.ref fdhands_at)))
    (ldhands_at : K.lookup fdhands_at = some ⟨ocdhands_at, oddhands_at, .func (PySem.W.fnOf "hands_at" "hands_at" (defArgs (shands_at)) (defBody (shands_at)) (defScope (shands_at)) .none kVdhands_at dcdhands_at pmdhands_at andhands_at cddhands_at ctdhands_at), sldhands_at⟩)
    (cdhands_at : PySem.W.codeIn K cddhands_at "hands_at" = true)
    (kdhands_at : PySem.W.keepIn K (.ref fdhands_at) = true)
    (adoutcome_of : PySem.W.nsIn K mainGlobals "outcome_of" = some (some (.ref fdoutcome_of)))
    (ldoutcome_of : K.lookup fdoutcome_of = some ⟨ocdoutcome_of, oddoutcome_of, .func (PySem.W.fnOf "outcome_of" "outcome_of" (defArgs (soutcome_of)) (defBody (soutcome_of)) (defScope (soutcome_of)) .none kVdoutcome_of dcdoutcome_of pmdoutcome_of andoutcome_of cddoutcome_of ctdoutcome_of), sldoutcome_of⟩)
    (cdoutcome_of : PySem.W.codeIn K cddoutcome_of "outcome_of" = true)
    (kdoutcome_of : PySem.W.keepIn K (.ref fdoutcome_of) = true)
    (adhandled : PySem.W.nsIn K mainGlobals "handled" = some (some (.ref fdhandled)))
    (ldhandled : K.lookup fdhandled = some ⟨ocdhandled, oddhandled, .func (PySem.W.fnOf "handled" "handled" (defArgs (shandled)) (defBody (shandled)) (defScope (shandled)) .none kVdhandled dcdhandled pmdhandled andhandled cddhandled ctdhandled), sldhandled⟩)
    (cdhandled : PySem.W.codeIn K cddhandled "handled" = true)
    (kdhandled : PySem.W.keepIn K (.ref fdhandled) = true)
    (adsteps_at : PySem.W.nsIn K mainGlobals "steps_at" = some (some (.ref fdsteps_at)))
    (ldsteps_at : K.lookup fdsteps_at = some ⟨ocdsteps_at, oddsteps_at, .func (PySem.W.fnOf "steps_at" "steps_at" (defArgs (ssteps_at)) (defBody (ssteps_at)) (defScope (ssteps_at)) .none kVdsteps_at dcdsteps_at pmdsteps_at andsteps_at cddsteps_at ctdsteps_at), sldsteps_at⟩)
    (cdsteps_at : PySem.W.codeIn K cddsteps_at "steps_at" = true)
    (kdsteps_at : PySem.W.keepIn K (.ref fdsteps_at) = true)
    (admoments_at : PySem.W.nsIn K mainGlobals "moments_at" = some (some (.ref fdmoments_at)))
    (ldmoments_at : K.lookup fdmoments_at = some ⟨ocdmoments_at, oddmoments_at, .func (PySem.W.fnOf "moments_at" "moments_at" (defArgs (smoments_at)) (defBody (smoments_at)) (defScope (smoments_at)) .none kVdmoments_at dcdmoments_at pmdmoments_at andmoments_at cddmoments_at ctdmoments_at), sldmoments_at⟩)
    (cdmoments_at : PySem.W.codeIn K cddmoments_at "moments_at" = true)
    (kdmoments_at : PySem.W.keepIn K (.ref fdmoments_at) = true)
    (adis_comparable : PySem.W.nsIn K mainGlobals "is_comparable" = some (some (.ref fdis_comparable)))
    (ldis_comparable : K.lookup fdis_comparable = some ⟨ocdis_comparable, oddis_comparable, .func (PySem.W.fnOf "is_comparable" "is_comparable" (defArgs (sis_comparable)) (defBody (sis_comparable)) (defScope (sis_comparable)) .none kVdis_comparable dcdis_comparable pmdis_comparable andis_comparable cddis_comparable ctdis_comparable), sldis_comparable⟩)
    (cdis_comparable : PySem.W.codeIn K cddis_comparable "is_comparable" = true)
    (kdis_comparable : PySem.W.keepIn K (.ref fdis_comparable) = true)
    (adstep_at : PySem.W.nsIn K mainGlobals "step_at" = some (some (.ref fdstep_at)))
    (ldstep_at : K.lookup fdstep_at = some ⟨ocdstep_at, oddstep_at, .func (PySem.W.fnOf "step_at" "step_at" (defArgs (sstep_at)) (defBody (sstep_at)) (defScope (sstep_at)) .none kVdstep_at dcdstep_at pmdstep_at andstep_at cddstep_at ctdstep_at), sldstep_at⟩)
    (cdstep_at : PySem.W.codeIn K cddstep_at "step_at" = true)
    (kdstep_at : PySem.W.keepIn K (.ref fdstep_at) = true)
    (adtick_at : PySem.W.nsIn K mainGlobals "tick_at" = some (some (.ref fdtick_at)))
    (ldtick_at : K.lookup fdtick_at = some ⟨ocdtick_at, oddtick_at, .func (PySem.W.fnOf "tick_at" "tick_at" (defArgs (stick_at)) (defBody (stick_at)) (defScope (stick_at)) .none kVdtick_at dcdtick_at pmdtick_at andtick_at cddtick_at ctdtick_at), sldtick_at⟩)
    (cdtick_at : PySem.W.codeIn K cddtick_at "tick_at" = true)
    (kdtick_at : PySem.W.keepIn K (.ref fdtick_at) = true)
    (ad_law_results : PySem.W.nsIn K mainGlobals "_law_results" = some (some (.ref fd_law_results)))
    (ld_law_results : K.lookup fd_law_results = some ⟨ocd_law_results, odd_law_results, .func (PySem.W.fnOf "_law_results" "_law_results" (defArgs (s_law_results)) (defBody (s_law_results)) (defScope (s_law_results)) .none kVd_law_results dcd_law_results pmd_law_results and_law_results cdd_law_results ctd_law_results), sld_law_results⟩)
    (cd_law_results : PySem.W.codeIn K cdd_law_results "_law_results" = true)
    (kd_law_results : PySem.W.keepIn K (.ref fd_law_results) = true)
    (ad_law_barred : PySem.W.nsIn K mainGlobals "_law_barred" = some (some (.ref fd_law_barred)))
    (ld_law_barred : K.lookup fd_law_barred = some ⟨ocd_law_barred, odd_law_barred, .func (PySem.W.fnOf "_law_barred" "_law_barred" (defArgs (s_law_barred)) (defBody (s_law_barred)) (defScope (s_law_barred)) .none kVd_law_barred dcd_law_barred pmd_law_barred and_law_barred cdd_law_barred ctd_law_barred), sld_law_barred⟩)
    (cd_law_barred : PySem.W.codeIn K cdd_law_barred "_law_barred" = true)
    (kd_law_barred : PySem.W.keepIn K (.ref fd_law_barred) = true)
    (ai1 : PySem.W.findIn K (.ref C1) "__init__" = some (some (.ref fi1)))
    (ii1 : PySem.W.isFn K (.ref fi1) = true)
    (li1 : K.lookup fi1 = some ⟨oci1, odi1, .func (PySem.W.fnOf "__init__" "House.__init__" (defArgs (sIHouse)) (defBody (sIHouse)) (defScope (sIHouse)) .none kVi1 dci1 pmi1 ani1 cdi1 cti1), sli1⟩)
    (ci1 : PySem.W.codeIn K cdi1 "House.__init__" = true)
    (ki1 : PySem.W.keepIn K (.ref fi1) = true)
    (ai0 : PySem.W.findIn K (.ref C0) "__init__" = some (some (.ref fi0)))
    (ii0 : PySem.W.isFn K (.ref fi0) = true)
    (li0 : K.lookup fi0 = some ⟨oci0, odi0, .func (PySem.W.fnOf "__init__" "Rule.__init__" (defArgs (sIRule)) (defBody (sIRule)) (defScope (sIRule)) .none kVi0 dci0 pmi0 ani0 cdi0 cti0), sli0⟩)
    (ci0 : PySem.W.codeIn K cdi0 "Rule.__init__" = true)
    (ki0 : PySem.W.keepIn K (.ref fi0) = true)
    (apgoes : PySem.W.findIn K (.ref C1) "goes" = some (some (.ref ppgoes)))
    (gpgoes : PySem.W.specialIn K (.ref ppgoes) "__get__" = some (some (.builtin "property.__get__")))
    (tpgoes : PySem.W.takesIn K (.ref ppgoes) = some true)
    (rpgoes : PySem.W.recIn K ppgoes "property" = some (.ref fpgoes :: repgoes))
    (lpgoes : K.lookup fpgoes = some ⟨ocpgoes, odpgoes, .func (PySem.W.fnOf "goes" "House.goes" (defArgs (inClass (topS 22) 5)) (defBody (inClass (topS 22) 5)) (defScope (inClass (topS 22) 5)) .none kVpgoes dcpgoes pmpgoes anpgoes cdpgoes ctpgoes), slpgoes⟩)
    (cpgoes : PySem.W.codeIn K cdpgoes "House.goes" = true)
    (kpgoes : PySem.W.keepIn K (.ref fpgoes) = true)
    (apguard : PySem.W.findIn K (.ref C0) "guard" = some (some (.ref ppguard)))
    (gpguard : PySem.W.specialIn K (.ref ppguard) "__get__" = some (some (.builtin "property.__get__")))
    (tpguard : PySem.W.takesIn K (.ref ppguard) = some true)
    (rpguard : PySem.W.recIn K ppguard "property" = some (.ref fpguard :: repguard))
    (lpguard : K.lookup fpguard = some ⟨ocpguard, odpguard, .func (PySem.W.fnOf "guard" "Rule.guard" (defArgs (inClass (topS 15) 5)) (defBody (inClass (topS 15) 5)) (defScope (inClass (topS 15) 5)) .none kVpguard dcpguard pmpguard anpguard cdpguard ctpguard), slpguard⟩)
    (cpguard : PySem.W.codeIn K cdpguard "Rule.guard" = true)
    (kpguard : PySem.W.keepIn K (.ref fpguard) = true)
    (aphold : PySem.W.findIn K (.ref C0) "hold" = some (some (.ref pphold)))
    (gphold : PySem.W.specialIn K (.ref pphold) "__get__" = some (some (.builtin "property.__get__")))
    (tphold : PySem.W.takesIn K (.ref pphold) = some true)
    (rphold : PySem.W.recIn K pphold "property" = some (.ref fphold :: rephold))
    (lphold : K.lookup fphold = some ⟨ocphold, odphold, .func (PySem.W.fnOf "hold" "Rule.hold" (defArgs (inClass (topS 15) 3)) (defBody (inClass (topS 15) 3)) (defScope (inClass (topS 15) 3)) .none kVphold dcphold pmphold anphold cdphold ctphold), slphold⟩)
    (cphold : PySem.W.codeIn K cdphold "Rule.hold" = true)
    (kphold : PySem.W.keepIn K (.ref fphold) = true)
    (aplag : PySem.W.findIn K (.ref C1) "lag" = some (some (.ref pplag)))
    (gplag : PySem.W.specialIn K (.ref pplag) "__get__" = some (some (.builtin "property.__get__")))
    (tplag : PySem.W.takesIn K (.ref pplag) = some true)
    (rplag : PySem.W.recIn K pplag "property" = some (.ref fplag :: replag))
    (lplag : K.lookup fplag = some ⟨ocplag, odplag, .func (PySem.W.fnOf "lag" "House.lag" (defArgs (inClass (topS 22) 6)) (defBody (inClass (topS 22) 6)) (defScope (inClass (topS 22) 6)) .none kVplag dcplag pmplag anplag cdplag ctplag), slplag⟩)
    (cplag : PySem.W.codeIn K cdplag "House.lag" = true)
    (kplag : PySem.W.keepIn K (.ref fplag) = true)
    (apmany : PySem.W.findIn K (.ref C1) "many" = some (some (.ref ppmany)))
    (gpmany : PySem.W.specialIn K (.ref ppmany) "__get__" = some (some (.builtin "property.__get__")))
    (tpmany : PySem.W.takesIn K (.ref ppmany) = some true)
    (rpmany : PySem.W.recIn K ppmany "property" = some (.ref fpmany :: repmany))
    (lpmany : K.lookup fpmany = some ⟨ocpmany, odpmany, .func (PySem.W.fnOf "many" "House.many" (defArgs (inClass (topS 22) 4)) (defBody (inClass (topS 22) 4)) (defScope (inClass (topS 22) 4)) .none kVpmany dcpmany pmpmany anpmany cdpmany ctpmany), slpmany⟩)
    (cpmany : PySem.W.codeIn K cdpmany "House.many" = true)
    (kpmany : PySem.W.keepIn K (.ref fpmany) = true)
    (appins : PySem.W.findIn K (.ref C0) "pins" = some (some (.ref pppins)))
    (gppins : PySem.W.specialIn K (.ref pppins) "__get__" = some (some (.builtin "property.__get__")))
    (tppins : PySem.W.takesIn K (.ref pppins) = some true)
    (rppins : PySem.W.recIn K pppins "property" = some (.ref fppins :: reppins))
    (lppins : K.lookup fppins = some ⟨ocppins, odppins, .func (PySem.W.fnOf "pins" "Rule.pins" (defArgs (inClass (topS 15) 4)) (defBody (inClass (topS 15) 4)) (defScope (inClass (topS 15) 4)) .none kVppins dcppins pmppins anppins cdppins ctppins), slppins⟩)
    (cppins : PySem.W.codeIn K cdppins "Rule.pins" = true)
    (kppins : PySem.W.keepIn K (.ref fppins) = true)
    (aproom : PySem.W.findIn K (.ref C1) "room" = some (some (.ref pproom)))
    (gproom : PySem.W.specialIn K (.ref pproom) "__get__" = some (some (.builtin "property.__get__")))
    (tproom : PySem.W.takesIn K (.ref pproom) = some true)
    (rproom : PySem.W.recIn K pproom "property" = some (.ref fproom :: reproom))
    (lproom : K.lookup fproom = some ⟨ocproom, odproom, .func (PySem.W.fnOf "room" "House.room" (defArgs (inClass (topS 22) 2)) (defBody (inClass (topS 22) 2)) (defScope (inClass (topS 22) 2)) .none kVproom dcproom pmproom anproom cdproom ctproom), slproom⟩)
    (cproom : PySem.W.codeIn K cdproom "House.room" = true)
    (kproom : PySem.W.keepIn K (.ref fproom) = true)
    (aprule : PySem.W.findIn K (.ref C1) "rule" = some (some (.ref pprule)))
    (gprule : PySem.W.specialIn K (.ref pprule) "__get__" = some (some (.builtin "property.__get__")))
    (tprule : PySem.W.takesIn K (.ref pprule) = some true)
    (rprule : PySem.W.recIn K pprule "property" = some (.ref fprule :: reprule))
    (lprule : K.lookup fprule = some ⟨ocprule, odprule, .func (PySem.W.fnOf "rule" "House.rule" (defArgs (inClass (topS 22) 1)) (defBody (inClass (topS 22) 1)) (defScope (inClass (topS 22) 1)) .none kVprule dcprule pmprule anprule cdprule ctprule), slprule⟩)
    (cprule : PySem.W.codeIn K cdprule "House.rule" = true)
    (kprule : PySem.W.keepIn K (.ref fprule) = true)
    (apstill : PySem.W.findIn K (.ref C0) "still" = some (some (.ref ppstill)))
    (gpstill : PySem.W.specialIn K (.ref ppstill) "__get__" = some (some (.builtin "property.__get__")))
    (tpstill : PySem.W.takesIn K (.ref ppstill) = some true)
    (rpstill : PySem.W.recIn K ppstill "property" = some (.ref fpstill :: repstill))
    (lpstill : K.lookup fpstill = some ⟨ocpstill, odpstill, .func (PySem.W.fnOf "still" "Rule.still" (defArgs (inClass (topS 15) 2)) (defBody (inClass (topS 15) 2)) (defScope (inClass (topS 15) 2)) .none kVpstill dcpstill pmpstill anpstill cdpstill ctpstill), slpstill⟩)
    (cpstill : PySem.W.codeIn K cdpstill "Rule.still" = true)
    (kpstill : PySem.W.keepIn K (.ref fpstill) = true)
    (aptop : PySem.W.findIn K (.ref C1) "top" = some (some (.ref pptop)))
    (gptop : PySem.W.specialIn K (.ref pptop) "__get__" = some (some (.builtin "property.__get__")))
    (tptop : PySem.W.takesIn K (.ref pptop) = some true)
    (rptop : PySem.W.recIn K pptop "property" = some (.ref fptop :: reptop))
    (lptop : K.lookup fptop = some ⟨ocptop, odptop, .func (PySem.W.fnOf "top" "House.top" (defArgs (inClass (topS 22) 3)) (defBody (inClass (topS 22) 3)) (defScope (inClass (topS 22) 3)) .none kVptop dcptop pmptop anptop cdptop ctptop), slptop⟩)
    (cptop : PySem.W.codeIn K cdptop "House.top" = true)
    (kptop : PySem.W.keepIn K (.ref fptop) = true)
    (apway : PySem.W.findIn K (.ref C0) "way" = some (some (.ref ppway)))
    (gpway : PySem.W.specialIn K (.ref ppway) "__get__" = some (some (.builtin "property.__get__")))
    (tpway : PySem.W.takesIn K (.ref ppway) = some true)
    (rpway : PySem.W.recIn K ppway "property" = some (.ref fpway :: repway))
    (lpway : K.lookup fpway = some ⟨ocpway, odpway, .func (PySem.W.fnOf "way" "Rule.way" (defArgs (inClass (topS 15) 1)) (defBody (inClass (topS 15) 1)) (defScope (inClass (topS 15) 1)) .none kVpway dcpway pmpway anpway cdpway ctpway), slpway⟩)
    (cpway : PySem.W.codeIn K cdpway "Rule.way" = true)
    (kpway : PySem.W.keepIn K (.ref fpway) = true)
    (pgC0 : PySem.W.plainGet K C0 Str.empty = true)
    (hdC0 : PySem.W.hasDictIn K C0 = true)
    (poC0 : PySem.W.plainOver K C0 = true)
    (saC0 : PySem.W.findIn K (.ref C0) "__setattr__" = some (some (.builtin "object.__setattr__")))
    (mkC0 : PySem.W.makesIn K C0 = true)
    (kpC0 : PySem.W.keepIn K (.ref C0) = true)
    (n0C0 : PySem.W.findIn K (.ref C0) "_way" = some none)
    (n1C0 : PySem.W.findIn K (.ref C0) "_still" = some none)
    (n2C0 : PySem.W.findIn K (.ref C0) "_hold" = some none)
    (n3C0 : PySem.W.findIn K (.ref C0) "_pins" = some none)
    (n4C0 : PySem.W.findIn K (.ref C0) "_guard" = some none)
    (haC0 : PySem.W.findIn K (.ref C0) "__class__" = some (some (.builtin "object.__class__")))
    (hmC0 : PySem.W.mroIn K C0 (.type "object") = some true)
    (icC0 : PySem.W.isClsIn K C0 = true)
    (tcC0 : PySem.W.typeIn K (.ref C0) = some (.type "type"))
    (pgC1 : PySem.W.plainGet K C1 Str.empty = true)
    (hdC1 : PySem.W.hasDictIn K C1 = true)
    (poC1 : PySem.W.plainOver K C1 = true)
    (saC1 : PySem.W.findIn K (.ref C1) "__setattr__" = some (some (.builtin "object.__setattr__")))
    (mkC1 : PySem.W.makesIn K C1 = true)
    (kpC1 : PySem.W.keepIn K (.ref C1) = true)
    (n0C1 : PySem.W.findIn K (.ref C1) "_rule" = some none)
    (n1C1 : PySem.W.findIn K (.ref C1) "_room" = some none)
    (n2C1 : PySem.W.findIn K (.ref C1) "_top" = some none)
    (n3C1 : PySem.W.findIn K (.ref C1) "_many" = some none)
    (n4C1 : PySem.W.findIn K (.ref C1) "_goes" = some none)
    (n5C1 : PySem.W.findIn K (.ref C1) "_lag" = some none)
    (haC1 : PySem.W.findIn K (.ref C1) "__class__" = some (some (.builtin "object.__class__")))
    (hmC1 : PySem.W.mroIn K C1 (.type "object") = some true)
    (icC1 : PySem.W.isClsIn K C1 = true)
    (tcC1 : PySem.W.typeIn K (.ref C1) = some (.type "type"))
    (s00 : PySem.W.subIn K (.ref C0) (.ref C0) = some true)
    (s01 : PySem.W.subIn K (.ref C0) (.ref C1) = some false)
    (s10 : PySem.W.subIn K (.ref C1) (.ref C0) = some false)
    (s11 : PySem.W.subIn K (.ref C1) (.ref C1) = some true)
    (hn : PySem.W.specialIn K (.builtin "object.__class__") "__get__" = some (some (.builtin "getset_descriptor.__get__")))
    (ht : PySem.W.takesIn K (.builtin "object.__class__") = some true)
    (aqGREATEST_LAG : PySem.W.nsIn K mainGlobals "GREATEST_LAG" = some (some (.int 3 uqGREATEST_LAG)))
    (aqGREATEST_RANK : PySem.W.nsIn K mainGlobals "GREATEST_RANK" = some (some (.int 2 uqGREATEST_RANK)))
    (aqMOST_PINS : PySem.W.nsIn K mainGlobals "MOST_PINS" = some (some (.int 2 uqMOST_PINS)))
    (aqMOST_ROOM : PySem.W.nsIn K mainGlobals "MOST_ROOM" = some (some (.int 4 uqMOST_ROOM)))
    (aqMOST_TICKS : PySem.W.nsIn K mainGlobals "MOST_TICKS" = some (some (.int 3 uqMOST_TICKS)))
    (aqMOST_WAITING : PySem.W.nsIn K mainGlobals "MOST_WAITING" = some (some (.int 2 uqMOST_WAITING)))
    (aqNOTHING : PySem.W.nsIn K mainGlobals "NOTHING" = some (some (.ref fqNOTHING)))
    (lqNOTHING : K.lookup fqNOTHING = some ⟨.type "tuple", odqNOTHING, .seq #[.str "none" uqNOTHING0] nqNOTHING, slqNOTHING⟩)
    (aqTAP : PySem.W.nsIn K mainGlobals "TAP" = some (some (.ref fqTAP)))
    (lqTAP : K.lookup fqTAP = some ⟨.type "tuple", odqTAP, .seq #[.str "tap" uqTAP0] nqTAP, slqTAP⟩)
    (aqWAYS : PySem.W.nsIn K mainGlobals "WAYS" = some (some (.ref fqWAYS)))
    (lqWAYS : K.lookup fqWAYS = some ⟨.type "tuple", odqWAYS, .seq #[.str "end" uqWAYS0, .str "front" uqWAYS1, .str "rank" uqWAYS2] nqWAYS, slqWAYS⟩)
    (z_abs : PySem.W.nsIn K mainGlobals "abs" = some none)
    (z_all : PySem.W.nsIn K mainGlobals "all" = some none)
    (z_any : PySem.W.nsIn K mainGlobals "any" = some none)
    (z_bool : PySem.W.nsIn K mainGlobals "bool" = some none)
    (z_enumerate : PySem.W.nsIn K mainGlobals "enumerate" = some none)
    (z_int : PySem.W.nsIn K mainGlobals "int" = some none)
    (z_isinstance : PySem.W.nsIn K mainGlobals "isinstance" = some none)
    (z_len : PySem.W.nsIn K mainGlobals "len" = some none)
    (z_max : PySem.W.nsIn K mainGlobals "max" = some none)
    (z_min : PySem.W.nsIn K mainGlobals "min" = some none)
    (z_range : PySem.W.nsIn K mainGlobals "range" = some none)
    (z_str : PySem.W.nsIn K mainGlobals "str" = some none)
    (z_tuple : PySem.W.nsIn K mainGlobals "tuple" = some none) :
    ∃ fd : FuncData, (∀ (s : Shared) (v : Value), BindsTo s fd ⟨[v], []⟩ [("script", v)]) ∧ ∀ base : Heap, K.In base → base.Ns mainGlobals mg → FnOk l.prog w K mg base CX0 9 fa fd ["script"] (Ev.spLaw K) := by
  have e := hfa.symm.trans (PySem.W.mg_of X G alaw)
  cases e
  have y_abs := PySem.W.mg_none_of X G z_abs
  have y_all := PySem.W.mg_none_of X G z_all
  have y_any := PySem.W.mg_none_of X G z_any
  have y_bool := PySem.W.mg_none_of X G z_bool
  have y_enumerate := PySem.W.mg_none_of X G z_enumerate
  have y_int := PySem.W.mg_none_of X G z_int
  have y_isinstance := PySem.W.mg_none_of X G z_isinstance
  have y_len := PySem.W.mg_none_of X G z_len
  have y_max := PySem.W.mg_none_of X G z_max
  have y_min := PySem.W.mg_none_of X G z_min
  have y_range := PySem.W.mg_none_of X G z_range
  have y_str := PySem.W.mg_none_of X G z_str
  have y_tuple := PySem.W.mg_none_of X G z_tuple
  have Flaw_begin := fun_mk (st := sBegin) llaw_begin claw_begin klaw_begin
  have blaw_begin := Flaw_begin.binds (ps := ["script"]) fun _ _ _ _ _ _ us hl => match us, hl with | [_], _ => rfl
  have glaw_begin := PySem.W.mg_of X G alaw_begin
  have Flaw_blend := fun_mk (st := sBlend) llaw_blend claw_blend klaw_blend
  have blaw_blend := Flaw_blend.binds (ps := ["draw"]) fun _ _ _ _ _ _ us hl => match us, hl with | [_], _ => rfl
  have glaw_blend := PySem.W.mg_of X G alaw_blend
  have Flaw_take := fun_mk (st := sTake) llaw_take claw_take klaw_take
  have blaw_take := Flaw_take.binds (ps := ["draw", "size"]) fun _ _ _ _ _ _ us hl => match us, hl with | [_, _], _ => rfl
  have glaw_take := PySem.W.mg_of X G alaw_take
  have Flaw := fun_mk (st := slaw) llaw claw klaw
  have blaw := Flaw.binds (ps := ["script"]) fun _ _ _ _ _ _ us hl => match us, hl with | [_], _ => rfl
  have Fd_law_pick := fun_mk (st := s_law_pick) ld_law_pick cd_law_pick kd_law_pick
  have Dd_law_pick : GD K mg "_law_pick" s_law_pick ["draw", "some"] := ⟨fd_law_pick, _, Fd_law_pick, PySem.W.mg_of X G ad_law_pick, Fd_law_pick.binds (ps := ["draw", "some"]) fun _ _ _ _ _ _ us hl => match us, hl with | [_, _], _ => rfl⟩
  have Fd_law_way := fun_mk (st := s_law_way) ld_law_way cd_law_way kd_law_way
  have Dd_law_way : GD K mg "_law_way" s_law_way ["draw", "peak"] := ⟨fd_law_way, _, Fd_law_way, PySem.W.mg_of X G ad_law_way, Fd_law_way.binds (ps := ["draw", "peak"]) fun _ _ _ _ _ _ us hl => match us, hl with | [_, _], _ => rfl⟩
  have Fd_law_home := fun_mk (st := s_law_home) ld_law_home cd_law_home kd_law_home
  have Dd_law_home : GD K mg "_law_home" s_law_home ["draw", "space", "peak"] := ⟨fd_law_home, _, Fd_law_home, PySem.W.mg_of X G ad_law_home, Fd_law_home.binds (ps := ["draw", "space", "peak"]) fun _ _ _ _ _ _ us hl => match us, hl with | [_, _, _], _ => rfl⟩
  have Fdis_number := fun_mk (st := sis_number) ldis_number cdis_number kdis_number
  have Ddis_number : GD K mg "is_number" sis_number ["value"] := ⟨fdis_number, _, Fdis_number, PySem.W.mg_of X G adis_number, Fdis_number.binds (ps := ["value"]) fun _ _ _ _ _ _ us hl => match us, hl with | [_], _ => rfl⟩
  have Fdis_number_within := fun_mk (st := sis_number_within) ldis_number_within cdis_number_within kdis_number_within
  have Ddis_number_within : GD K mg "is_number_within" sis_number_within ["value", "least", "most"] := ⟨fdis_number_within, _, Fdis_number_within, PySem.W.mg_of X G adis_number_within, Fdis_number_within.binds (ps := ["value", "least", "most"]) fun _ _ _ _ _ _ us hl => match us, hl with | [_, _, _], _ => rfl⟩
  have Fdis_lag := fun_mk (st := sis_lag) ldis_lag cdis_lag kdis_lag
  have Ddis_lag : GD K mg "is_lag" sis_lag ["value"] := ⟨fdis_lag, _, Fdis_lag, PySem.W.mg_of X G adis_lag, Fdis_lag.binds (ps := ["value"]) fun _ _ _ _ _ _ us hl => match us, hl with | [_], _ => rfl⟩
  have Fdis_one_of := fun_mk (st := sis_one_of) ldis_one_of cdis_one_of kdis_one_of
  have Ddis_one_of : GD K mg "is_one_of" sis_one_of ["value", "texts"] := ⟨fdis_one_of, _, Fdis_one_of, PySem.W.mg_of X G adis_one_of, Fdis_one_of.binds (ps := ["value", "texts"]) fun _ _ _ _ _ _ us hl => match us, hl with | [_, _], _ => rfl⟩
  have Fd_law_rule := fun_mk (st := s_law_rule) ld_law_rule cd_law_rule kd_law_rule
  have Dd_law_rule : GD K mg "_law_rule" s_law_rule ["mode"] := ⟨fd_law_rule, _, Fd_law_rule, PySem.W.mg_of X G ad_law_rule, Fd_law_rule.binds (ps := ["mode"]) fun _ _ _ _ _ _ us hl => match us, hl with | [_], _ => rfl⟩
  have Fd_law_house := fun_mk (st := s_law_house) ld_law_house cd_law_house kd_law_house
  have Dd_law_house : GD K mg "_law_house" s_law_house ["home"] := ⟨fd_law_house, _, Fd_law_house, PySem.W.mg_of X G ad_law_house, Fd_law_house.binds (ps := ["home"]) fun _ _ _ _ _ _ us hl => match us, hl with | [_], _ => rfl⟩
  have Fdcheck_house : FunD K "check_house" "check_house" (defArgs scheck_house) (defBody scheck_house) (defScope scheck_house) [V.str "house"] [] fdcheck_house _ := ⟨⟨_, _, _, _, _, _, _, _, _, _, rfl, ldcheck_house, cdcheck_house, .inr ⟨by simp, _, _, _, _, rfl, tdcheck_house, rfl, .cons ⟨_, rfl⟩ (.nil)⟩, .inl rfl⟩, kdcheck_house⟩
  have Bdcheck_house := Fdcheck_house.binds1 (ps := ["value", "part"]) 1 0 (by simp) rfl fun T kV doc pm an cdv ct us its h1 h2 => match us, its, h1, h2 with | [_], [_], _, _ => ⟨_, rfl, rfl⟩
  have Ddcheck_house : GDD K mg "check_house" scheck_house ["value", "part"] [(.str "house")] := by
    obtain ⟨ds, h1, h2⟩ := Bdcheck_house
    exact ⟨fdcheck_house, _, _, ds, Fdcheck_house, PySem.W.mg_of X G adcheck_house, h2, h1, fun c H ρ => .cons (.str _) (.nil)⟩
  have Fdfirst_standing := fun_mk (st := sfirst_standing) ldfirst_standing cdfirst_standing kdfirst_standing
  have Ddfirst_standing : GD K mg "first_standing" sfirst_standing ["house"] := ⟨fdfirst_standing, _, Fdfirst_standing, PySem.W.mg_of X G adfirst_standing, Fdfirst_standing.binds (ps := ["house"]) fun _ _ _ _ _ _ us hl => match us, hl with | [_], _ => rfl⟩
  have Fdare_ranks := fun_mk (st := sare_ranks) ldare_ranks cdare_ranks kdare_ranks
  have Ddare_ranks : GD K mg "are_ranks" sare_ranks ["house", "thing", "most"] := ⟨fdare_ranks, _, Fdare_ranks, PySem.W.mg_of X G adare_ranks, Fdare_ranks.binds (ps := ["house", "thing", "most"]) fun _ _ _ _ _ _ us hl => match us, hl with | [_, _, _], _ => rfl⟩
  have Fdis_look := fun_mk (st := sis_look) ldis_look cdis_look kdis_look
  have Ddis_look : GD K mg "is_look" sis_look ["house", "thing", "many"] := ⟨fdis_look, _, Fdis_look, PySem.W.mg_of X G adis_look, Fdis_look.binds (ps := ["house", "thing", "many"]) fun _ _ _ _ _ _ us hl => match us, hl with | [_, _, _], _ => rfl⟩
  have Fdis_item := fun_mk (st := sis_item) ldis_item cdis_item kdis_item
  have Ddis_item : GD K mg "is_item" sis_item ["house", "thing"] := ⟨fdis_item, _, Fdis_item, PySem.W.mg_of X G adis_item, Fdis_item.binds (ps := ["house", "thing"]) fun _ _ _ _ _ _ us hl => match us, hl with | [_, _], _ => rfl⟩
  have Fdis_standing := fun_mk (st := sis_standing) ldis_standing cdis_standing kdis_standing
  have Ddis_standing : GD K mg "is_standing" sis_standing ["house", "thing"] := ⟨fdis_standing, _, Fdis_standing, PySem.W.mg_of X G adis_standing, Fdis_standing.binds (ps := ["house", "thing"]) fun _ _ _ _ _ _ us hl => match us, hl with | [_, _], _ => rfl⟩
  have Fdcheck_standing := fun_mk (st := scheck_standing) ldcheck_standing cdcheck_standing kdcheck_standing
  have Ddcheck_standing : GD K mg "check_standing" scheck_standing ["house", "standing"] := ⟨fdcheck_standing, _, Fdcheck_standing, PySem.W.mg_of X G adcheck_standing, Fdcheck_standing.binds (ps := ["house", "standing"]) fun _ _ _ _ _ _ us hl => match us, hl with | [_, _], _ => rfl⟩
  have Fdchanges_at := fun_mk (st := schanges_at) ldchanges_at cdchanges_at kdchanges_at
  have Ddchanges_at : GD K mg "changes_at" schanges_at ["house", "standing"] := ⟨fdchanges_at, _, Fdchanges_at, PySem.W.mg_of X G adchanges_at, Fdchanges_at.binds (ps := ["house", "standing"]) fun _ _ _ _ _ _ us hl => match us, hl with | [_, _], _ => rfl⟩
  have Fdchanged := fun_mk (st := schanged) ldchanged cdchanged kdchanged
  have Ddchanged : GD K mg "changed" schanged ["standing", "change"] := ⟨fdchanged, _, Fdchanged, PySem.W.mg_of X G adchanged, Fdchanged.binds (ps := ["standing", "change"]) fun _ _ _ _ _ _ us hl => match us, hl with | [_, _], _ => rfl⟩
  have Fdmust_draw := fun_mk (st := smust_draw) ldmust_draw cdmust_draw kdmust_draw
  have Ddmust_draw : GD K mg "must_draw" smust_draw ["rule", "shown", "waiting", "quiet", "look"] := ⟨fdmust_draw, _, Fdmust_draw, PySem.W.mg_of X G admust_draw, Fdmust_draw.binds (ps := ["rule", "shown", "waiting", "quiet", "look"]) fun _ _ _ _ _ _ us hl => match us, hl with | [_, _, _, _, _], _ => rfl⟩
  have Fdundrawn_rows := fun_mk (st := sundrawn_rows) ldundrawn_rows cdundrawn_rows kdundrawn_rows
  have Ddundrawn_rows : GD K mg "undrawn_rows" sundrawn_rows ["shown"] := ⟨fdundrawn_rows, _, Fdundrawn_rows, PySem.W.mg_of X G adundrawn_rows, Fdundrawn_rows.binds (ps := ["shown"]) fun _ _ _ _ _ _ us hl => match us, hl with | [_], _ => rfl⟩
  have Fdplace_by_way := fun_mk (st := splace_by_way) ldplace_by_way cdplace_by_way kdplace_by_way
  have Ddplace_by_way : GD K mg "place_by_way" splace_by_way ["way", "ranks", "rank"] := ⟨fdplace_by_way, _, Fdplace_by_way, PySem.W.mg_of X G adplace_by_way, Fdplace_by_way.binds (ps := ["way", "ranks", "rank"]) fun _ _ _ _ _ _ us hl => match us, hl with | [_, _, _], _ => rfl⟩
  have Fdplace_for := fun_mk (st := splace_for) ldplace_for cdplace_for kdplace_for
  have Ddplace_for : GD K mg "place_for" splace_for ["rule", "ranks", "rank"] := ⟨fdplace_for, _, Fdplace_for, PySem.W.mg_of X G adplace_for, Fdplace_for.binds (ps := ["rule", "ranks", "rank"]) fun _ _ _ _ _ _ us hl => match us, hl with | [_, _, _], _ => rfl⟩
  have Fddrawn_rows := fun_mk (st := sdrawn_rows) lddrawn_rows cddrawn_rows kddrawn_rows
  have Dddrawn_rows : GD K mg "drawn_rows" sdrawn_rows ["house", "shown", "waiting"] := ⟨fddrawn_rows, _, Fddrawn_rows, PySem.W.mg_of X G addrawn_rows, Fddrawn_rows.binds (ps := ["house", "shown", "waiting"]) fun _ _ _ _ _ _ us hl => match us, hl with | [_, _, _], _ => rfl⟩
  have Fdstood_on := fun_mk (st := sstood_on) ldstood_on cdstood_on kdstood_on
  have Ddstood_on : GD K mg "stood_on" sstood_on ["rule", "shown", "rows"] := ⟨fdstood_on, _, Fdstood_on, PySem.W.mg_of X G adstood_on, Fdstood_on.binds (ps := ["rule", "shown", "rows"]) fun _ _ _ _ _ _ us hl => match us, hl with | [_, _, _], _ => rfl⟩
  have Fdfollowed := fun_mk (st := sfollowed) ldfollowed cdfollowed kdfollowed
  have Ddfollowed : GD K mg "followed" sfollowed ["look", "rows"] := ⟨fdfollowed, _, Fdfollowed, PySem.W.mg_of X G adfollowed, Fdfollowed.binds (ps := ["look", "rows"]) fun _ _ _ _ _ _ us hl => match us, hl with | [_, _], _ => rfl⟩
  have Fdsettled_at := fun_mk (st := ssettled_at) ldsettled_at cdsettled_at kdsettled_at
  have Ddsettled_at : GD K mg "settled_at" ssettled_at ["house", "standing", "change"] := ⟨fdsettled_at, _, Fdsettled_at, PySem.W.mg_of X G adsettled_at, Fdsettled_at.binds (ps := ["house", "standing", "change"]) fun _ _ _ _ _ _ us hl => match us, hl with | [_, _, _], _ => rfl⟩
  have Fdhands_at := fun_mk (st := shands_at) ldhands_at cdhands_at kdhands_at
  have Ddhands_at : GD K mg "hands_at" shands_at ["house", "settled"] := ⟨fdhands_at, _, Fdhands_at, PySem.W.mg_of X G adhands_at, Fdhands_at.binds (ps := ["house", "settled"]) fun _ _ _ _ _ _ us hl => match us, hl with | [_, _], _ => rfl⟩
  have Fdoutcome_of := fun_mk (st := soutcome_of) ldoutcome_of cdoutcome_of kdoutcome_of
  have Ddoutcome_of : GD K mg "outcome_of" soutcome_of ["rule", "shown", "look"] := ⟨fdoutcome_of, _, Fdoutcome_of, PySem.W.mg_of X G adoutcome_of, Fdoutcome_of.binds (ps := ["rule", "shown", "look"]) fun _ _ _ _ _ _ us hl => match us, hl with | [_, _, _], _ => rfl⟩
  have Fdhandled := fun_mk (st := shandled) ldhandled cdhandled kdhandled
  have Ddhandled : GD K mg "handled" shandled ["rule", "settled", "hand"] := ⟨fdhandled, _, Fdhandled, PySem.W.mg_of X G adhandled, Fdhandled.binds (ps := ["rule", "settled", "hand"]) fun _ _ _ _ _ _ us hl => match us, hl with | [_, _, _], _ => rfl⟩
  have Fdsteps_at := fun_mk (st := ssteps_at) ldsteps_at cdsteps_at kdsteps_at
  have Ddsteps_at : GD K mg "steps_at" ssteps_at ["house", "standing"] := ⟨fdsteps_at, _, Fdsteps_at, PySem.W.mg_of X G adsteps_at, Fdsteps_at.binds (ps := ["house", "standing"]) fun _ _ _ _ _ _ us hl => match us, hl with | [_, _], _ => rfl⟩
  have Fdmoments_at := fun_mk (st := smoments_at) ldmoments_at cdmoments_at kdmoments_at
  have Ddmoments_at : GD K mg "moments_at" smoments_at ["house", "standing"] := ⟨fdmoments_at, _, Fdmoments_at, PySem.W.mg_of X G admoments_at, Fdmoments_at.binds (ps := ["house", "standing"]) fun _ _ _ _ _ _ us hl => match us, hl with | [_, _], _ => rfl⟩
  have Fdis_comparable := fun_mk (st := sis_comparable) ldis_comparable cdis_comparable kdis_comparable
  have Ddis_comparable : GD K mg "is_comparable" sis_comparable ["thing"] := ⟨fdis_comparable, _, Fdis_comparable, PySem.W.mg_of X G adis_comparable, Fdis_comparable.binds (ps := ["thing"]) fun _ _ _ _ _ _ us hl => match us, hl with | [_], _ => rfl⟩
  have Fdstep_at := fun_mk (st := sstep_at) ldstep_at cdstep_at kdstep_at
  have Ddstep_at : GD K mg "step_at" sstep_at ["house", "standing", "moment"] := ⟨fdstep_at, _, Fdstep_at, PySem.W.mg_of X G adstep_at, Fdstep_at.binds (ps := ["house", "standing", "moment"]) fun _ _ _ _ _ _ us hl => match us, hl with | [_, _, _], _ => rfl⟩
  have Fdtick_at := fun_mk (st := stick_at) ldtick_at cdtick_at kdtick_at
  have Ddtick_at : GD K mg "tick_at" stick_at ["house", "standing", "moment"] := ⟨fdtick_at, _, Fdtick_at, PySem.W.mg_of X G adtick_at, Fdtick_at.binds (ps := ["house", "standing", "moment"]) fun _ _ _ _ _ _ us hl => match us, hl with | [_, _, _], _ => rfl⟩
  have Fd_law_results := fun_mk (st := s_law_results) ld_law_results cd_law_results kd_law_results
  have Dd_law_results : GD K mg "_law_results" s_law_results ["draw", "made", "many"] := ⟨fd_law_results, _, Fd_law_results, PySem.W.mg_of X G ad_law_results, Fd_law_results.binds (ps := ["draw", "made", "many"]) fun _ _ _ _ _ _ us hl => match us, hl with | [_, _, _], _ => rfl⟩
  have Fd_law_barred := fun_mk (st := s_law_barred) ld_law_barred cd_law_barred kd_law_barred
  have Dd_law_barred : GD K mg "_law_barred" s_law_barred ["home"] := ⟨fd_law_barred, _, Fd_law_barred, PySem.W.mg_of X G ad_law_barred, Fd_law_barred.binds (ps := ["home"]) fun _ _ _ _ _ _ us hl => match us, hl with | [_], _ => rfl⟩
  have qGREATEST_LAG : GC K mg "GREATEST_LAG" (.int 3) := ⟨.int 3, _, PySem.W.mg_of X G aqGREATEST_LAG, ⟨_, rfl⟩, fun c H ρ => .int _⟩
  have qGREATEST_RANK : GC K mg "GREATEST_RANK" (.int 2) := ⟨.int 2, _, PySem.W.mg_of X G aqGREATEST_RANK, ⟨_, rfl⟩, fun c H ρ => .int _⟩
  have qMOST_PINS : GC K mg "MOST_PINS" (.int 2) := ⟨.int 2, _, PySem.W.mg_of X G aqMOST_PINS, ⟨_, rfl⟩, fun c H ρ => .int _⟩
  have qMOST_ROOM : GC K mg "MOST_ROOM" (.int 4) := ⟨.int 4, _, PySem.W.mg_of X G aqMOST_ROOM, ⟨_, rfl⟩, fun c H ρ => .int _⟩
  have qMOST_TICKS : GC K mg "MOST_TICKS" (.int 3) := ⟨.int 3, _, PySem.W.mg_of X G aqMOST_TICKS, ⟨_, rfl⟩, fun c H ρ => .int _⟩
  have qMOST_WAITING : GC K mg "MOST_WAITING" (.int 2) := ⟨.int 2, _, PySem.W.mg_of X G aqMOST_WAITING, ⟨_, rfl⟩, fun c H ρ => .int _⟩
  have qNOTHING : GC K mg "NOTHING" (.tup [(.str "none")]) := ⟨.ref fqNOTHING, _, PySem.W.mg_of X G aqNOTHING, rfl, fun c H ρ => .tup (vs := [V.str "none"]) (.inr ⟨_, _, _, lqNOTHING, rfl, rfl, by show 1 ≤ sizeLine; decide, (.cons ⟨_, rfl⟩ (.nil) : Vals [V.str "none"] _)⟩) (.cons (.str _) (.nil))⟩
  have qTAP : GC K mg "TAP" (.tup [(.str "tap")]) := ⟨.ref fqTAP, _, PySem.W.mg_of X G aqTAP, rfl, fun c H ρ => .tup (vs := [V.str "tap"]) (.inr ⟨_, _, _, lqTAP, rfl, rfl, by show 1 ≤ sizeLine; decide, (.cons ⟨_, rfl⟩ (.nil) : Vals [V.str "tap"] _)⟩) (.cons (.str _) (.nil))⟩
  have qWAYS : GC K mg "WAYS" (.tup [(.str "end"), (.str "front"), (.str "rank")]) := ⟨.ref fqWAYS, _, PySem.W.mg_of X G aqWAYS, rfl, fun c H ρ => .tup (vs := [V.str "end", V.str "front", V.str "rank"]) (.inr ⟨_, _, _, lqWAYS, rfl, rfl, by show 3 ≤ sizeLine; decide, (.cons ⟨_, rfl⟩ (.cons ⟨_, rfl⟩ (.cons ⟨_, rfl⟩ (.nil))) : Vals [V.str "end", V.str "front", V.str "rank"] _)⟩) (.cons (.str _) (.cons (.str _) (.cons (.str _) (.nil))))⟩
  have clC0 : Cls K C0 := ⟨pgC0, hdC0, poC0, saC0⟩
  have cfC0 : ClsF K C0 := ⟨clC0, haC0, hn, ht, hmC0⟩
  have ggC0 := PySem.W.mg_of X G aC0
  have qNoneTypeC0 : PySem.W.kitOne K (.type "NoneType") (.ref C0) = some false := kit_ref icC0 tcC0 (by kernel_rfl) rfl
  have qboolC0 : PySem.W.kitOne K (.type "bool") (.ref C0) = some false := kit_ref icC0 tcC0 (by kernel_rfl) rfl
  have qintC0 : PySem.W.kitOne K (.type "int") (.ref C0) = some false := kit_ref icC0 tcC0 (by kernel_rfl) rfl
  have qstrC0 : PySem.W.kitOne K (.type "str") (.ref C0) = some false := kit_ref icC0 tcC0 (by kernel_rfl) rfl
  have qtupleC0 : PySem.W.kitOne K (.type "tuple") (.ref C0) = some false := kit_ref icC0 tcC0 (by kernel_rfl) rfl
  have qlistC0 : PySem.W.kitOne K (.type "list") (.ref C0) = some false := kit_ref icC0 tcC0 (by kernel_rfl) rfl
  have qdictC0 : PySem.W.kitOne K (.type "dict") (.ref C0) = some false := kit_ref icC0 tcC0 (by kernel_rfl) rfl
  have clC1 : Cls K C1 := ⟨pgC1, hdC1, poC1, saC1⟩
  have cfC1 : ClsF K C1 := ⟨clC1, haC1, hn, ht, hmC1⟩
  have ggC1 := PySem.W.mg_of X G aC1
  have qNoneTypeC1 : PySem.W.kitOne K (.type "NoneType") (.ref C1) = some false := kit_ref icC1 tcC1 (by kernel_rfl) rfl
  have qboolC1 : PySem.W.kitOne K (.type "bool") (.ref C1) = some false := kit_ref icC1 tcC1 (by kernel_rfl) rfl
  have qintC1 : PySem.W.kitOne K (.type "int") (.ref C1) = some false := kit_ref icC1 tcC1 (by kernel_rfl) rfl
  have qstrC1 : PySem.W.kitOne K (.type "str") (.ref C1) = some false := kit_ref icC1 tcC1 (by kernel_rfl) rfl
  have qtupleC1 : PySem.W.kitOne K (.type "tuple") (.ref C1) = some false := kit_ref icC1 tcC1 (by kernel_rfl) rfl
  have qlistC1 : PySem.W.kitOne K (.type "list") (.ref C1) = some false := kit_ref icC1 tcC1 (by kernel_rfl) rfl
  have qdictC1 : PySem.W.kitOne K (.type "dict") (.ref C1) = some false := kit_ref icC1 tcC1 (by kernel_rfl) rfl
  have ne01 : C0 ≠ C1 := fun z => by cases z; rw [s00] at s01; cases s01
  have q01 : PySem.W.kitOne K (.ref C0) (.ref C1) = some false := kit_ref icC1 tcC1 s01 (beq_eq_false_iff_ne.mpr fun z => ne01 (by cases z; rfl))
  have ne10 : C1 ≠ C0 := fun z => by cases z; rw [s11] at s10; cases s10
  have q10 : PySem.W.kitOne K (.ref C1) (.ref C0) = some false := kit_ref icC0 tcC0 s10 (beq_eq_false_iff_ne.mpr fun z => ne10 (by cases z; rfl))
  have kit0 : ∀ dw, KitOk K (cOf l.prog w C0 C1 dw) (.cls 0) := fun dw t b e hb => by
    cases t with
    | non => simp only [isTab] at e; cases e; exact qNoneTypeC0
    | bl => simp only [isTab] at e; cases e; exact qboolC0
    | int => simp only [isTab] at e; cases e; exact qintC0
    | str => simp only [isTab] at e; cases e; exact qstrC0
    | tup => simp only [isTab] at e; cases e; exact qtupleC0
    | lst => simp only [isTab] at e; cases e; exact qlistC0
    | dic => simp only [isTab] at e; cases e; exact qdictC0
    | ins j =>
      have hj : j < 2 := hb j rfl
      simp only [isTab] at e
      match j, hj, e with
      | 0, _, e => cases e; exact kit_self
      | 1, _, e => cases e; exact q10
  have kit1 : ∀ dw, KitOk K (cOf l.prog w C0 C1 dw) (.cls 1) := fun dw t b e hb => by
    cases t with
    | non => simp only [isTab] at e; cases e; exact qNoneTypeC1
    | bl => simp only [isTab] at e; cases e; exact qboolC1
    | int => simp only [isTab] at e; cases e; exact qintC1
    | str => simp only [isTab] at e; cases e; exact qstrC1
    | tup => simp only [isTab] at e; cases e; exact qtupleC1
    | lst => simp only [isTab] at e; cases e; exact qlistC1
    | dic => simp only [isTab] at e; cases e; exact qdictC1
    | ins j =>
      have hj : j < 2 := hb j rfl
      simp only [isTab] at e
      match j, hj, e with
      | 0, _, e => cases e; exact q01
      | 1, _, e => cases e; exact kit_self
  have Fx : ∀ dw, Facts K (cOf l.prog w C0 C1 dw) := fun dw => by
    refine ⟨fun k hk => ?_, fun k hk => ?_, fun k hk => ?_, fun k j hk hj e => ?_⟩
    · have hk : k < 2 := hk
      match k, hk with
      | 0, _ => exact cfC0
      | 1, _ => exact cfC1
    · have hk : k < 2 := hk
      match k, hk with
      | 0, _ => show fl0.Nodup; decide +kernel
      | 1, _ => show fl1.Nodup; decide +kernel
    · have hk : k < 2 := hk
      match k, hk with
      | 0, _ => show fl0.length < 1000; decide
      | 1, _ => show fl1.length < 1000; decide
    · have hk : k < 2 := hk
      have hj : j < 2 := hj
      match k, j, hk, hj, e with
      | 0, 0, _, _, e => rfl
      | 0, 1, _, _, e => exact absurd e ne01
      | 1, 0, _, _, e => exact absurd e ne10
      | 1, 1, _, _, e => rfl
  refine ⟨PySem.W.fnOf "law" "law" (defArgs slaw) (defBody slaw) (defScope slaw) .none kVlaw dclaw pmlaw anlaw cdlaw ctlaw, fun s v => .of_eq rfl, fun base _ _ => ?_⟩
  have Fpgoes := fun_mk (st := inClass (topS 22) 5) lpgoes cpgoes kpgoes
  have bpgoes := Fpgoes.binds (ps := ["self"]) fun _ _ _ _ _ _ us hl => match us, hl with | [_], _ => rfl
  have qpgoes : Pr l.prog w K mg base C1 "goes" "_goes" := ⟨ppgoes, fpgoes, _, ⟨apgoes, gpgoes, tpgoes, ⟨_, rpgoes⟩⟩, ok_get Fpgoes scpgoes rfl clC1 n4C1, bpgoes⟩
  have Fpguard := fun_mk (st := inClass (topS 15) 5) lpguard cpguard kpguard
  have bpguard := Fpguard.binds (ps := ["self"]) fun _ _ _ _ _ _ us hl => match us, hl with | [_], _ => rfl
  have qpguard : Pr l.prog w K mg base C0 "guard" "_guard" := ⟨ppguard, fpguard, _, ⟨apguard, gpguard, tpguard, ⟨_, rpguard⟩⟩, ok_get Fpguard scpguard rfl clC0 n4C0, bpguard⟩
  have Fphold := fun_mk (st := inClass (topS 15) 3) lphold cphold kphold
  have bphold := Fphold.binds (ps := ["self"]) fun _ _ _ _ _ _ us hl => match us, hl with | [_], _ => rfl
  have qphold : Pr l.prog w K mg base C0 "hold" "_hold" := ⟨pphold, fphold, _, ⟨aphold, gphold, tphold, ⟨_, rphold⟩⟩, ok_get Fphold scphold rfl clC0 n2C0, bphold⟩
  have Fplag := fun_mk (st := inClass (topS 22) 6) lplag cplag kplag
  have bplag := Fplag.binds (ps := ["self"]) fun _ _ _ _ _ _ us hl => match us, hl with | [_], _ => rfl
  have qplag : Pr l.prog w K mg base C1 "lag" "_lag" := ⟨pplag, fplag, _, ⟨aplag, gplag, tplag, ⟨_, rplag⟩⟩, ok_get Fplag scplag rfl clC1 n5C1, bplag⟩
  have Fpmany := fun_mk (st := inClass (topS 22) 4) lpmany cpmany kpmany
  have bpmany := Fpmany.binds (ps := ["self"]) fun _ _ _ _ _ _ us hl => match us, hl with | [_], _ => rfl
  have qpmany : Pr l.prog w K mg base C1 "many" "_many" := ⟨ppmany, fpmany, _, ⟨apmany, gpmany, tpmany, ⟨_, rpmany⟩⟩, ok_get Fpmany scpmany rfl clC1 n3C1, bpmany⟩
  have Fppins := fun_mk (st := inClass (topS 15) 4) lppins cppins kppins
  have bppins := Fppins.binds (ps := ["self"]) fun _ _ _ _ _ _ us hl => match us, hl with | [_], _ => rfl
  have qppins : Pr l.prog w K mg base C0 "pins" "_pins" := ⟨pppins, fppins, _, ⟨appins, gppins, tppins, ⟨_, rppins⟩⟩, ok_get Fppins scppins rfl clC0 n3C0, bppins⟩
  have Fproom := fun_mk (st := inClass (topS 22) 2) lproom cproom kproom
  have bproom := Fproom.binds (ps := ["self"]) fun _ _ _ _ _ _ us hl => match us, hl with | [_], _ => rfl
  have qproom : Pr l.prog w K mg base C1 "room" "_room" := ⟨pproom, fproom, _, ⟨aproom, gproom, tproom, ⟨_, rproom⟩⟩, ok_get Fproom scproom rfl clC1 n1C1, bproom⟩
  have Fprule := fun_mk (st := inClass (topS 22) 1) lprule cprule kprule
  have bprule := Fprule.binds (ps := ["self"]) fun _ _ _ _ _ _ us hl => match us, hl with | [_], _ => rfl
  have qprule : Pr l.prog w K mg base C1 "rule" "_rule" := ⟨pprule, fprule, _, ⟨aprule, gprule, tprule, ⟨_, rprule⟩⟩, ok_get Fprule scprule rfl clC1 n0C1, bprule⟩
  have Fpstill := fun_mk (st := inClass (topS 15) 2) lpstill cpstill kpstill
  have bpstill := Fpstill.binds (ps := ["self"]) fun _ _ _ _ _ _ us hl => match us, hl with | [_], _ => rfl
  have qpstill : Pr l.prog w K mg base C0 "still" "_still" := ⟨ppstill, fpstill, _, ⟨apstill, gpstill, tpstill, ⟨_, rpstill⟩⟩, ok_get Fpstill scpstill rfl clC0 n1C0, bpstill⟩
  have Fptop := fun_mk (st := inClass (topS 22) 3) lptop cptop kptop
  have bptop := Fptop.binds (ps := ["self"]) fun _ _ _ _ _ _ us hl => match us, hl with | [_], _ => rfl
  have qptop : Pr l.prog w K mg base C1 "top" "_top" := ⟨pptop, fptop, _, ⟨aptop, gptop, tptop, ⟨_, rptop⟩⟩, ok_get Fptop scptop rfl clC1 n2C1, bptop⟩
  have Fpway := fun_mk (st := inClass (topS 15) 1) lpway cpway kpway
  have bpway := Fpway.binds (ps := ["self"]) fun _ _ _ _ _ _ us hl => match us, hl with | [_], _ => rfl
  have qpway : Pr l.prog w K mg base C0 "way" "_way" := ⟨ppway, fpway, _, ⟨apway, gpway, tpway, ⟨_, rpway⟩⟩, ok_get Fpway scpway rfl clC0 n0C0, bpway⟩
  have T : ∀ dw, Tx l.prog w K mg base (cOf l.prog w C0 C1 dw) := fun dw => { F := Fx dw, f0 := fun _ => rfl, k0 := (by show 0 < 2; decide), l0 := rfl, g0 := ggC0, kit0 := kit0 dw, n_way := n0C0, n_still := n1C0, n_hold := n2C0, n_pins := n3C0, n_guard := n4C0, f1 := fun _ => rfl, k1 := (by show 1 < 2; decide), l1 := rfl, g1 := ggC1, kit1 := kit1 dw, n_rule := n0C1, n_room := n1C1, n_top := n2C1, n_many := n3C1, n_goes := n4C1, n_lag := n5C1, q_goes := qpgoes, q_guard := qpguard, q_hold := qphold, q_lag := qplag, q_many := qpmany, q_pins := qppins, q_room := qproom, q_rule := qprule, q_still := qpstill, q_top := qptop, q_way := qpway, c_GREATEST_LAG := qGREATEST_LAG, c_GREATEST_RANK := qGREATEST_RANK, c_MOST_PINS := qMOST_PINS, c_MOST_ROOM := qMOST_ROOM, c_MOST_TICKS := qMOST_TICKS, c_MOST_WAITING := qMOST_WAITING, c_NOTHING := qNOTHING, c_TAP := qTAP, c_WAYS := qWAYS, m_abs := y_abs, m_all := y_all, m_any := y_any, m_bool := y_bool, m_enumerate := y_enumerate, m_int := y_int, m_isinstance := y_isinstance, m_len := y_len, m_max := y_max, m_min := y_min, m_range := y_range, m_str := y_str, m_tuple := y_tuple }
  have Fi1 := fun_mk (st := sIHouse) li1 ci1 ki1
  have Di1 : GI K mg C1 "House" "House.__init__" sIHouse ["self", "rule", "room", "top", "many", "goes", "lag"] := ⟨fi1, _, Fi1, ⟨mkC1, ai1, ii1, kpC1⟩, ggC1, Fi1.binds (ps := ["self", "rule", "room", "top", "many", "goes", "lag"]) fun _ _ _ _ _ _ us hl => match us, hl with | [_, _, _, _, _, _, _], _ => rfl⟩
  have Fi0 := fun_mk (st := sIRule) li0 ci0 ki0
  have Di0 : GI K mg C0 "Rule" "Rule.__init__" sIRule ["self", "way", "still", "hold", "pins", "guard"] := ⟨fi0, _, Fi0, ⟨mkC0, ai0, ii0, kpC0⟩, ggC0, Fi0.binds (ps := ["self", "way", "still", "hold", "pins", "guard"]) fun _ _ _ _ _ _ us hl => match us, hl with | [_, _, _, _, _, _], _ => rfl⟩
  have Gbegin : FnOk l.prog w K mg base CX0 2 flaw_begin _ ["script"] (spBegin K) := ok_begin Flaw_begin y_abs
  have Gblend : FnOk l.prog w K mg base CX0 2 flaw_blend _ ["draw"] spBlend := ok_blend Flaw_blend y_int
  have Gtake : FnOk l.prog w K mg base CX0 3 flaw_take _ ["draw", "size"] spTake := ok_take Flaw_take Gblend klaw_blend blaw_blend glaw_blend y_int
  have G__law_take : ∀ dw, Own l.prog w K mg base (cOf l.prog w C0 C1 dw) 3 "_law_take" oTake := fun dw => own_take Gtake klaw_take blaw_take glaw_take
  have G__law_pick : ∀ dw, Own l.prog w K mg base (cOf l.prog w C0 C1 dw) 4 "_law_pick" F_law_pick := fun dw => ok_law_pick (T dw) Dd_law_pick (G__law_take dw)
  have G__law_way : ∀ dw, Own l.prog w K mg base (cOf l.prog w C0 C1 dw) 5 "_law_way" F_law_way := fun dw => ok_law_way (T dw) Dd_law_way (G__law_pick dw) (G__law_take dw)
  have G__law_home : ∀ dw, Own l.prog w K mg base (cOf l.prog w C0 C1 dw) 6 "_law_home" F_law_home := fun dw => ok_law_home (T dw) Dd_law_home (G__law_take dw) (G__law_way dw)
  have G_is_number : ∀ dw, Own l.prog w K mg base (cOf l.prog w C0 C1 dw) 1 "is_number" Fis_number := fun dw => okis_number (T dw) Ddis_number 
  have G_is_number_within : ∀ dw, Own l.prog w K mg base (cOf l.prog w C0 C1 dw) 2 "is_number_within" Fis_number_within := fun dw => okis_number_within (T dw) Ddis_number_within (G_is_number dw)
  have G_is_lag : ∀ dw, Own l.prog w K mg base (cOf l.prog w C0 C1 dw) 3 "is_lag" Fis_lag := fun dw => okis_lag (T dw) Ddis_lag (G_is_number_within dw)
  have I_House : ∀ dw, OwnI l.prog w K mg base (cOf l.prog w C0 C1 dw) 4 "House" 1 IHouse := fun dw => okIHouse (T dw) Di1 (G_is_number_within dw) (G_is_lag dw)
  have G_is_one_of : ∀ dw, Own l.prog w K mg base (cOf l.prog w C0 C1 dw) 1 "is_one_of" Fis_one_of := fun dw => okis_one_of (T dw) Ddis_one_of 
  have I_Rule : ∀ dw, OwnI l.prog w K mg base (cOf l.prog w C0 C1 dw) 3 "Rule" 0 IRule := fun dw => okIRule (T dw) Di0 (G_is_one_of dw) (G_is_number_within dw)
  have G__law_rule : ∀ dw, Own l.prog w K mg base (cOf l.prog w C0 C1 dw) 5 "_law_rule" F_law_rule := fun dw => ok_law_rule (T dw) Dd_law_rule (I_Rule dw)
  have G__law_house : ∀ dw, Own l.prog w K mg base (cOf l.prog w C0 C1 dw) 6 "_law_house" F_law_house := fun dw => ok_law_house (T dw) Dd_law_house (I_House dw) (G__law_rule dw)
  have G_check_house : ∀ dw, OwnD l.prog w K mg base (cOf l.prog w C0 C1 dw) 1 "check_house" Fcheck_house [(.str "house")] := fun dw => okcheck_house (T dw) Ddcheck_house 
  have G_first_standing : ∀ dw, Own l.prog w K mg base (cOf l.prog w C0 C1 dw) 3 "first_standing" Ffirst_standing := fun dw => okfirst_standing (T dw) Ddfirst_standing (G_check_house dw)
  have G_are_ranks : ∀ dw, Own l.prog w K mg base (cOf l.prog w C0 C1 dw) 3 "are_ranks" Fare_ranks := fun dw => okare_ranks (T dw) Ddare_ranks (G_is_number_within dw)
  have G_is_look : ∀ dw, Own l.prog w K mg base (cOf l.prog w C0 C1 dw) 3 "is_look" Fis_look := fun dw => okis_look (T dw) Ddis_look (G_is_number_within dw)
  have G_is_item : ∀ dw, Own l.prog w K mg base (cOf l.prog w C0 C1 dw) 3 "is_item" Fis_item := fun dw => okis_item (T dw) Ddis_item (G_is_number_within dw)
  have G_is_standing : ∀ dw, Own l.prog w K mg base (cOf l.prog w C0 C1 dw) 4 "is_standing" Fis_standing := fun dw => okis_standing (T dw) Ddis_standing (G_check_house dw) (G_is_item dw) (G_are_ranks dw) (G_is_number_within dw) (G_is_look dw)
  have G_check_standing : ∀ dw, Own l.prog w K mg base (cOf l.prog w C0 C1 dw) 5 "check_standing" Fcheck_standing := fun dw => okcheck_standing (T dw) Ddcheck_standing (G_is_standing dw)
  have G_changes_at : ∀ dw, Own l.prog w K mg base (cOf l.prog w C0 C1 dw) 3 "changes_at" Fchanges_at := fun dw => okchanges_at (T dw) Ddchanges_at 
  have G_changed : ∀ dw, Own l.prog w K mg base (cOf l.prog w C0 C1 dw) 1 "changed" Fchanged := fun dw => okchanged (T dw) Ddchanged 
  have G_must_draw : ∀ dw, Own l.prog w K mg base (cOf l.prog w C0 C1 dw) 3 "must_draw" Fmust_draw := fun dw => okmust_draw (T dw) Ddmust_draw 
  have G_undrawn_rows : ∀ dw, Own l.prog w K mg base (cOf l.prog w C0 C1 dw) 1 "undrawn_rows" Fundrawn_rows := fun dw => okundrawn_rows (T dw) Ddundrawn_rows 
  have G_place_by_way : ∀ dw, Own l.prog w K mg base (cOf l.prog w C0 C1 dw) 1 "place_by_way" Fplace_by_way := fun dw => okplace_by_way (T dw) Ddplace_by_way 
  have G_place_for : ∀ dw, Own l.prog w K mg base (cOf l.prog w C0 C1 dw) 3 "place_for" Fplace_for := fun dw => okplace_for (T dw) Ddplace_for (G_place_by_way dw)
  have G_drawn_rows : ∀ dw, Own l.prog w K mg base (cOf l.prog w C0 C1 dw) 4 "drawn_rows" Fdrawn_rows := fun dw => okdrawn_rows (T dw) Dddrawn_rows (G_undrawn_rows dw) (G_place_for dw)
  have G_stood_on : ∀ dw, Own l.prog w K mg base (cOf l.prog w C0 C1 dw) 3 "stood_on" Fstood_on := fun dw => okstood_on (T dw) Ddstood_on 
  have G_followed : ∀ dw, Own l.prog w K mg base (cOf l.prog w C0 C1 dw) 1 "followed" Ffollowed := fun dw => okfollowed (T dw) Ddfollowed 
  have G_settled_at : ∀ dw, Own l.prog w K mg base (cOf l.prog w C0 C1 dw) 5 "settled_at" Fsettled_at := fun dw => oksettled_at (T dw) Ddsettled_at (G_changed dw) (G_must_draw dw) (G_drawn_rows dw) (G_undrawn_rows dw) (G_followed dw) (G_stood_on dw)
  have G_hands_at : ∀ dw, Own l.prog w K mg base (cOf l.prog w C0 C1 dw) 3 "hands_at" Fhands_at := fun dw => okhands_at (T dw) Ddhands_at 
  have G_outcome_of : ∀ dw, Own l.prog w K mg base (cOf l.prog w C0 C1 dw) 3 "outcome_of" Foutcome_of := fun dw => okoutcome_of (T dw) Ddoutcome_of 
  have G_handled : ∀ dw, Own l.prog w K mg base (cOf l.prog w C0 C1 dw) 4 "handled" Fhandled := fun dw => okhandled (T dw) Ddhandled (G_outcome_of dw)
  have G_steps_at : ∀ dw, Own l.prog w K mg base (cOf l.prog w C0 C1 dw) 6 "steps_at" Fsteps_at := fun dw => oksteps_at (T dw) Ddsteps_at (G_changes_at dw) (G_settled_at dw) (G_hands_at dw) (G_handled dw)
  have G_moments_at : ∀ dw, Own l.prog w K mg base (cOf l.prog w C0 C1 dw) 7 "moments_at" Fmoments_at := fun dw => okmoments_at (T dw) Ddmoments_at (G_check_standing dw) (G_steps_at dw)
  have G_is_comparable : ∀ dw, Own l.prog w K mg base (cOf l.prog w C0 C1 dw) 2 "is_comparable" Fis_comparable := fun dw => okis_comparable (T dw) Ddis_comparable (G_is_number dw)
  have G_step_at : ∀ dw, Own l.prog w K mg base (cOf l.prog w C0 C1 dw) 6 "step_at" Fstep_at := fun dw => okstep_at (T dw) Ddstep_at (G_is_comparable dw) (G_changes_at dw) (G_settled_at dw) (G_hands_at dw) (G_handled dw)
  have G_tick_at : ∀ dw, Own l.prog w K mg base (cOf l.prog w C0 C1 dw) 7 "tick_at" Ftick_at := fun dw => oktick_at (T dw) Ddtick_at (G_check_standing dw) (G_step_at dw)
  have G__law_results : ∀ dw, Own l.prog w K mg base (cOf l.prog w C0 C1 dw) 8 "_law_results" F_law_results := fun dw => ok_law_results (T dw) Dd_law_results (G_first_standing dw) (G_moments_at dw) (G__law_pick dw) (G__law_take dw) (G_tick_at dw)
  have G__law_barred : ∀ dw, Own l.prog w K mg base (cOf l.prog w C0 C1 dw) 1 "_law_barred" F_law_barred := fun dw => ok_law_barred (T dw) Dd_law_barred 
  exact ok_law Flaw T Gbegin klaw_begin blaw_begin glaw_begin G__law_home G__law_pick G__law_take G__law_results G__law_house G__law_barred
end K14

open PySem PySem.W PyProof.Rows
set_option Elab.async false
set_option linter.all false
set_option maxRecDepth 100000 in
set_option pp.maxSteps 60 in
set_option pp.deepTerms false in
set_option maxHeartbeats 0 in
theorem PySem.Challenge.cw_undertap_k14_whole_what_rules_bar_holds : PySem.Challenge.rw_undertap_k14_whole_what_rules_bar.Holds := by
  w_on; o_law; k_head; (case hw => w_witness2)
  k_fill
  refine L2.walk_of (l := PySem.Challenge.rw_undertap_k14_whole_what_rules_bar) (n := 63) (k := 9) (CX := fun _ => L2.CX0) (x := "script") (sp := fun w => Ev.spLaw _) rfl (by decide) rfl ⟨rfl, by decide, by decide⟩ (fun w h Y => PySem.W.kIn_of Y) ?F (fun _ _ a ns hl _ hS => ⟨a, ns, rfl, hS, hl, fun _ => rfl⟩) (fun _ _ _ _ _ z => z)
  case F =>
    intro w mg fa h KX G hmg
    have hlaw : mg (PySem.Str.ofString "law") = some (.ref fa) := hmg
    clear hmg
    refine' K14.all_mk KX G hlaw ?aC0 ?aC1 ?alaw_begin ?llaw_begin ?claw_begin ?klaw_begin ?alaw_blend ?llaw_blend ?claw_blend ?klaw_blend ?alaw_take ?llaw_take ?claw_take ?klaw_take ?alaw ?llaw ?claw ?klaw ?ad_law_pick ?ld_law_pick ?cd_law_pick ?kd_law_pick ?ad_law_way ?ld_law_way ?cd_law_way ?kd_law_way ?ad_law_home ?ld_law_home ?cd_law_home ?kd_law_home ?adis_number ?ldis_number ?cdis_number ?kdis_number ?adis_number_within ?ldis_number_within ?cdis_number_within ?kdis_number_within ?adis_lag ?ldis_lag ?cdis_lag ?kdis_lag ?adis_one_of ?ldis_one_of ?cdis_one_of ?kdis_one_of ?ad_law_rule ?ld_law_rule ?cd_law_rule ?kd_law_rule ?ad_law_house ?ld_law_house ?cd_law_house ?kd_law_house ?adcheck_house ?ldcheck_house ?cdcheck_house ?kdcheck_house ?tdcheck_house ?adfirst_standing ?ldfirst_standing ?cdfirst_standing ?kdfirst_standing ?adare_ranks ?ldare_ranks ?cdare_ranks ?kdare_ranks ?adis_look ?ldis_look ?cdis_look ?kdis_look ?adis_item ?ldis_item ?cdis_item ?kdis_item ?adis_standing ?ldis_standing ?cdis_standing ?kdis_standing ?adcheck_standing ?ldcheck_standing ?cdcheck_standing ?kdcheck_standing ?adchanges_at ?ldchanges_at ?cdchanges_at ?kdchanges_at ?adchanged ?ldchanged ?cdchanged ?kdchanged ?admust_draw ?ldmust_draw ?cdmust_draw ?kdmust_draw ?adundrawn_rows ?ldundrawn_rows ?cdundrawn_rows ?kdundrawn_rows ?adplace_by_way ?ldplace_by_way ?cdplace_by_way ?kdplace_by_way ?adplace_for ?ldplace_for ?cdplace_for ?kdplace_for ?addrawn_rows ?lddrawn_rows ?cddrawn_rows ?kddrawn_rows ?adstood_on ?ldstood_on ?cdstood_on ?kdstood_on ?adfollowed ?ldfollowed ?cdfollowed ?kdfollowed ?adsettled_at ?ldsettled_at ?cdsettled_at ?kdsettled_at ?adhands_at ?ldhands_at ?cdhands_at ?kdhands_at ?adoutcome_of ?ldoutcome_of ?cdoutcome_of ?kdoutcome_of ?adhandled ?ldhandled ?cdhandled ?kdhandled ?adsteps_at ?ldsteps_at ?cdsteps_at ?kdsteps_at ?admoments_at ?ldmoments_at ?cdmoments_at ?kdmoments_at ?adis_comparable ?ldis_comparable ?cdis_comparable ?kdis_comparable ?adstep_at ?ldstep_at ?cdstep_at ?kdstep_at ?adtick_at ?ldtick_at ?cdtick_at ?kdtick_at ?ad_law_results ?ld_law_results ?cd_law_results ?kd_law_results ?ad_law_barred ?ld_law_barred ?cd_law_barred ?kd_law_barred ?ai1 ?ii1 ?li1 ?ci1 ?ki1 ?ai0 ?ii0 ?li0 ?ci0 ?ki0 ?apgoes ?gpgoes ?tpgoes ?rpgoes ?lpgoes ?cpgoes ?kpgoes ?apguard ?gpguard ?tpguard ?rpguard ?lpguard ?cpguard ?kpguard ?aphold ?gphold ?tphold ?rphold ?lphold ?cphold ?kphold ?aplag ?gplag ?tplag ?rplag ?lplag ?cplag ?kplag ?apmany ?gpmany ?tpmany ?rpmany ?lpmany ?cpmany ?kpmany ?appins ?gppins ?tppins ?rppins ?lppins ?cppins ?kppins ?aproom ?gproom ?tproom ?rproom ?lproom ?cproom ?kproom ?aprule ?gprule ?tprule ?rprule ?lprule ?cprule ?kprule ?apstill ?gpstill ?tpstill ?rpstill ?lpstill ?cpstill ?kpstill ?aptop ?gptop ?tptop ?rptop ?lptop ?cptop ?kptop ?apway ?gpway ?tpway ?rpway ?lpway ?cpway ?kpway ?pgC0 ?hdC0 ?poC0 ?saC0 ?mkC0 ?kpC0 ?n0C0 ?n1C0 ?n2C0 ?n3C0 ?n4C0 ?haC0 ?hmC0 ?icC0 ?tcC0 ?pgC1 ?hdC1 ?poC1 ?saC1 ?mkC1 ?kpC1 ?n0C1 ?n1C1 ?n2C1 ?n3C1 ?n4C1 ?n5C1 ?haC1 ?hmC1 ?icC1 ?tcC1 ?s00 ?s01 ?s10 ?s11 ?hn ?ht ?aqGREATEST_LAG ?aqGREATEST_RANK ?aqMOST_PINS ?aqMOST_ROOM ?aqMOST_TICKS ?aqMOST_WAITING ?aqNOTHING ?lqNOTHING ?aqTAP ?lqTAP ?aqWAYS ?lqWAYS ?z_abs ?z_all ?z_any ?z_bool ?z_enumerate ?z_int ?z_isinstance ?z_len ?z_max ?z_min ?z_range ?z_str ?z_tuple
    (case aC0 => k_is)
    (case aC1 => k_is)
    (case alaw_begin => k_is)
    (case llaw_begin => k_is)
    (case claw_begin => k_is)
    (case klaw_begin => k_is)
    (case alaw_blend => k_is)
    (case llaw_blend => k_is)
    (case claw_blend => k_is)
    (case klaw_blend => k_is)
    (case alaw_take => k_is)
    (case llaw_take => k_is)
    (case claw_take => k_is)
    (case klaw_take => k_is)
    (case alaw => k_is)
    (case llaw => k_is)
    (case claw => k_is)
    (case klaw => k_is)
    (case ad_law_pick => k_is)
    (case ld_law_pick => k_is)
    (case cd_law_pick => k_is)
    (case kd_law_pick => k_is)
    (case ad_law_way => k_is)
    (case ld_law_way => k_is)
    (case cd_law_way => k_is)
    (case kd_law_way => k_is)
    (case ad_law_home => k_is)
    (case ld_law_home => k_is)
    (case cd_law_home => k_is)
    (case kd_law_home => k_is)
    (case adis_number => k_is)
    (case ldis_number => k_is)
    (case cdis_number => k_is)
    (case kdis_number => k_is)
    (case adis_number_within => k_is)
    (case ldis_number_within => k_is)
    (case cdis_number_within => k_is)
    (case kdis_number_within => k_is)
    (case adis_lag => k_is)
    (case ldis_lag => k_is)
    (case cdis_lag => k_is)
    (case kdis_lag => k_is)
    (case adis_one_of => k_is)
    (case ldis_one_of => k_is)
    (case cdis_one_of => k_is)
    (case kdis_one_of => k_is)
    (case ad_law_rule => k_is)
    (case ld_law_rule => k_is)
    (case cd_law_rule => k_is)
    (case kd_law_rule => k_is)
    (case ad_law_house => k_is)
    (case ld_law_house => k_is)
    (case cd_law_house => k_is)
    (case kd_law_house => k_is)
    (case adcheck_house => k_is)
    (case ldcheck_house => k_is)
    (case cdcheck_house => k_is)
    (case kdcheck_house => k_is)
    (case tdcheck_house => k_is)
    (case adfirst_standing => k_is)
    (case ldfirst_standing => k_is)
    (case cdfirst_standing => k_is)
    (case kdfirst_standing => k_is)
    (case adare_ranks => k_is)
    (case ldare_ranks => k_is)
    (case cdare_ranks => k_is)
    (case kdare_ranks => k_is)
    (case adis_look => k_is)
    (case ldis_look => k_is)
    (case cdis_look => k_is)
    (case kdis_look => k_is)
    (case adis_item => k_is)
    (case ldis_item => k_is)
    (case cdis_item => k_is)
    (case kdis_item => k_is)
    (case adis_standing => k_is)
    (case ldis_standing => k_is)
    (case cdis_standing => k_is)
    (case kdis_standing => k_is)
    (case adcheck_standing => k_is)
    (case ldcheck_standing => k_is)
    (case cdcheck_standing => k_is)
    (case kdcheck_standing => k_is)
    (case adchanges_at => k_is)
    (case ldchanges_at => k_is)
    (case cdchanges_at => k_is)
    (case kdchanges_at => k_is)
    (case adchanged => k_is)
    (case ldchanged => k_is)
    (case cdchanged => k_is)
    (case kdchanged => k_is)
    (case admust_draw => k_is)
    (case ldmust_draw => k_is)
    (case cdmust_draw => k_is)
    (case kdmust_draw => k_is)
    (case adundrawn_rows => k_is)
    (case ldundrawn_rows => k_is)
    (case cdundrawn_rows => k_is)
    (case kdundrawn_rows => k_is)
    (case adplace_by_way => k_is)
    (case ldplace_by_way => k_is)
    (case cdplace_by_way => k_is)
    (case kdplace_by_way => k_is)
    (case adplace_for => k_is)
    (case ldplace_for => k_is)
    (case cdplace_for => k_is)
    (case kdplace_for => k_is)
    (case addrawn_rows => k_is)
    (case lddrawn_rows => k_is)
    (case cddrawn_rows => k_is)
    (case kddrawn_rows => k_is)
    (case adstood_on => k_is)
    (case ldstood_on => k_is)
    (case cdstood_on => k_is)
    (case kdstood_on => k_is)
    (case adfollowed => k_is)
    (case ldfollowed => k_is)
    (case cdfollowed => k_is)
    (case kdfollowed => k_is)
    (case adsettled_at => k_is)
    (case ldsettled_at => k_is)
    (case cdsettled_at => k_is)
    (case kdsettled_at => k_is)
    (case adhands_at => k_is)
    (case ldhands_at => k_is)
    (case cdhands_at => k_is)
    (case kdhands_at => k_is)
    (case adoutcome_of => k_is)
    (case ldoutcome_of => k_is)
    (case cdoutcome_of => k_is)
    (case kdoutcome_of => k_is)
    (case adhandled => k_is)
    (case ldhandled => k_is)
    (case cdhandled => k_is)
    (case kdhandled => k_is)
    (case adsteps_at => k_is)
    (case ldsteps_at => k_is)
    (case cdsteps_at => k_is)
    (case kdsteps_at => k_is)
    (case admoments_at => k_is)
    (case ldmoments_at => k_is)
    (case cdmoments_at => k_is)
    (case kdmoments_at => k_is)
    (case adis_comparable => k_is)
    (case ldis_comparable => k_is)
    (case cdis_comparable => k_is)
    (case kdis_comparable => k_is)
    (case adstep_at => k_is)
    (case ldstep_at => k_is)
    (case cdstep_at => k_is)
    (case kdstep_at => k_is)
    (case adtick_at => k_is)
    (case ldtick_at => k_is)
    (case cdtick_at => k_is)
    (case kdtick_at => k_is)
    (case ad_law_results => k_is)
    (case ld_law_results => k_is)
    (case cd_law_results => k_is)
    (case kd_law_results => k_is)
    (case ad_law_barred => k_is)
    (case ld_law_barred => k_is)
    (case cd_law_barred => k_is)
    (case kd_law_barred => k_is)
    (case ai1 => k_is)
    (case ii1 => k_is)
    (case li1 => k_is)
    (case ci1 => k_is)
    (case ki1 => k_is)
    (case ai0 => k_is)
    (case ii0 => k_is)
    (case li0 => k_is)
    (case ci0 => k_is)
    (case ki0 => k_is)
    (case apgoes => k_is)
    (case gpgoes => k_is)
    (case tpgoes => k_is)
    (case rpgoes => k_is)
    (case lpgoes => k_is)
    (case cpgoes => k_is)
    (case kpgoes => k_is)
    (case apguard => k_is)
    (case gpguard => k_is)
    (case tpguard => k_is)
    (case rpguard => k_is)
    (case lpguard => k_is)
    (case cpguard => k_is)
    (case kpguard => k_is)
    (case aphold => k_is)
    (case gphold => k_is)
    (case tphold => k_is)
    (case rphold => k_is)
    (case lphold => k_is)
    (case cphold => k_is)
    (case kphold => k_is)
    (case aplag => k_is)
    (case gplag => k_is)
    (case tplag => k_is)
    (case rplag => k_is)
    (case lplag => k_is)
    (case cplag => k_is)
    (case kplag => k_is)
    (case apmany => k_is)
    (case gpmany => k_is)
    (case tpmany => k_is)
    (case rpmany => k_is)
    (case lpmany => k_is)
    (case cpmany => k_is)
    (case kpmany => k_is)
    (case appins => k_is)
    (case gppins => k_is)
    (case tppins => k_is)
    (case rppins => k_is)
    (case lppins => k_is)
    (case cppins => k_is)
    (case kppins => k_is)
    (case aproom => k_is)
    (case gproom => k_is)
    (case tproom => k_is)
    (case rproom => k_is)
    (case lproom => k_is)
    (case cproom => k_is)
    (case kproom => k_is)
    (case aprule => k_is)
    (case gprule => k_is)
    (case tprule => k_is)
    (case rprule => k_is)
    (case lprule => k_is)
    (case cprule => k_is)
    (case kprule => k_is)
    (case apstill => k_is)
    (case gpstill => k_is)
    (case tpstill => k_is)
    (case rpstill => k_is)
    (case lpstill => k_is)
    (case cpstill => k_is)
    (case kpstill => k_is)
    (case aptop => k_is)
    (case gptop => k_is)
    (case tptop => k_is)
    (case rptop => k_is)
    (case lptop => k_is)
    (case cptop => k_is)
    (case kptop => k_is)
    (case apway => k_is)
    (case gpway => k_is)
    (case tpway => k_is)
    (case rpway => k_is)
    (case lpway => k_is)
    (case cpway => k_is)
    (case kpway => k_is)
    (case pgC0 => k_is)
    (case hdC0 => k_is)
    (case poC0 => k_is)
    (case saC0 => k_is)
    (case mkC0 => k_is)
    (case kpC0 => k_is)
    (case n0C0 => k_is)
    (case n1C0 => k_is)
    (case n2C0 => k_is)
    (case n3C0 => k_is)
    (case n4C0 => k_is)
    (case haC0 => k_is)
    (case hmC0 => k_is)
    (case icC0 => k_is)
    (case tcC0 => k_is)
    (case pgC1 => k_is)
    (case hdC1 => k_is)
    (case poC1 => k_is)
    (case saC1 => k_is)
    (case mkC1 => k_is)
    (case kpC1 => k_is)
    (case n0C1 => k_is)
    (case n1C1 => k_is)
    (case n2C1 => k_is)
    (case n3C1 => k_is)
    (case n4C1 => k_is)
    (case n5C1 => k_is)
    (case haC1 => k_is)
    (case hmC1 => k_is)
    (case icC1 => k_is)
    (case tcC1 => k_is)
    (case s00 => k_is)
    (case s01 => k_is)
    (case s10 => k_is)
    (case s11 => k_is)
    (case hn => k_is)
    (case ht => k_is)
    (case aqGREATEST_LAG => k_is)
    (case aqGREATEST_RANK => k_is)
    (case aqMOST_PINS => k_is)
    (case aqMOST_ROOM => k_is)
    (case aqMOST_TICKS => k_is)
    (case aqMOST_WAITING => k_is)
    (case aqNOTHING => k_is)
    (case lqNOTHING => k_is)
    (case aqTAP => k_is)
    (case lqTAP => k_is)
    (case aqWAYS => k_is)
    (case lqWAYS => k_is)
    (case z_abs => k_is)
    (case z_all => k_is)
    (case z_any => k_is)
    (case z_bool => k_is)
    (case z_enumerate => k_is)
    (case z_int => k_is)
    (case z_isinstance => k_is)
    (case z_len => k_is)
    (case z_max => k_is)
    (case z_min => k_is)
    (case z_range => k_is)
    (case z_str => k_is)
    (case z_tuple => k_is)
