import PyProof.Rows.All
import Wide.All
import OpenK.AllK
import Wide.FinOn
import HandS.ForMost
import HandS.Wide
import HandS.IsInst
import HandS.Property
import HandS.MakeKw
import HandS.More
import HandS.OwnEq
import HandS.Codes
import HandS.MakeKwOnly
import HandS.Small
import HandS.Ends
import HandS.Exc
import HandS.ExcValue
import HandS.ExcInit
import HandS.ExcIs
import HandS.ExcField
import KE.KExcIs
import HandS.Lambda
import HandS.EndTab
import PySem.Challenge.RW_undertap_k02_rules_refused_or_taken
import HandS.WordsExc
import HandS.Defaults
set_option Elab.async false
set_option linter.all false
set_option maxRecDepth 100000
set_option maxHeartbeats 4000000
/-! What all laws share: the state of the draws. -/
namespace Dr
open PySem PySem.Spec PyProof.Rows L2
/-- the pairs of the draws' dict -/
def kD (g c : Addr) (r t : Int) : List (Key × V) := [(.inr "great", .ref g), (.inr "rest", .int r), (.inr "cells", .ref c), (.inr "turn", .int t)]
theorem k_great (g c : Addr) (r t : Int) : valV (kD g c r t) (.inr "great") = some (.ref g) := valV_pos rfl
theorem k_rest (g c : Addr) (r t : Int) : valV (kD g c r t) (.inr "rest") = some (.int r) :=
  (valV_neg (show ¬ (.inr "great" : Key) = .inr "rest" by decide +kernel)).trans (valV_pos rfl)
theorem k_cells (g c : Addr) (r t : Int) : valV (kD g c r t) (.inr "cells") = some (.ref c) :=
  (valV_neg (show ¬ (.inr "great" : Key) = .inr "cells" by decide +kernel)).trans ((valV_neg (show ¬ (.inr "rest" : Key) = .inr "cells" by decide +kernel)).trans (valV_pos rfl))
theorem k_turn (g c : Addr) (r t : Int) : valV (kD g c r t) (.inr "turn") = some (.int t) :=
  (valV_neg (show ¬ (.inr "great" : Key) = .inr "turn" by decide +kernel)).trans ((valV_neg (show ¬ (.inr "rest" : Key) = .inr "turn" by decide +kernel)).trans ((valV_neg (show ¬ (.inr "cells" : Key) = .inr "turn" by decide +kernel)).trans (valV_pos rfl)))
theorem p_rest (g c : Addr) (r t x : Int) : putK (kD g c r t) (.inr "rest") (.int x) = kD g c x t := by kernel_rfl
theorem p_turn (g c : Addr) (r t x : Int) : putK (kD g c r t) (.inr "turn") (.int x) = kD g c r x := by kernel_rfl
theorem dg_of {H : Hp} {d : Addr} {kvs : List (Key × V)} {x : Str} {v : V} (h : H d = some (.dK kvs)) (e : valV kvs (.inr x) = some v) : DGet H d (.str x) (some v) := by
  have q := DGet.k (k := .inr x) h
  rw [e] at q
  exact q
theorem dp_of {H : Hp} {d : Addr} {kvs kvs' : List (Key × V)} {x : Str} {v : V} (h : H d = some (.dK kvs)) (e : putK kvs (.inr x) v = kvs') (hl : kvs.length < sizeLine) : DPut H d (.str x) v (upd H d (.dK kvs')) := by
  have q := DPut.k (k := .inr x) (v := v) h hl
  rw [e] at q
  exact q
theorem kD_len (g c : Addr) (r t : Int) : (kD g c r t).length < sizeLine := small1000 (show 4 ≤ 1000 by decide)
theorem ints_dp {K : PySem.W.Frag} {H : Hp} : ∀ ns : List Int, DpAll K H (ns.map V.int) (ns.map PyData.int)
  | [] => .nil
  | n :: r => .cons (.int n) (ints_dp r)
theorem ints_lay : ∀ ns : List Int, PyData.canLayAll0 (ns.map PyData.int) = true
  | [] => by simp [PyData.canLayAll0]
  | n :: r => by simp [PyData.canLayAll0, PyData.canLay0, ints_lay r]
theorem ints_depth : ∀ ns : List Int, PyData.depthAll (ns.map PyData.int) = 0
  | [] => by simp [PyData.depthAll]
  | n :: r => by simp [PyData.depthAll, PyData.depth, ints_depth r]
theorem ints_shaped (ns : List Int) : SeqAt.shaped (.list (ns.map PyData.int)) = true := by
  have h1 := ints_depth ns
  have h2 : PyData.depth (.list (ns.map PyData.int)) ≤ 64 := by
    simp only [PyData.depth]
    omega
  show (PyData.canLay0 (.list (ns.map PyData.int)) && decide (PyData.depth (.list (ns.map PyData.int)) ≤ 64)) = true
  rw [Bool.and_eq_true]
  exact ⟨by simp only [PyData.canLay0]; exact ints_lay ns, decide_eq_true h2⟩
/-- the draws stand at d: their large numbers at g, all numbers at c -/
structure Dw (H : Hp) (d g c : Addr) : Prop where
  ex : ∃ (gs cs : List Int) (r t : Int), H d = some (.dK (kD g c r t)) ∧ H g = some (.lst (gs.map V.int)) ∧ H c = some (.lst (cs.map V.int))
  gc : g ≠ c
/-- all but the draws' dict and their large numbers stands as it stood -/
def Fr2 (d g : Addr) (H H' : Hp) : Prop := ∀ b o, b ≠ d → b ≠ g → H b = some o → H' b = some o
theorem Fr2.refl {d g : Addr} (H : Hp) : Fr2 d g H H := fun _ _ _ _ h => h
theorem Fr2.trans {d g : Addr} {H H1 H2 : Hp} (a : Fr2 d g H H1) (b : Fr2 d g H1 H2) : Fr2 d g H H2 := fun c o h1 h2 h => b c o h1 h2 (a c o h1 h2 h)
theorem Fr2.same {d g : Addr} {H H' : Hp} (a : Same H H') : Fr2 d g H H' := fun c o _ _ h => a c o h
theorem Fr2.new {d g p : Addr} {H H' : Hp} {o : HO} (a : Fr2 d g H H') (n : H' p = none) : Fr2 d g H (upd H' p o) := fun b u h1 h2 h => by
  have e := a b u h1 h2 h
  rw [upd_ne (ne_of_none e n)]
  exact e
theorem Dw.dg {H : Hp} {d g c : Addr} (D : Dw H d g c) : d ≠ g := by
  obtain ⟨⟨gs, cs, r, t, hd, hg, hc⟩, _⟩ := D
  exact ne_of hd hg (by intro z; cases z)
theorem Dw.dc {H : Hp} {d g c : Addr} (D : Dw H d g c) : d ≠ c := by
  obtain ⟨⟨gs, cs, r, t, hd, hg, hc⟩, _⟩ := D
  exact ne_of hd hc (by intro z; cases z)
theorem Dw.keep {H H' : Hp} {d g c : Addr} (D : Dw H d g c) (k : ∀ b o, b = d ∨ b = g ∨ b = c → H b = some o → H' b = some o) : Dw H' d g c := by
  obtain ⟨⟨gs, cs, r, t, hd, hg, hc⟩, gc⟩ := D
  exact ⟨⟨gs, cs, r, t, k _ _ (.inl rfl) hd, k _ _ (.inr (.inl rfl)) hg, k _ _ (.inr (.inr rfl)) hc⟩, gc⟩
theorem Dw.new {H : Hp} {d g c p : Addr} {o : HO} (D : Dw H d g c) (n : H p = none) : Dw (upd H p o) d g c := D.keep fun b u _ e => by
  rw [upd_ne (ne_of_none e n)]
  exact e
theorem Dw.same {H H' : Hp} {d g c : Addr} (D : Dw H d g c) (k : Same H H') : Dw H' d g c := D.keep fun b u _ e => k b u e
theorem same_upd {H : Hp} {p : Addr} {o : HO} (h : H p = none) : Same H (upd H p o) := fun b x e => by
  rw [upd_ne (ne_of_none e h)]
  exact e
/-- a number from 0 to m - 1 is drawn -/
def spTake : Sp := fun vs H Q _ => ∃ (d g c : Addr) (m : Int), vs = [.ref d, .int m] ∧ Dw H d g c ∧ 0 < m ∧ m < 1000000 ∧
  ∀ (i : Int) (H' : Hp), 0 ≤ i → i < m → Dw H' d g c → Fr2 d g H H' → Q (.int i) H'
/-- one of the items is drawn -/
def spPick : Sp := fun vs H Q _ => ∃ (d g c s : Addr) (xs : List V), vs = [.ref d, .ref s] ∧ Dw H d g c ∧ H s = some (.lst xs) ∧ s ≠ g ∧ xs ≠ [] ∧ xs.length < 1000 ∧
  ∀ (i : Nat) (x : V) (H' : Hp), xs[i]? = some x → Dw H' d g c → Fr2 d g H H' → Q x H'
/-- a number from 0 on, mixed; the draws go on -/
def spBlend : Sp := fun vs H Q _ => ∃ (d g c : Addr) (gs cs : List Int) (r t : Int), vs = [.ref d] ∧ H d = some (.dK (kD g c r t)) ∧ H g = some (.lst (gs.map V.int)) ∧ H c = some (.lst (cs.map V.int)) ∧ g ≠ c ∧
  ∀ (i : Int) (H' : Hp), (∀ b o, b ≠ d → H b = some o → H' b = some o) → H' d = some (.dK (kD g c r (t + 1))) → Q (.int i) H'
def spBegin (K : PySem.W.Frag) : Sp := fun vs H Q _ => ∃ (a : Addr) (ns : List Int), vs = [.ref a] ∧ SqL K H a (ns.map V.int) ∧ ns.length ≤ 63 ∧
  ∀ (d g c : Addr) (H' : Hp), Same H H' → H d = none → H g = none → H c = none → Dw H' d g c → Q (.ref d) H'
end Dr

/-! Defs that are called only where no guard of repr stands on the stack: repr of data shows its whole text there. -/
namespace Gd
open PySem PySem.Spec PyProof.Rows L2 Dr
section
variable {P : Program} {w : World} {K : PySem.W.Frag} {mg : Str → Option Value} {base : Heap} {CX : CXT} {k : Nat} {f : Addr} {fd : FuncData} {ps : List Str} {sp : Sp}
/-- the promise of a def, kept where no guard stands on the stack -/
structure FnG (P : Program) (w : World) (K : PySem.W.Frag) (mg : Str → Option Value) (base : Heap)
    (k : Nat) (f : Addr) (fd : FuncData) (ps : List Str) (sp : Sp) : Prop where
  many : ∀ xs G R W, sp xs G R W → xs.length = ps.length
  goes : ∀ (B : Around) (below : List Env) (z : Shared) (G : Hp) (as : Args) (ys : List Value) (xs : List V) (R : VK) (W : XK),
    B.guards = some [] → Room k B → Env0 P w K mg base B below z G → BindsTo z fd as (ps.zip ys) → Vals xs ys →
    sp xs G R W → codeAny (model P w) B (.call (.ref f) as) (CR CX0 below P w G z R W) z
/-- a def of the text, by its body -/
theorem okG {x qual : Str} {st : Stmt} {N : List Str} (F : Fun K x qual st f fd) (S : FnScope N ps (defScope st))
    (many : ∀ xs G R W, sp xs G R W → xs.length = ps.length)
    (body : ∀ (c : Value) (B : Around) (below : List Env) (z : Shared) (G : Hp) (xs : List V) (R : VK) (W : XK), B.guards = some [] →
      Room k (B.deeper (envOfC qual (defScope st) z.heap.objs.size f c)) → sp xs G R W →
      ∃ t, PSs (cxOf CX0 P w K mg base N qual (defScope st) f c B below z G W).nox (defBody st) t ∧
        t { nx := fun _ G' => R .non G', rt := R } (start N xs) G) : FnG P w K mg base (k + 1) f fd ps sp := by
  obtain ⟨oc, od, kV, doc, pm, an, c, ct, osl, rfl, look, code⟩ := F.ex
  refine ⟨many, ?_⟩
  intro B below z G as ys xs R W gd room e0 bind rel holds
  have old : ∀ b o, base.get? b = some o → z.heap.get? b = some o := fun b o q => (e0.bs b o q).1
  have inK := e0.mod.kin.keeps old
  have slots : ∀ y ∈ ps.zip ys, (defScope st).names.lookup y.1 = some .local ∨ ((defScope st).names.lookup y.1 = some .cell ∧
      ((cellsFrom (z.heap.objs.size + 1) (defScope st).names []).lookup y.1).isSome = true) := by
    rintro ⟨n, v⟩ hy
    cases S.par n (List.of_mem_zip hy).1 with
    | inl q => exact .inl q
    | inr q => exact .inr ⟨q, PySem.W.cellsFrom_some _ _ _ (.inl q)⟩
  apply codeAny_call_function room.depth (inK _ _ look) rfl S.co S.gen rfl (PySem.W.codeRec_of inK code) (bind _ _ _ _ _)
  apply wpAny_newFunctionEnv_cells S.kind slots
  intro env henv z1 started
  subst henv
  refine ⟨(e0.mod.nolimit.keeps old).keeps started.toInCall.keep, codeAny_func ?_⟩
  obtain ⟨t, walk, asks⟩ := body c B below z G xs R W gd (room.deeper _) holds
  have inv := inv_start (CX := CX0) (E := W) S room.hd e0 (many _ _ _ _ holds) rel started
  refine wpAny_mono (walk.nox.run [] z1 (start N xs) G _ inv asks) ?_ (fun _ _ q => q)
  intro fl z2 q
  cases fl with
  | next =>
    obtain ⟨_, G', J, q⟩ := q
    exact ⟨.non, G', J.os, J.bare, J.base, J.hok, rfl, q⟩
  | ret u =>
    obtain ⟨v, _, G', J, rv, q⟩ := q
    exact ⟨v, G', J.os, J.bare, J.base, J.hok, rv, q⟩
  | brk => obtain ⟨_, _, _, no⟩ := q; exact False.elim no
  | cont => obtain ⟨_, _, _, no⟩ := q; exact False.elim no
end
section
variable {X : Cx} {k : Nat} {f : Addr} {fd : FuncData} {ps : List Str} {sp : Sp} {dvs : List V} {ds : List Value} {x : Str} {p pos : Pos} {e : Expr} {es : List Expr} {t : TA}
/-- such a def is called by its name -/
theorem pe_callG (F : FnG X.prog X.w X.K X.mg X.base k f fd ps sp) (gd : X.A.guards = some []) (room : Room k X.A) (glob : Gl X x) (here : X.mg x = some (.ref f))
    (kept : PySem.W.keepIn X.K (.ref f) = true) (bind : L2.Binds X.K fd ps ds) (dflt : Vals dvs ds) (args : PA X (e :: es) t)
    (nm : (x == ("__debug__" : Str)) = false := by decide) (each : starEach (e :: es) X.env = (false, eval e X.env) :: starEach es X.env := by rfl)
    (plain : (backTo pos (starEach es X.env)).any (·.1) = false := by rfl) : PE X (.Call (.Name x p) (e :: es) [] pos) (tCall sp dvs E0 t) := by
  constructor
  intro pins z σ G R I asks
  apply wpAny_Call_Name_kw (ld_glob I glob here ?_ nm)
  apply PySem.W.callWith_K (h₀ := X.base) I.ok.mod.kin kept ?_ each plain
  apply thn (args.run pos pins z σ G _ I asks)
  rintro us z1 ⟨vs, G1, I1, r, q⟩
  refine ⟨I1.kIn, ?_⟩
  have rel := r.append dflt
  have many : (us ++ ds).length = ps.length := rel.length ▸ F.many _ _ _ _ q
  apply wpAny_call (codeAny_mono (F.goes X.A X.stack z1 G1 ⟨us, []⟩ (us ++ ds) (vs ++ dvs) _ E0 gd room I1.env0 (bind z1 us I1.kIn many) rel q) ?_)
  intro end1 z2 hq
  cases end1 with
  | error _ => exact False.elim hq
  | ok fl => cases fl with
    | ret _ => exact I1.after hq
    | next => exact False.elim hq
    | brk => exact False.elim hq
    | cont => exact False.elim hq
/-- repr of data: the text that they show -/
theorem call_repr (gd : X.A.guards = some []) (room : X.A.units + 66 < cLine) : CallR X (.builtin "repr") (fun xs G R => ∃ x d, xs = [x] ∧ Dp X.K G x d ∧
    d.showable = true ∧ d.hasDict = false ∧ d.depth ≤ 64 ∧ d.shown.length ≤ sizeLine ∧ R (.str d.shown) G) := by
  rintro pins z σ G xs us R I rel ⟨x, d, rfl, hd, h1, h2, h3, h4, q⟩
  obtain ⟨u, rfl, ru⟩ := vals1 rel
  obtain ⟨as, rd⟩ := Dp.reads I d x u hd ru
  cases hd with
  | non => cases ru; exact PySem.P.repr_of_none ⟨.str _, G, I.tok _, ⟨_, rfl⟩, q⟩
  | bl b => cases ru; exact PySem.P.repr_of_bool ⟨.str _, G, I.tok _, ⟨_, rfl⟩, q⟩
  | int i => obtain ⟨t, rfl⟩ := ru; exact PySem.P.repr_of_int (of_decide_eq_true h1) ⟨.str _, G, I.tok _, ⟨_, rfl⟩, q⟩
  | str y => obtain ⟨t, rfl⟩ := ru; exact PySem.P.repr_of_str ⟨.str _, G, I.tok _, ⟨_, rfl⟩, q⟩ h4
  | lst _ _ =>
    cases ru
    exact repr_of_reads' rd h1 (fun z => by rw [h2] at z; cases z) gd (by omega) (fun _ _ z => z) (fun h' _ tk more => ⟨.str _, G, I.kept more, ⟨_, rfl⟩, q⟩) h4
  | tup _ _ =>
    cases ru
    exact repr_of_reads' rd h1 (fun z => by rw [h2] at z; cases z) gd (by omega) (fun _ _ z => z) (fun h' _ tk more => ⟨.str _, G, I.kept more, ⟨_, rfl⟩, q⟩) h4
end
/-- the law's own end, its def kept where no guard stands -/
theorem walkG {l : PySem.W.OpenLaw} {n k : Nat} {q : Program} {loose : List Str} {XP : (Str → Option Value) → Heap → Prop} {YP : World → Heap → Prop} {d : DefRec}
    {K : Params → PySem.W.Frag} {sp : World → Sp} {x : Str}
    (most : l.most = some n) (line : n ≤ sizeLine) (plain : d.params.defaults = []) (room : Room k callerA)
    (inK : ∀ (w : World) (h : Heap), YP w h → (K w.params).In h)
    (F : ∀ (w : World) (mg : Str → Option Value) (fa : Addr) (h : Heap), (K w.params).In h → h.Ns mainGlobals mg → mg d.name = some (.ref fa) →
      ∃ fd : FuncData, (∀ (z : Shared) (u : Value), BindsTo z fd ⟨[u], []⟩ [(x, u)]) ∧
        ∀ base : Heap, (K w.params).In base → base.Ns mainGlobals mg → FnG l.prog w (K w.params) mg base k fa fd [x] (sp w))
    (asks : ∀ (w : World) (G : Hp) (a : Addr) (ns : List Int), ns.length ≤ n → Only G → SqL (K w.params) G a (ns.map V.int) → sp w [.ref a] G (fun v _ => v = .bl true) E0) :
    PySem.W.WalkO q loose XP YP l.row.toRowW d [] (fun f vs => PySem.call f vs) := by
  apply Att.attach_call most plain
  intro w s₀ z mg mb fa o pm cd doc a vs ns ground Y ho hd hcd here isl areI few gens
  obtain ⟨fd, bind, F⟩ := F w mg fa _ (inK w _ Y) ground.T.g here
  have KX := inK w _ Y
  have rel := vals_ints areI
  have lenV := areI.length
  have few' : ns.length ≤ sizeLine := Nat.le_trans few line
  -- nothing but the script is tracked; what is written stands in the base
  have core : ∀ G : Hp, Only G → SqL (K w.params) G a (ns.map V.int) → HOk l.prog w G z.heap → (∀ b, b ≠ a → G b = none) → (G a ≠ none → (K w.params).lookup a = none) →
      codeAny (model l.prog w) callerA (.call (.ref fa) ⟨[.ref a], []⟩)
        (fun r s' => r = .ok (.ret (.bool true)) ∧ OldK z.heap s'.heap ∧ s'.os = z.os ∧ AllBare s'.gens) z := by
    intro G only isS ok alone outside
    have keepB : ∀ {b : Addr} {u : Obj}, z.heap.get? b = some u → b ≠ a → (hidT z.heap G).get? b = some u := fun e ne => hidT_get e (alone _ ne)
    have nsB : ∀ {b : Addr} {m : Str → Option Value}, z.heap.Ns b m → (hidT z.heap G).Ns b m := by
      rintro b m ⟨u, es, ep, e, hdat, r⟩
      refine ⟨u, es, ep, keepB e fun same => ?_, hdat, r⟩
      rw [same, isl] at e
      cases e
      exact nomatch hdat
    have kB : (K w.params).In (hidT z.heap G) := by
      intro b u e
      cases hG : G b with
      | none => exact hidT_get (KX b u e) hG
      | some v =>
        have same : b = a := Classical.byContradiction fun ne => by rw [alone b ne] at hG; cases hG
        subst same
        rw [outside (by rw [hG]; simp)] at e
        cases e
    have mod : Mod (K w.params) mg (hidT z.heap G) :=
      ⟨kB, nsB ground.T.g, ⟨mb, nsB ground.T.b, ground.T.builtins⟩, let ⟨mc, i1, i2⟩ := ground.T.nolimit; ⟨mc, nsB i1, i2⟩⟩
    have e0 : Env0 l.prog w (K w.params) mg (hidT z.heap G) callerA [] z G :=
      { frames := rfl, mod := mod, bs := fun _ _ e => of_hidT e, bsz := Nat.le_of_eq (hidT_size _ _), funs := trivial, frf := fun b no => (nomatch no), hok := ok, bare := .of_eq gens }
    refine codeAny_mono ((F _ kB (nsB ground.T.g)).goes callerA [] z G _ [.ref a] [.ref a] _ _ rfl room e0 (bind z (.ref a)) (.cons rfl .nil) (asks w G a ns few only isS)) ?_
    intro end1 z2 hq
    cases end1 with
    | error _ => exact False.elim hq
    | ok fl => cases fl with
      | next => exact False.elim hq
      | brk => exact False.elim hq
      | cont => exact False.elim hq
      | ret u =>
        obtain ⟨v, G', os, bare, un, ok', rv, isT⟩ := hq
        obtain rfl : v = .bl true := isT
        obtain rfl : u = Value.bool true := rv
        refine ⟨rfl, OldK.of_keep fun b u e => ?_, os, bare⟩
        cases hG : G b with
        | none => exact un.keep b u e hG (fun no => nomatch no) (fun no => nomatch no)
        | some v =>
          cases only b with
          | inl no => rw [hG] at no; cases no
          | inr lock =>
            obtain ⟨ob, ys, lock⟩ := lock
            have one := (ok b _ lock).1
            rw [e] at one
            cases one
            exact (ok' b _ (un.frzs b _ _ lock)).1
  cases hK : (K w.params).lookup a with
  | none =>
    let G : Hp := fun b => if b = a then some (.frz { cls := .type "list", data := .seq vs.toArray } (.lst (ns.map V.int))) else none
    have at_a : G a = some (.frz { cls := .type "list", data := .seq vs.toArray } (.lst (ns.map V.int))) := if_pos rfl
    have off : ∀ b, b ≠ a → G b = none := fun b ne => if_neg ne
    refine core G (fun b => ?_) (.inl (.inr ⟨_, at_a⟩)) (fun b u hG => ?_) off fun _ => hK
    · by_cases ne : b = a
      · subst ne; exact .inr ⟨_, _, at_a⟩
      · exact .inl (off b ne)
    · by_cases ne : b = a
      · subst ne
        rw [at_a] at hG
        cases hG
        exact ⟨isl, by rw [List.length_map]; exact few', vs, _, rel, isl⟩
      · rw [off b ne] at hG
        cases hG
  | some o2 =>
    have own := KX a o2 hK
    rw [isl] at own
    cases own
    exact core (fun _ => none) (fun _ => .inl rfl) (.inr ⟨_, vs.toArray, _, hK, rfl, rfl, rfl, by rw [List.size_toArray, lenV]; exact few', by simpa using rel⟩)
      (fun b u no => nomatch no) (fun _ _ => rfl) (fun no => absurd rfl no)
end Gd

/-! == and != where the left side is an instance whose class has an own __eq__ (and no own __ne__): both answers, beside anything. -/
namespace Oe
open PySem PySem.Spec PyProof.Rows L2 Dr
section
variable {prog : Program} {w : World} {A : Around} {E : Value → Shared → Prop} {z : Shared} {K : PySem.W.Frag} {x C f : Addr} {ox : Obj} {od : Option Obj} {b : Value}
/-- a found builtin is called as a special method -/
theorem special_blt {M : Model} {name : Str} {id : String} {as : List Value} {Q : Option Value → Shared → Prop} (inK : K.In z.heap) (I : PySem.W.InstAt z.heap x ox C od)
    (found : PySem.W.findIn K (.ref C) name = some (some (.builtin id))) (plain : bindSpecial (.builtin id) (.ref x) = pure (.builtin id, [.ref x]))
    (go : wpAny M A (call (.builtin id) (.ref x :: as)) (fun v => Q (some v)) E z) : wpAny M A (callSpecialIfBound? (.ref x) name as) Q E z := by
  unfold callSpecialIfBound? bindSpecialIfBound?
  apply wpAny_holding
  apply wpAny_bind
  apply wpAny_bind
  apply wpAny_bind
  refine I.type.here ((PySem.W.looks_findIn inK found).here ?_)
  apply wpAny_bind
  apply wpAny_askSetting
  apply wpAny_ite
  have fin : wpAny M A (call (.builtin id) ([.ref x] ++ as) >>= fun v => pure (some v)) Q E z := wpAny_bind (wpAny_mono go (fun _ _ q => wpAny_pure q) fun _ _ q => q)
  split
  · exact wpAny_bind ((PySem.W.Looks.of_pure plain).here (wpAny_pure (by exact fin)))
  · exact wpAny_tryCatch (wpAny_bind ((PySem.W.Looks.of_pure plain).here (wpAny_pure (by exact fin))))
/-- object.__ne__ asks the own __eq__ -/
theorem object_ne {Q : Value → Shared → Prop} (inK : K.In z.heap) (I : PySem.W.InstAt z.heap x ox C od) (isO : PySem.W.mroIn K C (.type "object") = some true)
    (found : PySem.W.findIn K (.ref C) "__eq__" = some (some (.ref f))) (isF : PySem.W.isFn K (.ref f) = true) (room : A.units + 2 < cLine)
    (go : wpAny (model prog w) A.in1 (call (.ref f) [.ref x, b]) (fun v s' => ∃ r, v = .bool r ∧ Q (.bool (!r)) s') E z) :
    wpAny (model prog w) A (call (.builtin "object.__ne__") [.ref x, b]) Q E z := by
  have sub : PySem.W.Looks (model prog w) z.heap (isInstance (.ref x) (.type "object")) true := I.type.andThen (PySem.W.looks_mroIn inK isO)
  apply wpAny_call
  apply codeAny_call_builtin PySem.F.cmp_object.ne.plain PySem.F.cmpEntry_ne
  refine PySem.W.check_slot (self := .ref x) (rest := [b]) (kw := []) PySem.F.cmpKind_ne PySem.F.cmpSplit_ne sub (PySem.F.cmpArgs_ne _ _) ?_
  unfold Builtin.«object.__ne__»
  have run : wpAny (model prog w) A.in1 (callSpecialIfBound? (.ref x) (Str.ofString "__eq__") [b]) (fun v s' => ∃ r, v = some (.bool r) ∧ Q (.bool (!r)) s') E z :=
    PySem.W.ifBound_K inK I found isF (wpAny_mono go (fun v s' ⟨r, e, q⟩ => ⟨r, by rw [e], q⟩) fun _ _ q => q)
  repeat (first
    | with_reducible refine wpAny_cRoomFor (show A.in1.units < cLine from by show A.units + 1 < cLine; omega) ?_
    | (refine wpAny_bind (m := callSpecialIfBound? (.ref x) (Str.ofString "__eq__") [b]) (wpAny_mono run (fun v s' hv => ?_) fun _ _ q => q))
    | wp_step)
  obtain ⟨r, rfl, q⟩ := hv
  repeat (first | exact q | exact wpAny_pure q | exact wpAny_truthy_bool q | (refine wpAny_bind (m := truthy (.bool _)) (wpAny_truthy_bool ?_)) | wp_step)
/-- x != b, x an instance with its own __eq__ -/
theorem rc_ne {Q : Value → Shared → Prop} {tb : Value} (inK : K.In z.heap) (I : PySem.W.InstAt z.heap x ox C od) (isO : PySem.W.mroIn K C (.type "object") = some true)
    (none_ : PySem.W.findIn K (.ref C) "__ne__" = some (some (.builtin "object.__ne__"))) (found : PySem.W.findIn K (.ref C) "__eq__" = some (some (.ref f))) (isF : PySem.W.isFn K (.ref f) = true)
    (right : PySem.W.Looks (model prog w) z.heap (typeOf b) tb) (first : PySem.W.notFirst K C tb = true) (room : A.units + 3 < cLine)
    (go : wpAny (model prog w) A.in1 (call (.ref f) [.ref x, b]) (fun v s' => ∃ r, v = .bool r ∧ Q (.bool (!r)) s') E z) :
    wpAny (model prog w) A (richCompare .NotEq (.ref x) b) Q E z := by
  have one : wpAny (model prog w) A (tryCompare (.ref x) (cmpInfo .NotEq).2.1 b) (fun o s' => ∃ r, o = some (.bool (!r)) ∧ Q (.bool (!r)) s') E z := by
    unfold tryCompare
    apply wpAny_bind
    refine special_blt inK I none_ (PySem.F.cmp_object.ne.bind _) (object_ne inK I isO found isF (by omega) (wpAny_mono go (fun v s' ⟨r, e, q⟩ => ⟨r, e, ?_⟩) fun _ _ q => q))
    exact wpAny_pure ⟨r, rfl, q⟩
  unfold richCompare
  simp only [oneThing_ref]
  apply wpAny_holding
  apply wpAny_bind
  refine wpAny_cRoomFor (by omega) ?_
  apply wpAny_bind
  refine I.type.here ?_
  apply wpAny_bind
  refine right.here ?_
  split
  · rename_i differ
    have below : PySem.W.subIn K tb (.ref C) = some false := by
      cases Bool.or_eq_true_iff.mp first with
      | inl e => rw [beq_iff_eq.mp e] at differ; simp at differ
      | inr e => exact beq_iff_eq.mp e
    apply wpAny_bind
    refine (PySem.W.looks_subIn inK below).here ?_
    simp only [Bool.false_eq_true, if_false]
    apply wpAny_bind
    refine wpAny_mono one (fun o s' ⟨r, e, q⟩ => ?_) fun _ _ q => q
    subst e
    exact wpAny_pure q
  · apply wpAny_bind
    apply wpAny_pure
    simp only [Bool.false_eq_true, if_false]
    apply wpAny_bind
    refine wpAny_mono one (fun o s' ⟨r, e, q⟩ => ?_) fun _ _ q => q
    subst e
    exact wpAny_pure q
end
section
variable {X : Cx} {k : Nat} {C f : Addr} {fd : FuncData} {ps : List Str} {sp : Sp}
/-- what a class with an own __eq__ says of itself -/
structure OwnEq (K : PySem.W.Frag) (C f : Addr) : Prop where
  eq : PySem.W.findIn K (.ref C) "__eq__" = some (some (.ref f))
  ne : PySem.W.findIn K (.ref C) "__ne__" = some (some (.builtin "object.__ne__"))
  fn : PySem.W.isFn K (.ref f) = true
  ob : PySem.W.mroIn K C (.type "object") = some true
/-- left.__eq__(right), asked by its promise -/
def rOwn (K : PySem.W.Frag) (C : Addr) (sp : Sp) (g : Bool → Bool) : R2 := fun x y H Q => ∃ a dx fs t, x = .ref a ∧ H a = some (.ins C dx fs) ∧ TyX K H y t ∧ PySem.W.notFirst K C t = true ∧
  sp [x, y] H (fun v H' => ∃ b, v = .bl b ∧ Q (.bl (g b)) H') E0
theorem own_run {A : Around} {pins : List (Addr × Obj)} {σ : L2.St} {H : Hp} {s : Shared} {Q : VK} {x : Addr} {y : V} {u : Value} (F : FnOk X.prog X.w X.K X.mg X.base CX0 k f fd ps sp) (hr : Room k A) (fr : A.frames = X.A.frames) (hb : L2.Binds X.K fd ps []) (I : Inv X pins σ H s) (ry : RelV y u)
    (q : sp [.ref x, y] H Q E0) : wpAny (model X.prog X.w) A (call (.ref f) [.ref x, u]) (EP X pins σ Q) X.xe s := by
  have old := I.env0
  have e0 : Env0 X.prog X.w X.K X.mg X.base A X.stack s H :=
    { frames := fr.trans old.frames, mod := old.mod, bs := old.bs, bsz := old.bsz, funs := old.funs, frf := old.frf, hok := old.hok, bare := old.bare }
  have two : Vals [V.ref x, y] [Value.ref x, u] := .cons rfl (.cons ry .nil)
  have many : [Value.ref x, u].length = ps.length := two.length ▸ F.len _ _ _ _ q
  have bind := hb s [.ref x, u] I.kIn (by simpa using many)
  apply wpAny_call (codeAny_mono (F.run A X.stack s H ⟨[.ref x, u], []⟩ [.ref x, u] [.ref x, y] Q E0 hr e0 (by simpa using bind) two q) ?_)
  intro end1 z2 hq
  cases end1 with
  | error _ => exact False.elim hq
  | ok fl => cases fl with
    | ret _ => exact I.after hq
    | next => exact False.elim hq
    | brk => exact False.elim hq
    | cont => exact False.elim hq
theorem op_eqO (O : OwnEq X.K C f) (F : FnOk X.prog X.w X.K X.mg X.base CX0 k f fd ps sp) (hr : Room k X.A) (hb : L2.Binds X.K fd ps []) : OpR X (compareOp .Eq) (rOwn X.K C sp id) := by
  rintro pins s σ H x y v u Q I rx ry ⟨a, dx, fs, t, rfl, ha, ty, first, q⟩
  cases rx
  obtain ⟨mA, J, _⟩ := ins_get I.hok ha
  obtain ⟨od, J, _⟩ := J.look
  obtain ⟨m, hF⟩ := I.fr
  obtain ⟨P, kit, p, _⟩ := kit_of I ry ty
  show wpAny (model X.prog X.w) X.A (richCompare .Eq (.ref a) u) (EP X pins σ Q) X.xe s
  refine PySem.W.cmp_K (op := .Eq) (tb := t) (by have := hr.un; omega) hF I.ok.mod.kin J (kit.ty _ _ I.kIn p) first O.eq O.fn ?_
  refine wpAny_mono (own_run F hr rfl hb I ry q) (fun r s' hq => ?_) fun _ _ q => q
  obtain ⟨v, H', I', rv, b, rfl, q⟩ := hq
  cases rv
  exact ⟨.bl b, H', I', rfl, q⟩
theorem op_neO (O : OwnEq X.K C f) (F : FnOk X.prog X.w X.K X.mg X.base CX0 k f fd ps sp) (hr : Room (k + 1) X.A) (hb : L2.Binds X.K fd ps []) : OpR X (compareOp .NotEq) (rOwn X.K C sp not) := by
  rintro pins s σ H x y v u Q I rx ry ⟨a, dx, fs, t, rfl, ha, ty, first, q⟩
  cases rx
  obtain ⟨mA, J, _⟩ := ins_get I.hok ha
  obtain ⟨od, J, _⟩ := J.look
  obtain ⟨P, kit, p, _⟩ := kit_of I ry ty
  show wpAny (model X.prog X.w) X.A (richCompare .NotEq (.ref a) u) (EP X pins σ Q) X.xe s
  refine rc_ne I.kIn J O.ob O.ne O.eq O.fn (kit.ty _ _ I.kIn p) first (by have := hr.un; omega) ?_
  refine wpAny_mono (own_run F hr.in1 rfl hb I ry q) (fun r s' hq => ?_) fun _ _ q => q
  obtain ⟨v, H', I', rv, b, rfl, q⟩ := hq
  cases rv
  exact ⟨b, rfl, .bl (!b), H', I', rfl, q⟩
end
end Oe

/-! An exception that is kept behind its except suite: it is tracked from there on. -/
namespace Ek
open PySem PySem.Spec PyProof.Rows L2
/-- an exception of the class cls, with its own dict at d, at a -/
def ExK (cls : Value) (d : Option Addr) (a : Addr) : HO := .ext fun h => ∃ (oe : Obj) (vs : Array Value), h.get? a = some oe ∧ Zc cls d oe ∧ oe.data = .fields vs
theorem exK_ok {P : Program} {w : World} {H : Hp} {h : Heap} {a : Addr} {cls : Value} {d : Option Addr} {oe : Obj} {vs : Array Value} (e : h.get? a = some oe) (z : Zc cls d oe) (f : oe.data = .fields vs) : ObjOk P w H h a (ExK cls d a) :=
  ⟨⟨oe, vs, e, z, f⟩, ⟨oe, e⟩, fun _ _ ⟨o, v, q, r⟩ k => ⟨o, v, k o q, r⟩⟩
section
variable {X : Cx} {pins : List (Addr × Obj)} {σ : L2.St} {H : Hp} {s : Shared}
/-- an object that is there, and new to this call, is tracked from now on -/
theorem track {a : Addr} {o : HO} {oe : Obj} {vs : Array Value} (I : L2.Inv X pins σ H s) (there : s.heap.get? a = some oe) (flds : oe.data = .fields vs) (free : H a = none) (new : X.s_0.heap.get? a = none) (noL : a ≠ X.env.locals)
    (noP : ∀ p ∈ X.pn ++ pins, p.1 ≠ a) (good : ObjOk X.prog X.w (upd H a o) s.heap a o) : L2.Inv X pins σ (upd H a o) s := by
  have off : ∀ b, b ≠ a → upd H a o b = H b := fun b ne => upd_ne ne
  have cells : ∀ x c, X.env.cells.lookup x = some c → c ≠ a := by
    rintro x c look rfl
    obtain ⟨v, u, hu, hv⟩ := I.cell x c look
    rw [there] at hu
    cases hu
    rw [flds] at hv
    cases hv
  have was : ∀ b u, X.s_0.heap.get? b = some u → b ≠ a := by
    rintro b u q rfl
    rw [new] at q
    cases q
  have B := I.base
  refine { ok := I.ok, os := I.os, bare := I.bare, base := ?_, loc := I.loc, cell := I.cell, free := (off _ noL.symm).trans I.free, freeC := fun x c q => (off _ (cells x c q)).trans (I.freeC x c q),
           pin := fun p hp => ?_, hok := HOk.laidN I.hok (fun _ _ q => q) free good, len := I.len }
  · refine { keep := B.keep, slot := B.slot, free := fun b u q n x => (off b (was b u q)).trans (B.free b u q n x), there := B.there, tups := fun b xs q => ?_, frzs := fun b u v q => ?_, tbls := fun b ps q => ?_ }
    · have z := B.tups b xs q
      exact (off b (ne_of_none z free)).trans z
    · have z := B.frzs b u v q
      exact (off b (ne_of_none z free)).trans z
    · obtain ⟨m, z⟩ := B.tbls b ps q
      exact ⟨m, (off b (ne_of_none z free)).trans z⟩
  · obtain ⟨p1, p2, p3, p4, p5⟩ := I.pin p hp
    exact ⟨p1, (off _ (noP p hp)).trans p2, p3, p4, p5⟩
end
/-- what 'except c as n: suite' wishes, if the exception is kept: behind the suite it is tracked -/
def wKeep (K : PySem.W.Frag) (c : Value) (i : Nat) (ts : Addr → Value → Option Addr → TS) (Wout : WX) (D : Ends) : WX := fun cls d σ H => ∃ b, PySem.W.exmOne K cls c = some b ∧
  (b = true → ∀ a, H a = none → ts a cls d { nx := fun σ' H' => H' a = none → D.nx (σ'.set i none) (upd H' a (ExK cls d a)), rt := fun _ _ => False, bk := fun _ _ => False, ct := fun _ _ => False } (σ.set i (some (.ref a))) H) ∧
  (b = false → Wout cls d σ H)
section
variable {X : Cx} {x n : Str} {c : Value} {i : Nat} {body suite : List Stmt} {b₀ : Stmt} {np pos pos' : Pos} {tb : WX → TS} {ts : Addr → Value → Option Addr → TS} {Wout : WX}
theorem ps_try_keep (own : X.stack = X.env :: X.outer) (fr : X.env.frame = some X.env.locals) (once : X.N.Nodup) (slot : X.N[i]? = some n) (local_ : X.env.kindOf n = some .local) (names : Names X x c) (out : Takes X Wout) (noEx : X.ex = [])
    (inBody : ∀ (W : WX) (pn : List (Addr × Obj)) (xe : Value → Shared → Prop), Takes (X.tr pn xe) W → PassesOwn (model X.prog X.w) X.A X.env xe → PSs (X.tr pn xe) body (tb W))
    (inSuite : ∀ (a : Addr) (oe : Obj) (cls : Value) (d : Option Addr) (pn : List (Addr × Obj)), Zc cls d oe → (∃ vs, oe.data = .fields vs) → PSs (X.suite a ((a, oe) :: pn)) (b₀ :: suite) (ts a cls d)) :
    PS X (.Try body [.ExceptHandler (some (.Name x np)) (some n) (b₀ :: suite) pos'] [] [] pos) (fun D σ H => tb (wKeep X.K c i ts Wout D) D σ H) := by
  constructor
  intro pins s σ H D I asks
  have ok := I.ok
  have frames : X.A.frames = some (X.env :: X.outer) := by rw [ok.frames, own]
  apply wpAny_Try_except
  have inside := inBody (wKeep X.K c i ts Wout D) (X.pn ++ pins) (fun e s₁ => wpAny (model X.prog X.w) X.A (noteFrame e X.env) (fun _ s₂ => wpAny (model X.prog X.w) X.A (setFlight e none) (fun _ s₃ =>
    wpAny (model X.prog X.w) X.A (handleBy e X.env [.ExceptHandler (some (.Name x np)) (some n) (b₀ :: suite) pos']) (SP X pins D) X.xe s₃) X.xe s₂) X.xe s₁) ?takes PassesOwn.looking
  case takes =>
    rintro u s' ⟨a, B, sI, pins', σ', H', cls, d, rfl, J', nb, up, sky, na, os, ag, b, is, yes, no⟩
    have J : L2.Inv X pins σ' H' sI := J'.ofTry ok
    have sky : Sky B (X.env :: X.outer) a (Zc cls d) X.env.locals s'.heap := by rw [← own]; exact sky
    refine Sky.land Zc.steady frames fr sky fun h3 fl3 up3 => ?_
    have J3 : L2.Inv X pins σ' H' { s' with heap := h3 } := J.landed nb fl3.1 (up.trans up3) os ag
    obtain ⟨oe3, vs3, he3, hz3, hd3⟩ := fl3.there
    have noFrame : a ∉ frs (X.env :: X.outer) := by
      intro mem
      obtain ⟨_, o', e', differ⟩ := fl3.2.2.1.mem mem
      rw [he3] at e'
      cases e'
      exact differ _ hd3
    have noL : a ≠ X.env.locals := fun z => noFrame (List.mem_filterMap.mpr ⟨X.env, List.mem_cons_self, by rw [fr, z]⟩)
    have noF : a ∉ X.fs := by
      intro mem
      obtain ⟨e, he, q⟩ := List.mem_filterMap.mp mem
      exact noFrame (List.mem_filterMap.mpr ⟨e, List.mem_cons_of_mem _ he, q⟩)
    have ground : B.get? a = none := fl3.2.1
    have fresh : ∀ u, sI.heap.get? a = some u → False := fun u q => by
      have z := nb a u q (by rw [own]; exact noFrame)
      rw [ground] at z
      cases z
    have new0 : X.s_0.heap.get? a = none := by
      cases q : X.s_0.heap.get? a with
      | none => rfl
      | some u =>
        obtain ⟨u', q'⟩ := J.base.there a u q (by rw [noEx]; exact fun z => nomatch z)
        exact (fresh _ q').elim
    have noP : ∀ p ∈ X.pn ++ pins, p.1 ≠ a := by
      rintro p hp z
      have q := (J.pin p hp).1
      rw [z] at q
      exact fresh _ q
    have S3 := J3.suite he3 hd3 na noL noF
    apply wpAny_handleBy_cons (codeAny_handlers_test ?_) (by intro q; cases q)
    have typ : PySem.W.Looks (model X.prog X.w) h3 (typeOf (.ref a)) cls := fun A Q E s k q => wpAny_typeOf_ref (k _ _ he3) (by rw [hz3.1]; exact q)
    have match_ := PySem.W.exm_one (M := model X.prog X.w) (J3.kIn) typ is
    have named : ∀ {Q : Value → Shared → Prop} {E : Value → Shared → Prop}, Q c { s' with heap := h3 } →
        wpAny (model X.prog X.w) (X.A.mark (some (.ref a))) (eval (.Name x np) X.env) Q E { s' with heap := h3 } := by
      intro Q E q
      obtain ⟨glob, dbg, way⟩ := names
      rcases way with m | ⟨m, v, nn⟩
      · exact ld_glob (X := X.suite a ((a, oe3) :: (X.pn ++ pins))) S3 glob m q dbg
      · exact ld_blt (X := X.suite a ((a, oe3) :: (X.pn ++ pins))) S3 glob m v q nn dbg
    refine named (match_.here ?_)
    cases b with
    | true =>
      apply codeAny_handlers_suite_as
      refine HandSPX.lands_againZ fl3 fun h4 fl4 up4 => ?_
      have J4 : L2.Inv X pins σ' H' { s' with heap := h4 } := J.landed nb fl4.1 ((up.trans up3).trans up4) os ag
      obtain ⟨oe4, vs4, he4, hz4, hd4⟩ := fl4.there
      have S4 := J4.suite he4 hd4 na noL noF
      refine store_ok (X := X.suite a ((a, oe4) :: (X.pn ++ pins))) (v := .ref a) S4 once slot (.inl local_) rfl (fun s5 S5 => ?_) (.inr local_)
      have run := (inSuite a oe4 cls d (X.pn ++ pins) hz4 ⟨_, hd4⟩).run [] s5 _ H' _ S5 (yes rfl a na)
      refine wpAny_mono run (fun f s6 hsp => ?_) (fun _ _ z => False.elim z)
      cases f with
      | next =>
        obtain ⟨σ6, H6, S6, q6⟩ := hsp
        obtain ⟨pa, pb, pc, pd, pe⟩ := S6.pin (a, oe4) (List.mem_append_left _ List.mem_cons_self)
        have S7 : L2.Inv X ((a, oe4) :: pins) σ6 H6 s6 := (S6.unsuite ok).pins_of fun p hp => by
          rcases List.mem_cons.mp hp with rfl | hp
          · exact ⟨pa, pb, pc, pd, pe⟩
          · exact (S6.unsuite ok).pin p (List.mem_append_right _ hp)
        refine gone_ok S7 once slot local_ fun s7 J7 => ?_
        obtain ⟨ra, rb, _, _, _⟩ := J7.pin (a, oe4) (List.mem_append_right _ List.mem_cons_self)
        have J8 : L2.Inv X pins (σ6.set i none) H6 s7 := J7.pins_of fun p hp => J7.pin p (List.mem_append_right _ (List.mem_cons_of_mem _ hp))
        exact ⟨_, _, track J8 ra hd4 rb new0 noL noP (exK_ok ra hz4 hd4), q6 pb⟩
      | brk => obtain ⟨_, _, _, no6⟩ := hsp; exact False.elim no6
      | cont => obtain ⟨_, _, _, no6⟩ := hsp; exact False.elim no6
      | ret u => obtain ⟨_, _, _, _, _, no6⟩ := hsp; exact False.elim no6
    | false =>
      show wpAny _ X.A (handleBy (.ref a) X.env []) _ _ _
      apply wpAny_handleBy_nil
      obtain ⟨k1, k2, k3, oe, vs, T, oT, ts', he, hz, hd, h1, hr⟩ := id fl3
      unfold PySem.passOn
      refine wpAny_bind (wpAny_field he hd h1 ?_)
      rw [if_neg (show ¬ ((Value.ref T == Value.none) = true) from fun z => by cases z)]
      have fin : wpAny (model X.prog X.w) X.A (setFlight (.ref a) X.env.frame) (fun _ s4 => wpAny (model X.prog X.w) X.A (throw (.ref a) : Sem Flow) (SP X pins D) X.xe s4) X.xe { s' with heap := h3 } := by
        rw [fr]
        refine HandSPX.setFlight_upZ fl3 fun h4 hh4 up4 => wpAny_throw (out _ _ ?_)
        exact ⟨a, B, sI, pins, σ', H', cls, d, rfl, J, nb, (up.trans up3).trans up4, .inr (.inr (by rw [own]; exact hh4)), na, os, ag, no rfl⟩
      first
        | exact wpAny_bind (wpAny_pure (wpAny_bind fin))
        | exact wpAny_bind fin
  refine wpAny_mono (inside.run [] s σ H D (I.toTry _) asks) (fun f s1 hsp => ?_) (fun _ _ he => he)
  cases f with
  | next => obtain ⟨σ', H', J', q⟩ := hsp; exact wpAny_execs_nil ⟨σ', H', J'.ofTry ok, q⟩
  | brk => obtain ⟨σ', H', J', q⟩ := hsp; exact ⟨σ', H', J'.ofTry ok, q⟩
  | cont => obtain ⟨σ', H', J', q⟩ := hsp; exact ⟨σ', H', J'.ofTry ok, q⟩
  | ret u => obtain ⟨v, σ', H', J', r, q⟩ := hsp; exact ⟨v, σ', H', J'.ofTry ok, r, q⟩
end
end Ek

/-! What is asked of a kept exception: its class, its fields. -/
namespace Ek
open PySem PySem.Spec PyProof.Rows L2
/-- the own dict of a kept exception, as far as it is tracked -/
def OwnD (H : Hp) (d : Option Addr) (fs : List (Str × V)) : Prop := (d = none ∧ fs = []) ∨ ∃ dd, d = some dd ∧ H dd = some (.xd fs)
section
variable {X : Cx}
theorem inst_kept {pins : List (Addr × Obj)} {σ : L2.St} {H : Hp} {s : Shared} {a D : Addr} {d : Option Addr} {fs : List (Str × V)} (I : L2.Inv X pins σ H s) (ha : H a = some (ExK (.ref D) d a)) (hd : OwnD H d fs) :
    ∃ oe od, PySem.W.InstAt s.heap a oe D od ∧ (∀ (n : Str) (v : V), fs.lookup n = some v → ∃ o u, od = some o ∧ PySem.W.lookIn n o = some (some u) ∧ L2.RelV v u) := by
  obtain ⟨⟨oe, vs, there, ⟨cls, dict⟩, flds⟩, _, _⟩ := I.hok a _ ha
  have no : PySem.W.notCls oe = true := by unfold PySem.W.notCls; rw [flds] <;> rfl
  rcases hd with ⟨rfl, rfl⟩ | ⟨dd, rfl, hdd⟩
  · exact ⟨oe, none, ⟨there, cls, no, by rw [dict]; trivial⟩, fun n v q => by simp at q⟩
  · obtain ⟨mA, hns, rel⟩ := (show ObjOk X.prog X.w H s.heap dd (.xd fs) from I.hok dd _ hdd)
    obtain ⟨o, ho, look⟩ := lookIn_ns hns
    refine ⟨oe, some o, ⟨there, cls, no, by rw [dict]; exact ho⟩, fun n v q => ?_⟩
    obtain ⟨u, hu, ru⟩ := RelO.some_of (v := v) (o := mA n) (by rw [← q]; exact rel n)
    exact ⟨o, u, rfl, by rw [look, hu], ru⟩
/-- isinstance(error, c) of a kept exception -/
def rIsK (K : PySem.W.Frag) (D : Addr) : List V → Hp → VK → Prop := fun xs H Q => ∃ (a : Addr) (d : Option Addr) (fs : List (Str × V)) (c : V) (u : Value) (b : Bool), xs = [.ref a, c] ∧ H a = some (ExK (.ref D) d a) ∧ OwnD H d fs ∧ ClsV c u ∧
  PySem.W.kitOne K (.ref D) u = some b ∧ Q (.bl b) H
theorem call_isK {D : Addr} (C : ExcC X.K D) (cl : PySem.W.isClsIn X.K D = true) : CallR X (.builtin "isinstance") (rIsK X.K D) := by
  rintro pins s σ H xs us Q I rel ⟨a, d, fs, c, u, b, rfl, ha, hd, cv, kit, q⟩
  obtain ⟨u1, u2, rfl, r1, r2⟩ := vals2 rel
  cases r1
  have same := cv.eq r2
  subst same
  obtain ⟨oe, od, J, _⟩ := inst_kept I ha hd
  exact PySem.W.kia_one (PySem.W.kitx_exc cl C.hg C.hk C.hs C.ha C.hn C.ht C.hm) I.kIn J kit (fun z => nomatch z) fun tk => ⟨.bl b, H, I.tok tk, rfl, q⟩
/-- error.n of a kept exception -/
def tFk (C : Addr) (n : Str) (te : TE) : TE := fun σ H Q => te σ H fun x H1 => ∃ (a : Addr) (d : Option Addr) (fs : List (Str × V)) (v : V), x = .ref a ∧ H1 a = some (ExK (.ref C) d a) ∧ OwnD H1 d fs ∧ fs.lookup n = some v ∧ Q v H1
theorem pe_fk {C : Addr} {e : Expr} {te : TE} {pos : Pos} {n : Str} (T : XfC X.K C) (none_ : PySem.W.findIn X.K (.ref C) n = some none) (he : PE X e te) (base : attributeBase e n X.env (eval e X.env) = eval e X.env := by rfl) :
    PE X (.Attribute e n pos) (tFk C n te) := by
  constructor
  intro pins s σ H Q I h
  apply attr_of base
  apply thn (he.run pins s σ H _ I h)
  rintro u s1 ⟨x, H1, I1, rx, a, d, fs, v, rfl, ha, hd, look, q⟩
  cases rx
  obtain ⟨oe, od, J, own⟩ := inst_kept I1 ha hd
  obtain ⟨o, w, rfl, lk, rw_⟩ := own n v look
  exact HandSPX.exc_get I1.kIn J T.ga T.gg T.exC (PySem.W.findObj_own T.hdC none_ rfl lk) (handed_of rw_) ⟨v, H1, I1.tok _, rw_, q⟩
end
end Ek

/-! found = None / try: act() / except C as error: found = error / return found: what it makes of the lambda that it got. -/
namespace Ek
open PySem PySem.Spec PyProof.Rows L2
/-- what is caught is kept and handed back; None where nothing is raised -/
def TTc (K : PySem.W.Frag) (CT : Addr) : (XK → Hp → VK → Prop) → Hp → VK → Prop := fun tl H Q =>
  tl (fun cls d H' => PySem.W.exmOne K cls (.ref CT) = some true ∧ ∀ a, H' a = none → Q (.ref a) (upd H' a (ExK cls d a))) H (fun _ H' => Q .non H')
def caughtScope (act found error C : Str) : Scope := { kind := .function, names := [(act, .local), (found, .local), (error, .local), (C, .globalImplicit)], isGenerator := false, isCoroutine := false }
theorem takes_len {X : Cx} {W : WX} (t : Takes X W) : Takes X (fun cls d σ H => σ.length = X.N.length → W cls d σ H) := by
  rintro u s' ⟨a, B, sI, pins, σ, H, cls, d, e, I, nb, up, sky, na, os, ag, w⟩
  exact t u s' ⟨a, B, sI, pins, σ, H, cls, d, e, I, nb, up, sky, na, os, ag, w I.len⟩
theorem caught_gives {X : Cx} {q : Str} {g CT : Addr} {cdg : Value} {p1 p2 p3 p4 p5 p6 p7 p8 p9 p10 p11 p12 p13 p14 : Pos} {j : Nat} (here : X.mg "TapError" = some (.ref CT)) :
    LamX.GivesTo X ["act", "found", "error"] "_law_caught" (caughtScope "act" "found" "error" "TapError") g cdg
      [.Assign [.Name "found" p1] (.Constant .none j p2) p3,
       .Try [.Expr (.Call (.Name "act" p4) [] [] p5) p6] [.ExceptHandler (some (.Name "TapError" p7)) (some "error") [.Assign [.Name "found" p8] (.Name "error" p9) p10] p11] [] [] p12,
       .Return (some (.Name "found" p13)) p14] "act" q (TTc X.K CT) := by
  intro f c' s H Q tl act hc h
  have nd : (["act", "found", "error"] : List Str).Nodup := by decide +kernel
  have glob : Gl (cxOf C8.CX0 X.prog X.w X.K X.mg X.base ["act", "found", "error"] "_law_caught" (caughtScope "act" "found" "error" "TapError") g cdg X.A X.stack s H C8.E0).nox "TapError" := by rfl
  refine ⟨_, pss_cons (ps_set (i := 1) nd rfl (Or.inl rfl) pe_non)
    (pss_cons (ps_try_keep (X := (cxOf C8.CX0 X.prog X.w X.K X.mg X.base ["act", "found", "error"] "_law_caught" (caughtScope "act" "found" "error" "TapError") g cdg X.A X.stack s H C8.E0).nox) (i := 2) (c := .ref CT)
      (tb := fun W D σ H => ∃ Ech : XK, (∀ cls d σ' H', Ech cls d H' → σ'.length = 3 → W cls d σ' H') ∧ σ[0]? = some (some (.ref f)) ∧ H c' = some (LamX.CodeO c' q) ∧ tl Ech H (fun _ H' => D.nx σ H'))
      rfl rfl nd rfl rfl ⟨glob, by decide, .inl here⟩ LamX.takes0 rfl (fun W pn xe tk _ => ?_)
      (fun a oe cls d pn _ _ => pss_one (ps_set (i := 1) nd rfl (Or.inl rfl) (pv 2))))
    (pss_one (ps_ret (pv 1)))), ?_⟩
  · constructor
    intro pins s' σ H' D I h'
    obtain ⟨Ech, hW, h1, h2, h3⟩ := h'
    have hp := act (fun cls d σ H => σ.length = 3 → W cls d σ H) pn xe Ech p4 p5 (takes_len tk) hW
    exact (pss_one (ps_expr (pos := p6) hp)).run pins s' σ H' D I ⟨h1, h2, h3⟩
  · refine ⟨fun cls d H' => PySem.W.exmOne X.K cls (.ref CT) = some true ∧ ∀ a, H' a = none → Q (.ref a) (upd H' a (ExK cls d a)), ?_, rfl, hc, ?_⟩
    · rintro cls d σ' H' ⟨is, keep⟩ len
      match σ', len with
      | [x, y, z], _ =>
        refine ⟨true, is, fun _ a na => ?_, fun no => nomatch no⟩
        exact ⟨.ref a, rfl, fun na' => ⟨.ref a, rfl, keep a na'⟩⟩
    · have h : tl (fun cls d H' => PySem.W.exmOne X.K cls (.ref CT) = some true ∧ ∀ a, H' a = none → Q (.ref a) (upd H' a (ExK cls d a))) H (fun _ H' => Q .non H') := h
      have same : (fun (_ : V) H' => ∃ v, ((L2.start ["act", "found", "error"] [V.ref f]).set 1 (some V.non))[1]? = some (some v) ∧ Q v H') = fun (_ : V) H' => Q .non H' := by
        funext v H'
        apply propext
        constructor
        · rintro ⟨v, e, q⟩
          cases Option.some.inj (Option.some.inj e)
          exact q
        · exact fun q => ⟨.non, rfl, q⟩
      show tl _ H (fun (_ : V) H' => ∃ v, ((L2.start ["act", "found", "error"] [V.ref f]).set 1 (some V.non))[1]? = some (some v) ∧ Q v H')
      rw [same]
      exact h
end Ek

/-! The law's own end where its def is kept only without guards (FnG), with the tables of the code objects that lambdas are laid into. -/
namespace Gu
open PySem PySem.Spec PyProof.Rows L2 Dr Gd
/-- what is told of the law at the head's heap: cs, the code objects and their tables, empty as yet -/
structure LawT (l : PySem.W.OpenLaw) (w : World) (K : PySem.W.Frag) (k n : Nat) (x : Str) (mg : Str → Option Value) (fa : Addr) (h : Heap) (fd : FuncData) (cs : List (Addr × Addr)) (sp : Sp) : Prop where
  empty : ∀ p ∈ cs, h.get? p.2 = some { cls := .none, data := .fields #[] }
  outK : ∀ p ∈ cs, K.lookup p.2 = none
  code : ∀ p ∈ cs, PySem.W.CodeHd h p.1 p.2
  bind : ∀ (z : Shared) (u : Value), BindsTo z fd ⟨[u], []⟩ [(x, u)]
  asks : ∀ (G : Hp) (a : Addr) (ns : List Int), ns.length ≤ n → (∀ p ∈ cs, G p.2 = some (.tbl #[])) → SqL K G a (ns.map V.int) → sp [.ref a] G (fun v _ => v = .bl true) E0
  keeps : ∀ base : Heap, K.In base → base.Ns mainGlobals mg → (∀ p ∈ cs, LamX.TabB base mg p.1 p.2) → FnG l.prog w K mg base k fa fd [x] sp
theorem walkU {l : PySem.W.OpenLaw} {n k : Nat} {q : Program} {loose : List Str} {XP : (Str → Option Value) → Heap → Prop} {YP : World → Heap → Prop} {d : DefRec} {K : Params → PySem.W.Frag} {x : Str}
    (most : l.most = some n) (line : n ≤ sizeLine) (plain : d.params.defaults = []) (room : Room k callerA)
    (inK : ∀ (w : World) (h : Heap), YP w h → (K w.params).In h)
    (F : ∀ (w : World) (mg : Str → Option Value) (fa : Addr) (h : Heap), (∀ (y : Str) (c P : Addr), ((recsOf q).find? fun e => e.name == y).isSome = true → PySem.W.tabIn (K w.params) y = some (c, P) → PySem.W.CodeHd h c P ∧ h.get? P = some { cls := .none, data := .fields #[] }) →
      (K w.params).In h → h.Ns mainGlobals mg → mg d.name = some (.ref fa) → ∃ fd cs sp, LawT l w (K w.params) k n x mg fa h fd cs sp) :
    PySem.W.WalkO q loose XP YP l.row.toRowW d [] (fun f vs => PySem.call f vs) := by
  apply Att.attach_call most plain
  intro w s₀ z mg mb fa o pm cd doc a vs ns ground Y ho hd hcd here isl areI few gens
  have KX := inK w _ Y
  obtain ⟨fd, cs, sp, LT⟩ := F w mg fa _ (fun y c P there tab => by
    obtain ⟨dr, hdr⟩ := Option.isSome_iff_exists.mp there
    exact PySem.W.tab_of ground.T KX hdr tab) KX ground.T.g here
  have rel := vals_ints areI
  have lenV := areI.length
  have few' : ns.length ≤ sizeLine := Nat.le_trans few line
  let tabs : List Addr := cs.map (·.2)
  have isTab : ∀ b ∈ tabs, z.heap.get? b = some { cls := .none, data := .fields #[] } := by
    intro b hb
    obtain ⟨p, hp, rfl⟩ := List.mem_map.mp hb
    exact LT.empty p hp
  have inTabs : ∀ p ∈ cs, p.2 ∈ tabs := fun p hp => List.mem_map.mpr ⟨p, hp, rfl⟩
  have notTab : a ∉ tabs := fun m => by
    have one := isTab a m
    rw [isl] at one
    exact nomatch (congrArg Obj.data (Option.some.inj one) : Data.seq vs.toArray _ = Data.fields #[])
  have core : ∀ G : Hp, (∀ p ∈ cs, G p.2 = some (.tbl #[])) → (∀ b, G b = none ∨ b ∈ tabs ∨ ∃ ob xs, G b = some (.frz ob (.lst xs))) → SqL (K w.params) G a (ns.map V.int) → HOk l.prog w G z.heap →
      (∀ b, b ≠ a → b ∉ tabs → G b = none) → (G a ≠ none → (K w.params).lookup a = none) →
      codeAny (model l.prog w) callerA (.call (.ref fa) ⟨[.ref a], []⟩)
        (fun r s' => r = .ok (.ret (.bool true)) ∧ OldK z.heap s'.heap ∧ s'.os = z.os ∧ AllBare s'.gens) z := by
    intro G areT only isS ok alone outside
    -- what is neither the script nor a table stands in the base
    have free : ∀ {b : Addr} {u : Obj}, z.heap.get? b = some u → (∀ ws m, u.data ≠ .seq ws m) → u.data ≠ .fields #[] → G b = none := by
      intro b u e n1 n2
      by_cases h1 : b = a
      · subst h1
        rw [isl] at e
        cases e
        exact (n1 _ _ rfl).elim
      · by_cases h2 : b ∈ tabs
        · rw [isTab b h2] at e
          cases e
          exact (n2 rfl).elim
        · exact alone b h1 h2
    have keepB : ∀ {b : Addr} {u : Obj}, z.heap.get? b = some u → G b = none → (hidT z.heap G).get? b = some u := fun e no => hidT_get e no
    have nsB : ∀ {b : Addr} {m : Str → Option Value}, z.heap.Ns b m → (hidT z.heap G).Ns b m := by
      rintro b m ⟨u, es, ep, e, hdat, r⟩
      exact ⟨u, es, ep, keepB e (free e (fun ws m w => by rw [hdat] at w; cases w) fun w => by rw [hdat] at w; cases w), hdat, r⟩
    have kB : (K w.params).In (hidT z.heap G) := by
      intro b u e
      refine keepB (KX b u e) ?_
      by_cases h1 : b = a
      · subst h1
        cases hG : G b with
        | none => rfl
        | some v =>
          rw [outside (by rw [hG]; simp)] at e
          cases e
      · by_cases h2 : b ∈ tabs
        · obtain ⟨p, hp, rfl⟩ := List.mem_map.mp h2
          rw [LT.outK p hp] at e
          cases e
        · exact alone b h1 h2
    have mod : L2.Mod (K w.params) mg (hidT z.heap G) :=
      ⟨kB, nsB ground.T.g, ⟨mb, nsB ground.T.b, ground.T.builtins⟩, let ⟨mc, i1, i2⟩ := ground.T.nolimit; ⟨mc, nsB i1, i2⟩⟩
    have tabB : ∀ p ∈ cs, LamX.TabB (hidT z.heap G) mg p.1 p.2 := by
      intro p hp
      have tab := LT.empty p hp
      refine ⟨?_, ?_, ?_⟩
      · obtain ⟨u, us, file, tf, flags, tg, inF, text, tt, e1, r1, r2, r3, rest⟩ := LT.code p hp
        refine ⟨u, us, file, tf, flags, tg, inF, text, tt, keepB e1 (free e1 (fun ws m w => ?_) fun w => ?_), r1, r2, r3, rest⟩
        · rw [r2] at w
          cases w
        · rw [r2] at w
          cases w
          simp at r3
      · obtain ⟨bm, ob, b1, b2, b3, b4, b5, b6⟩ := ground.T.bmain
        refine ⟨bm, ob, b1, b2, ?_, ?_, keepB b3 (free b3 (fun ws m w => ?_) fun w => ?_), b4, b5, b6⟩
        · rintro rfl
          obtain ⟨u, es, ep, e, hdat, _⟩ := ground.T.g
          rw [e] at b3
          cases b3
          rw [hdat] at b6
          cases b6
        · rintro rfl
          rw [tab] at b3
          cases b3
          cases b6
        · rw [b6] at w
          cases w
        · rw [b6] at w
          cases w
      · intro same
        obtain ⟨u, es, ep, e, hdat, _⟩ := ground.T.g
        rw [same, tab] at e
        cases e
        cases hdat
    have e0 : Env0 l.prog w (K w.params) mg (hidT z.heap G) callerA [] z G :=
      { frames := rfl, mod := mod, bs := fun _ _ e => of_hidT e, bsz := Nat.le_of_eq (hidT_size _ _), funs := trivial, frf := fun b no => (nomatch no), hok := ok, bare := .of_eq gens }
    refine codeAny_mono ((LT.keeps _ kB (nsB ground.T.g) tabB).goes callerA [] z G _ [.ref a] [.ref a] _ _ rfl room e0 (LT.bind z (.ref a)) (.cons rfl .nil) (LT.asks G a ns few areT isS)) ?_
    intro end1 z2 hq
    cases end1 with
    | error _ => exact False.elim hq
    | ok fl => cases fl with
      | next => exact False.elim hq
      | brk => exact False.elim hq
      | cont => exact False.elim hq
      | ret u =>
        obtain ⟨v, G', os, bare, un, ok', rv, isT⟩ := hq
        obtain rfl : v = .bl true := isT
        obtain rfl : u = Value.bool true := rv
        have stays : ∀ b u, b ∉ tabs → z.heap.get? b = some u → z2.heap.get? b = some u := by
          intro b u off e
          rcases only b with no | tab | ⟨ob, ys, lock⟩
          · exact un.keep b u e no (fun m => nomatch m) (fun m => nomatch m)
          · exact (off tab).elim
          · have one := (ok b _ lock).1
            rw [e] at one
            cases one
            exact (ok' b _ (un.frzs b _ _ lock)).1
        have grown : ∀ p ∈ cs, ∃ more : Array Value, z2.heap.get? p.2 = some { cls := .none, data := .fields more } := by
          intro p hp
          obtain ⟨more, t⟩ := un.tbls p.2 #[] (areT p hp)
          exact ⟨_, ok' p.2 _ t⟩
        refine ⟨rfl, ⟨fun b u e => ?_, fun b u e => ?_⟩, os, bare⟩
        · by_cases off : b ∈ tabs
          · obtain ⟨p, hp, rfl⟩ := List.mem_map.mp off
            obtain ⟨more, hm⟩ := grown p hp
            rw [LT.empty p hp] at e
            cases e
            exact .inr (.inl ⟨((LT.code p hp).tab (LT.empty p hp)).isCodeTable, rfl, #[], more, rfl, by rw [Array.empty_append]; exact hm⟩)
          · exact .inl (stays b u off e)
        · by_cases off : b ∈ tabs
          · obtain ⟨p, hp, rfl⟩ := List.mem_map.mp off
            obtain ⟨more, hm⟩ := grown p hp
            exact ⟨_, hm⟩
          · exact ⟨u, stays b u off e⟩
  cases hK : (K w.params).lookup a with
  | none =>
    let lock : HO := .frz { cls := .type "list", data := .seq vs.toArray } (.lst (ns.map V.int))
    let G : Hp := fun b => if b = a then some lock else if b ∈ tabs then some (.tbl #[]) else none
    have at_a : G a = some lock := if_pos rfl
    have at_t : ∀ b ∈ tabs, G b = some (.tbl #[]) := fun b hb => (if_neg (fun same : b = a => notTab (same ▸ hb))).trans (if_pos hb)
    have off : ∀ b, b ≠ a → b ∉ tabs → G b = none := fun b n1 n2 => (if_neg n1).trans (if_neg n2)
    refine core G (fun p hp => at_t _ (inTabs p hp)) (fun b => ?_) (.inl (.inr ⟨_, at_a⟩)) (fun b u hG => ?_) off fun _ => hK
    · by_cases h1 : b = a
      · subst h1; exact .inr (.inr ⟨_, _, at_a⟩)
      · by_cases h2 : b ∈ tabs
        · exact .inr (.inl h2)
        · exact .inl (off b h1 h2)
    · by_cases h1 : b = a
      · subst h1
        rw [at_a] at hG
        cases hG
        exact ⟨isl, by rw [List.length_map]; exact few', vs, _, rel, isl⟩
      · by_cases h2 : b ∈ tabs
        · rw [at_t b h2] at hG
          cases hG
          exact isTab b h2
        · rw [off b h1 h2] at hG
          cases hG
  | some o2 =>
    have own := KX a o2 hK
    rw [isl] at own
    cases own
    let G : Hp := fun b => if b ∈ tabs then some (.tbl #[]) else none
    have at_t : ∀ b ∈ tabs, G b = some (.tbl #[]) := fun b hb => if_pos hb
    have off : ∀ b, b ∉ tabs → G b = none := fun b n2 => if_neg n2
    refine core G (fun p hp => at_t _ (inTabs p hp)) (fun b => ?_) (.inr ⟨_, vs.toArray, _, hK, rfl, rfl, rfl, by rw [List.size_toArray, lenV]; exact few', by simpa using rel⟩) (fun b u hG => ?_) (fun b _ n2 => off b n2) fun no => absurd (off a notTab) no
    · by_cases h2 : b ∈ tabs
      · exact .inr (.inl h2)
      · exact .inl (off b h2)
    · by_cases h2 : b ∈ tabs
      · rw [at_t b h2] at hG
        cases hG
        exact isTab b h2
      · rw [off b h2] at hG
        cases hG
end Gu

namespace D3
open PySem PySem.Spec PyProof.Rows L2 Dr
def topS (i : Nat) : Stmt := PySem.Challenge.pw_undertap_k02_rules_refused_or_taken.main.body.getD i (.Pass ⟨0, 0, 0, 0⟩)
abbrev sBegin : Stmt := topS 14
abbrev sBlend : Stmt := topS 15
abbrev sTake : Stmt := topS 16
abbrev sPick : Stmt := topS 17
theorem scBegin : FnScope ["script", "great", "cell"] ["script"] (defScope sBegin) := ⟨rfl, rfl, rfl, by decide +kernel, rfl, by decide +kernel, by decide +kernel⟩
theorem scBlend : FnScope ["draw", "turn", "found", "prime", "blend", "cell"] ["draw"] (defScope sBlend) := ⟨rfl, rfl, rfl, by decide +kernel, rfl, by decide +kernel, by decide +kernel⟩
theorem scTake : FnScope ["draw", "size", "found"] ["draw", "size"] (defScope sTake) := ⟨rfl, rfl, rfl, by decide +kernel, rfl, by decide +kernel, by decide +kernel⟩
theorem scPick : FnScope ["draw", "some"] ["draw", "some"] (defScope sPick) := ⟨rfl, rfl, rfl, by decide +kernel, rfl, by decide +kernel, by decide +kernel⟩
section
variable {P : Program} {w : World} {K : PySem.W.Frag} {mg : Str → Option Value} {base : Heap}
theorem ok_pick {f fT : Addr} {fd fdT : FuncData} (F : Fun K "_law_pick" "_law_pick" sPick f fd) (GT : FnOk P w K mg base CX0 3 fT fdT ["draw", "size"] spTake) (kT : PySem.W.keepIn K (.ref fT) = true) (bT : Binds K fdT ["draw", "size"] []) (gT : mg "_law_take" = some (.ref fT)) (ml : mg "len" = none) :
    FnOk P w K mg base CX0 4 f fd ["draw", "some"] spPick := by
  refine F.ok scPick (fun vs H Q E h => ?_) (fun cdv A outer s H vs Q E hr h => ?_)
  · obtain ⟨d, g, c, l, xs, rfl, _⟩ := h
    rfl
  · obtain ⟨d, g, c, l, xs, rfl, D, hl, lg, ne, hlen, k⟩ := h
    refine ⟨_, pss_one (ps_ret (pe_ix ix_list (pv 1) (pe_call GT hr (by rfl) gT kT bT .nil pass0 (pa_cons (pv 0) (pa_cons (pe_callB call_len_seq (by rfl) ml PySem.boot_len (pa_cons (pv 1) pa_nil)) pa_nil))) (fun _ _ => rfl))), ?_⟩
    have ld : l ≠ d := by
      obtain ⟨⟨gs, cs, r, t, hd, hg, hc⟩, _⟩ := id D
      exact ne_of hl hd (by intro z; cases z)
    have hpos : 0 < xs.length := by
      cases xs with
      | nil => exact absurd rfl ne
      | cons x r => exact Nat.succ_pos _
    refine ⟨.ref l, rfl, .ref d, rfl, .ref l, rfl, l, xs, rfl, .inl (SqL.of hl), d, g, c, (xs.length : Int), rfl, D, by omega, by omega, fun i H' h0 hi D' fr => ?_⟩
    have e : i = (i.toNat : Int) := by omega
    have hi' : i.toNat < xs.length := by omega
    refine ⟨l, xs, i, xs[i.toNat], rfl, rfl, SqL.of (fr _ _ ld lg hl), at_of e (List.getElem?_eq_getElem hi'), ?_⟩
    exact k i.toNat _ H' (List.getElem?_eq_getElem hi') D' fr
theorem ok_take {f fB : Addr} {fd fdB : FuncData} (F : Fun K "_law_take" "_law_take" sTake f fd) (GB : FnOk P w K mg base CX0 2 fB fdB ["draw"] spBlend) (kB : PySem.W.keepIn K (.ref fB) = true) (bB : Binds K fdB ["draw"] []) (gB : mg "_law_blend" = some (.ref fB)) (mi : mg "int" = none) :
    FnOk P w K mg base CX0 3 f fd ["draw", "size"] spTake := by
  refine F.ok scTake (fun vs H Q E h => ?_) (fun cdv A outer s H vs Q E hr h => ?_)
  · obtain ⟨d, g, c, m, rfl, _⟩ := h
    rfl
  · obtain ⟨d, g, c, m, rfl, D, h0, hm, k⟩ := h
    have hu := hu_of hr
    obtain ⟨⟨gs, cs, r, t, hd, hg, hc⟩, gc⟩ := id D
    have dg := D.dg
    have dc := D.dc
    refine ⟨_, C8.pss_cut (ps_if (PW.pt (pw_and (pt_cmpR op_eq (pe_dget hu (pv 0) pe_str (fun _ _ => rfl)) pe_int (nomark _)) (pw_and1 (pt_cmpR (op_neD hr.units) (pe_dget hu (pv 0) pe_str (fun _ _ => rfl)) (pe_lst pa_nil) (nomark _)))))
        (pss_one (ps_dput hu (pv 0) pe_str (pe_bm PySem.F.plainAttrs_list PySem.F.slot_list_pop PySem.F.type_list_pop mt_popAt (pe_dget hu (pv 0) pe_str (fun _ _ => rfl)) (pa_cons pe_int pa_nil)) rfl)) pss_nil)
      (C8.pss_cut (ps_if (pt_cmpR op_eq (pe_dget hu (pv 0) pe_str (fun _ _ => rfl)) pe_int (nomark _))
        (pss_one (ps_dput hu (pv 0) pe_str (pe_call GB hr (by rfl) gB kB bB .nil pass0 (pa_cons (pv 0) pa_nil)) rfl)) pss_nil)
      (pss_cons (ps_set (i := 2) scTake.nd rfl (Or.inl rfl) (pe_op op_mod (pe_callTy call_int1 (by rfl) mi (by decide +kernel) (pa_cons (pe_dget hu (pv 0) pe_str (fun _ _ => rfl)) pa_nil)) (pv 1)))
      (pss_cons (ps_dput hu (pv 0) pe_str (pe_op op_fdiv (pe_dget hu (pv 0) pe_str (fun _ _ => rfl)) (pv 1)) rfl)
      (pss_one (ps_ret (pv 2)))))), ?_⟩
    -- between the statements: the draws, somehow
    refine ⟨fun σ H1 => σ = [some (.ref d), some (.int m), none] ∧ Dw H1 d g c ∧ Fr2 d g H H1, ?_, ?_⟩
    · refine ⟨_, rfl, d, _, rfl, dg_of hd (k_rest g c r t), rfl, _, rfl, ?_⟩
      refine ite2 (fun _ => ?_) (fun _ => iteF ⟨rfl, D, Fr2.refl H⟩)
      refine ⟨_, rfl, d, _, rfl, dg_of hd (k_great g c r t), Nat.zero_le _, fun p np => ?_⟩
      have hg' : (upd H p (.lst [])) g = some (.lst (gs.map V.int)) := by rw [upd_ne (ne_of_none hg np)]; exact hg
      have hd' : (upd H p (.lst [])) d = some (.dK (kD g c r t)) := by rw [upd_ne (ne_of_none hd np)]; exact hd
      refine ⟨_, _, .lst (SqL.of hg') (ints_dp gs), .lst (SqL.of upd_same) .nil, ints_shaped gs, by decide +kernel, _, rfl, ?_⟩
      cases gs with
      | nil => exact iteF ⟨rfl, D.new np, (Fr2.refl H).new np⟩
      | cons x gs =>
        refine iteT ?_
        refine ⟨_, rfl, d, _, rfl, dg_of hd' (k_great g c r t), .inl ⟨rfl, _, SqL.of hg'⟩, g, _, 0, 0, .int x, rfl, rfl, hg', by decide, by decide, by simp [seqIndex?], rfl, ?_⟩
        have hd2 : (upd (upd H p (.lst [])) g (.lst (((x :: gs).map V.int).eraseIdx 0))) d = some (.dK (kD g c r t)) := by rw [upd_ne dg]; exact hd'
        refine ⟨_, rfl, d, _, rfl, dp_of hd2 (p_rest g c r t x) (kD_len g c r t), rfl, ⟨⟨gs, cs, x, t, upd_same, ?_, ?_⟩, gc⟩, fun b o bd bg e => ?_⟩
        · rw [upd_ne dg.symm, upd_same]
          rfl
        · rw [upd_ne dc.symm, upd_ne gc.symm, upd_ne (ne_of_none hc np)]
          exact hc
        · rw [upd_ne bd, upd_ne bg, upd_ne (ne_of_none e np)]
          exact e
    · rintro σ H1 ⟨rfl, D1, fr1⟩
      obtain ⟨⟨gs1, cs1, r1, t1, hd1, hg1, hc1⟩, _⟩ := id D1
      refine ⟨fun σ H2 => σ = [some (.ref d), some (.int m), none] ∧ Dw H2 d g c ∧ Fr2 d g H H2, ?_, ?_⟩
      · refine ⟨_, rfl, d, _, rfl, dg_of hd1 (k_rest g c r1 t1), rfl, _, rfl, ?_⟩
        refine ite2 (fun _ => ?_) (fun _ => ⟨rfl, D1, fr1⟩)
        refine ⟨_, rfl, d, g, c, gs1, cs1, r1, t1, rfl, hd1, hg1, hc1, gc, fun i H2 k2 hd2 => ?_⟩
        refine ⟨_, rfl, d, _, rfl, dp_of hd2 (p_rest g c r1 (t1 + 1) i) (kD_len g c r1 (t1 + 1)), rfl, ⟨⟨gs1, cs1, i, t1 + 1, upd_same, ?_, ?_⟩, gc⟩, fun b o bd bg e => ?_⟩
        · rw [upd_ne dg.symm]
          exact k2 _ _ dg.symm hg1
        · rw [upd_ne dc.symm]
          exact k2 _ _ dc.symm hc1
        · rw [upd_ne bd]
          exact k2 _ _ bd (fr1 _ _ bd bg e)
      · rintro σ H2 ⟨rfl, D2, fr2⟩
        obtain ⟨⟨gs2, cs2, r2, t2, hd2, hg2, hc2⟩, _⟩ := id D2
        refine ⟨_, rfl, d, _, rfl, dg_of hd2 (k_rest g c r2 t2), .inl ⟨_, rfl, _, rfl, _, _, rfl, rfl, h0, ?_⟩⟩
        refine ⟨_, rfl, d, _, rfl, dg_of hd2 (k_rest g c r2 t2), _, rfl, _, _, rfl, rfl, ⟨h0, by omega⟩, ?_⟩
        refine ⟨_, rfl, d, _, rfl, dp_of hd2 (p_rest g c r2 t2 _) (kD_len g c r2 t2), _, rfl, ?_⟩
        refine k _ _ (Int.emod_nonneg _ (by omega)) (Int.emod_lt_of_pos _ h0) ⟨⟨gs2, cs2, r2 / m, t2, upd_same, ?_, ?_⟩, gc⟩ fun b o bd bg e => ?_
        · rw [upd_ne dg.symm]
          exact hg2
        · rw [upd_ne dc.symm]
          exact hc2
        · rw [upd_ne bd]
          exact fr2 _ _ bd bg e
theorem prime_ok {i : Nat} {x : V} (h : [V.int 2147483629, V.int 2147483587, V.int 2147483579, V.int 2147483563][i]? = some x) : ∃ p : Int, x = .int p ∧ 0 < p ∧ p < 2147483648 := by
  match i, h with
  | 0, h => exact ⟨_, (Option.some.inj h).symm, by decide, by decide⟩
  | 1, h => exact ⟨_, (Option.some.inj h).symm, by decide, by decide⟩
  | 2, h => exact ⟨_, (Option.some.inj h).symm, by decide, by decide⟩
  | 3, h => exact ⟨_, (Option.some.inj h).symm, by decide, by decide⟩
  | n + 4, h => simp at h
theorem ok_blend {f : Addr} {fd : FuncData} (F : Fun K "_law_blend" "_law_blend" sBlend f fd) (mi : mg "int" = none) :
    FnOk P w K mg base CX0 2 f fd ["draw"] spBlend := by
  refine F.ok scBlend (fun vs H Q E h => ?_) (fun cdv A outer s H vs Q E hr h => ?_)
  · obtain ⟨d, g, c, gs, cs, r, t, rfl, _⟩ := h
    rfl
  · obtain ⟨d, g, c, gs, cs, r, t, rfl, hd, hg, hc, gc, k⟩ := h
    have hu := hu_of hr
    have dc : d ≠ c := ne_of hd hc (by intro z; cases z)
    refine ⟨_, pss_cons (ps_set (i := 1) scBlend.nd rfl (Or.inl rfl) (pe_op op_add (pe_dget hu (pv 0) pe_str (fun _ _ => rfl)) pe_int))
      (pss_cons (ps_dput hu (pv 0) pe_str (pv 1) rfl)
      (pss_cons (ps_set (i := 2) scBlend.nd rfl (Or.inl rfl) pe_int)
      (pss_cons (ps_for PassesOwn.never rfl (pi_list (pe_lst (pa_cons pe_int (pa_cons pe_int (pa_cons pe_int (pa_cons pe_int pa_nil)))))) (pg_name (i := 3) scBlend.nd rfl (Or.inl rfl))
        (pss_cons (ps_set (i := 4) scBlend.nd rfl (Or.inl rfl) (pe_op op_mod (pe_callTy call_int1 (by rfl) mi (by decide +kernel) (pa_cons (pe_op op_add (pe_op op_mul (pv 1) pe_int) (pe_op op_fdiv (pv 3) pe_int)) pa_nil)) (pv 3)))
        (pss_cons (ps_for PassesOwn.never rfl (pi_list (pe_dget hu (pv 0) pe_str (fun _ _ => rfl))) (pg_name (i := 5) scBlend.nd rfl (Or.inl rfl))
          (pss_one (ps_set (i := 4) scBlend.nd rfl (Or.inl rfl) (pe_op op_mod (pe_callTy call_int1 (by rfl) mi (by decide +kernel) (pa_cons (pe_op op_add (pe_op op_mul (pv 4) pe_int) (pv 5)) pa_nil)) (pv 3)))))
        (pss_one (ps_set (i := 2) scBlend.nd rfl (Or.inl rfl) (pe_op op_add (pe_op op_mul (pv 2) pe_int) (pe_op op_mod (pe_callTy call_int1 (by rfl) mi (by decide +kernel) (pa_cons (pe_op op_pow (pv 4) pe_int) pa_nil)) (pv 3))))))))
      (pss_one (ps_ret (pv 2)))))), ?_⟩
    refine ⟨_, rfl, d, _, rfl, dg_of hd (k_turn g c r t), _, _, rfl, rfl, ?_⟩
    refine ⟨_, rfl, _, rfl, d, _, rfl, dp_of hd (p_turn g c r t (t + 1)) (kD_len g c r t), ?_⟩
    have hd1 : (upd H d (.dK (kD g c r (t + 1)))) d = some (.dK (kD g c r (t + 1))) := upd_same
    have hc1 : (upd H d (.dK (kD g c r (t + 1)))) c = some (.lst (cs.map V.int)) := by rw [upd_ne dc.symm]; exact hc
    have k1 : ∀ b o, b ≠ d → H b = some o → (upd H d (.dK (kD g c r (t + 1)))) b = some o := fun b o bd e => by rw [upd_ne bd]; exact e
    revert hd1 hc1 k1
    generalize upd H d (.dK (kD g c r (t + 1))) = H1
    intro hd1 hc1 k1
    -- the four primes
    refine ⟨by decide, fun l nl => ?_⟩
    have hd2 : (upd H1 l (.lst [V.int 2147483629, V.int 2147483587, V.int 2147483579, V.int 2147483563])) d = some (.dK (kD g c r (t + 1))) := by rw [upd_ne (ne_of_none hd1 nl)]; exact hd1
    have hc2 : (upd H1 l (.lst [V.int 2147483629, V.int 2147483587, V.int 2147483579, V.int 2147483563])) c = some (.lst (cs.map V.int)) := by rw [upd_ne (ne_of_none hc1 nl)]; exact hc1
    have hl2 : (upd H1 l (.lst [V.int 2147483629, V.int 2147483587, V.int 2147483579, V.int 2147483563])) l = some (.lst [V.int 2147483629, V.int 2147483587, V.int 2147483579, V.int 2147483563]) := upd_same
    have k2 : ∀ b o, b ≠ d → H b = some o → (upd H1 l (.lst [V.int 2147483629, V.int 2147483587, V.int 2147483579, V.int 2147483563])) b = some o := fun b o bd e => by rw [upd_ne (ne_of_none (k1 b o bd e) nl)]; exact k1 b o bd e
    refine ⟨l, rfl, ⟨_, SqL.of hl2⟩, for_list (K := K) (a := l) (xs := [V.int 2147483629, V.int 2147483587, V.int 2147483579, V.int 2147483563]) (fun i σ H' => ∃ (n : Int) (v3 v4 v5 : Option V), σ = [some (.ref d), some (.int (t + 1)), some (.int n), v3, v4, v5] ∧ H' = upd H1 l (.lst [V.int 2147483629, V.int 2147483587, V.int 2147483579, V.int 2147483563]))
      ⟨0, none, none, none, rfl, rfl⟩ (fun i σ H' _ ⟨_, _, _, _, _, e⟩ => e ▸ SqL.of hl2) ?_ ?_⟩
    · rintro i x σ H' hi ⟨n, v3, v4, v5, rfl, rfl⟩
      obtain ⟨p, rfl, hp0, hp1⟩ := prime_ok hi
      refine ⟨_, rfl, _, _, rfl, rfl, .inr (by decide), _, rfl, _, _, rfl, rfl, ⟨by decide, by decide⟩, _, _, rfl, rfl, .inl ⟨_, rfl, _, rfl, _, _, rfl, rfl, hp0, ?_⟩⟩
      refine ⟨_, rfl, d, _, rfl, dg_of hd2 (k_cells g c r (t + 1)), c, rfl, ⟨_, SqL.of hc2⟩, for_list (K := K) (a := c) (xs := cs.map V.int) (fun i σ H' => ∃ (y : Int) (v5 : Option V), σ = [some (.ref d), some (.int (t + 1)), some (.int n), some (.int p), some (.int y), v5] ∧ 0 ≤ y ∧ y < p ∧ H' = upd H1 l (.lst [V.int 2147483629, V.int 2147483587, V.int 2147483579, V.int 2147483563]))
        ⟨_, v5, rfl, Int.emod_nonneg _ (by omega), Int.emod_lt_of_pos _ hp0, rfl⟩ (fun i σ H' _ ⟨_, _, _, _, _, e⟩ => e ▸ SqL.of hc2) ?_ ?_⟩
      · rintro j x σ H' hj ⟨y, v5, rfl, y0, y1, rfl⟩
        obtain ⟨z, rfl⟩ : ∃ z, x = V.int z := by
          rw [List.getElem?_map] at hj
          cases e : cs[j]? with
          | none => rw [e] at hj; cases hj
          | some z => rw [e] at hj; exact ⟨z, (Option.some.inj hj).symm⟩
        exact ⟨_, rfl, _, _, rfl, rfl, .inr (by decide), _, rfl, _, _, rfl, rfl, .inl ⟨_, rfl, _, rfl, _, _, rfl, rfl, hp0, _, _, rfl, Int.emod_nonneg _ (by omega), Int.emod_lt_of_pos _ hp0, rfl⟩⟩
      · rintro σ H' ⟨y, v5, rfl, y0, y1, rfl⟩
        exact ⟨_, rfl, _, _, rfl, rfl, .inr (by decide), _, rfl, _, _, rfl, rfl, ⟨by decide, by decide, by omega⟩, .inl ⟨_, rfl, _, rfl, _, _, rfl, rfl, hp0, _, _, rfl, rfl, _, _, _, _, rfl, rfl⟩⟩
    · rintro σ H' ⟨n, v3, v4, v5, rfl, rfl⟩
      exact ⟨_, rfl, k n _ k2 hd2⟩
theorem ok_begin {f : Addr} {fd : FuncData} (F : Fun K "_law_begin" "_law_begin" sBegin f fd) (ma : mg "abs" = none) :
    FnOk P w K mg base CX0 2 f fd ["script"] (spBegin K) := by
  refine F.ok scBegin (fun vs H Q E h => ?_) (fun cdv A outer s H vs Q E hr h => ?_)
  · obtain ⟨a, ns, rfl, _⟩ := h
    rfl
  · obtain ⟨a, ns, rfl, hS, hlen, k⟩ := h
    refine ⟨_, pss_cons (ps_setLc (i := 1) (own := [("cell", 2)]) (g := gName 2) rfl scBegin.nd rfl rfl (sw_true rfl rfl rfl (by decide +kernel)) (pi_list (pv 0)) (blkOk_by (N := ["script", "great", "cell"]) (sc := defScope sBegin) (by decide +kernel))
        (fun _ _ _ _ _ => pg_name (i := 2) scBegin.nd rfl (Or.inl rfl)) (fun _ _ _ _ _ => pts_one (pt_cmpR op_ge (pe_callB call_abs (by rfl) ma (by decide +kernel) (pa_cons (pv 2) pa_nil)) (pe_op op_pow pe_int pe_int) (nomark _)))
        (fun _ _ _ _ _ => pe_op op_sub (pe_callB call_abs (by rfl) ma (by decide +kernel) (pa_cons (pv 2) pa_nil)) (pe_op op_pow pe_int pe_int)))
      (pss_one (ps_ret (pe_disp (pps_cons pe_str (pv 1) (pps_cons pe_str pe_int (pps_cons pe_str
        (pe_lc (own := [("cell", 2)]) (g := gName 2) rfl scBegin.nd (pi_list (pv 0)) (blkOk_by (N := ["script", "great", "cell"]) (sc := defScope sBegin) (by decide +kernel))
          (fun _ _ _ _ _ => pg_name (i := 2) scBegin.nd rfl (Or.inl rfl)) (fun _ _ _ _ _ => pts_nil) (fun _ _ _ _ _ => pe_callB call_abs (by rfl) ma (by decide +kernel) (pa_cons (pv 2) pa_nil)))
        (pps_cons pe_str pe_int pps_nil)))) (by rfl) (by rfl) (fun z => by cases z) (by decide)))), ?_⟩
    have item : ∀ (i : Nat) (x : V), (ns.map V.int)[i]? = some x → ∃ z, x = V.int z := fun i x hi => by
      rw [List.getElem?_map] at hi
      cases e : ns[i]? with
      | none => rw [e] at hi; cases hi
      | some z => rw [e] at hi; exact ⟨z, (Option.some.inj hi).symm⟩
    -- great
    refine ⟨_, rfl, a, rfl, ⟨_, hS⟩, fun g ng => lc_list (K := K) (a := a) (xs := ns.map V.int) (fun i H' => ∃ gs : List Int, H' = upd H g (.lst (gs.map V.int)) ∧ gs.length ≤ i) ⟨[], rfl, Nat.le_refl _⟩
      (fun i H' _ ⟨gs, e, _⟩ => e ▸ (same_upd ng).seq hS) ?_ ?_⟩
    · rintro i x H' hi ⟨gs, rfl, hgl⟩
      have hil : i < (ns.map V.int).length := (List.getElem?_eq_some_iff.mp hi).1
      rw [List.length_map] at hil
      obtain ⟨z, rfl⟩ := item i x hi
      refine ⟨rfl, _, rfl, _, rfl, _, _, rfl, rfl, ⟨by decide, by decide, by decide⟩, _, _, rfl, rfl, _, rfl, ?_⟩
      refine ite2 (fun _ => ?_) (fun _ => ⟨gs, rfl, by omega⟩)
      refine ⟨_, rfl, _, rfl, _, _, rfl, rfl, ⟨by decide, by decide, by decide⟩, _, _, rfl, rfl, _, upd_same, ?_, ?_⟩
      · rw [List.length_map]
        exact small1000 (by omega)
      · refine ⟨gs ++ [(if z < 0 then -z else z) - 10 ^ (Int.toNat 18)], ?_, ?_⟩
        · rw [upd_upd, List.map_append]
          rfl
        · rw [List.length_append]
          show gs.length + 1 ≤ i + 1
          omega
    · rintro H1 ⟨gs, rfl, _⟩
      intro d nd
      have dg : d ≠ g := fun e => by
        subst e
        rw [upd_same] at nd
        cases nd
      have nd0 : H d = none := (same_upd ng).free nd
      have s1 : Same H (upd (upd H g (.lst (gs.map V.int))) d (.dK [])) := (same_upd ng).trans (same_upd nd)
      refine ⟨_, rfl, ?_⟩
      refine ⟨_, rfl, a, rfl, ⟨_, s1.seq hS⟩, fun c nc => lc_list (K := K) (a := a) (xs := ns.map V.int) (fun i H' => ∃ cs : List Int, H' = upd (upd (upd H g (.lst (gs.map V.int))) d (.dK [])) c (.lst (cs.map V.int)) ∧ cs.length ≤ i) ⟨[], rfl, Nat.le_refl _⟩
        (fun i H' _ ⟨cs, e, _⟩ => e ▸ (s1.trans (same_upd nc)).seq hS) ?_ ?_⟩
      · rintro i x H' hi ⟨cs, rfl, hcl⟩
        have hil : i < (ns.map V.int).length := (List.getElem?_eq_some_iff.mp hi).1
        rw [List.length_map] at hil
        obtain ⟨z, rfl⟩ := item i x hi
        refine ⟨rfl, ?_⟩
        dsimp only [tYes]
        rw [if_pos rfl]
        refine ⟨_, rfl, _, rfl, _, upd_same, ?_, ?_⟩
        · rw [List.length_map]
          exact small1000 (by omega)
        · refine ⟨cs ++ [if z < 0 then -z else z], ?_, ?_⟩
          · rw [upd_upd, List.map_append]
            rfl
          · rw [List.length_append]
            show cs.length + 1 ≤ i + 1
            omega
      · rintro H2 ⟨cs, rfl, _⟩
        have cd : c ≠ d := fun e => by
          subst e
          rw [upd_same] at nc
          cases nc
        have nc1 : (upd H g (.lst (gs.map V.int))) c = none := by
          rw [upd_ne cd] at nc
          exact nc
        have cg : c ≠ g := fun e => by
          subst e
          rw [upd_same] at nc1
          cases nc1
        have nc0 : H c = none := (same_upd ng).free nc1
        refine ⟨by rw [upd_ne cd.symm, upd_same], [(.inr "great", .ref g), (.inr "rest", .int 0), (.inr "cells", .ref c), (.inr "turn", .int 0)], rfl, by show 4 ≤ 15; decide, ?_⟩
        refine k d g c _ (fun b o e => ?_) nd0 ng nc0 ⟨⟨gs, cs, 0, 0, ?_, ?_, ?_⟩, cg.symm⟩
        · rw [upd_ne (ne_of_none e nd0)]
          exact (s1.trans (same_upd nc)) b o e
        · rw [upd_same]
          exact congrArg (fun z => some (HO.dK z)) (by kernel_rfl)
        · rw [upd_ne dg.symm, upd_ne cg.symm, upd_ne dg.symm, upd_same]
        · rw [upd_ne cd, upd_same]
end
end D3

/-! k02's errors: copied (of what is no list, tuple, dict), BadRule's __init__, raise BadRule(..). -/
namespace D3
open PySem PySem.Spec PyProof.Rows L2 Dr
abbrev sCopied : Stmt := topS 1
abbrev sBadI : Stmt := inClass (topS 3) 0
theorem scCopied : FnScope ["value"] ["value"] (defScope sCopied) := ⟨rfl, rfl, rfl, by decide +kernel, rfl, by decide +kernel, by decide +kernel⟩
theorem scBadI : FnScope ["self", "part"] ["self", "part"] (defScope sBadI) := ⟨rfl, rfl, rfl, by decide +kernel, rfl, by decide +kernel, by decide +kernel⟩
/-- a value that is no list, tuple, dict is its own copy -/
def Flat (K : PySem.W.Frag) (H : Hp) (x : V) : Prop := ∃ t, TyX K H x t ∧ PySem.W.kitOne K t (.type "list") = some false ∧ PySem.W.kitOne K t (.type "tuple") = some false ∧ PySem.W.kitOne K t (.type "dict") = some false
theorem flat_str {K : PySem.W.Frag} {H : Hp} (x : Str) : Flat K H (.str x) := ⟨_, .base (.str x), kit_ty (by decide +kernel), kit_ty (by decide +kernel), kit_ty (by decide +kernel)⟩
theorem flat_non {K : PySem.W.Frag} {H : Hp} : Flat K H .non := ⟨_, .base .non, kit_ty (by decide +kernel), kit_ty (by decide +kernel), kit_ty (by decide +kernel)⟩
def spCopied (K : PySem.W.Frag) : Sp := fun vs H Q _ => ∃ x, vs = [x] ∧ Flat K H x ∧ Q x H
/-- the field of an error that is being made -/
def spBadI (K : PySem.W.Frag) (C : Addr) : Sp := fun vs H Q _ => ∃ (a : Addr) (x : V), vs = [.ref a, x] ∧ Flat K H x ∧ H a = some (exo a C none) ∧ ∀ dx, H dx = none → dx ≠ a → Q .non (upd (upd H dx (exd dx [("part", x)])) a (exo a C (some dx)))
section
variable {P : Program} {w : World} {K : PySem.W.Frag} {mg : Str → Option Value} {base : Heap}
theorem ok_copied {f : Addr} {fd : FuncData} (F : Fun K "copied" "copied" sCopied f fd) (mI : mg "isinstance" = none) (ml : mg "list" = none) (mt : mg "tuple" = none) (md : mg "dict" = none) : FnOk P w K mg base CX0 1 f fd ["value"] (spCopied K) := by
  refine F.ok scCopied (fun vs H Q E h => ?_) (fun cdv A outer s H vs Q E hr h => ?_)
  · obtain ⟨x, rfl, _⟩ := h
    rfl
  · obtain ⟨x, rfl, ⟨t, ty, k1, k2, k3⟩, q⟩ := h
    refine ⟨_, pss_cons (ps_if (pt_val (pe_callB call_isi (by rfl) mI boot_isinstance (pa_cons (pv 0) (pa_cons (pe_bltn (v := .ty "list") (by rfl) ml boot_list rfl) pa_nil)))) (pss_one ps_never) pss_nil)
      (pss_cons (ps_if (pt_val (pe_callB call_isi (by rfl) mI boot_isinstance (pa_cons (pv 0) (pa_cons (pe_bltn (v := .ty "tuple") (by rfl) mt boot_tuple rfl) pa_nil)))) (pss_one ps_never) pss_nil)
      (pss_cons (ps_if (pt_val (pe_callB call_isi (by rfl) mI boot_isinstance (pa_cons (pv 0) (pa_cons (pe_bltn (v := .ty "dict") (by rfl) md boot_dict rfl) pa_nil)))) (pss_one ps_never) pss_nil)
      (pss_one (ps_ret (pv 0))))), ?_⟩
    refine ⟨_, rfl, _, _, _, _, false, rfl, .ty "list", ty, k1, false, rfl, iteF ?_⟩
    refine ⟨_, rfl, _, _, _, _, false, rfl, .ty "tuple", ty, k2, false, rfl, iteF ?_⟩
    exact ⟨_, rfl, _, _, _, _, false, rfl, .ty "dict", ty, k3, false, rfl, iteF ⟨_, rfl, q⟩⟩
theorem ok_badI {f fC C : Addr} {fd fdC : FuncData} (F : Fun K "__init__" "BadRule.__init__" sBadI f fd) (O : OexC K C) (no : PySem.W.findIn K (.ref C) "part" = some none) (GC : FnOk P w K mg base CX0 1 fC fdC ["value"] (spCopied K)) (kC : PySem.W.keepIn K (.ref fC) = true) (bC : L2.Binds K fdC ["value"] []) (gC : mg "copied" = some (.ref fC)) :
    FnOk P w K mg base CX0 2 f fd ["self", "part"] (spBadI K C) := by
  refine F.ok scBadI (fun vs H Q E h => ?_) (fun cdv A outer s H vs Q E hr h => ?_)
  · obtain ⟨a, x, rfl, _⟩ := h
    rfl
  · obtain ⟨a, x, rfl, fl, ha, k⟩ := h
    refine ⟨_, pss_one (ps_ost (pv 0) (pe_call GC hr (by rfl) gC kC bC .nil pass0 (pa_cons (pv 1) pa_nil))), ?_⟩
    exact ⟨_, rfl, x, rfl, fl, _, rfl, a, C, rfl, O, no, .inl ⟨ha, fun dx nx ne => k dx nx ne⟩⟩
/-- raise BadRule(constant) in a def that errors leave: what is wished of it -/
theorem raise_bad {X : Cx} {C fI : Addr} {fdI : FuncData} {W : WX} {y : V} {c : Const} {j : Nat} {p2 : Pos} {te : TE} {p pos pos2 : Pos} (calm : X.calm = true) (tk : Takes X W) (O : OexC X.K C) (iC : PySem.W.findIn X.K (.ref C) "__init__" = some (some (.ref fI))) (tI : PySem.W.typeIn X.K (.ref fI) = some (.type "function"))
    (GI : FnOk X.prog X.w X.K X.mg X.base CX0 2 fI fdI ["self", "part"] (spBadI X.K C)) (bI : L2.Binds X.K fdI ["self", "part"] []) (hr : Room 3 X.A) (glob : Gl X "BadRule") (here : X.mg "BadRule" = some (.ref C)) (he : PE X (.Constant c j p2) te) (pure_ : ∀ σ H Q, Q y H → te σ H Q) (flat : ∀ H, Flat X.K H y) :
    PS X (.Raise (some (.Call (.Name "BadRule" p) [.Constant c j p2] [] pos)) none pos2) (fun _ σ H => ∀ d, H d = none → W (.ref C) (some d) σ (upd H d (.xd [("part", y)]))) := by
  refine ⟨fun pins s σ H D I h => ?_⟩
  refine (ps_raise calm tk (pmk_oex O iC tI GI hr bI .nil pass0 glob here (pa_cons he pa_nil))).run pins s σ H D I ?_
  refine pure_ _ _ _ ⟨by show 1 ≤ 1000; decide, fun a na => ⟨a, y, rfl, flat _, upd_same, fun dx nx ne => ⟨rfl, dx, [("part", y)], upd_same, ?_, ?_, ?_⟩⟩⟩
  · rw [upd_ne ne, upd_same]
  · rw [upd_ne ne] at nx
    exact nx
  · have nd : H dx = none := by
      rw [upd_ne ne] at nx
      exact nx
    have e : upd (L2.del (upd (upd (upd H a (exo a C none)) dx (exd dx [("part", y)])) a (exo a C (some dx))) a) dx (.xd [("part", y)]) = upd H dx (.xd [("part", y)]) := by
      funext b
      by_cases hb : b = dx
      · subst hb
        rw [upd_same, upd_same]
      · rw [upd_ne hb, upd_ne hb]
        by_cases hc : b = a
        · subst hc
          rw [L2.del_same, na]
        · rw [L2.del_ne hc, upd_ne hc, upd_ne hb, upd_ne hc]
    rw [e]
    exact h dx nd
end
end D3

namespace D3
open PySem PySem.Spec PyProof.Rows L2 Dr Gd Oe
abbrev sNum : Stmt := topS 10
abbrev sIsn : Stmt := topS 9
abbrev sOne : Stmt := topS 11
abbrev sRI : Stmt := inClass (topS 12) 0
abbrev sRW : Stmt := inClass (topS 12) 6
abbrev sRE : Stmt := inClass (topS 12) 7
theorem scIsn : FnScope ["value"] ["value"] (defScope sIsn) := ⟨rfl, rfl, rfl, by decide +kernel, rfl, by decide +kernel, by decide +kernel⟩
theorem scNum : FnScope ["value", "least", "most"] ["value", "least", "most"] (defScope sNum) := ⟨rfl, rfl, rfl, by decide +kernel, rfl, by decide +kernel, by decide +kernel⟩
theorem scOne : FnScope ["value", "texts"] ["value", "texts"] (defScope sOne) := ⟨rfl, rfl, rfl, by decide +kernel, rfl, by decide +kernel, by decide +kernel⟩
theorem scRI : FnScope ["self", "way", "still", "hold", "pins", "guard"] ["self", "way", "still", "hold", "pins", "guard"] (defScope sRI) := ⟨rfl, rfl, rfl, by decide +kernel, rfl, by decide +kernel, by decide +kernel⟩
theorem scRW : FnScope ["self", "part", "value", "parts"] ["self", "part", "value"] (defScope sRW) := ⟨rfl, rfl, rfl, by decide +kernel, rfl, by decide +kernel, by decide +kernel⟩
theorem scRE : FnScope ["self", "other"] ["self", "other"] (defScope sRE) := ⟨rfl, rfl, rfl, by decide +kernel, rfl, by decide +kernel, by decide +kernel⟩
/-! ### rules as data -/
structure R5 where
  way : Str
  still : Int
  hold : Int
  pins : Int
  guard : Int
deriving DecidableEq
def waysL : List Str := ["end", "front", "rank"]
def partsL : List Str := ["way", "still", "hold", "pins", "guard"]
structure R5.ok (r : R5) : Prop where
  w : r.way ∈ waysL
  s : 0 ≤ r.still ∧ r.still ≤ 3
  h : 0 ≤ r.hold ∧ r.hold ≤ 3
  p : 0 ≤ r.pins ∧ r.pins ≤ 2
  g : 0 ≤ r.guard ∧ r.guard ≤ 3
/-- what may be passed for a rule's parameters -/
structure W5 where
  w : V
  s : V
  h : V
  p : V
  g : V
inductive Pn where
  | way | still | hold | pins | guard
deriving DecidableEq
def Pn.nm : Pn → Str
  | .way => "way" | .still => "still" | .hold => "hold" | .pins => "pins" | .guard => "guard"
theorem Pn.nm_in (p : Pn) : p.nm ∈ partsL := by cases p <;> decide +kernel
theorem Pn.of_in {y : Str} (h : y ∈ partsL) : ∃ p : Pn, y = p.nm := by
  have : y = "way" ∨ y = "still" ∨ y = "hold" ∨ y = "pins" ∨ y = "guard" := by simpa [partsL] using h
  rcases this with rfl | rfl | rfl | rfl | rfl
  · exact ⟨.way, rfl⟩
  · exact ⟨.still, rfl⟩
  · exact ⟨.hold, rfl⟩
  · exact ⟨.pins, rfl⟩
  · exact ⟨.guard, rfl⟩
def W5.get (m : W5) : Pn → V
  | .way => m.w | .still => m.s | .hold => m.h | .pins => m.p | .guard => m.g
def W5.put (m : W5) (v : V) : Pn → W5
  | .way => { m with w := v } | .still => { m with s := v } | .hold => { m with h := v } | .pins => { m with p := v } | .guard => { m with g := v }
def W5.of (r : R5) : W5 := ⟨.str r.way, .int r.still, .int r.hold, .int r.pins, .int r.guard⟩
def kM (m : W5) : List (Key × V) := [(.inr "way", m.w), (.inr "still", m.s), (.inr "hold", m.h), (.inr "pins", m.p), (.inr "guard", m.g)]
theorem kM_get (m : W5) (p : Pn) : valV (kM m) (.inr p.nm) = some (m.get p) := by cases p <;> kernel_rfl
theorem kM_put (m : W5) (v : V) (p : Pn) : putK (kM m) (.inr p.nm) v = kM (m.put v p) := by cases p <;> kernel_rfl
theorem kM_merge (m : W5) : mergeK [] (kM m) = kM m := by kernel_rfl
theorem kM_len (m : W5) : (kM m).length < sizeLine := small1000 (show 5 ≤ 1000 by decide)
theorem kM_way (m : W5) : valV (kM m) (.inr "way") = some m.w := by kernel_rfl
theorem kM_still (m : W5) : valV (kM m) (.inr "still") = some m.s := by kernel_rfl
theorem kM_hold (m : W5) : valV (kM m) (.inr "hold") = some m.h := by kernel_rfl
theorem kM_pins (m : W5) : valV (kM m) (.inr "pins") = some m.p := by kernel_rfl
theorem kM_guard (m : W5) : valV (kM m) (.inr "guard") = some m.g := by kernel_rfl
def goodW : V → Bool
  | .str y => decide (y ∈ waysL)
  | _ => false
def goodN (k : Int) : V → Bool
  | .int i => decide (0 ≤ i) && decide (i ≤ k)
  | _ => false
/-- the first parameter that is none -/
def W5.due (m : W5) : Option Pn :=
  if goodW m.w = true then if goodN 3 m.s = true then if goodN 3 m.h = true then if goodN 2 m.p = true then if goodN 3 m.g = true then none else some .guard else some .pins else some .hold else some .still else some .way
theorem goodW_of {x : V} (h : goodW x = true) : ∃ y, x = .str y ∧ y ∈ waysL := by
  cases x with
  | str y => exact ⟨y, rfl, of_decide_eq_true h⟩
  | _ => exact nomatch h
theorem goodN_of {k : Int} {x : V} (h : goodN k x = true) : ∃ i, x = .int i ∧ 0 ≤ i ∧ i ≤ k := by
  cases x with
  | int i =>
    have h' : (decide (0 ≤ i) && decide (i ≤ k)) = true := h
    rw [Bool.and_eq_true] at h'
    exact ⟨i, rfl, of_decide_eq_true h'.1, of_decide_eq_true h'.2⟩
  | _ => exact nomatch h
theorem due_none {m : W5} (h : m.due = none) : ∃ r : R5, m = W5.of r ∧ r.ok := by
  obtain ⟨w, s, ho, p, g⟩ := m
  unfold W5.due at h
  by_cases c1 : goodW w = true
  · by_cases c2 : goodN 3 s = true
    · by_cases c3 : goodN 3 ho = true
      · by_cases c4 : goodN 2 p = true
        · by_cases c5 : goodN 3 g = true
          · obtain ⟨y, rfl, e1⟩ := goodW_of c1
            obtain ⟨i2, rfl, e2⟩ := goodN_of c2
            obtain ⟨i3, rfl, e3⟩ := goodN_of c3
            obtain ⟨i4, rfl, e4⟩ := goodN_of c4
            obtain ⟨i5, rfl, e5⟩ := goodN_of c5
            exact ⟨⟨y, i2, i3, i4, i5⟩, rfl, ⟨e1, e2, e3, e4, e5⟩⟩
          · simp [c1, c2, c3, c4, c5] at h
        · simp [c1, c2, c3, c4] at h
      · simp [c1, c2, c3] at h
    · simp [c1, c2] at h
  · simp [c1] at h
theorem ok_goodW {r : R5} (ok : r.ok) : goodW (.str r.way) = true := decide_eq_true ok.w
theorem ok_goodN {k i : Int} (h : 0 ≤ i ∧ i ≤ k) : goodN k (.int i) = true := by
  show (decide (0 ≤ i) && decide (i ≤ k)) = true
  rw [decide_eq_true h.1, decide_eq_true h.2]
  rfl
theorem due_of {r : R5} (ok : r.ok) : (W5.of r).due = none := by
  simp [W5.due, W5.of, ok_goodW ok, ok_goodN ok.s, ok_goodN ok.h, ok_goodN ok.p, ok_goodN ok.g]
theorem due_put {r : R5} (ok : r.ok) {p q : Pn} {v : V} (h : ((W5.of r).put v p).due = some q) : q = p := by
  have a := ok_goodW ok
  have b := ok_goodN ok.s
  have c := ok_goodN ok.h
  have d := ok_goodN ok.p
  have e := ok_goodN ok.g
  cases p with
  | way =>
    by_cases g : goodW v = true
    · simp [W5.due, W5.of, W5.put, a, b, c, d, e, g] at h
    · simp [W5.due, W5.of, W5.put, a, b, c, d, e, g] at h; exact h.symm
  | still =>
    by_cases g : goodN 3 v = true
    · simp [W5.due, W5.of, W5.put, a, b, c, d, e, g] at h
    · simp [W5.due, W5.of, W5.put, a, b, c, d, e, g] at h; exact h.symm
  | hold =>
    by_cases g : goodN 3 v = true
    · simp [W5.due, W5.of, W5.put, a, b, c, d, e, g] at h
    · simp [W5.due, W5.of, W5.put, a, b, c, d, e, g] at h; exact h.symm
  | pins =>
    by_cases g : goodN 2 v = true
    · simp [W5.due, W5.of, W5.put, a, b, c, d, e, g] at h
    · simp [W5.due, W5.of, W5.put, a, b, c, d, e, g] at h; exact h.symm
  | guard =>
    by_cases g : goodN 3 v = true
    · simp [W5.due, W5.of, W5.put, a, b, c, d, e, g] at h
    · simp [W5.due, W5.of, W5.put, a, b, c, d, e, g] at h; exact h.symm
theorem of_inj {r r' : R5} (h : W5.of r = W5.of r') : r = r' := by
  obtain ⟨a, b, c, d, e⟩ := r
  obtain ⟨a', b', c', d', e'⟩ := r'
  simp only [W5.of, W5.mk.injEq, V.str.injEq, V.int.injEq] at h
  obtain ⟨rfl, rfl, rfl, rfl, rfl⟩ := h
  rfl
/-! ### values of any kind -/
inductive OddO : HO → Prop where
  | one : OddO (.tup [.int 1])
  | lst : OddO (.lst [.str "end"])
  | dic : OddO (.dK [])
  | way : OddO (.tup [.str "way"])
  | stl : OddO (.lst [.str "still"])
inductive Odd (H : Hp) : V → Prop where
  | str (y : Str) : Odd H (.str y)
  | int (i : Int) : Odd H (.int i)
  | bl (b : Bool) : Odd H (.bl b)
  | non : Odd H .non
  | ref {a : Addr} {o : HO} (e : H a = some o) (k : OddO o) : Odd H (.ref a)
theorem OddO.ne_kD {o : HO} (k : OddO o) (g c : Addr) (r t : Int) : o ≠ .dK (kD g c r t) := by
  cases k <;> intro z <;> cases z
theorem OddO.ne_ints {o : HO} (k : OddO o) (gs : List Int) : o ≠ .lst (gs.map V.int) := by
  cases k <;> intro z <;> cases gs <;> simp at z
theorem OddO.ne_kM {o : HO} (k : OddO o) (m : W5) : o ≠ .dK (kM m) := by
  cases k <;> intro z <;> cases z
theorem OddO.ne_tbl {o : HO} (k : OddO o) : ∀ ps, o ≠ .tbl ps := by
  intro ps
  cases k <;> intro z <;> cases z
theorem OddO.ne_ins {o : HO} (k : OddO o) (C dx : Addr) (fs : List (Str × V)) : o ≠ .ins C dx fs := by
  cases k <;> intro z <;> cases z
theorem Odd.keep {H H' : Hp} {x : V} (h : Odd H x) (k : ∀ a o, OddO o → H a = some o → H' a = some o) : Odd H' x := by
  cases h with
  | str y => exact .str y
  | int i => exact .int i
  | bl b => exact .bl b
  | non => exact .non
  | ref e o => exact .ref (k _ _ o e) o
theorem Odd.same {H H' : Hp} {x : V} (h : Odd H x) (k : Same H H') : Odd H' x := h.keep fun a o _ e => k a o e
/-- of no text -/
def NoStr (K : PySem.W.Frag) (H : Hp) (x : V) : Prop := ∃ ty, TyX K H x ty ∧ PySem.W.kitOne K ty (.type "str") = some false
theorem Odd.str? {K : PySem.W.Frag} {H : Hp} {x : V} (h : Odd H x) : (∃ y, x = .str y) ∨ NoStr K H x := by
  cases h with
  | str y => exact .inl ⟨y, rfl⟩
  | int i => exact .inr ⟨_, .base (.int i), kit_ty (by decide +kernel)⟩
  | bl b => exact .inr ⟨_, .base (.bl b), kit_ty (by decide +kernel)⟩
  | non => exact .inr ⟨_, .base .non, kit_ty (by decide +kernel)⟩
  | ref e o =>
    cases o with
    | one => exact .inr ⟨_, .base (.tup e), kit_ty (by decide +kernel)⟩
    | lst => exact .inr ⟨_, .base (.lst e), kit_ty (by decide +kernel)⟩
    | dic => exact .inr ⟨_, .base (.dK e), kit_ty (by decide +kernel)⟩
    | way => exact .inr ⟨_, .base (.tup e), kit_ty (by decide +kernel)⟩
    | stl => exact .inr ⟨_, .base (.lst e), kit_ty (by decide +kernel)⟩
theorem noStr_ne {K : PySem.W.Frag} {H : Hp} {x : V} {y : Str} (h : NoStr K H x) : x ≠ .str y := by
  rintro rfl
  obtain ⟨ty, t, k⟩ := h
  cases t with
  | base b =>
    cases b with
    | str =>
      rw [kit_ty (r := true) (by decide +kernel)] at k
      cases k
/-- of no number -/
def NoInt (K : PySem.W.Frag) (H : Hp) (x : V) : Prop := ∃ ty, TyX K H x ty ∧ PySem.W.kitOne K ty (.type "int") = some false
theorem Odd.int? {K : PySem.W.Frag} {H : Hp} {x : V} (h : Odd H x) : (∃ i, x = .int i) ∨ (∃ c, x = .bl c) ∨ (NoInt K H x ∧ ∀ i, x ≠ .int i) := by
  cases h with
  | str y => exact .inr (.inr ⟨⟨_, .base (.str y), kit_ty (by decide +kernel)⟩, fun _ z => nomatch z⟩)
  | int i => exact .inl ⟨i, rfl⟩
  | bl b => exact .inr (.inl ⟨b, rfl⟩)
  | non => exact .inr (.inr ⟨⟨_, .base .non, kit_ty (by decide +kernel)⟩, fun _ z => nomatch z⟩)
  | ref e o =>
    refine .inr (.inr ⟨?_, fun _ z => nomatch z⟩)
    cases o with
    | one => exact ⟨_, .base (.tup e), kit_ty (by decide +kernel)⟩
    | lst => exact ⟨_, .base (.lst e), kit_ty (by decide +kernel)⟩
    | dic => exact ⟨_, .base (.dK e), kit_ty (by decide +kernel)⟩
    | way => exact ⟨_, .base (.tup e), kit_ty (by decide +kernel)⟩
    | stl => exact ⟨_, .base (.lst e), kit_ty (by decide +kernel)⟩
structure W5.odd (H : Hp) (m : W5) : Prop where
  w : Odd H m.w
  s : Odd H m.s
  h : Odd H m.h
  p : Odd H m.p
  g : Odd H m.g
theorem W5.odd.keep {H H' : Hp} {m : W5} (x : m.odd H) (k : ∀ a o, OddO o → H a = some o → H' a = some o) : m.odd H' := ⟨x.w.keep k, x.s.keep k, x.h.keep k, x.p.keep k, x.g.keep k⟩
theorem W5.odd.same {H H' : Hp} {m : W5} (x : m.odd H) (k : Same H H') : m.odd H' := x.keep fun a o _ e => k a o e
theorem W5.odd.put {H : Hp} {m : W5} {v : V} (x : m.odd H) (h : Odd H v) (p : Pn) : (m.put v p).odd H := by
  obtain ⟨a, b, c, d, e⟩ := x
  cases p
  · exact ⟨h, b, c, d, e⟩
  · exact ⟨a, h, c, d, e⟩
  · exact ⟨a, b, h, d, e⟩
  · exact ⟨a, b, c, h, e⟩
  · exact ⟨a, b, c, d, h⟩
theorem W5.odd.of {H : Hp} (r : R5) : (W5.of r).odd H := ⟨.str _, .int _, .int _, .int _, .int _⟩
theorem W5.odd.get {H : Hp} {m : W5} (x : m.odd H) (p : Pn) : Odd H (m.get p) := by
  cases p
  · exact x.w
  · exact x.s
  · exact x.h
  · exact x.p
  · exact x.g
/-- a rule's attributes -/
def fR (r : R5) : List (Str × V) := [("_way", .str r.way), ("_still", .int r.still), ("_hold", .int r.hold), ("_pins", .int r.pins), ("_guard", .int r.guard)]
def RuleAt (C : Addr) (H : Hp) (p : Addr) (r : R5) : Prop := ∃ dx, H p = some (.ins C dx (fR r))
theorem RuleAt.keep {C : Addr} {H H' : Hp} {p : Addr} {r : R5} (h : RuleAt C H p r) (k : ∀ o, H p = some o → H' p = some o) : RuleAt C H' p r := ⟨h.choose, k _ h.choose_spec⟩
theorem RuleAt.same {C : Addr} {H H' : Hp} {p : Addr} {r : R5} (h : RuleAt C H p r) (k : Same H H') : RuleAt C H' p r := h.keep fun o => k p o
theorem fR_put (w : Str) (s h p g : Int) : putF "_guard" (.int g) (putF "_pins" (.int p) (putF "_hold" (.int h) (putF "_still" (.int s) (putF "_way" (.str w) [])))) = fR ⟨w, s, h, p, g⟩ := by kernel_rfl
theorem fR_way (r : R5) : (fR r).lookup ("_way" : Str) = some (.str r.way) := by kernel_rfl
theorem fR_still (r : R5) : (fR r).lookup ("_still" : Str) = some (.int r.still) := by kernel_rfl
theorem fR_hold (r : R5) : (fR r).lookup ("_hold" : Str) = some (.int r.hold) := by kernel_rfl
theorem fR_pins (r : R5) : (fR r).lookup ("_pins" : Str) = some (.int r.pins) := by kernel_rfl
theorem fR_guard (r : R5) : (fR r).lookup ("_guard" : Str) = some (.int r.guard) := by kernel_rfl
theorem in_list {w : Str} {l : List Str} : inV (.str w) (l.map V.str) = decide (w ∈ l) := by
  unfold inV
  rw [Bool.eq_iff_iff, List.any_eq_true, decide_eq_true_iff]
  constructor
  · rintro ⟨x, hx, e⟩
    obtain ⟨y, hy, rfl⟩ := List.mem_map.mp hx
    have : y = w := by simpa [eqV] using e
    rw [← this]
    exact hy
  · intro h
    exact ⟨.str w, List.mem_map.mpr ⟨w, h, rfl⟩, by simp [eqV]⟩
theorem flat_strs : ∀ l : List Str, (l.map V.str).all flatV = true
  | [] => rfl
  | _ :: r => by rw [List.map_cons, List.all_cons, flat_strs r]; rfl
theorem ifN {A B : Prop} (h : B) : if (!true) = true then A else B := by
  rw [if_neg (by decide)]
  exact h
theorem ifNF {A B : Prop} (h : A) : if (!false) = true then A else B := by
  rw [if_pos (by decide)]
  exact h
/-! ### promises -/
/-- whether a value is a number within -/
def spNum (K : PySem.W.Frag) : Sp := fun vs H Q _ => ∃ (x : V) (l m : Int), vs = [x, .int l, .int m] ∧
  ((∃ i, x = .int i ∧ ∀ b, b = (decide (l ≤ i) && decide (i ≤ m)) → Q (.bl b) H) ∨ (∃ c, x = .bl c ∧ Q (.bl false) H) ∨ (∃ t, TyX K H x t ∧ PySem.W.kitOne K t (.type "int") = some false ∧ Q (.bl false) H))
theorem num_ask {K : PySem.W.Frag} {H : Hp} {x : V} {k : Int} {Q : VK} {E : XK} (o : Odd H x) (q : Q (.bl (goodN k x)) H) : spNum K [x, .int 0, .int k] H Q E := by
  refine ⟨x, 0, k, rfl, ?_⟩
  rcases o.int? (K := K) with ⟨i, rfl⟩ | ⟨c, rfl⟩ | ⟨⟨t, h1, h2⟩, no⟩
  · exact .inl ⟨i, rfl, fun b hb => by rw [hb]; exact q⟩
  · exact .inr (.inl ⟨c, rfl, q⟩)
  · refine .inr (.inr ⟨t, h1, h2, ?_⟩)
    have e : goodN k x = false := by
      cases x with
      | int i => exact (no i rfl).elim
      | _ => rfl
    rw [e] at q
    exact q
def spOne (K : PySem.W.Frag) : Sp := fun vs H Q _ => ∃ (x : V) (t : Addr) (xs : List V), vs = [x, .ref t] ∧ SqT K H t xs ∧ xs.all flatV = true ∧
  ((∃ y, x = .str y ∧ ∀ b, b = inV x xs → Q (.bl b) H) ∨ (∃ ty, TyX K H x ty ∧ PySem.W.kitOne K ty (.type "str") = some false ∧ Q (.bl false) H))
def goodS (l : List Str) : V → Bool
  | .str y => decide (y ∈ l)
  | _ => false
theorem one_ask {K : PySem.W.Frag} {H : Hp} {x : V} {t : Addr} {l : List Str} {Q : VK} {E : XK} (o : Odd H x) (ht : SqT K H t (l.map V.str)) (q : Q (.bl (goodS l x)) H) : spOne K [x, .ref t] H Q E := by
  refine ⟨x, t, _, rfl, ht, flat_strs _, ?_⟩
  rcases o.str? (K := K) with ⟨y, rfl⟩ | no
  · refine .inl ⟨y, rfl, fun b hb => ?_⟩
    rw [hb, in_list]
    exact q
  · obtain ⟨ty, h1, h2⟩ := id no
    refine .inr ⟨ty, h1, h2, ?_⟩
    have e : goodS l x = false := by
      cases x with
      | str y => exact (noStr_ne no rfl).elim
      | _ => rfl
    rw [e] at q
    exact q
def spOdd1 (K : PySem.W.Frag) : Sp := fun vs H Q _ => ∃ (x : V) (t : Addr) (l : List Str), vs = [x, .ref t] ∧ SqT K H t (l.map V.str) ∧ Odd H x ∧ Q (.bl (goodS l x)) H
def spOddN : Sp := fun vs H Q _ => ∃ (x : V) (k : Int), vs = [x, .int 0, .int k] ∧ Odd H x ∧ Q (.bl (goodN k x)) H
theorem weak {P : Program} {w : World} {K : PySem.W.Frag} {mg : Str → Option Value} {base : Heap} {CX : CXT} {k : Nat} {f : Addr} {fd : FuncData} {ps : List Str} {sp sp' : Sp} (F : FnOk P w K mg base CX k f fd ps sp) (h : ∀ vs H Q E, sp' vs H Q E → sp vs H Q E) : FnOk P w K mg base CX k f fd ps sp' :=
  ⟨fun vs H Q E s => F.len vs H Q E (h _ _ _ _ s), fun A outer s H args us vs Q E hr e0 b r q => F.run A outer s H args us vs Q E hr e0 b r (h _ _ _ _ q)⟩
/-- Rule's __init__, of any values -/
def spRI (C B : Addr) : Sp := fun vs H Q E => ∃ (p dx : Addr) (m : W5), vs = [.ref p, m.w, m.s, m.h, m.p, m.g] ∧ m.odd H ∧ H p = some (.ins C dx []) ∧
  (∀ y, m.due = some y → ∀ d, H d = none → E (.ref B) (some d) (upd H d (.xd [("part", .str y.nm)]))) ∧
  (∀ r, m = W5.of r → r.ok → ∀ H', RuleAt C H' p r → (∀ b o, b ≠ p → H b = some o → H' b = some o) → Q .non H')
/-- what the part of with_part does: the error's field, or the rule -/
inductive Res where
  | bad (x : V)
  | good (r : R5)
/-- with_part, of any values -/
def spRW (C B : Addr) : Sp := fun vs H Q E => ∃ (p : Addr) (r : R5) (x v : V), vs = [.ref p, x, v] ∧ RuleAt C H p r ∧ r.ok ∧ Odd H x ∧ Odd H v ∧
  ((∀ y, x = .str y → y ∉ partsL) → ∀ d H', H d = none → H' d = some (.xd [("part", .non)]) → Same H H' → E (.ref B) (some d) H') ∧
  (∀ q : Pn, x = .str q.nm → (∀ y, ((W5.of r).put v q).due = some y → ∀ d H', H d = none → H' d = some (.xd [("part", .str y.nm)]) → Same H H' → E (.ref B) (some d) H') ∧
    (∀ r', (W5.of r).put v q = W5.of r' → r'.ok → ∀ a H', H a = none → RuleAt C H' a r' → Same H H' → Q (.ref a) H'))
def spRE (K : PySem.W.Frag) (C : Addr) : Sp := fun vs H Q _ => ∃ (a : Addr) (y : V) (r : R5), vs = [.ref a, y] ∧ RuleAt C H a r ∧
  ((∃ b r', y = .ref b ∧ RuleAt C H b r' ∧ Q (.bl (decide (r = r'))) H) ∨ (∃ t, TyX K H y t ∧ PySem.W.kitOne K t (.ref C) = some false ∧ Q (.bl false) H))
/-- what the top says of the class Rule -/
structure TR (K : PySem.W.Frag) (mg : Str → Option Value) (C wA pA : Addr) : Prop where
  cl : Cls K C
  n1 : NoAttr K C "_way"
  n2 : NoAttr K C "_still"
  n3 : NoAttr K C "_hold"
  n4 : NoAttr K C "_pins"
  n5 : NoAttr K C "_guard"
  gC : mg "Rule" = some (.ref C)
  gW : mg "WAYS" = some (.ref wA)
  gP : mg "PARTS" = some (.ref pA)
  gT : ∃ t, mg "MOST_TICKS" = some (.int 3 t)
  gM : ∃ t, mg "MOST_PINS" = some (.int 2 t)
  sW : ∀ H, SqT K H wA (waysL.map V.str)
  sP : ∀ H, SqT K H pA (partsL.map V.str)
  ha : PySem.W.findIn K (.ref C) "__class__" = some (some (.builtin "object.__class__"))
  hn : PySem.W.specialIn K (.builtin "object.__class__") "__get__" = some (some (.builtin "getset_descriptor.__get__"))
  ht : PySem.W.takesIn K (.builtin "object.__class__") = some true
  hm : PySem.W.mroIn K C (.type "object") = some true
  k1 : PySem.W.kitOne K (.ref C) (.ref C) = some true
  isi : mg "isinstance" = none
  int : mg "int" = none
  bool : mg "bool" = none
  str : mg "str" = none
theorem TR.ty {K : PySem.W.Frag} {mg : Str → Option Value} {C wA pA : Addr} (T : TR K mg C wA pA) {H : Hp} {p : Addr} {r : R5} (h : RuleAt C H p r) : TyX K H (.ref p) (.ref C) := by
  obtain ⟨dx, h⟩ := h
  exact .base (.ins h T.cl T.ha T.hn T.ht T.hm)
/-- what the top says of the error BadRule, its __init__ at f -/
structure TB (P : Program) (w : World) (K : PySem.W.Frag) (mg : Str → Option Value) (base : Heap) (B f : Addr) (fd : FuncData) : Prop where
  g : mg "BadRule" = some (.ref B)
  o : OexC K B
  i : PySem.W.findIn K (.ref B) "__init__" = some (some (.ref f))
  t : PySem.W.typeIn K (.ref f) = some (.type "function")
  F : FnOk P w K mg base CX0 2 f fd ["self", "part"] (spBadI K B)
  b : L2.Binds K fd ["self", "part"] []
theorem flat_ok {H : Hp} {K : PySem.W.Frag} (y : Str) : Flat K H (.str y) := flat_str y
section
variable {P : Program} {w : World} {K : PySem.W.Frag} {mg : Str → Option Value} {base : Heap} {C B wA pA : Addr}
def spIsn (K : PySem.W.Frag) : Sp := fun vs H Q _ => ∃ x : V, vs = [x] ∧ ((∃ i, x = .int i ∧ Q (.bl true) H) ∨ (∃ c, x = .bl c ∧ Q (.bl false) H) ∨ ∃ t, TyX K H x t ∧ PySem.W.kitOne K t (.type "int") = some false ∧ Q (.bl false) H)
theorem ok_isn {f : Addr} {fd : FuncData} (F : Fun K "is_number" "is_number" sIsn f fd) (mI : mg "isinstance" = none) (mi : mg "int" = none) (mb : mg "bool" = none) : FnOk P w K mg base CX0 1 f fd ["value"] (spIsn K) := by
  refine F.ok scIsn (fun vs H Q E h => ?_) (fun cdv A outer s H vs Q E hr h => ?_)
  · obtain ⟨x, rfl, _⟩ := h
    rfl
  · obtain ⟨x, rfl, h⟩ := h
    refine ⟨_, pss_one (ps_ret (pe_and (pe_callB call_isi (by rfl) mI boot_isinstance (pa_cons (pv 0) (pa_cons (pe_bltn (v := .ty "int") (by rfl) mi boot_int rfl) pa_nil)))
      (pe_one (pe_not (pe_callB call_isi (by rfl) mI boot_isinstance (pa_cons (pv 0) (pa_cons (pe_bltn (v := .ty "bool") (by rfl) mb boot_bool rfl) pa_nil))))))), ?_⟩
    rcases h with ⟨i, rfl, q⟩ | ⟨c, rfl, q⟩ | ⟨t, ty, kt, q⟩
    · refine ⟨_, rfl, _, _, _, _, true, rfl, .ty "int", .base (.int i), kit_ty (by decide +kernel), true, rfl, iteT ?_⟩
      exact ⟨_, rfl, _, _, _, _, false, rfl, .ty "bool", .base (.int i), kit_ty (by decide +kernel), false, rfl, q⟩
    · refine ⟨_, rfl, _, _, _, _, true, rfl, .ty "int", .base (.bl c), kit_ty (by decide +kernel), true, rfl, iteT ?_⟩
      exact ⟨_, rfl, _, _, _, _, true, rfl, .ty "bool", .base (.bl c), kit_ty (by decide +kernel), true, rfl, q⟩
    · exact ⟨_, rfl, _, _, _, _, false, rfl, .ty "int", ty, kt, false, rfl, iteF q⟩
theorem ok_num {f fI : Addr} {fd fdI : FuncData} (F : Fun K "is_number_within" "is_number_within" sNum f fd) (GI : FnOk P w K mg base CX0 1 fI fdI ["value"] (spIsn K)) (kI : PySem.W.keepIn K (.ref fI) = true) (bI : L2.Binds K fdI ["value"] []) (gI : mg "is_number" = some (.ref fI)) : FnOk P w K mg base CX0 2 f fd ["value", "least", "most"] (spNum K) := by
  refine F.ok scNum (fun vs H Q E h => ?_) (fun cdv A outer s H vs Q E hr h => ?_)
  · obtain ⟨x, l, m, rfl, _⟩ := h
    rfl
  · obtain ⟨x, l, m, rfl, h⟩ := h
    refine ⟨_, pss_one (ps_ret (pe_and (pe_call GI hr (by rfl) gI kI bI .nil pass0 (pa_cons (pv 0) pa_nil)) (pe_one (pe_chain op_le op_le (pv 1) (pv 0) (pv 2))))), ?_⟩
    rcases h with ⟨i, rfl, q⟩ | ⟨c, rfl, q⟩ | ⟨t, ty, kt, q⟩
    · refine ⟨_, rfl, _, rfl, .inl ⟨i, rfl, true, rfl, iteT ?_⟩⟩
      refine ⟨_, rfl, _, rfl, _, _, rfl, rfl, _, rfl, ite2 (fun e => ⟨_, rfl, _, _, rfl, rfl, q _ ?_⟩) (fun e => q _ ?_)⟩
      · rw [e]; rfl
      · have e' : decide (l ≤ i) = false := by cases h : decide (l ≤ i) with
          | true => exact absurd h e
          | false => rfl
        rw [e']; rfl
    · exact ⟨_, rfl, _, rfl, .inr (.inl ⟨c, rfl, false, rfl, iteF q⟩)⟩
    · exact ⟨_, rfl, _, rfl, .inr (.inr ⟨t, ty, kt, false, rfl, iteF q⟩)⟩
theorem ok_one {f : Addr} {fd : FuncData} (F : Fun K "is_one_of" "is_one_of" sOne f fd) (mI : mg "isinstance" = none) (ms : mg "str" = none) : FnOk P w K mg base CX0 1 f fd ["value", "texts"] (spOne K) := by
  refine F.ok scOne (fun vs H Q E h => ?_) (fun cdv A outer s H vs Q E hr h => ?_)
  · obtain ⟨x, t, xs, rfl, _⟩ := h
    rfl
  · obtain ⟨x, t, xs, rfl, hS, fl, h⟩ := h
    refine ⟨_, pss_one (ps_ret (pe_and (pe_callB call_isi (by rfl) mI boot_isinstance (pa_cons (pv 0) (pa_cons (pe_bltn (v := .ty "str") (by rfl) ms boot_str rfl) pa_nil)))
      (pe_one (pe_cmpR op_in_seq (pv 0) (pv 1) (by rfl))))), ?_⟩
    rcases h with ⟨y, rfl, q⟩ | ⟨ty, hty, kt, q⟩
    · refine ⟨_, rfl, _, _, _, _, true, rfl, .ty "str", .base (.str y), kit_ty (by decide +kernel), true, rfl, iteT ?_⟩
      exact ⟨_, rfl, _, rfl, t, xs, rfl, .inr hS, rfl, fl, q _ rfl⟩
    · exact ⟨_, rfl, _, _, _, _, false, rfl, .ty "str", hty, kt, false, rfl, iteF q⟩
theorem ok_one1 {f : Addr} {fd : FuncData} (F : Fun K "is_one_of" "is_one_of" sOne f fd) (mI : mg "isinstance" = none) (ms : mg "str" = none) : FnOk P w K mg base CX0 1 f fd ["value", "texts"] (spOdd1 K) :=
  weak (ok_one F mI ms) fun vs H Q E ⟨x, t, l, e, h1, h2, q⟩ => by subst e; exact one_ask h2 h1 q
theorem ok_num1 {f fI : Addr} {fd fdI : FuncData} (F : Fun K "is_number_within" "is_number_within" sNum f fd) (GI : FnOk P w K mg base CX0 1 fI fdI ["value"] (spIsn K)) (kI : PySem.W.keepIn K (.ref fI) = true) (bI : L2.Binds K fdI ["value"] []) (gI : mg "is_number" = some (.ref fI)) : FnOk P w K mg base CX0 2 f fd ["value", "least", "most"] spOddN :=
  weak (ok_num F GI kI bI gI) fun vs H Q E ⟨x, k, e, h2, q⟩ => by subst e; exact num_ask h2 q
theorem ok_RE {f : Addr} {fd : FuncData} (F : Fun K "__eq__" "Rule.__eq__" sRE f fd) (T : TR K mg C wA pA) : FnOk P w K mg base CX0 1 f fd ["self", "other"] (spRE K C) := by
  refine F.ok scRE (fun vs H Q E h => ?_) (fun cdv A outer s H vs Q E hr h => ?_)
  · obtain ⟨a, y, r, rfl, _⟩ := h
    rfl
  · obtain ⟨a, y, r, rfl, ⟨dx, ha⟩, h⟩ := h
    refine ⟨_, pss_one (ps_ret (pe_and (pe_callB call_isi (by rfl) T.isi boot_isinstance (pa_cons (pv 1) (pa_cons (pe_glob (v := .ref C) (by rfl) T.gC rfl) pa_nil)))
      (pe_and (pe_cmpR op_eq (pe_fld (pv 0) rfl) (pe_fld (pv 1) rfl) (nomark _)) (pe_and (pe_cmpR op_eq (pe_fld (pv 0) rfl) (pe_fld (pv 1) rfl) (nomark _)) (pe_and (pe_cmpR op_eq (pe_fld (pv 0) rfl) (pe_fld (pv 1) rfl) (nomark _))
        (pe_and (pe_cmpR op_eq (pe_fld (pv 0) rfl) (pe_fld (pv 1) rfl) (nomark _)) (pe_one (pe_cmpR op_eq (pe_fld (pv 0) rfl) (pe_fld (pv 1) rfl) (nomark _))))))))), ?_⟩
    rcases h with ⟨b, r', rfl, hB, q⟩ | ⟨t, ty, kt, q⟩
    · obtain ⟨dy, hb⟩ := id hB
      obtain ⟨w1, s1, h1, p1, g1⟩ := r
      obtain ⟨w2, s2, h2, p2, g2⟩ := r'
      refine ⟨_, rfl, _, _, _, _, true, rfl, .own C, T.ty hB, T.k1, true, rfl, iteT ?_⟩
      have no : ¬ ((⟨w1, s1, h1, p1, g1⟩ : R5) = ⟨w2, s2, h2, p2, g2⟩) → Q (.bl false) H := fun ne => by
        rw [decide_eq_false ne] at q
        exact q
      refine ⟨_, rfl, a, C, dx, _, _, rfl, ha, T.cl, T.n1, fR_way _, _, rfl, b, C, dy, _, _, rfl, hb, T.cl, T.n1, fR_way _, rfl, _, rfl, ite2 (fun e1 => ?_) (fun e => no fun z => e (decide_eq_true (by cases z; rfl)))⟩
      refine ⟨_, rfl, a, C, dx, _, _, rfl, ha, T.cl, T.n2, fR_still _, _, rfl, b, C, dy, _, _, rfl, hb, T.cl, T.n2, fR_still _, rfl, _, rfl, ite2 (fun e2 => ?_) (fun e => no fun z => e (decide_eq_true (by cases z; rfl)))⟩
      refine ⟨_, rfl, a, C, dx, _, _, rfl, ha, T.cl, T.n3, fR_hold _, _, rfl, b, C, dy, _, _, rfl, hb, T.cl, T.n3, fR_hold _, rfl, _, rfl, ite2 (fun e3 => ?_) (fun e => no fun z => e (decide_eq_true (by cases z; rfl)))⟩
      refine ⟨_, rfl, a, C, dx, _, _, rfl, ha, T.cl, T.n4, fR_pins _, _, rfl, b, C, dy, _, _, rfl, hb, T.cl, T.n4, fR_pins _, rfl, _, rfl, ite2 (fun e4 => ?_) (fun e => no fun z => e (decide_eq_true (by cases z; rfl)))⟩
      refine ⟨_, rfl, a, C, dx, _, _, rfl, ha, T.cl, T.n5, fR_guard _, _, rfl, b, C, dy, _, _, rfl, hb, T.cl, T.n5, fR_guard _, rfl, ?_⟩
      have z1 : w1 = w2 := V.str.inj (of_decide_eq_true e1)
      have z2 : s1 = s2 := V.int.inj (of_decide_eq_true e2)
      have z3 : h1 = h2 := V.int.inj (of_decide_eq_true e3)
      have z4 : p1 = p2 := V.int.inj (of_decide_eq_true e4)
      subst z1 z2 z3 z4
      by_cases z5 : g1 = g2
      · subst z5
        rw [decide_eq_true rfl] at q
        have e5 : decide (V.int g1 = V.int g1) = true := decide_eq_true rfl
        show Q (.bl (decide (V.int g1 = V.int g1))) H
        rw [e5]
        exact q
      · have e5 : decide (V.int g1 = V.int g2) = false := decide_eq_false fun z => z5 (V.int.inj z)
        show Q (.bl (decide (V.int g1 = V.int g2))) H
        rw [e5]
        exact no fun z => z5 (by cases z; rfl)
    · exact ⟨_, rfl, _, _, _, _, false, rfl, .own C, ty, kt, false, rfl, iteF q⟩
end
end D3

namespace D3
open PySem PySem.Spec PyProof.Rows L2 Dr Gd Oe
section
variable {P : Program} {w : World} {K : PySem.W.Frag} {mg : Str → Option Value} {base : Heap} {C B wA pA : Addr}
theorem if_not {A B' : Prop} {g : Bool} (a : g = false → A) (b : g = true → B') : if (!g) = true then A else B' := by
  cases g with
  | true => exact ifN (b rfl)
  | false => exact ifNF (a rfl)
theorem ok_RI {f fO fN fB : Addr} {fd fdO fdN fdB : FuncData} (F : Fun K "__init__" "Rule.__init__" sRI f fd) (T : TR K mg C wA pA) (TE : TB P w K mg base B fB fdB) (GO : FnOk P w K mg base CX0 1 fO fdO ["value", "texts"] (spOdd1 K)) (kO : PySem.W.keepIn K (.ref fO) = true) (bO : L2.Binds K fdO ["value", "texts"] []) (gO : mg "is_one_of" = some (.ref fO))
    (GN : FnOk P w K mg base CX0 2 fN fdN ["value", "least", "most"] spOddN) (kN : PySem.W.keepIn K (.ref fN) = true) (bN : L2.Binds K fdN ["value", "least", "most"] []) (gN : mg "is_number_within" = some (.ref fN)) :
    FnOk P w K mg base (L2.CX P w) 4 f fd ["self", "way", "still", "hold", "pins", "guard"] (spRI C B) := by
  refine F.okX scRI (fun vs H Q E h => ?_) (fun cdv A outer s H vs Q E hr h => ?_)
  · obtain ⟨p, dx, m, rfl, _⟩ := h
    rfl
  · obtain ⟨p, dx, ⟨wy, st, ho, pi, gu⟩, rfl, od, hp, bad, k⟩ := h
    obtain ⟨tt, gT⟩ := T.gT
    obtain ⟨tm, gM⟩ := T.gM
    have hr1 : Room 1 _ := hr.mono (by decide)
    have hr2 : Room 2 _ := hr.mono (by decide)
    have tk := takes_of (X := cxOf (L2.CX P w) P w K mg base ["self", "way", "still", "hold", "pins", "guard"] "Rule.__init__" (defScope sRI) f cdv A outer s H E) rfl rfl rfl rfl
    refine ⟨_, pss_cons (ps_if (pt_not (pt_val (pe_call GO hr1 (by rfl) gO kO bO .nil pass0 (pa_cons (pv 1) (pa_cons (pe_glob (v := .ref wA) (by rfl) T.gW rfl) pa_nil))))) (pss_one (raise_bad (y := .str "way") rfl tk TE.o TE.i TE.t TE.F TE.b hr (by rfl) TE.g pe_str (fun _ _ _ q => q) (fun _ => flat_str _))) pss_nil)
      (pss_cons (ps_if (pt_not (pt_val (pe_call GN hr2 (by rfl) gN kN bN .nil pass0 (pa_cons (pv 2) (pa_cons pe_int (pa_cons (pe_glob (v := .int 3) (by rfl) gT ⟨_, rfl⟩) pa_nil)))))) (pss_one (raise_bad (y := .str "still") rfl tk TE.o TE.i TE.t TE.F TE.b hr (by rfl) TE.g pe_str (fun _ _ _ q => q) (fun _ => flat_str _))) pss_nil)
      (pss_cons (ps_if (pt_not (pt_val (pe_call GN hr2 (by rfl) gN kN bN .nil pass0 (pa_cons (pv 3) (pa_cons pe_int (pa_cons (pe_glob (v := .int 3) (by rfl) gT ⟨_, rfl⟩) pa_nil)))))) (pss_one (raise_bad (y := .str "hold") rfl tk TE.o TE.i TE.t TE.F TE.b hr (by rfl) TE.g pe_str (fun _ _ _ q => q) (fun _ => flat_str _))) pss_nil)
      (pss_cons (ps_if (pt_not (pt_val (pe_call GN hr2 (by rfl) gN kN bN .nil pass0 (pa_cons (pv 4) (pa_cons pe_int (pa_cons (pe_glob (v := .int 2) (by rfl) gM ⟨_, rfl⟩) pa_nil)))))) (pss_one (raise_bad (y := .str "pins") rfl tk TE.o TE.i TE.t TE.F TE.b hr (by rfl) TE.g pe_str (fun _ _ _ q => q) (fun _ => flat_str _))) pss_nil)
      (pss_cons (ps_if (pt_not (pt_val (pe_call GN hr2 (by rfl) gN kN bN .nil pass0 (pa_cons (pv 5) (pa_cons pe_int (pa_cons (pe_glob (v := .int 3) (by rfl) gT ⟨_, rfl⟩) pa_nil)))))) (pss_one (raise_bad (y := .str "guard") rfl tk TE.o TE.i TE.t TE.F TE.b hr (by rfl) TE.g pe_str (fun _ _ _ q => q) (fun _ => flat_str _))) pss_nil)
      (pss_cons (ps_fld (pv 0) (pv 1) rfl) (pss_cons (ps_fld (pv 0) (pv 2) rfl) (pss_cons (ps_fld (pv 0) (pv 3) rfl) (pss_cons (ps_fld (pv 0) (pv 4) rfl) (pss_one (ps_fld (pv 0) (pv 5) rfl)))))))))), ?_⟩
    refine ⟨_, rfl, _, wA, _, rfl, T.sW H, od.w, _, rfl, if_not (fun c1 => bad .way (by
      have c1' : goodW wy = false := c1
      simp [W5.due, c1'])) (fun c1 => ?_)⟩
    have c1 : goodW wy = true := c1
    refine ⟨_, rfl, _, _, rfl, od.s, _, rfl, if_not (fun c2 => bad .still (by simp [W5.due, c1, c2])) (fun c2 => ?_)⟩
    refine ⟨_, rfl, _, _, rfl, od.h, _, rfl, if_not (fun c3 => bad .hold (by simp [W5.due, c1, c2, c3])) (fun c3 => ?_)⟩
    refine ⟨_, rfl, _, _, rfl, od.p, _, rfl, if_not (fun c4 => bad .pins (by simp [W5.due, c1, c2, c3, c4])) (fun c4 => ?_)⟩
    refine ⟨_, rfl, _, _, rfl, od.g, _, rfl, if_not (fun c5 => bad .guard (by simp [W5.due, c1, c2, c3, c4, c5])) (fun c5 => ?_)⟩
    obtain ⟨wy, rfl, e1⟩ := goodW_of c1
    obtain ⟨st, rfl, e2⟩ := goodN_of c2
    obtain ⟨ho, rfl, e3⟩ := goodN_of c3
    obtain ⟨pi, rfl, e4⟩ := goodN_of c4
    obtain ⟨gu, rfl, e5⟩ := goodN_of c5
    refine ⟨_, rfl, _, rfl, p, C, dx, _, rfl, hp, T.cl, T.n1, (by show 0 < 1000; decide), ?_⟩
    refine ⟨_, rfl, _, rfl, p, C, dx, _, rfl, upd_same, T.cl, T.n2, (by show 1 < 1000; decide), ?_⟩
    refine ⟨_, rfl, _, rfl, p, C, dx, _, rfl, upd_same, T.cl, T.n3, (by show 2 < 1000; decide), ?_⟩
    refine ⟨_, rfl, _, rfl, p, C, dx, _, rfl, upd_same, T.cl, T.n4, (by show 3 < 1000; decide), ?_⟩
    refine ⟨_, rfl, _, rfl, p, C, dx, _, rfl, upd_same, T.cl, T.n5, (by show 4 < 1000; decide), ?_⟩
    refine k ⟨wy, st, ho, pi, gu⟩ rfl ⟨e1, e2, e3, e4, e5⟩ _ ⟨dx, Eq.trans upd_same (congrArg (fun l => some (HO.ins C dx l)) (fR_put wy st ho pi gu))⟩ fun b o ne e => ?_
    rw [upd_ne ne, upd_ne ne, upd_ne ne, upd_ne ne, upd_ne ne]
    exact e
end
end D3

namespace D3
open PySem PySem.Spec PyProof.Rows L2 Dr Gd Oe
theorem goodS_of {l : List Str} {x : V} (h : goodS l x = true) : ∃ y, x = .str y ∧ y ∈ l := by
  cases x with
  | str y => exact ⟨y, rfl, of_decide_eq_true h⟩
  | _ => exact nomatch h
theorem goodS_no {l : List Str} {x : V} (h : goodS l x = false) : ∀ y, x = .str y → y ∉ l := by
  rintro y rfl
  exact of_decide_eq_false h
section
variable {P : Program} {w : World} {K : PySem.W.Frag} {mg : Str → Option Value} {base : Heap} {C B wA pA : Addr}
theorem ok_RW {f fO fI fB : Addr} {fd fdO fdI fdB : FuncData} (F : Fun K "with_part" "Rule.with_part" sRW f fd) (T : TR K mg C wA pA) (TE : TB P w K mg base B fB fdB) (M : Mk K C fI) (GI : FnOk P w K mg base (L2.CX P w) 4 fI fdI ["self", "way", "still", "hold", "pins", "guard"] (spRI C B)) (bI : L2.Binds K fdI ["self", "way", "still", "hold", "pins", "guard"] [])
    (GO : FnOk P w K mg base CX0 1 fO fdO ["value", "texts"] (spOdd1 K)) (kO : PySem.W.keepIn K (.ref fO) = true) (bO : L2.Binds K fdO ["value", "texts"] []) (gO : mg "is_one_of" = some (.ref fO)) : FnOk P w K mg base (L2.CX P w) 6 f fd ["self", "part", "value"] (spRW C B) := by
  refine F.okX scRW (fun vs H Q E h => ?_) (fun cdv A outer s H vs Q E hr h => ?_)
  · obtain ⟨p, r, x, v, rfl, _⟩ := h
    rfl
  · obtain ⟨p, r, x, v, rfl, ⟨dx, hp⟩, okr, ox, ov, bad0, more⟩ := h
    have hu := hu_of hr
    have hr1 : Room 1 _ := hr.mono (by decide)
    have hr3 : Room 3 _ := hr.mono (by decide)
    have tk := takes_of (X := cxOf (L2.CX P w) P w K mg base ["self", "part", "value", "parts"] "Rule.with_part" (defScope sRW) f cdv A outer s H E) rfl rfl rfl rfl
    refine ⟨_, pss_cons (ps_if (pt_not (pt_val (pe_call GO hr1 (by rfl) gO kO bO .nil pass0 (pa_cons (pv 1) (pa_cons (pe_glob (v := .ref pA) (by rfl) T.gP rfl) pa_nil))))) (pss_one (raise_bad (y := .non) rfl tk TE.o TE.i TE.t TE.F TE.b hr3 (by rfl) TE.g pe_non (fun _ _ _ q => q) (fun _ => flat_non))) pss_nil)
      (pss_cons (ps_set (i := 3) scRW.nd rfl (Or.inl rfl) (pe_disp (pps_cons pe_str (pe_fld (pv 0) rfl) (pps_cons pe_str (pe_fld (pv 0) rfl) (pps_cons pe_str (pe_fld (pv 0) rfl) (pps_cons pe_str (pe_fld (pv 0) rfl) (pps_cons pe_str (pe_fld (pv 0) rfl) pps_nil))))) (by rfl) (by rfl) (fun z => by cases z) (by decide)))
      (pss_cons (ps_dput hu (pv 3) (pv 1) (pv 2) rfl)
      (pss_one (ps_ret (pe_make M GI hr (by rfl) T.gC bI .nil (passes_call tk fun _ _ _ _ q => q) (pa_cons (pe_dget hu (pv 3) pe_str (fun _ _ => rfl)) (pa_cons (pe_dget hu (pv 3) pe_str (fun _ _ => rfl)) (pa_cons (pe_dget hu (pv 3) pe_str (fun _ _ => rfl)) (pa_cons (pe_dget hu (pv 3) pe_str (fun _ _ => rfl)) (pa_cons (pe_dget hu (pv 3) pe_str (fun _ _ => rfl)) pa_nil)))))))))), ?_⟩
    refine ⟨_, rfl, _, pA, _, rfl, T.sP H, ox, _, rfl, if_not (fun c => ?_) (fun c => ?_)⟩
    · intro d nd
      exact bad0 (goodS_no c) d _ nd upd_same (same_upd nd)
    obtain ⟨y, rfl, hy⟩ := goodS_of c
    obtain ⟨q, rfl⟩ := Pn.of_in hy
    obtain ⟨bad1, good1⟩ := more q rfl
    intro t nt
    have pq : p ≠ t := ne_of_none hp nt
    have hp1 : (upd H t (.dK [])) p = some (.ins C dx (fR r)) := by rw [upd_ne pq]; exact hp
    refine ⟨_, rfl, p, C, dx, _, _, rfl, hp1, T.cl, T.n1, fR_way r, ?_⟩
    refine ⟨_, rfl, p, C, dx, _, _, rfl, hp1, T.cl, T.n2, fR_still r, ?_⟩
    refine ⟨_, rfl, p, C, dx, _, _, rfl, hp1, T.cl, T.n3, fR_hold r, ?_⟩
    refine ⟨_, rfl, p, C, dx, _, _, rfl, hp1, T.cl, T.n4, fR_pins r, ?_⟩
    refine ⟨_, rfl, p, C, dx, _, _, rfl, hp1, T.cl, T.n5, fR_guard r, ?_⟩
    refine ⟨upd_same, kM (W5.of r), rfl, (by show 5 ≤ 15; decide), ?_⟩
    rw [upd_upd, kM_merge]
    refine ⟨_, rfl, _, rfl, _, rfl, t, _, rfl, dp_of upd_same (kM_put (W5.of r) v q) (kM_len _), ?_⟩
    rw [upd_upd]
    generalize hm : (W5.of r).put v q = m at bad1 good1 ⊢
    have hq : (upd H t (.dK (kM m))) t = some (.dK (kM m)) := upd_same
    refine ⟨_, rfl, t, _, rfl, dg_of hq (kM_way m), _, rfl, t, _, rfl, dg_of hq (kM_still m), _, rfl, t, _, rfl, dg_of hq (kM_hold m), _, rfl, t, _, rfl, dg_of hq (kM_pins m), _, rfl, t, _, rfl, dg_of hq (kM_guard m), ?_⟩
    intro z dy nz ndy ne
    have s1 : Same H (upd H t (.dK (kM m))) := same_upd nt
    have s2 : Same H (upd (upd (upd H t (.dK (kM m))) dy (.own z)) z (.ins C dy [])) := fun b o e => by
      rw [upd_ne (ne_of_none (s1 b o e) nz), upd_ne (ne_of_none (s1 b o e) ndy)]
      exact s1 b o e
    have om : m.odd H := by
      rw [← hm]
      exact (W5.odd.of r).put ov q
    refine ⟨z, dy, m, rfl, om.same s2, upd_same, fun y hd d nd => ?_, fun r' e okr' H' hx fr => ⟨rfl, good1 r' e okr' z H' (s1.free nz) hx fun b o eb => ?_⟩⟩
    · exact bad1 y hd d _ (s2.free nd) upd_same fun b o eb => by
        rw [upd_ne (ne_of_none (s2 b o eb) nd)]
        exact s2 b o eb
    · have bx : b ≠ z := ne_of_none (s1 b o eb) nz
      exact fr b o bx (s2 b o eb)
end
end D3

namespace D3
open PySem PySem.Spec PyProof.Rows L2 Dr Gd Oe
abbrev sWay : Stmt := topS 19
abbrev sMk : Stmt := topS 20
abbrev sInt : Stmt := topS 21
abbrev sDue : Stmt := topS 22
abbrev sOdd : Stmt := topS 25
theorem scWay : FnScope ["draw", "peak"] ["draw", "peak"] (defScope sWay) := ⟨rfl, rfl, rfl, by decide +kernel, rfl, by decide +kernel, by decide +kernel⟩
theorem scMk : FnScope ["mode"] ["mode"] (defScope sMk) := ⟨rfl, rfl, rfl, by decide +kernel, rfl, by decide +kernel, by decide +kernel⟩
theorem scInt : FnScope ["item", "least", "most"] ["item", "least", "most"] (defScope sInt) := ⟨rfl, rfl, rfl, by decide +kernel, rfl, by decide +kernel, by decide +kernel⟩
theorem scDue : FnScope ["mode", "piece", "most"] ["mode"] (defScope sDue) := ⟨rfl, rfl, rfl, by decide +kernel, rfl, by decide +kernel, by decide +kernel⟩
theorem scOdd : FnScope ["draw", "odds"] ["draw"] (defScope sOdd) := ⟨rfl, rfl, rfl, by decide +kernel, rfl, by decide +kernel, by decide +kernel⟩
theorem Odd.fr2 {H H' : Hp} {x : V} {d g c : Addr} (h : Odd H x) (D : Dw H d g c) (k : Fr2 d g H H') : Odd H' x := by
  obtain ⟨⟨gs, cs, r, t, hd, hg, hc⟩, _⟩ := D
  exact h.keep fun a o ko e => k a o (ne_of e hd (ko.ne_kD _ _ _ _)) (ne_of e hg (ko.ne_ints _)) e
theorem W5.odd.fr2 {H H' : Hp} {m : W5} {d g c : Addr} (x : m.odd H) (D : Dw H d g c) (k : Fr2 d g H H') : m.odd H' := ⟨x.w.fr2 D k, x.s.fr2 D k, x.h.fr2 D k, x.p.fr2 D k, x.g.fr2 D k⟩
theorem RuleAt.fr2 {C d g c : Addr} {H H' : Hp} {p : Addr} {r : R5} (h : RuleAt C H p r) (D : Dw H d g c) (k : Fr2 d g H H') : RuleAt C H' p r := by
  obtain ⟨dx, h⟩ := h
  obtain ⟨⟨gs, cs, r, t, hd, hg, hc⟩, _⟩ := D
  exact ⟨dx, k _ _ (ne_of h hd (by intro z; cases z)) (ne_of h hg (by intro z; cases z)) h⟩
def spWay : Sp := fun vs H Q _ => ∃ (d g c : Addr), vs = [.ref d, .int 3] ∧ Dw H d g c ∧
  ∀ (p : Addr) (r : R5) (H' : Hp), r.ok → H p = none → H' p = some (.dK (kM (W5.of r))) → Dw H' d g c → Fr2 d g H H' → Q (.ref p) H'
def spMk (C B : Addr) : Sp := fun vs H Q E => ∃ (q : Addr) (m : W5), vs = [.ref q] ∧ H q = some (.dK (kM m)) ∧ m.odd H ∧
  (∀ y, m.due = some y → ∀ d H', H d = none → H' d = some (.xd [("part", .str y.nm)]) → Same H H' → E (.ref B) (some d) H') ∧ (∀ r, m = W5.of r → r.ok → ∀ x H', H x = none → RuleAt C H' x r → Same H H' → Q (.ref x) H')
def dueL (m : W5) : List V := match m.due with
  | none => []
  | some y => [.str y.nm]
def spDue : Sp := fun vs H Q _ => ∃ (q : Addr) (m : W5), vs = [.ref q] ∧ H q = some (.dK (kM m)) ∧ m.odd H ∧ ∀ l H', H l = none → H' l = some (.lst (dueL m)) → Same H H' → Q (.ref l) H'
def spOdd : Sp := fun vs H Q _ => ∃ (d g c : Addr), vs = [.ref d] ∧ Dw H d g c ∧ ∀ (x : V) (H' : Hp), Odd H' x → Dw H' d g c → Fr2 d g H H' → Q x H'
theorem way_item {i : Nat} {x : V} (h : [V.str "end", V.str "front", V.str "rank"][i]? = some x) : ∃ w, x = .str w ∧ w ∈ waysL := by
  match i, h with
  | 0, h => exact ⟨_, (Option.some.inj h).symm, by decide +kernel⟩
  | 1, h => exact ⟨_, (Option.some.inj h).symm, by decide +kernel⟩
  | 2, h => exact ⟨_, (Option.some.inj h).symm, by decide +kernel⟩
  | n + 3, h => simp at h
/-- a list of tuples -/
structure Tl (H : Hp) (l : Addr) (ts : List Addr) (xss : List (List V)) : Prop where
  l : H l = some (.lst (ts.map V.ref))
  t : ∀ (i : Nat) (t : Addr), ts[i]? = some t → ∃ xs, xss[i]? = some xs ∧ H t = some (.tup xs)
theorem Tl.same {H H' : Hp} {l : Addr} {ts : List Addr} {xss : List (List V)} (x : Tl H l ts xss) (k : Same H H') : Tl H' l ts xss :=
  ⟨k _ _ x.l, fun i t h => let ⟨xs, e, q⟩ := x.t i t h; ⟨xs, e, k _ _ q⟩⟩
theorem Tl.item {H : Hp} {l : Addr} {ts : List Addr} {xss : List (List V)} (x : Tl H l ts xss) {i : Nat} {y : V} (h : (ts.map V.ref)[i]? = some y) : ∃ t xs, y = .ref t ∧ xss[i]? = some xs ∧ H t = some (.tup xs) := by
  rw [List.getElem?_map] at h
  cases e : ts[i]? with
  | none => rw [e] at h; cases h
  | some t =>
    rw [e] at h
    obtain ⟨xs, q1, q2⟩ := x.t i t e
    exact ⟨t, xs, (Option.some.inj h).symm, q1, q2⟩
/-- the tuples of a list that is being written -/
def Tp (H : Hp) (ts : List Addr) (xss : List (List V)) : Prop := ts.length = xss.length ∧ ∀ (i : Nat) (t : Addr), ts[i]? = some t → ∃ xs, xss[i]? = some xs ∧ H t = some (.tup xs)
theorem Tp.nil (H : Hp) : Tp H [] [] := ⟨rfl, fun i t h => by simp at h⟩
theorem Tp.more {H : Hp} {ts : List Addr} {xss : List (List V)} {t : Addr} {xs : List V} (x : Tp H ts xss) (n : H t = none) : Tp (upd H t (.tup xs)) (ts ++ [t]) (xss ++ [xs]) := by
  refine ⟨by rw [List.length_append, List.length_append, x.1]; rfl, fun i u h => ?_⟩
  by_cases hi : i < ts.length
  · rw [List.getElem?_append_left hi] at h
    obtain ⟨ys, e, q⟩ := x.2 i u h
    refine ⟨ys, ?_, ?_⟩
    · rw [List.getElem?_append_left (by rw [← x.1]; exact hi)]
      exact e
    · rw [upd_ne (ne_of_none q n)]
      exact q
  · have hi' : i = ts.length := by
      have := (List.getElem?_eq_some_iff.mp h).1
      rw [List.length_append] at this
      simp at this
      omega
    subst hi'
    rw [List.getElem?_append_right (Nat.le_refl _), Nat.sub_self] at h
    have e : t = u := Option.some.inj h
    subst e
    refine ⟨xs, ?_, upd_same⟩
    rw [x.1, List.getElem?_append_right (Nat.le_refl _), Nat.sub_self]
    rfl
theorem Tp.list {H : Hp} {ts : List Addr} {xss : List (List V)} {l : Addr} (x : Tp H ts xss) (n : H l = none) : Tl (upd H l (.lst (ts.map V.ref))) l ts xss :=
  ⟨upd_same, fun i t h => let ⟨xs, e, q⟩ := x.2 i t h; ⟨xs, e, by rw [upd_ne (ne_of_none q n)]; exact q⟩⟩

theorem dueL_some {m : W5} {y : Pn} (h : m.due = some y) : dueL m = [.str y.nm] := by
  unfold dueL
  rw [h]
theorem dueL_none {m : W5} (h : m.due = none) : dueL m = [] := by
  unfold dueL
  rw [h]
theorem due_way {m : W5} (h : goodW m.w = false) : m.due = some .way := by simp [W5.due, h]
/-- the parts that are numbers, by their place in the loop -/
def nums : List (List V) := [[.str "still", .int 3], [.str "hold", .int 3], [.str "pins", .int 2], [.str "guard", .int 3]]
def Pn.mx : Pn → Int
  | .pins => 2 | _ => 3
def pnAt : List Pn := [.still, .hold, .pins, .guard]
theorem nums_item {i : Nat} {xs : List V} (h : nums[i]? = some xs) : ∃ p : Pn, xs = [.str p.nm, .int p.mx] ∧ pnAt[i]? = some p := by
  match i, h with
  | 0, h => exact ⟨.still, (Option.some.inj h).symm, rfl⟩
  | 1, h => exact ⟨.hold, (Option.some.inj h).symm, rfl⟩
  | 2, h => exact ⟨.pins, (Option.some.inj h).symm, rfl⟩
  | 3, h => exact ⟨.guard, (Option.some.inj h).symm, rfl⟩
  | n + 4, h => simp [nums] at h
/-- the first i parts are right -/
def rightTo (m : W5) (i : Nat) : Prop := ∀ j p, j < i → pnAt[j]? = some p → goodN p.mx (m.get p) = true
theorem due_at {m : W5} {i : Nat} {p : Pn} (hw : goodW m.w = true) (r : rightTo m i) (hp : pnAt[i]? = some p) (bad : goodN p.mx (m.get p) = false) : m.due = some p := by
  match i, hp with
  | 0, hp =>
    cases Option.some.inj hp
    have e0 : goodN 3 m.s = false := bad
    simp [W5.due, hw, e0]
  | 1, hp =>
    cases Option.some.inj hp
    have e0 : goodN 3 m.s = true := r 0 .still (by decide) rfl
    have e1 : goodN 3 m.h = false := bad
    simp [W5.due, hw, e0, e1]
  | 2, hp =>
    cases Option.some.inj hp
    have e0 : goodN 3 m.s = true := r 0 .still (by decide) rfl
    have e1 : goodN 3 m.h = true := r 1 .hold (by decide) rfl
    have e2 : goodN 2 m.p = false := bad
    simp [W5.due, hw, e0, e1, e2]
  | 3, hp =>
    cases Option.some.inj hp
    have e0 : goodN 3 m.s = true := r 0 .still (by decide) rfl
    have e1 : goodN 3 m.h = true := r 1 .hold (by decide) rfl
    have e2 : goodN 2 m.p = true := r 2 .pins (by decide) rfl
    have e3 : goodN 3 m.g = false := bad
    simp [W5.due, hw, e0, e1, e2, e3]
  | n + 4, hp => simp [pnAt] at hp
theorem due_end {m : W5} (hw : goodW m.w = true) (r : rightTo m 4) : m.due = none := by
  have e0 : goodN 3 m.s = true := r 0 .still (by decide) rfl
  have e1 : goodN 3 m.h = true := r 1 .hold (by decide) rfl
  have e2 : goodN 2 m.p = true := r 2 .pins (by decide) rfl
  have e3 : goodN 3 m.g = true := r 3 .guard (by decide) rfl
  simp [W5.due, hw, e0, e1, e2, e3]
section
variable {P : Program} {w : World} {K : PySem.W.Frag} {mg : Str → Option Value} {base : Heap} {C B wA pA : Addr}
theorem ok_way {f fT fP : Addr} {fd fdT fdP : FuncData} (F : Fun K "_law_way" "_law_way" sWay f fd) (GT : FnOk P w K mg base CX0 3 fT fdT ["draw", "size"] spTake) (kT : PySem.W.keepIn K (.ref fT) = true) (bT : L2.Binds K fdT ["draw", "size"] []) (gT : mg "_law_take" = some (.ref fT))
    (GP : FnOk P w K mg base CX0 4 fP fdP ["draw", "some"] spPick) (kP : PySem.W.keepIn K (.ref fP) = true) (bP : L2.Binds K fdP ["draw", "some"] []) (gP : mg "_law_pick" = some (.ref fP)) : FnOk P w K mg base CX0 5 f fd ["draw", "peak"] spWay := by
  refine F.ok scWay (fun vs H Q E h => ?_) (fun cdv A outer s H vs Q E hr h => ?_)
  · obtain ⟨d, g, c, rfl, _⟩ := h
    rfl
  · obtain ⟨d, g, c, rfl, D, k⟩ := h
    have hr3 : Room 3 _ := hr.mono (by decide)
    refine ⟨_, pss_one (ps_ret (pe_disp (pps_cons pe_str (pe_call GP hr (by rfl) gP kP bP .nil pass0 (pa_cons (pv 0) (pa_cons (pe_lst (pa_cons pe_str (pa_cons pe_str (pa_cons pe_str pa_nil)))) pa_nil)))
      (pps_cons pe_str (pe_call GT hr3 (by rfl) gT kT bT .nil pass0 (pa_cons (pv 0) (pa_cons (pe_op op_add (pv 1) pe_int) pa_nil)))
      (pps_cons pe_str (pe_call GT hr3 (by rfl) gT kT bT .nil pass0 (pa_cons (pv 0) (pa_cons (pe_op op_add (pv 1) pe_int) pa_nil)))
      (pps_cons pe_str (pe_call GT hr3 (by rfl) gT kT bT .nil pass0 (pa_cons (pv 0) (pa_cons pe_int pa_nil)))
      (pps_cons pe_str (pe_call GT hr3 (by rfl) gT kT bT .nil pass0 (pa_cons (pv 0) (pa_cons (pe_op op_add (pv 1) pe_int) pa_nil))) pps_nil))))) (by rfl) (by rfl) (fun z => by cases z) (by decide))), ?_⟩
    intro p np
    have D0 : Dw (upd H p (.dK [])) d g c := D.new np
    refine ⟨_, rfl, (by show 3 ≤ sizeLine; decide), fun l nl => ?_⟩
    have D1 : Dw (upd (upd H p (.dK [])) l (.lst [V.str "end", V.str "front", V.str "rank"])) d g c := D0.new nl
    have hp1 : (upd (upd H p (.dK [])) l (.lst [V.str "end", V.str "front", V.str "rank"])) p = some (.dK []) := by rw [upd_ne (ne_of_none upd_same nl)]; exact upd_same
    have fr1 : Fr2 d g H (upd (upd H p (.dK [])) l (.lst [V.str "end", V.str "front", V.str "rank"])) := ((Fr2.refl H).new np).new nl
    have pd : p ≠ d := fun e => by
      obtain ⟨⟨gs, cs, r, t, hd, hg, hc⟩, _⟩ := id D
      rw [e, hd] at np; cases np
    have pg : p ≠ g := fun e => by
      obtain ⟨⟨gs, cs, r, t, hd, hg, hc⟩, _⟩ := id D
      rw [e, hg] at np; cases np
    have lg : l ≠ g := fun e => by
      obtain ⟨⟨gs, cs, r, t, hd, hg, hc⟩, _⟩ := id D0
      rw [e, hg] at nl; cases nl
    refine ⟨d, g, c, l, _, rfl, D1, upd_same, lg, (fun z => by cases z), (by show 3 < 1000; decide), fun i x H2 hx D2 fr2 => ?_⟩
    obtain ⟨wy, rfl, hw⟩ := way_item hx
    have hp2 := fr2 _ _ pd pg hp1
    have fr02 := fr1.trans fr2
    refine ⟨_, rfl, _, rfl, _, _, rfl, rfl, d, g, c, _, rfl, D2, by decide, by decide, fun st H3 s0 s1 D3 fr3 => ?_⟩
    have hp3 := fr3 _ _ pd pg hp2
    have fr03 := fr02.trans fr3
    refine ⟨_, rfl, _, rfl, _, _, rfl, rfl, d, g, c, _, rfl, D3, by decide, by decide, fun ho H4 h0 h1 D4 fr4 => ?_⟩
    have hp4 := fr4 _ _ pd pg hp3
    have fr04 := fr03.trans fr4
    refine ⟨_, rfl, d, g, c, _, rfl, D4, by decide, by decide, fun pi H5 p0 p1 D5 fr5 => ?_⟩
    have hp5 := fr5 _ _ pd pg hp4
    have fr05 := fr04.trans fr5
    refine ⟨_, rfl, _, rfl, _, _, rfl, rfl, d, g, c, _, rfl, D5, by decide, by decide, fun gu H6 g0 g1 D6 fr6 => ?_⟩
    have hp6 := fr6 _ _ pd pg hp5
    have fr06 := fr05.trans fr6
    refine ⟨hp6, kM (W5.of ⟨wy, st, ho, pi, gu⟩), rfl, (by show 5 ≤ 15; decide), ?_⟩
    rw [kM_merge]
    refine k p ⟨wy, st, ho, pi, gu⟩ _ ⟨hw, ⟨s0, by show st ≤ 3; omega⟩, ⟨h0, by show ho ≤ 3; omega⟩, ⟨p0, by show pi ≤ 2; omega⟩, ⟨g0, by show gu ≤ 3; omega⟩⟩ np upd_same (D6.keep fun b o hb e => ?_) fun b o bd bg e => ?_
    · have bp : b ≠ p := by
        rintro rfl
        rcases hb with z | z | z
        · exact pd z
        · exact pg z
        · obtain ⟨⟨gs, cs, r, t, hd, hg, hc⟩, _⟩ := id D
          rw [z, hc] at np; cases np
      rw [upd_ne bp]
      exact e
    · rw [upd_ne (ne_of_none e np)]
      exact fr06 b o bd bg e
theorem ok_mk {f fI : Addr} {fd fdI : FuncData} (F : Fun K "_law_rule" "_law_rule" sMk f fd) (T : TR K mg C wA pA) (M : Mk K C fI) (GI : FnOk P w K mg base (L2.CX P w) 4 fI fdI ["self", "way", "still", "hold", "pins", "guard"] (spRI C B)) (bI : L2.Binds K fdI ["self", "way", "still", "hold", "pins", "guard"] []) :
    FnOk P w K mg base (L2.CX P w) 6 f fd ["mode"] (spMk C B) := by
  refine F.okX scMk (fun vs H Q E h => ?_) (fun cdv A outer s H vs Q E hr h => ?_)
  · obtain ⟨q, m, rfl, _⟩ := h
    rfl
  · obtain ⟨q, m, rfl, hq, om, bad, k⟩ := h
    have hu := hu_of hr
    have tk := takes_of (X := cxOf (L2.CX P w) P w K mg base ["mode"] "_law_rule" (defScope sMk) f cdv A outer s H E) rfl rfl rfl rfl
    refine ⟨_, pss_one (ps_ret (pe_make M GI hr (by rfl) T.gC bI .nil (passes_call tk fun _ _ _ _ q => q) (pa_cons (pe_dget hu (pv 0) pe_str (fun _ _ => rfl)) (pa_cons (pe_dget hu (pv 0) pe_str (fun _ _ => rfl)) (pa_cons (pe_dget hu (pv 0) pe_str (fun _ _ => rfl)) (pa_cons (pe_dget hu (pv 0) pe_str (fun _ _ => rfl)) (pa_cons (pe_dget hu (pv 0) pe_str (fun _ _ => rfl)) pa_nil))))))), ?_⟩
    refine ⟨_, rfl, q, _, rfl, dg_of hq (kM_way m), _, rfl, q, _, rfl, dg_of hq (kM_still m), _, rfl, q, _, rfl, dg_of hq (kM_hold m), _, rfl, q, _, rfl, dg_of hq (kM_pins m), _, rfl, q, _, rfl, dg_of hq (kM_guard m), ?_⟩
    intro x dy nx ndy ne
    have s2 : Same H (upd (upd H dy (.own x)) x (.ins C dy [])) := fun b o e => by
      rw [upd_ne (ne_of_none e nx), upd_ne (ne_of_none e ndy)]
      exact e
    refine ⟨x, dy, m, rfl, om.same s2, upd_same, fun y hd d nd => bad y hd d _ (s2.free nd) upd_same fun b o e => ?_, fun r e ok H' hx fr => ⟨rfl, k r e ok x H' nx hx fun b o e => fr b o (ne_of_none e nx) (s2 b o e)⟩⟩
    rw [upd_ne (ne_of_none (s2 b o e) nd)]
    exact s2 b o e
theorem ok_int {f : Addr} {fd : FuncData} (F : Fun K "_law_is_int" "_law_is_int" sInt f fd) (mI : mg "isinstance" = none) (mi : mg "int" = none) (mb : mg "bool" = none) : FnOk P w K mg base CX0 1 f fd ["item", "least", "most"] spOddN := by
  refine FnOk.imp (sp := spNum K) ?_ fun vs H Q E ⟨x, k, e, h2, q⟩ => by subst e; exact num_ask h2 q
  refine F.ok scInt (fun vs H Q E h => ?_) (fun cdv A outer s H vs Q E hr h => ?_)
  · obtain ⟨x, l, m, rfl, _⟩ := h
    rfl
  · obtain ⟨x, l, m, rfl, h⟩ := h
    refine ⟨_, pss_one (ps_ret (pe_and (pe_callB call_isi (by rfl) mI boot_isinstance (pa_cons (pv 0) (pa_cons (pe_bltn (v := .ty "int") (by rfl) mi boot_int rfl) pa_nil)))
      (pe_and (pe_not (pe_callB call_isi (by rfl) mI boot_isinstance (pa_cons (pv 0) (pa_cons (pe_bltn (v := .ty "bool") (by rfl) mb boot_bool rfl) pa_nil))))
        (pe_one (pe_chain op_le op_le (pv 1) (pv 0) (pv 2)))))), ?_⟩
    rcases h with ⟨i, rfl, q⟩ | ⟨c, rfl, q⟩ | ⟨t, ty, kt, q⟩
    · refine ⟨_, rfl, _, _, _, _, true, rfl, .ty "int", .base (.int i), kit_ty (by decide +kernel), true, rfl, iteT ?_⟩
      refine ⟨_, rfl, _, _, _, _, false, rfl, .ty "bool", .base (.int i), kit_ty (by decide +kernel), false, rfl, true, rfl, iteT ?_⟩
      refine ⟨_, rfl, _, rfl, _, _, rfl, rfl, _, rfl, ite2 (fun e => ⟨_, rfl, _, _, rfl, rfl, q _ ?_⟩) (fun e => q _ ?_)⟩
      · rw [e]; rfl
      · have e' : decide (l ≤ i) = false := by cases h : decide (l ≤ i) with
          | true => exact absurd h e
          | false => rfl
        rw [e']; rfl
    · refine ⟨_, rfl, _, _, _, _, true, rfl, .ty "int", .base (.bl c), kit_ty (by decide +kernel), true, rfl, iteT ?_⟩
      exact ⟨_, rfl, _, _, _, _, true, rfl, .ty "bool", .base (.bl c), kit_ty (by decide +kernel), true, rfl, false, rfl, iteF q⟩
    · exact ⟨_, rfl, _, _, _, _, false, rfl, .ty "int", ty, kt, false, rfl, iteF q⟩
theorem ok_due {f fN : Addr} {fd fdN : FuncData} (F : Fun K "_law_rule_due" "_law_rule_due" sDue f fd) (GN : FnOk P w K mg base CX0 1 fN fdN ["item", "least", "most"] spOddN) (kN : PySem.W.keepIn K (.ref fN) = true) (bN : L2.Binds K fdN ["item", "least", "most"] []) (gN : mg "_law_is_int" = some (.ref fN)) (mI : mg "isinstance" = none) (ms : mg "str" = none) :
    FnOk P w K mg base CX0 2 f fd ["mode"] spDue := by
  refine F.ok scDue (fun vs H Q E h => ?_) (fun cdv A outer s H vs Q E hr h => ?_)
  · obtain ⟨q, m, rfl, _⟩ := h
    rfl
  · obtain ⟨q, m, rfl, hq, om, k⟩ := h
    have hu := hu_of hr
    have nd := scDue.nd
    refine ⟨_, pss_cons (ps_if (PW.pt (pw_or (pt_not (pt_val (pe_callB call_isi (by rfl) mI boot_isinstance (pa_cons (pe_dget hu (pv 0) pe_str (fun _ _ => rfl)) (pa_cons (pe_bltn (v := .ty "str") (by rfl) ms boot_str rfl) pa_nil)))))
        (pw_or1 (pt_cmpR op_notIn_seq (pe_dget hu (pv 0) pe_str (fun _ _ => rfl)) (pe_lst (pa_cons pe_str (pa_cons pe_str (pa_cons pe_str pa_nil)))) (by rfl))))) (pss_one (ps_ret (pe_lst (pa_cons pe_str pa_nil)))) pss_nil)
      (C8.pss_cut (ps_for PassesOwn.never rfl (pi_list (pe_lst (pa_cons (pe_tup (pa_cons pe_str (pa_cons pe_int pa_nil))) (pa_cons (pe_tup (pa_cons pe_str (pa_cons pe_int pa_nil))) (pa_cons (pe_tup (pa_cons pe_str (pa_cons pe_int pa_nil))) (pa_cons (pe_tup (pa_cons pe_str (pa_cons pe_int pa_nil))) pa_nil))))))
          (pg_tup rfl (pgs_cons (pg_name (i := 1) nd rfl (.inl rfl)) (pgs_cons (pg_name (i := 2) nd rfl (.inl rfl)) pgs_nil)))
        (pss_one (ps_if (pt_not (pt_val (pe_call GN hr (by rfl) gN kN bN .nil pass0 (pa_cons (pe_dget hu (pv 0) (pv 1) (fun _ _ => rfl)) (pa_cons pe_int (pa_cons (pv 2) pa_nil)))))) (pss_one (ps_ret (pe_lst (pa_cons (pv 1) pa_nil)))) pss_nil)))
      (pss_one (ps_ret (pe_lst pa_nil)))), ?_⟩
    rcases om.w.str? (K := K) with ⟨y, hw⟩ | no
    · refine ⟨_, rfl, q, _, rfl, dg_of hq ((kM_way m).trans (congrArg some hw)), _, _, _, _, true, rfl, .ty "str", .base (.str y), kit_ty (by decide +kernel), true, rfl, iteF ?_⟩
      refine ⟨_, rfl, q, _, rfl, dg_of hq ((kM_way m).trans (congrArg some hw)), (by show 3 ≤ sizeLine; decide), fun l nl => ⟨l, waysL.map V.str, rfl, .inl (SqL.of upd_same), rfl, flat_strs _, _, rfl, ?_⟩⟩
      refine ite2 (fun e => ?_) (fun ne => ?_)
      · rw [if_pos rfl, in_list] at e
        have hy : y ∉ waysL := fun z => by
          rw [decide_eq_true z] at e
          cases e
        have hd : m.due = some .way := due_way (by rw [hw]; exact decide_eq_false hy)
        exact ⟨(by show 1 ≤ sizeLine; decide), fun l2 nl2 => k l2 _ ((same_upd nl).free nl2) (by rw [dueL_some hd]; exact upd_same) ((same_upd nl).trans (same_upd nl2))⟩
      rw [if_pos rfl, in_list] at ne
      have hy : y ∈ waysL := by
        by_cases z : y ∈ waysL
        · exact z
        · rw [decide_eq_false z] at ne
          exact (ne rfl).elim
      have gw : goodW m.w = true := by rw [hw]; exact decide_eq_true hy
      have s1 : Same H (upd H l (.lst [V.str "end", V.str "front", V.str "rank"])) := same_upd nl
      revert s1
      show Same H (upd H l (.lst [V.str "end", V.str "front", V.str "rank"])) → _
      generalize (upd H l (.lst [V.str "end", V.str "front", V.str "rank"])) = H1
      intro s1
      refine ⟨fun σ H' => rightTo m 4 ∧ Same H H', ?_, ?_⟩
      · refine ⟨(by show 2 ≤ sizeLine; decide), fun t1 n1 => ⟨(by show 2 ≤ sizeLine; decide), fun t2 n2 => ⟨(by show 2 ≤ sizeLine; decide), fun t3 n3 => ⟨(by show 2 ≤ sizeLine; decide), fun t4 n4 => ⟨(by show 4 ≤ sizeLine; decide), fun x nx => ?_⟩⟩⟩⟩⟩
        have tl := (((((Tp.nil H1).more n1).more n2).more n3).more n4).list nx
        have sm := s1.trans (((((same_upd n1).trans (same_upd n2)).trans (same_upd n3)).trans (same_upd n4)).trans (same_upd (o := .lst ([t1, t2, t3, t4].map V.ref)) nx))
        have tl : Tl _ x [t1, t2, t3, t4] nums := tl
        refine ⟨x, rfl, ⟨_, SqL.of tl.l⟩, for_list (K := K) (a := x) (xs := [t1, t2, t3, t4].map V.ref) (fun i σ H' => ∃ (v1 v2 : Option V), σ = [some (.ref q), v1, v2] ∧ rightTo m i ∧ Same H H' ∧ Tl H' x [t1, t2, t3, t4] nums)
          ⟨_, _, rfl, fun j p hj => absurd hj (Nat.not_lt_zero _), sm, tl⟩ (fun i σ H' _ ⟨_, _, _, _, _, tl⟩ => SqL.of tl.l) ?_ (fun σ H' ⟨_, _, _, r4, sm, _⟩ => ⟨r4, sm⟩)⟩
        clear tl sm nx n4 n3 n2 n1
        rintro i y2 σ H4 hi ⟨v1, v2, rfl, ri, s4, tl⟩
        obtain ⟨u, xs, rfl, hx, hu4⟩ := tl.item hi
        obtain ⟨p, rfl, hp⟩ := nums_item hx
        refine ⟨u, _, rfl, SqT.of hu4, rfl, _, _, rfl, _, _, rfl, rfl, ?_⟩
        refine ⟨_, rfl, _, rfl, q, _, rfl, dg_of (s4 _ _ hq) (kM_get m p), _, rfl, _, _, rfl, (om.same s4).get p, _, rfl, if_not (fun bad => ?_) (fun good => ?_)⟩
        · exact ⟨_, rfl, (by show 1 ≤ sizeLine; decide), fun l2 nl2 => k l2 _ (s4.free nl2) (by rw [dueL_some (due_at gw ri hp bad)]; exact upd_same) (s4.trans (same_upd nl2))⟩
        · refine ⟨_, _, rfl, fun j p' hj hp' => ?_, s4, tl⟩
          by_cases e : j < i
          · exact ri j p' e hp'
          · obtain rfl : j = i := by omega
            rw [hp] at hp'
            cases hp'
            exact good
      rintro σ H2 ⟨r4, s2⟩
      exact ⟨(by show 0 ≤ sizeLine; decide), fun l2 nl2 => k l2 _ (s2.free nl2) (by rw [dueL_none (due_end gw r4)]; exact upd_same) (s2.trans (same_upd nl2))⟩
    · obtain ⟨ty, t1, t2⟩ := id no
      refine ⟨_, rfl, q, _, rfl, dg_of hq (kM_way m), _, _, _, _, false, rfl, .ty "str", t1, t2, false, rfl, iteT ?_⟩
      have gw : goodW m.w = false := by
        cases e : m.w with
        | str y => exact (noStr_ne no e).elim
        | _ => rfl
      exact ⟨(by show 1 ≤ sizeLine; decide), fun l2 nl2 => k l2 _ nl2 (by rw [dueL_some (due_way gw)]; exact upd_same) (same_upd nl2)⟩
end
end D3

namespace D3
open PySem PySem.Spec PyProof.Rows L2 Dr Gd Oe
abbrev sShown : Stmt := topS 23
abbrev sDShown : Stmt := topS 24
theorem scShown : FnScope ["told"] ["told"] (defScope sShown) := ⟨rfl, rfl, rfl, by decide +kernel, rfl, by decide +kernel, by decide +kernel⟩
theorem scDShown : FnScope ["way"] ["way"] (defScope sDShown) := ⟨rfl, rfl, rfl, by decide +kernel, rfl, by decide +kernel, by decide +kernel⟩
def odds (a b e : Addr) : List V := [V.str "end", V.str "front", V.str "rank", V.str "End", V.str "", V.non, V.int 0, V.int 1, V.int 2, V.int 3, V.int 4, V.int (-1), V.bl true, V.bl false, V.str "2", V.ref a, V.ref b, V.ref e]
/-! ### what a rule shows -/
def dR (r : R5) : PyData := .list [.str r.way, .int r.still, .int r.hold, .int r.pins, .int r.guard]
theorem shown_all : ∀ w ∈ waysL, ∀ a ∈ ([0, 1, 2, 3] : List Int), ∀ b ∈ ([0, 1, 2, 3] : List Int), ∀ c ∈ ([0, 1, 2] : List Int), ∀ g ∈ ([0, 1, 2, 3] : List Int),
    (PyData.list [.str w, .int a, .int b, .int c, .int g]).shown.length ≤ 1000 ∧ (PyData.list [.str w, .int a, .int b, .int c, .int g]).showable = true := by decide +kernel
theorem mem03 {a : Int} (h : 0 ≤ a ∧ a ≤ 3) : a ∈ ([0, 1, 2, 3] : List Int) := by
  have : a = 0 ∨ a = 1 ∨ a = 2 ∨ a = 3 := by omega
  rcases this with rfl | rfl | rfl | rfl <;> simp
theorem mem02 {a : Int} (h : 0 ≤ a ∧ a ≤ 2) : a ∈ ([0, 1, 2] : List Int) := by
  have : a = 0 ∨ a = 1 ∨ a = 2 := by omega
  rcases this with rfl | rfl | rfl <;> simp
theorem dR_small {r : R5} (ok : r.ok) : (dR r).shown.length ≤ sizeLine ∧ (dR r).showable = true := by
  have q := shown_all _ ok.w _ (mem03 ok.s) _ (mem03 ok.h) _ (mem02 ok.p) _ (mem03 ok.g)
  exact ⟨Nat.le_of_lt (small1000 q.1), q.2⟩
/-- the text that a rule shows -/
def shownR (r : R5) : Str := (dR r).shown
def spShown (C : Addr) : Sp := fun vs H Q _ => ∃ (x : Addr) (r : R5), vs = [.ref x] ∧ RuleAt C H x r ∧ r.ok ∧ ∀ H', Same H H' → Q (.str (shownR r)) H'
def spDShown : Sp := fun vs H Q _ => ∃ (q : Addr) (r : R5), vs = [.ref q] ∧ H q = some (.dK (kM (W5.of r))) ∧ r.ok ∧ ∀ H', Same H H' → Q (.str (shownR r)) H'
/-- a property of the class at C: its getter gives the attribute -/
structure Pr (P : Program) (w : World) (K : PySem.W.Frag) (mg : Str → Option Value) (base : Heap) (C : Addr) (name fld : Str) : Prop where
  ex : ∃ (p g : Addr) (fd : FuncData), PropOf K C name p g ∧ FnOk P w K mg base CX0 1 g fd ["self"] (getSp C fld) ∧ L2.Binds K fd ["self"] []
theorem pe_pr {X : Cx} {C : Addr} {name fld : Str} {e : Expr} {ta : TE} {pos : Pos} (p : Pr X.prog X.w X.K X.mg X.base C name fld) (he : PE X e ta) (c : Cls X.K C) (hr : Room 2 X.A) (hab : attributeBase e name X.env (eval e X.env) = eval e X.env) :
    PE X (.Attribute e name pos) (tProp C (getSp C fld) [] E0 ta) := by
  obtain ⟨p, g, fd, hp, F, hb⟩ := p.ex
  exact pe_prop he c hp F hr hb .nil pass0 hab
theorem ok_get {P : Program} {w : World} {K : PySem.W.Frag} {mg : Str → Option Value} {base : Heap} {C f : Addr} {fd : FuncData} {x qual fld : Str} {st : Stmt} {p1 p2 p3 : Pos} (F : Fun K x qual st f fd) (S : FnScope ["self"] ["self"] (defScope st))
    (hb : defBody st = [.Return (some (.Attribute (.Name "self" p1) fld p2)) p3]) (c : Cls K C) (n : NoAttr K C fld) : FnOk P w K mg base CX0 1 f fd ["self"] (getSp C fld) := by
  obtain ⟨oc, od, kV, doc, pm, an, cdv, ct, osl, rfl, look, code⟩ := F.ex
  exact fn_getter look code S rfl hb c n
section
variable {P : Program} {w : World} {K : PySem.W.Frag} {mg : Str → Option Value} {base : Heap} {C B wA pA : Addr}
theorem ok_shown {f : Addr} {fd : FuncData} (F : Fun K "_law_shown_of" "_law_shown_of" sShown f fd) (T : TR K mg C wA pA) (mr : mg "repr" = none)
    (p1 : Pr P w K mg base C "way" "_way") (p2 : Pr P w K mg base C "still" "_still") (p3 : Pr P w K mg base C "hold" "_hold") (p4 : Pr P w K mg base C "pins" "_pins") (p5 : Pr P w K mg base C "guard" "_guard") :
    FnG P w K mg base 3 f fd ["told"] (spShown C) := by
  refine okG F scShown (fun vs H Q E h => ?_) (fun cdv A outer s H vs Q E gd hr h => ?_)
  · obtain ⟨x, r, rfl, _⟩ := h
    rfl
  · obtain ⟨x, r, rfl, ⟨dx, hx⟩, ok, k⟩ := h
    have hu := hr.units
    refine ⟨_, pss_one (ps_ret (pe_callB (call_repr gd (by have := hr.un; show (A.deeper _).units + 66 < cLine; omega)) (by rfl) mr boot_repr (pa_cons (pe_lst (pa_cons (pe_pr p1 (pv 0) T.cl hr rfl) (pa_cons (pe_pr p2 (pv 0) T.cl hr rfl) (pa_cons (pe_pr p3 (pv 0) T.cl hr rfl) (pa_cons (pe_pr p4 (pv 0) T.cl hr rfl) (pa_cons (pe_pr p5 (pv 0) T.cl hr rfl) pa_nil)))))) pa_nil))), ?_⟩
    refine ⟨_, rfl, x, dx, _, rfl, hx, x, dx, _, _, rfl, hx, fR_way _, _, rfl, x, dx, _, rfl, hx, x, dx, _, _, rfl, hx, fR_still _, _, rfl, x, dx, _, rfl, hx, x, dx, _, _, rfl, hx, fR_hold _, _, rfl, x, dx, _, rfl, hx, x, dx, _, _, rfl, hx, fR_pins _, _, rfl, x, dx, _, rfl, hx, x, dx, _, _, rfl, hx, fR_guard _, (by show 5 ≤ sizeLine; decide), fun l nl => ?_⟩
    obtain ⟨z1, z2⟩ := dR_small ok
    refine ⟨_, dR r, rfl, .lst (SqL.of upd_same) (.cons (.str _) (.cons (.int _) (.cons (.int _) (.cons (.int _) (.cons (.int _) .nil))))), z2, by simp [dR, PyData.hasDict, PyData.hasDictAll], by simp [dR, PyData.depth, PyData.depthAll], z1, k _ (same_upd nl)⟩
theorem ok_dshown {f : Addr} {fd : FuncData} (F : Fun K "_law_due_shown" "_law_due_shown" sDShown f fd) (mr : mg "repr" = none) : FnG P w K mg base 2 f fd ["way"] spDShown := by
  refine okG F scDShown (fun vs H Q E h => ?_) (fun cdv A outer s H vs Q E gd hr h => ?_)
  · obtain ⟨x, r, rfl, _⟩ := h
    rfl
  · obtain ⟨q, r, rfl, hq, ok, k⟩ := h
    have hu := hu_of hr
    refine ⟨_, pss_one (ps_ret (pe_callB (call_repr gd (by have := hr.un; show (A.deeper _).units + 66 < cLine; omega)) (by rfl) mr boot_repr (pa_cons (pe_lst (pa_cons (pe_dget hu (pv 0) pe_str (fun _ _ => rfl)) (pa_cons (pe_dget hu (pv 0) pe_str (fun _ _ => rfl)) (pa_cons (pe_dget hu (pv 0) pe_str (fun _ _ => rfl)) (pa_cons (pe_dget hu (pv 0) pe_str (fun _ _ => rfl)) (pa_cons (pe_dget hu (pv 0) pe_str (fun _ _ => rfl)) pa_nil)))))) pa_nil))), ?_⟩
    refine ⟨_, rfl, q, _, rfl, dg_of hq (kM_way _), _, rfl, q, _, rfl, dg_of hq (kM_still _), _, rfl, q, _, rfl, dg_of hq (kM_hold _), _, rfl, q, _, rfl, dg_of hq (kM_pins _), _, rfl, q, _, rfl, dg_of hq (kM_guard _), (by show 5 ≤ sizeLine; decide), fun l nl => ?_⟩
    obtain ⟨z1, z2⟩ := dR_small ok
    refine ⟨_, dR r, rfl, .lst (SqL.of upd_same) (.cons (.str _) (.cons (.int _) (.cons (.int _) (.cons (.int _) (.cons (.int _) .nil))))), z2, by simp [dR, PyData.hasDict, PyData.hasDictAll], by simp [dR, PyData.depth, PyData.depthAll], z1, k _ (same_upd nl)⟩
theorem ok_odd {f fP : Addr} {fd fdP : FuncData} (F : Fun K "_law_odd" "_law_odd" sOdd f fd) (GP : FnOk P w K mg base CX0 4 fP fdP ["draw", "some"] spPick) (kP : PySem.W.keepIn K (.ref fP) = true) (bP : L2.Binds K fdP ["draw", "some"] []) (gP : mg "_law_pick" = some (.ref fP)) :
    FnOk P w K mg base CX0 5 f fd ["draw"] spOdd := by
  refine F.ok scOdd (fun vs H Q E h => ?_) (fun cdv A outer s H vs Q E hr h => ?_)
  · obtain ⟨d, g, c, rfl, _⟩ := h
    rfl
  · obtain ⟨d, g, c, rfl, D, k⟩ := h
    have hu := hu_of hr
    have nd := scOdd.nd
    refine ⟨_, pss_cons (ps_set (i := 1) nd rfl (Or.inl rfl) (pe_lst (pa_cons pe_str (pa_cons pe_str (pa_cons pe_str (pa_cons pe_str (pa_cons pe_str (pa_cons pe_non (pa_cons pe_int (pa_cons pe_int (pa_cons pe_int (pa_cons pe_int (pa_cons pe_int (pa_cons (pe_un un_neg pe_int) (pa_cons pe_bl (pa_cons pe_bl (pa_cons pe_str (pa_cons (pe_tup (pa_cons pe_int pa_nil)) (pa_cons (pe_lst (pa_cons pe_str pa_nil)) (pa_cons (pe_dnewK) pa_nil))))))))))))))))))))
      (pss_one (ps_ret (pe_call GP hr (by rfl) gP kP bP .nil pass0 (pa_cons (pv 0) (pa_cons (pv 1) pa_nil))))), ?_⟩
    refine ⟨1, rfl, (by show 1 ≤ sizeLine; decide), fun a na => ⟨(by show 1 ≤ sizeLine; decide), fun b nb => fun e ne => ⟨(by show 18 ≤ sizeLine; decide), fun l nl => ?_⟩⟩⟩
    have q1 : (upd (upd (upd H a (.tup [V.int 1])) b (.lst [V.str "end"])) e (.dK [])) a = some (.tup [V.int 1]) := same_upd ne _ _ (same_upd nb _ _ upd_same)
    have q2 : (upd (upd (upd H a (.tup [V.int 1])) b (.lst [V.str "end"])) e (.dK [])) b = some (.lst [V.str "end"]) := same_upd ne _ _ upd_same
    have q3 : (upd (upd (upd H a (.tup [V.int 1])) b (.lst [V.str "end"])) e (.dK [])) e = some (.dK []) := upd_same
    have D1 : Dw (upd (upd (upd H a (.tup [V.int 1])) b (.lst [V.str "end"])) e (.dK [])) d g c := ((D.new na).new nb).new ne
    have f1 : Fr2 d g H (upd (upd (upd H a (.tup [V.int 1])) b (.lst [V.str "end"])) e (.dK [])) := (((Fr2.refl H).new na).new nb).new ne
    revert q1 q2 q3 D1 f1 nl
    generalize upd (upd (upd H a (.tup [V.int 1])) b (.lst [V.str "end"])) e (.dK []) = H1
    intro nl q1 q2 q3 D1 f1
    have lg : l ≠ g := fun e => by
      obtain ⟨⟨gs, cs, r, t, hd, hg, hc⟩, _⟩ := id D1
      rw [e, hg] at nl; cases nl
    have all : ∀ x ∈ odds a b e, Odd H1 x := by
      unfold odds
      simp only [List.forall_mem_cons]
      exact ⟨.str _, .str _, .str _, .str _, .str _, .non, .int _, .int _, .int _, .int _, .int _, .int _, .bl _, .bl _, .str _, .ref q1 .one, .ref q2 .lst, .ref q3 .dic, fun _ z => nomatch z⟩
    refine ⟨_, rfl, _, rfl, d, g, c, l, odds a b e, rfl, D1.new nl, upd_same, lg, (fun z => by cases z), (by show 18 < 1000; decide), fun i x H2 hx D2 fr2 => ?_⟩
    have D1' : Dw (upd H1 l (.lst (odds a b e))) d g c := D1.new nl
    exact k x H2 (((all x (List.mem_of_getElem? hx)).same (same_upd nl)).fr2 D1' fr2) D2 ((f1.new (o := .lst (odds a b e)) nl).trans fr2)
end
end D3

namespace D3
open PySem PySem.Spec PyProof.Rows L2 Dr Gd Oe
/-- o.m(k = v, ..) -/
def tMethK (C : Addr) (m : Str) (n : Nat) (sp : Sp) (gV : List V → List V → List V) (E : XK) (ta : TE) (tk : TA) : TE := fun σ H Q => ta σ H fun x H1 => ∃ a dx fs, x = .ref a ∧ H1 a = some (.ins C dx fs) ∧ fs.lookup m = none ∧
  tk σ H1 fun zs H2 => zs.length = n ∧ sp (gV [x] zs) H2 Q E
section
variable {X : Cx} {CX : CXT} {k : Nat} {f C : Addr} {fd : FuncData} {ps ks : List Str} {sp : Sp} {E : XK} {m : Str} {pos apos : Pos} {o : Expr} {kws : List Keyword} {ta : TE} {tk : TA} {g : List Value → List Value → List Value} {gV : List V → List V → List V}
theorem pe_methK0 {pl : Sem Bool} (he : PE X o ta) (c : Cls X.K C) (hm : Meth X.K C m f) (F : FnOk X.prog X.w X.K X.mg X.base CX k f fd ps sp) (hr : Room k X.A) (hb : KBn X.K fd ps 1 ks g gV) (hx : Passes CX X E) (hkw : PK X kws tk)
    (hall : (backToKw pos (keywordEach kws X.env)).all (·.1.isSome) = true := by rfl) (hks : (backToKw pos (keywordEach kws X.env)).filterMap (·.1) = ks := by rfl)
    (hpl : ((backTo pos (starEach [] X.env)).any (·.1) || (backToKw pos (keywordEach kws X.env)).any (·.1.isNone)) = false := by rfl)
    (ht : eval (.Call (.Attribute o m apos) [] kws pos) X.env = (do
      let ov ← eval o X.env
      standAt apos.atName
      let (f, first) ← holding [ov] (getMethod ov m pl)
      callWith pos f first (backTo pos (starEach [] X.env)) (backToKw pos (keywordEach kws X.env))) := by rfl) :
    PE X (.Call (.Attribute o m apos) [] kws pos) (tMethK C m ks.length sp gV E ta tk) := by
  refine ⟨fun pins s σ H Q I h => ?_⟩
  refine PySem.W.methodCall_KW (pl := pl) (thn (he.run pins s σ H _ I h) fun u s1 ⟨x, H1, I1, rx, a, dx, fs, ex, ea, l, q⟩ => ?_) ht
  subst ex
  obtain rfl : u = Value.ref a := rx
  refine getmeth_ok I1 ea c hm l ?_
  refine PySem.W.callWith_KW0 (first := [.ref a]) (h₀ := X.base) I.ok.mod.kin hm.kp hall ?_ hpl
  refine thn (hkw.run pos pins s1 σ H1 _ I1 q) fun ws s2 ⟨zs, H2, I2, rz, l2, q2⟩ => ⟨I2.kIn, ?_⟩
  rw [hks]
  exact run_fnN (us := [.ref a]) (vs := [.ref a]) F hr hb hx I2 (.cons rfl .nil) rz rfl l2 q2
end
theorem kb_RW {K : PySem.W.Frag} {f : Addr} {fd : FuncData} (F : Fun K "with_part" "Rule.with_part" sRW f fd) :
    KBn K fd ["self", "part", "value"] 1 ["value", "part"] (fun us ws => us ++ ws.reverse) (fun vs zs => vs ++ zs.reverse) := by
  obtain ⟨oc, od, kV, doc, pm, an, cdv, ct, osl, rfl, look, code⟩ := F.ex
  refine ⟨fun s us ws _ l1 l2 => ?_, fun {vs us zs ws} r1 r2 => ?_⟩
  · match us, ws, l1, l2 with
    | [u], [a, b], _, _ => exact .of_eq rfl
  · refine r1.append ?_
    clear r1
    induction r2 with
    | nil => exact .nil
    | cons h t ih =>
      rw [List.reverse_cons, List.reverse_cons]
      exact ih.append (.cons h .nil)
section
variable {P : Program} {w : World} {K : PySem.W.Frag} {mg : Str → Option Value} {base : Heap} {k : Nat} {f : Addr} {fd : FuncData} {ps : List Str} {sp : Sp}
/-- a def of the text whose code object stands at c -/
structure FunC (K : PySem.W.Frag) (x qual : Str) (st : Stmt) (f : Addr) (fd : FuncData) (c : Addr) : Prop where
  ex : ∃ (oc : Value) (od : Option Addr) (kV doc pm : Value) (an : Option Addr) (ct : Value) (osl : Array (Option Value)),
    fd = PySem.W.fnOf x qual (defArgs st) (defBody st) (defScope st) .none kV doc pm an (.ref c) ct ∧ K.lookup f = some ⟨oc, od, .func fd, osl⟩ ∧ PySem.W.codeIn K (.ref c) qual = true
/-- as okG, the code object known -/
theorem okGC {x qual : Str} {st : Stmt} {N : List Str} {c : Addr} (F : FunC K x qual st f fd c) (S : FnScope N ps (defScope st))
    (many : ∀ xs G R W, sp xs G R W → xs.length = ps.length)
    (body : ∀ (B : Around) (below : List Env) (z : Shared) (G : Hp) (xs : List V) (R : VK) (W : XK), B.guards = some [] →
      Room k (B.deeper (envOfC qual (defScope st) z.heap.objs.size f (.ref c))) → sp xs G R W →
      ∃ t, PSs (cxOf CX0 P w K mg base N qual (defScope st) f (.ref c) B below z G W).nox (defBody st) t ∧
        t { nx := fun _ G' => R .non G', rt := R } (start N xs) G) : FnG P w K mg base (k + 1) f fd ps sp := by
  obtain ⟨oc, od, kV, doc, pm, an, ct, osl, rfl, look, code⟩ := F.ex
  refine ⟨many, ?_⟩
  intro B below z G as ys xs R W gd room e0 bind rel holds
  have old : ∀ b o, base.get? b = some o → z.heap.get? b = some o := fun b o q => (e0.bs b o q).1
  have inK := e0.mod.kin.keeps old
  have slots : ∀ y ∈ ps.zip ys, (defScope st).names.lookup y.1 = some .local ∨ ((defScope st).names.lookup y.1 = some .cell ∧
      ((cellsFrom (z.heap.objs.size + 1) (defScope st).names []).lookup y.1).isSome = true) := by
    rintro ⟨n, v⟩ hy
    cases S.par n (List.of_mem_zip hy).1 with
    | inl q => exact .inl q
    | inr q => exact .inr ⟨q, PySem.W.cellsFrom_some _ _ _ (.inl q)⟩
  apply codeAny_call_function room.depth (inK _ _ look) rfl S.co S.gen rfl (PySem.W.codeRec_of inK code) (bind _ _ _ _ _)
  apply wpAny_newFunctionEnv_cells S.kind slots
  intro env henv z1 started
  subst henv
  refine ⟨(e0.mod.nolimit.keeps old).keeps started.toInCall.keep, codeAny_func ?_⟩
  obtain ⟨t, walk, asks⟩ := body B below z G xs R W gd (room.deeper _) holds
  have inv := inv_start (CX := CX0) (E := W) S room.hd e0 (many _ _ _ _ holds) rel started
  refine wpAny_mono (walk.nox.run [] z1 (start N xs) G _ inv asks) ?_ (fun _ _ q => q)
  intro fl z2 q
  cases fl with
  | next =>
    obtain ⟨_, G', J, q⟩ := q
    exact ⟨.non, G', J.os, J.bare, J.base, J.hok, rfl, q⟩
  | ret u =>
    obtain ⟨v, _, G', J, rv, q⟩ := q
    exact ⟨v, G', J.os, J.bare, J.base, J.hok, rv, q⟩
  | brk => obtain ⟨_, _, _, no⟩ := q; exact False.elim no
  | cont => obtain ⟨_, _, _, no⟩ := q; exact False.elim no
end
end D3

namespace D3
open PySem PySem.Spec PyProof.Rows L2 Dr Gd Oe LamX Ek
abbrev sCaught : Stmt := topS 18
abbrev sRight : Stmt := topS 26
theorem scCaught : FnScope ["act", "found", "error"] ["act"] (defScope sCaught) := ⟨rfl, rfl, rfl, by decide +kernel, rfl, by decide +kernel, by decide +kernel⟩
theorem scRight : FnScope ["draw", "way", "told", "error", "other", "got", "piece", "worth"] ["draw", "way", "told"] (defScope sRight) := ⟨rfl, rfl, rfl, by decide +kernel, rfl, by decide +kernel, by decide +kernel⟩
/-- what the top says of BadRule as it is caught: CT stands for TapError -/
structure TX (K : PySem.W.Frag) (mg : Str → Option Value) (B CT : Addr) : Prop where
  g : mg "TapError" = some (.ref CT)
  ec : ExcC K B
  cl : PySem.W.isClsIn K B = true
  xf : XfC K B
  no : PySem.W.findIn K (.ref B) "part" = some none
  kit : PySem.W.kitOne K (.ref B) (.ref B) = some true
  exm : PySem.W.exmOne K (.ref B) (.ref CT) = some true
/-- the def _law_caught stands at g -/
structure TC (K : PySem.W.Frag) (mg : Str → Option Value) (g : Addr) : Prop where
  m : mg "_law_caught" = some (.ref g)
  k : PySem.W.keepIn K (.ref g) = true
  ex : ∃ (oc : Value) (od : Option Addr) (kV doc pm : Value) (an : Option Addr) (cdv ct : Value) (osl : Array (Option Value)),
    K.lookup g = some ⟨oc, od, .func (PySem.W.fnOf "_law_caught" "_law_caught" (defArgs sCaught) (defBody sCaught) (defScope sCaught) .none kV doc pm an cdv ct), osl⟩ ∧ PySem.W.codeIn K cdv "_law_caught" = true
/-- all but the draws and the tables of code objects stands -/
def FrT (d g : Addr) (H H' : Hp) : Prop := ∀ b o, b ≠ d → b ≠ g → H b = some o → (∀ ps, o ≠ .tbl ps) → H' b = some o
theorem FrT.of {d g : Addr} {H H' : Hp} (h : Fr2 d g H H') : FrT d g H H' := fun b o h1 h2 e _ => h b o h1 h2 e
theorem FrT.ext {d g : Addr} {H H' : Hp} (h : ExtN H H') : FrT d g H H' := fun b o _ _ e n => h b o e n
theorem FrT.same {d g : Addr} {H H' : Hp} (h : Same H H') : FrT d g H H' := fun b o _ _ e _ => h b o e
theorem FrT.trans {d g : Addr} {H H1 H2 : Hp} (a : FrT d g H H1) (b : FrT d g H1 H2) : FrT d g H H2 := fun c o h1 h2 h n => b c o h1 h2 (a c o h1 h2 h n) n
theorem dw_ext {H H' : Hp} {d g c : Addr} (D : Dw H d g c) (k : ExtN H H') : Dw H' d g c := by
  obtain ⟨⟨gs, cs, r, t, hd, hg, hc⟩, gc⟩ := D
  exact ⟨⟨gs, cs, r, t, k _ _ hd (fun _ z => nomatch z), k _ _ hg (fun _ z => nomatch z), k _ _ hc (fun _ z => nomatch z)⟩, gc⟩
theorem codeO_dK {c : Addr} {q : Str} (kvs : List (Key × V)) : CodeO c q ≠ .dK kvs := fun z => by
  unfold CodeO at z
  cases z
theorem codeO_lst {c : Addr} {q : Str} (xs : List V) : CodeO c q ≠ .lst xs := fun z => by
  unfold CodeO at z
  cases z
theorem tabs_fr2 {T : List (Addr × Str)} {H H' : Hp} {d g c : Addr} (t : Tabs T H) (D : Dw H d g c) (k : Fr2 d g H H') : Tabs T H' := fun p hp => by
  obtain ⟨⟨gs, cs, r, tn, hd, hg, hc⟩, gc⟩ := D
  obtain ⟨ps, h1, h2, h3⟩ := t p hp
  refine ⟨ps, k _ _ (ne_of h1 hd (fun z => nomatch z)) (ne_of h1 hg (fun z => nomatch z)) h1, h2, fun pos cv hc => ?_⟩
  obtain ⟨c0, e1, e2⟩ := h3 pos cv hc
  exact ⟨c0, e1, k _ _ (ne_of e2 hd (codeO_dK _)) (ne_of e2 hg (codeO_lst _)) e2⟩
theorem tabs_same {T : List (Addr × Str)} {H H' : Hp} (t : Tabs T H) (k : Same H H') : Tabs T H' := t.ext fun b o e => k b o e
theorem OddO.keepN {H H' : Hp} (k : ExtN H H') : ∀ a o, OddO o → H a = some o → H' a = some o := fun a o ko e => k a o e ko.ne_tbl
theorem RuleAt.ext {C : Addr} {H H' : Hp} {p : Addr} {r : R5} (h : RuleAt C H p r) (k : ExtN H H') : RuleAt C H' p r := h.keep fun o e => by
  obtain ⟨dx, h⟩ := h
  exact k _ _ e (fun ps z => by rw [h] at e; cases e; cases z)
def nmR : Str := "_law_with_right.<locals>.<lambda>"
def nmL : Str := "law.<locals>.<lambda>"
def spRight (C : Addr) (T : List (Addr × Str)) : Sp := fun vs H Q _ => ∃ (d g c q t : Addr) (r : R5), vs = [.ref d, .ref q, .ref t] ∧ Dw H d g c ∧ H q = some (.dK (kM (W5.of r))) ∧ RuleAt C H t r ∧ r.ok ∧ Tabs T H ∧
  ∀ H', Dw H' d g c → FrT d g H H' → Tabs T H' → Q (.bl true) H'
def pieces (a b : Addr) : List V := [.str "way", .str "still", .str "hold", .str "pins", .str "guard", .str "ways", .str "", .non, .ref a, .ref b, .int 0]
theorem fR_no (r : R5) : (fR r).lookup ("with_part" : Str) = none := by kernel_rfl
theorem kM_ne_kD (m : W5) (g c : Addr) (r t : Int) : HO.dK (kM m) ≠ .dK (kD g c r t) := fun z => by
  injection z with z
  have := congrArg List.length z
  simp [kM, kD] at this
theorem kM_none {m : W5} {y : Str} (h : y ∉ partsL) : valV (kM m) (.inr y) = none := by
  simp only [partsL, List.mem_cons, List.mem_nil_iff, not_or, or_false] at h
  obtain ⟨h1, h2, h3, h4, h5⟩ := h
  unfold kM
  rw [valV_neg (fun z => h1 (Sum.inr.inj z).symm), valV_neg (fun z => h2 (Sum.inr.inj z).symm), valV_neg (fun z => h3 (Sum.inr.inj z).symm), valV_neg (fun z => h4 (Sum.inr.inj z).symm), valV_neg (fun z => h5 (Sum.inr.inj z).symm)]
  rfl
theorem tabs_upd {T : List (Addr × Str)} {H : Hp} {l : Addr} {xs : List V} {o : HO} (t : Tabs T H) (h : H l = some (.lst xs)) : Tabs T (upd H l o) := fun p hp => by
  obtain ⟨ps, h1, h2, h3⟩ := t p hp
  refine ⟨ps, by rw [upd_ne (ne_of h1 h (fun z => nomatch z))]; exact h1, h2, fun pos cv hc => ?_⟩
  obtain ⟨c0, e1, e2⟩ := h3 pos cv hc
  exact ⟨c0, e1, by rw [upd_ne (ne_of e2 h (codeO_lst _))]; exact e2⟩
/-- what stands all along -/
structure Bn (C d g c q t : Addr) (r : R5) (T : List (Addr × Str)) (x wv : V) (H0 H : Hp) : Prop where
  D : Dw H d g c
  q : H q = some (.dK (kM (W5.of r)))
  t : RuleAt C H t r
  x : Odd H x
  w : Odd H wv
  f : FrT d g H0 H
  tb : Tabs T H
section
variable {C d g c q t : Addr} {r : R5} {T : List (Addr × Str)} {x wv : V} {H0 H H' : Hp}
theorem Bn.same (b : Bn C d g c q t r T x wv H0 H) (k : Same H H') : Bn C d g c q t r T x wv H0 H' := ⟨b.D.same k, k _ _ b.q, b.t.same k, b.x.same k, b.w.same k, b.f.trans (.same k), tabs_same b.tb k⟩
theorem Bn.ext (b : Bn C d g c q t r T x wv H0 H) (k : ExtN H H') (tb : Tabs T H') : Bn C d g c q t r T x wv H0 H' :=
  ⟨dw_ext b.D k, k _ _ b.q (fun _ z => nomatch z), b.t.ext k, b.x.keep (OddO.keepN k), b.w.keep (OddO.keepN k), b.f.trans (.ext k), tb⟩
theorem Bn.fr2 (b : Bn C d g c q t r T x wv H0 H) (D : Dw H' d g c) (k : Fr2 d g H H') : Bn C d g c q t r T x wv H0 H' := by
  obtain ⟨⟨gs, cs, rr, tn, hd, hg, hc⟩, gc⟩ := id b.D
  exact ⟨D, k _ _ (ne_of b.q hd (kM_ne_kD _ _ _ _ _)) (ne_of b.q hg (fun z => nomatch z)) b.q, b.t.fr2 b.D k, b.x.fr2 b.D k, b.w.fr2 b.D k, b.f.trans (.of k), tabs_fr2 b.tb b.D k⟩
/-- a list that is none of the draws' is written -/
theorem Bn.put {l : Addr} {xs ys : List V} (b : Bn C d g c q t r T x wv H0 H) (h : H l = some (.lst xs)) (ne : ∀ o, OddO o → o ≠ .lst xs) (lg : l ≠ g) (lc : l ≠ c) (n0 : H0 l = none) : Bn C d g c q t r T x wv H0 (upd H l (.lst ys)) := by
  obtain ⟨⟨gs, cs, rr, tn, hd, hg, hc⟩, gc⟩ := id b.D
  have dl : d ≠ l := ne_of hd h (fun z => nomatch z)
  obtain ⟨dx, ht⟩ := id b.t
  refine ⟨⟨⟨gs, cs, rr, tn, by rw [upd_ne dl]; exact hd, by rw [upd_ne lg.symm]; exact hg, by rw [upd_ne lc.symm]; exact hc⟩, gc⟩, by rw [upd_ne (ne_of b.q h (fun z => nomatch z))]; exact b.q,
    ⟨dx, by rw [upd_ne (ne_of ht h (fun z => nomatch z))]; exact ht⟩, b.x.keep fun a o ko e => ?_, b.w.keep fun a o ko e => ?_, fun a o h1 h2 e n => ?_, tabs_upd b.tb h⟩
  · rw [upd_ne (ne_of e h (ne o ko))]
    exact e
  · rw [upd_ne (ne_of e h (ne o ko))]
    exact e
  · rw [upd_ne (ne_of_none e n0)]
    exact b.f a o h1 h2 e n
end
theorem fr2_free {H H' : Hp} {d g c p : Addr} (D : Dw H' d g c) (k : Fr2 d g H H') (n : H' p = none) : H p = none := by
  obtain ⟨⟨gs, cs, rr, tn, hd, hg, hc⟩, gc⟩ := D
  have pd : p ≠ d := fun z => by rw [z, hd] at n; cases n
  have pg : p ≠ g := fun z => by rw [z, hg] at n; cases n
  cases e : H p with
  | none => rfl
  | some o => rw [k _ _ pd pg e] at n; cases n
theorem Pn.inj {p q : Pn} (h : p.nm = q.nm) : p = q := by
  cases p <;> cases q <;> first | rfl | exact absurd h (by decide +kernel)
theorem shaped_nm (y : Pn) : SeqAt.shaped (.list [.str y.nm]) = true := by cases y <;> decide +kernel
theorem ask {K : PySem.W.Frag} {mg : Str → Option Value} {C wA pA : Addr} (T : TR K mg C wA pA) (g : Bool → Bool) {H : Hp} {a b : Addr} {r r' : R5} {Q : VK} (ha : RuleAt C H a r) (hb : RuleAt C H b r') (q : Q (.bl (g (decide (r = r')))) H) : rOwn K C (spRE K C) g (.ref a) (.ref b) H Q :=
  let ⟨dx, h⟩ := ha
  ⟨a, dx, fR r, .ref C, rfl, h, T.ty hb, by unfold PySem.W.notFirst; simp, a, .ref b, r, rfl, ha, .inl ⟨b, r', rfl, hb, _, rfl, q⟩⟩
section
variable {P : Program} {w : World} {K : PySem.W.Frag} {mg : Str → Option Value} {base : Heap} {C B CT wA pA : Addr}
theorem ok_right {f fP fO fW fE fB fD fS fDS fC cW pW : Addr} {fd fdP fdO fdW fdE fdB fdD fdS fdDS : FuncData} {T : List (Addr × Str)} (F : FunC K "_law_with_right" "_law_with_right" sRight f fd cW) (TT : TR K mg C wA pA) (TE : TB P w K mg base B fB fdB) (X : TX K mg B CT) (LC : TC K mg fC)
    (GP : FnOk P w K mg base CX0 4 fP fdP ["draw", "some"] spPick) (kP : PySem.W.keepIn K (.ref fP) = true) (bP : L2.Binds K fdP ["draw", "some"] []) (gP : mg "_law_pick" = some (.ref fP))
    (GO : FnOk P w K mg base CX0 5 fO fdO ["draw"] spOdd) (kO : PySem.W.keepIn K (.ref fO) = true) (bO : L2.Binds K fdO ["draw"] []) (gO : mg "_law_odd" = some (.ref fO))
    (FW : Fun K "with_part" "Rule.with_part" sRW fW fdW) (GW : FnOk P w K mg base (L2.CX P w) 6 fW fdW ["self", "part", "value"] (spRW C B)) (bW : L2.Binds K fdW ["self", "part", "value"] []) (mW : Meth K C "with_part" fW)
    (GD : FnOk P w K mg base CX0 2 fD fdD ["mode"] spDue) (kD : PySem.W.keepIn K (.ref fD) = true) (bD : L2.Binds K fdD ["mode"] []) (gD : mg "_law_rule_due" = some (.ref fD))
    (GS : FnG P w K mg base 3 fS fdS ["told"] (spShown C)) (kS : PySem.W.keepIn K (.ref fS) = true) (bS : L2.Binds K fdS ["told"] []) (gS : mg "_law_shown_of" = some (.ref fS))
    (GDS : FnG P w K mg base 2 fDS fdDS ["way"] spDShown) (kDS : PySem.W.keepIn K (.ref fDS) = true) (bDS : L2.Binds K fdDS ["way"] []) (gDS : mg "_law_due_shown" = some (.ref fDS))
    (O : OwnEq K C fE) (GE : FnOk P w K mg base CX0 1 fE fdE ["self", "other"] (spRE K C)) (bE : L2.Binds K fdE ["self", "other"] [])
    (tb : TabB base mg cW pW) (hT : (pW, nmR) ∈ T) (hu1 : ∀ p ∈ T, p.1 = pW → p.2 = nmR) (md : mg "dict" = none) : FnG P w K mg base 9 f fd ["draw", "way", "told"] (spRight C T) := by
  refine okGC F scRight (fun vs H Q E h => ?_) (fun A outer s H vs Q E gd hr h => ?_)
  · obtain ⟨d, g, c, q, t, r, rfl, _⟩ := h
    rfl
  · obtain ⟨d, g, c, q, t, r, rfl, D, hq, ht, okr, tabs, k⟩ := h
    obtain ⟨oc, od, kV, doc, pm, an, cdv, ct, osl, lkC, cdC⟩ := LC.ex
    have hu := hu_of hr
    have nd := scRight.nd
    have hr1 : Room 1 _ := hr.mono (by decide)
    have hr2 : Room 2 _ := hr.mono (by decide)
    have hr3 : Room 3 _ := hr.mono (by decide)
    have hr4 : Room 4 _ := hr.mono (by decide)
    have hr5 : Room 5 _ := hr.mono (by decide)
    have hr6 : Room 6 _ := hr.mono (by decide)
    refine ⟨_, pss_cons (ps_set (i := 6) nd rfl (Or.inr rfl) (pe_call GP hr4 (by rfl) gP kP bP .nil pass0 (pa_cons (pv 0) (pa_cons (pe_lst (pa_cons pe_str (pa_cons pe_str (pa_cons pe_str (pa_cons pe_str (pa_cons pe_str (pa_cons pe_str (pa_cons pe_str (pa_cons pe_non (pa_cons (pe_tup (pa_cons pe_str pa_nil)) (pa_cons (pe_lst (pa_cons pe_str pa_nil)) (pa_cons pe_int pa_nil)))))))))))) pa_nil))))
      (pss_cons (ps_asg (pe_tup (pa_cons (pe_call GO hr5 (by rfl) gO kO bO .nil pass0 (pa_cons (pv 0) pa_nil)) (pa_cons (pe_lst pa_nil) pa_nil))) (pg_tup (by rfl) (pgs_cons (pg_name (i := 7) nd rfl (.inr rfl)) (pgs_cons (pg_name (i := 5) nd rfl (.inr rfl)) pgs_nil))))
      (pss_cons (ps_set (i := 3) nd rfl (Or.inl rfl) (by exact (pe_lamcall (T := T) (k := 6) (TT := TTc K CT) (t := fun E => tBM K "list" rAppend (tVar 5) (tCons (tMeth C "with_part" (spRW C B) [] E (tVar 2) (tCons (tVar 6) (tCons (tVar 7) tNil))) tNil)) (by rfl) LC.m LC.k lkC cdC (Binds.all fun us hl => match us, hl with | [_], _ => rfl) scCaught rfl (Or.inl rfl)
          (caught_gives X.g) tb rfl hT hu1 hr (lamS_by (by rfl)) (by rfl) (fun _ _ _ _ _ => rfl)
          (fun A' outer' s' H' E' f' c' hr' => by exact pe_bm PySem.F.plainAttrs_list PySem.F.slot_list_append PySem.F.type_list_append mt_append (pv 5) (pa_cons (pe_meth (pv 2) TT.cl mW GW hr' bW .nil (by exact (passes_call (takes_of (E := E') rfl rfl rfl rfl) (fun _ _ _ _ q => q))) (pa_cons (pv 6) (pa_cons (pv 7) pa_nil))) pa_nil)))))
      (pss_cons (ps_if (PW.pt (pw_or (pt_not (pt_val (pe_callB call_isi (by rfl) TT.isi boot_isinstance (pa_cons (pv 6) (pa_cons (pe_bltn (v := .ty "str") (by rfl) TT.str boot_str rfl) pa_nil))))) (pw_or1 (pt_cmp (pc_dnotin hu (pv 6) (pv 1))))))
          (pss_one (ps_ret (pe_and (pe_callB (call_isK X.ec X.cl) (by rfl) TT.isi boot_isinstance (pa_cons (pv 3) (pa_cons (pe_glob (v := .ref B) (by rfl) TE.g rfl) pa_nil))) (pe_one (pe_cmp (pc_isN (pe_fk X.xf X.no (pv 3)))))))) pss_nil)
      (pss_cons (ps_set (i := 4) nd rfl (Or.inl rfl) (pe_callTy call_dictD (by rfl) md boot_dict (pa_cons (pv 1) pa_nil)))
      (pss_cons (ps_dput hu (pv 4) (pv 6) (pv 7) rfl)
      (pss_cons (ps_if (pt_cmpR (op_neD hr.units) (pe_call GD hr2 (by rfl) gD kD bD .nil pass0 (pa_cons (pv 4) pa_nil)) (pe_lst pa_nil) (nomark _))
          (pss_one (ps_ret (pe_and (pe_callB (call_isK X.ec X.cl) (by rfl) TT.isi boot_isinstance (pa_cons (pv 3) (pa_cons (pe_glob (v := .ref B) (by rfl) TE.g rfl) pa_nil))) (pe_one (pe_cmpR op_eq (pe_fk X.xf X.no (pv 3)) (pv 6) (nomark _)))))) pss_nil)
      (pss_cons (ps_if (PW.pt (pw_or (pt_cmp (pc_notN (pv 3))) (pw_or1 (pt_cmpR op_ne (pe_callG GS gd hr3 (by rfl) gS kS bS .nil (pa_cons (pe_ix ix_list (pv 5) pe_int (fun _ _ => rfl)) pa_nil)) (pe_callG GDS gd hr2 (by rfl) gDS kDS bDS .nil (pa_cons (pv 4) pa_nil)) (nomark _))))) (pss_one (ps_ret pe_bl)) pss_nil)
      (pss_one (ps_ret (pe_and (pe_cmpR (op_eqO O GE hr1 bE) (pe_ix ix_list (pv 5) pe_int (fun _ _ => rfl)) (pe_methK0 (pv 2) TT.cl mW GW hr6 (kb_RW FW) passL (pk_cons (pv 7) (pk_cons (pv 6) pk_nil))) (nomark _))
        (pe_one (pe_cmpR op_eq (pe_callG GS gd hr3 (by rfl) gS kS bS .nil (pa_cons (pv 2) pa_nil)) (pe_callG GDS gd hr2 (by rfl) gDS kDS bDS .nil (pa_cons (pv 1) pa_nil)) (nomark _))))))))))))), ?_⟩
    have B0 : Bn C d g c q t r T .non .non H H := ⟨D, hq, ht, .non, .non, fun _ _ _ _ e _ => e, tabs⟩
    -- piece
    refine ⟨_, rfl, (by show 1 ≤ sizeLine; decide), fun a na => ⟨(by show 1 ≤ sizeLine; decide), fun b nb => ⟨(by show 11 ≤ sizeLine; decide), fun l nl => ?_⟩⟩⟩
    have B1 : Bn C d g c q t r T .non .non H (upd (upd H a (.tup [V.str "way"])) b (.lst [V.str "still"])) := B0.same ((same_upd na).trans (same_upd nb))
    have q1 : (upd (upd H a (.tup [V.str "way"])) b (.lst [V.str "still"])) a = some (.tup [V.str "way"]) := same_upd nb _ _ upd_same
    have q2 : (upd (upd H a (.tup [V.str "way"])) b (.lst [V.str "still"])) b = some (.lst [V.str "still"]) := upd_same
    have s01 : Same H (upd (upd H a (.tup [V.str "way"])) b (.lst [V.str "still"])) := (same_upd na).trans (same_upd nb)
    revert nl B1 q1 q2 s01
    generalize upd (upd H a (.tup [V.str "way"])) b (.lst [V.str "still"]) = H1
    intro nl B1 q1 q2 s01
    have lg : l ≠ g := fun e => by
      obtain ⟨⟨gs, cs, r, t, hd, hg, hc⟩, _⟩ := id B1.D
      rw [e, hg] at nl; cases nl
    have all : ∀ x ∈ pieces a b, Odd H1 x := by
      unfold pieces
      simp only [List.forall_mem_cons]
      exact ⟨.str _, .str _, .str _, .str _, .str _, .str _, .str _, .non, .ref q1 .way, .ref q2 .stl, .int _, fun _ z => nomatch z⟩
    have B1' := B1.same (same_upd (o := .lst (pieces a b)) nl)
    refine ⟨d, g, c, l, pieces a b, rfl, B1'.D, upd_same, lg, (fun z => by cases z), (by show 11 < 1000; decide), fun i x H2 hx D2 fr2 => ?_⟩
    have B2 : Bn C d g c q t r T x .non H H2 := by
      have b2 := B1'.fr2 D2 fr2
      exact ⟨b2.D, b2.q, b2.t, ((all x (List.mem_of_getElem? hx)).same (same_upd nl)).fr2 B1'.D fr2, b2.w, b2.f, b2.tb⟩
    have f02 : Fr2 d g H H2 := (Fr2.same ((s01.trans (same_upd (o := .lst (pieces a b)) nl)))).trans fr2
    clear B0 B1 B1' all q1 q2 nl na nb fr2 hx lg s01
    -- worth, got
    refine ⟨_, rfl, d, g, c, rfl, D2, fun wv H3 ow D3 fr3 => ⟨(by show 0 ≤ sizeLine; decide), fun gl ngl => ⟨(by show 2 ≤ sizeLine; decide), fun tp ntp => ?_⟩⟩⟩
    have B3 : Bn C d g c q t r T x wv H H3 := by
      have b3 := B2.fr2 D3 fr3
      exact ⟨b3.D, b3.q, b3.t, b3.x, ow, b3.f, b3.tb⟩
    have glg : gl ≠ g := fun e => by
      obtain ⟨⟨gs, cs, r, t, hd, hg, hc⟩, _⟩ := id D3
      rw [e, hg] at ngl; cases ngl
    have glc : gl ≠ c := fun e => by
      obtain ⟨⟨gs, cs, r, t, hd, hg, hc⟩, _⟩ := id D3
      rw [e, hc] at ngl; cases ngl
    have gl0 : H gl = none := fr2_free D3 (f02.trans fr3) ngl
    have B4 := B3.same ((same_upd (o := .lst []) ngl).trans (same_upd (o := .tup [wv, .ref gl]) ntp))
    have hgl4 : (upd (upd H3 gl (.lst [])) tp (.tup [wv, .ref gl])) gl = some (.lst []) := same_upd ntp _ _ upd_same
    have htp4 : (upd (upd H3 gl (.lst [])) tp (.tup [wv, .ref gl])) tp = some (.tup [wv, .ref gl]) := upd_same
    revert B4 hgl4 htp4
    generalize upd (upd H3 gl (.lst [])) tp (.tup [wv, .ref gl]) = H4
    intro B4 hgl4 htp4
    refine ⟨tp, _, rfl, SqT.of htp4, rfl, _, _, rfl, _, _, rfl, rfl, ?_⟩
    clear B3 B2 f02 fr3 D2 D3 ow
    -- error
    refine ⟨B4.tb, fun H5 ext tb5 => ?_⟩
    have B5 := B4.ext ext tb5
    have hgl5 := ext _ _ hgl4 (fun _ z => nomatch z)
    obtain ⟨dx, ht5⟩ := id B5.t
    refine ⟨_, rfl, .inl ⟨rfl, _, SqL.of hgl5⟩, _, rfl, t, dx, _, rfl, ht5, fR_no r, _, rfl, _, rfl, ?_⟩
    refine ⟨t, r, x, wv, rfl, B5.t, okr, B5.x, B5.w, fun np dd H6 ndd hdd s6 => ⟨X.exm, fun e ne => ?_⟩, fun p hx => ⟨fun y due dd H6 ndd hdd s6 => ⟨X.exm, fun e ne => ?_⟩, fun r' hm okr' a H6 na ha s6 => ?_⟩⟩
    · -- no part
      have B7 := B5.same (s6.trans (same_upd (o := ExK (.ref B) (some dd) e) ne))
      have he : (upd H6 e (ExK (.ref B) (some dd) e)) e = some (ExK (.ref B) (some dd) e) := upd_same
      have hd7 : (upd H6 e (ExK (.ref B) (some dd) e)) dd = some (.xd [("part", .non)]) := same_upd ne _ _ hdd
      revert B7 he hd7
      generalize upd H6 e (ExK (.ref B) (some dd) e) = H7
      intro B7 he hd7
      rcases B7.x.str? (K := K) with ⟨y, hy⟩ | ⟨ty, t1, t2⟩
      · subst hy
        have z : DGet H7 q (.str y) none := by
          have z := DGet.k (k := .inr y) B7.q
          rw [kM_none (np y rfl)] at z
          exact z
        refine ⟨_, rfl, _, _, _, _, true, rfl, .ty "str", .base (.str y), kit_ty (by decide +kernel), true, rfl, iteF ⟨_, rfl, _, rfl, q, _, rfl, z, _, rfl, iteT ?_⟩⟩
        refine ⟨_, rfl, e, some dd, [("part", .non)], .ref B, _, true, rfl, he, .inr ⟨dd, rfl, hd7⟩, .own B, X.kit, true, rfl, iteT ?_⟩
        refine ⟨_, rfl, e, some dd, _, .non, rfl, he, .inr ⟨dd, rfl, hd7⟩, rfl, ?_⟩
        exact k H7 B7.D B7.f B7.tb
      · refine ⟨_, rfl, _, _, _, _, false, rfl, .ty "str", t1, t2, false, rfl, iteT ?_⟩
        refine ⟨_, rfl, e, some dd, [("part", .non)], .ref B, _, true, rfl, he, .inr ⟨dd, rfl, hd7⟩, .own B, X.kit, true, rfl, iteT ?_⟩
        refine ⟨_, rfl, e, some dd, _, .non, rfl, he, .inr ⟨dd, rfl, hd7⟩, rfl, ?_⟩
        exact k H7 B7.D B7.f B7.tb
    · -- a value that is none
      subst hx
      obtain rfl : y = p := due_put okr due
      have B7 := B5.same (s6.trans (same_upd (o := ExK (.ref B) (some dd) e) ne))
      have he : (upd H6 e (ExK (.ref B) (some dd) e)) e = some (ExK (.ref B) (some dd) e) := upd_same
      have hd7 : (upd H6 e (ExK (.ref B) (some dd) e)) dd = some (.xd [("part", .str y.nm)]) := same_upd ne _ _ hdd
      revert B7 he hd7
      generalize upd H6 e (ExK (.ref B) (some dd) e) = H7
      intro B7 he hd7
      refine ⟨_, rfl, _, _, _, _, true, rfl, .ty "str", .base (.str _), kit_ty (by decide +kernel), true, rfl, iteF ⟨_, rfl, _, rfl, q, _, rfl, dg_of B7.q (kM_get _ y), _, rfl, iteF ?_⟩⟩
      refine ⟨_, rfl, q, _, rfl, .inl B7.q, fun o no => ?_⟩
      refine ⟨_, rfl, _, rfl, _, rfl, o, _, rfl, dp_of upd_same (kM_put (W5.of r) wv y) (kM_len _), ?_⟩
      rw [upd_upd]
      generalize hm : (W5.of r).put wv y = m at due ⊢
      have s8 := same_upd (o := .dK (kM m)) no
      have om : ((W5.of r).put wv y).odd (upd H7 o (.dK (kM m))) := (W5.odd.of r).put (B7.w.same s8) y
      rw [hm] at om
      refine ⟨_, rfl, o, m, rfl, upd_same, om, fun l2 H9 nl2 hl2 s9 => ⟨Nat.zero_le _, fun p2 np2 => ?_⟩⟩
      rw [dueL_some due] at hl2
      have s10 := s8.trans (s9.trans (same_upd (o := .lst []) np2))
      have B10 := B7.same s10
      refine ⟨_, _, .lst (SqL.of (same_upd np2 _ _ hl2)) (.cons (.str _) .nil), .lst (SqL.of upd_same) .nil, shaped_nm y, by decide +kernel, _, rfl, ?_⟩
      rw [show PyData.eqv (.list [.str y.nm]) (.list []) = false by simp [PyData.eqv, PyData.eqvAll]]
      refine iteT ?_
      refine ⟨_, rfl, e, some dd, [("part", .str y.nm)], .ref B, _, true, rfl, s10 _ _ he, .inr ⟨dd, rfl, s10 _ _ hd7⟩, .own B, X.kit, true, rfl, iteT ?_⟩
      refine ⟨_, rfl, e, some dd, _, .str y.nm, rfl, s10 _ _ he, .inr ⟨dd, rfl, s10 _ _ hd7⟩, rfl, _, rfl, rfl, ?_⟩
      rw [decide_eq_true rfl]
      exact k _ B10.D B10.f B10.tb
    · -- taken
      subst hx
      refine ⟨gl, [], _, rfl, rfl, s6 _ _ hgl5, (by show 0 < sizeLine; decide), ?_⟩
      have B6 := B5.same s6
      have B7 := B6.put (ys := [.ref a]) (s6 _ _ hgl5) (fun o ko => by cases ko <;> intro z <;> cases z) glg glc gl0
      have ha7 : RuleAt C (upd H6 gl (.lst [.ref a])) a r' := by
        obtain ⟨dy, ha⟩ := ha
        exact ⟨dy, by rw [upd_ne (ne_of ha (s6 _ _ hgl5) (fun z => nomatch z))]; exact ha⟩
      have hgl7 : (upd H6 gl (.lst [.ref a])) gl = some (.lst [.ref a]) := upd_same
      show (_ : Prop)
      revert B7 ha7 hgl7
      show Bn C d g c q t r T (.str p.nm) wv H (upd H6 gl (.lst [.ref a])) → _
      rw [show ([] : List V) ++ [V.ref a] = [V.ref a] from rfl]
      generalize upd H6 gl (.lst [.ref a]) = H7
      intro B7 ha7 hgl7
      refine ⟨_, rfl, _, _, _, _, true, rfl, .ty "str", .base (.str _), kit_ty (by decide +kernel), true, rfl, iteF ⟨_, rfl, _, rfl, q, _, rfl, dg_of B7.q (kM_get _ p), _, rfl, iteF ?_⟩⟩
      refine ⟨_, rfl, q, _, rfl, .inl B7.q, fun o no => ?_⟩
      refine ⟨_, rfl, _, rfl, _, rfl, o, _, rfl, dp_of upd_same (kM_put (W5.of r) wv p) (kM_len _), ?_⟩
      rw [upd_upd, hm]
      have s8 := same_upd (o := .dK (kM (W5.of r'))) no
      refine ⟨_, rfl, o, W5.of r', rfl, upd_same, .of r', fun l2 H9 nl2 hl2 s9 => ⟨Nat.zero_le _, fun p2 np2 => ?_⟩⟩
      rw [dueL_none (due_of okr')] at hl2
      have s10 := s8.trans (s9.trans (same_upd (o := .lst []) np2))
      have ho10 : (upd H9 p2 (.lst [])) o = some (.dK (kM (W5.of r'))) := same_upd np2 _ _ (s9 _ _ upd_same)
      refine ⟨_, _, .lst (SqL.of (same_upd np2 _ _ hl2)) .nil, .lst (SqL.of upd_same) .nil, by decide +kernel, by decide +kernel, _, rfl, ?_⟩
      rw [show PyData.eqv (.list []) (.list []) = true by simp [PyData.eqv, PyData.eqvAll]]
      refine iteF ?_
      have B10 := B7.same s10
      revert s10 ho10 B10
      generalize upd H9 p2 (.lst []) = H10
      intro s10 ho10 B10
      refine ⟨_, rfl, _, rfl, iteF ?_⟩
      refine ⟨_, rfl, gl, _, 0, _, rfl, rfl, SqL.of (s10 _ _ hgl7), at_of (j := 0) rfl rfl, a, r', rfl, ha7.same s10, okr', fun H11 s11 => ?_⟩
      refine ⟨_, rfl, o, r', rfl, s11 _ _ ho10, okr', fun H12 s12 => ⟨rfl, _, rfl, ?_⟩⟩
      refine ite2 (fun z => absurd z (by simp)) (fun _ => ?_)
      have s712 := s10.trans (s11.trans s12)
      have B12 := B7.same s712
      obtain ⟨dz, ht12⟩ := id B12.t
      refine ⟨_, rfl, gl, _, 0, _, rfl, rfl, SqL.of (s712 _ _ hgl7), at_of (j := 0) rfl rfl, ?_⟩
      refine ⟨_, rfl, t, dz, _, rfl, ht12, fR_no r, _, rfl, _, rfl, rfl, ?_⟩
      refine ⟨t, r, _, wv, rfl, B12.t, okr, B12.x, B12.w, fun np => (np _ rfl p.nm_in).elim, fun p' hp' => ⟨fun y due => ?_, fun r2 hm2 okr2 a2 H13 na2 ha2 s13 => ?_⟩⟩
      · obtain rfl := Pn.inj (V.str.inj hp')
        rw [hm, due_of okr'] at due
        cases due
      · obtain rfl := Pn.inj (V.str.inj hp')
        obtain rfl := of_inj (hm.symm.trans hm2)
        have s713 := s712.trans s13
        have B13 := B7.same s713
        refine ask TT id (ha7.same s713) ha2 ⟨_, rfl, ite2 (fun _ => ?_) (fun no => absurd (decide_eq_true rfl) no)⟩
        refine ⟨_, rfl, t, r, rfl, B13.t, okr, fun H14 s14 => ⟨_, rfl, q, r, rfl, s14 _ _ B13.q, okr, fun H15 s15 => ⟨rfl, ?_⟩⟩⟩
        have B15 := B13.same (s14.trans s15)
        rw [decide_eq_true rfl]
        exact k _ B15.D B15.f B15.tb
end
end D3

namespace D3
open PySem PySem.Spec PyProof.Rows L2 Dr Gd Oe LamX Ek
abbrev sLaw : Stmt := topS 27
theorem scLaw : FnScope ["script", "draw", "turn", "change", "due", "error", "got", "way_here"] ["script"] (defScope sLaw) := ⟨rfl, rfl, rfl, by decide +kernel, rfl, by decide +kernel, by decide +kernel⟩
/-- the law, over empty tables of code objects -/
def spLaw2 (K : PySem.W.Frag) (T : List (Addr × Str)) : Sp := fun vs H Q _ => ∃ (a : Addr) (ns : List Int), vs = [.ref a] ∧ SqL K H a (ns.map V.int) ∧ ns.length ≤ 63 ∧ (∀ p ∈ T, H p.1 = some (.tbl #[])) ∧ ∀ H', Q (.bl true) H'
theorem tabs_updD {T : List (Addr × Str)} {H : Hp} {l : Addr} {kvs : List (Key × V)} {o : HO} (t : Tabs T H) (h : H l = some (.dK kvs)) : Tabs T (upd H l o) := fun p hp => by
  obtain ⟨ps, h1, h2, h3⟩ := t p hp
  refine ⟨ps, by rw [upd_ne (ne_of h1 h (fun z => nomatch z))]; exact h1, h2, fun pos cv hc => ?_⟩
  obtain ⟨c0, e1, e2⟩ := h3 pos cv hc
  exact ⟨c0, e1, by rw [upd_ne (ne_of e2 h (codeO_dK _))]; exact e2⟩
theorem ne_kM {H : Hp} {d g c p : Addr} {m : W5} (D : Dw H d g c) (h : H p = some (.dK (kM m))) : p ≠ d ∧ p ≠ g ∧ p ≠ c := by
  obtain ⟨⟨gs, cs, r, t, hd, hg, hc⟩, gc⟩ := D
  exact ⟨ne_of h hd (kM_ne_kD _ _ _ _ _), ne_of h hg (fun z => nomatch z), ne_of h hc (fun z => nomatch z)⟩
theorem dw_put {H : Hp} {d g c p : Addr} {m : W5} {o : HO} (D : Dw H d g c) (h : H p = some (.dK (kM m))) : Dw (upd H p o) d g c := by
  obtain ⟨n1, n2, n3⟩ := ne_kM D h
  obtain ⟨⟨gs, cs, r, t, hd, hg, hc⟩, gc⟩ := D
  exact ⟨⟨gs, cs, r, t, by rw [upd_ne n1.symm]; exact hd, by rw [upd_ne n2.symm]; exact hg, by rw [upd_ne n3.symm]; exact hc⟩, gc⟩
theorem W5.odd.upd {H : Hp} {p : Addr} {m n : W5} {o : HO} (x : n.odd H) (h : H p = some (.dK (kM m))) : n.odd (upd H p o) := x.keep fun a u ko e => by
  rw [upd_ne (ne_of e h (ko.ne_kM m))]
  exact e
theorem part_item {i : Nat} {x : V} (h : [V.str "way", V.str "still", V.str "hold", V.str "pins", V.str "guard"][i]? = some x) : ∃ q : Pn, x = .str q.nm := by
  match i, h with
  | 0, h => exact ⟨.way, (Option.some.inj h).symm⟩
  | 1, h => exact ⟨.still, (Option.some.inj h).symm⟩
  | 2, h => exact ⟨.hold, (Option.some.inj h).symm⟩
  | 3, h => exact ⟨.pins, (Option.some.inj h).symm⟩
  | 4, h => exact ⟨.guard, (Option.some.inj h).symm⟩
  | n + 5, h => simp at h
theorem few_item {i : Nat} {x : V} (h : [V.int 0, V.int 1, V.int 1, V.int 2][i]? = some x) : ∃ j : Int, x = .int j ∧ 0 ≤ j ∧ j ≤ 2 := by
  match i, h with
  | 0, h => exact ⟨0, (Option.some.inj h).symm, by decide, by decide⟩
  | 1, h => exact ⟨1, (Option.some.inj h).symm, by decide, by decide⟩
  | 2, h => exact ⟨1, (Option.some.inj h).symm, by decide, by decide⟩
  | 3, h => exact ⟨2, (Option.some.inj h).symm, by decide, by decide⟩
  | n + 4, h => simp at h
theorem nm_small (y : Pn) : (PyData.str y.nm).depth ≤ 64 ∧ (PyData.str y.nm).shown.length ≤ sizeLine := by cases y <;> exact ⟨by decide +kernel, by decide +kernel⟩
section
variable {P : Program} {w : World} {K : PySem.W.Frag} {mg : Str → Option Value} {base : Heap} {C B CT wA pA : Addr}
theorem ok_law {f fB0 fWy fR fM fP fO fB fD fS fDS fC cL pL : Addr} {fd fdB0 fdWy fdR fdM fdP fdO fdB fdD fdS fdDS : FuncData} {T : List (Addr × Str)} (F : FunC K "law" "law" sLaw f fd cL) (TT : TR K mg C wA pA) (TE : TB P w K mg base B fB fdB) (X : TX K mg B CT) (LC : TC K mg fC)
    (GB : FnOk P w K mg base CX0 2 fB0 fdB0 ["script"] (spBegin K)) (kB : PySem.W.keepIn K (.ref fB0) = true) (bB : L2.Binds K fdB0 ["script"] []) (gB : mg "_law_begin" = some (.ref fB0))
    (GW : FnOk P w K mg base CX0 5 fWy fdWy ["draw", "peak"] spWay) (kW : PySem.W.keepIn K (.ref fWy) = true) (bW : L2.Binds K fdWy ["draw", "peak"] []) (gW : mg "_law_way" = some (.ref fWy))
    (GR : FnG P w K mg base 9 fR fdR ["draw", "way", "told"] (spRight C T)) (kR : PySem.W.keepIn K (.ref fR) = true) (bR : L2.Binds K fdR ["draw", "way", "told"] []) (gR : mg "_law_with_right" = some (.ref fR))
    (GM : FnOk P w K mg base (L2.CX P w) 6 fM fdM ["mode"] (spMk C B)) (kMk : PySem.W.keepIn K (.ref fM) = true) (bM : L2.Binds K fdM ["mode"] []) (gM : mg "_law_rule" = some (.ref fM))
    (GP : FnOk P w K mg base CX0 4 fP fdP ["draw", "some"] spPick) (kP : PySem.W.keepIn K (.ref fP) = true) (bP : L2.Binds K fdP ["draw", "some"] []) (gP : mg "_law_pick" = some (.ref fP))
    (GO : FnOk P w K mg base CX0 5 fO fdO ["draw"] spOdd) (kO : PySem.W.keepIn K (.ref fO) = true) (bO : L2.Binds K fdO ["draw"] []) (gO : mg "_law_odd" = some (.ref fO))
    (GD : FnOk P w K mg base CX0 2 fD fdD ["mode"] spDue) (kD : PySem.W.keepIn K (.ref fD) = true) (bD : L2.Binds K fdD ["mode"] []) (gD : mg "_law_rule_due" = some (.ref fD))
    (GS : FnG P w K mg base 3 fS fdS ["told"] (spShown C)) (kS : PySem.W.keepIn K (.ref fS) = true) (bS : L2.Binds K fdS ["told"] []) (gS : mg "_law_shown_of" = some (.ref fS))
    (GDS : FnG P w K mg base 2 fDS fdDS ["way"] spDShown) (kDS : PySem.W.keepIn K (.ref fDS) = true) (bDS : L2.Binds K fdDS ["way"] []) (gDS : mg "_law_due_shown" = some (.ref fDS))
    (tb : TabB base mg cL pL) (hT : (pL, nmL) ∈ T) (hu1 : ∀ p ∈ T, p.1 = pL → p.2 = nmL) (mr : mg "repr" = none) (mg1 : mg "range" = none) (mm : mg "min" = none) (ml : mg "len" = none) : FnG P w K mg base 10 f fd ["script"] (spLaw2 K T) := by
  refine okGC F scLaw (fun vs H Q E h => ?_) (fun A outer s H vs Q E gd hr h => ?_)
  · obtain ⟨a, ns, rfl, _⟩ := h
    rfl
  · obtain ⟨a, ns, rfl, hS, hlen, htb, k⟩ := h
    obtain ⟨oc, od, kV, doc, pm, an, cdv, ct, osl, lkC, cdC⟩ := LC.ex
    have hu := hu_of hr
    have nd := scLaw.nd
    have hr2 : Room 2 _ := hr.mono (by decide)
    have hr3 : Room 3 _ := hr.mono (by decide)
    have hr4 : Room 4 _ := hr.mono (by decide)
    have hr5 : Room 5 _ := hr.mono (by decide)
    have hr6 : Room 6 _ := hr.mono (by decide)
    have hr8 : Room 8 _ := hr.mono (by decide)
    refine ⟨_, pss_cons (ps_set (i := 1) nd rfl (Or.inl rfl) (pe_call GB hr2 (by rfl) gB kB bB .nil pass0 (pa_cons (pv 0) pa_nil)))
      (pss_cons (ps_for PassesOwn.never rfl (pi_range1 rfl mg1 (pa_cons (pe_op op_add pe_int (pe_callB (call_min2 rfl) (by rfl) mm (by decide +kernel) (pa_cons (pe_callB call_len_seq (by rfl) ml PySem.boot_len (pa_cons (pv 0) pa_nil)) (pa_cons pe_int pa_nil)))) pa_nil)) (pg_name (i := 2) nd rfl (.inl rfl))
        (pss_cons (ps_set (i := 7) nd rfl (Or.inr rfl) (pe_call GW hr5 (by rfl) gW kW bW .nil pass0 (pa_cons (pv 1) (pa_cons pe_int pa_nil))))
        (pss_cons (ps_if (pt_not (pt_val (pe_callG GR gd hr (by rfl) gR kR bR .nil (pa_cons (pv 1) (pa_cons (pv 7) (pa_cons (pe_call GM hr6 (by rfl) gM kMk bM .nil passL (pa_cons (pv 7) pa_nil)) pa_nil)))))) (pss_one (ps_ret pe_bl)) pss_nil)
        (C8.pss_cut (ps_for PassesOwn.never rfl (pi_range1 rfl mg1 (pa_cons (pe_call GP hr4 (by rfl) gP kP bP .nil pass0 (pa_cons (pv 1) (pa_cons (pe_lst (pa_cons pe_int (pa_cons pe_int (pa_cons pe_int (pa_cons pe_int pa_nil))))) pa_nil))) pa_nil)) (pg_name (i := 3) nd rfl (.inl rfl))
          (pss_one (ps_dput hu (pv 7) (pe_call GP hr4 (by rfl) gP kP bP .nil pass0 (pa_cons (pv 1) (pa_cons (pe_lst (pa_cons pe_str (pa_cons pe_str (pa_cons pe_str (pa_cons pe_str (pa_cons pe_str pa_nil)))))) pa_nil))) (pe_call GO hr5 (by rfl) gO kO bO .nil pass0 (pa_cons (pv 1) pa_nil)) rfl)))
        (pss_cons (ps_asg (pe_tup (pa_cons (pe_call GD hr2 (by rfl) gD kD bD .nil pass0 (pa_cons (pv 7) pa_nil)) (pa_cons (pe_lst pa_nil) pa_nil))) (pg_tup (by rfl) (pgs_cons (pg_name (i := 4) nd rfl (.inl rfl)) (pgs_cons (pg_name (i := 6) nd rfl (.inr rfl)) pgs_nil))))
        (pss_cons (ps_set (i := 5) nd rfl (Or.inl rfl) (by exact (pe_lamcall (T := T) (k := 6) (TT := TTc K CT) (t := fun E => tBM K "list" rAppend (tVar 6) (tCons (tCall (spMk C B) [] E (tCons (tVar 7) tNil)) tNil)) (by rfl) LC.m LC.k lkC cdC (Binds.all fun us hl => match us, hl with | [_], _ => rfl) scCaught rfl (Or.inl rfl)
          (caught_gives X.g) tb rfl hT hu1 hr8 (lamS_by (by rfl)) (by rfl) (fun _ _ _ _ _ => rfl)
          (fun A' outer' s' H' E' f' c' hr' => by exact pe_bm PySem.F.plainAttrs_list PySem.F.slot_list_append PySem.F.type_list_append mt_append (pv 6) (pa_cons (pe_call GM hr' (by rfl) gM kMk bM .nil (by exact (passes_call (takes_of (E := E') rfl rfl rfl rfl) (fun _ _ _ _ q => q))) (pa_cons (pv 7) pa_nil)) pa_nil)))))
        (pss_cons (ps_if (PW.pt (pw_and (pt_cmpR (op_neD hr.units) (pv 4) (pe_lst pa_nil) (nomark _)) (pw_and1 (PW.pt (pw_or (pt_not (pt_val (pe_callB (call_isK X.ec X.cl) (by rfl) TT.isi boot_isinstance (pa_cons (pv 5) (pa_cons (pe_glob (v := .ref B) (by rfl) TE.g rfl) pa_nil)))))
          (pw_or1 (pt_cmpR op_ne (pe_callB (call_repr gd (by have := hr.un; show (A.deeper _).units + 66 < cLine; omega)) (by rfl) mr boot_repr (pa_cons (pe_fk X.xf X.no (pv 5)) pa_nil)) (pe_callB (call_repr gd (by have := hr.un; show (A.deeper _).units + 66 < cLine; omega)) (by rfl) mr boot_repr (pa_cons (pe_ix ix_list (pv 4) pe_int (fun _ _ => rfl)) pa_nil)) (nomark _)))))))) (pss_one (ps_ret pe_bl)) pss_nil)
        (pss_one (ps_if (PW.pt (pw_and (pt_cmpR (op_eqD hr.units) (pv 4) (pe_lst pa_nil) (nomark _)) (pw_and1 (PW.pt (pw_or (pt_cmp (pc_notN (pv 5)))
          (pw_or1 (pt_cmpR op_ne (pe_callG GS gd hr3 (by rfl) gS kS bS .nil (pa_cons (pe_ix ix_list (pv 6) pe_int (fun _ _ => rfl)) pa_nil)) (pe_callG GDS gd hr2 (by rfl) gDS kDS bDS .nil (pa_cons (pv 7) pa_nil)) (nomark _)))))))) (pss_one (ps_ret pe_bl)) pss_nil)))))))))
      (pss_one (ps_ret pe_bl))), ?_⟩
    have hS0 := hS
    -- draw
    refine ⟨_, rfl, a, ns, rfl, hS, hlen, fun d g c H1 s1 nd1 ng1 nc1 D1 => ?_⟩
    have tb1 : Tabs T H1 := fun p hp => .nil (s1 _ _ (htb p hp))
    refine ⟨_, rfl, a, _, rfl, .inl (s1.seq hS), _, _, rfl, _, _, rfl, rfl, _, rfl, ?_, ?_, ?_⟩
    · split <;> omega
    · rw [List.length_map]
      split <;> omega
    refine for_range (lo := 0) (fun i σ H' => ∃ v2 v3 v4 v5 v6 v7, σ = [some (.ref a), some (.ref d), v2, v3, v4, v5, v6, v7] ∧ Dw H' d g c ∧ Tabs T H') ⟨_, _, _, _, _, _, rfl, D1, tb1⟩ ?_ (fun σ H' ⟨v2, v3, v4, v5, v6, v7, e, _⟩ => k H')
    rintro i σ H2 hi ⟨v2, v3, v4, v5, v6, v7, rfl, D2, tb2⟩
    -- way_here
    refine ⟨_, rfl, d, g, c, rfl, D2, fun p r H3 okr np hp3 D3' fr3 => ?_⟩
    have tb3 := tabs_fr2 tb2 D2 fr3
    -- with a part
    refine ⟨_, rfl, _, rfl, _, rfl, p, W5.of r, rfl, hp3, .of r, (fun y due => by rw [due_of okr] at due; cases due), fun r' hm okr' x H4 nx hx s4 => ?_⟩
    obtain rfl := of_inj hm
    refine ⟨d, g, c, p, x, r, rfl, D3'.same s4, s4 _ _ hp3, hx, okr, tabs_same tb3 s4, fun H5 D5 fr5 tb5 => ⟨true, rfl, ifN ?_⟩⟩
    have hp5 : H5 p = some (.dK (kM (W5.of r))) := by
      obtain ⟨n1, n2, n3⟩ := ne_kM D3' hp3
      exact fr5 _ _ n1 n2 (s4 _ _ hp3) (fun _ z => nomatch z)
    clear fr5 hx nx s4 tb3 fr3 hp3 np
    -- the changes
    refine ⟨fun σ H' => ∃ v3 m, σ = [some (.ref a), some (.ref d), some (.int (0 + (i : Int))), v3, v4, v5, v6, some (.ref p)] ∧ Dw H' d g c ∧ Tabs T H' ∧ H' p = some (.dK (kM m)) ∧ m.odd H', ?_, ?_⟩
    · refine ⟨_, rfl, (by show 4 ≤ sizeLine; decide), fun l nl => ?_⟩
      have sl := same_upd (o := .lst [V.int 0, V.int 1, V.int 1, V.int 2]) nl
      have lg : l ≠ g := fun e => by
        obtain ⟨⟨gs, cs, r, t, hd, hg, hc⟩, _⟩ := id D5
        rw [e, hg] at nl; cases nl
      refine ⟨d, g, c, l, _, rfl, D5.same sl, upd_same, lg, (fun z => by cases z), (by show 4 < 1000; decide), fun i2 x H6 hx D6 fr6 => ?_⟩
      obtain ⟨j, rfl, j0, j2⟩ := few_item hx
      have hp6 : H6 p = some (.dK (kM (W5.of r))) := by
        obtain ⟨n1, n2, n3⟩ := ne_kM D5 hp5
        exact fr6 _ _ n1 n2 (sl _ _ hp5)
      refine ⟨j, rfl, by omega, by omega, ?_⟩
      refine for_range (lo := 0) (fun i2 σ H' => ∃ v3 m, σ = [some (.ref a), some (.ref d), some (.int (0 + (i : Int))), v3, v4, v5, v6, some (.ref p)] ∧ Dw H' d g c ∧ Tabs T H' ∧ H' p = some (.dK (kM m)) ∧ m.odd H')
        ⟨_, _, rfl, D6, tabs_fr2 (tabs_same tb5 sl) (D5.same sl) fr6, hp6, .of r⟩ ?_ (fun σ H' h => h)
      rintro i3 σ H7 hi3 ⟨v3', m, rfl, D7, tb7, hp7, om⟩
      refine ⟨_, rfl, d, g, c, rfl, D7, fun wv H8 ow D8 fr8 => ?_⟩
      refine ⟨_, rfl, _, rfl, (by show 5 ≤ sizeLine; decide), fun l2 nl2 => ?_⟩
      have sl2 := same_upd (o := .lst [V.str "way", V.str "still", V.str "hold", V.str "pins", V.str "guard"]) nl2
      have lg2 : l2 ≠ g := fun e => by
        obtain ⟨⟨gs, cs, r, t, hd, hg, hc⟩, _⟩ := id D8
        rw [e, hg] at nl2; cases nl2
      refine ⟨d, g, c, l2, _, rfl, D8.same sl2, upd_same, lg2, (fun z => by cases z), (by show 5 < 1000; decide), fun i4 x H9 hx D9 fr9 => ?_⟩
      obtain ⟨q, rfl⟩ := part_item hx
      have hp8 : H8 p = some (.dK (kM m)) := by
        obtain ⟨n1, n2, n3⟩ := ne_kM D7 hp7
        exact fr8 _ _ n1 n2 hp7
      have hp9 : H9 p = some (.dK (kM m)) := by
        obtain ⟨n1, n2, n3⟩ := ne_kM D8 hp8
        exact fr9 _ _ n1 n2 (sl2 _ _ hp8)
      have ow9 := (ow.same sl2).fr2 (D8.same sl2) fr9
      have om9 : m.odd H9 := ((om.fr2 D7 fr8).same sl2).fr2 (D8.same sl2) fr9
      refine ⟨p, _, rfl, dp_of hp9 (kM_put m wv q) (kM_len _), ?_⟩
      exact ⟨_, m.put wv q, rfl, dw_put D9 hp9, tabs_updD (tabs_fr2 (tabs_same (tabs_fr2 tb7 D7 fr8) sl2) (D8.same sl2) fr9) hp9, upd_same, (om9.put ow9 q).upd hp9⟩
    rintro σ H6 ⟨v3', m, rfl, D6, tb6, hp6, om6⟩
    clear D5 tb5 hp5
    -- due, got
    refine ⟨_, rfl, p, m, rfl, hp6, om6, fun l2 H7 nl2 hl2 s7 => ⟨(by show 0 ≤ sizeLine; decide), fun gl ngl => ⟨(by show 2 ≤ sizeLine; decide), fun tp ntp => ?_⟩⟩⟩
    refine ⟨tp, _, rfl, SqT.of upd_same, rfl, _, _, rfl, _, _, rfl, rfl, ?_⟩
    have s8 := s7.trans ((same_upd (o := .lst []) ngl).trans (same_upd (o := .tup [V.ref l2, V.ref gl]) ntp))
    have hgl8 : (upd (upd H7 gl (.lst [])) tp (.tup [V.ref l2, V.ref gl])) gl = some (.lst []) := same_upd ntp _ _ upd_same
    have hl8 : (upd (upd H7 gl (.lst [])) tp (.tup [V.ref l2, V.ref gl])) l2 = some (.lst (dueL m)) := ((same_upd (o := .lst []) ngl).trans (same_upd (o := .tup [V.ref l2, V.ref gl]) ntp)) _ _ hl2
    have ngl6 : gl ≠ d ∧ gl ≠ g ∧ gl ≠ c := by
      obtain ⟨⟨gs, cs, r, t, hd, hg, hc⟩, _⟩ := id (D6.same s7)
      exact ⟨(fun e => by rw [e, hd] at ngl; cases ngl), (fun e => by rw [e, hg] at ngl; cases ngl), (fun e => by rw [e, hc] at ngl; cases ngl)⟩
    have lne : l2 ≠ gl := fun e => by rw [e, ngl] at hl2; cases hl2
    revert s8 hgl8 hl8
    generalize upd (upd H7 gl (.lst [])) tp (.tup [V.ref l2, V.ref gl]) = H8
    intro s8 hgl8 hl8
    have D8 := D6.same s8
    have tb8 := tabs_same tb6 s8
    have hp8 := s8 _ _ hp6
    have om8 := om6.same s8
    clear D6 tb6 hp6 om6 s8 hl2 ngl ntp nl2 s7
    -- error
    refine ⟨tb8, fun H9 ext tb9 => ?_⟩
    have D9 := dw_ext D8 ext
    have hp9 := ext _ _ hp8 (fun _ z => nomatch z)
    have om9 := om8.keep (OddO.keepN ext)
    have hgl9 := ext _ _ hgl8 (fun _ z => nomatch z)
    have hl9 := ext _ _ hl8 (fun _ z => nomatch z)
    refine ⟨_, rfl, .inl ⟨rfl, _, SqL.of hgl9⟩, _, rfl, p, m, rfl, hp9, om9, fun y due dd H10 ndd hdd s10 => ⟨X.exm, fun e ne => ?_⟩, fun r' hm okr' a2 H10 na ha s10 => ?_⟩
    · -- refused
      have s11 := s10.trans (same_upd (o := ExK (.ref B) (some dd) e) ne)
      have he : (upd H10 e (ExK (.ref B) (some dd) e)) e = some (ExK (.ref B) (some dd) e) := upd_same
      have hd11 : (upd H10 e (ExK (.ref B) (some dd) e)) dd = some (.xd [("part", .str y.nm)]) := same_upd ne _ _ hdd
      revert s11 he hd11
      generalize upd H10 e (ExK (.ref B) (some dd) e) = H11
      intro s11 he hd11
      have hl11 := s11 _ _ hl9
      rw [dueL_some due] at hl11
      have D11 := D9.same s11
      have tb11 := tabs_same tb9 s11
      refine ⟨_, rfl, (by show 0 ≤ sizeLine; decide), fun p2 np2 => ?_⟩
      have s12 := same_upd (o := .lst []) np2
      refine ⟨_, _, .lst (SqL.of (s12 _ _ hl11)) (.cons (.str _) .nil), .lst (SqL.of upd_same) .nil, shaped_nm y, by decide +kernel, _, rfl, ?_⟩
      rw [show PyData.eqv (.list [.str y.nm]) (.list []) = false by simp [PyData.eqv, PyData.eqvAll]]
      refine iteT ?_
      refine ⟨_, rfl, e, some dd, [("part", .str y.nm)], .ref B, _, true, rfl, s12 _ _ he, .inr ⟨dd, rfl, s12 _ _ hd11⟩, .own B, X.kit, true, rfl, ifN ?_⟩
      refine ⟨_, rfl, e, some dd, _, .str y.nm, rfl, s12 _ _ he, .inr ⟨dd, rfl, s12 _ _ hd11⟩, rfl, ?_⟩
      obtain ⟨z1, z2⟩ := nm_small y
      refine ⟨_, .str y.nm, rfl, .str _, rfl, rfl, z1, z2, ?_⟩
      refine ⟨_, rfl, l2, _, 0, _, rfl, rfl, SqL.of (s12 _ _ hl11), at_of (j := 0) rfl rfl, ?_⟩
      refine ⟨_, .str y.nm, rfl, .str _, rfl, rfl, z1, z2, rfl, _, rfl, ?_⟩
      refine ite2 (fun z => absurd z (by simp)) (fun _ => ?_)
      -- due == []
      refine ⟨_, rfl, (by show 0 ≤ sizeLine; decide), fun p3 np3 => ?_⟩
      have s13 := s12.trans (same_upd (o := .lst []) np3)
      refine ⟨_, _, .lst (SqL.of (s13 _ _ hl11)) (.cons (.str _) .nil), .lst (SqL.of upd_same) .nil, shaped_nm y, by decide +kernel, _, rfl, ?_⟩
      rw [show PyData.eqv (.list [.str y.nm]) (.list []) = false by simp [PyData.eqv, PyData.eqvAll]]
      exact ⟨_, _, _, _, _, _, rfl, D11.same s13, tabs_same tb11 s13⟩
    · -- made
      subst hm
      refine ⟨gl, [], _, rfl, rfl, s10 _ _ hgl9, (by show 0 < sizeLine; decide), ?_⟩
      have hgl10 := s10 _ _ hgl9
      have D10 := D9.same s10
      have tb10 := tabs_same tb9 s10
      have hp10 := s10 _ _ hp9
      have hl10 := s10 _ _ hl9
      rw [dueL_none (due_of okr')] at hl10
      have D11 : Dw (upd H10 gl (.lst [V.ref a2])) d g c := by
        obtain ⟨⟨gs, cs, rr, tn, hd, hg, hc⟩, gc⟩ := D10
        exact ⟨⟨gs, cs, rr, tn, by rw [upd_ne ngl6.1.symm]; exact hd, by rw [upd_ne ngl6.2.1.symm]; exact hg, by rw [upd_ne ngl6.2.2.symm]; exact hc⟩, gc⟩
      have tb11 : Tabs T (upd H10 gl (.lst [V.ref a2])) := tabs_upd tb10 hgl10
      have ha11 : RuleAt C (upd H10 gl (.lst [V.ref a2])) a2 r' := by
        obtain ⟨dy, ha⟩ := ha
        exact ⟨dy, by rw [upd_ne (ne_of ha hgl10 (fun z => nomatch z))]; exact ha⟩
      have hp11 : (upd H10 gl (.lst [V.ref a2])) p = some (.dK (kM (W5.of r'))) := by rw [upd_ne (ne_of hp10 hgl10 (fun z => nomatch z))]; exact hp10
      have hl11 : (upd H10 gl (.lst [V.ref a2])) l2 = some (.lst []) := by rw [upd_ne lne]; exact hl10
      have hgl11 : (upd H10 gl (.lst [V.ref a2])) gl = some (.lst [V.ref a2]) := upd_same
      show (_ : Prop)
      rw [show ([] : List V) ++ [V.ref a2] = [V.ref a2] from rfl]
      revert D11 tb11 ha11 hp11 hl11 hgl11
      generalize upd H10 gl (.lst [V.ref a2]) = H11
      intro D11 tb11 ha11 hp11 hl11 hgl11
      refine ⟨_, rfl, (by show 0 ≤ sizeLine; decide), fun p2 np2 => ?_⟩
      have s12 := same_upd (o := .lst []) np2
      refine ⟨_, _, .lst (SqL.of (s12 _ _ hl11)) .nil, .lst (SqL.of upd_same) .nil, by decide +kernel, by decide +kernel, _, rfl, ?_⟩
      rw [show PyData.eqv (.list []) (.list []) = true by simp [PyData.eqv, PyData.eqvAll]]
      refine iteF ?_
      -- due == []
      refine ⟨_, rfl, (by show 0 ≤ sizeLine; decide), fun p3 np3 => ?_⟩
      have s13 := s12.trans (same_upd (o := .lst []) np3)
      refine ⟨_, _, .lst (SqL.of (s13 _ _ hl11)) .nil, .lst (SqL.of upd_same) .nil, by decide +kernel, by decide +kernel, _, rfl, ?_⟩
      rw [show PyData.eqv (.list []) (.list []) = true by simp [PyData.eqv, PyData.eqvAll]]
      refine iteT ?_
      refine ⟨_, rfl, _, rfl, iteF ?_⟩
      refine ⟨_, rfl, gl, _, 0, _, rfl, rfl, SqL.of (s13 _ _ hgl11), at_of (j := 0) rfl rfl, a2, r', rfl, ha11.same s13, okr', fun H14 s14 => ?_⟩
      have s15 := s13.trans s14
      refine ⟨_, rfl, p, r', rfl, s15 _ _ hp11, okr', fun H15 s16 => ⟨rfl, _, rfl, ?_⟩⟩
      refine ite2 (fun z => absurd z (by simp)) (fun _ => ?_)
      have s17 := s15.trans s16
      exact ⟨_, _, _, _, _, _, rfl, D11.same s17, tabs_same tb11 s17⟩
end
end D3

namespace D3
open PySem PySem.Spec PyProof.Rows L2 Dr Gd Oe LamX Ek
theorem scPway : FnScope ["self"] ["self"] (defScope (inClass (topS 12) 1)) := ⟨rfl, rfl, rfl, by decide +kernel, rfl, by decide +kernel, by decide +kernel⟩
theorem scPstill : FnScope ["self"] ["self"] (defScope (inClass (topS 12) 2)) := ⟨rfl, rfl, rfl, by decide +kernel, rfl, by decide +kernel, by decide +kernel⟩
theorem scPhold : FnScope ["self"] ["self"] (defScope (inClass (topS 12) 3)) := ⟨rfl, rfl, rfl, by decide +kernel, rfl, by decide +kernel, by decide +kernel⟩
theorem scPpins : FnScope ["self"] ["self"] (defScope (inClass (topS 12) 4)) := ⟨rfl, rfl, rfl, by decide +kernel, rfl, by decide +kernel, by decide +kernel⟩
theorem scPguard : FnScope ["self"] ["self"] (defScope (inClass (topS 12) 5)) := ⟨rfl, rfl, rfl, by decide +kernel, rfl, by decide +kernel, by decide +kernel⟩
theorem kit_self {K : PySem.W.Frag} {t : Value} : PySem.W.kitOne K t t = some true := by
  unfold PySem.W.kitOne
  rw [if_pos (beq_self_eq_true t)]
theorem tabIn2 {K : PySem.W.Frag} {x : Str} {f c P : Addr} {oc e : Value} {od dd : Option Addr} {fd : FuncData} {sl s2 : Array (Option Value)} {vs : Array Value} (h1 : PySem.W.nsIn K mainGlobals x = some (some (.ref f))) (h2 : K.lookup f = some ⟨oc, od, .func fd, sl⟩) (h3 : fd.code = .ref c)
    (h4 : K.lookup c = some ⟨e, dd, .fields vs, s2⟩) (h5 : (vs[11]? : Option Value) = some (.ref P)) : PySem.W.tabIn K x = some (c, P) := by
  unfold PySem.W.tabIn
  rw [h1]
  simp only [h2, h3, h4, h5]
/-- what the top has left (each fact by k_is), the law's own promise -/
theorem all_mk {l : PySem.W.OpenLaw} {w : World} {K : PySem.W.Frag} {h : Heap} {mg : Str → Option Value} {fa CR E ER wA pA cW pW cL pL fCop fIsn fNum fOne fBeg fBle fTak fPic fCau fWay fMkr fInt fDue fSho fDsh fOdd fRig fLaw fRI fRW fRE fBI pPway fPway pPstill fPstill pPhold fPhold pPpins fPpins pPguard fPguard : Addr}
    {ocCop kVCop dcCop pmCop ctCop cdCop ocIsn kVIsn dcIsn pmIsn ctIsn cdIsn ocNum kVNum dcNum pmNum ctNum cdNum ocOne kVOne dcOne pmOne ctOne cdOne ocBeg kVBeg dcBeg pmBeg ctBeg cdBeg ocBle kVBle dcBle pmBle ctBle cdBle ocTak kVTak dcTak pmTak ctTak cdTak ocPic kVPic dcPic pmPic ctPic cdPic ocCau kVCau dcCau pmCau ctCau cdCau ocWay kVWay dcWay pmWay ctWay cdWay ocMkr kVMkr dcMkr pmMkr ctMkr cdMkr ocInt kVInt dcInt pmInt ctInt cdInt ocDue kVDue dcDue pmDue ctDue cdDue ocSho kVSho dcSho pmSho ctSho cdSho ocDsh kVDsh dcDsh pmDsh ctDsh cdDsh ocOdd kVOdd dcOdd pmOdd ctOdd cdOdd ocRig kVRig dcRig pmRig ctRig ecW ocLaw kVLaw dcLaw pmLaw ctLaw ecL ocRI kVRI dcRI pmRI ctRI cdRI ocRW kVRW dcRW pmRW ctRW cdRW ocRE kVRE dcRE pmRE ctRE cdRE ocBI kVBI dcBI pmBI ctBI cdBI ocPway kVPway dcPway pmPway cdPway ctPway ocPstill kVPstill dcPstill pmPstill cdPstill ctPstill ocPhold kVPhold dcPhold pmPhold cdPhold ctPhold ocPpins kVPpins dcPpins pmPpins cdPpins ctPpins ocPguard kVPguard dcPguard pmPguard cdPguard ctPguard : Value}
    {odCop anCop odIsn anIsn odNum anNum odOne anOne odBeg anBeg odBle anBle odTak anTak odPic anPic odCau anCau odWay anWay odMkr anMkr odInt anInt odDue anDue odSho anSho odDsh anDsh odOdd anOdd odRig anRig ddW odLaw anLaw ddL odRI anRI odRW anRW odRE anRE odBI anBI odPway anPway odPstill anPstill odPhold anPhold odPpins anPpins odPguard anPguard odW odP : Option Addr} {slCop slIsn slNum slOne slBeg slBle slTak slPic slCau slWay slMkr slInt slDue slSho slDsh slOdd slRig scW slLaw scL slRI slRW slRE slBI slPway slPstill slPhold slPpins slPguard slW slP : Array (Option Value)} {rePway rePstill rePhold rePpins rePguard : List Value} {u1 u2 u3 v1 v2 v3 v4 v5 w0 w1 : Tok} {nuW nuP : Nat} {vcW : Array Value} {vcL : Array Value}
    {nmE : Str} {qE : Str} {NE : Addr} {bsE : List Value} {snE : List Str} {subE : List Value} {abE : Bool} {colE : Option Bool} {ddE : Option Addr} {m0E : Option Value} {m1E : Option Value} {m2E : Option Value} {m3E : Option Value} {m5E : Option Value}
    (X : K.In h) (G : h.Ns mainGlobals mg) (hfa : mg "law" = some (.ref fa)) (tabL : ∀ (c P : Addr), PySem.W.tabIn K "law" = some (c, P) → PySem.W.CodeHd h c P ∧ h.get? P = some { cls := .none, data := .fields #[] }) (tabW : ∀ (c P : Addr), PySem.W.tabIn K "_law_with_right" = some (c, P) → PySem.W.CodeHd h c P ∧ h.get? P = some { cls := .none, data := .fields #[] })
    (aCop : PySem.W.nsIn K mainGlobals "copied" = some (some (.ref fCop)))
    (lCop : K.lookup fCop = some ⟨ocCop, odCop, .func (PySem.W.fnOf "copied" "copied" (defArgs sCopied) (defBody sCopied) (defScope sCopied) .none kVCop dcCop pmCop anCop cdCop ctCop), slCop⟩)
    (cCop : PySem.W.codeIn K cdCop "copied" = true)
    (kCop : PySem.W.keepIn K (.ref fCop) = true)
    (aIsn : PySem.W.nsIn K mainGlobals "is_number" = some (some (.ref fIsn)))
    (lIsn : K.lookup fIsn = some ⟨ocIsn, odIsn, .func (PySem.W.fnOf "is_number" "is_number" (defArgs sIsn) (defBody sIsn) (defScope sIsn) .none kVIsn dcIsn pmIsn anIsn cdIsn ctIsn), slIsn⟩)
    (cIsn : PySem.W.codeIn K cdIsn "is_number" = true)
    (kIsn : PySem.W.keepIn K (.ref fIsn) = true)
    (aNum : PySem.W.nsIn K mainGlobals "is_number_within" = some (some (.ref fNum)))
    (lNum : K.lookup fNum = some ⟨ocNum, odNum, .func (PySem.W.fnOf "is_number_within" "is_number_within" (defArgs sNum) (defBody sNum) (defScope sNum) .none kVNum dcNum pmNum anNum cdNum ctNum), slNum⟩)
    (cNum : PySem.W.codeIn K cdNum "is_number_within" = true)
    (kNum : PySem.W.keepIn K (.ref fNum) = true)
    (aOne : PySem.W.nsIn K mainGlobals "is_one_of" = some (some (.ref fOne)))
    (lOne : K.lookup fOne = some ⟨ocOne, odOne, .func (PySem.W.fnOf "is_one_of" "is_one_of" (defArgs sOne) (defBody sOne) (defScope sOne) .none kVOne dcOne pmOne anOne cdOne ctOne), slOne⟩)
    (cOne : PySem.W.codeIn K cdOne "is_one_of" = true)
    (kOne : PySem.W.keepIn K (.ref fOne) = true)
    (aBeg : PySem.W.nsIn K mainGlobals "_law_begin" = some (some (.ref fBeg)))
    (lBeg : K.lookup fBeg = some ⟨ocBeg, odBeg, .func (PySem.W.fnOf "_law_begin" "_law_begin" (defArgs sBegin) (defBody sBegin) (defScope sBegin) .none kVBeg dcBeg pmBeg anBeg cdBeg ctBeg), slBeg⟩)
    (cBeg : PySem.W.codeIn K cdBeg "_law_begin" = true)
    (kBeg : PySem.W.keepIn K (.ref fBeg) = true)
    (aBle : PySem.W.nsIn K mainGlobals "_law_blend" = some (some (.ref fBle)))
    (lBle : K.lookup fBle = some ⟨ocBle, odBle, .func (PySem.W.fnOf "_law_blend" "_law_blend" (defArgs sBlend) (defBody sBlend) (defScope sBlend) .none kVBle dcBle pmBle anBle cdBle ctBle), slBle⟩)
    (cBle : PySem.W.codeIn K cdBle "_law_blend" = true)
    (kBle : PySem.W.keepIn K (.ref fBle) = true)
    (aTak : PySem.W.nsIn K mainGlobals "_law_take" = some (some (.ref fTak)))
    (lTak : K.lookup fTak = some ⟨ocTak, odTak, .func (PySem.W.fnOf "_law_take" "_law_take" (defArgs sTake) (defBody sTake) (defScope sTake) .none kVTak dcTak pmTak anTak cdTak ctTak), slTak⟩)
    (cTak : PySem.W.codeIn K cdTak "_law_take" = true)
    (kTak : PySem.W.keepIn K (.ref fTak) = true)
    (aPic : PySem.W.nsIn K mainGlobals "_law_pick" = some (some (.ref fPic)))
    (lPic : K.lookup fPic = some ⟨ocPic, odPic, .func (PySem.W.fnOf "_law_pick" "_law_pick" (defArgs sPick) (defBody sPick) (defScope sPick) .none kVPic dcPic pmPic anPic cdPic ctPic), slPic⟩)
    (cPic : PySem.W.codeIn K cdPic "_law_pick" = true)
    (kPic : PySem.W.keepIn K (.ref fPic) = true)
    (aCau : PySem.W.nsIn K mainGlobals "_law_caught" = some (some (.ref fCau)))
    (lCau : K.lookup fCau = some ⟨ocCau, odCau, .func (PySem.W.fnOf "_law_caught" "_law_caught" (defArgs sCaught) (defBody sCaught) (defScope sCaught) .none kVCau dcCau pmCau anCau cdCau ctCau), slCau⟩)
    (cCau : PySem.W.codeIn K cdCau "_law_caught" = true)
    (kCau : PySem.W.keepIn K (.ref fCau) = true)
    (aWay : PySem.W.nsIn K mainGlobals "_law_way" = some (some (.ref fWay)))
    (lWay : K.lookup fWay = some ⟨ocWay, odWay, .func (PySem.W.fnOf "_law_way" "_law_way" (defArgs sWay) (defBody sWay) (defScope sWay) .none kVWay dcWay pmWay anWay cdWay ctWay), slWay⟩)
    (cWay : PySem.W.codeIn K cdWay "_law_way" = true)
    (kWay : PySem.W.keepIn K (.ref fWay) = true)
    (aMkr : PySem.W.nsIn K mainGlobals "_law_rule" = some (some (.ref fMkr)))
    (lMkr : K.lookup fMkr = some ⟨ocMkr, odMkr, .func (PySem.W.fnOf "_law_rule" "_law_rule" (defArgs sMk) (defBody sMk) (defScope sMk) .none kVMkr dcMkr pmMkr anMkr cdMkr ctMkr), slMkr⟩)
    (cMkr : PySem.W.codeIn K cdMkr "_law_rule" = true)
    (kMkr : PySem.W.keepIn K (.ref fMkr) = true)
    (aInt : PySem.W.nsIn K mainGlobals "_law_is_int" = some (some (.ref fInt)))
    (lInt : K.lookup fInt = some ⟨ocInt, odInt, .func (PySem.W.fnOf "_law_is_int" "_law_is_int" (defArgs sInt) (defBody sInt) (defScope sInt) .none kVInt dcInt pmInt anInt cdInt ctInt), slInt⟩)
    (cInt : PySem.W.codeIn K cdInt "_law_is_int" = true)
    (kInt : PySem.W.keepIn K (.ref fInt) = true)
    (aDue : PySem.W.nsIn K mainGlobals "_law_rule_due" = some (some (.ref fDue)))
    (lDue : K.lookup fDue = some ⟨ocDue, odDue, .func (PySem.W.fnOf "_law_rule_due" "_law_rule_due" (defArgs sDue) (defBody sDue) (defScope sDue) .none kVDue dcDue pmDue anDue cdDue ctDue), slDue⟩)
    (cDue : PySem.W.codeIn K cdDue "_law_rule_due" = true)
    (kDue : PySem.W.keepIn K (.ref fDue) = true)
    (aSho : PySem.W.nsIn K mainGlobals "_law_shown_of" = some (some (.ref fSho)))
    (lSho : K.lookup fSho = some ⟨ocSho, odSho, .func (PySem.W.fnOf "_law_shown_of" "_law_shown_of" (defArgs sShown) (defBody sShown) (defScope sShown) .none kVSho dcSho pmSho anSho cdSho ctSho), slSho⟩)
    (cSho : PySem.W.codeIn K cdSho "_law_shown_of" = true)
    (kSho : PySem.W.keepIn K (.ref fSho) = true)
    (aDsh : PySem.W.nsIn K mainGlobals "_law_due_shown" = some (some (.ref fDsh)))
    (lDsh : K.lookup fDsh = some ⟨ocDsh, odDsh, .func (PySem.W.fnOf "_law_due_shown" "_law_due_shown" (defArgs sDShown) (defBody sDShown) (defScope sDShown) .none kVDsh dcDsh pmDsh anDsh cdDsh ctDsh), slDsh⟩)
    (cDsh : PySem.W.codeIn K cdDsh "_law_due_shown" = true)
    (kDsh : PySem.W.keepIn K (.ref fDsh) = true)
    (aOdd : PySem.W.nsIn K mainGlobals "_law_odd" = some (some (.ref fOdd)))
    (lOdd : K.lookup fOdd = some ⟨ocOdd, odOdd, .func (PySem.W.fnOf "_law_odd" "_law_odd" (defArgs sOdd) (defBody sOdd) (defScope sOdd) .none kVOdd dcOdd pmOdd anOdd cdOdd ctOdd), slOdd⟩)
    (cOdd : PySem.W.codeIn K cdOdd "_law_odd" = true)
    (kOdd : PySem.W.keepIn K (.ref fOdd) = true)
    (aRig : PySem.W.nsIn K mainGlobals "_law_with_right" = some (some (.ref fRig)))
    (lRig : K.lookup fRig = some ⟨ocRig, odRig, .func (PySem.W.fnOf "_law_with_right" "_law_with_right" (defArgs sRight) (defBody sRight) (defScope sRight) .none kVRig dcRig pmRig anRig (.ref cW) ctRig), slRig⟩)
    (cRig : PySem.W.codeIn K (.ref cW) "_law_with_right" = true)
    (kRig : PySem.W.keepIn K (.ref fRig) = true)
    (oW : K.lookup cW = some ⟨ecW, ddW, .fields vcW, scW⟩)
    (vW : (vcW[11]? : Option Value) = some (.ref pW))
    (nW : K.lookup pW = none)
    (aLaw : PySem.W.nsIn K mainGlobals "law" = some (some (.ref fLaw)))
    (lLaw : K.lookup fLaw = some ⟨ocLaw, odLaw, .func (PySem.W.fnOf "law" "law" (defArgs sLaw) (defBody sLaw) (defScope sLaw) .none kVLaw dcLaw pmLaw anLaw (.ref cL) ctLaw), slLaw⟩)
    (cLaw : PySem.W.codeIn K (.ref cL) "law" = true)
    (kLaw : PySem.W.keepIn K (.ref fLaw) = true)
    (oL : K.lookup cL = some ⟨ecL, ddL, .fields vcL, scL⟩)
    (vL : (vcL[11]? : Option Value) = some (.ref pL))
    (nL : K.lookup pL = none)
    (aRI : PySem.W.findIn K (.ref CR) "__init__" = some (some (.ref fRI)))
    (iRI : PySem.W.isFn K (.ref fRI) = true)
    (lRI : K.lookup fRI = some ⟨ocRI, odRI, .func (PySem.W.fnOf "__init__" "Rule.__init__" (defArgs sRI) (defBody sRI) (defScope sRI) .none kVRI dcRI pmRI anRI cdRI ctRI), slRI⟩)
    (cRI : PySem.W.codeIn K cdRI "Rule.__init__" = true)
    (kRI : PySem.W.keepIn K (.ref fRI) = true)
    (aRW : PySem.W.findIn K (.ref CR) "with_part" = some (some (.ref fRW)))
    (iRW : PySem.W.isFn K (.ref fRW) = true)
    (lRW : K.lookup fRW = some ⟨ocRW, odRW, .func (PySem.W.fnOf "with_part" "Rule.with_part" (defArgs sRW) (defBody sRW) (defScope sRW) .none kVRW dcRW pmRW anRW cdRW ctRW), slRW⟩)
    (cRW : PySem.W.codeIn K cdRW "Rule.with_part" = true)
    (kRW : PySem.W.keepIn K (.ref fRW) = true)
    (aRE : PySem.W.findIn K (.ref CR) "__eq__" = some (some (.ref fRE)))
    (iRE : PySem.W.isFn K (.ref fRE) = true)
    (lRE : K.lookup fRE = some ⟨ocRE, odRE, .func (PySem.W.fnOf "__eq__" "Rule.__eq__" (defArgs sRE) (defBody sRE) (defScope sRE) .none kVRE dcRE pmRE anRE cdRE ctRE), slRE⟩)
    (cRE : PySem.W.codeIn K cdRE "Rule.__eq__" = true)
    (kRE : PySem.W.keepIn K (.ref fRE) = true)
    (aBI : PySem.W.findIn K (.ref E) "__init__" = some (some (.ref fBI)))
    (iBI : PySem.W.typeIn K (.ref fBI) = some (.type "function"))
    (lBI : K.lookup fBI = some ⟨ocBI, odBI, .func (PySem.W.fnOf "__init__" "BadRule.__init__" (defArgs sBadI) (defBody sBadI) (defScope sBadI) .none kVBI dcBI pmBI anBI cdBI ctBI), slBI⟩)
    (cBI : PySem.W.codeIn K cdBI "BadRule.__init__" = true)
    (kBI : PySem.W.keepIn K (.ref fBI) = true)
    (npq : pW ≠ pL)
    (aPway : PySem.W.findIn K (.ref CR) "way" = some (some (.ref pPway)))
    (gPway : PySem.W.specialIn K (.ref pPway) "__get__" = some (some (.builtin "property.__get__")))
    (tPway : PySem.W.takesIn K (.ref pPway) = some true)
    (rPway : PySem.W.recIn K pPway "property" = some (.ref fPway :: rePway))
    (lPway : K.lookup fPway = some ⟨ocPway, odPway, .func (PySem.W.fnOf "way" "Rule.way" (defArgs (inClass (topS 12) 1)) (defBody (inClass (topS 12) 1)) (defScope (inClass (topS 12) 1)) .none kVPway dcPway pmPway anPway cdPway ctPway), slPway⟩)
    (cPway : PySem.W.codeIn K cdPway "Rule.way" = true)
    (kPway : PySem.W.keepIn K (.ref fPway) = true)
    (aPstill : PySem.W.findIn K (.ref CR) "still" = some (some (.ref pPstill)))
    (gPstill : PySem.W.specialIn K (.ref pPstill) "__get__" = some (some (.builtin "property.__get__")))
    (tPstill : PySem.W.takesIn K (.ref pPstill) = some true)
    (rPstill : PySem.W.recIn K pPstill "property" = some (.ref fPstill :: rePstill))
    (lPstill : K.lookup fPstill = some ⟨ocPstill, odPstill, .func (PySem.W.fnOf "still" "Rule.still" (defArgs (inClass (topS 12) 2)) (defBody (inClass (topS 12) 2)) (defScope (inClass (topS 12) 2)) .none kVPstill dcPstill pmPstill anPstill cdPstill ctPstill), slPstill⟩)
    (cPstill : PySem.W.codeIn K cdPstill "Rule.still" = true)
    (kPstill : PySem.W.keepIn K (.ref fPstill) = true)
    (aPhold : PySem.W.findIn K (.ref CR) "hold" = some (some (.ref pPhold)))
    (gPhold : PySem.W.specialIn K (.ref pPhold) "__get__" = some (some (.builtin "property.__get__")))
    (tPhold : PySem.W.takesIn K (.ref pPhold) = some true)
    (rPhold : PySem.W.recIn K pPhold "property" = some (.ref fPhold :: rePhold))
    (lPhold : K.lookup fPhold = some ⟨ocPhold, odPhold, .func (PySem.W.fnOf "hold" "Rule.hold" (defArgs (inClass (topS 12) 3)) (defBody (inClass (topS 12) 3)) (defScope (inClass (topS 12) 3)) .none kVPhold dcPhold pmPhold anPhold cdPhold ctPhold), slPhold⟩)
    (cPhold : PySem.W.codeIn K cdPhold "Rule.hold" = true)
    (kPhold : PySem.W.keepIn K (.ref fPhold) = true)
    (aPpins : PySem.W.findIn K (.ref CR) "pins" = some (some (.ref pPpins)))
    (gPpins : PySem.W.specialIn K (.ref pPpins) "__get__" = some (some (.builtin "property.__get__")))
    (tPpins : PySem.W.takesIn K (.ref pPpins) = some true)
    (rPpins : PySem.W.recIn K pPpins "property" = some (.ref fPpins :: rePpins))
    (lPpins : K.lookup fPpins = some ⟨ocPpins, odPpins, .func (PySem.W.fnOf "pins" "Rule.pins" (defArgs (inClass (topS 12) 4)) (defBody (inClass (topS 12) 4)) (defScope (inClass (topS 12) 4)) .none kVPpins dcPpins pmPpins anPpins cdPpins ctPpins), slPpins⟩)
    (cPpins : PySem.W.codeIn K cdPpins "Rule.pins" = true)
    (kPpins : PySem.W.keepIn K (.ref fPpins) = true)
    (aPguard : PySem.W.findIn K (.ref CR) "guard" = some (some (.ref pPguard)))
    (gPguard : PySem.W.specialIn K (.ref pPguard) "__get__" = some (some (.builtin "property.__get__")))
    (tPguard : PySem.W.takesIn K (.ref pPguard) = some true)
    (rPguard : PySem.W.recIn K pPguard "property" = some (.ref fPguard :: rePguard))
    (lPguard : K.lookup fPguard = some ⟨ocPguard, odPguard, .func (PySem.W.fnOf "guard" "Rule.guard" (defArgs (inClass (topS 12) 5)) (defBody (inClass (topS 12) 5)) (defScope (inClass (topS 12) 5)) .none kVPguard dcPguard pmPguard anPguard cdPguard ctPguard), slPguard⟩)
    (cPguard : PySem.W.codeIn K cdPguard "Rule.guard" = true)
    (kPguard : PySem.W.keepIn K (.ref fPguard) = true)
    (aCR : PySem.W.nsIn K mainGlobals "Rule" = some (some (.ref CR)))
    (pgCR : PySem.W.plainGet K CR Str.empty = true)
    (hdCR : PySem.W.hasDictIn K CR = true)
    (poCR : PySem.W.plainOver K CR = true)
    (saCR : PySem.W.findIn K (.ref CR) "__setattr__" = some (some (.builtin "object.__setattr__")))
    (mkCR : PySem.W.makesIn K CR = true)
    (kpCR : PySem.W.keepIn K (.ref CR) = true)
    (n1CR : PySem.W.findIn K (.ref CR) "_way" = some none)
    (n2CR : PySem.W.findIn K (.ref CR) "_still" = some none)
    (n3CR : PySem.W.findIn K (.ref CR) "_hold" = some none)
    (n4CR : PySem.W.findIn K (.ref CR) "_pins" = some none)
    (n5CR : PySem.W.findIn K (.ref CR) "_guard" = some none)
    (haCR : PySem.W.findIn K (.ref CR) "__class__" = some (some (.builtin "object.__class__")))
    (hmCR : PySem.W.mroIn K CR (.type "object") = some true)
    (icCR : PySem.W.isClsIn K CR = true)
    (tcCR : PySem.W.typeIn K (.ref CR) = some (.type "type"))
    (neCR : PySem.W.findIn K (.ref CR) "__ne__" = some (some (.builtin "object.__ne__")))
    (hn : PySem.W.specialIn K (.builtin "object.__class__") "__get__" = some (some (.builtin "getset_descriptor.__get__")))
    (ht : PySem.W.takesIn K (.builtin "object.__class__") = some true)
    (aE : PySem.W.nsIn K mainGlobals "BadRule" = some (some (.ref E)))
    (aER : PySem.W.nsIn K mainGlobals "TapError" = some (some (.ref ER)))
    (xE : K.lookup E = some (excClassObj nmE qE E NE bsE [.ref ER, .type "ValueError", .type "Exception", .type "BaseException", .type "object"] true snE subE abE colE ddE m0E m1E m2E m3E m5E "ValueError.__new__"))
    (seE : PySem.W.findIn K (.ref E) "__setattr__" = some (some (.builtin "object.__setattr__")))
    (noE : PySem.W.findIn K (.ref E) "part" = some none)
    (gaE : PySem.W.findIn K (.ref E) "__getattribute__" = some (some (.builtin "BaseException.__getattribute__")))
    (ggE : PySem.W.findIn K (.ref E) "__getattr__" = some none)
    (sbE : PySem.W.subIn K (.ref E) (.type "BaseException") = some true)
    (hdE : PySem.W.hasDictIn K E = true)
    (hcE : PySem.W.findIn K (.ref E) "__class__" = some (some (.builtin "object.__class__")))
    (moE : PySem.W.mroIn K E (.type "object") = some true)
    (icE : PySem.W.isClsIn K E = true)
    (tcE : PySem.W.typeIn K (.ref E) = some (.type "type"))
    (kpE : PySem.W.keepIn K (.ref E) = true)
    (srE : PySem.W.subIn K (.ref E) (.ref ER) = some true)
    (sbER : PySem.W.subIn K (.ref ER) (.type "BaseException") = some true)
    (hdER : PySem.W.hasDictIn K ER = true)
    (tcER : PySem.W.typeIn K (.ref ER) = some (.type "type"))
    (aW : PySem.W.nsIn K mainGlobals "WAYS" = some (some (.ref wA)))
    (lW : K.lookup wA = some ⟨.type "tuple", odW, .seq #[.str "end" u1, .str "front" u2, .str "rank" u3] nuW, slW⟩)
    (aP : PySem.W.nsIn K mainGlobals "PARTS" = some (some (.ref pA)))
    (lP : K.lookup pA = some ⟨.type "tuple", odP, .seq #[.str "way" v1, .str "still" v2, .str "hold" v3, .str "pins" v4, .str "guard" v5] nuP, slP⟩)
    (m0 : PySem.W.nsIn K mainGlobals "MOST_TICKS" = some (some (.int 3 w0)))
    (m1 : PySem.W.nsIn K mainGlobals "MOST_PINS" = some (some (.int 2 w1)))
    (z_isinstance : PySem.W.nsIn K mainGlobals "isinstance" = some none)
    (z_int : PySem.W.nsIn K mainGlobals "int" = some none)
    (z_bool : PySem.W.nsIn K mainGlobals "bool" = some none)
    (z_str : PySem.W.nsIn K mainGlobals "str" = some none)
    (z_tuple : PySem.W.nsIn K mainGlobals "tuple" = some none)
    (z_list : PySem.W.nsIn K mainGlobals "list" = some none)
    (z_len : PySem.W.nsIn K mainGlobals "len" = some none)
    (z_repr : PySem.W.nsIn K mainGlobals "repr" = some none)
    (z_dict : PySem.W.nsIn K mainGlobals "dict" = some none)
    (z_range : PySem.W.nsIn K mainGlobals "range" = some none)
    (z_min : PySem.W.nsIn K mainGlobals "min" = some none)
    (z_abs : PySem.W.nsIn K mainGlobals "abs" = some none) :
    ∃ fd cs sp, Gu.LawT l w K 10 63 "script" mg fa h fd cs sp := by
  have e := hfa.symm.trans (PySem.W.mg_of X G aLaw)
  cases e
  have FCop := fun_mk (st := sCopied) lCop cCop kCop
  have bCop := FCop.binds (ps := ["value"]) fun _ _ _ _ _ _ us hl => match us, hl with | [_], _ => rfl
  have FIsn := fun_mk (st := sIsn) lIsn cIsn kIsn
  have bIsn := FIsn.binds (ps := ["value"]) fun _ _ _ _ _ _ us hl => match us, hl with | [_], _ => rfl
  have FNum := fun_mk (st := sNum) lNum cNum kNum
  have bNum := FNum.binds (ps := ["value", "least", "most"]) fun _ _ _ _ _ _ us hl => match us, hl with | [_, _, _], _ => rfl
  have FOne := fun_mk (st := sOne) lOne cOne kOne
  have bOne := FOne.binds (ps := ["value", "texts"]) fun _ _ _ _ _ _ us hl => match us, hl with | [_, _], _ => rfl
  have FBeg := fun_mk (st := sBegin) lBeg cBeg kBeg
  have bBeg := FBeg.binds (ps := ["script"]) fun _ _ _ _ _ _ us hl => match us, hl with | [_], _ => rfl
  have FBle := fun_mk (st := sBlend) lBle cBle kBle
  have bBle := FBle.binds (ps := ["draw"]) fun _ _ _ _ _ _ us hl => match us, hl with | [_], _ => rfl
  have FTak := fun_mk (st := sTake) lTak cTak kTak
  have bTak := FTak.binds (ps := ["draw", "size"]) fun _ _ _ _ _ _ us hl => match us, hl with | [_, _], _ => rfl
  have FPic := fun_mk (st := sPick) lPic cPic kPic
  have bPic := FPic.binds (ps := ["draw", "some"]) fun _ _ _ _ _ _ us hl => match us, hl with | [_, _], _ => rfl
  have FCau := fun_mk (st := sCaught) lCau cCau kCau
  have bCau := FCau.binds (ps := ["act"]) fun _ _ _ _ _ _ us hl => match us, hl with | [_], _ => rfl
  have FWay := fun_mk (st := sWay) lWay cWay kWay
  have bWay := FWay.binds (ps := ["draw", "peak"]) fun _ _ _ _ _ _ us hl => match us, hl with | [_, _], _ => rfl
  have FMkr := fun_mk (st := sMk) lMkr cMkr kMkr
  have bMkr := FMkr.binds (ps := ["mode"]) fun _ _ _ _ _ _ us hl => match us, hl with | [_], _ => rfl
  have FInt := fun_mk (st := sInt) lInt cInt kInt
  have bInt := FInt.binds (ps := ["item", "least", "most"]) fun _ _ _ _ _ _ us hl => match us, hl with | [_, _, _], _ => rfl
  have FDue := fun_mk (st := sDue) lDue cDue kDue
  have bDue := FDue.binds (ps := ["mode"]) fun _ _ _ _ _ _ us hl => match us, hl with | [_], _ => rfl
  have FSho := fun_mk (st := sShown) lSho cSho kSho
  have bSho := FSho.binds (ps := ["told"]) fun _ _ _ _ _ _ us hl => match us, hl with | [_], _ => rfl
  have FDsh := fun_mk (st := sDShown) lDsh cDsh kDsh
  have bDsh := FDsh.binds (ps := ["way"]) fun _ _ _ _ _ _ us hl => match us, hl with | [_], _ => rfl
  have FOdd := fun_mk (st := sOdd) lOdd cOdd kOdd
  have bOdd := FOdd.binds (ps := ["draw"]) fun _ _ _ _ _ _ us hl => match us, hl with | [_], _ => rfl
  have FRig := fun_mk (st := sRight) lRig cRig kRig
  have bRig := FRig.binds (ps := ["draw", "way", "told"]) fun _ _ _ _ _ _ us hl => match us, hl with | [_, _, _], _ => rfl
  have FLaw := fun_mk (st := sLaw) lLaw cLaw kLaw
  have bLaw := FLaw.binds (ps := ["script"]) fun _ _ _ _ _ _ us hl => match us, hl with | [_], _ => rfl
  have FRI := fun_mk (st := sRI) lRI cRI kRI
  have bRI := FRI.binds (ps := ["self", "way", "still", "hold", "pins", "guard"]) fun _ _ _ _ _ _ us hl => match us, hl with | [_, _, _, _, _, _], _ => rfl
  have FRW := fun_mk (st := sRW) lRW cRW kRW
  have bRW := FRW.binds (ps := ["self", "part", "value"]) fun _ _ _ _ _ _ us hl => match us, hl with | [_, _, _], _ => rfl
  have FRE := fun_mk (st := sRE) lRE cRE kRE
  have bRE := FRE.binds (ps := ["self", "other"]) fun _ _ _ _ _ _ us hl => match us, hl with | [_, _], _ => rfl
  have FBI := fun_mk (st := sBadI) lBI cBI kBI
  have bBI := FBI.binds (ps := ["self", "part"]) fun _ _ _ _ _ _ us hl => match us, hl with | [_, _], _ => rfl
  have FPway := fun_mk (st := inClass (topS 12) 1) lPway cPway kPway
  have bPway := FPway.binds (ps := ["self"]) fun _ _ _ _ _ _ us hl => match us, hl with | [_], _ => rfl
  have FPstill := fun_mk (st := inClass (topS 12) 2) lPstill cPstill kPstill
  have bPstill := FPstill.binds (ps := ["self"]) fun _ _ _ _ _ _ us hl => match us, hl with | [_], _ => rfl
  have FPhold := fun_mk (st := inClass (topS 12) 3) lPhold cPhold kPhold
  have bPhold := FPhold.binds (ps := ["self"]) fun _ _ _ _ _ _ us hl => match us, hl with | [_], _ => rfl
  have FPpins := fun_mk (st := inClass (topS 12) 4) lPpins cPpins kPpins
  have bPpins := FPpins.binds (ps := ["self"]) fun _ _ _ _ _ _ us hl => match us, hl with | [_], _ => rfl
  have FPguard := fun_mk (st := inClass (topS 12) 5) lPguard cPguard kPguard
  have bPguard := FPguard.binds (ps := ["self"]) fun _ _ _ _ _ _ us hl => match us, hl with | [_], _ => rfl
  have sW : ∀ H, SqT K H wA (waysL.map V.str) := fun H => .inr ⟨_, _, _, lW, rfl, rfl, by show 3 ≤ sizeLine; decide, (.cons ⟨_, rfl⟩ (.cons ⟨_, rfl⟩ (.cons ⟨_, rfl⟩ .nil)) : Vals [V.str "end", V.str "front", V.str "rank"] _)⟩
  have sP : ∀ H, SqT K H pA (partsL.map V.str) := fun H => .inr ⟨_, _, _, lP, rfl, rfl, by show 5 ≤ sizeLine; decide, (.cons ⟨_, rfl⟩ (.cons ⟨_, rfl⟩ (.cons ⟨_, rfl⟩ (.cons ⟨_, rfl⟩ (.cons ⟨_, rfl⟩ .nil)))) : Vals [V.str "way", V.str "still", V.str "hold", V.str "pins", V.str "guard"] _)⟩
  have y_isinstance := PySem.W.mg_none_of X G z_isinstance
  have y_int := PySem.W.mg_none_of X G z_int
  have y_bool := PySem.W.mg_none_of X G z_bool
  have y_str := PySem.W.mg_none_of X G z_str
  have y_tuple := PySem.W.mg_none_of X G z_tuple
  have y_list := PySem.W.mg_none_of X G z_list
  have y_len := PySem.W.mg_none_of X G z_len
  have y_repr := PySem.W.mg_none_of X G z_repr
  have y_dict := PySem.W.mg_none_of X G z_dict
  have y_range := PySem.W.mg_none_of X G z_range
  have y_min := PySem.W.mg_none_of X G z_min
  have y_abs := PySem.W.mg_none_of X G z_abs
  have gCop := PySem.W.mg_of X G aCop
  have gIsn := PySem.W.mg_of X G aIsn
  have gNum := PySem.W.mg_of X G aNum
  have gOne := PySem.W.mg_of X G aOne
  have gBeg := PySem.W.mg_of X G aBeg
  have gBle := PySem.W.mg_of X G aBle
  have gTak := PySem.W.mg_of X G aTak
  have gPic := PySem.W.mg_of X G aPic
  have gCau := PySem.W.mg_of X G aCau
  have gWay := PySem.W.mg_of X G aWay
  have gMkr := PySem.W.mg_of X G aMkr
  have gInt := PySem.W.mg_of X G aInt
  have gDue := PySem.W.mg_of X G aDue
  have gSho := PySem.W.mg_of X G aSho
  have gDsh := PySem.W.mg_of X G aDsh
  have gOdd := PySem.W.mg_of X G aOdd
  have gRig := PySem.W.mg_of X G aRig
  have gLaw := PySem.W.mg_of X G aLaw
  have keCR : PySem.W.kitOne K (.ref CR) (.ref CR) = some true := kit_self
  have TR : TR K mg CR wA pA := ⟨⟨pgCR, hdCR, poCR, saCR⟩, n1CR, n2CR, n3CR, n4CR, n5CR, PySem.W.mg_of X G aCR, PySem.W.mg_of X G aW, PySem.W.mg_of X G aP, ⟨_, PySem.W.mg_of X G m0⟩, ⟨_, PySem.W.mg_of X G m1⟩, sW, sP, haCR, hn, ht, hmCR, keCR, y_isinstance, y_int, y_bool, y_str⟩
  have MR : Mk K CR fRI := ⟨mkCR, aRI, iRI, kpCR⟩
  have OR : OwnEq K CR fRE := ⟨aRE, neCR, iRE, hmCR⟩
  have OE : OexC K E := ⟨⟨_, _, _, _, _, _, _, _, _, _, _, _, _, _, _, xE, rfl⟩, seE, sbE, tcE, kpE⟩
  have ec : ExcC K E := ⟨gaE, ggE, sbE, hdE, hcE, hn, ht, moE⟩
  have TXX : TX K mg E ER := ⟨PySem.W.mg_of X G aER, ec, icE, ⟨ec.hg, ec.hk, ec.hs, ec.hd⟩, noE, kit_self, PySem.W.exm_ref sbER hdER tcER srE⟩
  have TL := tabL cL pL (tabIn2 aLaw lLaw rfl oL vL)
  have TW := tabW cW pW (tabIn2 aRig lRig rfl oW vW)
  have LC : TC K mg fCau := ⟨gCau, kCau, ⟨_, _, _, _, _, _, _, _, _, lCau, cCau⟩⟩
  refine ⟨PySem.W.fnOf "law" "law" (defArgs sLaw) (defBody sLaw) (defScope sLaw) .none kVLaw dcLaw pmLaw anLaw (.ref cL) ctLaw, [(cW, pW), (cL, pL)], spLaw2 K [(pW, nmR), (pL, nmL)], ⟨fun p hp => ?_, fun p hp => ?_, fun p hp => ?_, fun s v => .of_eq rfl, fun G' a ns hl hT hS => ⟨a, ns, rfl, hS, hl, fun p hp => ?_, fun _ => rfl⟩, fun base _ _ TBs => ?_⟩⟩
  · simp only [List.mem_cons, List.not_mem_nil, or_false] at hp
    rcases hp with rfl | rfl
    · exact TW.2
    · exact TL.2
  · simp only [List.mem_cons, List.not_mem_nil, or_false] at hp
    rcases hp with rfl | rfl
    · exact nW
    · exact nL
  · simp only [List.mem_cons, List.not_mem_nil, or_false] at hp
    rcases hp with rfl | rfl
    · exact TW.1
    · exact TL.1
  · simp only [List.mem_cons, List.not_mem_nil, or_false] at hp
    rcases hp with rfl | rfl
    · exact hT (cW, pW) (by simp)
    · exact hT (cL, pL) (by simp)
  have TBL := TBs (cL, pL) (by simp)
  have TBW := TBs (cW, pW) (by simp)
  have u1 : ∀ p ∈ [(pW, nmR), (pL, nmL)], p.1 = pW → p.2 = nmR := fun p hp q => by
    simp only [List.mem_cons, List.not_mem_nil, or_false] at hp
    rcases hp with rfl | rfl
    · rfl
    · exact absurd q.symm npq
  have u2 : ∀ p ∈ [(pW, nmR), (pL, nmL)], p.1 = pL → p.2 = nmL := fun p hp q => by
    simp only [List.mem_cons, List.not_mem_nil, or_false] at hp
    rcases hp with rfl | rfl
    · exact absurd q npq
    · rfl
  have GCop : FnOk l.prog w K mg base CX0 1 fCop _ ["value"] (spCopied K) := ok_copied FCop y_isinstance y_list y_tuple y_dict
  have GBI : FnOk l.prog w K mg base CX0 2 fBI _ ["self", "part"] (spBadI K E) := ok_badI FBI OE noE GCop kCop bCop gCop
  have TE : TB l.prog w K mg base E fBI _ := ⟨PySem.W.mg_of X G aE, OE, aBI, iBI, GBI, bBI⟩
  have GIsn : FnOk l.prog w K mg base CX0 1 fIsn _ ["value"] (spIsn K) := ok_isn FIsn y_isinstance y_int y_bool
  have GNum : FnOk l.prog w K mg base CX0 2 fNum _ ["value", "least", "most"] spOddN := ok_num1 FNum GIsn kIsn bIsn gIsn
  have GOne : FnOk l.prog w K mg base CX0 1 fOne _ ["value", "texts"] (spOdd1 K) := ok_one1 FOne y_isinstance y_str
  have GRI : FnOk l.prog w K mg base (L2.CX l.prog w) 4 fRI _ ["self", "way", "still", "hold", "pins", "guard"] (spRI CR E) := ok_RI FRI TR TE GOne kOne bOne gOne GNum kNum bNum gNum
  have GRE : FnOk l.prog w K mg base CX0 1 fRE _ ["self", "other"] (spRE K CR) := ok_RE FRE TR
  have GRW : FnOk l.prog w K mg base (L2.CX l.prog w) 6 fRW _ ["self", "part", "value"] (spRW CR E) := ok_RW FRW TR TE MR GRI bRI GOne kOne bOne gOne
  have GBeg : FnOk l.prog w K mg base CX0 2 fBeg _ ["script"] (spBegin K) := ok_begin FBeg y_abs
  have GBle : FnOk l.prog w K mg base CX0 2 fBle _ ["draw"] spBlend := ok_blend FBle y_int
  have GTak : FnOk l.prog w K mg base CX0 3 fTak _ ["draw", "size"] spTake := ok_take FTak GBle kBle bBle gBle y_int
  have GPic : FnOk l.prog w K mg base CX0 4 fPic _ ["draw", "some"] spPick := ok_pick FPic GTak kTak bTak gTak y_len
  have GWay : FnOk l.prog w K mg base CX0 5 fWay _ ["draw", "peak"] spWay := ok_way FWay GTak kTak bTak gTak GPic kPic bPic gPic
  have GMkr : FnOk l.prog w K mg base (L2.CX l.prog w) 6 fMkr _ ["mode"] (spMk CR E) := ok_mk FMkr TR MR GRI bRI
  have GInt : FnOk l.prog w K mg base CX0 1 fInt _ ["item", "least", "most"] spOddN := ok_int FInt y_isinstance y_int y_bool
  have GDue : FnOk l.prog w K mg base CX0 2 fDue _ ["mode"] spDue := ok_due FDue GInt kInt bInt gInt y_isinstance y_str
  have QPway : Pr l.prog w K mg base CR "way" "_way" := ⟨pPway, fPway, _, ⟨aPway, gPway, tPway, ⟨_, rPway⟩⟩, ok_get FPway scPway rfl TR.cl TR.n1, bPway⟩
  have QPstill : Pr l.prog w K mg base CR "still" "_still" := ⟨pPstill, fPstill, _, ⟨aPstill, gPstill, tPstill, ⟨_, rPstill⟩⟩, ok_get FPstill scPstill rfl TR.cl TR.n2, bPstill⟩
  have QPhold : Pr l.prog w K mg base CR "hold" "_hold" := ⟨pPhold, fPhold, _, ⟨aPhold, gPhold, tPhold, ⟨_, rPhold⟩⟩, ok_get FPhold scPhold rfl TR.cl TR.n3, bPhold⟩
  have QPpins : Pr l.prog w K mg base CR "pins" "_pins" := ⟨pPpins, fPpins, _, ⟨aPpins, gPpins, tPpins, ⟨_, rPpins⟩⟩, ok_get FPpins scPpins rfl TR.cl TR.n4, bPpins⟩
  have QPguard : Pr l.prog w K mg base CR "guard" "_guard" := ⟨pPguard, fPguard, _, ⟨aPguard, gPguard, tPguard, ⟨_, rPguard⟩⟩, ok_get FPguard scPguard rfl TR.cl TR.n5, bPguard⟩
  have GSho : FnG l.prog w K mg base 3 fSho _ ["told"] (spShown CR) := ok_shown FSho TR y_repr QPway QPstill QPhold QPpins QPguard
  have GDsh : FnG l.prog w K mg base 2 fDsh _ ["way"] spDShown := ok_dshown FDsh y_repr
  have GOdd : FnOk l.prog w K mg base CX0 5 fOdd _ ["draw"] spOdd := ok_odd FOdd GPic kPic bPic gPic
  have FR : FunC K "_law_with_right" "_law_with_right" sRight fRig _ cW := ⟨_, _, _, _, _, _, _, _, rfl, lRig, cRig⟩
  have FL : FunC K "law" "law" sLaw fa _ cL := ⟨_, _, _, _, _, _, _, _, rfl, lLaw, cLaw⟩
  have GRig : FnG l.prog w K mg base 9 fRig _ ["draw", "way", "told"] (spRight CR [(pW, nmR), (pL, nmL)]) := ok_right FR TR TE TXX LC GPic kPic bPic gPic GOdd kOdd bOdd gOdd FRW GRW bRW ⟨aRW, iRW, kRW⟩ GDue kDue bDue gDue GSho kSho bSho gSho GDsh kDsh bDsh gDsh OR GRE bRE TBW (by simp) u1 y_dict
  exact ok_law FL TR TE TXX LC GBeg kBeg bBeg gBeg GWay kWay bWay gWay GRig kRig bRig gRig GMkr kMkr bMkr gMkr GPic kPic bPic gPic GOdd kOdd bOdd gOdd GDue kDue bDue gDue GSho kSho bSho gSho GDsh kDsh bDsh gDsh TBL (by simp) u2 y_repr y_range y_min y_len
end D3

open PySem PySem.W PyProof.Rows
set_option Elab.async false
set_option linter.all false
set_option maxRecDepth 100000 in
set_option pp.maxSteps 60 in
set_option pp.deepTerms false in
set_option maxHeartbeats 0 in
theorem PySem.Challenge.cw_undertap_k02_rules_refused_or_taken_holds : PySem.Challenge.rw_undertap_k02_rules_refused_or_taken.Holds := by
  w_on; o_law; k_head; (case hw => w_witness2)
  k_fill
  refine Gu.walkU (l := PySem.Challenge.rw_undertap_k02_rules_refused_or_taken) (n := 63) (k := 10) (x := "script") rfl (by decide) rfl ⟨rfl, by decide, by decide⟩ (fun w h Y => PySem.W.km_in_of Y) ?F
  case F =>
    intro w mg fa h tabs KX G hmg
    have hlaw : mg (PySem.Str.ofString "law") = some (.ref fa) := hmg
    clear hmg
    refine' D3.all_mk KX G hlaw (fun c P => tabs "law" c P (by decide +kernel)) (fun c P => tabs "_law_with_right" c P (by decide +kernel)) ?aCop ?lCop ?cCop ?kCop ?aIsn ?lIsn ?cIsn ?kIsn ?aNum ?lNum ?cNum ?kNum ?aOne ?lOne ?cOne ?kOne ?aBeg ?lBeg ?cBeg ?kBeg ?aBle ?lBle ?cBle ?kBle ?aTak ?lTak ?cTak ?kTak ?aPic ?lPic ?cPic ?kPic ?aCau ?lCau ?cCau ?kCau ?aWay ?lWay ?cWay ?kWay ?aMkr ?lMkr ?cMkr ?kMkr ?aInt ?lInt ?cInt ?kInt ?aDue ?lDue ?cDue ?kDue ?aSho ?lSho ?cSho ?kSho ?aDsh ?lDsh ?cDsh ?kDsh ?aOdd ?lOdd ?cOdd ?kOdd ?aRig ?lRig ?cRig ?kRig ?oW ?vW ?nW ?aLaw ?lLaw ?cLaw ?kLaw ?oL ?vL ?nL ?aRI ?iRI ?lRI ?cRI ?kRI ?aRW ?iRW ?lRW ?cRW ?kRW ?aRE ?iRE ?lRE ?cRE ?kRE ?aBI ?iBI ?lBI ?cBI ?kBI ?npq ?aPway ?gPway ?tPway ?rPway ?lPway ?cPway ?kPway ?aPstill ?gPstill ?tPstill ?rPstill ?lPstill ?cPstill ?kPstill ?aPhold ?gPhold ?tPhold ?rPhold ?lPhold ?cPhold ?kPhold ?aPpins ?gPpins ?tPpins ?rPpins ?lPpins ?cPpins ?kPpins ?aPguard ?gPguard ?tPguard ?rPguard ?lPguard ?cPguard ?kPguard ?aCR ?pgCR ?hdCR ?poCR ?saCR ?mkCR ?kpCR ?n1CR ?n2CR ?n3CR ?n4CR ?n5CR ?haCR ?hmCR ?icCR ?tcCR ?neCR ?hn ?ht ?aE ?aER ?xE ?seE ?noE ?gaE ?ggE ?sbE ?hdE ?hcE ?moE ?icE ?tcE ?kpE ?srE ?sbER ?hdER ?tcER ?aW ?lW ?aP ?lP ?m0 ?m1 ?z_isinstance ?z_int ?z_bool ?z_str ?z_tuple ?z_list ?z_len ?z_repr ?z_dict ?z_range ?z_min ?z_abs
    (case aCR => k_is)
    (case aE => k_is)
    (case aER => k_is)
    (case aCop => k_is)
    (case lCop => k_is)
    (case cCop => k_is)
    (case kCop => k_is)
    (case aIsn => k_is)
    (case lIsn => k_is)
    (case cIsn => k_is)
    (case kIsn => k_is)
    (case aNum => k_is)
    (case lNum => k_is)
    (case cNum => k_is)
    (case kNum => k_is)
    (case aOne => k_is)
    (case lOne => k_is)
    (case cOne => k_is)
    (case kOne => k_is)
    (case aBeg => k_is)
    (case lBeg => k_is)
    (case cBeg => k_is)
    (case kBeg => k_is)
    (case aBle => k_is)
    (case lBle => k_is)
    (case cBle => k_is)
    (case kBle => k_is)
    (case aTak => k_is)
    (case lTak => k_is)
    (case cTak => k_is)
    (case kTak => k_is)
    (case aPic => k_is)
    (case lPic => k_is)
    (case cPic => k_is)
    (case kPic => k_is)
    (case aCau => k_is)
    (case lCau => k_is)
    (case cCau => k_is)
    (case kCau => k_is)
    (case aWay => k_is)
    (case lWay => k_is)
    (case cWay => k_is)
    (case kWay => k_is)
    (case aMkr => k_is)
    (case lMkr => k_is)
    (case cMkr => k_is)
    (case kMkr => k_is)
    (case aInt => k_is)
    (case lInt => k_is)
    (case cInt => k_is)
    (case kInt => k_is)
    (case aDue => k_is)
    (case lDue => k_is)
    (case cDue => k_is)
    (case kDue => k_is)
    (case aSho => k_is)
    (case lSho => k_is)
    (case cSho => k_is)
    (case kSho => k_is)
    (case aDsh => k_is)
    (case lDsh => k_is)
    (case cDsh => k_is)
    (case kDsh => k_is)
    (case aOdd => k_is)
    (case lOdd => k_is)
    (case cOdd => k_is)
    (case kOdd => k_is)
    (case aRig => k_is)
    (case lRig => k_is)
    (case cRig => k_is)
    (case kRig => k_is)
    (case oW => k_is)
    (case vW => rfl)
    (case nW => kernel_rfl)
    (case aLaw => k_is)
    (case lLaw => k_is)
    (case cLaw => k_is)
    (case kLaw => k_is)
    (case oL => k_is)
    (case vL => rfl)
    (case nL => kernel_rfl)
    (case aRI => k_is)
    (case iRI => k_is)
    (case lRI => k_is)
    (case cRI => k_is)
    (case kRI => k_is)
    (case aRW => k_is)
    (case iRW => k_is)
    (case lRW => k_is)
    (case cRW => k_is)
    (case kRW => k_is)
    (case aRE => k_is)
    (case iRE => k_is)
    (case lRE => k_is)
    (case cRE => k_is)
    (case kRE => k_is)
    (case aBI => k_is)
    (case iBI => k_is)
    (case lBI => k_is)
    (case cBI => k_is)
    (case kBI => k_is)
    (case aPway => k_is)
    (case gPway => k_is)
    (case tPway => k_is)
    (case rPway => k_is)
    (case lPway => k_is)
    (case cPway => k_is)
    (case kPway => k_is)
    (case aPstill => k_is)
    (case gPstill => k_is)
    (case tPstill => k_is)
    (case rPstill => k_is)
    (case lPstill => k_is)
    (case cPstill => k_is)
    (case kPstill => k_is)
    (case aPhold => k_is)
    (case gPhold => k_is)
    (case tPhold => k_is)
    (case rPhold => k_is)
    (case lPhold => k_is)
    (case cPhold => k_is)
    (case kPhold => k_is)
    (case aPpins => k_is)
    (case gPpins => k_is)
    (case tPpins => k_is)
    (case rPpins => k_is)
    (case lPpins => k_is)
    (case cPpins => k_is)
    (case kPpins => k_is)
    (case aPguard => k_is)
    (case gPguard => k_is)
    (case tPguard => k_is)
    (case rPguard => k_is)
    (case lPguard => k_is)
    (case cPguard => k_is)
    (case kPguard => k_is)
    (case pgCR => k_is)
    (case hdCR => k_is)
    (case poCR => k_is)
    (case saCR => k_is)
    (case mkCR => k_is)
    (case kpCR => k_is)
    (case n1CR => k_is)
    (case n2CR => k_is)
    (case n3CR => k_is)
    (case n4CR => k_is)
    (case n5CR => k_is)
    (case haCR => k_is)
    (case hmCR => k_is)
    (case icCR => k_is)
    (case tcCR => k_is)
    (case neCR => k_is)
    (case hn => k_is)
    (case ht => k_is)
    (case xE => k_is)
    (case seE => k_is)
    (case noE => k_is)
    (case gaE => k_is)
    (case ggE => k_is)
    (case sbE => k_is)
    (case hdE => k_is)
    (case hcE => k_is)
    (case moE => k_is)
    (case icE => k_is)
    (case tcE => k_is)
    (case kpE => k_is)
    (case srE => k_is)
    (case sbER => k_is)
    (case hdER => k_is)
    (case tcER => k_is)
    (case aW => k_is)
    (case lW => k_is)
    (case aP => k_is)
    (case lP => k_is)
    (case m0 => k_is)
    (case m1 => k_is)
    (case z_isinstance => k_is)
    (case z_int => k_is)
    (case z_bool => k_is)
    (case z_str => k_is)
    (case z_tuple => k_is)
    (case z_list => k_is)
    (case z_len => k_is)
    (case z_repr => k_is)
    (case z_dict => k_is)
    (case z_range => k_is)
    (case z_min => k_is)
    (case z_abs => k_is)
    (case npq => decide)
