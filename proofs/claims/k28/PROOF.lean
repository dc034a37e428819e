import PyProof.Rows.All
import Wide.All
import OpenK.AllK
import Wide.FinOn
import PySem.Challenge.RW_entablature_k28_entries_of_a_log
import PyProof.ReprRoads
import HandS.ForMost
import HandS.ForExc
import HandS.Codes
import HandS.Walk
import HandS.More
import HandS.Defaults
import HandS.Head0
import HandS.Head1
import HandS.Head2
import HandS.HeadEnd
import HandS.HeadHook1
import HandS.HeadHook2
import HandS.ExcOwn
import HandS.RaiseMore
import HandS.Style
import KE.KRevSl
import KE.KStateDown
import Lean
import HandS.HeadHook3
import HandS.HeadHook4
import HandS.Wide
import HandS.WideBits
import HandS.TryOnly
import HandS.IsInst
import PyProof.ReprLen
import HandS.Text
import PyProof.StrLawsRepr
import KE.IntTextText
import PyProof.ReprReads
import HandS.StrMore
import PyProof.StrBlock2
import HandS.WordsExc
set_option Elab.async false
set_option linter.all false
set_option maxRecDepth 100000
/- calls where it is known that no repr is under way: own work -/
namespace Gk
open PySem PySem.Spec PyProof.Rows L2

/-- the room that is left: frames, built-ins, and (where g) nothing is being shown -/
structure Rm (dp un : Nat) (g : Bool) (Ar : Around) : Prop where
  calm : Ar.handled = none
  deep : Ar.depth + dp < recursionLimit
  unit : Ar.units + un < cLine
  show_ : g = true → Ar.guards = some []
theorem Rm.le {dp un dp' un' : Nat} {g g' : Bool} {Ar : Around} (r : Rm dp un g Ar) (h1 : dp' ≤ dp) (h2 : un' ≤ un) (h3 : g' = true → g = true) : Rm dp' un' g' Ar :=
  ⟨r.calm, by have := r.deep; omega, by have := r.unit; omega, fun z => r.show_ (h3 z)⟩
theorem Rm.room {dp un k : Nat} {g : Bool} {Ar : Around} (r : Rm dp un g Ar) (h1 : 3 * k + 5 ≤ dp) (h2 : 16 * k + 200 ≤ un) : Room k Ar :=
  ⟨r.calm, by have := r.deep; omega, by have := r.unit; omega⟩
theorem Rm.of {k : Nat} {Ar : Around} (r : Room k Ar) : Rm (3 * k + 5) (16 * k + 200) false Ar :=
  ⟨r.hd, by have := r.dp; omega, by have := r.un; omega, fun z => nomatch z⟩
theorem Rm.into {dp un : Nat} {g : Bool} {Ar : Around} (r : Rm (dp + 1) (un + 3) g Ar) (en : Env) : Rm dp un g (Ar.deeper en) :=
  ⟨r.calm, by have := r.deep; show Ar.depth + 1 + dp < _; omega, by have := r.unit; show Ar.units + 3 + un < _; omega, r.show_⟩
section
variable (prg : Program) (wd : World) (Kf : PySem.W.Frag) (mgl : Str → Option Value) (bs : Heap) (cx : CXT) (dp un : Nat) (g : Bool) (fa : Addr) (fdat : FuncData) (pars : List Str) (prom : Sp)
/-- a def that wants so much room -/
structure FnB : Prop where
  len : ∀ (args : List V) (H : Hp) (q : VK) (ex : XK), prom args H q ex → args.length = pars.length
  run : ∀ (Ar : Around) (out : List Env) (st : Shared) (H : Hp) (ag : Args) (us : List Value) (args : List V) (q : VK) (ex : XK),
    Rm dp un g Ar → Env0 prg wd Kf mgl bs Ar out st H → BindsTo st fdat ag (pars.zip us) → Vals args us → prom args H q ex →
      codeAny (model prg wd) Ar (.call (.ref fa) ag) (CR cx out prg wd H st q ex) st
end
section
variable {prg : Program} {wd : World} {Kf : PySem.W.Frag} {mgl : Str → Option Value} {bs : Heap} {cx : CXT} {dp un : Nat} {g : Bool} {fa : Addr} {fdat : FuncData} {pars : List Str} {prom : Sp}
theorem FnB.of {k : Nat} (F : FnOk prg wd Kf mgl bs cx k fa fdat pars prom) (h1 : 3 * k + 5 ≤ dp) (h2 : 16 * k + 200 ≤ un) : FnB prg wd Kf mgl bs cx dp un g fa fdat pars prom :=
  ⟨F.len, fun Ar out st H ag us args q ex r e b v p => F.run Ar out st H ag us args q ex (r.room h1 h2) e b v p⟩
theorem FnB.ok {k : Nat} (F : FnB prg wd Kf mgl bs cx dp un false fa fdat pars prom) (h1 : dp ≤ 3 * k + 5) (h2 : un ≤ 16 * k + 200) : FnOk prg wd Kf mgl bs cx k fa fdat pars prom :=
  ⟨F.len, fun Ar out st H ag us args q ex r e b v p => F.run Ar out st H ag us args q ex ((Rm.of r).le h1 h2 id) e b v p⟩
theorem FnB.le {dp' un' : Nat} {g' : Bool} (F : FnB prg wd Kf mgl bs cx dp un g fa fdat pars prom) (h1 : dp ≤ dp') (h2 : un ≤ un') (h3 : g = true → g' = true) : FnB prg wd Kf mgl bs cx dp' un' g' fa fdat pars prom :=
  ⟨F.len, fun Ar out st H ag us args q ex r e b v p => F.run Ar out st H ag us args q ex (r.le h1 h2 h3) e b v p⟩
theorem FnB.weaker {prom' : Sp} (F : FnB prg wd Kf mgl bs cx dp un g fa fdat pars prom) (h : ∀ (args : List V) (H : Hp) (q : VK) (ex : XK), prom' args H q ex → prom args H q ex) : FnB prg wd Kf mgl bs cx dp un g fa fdat pars prom' :=
  ⟨fun args H q ex p => F.len args H q ex (h _ _ _ _ p), fun Ar out st H ag us args q ex r e b v p => F.run Ar out st H ag us args q ex r e b v (h _ _ _ _ p)⟩

/-- by its body -/
theorem fnB_of {nm ql : Str} {prm : Arguments} {bdy : List Stmt} {sc : Scope} {d1 d2 d3 d4 d5 d6 ocl : Value} {an od : Option Addr} {slots : Array (Option Value)} {nms : List Str}
    (look : Kf.lookup fa = some ⟨ocl, od, .func (PySem.W.fnOf nm ql prm bdy sc d1 d2 d3 d4 an d5 d6), slots⟩) (code : PySem.W.codeIn Kf d5 ql = true) (S : FnScope nms pars sc)
    (hlen : ∀ (args : List V) (H : Hp) (q : VK) (ex : XK), prom args H q ex → args.length = pars.length)
    (walk : ∀ (Ar : Around) (out : List Env) (st : Shared) (H : Hp) (args : List V) (q : VK) (ex : XK), Rm dp un g (Ar.deeper (envOfC ql sc st.heap.objs.size fa d5)) → prom args H q ex →
      ∃ t, PSs (cxOf cx prg wd Kf mgl bs nms ql sc fa d5 Ar out st H ex) bdy t ∧ t { nx := fun _ H1 => q .non H1, rt := q } (start nms args) H) :
    FnB prg wd Kf mgl bs cx (dp + 1) (un + 3) g fa (PySem.W.fnOf nm ql prm bdy sc d1 d2 d3 d4 an d5 d6) pars prom := by
  constructor
  · exact hlen
  intro Ar out st H ag us args q ex room env bnd rel hp
  have nl := hlen args H q ex hp
  have inn : Kf.In st.heap := env.mod.kin.keeps (fun b o e => And.left (env.bs b o e))
  have nolim : st.heap.NoLimit := env.mod.nolimit.keeps (fun b o e => And.left (env.bs b o e))
  refine codeAny_call_function (by have := room.deep; omega) (inn fa _ look) rfl S.co S.gen rfl (PySem.W.codeRec_of inn code) (bnd _ _ _ _ ?_)
  refine wpAny_newFunctionEnv_cells (S.kind) (?kinds) ?rest
  case kinds =>
    rintro ⟨n, v⟩ hy
    cases S.par n (And.left (List.of_mem_zip hy)) with
    | inl a => exact Or.inl a
    | inr a => exact Or.inr ⟨a, PySem.W.cellsFrom_some _ _ _ (Or.inl a)⟩
  case rest =>
    intro en hen st1 x
    cases hen
    refine ⟨nolim.keeps x.toInCall.keep, codeAny_func ?_⟩
    obtain ⟨t, walked, asked⟩ := walk Ar out st H args q ex (room.into _) hp
    have I0 := inv_start (cd := d5) (f := fa) (qual := ql) (CX := cx) (P := prg) (w := wd) (E := ex) S room.calm env nl rel x
    have close : ∀ {σ1 : L2.St} {H1 : Hp} {v : V} {u : Value} {st2 : Shared}, Inv (cxOf cx prg wd Kf mgl bs nms ql sc fa d5 Ar out st H ex) [] σ1 H1 st2 → RelV v u → q v H1 → CE out prg wd H st q u st2 :=
      fun J r z => ⟨_, _, J.os, J.bare, J.base, J.hok, r, z⟩
    refine wpAny_mono (walked.run [] st1 (start nms args) H _ I0 asked) ?_ (fun _ _ z => z)
    intro fl st2 z
    match fl, z with
    | .ret u, ⟨v, σ1, H1, J, r, y⟩ => exact close J r y
    | .next, ⟨σ1, H1, J, y⟩ => exact close (v := .non) J rfl y
    | .brk, ⟨_, _, _, y⟩ => exact absurd y id
    | .cont, ⟨_, _, _, y⟩ => exact absurd y id
/-- .. of a def of the module -/
theorem fnB_in {x : Str} {st0 : Stmt} {nms : List Str} (F : FunD Kf x x (defArgs st0) (defBody st0) (defScope st0) [] [] fa fdat) (S : FnScope nms pars (defScope st0))
    (hlen : ∀ (args : List V) (H : Hp) (q : VK) (ex : XK), prom args H q ex → args.length = pars.length)
    (walk : ∀ (cdv : Value) (Ar : Around) (out : List Env) (st : Shared) (H : Hp) (args : List V) (q : VK) (ex : XK), Rm dp un g (Ar.deeper (envOfC x (defScope st0) st.heap.objs.size fa cdv)) → prom args H q ex →
      ∃ t, PSs (cxOf cx prg wd Kf mgl bs nms x (defScope st0) fa cdv Ar out st H ex) (defBody st0) t ∧ t { nx := fun _ H1 => q .non H1, rt := q } (start nms args) H) :
    FnB prg wd Kf mgl bs cx (dp + 1) (un + 3) g fa fdat pars prom := by
  obtain ⟨_, _, _, _, _, _, _, cdv, _, _, rfl, look, code, _, _⟩ := F.ex
  exact fnB_of look code S hlen (walk cdv)
end

section
variable (prg : Program) (wd : World) (Kf : PySem.W.Frag) (mgl : Str → Option Value) (bs : Heap) (cx : CXT) (dp un : Nat) (g : Bool) (x : Str) (prom : Sp)
/-- a def that may be called by its name -/
structure CalB : Prop where
  ex : ∃ (fa : Addr) (fdat : FuncData) (pars : List Str), FnB prg wd Kf mgl bs cx dp un g fa fdat pars prom ∧ mgl x = some (.ref fa) ∧ PySem.W.keepIn Kf (.ref fa) = true ∧ Binds Kf fdat pars []
end
section
variable {X : Cx} {cx : CXT} {dp un dp' un' : Nat} {g g' : Bool} {prom : Sp} {ex : XK} {exS : L2.St → XK} {nm : Str} {p pos : Pos} {e : Expr} {es : List Expr} {t : TA}
theorem run_B {fa : Addr} {fdat : FuncData} {pars : List Str} {pins : List (Addr × Obj)} {σ : L2.St} {H : Hp} {s : Shared} {q : VK} {us : List Value} {vs : List V} (F : FnB X.prog X.w X.K X.mg X.base cx dp un g fa fdat pars prom) (room : Rm dp un g X.A) (bn : Binds X.K fdat pars []) (ps : PassesAt cx X σ ex)
    (I : Inv X pins σ H s) (rel : Vals vs us) (want : prom vs H q ex) : wpAny (model X.prog X.w) X.A (call (.ref fa) us) (EP X pins σ q) X.xe s := by
  have n1 : us.length = pars.length := (Vals.length rel).symm.trans (F.len _ _ _ _ want)
  have b2 := bn s us I.kIn (by rw [List.append_nil]; exact n1)
  rw [List.append_nil] at b2
  refine wpAny_call (codeAny_mono (F.run X.A X.stack s H ⟨us, []⟩ us vs q ex room I.env0 b2 rel want) ?_)
  intro r st2 z
  match r, z with
  | .error er, z => exact ps pins H s er st2 I z
  | .ok (.ret u), z => exact I.after z
  | .ok .next, z => exact absurd z id
  | .ok .brk, z => exact absurd z id
  | .ok .cont, z => exact absurd z id
/-- f(e, ..) -/
theorem pe_b (c : CalB X.prog X.w X.K X.mg X.base cx dp un g nm prom) (room : Rm dp' un' g' X.A) (h1 : dp ≤ dp') (h2 : un ≤ un') (h3 : g = true → g' = true) (gl : Gl X nm) (ps : Passes cx X ex)
    (ha : PA X (e :: es) t) (hdb : (nm == ("__debug__" : Str)) = false := by decide) (star : starEach (e :: es) X.env = (false, eval e X.env) :: starEach es X.env := by rfl) (plain : (backTo pos (starEach es X.env)).any (·.1) = false := by rfl) :
    PE X (.Call (.Name nm p) (e :: es) [] pos) (tCall prom [] ex t) := by
  obtain ⟨fa, fdat, pars, F, hm, kp, bn⟩ := c.ex
  constructor
  intro pins st σ H q I want
  refine wpAny_Call_Name_kw (ld_glob I gl hm ?_ hdb)
  refine PySem.W.callWith_K (h₀ := X.base) I.ok.mod.kin kp (thn (ha.run pos pins st σ H _ I want) ?_) star plain
  rintro us st1 ⟨args, H1, I1, rel, want1⟩
  exact ⟨I1.kIn, run_B F (room.le h1 h2 h3) bn (fun pins H s e s' I z => ps pins σ H s e s' I z) I1 rel (List.append_nil args ▸ want1)⟩
/-- f(e, ..) where what is raised is wished for at the slots -/
theorem pe_bS (c : CalB X.prog X.w X.K X.mg X.base cx dp un g nm prom) (room : Rm dp' un' g' X.A) (h1 : dp ≤ dp') (h2 : un ≤ un') (h3 : g = true → g' = true) (gl : Gl X nm) (ps : ∀ σ, PassesAt cx X σ (exS σ))
    (ha : PA X (e :: es) t) (hdb : (nm == ("__debug__" : Str)) = false := by decide) (star : starEach (e :: es) X.env = (false, eval e X.env) :: starEach es X.env := by rfl) (plain : (backTo pos (starEach es X.env)).any (·.1) = false := by rfl) :
    PE X (.Call (.Name nm p) (e :: es) [] pos) (tCallS prom exS t) := by
  obtain ⟨fa, fdat, pars, F, hm, kp, bn⟩ := c.ex
  constructor
  intro pins st σ H q I want
  refine wpAny_Call_Name_kw (ld_glob I gl hm ?_ hdb)
  refine PySem.W.callWith_K (h₀ := X.base) I.ok.mod.kin kp (thn (ha.run pos pins st σ H _ I want) ?_) star plain
  rintro us st1 ⟨args, H1, I1, rel, want1⟩
  exact ⟨I1.kIn, run_B F (room.le h1 h2 h3) bn (ps σ) I1 rel want1⟩

/-- repr of data -/
def rRepr (Kf : PySem.W.Frag) : List V → Hp → VK → Prop := fun xs H q => ∃ v d, xs = [v] ∧ Dp Kf H v d ∧ d.showable = true ∧ d.hasDict = false ∧ d.depth ≤ 1000 ∧ d.shown.length ≤ sizeLine ∧ q (.str d.shown) H
theorem cr_repr (hgd : X.A.guards = some []) (room : X.A.units + 1100 < cLine) : CallR X (.builtin "repr") (rRepr X.K) := by
  intro pins st σ H xs us q I rel z
  obtain ⟨v, d, rfl, hd, sh, nd, dp, sz, z⟩ := z
  obtain ⟨u, rfl, ru⟩ := vals1 rel
  cases hd with
  | non =>
    obtain rfl : u = .none := ru
    simp only [PyData.shown] at z
    exact PySem.P.repr_of_none ⟨.str _, H, I.tok _, ⟨_, rfl⟩, z⟩
  | bl b =>
    obtain rfl : u = .bool b := ru
    simp only [PyData.shown] at z
    refine PySem.P.repr_of_bool ⟨.str _, H, I.tok _, ⟨_, rfl⟩, ?_⟩
    cases b <;> exact z
  | int n =>
    obtain ⟨tk, rfl⟩ := ru
    simp only [PyData.shown] at z
    exact PySem.P.repr_of_int (by simpa only [PyData.showable, decide_eq_true_eq] using sh) ⟨.str _, H, I.tok _, ⟨_, rfl⟩, z⟩
  | str x =>
    obtain ⟨tk, rfl⟩ := ru
    simp only [PyData.shown] at z sz
    exact PySem.P.repr_of_str ⟨.str _, H, I.tok _, ⟨_, rfl⟩, z⟩ sz
  | lst h1 h2 =>
    obtain ⟨as, rd⟩ := Dp.reads I _ _ _ (.lst h1 h2) ru
    cases ru
    exact repr_of_reads' rd sh (PyData.noDict_hsm nd) hgd (by omega) (fun _ _ e => e) (fun h' u tk keep => ⟨.str _, H, I.kept keep, ⟨_, rfl⟩, z⟩) sz
  | tup h1 h2 =>
    obtain ⟨as, rd⟩ := Dp.reads I _ _ _ (.tup h1 h2) ru
    cases ru
    exact repr_of_reads' rd sh (PyData.noDict_hsm nd) hgd (by omega) (fun _ _ e => e) (fun h' u tk keep => ⟨.str _, H, I.kept keep, ⟨_, rfl⟩, z⟩) sz
end

/-- the law's call, where nothing is being shown -/
theorem law_in {prg : Program} {wd : World} {Kf : PySem.W.Frag} {mgl mbl : Str → Option Value} {cx : CXT} {dp un : Nat} {fa ad : Addr} {fdat : FuncData} {nm : Str} {prom : Sp} {st : Shared} {vs : List Value} {ns : List Int}
    (inn : Kf.In st.heap) (gl : st.heap.Ns mainGlobals mgl) (bl : st.heap.Ns builtinsNs mbl) (bl2 : ∀ y : Str, y ≠ "__name__" → mbl y = bootBuiltins y) (lim : st.heap.NoLimit) (gens : st.gens = #[])
    (at' : st.heap.get? ad = some { cls := .type "list", data := .seq vs.toArray }) (whole : IntsAre vs ns) (len : ns.length ≤ sizeLine) (room : Rm dp un true callerA)
    (F : ∀ bs : Heap, Kf.In bs → bs.Ns mainGlobals mgl → FnB prg wd Kf mgl bs cx dp un true fa fdat [nm] prom) (bind : ∀ (s : Shared) (u : Value), BindsTo s fdat ⟨[u], []⟩ [(nm, u)])
    (want : ∀ H : Hp, Only H → SqL Kf H ad (ns.map V.int) → prom [.ref ad] H (fun v _ => v = .bl true) fun _ _ _ => False) (no : ∀ H e s', cx [] H st (fun _ _ _ => False) e s' → False) :
    codeAny (model prg wd) callerA (.call (.ref fa) ⟨[.ref ad], []⟩) (fun r s' => r = .ok (.ret (.bool true)) ∧ OldK st.heap s'.heap ∧ s'.os = st.os ∧ AllBare s'.gens) st := by
  have main : ∀ H : Hp, Only H → SqL Kf H ad (ns.map V.int) → HOk prg wd H st.heap → (∀ b, b ≠ ad → H b = none) → (H ad ≠ none → Kf.lookup ad = none) →
      codeAny (model prg wd) callerA (.call (.ref fa) ⟨[.ref ad], []⟩) (fun r s' => r = .ok (.ret (.bool true)) ∧ OldK st.heap s'.heap ∧ s'.os = st.os ∧ AllBare s'.gens) st := by
    intro H only sq ok off known
    have hid : ∀ {b : Addr} {o : Obj}, st.heap.get? b = some o → (b = ad → H ad = none) → (hidT st.heap H).get? b = some o := fun {b o} e h => by
      refine hidT_get e ?_
      by_cases hb : b = ad
      · rw [hb]
        exact h hb
      · exact off b hb
    have ns' : ∀ {b : Addr} {m : Str → Option Value}, st.heap.Ns b m → (hidT st.heap H).Ns b m := fun {b m} ⟨o, es, ep, e, d, r⟩ => ⟨o, es, ep, hid e (fun hb => by
      rw [hb, at'] at e
      cases e
      cases (show Data.seq vs.toArray = Data.dict es ep from d)), d, r⟩
    have inn' : Kf.In (hidT st.heap H) := fun b o e => hid (inn b o e) fun hb => Classical.byContradiction fun no => by
      rw [hb, known no] at e
      cases e
    have md : Mod Kf mgl (hidT st.heap H) := by
      obtain ⟨mc, l1, l2⟩ := lim
      exact ⟨inn', ns' gl, ⟨mbl, ns' bl, bl2⟩, mc, ns' l1, l2⟩
    have env : Env0 prg wd Kf mgl (hidT st.heap H) callerA [] st H :=
      { frames := rfl, mod := md, bs := fun _ _ e => of_hidT e, bsz := Nat.le_of_eq (hidT_size _ _), funs := trivial, frf := fun b hb => (nomatch (show b ∈ ([] : List Addr) from hb)), hok := ok, bare := AllBare.of_eq gens }
    have go := (F _ inn' (ns' gl)).run callerA [] st H ⟨[.ref ad], []⟩ [.ref ad] [.ref ad] _ _ room env (bind st (.ref ad)) (.cons rfl .nil) (want H only sq)
    refine codeAny_mono go ?_
    intro r s' z
    match r, z with
    | .error e, z => exact absurd z (no H e s')
    | .ok .next, z => exact absurd z id
    | .ok .brk, z => exact absurd z id
    | .ok .cont, z => exact absurd z id
    | .ok (.ret u), ⟨v, H', os, bare, un, ok', r', q⟩ =>
      obtain rfl : v = .bl true := q
      obtain rfl : u = Value.bool true := r'
      refine ⟨rfl, OldK.of_keep ?_, os, bare⟩
      intro b o e
      cases hb : H b with
      | none => exact un.keep b o e hb (fun z => nomatch (show b ∈ ([] : List Addr) from z)) (by simp)
      | some t =>
        rcases only b with z | ⟨ob, xs, z⟩
        · rw [hb] at z
          cases z
        · have z1 := (ok b _ z).1
          have z2 := (ok' b _ (un.frzs b ob _ z)).1
          rw [e] at z1
          cases z1
          exact z2
  have lenV := whole.length
  have rv := vals_ints whole
  cases hk : Kf.lookup ad with
  | some o =>
    have e := inn ad o hk
    rw [at'] at e
    cases e
    refine main (fun _ => none) (fun _ => Or.inl rfl) (Or.inr ⟨_, vs.toArray, _, hk, rfl, rfl, rfl, ?_, by simpa using rv⟩) (fun b u z => nomatch z) (fun _ _ => rfl) (fun z => absurd rfl z)
    rw [List.size_toArray, lenV]
    exact len
  | none =>
    have here : (fun b => if b = ad then some (HO.frz { cls := .type "list", data := .seq vs.toArray } (.lst (ns.map V.int))) else none) ad = some (HO.frz { cls := .type "list", data := .seq vs.toArray } (.lst (ns.map V.int))) := if_pos rfl
    refine main (fun b => if b = ad then some (.frz { cls := .type "list", data := .seq vs.toArray } (.lst (ns.map V.int))) else none) (fun b => ?_) (Or.inl (Or.inr ⟨_, here⟩)) (fun b u z => ?_) (fun b hb => if_neg hb) (fun _ => hk)
    · by_cases hb : b = ad
      · rw [hb]
        exact Or.inr ⟨_, _, here⟩
      · exact Or.inl (if_neg hb)
    · by_cases hb : b = ad
      · rw [hb] at z ⊢
        rw [here] at z
        cases z
        exact ⟨at', by rw [List.length_map]; exact len, vs, _, rv, at'⟩
      · have z := (if_neg hb).symm.trans z
        cases z

/-- the law over a head told by facts -/
theorem walk_in {l : PySem.W.OpenLaw} {n dp un : Nat} {q : Program} {loose : List Str} {XP : (Str → Option Value) → Heap → Prop} {YP : World → Heap → Prop} {d : DefRec} {cx : CXT} {nm : Str}
    (most : l.most = some n) (fit : n ≤ sizeLine) (plain : d.params.defaults = []) (room : Rm dp un true callerA)
    (F : ∀ (wd : World) (mgl : Str → Option Value) (fa : Addr) (h : Heap), YP wd h → h.Ns mainGlobals mgl → mgl d.name = some (.ref fa) → ∃ (Kf : PySem.W.Frag) (fdat : FuncData) (prom : Sp), Kf.In h ∧ (∀ (s : Shared) (u : Value), BindsTo s fdat ⟨[u], []⟩ [(nm, u)]) ∧
      (∀ (H : Hp) (ad : Addr) (ns : List Int), ns.length ≤ n → Only H → SqL Kf H ad (ns.map V.int) → prom [.ref ad] H (fun v _ => v = .bl true) fun _ _ _ => False) ∧ ∀ bs : Heap, Kf.In bs → bs.Ns mainGlobals mgl → FnB l.prog wd Kf mgl bs cx dp un true fa fdat [nm] prom)
    (no : ∀ (H : Hp) (s : Shared) (e : Value) (s' : Shared), cx [] H s (fun _ _ _ => False) e s' → False) : PySem.W.WalkO q loose XP YP l.row.toRowW d [] (fun f vs => PySem.call f vs) := by
  refine Att.attach_call most plain ?_
  intro wd s0 s1 mgl mbl fa o pm cd doc ad vs ns G Y _ _ _ hm at' whole short gens
  obtain ⟨Kf, fdat, prom, inn, bind, want, hF⟩ := F wd mgl fa _ Y G.T.g hm
  exact law_in inn G.T.g G.T.b G.T.builtins G.T.nolimit gens at' whole (Nat.le_trans short fit) room hF bind (fun H only sq => want H ad ns short only sq) (fun H e s' => no H s1 e s')
end Gk
set_option Elab.async false
set_option linter.all false
set_option maxRecDepth 100000
/- defs, methods and classes that may be called, whatever they let out: own work -/
namespace Mx
open PySem PySem.Spec PyProof.Rows L2
section
variable (prg : Program) (wd : World) (Kf : PySem.W.Frag) (mgl : Str → Option Value) (bs : Heap) (cx : CXT) (lev : Nat)
/-- a def of the module -/
structure CalX (x : Str) (prom : Sp) : Prop where
  ex : ∃ (fa : Addr) (fdat : FuncData) (pars : List Str), FnOk prg wd Kf mgl bs cx lev fa fdat pars prom ∧ mgl x = some (.ref fa) ∧ PySem.W.keepIn Kf (.ref fa) = true ∧ Binds Kf fdat pars []
/-- a method -/
structure MetX (cl : Addr) (m : Str) (prom : Sp) : Prop where
  ex : ∃ (fa : Addr) (fdat : FuncData) (pars : List Str), Cls Kf cl ∧ Meth Kf cl m fa ∧ FnOk prg wd Kf mgl bs cx lev fa fdat pars prom ∧ Binds Kf fdat pars []
/-- a class -/
structure MakX (x : Str) (cl : Addr) (prom : Sp) : Prop where
  ex : ∃ (fa : Addr) (fdat : FuncData) (pars : List Str), Mk Kf cl fa ∧ FnOk prg wd Kf mgl bs cx lev fa fdat pars prom ∧ mgl x = some (.ref cl) ∧ Binds Kf fdat pars []
end
section
variable {X : Cx} {cx : CXT} {lev lev' : Nat} {cl : Addr} {prom : Sp} {ex : XK} {nm m : Str} {p pos apos : Pos} {e o : Expr} {es : List Expr} {ta : TE} {t : TA} {prg : Program} {wd : World} {Kf : PySem.W.Frag} {mgl : Str → Option Value} {bs : Heap}
theorem CalX.calB {dp un : Nat} {g : Bool} (c : CalX prg wd Kf mgl bs cx lev nm prom) (h1 : 3 * lev + 5 ≤ dp) (h2 : 16 * lev + 200 ≤ un) : Gk.CalB prg wd Kf mgl bs cx dp un g nm prom := by
  obtain ⟨fa, fdat, pars, F, hm, kp, b⟩ := c.ex
  exact ⟨fa, fdat, pars, Gk.FnB.of F h1 h2, hm, kp, b⟩
theorem pe_cx (c : CalX X.prog X.w X.K X.mg X.base cx lev nm prom) (hr : Room lev' X.A) (hk : lev ≤ lev') (gl : Gl X nm) (ps : Passes cx X ex) (ha : PA X (e :: es) t)
    (hdb : (nm == ("__debug__" : Str)) = false := by decide) (star : starEach (e :: es) X.env = (false, eval e X.env) :: starEach es X.env := by rfl) (plain : (backTo pos (starEach es X.env)).any (·.1) = false := by rfl) :
    PE X (.Call (.Name nm p) (e :: es) [] pos) (tCall prom [] ex t) := by
  obtain ⟨fa, fdat, pars, F, hm, kp, b⟩ := c.ex
  exact pe_call F (hr.mono hk) gl hm kp b .nil ps ha hdb star plain
theorem pe_kx (c : MakX X.prog X.w X.K X.mg X.base cx lev nm cl prom) (hr : Room lev' X.A) (hk : lev + 1 ≤ lev') (gl : Gl X nm) (ps : Passes cx X ex) (ha : PA X (e :: es) t)
    (hdb : (nm == ("__debug__" : Str)) = false := by decide) (star : starEach (e :: es) X.env = (false, eval e X.env) :: starEach es X.env := by rfl) (plain : (backTo pos (starEach es X.env)).any (·.1) = false := by rfl) :
    PE X (.Call (.Name nm p) (e :: es) [] pos) (tMake cl prom [] ex t) := by
  obtain ⟨fa, fdat, pars, M, F, hm, b⟩ := c.ex
  exact pe_make M F (hr.mono hk) gl hm b .nil ps ha hdb star plain
theorem pe_mx {pl : Sem Bool} (c : MetX X.prog X.w X.K X.mg X.base cx lev cl m prom) (hr : Room lev' X.A) (hk : lev ≤ lev') (ps : Passes cx X ex) (he : PE X o ta) (ha : PA X (e :: es) t)
    (hst : starEach (e :: es) X.env = (false, eval e X.env) :: starEach es X.env := by rfl) (hpl : (backTo pos (starEach es X.env)).any (·.1) = false := by rfl)
    (ht : eval (.Call (.Attribute o m apos) (e :: es) [] pos) X.env = (do
      let ov ← eval o X.env
      standAt apos.atName
      let (f, first) ← holding [ov] (getMethod ov m pl)
      callWith pos f first (backTo pos (starEach (e :: es) X.env)) (backToKw pos (keywordEach [] X.env))) := by rfl) :
    PE X (.Call (.Attribute o m apos) (e :: es) [] pos) (tMeth cl m prom [] ex ta t) := by
  obtain ⟨fa, fdat, pars, c1, hm, F, b⟩ := c.ex
  exact pe_meth he c1 hm F (hr.mono hk) b .nil ps ha hst hpl ht
theorem pe_mx0 {pl : Sem Bool} (c : MetX X.prog X.w X.K X.mg X.base cx lev cl m prom) (hr : Room lev' X.A) (hk : lev ≤ lev') (ps : Passes cx X ex) (he : PE X o ta)
    (ht : eval (.Call (.Attribute o m apos) [] [] pos) X.env = (do
      let ov ← eval o X.env
      standAt apos.atName
      let (f, first) ← holding [ov] (getMethod ov m pl)
      callWith pos f first (backTo pos (starEach [] X.env)) (backToKw pos (keywordEach [] X.env))) := by rfl) :
    PE X (.Call (.Attribute o m apos) [] [] pos) (tMeth cl m prom [] ex ta tNil) := by
  obtain ⟨fa, fdat, pars, c1, hm, F, b⟩ := c.ex
  exact pe_meth0 he c1 hm F (hr.mono hk) b .nil ps ht
/-- a whole number of the module -/
theorem pe_gi {X : Cx} {x : Str} {i : Int} {pos : Pos} (h : ∃ t, X.mg x = some (.int i t)) (hg : Gl X x := by rfl) (hd : (x == ("__debug__" : Str)) = false := by decide) : PE X (.Name x pos) (tC (.int i)) := by
  obtain ⟨t, h⟩ := h
  exact pe_glob (v := .int i) hg h ⟨t, rfl⟩ hd
theorem sl_listK {X : Cx} {K : PySem.W.Frag} (h : X.K = K) : SlR X (rSlL K) := h ▸ sl_list
theorem sl_tupK {X : Cx} {K : PySem.W.Frag} (h : X.K = K) : SlR X (rSlT K) := h ▸ sl_tup
theorem call_type1K {X : Cx} {K : PySem.W.Frag} (h : X.K = K) : CallR X (.type "type") (rTyp K) := h ▸ call_type1
/-- an object of the module -/
theorem pe_gr {X : Cx} {x : Str} {a : Addr} {pos : Pos} (h : X.mg x = some (.ref a)) (hg : Gl X x := by rfl) (hd : (x == ("__debug__" : Str)) = false := by decide) : PE X (.Name x pos) (tC (.ref a)) :=
  pe_glob (v := .ref a) hg h rfl hd
/-- what is raised is handed on to whoever called -/
theorem onward {X : Cx} {E : XK} (tk : Takes X (fun cls d _ H => E cls d H)) : Passes (L2.CX X.prog X.w) X E := passes_call tk fun _ _ _ _ h => h
theorem calX_of {x : Str} {st : Stmt} {N pars : List Str} (hF : ∃ fd, FunD Kf x x (defArgs st) (defBody st) (defScope st) [] [] (He.ga Kf x) fd) (hg : mgl x = some (.ref (He.ga Kf x)))
    (S : FnScope N pars (defScope st)) (hb : ∀ fd, FunD Kf x x (defArgs st) (defBody st) (defScope st) [] [] (He.ga Kf x) fd → Binds Kf fd pars []) (len : ∀ vs H Q E, prom vs H Q E → vs.length = pars.length)
    (hbody : ∀ (cdv : Value) (A : Around) (outer : List Env) (s : Shared) (H : Hp) (vs : List V) (Q : VK) (E : XK), Room lev (A.deeper (envOfC x (defScope st) s.heap.objs.size (He.ga Kf x) cdv)) → prom vs H Q E →
      ∃ t, PSs (cxOf cx prg wd Kf mgl bs N x (defScope st) (He.ga Kf x) cdv A outer s H E) (defBody st) t ∧ t { nx := fun _ H' => Q .non H', rt := Q } (start N vs) H) : CalX prg wd Kf mgl bs cx (lev + 1) x prom := by
  obtain ⟨fd, F⟩ := hF
  exact ⟨_, fd, pars, F.ok S len hbody, hg, F.kp, hb fd F⟩
theorem metX_of {C : Str} {q : Str} {st : Stmt} {N pars : List Str} (hF : ∃ fd, FunD Kf m q (defArgs st) (defBody st) (defScope st) [] [] (He.ma Kf (He.ga Kf C) m) fd) (c : Cls Kf (He.ga Kf C)) (me : Meth Kf (He.ga Kf C) m (He.ma Kf (He.ga Kf C) m))
    (S : FnScope N pars (defScope st)) (hb : ∀ fd, FunD Kf m q (defArgs st) (defBody st) (defScope st) [] [] (He.ma Kf (He.ga Kf C) m) fd → Binds Kf fd pars []) (len : ∀ vs H Q E, prom vs H Q E → vs.length = pars.length)
    (hbody : ∀ (cdv : Value) (A : Around) (outer : List Env) (s : Shared) (H : Hp) (vs : List V) (Q : VK) (E : XK), Room lev (A.deeper (envOfC q (defScope st) s.heap.objs.size (He.ma Kf (He.ga Kf C) m) cdv)) → prom vs H Q E →
      ∃ t, PSs (cxOf cx prg wd Kf mgl bs N q (defScope st) (He.ma Kf (He.ga Kf C) m) cdv A outer s H E) (defBody st) t ∧ t { nx := fun _ H' => Q .non H', rt := Q } (start N vs) H) : MetX prg wd Kf mgl bs cx (lev + 1) (He.ga Kf C) m prom := by
  obtain ⟨fd, F⟩ := hF
  exact ⟨_, fd, pars, c, me, F.ok S len hbody, hb fd F⟩
theorem makX_of {C : Str} {q : Str} {st : Stmt} {N pars : List Str} (hF : ∃ fd, FunD Kf "__init__" q (defArgs st) (defBody st) (defScope st) [] [] (He.ma Kf (He.ga Kf C) "__init__") fd) (M : Mk Kf (He.ga Kf C) (He.ma Kf (He.ga Kf C) "__init__")) (hg : mgl C = some (.ref (He.ga Kf C)))
    (S : FnScope N pars (defScope st)) (hb : ∀ fd, FunD Kf "__init__" q (defArgs st) (defBody st) (defScope st) [] [] (He.ma Kf (He.ga Kf C) "__init__") fd → Binds Kf fd pars []) (len : ∀ vs H Q E, prom vs H Q E → vs.length = pars.length)
    (hbody : ∀ (cdv : Value) (A : Around) (outer : List Env) (s : Shared) (H : Hp) (vs : List V) (Q : VK) (E : XK), Room lev (A.deeper (envOfC q (defScope st) s.heap.objs.size (He.ma Kf (He.ga Kf C) "__init__") cdv)) → prom vs H Q E →
      ∃ t, PSs (cxOf cx prg wd Kf mgl bs N q (defScope st) (He.ma Kf (He.ga Kf C) "__init__") cdv A outer s H E) (defBody st) t ∧ t { nx := fun _ H' => Q .non H', rt := Q } (start N vs) H) : MakX prg wd Kf mgl bs cx (lev + 1) C (He.ga Kf C) prom := by
  obtain ⟨fd, F⟩ := hF
  exact ⟨_, fd, pars, M, F.ok S len hbody, hg, hb fd F⟩
end
end Mx
set_option Elab.async false
set_option linter.all false
set_option maxRecDepth 100000
/- an own exception made without arguments -/
namespace Gk
open PySem PySem.Spec PyProof.Rows L2
section
variable {X : Cx} {C : Addr} {bmB : List Value} {B newId initId : String}
theorem pmk_bare {x : Str} {p pos : Pos} (F : ExcBaseFacts B newId initId bmB) (own : PySem.W.excIn X.K C bmB newId = true) (gC : X.mg x = some (.ref C)) (kC : PySem.W.keepIn X.K (.ref C) = true) (rs : Raises X (.ref C)) (gl : Gl X x) (hdb : (x == ("__debug__" : Str)) = false := by decide) :
    PMk X (.Call (.Name x p) [] [] pos) (fun _ H q => q (.ref C) none H) := by
  intro pins st σ H q I want
  refine wpAny_Call_Name_kw (ld_glob I gl gC ?_ hdb)
  refine PySem.W.callWith_K0 I.kIn kC ?_
  obtain ⟨bm, N, nm, qn, bs, hdct, sn, sub, ab, col, dd, k0, k1, k2, k3, k5, mN, hC, hN, hni, tail⟩ := exc_obj I.kIn own
  refine wpAny_call_exc_subT F tail hC hN hni (fun h' e hm => ?_) (by show 0 ≤ sizeLine; omega)
  exact mk_of I hm rs want (I.hok.gone hm.new)
end
end Gk
set_option Elab.async false
set_option linter.all false
set_option maxRecDepth 100000
set_option maxHeartbeats 4000000
/-! ### t[::-1] of a tuple -/
namespace HT
open PySem PySem.Spec PyProof.Rows L2
section
variable {prog : Program} {w : World} {A : Around} {s : Shared} {E : Value → Shared → Prop}
theorem places_rev (n : Nat) : Builtin.Slice.slicePlaces ((n : Int) - 1) (-1) (-1) = n := by
  unfold Builtin.Slice.slicePlaces
  have h1 : ¬ ((-1 : Int) > 0) := by omega
  simp only [h1, if_false]
  by_cases h : (n : Int) - 1 > -1
  · rw [if_pos h, show (- -1 : Int) = 1 by decide, Int.ediv_one]
    omega
  · rw [if_neg h]
    omega
theorem sliceApplied_rev {sl : Addr} {vl vu vs : Value} {n : Nat} {Q : Int × Int × Nat → Shared → Prop} (hs : s.heap.IsSliceOf sl vl vu vs) (pl : IsPart vl none) (pu : IsPart vu none) (ps : IsPart vs (some (-1)))
    (h : Q ((n : Int) - 1, -1, n) s) : wpAny (model prog w) A (Builtin.Slice.sliceApplied (.ref sl) (pure (n : Int))) Q E s := by
  obtain ⟨os, hos, hcs, hds⟩ := id hs
  unfold Builtin.Slice.sliceApplied Builtin.Slice.sliceFields
  refine wpAny_bind (wpAny_bind (wpAny_field hos hds (x := vl) rfl (wpAny_bind (wpAny_field hos hds (x := vu) rfl (wpAny_bind (wpAny_field hos hds (x := vs) rfl (wpAny_pure ?_)))))))
  refine wpAny_bind (slicePart_ ps ?_)
  show wpAny _ _ (if ((-1 : Int) == 0) = true then _ else _) _ _ s
  rw [if_neg (by decide)]
  refine wpAny_bind (slicePart_ pl (wpAny_bind (slicePart_ pu (wpAny_bind (wpAny_pure ?_)))))
  show wpAny _ _ (pure ((n : Int) - 1, (-1 : Int), Builtin.Slice.slicePlaces ((n : Int) - 1) (-1) (-1))) _ _ s
  rw [places_rev]
  exact wpAny_pure h
theorem fm_congr {α β : Type} {f g : α → Option β} : ∀ {l : List α}, (∀ a ∈ l, f a = g a) → l.filterMap f = l.filterMap g
  | [], _ => rfl
  | a :: l, h => by rw [List.filterMap_cons, List.filterMap_cons, h a (List.mem_cons_self ..), fm_congr fun x hx => h x (List.mem_cons_of_mem _ hx)]
theorem pick_rev (xs : Array Value) : ((List.range xs.size).filterMap fun (m : Nat) => xs[(((xs.size : Int) - 1) + (m : Int) * (-1)).toNat]?).toArray = xs.toList.reverse.toArray := by
  congr 1
  have e : (List.range xs.size).filterMap (fun (m : Nat) => xs[(((xs.size : Int) - 1) + (m : Int) * (-1)).toNat]?) = ((List.range xs.size).map fun k => xs.size - 1 - k).filterMap (xs[·]?) := by
    rw [List.filterMap_map]
    refine fm_congr fun m hm => ?_
    have := List.mem_range.mp hm
    show xs[(((xs.size : Int) - 1) + (m : Int) * (-1)).toNat]? = xs[xs.size - 1 - m]?
    rw [show (((xs.size : Int) - 1) + (m : Int) * (-1)).toNat = xs.size - 1 - m from by omega]
  rw [e, PySem.W.krv_range, List.filterMap_reverse, PySem.W.krv_all]
theorem getItem_tuple_rev {t sl : Addr} {items : Array Value} {vl vu vs : Value} {Q : Value → Shared → Prop} (ht : IsTup s.heap t items) (hs : s.heap.IsSliceOf sl vl vu vs) (pl : IsPart vl none) (pu : IsPart vu none) (ps : IsPart vs (some (-1)))
    (h : Q (.ref s.heap.objs.size) { s with heap := s.heap.push { cls := .type "tuple", data := .seq items.toList.reverse.toArray } })
    (hsz : items.size ≤ sizeLine) : wpAny (model prog w) A (getItem (.ref t) (.ref sl)) Q E s := by
  have htake : sizeOk (.seq items.toList.reverse.toArray) := by
    show items.toList.reverse.toArray.size ≤ sizeLine
    rw [List.size_toArray, List.length_reverse, Array.length_toList]
    exact hsz
  obtain ⟨os, hos, hcs, hds⟩ := id hs
  have hTs : s.TypeIs (.ref sl) "slice" := ⟨os, hos, hcs⟩
  unfold getItem
  try with_reducible refine wpAny_holding ?_
  first | refine wpAny_bind (wpAny_pure ?_) | skip
  refine wpAny_bind (wpAny_sequenceKey ht.typeIs (by decide) ?_)
  refine wpAny_bind (wpAny_callSpecial?_slot (name := Str.ofString "__getitem__") ht.typeIs PyProof.Rows.slot_tuple_getitem
    (wpAny_call_entry PyProof.Rows.slot_tuple_getitem ht.typeIs entry_tuple_getitem ?_ (args_tuple_getitem _ _)))
  show wpAny _ _ (Builtin.Tuple.tupleItemsOf (.ref t) >>= _) _ _ s
  refine wpAny_bind (tupleItemsOf_ ht ?_)
  refine wpAny_bind (wpAny_typeOf hTs ?_)
  rw [if_pos (by decide)]
  refine wpAny_bind (sliceApplied_rev hs pl pu ps ?_)
  have hno : ¬ ((((items.size : Int) - 1) == 0 && (-1 : Int) == 1 && items.size == items.size) = true) := by
    intro q
    rw [Bool.and_eq_true, Bool.and_eq_true] at q
    exact absurd (eq_of_beq q.1.2) (by decide)
  show wpAny _ _ (if (((items.size : Int) - 1) == 0 && (-1 : Int) == 1 && items.size == items.size) = true then _ else _) _ _ s
  rw [if_neg hno, pick_rev]
  first
    | exact wpAny_bind (m := Builtin.Tuple.tupleExact _) (wpAny_newObj_type (wpAny_pure ⟨_, rfl, wpAny_pure h⟩) htake)
    | exact wpAny_bind (m := Builtin.Tuple.tupleExact _) (wpAny_newObj_type (wpAny_bind (wpAny_pure (wpAny_pure ⟨_, rfl, wpAny_pure h⟩))) htake)
    | exact wpAny_bind (wpAny_bind (m := Builtin.Tuple.tupleExact _) (wpAny_newObj_type (wpAny_pure (wpAny_pure ⟨_, rfl, wpAny_pure h⟩)) htake))
    | exact wpAny_bind (wpAny_bind (m := Builtin.Tuple.tupleExact _) (wpAny_newObj_type (wpAny_pure ⟨_, rfl, wpAny_pure h⟩) htake))
end
end HT
namespace L2
open PySem PySem.Spec PyProof.Rows
section
variable {X : Cx}
def tRevT (K : PySem.W.Frag) (te : TE) : TE := fun σ H Q => te σ H fun x H1 => ∃ a xs, x = .ref a ∧ SqT K H1 a xs ∧ ∀ p, H1 p = none → Q (.ref p) (upd H1 p (.tup xs.reverse))
theorem pe_revT {e : Expr} {te : TE} {k : Nat} {p1 p2 p3 pos : Pos} (he : PE X e te) : PE X (.Subscript e (.Slice none none (some (.UnaryOp .USub (.Constant (.int 1) k p1) p2)) p3) pos) (tRevT X.K te) := by
  refine ⟨fun pins s σ H Q I h => ?_⟩
  refine Subscript_ (thn (he.run pins s σ H _ I h) fun v s1 ⟨x, H1, I1, r1, q1⟩ => ?_)
  obtain ⟨a, xs, ex, hx, q⟩ := q1
  subst ex
  cases r1
  have hst : PO X (some (.UnaryOp .USub (.Constant (.int 1) k p1) p2)) (tPart (tUn (rU fun i => .int (-i)) (tC (.int 1)))) := po_some (pe_un un_neg pe_int)
  refine wpAny_Slice (thn (po_none.run pins s1 σ H1 (fun o H2 => o = none ∧ H2 = H1) I1 ⟨rfl, rfl⟩) fun vl s2 ⟨l, H2, I2, pl, el, e2⟩ => ?_)
  subst el e2
  refine thn (po_none.run pins s2 σ H2 (fun o H3 => o = none ∧ H3 = H2) I2 ⟨rfl, rfl⟩) fun vu s3 ⟨u, H3, I3, pu, eu, e3⟩ => ?_
  subst eu e3
  refine thn (hst.run pins s3 σ H3 (fun o H4 => o = some (-1) ∧ H4 = H3) I3 ⟨1, rfl, -1, rfl, rfl, rfl⟩) fun vs s4 ⟨o, H4, I4, ps, eo, e4⟩ => ?_
  subst eo e4
  have I5 : Inv X pins σ H4 { s4 with heap := s4.heap.push { cls := .type "slice", data := .fields #[vl, vu, vs] } } := I4.kept (t' := s4.toks) fun b ob q => Heap.get?_push_of_some _ q
  obtain ⟨its, r, ht, hz⟩ := I5.tuple hx
  have hlen := r.length
  show wpAny (model X.prog X.w) X.A (subscriptTail e (.Slice none none (some (.UnaryOp .USub (.Constant (.int 1) k p1) p2)) p3) (.ref a) (.ref s4.heap.objs.size)) (EP X pins σ Q) X.xe { s4 with heap := s4.heap.push { cls := .type "slice", data := .fields #[vl, vu, vs] } }
  refine tail_any (ops := [.ref a, .ref s4.heap.objs.size]) ht.typeIs (PyProof.Rows.slot_tuple_getitem.lookup) ?_ (by with_unfolding_all rfl)
  refine HT.getItem_tuple_rev ht (Heap.IsSliceOf.new _ vl vu vs) pl pu ps ?_ (by rw [List.size_toArray]; omega)
  refine ⟨.ref _, _, I5.laid (t' := s4.toks) (o := .tup xs.reverse) (fun b ob q => Heap.get?_push_of_some _ q) (Nat.le_refl _) ?_, rfl, q _ (I5.hok.fresh (Nat.le_refl _))⟩
  exact ⟨by rw [List.length_reverse]; exact hz, _, r.reverse, IsTup.new _ _⟩
end
end L2
set_option Elab.async false
set_option linter.all false
set_option maxRecDepth 100000
set_option maxHeartbeats 4000000
namespace K28
open PySem PySem.Spec PyProof.Rows L2
def top (i : Nat) : Stmt := PySem.Challenge.pw_entablature_k28_entries_of_a_log.main.body.getD i (.Pass ⟨0, 0, 0, 0⟩)
abbrev s_are_octets : Stmt := top 25
abbrev s_is_sign_code : Stmt := top 26
abbrev s_figures_of : Stmt := top 27
abbrev s_codes_of : Stmt := top 28
abbrev s_write_number : Stmt := top 29
abbrev s_write_text : Stmt := top 30
abbrev s_write_simple : Stmt := top 31
abbrev s_written : Stmt := top 32
abbrev s_Reading_init : Stmt := inClass (top 33) 0
abbrev s_Reading_octet : Stmt := inClass (top 33) 1
abbrev s_Reading_figures : Stmt := inClass (top 33) 2
abbrev s_Reading_number : Stmt := inClass (top 33) 3
abbrev s_Reading_text : Stmt := inClass (top 33) 4
abbrev s_Reading_simple : Stmt := inClass (top 33) 5
abbrev s_Reading_value : Stmt := inClass (top 33) 6
abbrev s_sign_with : Stmt := top 34
abbrev s_read : Stmt := top 35
abbrev s_check_number : Stmt := top 40
abbrev s_big_octets : Stmt := top 41
abbrev s_number_of : Stmt := top 42
abbrev s_entry : Stmt := top 43
abbrev s_end_of : Stmt := top 44
abbrev s_entry_at : Stmt := top 45
abbrev s_law_box : Stmt := top 47
abbrev s_law_take : Stmt := top 48
abbrev s_law_pick : Stmt := top 49
abbrev s_law_octets : Stmt := top 50
abbrev s_law_plain : Stmt := top 51
abbrev s_law_check : Stmt := top 52
abbrev s_law_entry : Stmt := top 53
abbrev s_law_there : Stmt := top 54
abbrev s_law : Stmt := top 55
abbrev n_are_octets : List Str := ["xs", "x"]
theorem sc_are_octets : FnScope n_are_octets ["xs"] (defScope s_are_octets) := ⟨rfl, rfl, rfl, by decide +kernel, rfl, by decide +kernel, by decide +kernel⟩
abbrev n_is_sign_code : List Str := ["code"]
theorem sc_is_sign_code : FnScope n_is_sign_code ["code"] (defScope s_is_sign_code) := ⟨rfl, rfl, rfl, by decide +kernel, rfl, by decide +kernel, by decide +kernel⟩
abbrev n_figures_of : List Str := ["n", "pieces", "low"]
theorem sc_figures_of : FnScope n_figures_of ["n"] (defScope s_figures_of) := ⟨rfl, rfl, rfl, by decide +kernel, rfl, by decide +kernel, by decide +kernel⟩
abbrev n_codes_of : List Str := ["text", "sign"]
theorem sc_codes_of : FnScope n_codes_of ["text"] (defScope s_codes_of) := ⟨rfl, rfl, rfl, by decide +kernel, rfl, by decide +kernel, by decide +kernel⟩
abbrev n_write_number : List Str := ["n", "out"]
theorem sc_write_number : FnScope n_write_number ["n", "out"] (defScope s_write_number) := ⟨rfl, rfl, rfl, by decide +kernel, rfl, by decide +kernel, by decide +kernel⟩
abbrev n_write_text : List Str := ["text", "out", "codes", "code"]
theorem sc_write_text : FnScope n_write_text ["text", "out"] (defScope s_write_text) := ⟨rfl, rfl, rfl, by decide +kernel, rfl, by decide +kernel, by decide +kernel⟩
abbrev n_write_simple : List Str := ["x", "out"]
theorem sc_write_simple : FnScope n_write_simple ["x", "out"] (defScope s_write_simple) := ⟨rfl, rfl, rfl, by decide +kernel, rfl, by decide +kernel, by decide +kernel⟩
abbrev n_written : List Str := ["value", "out", "left", "x", "deep", "part"]
theorem sc_written : FnScope n_written ["value"] (defScope s_written) := ⟨rfl, rfl, rfl, by decide +kernel, rfl, by decide +kernel, by decide +kernel⟩
abbrev n_Reading_init : List Str := ["self", "octets"]
theorem sc_Reading_init : FnScope n_Reading_init ["self", "octets"] (defScope s_Reading_init) := ⟨rfl, rfl, rfl, by decide +kernel, rfl, by decide +kernel, by decide +kernel⟩
abbrev n_Reading_octet : List Str := ["self"]
theorem sc_Reading_octet : FnScope n_Reading_octet ["self"] (defScope s_Reading_octet) := ⟨rfl, rfl, rfl, by decide +kernel, rfl, by decide +kernel, by decide +kernel⟩
abbrev n_Reading_figures : List Str := ["self", "end", "first", "n", "piece", "weight", "code", "many"]
theorem sc_Reading_figures : FnScope n_Reading_figures ["self", "end"] (defScope s_Reading_figures) := ⟨rfl, rfl, rfl, by decide +kernel, rfl, by decide +kernel, by decide +kernel⟩
abbrev n_Reading_number : List Str := ["self", "n"]
theorem sc_Reading_number : FnScope n_Reading_number ["self"] (defScope s_Reading_number) := ⟨rfl, rfl, rfl, by decide +kernel, rfl, by decide +kernel, by decide +kernel⟩
abbrev n_Reading_text : List Str := ["self", "many", "codes", "code"]
theorem sc_Reading_text : FnScope n_Reading_text ["self"] (defScope s_Reading_text) := ⟨rfl, rfl, rfl, by decide +kernel, rfl, by decide +kernel, by decide +kernel⟩
abbrev n_Reading_simple : List Str := ["self", "code"]
theorem sc_Reading_simple : FnScope n_Reading_simple ["self", "code"] (defScope s_Reading_simple) := ⟨rfl, rfl, rfl, by decide +kernel, rfl, by decide +kernel, by decide +kernel⟩
abbrev n_Reading_value : List Str := ["self", "levels", "code", "told"]
theorem sc_Reading_value : FnScope n_Reading_value ["self"] (defScope s_Reading_value) := ⟨rfl, rfl, rfl, by decide +kernel, rfl, by decide +kernel, by decide +kernel⟩
abbrev n_sign_with : List Str := ["code"]
theorem sc_sign_with : FnScope n_sign_with ["code"] (defScope s_sign_with) := ⟨rfl, rfl, rfl, by decide +kernel, rfl, by decide +kernel, by decide +kernel⟩
abbrev n_read : List Str := ["octets", "reading", "told"]
theorem sc_read : FnScope n_read ["octets"] (defScope s_read) := ⟨rfl, rfl, rfl, by decide +kernel, rfl, by decide +kernel, by decide +kernel⟩
abbrev n_check_number : List Str := ["octets", "at", "octet"]
theorem sc_check_number : FnScope n_check_number ["octets"] (defScope s_check_number) := ⟨rfl, rfl, rfl, by decide +kernel, rfl, by decide +kernel, by decide +kernel⟩
abbrev n_big_octets : List Str := ["n", "many", "at"]
theorem sc_big_octets : FnScope n_big_octets ["n", "many"] (defScope s_big_octets) := ⟨rfl, rfl, rfl, by decide +kernel, rfl, by decide +kernel, by decide +kernel⟩
abbrev n_number_of : List Str := ["octets", "n", "octet"]
theorem sc_number_of : FnScope n_number_of ["octets"] (defScope s_number_of) := ⟨rfl, rfl, rfl, by decide +kernel, rfl, by decide +kernel, by decide +kernel⟩
abbrev n_entry : List Str := ["kind", "payload", "octets", "check"]
theorem sc_entry : FnScope n_entry ["kind", "payload"] (defScope s_entry) := ⟨rfl, rfl, rfl, by decide +kernel, rfl, by decide +kernel, by decide +kernel⟩
abbrev n_end_of : List Str := ["octets", "at", "end"]
theorem sc_end_of : FnScope n_end_of ["octets", "at"] (defScope s_end_of) := ⟨rfl, rfl, rfl, by decide +kernel, rfl, by decide +kernel, by decide +kernel⟩
abbrev n_entry_at : List Str := ["octets", "at", "end", "told"]
theorem sc_entry_at : FnScope n_entry_at ["octets", "at"] (defScope s_entry_at) := ⟨rfl, rfl, rfl, by decide +kernel, rfl, by decide +kernel, by decide +kernel⟩
abbrev n_law_box : List Str := ["script", "x"]
theorem sc_law_box : FnScope n_law_box ["script"] (defScope s_law_box) := ⟨rfl, rfl, rfl, by decide +kernel, rfl, by decide +kernel, by decide +kernel⟩
abbrev n_law_take : List Str := ["box", "m", "at", "cell", "told"]
theorem sc_law_take : FnScope n_law_take ["box", "m"] (defScope s_law_take) := ⟨rfl, rfl, rfl, by decide +kernel, rfl, by decide +kernel, by decide +kernel⟩
abbrev n_law_pick : List Str := ["box", "menu"]
theorem sc_law_pick : FnScope n_law_pick ["box", "menu"] (defScope s_law_pick) := ⟨rfl, rfl, rfl, by decide +kernel, rfl, by decide +kernel, by decide +kernel⟩
abbrev n_law_octets : List Str := ["value", "told", "part", "sign"]
theorem sc_law_octets : FnScope n_law_octets ["value"] (defScope s_law_octets) := ⟨rfl, rfl, rfl, by decide +kernel, rfl, by decide +kernel, by decide +kernel⟩
abbrev n_law_plain : List Str := ["box", "deep", "sort", "k"]
theorem sc_law_plain : FnScope n_law_plain ["box", "deep"] (defScope s_law_plain) := ⟨rfl, rfl, rfl, by decide +kernel, rfl, by decide +kernel, by decide +kernel⟩
abbrev n_law_check : List Str := ["octets", "found", "k", "octet"]
theorem sc_law_check : FnScope n_law_check ["octets"] (defScope s_law_check) := ⟨rfl, rfl, rfl, by decide +kernel, rfl, by decide +kernel, by decide +kernel⟩
abbrev n_law_entry : List Str := ["kind", "value", "told", "many", "check"]
theorem sc_law_entry : FnScope n_law_entry ["kind", "value"] (defScope s_law_entry) := ⟨rfl, rfl, rfl, by decide +kernel, rfl, by decide +kernel, by decide +kernel⟩
abbrev n_law_there : List Str := ["octets", "at", "many", "end"]
theorem sc_law_there : FnScope n_law_there ["octets", "at"] (defScope s_law_there) := ⟨rfl, rfl, rfl, by decide +kernel, rfl, by decide +kernel, by decide +kernel⟩
abbrev n_law : List Str := ["script", "box", "octets", "places", "turn", "kind", "value", "told", "k", "one", "end", "at", "place", "spoilt", "found", "own"]
theorem sc_law : FnScope n_law ["script"] (defScope s_law) := ⟨rfl, rfl, rfl, by decide +kernel, rfl, by decide +kernel, by decide +kernel⟩
abbrev fns : List He.DefD := [⟨("are_octets", none), "are_octets", "are_octets", defArgs s_are_octets, defBody s_are_octets, defScope s_are_octets, [], []⟩,
  ⟨("is_sign_code", none), "is_sign_code", "is_sign_code", defArgs s_is_sign_code, defBody s_is_sign_code, defScope s_is_sign_code, [], []⟩,
  ⟨("figures_of", none), "figures_of", "figures_of", defArgs s_figures_of, defBody s_figures_of, defScope s_figures_of, [], []⟩,
  ⟨("codes_of", none), "codes_of", "codes_of", defArgs s_codes_of, defBody s_codes_of, defScope s_codes_of, [], []⟩,
  ⟨("write_number", none), "write_number", "write_number", defArgs s_write_number, defBody s_write_number, defScope s_write_number, [], []⟩,
  ⟨("write_text", none), "write_text", "write_text", defArgs s_write_text, defBody s_write_text, defScope s_write_text, [], []⟩,
  ⟨("write_simple", none), "write_simple", "write_simple", defArgs s_write_simple, defBody s_write_simple, defScope s_write_simple, [], []⟩,
  ⟨("written", none), "written", "written", defArgs s_written, defBody s_written, defScope s_written, [], []⟩,
  ⟨("Reading", some "__init__"), "__init__", "Reading.__init__", defArgs s_Reading_init, defBody s_Reading_init, defScope s_Reading_init, [], []⟩,
  ⟨("Reading", some "octet"), "octet", "Reading.octet", defArgs s_Reading_octet, defBody s_Reading_octet, defScope s_Reading_octet, [], []⟩,
  ⟨("Reading", some "figures"), "figures", "Reading.figures", defArgs s_Reading_figures, defBody s_Reading_figures, defScope s_Reading_figures, [], []⟩,
  ⟨("Reading", some "number"), "number", "Reading.number", defArgs s_Reading_number, defBody s_Reading_number, defScope s_Reading_number, [], []⟩,
  ⟨("Reading", some "text"), "text", "Reading.text", defArgs s_Reading_text, defBody s_Reading_text, defScope s_Reading_text, [], []⟩,
  ⟨("Reading", some "simple"), "simple", "Reading.simple", defArgs s_Reading_simple, defBody s_Reading_simple, defScope s_Reading_simple, [], []⟩,
  ⟨("Reading", some "value"), "value", "Reading.value", defArgs s_Reading_value, defBody s_Reading_value, defScope s_Reading_value, [], []⟩,
  ⟨("sign_with", none), "sign_with", "sign_with", defArgs s_sign_with, defBody s_sign_with, defScope s_sign_with, [], []⟩,
  ⟨("read", none), "read", "read", defArgs s_read, defBody s_read, defScope s_read, [], []⟩,
  ⟨("check_number", none), "check_number", "check_number", defArgs s_check_number, defBody s_check_number, defScope s_check_number, [], []⟩,
  ⟨("big_octets", none), "big_octets", "big_octets", defArgs s_big_octets, defBody s_big_octets, defScope s_big_octets, [], []⟩,
  ⟨("number_of", none), "number_of", "number_of", defArgs s_number_of, defBody s_number_of, defScope s_number_of, [], []⟩,
  ⟨("entry", none), "entry", "entry", defArgs s_entry, defBody s_entry, defScope s_entry, [], []⟩,
  ⟨("end_of", none), "end_of", "end_of", defArgs s_end_of, defBody s_end_of, defScope s_end_of, [], []⟩,
  ⟨("entry_at", none), "entry_at", "entry_at", defArgs s_entry_at, defBody s_entry_at, defScope s_entry_at, [], []⟩,
  ⟨("_law_box", none), "_law_box", "_law_box", defArgs s_law_box, defBody s_law_box, defScope s_law_box, [], []⟩,
  ⟨("_law_take", none), "_law_take", "_law_take", defArgs s_law_take, defBody s_law_take, defScope s_law_take, [], []⟩,
  ⟨("_law_pick", none), "_law_pick", "_law_pick", defArgs s_law_pick, defBody s_law_pick, defScope s_law_pick, [], []⟩,
  ⟨("_law_octets", none), "_law_octets", "_law_octets", defArgs s_law_octets, defBody s_law_octets, defScope s_law_octets, [], []⟩,
  ⟨("_law_plain", none), "_law_plain", "_law_plain", defArgs s_law_plain, defBody s_law_plain, defScope s_law_plain, [], []⟩,
  ⟨("_law_check", none), "_law_check", "_law_check", defArgs s_law_check, defBody s_law_check, defScope s_law_check, [], []⟩,
  ⟨("_law_entry", none), "_law_entry", "_law_entry", defArgs s_law_entry, defBody s_law_entry, defScope s_law_entry, [], []⟩,
  ⟨("_law_there", none), "_law_there", "_law_there", defArgs s_law_there, defBody s_law_there, defScope s_law_there, [], []⟩,
  ⟨("law", none), "law", "law", defArgs s_law, defBody s_law, defScope s_law, [], []⟩]
abbrev facts : List He.Fa := [.glo "PeristyleError", .exc "PeristyleError", .exm "PeristyleError" "PeristyleError" true, .glo "BadForm", .exc "BadForm", .exm "BadForm" "BadForm" true, .glo "Reading", .cls "Reading", .mkr "Reading", .meth "Reading" "octet", .meth "Reading" "figures", .meth "Reading" "number", .meth "Reading" "text", .meth "Reading" "simple", .meth "Reading" "value", .noat "Reading" "octets", .noat "Reading" "at", .glo "SIGNS", .glo "are_octets", .glo "is_sign_code", .glo "figures_of", .glo "codes_of", .glo "write_number", .glo "write_text", .glo "write_simple", .glo "written", .glo "sign_with", .glo "read", .glo "check_number", .glo "big_octets", .glo "number_of", .glo "entry", .glo "end_of", .glo "entry_at", .glo "_law_box", .glo "_law_take", .glo "_law_pick", .glo "_law_octets", .glo "_law_plain", .glo "_law_check", .glo "_law_entry", .glo "_law_there", .glo "law", .free "ValueError", .free "all", .free "len", .free "int", .free "min", .free "max", .free "type", .free "divmod", .free "str", .free "ord", .free "abs", .free "bool", .free "tuple", .free "list", .free "sum", .free "enumerate", .free "range", .free "isinstance", .free "repr", .int "PERCENT" 37, .int "MOST_DEEP" 400, .int "PIECE" 60, .int "BASE" 1000000000000000000000000000000000000000000000000000000000000, .int "NONE" 110, .int "NO" 102, .int "YES" 116, .int "NUMBER" 105, .int "TEXT" 115, .int "BEGIN" 40, .int "SHUT" 41, .int "COLON" 58, .int "END" 59, .int "MINUS" 45, .int "NOUGHT" 48, .int "NINE" 57, .int "TAB" 9, .int "FEED" 10, .int "BLANK" 32, .int "LAST" 126, .int "HEAD" 5, .int "TAIL" 2, .int "MODULUS" 65521]
/-- what the walk asks of the top -/
structure Txt (K : PySem.W.Frag) (mg : Str → Option Value) : Prop where
  g_PeristyleError : mg "PeristyleError" = some (.ref (He.ga K "PeristyleError"))
  x_PeristyleError : PySem.W.excIn K (He.ga K "PeristyleError") He.veBase "ValueError.__new__" = true ∧ PySem.W.keepIn K (.ref (He.ga K "PeristyleError")) = true ∧ PySem.W.subIn K (.ref (He.ga K "PeristyleError")) (.type "BaseException") = some true ∧ PySem.W.typeIn K (.ref (He.ga K "PeristyleError")) = some (.type "type")
  m_PeristyleError : PySem.W.exmOne K (.ref (He.ga K "PeristyleError")) (.ref (He.ga K "PeristyleError")) = some true
  g_BadForm : mg "BadForm" = some (.ref (He.ga K "BadForm"))
  x_BadForm : PySem.W.excIn K (He.ga K "BadForm") He.veBase "ValueError.__new__" = true ∧ PySem.W.keepIn K (.ref (He.ga K "BadForm")) = true ∧ PySem.W.subIn K (.ref (He.ga K "BadForm")) (.type "BaseException") = some true ∧ PySem.W.typeIn K (.ref (He.ga K "BadForm")) = some (.type "type")
  m_BadForm : PySem.W.exmOne K (.ref (He.ga K "BadForm")) (.ref (He.ga K "BadForm")) = some true
  g_Reading : mg "Reading" = some (.ref (He.ga K "Reading"))
  cl_Reading : Cls K (He.ga K "Reading")
  mk_Reading : Mk K (He.ga K "Reading") (He.ma K (He.ga K "Reading") "__init__")
  m_Reading_octet : Meth K (He.ga K "Reading") "octet" (He.ma K (He.ga K "Reading") "octet")
  m_Reading_figures : Meth K (He.ga K "Reading") "figures" (He.ma K (He.ga K "Reading") "figures")
  m_Reading_number : Meth K (He.ga K "Reading") "number" (He.ma K (He.ga K "Reading") "number")
  m_Reading_text : Meth K (He.ga K "Reading") "text" (He.ma K (He.ga K "Reading") "text")
  m_Reading_simple : Meth K (He.ga K "Reading") "simple" (He.ma K (He.ga K "Reading") "simple")
  m_Reading_value : Meth K (He.ga K "Reading") "value" (He.ma K (He.ga K "Reading") "value")
  na_Reading_octets : NoAttr K (He.ga K "Reading") "octets"
  na_Reading_at : NoAttr K (He.ga K "Reading") "at"
  d_Reading_init : ∃ fd, FunD K "__init__" "Reading.__init__" (defArgs s_Reading_init) (defBody s_Reading_init) (defScope s_Reading_init) [] [] (He.ma K (He.ga K "Reading") "__init__") fd
  d_Reading_octet : ∃ fd, FunD K "octet" "Reading.octet" (defArgs s_Reading_octet) (defBody s_Reading_octet) (defScope s_Reading_octet) [] [] (He.ma K (He.ga K "Reading") "octet") fd
  d_Reading_figures : ∃ fd, FunD K "figures" "Reading.figures" (defArgs s_Reading_figures) (defBody s_Reading_figures) (defScope s_Reading_figures) [] [] (He.ma K (He.ga K "Reading") "figures") fd
  d_Reading_number : ∃ fd, FunD K "number" "Reading.number" (defArgs s_Reading_number) (defBody s_Reading_number) (defScope s_Reading_number) [] [] (He.ma K (He.ga K "Reading") "number") fd
  d_Reading_text : ∃ fd, FunD K "text" "Reading.text" (defArgs s_Reading_text) (defBody s_Reading_text) (defScope s_Reading_text) [] [] (He.ma K (He.ga K "Reading") "text") fd
  d_Reading_simple : ∃ fd, FunD K "simple" "Reading.simple" (defArgs s_Reading_simple) (defBody s_Reading_simple) (defScope s_Reading_simple) [] [] (He.ma K (He.ga K "Reading") "simple") fd
  d_Reading_value : ∃ fd, FunD K "value" "Reading.value" (defArgs s_Reading_value) (defBody s_Reading_value) (defScope s_Reading_value) [] [] (He.ma K (He.ga K "Reading") "value") fd
  z_ValueError : mg "ValueError" = none
  z_all : mg "all" = none
  z_len : mg "len" = none
  z_int : mg "int" = none
  z_min : mg "min" = none
  z_max : mg "max" = none
  z_type : mg "type" = none
  z_divmod : mg "divmod" = none
  z_str : mg "str" = none
  z_ord : mg "ord" = none
  z_abs : mg "abs" = none
  z_bool : mg "bool" = none
  z_tuple : mg "tuple" = none
  z_list : mg "list" = none
  z_sum : mg "sum" = none
  z_enumerate : mg "enumerate" = none
  z_range : mg "range" = none
  z_isinstance : mg "isinstance" = none
  z_repr : mg "repr" = none
  g_SIGNS : mg "SIGNS" = some (.ref (He.ga K "SIGNS"))
  g_are_octets : mg "are_octets" = some (.ref (He.ga K "are_octets"))
  d_are_octets : ∃ fd, FunD K "are_octets" "are_octets" (defArgs s_are_octets) (defBody s_are_octets) (defScope s_are_octets) [] [] (He.ga K "are_octets") fd
  g_is_sign_code : mg "is_sign_code" = some (.ref (He.ga K "is_sign_code"))
  d_is_sign_code : ∃ fd, FunD K "is_sign_code" "is_sign_code" (defArgs s_is_sign_code) (defBody s_is_sign_code) (defScope s_is_sign_code) [] [] (He.ga K "is_sign_code") fd
  g_figures_of : mg "figures_of" = some (.ref (He.ga K "figures_of"))
  d_figures_of : ∃ fd, FunD K "figures_of" "figures_of" (defArgs s_figures_of) (defBody s_figures_of) (defScope s_figures_of) [] [] (He.ga K "figures_of") fd
  g_codes_of : mg "codes_of" = some (.ref (He.ga K "codes_of"))
  d_codes_of : ∃ fd, FunD K "codes_of" "codes_of" (defArgs s_codes_of) (defBody s_codes_of) (defScope s_codes_of) [] [] (He.ga K "codes_of") fd
  g_write_number : mg "write_number" = some (.ref (He.ga K "write_number"))
  d_write_number : ∃ fd, FunD K "write_number" "write_number" (defArgs s_write_number) (defBody s_write_number) (defScope s_write_number) [] [] (He.ga K "write_number") fd
  g_write_text : mg "write_text" = some (.ref (He.ga K "write_text"))
  d_write_text : ∃ fd, FunD K "write_text" "write_text" (defArgs s_write_text) (defBody s_write_text) (defScope s_write_text) [] [] (He.ga K "write_text") fd
  g_write_simple : mg "write_simple" = some (.ref (He.ga K "write_simple"))
  d_write_simple : ∃ fd, FunD K "write_simple" "write_simple" (defArgs s_write_simple) (defBody s_write_simple) (defScope s_write_simple) [] [] (He.ga K "write_simple") fd
  g_written : mg "written" = some (.ref (He.ga K "written"))
  d_written : ∃ fd, FunD K "written" "written" (defArgs s_written) (defBody s_written) (defScope s_written) [] [] (He.ga K "written") fd
  g_sign_with : mg "sign_with" = some (.ref (He.ga K "sign_with"))
  d_sign_with : ∃ fd, FunD K "sign_with" "sign_with" (defArgs s_sign_with) (defBody s_sign_with) (defScope s_sign_with) [] [] (He.ga K "sign_with") fd
  g_read : mg "read" = some (.ref (He.ga K "read"))
  d_read : ∃ fd, FunD K "read" "read" (defArgs s_read) (defBody s_read) (defScope s_read) [] [] (He.ga K "read") fd
  g_check_number : mg "check_number" = some (.ref (He.ga K "check_number"))
  d_check_number : ∃ fd, FunD K "check_number" "check_number" (defArgs s_check_number) (defBody s_check_number) (defScope s_check_number) [] [] (He.ga K "check_number") fd
  g_big_octets : mg "big_octets" = some (.ref (He.ga K "big_octets"))
  d_big_octets : ∃ fd, FunD K "big_octets" "big_octets" (defArgs s_big_octets) (defBody s_big_octets) (defScope s_big_octets) [] [] (He.ga K "big_octets") fd
  g_number_of : mg "number_of" = some (.ref (He.ga K "number_of"))
  d_number_of : ∃ fd, FunD K "number_of" "number_of" (defArgs s_number_of) (defBody s_number_of) (defScope s_number_of) [] [] (He.ga K "number_of") fd
  g_entry : mg "entry" = some (.ref (He.ga K "entry"))
  d_entry : ∃ fd, FunD K "entry" "entry" (defArgs s_entry) (defBody s_entry) (defScope s_entry) [] [] (He.ga K "entry") fd
  g_end_of : mg "end_of" = some (.ref (He.ga K "end_of"))
  d_end_of : ∃ fd, FunD K "end_of" "end_of" (defArgs s_end_of) (defBody s_end_of) (defScope s_end_of) [] [] (He.ga K "end_of") fd
  g_entry_at : mg "entry_at" = some (.ref (He.ga K "entry_at"))
  d_entry_at : ∃ fd, FunD K "entry_at" "entry_at" (defArgs s_entry_at) (defBody s_entry_at) (defScope s_entry_at) [] [] (He.ga K "entry_at") fd
  g_law_box : mg "_law_box" = some (.ref (He.ga K "_law_box"))
  d_law_box : ∃ fd, FunD K "_law_box" "_law_box" (defArgs s_law_box) (defBody s_law_box) (defScope s_law_box) [] [] (He.ga K "_law_box") fd
  g_law_take : mg "_law_take" = some (.ref (He.ga K "_law_take"))
  d_law_take : ∃ fd, FunD K "_law_take" "_law_take" (defArgs s_law_take) (defBody s_law_take) (defScope s_law_take) [] [] (He.ga K "_law_take") fd
  g_law_pick : mg "_law_pick" = some (.ref (He.ga K "_law_pick"))
  d_law_pick : ∃ fd, FunD K "_law_pick" "_law_pick" (defArgs s_law_pick) (defBody s_law_pick) (defScope s_law_pick) [] [] (He.ga K "_law_pick") fd
  g_law_octets : mg "_law_octets" = some (.ref (He.ga K "_law_octets"))
  d_law_octets : ∃ fd, FunD K "_law_octets" "_law_octets" (defArgs s_law_octets) (defBody s_law_octets) (defScope s_law_octets) [] [] (He.ga K "_law_octets") fd
  g_law_plain : mg "_law_plain" = some (.ref (He.ga K "_law_plain"))
  d_law_plain : ∃ fd, FunD K "_law_plain" "_law_plain" (defArgs s_law_plain) (defBody s_law_plain) (defScope s_law_plain) [] [] (He.ga K "_law_plain") fd
  g_law_check : mg "_law_check" = some (.ref (He.ga K "_law_check"))
  d_law_check : ∃ fd, FunD K "_law_check" "_law_check" (defArgs s_law_check) (defBody s_law_check) (defScope s_law_check) [] [] (He.ga K "_law_check") fd
  g_law_entry : mg "_law_entry" = some (.ref (He.ga K "_law_entry"))
  d_law_entry : ∃ fd, FunD K "_law_entry" "_law_entry" (defArgs s_law_entry) (defBody s_law_entry) (defScope s_law_entry) [] [] (He.ga K "_law_entry") fd
  g_law_there : mg "_law_there" = some (.ref (He.ga K "_law_there"))
  d_law_there : ∃ fd, FunD K "_law_there" "_law_there" (defArgs s_law_there) (defBody s_law_there) (defScope s_law_there) [] [] (He.ga K "_law_there") fd
  g_law : mg "law" = some (.ref (He.ga K "law"))
  d_law : ∃ fd, FunD K "law" "law" (defArgs s_law) (defBody s_law) (defScope s_law) [] [] (He.ga K "law") fd
  i_PERCENT : ∃ t, mg "PERCENT" = some (.int 37 t)
  i_MOST_DEEP : ∃ t, mg "MOST_DEEP" = some (.int 400 t)
  i_PIECE : ∃ t, mg "PIECE" = some (.int 60 t)
  i_BASE : ∃ t, mg "BASE" = some (.int 1000000000000000000000000000000000000000000000000000000000000 t)
  i_NONE : ∃ t, mg "NONE" = some (.int 110 t)
  i_NO : ∃ t, mg "NO" = some (.int 102 t)
  i_YES : ∃ t, mg "YES" = some (.int 116 t)
  i_NUMBER : ∃ t, mg "NUMBER" = some (.int 105 t)
  i_TEXT : ∃ t, mg "TEXT" = some (.int 115 t)
  i_BEGIN : ∃ t, mg "BEGIN" = some (.int 40 t)
  i_SHUT : ∃ t, mg "SHUT" = some (.int 41 t)
  i_COLON : ∃ t, mg "COLON" = some (.int 58 t)
  i_END : ∃ t, mg "END" = some (.int 59 t)
  i_MINUS : ∃ t, mg "MINUS" = some (.int 45 t)
  i_NOUGHT : ∃ t, mg "NOUGHT" = some (.int 48 t)
  i_NINE : ∃ t, mg "NINE" = some (.int 57 t)
  i_TAB : ∃ t, mg "TAB" = some (.int 9 t)
  i_FEED : ∃ t, mg "FEED" = some (.int 10 t)
  i_BLANK : ∃ t, mg "BLANK" = some (.int 32 t)
  i_LAST : ∃ t, mg "LAST" = some (.int 126 t)
  i_HEAD : ∃ t, mg "HEAD" = some (.int 5 t)
  i_TAIL : ∃ t, mg "TAIL" = some (.int 2 t)
  i_MODULUS : ∃ t, mg "MODULUS" = some (.int 65521 t)
theorem txt_of {K : PySem.W.Frag} {h : Heap} {mg : Str → Option Value} (X : K.In h) (G : h.Ns mainGlobals mg) (c : He.SaysD facts fns K) : Txt K mg where
  g_PeristyleError := He.glo_ok X G (c.fact 0 (f := .glo "PeristyleError") rfl)
  x_PeristyleError := He.exc_ok (c.fact 1 (f := .exc "PeristyleError") rfl)
  m_PeristyleError := He.exm_ok (c.fact 2 (f := .exm "PeristyleError" "PeristyleError" true) rfl)
  g_BadForm := He.glo_ok X G (c.fact 3 (f := .glo "BadForm") rfl)
  x_BadForm := He.exc_ok (c.fact 4 (f := .exc "BadForm") rfl)
  m_BadForm := He.exm_ok (c.fact 5 (f := .exm "BadForm" "BadForm" true) rfl)
  g_Reading := He.glo_ok X G (c.fact 6 (f := .glo "Reading") rfl)
  cl_Reading := He.cls_ok (c.fact 7 (f := .cls "Reading") rfl)
  mk_Reading := He.mkr_ok (c.fact 8 (f := .mkr "Reading") rfl)
  m_Reading_octet := He.meth_ok (c.fact 9 (f := .meth "Reading" "octet") rfl)
  m_Reading_figures := He.meth_ok (c.fact 10 (f := .meth "Reading" "figures") rfl)
  m_Reading_number := He.meth_ok (c.fact 11 (f := .meth "Reading" "number") rfl)
  m_Reading_text := He.meth_ok (c.fact 12 (f := .meth "Reading" "text") rfl)
  m_Reading_simple := He.meth_ok (c.fact 13 (f := .meth "Reading" "simple") rfl)
  m_Reading_value := He.meth_ok (c.fact 14 (f := .meth "Reading" "value") rfl)
  na_Reading_octets := He.noat_ok (c.fact 15 (f := .noat "Reading" "octets") rfl)
  na_Reading_at := He.noat_ok (c.fact 16 (f := .noat "Reading" "at") rfl)
  g_SIGNS := He.glo_ok X G (c.fact 17 (f := .glo "SIGNS") rfl)
  g_are_octets := He.glo_ok X G (c.fact 18 (f := .glo "are_octets") rfl)
  g_is_sign_code := He.glo_ok X G (c.fact 19 (f := .glo "is_sign_code") rfl)
  g_figures_of := He.glo_ok X G (c.fact 20 (f := .glo "figures_of") rfl)
  g_codes_of := He.glo_ok X G (c.fact 21 (f := .glo "codes_of") rfl)
  g_write_number := He.glo_ok X G (c.fact 22 (f := .glo "write_number") rfl)
  g_write_text := He.glo_ok X G (c.fact 23 (f := .glo "write_text") rfl)
  g_write_simple := He.glo_ok X G (c.fact 24 (f := .glo "write_simple") rfl)
  g_written := He.glo_ok X G (c.fact 25 (f := .glo "written") rfl)
  g_sign_with := He.glo_ok X G (c.fact 26 (f := .glo "sign_with") rfl)
  g_read := He.glo_ok X G (c.fact 27 (f := .glo "read") rfl)
  g_check_number := He.glo_ok X G (c.fact 28 (f := .glo "check_number") rfl)
  g_big_octets := He.glo_ok X G (c.fact 29 (f := .glo "big_octets") rfl)
  g_number_of := He.glo_ok X G (c.fact 30 (f := .glo "number_of") rfl)
  g_entry := He.glo_ok X G (c.fact 31 (f := .glo "entry") rfl)
  g_end_of := He.glo_ok X G (c.fact 32 (f := .glo "end_of") rfl)
  g_entry_at := He.glo_ok X G (c.fact 33 (f := .glo "entry_at") rfl)
  g_law_box := He.glo_ok X G (c.fact 34 (f := .glo "_law_box") rfl)
  g_law_take := He.glo_ok X G (c.fact 35 (f := .glo "_law_take") rfl)
  g_law_pick := He.glo_ok X G (c.fact 36 (f := .glo "_law_pick") rfl)
  g_law_octets := He.glo_ok X G (c.fact 37 (f := .glo "_law_octets") rfl)
  g_law_plain := He.glo_ok X G (c.fact 38 (f := .glo "_law_plain") rfl)
  g_law_check := He.glo_ok X G (c.fact 39 (f := .glo "_law_check") rfl)
  g_law_entry := He.glo_ok X G (c.fact 40 (f := .glo "_law_entry") rfl)
  g_law_there := He.glo_ok X G (c.fact 41 (f := .glo "_law_there") rfl)
  g_law := He.glo_ok X G (c.fact 42 (f := .glo "law") rfl)
  z_ValueError := He.free_ok X G (c.fact 43 (f := .free "ValueError") rfl)
  z_all := He.free_ok X G (c.fact 44 (f := .free "all") rfl)
  z_len := He.free_ok X G (c.fact 45 (f := .free "len") rfl)
  z_int := He.free_ok X G (c.fact 46 (f := .free "int") rfl)
  z_min := He.free_ok X G (c.fact 47 (f := .free "min") rfl)
  z_max := He.free_ok X G (c.fact 48 (f := .free "max") rfl)
  z_type := He.free_ok X G (c.fact 49 (f := .free "type") rfl)
  z_divmod := He.free_ok X G (c.fact 50 (f := .free "divmod") rfl)
  z_str := He.free_ok X G (c.fact 51 (f := .free "str") rfl)
  z_ord := He.free_ok X G (c.fact 52 (f := .free "ord") rfl)
  z_abs := He.free_ok X G (c.fact 53 (f := .free "abs") rfl)
  z_bool := He.free_ok X G (c.fact 54 (f := .free "bool") rfl)
  z_tuple := He.free_ok X G (c.fact 55 (f := .free "tuple") rfl)
  z_list := He.free_ok X G (c.fact 56 (f := .free "list") rfl)
  z_sum := He.free_ok X G (c.fact 57 (f := .free "sum") rfl)
  z_enumerate := He.free_ok X G (c.fact 58 (f := .free "enumerate") rfl)
  z_range := He.free_ok X G (c.fact 59 (f := .free "range") rfl)
  z_isinstance := He.free_ok X G (c.fact 60 (f := .free "isinstance") rfl)
  z_repr := He.free_ok X G (c.fact 61 (f := .free "repr") rfl)
  i_PERCENT := He.int_ok X G (c.fact 62 (f := .int "PERCENT" 37) rfl)
  i_MOST_DEEP := He.int_ok X G (c.fact 63 (f := .int "MOST_DEEP" 400) rfl)
  i_PIECE := He.int_ok X G (c.fact 64 (f := .int "PIECE" 60) rfl)
  i_BASE := He.int_ok X G (c.fact 65 (f := .int "BASE" 1000000000000000000000000000000000000000000000000000000000000) rfl)
  i_NONE := He.int_ok X G (c.fact 66 (f := .int "NONE" 110) rfl)
  i_NO := He.int_ok X G (c.fact 67 (f := .int "NO" 102) rfl)
  i_YES := He.int_ok X G (c.fact 68 (f := .int "YES" 116) rfl)
  i_NUMBER := He.int_ok X G (c.fact 69 (f := .int "NUMBER" 105) rfl)
  i_TEXT := He.int_ok X G (c.fact 70 (f := .int "TEXT" 115) rfl)
  i_BEGIN := He.int_ok X G (c.fact 71 (f := .int "BEGIN" 40) rfl)
  i_SHUT := He.int_ok X G (c.fact 72 (f := .int "SHUT" 41) rfl)
  i_COLON := He.int_ok X G (c.fact 73 (f := .int "COLON" 58) rfl)
  i_END := He.int_ok X G (c.fact 74 (f := .int "END" 59) rfl)
  i_MINUS := He.int_ok X G (c.fact 75 (f := .int "MINUS" 45) rfl)
  i_NOUGHT := He.int_ok X G (c.fact 76 (f := .int "NOUGHT" 48) rfl)
  i_NINE := He.int_ok X G (c.fact 77 (f := .int "NINE" 57) rfl)
  i_TAB := He.int_ok X G (c.fact 78 (f := .int "TAB" 9) rfl)
  i_FEED := He.int_ok X G (c.fact 79 (f := .int "FEED" 10) rfl)
  i_BLANK := He.int_ok X G (c.fact 80 (f := .int "BLANK" 32) rfl)
  i_LAST := He.int_ok X G (c.fact 81 (f := .int "LAST" 126) rfl)
  i_HEAD := He.int_ok X G (c.fact 82 (f := .int "HEAD" 5) rfl)
  i_TAIL := He.int_ok X G (c.fact 83 (f := .int "TAIL" 2) rfl)
  i_MODULUS := He.int_ok X G (c.fact 84 (f := .int "MODULUS" 65521) rfl)
  d_are_octets := c.def_ 0 (d := ⟨("are_octets", none), "are_octets", "are_octets", defArgs s_are_octets, defBody s_are_octets, defScope s_are_octets, [], []⟩) rfl
  d_is_sign_code := c.def_ 1 (d := ⟨("is_sign_code", none), "is_sign_code", "is_sign_code", defArgs s_is_sign_code, defBody s_is_sign_code, defScope s_is_sign_code, [], []⟩) rfl
  d_figures_of := c.def_ 2 (d := ⟨("figures_of", none), "figures_of", "figures_of", defArgs s_figures_of, defBody s_figures_of, defScope s_figures_of, [], []⟩) rfl
  d_codes_of := c.def_ 3 (d := ⟨("codes_of", none), "codes_of", "codes_of", defArgs s_codes_of, defBody s_codes_of, defScope s_codes_of, [], []⟩) rfl
  d_write_number := c.def_ 4 (d := ⟨("write_number", none), "write_number", "write_number", defArgs s_write_number, defBody s_write_number, defScope s_write_number, [], []⟩) rfl
  d_write_text := c.def_ 5 (d := ⟨("write_text", none), "write_text", "write_text", defArgs s_write_text, defBody s_write_text, defScope s_write_text, [], []⟩) rfl
  d_write_simple := c.def_ 6 (d := ⟨("write_simple", none), "write_simple", "write_simple", defArgs s_write_simple, defBody s_write_simple, defScope s_write_simple, [], []⟩) rfl
  d_written := c.def_ 7 (d := ⟨("written", none), "written", "written", defArgs s_written, defBody s_written, defScope s_written, [], []⟩) rfl
  d_Reading_init := c.def_ 8 (d := ⟨("Reading", some "__init__"), "__init__", "Reading.__init__", defArgs s_Reading_init, defBody s_Reading_init, defScope s_Reading_init, [], []⟩) rfl
  d_Reading_octet := c.def_ 9 (d := ⟨("Reading", some "octet"), "octet", "Reading.octet", defArgs s_Reading_octet, defBody s_Reading_octet, defScope s_Reading_octet, [], []⟩) rfl
  d_Reading_figures := c.def_ 10 (d := ⟨("Reading", some "figures"), "figures", "Reading.figures", defArgs s_Reading_figures, defBody s_Reading_figures, defScope s_Reading_figures, [], []⟩) rfl
  d_Reading_number := c.def_ 11 (d := ⟨("Reading", some "number"), "number", "Reading.number", defArgs s_Reading_number, defBody s_Reading_number, defScope s_Reading_number, [], []⟩) rfl
  d_Reading_text := c.def_ 12 (d := ⟨("Reading", some "text"), "text", "Reading.text", defArgs s_Reading_text, defBody s_Reading_text, defScope s_Reading_text, [], []⟩) rfl
  d_Reading_simple := c.def_ 13 (d := ⟨("Reading", some "simple"), "simple", "Reading.simple", defArgs s_Reading_simple, defBody s_Reading_simple, defScope s_Reading_simple, [], []⟩) rfl
  d_Reading_value := c.def_ 14 (d := ⟨("Reading", some "value"), "value", "Reading.value", defArgs s_Reading_value, defBody s_Reading_value, defScope s_Reading_value, [], []⟩) rfl
  d_sign_with := c.def_ 15 (d := ⟨("sign_with", none), "sign_with", "sign_with", defArgs s_sign_with, defBody s_sign_with, defScope s_sign_with, [], []⟩) rfl
  d_read := c.def_ 16 (d := ⟨("read", none), "read", "read", defArgs s_read, defBody s_read, defScope s_read, [], []⟩) rfl
  d_check_number := c.def_ 17 (d := ⟨("check_number", none), "check_number", "check_number", defArgs s_check_number, defBody s_check_number, defScope s_check_number, [], []⟩) rfl
  d_big_octets := c.def_ 18 (d := ⟨("big_octets", none), "big_octets", "big_octets", defArgs s_big_octets, defBody s_big_octets, defScope s_big_octets, [], []⟩) rfl
  d_number_of := c.def_ 19 (d := ⟨("number_of", none), "number_of", "number_of", defArgs s_number_of, defBody s_number_of, defScope s_number_of, [], []⟩) rfl
  d_entry := c.def_ 20 (d := ⟨("entry", none), "entry", "entry", defArgs s_entry, defBody s_entry, defScope s_entry, [], []⟩) rfl
  d_end_of := c.def_ 21 (d := ⟨("end_of", none), "end_of", "end_of", defArgs s_end_of, defBody s_end_of, defScope s_end_of, [], []⟩) rfl
  d_entry_at := c.def_ 22 (d := ⟨("entry_at", none), "entry_at", "entry_at", defArgs s_entry_at, defBody s_entry_at, defScope s_entry_at, [], []⟩) rfl
  d_law_box := c.def_ 23 (d := ⟨("_law_box", none), "_law_box", "_law_box", defArgs s_law_box, defBody s_law_box, defScope s_law_box, [], []⟩) rfl
  d_law_take := c.def_ 24 (d := ⟨("_law_take", none), "_law_take", "_law_take", defArgs s_law_take, defBody s_law_take, defScope s_law_take, [], []⟩) rfl
  d_law_pick := c.def_ 25 (d := ⟨("_law_pick", none), "_law_pick", "_law_pick", defArgs s_law_pick, defBody s_law_pick, defScope s_law_pick, [], []⟩) rfl
  d_law_octets := c.def_ 26 (d := ⟨("_law_octets", none), "_law_octets", "_law_octets", defArgs s_law_octets, defBody s_law_octets, defScope s_law_octets, [], []⟩) rfl
  d_law_plain := c.def_ 27 (d := ⟨("_law_plain", none), "_law_plain", "_law_plain", defArgs s_law_plain, defBody s_law_plain, defScope s_law_plain, [], []⟩) rfl
  d_law_check := c.def_ 28 (d := ⟨("_law_check", none), "_law_check", "_law_check", defArgs s_law_check, defBody s_law_check, defScope s_law_check, [], []⟩) rfl
  d_law_entry := c.def_ 29 (d := ⟨("_law_entry", none), "_law_entry", "_law_entry", defArgs s_law_entry, defBody s_law_entry, defScope s_law_entry, [], []⟩) rfl
  d_law_there := c.def_ 30 (d := ⟨("_law_there", none), "_law_there", "_law_there", defArgs s_law_there, defBody s_law_there, defScope s_law_there, [], []⟩) rfl
  d_law := c.def_ 31 (d := ⟨("law", none), "law", "law", defArgs s_law, defBody s_law, defScope s_law, [], []⟩) rfl
theorem b_are_octets {K : PySem.W.Frag} {f : Addr} {fd : FuncData} (F : FunD K "are_octets" "are_octets" (defArgs s_are_octets) (defBody s_are_octets) (defScope s_are_octets) [] [] f fd) : Binds K fd ["xs"] [] := F.bindsN fun _ _ _ _ _ _ us hl => match us, hl with | [_], _ => rfl
theorem b_is_sign_code {K : PySem.W.Frag} {f : Addr} {fd : FuncData} (F : FunD K "is_sign_code" "is_sign_code" (defArgs s_is_sign_code) (defBody s_is_sign_code) (defScope s_is_sign_code) [] [] f fd) : Binds K fd ["code"] [] := F.bindsN fun _ _ _ _ _ _ us hl => match us, hl with | [_], _ => rfl
theorem b_figures_of {K : PySem.W.Frag} {f : Addr} {fd : FuncData} (F : FunD K "figures_of" "figures_of" (defArgs s_figures_of) (defBody s_figures_of) (defScope s_figures_of) [] [] f fd) : Binds K fd ["n"] [] := F.bindsN fun _ _ _ _ _ _ us hl => match us, hl with | [_], _ => rfl
theorem b_codes_of {K : PySem.W.Frag} {f : Addr} {fd : FuncData} (F : FunD K "codes_of" "codes_of" (defArgs s_codes_of) (defBody s_codes_of) (defScope s_codes_of) [] [] f fd) : Binds K fd ["text"] [] := F.bindsN fun _ _ _ _ _ _ us hl => match us, hl with | [_], _ => rfl
theorem b_write_number {K : PySem.W.Frag} {f : Addr} {fd : FuncData} (F : FunD K "write_number" "write_number" (defArgs s_write_number) (defBody s_write_number) (defScope s_write_number) [] [] f fd) : Binds K fd ["n", "out"] [] := F.bindsN fun _ _ _ _ _ _ us hl => match us, hl with | [_, _], _ => rfl
theorem b_write_text {K : PySem.W.Frag} {f : Addr} {fd : FuncData} (F : FunD K "write_text" "write_text" (defArgs s_write_text) (defBody s_write_text) (defScope s_write_text) [] [] f fd) : Binds K fd ["text", "out"] [] := F.bindsN fun _ _ _ _ _ _ us hl => match us, hl with | [_, _], _ => rfl
theorem b_write_simple {K : PySem.W.Frag} {f : Addr} {fd : FuncData} (F : FunD K "write_simple" "write_simple" (defArgs s_write_simple) (defBody s_write_simple) (defScope s_write_simple) [] [] f fd) : Binds K fd ["x", "out"] [] := F.bindsN fun _ _ _ _ _ _ us hl => match us, hl with | [_, _], _ => rfl
theorem b_written {K : PySem.W.Frag} {f : Addr} {fd : FuncData} (F : FunD K "written" "written" (defArgs s_written) (defBody s_written) (defScope s_written) [] [] f fd) : Binds K fd ["value"] [] := F.bindsN fun _ _ _ _ _ _ us hl => match us, hl with | [_], _ => rfl
theorem b_sign_with {K : PySem.W.Frag} {f : Addr} {fd : FuncData} (F : FunD K "sign_with" "sign_with" (defArgs s_sign_with) (defBody s_sign_with) (defScope s_sign_with) [] [] f fd) : Binds K fd ["code"] [] := F.bindsN fun _ _ _ _ _ _ us hl => match us, hl with | [_], _ => rfl
theorem b_read {K : PySem.W.Frag} {f : Addr} {fd : FuncData} (F : FunD K "read" "read" (defArgs s_read) (defBody s_read) (defScope s_read) [] [] f fd) : Binds K fd ["octets"] [] := F.bindsN fun _ _ _ _ _ _ us hl => match us, hl with | [_], _ => rfl
theorem b_check_number {K : PySem.W.Frag} {f : Addr} {fd : FuncData} (F : FunD K "check_number" "check_number" (defArgs s_check_number) (defBody s_check_number) (defScope s_check_number) [] [] f fd) : Binds K fd ["octets"] [] := F.bindsN fun _ _ _ _ _ _ us hl => match us, hl with | [_], _ => rfl
theorem b_big_octets {K : PySem.W.Frag} {f : Addr} {fd : FuncData} (F : FunD K "big_octets" "big_octets" (defArgs s_big_octets) (defBody s_big_octets) (defScope s_big_octets) [] [] f fd) : Binds K fd ["n", "many"] [] := F.bindsN fun _ _ _ _ _ _ us hl => match us, hl with | [_, _], _ => rfl
theorem b_number_of {K : PySem.W.Frag} {f : Addr} {fd : FuncData} (F : FunD K "number_of" "number_of" (defArgs s_number_of) (defBody s_number_of) (defScope s_number_of) [] [] f fd) : Binds K fd ["octets"] [] := F.bindsN fun _ _ _ _ _ _ us hl => match us, hl with | [_], _ => rfl
theorem b_entry {K : PySem.W.Frag} {f : Addr} {fd : FuncData} (F : FunD K "entry" "entry" (defArgs s_entry) (defBody s_entry) (defScope s_entry) [] [] f fd) : Binds K fd ["kind", "payload"] [] := F.bindsN fun _ _ _ _ _ _ us hl => match us, hl with | [_, _], _ => rfl
theorem b_end_of {K : PySem.W.Frag} {f : Addr} {fd : FuncData} (F : FunD K "end_of" "end_of" (defArgs s_end_of) (defBody s_end_of) (defScope s_end_of) [] [] f fd) : Binds K fd ["octets", "at"] [] := F.bindsN fun _ _ _ _ _ _ us hl => match us, hl with | [_, _], _ => rfl
theorem b_entry_at {K : PySem.W.Frag} {f : Addr} {fd : FuncData} (F : FunD K "entry_at" "entry_at" (defArgs s_entry_at) (defBody s_entry_at) (defScope s_entry_at) [] [] f fd) : Binds K fd ["octets", "at"] [] := F.bindsN fun _ _ _ _ _ _ us hl => match us, hl with | [_, _], _ => rfl
theorem b_law_box {K : PySem.W.Frag} {f : Addr} {fd : FuncData} (F : FunD K "_law_box" "_law_box" (defArgs s_law_box) (defBody s_law_box) (defScope s_law_box) [] [] f fd) : Binds K fd ["script"] [] := F.bindsN fun _ _ _ _ _ _ us hl => match us, hl with | [_], _ => rfl
theorem b_law_take {K : PySem.W.Frag} {f : Addr} {fd : FuncData} (F : FunD K "_law_take" "_law_take" (defArgs s_law_take) (defBody s_law_take) (defScope s_law_take) [] [] f fd) : Binds K fd ["box", "m"] [] := F.bindsN fun _ _ _ _ _ _ us hl => match us, hl with | [_, _], _ => rfl
theorem b_law_pick {K : PySem.W.Frag} {f : Addr} {fd : FuncData} (F : FunD K "_law_pick" "_law_pick" (defArgs s_law_pick) (defBody s_law_pick) (defScope s_law_pick) [] [] f fd) : Binds K fd ["box", "menu"] [] := F.bindsN fun _ _ _ _ _ _ us hl => match us, hl with | [_, _], _ => rfl
theorem b_law_octets {K : PySem.W.Frag} {f : Addr} {fd : FuncData} (F : FunD K "_law_octets" "_law_octets" (defArgs s_law_octets) (defBody s_law_octets) (defScope s_law_octets) [] [] f fd) : Binds K fd ["value"] [] := F.bindsN fun _ _ _ _ _ _ us hl => match us, hl with | [_], _ => rfl
theorem b_law_plain {K : PySem.W.Frag} {f : Addr} {fd : FuncData} (F : FunD K "_law_plain" "_law_plain" (defArgs s_law_plain) (defBody s_law_plain) (defScope s_law_plain) [] [] f fd) : Binds K fd ["box", "deep"] [] := F.bindsN fun _ _ _ _ _ _ us hl => match us, hl with | [_, _], _ => rfl
theorem b_law_check {K : PySem.W.Frag} {f : Addr} {fd : FuncData} (F : FunD K "_law_check" "_law_check" (defArgs s_law_check) (defBody s_law_check) (defScope s_law_check) [] [] f fd) : Binds K fd ["octets"] [] := F.bindsN fun _ _ _ _ _ _ us hl => match us, hl with | [_], _ => rfl
theorem b_law_entry {K : PySem.W.Frag} {f : Addr} {fd : FuncData} (F : FunD K "_law_entry" "_law_entry" (defArgs s_law_entry) (defBody s_law_entry) (defScope s_law_entry) [] [] f fd) : Binds K fd ["kind", "value"] [] := F.bindsN fun _ _ _ _ _ _ us hl => match us, hl with | [_, _], _ => rfl
theorem b_law_there {K : PySem.W.Frag} {f : Addr} {fd : FuncData} (F : FunD K "_law_there" "_law_there" (defArgs s_law_there) (defBody s_law_there) (defScope s_law_there) [] [] f fd) : Binds K fd ["octets", "at"] [] := F.bindsN fun _ _ _ _ _ _ us hl => match us, hl with | [_, _], _ => rfl
theorem b_law {K : PySem.W.Frag} {f : Addr} {fd : FuncData} (F : FunD K "law" "law" (defArgs s_law) (defBody s_law) (defScope s_law) [] [] f fd) : Binds K fd ["script"] [] := F.bindsN fun _ _ _ _ _ _ us hl => match us, hl with | [_], _ => rfl
theorem b_Reading_init {K : PySem.W.Frag} {f : Addr} {fd : FuncData} (F : FunD K "__init__" "Reading.__init__" (defArgs s_Reading_init) (defBody s_Reading_init) (defScope s_Reading_init) [] [] f fd) : Binds K fd ["self", "octets"] [] := F.bindsN fun _ _ _ _ _ _ us hl => match us, hl with | [_, _], _ => rfl
theorem b_Reading_octet {K : PySem.W.Frag} {f : Addr} {fd : FuncData} (F : FunD K "octet" "Reading.octet" (defArgs s_Reading_octet) (defBody s_Reading_octet) (defScope s_Reading_octet) [] [] f fd) : Binds K fd ["self"] [] := F.bindsN fun _ _ _ _ _ _ us hl => match us, hl with | [_], _ => rfl
theorem b_Reading_figures {K : PySem.W.Frag} {f : Addr} {fd : FuncData} (F : FunD K "figures" "Reading.figures" (defArgs s_Reading_figures) (defBody s_Reading_figures) (defScope s_Reading_figures) [] [] f fd) : Binds K fd ["self", "end"] [] := F.bindsN fun _ _ _ _ _ _ us hl => match us, hl with | [_, _], _ => rfl
theorem b_Reading_number {K : PySem.W.Frag} {f : Addr} {fd : FuncData} (F : FunD K "number" "Reading.number" (defArgs s_Reading_number) (defBody s_Reading_number) (defScope s_Reading_number) [] [] f fd) : Binds K fd ["self"] [] := F.bindsN fun _ _ _ _ _ _ us hl => match us, hl with | [_], _ => rfl
theorem b_Reading_text {K : PySem.W.Frag} {f : Addr} {fd : FuncData} (F : FunD K "text" "Reading.text" (defArgs s_Reading_text) (defBody s_Reading_text) (defScope s_Reading_text) [] [] f fd) : Binds K fd ["self"] [] := F.bindsN fun _ _ _ _ _ _ us hl => match us, hl with | [_], _ => rfl
theorem b_Reading_simple {K : PySem.W.Frag} {f : Addr} {fd : FuncData} (F : FunD K "simple" "Reading.simple" (defArgs s_Reading_simple) (defBody s_Reading_simple) (defScope s_Reading_simple) [] [] f fd) : Binds K fd ["self", "code"] [] := F.bindsN fun _ _ _ _ _ _ us hl => match us, hl with | [_, _], _ => rfl
theorem b_Reading_value {K : PySem.W.Frag} {f : Addr} {fd : FuncData} (F : FunD K "value" "Reading.value" (defArgs s_Reading_value) (defBody s_Reading_value) (defScope s_Reading_value) [] [] f fd) : Binds K fd ["self"] [] := F.bindsN fun _ _ _ _ _ _ us hl => match us, hl with | [_], _ => rfl
section
variable {P : Program} {w : World} {K : PySem.W.Frag} {mg : Str → Option Value} {base : Heap}
/-- a def of the module keeps its promise -/
theorem fnk_of {x : Str} {st : Stmt} {N ps : List Str} {k : Nat} {sp : Sp} {fd : FuncData} (F : FunD K x x (defArgs st) (defBody st) (defScope st) [] [] (He.ga K x) fd)
    (S : FnScope N ps (defScope st)) (len : ∀ vs H Q E, sp vs H Q E → vs.length = ps.length)
    (hbody : ∀ (cdv : Value) (A : Around) (outer : List Env) (s : Shared) (H : Hp) (vs : List V) (Q : VK) (E : XK), Room k (A.deeper (envOfC x (defScope st) s.heap.objs.size (He.ga K x) cdv)) → sp vs H Q E →
      ∃ t, PSs (cxOf CX0 P w K mg base N x (defScope st) (He.ga K x) cdv A outer s H E).nox (defBody st) t ∧ t { nx := fun _ H' => Q .non H', rt := Q } (start N vs) H) : FnOk P w K mg base CX0 (k + 1) (He.ga K x) fd ps sp :=
  F.ok S len fun cdv A outer s H vs Q E hr hsp => let ⟨t, h, q⟩ := hbody cdv A outer s H vs Q E hr hsp; ⟨t, h.nox, q⟩
/-- a def of the module that may be called by its name -/
theorem cal_of {x : Str} {st : Stmt} {N ps : List Str} {k : Nat} {sp : Sp} (hF : ∃ fd, FunD K x x (defArgs st) (defBody st) (defScope st) [] [] (He.ga K x) fd) (hg : mg x = some (.ref (He.ga K x)))
    (S : FnScope N ps (defScope st)) (hb : ∀ fd, FunD K x x (defArgs st) (defBody st) (defScope st) [] [] (He.ga K x) fd → Binds K fd ps []) (len : ∀ vs H Q E, sp vs H Q E → vs.length = ps.length)
    (hbody : ∀ (cdv : Value) (A : Around) (outer : List Env) (s : Shared) (H : Hp) (vs : List V) (Q : VK) (E : XK), Room k (A.deeper (envOfC x (defScope st) s.heap.objs.size (He.ga K x) cdv)) → sp vs H Q E →
      ∃ t, PSs (cxOf CX0 P w K mg base N x (defScope st) (He.ga K x) cdv A outer s H E).nox (defBody st) t ∧ t { nx := fun _ H' => Q .non H', rt := Q } (start N vs) H) : C8.Cal P w K mg base (k + 1) x sp [] := by
  obtain ⟨fd, F⟩ := hF
  exact ⟨_, fd, ps, [], fnk_of F S len hbody, hg, F.kp, hb fd F, .nil⟩
/-- a def of the module that may be called by its name, and lets nothing out -/
theorem calB_of {x : Str} {st : Stmt} {N ps : List Str} {dp un : Nat} {g : Bool} {sp : Sp} (hF : ∃ fd, FunD K x x (defArgs st) (defBody st) (defScope st) [] [] (He.ga K x) fd) (hg : mg x = some (.ref (He.ga K x)))
    (S : FnScope N ps (defScope st)) (hb : ∀ fd, FunD K x x (defArgs st) (defBody st) (defScope st) [] [] (He.ga K x) fd → Binds K fd ps []) (len : ∀ vs H Q E, sp vs H Q E → vs.length = ps.length)
    (hbody : ∀ (cdv : Value) (A : Around) (outer : List Env) (s : Shared) (H : Hp) (vs : List V) (Q : VK) (E : XK), Gk.Rm dp un g (A.deeper (envOfC x (defScope st) s.heap.objs.size (He.ga K x) cdv)) → sp vs H Q E →
      ∃ t, PSs (cxOf CX0 P w K mg base N x (defScope st) (He.ga K x) cdv A outer s H E).nox (defBody st) t ∧ t { nx := fun _ H' => Q .non H', rt := Q } (start N vs) H) : Gk.CalB P w K mg base CX0 (dp + 1) (un + 3) g x sp := by
  obtain ⟨fd, F⟩ := hF
  refine ⟨_, fd, ps, Gk.fnB_in F S len fun cdv A outer s H vs Q E room want => ?_, hg, F.kp, hb fd F⟩
  obtain ⟨t, h, z⟩ := hbody cdv A outer s H vs Q E room want
  exact ⟨t, h.nox, z⟩
theorem calB_le {cx : CXT} {dp un dp' un' : Nat} {g g' : Bool} {x : Str} {sp : Sp} (c : Gk.CalB P w K mg base cx dp un g x sp) (h1 : dp ≤ dp') (h2 : un ≤ un') (h3 : g = true → g' = true) : Gk.CalB P w K mg base cx dp' un' g' x sp := by
  obtain ⟨f, fd, ps, F, r⟩ := c.ex
  exact ⟨f, fd, ps, F.le h1 h2 h3, r⟩
theorem calB_cal {k dp un : Nat} {g : Bool} {x : Str} {sp : Sp} (c : C8.Cal P w K mg base k x sp []) (h1 : 3 * k + 5 ≤ dp) (h2 : 16 * k + 200 ≤ un) : Gk.CalB P w K mg base CX0 dp un g x sp := by
  obtain ⟨f, fd, ps, ds, F, hm, kp, b, v⟩ := c.ex
  cases v
  exact ⟨f, fd, ps, Gk.FnB.of F h1 h2, hm, kp, b⟩
end
end K28
set_option Elab.async false
set_option linter.all false
set_option maxRecDepth 100000
set_option maxHeartbeats 4000000
namespace K28
open PySem PySem.Spec PyProof.Rows L2
section
variable {K : PySem.W.Frag} {H : Hp} {p : Addr} {xs : List V} {i : Int} {j : Nat} {v : V} {Q : VK} {R : Hp → Prop}
theorem ixL (h : H p = some (.lst xs)) (e : atI xs i = some v) (q : Q v H) : rIxL K (.ref p) (.int i) H Q := ⟨p, xs, i, v, rfl, rfl, SqL.of h, e, q⟩
theorem ixLs (h : SqL K H p xs) (e : atI xs i = some v) (q : Q v H) : rIxL K (.ref p) (.int i) H Q := ⟨p, xs, i, v, rfl, rfl, h, e, q⟩
theorem ixT (h : H p = some (.tup xs)) (e : atI xs i = some v) (q : Q v H) : rIxT K (.ref p) (.int i) H Q := ⟨p, xs, i, v, rfl, rfl, SqT.of h, e, q⟩
theorem ixTs (h : SqT K H p xs) (e : atI xs i = some v) (q : Q v H) : rIxT K (.ref p) (.int i) H Q := ⟨p, xs, i, v, rfl, rfl, h, e, q⟩
theorem setL (h : H p = some (.lst xs)) (e : ixN xs.length i = some j) (q : R (upd H p (.lst (xs.set j v)))) : rSetL (.ref p) (.int i) v H R := ⟨p, xs, i, j, rfl, rfl, h, e, q⟩
theorem atI_map_int {ns : List Int} {i : Int} (h0 : 0 ≤ i) (h : i < ns.length) : ∃ n, n ∈ ns ∧ atI (ns.map V.int) i = some (.int n) := by
  obtain ⟨j, rfl⟩ := Int.eq_ofNat_of_zero_le h0
  have hj : j < ns.length := Int.ofNat_lt.mp h
  refine ⟨ns[j], List.getElem_mem hj, atI_nat ?_⟩
  rw [List.getElem?_map, List.getElem?_eq_getElem hj]
  rfl
theorem dec_int {i j : Int} (h : decide (V.int i = V.int j) = true) : i = j := V.int.inj (of_decide_eq_true h)
theorem dec_int_ne {i j : Int} (h : ¬ decide (V.int i = V.int j) = true) : i ≠ j := fun e => h (decide_eq_true (congrArg V.int e))
theorem fmod_bounds {i m : Int} (hm : 1 ≤ m) : 0 ≤ i.fmod m ∧ i.fmod m < m := ⟨Int.fmod_nonneg_of_pos i (by omega), Int.fmod_lt_of_pos i (by omega)⟩
/-- what the heap tells elsewhere than at b stays -/
def But (b : Addr) (H H' : Hp) : Prop := ∀ a, a ≠ b → H' a = H a
theorem But.refl {b : Addr} {H : Hp} : But b H H := fun _ _ => rfl
theorem But.upd {b : Addr} {H H' : Hp} {o : HO} (h : But b H H') : But b H (upd H' b o) := fun a ha => by rw [upd_ne ha]; exact h a ha
theorem But.trans {b : Addr} {H H1 H2 : Hp} (h : But b H H1) (h' : But b H1 H2) : But b H H2 := fun a ha => (h' a ha).trans (h a ha)
theorem same_upd {H : Hp} {p : Addr} {o : HO} (h : H p = none) : Same H (L2.upd H p o) := fun b x e => by
  rw [upd_ne (ne_of_none e h)]
  exact e
theorem upd_upd {H : Hp} {p : Addr} {o o' : HO} : L2.upd (L2.upd H p o) p o' = L2.upd H p o' := funext fun a => by
  by_cases h : a = p
  · subst h; rw [upd_same, upd_same]
  · rw [upd_ne h, upd_ne h, upd_ne h]
theorem ix_tupK {X : Cx} {K : PySem.W.Frag} (h : X.K = K) : IxR X (rIxT K) := h ▸ ix_tup
theorem ix_listK {X : Cx} {K : PySem.W.Frag} (h : X.K = K) : IxR X (rIxL K) := h ▸ ix_list
theorem op_in_seqK {X : Cx} {K : PySem.W.Frag} (h : X.K = K) : OpR X (compareOp .In) (rIn K false) := h ▸ op_in_seq
theorem op_notIn_seqK {X : Cx} {K : PySem.W.Frag} (h : X.K = K) : OpR X (compareOp .NotIn) (rIn K true) := h ▸ op_notIn_seq
def absI (n : Int) : Int := if n < 0 then -n else n
end
end K28
set_option Elab.async false
set_option linter.all false
set_option maxRecDepth 100000
/- plain values, their octets, and what is read of octets: own mathematics -/
namespace Oc
open PySem TL

def okc (c : Nat) : Bool := c == 9 || c == 10 || (decide (32 ≤ c) && decide (c ≤ 126) && !(c == 37))
def dig (c : Nat) : Bool := decide (48 ≤ c) && decide (c ≤ 57)
def intL : Int → List Nat
  | .ofNat n => numL n
  | .negSucc n => 45 :: numL (n + 1)
mutual
def plain : PyData → Bool
  | .none => true
  | .bool _ => true
  | .int _ => true
  | .str x => (tl x).all okc
  | .tuple ds => plainA ds
  | .list _ => false
  | .dict _ => false
def plainA : List PyData → Bool
  | [] => true
  | d :: ds => plain d && plainA ds
end
mutual
def octs : PyData → List Nat
  | .none => [110]
  | .bool b => [if b then 116 else 102]
  | .int i => 105 :: (intL i ++ [59])
  | .str x => 115 :: (numL (tl x).length ++ (58 :: tl x))
  | .tuple ds => 40 :: (octsA ds ++ [41])
  | .list _ => []
  | .dict _ => []
def octsA : List PyData → List Nat
  | [] => []
  | d :: ds => octs d ++ octsA ds
end
mutual
def need : PyData → Nat
  | .tuple ds => needA ds + 1
  | .none => 1
  | .bool _ => 1
  | .int _ => 1
  | .str _ => 1
  | .list _ => 1
  | .dict _ => 1
def needA : List PyData → Nat
  | [] => 0
  | d :: ds => max (need d) (needA ds)
end

/-! ### reading -/
def numS (e : Nat) (l : List Nat) : Option (Nat × List Nat) :=
  match l.dropWhile dig with
  | [] => none
  | c :: r => if l.takeWhile dig = [] ∨ c ≠ e ∨ (l.head? = some 48 ∧ 1 < (l.takeWhile dig).length) then none else some (NumText.digitsVal (l.takeWhile dig), r)
def partsS (f : List Nat → Option (PyData × List Nat)) : Nat → List Nat → Option (List PyData × List Nat)
  | 0, _ => none
  | _ + 1, [] => none
  | m + 1, c :: r => if c = 41 then some ([], r) else match f (c :: r) with
    | none => none
    | some (d, q) => match partsS f m q with
      | none => none
      | some (ds, q2) => some (d :: ds, q2)
def intS : List Nat → Option (PyData × List Nat)
  | [] => none
  | c :: r => if c = 45 then (match numS 59 r with
      | some (m, q) => if m = 0 then none else some (.int (-(m : Int)), q)
      | none => none) else match numS 59 (c :: r) with
      | some (m, q) => some (.int m, q)
      | none => none
def strS (r : List Nat) : Option (PyData × List Nat) := match numS 58 r with
  | some (m, q) => if m ≤ q.length ∧ (q.take m).all okc = true then some (.str ⟨(q.take m).toArray⟩, q.drop m) else none
  | none => none
def valS : Nat → List Nat → Option (PyData × List Nat)
  | 0, _ => none
  | _ + 1, [] => none
  | n + 1, c :: r => if c = 110 then some (.none, r) else if c = 116 then some (.bool true, r) else if c = 102 then some (.bool false, r)
    else if c = 105 then intS r else if c = 115 then strS r
    else if c = 40 then (match partsS (valS n) r.length r with
      | some (ds, q) => some (.tuple ds, q)
      | none => none) else none
def wholeS (l : List Nat) : Option PyData := match valS 401 l with
  | some (d, []) => some d
  | _ => none

/-! ### numbers -/
theorem dig_of {l : List Nat} (h : NumText.AllDigits l) : ∀ c ∈ l, dig c = true := fun c hc => by
  have := h c hc
  unfold dig
  rw [decide_eq_true this.1, decide_eq_true this.2]
  rfl
theorem takeWhile_all {p : Nat → Bool} : ∀ {l r : List Nat}, (∀ c ∈ l, p c = true) → (l ++ r).takeWhile p = l ++ r.takeWhile p
  | [], r, _ => rfl
  | c :: l, r, h => by
    rw [List.cons_append, List.takeWhile_cons, h c (List.mem_cons_self ..), if_pos rfl, takeWhile_all fun d hd => h d (List.mem_cons_of_mem _ hd)]
    rfl
theorem dropWhile_all {p : Nat → Bool} : ∀ {l r : List Nat}, (∀ c ∈ l, p c = true) → (l ++ r).dropWhile p = r.dropWhile p
  | [], r, _ => rfl
  | c :: l, r, h => by
    rw [List.cons_append, List.dropWhile_cons, h c (List.mem_cons_self ..), if_pos rfl, dropWhile_all fun d hd => h d (List.mem_cons_of_mem _ hd)]
/-- a number's first sign is 0 for 0 alone -/
theorem num_head : ∀ n : Nat, (numL n).head? = some 48 → (numL n).length = 1 := by
  have key : ∀ n : Nat, 0 < n → ∃ c r, numL n = c :: r ∧ c ≠ 48 := by
    intro n
    induction n using Nat.strongRecOn with
    | _ n ih =>
      intro hn
      by_cases h : n < 10
      · rw [numL_lt h]
        exact ⟨_, _, rfl, by omega⟩
      · rw [numL_step (by omega)]
        obtain ⟨c, r, e, hc⟩ := ih (n / 10) (by omega) (by omega)
        rw [e]
        exact ⟨c, _, rfl, hc⟩
  intro n h
  cases n with
  | zero => rw [numL_lt (by decide)]; rfl
  | succ n =>
    obtain ⟨c, r, e, hc⟩ := key (n + 1) (by omega)
    rw [e] at h
    exact absurd (Option.some.inj h) hc
theorem num_read {n e : Nat} {r : List Nat} (he : dig e = false) : numS e (numL n ++ e :: r) = some (n, r) := by
  have hd := dig_of (numL_digits n)
  have ne := numL_ne n
  have e1 : (numL n ++ e :: r).takeWhile dig = numL n := by
    rw [takeWhile_all hd, List.takeWhile_cons, he]
    simp
  have e2 : (numL n ++ e :: r).dropWhile dig = e :: r := by
    rw [dropWhile_all hd, List.dropWhile_cons, he]
    simp
  have e3 : (numL n ++ e :: r).head? = (numL n).head? := by
    cases h : numL n with
    | nil => exact absurd h ne
    | cons c l => rfl
  unfold numS
  rw [e2]
  dsimp only
  rw [e1, e3, if_neg, numL_val]
  rintro (h | h | ⟨h1, h2⟩)
  · exact ne h
  · exact h rfl
  · have := num_head n h1
    omega
theorem num_first (n : Nat) : ∃ c r, numL n = c :: r ∧ c ≠ 45 := by
  cases h : numL n with
  | nil => exact absurd h (numL_ne n)
  | cons c r =>
    refine ⟨c, r, rfl, fun z => ?_⟩
    have := numL_digits n c (by rw [h]; exact List.mem_cons_self ..)
    omega
theorem int_read (i : Int) (r : List Nat) : intS (intL i ++ 59 :: r) = some (.int i, r) := by
  cases i with
  | ofNat n =>
    obtain ⟨c, l, e, hc⟩ := num_first n
    have q := num_read (n := n) (e := 59) (r := r) (by decide)
    show intS (numL n ++ 59 :: r) = _
    rw [e, List.cons_append] at q ⊢
    show (if c = 45 then _ else _) = _
    rw [if_neg hc, q]
    rfl
  | negSucc n =>
    have q := num_read (n := n + 1) (e := 59) (r := r) (by decide)
    show intS (45 :: (numL (n + 1) ++ 59 :: r)) = _
    unfold intS
    dsimp only
    rw [if_pos rfl, q]
    rfl
theorem str_read (x : Str) (h : (tl x).all okc = true) (r : List Nat) : strS (numL (tl x).length ++ 58 :: (tl x ++ r)) = some (.str x, r) := by
  unfold strS
  rw [num_read (by decide)]
  dsimp only
  rw [List.take_left' rfl, List.drop_left' rfl, if_pos ⟨by rw [List.length_append]; omega, h⟩]

/-! ### what is written is read -/
theorem octs_non : octs .none = [110] := by simp only [octs]
theorem octs_bl (b : Bool) : octs (.bool b) = [if b then 116 else 102] := by simp only [octs]
theorem octs_int (i : Int) : octs (.int i) = 105 :: (intL i ++ [59]) := by simp only [octs]
theorem octs_str (x : Str) : octs (.str x) = 115 :: (numL (tl x).length ++ (58 :: tl x)) := by simp only [octs]
theorem octs_tup (ds : List PyData) : octs (.tuple ds) = 40 :: (octsA ds ++ [41]) := by simp only [octs]
theorem octsA_cons (d : PyData) (ds : List PyData) : octsA (d :: ds) = octs d ++ octsA ds := by simp only [octsA]
theorem octsA_nil : octsA [] = [] := by simp only [octsA]
theorem need_tup (ds : List PyData) : need (.tuple ds) = needA ds + 1 := by simp only [need]
theorem need_flat (d : PyData) (h : ∀ ds, d ≠ .tuple ds) : need d = 1 := by
  cases d with
  | tuple ds => exact absurd rfl (h ds)
  | _ => simp only [need]
theorem need_pos (d : PyData) : 1 ≤ need d := by
  cases d with
  | tuple ds => rw [need_tup]; omega
  | _ => rw [need_flat _ (fun _ z => by cases z)] <;> exact Nat.le_refl 1
theorem needA_cons (d : PyData) (ds : List PyData) : needA (d :: ds) = max (need d) (needA ds) := by simp only [needA]
theorem octs_first : ∀ d : PyData, plain d = true → ∃ c r, octs d = c :: r ∧ c ≠ 41 ∧ dig c = false
  | .none, _ => ⟨110, [], octs_non, by decide, by decide⟩
  | .bool true, _ => ⟨116, [], octs_bl true, by decide, by decide⟩
  | .bool false, _ => ⟨102, [], octs_bl false, by decide, by decide⟩
  | .int i, _ => ⟨105, _, octs_int i, by decide, by decide⟩
  | .str x, _ => ⟨115, _, octs_str x, by decide, by decide⟩
  | .tuple ds, _ => ⟨40, _, octs_tup ds, by decide, by decide⟩
  | .list _, h => by simp only [plain] at h; cases h
  | .dict _, h => by simp only [plain] at h; cases h
theorem flat_if {d : PyData} {α : Type} {n : Nat} {a b : α} (h : ∀ ds, d ≠ .tuple ds) : (if need d ≤ n + 1 then a else b) = a := if_pos (by rw [need_flat d h]; omega)
theorem flat_if0 {d : PyData} {α : Type} {a b : α} : (if need d ≤ 0 then a else b) = b := if_neg (by have := need_pos d; omega)
mutual
theorem val_octs : ∀ (d : PyData), plain d = true → ∀ (n : Nat) (r : List Nat), valS n (octs d ++ r) = if need d ≤ n then some (d, r) else none
  | .none, _, 0, r => by rw [flat_if0]; rfl
  | .none, _, n + 1, r => by
    rw [flat_if (fun _ z => by cases z), octs_non]
    rfl
  | .bool b, _, 0, r => by rw [flat_if0]; rfl
  | .bool true, _, n + 1, r => by
    rw [flat_if (fun _ z => by cases z), octs_bl]
    rfl
  | .bool false, _, n + 1, r => by
    rw [flat_if (fun _ z => by cases z), octs_bl]
    rfl
  | .int i, _, 0, r => by rw [flat_if0]; rfl
  | .int i, _, n + 1, r => by
    rw [flat_if (fun _ z => by cases z), octs_int]
    have q := int_read i r
    show valS (n + 1) (105 :: (intL i ++ [59] ++ r)) = _
    rw [List.append_assoc]
    exact q
  | .str x, _, 0, r => by rw [flat_if0]; rfl
  | .str x, h, n + 1, r => by
    have h' : (tl x).all okc = true := by
      have z := h
      simp only [plain] at z
      exact z
    rw [flat_if (fun _ z => by cases z), octs_str]
    have q := str_read x h' r
    show valS (n + 1) (115 :: (numL (tl x).length ++ 58 :: tl x ++ r)) = _
    rw [List.append_assoc]
    exact q
  | .tuple ds, _, 0, r => by rw [flat_if0]; rfl
  | .tuple ds, h, n + 1, r => by
    have h' : plainA ds = true := by
      have z := h
      simp only [plain] at z
      exact z
    rw [octs_tup]
    show valS (n + 1) (40 :: (octsA ds ++ [41] ++ r)) = _
    rw [List.append_assoc]
    have q := parts_octs ds h' n (octsA ds ++ 41 :: r).length r (Nat.le_refl _)
    show (match partsS (valS n) (octsA ds ++ 41 :: r).length (octsA ds ++ 41 :: r) with
      | some (ds, q) => some (PyData.tuple ds, q)
      | none => none) = _
    rw [q]
    by_cases hn : needA ds ≤ n
    · rw [if_pos hn, if_pos (by rw [need_tup]; omega)]
    · rw [if_neg hn, if_neg (by rw [need_tup]; omega)]
  | .list _, h, _, _ => by simp only [plain] at h; cases h
  | .dict _, h, _, _ => by simp only [plain] at h; cases h
theorem parts_octs : ∀ (ds : List PyData), plainA ds = true → ∀ (n m : Nat) (r : List Nat), (octsA ds ++ 41 :: r).length ≤ m → partsS (valS n) m (octsA ds ++ 41 :: r) = if needA ds ≤ n then some (ds, r) else none
  | [], _, n, 0, r, hm => by simp at hm
  | [], _, n, m + 1, r, hm => by
    rw [if_pos (by simp only [needA]; omega), octsA_nil]
    rfl
  | d :: ds, h, n, 0, r, hm => by simp at hm
  | d :: ds, h, n, m + 1, r, hm => by
    have h' : plain d = true ∧ plainA ds = true := by
      have z := h
      simp only [plainA, Bool.and_eq_true] at z
      exact z
    obtain ⟨c, l, e, hc, _⟩ := octs_first d h'.1
    have q := val_octs d h'.1 n (octsA ds ++ 41 :: r)
    rw [octsA_cons, List.append_assoc] at hm ⊢
    rw [e] at hm q ⊢
    show (if c = 41 then _ else match valS n (c :: (l ++ (octsA ds ++ 41 :: r))) with
      | none => none
      | some (d, q) => match partsS (valS n) m q with
        | none => none
        | some (ds, q2) => some (d :: ds, q2)) = _
    rw [if_neg hc]
    have q' : valS n (c :: (l ++ (octsA ds ++ 41 :: r))) = if need d ≤ n then some (d, octsA ds ++ 41 :: r) else none := q
    rw [q']
    have ih := parts_octs ds h'.2 n m r (by simp only [List.length_append, List.length_cons] at hm ⊢; omega)
    by_cases h1 : need d ≤ n
    · rw [if_pos h1]
      dsimp only
      rw [ih]
      by_cases h2 : needA ds ≤ n
      · rw [if_pos h2, if_pos (by rw [needA_cons]; omega)]
      · rw [if_neg h2, if_neg (by rw [needA_cons]; omega)]
    · rw [if_neg h1, if_neg (by rw [needA_cons]; omega)]
end
theorem whole_octs {d : PyData} (h : plain d = true) : wholeS (octs d) = if need d ≤ 401 then some d else none := by
  have q := val_octs d h 401 []
  rw [List.append_nil] at q
  unfold wholeS
  rw [q]
  by_cases hn : need d ≤ 401
  · rw [if_pos hn, if_pos hn]
  · rw [if_neg hn, if_neg hn]
end Oc
set_option Elab.async false
set_option linter.all false
set_option maxRecDepth 100000
set_option exponentiation.threshold 3000
/- how long: runs of figures, shown texts -/
namespace Oc
open PySem TL

/-- no more than k figures in a row, j of them already behind -/
def runOk (k : Nat) : Nat → List Nat → Bool
  | _, [] => true
  | j, c :: l => if dig c = true then decide (j + 1 ≤ k) && runOk k (j + 1) l else runOk k 0 l
section
variable {k : Nat}
theorem run_d {j c : Nat} {l : List Nat} (h : dig c = true) : runOk k j (c :: l) = (decide (j + 1 ≤ k) && runOk k (j + 1) l) := if_pos h
theorem run_n {j c : Nat} {l : List Nat} (h : dig c = false) : runOk k j (c :: l) = runOk k 0 l := if_neg (by rw [h]; exact Bool.false_ne_true)
theorem run_less : ∀ {l : List Nat} {i j : Nat}, i ≤ j → runOk k j l = true → runOk k i l = true
  | [], _, _, _, _ => rfl
  | c :: l, i, j, hij, h => by
    cases hc : dig c
    · rw [run_n hc] at h ⊢
      exact h
    · rw [run_d hc, Bool.and_eq_true, decide_eq_true_eq] at h ⊢
      exact ⟨by omega, run_less (by omega) h.2⟩
theorem run_end : ∀ {p q : List Nat} {j : Nat}, runOk k j (p ++ q) = true → runOk k 0 q = true
  | [], _, _, h => run_less (Nat.zero_le _) h
  | c :: p, q, j, h => by
    rw [List.cons_append] at h
    cases hc : dig c
    · rw [run_n hc] at h
      exact run_end h
    · rw [run_d hc, Bool.and_eq_true] at h
      exact run_end h.2
theorem run_start : ∀ {p q : List Nat} {j : Nat}, runOk k j (p ++ q) = true → runOk k j p = true
  | [], _, _, _ => rfl
  | c :: p, q, j, h => by
    rw [List.cons_append] at h
    cases hc : dig c
    · rw [run_n hc] at h ⊢
      exact run_start h
    · rw [run_d hc, Bool.and_eq_true] at h ⊢
      exact ⟨h.1, run_start h.2⟩
theorem run_up {a b : Nat} : ∀ {q : List Nat} {i j : Nat}, j ≤ a → runOk b i q = true → runOk (a + b) (j + i) q = true
  | [], _, _, _, _ => rfl
  | c :: q, i, j, hj, h => by
    cases hc : dig c
    · rw [run_n hc] at h ⊢
      exact run_up (j := 0) (Nat.zero_le _) h
    · rw [run_d hc, Bool.and_eq_true, decide_eq_true_eq] at h ⊢
      exact ⟨by omega, (show runOk (a + b) (j + (i + 1)) q = true from run_up hj h.2)⟩
theorem run_cat {a b : Nat} : ∀ {p q : List Nat} {j : Nat}, j ≤ a → runOk a j p = true → runOk b 0 q = true → runOk (a + b) j (p ++ q) = true
  | [], q, j, hj, _, h => run_up (i := 0) hj h
  | c :: p, q, j, hj, h1, h => by
    rw [List.cons_append]
    cases hc : dig c
    · rw [run_n hc] at h1 ⊢
      exact run_cat (Nat.zero_le _) h1 h
    · rw [run_d hc, Bool.and_eq_true, decide_eq_true_eq] at h1 ⊢
      exact ⟨by omega, run_cat h1.1 h1.2 h⟩
theorem run_cut {c : Nat} {r : List Nat} (hc : dig c = false) (hr : runOk k 0 r = true) : ∀ {p : List Nat} {j : Nat}, runOk k j p = true → runOk k j (p ++ c :: r) = true
  | [], j, _ => by
    rw [List.nil_append, run_n hc]
    exact hr
  | d :: p, j, h => by
    rw [List.cons_append]
    cases hd : dig d
    · rw [run_n hd] at h ⊢
      exact run_cut hc hr h
    · rw [run_d hd, Bool.and_eq_true] at h ⊢
      exact ⟨h.1, run_cut hc hr h.2⟩
theorem run_short : ∀ {l : List Nat} {j : Nat}, j + l.length ≤ k → runOk k j l = true
  | [], _, _ => rfl
  | c :: l, j, h => by
    rw [List.length_cons] at h
    cases hc : dig c
    · rw [run_n hc]
      exact run_short (by omega)
    · rw [run_d hc, Bool.and_eq_true, decide_eq_true_eq]
      exact ⟨by omega, run_short (by omega)⟩
theorem run_first : ∀ {l : List Nat} {j : Nat}, j ≤ k → runOk k j l = true → j + (l.takeWhile dig).length ≤ k
  | [], j, hj, _ => by simpa using hj
  | c :: l, j, hj, h => by
    cases hc : dig c
    · rw [List.takeWhile_cons, hc]
      simpa using hj
    · rw [run_d hc, Bool.and_eq_true, decide_eq_true_eq] at h
      have := run_first h.1 h.2
      rw [List.takeWhile_cons, hc, if_pos rfl, List.length_cons]
      omega
end

theorem run_le {k k' : Nat} (hk : k ≤ k') {l : List Nat} (h : runOk k 0 l = true) : runOk k' 0 l = true := by
  have e : k' = (k' - k) + k := by omega
  rw [e]
  exact run_up (i := 0) (j := 0) (Nat.zero_le _) h

/-! ### what a number is -/
theorem val_lt : ∀ (ds : List Nat) (a : Nat), NumText.AllDigits ds → ds.foldl (fun acc c => acc * 10 + (c - 48)) a < (a + 1) * 10 ^ ds.length
  | [], a, _ => by simp
  | c :: ds, a, h => by
    have hc := h.head
    have ih := val_lt ds (a * 10 + (c - 48)) h.tail
    rw [List.foldl_cons, List.length_cons, Nat.pow_succ, Nat.mul_comm (10 ^ ds.length) 10, ← Nat.mul_assoc]
    refine Nat.lt_of_lt_of_le ih (Nat.mul_le_mul_right _ (by omega))
theorem digs_of {l : List Nat} : NumText.AllDigits (l.takeWhile dig) := fun c hc => by
  have e : ∀ {l : List Nat}, c ∈ l.takeWhile dig → dig c = true := by
    intro l
    induction l with
    | nil => intro h; cases h
    | cons d l ih =>
      intro h
      rw [List.takeWhile_cons] at h
      cases hd : dig d
      · rw [hd] at h
        simp at h
      · rw [hd, if_pos rfl] at h
        rcases List.mem_cons.mp h with z | z
        · rw [z]
          exact hd
        · exact ih z
  have h := e hc
  unfold dig at h
  rw [Bool.and_eq_true, decide_eq_true_eq, decide_eq_true_eq] at h
  exact h
theorem num_parts {e m : Nat} {l r : List Nat} (h : numS e l = some (m, r)) : l = l.takeWhile dig ++ e :: r ∧ m = NumText.digitsVal (l.takeWhile dig) ∧ l.takeWhile dig ≠ [] := by
  unfold numS at h
  have e0 := List.takeWhile_append_dropWhile (p := dig) (l := l)
  cases hd : l.dropWhile dig with
  | nil => rw [hd] at h; cases h
  | cons c q =>
    rw [hd] at h e0
    dsimp only at h
    by_cases hc : l.takeWhile dig = [] ∨ c ≠ e ∨ (l.head? = some 48 ∧ 1 < (l.takeWhile dig).length)
    · rw [if_pos hc] at h; cases h
    · rw [if_neg hc] at h
      cases h
      have e1 : c = e := Classical.byContradiction fun z => hc (.inr (.inl z))
      exact ⟨by rw [← e1]; exact e0.symm, rfl, fun z => hc (.inl z)⟩
theorem tl_int (i : Int) : tl (Str.ofString (toString i)) = intL i := by
  cases i with
  | ofNat n => exact tl_num n
  | negSucc n =>
    have e : toString (Int.negSucc n) = "-" ++ toString (n + 1) := rfl
    rw [e, Str.ofString_eq_toList]
    have q := tl_num (n + 1)
    rw [Str.ofString_eq_toList] at q
    show (("-" ++ toString (n + 1)).toList.map Char.toNat) = 45 :: numL (n + 1)
    rw [String.toList_append, List.map_append, ← q]
    rfl
theorem int_shown (i : Int) : (PyData.shown (.int i)).length = (intL i).length := by
  rw [← tl_int i]
  simp only [PyData.shown]
  exact len_tl _
theorem num_small {k m e : Nat} {l r : List Nat} (h : numS e l = some (m, r)) (hr : runOk k 0 l = true) : m < 10 ^ k ∧ (numL m).length ≤ (l.takeWhile dig).length := by
  obtain ⟨e1, e2, e3⟩ := num_parts h
  have hl := run_first (Nat.zero_le _) hr
  have v := val_lt (l.takeWhile dig) 0 digs_of
  have v2 : m < 10 ^ (l.takeWhile dig).length := by
    rw [e2]
    unfold NumText.digitsVal
    simpa using v
  refine ⟨Nat.lt_of_lt_of_le v2 (Nat.pow_le_pow_right (by decide) (by omega)), numL_len (List.length_pos_iff.mpr e3) v2⟩
theorem log_small {m : Nat} (h : m < 10 ^ 500) : m.log2 < 1920 := by
  by_cases h0 : m = 0
  · rw [h0]
    decide
  · refine (Nat.log2_lt h0).mpr (Nat.lt_of_lt_of_le h ?_)
    decide +kernel

/-! ### what is read -/
inductive All2 (R : Nat → PyData → Prop) : List Nat → List PyData → Prop
  | nil : All2 R [] []
  | cons {c : Nat} {d : PyData} {cs : List Nat} {ds : List PyData} : R c d → All2 R cs ds → All2 R (c :: cs) (d :: ds)
def goodD (n : Nat) (c : Nat) (d : PyData) : Prop := plain d = true ∧ d.showable = true ∧ d.depth ≤ n ∧ d.shown.length + 2 ≤ 14 * c
theorem plain_nodict : ∀ d : PyData, plain d = true → d.hasDict = false := by
  have key : ∀ n : Nat, ∀ d : PyData, sizeOf d ≤ n → plain d = true → d.hasDict = false := by
    intro n
    induction n with
    | zero =>
      intro d hd _
      cases d <;> simp at hd
    | succ n ih =>
      intro d hd hp
      cases d with
      | none => simp only [PyData.hasDict]
      | bool b => simp only [PyData.hasDict]
      | int i => simp only [PyData.hasDict]
      | str x => simp only [PyData.hasDict]
      | list ds => simp only [plain] at hp; cases hp
      | dict ds => simp only [plain] at hp; cases hp
      | tuple ds =>
        simp only [plain] at hp
        simp only [PyData.hasDict]
        have hs : sizeOf ds ≤ n := by
          simp at hd
          omega
        clear hd
        induction ds with
        | nil => simp only [PyData.hasDictAll]
        | cons e ds ihd =>
          simp only [plainA, Bool.and_eq_true] at hp
          simp at hs
          simp only [PyData.hasDictAll, Bool.or_eq_false_iff]
          exact ⟨ih e (by omega) hp.1, ihd hp.2 (by omega)⟩
  exact fun d => key _ d (Nat.le_refl _)
theorem sum_shown {ds : List PyData} {cs : List Nat} (h : All2 (fun c d => d.shown.length + 2 ≤ 14 * c) cs ds) : ((PyData.shownAll ds).map (·.length)).sum + 2 * (PyData.shownAll ds).length ≤ 14 * cs.sum := by
  induction h with
  | nil => simp [PyData.shownAll]
  | cons h1 _ ih =>
    simp only [PyData.shownAll, List.map_cons, List.sum_cons, List.length_cons]
    omega
theorem int_good {k : Nat} (hk : k ≤ 500) {l q : List Nat} {d : PyData} (h : intS l = some (d, q)) (hr : runOk k 0 l = true) : ∃ p, l = p ++ q ∧ goodD 0 (p.length + 1) d := by
  have fit : ∀ {m : Nat} {r : List Nat} {r' : List Nat}, numS 59 r = some (m, r') → runOk k 0 r = true → ∃ p, r = p ++ r' ∧ m.log2 < 1920 ∧ (numL m).length + 1 ≤ p.length := by
    intro m r r' e hr
    obtain ⟨e1, e2, e3⟩ := num_parts e
    have s := num_small e hr
    refine ⟨r.takeWhile dig ++ [59], by rw [List.append_assoc]; exact e1, log_small (Nat.lt_of_lt_of_le s.1 (Nat.pow_le_pow_right (by decide) hk)), ?_⟩
    rw [List.length_append]
    have := s.2
    show _ ≤ _ + 1
    omega
  cases l with
  | nil => cases h
  | cons c r =>
    unfold intS at h
    dsimp only at h
    by_cases hc : c = 45
    · rw [if_pos hc] at h
      have hr' : runOk k 0 r = true := run_end (p := [c]) hr
      cases e : numS 59 r with
      | none => rw [e] at h; cases h
      | some z =>
        obtain ⟨m, r'⟩ := z
        rw [e] at h
        dsimp only at h
        by_cases hm : m = 0
        · rw [if_pos hm] at h; cases h
        · rw [if_neg hm] at h
          cases h
          obtain ⟨p, e1, e2, e3⟩ := fit e hr'
          refine ⟨c :: p, by rw [e1]; rfl, by simp only [plain], ?_, by simp only [PyData.depth]; omega, ?_⟩
          · simp only [PyData.showable, decide_eq_true_eq]
            rw [Int.natAbs_neg]
            exact e2
          · rw [int_shown]
            obtain ⟨j, rfl⟩ : ∃ j, m = j + 1 := ⟨m - 1, by omega⟩
            show (45 :: numL (j + 1)).length + 2 ≤ _
            rw [List.length_cons, List.length_cons]
            omega
    · rw [if_neg hc] at h
      cases e : numS 59 (c :: r) with
      | none => rw [e] at h; cases h
      | some z =>
        obtain ⟨m, r'⟩ := z
        rw [e] at h
        cases h
        obtain ⟨p, e1, e2, e3⟩ := fit e hr
        refine ⟨p, e1, by simp only [plain], ?_, by simp only [PyData.depth]; omega, ?_⟩
        · simp only [PyData.showable, decide_eq_true_eq]
          exact e2
        · rw [int_shown]
          show (numL m).length + 2 ≤ _
          omega
theorem okc_lt {c : Nat} (h : okc c = true) : c < 16 ^ 8 := by
  unfold okc at h
  simp only [Bool.or_eq_true, beq_iff_eq, Bool.and_eq_true, decide_eq_true_eq] at h
  omega
theorem str_good {l q : List Nat} {d : PyData} (h : strS l = some (d, q)) : ∃ p, l = p ++ q ∧ goodD 0 (p.length + 1) d := by
  unfold strS at h
  cases e : numS 58 l with
  | none => rw [e] at h; cases h
  | some z =>
    obtain ⟨m, r⟩ := z
    rw [e] at h
    dsimp only at h
    by_cases hc : m ≤ r.length ∧ (r.take m).all okc = true
    · rw [if_pos hc] at h
      cases h
      obtain ⟨e1, e2, e3⟩ := num_parts e
      refine ⟨l.takeWhile dig ++ 58 :: r.take m, ?_, ?_, by simp only [PyData.showable], by simp only [PyData.depth]; omega, ?_⟩
      · rw [List.append_assoc, List.cons_append, List.take_append_drop]
        exact e1
      · simp only [plain]
        exact hc.2
      · simp only [PyData.shown]
        have z := PySem.StrLaws.reprText_len (⟨(r.take m).toArray⟩ : Str) fun c hc' => okc_lt (List.all_eq_true.mp hc.2 c hc')
        have z2 : ((⟨(r.take m).toArray⟩ : Str)).length = (r.take m).length := by simp [Str.length]
        rw [z2] at z
        rw [List.length_append, List.length_cons]
        have := List.length_pos_iff.mpr e3
        omega
    · rw [if_neg hc] at h; cases h
theorem goodD.more {n c n' c' : Nat} {d : PyData} (h : goodD n c d) (h1 : n ≤ n') (h2 : c ≤ c') : goodD n' c' d := ⟨h.1, h.2.1, by have := h.2.2.1; omega, by have := h.2.2.2; omega⟩
theorem parts_good {k n : Nat} {f : List Nat → Option (PyData × List Nat)} (hf : ∀ l d q, f l = some (d, q) → runOk k 0 l = true → ∃ p, l = p ++ q ∧ p ≠ [] ∧ goodD n p.length d) :
    ∀ (m : Nat) (l : List Nat) (ds : List PyData) (q : List Nat), partsS f m l = some (ds, q) → runOk k 0 l = true → ∃ p cs, l = p ++ q ∧ p ≠ [] ∧ cs.sum + 1 ≤ p.length ∧ All2 (goodD n) cs ds
  | 0, l, ds, q, h, _ => by cases h
  | m + 1, [], ds, q, h, _ => by cases h
  | m + 1, c :: r, ds, q, h, hr => by
    unfold partsS at h
    by_cases hc : c = 41
    · rw [if_pos hc] at h
      cases h
      exact ⟨[c], [], rfl, by simp, by simp, .nil⟩
    · rw [if_neg hc] at h
      cases e : f (c :: r) with
      | none => rw [e] at h; cases h
      | some z =>
        obtain ⟨d, q1⟩ := z
        rw [e] at h
        dsimp only at h
        cases e2 : partsS f m q1 with
        | none => rw [e2] at h; cases h
        | some z =>
          obtain ⟨ds1, q2⟩ := z
          rw [e2] at h
          cases h
          obtain ⟨p, e3, np, g⟩ := hf _ _ _ e hr
          have hr1 : runOk k 0 q1 = true := by
            rw [e3] at hr
            exact run_end hr
          obtain ⟨p1, cs, e4, _, sz, gs⟩ := parts_good hf m q1 ds1 q e2 hr1
          refine ⟨p ++ p1, p.length :: cs, by rw [e3, e4, List.append_assoc], by simp [np], ?_, .cons g gs⟩
          rw [List.sum_cons, List.length_append]
          omega
theorem val_good {k : Nat} (hk : k ≤ 500) : ∀ (n : Nat) (l : List Nat) (d : PyData) (q : List Nat), valS n l = some (d, q) → runOk k 0 l = true → ∃ p, l = p ++ q ∧ p ≠ [] ∧ goodD n p.length d
  | 0, l, d, q, h, _ => by cases h
  | n + 1, [], d, q, h, _ => by cases h
  | n + 1, c :: r, d, q, h, hr => by
    have hr' : runOk k 0 r = true := run_end (p := [c]) hr
    have flat : ∀ {e : PyData}, plain e = true → e.showable = true → e.depth = 0 → e.shown.length + 2 ≤ 14 → goodD (n + 1) ([c] : List Nat).length e := fun h1 h2 h3 h4 => ⟨h1, h2, by omega, by show _ ≤ 14 * 1; omega⟩
    unfold valS at h
    by_cases h1 : c = 110
    · rw [if_pos h1] at h
      cases h
      exact ⟨[c], rfl, by simp, flat (by simp only [plain]) (by simp only [PyData.showable]) (by simp only [PyData.depth]) (by simp only [PyData.shown]; decide +kernel)⟩
    rw [if_neg h1] at h
    by_cases h2 : c = 116
    · rw [if_pos h2] at h
      cases h
      exact ⟨[c], rfl, by simp, flat (by simp only [plain]) (by simp only [PyData.showable]) (by simp only [PyData.depth]) (by simp only [PyData.shown]; decide +kernel)⟩
    rw [if_neg h2] at h
    by_cases h3 : c = 102
    · rw [if_pos h3] at h
      cases h
      exact ⟨[c], rfl, by simp, flat (by simp only [plain]) (by simp only [PyData.showable]) (by simp only [PyData.depth]) (by simp only [PyData.shown]; decide +kernel)⟩
    rw [if_neg h3] at h
    by_cases h4 : c = 105
    · rw [if_pos h4] at h
      obtain ⟨p, e, g⟩ := int_good hk h hr'
      exact ⟨c :: p, by rw [e]; rfl, by simp, g.more (Nat.zero_le _) (by rw [List.length_cons]; exact Nat.le_refl _)⟩
    rw [if_neg h4] at h
    by_cases h5 : c = 115
    · rw [if_pos h5] at h
      obtain ⟨p, e, g⟩ := str_good h
      exact ⟨c :: p, by rw [e]; rfl, by simp, g.more (Nat.zero_le _) (by rw [List.length_cons]; exact Nat.le_refl _)⟩
    rw [if_neg h5] at h
    by_cases h6 : c = 40
    · rw [if_pos h6] at h
      cases e : partsS (valS n) r.length r with
      | none => rw [e] at h; cases h
      | some z =>
        obtain ⟨ds, q1⟩ := z
        rw [e] at h
        cases h
        obtain ⟨p, cs, e1, _, sz, gs⟩ := parts_good (fun l d q hh hr => val_good hk n l d q hh hr) r.length r ds q e hr'
        refine ⟨c :: p, by rw [e1]; rfl, by simp, ?_⟩
        have all : plainA ds = true ∧ PyData.showableAll ds = true ∧ PyData.depthAll ds ≤ n := by
          clear e e1 sz
          induction gs with
          | nil => exact ⟨by simp only [plainA], by simp only [PyData.showableAll], by simp only [PyData.depthAll]; omega⟩
          | cons g _ ih =>
            refine ⟨by simp only [plainA, Bool.and_eq_true]; exact ⟨g.1, ih.1⟩, by simp only [PyData.showableAll, Bool.and_eq_true]; exact ⟨g.2.1, ih.2.1⟩, ?_⟩
            simp only [PyData.depthAll]
            have := g.2.2.1
            have := ih.2.2
            omega
        have sm : All2 (fun c d => d.shown.length + 2 ≤ 14 * c) cs ds := by
          clear e e1 sz all
          induction gs with
          | nil => exact .nil
          | cons g _ ih => exact .cons g.2.2.2 ih
        have ss := sum_shown sm
        refine ⟨by simp only [plain]; exact all.1, by simp only [PyData.showable]; exact all.2.1, by simp only [PyData.depth]; omega, ?_⟩
        simp only [PyData.shown]
        have t := tupleText_len_le (PyData.shownAll ds)
        rw [List.length_cons]
        omega
    · rw [if_neg h6] at h; cases h
end Oc
set_option Elab.async false
set_option linter.all false
set_option maxRecDepth 100000
set_option exponentiation.threshold 3000
/- drawn values -/
namespace Oc
open PySem TL
mutual
def drawn : PyData → Bool
  | .none => true
  | .bool _ => true
  | .int i => decide (i.natAbs ≤ 10 ^ 30)
  | .str x => (tl x).all okc && decide ((tl x).length ≤ 11)
  | .tuple ds => drawnA ds
  | .list _ => false
  | .dict _ => false
def drawnA : List PyData → Bool
  | [] => true
  | d :: ds => drawn d && drawnA ds
end
theorem drawn_int {i : Int} (h : drawn (.int i) = true) : i.natAbs ≤ 10 ^ 30 := by simpa only [drawn, decide_eq_true_eq] using h
theorem drawn_str {x : Str} (h : drawn (.str x) = true) : (tl x).all okc = true ∧ (tl x).length ≤ 11 := by simpa only [drawn, Bool.and_eq_true, decide_eq_true_eq] using h
theorem drawn_tup {ds : List PyData} : drawn (.tuple ds) = drawnA ds := by simp only [drawn]
theorem drawnA_cons {d : PyData} {ds : List PyData} : drawnA (d :: ds) = (drawn d && drawnA ds) := by simp only [drawnA]
theorem plain_tup {ds : List PyData} : plain (.tuple ds) = plainA ds := by simp only [plain]
theorem plainA_cons {d : PyData} {ds : List PyData} : plainA (d :: ds) = (plain d && plainA ds) := by simp only [plainA]
mutual
theorem drawn_plain : ∀ d : PyData, drawn d = true → plain d = true
  | .none, _ => by simp only [plain]
  | .bool _, _ => by simp only [plain]
  | .int _, _ => by simp only [plain]
  | .str x, h => by
    simp only [plain]
    exact (drawn_str h).1
  | .tuple ds, h => by
    rw [plain_tup]
    exact drawnA_plain ds (drawn_tup ▸ h)
  | .list _, h => by simp only [drawn] at h; cases h
  | .dict _, h => by simp only [drawn] at h; cases h
theorem drawnA_plain : ∀ ds : List PyData, drawnA ds = true → plainA ds = true
  | [], _ => by simp only [plainA]
  | d :: ds, h => by
    rw [drawnA_cons, Bool.and_eq_true] at h
    rw [plainA_cons, Bool.and_eq_true]
    exact ⟨drawn_plain d h.1, drawnA_plain ds h.2⟩
end
theorem octsA_first : ∀ ds : List PyData, plainA ds = true → octsA ds = [] ∨ ∃ c r, octsA ds = c :: r ∧ dig c = false
  | [], _ => .inl octsA_nil
  | d :: ds, h => by
    rw [plainA_cons, Bool.and_eq_true] at h
    obtain ⟨c, r, e, _, hc⟩ := octs_first d h.1
    exact .inr ⟨c, r ++ octsA ds, by rw [octsA_cons, e]; rfl, hc⟩
theorem int_len {i : Int} (h : i.natAbs ≤ 10 ^ 30) : runOk 31 0 (intL i) = true ∧ (intL i).length ≤ 32 := by
  have f : ∀ {n : Nat}, n ≤ 10 ^ 30 → (numL n).length ≤ 31 := fun {n} hn => numL_len (by decide) (Nat.lt_of_le_of_lt hn (by decide))
  cases i with
  | ofNat n =>
    have z := f (n := n) h
    exact ⟨run_short (by show 0 + (numL n).length ≤ 31; omega), by show (numL n).length ≤ 32; omega⟩
  | negSucc n =>
    have z := f (n := n + 1) h
    refine ⟨?_, by show (45 :: numL (n + 1)).length ≤ 32; rw [List.length_cons]; omega⟩
    show runOk 31 0 (45 :: numL (n + 1)) = true
    rw [run_n (by decide)]
    exact run_short (by omega)
theorem len_two {n : Nat} (h : n ≤ 11) : (numL n).length ≤ 2 := numL_len (by decide) (by omega)
mutual
theorem drawn_run : ∀ d : PyData, drawn d = true → runOk 31 0 (octs d) = true
  | .none, _ => by rw [octs_non]; decide
  | .bool b, _ => by rw [octs_bl]; cases b <;> decide
  | .int i, h => by
    rw [octs_int, run_n (by decide)]
    exact run_cut (by decide) rfl (int_len (drawn_int h)).1
  | .str x, h => by
    have z := drawn_str h
    rw [octs_str, run_n (by decide)]
    exact run_cut (by decide) (run_short (by omega)) (run_short (by have := len_two z.2; omega))
  | .tuple ds, h => by
    rw [octs_tup, run_n (by decide)]
    exact run_cut (by decide) rfl (drawnA_run ds (drawn_tup ▸ h))
  | .list _, h => by simp only [drawn] at h; cases h
  | .dict _, h => by simp only [drawn] at h; cases h
theorem drawnA_run : ∀ ds : List PyData, drawnA ds = true → runOk 31 0 (octsA ds) = true
  | [], _ => by rw [octsA_nil]; rfl
  | d :: ds, h => by
    rw [drawnA_cons, Bool.and_eq_true] at h
    rw [octsA_cons]
    rcases octsA_first ds (drawnA_plain ds h.2) with e | ⟨c, r, e, hc⟩
    · rw [e, List.append_nil]
      exact drawn_run d h.1
    · have z := drawnA_run ds h.2
      rw [e] at z ⊢
      rw [run_n hc] at z
      exact run_cut hc z (drawn_run d h.1)
end
theorem leaf_len {d : PyData} (h : drawn d = true) (hf : ∀ ds, d ≠ .tuple ds) : (octs d).length ≤ 34 := by
  cases d with
  | none => rw [octs_non]; decide
  | bool b => rw [octs_bl]; simp
  | int i =>
    rw [octs_int, List.length_cons, List.length_append]
    have := (int_len (drawn_int h)).2
    show _ + 1 + 1 ≤ _
    omega
  | str x =>
    have z := drawn_str h
    have := len_two z.2
    rw [octs_str, List.length_cons, List.length_append, List.length_cons]
    omega
  | tuple ds => exact absurd rfl (hf ds)
  | list _ => simp only [drawn] at h; cases h
  | dict _ => simp only [drawn] at h; cases h
/-- how many octets a drawn value of so many levels has at most -/
def most : Nat → Nat
  | 0 => 34
  | n + 1 => 3 * most n + 2
theorem most_pos : ∀ n, 34 ≤ most n
  | 0 => Nat.le_refl _
  | n + 1 => by have := most_pos n; show 34 ≤ 3 * most n + 2; omega
/-! ### what stands in a part of the octets -/
def byteS (l : List Nat) : Prop := ∀ c ∈ l, c < 256
theorem num_byte (n : Nat) : byteS (numL n) := fun c hc => by have := numL_digits n c hc; omega
theorem okc_byte {c : Nat} (h : okc c = true) : c < 256 := by
  unfold okc at h
  simp only [Bool.or_eq_true, beq_iff_eq, Bool.and_eq_true, decide_eq_true_eq] at h
  omega
theorem byte_cat {l m : List Nat} (h1 : byteS l) (h2 : byteS m) : byteS (l ++ m) := fun c hc => by
  rcases List.mem_append.mp hc with z | z
  · exact h1 c z
  · exact h2 c z
theorem byte_cons {c : Nat} {l : List Nat} (h : c < 256) (h2 : byteS l) : byteS (c :: l) := fun d hd => by
  rcases List.mem_cons.mp hd with z | z
  · rw [z]; exact h
  · exact h2 d z
theorem byte_nil : byteS [] := fun c hc => nomatch hc
mutual
theorem octs_byte : ∀ d : PyData, plain d = true → byteS (octs d)
  | .none, _ => by rw [octs_non]; exact byte_cons (by decide) byte_nil
  | .bool b, _ => by rw [octs_bl]; exact byte_cons (by cases b <;> decide) byte_nil
  | .int i, _ => by
    rw [octs_int]
    refine byte_cons (by decide) (byte_cat ?_ (byte_cons (by decide) byte_nil))
    cases i with
    | ofNat n => exact num_byte n
    | negSucc n => exact byte_cons (by decide) (num_byte _)
  | .str x, h => by
    rw [octs_str]
    refine byte_cons (by decide) (byte_cat (num_byte _) (byte_cons (by decide) fun c hc => okc_byte ?_))
    simp only [plain] at h
    exact List.all_eq_true.mp h c hc
  | .tuple ds, h => by
    rw [octs_tup]
    exact byte_cons (by decide) (byte_cat (octsA_byte ds (plain_tup ▸ h)) (byte_cons (by decide) byte_nil))
  | .list _, h => by simp only [plain] at h; cases h
  | .dict _, h => by simp only [plain] at h; cases h
theorem octsA_byte : ∀ ds : List PyData, plainA ds = true → byteS (octsA ds)
  | [], _ => by rw [octsA_nil]; exact byte_nil
  | d :: ds, h => by
    rw [plainA_cons, Bool.and_eq_true] at h
    rw [octsA_cons]
    exact byte_cat (octs_byte d h.1) (octsA_byte ds h.2)
end
/-- what is known of a plain value whose octets have no long run of figures -/
theorem plain_good {d : PyData} (h : plain d = true) {k : Nat} (hk : k ≤ 500) (hr : runOk k 0 (octs d) = true) : goodD (need d) (octs d).length d := by
  have q := val_octs d h (need d) []
  rw [if_pos (Nat.le_refl _), List.append_nil] at q
  obtain ⟨p, e, _, g⟩ := val_good hk _ _ _ _ q hr
  rw [List.append_nil] at e
  rw [e]
  exact g
end Oc
set_option Elab.async false
set_option linter.all false
set_option maxRecDepth 100000
/- octets read by a stack of open tuples: own mathematics -/
namespace Oc
open PySem TL

theorem numS_less {e m : Nat} {l r : List Nat} (h : numS e l = some (m, r)) : r.length < l.length := by
  obtain ⟨e1, _, e3⟩ := num_parts h
  have := congrArg List.length e1
  rw [List.length_append, List.length_cons] at this
  omega
theorem intS_less {d : PyData} {l q : List Nat} (h : intS l = some (d, q)) : q.length < l.length := by
  cases l with
  | nil => cases h
  | cons c r =>
    unfold intS at h
    dsimp only at h
    by_cases hc : c = 45
    · rw [if_pos hc] at h
      cases e : numS 59 r with
      | none => rw [e] at h; cases h
      | some z =>
        obtain ⟨m, r'⟩ := z
        rw [e] at h
        dsimp only at h
        by_cases hm : m = 0
        · rw [if_pos hm] at h; cases h
        · rw [if_neg hm] at h
          cases h
          have := numS_less e
          rw [List.length_cons]
          omega
    · rw [if_neg hc] at h
      cases e : numS 59 (c :: r) with
      | none => rw [e] at h; cases h
      | some z =>
        obtain ⟨m, r'⟩ := z
        rw [e] at h
        cases h
        exact numS_less e
theorem strS_less {d : PyData} {l q : List Nat} (h : strS l = some (d, q)) : q.length < l.length := by
  unfold strS at h
  cases e : numS 58 l with
  | none => rw [e] at h; cases h
  | some z =>
    obtain ⟨m, r'⟩ := z
    rw [e] at h
    dsimp only at h
    by_cases hm : m ≤ r'.length ∧ (r'.take m).all okc = true
    · rw [if_pos hm] at h
      cases h
      have := numS_less e
      rw [List.length_drop]
      omega
    · rw [if_neg hm] at h; cases h
theorem parts_less {f : List Nat → Option (PyData × List Nat)} (hf : ∀ l d q, f l = some (d, q) → q.length < l.length) : ∀ (m : Nat) (l : List Nat) (ds : List PyData) (q : List Nat), partsS f m l = some (ds, q) → q.length < l.length
  | 0, l, ds, q, h => by cases h
  | m + 1, [], ds, q, h => by cases h
  | m + 1, c :: r, ds, q, h => by
    unfold partsS at h
    by_cases hc : c = 41
    · rw [if_pos hc] at h
      cases h
      rw [List.length_cons]
      omega
    · rw [if_neg hc] at h
      cases e : f (c :: r) with
      | none => rw [e] at h; cases h
      | some z =>
        obtain ⟨d, q1⟩ := z
        rw [e] at h
        dsimp only at h
        cases e2 : partsS f m q1 with
        | none => rw [e2] at h; cases h
        | some z =>
          obtain ⟨ds1, q2⟩ := z
          rw [e2] at h
          cases h
          have h1 := hf _ _ _ e
          have h2 := parts_less hf m q1 _ _ e2
          omega
/-- what is no tuple -/
def simpS (c : Nat) (r : List Nat) : Option (PyData × List Nat) := if c = 110 then some (.none, r) else if c = 116 then some (.bool true, r) else if c = 102 then some (.bool false, r)
    else if c = 105 then intS r else if c = 115 then strS r else none
theorem simp_less {c : Nat} {r q : List Nat} {d : PyData} (h : simpS c r = some (d, q)) : q.length ≤ r.length := by
  unfold simpS at h
  by_cases h1 : c = 110
  · rw [if_pos h1] at h; cases h; exact Nat.le_refl _
  rw [if_neg h1] at h
  by_cases h2 : c = 116
  · rw [if_pos h2] at h; cases h; exact Nat.le_refl _
  rw [if_neg h2] at h
  by_cases h3 : c = 102
  · rw [if_pos h3] at h; cases h; exact Nat.le_refl _
  rw [if_neg h3] at h
  by_cases h4 : c = 105
  · rw [if_pos h4] at h
    exact Nat.le_of_lt (intS_less h)
  rw [if_neg h4] at h
  by_cases h5 : c = 115
  · rw [if_pos h5] at h
    exact Nat.le_of_lt (strS_less h)
  rw [if_neg h5] at h
  cases h
theorem val_open (n c : Nat) (r : List Nat) : valS (n + 1) (c :: r) = if c = 40 then (match partsS (valS n) r.length r with
      | some (ds, q) => some (.tuple ds, q)
      | none => none) else simpS c r := by
  unfold valS simpS
  by_cases h1 : c = 110
  · subst h1; rfl
  by_cases h2 : c = 116
  · subst h2; rfl
  by_cases h3 : c = 102
  · subst h3; rfl
  by_cases h4 : c = 105
  · subst h4; rfl
  by_cases h5 : c = 115
  · subst h5; rfl
  rw [if_neg h1, if_neg h2, if_neg h3, if_neg h4, if_neg h5, if_neg h1, if_neg h2, if_neg h3, if_neg h4, if_neg h5]
  all_goals (by_cases h : c = 40)
  all_goals (first | (rw [if_pos h, if_pos h]; done) | (rw [if_pos h, if_pos h]; cases partsS (valS n) r.length r <;> rfl) | rw [if_neg h, if_neg h])
theorem val_less : ∀ (n : Nat) (l : List Nat) (d : PyData) (q : List Nat), valS n l = some (d, q) → q.length < l.length
  | 0, l, d, q, h => by cases h
  | n + 1, [], d, q, h => by cases h
  | n + 1, c :: r, d, q, h => by
    rw [val_open] at h
    rw [List.length_cons]
    by_cases hc : c = 40
    · rw [if_pos hc] at h
      cases e : partsS (valS n) r.length r with
      | none => rw [e] at h; cases h
      | some z =>
        obtain ⟨ds, q1⟩ := z
        rw [e] at h
        cases h
        have := parts_less (fun l d q h => val_less n l d q h) _ _ _ _ e
        omega
    · rw [if_neg hc] at h
      have := simp_less h
      omega
theorem parts_fuel {f : List Nat → Option (PyData × List Nat)} (hf : ∀ l d q, f l = some (d, q) → q.length < l.length) : ∀ (m m' : Nat) (l : List Nat), l.length ≤ m → l.length ≤ m' → partsS f m l = partsS f m' l
  | 0, 0, l, _, _ => rfl
  | 0, m' + 1, l, h, _ => by
    cases l with
    | nil => rfl
    | cons c r => rw [List.length_cons] at h; omega
  | m + 1, 0, l, _, h => by
    cases l with
    | nil => rfl
    | cons c r => rw [List.length_cons] at h; omega
  | m + 1, m' + 1, l, h, h' => by
    cases l with
    | nil => rfl
    | cons c r =>
      rw [List.length_cons] at h h'
      unfold partsS
      by_cases hc : c = 41
      · rw [if_pos hc, if_pos hc]
      · rw [if_neg hc, if_neg hc]
        cases e : f (c :: r) with
        | none => rfl
        | some z =>
          obtain ⟨d, q⟩ := z
          have hq := hf _ _ _ e
          rw [List.length_cons] at hq
          have ih := parts_fuel hf m m' q (by omega) (by omega)
          dsimp only
          rw [ih]
/-- a value is there, within open tuples (the innermost first) -/
def fin : List (List PyData) → PyData → List Nat → Option (PyData × List Nat)
  | [], d, q => some (d, q)
  | ds :: st, d, q => match partsS (valS (400 - st.length)) q.length q with
    | none => none
    | some (ds', q') => fin st (.tuple (ds ++ d :: ds')) q'
/-- what is to be read within open tuples -/
def head : List (List PyData) → List Nat → Option (PyData × List Nat)
  | [], l => valS 401 l
  | ds :: st, l => match partsS (valS (400 - st.length)) l.length l with
    | none => none
    | some (ds', q') => fin st (.tuple (ds ++ ds')) q'
theorem head_cons (ds : List PyData) (st : List (List PyData)) (l : List Nat) : head (ds :: st) l = match partsS (valS (400 - st.length)) l.length l with
    | none => none
    | some (ds', q') => fin st (.tuple (ds ++ ds')) q' := rfl
theorem fin_nil (d : PyData) (q : List Nat) : fin [] d q = some (d, q) := rfl
theorem fin_cons (ds : List PyData) (st : List (List PyData)) (d : PyData) (q : List Nat) : fin (ds :: st) d q = head ((ds ++ [d]) :: st) q := by
  rw [head_cons]
  show (match partsS (valS (400 - st.length)) q.length q with
    | none => none
    | some (ds', q') => fin st (.tuple (ds ++ d :: ds')) q') = _
  cases partsS (valS (400 - st.length)) q.length q with
  | none => rfl
  | some z =>
    obtain ⟨ds', q'⟩ := z
    dsimp only
    rw [List.append_assoc]
    rfl
theorem head_nil (st : List (List PyData)) : head st [] = none := by
  cases st <;> rfl
theorem head_shut0 (r : List Nat) : head [] (41 :: r) = none := by
  show valS 401 (41 :: r) = none
  rw [val_open, if_neg (by decide)]
  rfl
theorem head_shut (ds : List PyData) (st : List (List PyData)) (r : List Nat) : head (ds :: st) (41 :: r) = fin st (.tuple ds) r := by
  rw [head_cons]
  have e : partsS (valS (400 - st.length)) (41 :: r).length (41 :: r) = some ([], r) := rfl
  rw [e]
  dsimp only
  rw [List.append_nil]
theorem parts_open (n c : Nat) (r : List Nat) (hc : c ≠ 41) : partsS (valS n) (c :: r).length (c :: r) = match valS n (c :: r) with
    | none => none
    | some (d, q) => match partsS (valS n) q.length q with
      | none => none
      | some (ds, q2) => some (d :: ds, q2) := by
  rw [List.length_cons]
  show (if c = 41 then _ else _) = _
  rw [if_neg hc]
  cases e : valS n (c :: r) with
  | none => rfl
  | some z =>
    obtain ⟨d, q⟩ := z
    have hq := val_less _ _ _ _ e
    rw [List.length_cons] at hq
    dsimp only
    rw [parts_fuel (fun l d q h => val_less n l d q h) r.length q.length q (by omega) (Nat.le_refl _)]
    all_goals (cases partsS (valS n) q.length q <;> rfl)
theorem head_deep {st : List (List PyData)} {c : Nat} (r : List Nat) (h : 400 < st.length) (hc : c ≠ 41) : head st (c :: r) = none := by
  cases st with
  | nil => simp at h
  | cons ds st =>
    rw [List.length_cons] at h
    rw [head_cons, parts_open _ _ _ hc]
    have e : 400 - st.length = 0 := by omega
    rw [e]
    rfl
/-- what a place for a value holds -/
theorem head_val (st : List (List PyData)) (c : Nat) (r : List Nat) (hc : c ≠ 41) : head st (c :: r) = match valS (401 - st.length) (c :: r) with
    | none => none
    | some (d, q) => fin st d q := by
  cases st with
  | nil =>
    show valS 401 (c :: r) = match valS 401 (c :: r) with
      | none => none
      | some (d, q) => some (d, q)
    cases valS 401 (c :: r) <;> rfl
  | cons ds st =>
    rw [head_cons, parts_open _ _ _ hc]
    have e : 401 - (ds :: st).length = 400 - st.length := by
      rw [List.length_cons]
      omega
    rw [e]
    cases valS (400 - st.length) (c :: r) with
    | none => rfl
    | some z =>
      obtain ⟨d, q⟩ := z
      dsimp only
      rw [fin_cons, head_cons]
      cases partsS (valS (400 - st.length)) q.length q with
      | none => rfl
      | some z =>
        obtain ⟨ds', q'⟩ := z
        dsimp only
        rw [List.append_assoc]
        rfl
theorem head_open {st : List (List PyData)} (r : List Nat) (h : st.length ≤ 400) : head st (40 :: r) = head ([] :: st) r := by
  rw [head_val _ _ _ (by decide)]
  obtain ⟨n, e⟩ : ∃ n, 401 - st.length = n + 1 := ⟨400 - st.length, by omega⟩
  have en : n = 400 - st.length := by omega
  rw [e, val_open, if_pos rfl, en]
  show _ = match partsS (valS (400 - st.length)) r.length r with
    | none => none
    | some (ds', q') => fin st (.tuple ([] ++ ds')) q'
  cases partsS (valS (400 - st.length)) r.length r with
  | none => rfl
  | some z => rfl
theorem head_simp {st : List (List PyData)} {c : Nat} (r : List Nat) (h : st.length ≤ 400) (h1 : c ≠ 41) (h2 : c ≠ 40) : head st (c :: r) = match simpS c r with
    | none => none
    | some (d, q) => fin st d q := by
  rw [head_val _ _ _ h1]
  obtain ⟨n, e⟩ : ∃ n, 401 - st.length = n + 1 := ⟨400 - st.length, by omega⟩
  rw [e, val_open, if_neg h2]
theorem simp_plain {k : Nat} (hk : k ≤ 500) {c : Nat} {r q : List Nat} {d : PyData} (h : simpS c r = some (d, q)) (hr : runOk k 0 r = true) : ∃ p, r = p ++ q ∧ plain d = true := by
  unfold simpS at h
  by_cases h1 : c = 110
  · rw [if_pos h1] at h; cases h; exact ⟨[], rfl, by simp only [plain]⟩
  rw [if_neg h1] at h
  by_cases h2 : c = 116
  · rw [if_pos h2] at h; cases h; exact ⟨[], rfl, by simp only [plain]⟩
  rw [if_neg h2] at h
  by_cases h3 : c = 102
  · rw [if_pos h3] at h; cases h; exact ⟨[], rfl, by simp only [plain]⟩
  rw [if_neg h3] at h
  by_cases h4 : c = 105
  · rw [if_pos h4] at h
    obtain ⟨p, e, g⟩ := int_good hk h hr
    exact ⟨p, e, g.1⟩
  rw [if_neg h4] at h
  by_cases h5 : c = 115
  · rw [if_pos h5] at h
    obtain ⟨p, e, g⟩ := str_good h
    exact ⟨p, e, g.1⟩
  rw [if_neg h5] at h
  cases h
end Oc
set_option Elab.async false
set_option linter.all false
set_option maxRecDepth 100000
/- figures by pieces: own mathematics -/
namespace Oc
open PySem TL
def padL : Nat → Nat → List Nat
  | 0, _ => []
  | k + 1, n => padL k (n / 10) ++ [48 + n % 10]
theorem pad_num : ∀ (k n : Nat), n < 10 ^ (k + 1) → List.replicate (k + 1 - (numL n).length) 48 ++ numL n = padL (k + 1) n
  | 0, n, h => by
    have h : n < 10 := by simpa using h
    rw [numL_lt h]
    show _ = [] ++ [48 + n % 10]
    rw [Nat.mod_eq_of_lt h]
    rfl
  | k + 1, n, h => by
    by_cases h10 : n < 10
    · rw [numL_lt h10]
      show List.replicate (k + 1 + 1 - 1) 48 ++ [48 + n] = padL (k + 1) (n / 10) ++ [48 + n % 10]
      have e : n / 10 = 0 := by omega
      rw [e, Nat.mod_eq_of_lt h10, ← pad_num k 0 (Nat.pow_pos (by decide)), numL_lt (by decide)]
      show List.replicate (k + 1) 48 ++ _ = (List.replicate (k + 1 - 1) 48 ++ [48 + 0]) ++ _
      rw [Nat.add_sub_cancel, ← List.replicate_succ']
    · have h1 : 10 ≤ n := by omega
      rw [numL_step h1]
      have h2 : n / 10 < 10 ^ (k + 1) := by
        rw [Nat.pow_succ] at h
        omega
      show _ = padL (k + 1) (n / 10) ++ [48 + n % 10]
      rw [← pad_num k (n / 10) h2, List.length_append, ← List.append_assoc]
      have e : k + 1 + 1 - ((numL (n / 10)).length + [48 + n % 10].length) = k + 1 - (numL (n / 10)).length := by
        show k + 1 + 1 - (_ + 1) = _
        omega
      rw [e]
theorem num_cut : ∀ (k m : Nat), 1 ≤ m / 10 ^ k → numL m = numL (m / 10 ^ k) ++ padL k (m % 10 ^ k)
  | 0, m, _ => by
    show numL m = numL (m / 1) ++ []
    rw [Nat.div_one, List.append_nil]
  | k + 1, m, h => by
    have e1 : 10 ^ (k + 1) = 10 * 10 ^ k := by rw [Nat.pow_succ, Nat.mul_comm]
    have p : 0 < 10 ^ k := Nat.pow_pos (by decide)
    have e2 : m / 10 / 10 ^ k = m / 10 ^ (k + 1) := by rw [e1, Nat.div_div_eq_div_mul]
    have h10 : 10 ≤ m := by
      rcases Nat.lt_or_ge m 10 with z | z
      · exfalso
        have : m / 10 ^ (k + 1) = 0 := Nat.div_eq_of_lt (by rw [e1]; omega)
        omega
      · exact z
    rw [numL_step h10, num_cut k (m / 10) (by rw [e2]; exact h), e2]
    show _ = _ ++ (padL k (m % 10 ^ (k + 1) / 10) ++ [48 + m % 10 ^ (k + 1) % 10])
    rw [e1, Nat.mod_mul_right_div_self, Nat.mod_mul_right_mod, List.append_assoc]
theorem joinL_nil : ∀ l : List (List Nat), joinL [] l = l.flatten
  | [] => rfl
  | [p] => by simp [joinL]
  | p :: q :: r => by
    show p ++ ([] ++ joinL [] (q :: r)) = _
    rw [joinL_nil (q :: r), List.nil_append]
    rfl
theorem tl_S (x : Str) : SX.S (tl x) = x := ext_tl rfl
theorem tl_joined (ys : List Str) : tl (PySem.Txt.join Str.empty ys) = (ys.map tl).flatten := by
  have e : ys = (ys.map tl).map SX.S := by
    rw [List.map_map]
    have : (SX.S ∘ tl) = id := funext fun x => tl_S x
    rw [this, List.map_id]
  have z := SX.join_S [] (ys.map tl)
  rw [← e, joinL_nil] at z
  have e0 : (SX.S []) = Str.empty := rfl
  rw [e0] at z
  rw [z]
theorem tl_padded (x : Str) (n : Nat) : tl (PySem.Builtin.Str.padded x n 0 48) = List.replicate n 48 ++ tl x := by
  show (Array.replicate n 48 ++ x.cps ++ Array.replicate 0 48).toList = _
  simp [tl]
theorem tl_zfill (n : Nat) (h : n < 10 ^ 60) : tl (Txt.zfill (Str.ofString (toString ((n : Nat) : Int))) 60) = padL 60 n := by
  have t := tl_num n
  have l : (Str.ofString (toString ((n : Nat) : Int))).length = (numL n).length := by rw [len_tl, t]
  have hl := numL_len (n := n) (k := 60) (by decide) h
  have pn := pad_num 59 n h
  unfold Txt.zfill
  rw [l]
  by_cases h60 : (60 : Int) ≤ ((numL n).length : Int)
  · rw [if_pos h60, t, ← pn]
    have e : 59 + 1 - (numL n).length = 0 := by omega
    rw [e]
    rfl
  · rw [if_neg h60]
    have hz : PySem.zfilled (Str.ofString (toString ((n : Nat) : Int))) ((60 : Int).toNat - (numL n).length) = PySem.Builtin.Str.padded (Str.ofString (toString ((n : Nat) : Int))) ((60 : Int).toNat - (numL n).length) 0 48 := by
      have d := numL_digits n
      cases hc : numL n with
      | nil => exact absurd hc (numL_ne n)
      | cons c r =>
        have hcc := d c (by rw [hc]; exact List.mem_cons_self)
        have e0 : (Str.ofString (toString ((n : Nat) : Int))).cps[0]? = some c := by
          rw [← Array.getElem?_toList]
          show (tl (Str.ofString (toString ((n : Nat) : Int))))[0]? = some c
          rw [t, hc]
          rfl
        unfold PySem.zfilled
        rw [e0]
        split
        · next z => cases z; omega
        · next z => cases z; omega
        · rfl
    rw [hz, tl_padded, t]
    exact pn
end Oc
set_option Elab.async false
set_option linter.all false
set_option maxRecDepth 100000
set_option exponentiation.threshold 3000
/- what is read, written again, is what was read -/
namespace Oc
open PySem TL
theorem num_canon {e m : Nat} {l r : List Nat} (h : numS e l = some (m, r)) : l = numL m ++ e :: r := by
  obtain ⟨e1, e2, e3⟩ := num_parts h
  have hz : ¬ (l.head? = some 48 ∧ 1 < (l.takeWhile dig).length) := by
    unfold numS at h
    cases hd : l.dropWhile dig with
    | nil => rw [hd] at h; cases h
    | cons c q =>
      rw [hd] at h
      dsimp only at h
      by_cases hc : l.takeWhile dig = [] ∨ c ≠ e ∨ (l.head? = some 48 ∧ 1 < (l.takeWhile dig).length)
      · rw [if_pos hc] at h; cases h
      · exact fun z => hc (.inr (.inr z))
  have ad : NumText.AllDigits (l.takeWhile dig) := digs_of
  have hh : l.head? = (l.takeWhile dig).head? := by
    have e4 := e1
    cases ht : l.takeWhile dig with
    | nil => exact absurd ht e3
    | cons c ds =>
      rw [ht] at e4
      rw [e4]
      rfl
  rw [hh] at hz
  have key : numL m = l.takeWhile dig := by
    rw [e2]
    unfold numL
    cases ht : l.takeWhile dig with
    | nil => exact absurd ht e3
    | cons c ds =>
      rw [ht] at ad hz
      rw [NumText.toDigits_digitsVal ds.length (c :: ds) (by rw [List.length_cons]) ad ?_, List.map_map]
      · have : ∀ x ∈ c :: ds, (Char.toNat ∘ Char.ofNat) x = x := fun x hx => by
          have := ad x hx
          have q : ∀ y : Nat, y ≤ 57 → (Char.ofNat y).toNat = y := by decide
          exact q x this.2
        rw [List.map_congr_left this, List.map_id']
      · cases ds with
        | nil => exact .inl rfl
        | cons d ds =>
          refine .inr ⟨c, d :: ds, rfl, ?_⟩
          have h1 := ad c (List.mem_cons_self ..)
          have h2 : c ≠ 48 := fun z => hz ⟨by rw [z]; rfl, by simp⟩
          omega
  rw [key]
  exact e1
theorem int_canon {l q : List Nat} {d : PyData} (h : intS l = some (d, q)) : 105 :: l = octs d ++ q := by
  cases l with
  | nil => cases h
  | cons c r =>
    unfold intS at h
    dsimp only at h
    by_cases hc : c = 45
    · rw [if_pos hc] at h
      cases e : numS 59 r with
      | none => rw [e] at h; cases h
      | some z =>
        obtain ⟨m, r'⟩ := z
        rw [e] at h
        dsimp only at h
        by_cases hm : m = 0
        · rw [if_pos hm] at h; cases h
        · rw [if_neg hm] at h
          cases h
          obtain ⟨j, rfl⟩ : ∃ j, m = j + 1 := ⟨m - 1, by omega⟩
          rw [octs_int]
          show _ = 105 :: (45 :: numL (j + 1) ++ [59]) ++ q
          rw [hc, num_canon e]
          simp
    · rw [if_neg hc] at h
      cases e : numS 59 (c :: r) with
      | none => rw [e] at h; cases h
      | some z =>
        obtain ⟨m, r'⟩ := z
        rw [e] at h
        cases h
        rw [octs_int]
        show _ = 105 :: (numL m ++ [59]) ++ q
        rw [num_canon e]
        simp
theorem str_canon {l q : List Nat} {d : PyData} (h : strS l = some (d, q)) : 115 :: l = octs d ++ q := by
  unfold strS at h
  cases e : numS 58 l with
  | none => rw [e] at h; cases h
  | some z =>
    obtain ⟨m, r⟩ := z
    rw [e] at h
    dsimp only at h
    by_cases hc : m ≤ r.length ∧ (r.take m).all okc = true
    · rw [if_pos hc] at h
      cases h
      rw [octs_str]
      have e2 : tl (⟨(r.take m).toArray⟩ : Str) = r.take m := rfl
      rw [e2, List.length_take, Nat.min_eq_left hc.1]
      have e3 := num_canon e
      have e4 : 115 :: l = 115 :: (numL m ++ 58 :: (r.take m ++ r.drop m)) := by rw [List.take_append_drop, ← e3]
      rw [e4]
      simp
    · rw [if_neg hc] at h; cases h
theorem parts_canon {f : List Nat → Option (PyData × List Nat)} (hf : ∀ l d q, f l = some (d, q) → l = octs d ++ q) : ∀ (m : Nat) (l : List Nat) (ds : List PyData) (q : List Nat), partsS f m l = some (ds, q) → l = octsA ds ++ 41 :: q
  | 0, l, ds, q, h => by cases h
  | m + 1, [], ds, q, h => by cases h
  | m + 1, c :: r, ds, q, h => by
    unfold partsS at h
    by_cases hc : c = 41
    · rw [if_pos hc] at h
      cases h
      rw [octsA_nil, hc]
      rfl
    · rw [if_neg hc] at h
      cases e : f (c :: r) with
      | none => rw [e] at h; cases h
      | some z =>
        obtain ⟨d, q1⟩ := z
        rw [e] at h
        dsimp only at h
        cases e2 : partsS f m q1 with
        | none => rw [e2] at h; cases h
        | some z =>
          obtain ⟨ds1, q2⟩ := z
          rw [e2] at h
          cases h
          rw [hf _ _ _ e, parts_canon hf m q1 ds1 q e2, octsA_cons, List.append_assoc]
theorem val_canon : ∀ (n : Nat) (l : List Nat) (d : PyData) (q : List Nat), valS n l = some (d, q) → l = octs d ++ q
  | 0, l, d, q, h => by cases h
  | n + 1, [], d, q, h => by cases h
  | n + 1, c :: r, d, q, h => by
    unfold valS at h
    by_cases h1 : c = 110
    · rw [if_pos h1] at h
      cases h
      rw [octs_non, h1]
      rfl
    rw [if_neg h1] at h
    by_cases h2 : c = 116
    · rw [if_pos h2] at h
      cases h
      rw [octs_bl, h2]
      rfl
    rw [if_neg h2] at h
    by_cases h3 : c = 102
    · rw [if_pos h3] at h
      cases h
      rw [octs_bl, h3]
      rfl
    rw [if_neg h3] at h
    by_cases h4 : c = 105
    · rw [if_pos h4] at h
      rw [h4]
      exact int_canon h
    rw [if_neg h4] at h
    by_cases h5 : c = 115
    · rw [if_pos h5] at h
      rw [h5]
      exact str_canon h
    rw [if_neg h5] at h
    by_cases h6 : c = 40
    · rw [if_pos h6] at h
      cases e : partsS (valS n) r.length r with
      | none => rw [e] at h; cases h
      | some z =>
        obtain ⟨ds, q1⟩ := z
        rw [e] at h
        cases h
        have := parts_canon (fun l d q hh => val_canon n l d q hh) _ _ _ _ e
        rw [octs_tup, h6, this]
        simp
    · rw [if_neg h6] at h; cases h
theorem whole_canon {l : List Nat} {d : PyData} (h : wholeS l = some d) (hr : runOk 500 0 l = true) : l = octs d ∧ plain d = true ∧ need d ≤ 401 ∧ goodD 401 l.length d := by
  unfold wholeS at h
  cases e : valS 401 l with
  | none => rw [e] at h; cases h
  | some z =>
    obtain ⟨d2, q⟩ := z
    rw [e] at h
    cases q with
    | cons _ _ => cases h
    | nil =>
      cases h
      have c := val_canon _ _ _ _ e
      rw [List.append_nil] at c
      obtain ⟨p, ep, _, g⟩ := val_good (Nat.le_refl _) _ _ _ _ e hr
      rw [List.append_nil] at ep
      rw [← ep] at g
      refine ⟨c, g.1, ?_, g⟩
      have v := val_octs d g.1 401 []
      rw [List.append_nil, ← c, e] at v
      by_cases hn : need d ≤ 401
      · exact hn
      · rw [if_neg hn] at v
        cases v
end Oc
set_option Elab.async false
set_option linter.all false
set_option maxRecDepth 100000
/- entries of a log: own mathematics -/
namespace Oc
open PySem
/-- the sum, k octets already behind -/
def chkF : Nat → Nat → List Nat → Nat
  | _, acc, [] => acc
  | k, acc, c :: l => chkF (k + 1) ((acc + (k + 1) * c) % 65521) l
def chk (l : List Nat) : Nat := chkF 0 0 l
theorem chkF_app : ∀ (l m : List Nat) (k acc : Nat), chkF k acc (l ++ m) = chkF (k + l.length) (chkF k acc l) m
  | [], m, k, acc => by simp [chkF]
  | c :: l, m, k, acc => by
    rw [List.cons_append]
    show chkF (k + 1) _ (l ++ m) = chkF (k + (l.length + 1)) (chkF (k + 1) _ l) m
    rw [chkF_app l m, show k + 1 + l.length = k + (l.length + 1) by omega]
theorem chk_step {l : List Nat} {i c : Nat} (h : l[i]? = some c) : chk (l.take (i + 1)) = (chk (l.take i) + (i + 1) * c) % 65521 := by
  have hi : i < l.length := (List.getElem?_eq_some_iff.mp h).1
  unfold chk
  rw [List.take_add_one, h, chkF_app, List.length_take, Nat.min_eq_left (by omega), Nat.zero_add]
  rfl
theorem chk_lt : ∀ l : List Nat, chk l < 65521 := by
  have key : ∀ (l : List Nat) (k acc : Nat), acc < 65521 → chkF k acc l < 65521 := by
    intro l
    induction l with
    | nil => intro k acc h; exact h
    | cons c l ih => intro k acc _; exact ih _ _ (Nat.mod_lt _ (by decide))
  exact fun l => key l 0 0 (by decide)
def head4 (n : Nat) : List Nat := [n / 256 ^ 3 % 256, n / 65536 % 256, n / 256 % 256, n % 256]
def entO (kind : Nat) (t : List Nat) : List Nat := head4 t.length ++ [kind] ++ t ++ [chk (kind :: t) / 256, chk (kind :: t) % 256]
def four (L : List Nat) (i : Nat) : Nat := ((L.getD i 0 * 256 + L.getD (i + 1) 0) * 256 + L.getD (i + 2) 0) * 256 + L.getD (i + 3) 0
/-- the place behind the entry at i -/
def thereS (L : List Nat) (i : Nat) : Option Nat :=
  if L.length < i + 7 then none
  else if L.length < i + 5 + four L i + 2 ∨ L.getD (i + 5 + four L i) 0 * 256 + L.getD (i + 5 + four L i + 1) 0 ≠ chk ((L.drop (i + 4)).take (1 + four L i)) then none
  else some (i + 5 + four L i + 2)
def entS (L : List Nat) (i : Nat) : Option (Nat × PyData × Nat) := match thereS L i with
  | none => none
  | some e => match wholeS ((L.drop (i + 5)).take (four L i)) with
    | none => none
    | some d => some (L.getD (i + 4) 0, d, e)
theorem four_head {n : Nat} (h : n < 256 ^ 4) : ((n / 256 ^ 3 % 256 * 256 + n / 65536 % 256) * 256 + n / 256 % 256) * 256 + n % 256 = n := by
  have : (256 : Nat) ^ 4 = 4294967296 := by decide
  have : (256 : Nat) ^ 3 = 16777216 := by decide
  omega
theorem entO_len (kind : Nat) (t : List Nat) : (entO kind t).length = t.length + 7 := by
  unfold entO head4
  simp
/-- an entry that stands at a place is found there, whatever is behind -/
theorem there_here {pre post t : List Nat} {kind : Nat} (h : t.length < 256 ^ 4) : thereS (pre ++ (entO kind t ++ post)) pre.length = some (pre.length + (t.length + 7)) ∧ four (pre ++ (entO kind t ++ post)) pre.length = t.length ∧
    ((pre ++ (entO kind t ++ post)).drop (pre.length + 5)).take t.length = t ∧ (pre ++ (entO kind t ++ post)).getD (pre.length + 4) 0 = kind := by
  have hg : ∀ j, (pre ++ (entO kind t ++ post)).getD (pre.length + j) 0 = (entO kind t ++ post).getD j 0 := fun j => by
    rw [List.getD_eq_getElem?_getD, List.getD_eq_getElem?_getD, List.getElem?_append_right (by omega), Nat.add_sub_cancel_left]
  have e : entO kind t ++ post = t.length / 256 ^ 3 % 256 :: t.length / 65536 % 256 :: t.length / 256 % 256 :: t.length % 256 :: kind :: (t ++ (chk (kind :: t) / 256 :: chk (kind :: t) % 256 :: post)) := by
    unfold entO head4
    simp
  have f4 : four (pre ++ (entO kind t ++ post)) pre.length = t.length := by
    unfold four
    have h0 := hg 0
    rw [Nat.add_zero] at h0
    rw [h0, hg 1, hg 2, hg 3, e]
    exact four_head h
  have L : (pre ++ (entO kind t ++ post)).length = pre.length + (t.length + 7 + post.length) := by
    rw [List.length_append, List.length_append, entO_len]
  have d5 : (pre ++ (entO kind t ++ post)).drop (pre.length + 5) = t ++ (chk (kind :: t) / 256 :: chk (kind :: t) % 256 :: post) := by
    rw [← List.drop_drop, List.drop_left' rfl, e]
    rfl
  have d4 : (pre ++ (entO kind t ++ post)).drop (pre.length + 4) = kind :: t ++ (chk (kind :: t) / 256 :: chk (kind :: t) % 256 :: post) := by
    rw [← List.drop_drop, List.drop_left' rfl, e]
    rfl
  have g : ∀ j, (pre ++ (entO kind t ++ post)).getD (pre.length + 5 + t.length + j) 0 = (chk (kind :: t) / 256 :: chk (kind :: t) % 256 :: post).getD j 0 := fun j => by
    have : (pre ++ (entO kind t ++ post)).getD (pre.length + 5 + t.length + j) 0 = (((pre ++ (entO kind t ++ post)).drop (pre.length + 5)).drop t.length).getD j 0 := by
      rw [List.getD_eq_getElem?_getD, List.getD_eq_getElem?_getD, List.getElem?_drop, List.getElem?_drop]
      congr 2
      omega
    rw [this, d5, List.drop_left' rfl]
  refine ⟨?_, f4, by rw [d5]; exact List.take_left' rfl, by rw [hg 4, e]; rfl⟩
  unfold thereS
  rw [L, f4, if_neg (by omega), d4, List.take_left' (by rw [List.length_cons]; omega), if_neg]
  · congr 1
    omega
  · rintro (z | z)
    · omega
    · have g0 := g 0
      rw [Nat.add_zero] at g0
      rw [g0, g 1] at z
      apply z
      show chk (kind :: t) / 256 * 256 + chk (kind :: t) % 256 = _
      omega
/-- one that is cut is not -/
theorem there_cut {pre post t : List Nat} {kind m : Nat} (h : t.length < 256 ^ 4) (h1 : pre.length ≤ m) (h2 : m < pre.length + (t.length + 7)) : thereS ((pre ++ (entO kind t ++ post)).take m) pre.length = none := by
  have L : (pre ++ (entO kind t ++ post)).length = pre.length + (t.length + 7 + post.length) := by
    rw [List.length_append, List.length_append, entO_len]
  have lt : ((pre ++ (entO kind t ++ post)).take m).length = m := by
    rw [List.length_take, L]
    omega
  unfold thereS
  rw [lt]
  by_cases h7 : m < pre.length + 7
  · rw [if_pos h7]
  · have f4 : four ((pre ++ (entO kind t ++ post)).take m) pre.length = t.length := by
      rw [← (there_here (pre := pre) (post := post) (t := t) (kind := kind) h).2.1]
      unfold four
      have g : ∀ j, j < m → ((pre ++ (entO kind t ++ post)).take m).getD j 0 = (pre ++ (entO kind t ++ post)).getD j 0 := fun j hj => by
        rw [List.getD_eq_getElem?_getD, List.getD_eq_getElem?_getD, List.getElem?_take_of_lt hj]
      rw [g _ (by omega), g _ (by omega), g _ (by omega), g _ (by omega)]
    rw [if_neg h7, f4, if_pos (.inl (by omega))]
/-- what is found at a place is an entry that stands there -/
theorem there_inv {L : List Nat} {i e : Nat} (hb : byteS L) (h : thereS L i = some e) : e = i + 5 + four L i + 2 ∧ e ≤ L.length ∧ ((L.drop (i + 5)).take (four L i)).length = four L i ∧
    (L.drop i).take (e - i) = entO (L.getD (i + 4) 0) ((L.drop (i + 5)).take (four L i)) := by
  unfold thereS at h
  by_cases h7 : L.length < i + 7
  · rw [if_pos h7] at h; cases h
  rw [if_neg h7] at h
  by_cases h2 : L.length < i + 5 + four L i + 2 ∨ L.getD (i + 5 + four L i) 0 * 256 + L.getD (i + 5 + four L i + 1) 0 ≠ chk ((L.drop (i + 4)).take (1 + four L i))
  · rw [if_pos h2] at h; cases h
  rw [if_neg h2] at h
  cases h
  have hl : i + 5 + four L i + 2 ≤ L.length := Nat.le_of_not_lt fun z => h2 (.inl z)
  have hc : L.getD (i + 5 + four L i) 0 * 256 + L.getD (i + 5 + four L i + 1) 0 = chk ((L.drop (i + 4)).take (1 + four L i)) := Classical.byContradiction fun z => h2 (.inr z)
  have tl : ((L.drop (i + 5)).take (four L i)).length = four L i := by
    rw [List.length_take, List.length_drop]
    omega
  refine ⟨rfl, hl, tl, ?_⟩
  have gb : ∀ j, j < L.length → L.getD j 0 < 256 := fun j hj => by
    rw [List.getD_eq_getElem?_getD, List.getElem?_eq_getElem hj]
    exact hb _ (List.getElem_mem hj)
  have cons : ∀ j, j < L.length → L.drop j = L.getD j 0 :: L.drop (j + 1) := fun j hj => by
    rw [List.drop_eq_getElem_cons hj, List.getD_eq_getElem?_getD, List.getElem?_eq_getElem hj]
    rfl
  have split : L.drop (i + 5) = (L.drop (i + 5)).take (four L i) ++ L.drop (i + 5 + four L i) := by
    have q : L.drop (i + 5 + four L i) = (L.drop (i + 5)).drop (four L i) := by rw [List.drop_drop]
    rw [q, List.take_append_drop]
  have ck : (L.drop (i + 4)).take (1 + four L i) = L.getD (i + 4) 0 :: (L.drop (i + 5)).take (four L i) := by
    rw [cons (i + 4) (by omega), Nat.add_comm 1]
    rfl
  rw [ck] at hc
  have all : L.drop i = L.getD i 0 :: L.getD (i + 1) 0 :: L.getD (i + 2) 0 :: L.getD (i + 3) 0 :: L.getD (i + 4) 0 :: ((L.drop (i + 5)).take (four L i) ++ (L.getD (i + 5 + four L i) 0 :: L.getD (i + 5 + four L i + 1) 0 :: L.drop (i + 5 + four L i + 2))) := by
    rw [cons i (by omega), cons (i + 1) (by omega), cons (i + 2) (by omega), cons (i + 3) (by omega), cons (i + 4) (by omega), split, cons (i + 5 + four L i) (by omega), cons (i + 5 + four L i + 1) (by omega)]
    simp only [List.take_left' tl]
  have h0 := gb i (by omega)
  have h1 := gb (i + 1) (by omega)
  have h2 := gb (i + 2) (by omega)
  have h3 := gb (i + 3) (by omega)
  have hd := gb (i + 5 + four L i) (by omega)
  have he := gb (i + 5 + four L i + 1) (by omega)
  rw [all]
  generalize hT : (L.drop (i + 5)).take (four L i) = t at *
  have lt : t.length = ((L.getD i 0 * 256 + L.getD (i + 1) 0) * 256 + L.getD (i + 2) 0) * 256 + L.getD (i + 3) 0 := tl
  have hf : i + 5 + four L i + 2 - i = t.length + 7 := by omega
  rw [hf]
  generalize L.getD i 0 = a0 at *
  generalize L.getD (i + 1) 0 = a1 at *
  generalize L.getD (i + 2) 0 = a2 at *
  generalize L.getD (i + 3) 0 = a3 at *
  generalize L.getD (i + 4) 0 = kd at *
  generalize L.getD (i + 5 + four L i) 0 = b0 at *
  generalize L.getD (i + 5 + four L i + 1) 0 = b1 at *
  generalize L.drop (i + 5 + four L i + 2) = rest
  have p3 : (256 : Nat) ^ 3 = 16777216 := by decide
  have e0 : t.length / 256 ^ 3 % 256 = a0 := by rw [p3]; omega
  have e1 : t.length / 65536 % 256 = a1 := by omega
  have e2 : t.length / 256 % 256 = a2 := by omega
  have e3 : t.length % 256 = a3 := by omega
  have c0 : chk (kd :: t) / 256 = b0 := by omega
  have c1 : chk (kd :: t) % 256 = b1 := by omega
  unfold entO head4
  rw [e0, e1, e2, e3, c0, c1]
  have : (a0 :: a1 :: a2 :: a3 :: kd :: (t ++ b0 :: b1 :: rest)) = (a0 :: a1 :: a2 :: a3 :: kd :: (t ++ [b0, b1])) ++ rest := by simp
  rw [this, List.take_left' (by simp)]
  simp
end Oc
set_option Elab.async false
set_option linter.all false
set_option maxRecDepth 100000
set_option exponentiation.threshold 3000
/- a run of entries -/
namespace Oc
open PySem
/-- a payload as the law draws it -/
def paid (d : PyData) : Prop := plain d = true ∧ runOk 31 0 (octs d) = true ∧ need d ≤ 6 ∧ (octs d).length ≤ 1400
abbrev Ent := Nat × PyData
def okE (e : Ent) : Prop := e.1 < 256 ∧ paid e.2
def entE (e : Ent) : List Nat := entO e.1 (octs e.2)
def flat : List Ent → List Nat
  | [] => []
  | e :: r => entE e ++ flat r
def placesD : Nat → List Ent → List PyData
  | _, [] => []
  | s, e :: r => .tuple [.int (s : Int), .int (e.1 : Int), e.2] :: placesD (s + (entE e).length) r
theorem flat_app : ∀ a b : List Ent, flat (a ++ b) = flat a ++ flat b
  | [], b => rfl
  | e :: a, b => by
    rw [List.cons_append]
    show entE e ++ flat (a ++ b) = entE e ++ flat a ++ flat b
    rw [flat_app a b, List.append_assoc]
theorem placesD_snoc : ∀ (s : Nat) (a : List Ent) (e : Ent), placesD s (a ++ [e]) = placesD s a ++ [.tuple [.int ((s + (flat a).length : Nat) : Int), .int (e.1 : Int), e.2]]
  | s, [], e => rfl
  | s, x :: a, e => by
    rw [List.cons_append]
    show _ :: placesD (s + (entE x).length) (a ++ [e]) = _ :: (placesD (s + (entE x).length) a ++ _)
    rw [placesD_snoc, show s + (entE x).length + (flat a).length = s + (flat (x :: a)).length by
      show _ = s + (entE x ++ flat a).length
      rw [List.length_append]
      omega]
theorem placesD_len : ∀ (s : Nat) (a : List Ent), (placesD s a).length = a.length
  | _, [] => rfl
  | s, e :: a => by
    show (placesD _ a).length + 1 = _
    rw [placesD_len]
    rfl
theorem placesD_at : ∀ (s : Nat) (a : List Ent) (j : Nat) (e : Ent), a[j]? = some e → (placesD s a)[j]? = some (.tuple [.int ((s + (flat (a.take j)).length : Nat) : Int), .int (e.1 : Int), e.2])
  | _, [], _, _, h => by cases h
  | s, x :: a, 0, e, h => by
    cases h
    rfl
  | s, x :: a, j + 1, e, h => by
    show (placesD (s + (entE x).length) a)[j]? = _
    rw [placesD_at _ a j e h, show s + (entE x).length + (flat (a.take j)).length = s + (flat ((x :: a).take (j + 1))).length by
      show _ = s + (entE x ++ flat (a.take j)).length
      rw [List.length_append]
      omega]
theorem placesD_plain : ∀ (s : Nat) (a : List Ent), (∀ e ∈ a, okE e) → plainA (placesD s a) = true
  | _, [], _ => by simp only [placesD, plainA]
  | s, e :: a, h => by
    have ih := placesD_plain (s + (entE e).length) a fun x hx => h x (List.mem_cons_of_mem _ hx)
    have := (h e (List.mem_cons_self ..)).2.1
    show plainA (PyData.tuple _ :: placesD (s + (entE e).length) a) = true
    rw [plainA_cons, ih, plain_tup, plainA_cons, plainA_cons, plainA_cons, this]
    simp only [plain, plainA, Bool.and_self]
theorem entE_len (e : Ent) : (entE e).length = (octs e.2).length + 7 := entO_len ..
theorem head4_byte (n : Nat) : byteS (head4 n) := fun c hc => by
  unfold head4 at hc
  simp only [List.mem_cons, List.not_mem_nil, or_false] at hc
  rcases hc with z | z | z | z <;> rw [z] <;> exact Nat.mod_lt _ (by decide)
theorem entE_byte {e : Ent} (h : okE e) : byteS (entE e) := by
  have hc := chk_lt (e.1 :: octs e.2)
  refine byte_cat (byte_cat (byte_cat (head4_byte _) (byte_cons h.1 byte_nil)) (octs_byte _ h.2.1)) (byte_cons (by omega) (byte_cons (by omega) byte_nil))
theorem entE_run {e : Ent} (h : okE e) : runOk 38 0 (entE e) = true :=
  run_cat (a := 36) (b := 2) (Nat.zero_le _) (run_cat (a := 5) (b := 31) (Nat.zero_le _) (run_short (by show 0 + (head4 _ ++ [_]).length ≤ 5; unfold head4; simp)) h.2.2.1) (run_short (by simp))
theorem flat_good : ∀ a : List Ent, (∀ e ∈ a, okE e) → byteS (flat a) ∧ runOk (38 * a.length) 0 (flat a) = true ∧ (flat a).length ≤ 1407 * a.length
  | [], _ => ⟨byte_nil, rfl, Nat.le_refl _⟩
  | e :: a, h => by
    obtain ⟨i1, i2, i3⟩ := flat_good a fun x hx => h x (List.mem_cons_of_mem _ hx)
    have he := h e (List.mem_cons_self ..)
    refine ⟨byte_cat (entE_byte he) i1, ?_, ?_⟩
    · have := run_cat (a := 38) (b := 38 * a.length) (Nat.zero_le _) (entE_run he) i2
      rw [List.length_cons, show 38 * (a.length + 1) = 38 + 38 * a.length by omega]
      exact this
    · show (entE e ++ flat a).length ≤ _
      rw [List.length_append, entE_len, List.length_cons]
      have := he.2.2.2.2
      omega
theorem run_plain {k : Nat} : ∀ {l : List Nat} {j : Nat}, (∀ c ∈ l, dig c = false) → runOk k j l = true
  | [], _, _ => rfl
  | c :: l, j, h => by
    rw [run_n (h c (List.mem_cons_self ..))]
    exact run_plain fun d hd => h d (List.mem_cons_of_mem _ hd)
/-- a drawn value, alone or with a long text beside it -/
theorem paid_drawn {d : PyData} (h : drawn d = true) (h1 : need d ≤ 4) (h2 : (octs d).length ≤ 944) : paid d := ⟨drawn_plain d h, drawn_run d h, by omega, by omega⟩
theorem paid_long {d : PyData} {x : Str} (h : drawn d = true) (h1 : need d ≤ 4) (h2 : (octs d).length ≤ 944) (hx : (TL.tl x).all okc = true) (hn : ∀ c ∈ TL.tl x, dig c = false) (hl : (TL.tl x).length ≤ 400) : paid (.tuple [d, .str x]) := by
  have px : plain (.str x) = true := by simpa only [plain] using hx
  refine ⟨?_, ?_, ?_, ?_⟩
  · rw [plain_tup, plainA_cons, plainA_cons, drawn_plain d h, px]
    simp only [plainA, Bool.and_self]
  · rw [octs_tup, octsA_cons, octsA_cons, octsA_nil, octs_str, run_n (by decide), List.append_nil]
    refine run_cut (by decide) rfl (run_cut (by decide) ?_ (drawn_run d h))
    exact run_cut (by decide) (run_plain hn) (run_short (by have := TL.numL_len (n := (TL.tl x).length) (k := 3) (by decide) (by omega); omega))
  · rw [need_tup, needA_cons, needA_cons, need_flat (.str x) (fun _ z => by cases z)]
    simp only [needA]
    omega
  · have := TL.numL_len (n := (TL.tl x).length) (k := 3) (by decide) (by omega)
    rw [octs_tup, octsA_cons, octsA_cons, octsA_nil, octs_str, List.length_cons, List.length_append, List.length_append, List.length_append, List.length_cons, List.length_append, List.length_cons]
    show _ + (_ + 0) + 1 + 1 ≤ _
    omega
/-- where the j-th entry stands -/
theorem flat_split {a : List Ent} {j : Nat} {e : Ent} (h : a[j]? = some e) : flat a = flat (a.take j) ++ (entE e ++ flat (a.drop (j + 1))) := by
  have hj : j < a.length := (List.getElem?_eq_some_iff.mp h).1
  have e1 : a.drop j = e :: a.drop (j + 1) := by
    rw [List.drop_eq_getElem_cons hj]
    rw [List.getElem?_eq_getElem hj] at h
    rw [Option.some.inj h]
  have e2 : flat a = flat (a.take j) ++ flat (a.drop j) := by rw [← flat_app, List.take_append_drop]
  rw [e2, e1]
  rfl
theorem flat_next {a : List Ent} {j : Nat} {e : Ent} (h : a[j]? = some e) : (flat (a.take (j + 1))).length = (flat (a.take j)).length + ((octs e.2).length + 7) := by
  rw [List.take_add_one, h, flat_app]
  show (flat (a.take j) ++ (entE e ++ [])).length = _
  rw [List.append_nil, List.length_append, entE_len]
theorem small4 {n : Nat} (h : n ≤ 1400) : n < 256 ^ 4 := Nat.lt_of_le_of_lt h (by decide)
/-- an entry of a plain value that stands at a place -/
theorem ent_here {A B : List Nat} {e : Ent} (h : okE e) : entS (A ++ (entE e ++ B)) A.length = some (e.1, e.2, A.length + ((octs e.2).length + 7)) := by
  obtain ⟨t1, t2, t3, t4⟩ := there_here (pre := A) (post := B) (t := octs e.2) (kind := e.1) (small4 h.2.2.2.2)
  unfold entS entE
  rw [t1]
  dsimp only
  rw [t2, t3, whole_octs h.2.1, if_pos (by have := h.2.2.2.1; omega), t4]
theorem ent_cut {A B : List Nat} {e : Ent} {m : Nat} (h : okE e) (h1 : A.length ≤ m) (h2 : m < A.length + ((octs e.2).length + 7)) : entS ((A ++ (entE e ++ B)).take m) A.length = none := by
  unfold entS
  rw [show thereS ((A ++ (entE e ++ B)).take m) A.length = none from there_cut (small4 h.2.2.2.2) h1 h2]
/-- kind, payload and place, shown -/
theorem trip_good {d : PyData} {n c : Nat} (g : goodD n c d) {a e : Nat} (ha : a < 256) (he : e < 10 ^ 9) : (PyData.tuple [.int (a : Int), d, .int (e : Int)]).showable = true ∧ (PyData.tuple [.int (a : Int), d, .int (e : Int)]).hasDict = false ∧
    (PyData.tuple [.int (a : Int), d, .int (e : Int)]).depth ≤ n + 1 ∧ (PyData.tuple [.int (a : Int), d, .int (e : Int)]).shown.length ≤ 14 * c + 30 := by
  have la : (PyData.shown (.int (a : Int))).length ≤ 9 := by
    rw [int_shown]
    exact TL.numL_len (by decide) (by omega)
  have le : (PyData.shown (.int (e : Int))).length ≤ 9 := by
    rw [int_shown]
    exact TL.numL_len (by decide) he
  have sh : ∀ m : Nat, m < 10 ^ 9 → (PyData.int (m : Int)).showable = true := fun m hm => by
    simp only [PyData.showable, decide_eq_true_eq]
    exact log_small (Nat.lt_of_lt_of_le hm (Nat.pow_le_pow_right (by decide) (by decide)))
  refine ⟨?_, ?_, ?_, ?_⟩
  · simp only [PyData.showable, PyData.showableAll, Bool.and_eq_true, and_true]
    have h1 := sh a (by omega)
    have h2 := sh e he
    simp only [PyData.showable] at h1 h2
    exact ⟨h1, g.2.1, h2⟩
  · simp only [PyData.hasDict, PyData.hasDictAll, Bool.or_false, Bool.false_or]
    exact plain_nodict d g.1
  · simp only [PyData.depth, PyData.depthAll]
    have := g.2.2.1
    omega
  · have t := tupleText_len_le (PyData.shownAll [.int (a : Int), d, .int (e : Int)])
    have e1 : ((PyData.shownAll [.int (a : Int), d, .int (e : Int)]).map (·.length)).sum = (PyData.shown (.int (a : Int))).length + (d.shown.length + ((PyData.shown (.int (e : Int))).length + 0)) := by simp only [PyData.shownAll, List.map_cons, List.map_nil, List.sum_cons, List.sum_nil]
    have e2 : (PyData.shownAll [.int (a : Int), d, .int (e : Int)]).length = 3 := by simp only [PyData.shownAll, List.length_cons, List.length_nil]
    have := g.2.2.2
    have goal : (PyData.tuple [.int (a : Int), d, .int (e : Int)]).shown.length ≤ ((PyData.shownAll [.int (a : Int), d, .int (e : Int)]).map (·.length)).sum + 2 * (PyData.shownAll [.int (a : Int), d, .int (e : Int)]).length + 3 := by
      have q : (PyData.tuple [.int (a : Int), d, .int (e : Int)]).shown = tupleText (PyData.shownAll [.int (a : Int), d, .int (e : Int)]) := by rw [PyData.shown]
      rw [q]
      exact t
    omega
end Oc
set_option Elab.async false
set_option linter.all false
set_option maxRecDepth 100000
set_option maxHeartbeats 4000000
namespace K28
open PySem PySem.Spec PyProof.Rows L2
/-- the box of a law: three numbers and the list of the script's sizes -/
def BoxAt (H : Hp) (b l : Addr) : Prop := ∃ (ns : List Int) (c0 c1 c2 : Int), H b = some (.lst [.int c0, .int c1, .int c2, .ref l]) ∧ H l = some (.lst (ns.map V.int)) ∧ (∀ n ∈ ns, 0 ≤ n) ∧ (c1 < 0 → -(2 ^ 64) < c0 ∧ c0 < 2 ^ 64) ∧ 0 ≤ c2 ∧ b ≠ l
def spTake : Sp := fun vs H Q _ => ∃ (b l : Addr) (m : Int), vs = [.ref b, .int m] ∧ BoxAt H b l ∧ 1 ≤ m ∧ m < 1000000000 ∧ ∀ (t : Int) (H' : Hp), 0 ≤ t → t < m → BoxAt H' b l → But b H H' → Q (.int t) H'
section
variable {P : Program} {w : World} {K : PySem.W.Frag} {mg : Str → Option Value} {base : Heap}
theorem c_law_take (T : Txt K mg) : C8.Cal P w K mg base 1 "_law_take" spTake [] := by
  refine cal_of T.d_law_take T.g_law_take sc_law_take (fun fd F => b_law_take F) (fun vs H Q E h => ?_) (fun cdv A outer s H vs Q E hr h => ?_)
  · obtain ⟨b, l, m, rfl, _⟩ := h
    rfl
  · obtain ⟨b, l, m, rfl, ⟨ns, c0, c1, c2, hb, hl, hn, hc, h2, hbl⟩, hm, hm2, k⟩ := h
    refine ⟨_, (C8.pss_cut (ps_if (pt_cmpR op_eq (pe_ix ix_list (pv 0) pe_int (fun _ _ => rfl)) pe_int (nomark _))
    (pss_cons (ps_set (i := 2) sc_law_take.nd rfl (by first | exact .inl rfl | exact .inr rfl) (pe_ix ix_list (pv 0) pe_int (fun _ _ => rfl)))
  (pss_cons (ps_set (i := 3) sc_law_take.nd rfl (by first | exact .inl rfl | exact .inr rfl) pe_int)
  (C8.pss_cut (ps_if (pt_cmpR op_lt (pv 2) (pe_callB call_len_seq (by rfl) T.z_len (by decide +kernel) (pa_cons (pe_ix ix_list (pv 0) pe_int (fun _ _ => rfl)) pa_nil)) (nomark _))
    (pss_cons (ps_set (i := 3) sc_law_take.nd rfl (by first | exact .inl rfl | exact .inr rfl) (pe_ix ix_list (pe_ix ix_list (pv 0) pe_int (fun _ _ => rfl)) (pv 2) (fun _ _ => rfl)))
  (pss_one (ps_asg (pe_ifExp (pt_cmpR op_ge (pv 3) (pe_op op_pow pe_int pe_int) (nomark _)) pe_int (pe_un un_neg pe_int)) (pg_sub (pv 0) pe_int set_list))))
    pss_nil)
  (pss_cons (ps_asg (pe_op op_add (pv 2) pe_int) (pg_sub (pv 0) pe_int set_list))
  (pss_cons (ps_asg (pv 3) (pg_sub (pv 0) pe_int set_list))
  (pss_one (ps_if (pt_cmpR op_eq (pe_ix ix_list (pv 0) pe_int (fun _ _ => rfl)) pe_int (nomark _))
    (pss_one (ps_ret pe_int))
    pss_nil)))))))
    pss_nil)
  (pss_cons (ps_if (pt_cmpR op_gt (pe_ix ix_list (pv 0) pe_int (fun _ _ => rfl)) pe_int (nomark _))
    (pss_cons (ps_set (i := 4) sc_law_take.nd rfl (by first | exact .inl rfl | exact .inr rfl) (pe_op op_modN (pe_callTy call_int1 (by rfl) T.z_int (by decide +kernel) (pa_cons (pe_ix ix_list (pv 0) pe_int (fun _ _ => rfl)) pa_nil)) (pv 1)))
  (pss_cons (ps_asg (pe_op op_fdivN (pe_ix ix_list (pv 0) pe_int (fun _ _ => rfl)) (pv 1)) (pg_sub (pv 0) pe_int set_list))
  (pss_cons (ps_asg (pe_ifExp (pt_cmpR op_gt (pe_ix ix_list (pv 0) pe_int (fun _ _ => rfl)) pe_int (nomark _)) (pe_op op_sub (pe_ix ix_list (pv 0) pe_int (fun _ _ => rfl)) pe_int) pe_int) (pg_sub (pv 0) pe_int set_list))
  (pss_one (ps_ret (pv 4))))))
    pss_nil)
  (pss_cons (ps_asg (pe_op op_add (pe_ix ix_list (pv 0) pe_int (fun _ _ => rfl)) pe_int) (pg_sub (pv 0) pe_int set_list))
  (pss_cons (ps_asg (pe_op op_modN (pe_callTy call_int1 (by rfl) T.z_int (by decide +kernel) (pa_cons (pe_op op_add (pe_op op_mul (pe_ix ix_list (pv 0) pe_int (fun _ _ => rfl)) pe_int) (pe_op op_mul pe_int (pe_op op_add (pe_ix ix_list (pv 0) pe_int (fun _ _ => rfl)) pe_int))) pa_nil)) pe_int) (pg_sub (pv 0) pe_int set_list))
  (pss_one (ps_ret (pe_op op_modN (pe_op op_modN (pe_callTy call_int1 (by rfl) T.z_int (by decide +kernel) (pa_cons (pe_op op_add (pe_op op_fdivN (pe_ix ix_list (pv 0) pe_int (fun _ _ => rfl)) pe_int) (pe_ix ix_list (pv 0) pe_int (fun _ _ => rfl))) pa_nil)) pe_int) (pv 1)))))))), ?_⟩
    refine ⟨fun σ' H' => ∃ (c0 c1 c2 : Int) (y2 y3 y4 : Option V), σ' = [some (.ref b), some (.int m), y2, y3, y4] ∧ H' b = some (.lst [.int c0, .int c1, .int c2, .ref l]) ∧ (c1 < 0 → -(2 ^ 64) < c0 ∧ c0 < 2 ^ 64) ∧ 0 ≤ c2 ∧ But b H H' ∧ c1 ≠ 0, ?_, ?_⟩
    · -- if box[1] == 0
      refine ⟨_, rfl, _, _, _, _, rfl, rfl, SqL.of hb, rfl, rfl, _, rfl, ite2 (fun e => ?_) (fun e => ?_)⟩
      · -- at = box[2]; cell = 0
        refine ⟨_, rfl, _, _, _, _, rfl, rfl, SqL.of hb, rfl, ?_⟩
        -- if at < len(box[3])
        refine ⟨fun σ' H' => ∃ (c c1 : Int) (y4 : Option V), σ' = [some (.ref b), some (.int m), some (.int c2), some (.int c), y4] ∧ H' b = some (.lst [.int c0, .int c1, .int c2, .ref l]) ∧ (c1 < 0 → -(2 ^ 64) < c ∧ c < 2 ^ 64) ∧ But b H H', ?_, ?_⟩
        · refine ⟨_, rfl, _, rfl, _, _, _, _, rfl, rfl, SqL.of hb, rfl, l, _, rfl, .inl (SqL.of hl), _, _, rfl, rfl, _, rfl, ite2 (fun e2 => ?_) (fun e2 => ?_)⟩
          · have e3 : c2 < (ns.length : Int) := by
              have := of_decide_eq_true e2
              simpa using this
            obtain ⟨n, hnm, hat⟩ := atI_map_int h2 e3
            refine ⟨_, rfl, _, _, _, _, rfl, rfl, SqL.of hb, rfl, _, rfl, _, _, _, _, rfl, rfl, SqL.of hl, hat, ?_⟩
            have n0 := hn n hnm
            refine ⟨_, rfl, _, _, rfl, rfl, ?_, _, _, rfl, rfl, _, rfl, ite2 (fun e4 => ?_) (fun e4 => ?_)⟩
            · exact ⟨by decide, by decide, by decide⟩
            · refine ⟨_, rfl, _, _, _, _, rfl, rfl, hb, rfl, ?_⟩
              exact ⟨n, 60, none, rfl, upd_same, fun z => by omega, But.refl.upd⟩
            · have e5 : n < 10 ^ 18 := by
                have h5 : ¬ (10 : Int) ^ 18 ≤ n := fun z => e4 (decide_eq_true z)
                omega
              refine ⟨_, rfl, _, rfl, _, _, _, _, rfl, rfl, hb, rfl, ?_⟩
              exact ⟨n, -9, none, rfl, upd_same, fun z => by omega, But.refl.upd⟩
          · exact ⟨0, c1, none, rfl, hb, fun z => by omega, But.refl⟩
        · rintro σ' H' ⟨c, c1', y4, rfl, hb', hc', ho'⟩
          -- box[2] = at + 1; box[0] = cell; if box[1] == 0: return 0
          refine ⟨_, rfl, _, _, rfl, rfl, _, rfl, _, _, _, _, rfl, rfl, hb', rfl, ?_⟩
          refine ⟨_, rfl, _, rfl, _, _, _, _, rfl, rfl, upd_same, rfl, ?_⟩
          refine ⟨_, rfl, _, _, _, _, rfl, rfl, SqL.of upd_same, rfl, rfl, _, rfl, ite2 (fun e4 => ?_) (fun e4 => ?_)⟩
          · refine k 0 _ (by omega) (by omega) ⟨ns, c, c1', c2 + 1, upd_same, ?_, hn, hc', by omega, hbl⟩ ho'.upd.upd
            rw [upd_ne hbl.symm, upd_ne hbl.symm, ho' l hbl.symm]
            exact hl
          · exact ⟨c, c1', c2 + 1, _, _, _, rfl, upd_same, hc', by omega, ho'.upd.upd, dec_int_ne e4⟩
      · exact ⟨c0, c1, c2, _, _, _, rfl, hb, hc, h2, But.refl, dec_int_ne e⟩
    · rintro σ' H' ⟨c0, c1, c2, y2, y3, y4, rfl, hb, hc, h2, ho, hne⟩
      have hl' : H' l = some (.lst (ns.map V.int)) := (ho l hbl.symm).trans hl
      have hlu : ∀ {H2 : Hp} {o : HO}, H2 l = some (.lst (ns.map V.int)) → (upd H2 b o) l = some (.lst (ns.map V.int)) := fun e => by rw [upd_ne hbl.symm]; exact e
      -- if box[1] > 0
      refine ⟨_, rfl, _, _, _, _, rfl, rfl, SqL.of hb, rfl, _, _, rfl, rfl, _, rfl, ite2 (fun e => ?_) (fun e => ?_)⟩
      · have e1 : 0 < c1 := of_decide_eq_true e
        have hf := fmod_bounds (i := c0) hm
        refine ⟨_, rfl, _, _, _, _, rfl, rfl, SqL.of hb, rfl, .inl ⟨_, rfl, _, rfl, _, _, rfl, rfl, by omega, ?_⟩⟩
        refine ⟨_, rfl, _, _, _, _, rfl, rfl, SqL.of hb, rfl, _, rfl, _, _, rfl, rfl, ⟨by omega, by omega⟩, _, rfl, _, _, _, _, rfl, rfl, hb, rfl, ?_⟩
        refine ⟨_, rfl, _, _, _, _, rfl, rfl, SqL.of upd_same, rfl, _, _, rfl, rfl, _, rfl, ite2 (fun e2 => ?_) (fun e2 => ?_)⟩
        · refine ⟨_, rfl, _, _, _, _, rfl, rfl, SqL.of upd_same, rfl, _, _, rfl, rfl, _, rfl, _, _, _, _, rfl, rfl, upd_same, rfl, ?_⟩
          exact ⟨_, rfl, k _ _ hf.1 hf.2 ⟨ns, _, _, _, upd_same, hlu (hlu hl'), hn, fun z => by omega, h2, hbl⟩ ho.upd.upd⟩
        · refine ⟨_, rfl, _, _, _, _, rfl, rfl, upd_same, rfl, ?_⟩
          exact ⟨_, rfl, k _ _ hf.1 hf.2 ⟨ns, _, _, _, upd_same, hlu (hlu hl'), hn, fun z => by omega, h2, hbl⟩ ho.upd.upd⟩
      · have e1 : ¬ 0 < c1 := fun z => e (decide_eq_true z)
        have e2 := hc (by omega)
        refine ⟨_, rfl, _, _, _, _, rfl, rfl, SqL.of hb, rfl, _, _, rfl, rfl, _, rfl, _, _, _, _, rfl, rfl, hb, rfl, ?_⟩
        refine ⟨_, rfl, _, _, _, _, rfl, rfl, SqL.of upd_same, rfl, _, _, rfl, rfl, .inl e2, _, rfl, _, _, _, _, rfl, rfl, SqL.of upd_same, rfl, _, _, rfl, rfl, _, _, rfl, rfl, .inl ⟨by decide, by decide⟩, _, _, rfl, rfl, .inl ⟨_, rfl, _, _, rfl, rfl, (by show (2147483647 : Int) ≠ 0; decide), _, rfl, _, _, _, _, rfl, rfl, upd_same, rfl, ?_⟩⟩
        have h3 := fmod_bounds (i := c0 * 48271 + 69621 * (c1 + 1 + 20)) (m := 2147483647) (by decide)
        refine ⟨_, rfl, _, _, _, _, rfl, rfl, SqL.of upd_same, rfl, _, _, rfl, rfl, ⟨by decide, by decide⟩, _, rfl, _, _, _, _, rfl, rfl, SqL.of upd_same, rfl, _, _, rfl, rfl, .inl ⟨_, rfl, _, _, rfl, rfl, (by show (1000003 : Int) ≠ 0; decide), _, rfl, _, _, rfl, rfl, by omega, ?_⟩⟩
        have hf := fun i => fmod_bounds (i := i) hm
        exact k _ _ (hf _).1 (hf _).2 ⟨ns, _, _, _, upd_same, hlu (hlu hl'), hn, fun z => ⟨by omega, by omega⟩, h2, hbl⟩ ho.upd.upd
def spPick (K : PySem.W.Frag) : Sp := fun vs H Q _ => ∃ (b l a : Addr) (xs : List V), vs = [.ref b, .ref a] ∧ BoxAt H b l ∧ SqL K H a xs ∧ a ≠ b ∧ 0 < xs.length ∧ xs.length < 1000000000 ∧ ∀ (v : V) (H' : Hp), v ∈ xs → BoxAt H' b l → But b H H' → Q v H'
theorem SqL.but {H H' : Hp} {a b : Addr} {xs : List V} (h : SqL K H a xs) (o : But b H H') (ne : a ≠ b) : SqL K H' a xs := by
  rcases h with (h | ⟨o', h⟩) | h
  · exact .inl (.inl ((o a ne).trans h))
  · exact .inl (.inr ⟨o', (o a ne).trans h⟩)
  · exact .inr h
theorem c_law_pick (T : Txt K mg) : C8.Cal P w K mg base 2 "_law_pick" (spPick K) [] := by
  have c_law_take : C8.Cal P w K mg base 1 "_law_take" spTake [] := c_law_take T
  refine cal_of T.d_law_pick T.g_law_pick sc_law_pick (fun fd F => b_law_pick F) (fun vs H Q E h => ?_) (fun cdv A outer s H vs Q E hr h => ?_)
  · obtain ⟨b, l, a, xs, rfl, _⟩ := h
    rfl
  · obtain ⟨b, l, a, xs, rfl, hB, hS, hne, h0, h1, k⟩ := h
    refine ⟨_, (pss_one (ps_ret (pe_ix ix_list (pv 1) (C8.pe_c c_law_take hr (by decide) (by rfl) (pa_cons (pv 0) (pa_cons (pe_callB call_len_seq (by rfl) T.z_len (by decide +kernel) (pa_cons (pv 1) pa_nil)) pa_nil))) (fun _ _ => rfl)))), ?_⟩
    refine ⟨_, rfl, _, rfl, _, rfl, a, xs, rfl, .inl hS, b, l, _, rfl, hB, by omega, by omega, fun t H' t0 t1 hB' o => ?_⟩
    obtain ⟨j, rfl⟩ := Int.eq_ofNat_of_zero_le t0
    have hj : j < xs.length := Int.ofNat_lt.mp t1
    refine ⟨_, _, _, _, rfl, rfl, SqL.but hS o hne, atI_nat (List.getElem?_eq_getElem hj), ?_⟩
    exact k _ _ (List.getElem_mem hj) hB' o
/-- the box of a script -/
def spBox (K : PySem.W.Frag) : Sp := fun vs H Q _ => ∃ (a : Addr) (ns : List Int), vs = [.ref a] ∧ SqL K H a (ns.map V.int) ∧ ns.length ≤ 1000 ∧ ∀ (b l : Addr) (H' : Hp), H b = none → H l = none → BoxAt H' b l → Same H H' → Q (.ref b) H'
theorem c_law_box (T : Txt K mg) : C8.Cal P w K mg base 1 "_law_box" (spBox K) [] := by
  refine cal_of T.d_law_box T.g_law_box sc_law_box (fun fd F => b_law_box F) (fun vs H Q E h => ?_) (fun cdv A outer s H vs Q E hr h => ?_)
  · obtain ⟨a, ns, rfl, _⟩ := h
    rfl
  · obtain ⟨a, ns, rfl, hS, hlen, k⟩ := h
    refine ⟨_, (pss_one (ps_ret (pe_lst (pa_cons pe_int (pa_cons pe_int (pa_cons pe_int (pa_cons (pe_lc (own := [("x", 1)]) (g := gName 1) rfl sc_law_box.nd (pi_list (pv 0)) (blkOk_by (own := [("x", 1)]) (N := n_law_box) (sc := defScope s_law_box) (by decide +kernel)) (fun _ _ _ _ _ => (pg_name (i := 1) sc_law_box.nd rfl (by first | exact .inl rfl | exact .inr rfl))) (fun _ _ _ _ _ => pts_nil) (fun _ _ _ _ _ => (pe_callB call_abs (by rfl) T.z_abs (by decide +kernel) (pa_cons (pe_callTy call_int1 (by rfl) T.z_int (by decide +kernel) (pa_cons (pv 1) pa_nil)) pa_nil)))) pa_nil))))))), ?_⟩
    -- the list of sizes
    refine ⟨.ref a, rfl, a, rfl, ⟨_, hS⟩, fun D hD => lc_list (K := K) (a := a) (xs := ns.map V.int) (fun i H' => H' = upd H D (.lst (((ns.take i).map absI).map V.int))) rfl (fun i H' _ e => ?_) (fun i x H' hx e => ?_) (fun H' e => ?_)⟩
    · subst e
      exact (same_upd hD).seq hS
    · subst e
      obtain ⟨n, hn, rfl⟩ : ∃ n, ns[i]? = some n ∧ V.int n = x := by
        rw [List.getElem?_map] at hx
        cases h : ns[i]? with
        | none => rw [h] at hx; cases hx
        | some n => rw [h] at hx; exact ⟨n, rfl, Option.some.inj hx⟩
      refine ⟨rfl, _, rfl, .inl ⟨_, rfl, _, rfl, _, upd_same, ?_, ?_⟩⟩
      · rw [List.length_map, List.length_map, List.length_take]
        exact small1000 (by omega)
      · rw [List.take_add_one, hn, List.map_append, List.map_append, upd_upd]
        rfl
    · rw [List.length_map, List.take_length] at e
      subst e
      refine ⟨by show 4 ≤ sizeLine; decide, fun b hb => ?_⟩
      have nbD : D ≠ b := fun e => by rw [← e, upd_same] at hb; cases hb
      have nb : H b = none := by rw [upd_ne nbD.symm] at hb; exact hb
      refine k b D _ nb hD ⟨ns.map absI, 0, 0, 0, upd_same, ?_, ?_, by omega, by omega, nbD.symm⟩ ?_
      · rw [upd_ne nbD, upd_same]
      · intro n hn
        obtain ⟨m, _, rfl⟩ := List.mem_map.mp hn
        unfold absI
        split <;> omega
      · intro c o e
        rw [upd_ne (ne_of_none e nb), upd_ne (ne_of_none e hD)]
        exact e
end
end K28
set_option Elab.async false
set_option linter.all false
set_option maxRecDepth 100000
set_option exponentiation.threshold 3000
set_option maxHeartbeats 4000000
namespace K28
open PySem PySem.Spec PyProof.Rows L2 Oc
def nV (n : Nat) : V := .int (n : Int)
theorem Same.new {H H' : Hp} {p : Addr} {o : HO} (s : Same H H') (n : H' p = none) : Same H (upd H' p o) := Same.trans s (same_upd n)
theorem nw {H H' : Hp} {p : Addr} {o : HO} (s : Same H H') (n : H' p = none) : Same H (upd H' p o) := Same.trans s (same_upd n)
theorem Same.tup {K : PySem.W.Frag} {H H' : Hp} {a : Addr} {xs : List V} (s : Same H H') (h : SqT K H a xs) : SqT K H' a xs := by
  rcases h with (h | ⟨o, h⟩) | h
  · exact .inl (.inl (s _ _ h))
  · exact .inl (.inr ⟨o, s _ _ h⟩)
  · exact .inr h
mutual
theorem Dp.same {K : PySem.W.Frag} {H H' : Hp} (s : Same H H') : ∀ (d : PyData) (v : V), Dp K H v d → Dp K H' v d
  | .none, _, .non => .non
  | .bool _, _, .bl b => .bl b
  | .int _, _, .int i => .int i
  | .str _, _, .str x => .str x
  | .list ds, _, .lst h1 h2 => .lst (Same.seq s h1) (DpAll.same s ds _ h2)
  | .tuple ds, _, .tup h1 h2 => .tup (Same.tup s h1) (DpAll.same s ds _ h2)
theorem DpAll.same {K : PySem.W.Frag} {H H' : Hp} (s : Same H H') : ∀ (ds : List PyData) (vs : List V), DpAll K H vs ds → DpAll K H' vs ds
  | [], _, .nil => .nil
  | d :: ds, _, .cons h1 h2 => .cons (Dp.same s d _ h1) (DpAll.same s ds _ h2)
end
theorem DpAll.at {K : PySem.W.Frag} {H : Hp} : ∀ {vs : List V} {ds : List PyData} {i : Nat} {v : V}, DpAll K H vs ds → vs[i]? = some v → ∃ d, ds[i]? = some d ∧ Dp K H v d
  | _, _, 0, _, .cons h1 _, e => ⟨_, rfl, Option.some.inj e ▸ h1⟩
  | _, _, i + 1, _, .cons _ h2, e => DpAll.at (i := i) h2 e
theorem DpAll.len {K : PySem.W.Frag} {H : Hp} : ∀ {vs : List V} {ds : List PyData}, DpAll K H vs ds → vs.length = ds.length
  | _, _, .nil => rfl
  | _, _, .cons _ h2 => by rw [List.length_cons, List.length_cons, DpAll.len h2]
theorem plainA_at : ∀ {ds : List PyData} {i : Nat} {d : PyData}, plainA ds = true → ds[i]? = some d → plain d = true
  | [], _, _, _, e => by cases e
  | d :: ds, 0, _, h, e => by
    rw [plainA_cons, Bool.and_eq_true] at h
    cases e
    exact h.1
  | d :: ds, i + 1, _, h, e => by
    rw [plainA_cons, Bool.and_eq_true] at h
    exact plainA_at (i := i) h.2 e
theorem needA_at : ∀ {ds : List PyData} {i : Nat} {d : PyData}, ds[i]? = some d → need d ≤ needA ds
  | [], _, _, e => by cases e
  | d :: ds, 0, _, e => by
    cases e
    rw [needA_cons]
    omega
  | d :: ds, i + 1, _, e => by
    have := needA_at (i := i) (ds := ds) e
    rw [needA_cons]
    omega
theorem octsA_app : ∀ (a b : List PyData), octsA (a ++ b) = octsA a ++ octsA b
  | [], b => by rw [octsA_nil]; rfl
  | d :: a, b => by rw [List.cons_append, octsA_cons, octsA_cons, octsA_app a b, List.append_assoc]
theorem octsA_one (d : PyData) : octsA [d] = octs d := by rw [octsA_cons, octsA_nil, List.append_nil]
theorem octsA_step {ds : List PyData} {i : Nat} {d : PyData} (h : ds[i]? = some d) : octsA (ds.take (i + 1)) = octsA (ds.take i) ++ octs d := by
  rw [List.take_add_one, h, octsA_app]
  show _ ++ octsA [d] = _
  rw [octsA_one]
theorem octsA_part {ds : List PyData} (i : Nat) : (octsA (ds.take i)).length ≤ (octsA ds).length := by
  have e := octsA_app (ds.take i) (ds.drop i)
  rw [List.take_append_drop] at e
  rw [e, List.length_append]
  omega
/-- a plain value's kind, as isinstance asks for it -/
def tyD : PyData → String
  | .none => "NoneType"
  | .bool _ => "bool"
  | .int _ => "int"
  | .str _ => "str"
  | .tuple _ => "tuple"
  | .list _ => "list"
  | .dict _ => "dict"
theorem tupTy {K : PySem.W.Frag} {H : Hp} {a : Addr} {xs : List V} (h : SqT K H a xs) : TyX K H (.ref a) (.type "tuple") := by
  rcases h with (h | ⟨o, h⟩) | ⟨o, its, n, h1, h2, _⟩
  · exact .base (.tup h)
  · exact .fTuple h
  · exact .kTuple h1 h2
theorem Dp.ty {K : PySem.W.Frag} {H : Hp} {v : V} {d : PyData} (h : Dp K H v d) (p : plain d = true) : TyX K H v (.type (tyD d)) := by
  cases h with
  | non => exact .base .non
  | bl b => exact .base (.bl b)
  | int i => exact .base (.int i)
  | str x => exact .base (.str x)
  | lst h1 h2 => simp only [Oc.plain] at p; cases p
  | tup h1 h2 => exact tupTy h1
def spOcts (K : PySem.W.Frag) (n : Nat) : Sp := fun vs H Q _ => ∃ (v : V) (d : PyData), vs = [v] ∧ Dp K H v d ∧ plain d = true ∧ d.showable = true ∧ need d ≤ n ∧ (octs d).length ≤ 100000 ∧
  ∀ (p : Addr) (H' : Hp), Same H H' → H p = none → H' p = some (.lst ((octs d).map nV)) → Q (.ref p) H'
theorem size_fit {n : Nat} (h : n ≤ 1000000) : n ≤ sizeLine := Nat.le_trans h (by decide)
theorem showableA_at : ∀ {ds : List PyData} {i : Nat} {d : PyData}, PyData.showableAll ds = true → ds[i]? = some d → d.showable = true
  | [], _, _, _, e => by cases e
  | d :: ds, 0, _, h, e => by
    simp only [PyData.showableAll, Bool.and_eq_true] at h
    cases e
    exact h.1
  | d :: ds, i + 1, _, h, e => by
    simp only [PyData.showableAll, Bool.and_eq_true] at h
    exact showableA_at (i := i) h.2 e
section
variable {P : Program} {w : World} {K : PySem.W.Frag} {mg : Str → Option Value} {base : Heap}
/-- a def of which nothing is asked -/
theorem calB_never {x : Str} {st : Stmt} {ps : List Str} {dp un : Nat} {g : Bool} (hF : ∃ fd, FunD K x x (defArgs st) (defBody st) (defScope st) [] [] (He.ga K x) fd) (hg : mg x = some (.ref (He.ga K x)))
    (hb : ∀ fd, FunD K x x (defArgs st) (defBody st) (defScope st) [] [] (He.ga K x) fd → Binds K fd ps []) : Gk.CalB P w K mg base CX0 dp un g x (fun _ _ _ _ => False) := by
  obtain ⟨fd, F⟩ := hF
  exact ⟨_, fd, ps, ⟨fun _ _ _ _ h => h.elim, fun _ _ _ _ _ _ _ _ _ _ _ _ _ h => h.elim⟩, hg, F.kp, hb fd F⟩
theorem octs_body (T : Txt K mg) {m dp un : Nat} {sp : Sp} (hsp : (∀ vs H Q E, spOcts K m vs H Q E → sp vs H Q E)) (c_law_octets : Gk.CalB P w K mg base CX0 dp un false "_law_octets" sp) (hdp : 5 ≤ dp) (hun : 300 ≤ un) :
    Gk.CalB P w K mg base CX0 (dp + 1) (un + 3) false "_law_octets" (spOcts K (m + 1)) := by
  refine calB_of T.d_law_octets T.g_law_octets sc_law_octets (fun fd F => b_law_octets F) (fun vs H Q E h => ?_) (fun cdv A outer s H vs Q E rm h => ?_)
  · obtain ⟨v, d, rfl, _⟩ := h
    rfl
  · obtain ⟨v, d, rfl, hd, pl, sh, nd, sz, k⟩ := h
    refine ⟨_, (pss_cons (ps_if (pt_cmpR op_isN (pv 0) pe_non (nomark _))
    (pss_one (ps_ret (pe_lst (pa_cons pe_int pa_nil))))
    pss_nil)
  (pss_cons (ps_if (pt_val (pe_callB call_isi (by rfl) T.z_isinstance (by decide +kernel) (pa_cons (pv 0) (pa_cons (pe_bltn (v := .ty "bool") (by rfl) T.z_bool (by decide +kernel) rfl) pa_nil))))
    (pss_one (ps_ret (pe_lst (pa_cons (pe_ifExp (pt_truth (pv 0) (by intro _; rfl)) pe_int pe_int) pa_nil))))
    pss_nil)
  (pss_cons (ps_if (pt_val (pe_callB call_isi (by rfl) T.z_isinstance (by decide +kernel) (pa_cons (pv 0) (pa_cons (pe_bltn (v := .ty "int") (by rfl) T.z_int (by decide +kernel) rfl) pa_nil))))
    (pss_one (ps_ret (pe_op op_cat (pe_op op_cat (pe_lst (pa_cons pe_int pa_nil)) (pe_lc (own := [("sign", 3)]) (g := gName 3) rfl sc_law_octets.nd (pi_str (pe_callTy call_str_int (by rfl) T.z_str (by decide +kernel) (pa_cons (pv 0) pa_nil))) (blkOk_by (own := [("sign", 3)]) (N := n_law_octets) (sc := defScope s_law_octets) (by decide +kernel)) (fun _ _ _ _ _ => (pg_name (i := 3) sc_law_octets.nd rfl (by first | exact .inl rfl | exact .inr rfl))) (fun _ _ _ _ _ => pts_nil) (fun _ _ _ _ _ => (pe_callB call_ord (by rfl) T.z_ord (by decide +kernel) (pa_cons (pv 3) pa_nil))))) (pe_lst (pa_cons pe_int pa_nil)))))
    pss_nil)
  (pss_cons (ps_if (pt_val (pe_callB call_isi (by rfl) T.z_isinstance (by decide +kernel) (pa_cons (pv 0) (pa_cons (pe_bltn (v := .ty "str") (by rfl) T.z_str (by decide +kernel) rfl) pa_nil))))
    (pss_one (ps_ret (pe_op op_cat (pe_lst (pa_cons pe_int pa_nil)) (pe_lc (own := [("sign", 3)]) (g := gName 3) rfl sc_law_octets.nd (pi_str (pe_op op_add_str (pe_op op_add_str (pe_callTy call_str_int (by rfl) T.z_str (by decide +kernel) (pa_cons (pe_callB call_len_str (by rfl) T.z_len (by decide +kernel) (pa_cons (pv 0) pa_nil)) pa_nil)) pe_str) (pv 0))) (blkOk_by (own := [("sign", 3)]) (N := n_law_octets) (sc := defScope s_law_octets) (by decide +kernel)) (fun _ _ _ _ _ => (pg_name (i := 3) sc_law_octets.nd rfl (by first | exact .inl rfl | exact .inr rfl))) (fun _ _ _ _ _ => pts_nil) (fun _ _ _ _ _ => (pe_callB call_ord (by rfl) T.z_ord (by decide +kernel) (pa_cons (pv 3) pa_nil)))))))
    pss_nil)
  (pss_cons (ps_set (i := 1) sc_law_octets.nd rfl (by first | exact .inl rfl | exact .inr rfl) (pe_lst (pa_cons pe_int pa_nil)))
  (pss_cons (ps_for PassesOwn.never rfl (pi_tup (pv 0)) (pg_name (i := 2) sc_law_octets.nd rfl (by first | exact .inl rfl | exact .inr rfl))
    (pss_one (ps_set (i := 1) sc_law_octets.nd rfl (by first | exact .inl rfl | exact .inr rfl) (pe_op op_cat (pv 1) (Gk.pe_b c_law_octets rm (by first | decide | omega) (by first | decide | omega) (by decide) (by rfl) pass0 (pa_cons (pv 2) pa_nil))))))
  (pss_one (ps_ret (pe_op op_cat (pv 1) (pe_lst (pa_cons pe_int pa_nil))))))))))), ?_⟩
    have ty := Dp.ty hd pl
    cases hd with
    | non =>
      refine ⟨_, rfl, rfl, _, rfl, iteT ?_⟩
      refine ⟨by show 1 ≤ sizeLine; decide, fun p np => k p _ (same_upd np) np ?_⟩
      rw [upd_same, octs_non]
      rfl
    | lst _ _ => simp only [Oc.plain] at pl; cases pl
    | bl b =>
      have ty : TyX K H (.bl b) (.type "bool") := ty
      refine ⟨_, rfl, rfl, _, rfl, iteF ?_⟩
      refine ⟨_, rfl, _, _, _, _, true, rfl, .ty "bool", ty, kit_ty (r := true) (by decide +kernel), _, rfl, iteT ?_⟩
      have fin : ∀ z : Int, z = ((if b = true then 116 else 102 : Nat) : Int) → ∀ p, H p = none → Q (.ref p) (upd H p (.lst [.int z])) := fun z hz p np => k p _ (same_upd np) np (by
        rw [upd_same, octs_bl, hz]
        rfl)
      refine ⟨_, rfl, b, rfl, ite2 (fun e => ?_) (fun e => ?_)⟩
      · exact ⟨by show 1 ≤ sizeLine; decide, fin _ (by rw [if_pos e]; rfl)⟩
      · exact ⟨by show 1 ≤ sizeLine; decide, fin _ (by rw [if_neg e]; rfl)⟩
    | int i =>
      have ty : TyX K H (.int i) (.type "int") := ty
      refine ⟨_, rfl, rfl, _, rfl, iteF ?_⟩
      refine ⟨_, rfl, _, _, _, _, false, rfl, .ty "bool", ty, kit_ty (r := false) (by decide +kernel), _, rfl, iteF ?_⟩
      refine ⟨_, rfl, _, _, _, _, true, rfl, .ty "int", ty, kit_ty (r := true) (by decide +kernel), _, rfl, iteT ?_⟩
      rw [octs_int] at sz k
      rw [List.length_cons, List.length_append] at sz
      have lg : i.natAbs.log2 < 1920 := by simpa only [PyData.showable, decide_eq_true_eq] using sh
      refine ⟨by show 1 ≤ sizeLine; decide, fun A nA => ⟨_, rfl, i, rfl, lg, _, rfl, fun D nD => lc_it walk_str (fun j H' => H' = upd (upd H A (.lst [.int 105])) D (.lst (((intL i).take j).map nV))) rfl (fun _ _ _ _ => trivial) (fun j v H1 H2 hj e y => ?_) (fun H1 e => ?_)⟩⟩
      · obtain ⟨rfl, c, hc, rfl⟩ := y
        subst e
        have hc2 : (intL i)[j]? = some c := by
          rw [← tl_int i]
          show ((Str.ofString (toString i)).cps.toList)[j]? = some c
          rw [Array.getElem?_toList]
          exact hc
        refine ⟨rfl, _, rfl, _, rfl, rfl, _, upd_same, ?_, ?_⟩
        · have hl : j < (intL i).length := (List.getElem?_eq_some_iff.mp hc2).1
          rw [List.length_map, List.length_take]
          exact Nat.lt_of_le_of_lt (Nat.min_le_left _ _) (Nat.lt_of_lt_of_le (show j < 1000000 by omega) (by decide))
        · rw [upd_upd, List.take_add_one, hc2, List.map_append]
          rfl
      · have e2 : (Str.ofString (toString i)).cps.size = (intL i).length := by
          rw [← tl_int i]
          exact Array.length_toList.symm
        rw [e2, List.take_length] at e
        subst e
        have neA : A ≠ D := fun z => by rw [← z, upd_same] at nD; cases nD
        refine ⟨A, D, _, _, rfl, rfl, (by rw [upd_ne neA]; exact upd_same), upd_same, size_fit (by rw [List.length_map]; show 1 + _ ≤ _; omega), fun p np => ⟨by show 1 ≤ sizeLine; decide, fun B nB => ?_⟩⟩
        have neP : p ≠ B := fun z => by rw [← z, upd_same] at nB; cases nB
        refine ⟨p, B, _, _, rfl, rfl, (by rw [upd_ne neP]; exact upd_same), upd_same, size_fit (by rw [List.length_append, List.length_map]; show 1 + _ + 1 ≤ _; omega), fun q nq => ?_⟩
        have sm : Same H (upd (upd (upd (upd (upd H A (.lst [.int 105])) D (.lst ((intL i).map nV))) p (.lst ([V.int 105] ++ (intL i).map nV))) B (.lst [.int 59])) q (.lst ([V.int 105] ++ (intL i).map nV ++ [.int 59]))) := (nw (nw (nw (nw (nw (Same.refl H) nA) nD) np) nB) nq)
        refine k q _ sm (Same.free ((nw (nw (nw (nw (Same.refl H) nA) nD) np) nB)) nq) ?_
        rw [upd_same, List.map_cons, List.map_append]
        rfl
    | str x =>
      have ty : TyX K H (.str x) (.type "str") := ty
      refine ⟨_, rfl, rfl, _, rfl, iteF ?_⟩
      refine ⟨_, rfl, _, _, _, _, false, rfl, .ty "bool", ty, kit_ty (r := false) (by decide +kernel), _, rfl, iteF ?_⟩
      refine ⟨_, rfl, _, _, _, _, false, rfl, .ty "int", ty, kit_ty (r := false) (by decide +kernel), _, rfl, iteF ?_⟩
      refine ⟨_, rfl, _, _, _, _, true, rfl, .ty "str", ty, kit_ty (r := true) (by decide +kernel), _, rfl, iteT ?_⟩
      rw [octs_str] at sz k
      rw [List.length_cons, List.length_append, List.length_cons] at sz
      have nl : ((TL.tl x).length : Int) = (x.length : Int) := by rw [TL.len_tl]
      have lg : ((x.length : Nat) : Int).natAbs.log2 < 1920 := by
        rw [Int.natAbs_natCast]
        refine log_small (Nat.lt_of_lt_of_le (show x.length < 10 ^ 6 by rw [TL.len_tl]; omega) (Nat.pow_le_pow_right (by decide) (by decide)))
      have tt : TL.tl (Str.ofString (toString ((x.length : Nat) : Int)) ++ Str.ofString ":" ++ x) = TL.numL (TL.tl x).length ++ 58 :: TL.tl x := by
        rw [TL.tl_append, TL.tl_append, TL.tl_num, TL.len_tl, List.append_assoc]
        rfl
      have ll : ∀ y : Str, y.length = (TL.tl y).length := TL.len_tl
      have xl := ll x
      have l1 : (Str.ofString (toString ((x.length : Nat) : Int))).length = (TL.numL (TL.tl x).length).length := (ll _).trans (by rw [TL.tl_num, ← xl])
      have l2 : (Str.ofString (toString ((x.length : Nat) : Int)) ++ Str.ofString ":").length = (TL.numL (TL.tl x).length).length + 1 := (ll _).trans (by rw [TL.tl_append, TL.tl_num, ← xl, List.length_append]; rfl)
      refine ⟨by show 1 ≤ sizeLine; decide, fun A nA => ⟨_, rfl, _, rfl, size_fit (by rw [TL.len_tl]; omega), _, rfl, lg, _, _, rfl, rfl, size_fit (by rw [l1]; show _ + 1 ≤ _; omega), _, rfl, _, _, rfl, rfl, size_fit (by rw [l2]; omega), _, rfl, fun D nD => lc_it walk_str (fun j H' => H' = upd (upd H A (.lst [.int 115])) D (.lst (((TL.numL (TL.tl x).length ++ 58 :: TL.tl x).take j).map nV))) rfl (fun _ _ _ _ => trivial) (fun j v H1 H2 hj e y => ?_) (fun H1 e => ?_)⟩⟩
      · obtain ⟨rfl, c, hc, rfl⟩ := y
        subst e
        have hc2 : (TL.numL (TL.tl x).length ++ 58 :: TL.tl x)[j]? = some c := by
          rw [← tt]
          show ((Str.ofString (toString ((x.length : Nat) : Int)) ++ Str.ofString ":" ++ x).cps.toList)[j]? = some c
          rw [Array.getElem?_toList]
          exact hc
        refine ⟨rfl, _, rfl, _, rfl, rfl, _, upd_same, ?_, ?_⟩
        · have hl := (List.getElem?_eq_some_iff.mp hc2).1
          rw [List.length_append, List.length_cons] at hl
          rw [List.length_map, List.length_take]
          exact Nat.lt_of_le_of_lt (Nat.min_le_left _ _) (Nat.lt_of_lt_of_le (show j < 1000000 by omega) (by decide))
        · rw [upd_upd, List.take_add_one, hc2, List.map_append]
          rfl
      · have e2 : (Str.ofString (toString ((x.length : Nat) : Int)) ++ Str.ofString ":" ++ x).cps.size = (TL.numL (TL.tl x).length ++ 58 :: TL.tl x).length := by
          rw [← tt]
          exact Array.length_toList.symm
        rw [e2, List.take_length] at e
        subst e
        have neA : A ≠ D := fun z => by rw [← z, upd_same] at nD; cases nD
        refine ⟨A, D, _, _, rfl, rfl, (by rw [upd_ne neA]; exact upd_same), upd_same, size_fit (by rw [List.length_map, List.length_append, List.length_cons]; show 1 + (_ + (_ + 1)) ≤ _; omega), fun p np => ?_⟩
        refine k p _ ((nw (nw (nw (Same.refl H) nA) nD) np)) (Same.free ((nw (nw (Same.refl H) nA) nD)) np) ?_
        rw [upd_same, List.map_cons]
        rfl
    | @tup a xs ds h1 h2 =>
      have ty : TyX K H (.ref a) (.type "tuple") := ty
      refine ⟨_, rfl, rfl, _, rfl, iteF ?_⟩
      refine ⟨_, rfl, _, _, _, _, false, rfl, .ty "bool", ty, kit_ty (r := false) (by decide +kernel), _, rfl, iteF ?_⟩
      refine ⟨_, rfl, _, _, _, _, false, rfl, .ty "int", ty, kit_ty (r := false) (by decide +kernel), _, rfl, iteF ?_⟩
      refine ⟨_, rfl, _, _, _, _, false, rfl, .ty "str", ty, kit_ty (r := false) (by decide +kernel), _, rfl, iteF ?_⟩
      rw [octs_tup] at sz k
      rw [List.length_cons, List.length_append] at sz
      rw [plain_tup] at pl
      rw [need_tup] at nd
      have sh2 : PyData.showableAll ds = true := by simpa only [PyData.showable] using sh
      refine ⟨by show 1 ≤ sizeLine; decide, fun A nA => ?_⟩
      refine ⟨_, rfl, a, rfl, ⟨_, Same.tup ((nw (Same.refl H) nA)) h1⟩, for_tup (K := K) (a := a) (xs := xs) (fun j σ H' => ∃ (q : Addr) (y2 y3 : Option V), σ = [some (.ref a), some (.ref q), y2, y3] ∧ Same H H' ∧ H q = none ∧ H' q = some (.lst ((40 :: octsA (ds.take j)).map nV))) ⟨A, _, _, rfl, (nw (Same.refl H) nA), nA, upd_same⟩ (fun j σ H' _ h => ?_) (fun j v σ H' hv h => ?_) (fun σ H' h => ?_)⟩
      · obtain ⟨_, _, _, _, sm, _⟩ := h
        exact Same.tup sm h1
      · obtain ⟨q, y2, y3, rfl, sm, nq, hq⟩ := h
        obtain ⟨d, hd, hdp⟩ := DpAll.at h2 hv
        have st := octsA_step hd
        have part := octsA_part (ds := ds) (j + 1)
        rw [st, List.length_append] at part
        refine ⟨_, rfl, _, rfl, hsp _ _ _ _ ⟨v, d, rfl, Dp.same sm _ _ hdp, plainA_at pl hd, showableA_at sh2 hd, (by have := needA_at hd; omega), by omega, fun p H2 sm2 np hp => ?_⟩⟩
        refine ⟨q, p, _, _, rfl, rfl, sm2 _ _ hq, hp, size_fit (by rw [List.length_map, List.length_map, List.length_cons]; omega), fun r nr => ?_⟩
        refine ⟨r, _, _, rfl, (nw (Same.trans sm sm2) nr), Same.free (Same.trans sm sm2) nr, ?_⟩
        rw [upd_same, st, ← List.map_append]
        rfl
      · obtain ⟨q, y2, y3, rfl, sm, nq, hq⟩ := h
        rw [DpAll.len h2, List.take_length] at hq
        refine ⟨_, rfl, by show 1 ≤ sizeLine; decide, fun B nB => ⟨q, B, _, _, rfl, rfl, (by rw [upd_ne (ne_of_none hq nB)]; exact hq), upd_same, size_fit (by rw [List.length_map, List.length_cons]; show _ + 1 ≤ _; omega), fun p np => ?_⟩⟩
        refine k p _ ((nw (nw sm nB) np)) (Same.free ((nw sm nB)) np) ?_
        rw [upd_same]
        show some (HO.lst ((40 :: octsA ds).map nV ++ [V.int 41])) = some (HO.lst (((40 :: octsA ds) ++ [41]).map nV))
        rw [List.map_append]
        rfl
theorem c_octs (T : Txt K mg) : ∀ n : Nat, Gk.CalB P w K mg base CX0 (6 + n) (303 + 3 * n) false "_law_octets" (spOcts K (n + 1))
  | 0 => octs_body T (m := 0) (dp := 5) (un := 300) (sp := fun _ _ _ _ => False) (fun vs H Q E h => by
      obtain ⟨v, d, _, _, _, _, nd, _⟩ := h
      have := need_pos d
      omega) (calB_never T.d_law_octets T.g_law_octets fun fd F => b_law_octets F) (Nat.le_refl _) (Nat.le_refl _)
  | n + 1 => calB_le (octs_body T (m := n + 1) (fun _ _ _ _ h => h) (c_octs T n) (by omega) (by omega)) (by omega) (by omega) id
end
end K28
set_option Elab.async false
set_option linter.all false
set_option maxRecDepth 100000
set_option exponentiation.threshold 3000
set_option maxHeartbeats 4000000
namespace K28
open PySem PySem.Spec PyProof.Rows L2 Oc
theorem SqT.upd {K : PySem.W.Frag} {H : Hp} {D a : Addr} {ys xs : List V} {o : HO} (h : H D = some (.lst ys)) (t : SqT K H a xs) : SqT K (L2.upd H D o) a xs := by
  rcases t with (t | ⟨u, t⟩) | t
  · exact .inl (.inl (by
      rw [upd_ne (fun z => by rw [z, h] at t; cases t)]
      exact t))
  · exact .inl (.inr ⟨u, by
      rw [upd_ne (fun z => by rw [z, h] at t; cases t)]
      exact t⟩)
  · exact .inr t
mutual
theorem Dp.upd {K : PySem.W.Frag} {H : Hp} {D : Addr} {ys : List V} {o : HO} (h : H D = some (.lst ys)) : ∀ (d : PyData) (v : V), Oc.plain d = true → Dp K H v d → Dp K (L2.upd H D o) v d
  | .none, _, _, .non => .non
  | .bool _, _, _, .bl b => .bl b
  | .int _, _, _, .int i => .int i
  | .str _, _, _, .str x => .str x
  | .list ds, _, p, .lst h1 h2 => by simp only [Oc.plain] at p; cases p
  | .tuple ds, _, p, .tup h1 h2 => .tup (SqT.upd h h1) (DpAll.upd h ds _ (plain_tup ▸ p) h2)
theorem DpAll.upd {K : PySem.W.Frag} {H : Hp} {D : Addr} {ys : List V} {o : HO} (h : H D = some (.lst ys)) : ∀ (ds : List PyData) (vs : List V), plainA ds = true → DpAll K H vs ds → DpAll K (L2.upd H D o) vs ds
  | [], _, _, .nil => .nil
  | d :: ds, _, p, .cons h1 h2 => .cons (Dp.upd h d _ (by rw [plainA_cons, Bool.and_eq_true] at p; exact p.1) h1) (DpAll.upd h ds _ (by rw [plainA_cons, Bool.and_eq_true] at p; exact p.2) h2)
end
theorem DpAll.snoc {K : PySem.W.Frag} {H : Hp} : ∀ {vs : List V} {ds : List PyData} {v : V} {d : PyData}, DpAll K H vs ds → Dp K H v d → DpAll K H (vs ++ [v]) (ds ++ [d])
  | _, _, _, _, .nil, h => .cons h .nil
  | _, _, _, _, .cons h1 h2, h => .cons h1 (DpAll.snoc h2 h)
theorem plainA_snoc : ∀ {ds : List PyData} {d : PyData}, plainA ds = true → Oc.plain d = true → plainA (ds ++ [d]) = true
  | [], d, _, h => by
    rw [List.nil_append, plainA_cons, h]
    simp only [plainA, Bool.and_self]
  | e :: ds, d, p, h => by
    rw [plainA_cons, Bool.and_eq_true] at p
    rw [List.cons_append, plainA_cons, p.1, plainA_snoc p.2 h]
    rfl
theorem sk {H H' : Hp} {D : Addr} {o : HO} (s : Same H H') (n : H D = none) : Same H (upd H' D o) := fun b u e => by
  rw [upd_ne (ne_of_none e n)]
  exact s b u e
theorem sfx {L p q : List Nat} (h : L = p ++ q) : L.drop (L.length - q.length) = q ∧ q.length ≤ L.length := by
  subst h
  rw [List.length_append, Nat.add_sub_cancel, List.drop_left' rfl]
  exact ⟨rfl, by omega⟩
end K28
set_option Elab.async false
set_option linter.all false
set_option maxRecDepth 100000
set_option exponentiation.threshold 3000
set_option maxHeartbeats 4000000
namespace K28
open PySem PySem.Spec PyProof.Rows L2 Oc
/-- a text so many times -/
theorem op_times {X : Cx} : OpR X (binaryOp .Mult) (fun x y H Q => ∃ (a : Str) (n : Int), x = .str a ∧ y = .int n ∧ MulOk a n ∧ Q (.str (Txt.mul a n)) H) := by
  intro pins st σ H x y v u q I rx ry z
  obtain ⟨a, n, rfl, rfl, ok, z⟩ := z
  obtain ⟨t, rfl⟩ := rx
  obtain ⟨t2, rfl⟩ := ry
  exact SB.mul ok fun t' k => ⟨.str _, H, I.tok k, ⟨_, rfl⟩, z⟩
/-- what stands elsewhere than at b stays -/
def Kp (b : Addr) (H H' : Hp) : Prop := ∀ a o, a ≠ b → H a = some o → H' a = some o
theorem Kp.of {b : Addr} {H H' : Hp} (h : But b H H') : Kp b H H' := fun a o ne e => (h a ne).trans e
theorem Kp.refl {b : Addr} {H : Hp} : Kp b H H := fun _ _ _ e => e
theorem kt {b : Addr} {H H1 H2 : Hp} (h : Kp b H H1) (h2 : Kp b H1 H2) : Kp b H H2 := fun a o ne e => h2 a o ne (h a o ne e)
theorem kn {b D : Addr} {H H' : Hp} {o : HO} (h : Kp b H H') (n : H' D = none) : Kp b H (L2.upd H' D o) := fun a u ne e => same_upd n a u (h a u ne e)
theorem ks {b : Addr} {H H' : Hp} (h : Same H H') : Kp b H H' := fun a o _ e => h a o e
theorem SqT.kp {K : PySem.W.Frag} {H H' : Hp} {b a : Addr} {ys xs : List V} (h : H b = some (.lst ys)) (k : Kp b H H') (t : SqT K H a xs) : SqT K H' a xs := by
  rcases t with (t | ⟨u, t⟩) | t
  · exact .inl (.inl (k _ _ (fun z => by rw [z, h] at t; cases t) t))
  · exact .inl (.inr ⟨u, k _ _ (fun z => by rw [z, h] at t; cases t) t⟩)
  · exact .inr t
mutual
theorem Dp.kp {K : PySem.W.Frag} {H H' : Hp} {b : Addr} {ys : List V} (h : H b = some (.lst ys)) (k : Kp b H H') : ∀ (d : PyData) (v : V), Oc.plain d = true → Dp K H v d → Dp K H' v d
  | .none, _, _, .non => .non
  | .bool _, _, _, .bl x => .bl x
  | .int _, _, _, .int i => .int i
  | .str _, _, _, .str x => .str x
  | .list ds, _, p, .lst h1 h2 => by simp only [Oc.plain] at p; cases p
  | .tuple ds, _, p, .tup h1 h2 => .tup (SqT.kp h k h1) (DpAll.kp h k ds _ (plain_tup ▸ p) h2)
theorem DpAll.kp {K : PySem.W.Frag} {H H' : Hp} {b : Addr} {ys : List V} (h : H b = some (.lst ys)) (k : Kp b H H') : ∀ (ds : List PyData) (vs : List V), plainA ds = true → DpAll K H vs ds → DpAll K H' vs ds
  | [], _, _, .nil => .nil
  | d :: ds, _, p, .cons h1 h2 => .cons (Dp.kp h k d _ (by rw [plainA_cons, Bool.and_eq_true] at p; exact p.1) h1) (DpAll.kp h k ds _ (by rw [plainA_cons, Bool.and_eq_true] at p; exact p.2) h2)
end
theorem BoxAt.box {H : Hp} {b l : Addr} (h : BoxAt H b l) : ∃ ys, H b = some (.lst ys) := by
  obtain ⟨_, _, _, _, e, _⟩ := h
  exact ⟨_, e⟩
theorem BoxAt.upd {H : Hp} {b l D : Addr} {o : HO} (h : BoxAt H b l) (h1 : b ≠ D) (h2 : l ≠ D) : BoxAt (L2.upd H D o) b l := by
  obtain ⟨ns, c0, c1, c2, e1, e2, r⟩ := h
  exact ⟨ns, c0, c1, c2, by rw [upd_ne h1]; exact e1, by rw [upd_ne h2]; exact e2, r⟩
theorem BoxAt.same {H H' : Hp} {b l : Addr} (h : BoxAt H b l) (s : Same H H') : BoxAt H' b l := by
  obtain ⟨ns, c0, c1, c2, e1, e2, r⟩ := h
  exact ⟨ns, c0, c1, c2, s _ _ e1, s _ _ e2, r⟩
theorem BoxAt.free {H : Hp} {b l D : Addr} (h : BoxAt H b l) (n : H D = none) : b ≠ D ∧ l ≠ D := by
  obtain ⟨ns, c0, c1, c2, e1, e2, _⟩ := h
  exact ⟨ne_of_none e1 n, ne_of_none e2 n⟩
theorem drawnA_snoc : ∀ {ds : List PyData} {d : PyData}, drawnA ds = true → drawn d = true → drawnA (ds ++ [d]) = true
  | [], d, _, h => by
    rw [List.nil_append, drawnA_cons, h]
    simp only [drawnA, Bool.and_self]
  | e :: ds, d, p, h => by
    rw [drawnA_cons, Bool.and_eq_true] at p
    rw [List.cons_append, drawnA_cons, p.1, drawnA_snoc p.2 h]
    rfl
theorem needA_snoc : ∀ {ds : List PyData} {d : PyData} {n : Nat}, needA ds ≤ n → need d ≤ n → needA (ds ++ [d]) ≤ n
  | [], d, n, _, h => by
    rw [List.nil_append, needA_cons]
    simp only [needA]
    omega
  | e :: ds, d, n, p, h => by
    rw [needA_cons] at p
    rw [List.cons_append, needA_cons]
    have := needA_snoc (ds := ds) (d := d) (n := n) (by omega) h
    omega
def spPlain (K : PySem.W.Frag) (n : Nat) : Sp := fun vs H Q _ => ∃ (b l : Addr), vs = [.ref b, .int (n : Int)] ∧ BoxAt H b l ∧
  ∀ (v : V) (d : PyData) (H' : Hp), BoxAt H' b l → Kp b H H' → Dp K H' v d → drawn d = true → need d ≤ n + 1 → (octs d).length ≤ most n → Q v H'
section
variable {P : Program} {w : World} {K : PySem.W.Frag} {mg : Str → Option Value} {base : Heap}
theorem plain_body (T : Txt K mg) {n dp un : Nat} {sp : Sp} (hsp : ∀ m, n = m + 1 → ∀ vs H Q E, spPlain K m vs H Q E → sp vs H Q E) (c_law_plain : Gk.CalB P w K mg base CX0 dp un false "_law_plain" sp) (hdp : 11 ≤ dp) (hun : 232 ≤ un) :
    Gk.CalB P w K mg base CX0 (dp + 1) (un + 3) false "_law_plain" (spPlain K n) := by
  have c_law_take : Gk.CalB P w K mg base CX0 11 232 false "_law_take" spTake := calB_cal (c_law_take T) (by decide) (by decide)
  have c_law_pick : Gk.CalB P w K mg base CX0 11 232 false "_law_pick" (spPick K) := calB_cal (c_law_pick T) (by decide) (by decide)
  refine calB_of T.d_law_plain T.g_law_plain sc_law_plain (fun fd F => b_law_plain F) (fun vs H Q E h => ?_) (fun cdv A outer s H vs Q E rm h => ?_)
  · obtain ⟨b, l, rfl, _⟩ := h
    rfl
  · obtain ⟨b, l, rfl, hB, k⟩ := h
    refine ⟨_, (pss_cons (ps_set (i := 2) sc_law_plain.nd rfl (by first | exact .inl rfl | exact .inr rfl) (Gk.pe_b c_law_take rm (by first | decide | omega) (by first | decide | omega) (by decide) (by rfl) pass0 (pa_cons (pv 0) (pa_cons pe_int pa_nil))))
  (pss_cons (ps_if (pt_cmpR op_eq (pv 2) pe_int (nomark _))
    (pss_one (ps_ret pe_non))
    pss_nil)
  (pss_cons (ps_if (pt_cmpR op_eq (pv 2) pe_int (nomark _))
    (pss_one (ps_ret (pe_cmpR op_eq (Gk.pe_b c_law_take rm (by first | decide | omega) (by first | decide | omega) (by decide) (by rfl) pass0 (pa_cons (pv 0) (pa_cons pe_int pa_nil))) pe_int (nomark _))))
    pss_nil)
  (pss_cons (ps_if (pt_cmpR op_lt (pv 2) pe_int (nomark _))
    (pss_one (ps_ret (Gk.pe_b c_law_pick rm (by first | decide | omega) (by first | decide | omega) (by decide) (by rfl) pass0 (pa_cons (pv 0) (pa_cons (pe_lst (pa_cons pe_int (pa_cons pe_int (pa_cons (pe_un un_neg pe_int) (pa_cons pe_int (pa_cons pe_int (pa_cons (pe_un un_neg pe_int) (pa_cons pe_int (pa_cons pe_int (pa_cons pe_int (pa_cons (pe_un un_neg (pe_op op_pow pe_int pe_int)) (pa_cons pe_int pa_nil)))))))))))) pa_nil)))))
    pss_nil)
  (pss_cons (ps_if (pt_cmpR op_eq (pv 2) pe_int (nomark _))
    (pss_one (ps_ret (Gk.pe_b c_law_pick rm (by first | decide | omega) (by first | decide | omega) (by decide) (by rfl) pass0 (pa_cons (pv 0) (pa_cons (pe_lst (pa_cons pe_str (pa_cons pe_str (pa_cons pe_str (pa_cons pe_str (pa_cons pe_str (pa_cons pe_str (pa_cons pe_str (pa_cons pe_str (pa_cons pe_str (pa_cons (pe_op op_times pe_str pe_int) (pa_cons pe_str pa_nil)))))))))))) pa_nil)))))
    pss_nil)
  (pss_cons (ps_if (pt_cmpR op_eq (pv 1) pe_int (nomark _))
    (pss_one (ps_ret (pe_tup pa_nil)))
    pss_nil)
  (pss_one (ps_ret (pe_callTy call_tuple_of (by rfl) T.z_tuple (by decide +kernel) (pa_cons (pe_lc (own := [("k", 3)]) (g := gName 3) rfl sc_law_plain.nd (pi_range1 rfl T.z_range (pa_cons (Gk.pe_b c_law_take rm (by first | decide | omega) (by first | decide | omega) (by decide) (by rfl) pass0 (pa_cons (pv 0) (pa_cons pe_int pa_nil))) pa_nil)) (blkOk_by (own := [("k", 3)]) (N := n_law_plain) (sc := defScope s_law_plain) (by decide +kernel)) (fun _ _ _ _ _ => (pg_name (i := 3) sc_law_plain.nd rfl (by first | exact .inl rfl | exact .inr rfl))) (fun _ _ _ _ _ => pts_nil) (fun _ _ _ _ _ => (Gk.pe_b c_law_plain rm (by first | decide | omega) (by first | decide | omega) (by decide) (by rfl) pass0 (pa_cons (pv 0) (pa_cons (pe_op op_sub (pv 1) pe_int) pa_nil))))) pa_nil)))))))))), ?_⟩
    have leaf : ∀ {v : V} {d : PyData} {H' : Hp}, BoxAt H' b l → Kp b H H' → Dp K H' v d → drawn d = true → (∀ ds, d ≠ .tuple ds) → Q v H' := fun h1 h2 h3 h4 h5 =>
      k _ _ _ h1 h2 h3 h4 (by rw [need_flat _ h5]; omega) (Nat.le_trans (leaf_len h4 h5) (most_pos n))
    refine ⟨_, rfl, b, l, 8, rfl, hB, by decide, by decide, fun t H1 t0 t1 B1 o1 => ?_⟩
    have k1 := Kp.of o1
    refine ⟨_, rfl, rfl, _, rfl, ite2 (fun e => leaf B1 k1 .non (by simp only [drawn]) (fun _ z => by cases z)) (fun e => ?_)⟩
    refine ⟨_, rfl, rfl, _, rfl, ite2 (fun e => ?_) (fun e => ?_)⟩
    · exact ⟨_, rfl, b, l, 2, rfl, B1, by decide, by decide, fun t2 H2 _ _ B2 o2 => ⟨rfl, leaf B2 (kt k1 (Kp.of o2)) (.bl _) (by simp only [drawn]) (fun _ z => by cases z)⟩⟩
    refine ⟨_, rfl, _, _, rfl, rfl, _, rfl, ite2 (fun e => ?_) (fun e => ?_)⟩
    · refine ⟨_, rfl, _, rfl, _, rfl, _, _, rfl, rfl, ⟨by decide, by decide, by decide⟩, _, rfl, by show 11 ≤ sizeLine; decide, fun p np => ?_⟩
      obtain ⟨f1, f2⟩ := B1.free np
      refine ⟨b, l, p, _, rfl, B1.upd f1 f2, SqL.of upd_same, f1.symm, by show 0 < 11; decide, by show 11 < 1000000000; decide, fun v H2 hv B2 o2 => ?_⟩
      obtain ⟨i, rfl, hi⟩ : ∃ i : Int, v = .int i ∧ i.natAbs ≤ 10 ^ 30 := by
        revert hv
        simp only [List.mem_cons, List.not_mem_nil, or_false]
        intro hv
        rcases hv with z | z | z | z | z | z | z | z | z | z | z <;> exact ⟨_, z, by decide⟩
      exact leaf B2 (kt (kn k1 np) (Kp.of o2)) (.int i) (by simp only [drawn, decide_eq_true_eq]; exact hi) (fun _ z => by cases z)
    refine ⟨_, rfl, rfl, _, rfl, ite2 (fun e => ?_) (fun e => ?_)⟩
    · refine ⟨_, rfl, _, _, rfl, rfl, ⟨by decide +kernel, fun _ _ => by decide +kernel, fun _ _ => by decide +kernel⟩, by show 11 ≤ sizeLine; decide, fun p np => ?_⟩
      obtain ⟨f1, f2⟩ := B1.free np
      refine ⟨b, l, p, _, rfl, B1.upd f1 f2, SqL.of upd_same, f1.symm, by show 0 < 11; decide, by show 11 < 1000000000; decide, fun v H2 hv B2 o2 => ?_⟩
      obtain ⟨x, rfl, hx⟩ : ∃ x : Str, v = .str x ∧ drawn (.str x) = true := by
        revert hv
        simp only [List.mem_cons, List.not_mem_nil, or_false]
        intro hv
        rcases hv with z | z | z | z | z | z | z | z | z | z | z <;> exact ⟨_, z, by simp only [drawn]; decide +kernel⟩
      exact leaf B2 (kt (kn k1 np) (Kp.of o2)) (.str x) hx (fun _ z => by cases z)
    refine ⟨_, rfl, rfl, _, rfl, ite2 (fun e => ?_) (fun e => ?_)⟩
    · refine ⟨Nat.zero_le _, fun p np => ?_⟩
      obtain ⟨f1, f2⟩ := B1.free np
      exact k _ (.tuple []) _ (B1.upd f1 f2) (kn k1 np) (.tup (SqT.of upd_same) .nil) (by simp only [drawn, drawnA]) (by rw [need_tup]; simp only [needA]; omega) (by rw [octs_tup, octsA_nil]; exact Nat.le_trans (by decide) (most_pos n))
    have n0 : n ≠ 0 := fun z => e (by
      subst z
      exact decide_eq_true rfl)
    obtain ⟨m, rfl⟩ : ∃ m, n = m + 1 := ⟨n - 1, by omega⟩
    refine ⟨_, rfl, b, l, 4, rfl, B1, by decide, by decide, fun t2 H2 t20 t21 B2 o2 => ⟨t2, rfl, by omega, by omega, fun D nD => ?_⟩⟩
    have k2 := kt k1 (Kp.of o2)
    obtain ⟨f1, f2⟩ := B2.free nD
    have offD : ∀ a o, a ≠ b → H a = some o → a ≠ D := fun a o ne ha => ne_of_none (k2 a o ne ha) nD
    refine lc_range (lo := 0) (n := t2.toNat) (fun j H' => ∃ (vs : List V) (ds : List PyData), H' D = some (.lst vs) ∧ vs.length = j ∧ DpAll K H' vs ds ∧ drawnA ds = true ∧ needA ds ≤ m + 1 ∧ (octsA ds).length ≤ j * most m ∧ BoxAt H' b l ∧ Kp b H H') ⟨[], [], upd_same, rfl, .nil, by simp only [drawnA], by simp only [needA]; omega, by rw [octsA_nil]; exact Nat.zero_le _, B2.upd f1 f2, kn k2 nD⟩ (fun j H' hj p => ?_) (fun H' p => ?_)
    · obtain ⟨vs, ds, p1, p2, p3, p4, p5, p6, p7, p8⟩ := p
      refine ⟨rfl, _, rfl, _, rfl, _, _, rfl, rfl, hsp m rfl _ _ _ _ ⟨b, l, ?_, p7, fun v d H3 B3 k3 hv hd nd sz => ?_⟩⟩
      · have : ((m + 1 : Nat) : Int) - 1 = (m : Int) := by omega
        rw [← this]
        rfl
      · have hD3 := k3 _ _ f1.symm p1
        have pl := drawn_plain d hd
        obtain ⟨ys, hb⟩ := p7.box
        refine ⟨vs, hD3, ?_, vs ++ [v], ds ++ [d], upd_same, by rw [List.length_append, p2]; rfl, ?_, drawnA_snoc p4 hd, needA_snoc p5 nd, ?_, B3.upd f1 f2, ?_⟩
        · rw [p2]
          exact Nat.lt_of_lt_of_le (show j < 1000000 by omega) (by decide)
        · exact DpAll.snoc (DpAll.upd hD3 _ _ (drawnA_plain _ p4) (DpAll.kp hb k3 _ _ (drawnA_plain _ p4) p3)) (Dp.upd hD3 _ _ pl hv)
        · rw [octsA_app, octsA_one, List.length_append, Nat.succ_mul]
          omega
        · intro a o ne ha
          rw [upd_ne (offD a o ne ha)]
          exact kt p8 k3 a o ne ha
    · obtain ⟨vs, ds, p1, p2, p3, p4, p5, p6, p7, p8⟩ := p
      refine ⟨D, _, rfl, .inl ⟨SqL.of p1, fun q nq => ?_⟩⟩
      obtain ⟨g1, g2⟩ := p7.free nq
      have sz : t2.toNat * most m ≤ 3 * most m := Nat.mul_le_mul_right _ (by omega)
      refine k _ (.tuple ds) _ (p7.upd g1 g2) (kn p8 nq) (.tup (SqT.of upd_same) (DpAll.same (same_upd nq) _ _ p3)) (by rw [drawn_tup]; exact p4) (by rw [need_tup]; omega) ?_
      rw [octs_tup, List.length_cons, List.length_append]
      show _ + 1 + 1 ≤ 3 * most m + 2
      omega
theorem c_plain (T : Txt K mg) : ∀ n : Nat, Gk.CalB P w K mg base CX0 (12 + n) (235 + 3 * n) false "_law_plain" (spPlain K n)
  | 0 => plain_body T (n := 0) (dp := 11) (un := 232) (sp := fun _ _ _ _ => False) (fun m h => by omega) (calB_never T.d_law_plain T.g_law_plain fun fd F => b_law_plain F) (Nat.le_refl _) (Nat.le_refl _)
  | n + 1 => calB_le (plain_body T (n := n + 1) (fun m h vs H Q E z => by
      obtain rfl : m = n := by omega
      exact z) (c_plain T n) (by omega) (by omega)) (by omega) (by omega) id
end
end K28
set_option Elab.async false
set_option linter.all false
set_option maxRecDepth 100000
set_option exponentiation.threshold 3000
set_option maxHeartbeats 4000000
namespace K28
open PySem PySem.Spec PyProof.Rows L2 Oc
theorem at_drop {L : List Nat} {a j : Nat} : (L.drop a)[j]? = L[a + j]? := List.getElem?_drop
theorem nV_at {L : List Nat} {i c : Nat} (h : L[i]? = some c) : atI (L.map nV) (i : Int) = some (.int (c : Int)) := atI_nat (by rw [List.getElem?_map, h]; rfl)
theorem dec_ii {i j : Int} : decide (V.int i = V.int j) = decide (i = j) := by
  by_cases h : i = j
  · rw [h, decide_eq_true rfl, decide_eq_true rfl]
  · rw [decide_eq_false h, decide_eq_false fun z => h (V.int.inj z)]
theorem fmodN (n m : Nat) : ((n : Nat) : Int).fmod ((m : Nat) : Int) = ((n % m : Nat) : Int) := by
  rw [Int.fmod_eq_emod_of_nonneg _ (Int.natCast_nonneg m)]
  rfl
theorem fdivN (n m : Nat) : ((n : Nat) : Int).fdiv ((m : Nat) : Int) = ((n / m : Nat) : Int) := by
  rw [Int.fdiv_eq_ediv_of_nonneg _ (Int.natCast_nonneg m)]
  rfl
def spCheck (K : PySem.W.Frag) : Sp := fun vs H Q _ => ∃ (a : Addr) (L : List Nat), vs = [.ref a] ∧ SqL K H a (L.map nV) ∧ L.length ≤ 100000 ∧ ∀ H', Same H H' → Q (.int ((chk L : Nat) : Int)) H'
section
variable {P : Program} {w : World} {K : PySem.W.Frag} {mg : Str → Option Value} {base : Heap}
theorem c_check (T : Txt K mg) : Gk.CalB P w K mg base CX0 6 303 false "_law_check" (spCheck K) := by
  refine calB_of T.d_law_check T.g_law_check sc_law_check (fun fd F => b_law_check F) (fun vs H Q E h => ?_) (fun cdv A outer s H vs Q E (rm : Gk.Rm 5 300 false _) h => ?_)
  · obtain ⟨a, L, rfl, _⟩ := h
    rfl
  · obtain ⟨a, L, rfl, hS, hL, k⟩ := h
    refine ⟨_, (pss_cons (ps_set (i := 1) sc_law_check.nd rfl (by first | exact .inl rfl | exact .inr rfl) pe_int)
  (pss_cons (ps_for PassesOwn.never rfl (pi_enum (by rfl) T.z_enumerate (pa_cons (pv 0) pa_nil)) (pg_tup (by rfl) (pgs_cons (pg_name (i := 2) sc_law_check.nd rfl (by first | exact .inl rfl | exact .inr rfl)) (pgs_cons (pg_name (i := 3) sc_law_check.nd rfl (by first | exact .inl rfl | exact .inr rfl)) pgs_nil)))
    (pss_one (ps_set (i := 1) sc_law_check.nd rfl (by first | exact .inl rfl | exact .inr rfl) (pe_op op_modN (pe_op op_add (pv 1) (pe_op op_mul (pe_op op_add (pv 2) pe_int) (pv 3))) pe_int))))
  (pss_one (ps_ret (pv 1))))), ?_⟩
    refine ⟨_, rfl, a, _, rfl, hS, for_it (walk_enum (K := K) (a := a) (xs := L.map nV)) (fun i σ H' => ∃ y2 y3, σ = [some (.ref a), some (.int ((chk (L.take i) : Nat) : Int)), y2, y3] ∧ Same H H') ⟨_, _, rfl, Same.refl H⟩ (fun i σ H' _ h => ?_) (fun i v σ H' H'' hi h y => ?_) (fun σ H' h => ?_)⟩
    · obtain ⟨_, _, _, s1⟩ := h
      exact Same.seq s1 hS
    · obtain ⟨y2, y3, rfl, s1⟩ := h
      obtain ⟨p, x, z, rfl, np, rfl, e1, e2⟩ := y
      cases e1
      have e2 : (L.map nV)[i]? = some z := e2
      rw [List.getElem?_map] at e2
      obtain ⟨c, hc, rfl⟩ : ∃ c, L[i]? = some c ∧ nV c = z := by
        cases h : L[i]? with
        | none => rw [h] at e2; cases e2
        | some c => rw [h] at e2; exact ⟨c, rfl, Option.some.inj e2⟩
      have hi' := (List.getElem?_eq_some_iff.mp hc).1
      refine ⟨p, _, rfl, SqT.of upd_same, rfl, _, _, rfl, _, _, rfl, rfl, ?_⟩
      refine ⟨_, rfl, _, rfl, _, _, rfl, rfl, _, rfl, _, _, rfl, rfl, .inl ⟨by omega, by omega⟩, _, _, rfl, rfl, _, _, rfl, rfl, (by show (65521 : Int) ≠ 0; decide), ?_⟩
      refine ⟨some (.int (i : Int)), some (nV c), ?_, (nw s1 np)⟩
      have e : (((chk (L.take i) : Nat) : Int) + ((i : Int) + 1) * ((c : Nat) : Int)).fmod 65521 = ((chk (L.take (i + 1)) : Nat) : Int) := by
        rw [chk_step hc, ← fmodN]
        congr 1
      show [some (V.ref a), some (V.int _), some (V.int (i : Int)), some (nV c)] = _
      rw [← e]
    · obtain ⟨y2, y3, rfl, s1⟩ := h
      rw [List.length_map, List.take_length]
      exact ⟨_, rfl, k _ s1⟩
end
end K28
set_option Elab.async false
set_option linter.all false
set_option maxRecDepth 100000
set_option exponentiation.threshold 3000
set_option maxHeartbeats 4000000
namespace K28
open PySem PySem.Spec PyProof.Rows L2 Oc
theorem dm (n a b : Nat) : (((n : Nat) : Int).fdiv ((a : Nat) : Int)).fmod ((b : Nat) : Int) = ((n / a % b : Nat) : Int) := by rw [fdivN, fmodN]
def spEnt (K : PySem.W.Frag) : Sp := fun vs H Q _ => ∃ (kd : Nat) (v : V) (d : PyData), vs = [.int (kd : Int), v] ∧ Dp K H v d ∧ Oc.plain d = true ∧ d.showable = true ∧ need d ≤ 411 ∧ (octs d).length ≤ 50000 ∧
  ∀ (p : Addr) (H' : Hp), Same H H' → H p = none → H' p = some (.lst ((entO kd (octs d)).map nV)) → Q (.ref p) H'
section
variable {P : Program} {w : World} {K : PySem.W.Frag} {mg : Str → Option Value} {base : Heap}
theorem c_ent (T : Txt K mg) : Gk.CalB P w K mg base CX0 417 1603 false "_law_entry" (spEnt K) := by
  have c_law_octets : Gk.CalB P w K mg base CX0 416 1533 false "_law_octets" (spOcts K 411) := c_octs T 410
  have c_law_check : Gk.CalB P w K mg base CX0 6 303 false "_law_check" (spCheck K) := c_check T
  refine calB_of T.d_law_entry T.g_law_entry sc_law_entry (fun fd F => b_law_entry F) (fun vs H Q E h => ?_) (fun cdv A outer s H vs Q E (rm : Gk.Rm 416 1600 false _) h => ?_)
  · obtain ⟨kd, v, d, rfl, _⟩ := h
    rfl
  · obtain ⟨kd, v, d, rfl, hd, pl, sh, nd, sz, k⟩ := h
    refine ⟨_, (pss_cons (ps_set (i := 2) sc_law_entry.nd rfl (by first | exact .inl rfl | exact .inr rfl) (Gk.pe_b c_law_octets rm (by first | decide | omega) (by first | decide | omega) (by decide) (by rfl) pass0 (pa_cons (pv 1) pa_nil)))
  (pss_cons (ps_par (i := 3) (j := 4) (by rfl) sc_law_entry.nd rfl rfl (by decide) rfl rfl (pa_cons (pe_callB call_len_seq (by rfl) T.z_len (by decide +kernel) (pa_cons (pv 2) pa_nil)) (pa_cons (Gk.pe_b c_law_check rm (by first | decide | omega) (by first | decide | omega) (by decide) (by rfl) pass0 (pa_cons (pe_op op_cat (pe_lst (pa_cons (pv 0) pa_nil)) (pv 2)) pa_nil)) pa_nil)) (by rfl))
  (pss_one (ps_ret (pe_op op_cat (pe_op op_cat (pe_lst (pa_cons (pe_op op_modN (pe_op op_fdivN (pv 3) (pe_op op_pow pe_int pe_int)) pe_int) (pa_cons (pe_op op_modN (pe_op op_fdivN (pv 3) pe_int) pe_int) (pa_cons (pe_op op_modN (pe_op op_fdivN (pv 3) pe_int) pe_int) (pa_cons (pe_op op_modN (pv 3) pe_int) (pa_cons (pv 0) pa_nil)))))) (pv 2)) (pe_lst (pa_cons (pe_op op_fdivN (pv 4) pe_int) (pa_cons (pe_op op_modN (pv 4) pe_int) pa_nil)))))))), ?_⟩
    refine ⟨_, rfl, v, d, rfl, hd, pl, sh, nd, by omega, fun p H1 s1 np hp => ?_⟩
    have len : ((octs d).map nV).length = (octs d).length := List.length_map ..
    refine ⟨_, rfl, p, _, rfl, .inl (SqL.of hp), ?_⟩
    refine ⟨_, rfl, by show 1 ≤ sizeLine; decide, fun o no => ⟨_, rfl, o, p, _, _, rfl, rfl, upd_same, (by rw [upd_ne (ne_of_none hp no)]; exact hp), size_fit (by rw [len]; show 1 + _ ≤ _; omega), fun c nc => ?_⟩⟩
    refine ⟨c, kd :: octs d, rfl, SqL.of upd_same, (by rw [List.length_cons]; omega), fun H2 s2 => ⟨_, _, rfl, ?_⟩⟩
    rw [len]
    have s3 : Same H1 H2 := Same.trans ((nw (nw (Same.refl H1) no) nc)) s2
    have hp2 := s3 _ _ hp
    refine ⟨_, rfl, _, _, rfl, rfl, ⟨by decide, by decide, by decide⟩, _, _, rfl, rfl, ⟨by decide, by decide⟩, _, _, rfl, rfl, (by show (256 : Int) ≠ 0; decide), ?_⟩
    refine ⟨_, rfl, _, _, rfl, rfl, ⟨by decide, by decide⟩, _, _, rfl, rfl, (by show (256 : Int) ≠ 0; decide), ?_⟩
    refine ⟨_, rfl, _, _, rfl, rfl, ⟨by decide, by decide⟩, _, _, rfl, rfl, (by show (256 : Int) ≠ 0; decide), ?_⟩
    refine ⟨_, rfl, _, _, rfl, rfl, (by show (256 : Int) ≠ 0; decide), ?_⟩
    refine ⟨_, rfl, by show 5 ≤ sizeLine; decide, fun q nq => ?_⟩
    refine ⟨_, rfl, q, p, _, _, rfl, rfl, upd_same, (by rw [upd_ne (ne_of_none hp2 nq)]; exact hp2), size_fit (by rw [len]; show 5 + _ ≤ _; omega), fun r nr => ?_⟩
    refine ⟨_, rfl, _, _, rfl, rfl, ⟨by decide, by decide⟩, _, rfl, _, _, rfl, rfl, (by show (256 : Int) ≠ 0; decide), by show 2 ≤ sizeLine; decide, fun t nt => ?_⟩
    have nrt : r ≠ t := fun z => by rw [← z, upd_same] at nt; cases nt
    refine ⟨r, t, _, _, rfl, rfl, (by rw [upd_ne nrt, upd_same]), upd_same, size_fit (by rw [List.length_append, len]; show 5 + _ + 2 ≤ _; omega), fun z nz => ?_⟩
    refine k z _ ((nw (nw (nw (nw (Same.trans s1 s3) nq) nr) nt) nz)) (Same.free ((nw (nw (nw (Same.trans s1 s3) nq) nr) nt)) nz) ?_
    have e0 := dm (octs d).length (256 ^ 3) 256
    have e1 := dm (octs d).length 65536 256
    have e2 := dm (octs d).length 256 256
    have e3 := fmodN (octs d).length 256
    have f0 := fdivN (chk (kd :: octs d)) 256
    have f1 := fmodN (chk (kd :: octs d)) 256
    rw [upd_same]
    unfold entO head4
    simp only [List.map_append, List.map_cons, List.map_nil]
    show _ = some (HO.lst ([V.int _, V.int _, V.int _, V.int _] ++ [V.int (kd : Int)] ++ (octs d).map nV ++ [V.int _, V.int _]))
    rw [← e0, ← e1, ← e2, ← e3, ← f0, ← f1]
    rfl
end
end K28
set_option Elab.async false
set_option linter.all false
set_option maxRecDepth 100000
set_option exponentiation.threshold 3000
set_option maxHeartbeats 4000000
namespace K28
open PySem PySem.Spec PyProof.Rows L2 Oc
theorem gd_at {L : List Nat} {x : Nat} (h : x < L.length) : L[x]? = some (L.getD x 0) := by
  rw [List.getD_eq_getElem?_getD, List.getElem?_eq_getElem h]
  rfl
theorem cut_mid {L : List Nat} {i j : Nat} (h1 : i ≤ j) (h2 : j ≤ L.length) : cutV (L.map nV) (some (i : Int)) (some (j : Int)) = ((L.drop i).take (j - i)).map nV := by
  unfold cutV
  rw [HT.sIx_nat, HT.sIx_nat, List.length_map, Nat.min_eq_left h2, Nat.min_eq_left (show i ≤ L.length by omega), ← List.map_drop, ← List.map_take]
def spThere (K : PySem.W.Frag) : Sp := fun vs H Q _ => ∃ (a : Addr) (L : List Nat) (i : Nat), vs = [.ref a, .int (i : Int)] ∧ SqL K H a (L.map nV) ∧ L.length ≤ 100000 ∧
  (thereS L i = none → ∀ H', Same H H' → Q .non H') ∧ ∀ e, thereS L i = some e → ∀ H', Same H H' → Q (.int (e : Int)) H'
section
variable {P : Program} {w : World} {K : PySem.W.Frag} {mg : Str → Option Value} {base : Heap}
theorem c_there (T : Txt K mg) : Gk.CalB P w K mg base CX0 9 403 false "_law_there" (spThere K) := by
  have c_law_check : Gk.CalB P w K mg base CX0 6 303 false "_law_check" (spCheck K) := c_check T
  refine calB_of T.d_law_there T.g_law_there sc_law_there (fun fd F => b_law_there F) (fun vs H Q E h => ?_) (fun cdv A outer s H vs Q E (rm : Gk.Rm 8 400 false _) h => ?_)
  · obtain ⟨a, L, i, rfl, _⟩ := h
    rfl
  · obtain ⟨a, L, i, rfl, hS, hL, kn, ks⟩ := h
    refine ⟨_, (pss_cons (ps_if (pt_cmpR op_lt (pe_callB call_len_seq (by rfl) T.z_len (by decide +kernel) (pa_cons (pv 0) pa_nil)) (pe_op op_add (pv 1) pe_int) (nomark _))
    (pss_one (ps_ret pe_non))
    pss_nil)
  (pss_cons (ps_set (i := 2) sc_law_there.nd rfl (by first | exact .inl rfl | exact .inr rfl) (pe_op op_add (pe_op op_mul (pe_op op_add (pe_op op_mul (pe_op op_add (pe_op op_mul (pe_ix ix_list (pv 0) (pv 1) (fun _ _ => rfl)) pe_int) (pe_ix ix_list (pv 0) (pe_op op_add (pv 1) pe_int) (fun _ _ => rfl))) pe_int) (pe_ix ix_list (pv 0) (pe_op op_add (pv 1) pe_int) (fun _ _ => rfl))) pe_int) (pe_ix ix_list (pv 0) (pe_op op_add (pv 1) pe_int) (fun _ _ => rfl))))
  (pss_cons (ps_set (i := 3) sc_law_there.nd rfl (by first | exact .inl rfl | exact .inr rfl) (pe_op op_add (pe_op op_add (pv 1) pe_int) (pv 2)))
  (pss_cons (ps_if (PW.pt (pw_or (pt_cmpR op_lt (pe_callB call_len_seq (by rfl) T.z_len (by decide +kernel) (pa_cons (pv 0) pa_nil)) (pe_op op_add (pv 3) pe_int) (nomark _)) (pw_or1 (pt_cmpR op_ne (pe_op op_add (pe_op op_mul (pe_ix ix_list (pv 0) (pv 3) (fun _ _ => rfl)) pe_int) (pe_ix ix_list (pv 0) (pe_op op_add (pv 3) pe_int) (fun _ _ => rfl))) (Gk.pe_b c_law_check rm (by first | decide | omega) (by first | decide | omega) (by decide) (by rfl) pass0 (pa_cons (pe_slice sl_list (pv 0) (po_some (pe_op op_add (pv 1) pe_int)) (po_some (pv 3))) pa_nil)) (nomark _)))))
    (pss_one (ps_ret pe_non))
    pss_nil)
  (pss_one (ps_ret (pe_op op_add (pv 3) pe_int))))))), ?_⟩
    have len : ((L.map nV).length : Int) = (L.length : Int) := by rw [List.length_map]
    unfold thereS at kn ks
    refine ⟨_, rfl, a, _, rfl, .inl hS, _, rfl, _, _, rfl, rfl, _, _, rfl, rfl, _, rfl, ite2 (fun h => ?_) (fun h => ?_)⟩
    · have h := of_decide_eq_true h
      rw [len] at h
      rw [if_pos (by omega)] at kn
      exact kn rfl _ (Same.refl H)
    have h : ¬ ((L.map nV).length : Int) < (i : Int) + 7 := fun z => h (decide_eq_true z)
    rw [len] at h
    have h7 : ¬ L.length < i + 7 := by omega
    rw [if_neg h7] at kn ks
    have x0 := gd_at (L := L) (x := i) (by omega)
    have x1 := gd_at (L := L) (x := i + 1) (by omega)
    have x2 := gd_at (L := L) (x := i + 2) (by omega)
    have x3 := gd_at (L := L) (x := i + 3) (by omega)
    refine ⟨_, rfl, _, rfl, _, _, _, _, rfl, rfl, hS, nV_at x0, _, _, rfl, rfl, .inr ⟨by decide, by decide⟩, _, rfl, _, rfl, _, _, rfl, rfl, _, _, _, _, rfl, rfl, hS, nV_at x1, _, _, rfl, rfl, ?_⟩
    refine ⟨_, _, rfl, rfl, .inr ⟨by decide, by decide⟩, _, rfl, _, rfl, _, _, rfl, rfl, _, _, _, _, rfl, rfl, hS, nV_at x2, _, _, rfl, rfl, ?_⟩
    refine ⟨_, _, rfl, rfl, .inr ⟨by decide, by decide⟩, _, rfl, _, rfl, _, _, rfl, rfl, _, _, _, _, rfl, rfl, hS, nV_at x3, _, _, rfl, rfl, ?_⟩
    have e4 : ((((L.getD i 0 : Nat) : Int) * 256 + ((L.getD (i + 1) 0 : Nat) : Int)) * 256 + ((L.getD (i + 2) 0 : Nat) : Int)) * 256 + ((L.getD (i + 3) 0 : Nat) : Int) = ((four L i : Nat) : Int) := by
      unfold four
      omega
    show (tSeq _ _ : TS) _ [some (V.ref a), some (V.int (i : Int)), some (V.int (((((L.getD i 0 : Nat) : Int) * 256 + ((L.getD (i + 1) 0 : Nat) : Int)) * 256 + ((L.getD (i + 2) 0 : Nat) : Int)) * 256 + ((L.getD (i + 3) 0 : Nat) : Int))), none] H
    rw [e4]
    generalize four L i = f at kn ks
    refine ⟨_, rfl, _, _, rfl, rfl, _, rfl, _, _, rfl, rfl, ?_⟩
    have e5 : (i : Int) + 5 + (f : Int) = ((i + 5 + f : Nat) : Int) := by omega
    show (tSeq _ _ : TS) _ [some (V.ref a), some (V.int (i : Int)), some (V.int (f : Int)), some (V.int ((i : Int) + 5 + (f : Int)))] H
    rw [e5]
    refine ⟨_, rfl, a, _, rfl, .inl hS, _, rfl, _, _, rfl, rfl, _, _, rfl, rfl, _, rfl, ite2 (fun h => ?_) (fun h => ?_)⟩
    · have h := of_decide_eq_true h
      rw [len] at h
      rw [if_pos (.inl (by omega))] at kn
      exact kn rfl _ (Same.refl H)
    have h : ¬ ((L.map nV).length : Int) < ((i + 5 + f : Nat) : Int) + 2 := fun z => h (decide_eq_true z)
    rw [len] at h
    have hl : i + 5 + f + 2 ≤ L.length := by omega
    have y0 := gd_at (L := L) (x := i + 5 + f) (by omega)
    have y1 := gd_at (L := L) (x := i + 5 + f + 1) (by omega)
    have cm : cutV (L.map nV) (some ((i : Int) + 4)) (some ((i + 5 + f : Nat) : Int)) = ((L.drop (i + 4)).take (1 + f)).map nV := by
      have z := cut_mid (L := L) (i := i + 4) (j := i + 5 + f) (by omega) (by omega)
      rw [show i + 5 + f - (i + 4) = 1 + f by omega] at z
      exact z
    refine ⟨_, rfl, _, rfl, _, _, _, _, rfl, rfl, hS, nV_at y0, _, _, rfl, rfl, .inr ⟨by decide, by decide⟩, _, rfl, _, rfl, _, _, rfl, rfl, _, _, _, _, rfl, rfl, hS, nV_at y1, _, _, rfl, rfl, ?_⟩
    refine ⟨_, rfl, _, rfl, _, _, rfl, rfl, _, rfl, _, rfl, _, rfl, a, _, rfl, hS, fun S nS => ?_⟩
    rw [cm]
    refine ⟨S, (L.drop (i + 4)).take (1 + f), rfl, SqL.of upd_same, ?_, fun H2 s2 => ⟨rfl, _, rfl, ?_⟩⟩
    · rw [List.length_take, List.length_drop]
      omega
    have s3 := Same.trans (same_upd (o := .lst (((L.drop (i + 4)).take (1 + f)).map nV)) nS) s2
    rw [dec_ii]
    by_cases hc : L.getD (i + 5 + f) 0 * 256 + L.getD (i + 5 + f + 1) 0 = chk ((L.drop (i + 4)).take (1 + f))
    · rw [if_neg (fun z => by
        rcases z with z | z
        · omega
        · exact z hc)] at ks
      rw [decide_eq_true (by omega)]
      exact iteF ⟨_, rfl, _, _, rfl, rfl, ks _ rfl _ s3⟩
    · rw [if_pos (.inr hc)] at kn
      rw [decide_eq_false (by omega)]
      exact iteT (kn rfl _ s3)
end
end K28
set_option Elab.async false
set_option linter.all false
set_option maxRecDepth 100000
set_option exponentiation.threshold 3000
set_option maxHeartbeats 8000000
namespace K28
open PySem PySem.Spec PyProof.Rows L2 Oc
theorem cut_take (L : List Nat) (i : Nat) : cutV (L.map nV) none (some (i : Int)) = (L.take i).map nV := by
  unfold cutV
  rw [HT.sIx_none, HT.sIx_nat, List.drop_zero, Nat.sub_zero, ← List.map_take, List.length_map]
  congr 1
  by_cases h : i ≤ L.length
  · rw [Nat.min_eq_left h]
  · rw [Nat.min_eq_right (by omega), List.take_length, List.take_of_length_le (by omega)]
theorem cut_drop (L : List Nat) (i : Nat) : cutV (L.map nV) (some (i : Int)) none = (L.drop i).map nV := by
  unfold cutV
  rw [HT.sIx_none, HT.sIx_nat, List.length_map, ← List.map_drop, ← List.map_take]
  congr 1
  by_cases h : i ≤ L.length
  · rw [Nat.min_eq_left h, List.take_of_length_le (by rw [List.length_drop]; exact Nat.le_refl _)]
  · rw [Nat.min_eq_right (by omega), List.drop_length, List.drop_eq_nil_of_le (by omega), List.take_nil]
theorem byte_take {L : List Nat} (h : byteS L) (i : Nat) : byteS (L.take i) := fun c hc => h c (List.mem_of_mem_take hc)
theorem byte_drop {L : List Nat} (h : byteS L) (i : Nat) : byteS (L.drop i) := fun c hc => h c (List.mem_of_mem_drop hc)
theorem run_take {k : Nat} {L : List Nat} (h : runOk k 0 L = true) (i : Nat) : runOk k 0 (L.take i) = true := by
  rw [← List.take_append_drop i L] at h
  exact run_start h
theorem run_drop {k : Nat} {L : List Nat} (h : runOk k 0 L = true) (i : Nat) : runOk k 0 (L.drop i) = true := by
  rw [← List.take_append_drop i L] at h
  exact run_end h
def listD (L : List Nat) : PyData := .list (L.map fun n : Nat => PyData.int (n : Int))
theorem dp_ints {K : PySem.W.Frag} {H : Hp} : ∀ L : List Nat, DpAll K H (L.map nV) (L.map fun n : Nat => PyData.int (n : Int))
  | [] => .nil
  | n :: L => .cons (.int _) (dp_ints L)
theorem list_good {L : List Nat} (h : byteS L) : (listD L).showable = true ∧ (listD L).hasDict = false ∧ (listD L).depth ≤ 1 ∧ (listD L).shown.length ≤ 5 * L.length + 3 := by
  have key : ∀ L : List Nat, byteS L → PyData.showableAll (L.map fun n : Nat => PyData.int (n : Int)) = true ∧ PyData.hasDictAll (L.map fun n : Nat => PyData.int (n : Int)) = false ∧ PyData.depthAll (L.map fun n : Nat => PyData.int (n : Int)) = 0 ∧
      ((PyData.shownAll (L.map fun n : Nat => PyData.int (n : Int))).map (·.length)).sum ≤ 3 * L.length ∧ (PyData.shownAll (L.map fun n : Nat => PyData.int (n : Int))).length = L.length := by
    intro L
    induction L with
    | nil => intro _; exact ⟨by simp only [List.map_nil, PyData.showableAll], by simp only [List.map_nil, PyData.hasDictAll], by simp only [List.map_nil, PyData.depthAll], by simp [PyData.shownAll], by simp [PyData.shownAll]⟩
    | cons n L ih =>
      intro h
      obtain ⟨a1, a2, a3, a4, a5⟩ := ih fun c hc => h c (List.mem_cons_of_mem _ hc)
      have hn := h n (List.mem_cons_self ..)
      have sl : (PyData.shown (.int (n : Int))).length ≤ 3 := by
        rw [int_shown]
        exact TL.numL_len (by decide) (by omega)
      refine ⟨?_, ?_, ?_, ?_, ?_⟩
      · simp only [List.map_cons, PyData.showableAll, Bool.and_eq_true, a1, and_true]
        simp only [PyData.showable, decide_eq_true_eq]
        exact log_small (Nat.lt_of_lt_of_le (show n < 10 ^ 3 by omega) (Nat.pow_le_pow_right (by decide) (by decide)))
      · simp only [List.map_cons, PyData.hasDictAll, a2, PyData.hasDict, Bool.or_self]
      · simp only [List.map_cons, PyData.depthAll, a3, PyData.depth, Nat.max_self]
      · simp only [List.map_cons, PyData.shownAll, List.sum_cons, List.length_cons]
        omega
      · simp only [List.map_cons, PyData.shownAll, List.length_cons]
        omega
  obtain ⟨a1, a2, a3, a4, a5⟩ := key L h
  unfold listD
  refine ⟨by simp only [PyData.showable]; exact a1, by simp only [PyData.hasDict]; exact a2, by simp only [PyData.depth]; omega, ?_⟩
  simp only [PyData.shown]
  have t := listText_len_le (PyData.shownAll (L.map fun n : Nat => PyData.int (n : Int)))
  omega
theorem list_lay (L : List Nat) : (listD L).canLay0 = true ∧ SeqAt.shaped (listD L) = true := by
  have key : ∀ L : List Nat, PyData.canLayAll0 (L.map fun n : Nat => PyData.int (n : Int)) = true ∧ PyData.depthAll (L.map fun n : Nat => PyData.int (n : Int)) = 0 := by
    intro L
    induction L with
    | nil => exact ⟨by simp [PyData.canLayAll0], by simp [PyData.depthAll]⟩
    | cons n L ih => exact ⟨by rw [List.map_cons, PyData.canLayAll0, ih.1]; simp [PyData.canLay0], by rw [List.map_cons, PyData.depthAll, ih.2]; simp [PyData.depth]⟩
  have c : (listD L).canLay0 = true := by
    unfold listD
    rw [PyData.canLay0]
    exact (key L).1
  refine ⟨c, ?_⟩
  unfold SeqAt.shaped
  rw [c]
  refine decide_eq_true ?_
  unfold listD
  rw [PyData.depth, (key L).2]
  decide
theorem cut_in (kd : Nat) (t : List Nat) : cutV ((entO kd t).map nV) (some 5) (some (-2)) = t.map nV := by
  have n : ((entO kd t).map nV).length = t.length + 7 := by rw [List.length_map, entO_len]
  have e1 : HT.sIx (t.length + 7) 0 (some 5) = 5 := by
    have := HT.sIx_nat (t.length + 7) 0 5
    rw [Nat.min_eq_left (by omega)] at this
    exact this
  have e2 : HT.sIx (t.length + 7) (t.length + 7) (some (-2)) = t.length + 5 := by
    show (if (-2 : Int) < 0 then ((-2 : Int) + ((t.length + 7 : Nat) : Int)).toNat else min (-2 : Int).toNat (t.length + 7)) = _
    rw [if_pos (by decide)]
    omega
  unfold cutV
  rw [n, e1, e2, ← List.map_drop, ← List.map_take]
  congr 1
  show ((entO kd t).drop 5).take (t.length + 5 - 5) = t
  have : (entO kd t).drop 5 = t ++ [chk (kd :: t) / 256, chk (kd :: t) % 256] := by
    unfold entO head4
    simp
  rw [this, Nat.add_sub_cancel, List.take_left' rfl]
/-- what the program's functions promise -/
def spEntP (K : PySem.W.Frag) : Sp := fun vs H Q _ => ∃ (kd : Nat) (v : V) (d : PyData), vs = [.int (kd : Int), v] ∧ Dp K H v d ∧ Oc.plain d = true ∧ d.showable = true ∧ need d ≤ 401 ∧ (octs d).length ≤ 5000 ∧
  ∀ (p : Addr) (H' : Hp), Same H H' → H p = none → H' p = some (.lst ((entO kd (octs d)).map nV)) → Q (.ref p) H'
def spEntryAt (K : PySem.W.Frag) : Sp := fun vs H Q _ => ∃ (a : Addr) (L : List Nat) (i : Nat), vs = [.ref a, .int (i : Int)] ∧ SqL K H a (L.map nV) ∧ byteS L ∧ runOk 500 0 L = true ∧ i ≤ L.length ∧ L.length ≤ 5000 ∧
  (entS L i = none → ∀ H', Same H H' → Q .non H') ∧ ∀ kd d e, entS L i = some (kd, d, e) → ∀ (t : Addr) (v : V) (H' : Hp), Same H H' → H' t = some (.tup [.int (kd : Int), v, .int (e : Int)]) → Dp K H' v d → Q (.ref t) H'
def spWritten (K : PySem.W.Frag) : Sp := fun vs H Q _ => ∃ (v : V) (d : PyData), vs = [v] ∧ Dp K H v d ∧ Oc.plain d = true ∧ d.showable = true ∧ need d ≤ 401 ∧ (octs d).length ≤ 5000 ∧ ∀ (p : Addr) (H' : Hp), Same H H' → H' p = some (.lst ((octs d).map nV)) → Q (.ref p) H'
def spLaw (K : PySem.W.Frag) : Sp := fun vs H Q _ => ∃ (a : Addr) (ns : List Int), vs = [.ref a] ∧ SqL K H a (ns.map V.int) ∧ ns.length ≤ 63 ∧ ∀ H', Q (.bl true) H'
section
variable {P : Program} {w : World} {K : PySem.W.Frag} {mg : Str → Option Value} {base : Heap}
theorem fnB_nox {x : Str} {st : Stmt} {N ps : List Str} {dp un : Nat} {g : Bool} {sp : Sp} {fd : FuncData} (F : FunD K x x (defArgs st) (defBody st) (defScope st) [] [] (He.ga K x) fd) (S : FnScope N ps (defScope st)) (len : ∀ vs H Q E, sp vs H Q E → vs.length = ps.length)
    (hbody : ∀ (cdv : Value) (A : Around) (outer : List Env) (s : Shared) (H : Hp) (vs : List V) (Q : VK) (E : XK), Gk.Rm dp un g (A.deeper (envOfC x (defScope st) s.heap.objs.size (He.ga K x) cdv)) → sp vs H Q E →
      ∃ t, PSs (cxOf CX0 P w K mg base N x (defScope st) (He.ga K x) cdv A outer s H E).nox (defBody st) t ∧ t { nx := fun _ H' => Q .non H', rt := Q } (start N vs) H) : Gk.FnB P w K mg base CX0 (dp + 1) (un + 3) g (He.ga K x) fd ps sp :=
  Gk.fnB_in F S len fun cdv A outer s H vs Q E room want => let ⟨t, h, z⟩ := hbody cdv A outer s H vs Q E room want; ⟨t, h.nox, z⟩
/-- behind the first loop -/
def Built (K : PySem.W.Frag) (b l : Addr) (pre : List Nat) (E : List Ent) (o pl : Addr) (H : Hp) : Prop := ∃ vs : List V, H o = some (.lst ((pre ++ flat E).map nV)) ∧ H pl = some (.lst vs) ∧ DpAll K H vs (placesD pre.length E) ∧ BoxAt H b l ∧ o ≠ b ∧ pl ≠ b ∧ o ≠ pl ∧ pl ≠ l
/-- a place of the list -/
theorem place_of {K : PySem.W.Frag} {H : Hp} {v : V} {x y : Int} {d : PyData} (h : Dp K H v (.tuple [.int x, .int y, d])) : ∃ (q : Addr) (w : V), v = .ref q ∧ SqT K H q [.int x, .int y, w] ∧ Dp K H w d := by
  cases h with
  | tup h1 h2 =>
    cases h2 with
    | cons a h2 => cases h2 with
      | cons b h2 => cases h2 with
        | cons c h2 =>
          cases h2
          cases a
          cases b
          exact ⟨_, _, rfl, h1, c⟩
theorem Built.kp {b l o pl : Addr} {pre : List Nat} {E : List Ent} {H H' : Hp} (h : Built K b l pre E o pl H) (hk : Kp b H H') (B : BoxAt H' b l) (ok : ∀ e ∈ E, okE e) : Built K b l pre E o pl H' := by
  obtain ⟨vs, h1, h2, h3, h4, h5, h6, h7, h8⟩ := h
  obtain ⟨ys, hb⟩ := h4.box
  exact ⟨vs, hk _ _ h5 h1, hk _ _ h6 h2, DpAll.kp hb hk _ _ (placesD_plain _ _ ok) h3, B, h5, h6, h7, h8⟩
theorem Built.same {b l o pl : Addr} {pre : List Nat} {E : List Ent} {H H' : Hp} (h : Built K b l pre E o pl H) (s : Same H H') (ok : ∀ e ∈ E, okE e) : Built K b l pre E o pl H' := by
  obtain ⟨vs, h1, h2, h3, h4, r⟩ := id h
  exact h.kp (ks s) (h4.same s) ok
theorem c_law (T : Txt K mg) (c_entry : Gk.CalB P w K mg base (L2.CX P w) 680 8000 false "entry" (spEntP K)) (c_entry_at : Gk.CalB P w K mg base (L2.CX P w) 680 8000 false "entry_at" (spEntryAt K))
    (c_check_number : Gk.CalB P w K mg base (L2.CX P w) 680 8000 false "check_number" (spCheck K)) (c_written : Gk.CalB P w K mg base (L2.CX P w) 680 8000 false "written" (spWritten K)) :
    ∀ fd, FunD K "law" "law" (defArgs s_law) (defBody s_law) (defScope s_law) [] [] (He.ga K "law") fd → Gk.FnB P w K mg base CX0 691 8203 true (He.ga K "law") fd ["script"] (spLaw K) := by
  intro fd F
  have c_law_box : Gk.CalB P w K mg base CX0 11 232 false "_law_box" (spBox K) := calB_cal (c_law_box T) (by decide) (by decide)
  have c_law_take : Gk.CalB P w K mg base CX0 11 232 false "_law_take" spTake := calB_cal (c_law_take T) (by decide) (by decide)
  have c_law_pick : Gk.CalB P w K mg base CX0 11 232 false "_law_pick" (spPick K) := calB_cal (c_law_pick T) (by decide) (by decide)
  have c_law_plain : Gk.CalB P w K mg base CX0 15 244 false "_law_plain" (spPlain K 3) := c_plain T 3
  have c_law_entry : Gk.CalB P w K mg base CX0 417 1603 false "_law_entry" (spEnt K) := c_ent T
  have c_law_check : Gk.CalB P w K mg base CX0 6 303 false "_law_check" (spCheck K) := c_check T
  have c_law_there : Gk.CalB P w K mg base CX0 9 403 false "_law_there" (spThere K) := c_there T
  refine fnB_nox F sc_law (fun vs H Q E h => ?_) (fun cdv A outer s H vs Q E (rm : Gk.Rm 690 8200 true _) h => ?_)
  · obtain ⟨a, ns, rfl, _⟩ := h
    rfl
  · obtain ⟨a, ns, rfl, hS, hlen, k⟩ := h
    have hgd : (A.deeper (envOfC "law" (defScope s_law) s.heap.objs.size (He.ga K "law") cdv)).guards = some [] := rm.show_ rfl
    have hrm : (A.deeper (envOfC "law" (defScope s_law) s.heap.objs.size (He.ga K "law") cdv)).units + 1100 < cLine := by have := rm.unit; omega
    have hr64 : (A.deeper (envOfC "law" (defScope s_law) s.heap.objs.size (He.ga K "law") cdv)).units + 64 < cLine := by omega
    refine ⟨_, (pss_cons (ps_set (i := 1) sc_law.nd rfl (by first | exact .inl rfl | exact .inr rfl) (Gk.pe_b c_law_box rm (by first | decide | omega) (by first | decide | omega) (by decide) (by rfl) pass0 (pa_cons (pv 0) pa_nil)))
  (pss_cons (ps_par (i := 2) (j := 3) (by rfl) sc_law.nd rfl rfl (by decide) rfl rfl (pa_cons (pe_lc (own := [("k", 8)]) (g := gName 8) rfl sc_law.nd (pi_range1 rfl T.z_range (pa_cons (Gk.pe_b c_law_pick rm (by first | decide | omega) (by first | decide | omega) (by decide) (by rfl) pass0 (pa_cons (pv 1) (pa_cons (pe_lst (pa_cons pe_int (pa_cons pe_int (pa_cons pe_int pa_nil)))) pa_nil))) pa_nil)) (blkOk_by (own := [("k", 8)]) (N := n_law) (sc := defScope s_law) (by decide +kernel)) (fun _ _ _ _ _ => (pg_name (i := 8) sc_law.nd rfl (by first | exact .inl rfl | exact .inr rfl))) (fun _ _ _ _ _ => pts_nil) (fun _ _ _ _ _ => (Gk.pe_b c_law_take rm (by first | decide | omega) (by first | decide | omega) (by decide) (by rfl) pass0 (pa_cons (pv 1) (pa_cons pe_int pa_nil))))) (pa_cons (pe_lst pa_nil) pa_nil)) (by rfl))
  (C8.pss_cut (ps_for PassesOwn.never rfl (pi_range1 rfl T.z_range (pa_cons (pe_op op_add pe_int (Gk.pe_b c_law_take rm (by first | decide | omega) (by first | decide | omega) (by decide) (by rfl) pass0 (pa_cons (pv 1) (pa_cons pe_int pa_nil)))) pa_nil)) (pg_name (i := 4) sc_law.nd rfl (by first | exact .inl rfl | exact .inr rfl))
    (pss_cons (ps_par (i := 5) (j := 6) (by rfl) sc_law.nd rfl rfl (by decide) rfl rfl (pa_cons (Gk.pe_b c_law_pick rm (by first | decide | omega) (by first | decide | omega) (by decide) (by rfl) pass0 (pa_cons (pv 1) (pa_cons (pe_lst (pa_cons pe_int (pa_cons pe_int (pa_cons pe_int (pa_cons pe_int (pa_cons pe_int (pa_cons pe_int (pa_cons pe_int (pa_cons pe_int (pa_cons pe_int (pa_cons pe_int pa_nil))))))))))) pa_nil))) (pa_cons (Gk.pe_b c_law_plain rm (by first | decide | omega) (by first | decide | omega) (by decide) (by rfl) pass0 (pa_cons (pv 1) (pa_cons pe_int pa_nil))) pa_nil)) (by rfl))
  (C8.pss_cut (ps_if (pt_cmpR op_eq (Gk.pe_b c_law_take rm (by first | decide | omega) (by first | decide | omega) (by decide) (by rfl) pass0 (pa_cons (pv 1) (pa_cons pe_int pa_nil))) pe_int (nomark _))
    (pss_one (ps_set (i := 6) sc_law.nd rfl (by first | exact .inl rfl | exact .inr rfl) (pe_tup (pa_cons (pv 6) (pa_cons (pe_op op_times pe_str (Gk.pe_b c_law_pick rm (by first | decide | omega) (by first | decide | omega) (by decide) (by rfl) pass0 (pa_cons (pv 1) (pa_cons (pe_lst (pa_cons pe_int (pa_cons pe_int (pa_cons pe_int (pa_cons pe_int pa_nil))))) pa_nil)))) pa_nil)))))
    pss_nil)
  (pss_cons (ps_set (i := 7) sc_law.nd rfl (by first | exact .inl rfl | exact .inr rfl) (Gk.pe_b c_entry rm (by first | decide | omega) (by first | decide | omega) (by decide) (by rfl) passL (pa_cons (pv 5) (pa_cons (pv 6) pa_nil))))
  (pss_cons (ps_if (pt_cmpR op_ne (pe_callB (Gk.cr_repr hgd hrm) (by rfl) T.z_repr (by decide +kernel) (pa_cons (pv 7) pa_nil)) (pe_callB (Gk.cr_repr hgd hrm) (by rfl) T.z_repr (by decide +kernel) (pa_cons (Gk.pe_b c_law_entry rm (by first | decide | omega) (by first | decide | omega) (by decide) (by rfl) pass0 (pa_cons (pv 5) (pa_cons (pv 6) pa_nil))) pa_nil)) (nomark _))
    (pss_one (ps_ret pe_bl))
    pss_nil)
  (pss_cons (ps_expr (pe_bm PySem.F.plainAttrs_list PySem.F.slot_list_append PySem.F.type_list_append mt_append (pv 3) (pa_cons (pe_tup (pa_cons (pe_callB call_len_seq (by rfl) T.z_len (by decide +kernel) (pa_cons (pv 2) pa_nil)) (pa_cons (pv 5) (pa_cons (pv 6) pa_nil)))) pa_nil)))
  (pss_one (ps_set (i := 2) sc_law.nd rfl (by first | exact .inl rfl | exact .inr rfl) (pe_op op_cat (pv 2) (pv 7))))))))))
  (C8.pss_cut (ps_for PassesOwn.never rfl (pi_enum (by rfl) T.z_enumerate (pa_cons (pv 3) pa_nil)) (pg_tup (by rfl) (pgs_cons (pg_name (i := 8) sc_law.nd rfl (by first | exact .inl rfl | exact .inr rfl)) (pgs_cons (pg_name (i := 9) sc_law.nd rfl (by first | exact .inl rfl | exact .inr rfl)) pgs_nil)))
    (C8.pss_cut (ps_set (i := 10) sc_law.nd rfl (by first | exact .inl rfl | exact .inr rfl) (pe_ifExp (pt_cmpR op_lt (pe_op op_add (pv 8) pe_int) (pe_callB call_len_seq (by rfl) T.z_len (by decide +kernel) (pa_cons (pv 3) pa_nil)) (nomark _)) (pe_ix ix_tup (pe_ix ix_list (pv 3) (pe_op op_add (pv 8) pe_int) (fun _ _ => rfl)) pe_int (fun _ _ => rfl)) (pe_callB call_len_seq (by rfl) T.z_len (by decide +kernel) (pa_cons (pv 2) pa_nil))))
  (pss_cons (ps_if (pt_cmpR op_ne (pe_callB (Gk.cr_repr hgd hrm) (by rfl) T.z_repr (by decide +kernel) (pa_cons (Gk.pe_b c_entry_at rm (by first | decide | omega) (by first | decide | omega) (by decide) (by rfl) passL (pa_cons (pv 2) (pa_cons (pe_ix ix_tup (pv 9) pe_int (fun _ _ => rfl)) pa_nil))) pa_nil)) (pe_callB (Gk.cr_repr hgd hrm) (by rfl) T.z_repr (by decide +kernel) (pa_cons (pe_tup (pa_cons (pe_ix ix_tup (pv 9) pe_int (fun _ _ => rfl)) (pa_cons (pe_ix ix_tup (pv 9) pe_int (fun _ _ => rfl)) (pa_cons (pv 10) pa_nil)))) pa_nil)) (nomark _))
    (pss_one (ps_ret pe_bl))
    pss_nil)
  (pss_one (ps_if (pt_cmpR op_notN (Gk.pe_b c_entry_at rm (by first | decide | omega) (by first | decide | omega) (by decide) (by rfl) passL (pa_cons (pe_slice sl_list (pv 2) po_none (po_some (pe_op op_sub (pe_op op_sub (pv 10) pe_int) (Gk.pe_b c_law_take rm (by first | decide | omega) (by first | decide | omega) (by decide) (by rfl) pass0 (pa_cons (pv 1) (pa_cons (pe_op op_sub (pv 10) (pe_ix ix_tup (pv 9) pe_int (fun _ _ => rfl))) pa_nil)))))) (pa_cons (pe_ix ix_tup (pv 9) pe_int (fun _ _ => rfl)) pa_nil))) pe_non (nomark _))
    (pss_one (ps_ret pe_bl))
    pss_nil)))))
  (pss_cons (ps_asg (Gk.pe_b c_law_pick rm (by first | decide | omega) (by first | decide | omega) (by decide) (by rfl) pass0 (pa_cons (pv 1) (pa_cons (pv 3) pa_nil))) (pg_tup (by rfl) (pgs_cons (pg_name (i := 11) sc_law.nd rfl (by first | exact .inl rfl | exact .inr rfl)) (pgs_cons (pg_name (i := 5) sc_law.nd rfl (by first | exact .inl rfl | exact .inr rfl)) (pgs_cons (pg_name (i := 6) sc_law.nd rfl (by first | exact .inl rfl | exact .inr rfl)) pgs_nil)))))
  (pss_cons (ps_set (i := 12) sc_law.nd rfl (by first | exact .inl rfl | exact .inr rfl) (pe_op op_add (pv 11) (Gk.pe_b c_law_take rm (by first | decide | omega) (by first | decide | omega) (by decide) (by rfl) pass0 (pa_cons (pv 1) (pa_cons (pe_op op_sub (pe_callB call_len_seq (by rfl) T.z_len (by decide +kernel) (pa_cons (pv 2) pa_nil)) (pv 11)) pa_nil)))))
  (pss_cons (ps_set (i := 13) sc_law.nd rfl (by first | exact .inl rfl | exact .inr rfl) (pe_op op_cat (pe_op op_cat (pe_slice sl_list (pv 2) po_none (po_some (pv 12))) (pe_lst (pa_cons (pe_op op_modN (pe_op op_add (pe_op op_add (pe_ix ix_list (pv 2) (pv 12) (fun _ _ => rfl)) pe_int) (Gk.pe_b c_law_take rm (by first | decide | omega) (by first | decide | omega) (by decide) (by rfl) pass0 (pa_cons (pv 1) (pa_cons pe_int pa_nil)))) pe_int) pa_nil))) (pe_slice sl_list (pv 2) (po_some (pe_op op_add (pv 12) pe_int)) po_none)))
  (C8.pss_cut (ps_par (i := 14) (j := 15) (by rfl) sc_law.nd rfl rfl (by decide) rfl rfl (pa_cons (Gk.pe_b c_entry_at rm (by first | decide | omega) (by first | decide | omega) (by decide) (by rfl) passL (pa_cons (pv 13) (pa_cons (pv 11) pa_nil))) (pa_cons (Gk.pe_b c_law_entry rm (by first | decide | omega) (by first | decide | omega) (by decide) (by rfl) pass0 (pa_cons (pv 5) (pa_cons (pv 6) pa_nil))) pa_nil)) (by rfl))
  (pss_cons (ps_if (pt_cmpR op_ge (pv 12) (pe_op op_add (pv 11) (pe_callB call_len_seq (by rfl) T.z_len (by decide +kernel) (pa_cons (pv 15) pa_nil))) (nomark _))
    (pss_one (ps_ret (pe_cmpR op_eq (pe_callB (Gk.cr_repr hgd hrm) (by rfl) T.z_repr (by decide +kernel) (pa_cons (pv 14) pa_nil)) (pe_callB (Gk.cr_repr hgd hrm) (by rfl) T.z_repr (by decide +kernel) (pa_cons (pe_tup (pa_cons (pv 5) (pa_cons (pv 6) (pa_cons (pe_op op_add (pv 11) (pe_callB call_len_seq (by rfl) T.z_len (by decide +kernel) (pa_cons (pv 15) pa_nil))) pa_nil)))) pa_nil)) (nomark _))))
    pss_nil)
  (pss_cons (ps_if (pt_cmpR op_isN (Gk.pe_b c_law_there rm (by first | decide | omega) (by first | decide | omega) (by decide) (by rfl) pass0 (pa_cons (pv 13) (pa_cons (pv 11) pa_nil))) pe_non (nomark _))
    (pss_one (ps_ret (pe_and (pe_cmpR op_isN (pv 14) pe_non (nomark _)) (pe_one (pe_cmpR op_eq (Gk.pe_b c_check_number rm (by first | decide | omega) (by first | decide | omega) (by decide) (by rfl) passL (pa_cons (pv 2) pa_nil)) (Gk.pe_b c_law_check rm (by first | decide | omega) (by first | decide | omega) (by decide) (by rfl) pass0 (pa_cons (pv 2) pa_nil)) (nomark _))))))
    pss_nil)
  (pss_cons (ps_if (pt_cmpR op_isN (pv 14) pe_non (nomark _))
    (pss_one (ps_ret pe_bl))
    pss_nil)
  (pss_cons (ps_set (i := 7) sc_law.nd rfl (by first | exact .inl rfl | exact .inr rfl) (Gk.pe_b c_law_entry rm (by first | decide | omega) (by first | decide | omega) (by decide) (by rfl) pass0 (pa_cons (pe_ix ix_tup (pv 14) pe_int (fun _ _ => rfl)) (pa_cons (pe_ix ix_tup (pv 14) pe_int (fun _ _ => rfl)) pa_nil))))
  (pss_one (ps_ret (pe_and (pe_cmpR (op_eqD hr64) (pe_slice sl_list (pv 13) (po_some (pv 11)) (po_some (pe_ix ix_tup (pv 14) pe_int (fun _ _ => rfl)))) (pv 7) (nomark _)) (pe_and (pe_cmpR op_eq (pe_ix ix_tup (pv 14) pe_int (fun _ _ => rfl)) (pe_op op_add (pv 11) (pe_callB call_len_seq (by rfl) T.z_len (by decide +kernel) (pa_cons (pv 7) pa_nil))) (nomark _)) (pe_one (pe_cmpR (op_eqD hr64) (Gk.pe_b c_written rm (by first | decide | omega) (by first | decide | omega) (by decide) (by rfl) passL (pa_cons (pe_ix ix_tup (pv 14) pe_int (fun _ _ => rfl)) pa_nil)) (pe_slice sl_list (pv 7) (po_some pe_int) (po_some (pe_un un_neg pe_int))) (nomark _))))))))))))))))))), ?_⟩
    refine ⟨.ref a, rfl, a, ns, rfl, hS, by omega, fun b l H1 nb nl B1 s1 => ?_⟩
    -- octets, places
    refine ⟨_, rfl, by show 3 ≤ sizeLine; decide, fun p np => ?_⟩
    obtain ⟨f1, f2⟩ := B1.free np
    refine ⟨b, l, p, _, rfl, B1.upd f1 f2, SqL.of upd_same, f1.symm, by show 0 < 3; decide, by show 3 < 1000000000; decide, fun nv H2 hnv B2 o2 => ?_⟩
    obtain ⟨n, rfl, hn⟩ : ∃ n : Nat, nv = .int (n : Int) ∧ n ≤ 3 := by
      revert hnv
      simp only [List.mem_cons, List.not_mem_nil, or_false]
      intro hnv
      rcases hnv with z | z | z
      · exact ⟨0, z, by decide⟩
      · exact ⟨0, z, by decide⟩
      · exact ⟨3, z, by decide⟩
    refine ⟨_, rfl, by omega, by omega, fun o nO => lc_range (lo := 0) (n := n) (fun j H' => ∃ L0 : List Nat, H' o = some (.lst (L0.map nV)) ∧ L0.length = j ∧ byteS L0 ∧ BoxAt H' b l) ⟨[], upd_same, rfl, byte_nil, B2.upd (B2.free nO).1 (B2.free nO).2⟩ (fun j H' hj z => ?_) (fun H' z => ?_)⟩
    · obtain ⟨L0, e1, e2, e3, e4⟩ := z
      obtain ⟨g1, g2⟩ := B2.free nO
      refine ⟨rfl, _, rfl, b, l, 256, rfl, e4, by decide, by decide, fun t H3 t0 t1 B3 o3 => ⟨_, (o3 _ g1.symm).trans e1, ?_, ?_⟩⟩
      · rw [List.length_map, e2]
        exact Nat.lt_of_lt_of_le (show j < 1000000 by omega) (by decide)
      · obtain ⟨c, rfl⟩ := Int.eq_ofNat_of_zero_le t0
        refine ⟨L0 ++ [c], by rw [upd_same, List.map_append]; rfl, by rw [List.length_append, e2]; rfl, byte_cat e3 (byte_cons (by omega) byte_nil), B3.upd g1 g2⟩
    obtain ⟨pre, e1, e2, e3, B3⟩ := z
    have o_b : o ≠ b := (B2.free nO).1.symm
    refine ⟨Nat.zero_le _, fun pl npl => ⟨_, _, rfl, ?_⟩⟩
    obtain ⟨g1, g2⟩ := B3.free npl
    have o_pl : o ≠ pl := ne_of_none e1 npl
    have built0 : Built K b l pre [] o pl (upd H' pl (.lst [])) := ⟨[], by rw [upd_ne o_pl]; show _ = some (HO.lst ((pre ++ []).map nV)); rw [List.append_nil]; exact e1, upd_same, .nil, B3.upd g1 g2, o_b, g1.symm, o_pl, g2.symm⟩
    generalize upd H' pl (.lst []) = H4 at built0
    -- the entries
    refine ⟨fun σ1 H5 => ∃ (E : List Ent) (o : Addr) (y4 y5 y6 y7 : Option V), σ1 = [some (.ref a), some (.ref b), some (.ref o), some (.ref pl), y4, y5, y6, y7, none, none, none, none, none, none, none, none] ∧ Built K b l pre E o pl H5 ∧ (∀ e ∈ E, okE e) ∧ 0 < E.length ∧ E.length ≤ 3, ?_, ?_⟩
    · obtain ⟨_, _, _, _, B4, _⟩ := id built0
      refine ⟨_, rfl, b, l, 3, rfl, B4, by decide, by decide, fun t H5 t0 t1 B5 o5 => ⟨_, _, rfl, rfl, 1 + t, rfl, by omega, by omega, ?_⟩⟩
      refine for_range (lo := 0) (n := (1 + t).toNat) (fun j σ1 H6 => ∃ (E : List Ent) (o : Addr) (y4 y5 y6 y7 : Option V), σ1 = [some (.ref a), some (.ref b), some (.ref o), some (.ref pl), y4, y5, y6, y7, none, none, none, none, none, none, none, none] ∧ Built K b l pre E o pl H6 ∧ (∀ e ∈ E, okE e) ∧ E.length = j) ⟨[], o, none, none, none, none, rfl, built0.kp (Kp.of o5) B5 (fun e he => nomatch he), fun e he => (nomatch he), rfl⟩ (fun j σ1 H6 hj z => ?_) (fun σ1 H6 z => ?_)
      · obtain ⟨E, o, y4, y5, y6, y7, rfl, bu, ok, hE⟩ := z
        obtain ⟨_, _, _, _, B6, _⟩ := id bu
        refine ⟨_, rfl, by show 10 ≤ sizeLine; decide, fun p np => ?_⟩
        obtain ⟨f1, f2⟩ := B6.free np
        have bu1 := bu.same (same_upd (o := .lst [.int 1, .int 2, .int 3, .int 4, .int 5, .int 6, .int 7, .int 8, .int 0, .int 255]) np) ok
        refine ⟨b, l, p, _, rfl, B6.upd f1 f2, SqL.of upd_same, f1.symm, by show 0 < 10; decide, by show 10 < 1000000000; decide, fun kv H7 hkv B7 o7 => ?_⟩
        have bu2 := bu1.kp (Kp.of o7) B7 ok
        obtain ⟨kd, rfl, hkd⟩ : ∃ kd : Nat, kv = .int (kd : Int) ∧ kd < 256 := by
          revert hkv
          simp only [List.mem_cons, List.not_mem_nil, or_false]
          intro hkv
          rcases hkv with z | z | z | z | z | z | z | z | z | z
          · exact ⟨1, z, by decide⟩
          · exact ⟨2, z, by decide⟩
          · exact ⟨3, z, by decide⟩
          · exact ⟨4, z, by decide⟩
          · exact ⟨5, z, by decide⟩
          · exact ⟨6, z, by decide⟩
          · exact ⟨7, z, by decide⟩
          · exact ⟨8, z, by decide⟩
          · exact ⟨0, z, by decide⟩
          · exact ⟨255, z, by decide⟩
        refine ⟨_, rfl, b, l, rfl, B7, fun v d H8 B8 k8 hv hd nd sz => ⟨_, _, rfl, ?_⟩⟩
        have bu3 := bu2.kp k8 B8 ok
        have pl_ := drawn_plain d hd
        have sz944 : (octs d).length ≤ 944 := sz
        refine ⟨fun σ1 H9 => ∃ (v1 : V) (d1 : PyData), σ1 = [some (.ref a), some (.ref b), some (.ref o), some (.ref pl), some (.int (0 + (j : Int))), some (.int (kd : Int)), some v1, y7, none, none, none, none, none, none, none, none] ∧ Built K b l pre E o pl H9 ∧ Dp K H9 v1 d1 ∧ paid d1, ?_, ?_⟩
        · refine ⟨_, rfl, b, l, 6, rfl, B8, by decide, by decide, fun t H9 t0 t1 B9 o9 => ⟨rfl, _, rfl, ?_⟩⟩
          have bu4 := bu3.kp (Kp.of o9) B9 ok
          obtain ⟨ys8, hb8⟩ := B8.box
          have hv9 := Dp.kp hb8 (Kp.of o9) d v pl_ hv
          refine ite2 (fun e => ?_) (fun e => ?_)
          · refine ⟨_, rfl, _, rfl, by show 4 ≤ sizeLine; decide, fun p np => ?_⟩
            obtain ⟨f1, f2⟩ := B9.free np
            refine ⟨b, l, p, _, rfl, B9.upd f1 f2, SqL.of upd_same, f1.symm, by show 0 < 4; decide, by show 4 < 1000000000; decide, fun nv H10 hnv B10 o10 => ?_⟩
            have kk : Kp b H9 H10 := kt (kn Kp.refl np) (Kp.of o10)
            have bu5 := bu4.kp kk B10 ok
            obtain ⟨ys9, hb9⟩ := B9.box
            have hv10 := Dp.kp hb9 kk d v pl_ hv9
            have long : ∀ n : Int, MulOk (Str.ofString "a") n → (TL.tl (Txt.mul (Str.ofString "a") n)).all okc = true → ((TL.tl (Txt.mul (Str.ofString "a") n)).all fun c => !(dig c)) = true → (TL.tl (Txt.mul (Str.ofString "a") n)).length ≤ 400 → nv = .int n →
                ∃ (a : Str) (m : Int), V.str (Str.ofString "a") = .str a ∧ nv = .int m ∧ MulOk a m ∧ (TL.tl (Txt.mul a m)).all okc = true ∧ (∀ c ∈ TL.tl (Txt.mul a m), dig c = false) ∧ (TL.tl (Txt.mul a m)).length ≤ 400 := fun n h1 h2 h3 h4 h5 =>
              ⟨_, n, rfl, h5, h1, h2, fun c hc => by simpa using List.all_eq_true.mp h3 c hc, h4⟩
            have found : ∃ (a : Str) (m : Int), V.str (Str.ofString "a") = .str a ∧ nv = .int m ∧ MulOk a m ∧ (TL.tl (Txt.mul a m)).all okc = true ∧ (∀ c ∈ TL.tl (Txt.mul a m), dig c = false) ∧ (TL.tl (Txt.mul a m)).length ≤ 400 := by
              revert hnv
              simp only [List.mem_cons, List.not_mem_nil, or_false]
              intro hnv
              rcases hnv with z | z | z | z
              · exact long 240 ⟨by decide +kernel, fun _ _ => by decide +kernel, fun _ _ => by decide +kernel⟩ (by decide +kernel) (by decide +kernel) (by decide +kernel) z
              · exact long 250 ⟨by decide +kernel, fun _ _ => by decide +kernel, fun _ _ => by decide +kernel⟩ (by decide +kernel) (by decide +kernel) (by decide +kernel) z
              · exact long 260 ⟨by decide +kernel, fun _ _ => by decide +kernel, fun _ _ => by decide +kernel⟩ (by decide +kernel) (by decide +kernel) (by decide +kernel) z
              · exact long 400 ⟨by decide +kernel, fun _ _ => by decide +kernel, fun _ _ => by decide +kernel⟩ (by decide +kernel) (by decide +kernel) (by decide +kernel) z
            obtain ⟨a1, m1, ea, em, mo, h2, h3, h4⟩ := found
            refine ⟨a1, m1, ea, em, mo, by show 2 ≤ sizeLine; decide, fun q nq => ?_⟩
            exact ⟨.ref q, .tuple [d, .str (Txt.mul a1 m1)], rfl, bu5.same (same_upd nq) ok, .tup (SqT.of upd_same) (.cons (Dp.same (same_upd nq) _ _ hv10) (.cons (.str _) .nil)), paid_long hd nd sz944 h2 h3 h4⟩
          · exact ⟨v, d, rfl, bu4, hv9, paid_drawn hd nd sz944⟩
        rintro σ1 H9 ⟨v1, d1, rfl, bu4, hv1, pd⟩
        have gd := plain_good pd.1 (by decide : 31 ≤ 500) pd.2.1
        have n1 := pd.2.2.1
        have z1 := pd.2.2.2
        have okN : okE (kd, d1) := ⟨hkd, pd⟩
        have lg := list_good (entE_byte okN)
        have el : (entO kd (octs d1)).length = (octs d1).length + 7 := entO_len ..
        have szE : (listD (entO kd (octs d1))).shown.length ≤ sizeLine := size_fit (by have := lg.2.2.2; unfold entE at this; simp only at this; omega)
        refine ⟨_, rfl, _, rfl, kd, v1, d1, rfl, hv1, pd.1, gd.2.1, by omega, by omega, fun p H10 s10 np hp => ?_⟩
        have bu5 := bu4.same s10 ok
        refine ⟨_, rfl, _, listD (entO kd (octs d1)), rfl, .lst (SqL.of hp) (dp_ints _), lg.1, lg.2.1, by have := lg.2.2.1; unfold entE at this; simp only at this; omega, szE, ?_⟩
        refine ⟨_, rfl, _, rfl, kd, v1, d1, rfl, Dp.same s10 _ _ hv1, pd.1, gd.2.1, by omega, by omega, fun q H11 s11 nq hq => ?_⟩
        have bu6 := bu5.same s11 ok
        refine ⟨_, listD (entO kd (octs d1)), rfl, .lst (SqL.of hq) (dp_ints _), lg.1, lg.2.1, by have := lg.2.2.1; unfold entE at this; simp only at this; omega, szE, ?_⟩
        refine ⟨rfl, _, rfl, ?_⟩
        rw [decide_eq_true rfl]
        refine iteF ?_
        have hp11 := s11 _ _ hp
        have hv11 := Dp.same s11 _ _ (Dp.same s10 _ _ hv1)
        obtain ⟨vs, i1, i2, i3, B11, i5, i6, i7, i8⟩ := id bu6
        refine ⟨_, rfl, .inl ⟨rfl, _, SqL.of i2⟩, _, rfl, o, _, rfl, .inl (SqL.of i1), _, rfl, _, rfl, by show 3 ≤ sizeLine; decide, fun t nt => ?_⟩
        have ht := ne_of_none i2 nt
        have vl : vs.length = E.length := by rw [DpAll.len i3, placesD_len]
        refine ⟨pl, vs, .ref t, rfl, rfl, (by rw [upd_ne ht]; exact i2), ?_, ?_⟩
        · rw [vl, hE]
          exact Nat.lt_of_lt_of_le (show j < 1000000 by omega) (by decide)
        have s12 := same_upd (o := .tup [.int (((pre ++ flat E).map nV).length : Int), .int (kd : Int), v1]) nt
        generalize hX : upd H11 t (.tup [.int (((pre ++ flat E).map nV).length : Int), .int (kd : Int), v1]) = H12 at s12
        have ht12 : H12 t = some (.tup [.int (((pre ++ flat E).map nV).length : Int), .int (kd : Int), v1]) := by rw [← hX]; exact upd_same
        have i2' := s12 _ _ i2
        have up : ∀ x u, x ≠ pl → H12 x = some u → (upd H12 pl (.lst (vs ++ [.ref t]))) x = some u := fun x u hx hu => by rw [upd_ne hx]; exact hu
        have p_pl : p ≠ pl := by
          obtain ⟨_, _, q2, _⟩ := bu4
          exact (ne_of_none q2 np).symm
        have fl := (flat_good E ok).2.2
        refine ⟨_, rfl, _, rfl, o, p, _, _, rfl, rfl, up _ _ i7 (s12 _ _ i1), up _ _ p_pl (s12 _ _ hp11), ?_, fun o' no' => ?_⟩
        · refine size_fit ?_
          rw [List.length_map, List.length_map, List.length_append, el]
          omega
        have hE' : E.length < 3 := by omega
        have pok := placesD_plain pre.length E ok
        have B12 := B11.same s12
        have C12 := B12.upd (o := .lst (vs ++ [.ref t])) (D := pl) i6.symm i8.symm
        obtain ⟨c1, c2⟩ := C12.free no'
        have t_pl : t ≠ pl := fun z => by
          rw [z, i2'] at ht12
          cases ht12
        have pl_o' : pl ≠ o' := fun z => by
          rw [← z, upd_same] at no'
          cases no'
        have hv12 := Dp.same s12 _ _ hv11
        have places : DpAll K (upd H12 pl (.lst (vs ++ [.ref t]))) (vs ++ [.ref t]) (placesD pre.length (E ++ [(kd, d1)])) := by
          rw [placesD_snoc]
          refine DpAll.snoc (DpAll.upd i2' _ _ pok (DpAll.same s12 _ _ i3)) (.tup (SqT.of (up _ _ t_pl ht12)) (.cons ?_ (.cons (.int _) (.cons (Dp.upd i2' _ _ pd.1 hv12) .nil))))
          rw [List.length_map, List.length_append]
          exact .int _
        have sN := same_upd (o := .lst ((pre ++ flat E).map nV ++ (entO kd (octs d1)).map nV)) no'
        refine ⟨E ++ [(kd, d1)], o', _, _, _, _, rfl, ⟨vs ++ [.ref t], ?_, (by rw [upd_ne pl_o', upd_same]), DpAll.same sN _ _ places, C12.same sN, c1.symm, i6, pl_o'.symm, i8⟩, ?_, by rw [List.length_append, hE]; rfl⟩
        · rw [upd_same, flat_app, ← List.map_append]
          show some (HO.lst _) = some (HO.lst ((pre ++ (flat E ++ (entE (kd, d1) ++ []))).map nV))
          rw [List.append_nil, List.append_assoc]
          rfl
        · intro e he
          rcases List.mem_append.mp he with z | z
          · exact ok e z
          · rw [List.mem_singleton.mp z]
            exact okN
      · obtain ⟨E, o, y4, y5, y6, y7, rfl, bu, ok, hE⟩ := z
        exact ⟨E, o, y4, y5, y6, y7, rfl, bu, ok, by omega, by omega⟩
    rintro σ1 H5 ⟨E, o, y4, y5, y6, y7, rfl, bu, ok, E0, E3⟩
    obtain ⟨vs, i1, i2, i3, B5, i5, i6, i7, i8⟩ := bu
    have vl : vs.length = E.length := by rw [DpAll.len i3, placesD_len]
    have pok := placesD_plain pre.length E ok
    have fg := flat_good E ok
    have Obyte : byteS (pre ++ flat E) := byte_cat e3 fg.1
    have Orun : runOk 500 0 (pre ++ flat E) = true := run_le (show 3 + 38 * E.length ≤ 500 by omega) (run_cat (a := 3) (b := 38 * E.length) (Nat.zero_le _) (run_short (by omega)) fg.2.1)
    have Olen : (pre ++ flat E).length ≤ 4300 := by
      rw [List.length_append]
      have := fg.2.2
      omega
    -- each is found, and not when cut
    refine ⟨fun σ1 H6 => ∃ (y8 y9 y10 : Option V), σ1 = [some (.ref a), some (.ref b), some (.ref o), some (.ref pl), y4, y5, y6, y7, y8, y9, y10, none, none, none, none, none] ∧ BoxAt H6 b l ∧ Kp b H5 H6, ?_, ?_⟩
    · refine ⟨_, rfl, pl, vs, rfl, SqL.of i2, for_it (walk_enum (K := K) (a := pl) (xs := vs)) (fun j σ1 H6 => ∃ (y8 y9 y10 : Option V), σ1 = [some (.ref a), some (.ref b), some (.ref o), some (.ref pl), y4, y5, y6, y7, y8, y9, y10, none, none, none, none, none] ∧ BoxAt H6 b l ∧ Kp b H5 H6) ⟨none, none, none, rfl, B5, Kp.refl⟩ (fun j σ1 H6 _ z => ?_) (fun j v σ1 H6 H7 hj z y => ?_) (fun σ1 H6 z => z)⟩
      · obtain ⟨_, _, _, _, _, k6⟩ := z
        exact SqL.of (k6 _ _ i6 i2)
      · obtain ⟨y8, y9, y10, rfl, B6, k6⟩ := z
        obtain ⟨T_, x, z, rfl, nT, rfl, ex, ez⟩ := y
        cases ex
        have ez : vs[j]? = some z := ez
        rw [vl] at hj
        obtain ⟨e, he⟩ : ∃ e, E[j]? = some e := ⟨_, List.getElem?_eq_getElem hj⟩
        have oke := ok e (List.mem_of_getElem? he)
        obtain ⟨ys5, hb5⟩ := B5.box
        have i3' := DpAll.kp hb5 k6 _ _ pok i3
        obtain ⟨dd, hdd, hz⟩ := DpAll.at i3' ez
        rw [placesD_at _ _ _ _ he] at hdd
        cases hdd
        obtain ⟨g1, g2⟩ := B6.free nT
        have B7 := B6.upd (o := .tup [.int (j : Int), z]) g1 g2
        have sT := same_upd (o := .tup [.int (j : Int), z]) nT
        obtain ⟨q, w0, rfl, hq, hw⟩ := place_of (Dp.same sT _ _ hz)
        have k7 : Kp b H5 (upd H6 T_ (.tup [.int (j : Int), .ref q])) := kt k6 (ks sT)
        refine ⟨T_, _, rfl, SqT.of upd_same, rfl, _, _, rfl, _, _, rfl, rfl, ?_⟩
        generalize upd H6 T_ (.tup [.int (j : Int), .ref q]) = H7 at B7 sT hq hw k7
        have spl := flat_split he
        have O_ : pre ++ flat E = (pre ++ flat (E.take j)) ++ (entE e ++ flat (E.drop (j + 1))) := by rw [spl, List.append_assoc]
        have stl : (pre ++ flat (E.take j)).length = pre.length + (flat (E.take j)).length := List.length_append
        have here := ent_here (A := pre ++ flat (E.take j)) (B := flat (E.drop (j + 1))) oke
        rw [← O_, stl] at here
        have fit : pre.length + (flat (E.take j)).length + ((octs e.2).length + 7) ≤ (pre ++ flat E).length := by
          rw [O_, List.length_append, List.length_append, List.length_append, entE_len]
          omega
        refine ⟨fun σ1 H8 => H8 = H7 ∧ σ1 = [some (.ref a), some (.ref b), some (.ref o), some (.ref pl), y4, y5, y6, y7, some (.int (j : Int)), some (.ref q), some (.int ((pre.length + (flat (E.take j)).length + ((octs e.2).length + 7) : Nat) : Int)), none, none, none, none, none], ?_, ?_⟩
        · refine ⟨_, rfl, _, _, rfl, rfl, _, rfl, pl, vs, rfl, .inl (SqL.of (k7 _ _ i6 i2)), _, _, rfl, rfl, _, rfl, ite2 (fun h => ?_) (fun h => ?_)⟩
          · have h := of_decide_eq_true h
            rw [vl] at h
            obtain ⟨z2, hz2⟩ : ∃ z, vs[j + 1]? = some z := ⟨_, List.getElem?_eq_getElem (by rw [vl]; omega)⟩
            obtain ⟨e2', he2⟩ : ∃ e, E[j + 1]? = some e := ⟨_, List.getElem?_eq_getElem (by omega)⟩
            obtain ⟨dd, hdd, hz2'⟩ := DpAll.at (DpAll.same sT _ _ i3') hz2
            rw [placesD_at _ _ _ _ he2] at hdd
            cases hdd
            obtain ⟨q2, w2, rfl, hq2, _⟩ := place_of hz2'
            have at2 : atI vs ((j + 1 : Nat) : Int) = some (.ref q2) := atI_nat hz2
            refine ⟨_, rfl, _, rfl, _, _, rfl, rfl, _, _, _, _, rfl, rfl, SqL.of (k7 _ _ i6 i2), at2, _, _, _, _, rfl, rfl, hq2, rfl, rfl, ?_⟩
            rw [flat_next he, ← Nat.add_assoc]
            rfl
          · have h : ¬ (j : Int) + 1 < (vs.length : Int) := fun z => h (decide_eq_true z)
            rw [vl] at h
            have last : E.drop (j + 1) = [] := List.drop_eq_nil_of_le (by omega)
            refine ⟨_, rfl, o, _, rfl, .inl (SqL.of (k7 _ _ i5 i1)), rfl, ?_⟩
            rw [List.length_map, O_, last, List.length_append, stl]
            show _ = [_, _, _, _, _, _, _, _, _, _, some (V.int ((pre.length + (flat (E.take j)).length + ((octs e.2).length + 7) : Nat) : Int)), _, _, _, _, _]
            rw [← entE_len e]
            show [_, _, _, _, _, _, _, _, _, _, some (V.int ((pre.length + (flat (E.take j)).length + (entE e ++ []).length : Nat) : Int)), _, _, _, _, _] = _
            rw [List.append_nil]
        rintro σ1 H8 ⟨eH, rfl⟩
        cases eH
        have ge := plain_good oke.2.1 (by decide : 31 ≤ 500) oke.2.2.1
        have ne6 := oke.2.2.2.1
        have le14 := oke.2.2.2.2
        have tg := trip_good ge (a := e.1) (e := pre.length + (flat (E.take j)).length + ((octs e.2).length + 7)) oke.1 (by omega)
        have tdep := tg.2.2.1
        have tsz := tg.2.2.2
        refine ⟨_, rfl, _, rfl, _, _, _, _, rfl, rfl, hq, rfl, o, pre ++ flat E, pre.length + (flat (E.take j)).length, rfl, SqL.of (k7 _ _ i5 i1), Obyte, Orun, by omega, by omega, (fun hn => (by rw [here] at hn; cases hn)), fun kd d e' hs t w1 H8 s8 ht hw8 => ?_⟩
        rw [here] at hs
        cases hs
        refine ⟨_, .tuple [.int (e.1 : Int), e.2, .int ((pre.length + (flat (E.take j)).length + ((octs e.2).length + 7) : Nat) : Int)], rfl, .tup (SqT.of ht) (.cons (.int _) (.cons hw8 (.cons (.int _) .nil))), tg.1, tg.2.1, by omega, size_fit (by omega), ?_⟩
        have hq8 := Same.tup s8 hq
        refine ⟨_, rfl, _, _, _, _, rfl, rfl, hq8, rfl, _, rfl, _, _, _, _, rfl, rfl, hq8, rfl, _, rfl, by show 3 ≤ sizeLine; decide, fun t2 nt2 => ?_⟩
        have s9 := same_upd (o := .tup [.int (e.1 : Int), w0, .int ((pre.length + (flat (E.take j)).length + ((octs e.2).length + 7) : Nat) : Int)]) nt2
        refine ⟨_, .tuple [.int (e.1 : Int), e.2, .int ((pre.length + (flat (E.take j)).length + ((octs e.2).length + 7) : Nat) : Int)], rfl, .tup (SqT.of upd_same) (.cons (.int _) (.cons (Dp.same s9 _ _ (Dp.same s8 _ _ hw)) (.cons (.int _) .nil))), tg.1, tg.2.1, by omega, size_fit (by omega), ?_⟩
        refine ⟨rfl, _, rfl, ?_⟩
        rw [decide_eq_true rfl]
        refine iteF ?_
        have k8 := kt k7 (ks s8)
        have B8 := B7.same s8
        obtain ⟨x1, x2⟩ := B8.free nt2
        have B9 := B8.upd (o := .tup [.int (e.1 : Int), w0, .int ((pre.length + (flat (E.take j)).length + ((octs e.2).length + 7) : Nat) : Int)]) x1 x2
        have k9 := kt k8 (ks s9)
        have hq9 := Same.tup s9 hq8
        generalize upd H8 t2 (.tup [.int (e.1 : Int), w0, .int ((pre.length + (flat (E.take j)).length + ((octs e.2).length + 7) : Nat) : Int)]) = H9 at B9 k9 hq9
        obtain ⟨ys9, hb9⟩ := B9.box
        refine ⟨_, rfl, _, rfl, _, _, rfl, rfl, _, rfl, _, rfl, _, rfl, _, _, _, _, rfl, rfl, hq9, rfl, _, _, rfl, rfl, b, l, _, rfl, B9, by omega, by omega, fun t H10 t0 t1 B10 o10 => ?_⟩
        obtain ⟨tn, rfl⟩ := Int.eq_ofNat_of_zero_le t0
        have k10 := kt k9 (Kp.of o10)
        have hq10 := SqT.kp hb9 (Kp.of o10) hq9
        refine ⟨_, _, rfl, rfl, _, rfl, o, _, rfl, SqL.of (k10 _ _ i5 i1), fun S nS => ?_⟩
        have im : ((pre.length + (flat (E.take j)).length + ((octs e.2).length + 7) : Nat) : Int) - 1 - ((tn : Nat) : Int) = ((pre.length + (flat (E.take j)).length + ((octs e.2).length + 7) - 1 - tn : Nat) : Int) := by omega
        have cm : cutV ((pre ++ flat E).map nV) none (some (((pre.length + (flat (E.take j)).length + ((octs e.2).length + 7) : Nat) : Int) - 1 - ((tn : Nat) : Int))) = ((pre ++ flat E).take (pre.length + (flat (E.take j)).length + ((octs e.2).length + 7) - 1 - tn)).map nV := by
          rw [im]
          exact cut_take _ _
        rw [cm]
        have sS := same_upd (o := .lst (((pre ++ flat E).take (pre.length + (flat (E.take j)).length + ((octs e.2).length + 7) - 1 - tn)).map nV)) nS
        have cutN := ent_cut (A := pre ++ flat (E.take j)) (B := flat (E.drop (j + 1))) (m := pre.length + (flat (E.take j)).length + ((octs e.2).length + 7) - 1 - tn) oke (by omega) (by omega)
        rw [← O_, stl] at cutN
        refine ⟨_, rfl, _, _, _, _, rfl, rfl, Same.tup sS hq10, rfl, S, (pre ++ flat E).take (pre.length + (flat (E.take j)).length + ((octs e.2).length + 7) - 1 - tn), pre.length + (flat (E.take j)).length, rfl, SqL.of upd_same, byte_take Obyte _, run_take Orun _, ?_, ?_, fun _ H11 s11 => ?_, (fun kd d e' hs => (by rw [cutN] at hs; cases hs))⟩
        · rw [List.length_take]
          omega
        · rw [List.length_take]
          omega
        · have B11 := (B10.same sS).same s11
          exact ⟨rfl, _, rfl, iteF ⟨_, _, _, rfl, B11, kt k10 (kt (ks sS) (ks s11))⟩⟩
    rintro σ1 H6 ⟨y8, y9, y10, rfl, B6, k6⟩
    -- one of them, one octet changed
    refine ⟨_, rfl, _, rfl, b, l, pl, vs, rfl, B6, SqL.of (k6 _ _ i6 i2), i6, by omega, by omega, fun v H7 hv B7 o7 => ?_⟩
    have k7 := kt k6 (Kp.of o7)
    obtain ⟨j, hj⟩ := List.mem_iff_getElem?.mp hv
    have hjl : j < E.length := by
      have := (List.getElem?_eq_some_iff.mp hj).1
      omega
    obtain ⟨e, he⟩ : ∃ e, E[j]? = some e := ⟨_, List.getElem?_eq_getElem hjl⟩
    have oke := ok e (List.mem_of_getElem? he)
    obtain ⟨ys5, hb5⟩ := B5.box
    obtain ⟨dd, hdd, hz⟩ := DpAll.at (DpAll.kp hb5 k7 _ _ pok i3) hj
    rw [placesD_at _ _ _ _ he] at hdd
    cases hdd
    obtain ⟨q, w0, rfl, hq, hw⟩ := place_of hz
    have spl := flat_split he
    have O_ : pre ++ flat E = (pre ++ flat (E.take j)) ++ (entE e ++ flat (E.drop (j + 1))) := by rw [spl, List.append_assoc]
    have stl : (pre ++ flat (E.take j)).length = pre.length + (flat (E.take j)).length := List.length_append
    have fit : pre.length + (flat (E.take j)).length + ((octs e.2).length + 7) ≤ (pre ++ flat E).length := by
      rw [O_, List.length_append, List.length_append, List.length_append, entE_len]
      omega
    generalize hst : pre.length + (flat (E.take j)).length = st at *
    generalize hO : pre ++ flat E = O at *
    refine ⟨q, _, rfl, hq, rfl, _, _, rfl, _, _, rfl, _, _, rfl, rfl, ?_⟩
    have len : ((O.map nV).length : Int) = (O.length : Int) := by rw [List.length_map]
    refine ⟨_, rfl, _, rfl, _, rfl, o, _, rfl, .inl (SqL.of (k7 _ _ i5 i1)), _, rfl, _, _, rfl, rfl, b, l, _, rfl, B7, by rw [len]; omega, by rw [len]; omega, fun t H8 t0 t1 B8 o8 => ⟨_, _, rfl, rfl, ?_⟩⟩
    obtain ⟨tn, rfl⟩ := Int.eq_ofNat_of_zero_le t0
    rw [len] at t1
    have k8 := kt k7 (Kp.of o8)
    obtain ⟨ys7, hb7⟩ := B7.box
    have pe := oke.2.1
    have hw8 := Dp.kp hb7 (Kp.of o8) _ _ pe hw
    have ep : ((st : Nat) : Int) + ((tn : Nat) : Int) = ((st + tn : Nat) : Int) := by omega
    show (tSeq _ _ : TS) _ [some (.ref a), some (.ref b), some (.ref o), some (.ref pl), y4, some (.int (e.1 : Int)), some w0, y7, y8, y9, y10, some (.int (st : Int)), some (.int (((st : Nat) : Int) + ((tn : Nat) : Int))), none, none, none] H8
    rw [ep]
    have pcl : st + tn < O.length := by omega
    generalize hpc : st + tn = pc at *
    have ct := cut_take O pc
    have cd1 : cutV (O.map nV) (some ((pc : Int) + 1)) none = (O.drop (pc + 1)).map nV := cut_drop O (pc + 1)
    obtain ⟨x, hx⟩ : ∃ x, O[pc]? = some x := ⟨_, List.getElem?_eq_getElem pcl⟩
    refine ⟨_, rfl, _, rfl, _, rfl, o, _, rfl, SqL.of (k8 _ _ i5 i1), fun S nS => ?_⟩
    rw [ct]
    obtain ⟨g1, g2⟩ := B8.free nS
    have B8' := B8.upd (o := .lst ((O.take pc).map nV)) g1 g2
    have k8' := kn (o := .lst ((O.take pc).map nV)) k8 nS
    have sS := same_upd (o := .lst ((O.take pc).map nV)) nS
    refine ⟨_, rfl, _, rfl, _, _, _, _, rfl, rfl, SqL.of (k8' _ _ i5 i1), nV_at hx, _, _, rfl, rfl, _, rfl, b, l, 255, rfl, B8', by decide, by decide, fun t2 H9 u0 u1 B9 o9 => ?_⟩
    obtain ⟨un, rfl⟩ := Int.eq_ofNat_of_zero_le u0
    have k9 := kt k8' (Kp.of o9)
    have hS9 : H9 S = some (.lst ((O.take pc).map nV)) := (o9 S g1.symm).trans upd_same
    refine ⟨_, _, rfl, rfl, _, _, rfl, rfl, (by show (256 : Int) ≠ 0; decide), by show 1 ≤ sizeLine; decide, fun S1 nS1 => ?_⟩
    have ec : (((x : Nat) : Int) + 1 + ((un : Nat) : Int)).fmod 256 = (((x + 1 + un) % 256 : Nat) : Int) := by
      rw [← fmodN]
      congr 1
    have hc256 : (x + 1 + un) % 256 < 256 := Nat.mod_lt _ (by decide)
    have eu : upd H9 S1 (.lst [V.int ((((x : Nat) : Int) + 1 + ((un : Nat) : Int)).fmod 256)]) = upd H9 S1 (.lst [V.int (((x + 1 + un) % 256 : Nat) : Int)]) := by rw [ec]
    rw [eu]
    clear eu ec
    generalize (x + 1 + un) % 256 = c at hc256
    obtain ⟨g3, g4⟩ := B9.free nS1
    have B10 := B9.upd (o := .lst [.int (c : Int)]) g3 g4
    have k10 := kn (o := .lst [.int (c : Int)]) k9 nS1
    have n1 : S ≠ S1 := ne_of_none hS9 nS1
    refine ⟨S, S1, _, _, rfl, rfl, by rw [upd_ne n1]; exact hS9, upd_same, size_fit (by rw [List.length_map, List.length_take]; show _ + 1 ≤ _; omega), fun S2 nS2 => ?_⟩
    obtain ⟨g5, g6⟩ := B10.free nS2
    have B11 := B10.upd (o := .lst ((O.take pc).map nV ++ [.int (c : Int)])) g5 g6
    have k11 := kn (o := .lst ((O.take pc).map nV ++ [.int (c : Int)])) k10 nS2
    refine ⟨_, rfl, _, rfl, _, _, rfl, rfl, _, rfl, o, _, rfl, SqL.of (k11 _ _ i5 i1), fun S3 nS3 => ?_⟩
    rw [cd1]
    obtain ⟨g7, g8⟩ := B11.free nS3
    have B12 := B11.upd (o := .lst ((O.drop (pc + 1)).map nV)) g7 g8
    have k12 := kn (o := .lst ((O.drop (pc + 1)).map nV)) k11 nS3
    have n23 : S2 ≠ S3 := fun z => by rw [← z, upd_same] at nS3; cases nS3
    refine ⟨S2, S3, _, _, rfl, rfl, by rw [upd_ne n23, upd_same], upd_same, size_fit (by rw [List.length_append, List.length_map, List.length_map, List.length_take, List.length_drop]; show _ + 1 + _ ≤ _; omega), fun sp nsp => ?_⟩
    obtain ⟨g9, g10⟩ := B12.free nsp
    have B13 := B12.upd (o := .lst ((O.take pc).map nV ++ [.int (c : Int)] ++ (O.drop (pc + 1)).map nV)) g9 g10
    have k13 := kn (o := .lst ((O.take pc).map nV ++ [.int (c : Int)] ++ (O.drop (pc + 1)).map nV)) k12 nsp
    have kw : Kp b H8 (upd (upd (upd (upd H9 S1 (.lst [.int (c : Int)])) S2 (.lst ((O.take pc).map nV ++ [.int (c : Int)]))) S3 (.lst ((O.drop (pc + 1)).map nV))) sp (.lst ((O.take pc).map nV ++ [.int (c : Int)] ++ (O.drop (pc + 1)).map nV))) :=
      kn (kn (kn (kn (kt (kn Kp.refl nS) (Kp.of o9)) nS1) nS2) nS3) nsp
    have hsp : (upd (upd (upd (upd H9 S1 (.lst [.int (c : Int)])) S2 (.lst ((O.take pc).map nV ++ [.int (c : Int)]))) S3 (.lst ((O.drop (pc + 1)).map nV))) sp (.lst ((O.take pc).map nV ++ [.int (c : Int)] ++ (O.drop (pc + 1)).map nV))) sp = some (.lst (((O.take pc ++ [c]) ++ O.drop (pc + 1)).map nV)) := by
      rw [upd_same, List.map_append, List.map_append]
      rfl
    obtain ⟨ys8, hb8⟩ := B8.box
    have hw13 := Dp.kp hb8 kw _ _ pe hw8
    generalize upd (upd (upd (upd H9 S1 (.lst [.int (c : Int)])) S2 (.lst ((O.take pc).map nV ++ [.int (c : Int)]))) S3 (.lst ((O.drop (pc + 1)).map nV))) sp (.lst ((O.take pc).map nV ++ [.int (c : Int)] ++ (O.drop (pc + 1)).map nV)) = H13 at B13 k13 kw hsp hw13
    have Mlen : ((O.take pc ++ [c]) ++ O.drop (pc + 1)).length = O.length := by
      rw [List.length_append, List.length_append, List.length_take, List.length_drop]
      show min pc O.length + 1 + (O.length - (pc + 1)) = _
      omega
    have Mbyte : byteS ((O.take pc ++ [c]) ++ O.drop (pc + 1)) := byte_cat (byte_cat (byte_take Obyte _) (byte_cons hc256 byte_nil)) (byte_drop Obyte _)
    have Orun2 : runOk 200 0 O = true := by
      rw [← hO]
      exact run_le (show 3 + 38 * E.length ≤ 200 by omega) (run_cat (a := 3) (b := 38 * E.length) (Nat.zero_le _) (run_short (by omega)) fg.2.1)
    have Mrun : runOk 500 0 ((O.take pc ++ [c]) ++ O.drop (pc + 1)) = true := run_le (show 200 + 1 + 200 ≤ 500 by decide) (run_cat (a := 200 + 1) (b := 200) (Nat.zero_le _) (run_cat (a := 200) (b := 1) (Nat.zero_le _) (run_take Orun2 _) (run_short (Nat.le_refl _))) (run_drop Orun2 _))
    generalize hM : (O.take pc ++ [c]) ++ O.drop (pc + 1) = M at Mlen Mbyte Mrun hsp
    have ge := plain_good pe (by decide : 31 ≤ 500) oke.2.2.1
    have ne6 := oke.2.2.2.1
    have le14 := oke.2.2.2.2
    have el : (entO e.1 (octs e.2)).length = (octs e.2).length + 7 := entO_len ..
    have O5 : O.length ≤ 4300 := Olen
    -- what is found, and the entry as it was
    refine ⟨fun σ1 H15 => ∃ (fv : V) (p : Addr), σ1 = [some (.ref a), some (.ref b), some (.ref o), some (.ref pl), y4, some (.int (e.1 : Int)), some w0, y7, y8, y9, y10, some (.int (st : Int)), some (.int (pc : Int)), some (.ref sp), some fv, some (.ref p)] ∧ Same H13 H15 ∧ H15 p = some (.lst ((entO e.1 (octs e.2)).map nV)) ∧
      (fv = .non ∧ entS M st = none ∨ ∃ (t3 : Addr) (kd3 : Nat) (d3 : PyData) (e3 : Nat) (w3 : V), fv = .ref t3 ∧ entS M st = some (kd3, d3, e3) ∧ H15 t3 = some (.tup [.int (kd3 : Int), w3, .int (e3 : Int)]) ∧ Dp K H15 w3 d3), ?_, ?_⟩
    · refine ⟨_, rfl, _, rfl, sp, M, st, rfl, SqL.of hsp, Mbyte, Mrun, by omega, by omega, fun hn H14 s14 => ?_, fun kd3 d3 e3 hs t3 w3 H14 s14 ht3 hw3 => ?_⟩
      · exact ⟨_, rfl, _, rfl, e.1, w0, e.2, rfl, Dp.same s14 _ _ hw13, pe, ge.2.1, by omega, by omega, fun p H15 s15 np hp => ⟨_, _, rfl, _, p, rfl, Same.trans s14 s15, hp, .inl ⟨rfl, hn⟩⟩⟩
      · exact ⟨_, rfl, _, rfl, e.1, w0, e.2, rfl, Dp.same s14 _ _ hw13, pe, ge.2.1, by omega, by omega, fun p H15 s15 np hp => ⟨_, _, rfl, _, p, rfl, Same.trans s14 s15, hp, .inr ⟨t3, kd3, d3, e3, w3, rfl, hs, s15 _ _ ht3, Dp.same s15 _ _ hw3⟩⟩⟩
    rintro σ1 H15 ⟨fv, p, rfl, s15, hp, hf⟩
    have hsp15 := s15 _ _ hsp
    have hw15 := Dp.same s15 _ _ hw13
    have ho15 : H15 o = some (.lst (O.map nV)) := s15 _ _ (k13 _ _ i5 i1)
    have lown : (((entO e.1 (octs e.2)).map nV).length : Int) = (((octs e.2).length + 7 : Nat) : Int) := by rw [List.length_map, el]
    refine ⟨_, rfl, _, rfl, _, rfl, p, _, rfl, .inl (SqL.of hp), _, _, rfl, rfl, _, _, rfl, rfl, _, rfl, ite2 (fun h => ?_) (fun h => ?_)⟩
    · -- behind the entry
      have h := of_decide_eq_true h
      rw [lown] at h
      have hle : st + ((octs e.2).length + 7) ≤ pc := by omega
      have tk : M.take (st + ((octs e.2).length + 7)) = (pre ++ flat (E.take j)) ++ entE e := by
        rw [← hM, List.append_assoc, List.take_append_of_le_length (by rw [List.length_take]; omega), List.take_take, Nat.min_eq_left hle, O_, ← List.append_assoc, List.take_left' (by rw [List.length_append, stl, entE_len])]
      have M_ : M = (pre ++ flat (E.take j)) ++ (entE e ++ M.drop (st + ((octs e.2).length + 7))) := by
        rw [← List.append_assoc, ← tk, List.take_append_drop]
      have here := ent_here (A := pre ++ flat (E.take j)) (B := M.drop (st + ((octs e.2).length + 7))) oke
      rw [← M_, stl] at here
      rcases hf with ⟨_, hn⟩ | ⟨t3, kd3, d3, e3, w3, rfl, hs, ht3, hw3⟩
      · rw [here] at hn
        cases hn
      rw [here] at hs
      cases hs
      have tg := trip_good ge (a := e.1) (e := st + ((octs e.2).length + 7)) oke.1 (by omega)
      have tdep := tg.2.2.1
      have tsz := tg.2.2.2
      refine ⟨_, rfl, _, .tuple [.int (e.1 : Int), e.2, .int ((st + ((octs e.2).length + 7) : Nat) : Int)], rfl, .tup (SqT.of ht3) (.cons (.int _) (.cons hw3 (.cons (.int _) .nil))), tg.1, tg.2.1, by omega, size_fit (by omega), ?_⟩
      refine ⟨_, rfl, _, rfl, _, rfl, _, rfl, p, _, rfl, .inl (SqL.of hp), _, _, rfl, rfl, by show 3 ≤ sizeLine; decide, fun t2 nt2 => ?_⟩
      have s16 := same_upd (o := .tup [.int (e.1 : Int), w0, .int ((st : Int) + (((entO e.1 (octs e.2)).map nV).length : Int))]) nt2
      refine ⟨_, .tuple [.int (e.1 : Int), e.2, .int ((st + ((octs e.2).length + 7) : Nat) : Int)], rfl, .tup (SqT.of upd_same) (.cons (.int _) (.cons (Dp.same s16 _ _ hw15) (.cons ?_ .nil))), tg.1, tg.2.1, by omega, size_fit (by omega), ?_⟩
      · have : ((st + ((octs e.2).length + 7) : Nat) : Int) = (st : Int) + (((entO e.1 (octs e.2)).map nV).length : Int) := by rw [lown]; omega
        rw [this]
        exact .int _
      · refine ⟨rfl, ?_⟩
        rw [decide_eq_true rfl]
        exact k _
    -- the law's own look
    refine ⟨_, rfl, _, rfl, sp, M, st, rfl, SqL.of hsp15, by omega, fun hn H16 s16 => ?_, fun e5 he5 H16 s16 => ?_⟩
    · have noE : entS M st = none := by
        unfold entS
        rw [hn]
      rcases hf with ⟨rfl, _⟩ | ⟨t3, kd3, d3, e3, w3, _, hs, _⟩
      · refine ⟨rfl, _, rfl, iteT ⟨_, rfl, rfl, _, rfl, iteT ?_⟩⟩
        refine ⟨_, rfl, o, O, rfl, SqL.of (s16 _ _ ho15), by omega, fun H17 s17 => ⟨_, rfl, o, O, rfl, SqL.of (s17 _ _ (s16 _ _ ho15)), by omega, fun H18 s18 => ⟨rfl, ?_⟩⟩⟩
        rw [decide_eq_true rfl]
        exact k _
      · rw [noE] at hs
        cases hs
    refine ⟨rfl, _, rfl, iteF ?_⟩
    rcases hf with ⟨rfl, _⟩ | ⟨t3, kd3, d3, e3, w3, rfl, hs, ht3, hw3⟩
    · exact ⟨_, rfl, rfl, _, rfl, iteT (k _)⟩
    refine ⟨_, rfl, rfl, _, rfl, iteF ?_⟩
    -- what it is
    have facts3 : kd3 < 256 ∧ Oc.plain d3 = true ∧ d3.showable = true ∧ need d3 ≤ 401 ∧ (octs d3).length ≤ 4300 ∧ st ≤ e3 ∧ e3 ≤ M.length ∧ (M.drop st).take (e3 - st) = entO kd3 (octs d3) ∧ e3 = st + ((octs d3).length + 7) := by
      unfold entS at hs
      rw [he5] at hs
      dsimp only at hs
      cases hwh : wholeS ((M.drop (st + 5)).take (four M st)) with
      | none => rw [hwh] at hs; cases hs
      | some d4 =>
        rw [hwh] at hs
        cases hs
        obtain ⟨a1, a2, a3, a4⟩ := there_inv Mbyte he5
        obtain ⟨b1, b2, b3, b4⟩ := whole_canon hwh (run_take (run_drop Mrun _) _)
        rw [b1] at a3 a4
        refine ⟨?_, b2, b4.2.1, b3, by omega, by omega, a2, a4, by omega⟩
        rw [List.getD_eq_getElem?_getD, List.getElem?_eq_getElem (by omega)]
        exact Mbyte _ (List.getElem_mem _)
    obtain ⟨q1, q2, q3, q4, q5, q6, q7, q8, q9⟩ := facts3
    have ht16 := s16 _ _ ht3
    have hw16 := Dp.same s16 _ _ hw3
    refine ⟨_, rfl, _, _, _, _, rfl, rfl, SqT.of ht16, rfl, _, rfl, _, _, _, _, rfl, rfl, SqT.of ht16, rfl, kd3, w3, d3, rfl, hw16, q2, q3, by omega, by omega, fun p2 H17 s17 np2 hp2 => ?_⟩
    have ht17 := s17 _ _ ht16
    have cm := cut_mid (L := M) (i := st) (j := e3) q6 q7
    rw [q8] at cm
    have el3 : (entO kd3 (octs d3)).length = (octs d3).length + 7 := entO_len ..
    have ly := list_lay (entO kd3 (octs d3))
    refine ⟨_, rfl, _, rfl, _, rfl, _, rfl, _, _, _, _, rfl, rfl, SqT.of ht17, rfl, _, rfl, sp, _, rfl, SqL.of (s17 _ _ (s16 _ _ hsp15)), fun S5 nS5 => ?_⟩
    rw [cm]
    have s18 := same_upd (o := .lst ((entO kd3 (octs d3)).map nV)) nS5
    refine ⟨_, rfl, listD (entO kd3 (octs d3)), listD (entO kd3 (octs d3)), .lst (SqL.of upd_same) (dp_ints _), .lst (SqL.of (s18 _ _ hp2)) (dp_ints _), ly.2, ly.2, _, rfl, ?_⟩
    rw [SeqAt.eqv_refl _ ly.1]
    refine iteT ⟨_, rfl, _, _, _, _, rfl, rfl, SqT.of (s18 _ _ ht17), rfl, _, rfl, _, rfl, p2, _, rfl, .inl (SqL.of (s18 _ _ hp2)), _, _, rfl, rfl, rfl, _, rfl, ?_⟩
    rw [dec_ii, List.length_map, el3, decide_eq_true (by omega)]
    refine iteT ⟨_, rfl, _, _, _, _, rfl, rfl, SqT.of (s18 _ _ ht17), rfl, w3, d3, rfl, Dp.same s18 _ _ (Dp.same s17 _ _ hw16), q2, q3, q4, by omega, fun p6 H19 s19 hp6 => ?_⟩
    refine ⟨_, rfl, _, rfl, _, rfl, _, rfl, p2, _, rfl, SqL.of (s19 _ _ (s18 _ _ hp2)), fun S6 nS6 => ?_⟩
    have ci := cut_in kd3 (octs d3)
    rw [ci]
    have ly2 := list_lay (octs d3)
    refine ⟨listD (octs d3), listD (octs d3), .lst (SqL.of (same_upd nS6 _ _ hp6)) (dp_ints _), .lst (SqL.of upd_same) (dp_ints _), ly2.2, ly2.2, ?_⟩
    rw [SeqAt.eqv_refl _ ly2.1]
    exact k _
end
end K28
set_option Elab.async false
set_option linter.all false
set_option maxRecDepth 100000
set_option exponentiation.threshold 3000
set_option maxHeartbeats 4000000
namespace K28
open PySem PySem.Spec PyProof.Rows L2 Oc
theorem tw_at {p : Nat → Bool} : ∀ {l : List Nat} {j c : Nat}, j ≤ (l.takeWhile p).length → l[j]? = some c → (p c = true ↔ j < (l.takeWhile p).length)
  | [], _, _, _, e => by cases e
  | d :: l, 0, c, _, e => by
    cases e
    rw [List.takeWhile_cons]
    cases h : p d <;> simp_all
  | d :: l, j + 1, c, hj, e => by
    rw [List.takeWhile_cons] at hj ⊢
    cases h : p d
    · rw [h] at hj
      simp at hj
    · rw [h, if_pos rfl, List.length_cons] at hj
      have := tw_at (p := p) (l := l) (j := j) (c := c) (by omega) e
      rw [this]
      simp
theorem tw_le {p : Nat → Bool} : ∀ l : List Nat, (l.takeWhile p).length ≤ l.length
  | [] => Nat.le_refl _
  | d :: l => by
    rw [List.takeWhile_cons]
    cases h : p d
    · simp
    · have := tw_le (p := p) l
      simp only [if_true, List.length_cons]
      omega
theorem tw_take {p : Nat → Bool} : ∀ l : List Nat, l.takeWhile p = l.take (l.takeWhile p).length
  | [] => rfl
  | d :: l => by
    rw [List.takeWhile_cons]
    cases h : p d
    · rfl
    · simp only [if_true, List.length_cons, List.take_succ_cons]
      rw [← tw_take l]
theorem dw_drop {p : Nat → Bool} : ∀ l : List Nat, l.dropWhile p = l.drop (l.takeWhile p).length
  | [] => rfl
  | d :: l => by
    rw [List.takeWhile_cons, List.dropWhile_cons]
    cases h : p d
    · rfl
    · simp only [if_true, List.length_cons, List.drop_succ_cons]
      exact dw_drop l
theorem dig_iff {c : Nat} : dig c = true ↔ 48 ≤ c ∧ c ≤ 57 := by
  unfold dig
  rw [Bool.and_eq_true, decide_eq_true_eq, decide_eq_true_eq]
/-- numS by places -/
theorem numS_at (e : Nat) (l : List Nat) : numS e l = match l[(l.takeWhile dig).length]? with
    | none => none
    | some c => if (l.takeWhile dig).length = 0 ∨ c ≠ e ∨ (l[0]? = some 48 ∧ 1 < (l.takeWhile dig).length) then none else some (NumText.digitsVal (l.takeWhile dig), l.drop ((l.takeWhile dig).length + 1)) := by
  unfold numS
  rw [dw_drop]
  generalize hk : (l.takeWhile dig).length = k
  have hz : (l.takeWhile dig = []) ↔ k = 0 := by rw [← hk]; exact List.length_eq_zero_iff.symm
  cases hd : l.drop k with
  | nil =>
    have : l[k]? = none := by
      rw [List.getElem?_eq_none_iff]
      exact List.drop_eq_nil_iff.mp hd
    rw [this]
  | cons c r =>
    have h1 : l[k]? = some c := by
      have : (l.drop k)[0]? = some c := by rw [hd]; rfl
      rw [List.getElem?_drop] at this
      simpa using this
    have h2 : l.drop (k + 1) = r := by
      have : (l.drop k).drop 1 = r := by rw [hd]; rfl
      rw [List.drop_drop] at this
      exact this
    rw [h1, h2]
    have hh : l.head? = l[0]? := by rw [List.head?_eq_getElem?]
    dsimp only
    rw [hh]
    by_cases h : k = 0 ∨ c ≠ e ∨ (l[0]? = some 48 ∧ 1 < k)
    · rw [if_pos h, if_pos (h.imp hz.mpr id)]
    · rw [if_neg h, if_neg (fun z => h (z.imp hz.mp id))]
def signS (c : Nat) : Str := if okc c = true then ⟨#[c]⟩ else Str.empty
def lowS : Str := Str.ofString " !\"#$"
def highS : Str := Str.ofString "&'()*+,-./0123456789:;<=>?@ABCDEFGHIJKLMNOPQRSTUVWXYZ[\\]^_`abcdefghijklmnopqrstuvwxyz{|}~"
theorem low_at : ∀ c : Nat, c < 256 → 32 ≤ c → c ≤ 36 → lowS.cps.toList[c - 32]? = some c ∧ okc c = true := by decide +kernel
theorem high_at : ∀ c : Nat, c < 256 → 38 ≤ c → c ≤ 126 → highS.cps.toList[c - 38]? = some c ∧ okc c = true := by decide +kernel
theorem rest_at : ∀ c : Nat, c < 256 → ¬ (32 ≤ c ∧ c ≤ 36) → ¬ (38 ≤ c ∧ c ≤ 126) → okc c = (c == 10 || c == 9) := by decide +kernel
theorem signs_len (l : List Nat) (h : l.all okc = true) : ((l.map signS).map (·.length)).sum = l.length := by
  induction l with
  | nil => rfl
  | cons x l ih =>
    rw [List.all_cons, Bool.and_eq_true] at h
    rw [List.map_cons, List.map_cons, List.sum_cons, ih h.2, List.length_cons]
    have : (signS x).length = 1 := by
      unfold signS
      rw [if_pos h.1]
      rfl
    omega
theorem join_signs (l : List Nat) (h : l.all okc = true) : Txt.join Str.empty (l.map signS) = (⟨l.toArray⟩ : Str) := by
  have e : l.map signS = (l.map fun x => [x]).map SX.S := by
    rw [List.map_map]
    refine List.map_congr_left fun x hx => ?_
    unfold signS
    rw [if_pos (List.all_eq_true.mp h x hx)]
    rfl
  rw [e]
  have z := SX.join_S [] (l.map fun x => [x])
  have j : ∀ l : List Nat, TL.joinL [] (l.map fun x => [x]) = l := by
    intro l
    induction l with
    | nil => rfl
    | cons x l ih =>
      cases l with
      | nil => rfl
      | cons y l =>
        show [x] ++ [] ++ TL.joinL [] ((y :: l).map fun x => [x]) = _
        rw [ih]
        rfl
  rw [j] at z
  exact z
theorem intS_other {r : List Nat} (h : r[0]? ≠ some 45) : intS r = match numS 59 r with
    | some (m, q) => some (.int m, q)
    | none => none := by
  cases r with
  | nil => rfl
  | cons c q =>
    unfold intS
    dsimp only
    rw [if_neg (fun z => h (by rw [z]; rfl))]
    all_goals (cases numS 59 (c :: q) <;> rfl)
theorem intS_minus {r : List Nat} : intS (45 :: r) = match numS 59 r with
    | some (m, q) => if m = 0 then none else some (.int (-(m : Int)), q)
    | none => none := by
  unfold intS
  dsimp only
  rw [if_pos rfl]
  all_goals (cases numS 59 r <;> rfl)
def spRead (K : PySem.W.Frag) : Sp := fun vs H Q E => ∃ (a : Addr) (L : List Nat), vs = [.ref a] ∧ SqL K H a (L.map nV) ∧ byteS L ∧ runOk 500 0 L = true ∧ L.length ≤ 5000 ∧
  (∀ d, wholeS L = some d → ∀ (v : V) (H' : Hp), Same H H' → Dp K H' v d → Q v H') ∧ (wholeS L = none → ∀ H', Same H H' → E (.ref (He.ga K "BadForm")) none H')
def Odd (H : Hp) (v : V) : Prop := ∃ a, v = .ref a ∧ ((∃ xs, H a = some (.lst xs)) ∨ H a = some (.dK []))
def spWrittenP (K : PySem.W.Frag) : Sp := fun vs H Q E => ∃ v : V, vs = [v] ∧
  ((∃ d, Dp K H v d ∧ Oc.plain d = true ∧ d.showable = true ∧ need d ≤ 410 ∧ (octs d).length ≤ 5000 ∧ (need d ≤ 401 → ∀ (p : Addr) (H' : Hp), Same H H' → H' p = some (.lst ((octs d).map nV)) → Q (.ref p) H') ∧ (401 < need d → ∀ H', Same H H' → E (.ref (He.ga K "BadForm")) none H')) ∨
   ((Odd H v ∨ ∃ (t : Addr) (o : V), v = .ref t ∧ H t = some (.tup [.int 1, o]) ∧ Odd H o) ∧ ∀ H', Same H H' → E (.ref (He.ga K "BadForm")) none H'))
end K28
set_option Elab.async false
set_option linter.all false
set_option maxRecDepth 100000
set_option maxHeartbeats 4000000
namespace K28
open PySem PySem.Spec PyProof.Rows L2 Oc
/-! ### what is read: octets and a place -/
theorem k_at : ¬ (("octets" : Str)) = "at" := by decide +kernel
def rdF (a : Addr) (i : Int) : List (Str × V) := putF "at" (.int i) (putF "octets" (.ref a) [])
theorem rdF_eq (a : Addr) (i : Int) : rdF a i = ([("octets", V.ref a), ("at", V.int i)] : List (Str × V)) := by
  show (if ("octets" : Str) = "at" then [(("octets" : Str), V.int i)] else (("octets" : Str), V.ref a) :: putF "at" (V.int i) []) = ([("octets", V.ref a), ("at", V.int i)] : List (Str × V))
  rw [if_neg k_at]
  all_goals rfl
theorem rdF_oct (a : Addr) (i : Int) : (rdF a i).lookup ("octets" : Str) = some (.ref a) := by
  unfold rdF
  rw [lookup_putF, if_neg k_at, lookup_putF, if_pos rfl]
theorem rdF_at (a : Addr) (i : Int) : (rdF a i).lookup ("at" : Str) = some (.int i) := by
  unfold rdF
  rw [lookup_putF, if_pos rfl]
theorem rdF_no (a : Addr) (i : Int) {m : Str} (h1 : ¬ m = "at") (h2 : ¬ m = "octets") : (rdF a i).lookup m = none := by
  unfold rdF
  rw [lookup_putF, if_neg h1, lookup_putF, if_neg h2]
  all_goals rfl
theorem rdF_put (a : Addr) (i j : Int) : putF "at" (.int j) (rdF a i) = rdF a j := by
  rw [rdF_eq, rdF_eq]
  show (if ("octets" : Str) = "at" then _ else (("octets" : Str), V.ref a) :: (if ("at" : Str) = "at" then [(("at" : Str), V.int j)] else _)) = ([("octets", V.ref a), ("at", V.int j)] : List (Str × V))
  rw [if_neg k_at, if_pos rfl]
/-- a Reading at p -/
abbrev rdC (K : PySem.W.Frag) : Addr := He.ga K "Reading"
abbrev rdO (K : PySem.W.Frag) (dx a : Addr) (i : Nat) : HO := .ins (rdC K) dx (rdF a (i : Int))
/-- all stays but what stands at p -/
def Kq (p : Addr) (H H' : Hp) : Prop := ∀ b o, H b = some o → b ≠ p → H' b = some o
theorem Kq.refl {p : Addr} {H : Hp} : Kq p H H := fun _ _ e _ => e
theorem Kq.trans {p : Addr} {H H1 H2 : Hp} (h : Kq p H H1) (h' : Kq p H1 H2) : Kq p H H2 := fun b o e n => h' b o (h b o e n) n
theorem Kq.upd {p : Addr} {H H' : Hp} {o : HO} (h : Kq p H H') : Kq p H (upd H' p o) := fun b u e n => by rw [upd_ne n]; exact h b u e n
theorem Kq.same {p : Addr} {H H1 H2 : Hp} (h : Kq p H H1) (s : Same H1 H2) : Kq p H H2 := fun b o e n => s b o (h b o e n)
theorem Kq.seq {K : PySem.W.Frag} {p a : Addr} {H H' : Hp} {xs : List V} (h : Kq p H H') (hp : ∃ C dx fs, H p = some (.ins C dx fs)) (s : SqL K H a xs) : SqL K H' a xs := by
  obtain ⟨C, dx, fs, hp⟩ := hp
  rcases s with (s | ⟨u, s⟩) | s
  · exact .inl (.inl (h _ _ s fun z => by rw [z, hp] at s; cases s))
  · exact .inl (.inr ⟨u, h _ _ s fun z => by rw [z, hp] at s; cases s⟩)
  · exact .inr s
theorem Kq.tup {K : PySem.W.Frag} {p a : Addr} {H H' : Hp} {xs : List V} (h : Kq p H H') (hp : ∀ ys, H p ≠ some (.tup ys)) (hf : ∀ u ys, H p ≠ some (.frz u (.tup ys))) (s : SqT K H a xs) : SqT K H' a xs := by
  rcases s with (s | ⟨u, s⟩) | s
  · exact .inl (.inl (h _ _ s fun z => hp _ (z ▸ s)))
  · exact .inl (.inr ⟨u, h _ _ s fun z => hf _ _ (z ▸ s)⟩)
  · exact .inr s
/-- what stands ahead of a reading method -/
structure RdAt (K : PySem.W.Frag) (H : Hp) (p dx a : Addr) (L : List Nat) (i : Nat) : Prop where
  ob : H p = some (rdO K dx a i)
  oc : SqL K H a (L.map nV)
  le : i ≤ L.length
  by_ : byteS L
  ru : runOk 500 0 L = true
  sz : L.length ≤ 100000
theorem RdAt.go {K : PySem.W.Frag} {H H' : Hp} {p dx a : Addr} {L : List Nat} {i j : Nat} (R : RdAt K H p dx a L i) (k : Kq p H H') (o : H' p = some (rdO K dx a j)) (l : j ≤ L.length) : RdAt K H' p dx a L j :=
  ⟨o, k.seq ⟨_, _, _, R.ob⟩ R.oc, l, R.by_, R.ru, R.sz⟩
theorem RdAt.run {K : PySem.W.Frag} {H : Hp} {p dx a : Addr} {L : List Nat} {i : Nat} (R : RdAt K H p dx a L i) : runOk 500 0 (L.drop i) = true := by
  have z := R.ru
  rw [← List.take_append_drop i L] at z
  exact run_end z
theorem drop_at {L : List Nat} {i c : Nat} (h : L[i]? = some c) : L.drop i = c :: L.drop (i + 1) := by
  obtain ⟨h1, h2⟩ := List.getElem?_eq_some_iff.mp h
  rw [List.drop_eq_getElem_cons h1, h2]
theorem sfxR {L p q : List Nat} (h : L = p ++ q) : L.drop (L.length - q.length) = q ∧ q.length ≤ L.length := by
  subst h
  rw [List.length_append, Nat.add_sub_cancel, List.drop_left' rfl]
  exact ⟨rfl, by omega⟩
/-- refused -/
abbrev bad (K : PySem.W.Frag) (E : XK) (H : Hp) : Prop := E (.ref (He.ga K "BadForm")) none H
def spInitR (K : PySem.W.Frag) : Sp := fun vs H Q _ => ∃ (p dx a : Addr), vs = [.ref p, .ref a] ∧ H p = some (.ins (rdC K) dx []) ∧ Q .non (upd (upd H p (.ins (rdC K) dx (putF "octets" (.ref a) []))) p (rdO K dx a 0))
def spOctet (K : PySem.W.Frag) : Sp := fun vs H Q E => ∃ (p dx a : Addr) (L : List Nat) (i : Nat), vs = [.ref p] ∧ RdAt K H p dx a L i ∧
  (∀ c, L[i]? = some c → Q (.int (c : Int)) (upd H p (rdO K dx a (i + 1)))) ∧ (L.length ≤ i → bad K E H)
section
variable {P : Program} {w : World} {K : PySem.W.Frag} {mg : Str → Option Value} {base : Heap}
theorem rd_init (T : Txt K mg) : Mx.MakX P w K mg base CX0 1 "Reading" (rdC K) (spInitR K) := by
  refine Mx.makX_of T.d_Reading_init T.mk_Reading T.g_Reading sc_Reading_init (fun fd F => b_Reading_init F) (fun vs H Q E h => ?_) (fun cdv A outer s H vs Q E hr h => ?_)
  · obtain ⟨p, dx, a, rfl, _⟩ := h
    rfl
  · obtain ⟨p, dx, a, rfl, hp, k⟩ := h
    refine ⟨_, (pss_cons (ps_fld (pv 0) (pv 1) rfl)
  (pss_one (ps_fld (pv 0) pe_int rfl))), ?_⟩
    refine ⟨_, rfl, _, rfl, p, _, dx, [], rfl, hp, T.cl_Reading, T.na_Reading_octets, (by show 0 < 1000; decide), _, rfl, p, _, dx, _, rfl, upd_same, T.cl_Reading, T.na_Reading_at, (by show 1 < 1000; decide), ?_⟩
    exact k
theorem c_Reading_octet (T : Txt K mg) : Mx.MetX P w K mg base (L2.CX P w) 1 (rdC K) "octet" (spOctet K) := by
  refine Mx.metX_of T.d_Reading_octet T.cl_Reading T.m_Reading_octet sc_Reading_octet (fun fd F => b_Reading_octet F) (fun vs H Q E h => ?_) (fun cdv A outer s H vs Q E hr h => ?_)
  · obtain ⟨p, dx, a, L, i, rfl, _⟩ := h
    rfl
  · obtain ⟨p, dx, a, L, i, rfl, R, ks, kn⟩ := h
    refine ⟨_, (pss_cons (ps_if (pt_cmpR op_ge (pe_fld (pv 0) rfl) (pe_callB call_len_seq (by rfl) T.z_len (by decide +kernel) (pa_cons (pe_fld (pv 0) rfl) pa_nil)) (nomark _))
    (pss_one (ps_raise rfl (takes_of rfl rfl rfl rfl) (Gk.pmk_bare PySem.F.excBase_ValueError T.x_BadForm.1 T.g_BadForm T.x_BadForm.2.1 (raises_own T.x_BadForm.2.2.1 T.x_BadForm.2.2.2) rfl)))
    pss_nil)
  (pss_cons (ps_fldaug (pv 0) pe_int in_add)
  (pss_one (ps_ret (pe_ix ix_list (pe_fld (pv 0) rfl) (pe_op op_sub (pe_fld (pv 0) rfl) pe_int) (fun _ _ => rfl)))))), ?_⟩
    have len : ((L.map nV).length : Int) = (L.length : Int) := by rw [List.length_map]
    refine ⟨_, rfl, p, _, dx, _, _, rfl, R.ob, T.cl_Reading, T.na_Reading_at, rdF_at _ _, _, rfl, p, _, dx, _, _, rfl, R.ob, T.cl_Reading, T.na_Reading_octets, rdF_oct _ _, a, _, rfl, .inl R.oc, _, _, rfl, rfl, _, rfl, ite2 (fun h1 => ?_) (fun h1 => ?_)⟩
    · have h1' := of_decide_eq_true h1
      rw [len] at h1'
      exact kn (by omega)
    · have h1' : ¬ ((L.map nV).length : Int) ≤ (i : Int) := fun z => h1 (decide_eq_true z)
      rw [len] at h1'
      have hl : i < L.length := by omega
      have hc := List.getElem?_eq_getElem hl
      refine ⟨_, rfl, p, _, dx, _, _, rfl, R.ob, T.cl_Reading, T.na_Reading_at, rdF_at _ _, _, _, rfl, rfl, dx, _, R.ob, (by rw [rdF_eq]; show 2 < 1000; decide), ?_⟩
      have e1 : putF "at" (V.int ((i : Int) + 1)) (rdF a (i : Int)) = rdF a ((i + 1 : Nat) : Int) := rdF_put _ _ _
      rw [e1]
      refine ⟨_, rfl, p, _, dx, _, _, rfl, upd_same, T.cl_Reading, T.na_Reading_octets, rdF_oct _ _, _, rfl, p, _, dx, _, _, rfl, upd_same, T.cl_Reading, T.na_Reading_at, rdF_at _ _, _, _, rfl, rfl, a, _, _, _, rfl, rfl, (Kq.refl.upd).seq ⟨_, _, _, R.ob⟩ R.oc, ?_, ks _ hc⟩
      have e2 : (((i + 1 : Nat) : Int)) - 1 = (i : Int) := by omega
      rw [e2]
      exact nV_at hc
end
end K28
set_option Elab.async false
set_option linter.all false
set_option maxRecDepth 100000
set_option exponentiation.threshold 3000
set_option maxHeartbeats 4000000
namespace K28
open PySem PySem.Spec PyProof.Rows L2 Oc
def baseN : Nat := 1000000000000000000000000000000000000000000000000000000000000
theorem baseN_eq : baseN = 10 ^ 60 := by decide +kernel
theorem pow10 {a b : Nat} (h : 10 ^ a = 10 ^ b) : a = b := by
  rcases Nat.lt_trichotomy a b with z | z | z
  · exact absurd h (Nat.ne_of_lt (Nat.pow_lt_pow_right (by decide) z))
  · exact z
  · exact absurd h (Nat.ne_of_gt (Nat.pow_lt_pow_right (by decide) z))
def spFigs (K : PySem.W.Frag) : Sp := fun vs H Q E => ∃ (p dx a : Addr) (L : List Nat) (i e : Nat), vs = [.ref p, .int (e : Int)] ∧ RdAt K H p dx a L i ∧
  (numS e (L.drop i) = none → ∀ H', Kq p H H' → bad K E H') ∧
  ∀ m q, numS e (L.drop i) = some (m, q) → ∀ H', Kq p H H' → H' p = some (rdO K dx a (L.length - q.length)) → Q (.int (m : Int)) H'
theorem val_small {ds : List Nat} {j : Nat} (h : NumText.AllDigits ds) (hj : ds.length ≤ j) : NumText.digitsVal ds < 10 ^ j := by
  have v := val_lt ds 0 h
  have : NumText.digitsVal ds < (0 + 1) * 10 ^ ds.length := v
  exact Nat.lt_of_lt_of_le (by simpa using this) (Nat.pow_le_pow_right (by decide) hj)
theorem ten500 : (10 : Nat) ^ 500 < 2 ^ 2000 := by decide +kernel
theorem ten60 : (10 : Nat) ^ 60 < 2 ^ 200 := by decide +kernel
section
variable {P : Program} {w : World} {K : PySem.W.Frag} {mg : Str → Option Value} {base : Heap}
theorem c_Reading_figures (T : Txt K mg) : Mx.MetX P w K mg base (L2.CX P w) 2 (rdC K) "figures" (spFigs K) := by
  have c_Reading_octet : Mx.MetX P w K mg base (L2.CX P w) 1 (rdC K) "octet" (spOctet K) := c_Reading_octet T
  refine Mx.metX_of T.d_Reading_figures T.cl_Reading T.m_Reading_figures sc_Reading_figures (fun fd F => b_Reading_figures F) (fun vs H Q E h => ?_) (fun cdv A outer s H vs Q E hr h => ?_)
  · obtain ⟨p, dx, a, L, i, e, rfl, _⟩ := h
    rfl
  · obtain ⟨p, dx, a, L, i, e, rfl, R, kn, ks⟩ := h
    refine ⟨_, (pss_cons (ps_set (i := 2) sc_Reading_figures.nd rfl (by first | exact .inl rfl | exact .inr rfl) (pe_fld (pv 0) rfl))
  (pss_cons (ps_set (i := 3) sc_Reading_figures.nd rfl (by first | exact .inl rfl | exact .inr rfl) pe_int)
  (pss_cons (ps_set (i := 4) sc_Reading_figures.nd rfl (by first | exact .inl rfl | exact .inr rfl) pe_int)
  (pss_cons (ps_set (i := 5) sc_Reading_figures.nd rfl (by first | exact .inl rfl | exact .inr rfl) pe_int)
  (pss_cons (ps_set (i := 6) sc_Reading_figures.nd rfl (by first | exact .inl rfl | exact .inr rfl) (Mx.pe_mx0 c_Reading_octet hr (by decide) (Mx.onward (takes_of rfl rfl rfl rfl)) (pv 0)))
  (C8.pss_cut (ps_while (passes_of rfl) (pt_chain op_le op_le (Mx.pe_gi T.i_NOUGHT) (pv 6) (Mx.pe_gi T.i_NINE))
    (pss_cons (ps_set (i := 4) sc_Reading_figures.nd rfl (by first | exact .inl rfl | exact .inr rfl) (pe_op op_sub (pe_op op_add (pe_op op_mul (pv 4) pe_int) (pv 6)) (Mx.pe_gi T.i_NOUGHT)))
  (pss_cons (ps_set (i := 5) sc_Reading_figures.nd rfl (by first | exact .inl rfl | exact .inr rfl) (pe_op op_mul (pv 5) pe_int))
  (C8.pss_cut (ps_if (pt_cmpR op_eq (pv 5) (Mx.pe_gi T.i_BASE) (nomark _))
    (pss_cons (ps_set (i := 3) sc_Reading_figures.nd rfl (by first | exact .inl rfl | exact .inr rfl) (pe_op op_add (pe_op op_mulW (pv 3) (Mx.pe_gi T.i_BASE)) (pv 4)))
  (pss_cons (ps_set (i := 4) sc_Reading_figures.nd rfl (by first | exact .inl rfl | exact .inr rfl) pe_int)
  (pss_one (ps_set (i := 5) sc_Reading_figures.nd rfl (by first | exact .inl rfl | exact .inr rfl) pe_int))))
    pss_nil)
  (pss_one (ps_set (i := 6) sc_Reading_figures.nd rfl (by first | exact .inl rfl | exact .inr rfl) (Mx.pe_mx0 c_Reading_octet hr (by decide) (Mx.onward (takes_of rfl rfl rfl rfl)) (pv 0))))))))
  (pss_cons (ps_set (i := 7) sc_Reading_figures.nd rfl (by first | exact .inl rfl | exact .inr rfl) (pe_op op_sub (pe_op op_sub (pe_fld (pv 0) rfl) (pv 2)) pe_int))
  (pss_cons (ps_if (PW.pt (pw_or (pt_cmpR op_ne (pv 6) (pv 1) (nomark _)) (pw_or (pt_cmpR op_eq (pv 7) pe_int (nomark _)) (pw_or1 (PW.pt (pw_and (pt_cmpR op_gt (pv 7) pe_int (nomark _)) (pw_and1 (pt_cmpR op_eq (pe_ix ix_list (pe_fld (pv 0) rfl) (pv 2) (fun _ _ => rfl)) (Mx.pe_gi T.i_NOUGHT) (nomark _)))))))))
    (pss_one (ps_raise rfl (takes_of rfl rfl rfl rfl) (Gk.pmk_bare PySem.F.excBase_ValueError T.x_BadForm.1 T.g_BadForm T.x_BadForm.2.1 (raises_own T.x_BadForm.2.2.1 T.x_BadForm.2.2.2) rfl)))
    pss_nil)
  (pss_one (ps_ret (pe_op op_add (pe_op op_mulW (pv 3) (pv 5)) (pv 4)))))))))))), ?_⟩
    have kn' := kn
    have ks' := ks
    rw [numS_at] at kn
    have run := run_first (Nat.zero_le _) R.run
    generalize hk : ((L.drop i).takeWhile dig).length = k at kn run
    have kL : i + k ≤ L.length := by
      have := tw_le (p := dig) (L.drop i)
      rw [hk, List.length_drop] at this
      have := R.le
      omega
    have ad : NumText.AllDigits ((L.drop i).takeWhile dig) := digs_of
    have tk := tw_take (p := dig) (L.drop i)
    rw [hk] at tk
    generalize hD : (L.drop i).takeWhile dig = ds at tk ad
    have dl : ds.length = k := by rw [← hD]; exact hk
    have dat : ∀ {j c : Nat}, j < k → L[i + j]? = some c → ds[j]? = some c := fun {j c} hj hc => by
      rw [tk, List.getElem?_take, if_pos hj, at_drop]
      exact hc
    have non : L[i + k]? = none ∨ (∃ c, L[i + k]? = some c ∧ (k = 0 ∨ c ≠ e ∨ (L[i]? = some 48 ∧ 1 < k))) → ∀ H', Kq p H H' → bad K E H' := fun z => kn (by
      rw [at_drop]
      rcases z with z | ⟨c, z, z2⟩
      · rw [z]
      · rw [z]
        dsimp only
        rw [at_drop, Nat.add_zero, if_pos z2])
    have over : ∀ {j : Nat}, j ≤ k → L.length ≤ i + j → ∀ H', Kq p H H' → bad K E H' := fun {j} hj hl => by
      have ej : j = k := by omega
      subst ej
      exact non (.inl (List.getElem?_eq_none_iff.mpr hl))
    have no1 : ∀ i : Int, (rdF a i).lookup ("octet" : Str) = none := fun i => rdF_no _ _ (by decide +kernel) (by decide +kernel)
    -- first = self.at; n = 0; piece = 0; weight = 1; code = self.octet()
    refine ⟨_, rfl, p, _, dx, _, _, rfl, R.ob, T.cl_Reading, T.na_Reading_at, rdF_at _ _, _, rfl, p, dx, _, rfl, R.ob, no1 _, p, dx, a, L, i, rfl, R, fun c hc => ?_, fun hl => over (j := 0) (Nat.zero_le _) hl _ Kq.refl⟩
    -- the figures
    refine ⟨fun σ' H' => ∃ (n piece weight c : Nat), L[i + k]? = some c ∧ σ' = [some (.ref p), some (.int (e : Int)), some (.int (i : Int)), some (.int (n : Int)), some (.int (piece : Int)), some (.int (weight : Int)), some (.int (c : Int)), none] ∧
      Kq p H H' ∧ H' p = some (rdO K dx a (i + k + 1)) ∧ n * weight + piece = NumText.digitsVal ds ∧ weight < 10 ^ 60 ∧ n < 10 ^ 500, ?_, ?_⟩
    · refine ⟨fun m σ' H' => ∃ (j n piece weight r c : Nat), m = k - j ∧ j ≤ k ∧ L[i + j]? = some c ∧ σ' = [some (.ref p), some (.int (e : Int)), some (.int (i : Int)), some (.int (n : Int)), some (.int (piece : Int)), some (.int (weight : Int)), some (.int (c : Int)), none] ∧
        Kq p H H' ∧ H' p = some (rdO K dx a (i + j + 1)) ∧ n * weight + piece = NumText.digitsVal (ds.take j) ∧ weight = 10 ^ r ∧ r < 60 ∧ piece < weight, ⟨k, 0, 0, 0, 1, 0, c, rfl, Nat.zero_le _, hc, rfl, Kq.refl.upd, upd_same, rfl, rfl, by decide, by decide⟩, ?_⟩
      rintro m σ' H' ⟨j, n, piece, weight, r, c, rfl, hj, hc, rfl, kp, hob, hv, hw, hr60, hpw⟩
      have RR : RdAt K H' p dx a L (i + j + 1) := R.go kp hob (by have := (List.getElem?_eq_some_iff.mp hc).1; omega)
      have iff := tw_at (p := dig) (l := L.drop i) (j := j) (c := c) (by rw [hk]; exact hj) (by rw [at_drop]; exact hc)
      rw [hk, dig_iff] at iff
      have nl : n < 10 ^ 500 := by
        have h1 := val_small (ds := ds.take j) (j := 500) (fun c hc => ad c (List.mem_of_mem_take hc)) (by rw [List.length_take]; omega)
        have h2 : n ≤ n * weight := Nat.le_mul_of_pos_right _ (by omega)
        omega
      have wl : weight < 10 ^ 60 := by
        rw [hw]
        exact Nat.pow_lt_pow_right (by decide) hr60
      have stop : j = k → ∃ (n' piece' weight' c' : Nat), L[i + k]? = some c' ∧ ([some (.ref p), some (.int (e : Int)), some (.int (i : Int)), some (.int (n : Int)), some (.int (piece : Int)), some (.int (weight : Int)), some (.int (c : Int)), none] : L2.St) = [some (.ref p), some (.int (e : Int)), some (.int (i : Int)), some (.int (n' : Int)), some (.int (piece' : Int)), some (.int (weight' : Int)), some (.int (c' : Int)), none] ∧
          Kq p H H' ∧ H' p = some (rdO K dx a (i + k + 1)) ∧ n' * weight' + piece' = NumText.digitsVal ds ∧ weight' < 10 ^ 60 ∧ n' < 10 ^ 500 := by
        rintro rfl
        exact ⟨n, piece, weight, c, hc, rfl, kp, hob, by rw [hv, ← dl, List.take_length], wl, nl⟩
      refine ⟨_, rfl, _, _, rfl, rfl, _, rfl, ite2 (fun h2 => ?_) (fun h2 => ?_)⟩
      · refine ⟨_, _, rfl, rfl, _, rfl, ite2 (fun h3 => ?_) (fun h3 => ?_)⟩
        · have c48 : 48 ≤ c := by have := of_decide_eq_true h2; omega
          have c57 : c ≤ 57 := by have := of_decide_eq_true h3; omega
          have hjk : j < k := iff.mp ⟨c48, c57⟩
          have hd := dat hjk hc
          refine ⟨fun σ1 H1 => ∃ (n' piece' weight' r' c' : Nat), L[i + (j + 1)]? = some c' ∧ σ1 = [some (.ref p), some (.int (e : Int)), some (.int (i : Int)), some (.int (n' : Int)), some (.int (piece' : Int)), some (.int (weight' : Int)), some (.int (c' : Int)), none] ∧
            Kq p H H1 ∧ H1 p = some (rdO K dx a (i + (j + 1) + 1)) ∧ n' * weight' + piece' = NumText.digitsVal (ds.take (j + 1)) ∧ weight' = 10 ^ r' ∧ r' < 60 ∧ piece' < weight', ?_, ?_⟩
          · rintro σ1 H1 ⟨n', piece', weight', r', c', z⟩
            exact ⟨k - (j + 1), by omega, j + 1, n', piece', weight', r', c', rfl, hjk, z⟩
          refine ⟨_, rfl, _, _, rfl, rfl, .inr ⟨by decide, by decide⟩, _, rfl, _, _, rfl, rfl, _, _, rfl, rfl, ?_⟩
          refine ⟨_, rfl, _, _, rfl, rfl, .inr ⟨by decide, by decide⟩, ?_⟩
          have e1 : (piece : Int) * 10 + (c : Int) - 48 = ((piece * 10 + (c - 48) : Nat) : Int) := by omega
          have e2 : (weight : Int) * 10 = ((weight * 10 : Nat) : Int) := by omega
          have hv2 : n * (weight * 10) + (piece * 10 + (c - 48)) = NumText.digitsVal (ds.take (j + 1)) := by
            rw [List.take_add_one, hd]
            show _ = NumText.digitsVal (ds.take j ++ [c])
            rw [NumText.digitsVal_snoc, ← hv, ← Nat.mul_assoc, ← Nat.add_assoc, Nat.add_mul]
          refine ⟨fun σ1 H1 => H1 = H' ∧ ∃ (n' piece' weight' r' : Nat), σ1 = [some (.ref p), some (.int (e : Int)), some (.int (i : Int)), some (.int (n' : Int)), some (.int (piece' : Int)), some (.int (weight' : Int)), some (.int (c : Int)), none] ∧
            n' * weight' + piece' = NumText.digitsVal (ds.take (j + 1)) ∧ weight' = 10 ^ r' ∧ r' < 60 ∧ piece' < weight', ?_, ?_⟩
          · refine ⟨_, rfl, rfl, _, rfl, ?_⟩
            rw [dec_ii]
            by_cases hb : weight * 10 = baseN
            · rw [decide_eq_true (by rw [e2, hb]; rfl)]
              refine iteT ⟨_, rfl, _, _, rfl, rfl, wide_mul (a := 2000) (b := 200) ?_ ?_ (by decide) (by decide) (by decide), _, rfl, _, _, rfl, rfl, ?_⟩
              · show ((n : Int)).natAbs < _
                rw [Int.natAbs_natCast]
                exact Nat.lt_trans nl ten500
              · decide +kernel
              · refine ⟨rfl, n * baseN + (piece * 10 + (c - 48)), 0, 1, 0, ?_, ?_, rfl, by decide, by decide⟩
                · show ([_, _, _, some (V.int ((n : Int) * 1000000000000000000000000000000000000000000000000000000000000 + ((piece : Int) * 10 + (c : Int) - 48))), _, _, _, _] : L2.St) = _
                  rw [e1]
                  have e3 : (n : Int) * (1000000000000000000000000000000000000000000000000000000000000 : Int) + ((piece * 10 + (c - 48) : Nat) : Int) = ((n * baseN + (piece * 10 + (c - 48)) : Nat) : Int) := by
                    rw [Int.natCast_add, Int.natCast_mul]
                    rfl
                  rw [← e3]
                  rfl
                · rw [Nat.mul_one, Nat.add_zero, ← hb]
                  exact hv2
            · rw [decide_eq_false (fun z => hb (by rw [e2] at z; exact Int.ofNat.inj z))]
              refine iteF ⟨rfl, n, _, weight * 10, r + 1, by show ([_, _, _, _, some (V.int ((piece : Int) * 10 + (c : Int) - 48)), some (V.int ((weight : Int) * 10)), _, _] : L2.St) = _; rw [e1, e2], hv2, by rw [hw]; rfl, ?_, by omega⟩
              rcases Nat.lt_or_ge (r + 1) 60 with z | z
              · exact z
              · exfalso
                apply hb
                have : r + 1 = 60 := by omega
                rw [hw, ← Nat.pow_succ]
                show 10 ^ (r + 1) = _
                rw [this, baseN_eq]
          · rintro σ1 H1 ⟨eH, n', piece', weight', r', rfl, hv', hw', hr', hp'⟩
            cases eH
            refine ⟨_, rfl, p, dx, _, rfl, hob, no1 _, p, dx, a, L, i + j + 1, rfl, RR, fun c' hc' => ?_, fun hl => ?_⟩
            · exact ⟨n', piece', weight', r', c', hc', rfl, kp.upd, upd_same, hv', hw', hr', hp'⟩
            · exact over (j := j + 1) hjk (by omega) _ kp
        · have h4 : ¬ (c : Int) ≤ 57 := fun z => h3 (decide_eq_true z)
          have : ¬ j < k := fun z => h4 (by have := (iff.mpr z).2; omega)
          exact stop (by omega)
      · have h4 : ¬ (48 : Int) ≤ c := fun z => h2 (decide_eq_true z)
        have : ¬ j < k := fun z => h4 (by have := (iff.mpr z).1; omega)
        exact ⟨_, rfl, stop (by omega)⟩
    · rintro σ' H' ⟨n, piece, weight, c, hc, rfl, kp, hob, hv, hwl, hnl⟩
      have RR : RdAt K H' p dx a L (i + k + 1) := R.go kp hob (by have := (List.getElem?_eq_some_iff.mp hc).1; omega)
      have em : ((i + k + 1 : Nat) : Int) - (i : Int) - 1 = (k : Int) := by omega
      refine ⟨_, rfl, p, _, dx, _, _, rfl, hob, T.cl_Reading, T.na_Reading_at, rdF_at _ _, _, rfl, _, _, rfl, rfl, _, _, rfl, rfl, ?_⟩
      refine ⟨_, rfl, _, rfl, rfl, _, rfl, ?_⟩
      rw [dec_ii]
      have em0 : decide (V.int (((i + k + 1 : Nat) : Int) - (i : Int) - 1) = V.int 0) = decide (k = 0) := by
        rw [dec_ii, em]
        by_cases h : k = 0
        · rw [decide_eq_true h, decide_eq_true (by omega)]
        · rw [decide_eq_false h, decide_eq_false (by omega)]
      by_cases hce : c = e
      case neg =>
        rw [decide_eq_false (show ¬ ((c : Int) = (e : Int)) by omega)]
        exact iteT (non (.inr ⟨c, hc, .inr (.inl hce)⟩) _ kp)
      subst hce
      rw [decide_eq_true rfl]
      refine iteF ?_
      -- or many == 0
      refine ⟨_, rfl, rfl, _, rfl, ?_⟩
      show if decide (V.int (((i + k + 1 : Nat) : Int) - (i : Int) - 1) = V.int 0) = true then _ else _
      rw [em0]
      by_cases hk0 : k = 0
      · rw [decide_eq_true hk0]
        exact iteT (non (.inr ⟨c, hc, .inl hk0⟩) _ kp)
      rw [decide_eq_false hk0]
      refine iteF ?_
      -- the sum, or refused
      have fin : ¬ (L[i]? = some 48 ∧ 1 < k) → ∀ σ7 : Option V, tRet (tOp (rI0 fun i j => V.int (i + j)) (tOp (rI CMulW fun i j => V.int (i * j)) (tVar 3) (tVar 5)) (tVar 4)) { nx := fun x H' => Q V.non H', rt := Q } [some (V.ref p), some (V.int ↑c), some (V.int ↑i), some (V.int ↑n), some (V.int ↑piece), some (V.int ↑weight), some (V.int ↑c), σ7] H' := fun hz σ7 => by
        have found : numS c (L.drop i) = some (NumText.digitsVal ds, (L.drop i).drop (k + 1)) := by
          rw [numS_at, hk, at_drop, hc]
          dsimp only
          rw [at_drop, Nat.add_zero, if_neg (fun z => by
            rcases z with z | z | z
            · exact hk0 z
            · exact z rfl
            · exact hz z), hD]
        have out := ks _ _ found H' kp (by
          rw [hob, List.length_drop, List.length_drop]
          have : i + k + 1 = L.length - (L.length - i - (k + 1)) := by
            have := (List.getElem?_eq_some_iff.mp hc).1
            omega
          rw [← this])
        refine ⟨_, rfl, _, rfl, _, _, rfl, rfl, wide_mul (a := 2000) (b := 200) ?_ ?_ (by decide) (by decide) (by decide), _, rfl, _, _, rfl, rfl, ?_⟩
        · show ((n : Int)).natAbs < _
          rw [Int.natAbs_natCast]
          exact Nat.lt_trans hnl ten500
        · show ((weight : Int)).natAbs < _
          rw [Int.natAbs_natCast]
          exact Nat.lt_trans hwl ten60
        · show Q (.int ((n : Int) * (weight : Int) + (piece : Int))) H'
          rw [← hv] at out
          rw [Int.natCast_add, Int.natCast_mul] at out
          exact out
      refine ⟨_, rfl, _, _, rfl, rfl, _, rfl, ?_⟩
      show if decide ((1 : Int) < (((i + k + 1 : Nat) : Int) - (i : Int) - 1)) = true then _ else _
      rw [em]
      by_cases hk1 : 1 < k
      · rw [decide_eq_true (show (1 : Int) < (k : Int) by omega)]
        obtain ⟨c0, hc0⟩ : ∃ c, L[i]? = some c := ⟨_, List.getElem?_eq_getElem (show i < L.length by omega)⟩
        refine iteT ⟨_, rfl, p, _, dx, _, _, rfl, hob, T.cl_Reading, T.na_Reading_octets, rdF_oct _ _, _, rfl, a, _, _, _, rfl, rfl, RR.oc, nV_at hc0, rfl, _, rfl, ?_⟩
        rw [dec_ii]
        by_cases h48 : c0 = 48
        · subst h48
          exact iteT (non (.inr ⟨c, hc, .inr (.inr ⟨hc0, hk1⟩)⟩) _ kp)
        · rw [decide_eq_false (show ¬ ((c0 : Int) = 48) by omega)]
          exact iteF (fin (fun z => h48 (by have := z.1; rw [hc0] at this; exact Option.some.inj this)) _)
      · rw [decide_eq_false (show ¬ (1 : Int) < (k : Int) by omega)]
        exact iteF (fin (fun z => hk1 z.2) _)
end
end K28
set_option Elab.async false
set_option linter.all false
set_option maxRecDepth 100000
set_option maxHeartbeats 4000000
namespace K28
open PySem PySem.Spec PyProof.Rows L2 Oc
def SgnT (K : PySem.W.Frag) : Prop := ∀ H : Hp, SqT K H (He.ga K "SIGNS") [V.str lowS, V.str highS]
def spNumber (K : PySem.W.Frag) : Sp := fun vs H Q E => ∃ (p dx a : Addr) (L : List Nat) (i : Nat), vs = [.ref p] ∧ RdAt K H p dx a L i ∧
  (intS (L.drop i) = none → ∀ H', Kq p H H' → bad K E H') ∧
  ∀ d q, intS (L.drop i) = some (d, q) → ∀ (v : V) (H' : Hp), Kq p H H' → H' p = some (rdO K dx a (L.length - q.length)) → Dp K H' v d → Q v H'
def spSignWith : Sp := fun vs H Q _ => ∃ c : Nat, vs = [.int (c : Int)] ∧ c < 256 ∧ okc c = true ∧ Q (.str (signS c)) H
def spIsSign : Sp := fun vs H Q _ => ∃ c : Nat, vs = [.int (c : Int)] ∧ c < 256 ∧ ∀ H', Same H H' → Q (.bl (okc c)) H'
theorem okc_at : ∀ c : Nat, c < 256 → okc c = ((decide (32 ≤ c) && decide (c ≤ 126) && !(decide (c = 37))) || (decide (c = 9) || decide (c = 10))) := by decide +kernel
section
variable {P : Program} {w : World} {K : PySem.W.Frag} {mg : Str → Option Value} {base : Heap}
theorem c_Reading_number (T : Txt K mg) : Mx.MetX P w K mg base (L2.CX P w) 3 (rdC K) "number" (spNumber K) := by
  have c_Reading_figures : Mx.MetX P w K mg base (L2.CX P w) 2 (rdC K) "figures" (spFigs K) := c_Reading_figures T
  refine Mx.metX_of T.d_Reading_number T.cl_Reading T.m_Reading_number sc_Reading_number (fun fd F => b_Reading_number F) (fun vs H Q E h => ?_) (fun cdv A outer s H vs Q E hr h => ?_)
  · obtain ⟨p, dx, a, L, i, rfl, _⟩ := h
    rfl
  · obtain ⟨p, dx, a, L, i, rfl, R, kn, ks⟩ := h
    refine ⟨_, (C8.pss_cut (ps_if (PW.pt (pw_and (pt_cmpR op_lt (pe_fld (pv 0) rfl) (pe_callB call_len_seq (by rfl) T.z_len (by decide +kernel) (pa_cons (pe_fld (pv 0) rfl) pa_nil)) (nomark _)) (pw_and1 (pt_cmpR op_eq (pe_ix ix_list (pe_fld (pv 0) rfl) (pe_fld (pv 0) rfl) (fun _ _ => rfl)) (Mx.pe_gi T.i_MINUS) (nomark _)))))
    (pss_cons (ps_fldaug (pv 0) pe_int in_add)
  (pss_cons (ps_set (i := 1) sc_Reading_number.nd rfl (by first | exact .inl rfl | exact .inr rfl) (Mx.pe_mx c_Reading_figures hr (by decide) (Mx.onward (takes_of rfl rfl rfl rfl)) (pv 0) (pa_cons (Mx.pe_gi T.i_END) pa_nil)))
  (pss_cons (ps_if (pt_cmpR op_eq (pv 1) pe_int (nomark _))
    (pss_one (ps_raise rfl (takes_of rfl rfl rfl rfl) (Gk.pmk_bare PySem.F.excBase_ValueError T.x_BadForm.1 T.g_BadForm T.x_BadForm.2.1 (raises_own T.x_BadForm.2.2.1 T.x_BadForm.2.2.2) rfl)))
    pss_nil)
  (pss_one (ps_ret (pe_un un_neg (pv 1)))))))
    pss_nil)
  (pss_one (ps_ret (Mx.pe_mx c_Reading_figures hr (by decide) (Mx.onward (takes_of rfl rfl rfl rfl)) (pv 0) (pa_cons (Mx.pe_gi T.i_END) pa_nil))))), ?_⟩
    have len : ((L.map nV).length : Int) = (L.length : Int) := by rw [List.length_map]
    have noF : ∀ i : Int, (rdF a i).lookup ("figures" : Str) = none := fun i => rdF_no _ _ (by decide +kernel) (by decide +kernel)
    refine ⟨fun σ1 H1 => H1 = H ∧ σ1 = [some (.ref p), none] ∧ L[i]? ≠ some 45, ?_, ?_⟩
    · refine ⟨_, rfl, p, _, dx, _, _, rfl, R.ob, T.cl_Reading, T.na_Reading_at, rdF_at _ _, _, rfl, p, _, dx, _, _, rfl, R.ob, T.cl_Reading, T.na_Reading_octets, rdF_oct _ _, a, _, rfl, .inl R.oc, _, _, rfl, rfl, _, rfl, ite2 (fun h1 => ?_) (fun h1 => ?_)⟩
      · have h1' := of_decide_eq_true h1
        rw [len] at h1'
        obtain ⟨c, hc⟩ : ∃ c, L[i]? = some c := ⟨_, List.getElem?_eq_getElem (show i < L.length by omega)⟩
        refine ⟨_, rfl, p, _, dx, _, _, rfl, R.ob, T.cl_Reading, T.na_Reading_octets, rdF_oct _ _, _, rfl, p, _, dx, _, _, rfl, R.ob, T.cl_Reading, T.na_Reading_at, rdF_at _ _, a, _, _, _, rfl, rfl, R.oc, nV_at hc, rfl, _, rfl, ?_⟩
        rw [dec_ii]
        by_cases h45 : c = 45
        case neg =>
          rw [decide_eq_false (show ¬ ((c : Int) = 45) by omega)]
          exact iteF ⟨rfl, rfl, fun z => h45 (by rw [hc] at z; exact Option.some.inj z)⟩
        subst h45
        refine iteT ?_
        have dr := drop_at hc
        rw [dr, intS_minus] at kn ks
        refine ⟨_, rfl, p, _, dx, _, _, rfl, R.ob, T.cl_Reading, T.na_Reading_at, rdF_at _ _, _, _, rfl, rfl, dx, _, R.ob, (by rw [rdF_eq]; show 2 < 1000; decide), ?_⟩
        have e1 : putF "at" (V.int ((i : Int) + 1)) (rdF a (i : Int)) = rdF a ((i + 1 : Nat) : Int) := rdF_put _ _ _
        rw [e1]
        have R1 : RdAt K (upd H p (rdO K dx a (i + 1))) p dx a L (i + 1) := R.go Kq.refl.upd upd_same (by omega)
        refine ⟨_, rfl, p, dx, _, rfl, upd_same, noF _, p, dx, a, L, i + 1, 59, rfl, R1, fun hn H' k' => ?_, fun m q hq H' k' o' => ?_⟩
        · rw [hn] at kn
          exact kn rfl _ (Kq.refl.upd.trans k')
        · rw [hq] at kn ks
          dsimp only at kn ks
          refine ⟨_, rfl, rfl, _, rfl, ?_⟩
          rw [dec_ii]
          by_cases h0 : m = 0
          · rw [decide_eq_true (show ((m : Nat) : Int) = 0 by omega)]
            rw [if_pos h0] at kn
            exact iteT (kn rfl _ (Kq.refl.upd.trans k'))
          · rw [decide_eq_false (show ¬ ((m : Nat) : Int) = 0 by omega)]
            rw [if_neg h0] at ks
            exact iteF ⟨_, rfl, _, rfl, ks _ _ rfl _ _ (Kq.refl.upd.trans k') o' (.int _)⟩
      · have h1' : ¬ (i : Int) < ((L.map nV).length : Int) := fun z => h1 (decide_eq_true z)
        rw [len] at h1'
        exact ⟨rfl, rfl, fun z => by have := (List.getElem?_eq_some_iff.mp z).1; omega⟩
    · rintro σ1 H1 ⟨eH, rfl, n45⟩
      cases eH
      rw [intS_other (by rw [at_drop, Nat.add_zero]; exact n45)] at kn ks
      refine ⟨_, rfl, p, dx, _, rfl, R.ob, noF _, p, dx, a, L, i, 59, rfl, R, fun hn H' k' => ?_, fun m q hq H' k' o' => ?_⟩
      · rw [hn] at kn
        exact kn rfl _ k'
      · rw [hq] at ks
        exact ks _ _ rfl _ _ k' o' (.int _)
theorem c_sign_with (T : Txt K mg) (hSG : SgnT K) : Mx.CalX P w K mg base CX0 1 "sign_with" spSignWith := by
  refine Mx.calX_of T.d_sign_with T.g_sign_with sc_sign_with (fun fd F => b_sign_with F) (fun vs H Q E h => ?_) (fun cdv A outer s H vs Q E hr h => ?_)
  · obtain ⟨c, rfl, _⟩ := h
    rfl
  · obtain ⟨c, rfl, hc, ho, k⟩ := h
    refine ⟨_, (C8.pss_cut (ps_if (pt_cmpR op_gt (pv 0) (Mx.pe_gi T.i_PERCENT) (nomark _))
    (pss_one (ps_ret (pe_ix ix_str (pe_ix ix_tup (Mx.pe_gr T.g_SIGNS) pe_int (fun _ _ => rfl)) (pe_op op_sub (pe_op op_sub (pv 0) (Mx.pe_gi T.i_PERCENT)) pe_int) (fun _ _ => rfl))))
    pss_nil)
  (C8.pss_cut (ps_if (pt_cmpR op_ge (pv 0) (Mx.pe_gi T.i_BLANK) (nomark _))
    (pss_one (ps_ret (pe_ix ix_str (pe_ix ix_tup (Mx.pe_gr T.g_SIGNS) pe_int (fun _ _ => rfl)) (pe_op op_sub (pv 0) (Mx.pe_gi T.i_BLANK)) (fun _ _ => rfl))))
    pss_nil)
  (pss_one (ps_ret (pe_ifExp (pt_cmpR op_eq (pv 0) (Mx.pe_gi T.i_FEED) (nomark _)) pe_str pe_str))))), ?_⟩
    have it : ∀ {i : Int} {b : Nat} {l : List Nat}, b ≤ c → i = (c : Int) - b → l[c - b]? = some c → atI l i = some c := fun {i b l} h1 h2 h3 => by
      have : i = ((c - b : Nat) : Int) := by omega
      rw [this]
      exact atI_nat h3
    have k1 : Q (.str ⟨#[c]⟩) H := by
      have := k
      unfold signS at this
      rw [if_pos ho] at this
      exact this
    have oo := okc_at c hc
    rw [ho] at oo
    refine ⟨fun σ1 H1 => H1 = H ∧ σ1 = [some (.int (c : Int))] ∧ c ≤ 37, ?_, ?_⟩
    · refine ⟨_, rfl, _, _, rfl, rfl, _, rfl, ite2 (fun h1 => ?_) (fun h1 => ?_)⟩
      · have h1' : 37 < c := by have := of_decide_eq_true h1; omega
        have h126 : c ≤ 126 := Classical.byContradiction fun z => by
          rw [decide_eq_false z, decide_eq_false (show ¬ c = 9 by omega), decide_eq_false (show ¬ c = 10 by omega)] at oo
          simp at oo
        have z := high_at c hc (by omega) h126
        refine ⟨_, _, _, _, rfl, rfl, hSG _, rfl, _, rfl, _, _, rfl, rfl, _, _, rfl, rfl, _, _, c, rfl, rfl, (by show (89 : Nat) ≤ sizeLine; decide), it (b := 38) (by omega) (by show (c : Int) - 37 - 1 = (c : Int) - ((38 : Nat) : Int); omega) z.1, k1⟩
      · exact ⟨rfl, rfl, by
          have : ¬ ((37 : Int) < (c : Int)) := fun z => h1 (decide_eq_true z)
          omega⟩
    · rintro σ1 H1 ⟨eH, rfl, h37⟩
      cases eH
      refine ⟨fun σ1 H1 => H1 = H ∧ σ1 = [some (.int (c : Int))] ∧ c < 32, ?_, ?_⟩
      · refine ⟨_, rfl, _, _, rfl, rfl, _, rfl, ite2 (fun h1 => ?_) (fun h1 => ?_)⟩
        · have h1' : 32 ≤ c := by have := of_decide_eq_true h1; omega
          have h36 : c ≤ 36 := Classical.byContradiction fun z => by
            have e : c = 37 := by omega
            subst e
            simp at oo
          have z := low_at c hc h1' h36
          refine ⟨_, _, _, _, rfl, rfl, hSG _, rfl, _, rfl, _, _, rfl, rfl, _, _, c, rfl, rfl, (by show (5 : Nat) ≤ sizeLine; decide), it (b := 32) (by omega) (by show (c : Int) - 32 = (c : Int) - ((32 : Nat) : Int); omega) z.1, k1⟩
        · exact ⟨rfl, rfl, by
            have : ¬ ((32 : Int) ≤ (c : Int)) := fun z => h1 (decide_eq_true z)
            omega⟩
      · rintro σ1 H1 ⟨eH, rfl, h32⟩
        cases eH
        have h910 : c = 9 ∨ c = 10 := by
          rw [decide_eq_false (show ¬ 32 ≤ c by omega), Bool.false_and, Bool.false_and, Bool.false_or] at oo
          by_cases h9 : c = 9
          · exact .inl h9
          · rw [decide_eq_false h9, Bool.false_or] at oo
            exact .inr (of_decide_eq_true oo.symm)
        refine ⟨_, rfl, rfl, _, rfl, ?_⟩
        rcases h910 with rfl | rfl
        · exact iteF k1
        · exact iteT k1
theorem c_is_sign_code (T : Txt K mg) : Mx.CalX P w K mg base CX0 1 "is_sign_code" spIsSign := by
  refine Mx.calX_of T.d_is_sign_code T.g_is_sign_code sc_is_sign_code (fun fd F => b_is_sign_code F) (fun vs H Q E h => ?_) (fun cdv A outer s H vs Q E hr h => ?_)
  · obtain ⟨c, rfl, _⟩ := h
    rfl
  · obtain ⟨c, rfl, hc, k⟩ := h
    refine ⟨_, (pss_one (ps_ret (pe_or (pe_and (pe_chain op_le op_le (Mx.pe_gi T.i_BLANK) (pv 0) (Mx.pe_gi T.i_LAST)) (pe_one (pe_cmpR op_ne (pv 0) (Mx.pe_gi T.i_PERCENT) (nomark _)))) (pe_one (pe_cmpR op_in_seq (pv 0) (pe_tup (pa_cons (Mx.pe_gi T.i_TAB) (pa_cons (Mx.pe_gi T.i_FEED) pa_nil))) (by rfl)))))), ?_⟩
    have oo := okc_at c hc
    -- code in (TAB, FEED)
    have last : ¬ (32 ≤ c ∧ c ≤ 126 ∧ c ≠ 37) → ∀ H1, Same H H1 → ∀ p, H1 p = none → Q (.bl (if false then !(inV (V.int (c : Int)) [V.int 9, V.int 10]) else inV (V.int (c : Int)) [V.int 9, V.int 10])) (upd H1 p (.tup [V.int 9, V.int 10])) := fun hn H1 s1 p np => by
      have e : inV (V.int (c : Int)) [V.int 9, V.int 10] = (decide (c = 9) || decide (c = 10)) := by
        show (decide ((9 : Int) = (c : Int)) || (decide ((10 : Int) = (c : Int)) || false)) = _
        rw [Bool.or_false]
        by_cases h9 : c = 9
        · rw [decide_eq_true h9, decide_eq_true (show (9 : Int) = (c : Int) by omega)]
          rfl
        · rw [decide_eq_false h9, decide_eq_false (show ¬ (9 : Int) = (c : Int) by omega), Bool.false_or, Bool.false_or]
          by_cases h10 : c = 10
          · rw [decide_eq_true h10, decide_eq_true (show (10 : Int) = (c : Int) by omega)]
          · rw [decide_eq_false h10, decide_eq_false (show ¬ (10 : Int) = (c : Int) by omega)]
      have e2 : okc c = (decide (c = 9) || decide (c = 10)) := by
        rw [oo]
        have : (decide (32 ≤ c) && decide (c ≤ 126) && !decide (c = 37)) = false := by
          by_cases a1 : 32 ≤ c
          · by_cases a2 : c ≤ 126
            · have a3 : c = 37 := Classical.byContradiction fun z => hn ⟨a1, a2, z⟩
              rw [decide_eq_true a3]
              simp
            · rw [decide_eq_false a2]
              simp
          · rw [decide_eq_false a1]
            simp
        rw [this, Bool.false_or]
      have z := k _ (nw (o := .tup [V.int 9, V.int 10]) s1 np)
      rw [e2, ← e] at z
      exact z
    have inn : ¬ (32 ≤ c ∧ c ≤ 126 ∧ c ≠ 37) → tOp (rIn K false) (tVar 0) (tTup (tCons (tC (V.int 9)) (tCons (tC (V.int 10)) tNil))) [some (V.int (c : Int))] H Q := fun hn => by
      refine ⟨_, rfl, by show 2 ≤ sizeLine; decide, fun p np => ⟨p, _, rfl, .inr (SqT.of upd_same), rfl, rfl, last hn H (Same.refl H) p np⟩⟩
    refine ⟨_, rfl, _, _, rfl, rfl, _, rfl, ?_⟩
    by_cases h32 : 32 ≤ c
    case neg =>
      rw [decide_eq_false (show ¬ (32 : Int) ≤ (c : Int) by omega)]
      refine iteF ⟨_, rfl, iteF ⟨_, rfl, iteF (inn fun z => h32 z.1)⟩⟩
    rw [decide_eq_true (show (32 : Int) ≤ (c : Int) by omega)]
    refine iteT ⟨_, _, rfl, rfl, _, rfl, ?_⟩
    by_cases h126 : c ≤ 126
    case neg =>
      rw [decide_eq_false (show ¬ (c : Int) ≤ 126 by omega)]
      refine iteF ⟨_, rfl, iteF (inn fun z => h126 z.2.1)⟩
    rw [decide_eq_true (show (c : Int) ≤ 126 by omega)]
    refine iteT ⟨_, rfl, rfl, _, rfl, ?_⟩
    rw [dec_ii]
    by_cases h37 : c = 37
    · rw [decide_eq_true (show (c : Int) = 37 by omega)]
      exact iteF (inn fun z => z.2.2 h37)
    · rw [decide_eq_false (show ¬ (c : Int) = 37 by omega)]
      refine iteT ?_
      have z := k H (Same.refl H)
      rw [oo, decide_eq_true h32, decide_eq_true h126, decide_eq_false h37] at z
      exact z
end
end K28
set_option Elab.async false
set_option linter.all false
set_option maxRecDepth 100000
set_option maxHeartbeats 4000000
namespace K28
open PySem PySem.Spec PyProof.Rows L2 Oc
def spTextR (K : PySem.W.Frag) : Sp := fun vs H Q E => ∃ (p dx a : Addr) (L : List Nat) (i : Nat), vs = [.ref p] ∧ RdAt K H p dx a L i ∧
  (strS (L.drop i) = none → ∀ H', Kq p H H' → bad K E H') ∧
  ∀ d q, strS (L.drop i) = some (d, q) → ∀ (v : V) (H' : Hp), Kq p H H' → H' p = some (rdO K dx a (L.length - q.length)) → Dp K H' v d → Q v H'
def spSimple (K : PySem.W.Frag) : Sp := fun vs H Q E => ∃ (p dx a : Addr) (L : List Nat) (i c : Nat), vs = [.ref p, .int (c : Int)] ∧ RdAt K H p dx a L i ∧
  (simpS c (L.drop i) = none → ∀ H', Kq p H H' → bad K E H') ∧
  ∀ d q, simpS c (L.drop i) = some (d, q) → ∀ (v : V) (H' : Hp), Kq p H H' → H' p = some (rdO K dx a (L.length - q.length)) → Dp K H' v d → Q v H'
theorem all_okc (l : List Nat) : (l.map okc).all id = l.all okc := by
  rw [List.all_map]
  rfl
section
variable {P : Program} {w : World} {K : PySem.W.Frag} {mg : Str → Option Value} {base : Heap}
theorem c_Reading_text (T : Txt K mg) (hSG : SgnT K) : Mx.MetX P w K mg base (L2.CX P w) 3 (rdC K) "text" (spTextR K) := by
  have c_Reading_figures : Mx.MetX P w K mg base (L2.CX P w) 2 (rdC K) "figures" (spFigs K) := c_Reading_figures T
  have c_is_sign_code : Mx.CalX P w K mg base CX0 1 "is_sign_code" spIsSign := c_is_sign_code T
  have c_sign_with : Mx.CalX P w K mg base CX0 1 "sign_with" spSignWith := c_sign_with T hSG
  refine Mx.metX_of T.d_Reading_text T.cl_Reading T.m_Reading_text sc_Reading_text (fun fd F => b_Reading_text F) (fun vs H Q E h => ?_) (fun cdv A outer s H vs Q E hr h => ?_)
  · obtain ⟨p, dx, a, L, i, rfl, _⟩ := h
    rfl
  · obtain ⟨p, dx, a, L, i, rfl, R, kn, ks⟩ := h
    refine ⟨_, (pss_cons (ps_set (i := 1) sc_Reading_text.nd rfl (by first | exact .inl rfl | exact .inr rfl) (Mx.pe_mx c_Reading_figures hr (by decide) (Mx.onward (takes_of rfl rfl rfl rfl)) (pv 0) (pa_cons (Mx.pe_gi T.i_COLON) pa_nil)))
  (pss_cons (ps_set (i := 2) sc_Reading_text.nd rfl (by first | exact .inl rfl | exact .inr rfl) (pe_slice sl_list (pe_fld (pv 0) rfl) (po_some (pe_fld (pv 0) rfl)) (po_some (pe_op op_add (pe_fld (pv 0) rfl) (pv 1)))))
  (pss_cons (ps_if (PW.pt (pw_or (pt_cmpR op_lt (pe_callB call_len_seq (by rfl) T.z_len (by decide +kernel) (pa_cons (pv 2) pa_nil)) (pv 1) (nomark _)) (pw_or1 (pt_not (pt_truth (pe_callB (cr_all rfl) (by rfl) T.z_all (by decide +kernel) (pa_cons (pe_lc (own := [("code", 3)]) (g := gName 3) rfl sc_Reading_text.nd (pi_list (pv 2)) (blkOk_by (own := [("code", 3)]) (N := n_Reading_text) (sc := defScope s_Reading_text) (by decide +kernel)) (fun _ _ _ _ _ => (pg_name (i := 3) sc_Reading_text.nd rfl (by first | exact .inl rfl | exact .inr rfl))) (fun _ _ _ _ _ => pts_nil) (fun _ _ _ _ _ => (Mx.pe_cx c_is_sign_code hr (by decide) (by rfl) pass0 (pa_cons (pv 3) pa_nil)))) pa_nil)) (by intro _; rfl))))))
    (pss_one (ps_raise rfl (takes_of rfl rfl rfl rfl) (Gk.pmk_bare PySem.F.excBase_ValueError T.x_BadForm.1 T.g_BadForm T.x_BadForm.2.1 (raises_own T.x_BadForm.2.2.1 T.x_BadForm.2.2.2) rfl)))
    pss_nil)
  (pss_cons (ps_fldaug (pv 0) (pv 1) in_add)
  (pss_one (ps_ret (pe_bm PySem.F.plainAttrs_str PySem.F.slot_str_join PySem.F.type_str_join mt_join pe_str (pa_cons (pe_lc (own := [("code", 3)]) (g := gName 3) rfl sc_Reading_text.nd (pi_list (pv 2)) (blkOk_by (own := [("code", 3)]) (N := n_Reading_text) (sc := defScope s_Reading_text) (by decide +kernel)) (fun _ _ _ _ _ => (pg_name (i := 3) sc_Reading_text.nd rfl (by first | exact .inl rfl | exact .inr rfl))) (fun _ _ _ _ _ => pts_nil) (fun _ _ _ _ _ => (Mx.pe_cx c_sign_with hr (by decide) (by rfl) pass0 (pa_cons (pv 3) pa_nil)))) pa_nil)))))))), ?_⟩
    have noF : ∀ i : Int, (rdF a i).lookup ("figures" : Str) = none := fun i => rdF_no _ _ (by decide +kernel) (by decide +kernel)
    refine ⟨_, rfl, p, dx, _, rfl, R.ob, noF _, p, dx, a, L, i, 58, rfl, R, fun hn H1 k1 => ?_, fun m q hq H1 k1 o1 => ?_⟩
    · exact kn (by unfold strS; rw [hn]) H1 k1
    have hqL : q.length < (L.drop i).length := numS_less hq
    obtain ⟨q1, q2⟩ : L.drop (L.length - q.length) = q ∧ q.length ≤ L.length := by
      obtain ⟨e, _, _⟩ := num_parts hq
      exact sfxR (p := L.take i ++ ((L.drop i).takeWhile dig ++ [58])) (by
        have z : L.take i ++ L.drop i = L.take i ++ (_ ++ 58 :: q) := congrArg _ e
        rw [List.take_append_drop] at z
        rw [List.append_assoc, List.append_assoc]
        exact z)
    have R1 : RdAt K H1 p dx a L (L.length - q.length) := R.go k1 o1 (by omega)
    have eq0 : strS (L.drop i) = if m ≤ q.length ∧ (q.take m).all okc = true then some (.str ⟨(q.take m).toArray⟩, q.drop m) else none := by
      unfold strS
      rw [hq]
    rw [eq0] at kn ks
    obtain ⟨b, hb⟩ : ∃ b, b = L.length - q.length := ⟨_, rfl⟩
    rw [← hb] at q1 o1 R1
    have hcut : cutV (L.map nV) (some (b : Int)) (some ((b : Int) + (m : Int))) = (q.take m).map nV := by
      unfold cutV
      have e : (b : Int) + (m : Int) = ((b + m : Nat) : Int) := by omega
      rw [e, HT.sIx_nat, HT.sIx_nat, List.length_map, Nat.min_eq_left (show b ≤ L.length by omega), ← List.map_drop, q1, ← List.map_take]
      congr 1
      have hL : L.length = b + q.length := by omega
      rcases Nat.le_total (b + m) L.length with z | z
      · rw [Nat.min_eq_left z]
        congr 1
        omega
      · rw [Nat.min_eq_right z, List.take_of_length_le (by omega), List.take_of_length_le (by omega)]
    have nC : ((q.take m).map nV).length = min m q.length := by rw [List.length_map, List.length_take]
    have hq256 : ∀ c ∈ q.take m, c < 256 := fun c hc => R.by_ c (by
      have := List.mem_of_mem_take hc
      rw [← q1] at this
      exact List.mem_of_mem_drop this)
    obtain ⟨C, hC⟩ : ∃ C, C = q.take m := ⟨_, rfl⟩
    rw [← hC] at hcut nC hq256 kn ks
    -- codes = self.octets[self.at:self.at + many]
    refine ⟨_, rfl, p, _, dx, _, _, rfl, o1, T.cl_Reading, T.na_Reading_octets, rdF_oct _ _, _, rfl, p, _, dx, _, _, rfl, o1, T.cl_Reading, T.na_Reading_at, rdF_at _ _, _, rfl, _, rfl, p, _, dx, _, _, rfl, o1, T.cl_Reading, T.na_Reading_at, rdF_at _ _, _, rfl, _, _, rfl, rfl, _, rfl, a, _, rfl, R1.oc, fun D nD => ?_⟩
    rw [hcut]
    have s2 : Same H1 (upd H1 D (.lst (C.map nV))) := same_upd nD
    have hpD : p ≠ D := ne_of_none o1 nD
    refine ⟨_, rfl, D, _, rfl, .inl (SqL.of upd_same), _, rfl, _, _, rfl, rfl, _, rfl, ite2 (fun h1 => ?_) (fun h1 => ?_)⟩
    · have h1' := of_decide_eq_true h1
      rw [nC] at h1'
      rw [if_neg (fun z => by omega)] at kn
      exact kn rfl _ (k1.same s2)
    have h1' : ¬ (((C.map nV).length : Nat) : Int) < (m : Int) := fun z => h1 (decide_eq_true z)
    rw [nC] at h1'
    have fit : m ≤ q.length := by omega
    have cl : C.length = m := by
      rw [hC, List.length_take]
      omega
    have gt : ∀ {j : Nat} {v : V}, (C.map nV)[j]? = some v → ∃ c, C[j]? = some c ∧ v = nV c ∧ c < 256 := fun {j v} h => by
      rw [List.getElem?_map] at h
      cases e : C[j]? with
      | none => rw [e] at h; cases h
      | some c => rw [e] at h; exact ⟨c, rfl, (Option.some.inj h).symm, hq256 c (List.mem_of_getElem? e)⟩
    have small : m ≤ 100000 := by
      have := R.sz
      omega
    -- not all([is_sign_code(code) for code in codes])
    refine ⟨_, rfl, D, rfl, ⟨_, SqL.of upd_same⟩, fun B nB => lc_list (K := K) (a := D) (xs := C.map nV) (fun j H' => Same (upd H1 D (.lst (C.map nV))) H' ∧ H' B = some (.lst ((C.take j).map fun c => V.bl (okc c)))) ⟨(nw (Same.refl _) nB), upd_same⟩ (fun j H' _ z => Same.seq z.1 (SqL.of upd_same)) (fun j v H' hv z => ?_) (fun H2 z => ?_)⟩
    · obtain ⟨z1, z2⟩ := z
      obtain ⟨c, hc, rfl, h256⟩ := gt hv
      refine ⟨rfl, _, rfl, c, rfl, h256, fun H4 s5 => ⟨_, s5 _ _ z2, ?_, sk (Same.trans z1 s5) nB, ?_⟩⟩
      · rw [List.length_map, List.length_take]
        exact Nat.lt_of_le_of_lt (show min j C.length ≤ 100000 by omega) (by decide)
      · rw [upd_same, List.take_add_one, hc, List.map_append]
        rfl
    obtain ⟨z1, z2⟩ := z
    rw [List.length_map, List.take_length] at z2
    have hbs : H2 B = some (.lst ((C.map okc).map V.bl)) := by
      rw [List.map_map]
      exact z2
    refine ⟨B, _, rfl, SqL.of hbs, ?_⟩
    rw [all_okc]
    have k2 : Kq p H H2 := (k1.same s2).same z1
    have o2 : H2 p = some (rdO K dx a b) := z1 _ _ (s2 _ _ o1)
    have hD2 : H2 D = some (.lst (C.map nV)) := z1 _ _ upd_same
    by_cases ho : C.all okc = true
    case neg =>
      rw [if_neg (fun z => ho z.2)] at kn
      have ho' : C.all okc = false := by
        cases h : C.all okc
        · rfl
        · exact absurd h ho
      rw [ho']
      exact ⟨_, rfl, iteT (kn rfl _ k2)⟩
    rw [ho]
    rw [if_pos ⟨fit, ho⟩] at ks
    refine ⟨_, rfl, iteF ?_⟩
    -- self.at += many
    refine ⟨_, rfl, p, _, dx, _, _, rfl, o2, T.cl_Reading, T.na_Reading_at, rdF_at _ _, _, rfl, _, _, rfl, rfl, dx, _, o2, (by rw [rdF_eq]; show 2 < 1000; decide), ?_⟩
    have e1 : putF "at" (V.int ((b : Int) + (m : Int))) (rdF a (b : Int)) = rdF a ((b + m : Nat) : Int) := rdF_put _ _ _
    rw [e1]
    have hpD2 : D ≠ p := hpD.symm
    -- the text
    have nJ : ∀ {J : Addr}, (upd H2 p (rdO K dx a (b + m))) J = none → H2 J = none ∧ J ≠ p := fun {J} h => by
      have ne : J ≠ p := fun z => by rw [z, upd_same] at h; cases h
      rw [upd_ne ne] at h
      exact ⟨h, ne⟩
    refine ⟨rfl, _, rfl, D, rfl, ⟨_, SqL.of (by rw [upd_ne hpD2]; exact hD2)⟩, fun J nJ0 => lc_list (K := K) (a := D) (xs := C.map nV) (fun j H' => Same (upd H2 p (rdO K dx a (b + m))) H' ∧ H' J = some (.lst ((C.take j).map fun c => V.str (signS c)))) ⟨(nw (Same.refl _) nJ0), upd_same⟩ (fun j H' _ z => Same.seq z.1 (SqL.of (by rw [upd_ne hpD2]; exact hD2))) (fun j v H' hv z => ?_) (fun H3 z => ?_)⟩
    · obtain ⟨z3, z4⟩ := z
      obtain ⟨c, hc, rfl, h256⟩ := gt hv
      refine ⟨rfl, _, rfl, c, rfl, h256, List.all_eq_true.mp ho c (List.mem_of_getElem? hc), _, z4, ?_, sk z3 nJ0, ?_⟩
      · rw [List.length_map, List.length_take]
        exact Nat.lt_of_le_of_lt (show min j C.length ≤ 100000 by omega) (by decide)
      · rw [upd_same, List.take_add_one, hc, List.map_append]
        rfl
    obtain ⟨z3, z4⟩ := z
    rw [List.length_map, List.take_length] at z4
    have hJ : SqL K H3 J ((C.map signS).map V.str) := by
      rw [List.map_map]
      exact SqL.of z4
    refine ⟨_, J, C.map signS, rfl, rfl, .inl hJ, ?_, ?_⟩
    · rw [signs_len _ ho, List.length_map, cl]
      show m + m * 0 ≤ _
      omega
    · have j : Txt.join (Str.ofString "") (C.map signS) = (⟨C.toArray⟩ : Str) := join_signs _ ho
      rw [j]
      refine ks _ _ rfl _ _ ((k2.trans Kq.refl.upd).same z3) ?_ (.str _)
      have := z3 p _ upd_same
      rw [this, List.length_drop]
      have e : b + m = L.length - (q.length - m) := by omega
      rw [e]
theorem c_Reading_simple (T : Txt K mg) (hSG : SgnT K) : Mx.MetX P w K mg base (L2.CX P w) 4 (rdC K) "simple" (spSimple K) := by
  have c_Reading_number : Mx.MetX P w K mg base (L2.CX P w) 3 (rdC K) "number" (spNumber K) := c_Reading_number T
  have c_Reading_text : Mx.MetX P w K mg base (L2.CX P w) 3 (rdC K) "text" (spTextR K) := c_Reading_text T hSG
  refine Mx.metX_of T.d_Reading_simple T.cl_Reading T.m_Reading_simple sc_Reading_simple (fun fd F => b_Reading_simple F) (fun vs H Q E h => ?_) (fun cdv A outer s H vs Q E hr h => ?_)
  · obtain ⟨p, dx, a, L, i, c, rfl, _⟩ := h
    rfl
  · obtain ⟨p, dx, a, L, i, c, rfl, R, kn, ks⟩ := h
    refine ⟨_, (C8.pss_cut (ps_if (pt_cmpR op_eq (pv 1) (Mx.pe_gi T.i_NUMBER) (nomark _))
    (pss_one (ps_ret (Mx.pe_mx0 c_Reading_number hr (by decide) (Mx.onward (takes_of rfl rfl rfl rfl)) (pv 0))))
    pss_nil)
  (C8.pss_cut (ps_if (pt_cmpR op_eq (pv 1) (Mx.pe_gi T.i_TEXT) (nomark _))
    (pss_one (ps_ret (Mx.pe_mx0 c_Reading_text hr (by decide) (Mx.onward (takes_of rfl rfl rfl rfl)) (pv 0))))
    pss_nil)
  (C8.pss_cut (ps_if (pt_cmpR op_eq (pv 1) (Mx.pe_gi T.i_NONE) (nomark _))
    (pss_one (ps_ret pe_non))
    pss_nil)
  (C8.pss_cut (ps_if (PW.pt (pw_or (pt_cmpR op_eq (pv 1) (Mx.pe_gi T.i_YES) (nomark _)) (pw_or1 (pt_cmpR op_eq (pv 1) (Mx.pe_gi T.i_NO) (nomark _)))))
    (pss_one (ps_ret (pe_cmpR op_eq (pv 1) (Mx.pe_gi T.i_YES) (nomark _))))
    pss_nil)
  (pss_one (ps_raise rfl (takes_of rfl rfl rfl rfl) (Gk.pmk_bare PySem.F.excBase_ValueError T.x_BadForm.1 T.g_BadForm T.x_BadForm.2.1 (raises_own T.x_BadForm.2.2.1 T.x_BadForm.2.2.2) rfl))))))), ?_⟩
    have lq : (L.length - (L.drop i).length : Nat) = i := by
      have := R.le
      rw [List.length_drop]
      omega
    unfold simpS at kn ks
    refine ⟨fun σ1 H1 => H1 = H ∧ σ1 = [some (.ref p), some (.int (c : Int))] ∧ c ≠ 105, ?_, ?_⟩
    · refine ⟨_, rfl, rfl, _, rfl, ?_⟩
      rw [dec_ii]
      by_cases h : c = 105
      case neg =>
        rw [decide_eq_false (show ¬ (c : Int) = 105 by omega)]
        exact iteF ⟨rfl, rfl, h⟩
      subst h
      exact iteT ⟨_, rfl, p, dx, _, rfl, R.ob, rdF_no _ _ (by decide +kernel) (by decide +kernel), p, dx, a, L, i, rfl, R, kn, ks⟩
    rintro σ1 H1 ⟨eH, rfl, h5⟩
    cases eH
    refine ⟨fun σ1 H1 => H1 = H ∧ σ1 = [some (.ref p), some (.int (c : Int))] ∧ c ≠ 115, ?_, ?_⟩
    · refine ⟨_, rfl, rfl, _, rfl, ?_⟩
      rw [dec_ii]
      by_cases h : c = 115
      case neg =>
        rw [decide_eq_false (show ¬ (c : Int) = 115 by omega)]
        exact iteF ⟨rfl, rfl, h⟩
      subst h
      exact iteT ⟨_, rfl, p, dx, _, rfl, R.ob, rdF_no _ _ (by decide +kernel) (by decide +kernel), p, dx, a, L, i, rfl, R, kn, ks⟩
    rintro σ1 H1 ⟨eH, rfl, h15⟩
    cases eH
    rw [if_neg h5, if_neg h15] at kn ks
    refine ⟨fun σ1 H1 => H1 = H ∧ σ1 = [some (.ref p), some (.int (c : Int))] ∧ c ≠ 110, ?_, ?_⟩
    · refine ⟨_, rfl, rfl, _, rfl, ?_⟩
      rw [dec_ii]
      by_cases h : c = 110
      case neg =>
        rw [decide_eq_false (show ¬ (c : Int) = 110 by omega)]
        exact iteF ⟨rfl, rfl, h⟩
      subst h
      exact iteT (ks _ _ rfl _ _ Kq.refl (by rw [lq]; exact R.ob) .non)
    rintro σ1 H1 ⟨eH, rfl, h10⟩
    cases eH
    rw [if_neg h10] at kn ks
    refine ⟨fun σ1 H1 => H1 = H ∧ σ1 = [some (.ref p), some (.int (c : Int))] ∧ c ≠ 116 ∧ c ≠ 102, ?_, ?_⟩
    · refine ⟨_, rfl, rfl, _, rfl, ?_⟩
      rw [dec_ii]
      by_cases h : c = 116
      · subst h
        refine iteT (iteT ⟨_, rfl, rfl, ?_⟩)
        exact ks _ _ rfl _ _ Kq.refl (by rw [lq]; exact R.ob) (.bl true)
      rw [decide_eq_false (show ¬ (c : Int) = 116 by omega)]
      refine iteF ⟨_, rfl, rfl, _, rfl, ?_⟩
      rw [dec_ii]
      by_cases h2 : c = 102
      · subst h2
        refine iteT ⟨_, rfl, rfl, ?_⟩
        exact ks _ _ rfl _ _ Kq.refl (by rw [lq]; exact R.ob) (.bl false)
      · rw [decide_eq_false (show ¬ (c : Int) = 102 by omega)]
        exact iteF ⟨rfl, rfl, h, h2⟩
    rintro σ1 H1 ⟨eH, rfl, h16, h02⟩
    cases eH
    rw [if_neg h16, if_neg h02] at kn
    exact kn rfl _ Kq.refl
end
end K28
set_option Elab.async false
set_option linter.all false
set_option maxRecDepth 100000
set_option maxHeartbeats 4000000
namespace K28
open PySem PySem.Spec PyProof.Rows L2 Oc
section
variable {K : PySem.W.Frag}
mutual
theorem Dp.tups {H H' : Hp} (h : ∀ a xs, SqT K H a xs → SqT K H' a xs) : ∀ (d : PyData) (v : V), Oc.plain d = true → Dp K H v d → Dp K H' v d
  | .none, _, _, .non => .non
  | .bool _, _, _, .bl b => .bl b
  | .int _, _, _, .int i => .int i
  | .str _, _, _, .str x => .str x
  | .list ds, _, p, .lst h1 h2 => by simp only [Oc.plain] at p; cases p
  | .tuple ds, _, p, .tup h1 h2 => .tup (h _ _ h1) (DpAll.tups h ds _ (plain_tup ▸ p) h2)
theorem DpAll.tups {H H' : Hp} (h : ∀ a xs, SqT K H a xs → SqT K H' a xs) : ∀ (ds : List PyData) (vs : List V), plainA ds = true → DpAll K H vs ds → DpAll K H' vs ds
  | [], _, _, .nil => .nil
  | d :: ds, _, p, .cons h1 h2 => .cons (Dp.tups h d _ (by rw [plainA_cons, Bool.and_eq_true] at p; exact p.1) h1) (DpAll.tups h ds _ (by rw [plainA_cons, Bool.and_eq_true] at p; exact p.2) h2)
end
/-- tuples stay -/
def Tps (K : PySem.W.Frag) (H H' : Hp) : Prop := ∀ a xs, SqT K H a xs → SqT K H' a xs
theorem Tps.refl {H : Hp} : Tps K H H := fun _ _ h => h
theorem Tps.trans {H H1 H2 : Hp} (h : Tps K H H1) (h' : Tps K H1 H2) : Tps K H H2 := fun a xs z => h' a xs (h a xs z)
theorem Tps.same {H H' : Hp} (s : Same H H') : Tps K H H' := fun a xs z => Same.tup s z
theorem Tps.lst {H : Hp} {D : Addr} {ys : List V} {o : HO} (h : H D = some (.lst ys)) : Tps K H (upd H D o) := fun a xs z => SqT.upd h z
theorem Tps.kp {H H' : Hp} {p C dx : Addr} {fs : List (Str × V)} (k : Kq p H H') (h : H p = some (.ins C dx fs)) : Tps K H H' := fun a xs z =>
  k.tup (fun ys e => by rw [h] at e; cases e) (fun u ys e => by rw [h] at e; cases e) z
/-- open tuples, the innermost first: where their parts stand -/
inductive Lev (K : PySem.W.Frag) (H : Hp) : List Addr → List (List PyData) → Prop
  | nil : Lev K H [] []
  | cons {b : Addr} {bs : List Addr} {vs : List V} {ds : List PyData} {st : List (List PyData)} : H b = some (.lst vs) → DpAll K H vs ds → plainA ds = true → Lev K H bs st → Lev K H (b :: bs) (ds :: st)
theorem Lev.len {H : Hp} : ∀ {bs : List Addr} {st : List (List PyData)}, Lev K H bs st → bs.length = st.length
  | _, _, .nil => rfl
  | _, _, .cons _ _ _ l => by rw [List.length_cons, List.length_cons, l.len]
theorem Lev.there {H : Hp} {x : Addr} : ∀ {bs : List Addr} {st : List (List PyData)}, Lev K H bs st → x ∈ bs → ∃ o, H x = some o
  | _, _, .nil, h => nomatch h
  | _, _, .cons h1 _ _ l, h => by
    rcases List.mem_cons.mp h with rfl | h
    · exact ⟨_, h1⟩
    · exact l.there h
theorem Lev.mono {H H' : Hp} (t : Tps K H H') : ∀ {bs : List Addr} {st : List (List PyData)}, (∀ b ∈ bs, H' b = H b) → Lev K H bs st → Lev K H' bs st
  | _, _, _, .nil => .nil
  | _, _, h, .cons h1 h2 h3 l => .cons ((h _ List.mem_cons_self).trans h1) (DpAll.tups t _ _ h3 h2) h3 (l.mono t fun b hb => h b (List.mem_cons_of_mem _ hb))
end
theorem rev_refs (b : Addr) (bs : List Addr) : ((b :: bs).reverse.map V.ref) = bs.reverse.map V.ref ++ [V.ref b] := by
  rw [List.reverse_cons, List.map_append]
  rfl
theorem atI_last (xs : List V) (v : V) : atI (xs ++ [v]) (-1) = some v := by
  unfold atI ixN
  rw [if_neg (by decide), List.length_append, if_pos (by show -((xs.length + 1 : Nat) : Int) ≤ -1; omega)]
  have e : ((-1 : Int) + ((xs.length + [v].length : Nat) : Int)).toNat = xs.length := by
    show ((-1 : Int) + ((xs.length + 1 : Nat) : Int)).toNat = xs.length
    omega
  rw [e]
  show (xs ++ [v])[xs.length]? = some v
  rw [List.getElem?_append_right (Nat.le_refl _), Nat.sub_self]
  rfl
def spValue (K : PySem.W.Frag) : Sp := fun vs H Q E => ∃ (p dx a : Addr) (L : List Nat) (i : Nat), vs = [.ref p] ∧ RdAt K H p dx a L i ∧
  (valS 401 (L.drop i) = none → ∀ H', Kq p H H' → bad K E H') ∧
  ∀ d q, valS 401 (L.drop i) = some (d, q) → ∀ (v : V) (H' : Hp), Kq p H H' → H' p = some (rdO K dx a (L.length - q.length)) → Dp K H' v d → Q v H'
/-- the loop's head -/
structure VHead (K : PySem.W.Frag) (H H' : Hp) (p dx a lv : Addr) (L : List Nat) (i0 i : Nat) (bs : List Addr) (st : List (List PyData)) : Prop where
  kp : Kq p H H'
  rd : RdAt K H' p dx a L i
  lv_ : H' lv = some (.lst (bs.reverse.map V.ref))
  lv0 : H lv = none
  lvp : lv ≠ p
  lev : Lev K H' bs st
  b0 : ∀ b ∈ bs, H b = none ∧ b ≠ p ∧ b ≠ lv
  nd : bs.Nodup
  szs : ∀ ds ∈ st, ds.length ≤ i
section
variable {P : Program} {w : World} {K : PySem.W.Frag} {mg : Str → Option Value} {base : Heap}
theorem c_Reading_value (T : Txt K mg) (hSG : SgnT K) : Mx.MetX P w K mg base (L2.CX P w) 5 (rdC K) "value" (spValue K) := by
  have c_Reading_octet : Mx.MetX P w K mg base (L2.CX P w) 1 (rdC K) "octet" (spOctet K) := c_Reading_octet T
  have c_Reading_simple : Mx.MetX P w K mg base (L2.CX P w) 4 (rdC K) "simple" (spSimple K) := c_Reading_simple T hSG
  refine Mx.metX_of T.d_Reading_value T.cl_Reading T.m_Reading_value sc_Reading_value (fun fd F => b_Reading_value F) (fun vs H Q E h => ?_) (fun cdv A outer s H vs Q E hr h => ?_)
  · obtain ⟨p, dx, a, L, i, rfl, _⟩ := h
    rfl
  · obtain ⟨p, dx, a, L, i0, rfl, R, kn, ks⟩ := h
    refine ⟨_, (pss_cons (ps_set (i := 1) sc_Reading_value.nd rfl (by first | exact .inl rfl | exact .inr rfl) (pe_lst pa_nil))
  (pss_one (ps_while (passes_of rfl) (pt_val pe_bl)
    (pss_cons (ps_set (i := 2) sc_Reading_value.nd rfl (by first | exact .inl rfl | exact .inr rfl) (Mx.pe_mx0 c_Reading_octet hr (by decide) (Mx.onward (takes_of rfl rfl rfl rfl)) (pv 0)))
  (C8.pss_cut (ps_if (pt_cmpR op_eq (pv 2) (Mx.pe_gi T.i_SHUT) (nomark _))
    (pss_cons (ps_if (pt_not (pt_truth (pv 1) (by intro _; rfl)))
    (pss_one (ps_raise rfl (takes_of rfl rfl rfl rfl) (Gk.pmk_bare PySem.F.excBase_ValueError T.x_BadForm.1 T.g_BadForm T.x_BadForm.2.1 (raises_own T.x_BadForm.2.2.1 T.x_BadForm.2.2.2) rfl)))
    pss_nil)
  (pss_one (ps_set (i := 3) sc_Reading_value.nd rfl (by first | exact .inl rfl | exact .inr rfl) (pe_callTy call_tuple_of (by rfl) T.z_tuple (by decide +kernel) (pa_cons (pe_bm0 PySem.F.plainAttrs_list PySem.F.slot_list_pop PySem.F.type_list_pop mt_pop (pv 1)) pa_nil)))))
    (pss_one (ps_if (pt_cmpR op_gt (pe_callB call_len_seq (by rfl) T.z_len (by decide +kernel) (pa_cons (pv 1) pa_nil)) (Mx.pe_gi T.i_MOST_DEEP) (nomark _))
    (pss_one (ps_raise rfl (takes_of rfl rfl rfl rfl) (Gk.pmk_bare PySem.F.excBase_ValueError T.x_BadForm.1 T.g_BadForm T.x_BadForm.2.1 (raises_own T.x_BadForm.2.2.1 T.x_BadForm.2.2.2) rfl)))
    (pss_one (ps_if (pt_cmpR op_eq (pv 2) (Mx.pe_gi T.i_BEGIN) (nomark _))
    (pss_cons (ps_expr (pe_bm PySem.F.plainAttrs_list PySem.F.slot_list_append PySem.F.type_list_append mt_append (pv 1) (pa_cons (pe_lst pa_nil) pa_nil)))
  (pss_one ps_continue))
    (pss_one (ps_set (i := 3) sc_Reading_value.nd rfl (by first | exact .inl rfl | exact .inr rfl) (Mx.pe_mx c_Reading_simple hr (by decide) (Mx.onward (takes_of rfl rfl rfl rfl)) (pv 0) (pa_cons (pv 2) pa_nil)))))))))
  (pss_cons (ps_if (pt_not (pt_truth (pv 1) (by intro _; rfl)))
    (pss_one (ps_ret (pv 3)))
    pss_nil)
  (pss_one (ps_expr (pe_bm PySem.F.plainAttrs_list PySem.F.slot_list_append PySem.F.type_list_append mt_append (pe_ix ix_list (pv 1) (pe_un un_neg pe_int) (fun _ _ => rfl)) (pa_cons (pv 3) pa_nil)))))))))), ?_⟩
    refine ⟨by show 0 ≤ sizeLine; decide, fun lv nlv => ?_⟩
    have hpl : lv ≠ p := (ne_of_none R.ob nlv).symm
    refine ⟨fun m σ' H' => ∃ (i : Nat) (bs : List Addr) (st : List (List PyData)) (y2 y3 : Option V), m = L.length - i ∧ σ' = [some (.ref p), some (.ref lv), y2, y3] ∧ VHead K H H' p dx a lv L i0 i bs st ∧ head st (L.drop i) = valS 401 (L.drop i0),
      ⟨_, i0, [], [], none, none, rfl, rfl, ⟨fun b o e n => by rw [upd_ne (ne_of_none e nlv)]; exact e, R.go (fun b o e n => by rw [upd_ne (ne_of_none e nlv)]; exact e) (by rw [upd_ne (ne_of_none R.ob nlv)]; exact R.ob) R.le, upd_same, nlv, hpl, .nil, (fun b hb => nomatch hb), .nil, (fun ds hd => nomatch hd)⟩, rfl⟩, ?_⟩
    rintro m σ' H' ⟨i, bs, st, y2, y3, rfl, rfl, V0, hv⟩
    have no : ∀ {m : Str}, ¬ m = "at" → ¬ m = "octets" → ∀ i : Int, (rdF a i).lookup m = none := fun h1 h2 i => rdF_no _ _ h1 h2
    refine ⟨_, rfl, iteT ⟨fun σ1 H1 => ∃ (i1 : Nat) (bs : List Addr) (st : List (List PyData)) (y2 y3 : Option V), i < i1 ∧ σ1 = [some (.ref p), some (.ref lv), y2, y3] ∧ VHead K H H1 p dx a lv L i0 i1 bs st ∧ head st (L.drop i1) = valS 401 (L.drop i0), ?_, ?_⟩⟩
    · rintro σ1 H1 ⟨i1, bs1, st1, z2, z3, hi, rfl, V1, hv1⟩
      exact ⟨L.length - i1, by have := V1.rd.le; omega, i1, bs1, st1, z2, z3, rfl, rfl, V1, hv1⟩
    -- code = self.octet()
    refine ⟨_, rfl, p, dx, _, rfl, V0.rd.ob, no (by decide +kernel) (by decide +kernel) _, p, dx, a, L, i, rfl, V0.rd, fun c hc => ?_, fun hl => ?_⟩
    case refine_2 =>
      rw [List.drop_eq_nil_of_le hl, head_nil] at hv
      exact kn hv.symm _ V0.kp
    have hil : i + 1 ≤ L.length := (List.getElem?_eq_some_iff.mp hc).1
    obtain ⟨H1, eH1⟩ : ∃ H1, H1 = upd H' p (rdO K dx a (i + 1)) := ⟨_, rfl⟩
    rw [← eH1]
    have kp1 : Kq p H' H1 := by rw [eH1]; exact Kq.refl.upd
    have V1 : VHead K H H1 p dx a lv L i0 (i + 1) bs st := by
      refine ⟨V0.kp.trans kp1, V0.rd.go kp1 (by rw [eH1, upd_same]) hil, kp1 _ _ V0.lv_ hpl, V0.lv0, hpl, V0.lev.mono (Tps.kp kp1 V0.rd.ob) (fun b hb => ?_), V0.b0, V0.nd, fun ds hd => Nat.le_succ_of_le (V0.szs ds hd)⟩
      rw [eH1, upd_ne (V0.b0 b hb).2.1]
    rw [drop_at hc] at hv
    -- what is there now
    refine ⟨fun σ1 H2 => ∃ (i1 : Nat) (bs : List Addr) (st : List (List PyData)) (d : PyData) (v : V) (y2 : Option V), i < i1 ∧ σ1 = [some (.ref p), some (.ref lv), y2, some v] ∧ VHead K H H2 p dx a lv L i0 i1 bs st ∧ Dp K H2 v d ∧ Oc.plain d = true ∧ fin st d (L.drop i1) = valS 401 (L.drop i0) ∧ (∀ ds ∈ st, ds.length < i1), ?_, ?_⟩
    · refine ⟨_, rfl, rfl, _, rfl, ?_⟩
      rw [dec_ii]
      by_cases h41 : c = 41
      · subst h41
        refine iteT ?_
        refine ⟨_, rfl, _, .inl ⟨_, SqL.of V1.lv_, rfl⟩, ?_⟩
        have V1' := V1
        obtain ⟨kpV, rdV, lvV, lv0, lvp, levV, b0V, ndV, szV⟩ := V1
        cases levV with
        | nil =>
          rw [head_shut0] at hv
          exact iteT (kn hv.symm _ kpV)
        | @cons b bs vs ds st hb hda hpa hl =>
          rw [rev_refs]
          have ne : (bs.reverse.map V.ref ++ [V.ref b]).isEmpty = false := by
            cases bs.reverse.map V.ref <;> rfl
          rw [ne]
          refine iteF ?_
          rw [rev_refs] at lvV
          -- told = tuple(levels.pop())
          have hbf := b0V b List.mem_cons_self
          refine ⟨_, rfl, .inl ⟨rfl, _, SqL.of lvV⟩, lv, _, .ref b, rfl, rfl, lvV, ?_, ?_⟩
          · rw [List.length_append]
            show (bs.reverse.map V.ref ++ [V.ref b])[(bs.reverse.map V.ref).length]? = _
            rw [List.getElem?_append_right (Nat.le_refl _), Nat.sub_self]
            rfl
          rw [List.dropLast_concat]
          have hb2 : (upd H1 lv (.lst (bs.reverse.map V.ref))) b = some (.lst vs) := by rw [upd_ne hbf.2.2]; exact hb
          refine ⟨b, _, rfl, .inl ⟨SqL.of hb2, fun tp ntp => ?_⟩⟩
          have t1 : Tps K H1 (upd (upd H1 lv (.lst (bs.reverse.map V.ref))) tp (.tup vs)) := (Tps.lst lvV).trans (Tps.same (same_upd ntp))
          have nlt : tp ≠ lv := fun z => by rw [z, upd_same] at ntp; cases ntp
          have ntp1 : H1 tp = none := by rw [upd_ne nlt] at ntp; exact ntp
          have kp2 : Kq p H (upd (upd H1 lv (.lst (bs.reverse.map V.ref))) tp (.tup vs)) := fun x o e n => by
            have e1 := kpV x o e n
            rw [upd_ne (ne_of_none e1 ntp1), upd_ne (ne_of_none e lv0)]
            exact e1
          refine ⟨i + 1, bs, st, .tuple ds, .ref tp, _, by omega, rfl, ⟨kp2, R.go kp2 (by rw [upd_ne (ne_of_none rdV.ob ntp1), upd_ne lvp.symm]; exact rdV.ob) hil, by rw [upd_ne nlt.symm, upd_same], lv0, lvp, hl.mono t1 (fun x hx => ?_), fun x hx => b0V x (List.mem_cons_of_mem _ hx), (List.nodup_cons.mp ndV).2, fun ds hd => szV ds (List.mem_cons_of_mem _ hd)⟩, ?_, by rw [plain_tup]; exact hpa, by rw [head_shut] at hv; exact hv, fun ds hd => Nat.lt_succ_of_le (V0.szs ds (List.mem_cons_of_mem _ hd))⟩
          · have hxl := (b0V x (List.mem_cons_of_mem _ hx)).2.2
            have hx1 : x ≠ tp := fun z => by
              obtain ⟨o, ho⟩ := hl.there hx
              rw [z, ntp1] at ho
              cases ho
            rw [upd_ne hx1, upd_ne hxl]
          · exact .tup (SqT.of upd_same) (DpAll.tups t1 _ _ hpa hda)
      · rw [decide_eq_false (show ¬ (c : Int) = 41 by omega)]
        refine iteF ?_
        have nl : ((bs.reverse.map V.ref).length : Int) = (st.length : Int) := by rw [List.length_map, List.length_reverse, V1.lev.len]
        refine ⟨_, rfl, lv, _, rfl, .inl (SqL.of V1.lv_), _, _, rfl, rfl, _, rfl, ?_⟩
        rw [nl]
        by_cases hdeep : 400 < st.length
        · rw [decide_eq_true (show (400 : Int) < (st.length : Int) by omega)]
          rw [head_deep _ hdeep h41] at hv
          exact iteT (kn hv.symm _ V1.kp)
        rw [decide_eq_false (show ¬ (400 : Int) < (st.length : Int) by omega)]
        refine iteF ⟨_, rfl, rfl, _, rfl, ?_⟩
        rw [dec_ii]
        by_cases h40 : c = 40
        · subst h40
          refine iteT ?_
          rw [head_open _ (by omega)] at hv
          -- levels.append([]); continue
          refine ⟨_, rfl, .inl ⟨rfl, _, SqL.of V1.lv_⟩, by show 0 ≤ sizeLine; decide, fun b nb => ?_⟩
          have nbl : b ≠ lv := fun z => by rw [z, V1.lv_] at nb; cases nb
          have lvb : (upd H1 b (.lst [])) lv = some (.lst (bs.reverse.map V.ref)) := by rw [upd_ne nbl.symm]; exact V1.lv_
          refine ⟨lv, _, _, rfl, rfl, lvb, ?_, ?_⟩
          · rw [List.length_map, List.length_reverse, V1.lev.len]
            exact Nat.lt_of_le_of_lt (show st.length ≤ 100000 by omega) (by decide)
          have kp2 : Kq p H (upd (upd H1 b (.lst [])) lv (.lst (bs.reverse.map V.ref ++ [V.ref b]))) := fun x o e n => by
            have e1 := V1.kp x o e n
            rw [upd_ne (ne_of_none e V1.lv0), upd_ne (ne_of_none e1 nb)]
            exact e1
          have nbp : b ≠ p := (ne_of_none V1.rd.ob nb).symm
          have hb0 : H b = none := by
            cases e : H b with
            | none => rfl
            | some o => exact absurd nb (by rw [V1.kp b o e nbp]; exact fun z => by cases z)
          have t1 : Tps K H1 (upd (upd H1 b (.lst [])) lv (.lst (bs.reverse.map V.ref ++ [V.ref b]))) := (Tps.same (same_upd nb)).trans (Tps.lst lvb)
          have nin : b ∉ bs := fun hx => by
            obtain ⟨o, ho⟩ := V1.lev.there hx
            rw [nb] at ho
            cases ho
          refine ⟨i + 1, b :: bs, [] :: st, _, _, by omega, rfl, ⟨kp2, R.go kp2 (by rw [upd_ne V1.lvp.symm, upd_ne nbp.symm]; exact V1.rd.ob) hil, by rw [upd_same, rev_refs], V1.lv0, V1.lvp, .cons (by rw [upd_ne nbl, upd_same]) .nil (by simp only [plainA]) (V1.lev.mono t1 fun x hx => ?_), fun x hx => ?_, List.nodup_cons.mpr ⟨nin, V1.nd⟩, fun ds hd => ?_⟩, hv⟩
          · rw [upd_ne (V1.b0 x hx).2.2, upd_ne (show x ≠ b from fun z => nin (z ▸ hx))]
          · rcases List.mem_cons.mp hx with rfl | hx
            · exact ⟨hb0, nbp, nbl⟩
            · exact V1.b0 x hx
          · rcases List.mem_cons.mp hd with rfl | hd
            · exact Nat.zero_le _
            · exact V1.szs ds hd
        · rw [decide_eq_false (show ¬ (c : Int) = 40 by omega)]
          refine iteF ?_
          rw [head_simp _ (by omega) h41 h40] at hv
          -- told = self.simple(code)
          refine ⟨_, rfl, p, dx, _, rfl, V1.rd.ob, no (by decide +kernel) (by decide +kernel) _, _, rfl, p, dx, a, L, i + 1, c, rfl, V1.rd, fun hn H2 k2 => ?_, fun d q hq v H2 k2 o2 hd => ?_⟩
          · rw [hn] at hv
            exact kn hv.symm _ (V1.kp.trans k2)
          · rw [hq] at hv
            obtain ⟨pp, ep, pd⟩ := simp_plain (Nat.le_refl _) hq V1.rd.run
            obtain ⟨q1, q2⟩ := sfxR (L := L) (p := L.take (i + 1) ++ pp) (q := q) (by rw [List.append_assoc, ← ep, List.take_append_drop])
            have ql := simp_less hq
            rw [List.length_drop] at ql
            have t2 : Tps K H1 H2 := Tps.kp k2 V1.rd.ob
            refine ⟨L.length - q.length, bs, st, d, v, _, by omega, rfl, ⟨V1.kp.trans k2, V1.rd.go k2 o2 (by omega), k2 _ _ V1.lv_ V1.lvp, V1.lv0, V1.lvp, V1.lev.mono t2 (fun x hx => ?_), V1.b0, V1.nd, fun ds hd => Nat.le_trans (V1.szs ds hd) (by omega)⟩, hd, pd, by rw [q1]; exact hv, fun ds hd => Nat.lt_of_le_of_lt (V0.szs ds hd) (by omega)⟩
            obtain ⟨o, ho⟩ := V1.lev.there hx
            rw [ho]
            exact k2 _ _ ho (V1.b0 x hx).2.1
    · rintro σ1 H2 ⟨i1, bs1, st1, d, v, z2, hi, rfl, V2, hd, pd, hf, hlt⟩
      refine ⟨_, rfl, _, .inl ⟨_, SqL.of V2.lv_, rfl⟩, ?_⟩
      obtain ⟨kpV, rdV, lvV, lv0, lvp, levV, b0V, ndV, szV⟩ := V2
      cases levV with
      | nil =>
        rw [fin_nil] at hf
        refine iteT ⟨_, rfl, ks d (L.drop i1) hf.symm v _ kpV ?_ hd⟩
        rw [rdV.ob, List.length_drop]
        have e : i1 = L.length - (L.length - i1) := by
          have := rdV.le
          omega
        rw [← e]
      | @cons b bs vs ds st hb hda hpa hl =>
        rw [rev_refs]
        have ne : (bs.reverse.map V.ref ++ [V.ref b]).isEmpty = false := by
          cases bs.reverse.map V.ref <;> rfl
        rw [ne]
        refine iteF ?_
        rw [rev_refs] at lvV
        have hbf := b0V b List.mem_cons_self
        rw [fin_cons] at hf
        -- levels[-1].append(told)
        refine ⟨_, rfl, _, rfl, _, _, _, _, rfl, rfl, SqL.of lvV, atI_last _ _, .inl ⟨rfl, _, SqL.of hb⟩, _, rfl, b, _, _, rfl, rfl, hb, ?_, ?_⟩
        · rw [DpAll.len hda]
          have h1 := szV ds List.mem_cons_self
          have h2 := rdV.le
          have h3 := R.sz
          exact Nat.lt_of_le_of_lt (show ds.length ≤ 100000 by omega) (by decide)
        have t1 : Tps K H2 (upd H2 b (.lst (vs ++ [v]))) := Tps.lst hb
        have kp2 : Kq p H (upd H2 b (.lst (vs ++ [v]))) := fun x o e n => by
          rw [upd_ne (ne_of_none e hbf.1)]
          exact kpV x o e n
        refine ⟨i1, b :: bs, (ds ++ [d]) :: st, _, _, hi, rfl, ⟨kp2, R.go kp2 (by rw [upd_ne hbf.2.1.symm]; exact rdV.ob) rdV.le, by rw [upd_ne hbf.2.2.symm, rev_refs]; exact lvV, lv0, lvp, .cons upd_same (DpAll.tups t1 _ _ (plainA_snoc hpa pd) (DpAll.snoc hda hd)) (plainA_snoc hpa pd) (hl.mono t1 fun x hx => ?_), b0V, ndV, fun es he => ?_⟩, hf⟩
        · rw [upd_ne (show x ≠ b from fun z => (List.nodup_cons.mp ndV).1 (z ▸ hx))]
        · rcases List.mem_cons.mp he with rfl | he
          · rw [List.length_append]
            exact hlt ds List.mem_cons_self
          · exact szV es (List.mem_cons_of_mem _ he)
end
end K28
set_option Elab.async false
set_option linter.all false
set_option maxRecDepth 100000
set_option maxHeartbeats 4000000
namespace K28
open PySem PySem.Spec PyProof.Rows L2 Oc
def spAre (K : PySem.W.Frag) : Sp := fun vs H Q _ => ∃ (a : Addr) (L : List Nat), vs = [.ref a] ∧ SqL K H a (L.map nV) ∧ byteS L ∧ L.length ≤ 100000 ∧ ∀ H', Same H H' → Q (.bl true) H'
theorem nV_map (L : List Nat) : L.map nV = (L.map fun c : Nat => (c : Int)).map V.int := by
  rw [List.map_map]
  rfl
theorem all_rep (n : Nat) : (List.replicate n true).all id = true := by
  rw [List.all_eq_true]
  intro x hx
  exact (List.eq_of_mem_replicate hx)
section
variable {P : Program} {w : World} {K : PySem.W.Frag} {mg : Str → Option Value} {base : Heap}
theorem c_are_octets (T : Txt K mg) : Mx.CalX P w K mg base CX0 1 "are_octets" (spAre K) := by
  refine Mx.calX_of T.d_are_octets T.g_are_octets sc_are_octets (fun fd F => b_are_octets F) (fun vs H Q E h => ?_) (fun cdv A outer s H vs Q E hr h => ?_)
  · obtain ⟨a, L, rfl, _⟩ := h
    rfl
  · obtain ⟨a, L, rfl, hS, hB, hL, k⟩ := h
    refine ⟨_, (pss_cons (ps_if (pt_not (pt_truth (pe_callB (cr_all rfl) (by rfl) T.z_all (by decide +kernel) (pa_cons (pe_lc (own := [("x", 1)]) (g := gName 1) rfl sc_are_octets.nd (pi_list (pv 0)) (blkOk_by (own := [("x", 1)]) (N := n_are_octets) (sc := defScope s_are_octets) (by decide +kernel)) (fun _ _ _ _ _ => (pg_name (i := 1) sc_are_octets.nd rfl (by first | exact .inl rfl | exact .inr rfl))) (fun _ _ _ _ _ => pts_nil) (fun _ _ _ _ _ => (pe_cmpR op_isTyB (pe_callTy (T := "type") (Mx.call_type1K (K := K) rfl) (by rfl) T.z_type (by decide +kernel) (pa_cons (pv 1) pa_nil)) (pe_bltn (v := .ty "int") (by rfl) T.z_int (by decide +kernel) rfl) (nomark _)))) pa_nil)) (by intro _; rfl)))
    (pss_one (ps_ret pe_bl))
    pss_nil)
  (pss_one (ps_ret (pe_or (pe_cmpR op_eq (pe_callB call_len_seq (by rfl) T.z_len (by decide +kernel) (pa_cons (pv 0) pa_nil)) pe_int (nomark _)) (pe_one (pe_and (pe_cmpR op_ge (pe_callB (cr_min rfl) (by rfl) T.z_min (by decide +kernel) (pa_cons (pv 0) pa_nil)) pe_int (nomark _)) (pe_one (pe_cmpR op_le (pe_callB (cr_max rfl) (by rfl) T.z_max (by decide +kernel) (pa_cons (pv 0) pa_nil)) pe_int (nomark _))))))))), ?_⟩
    refine ⟨.ref a, rfl, a, rfl, ⟨_, hS⟩, fun B nB => lc_list (K := K) (a := a) (xs := L.map nV) (fun j H' => Same H H' ∧ H' B = some (.lst ((List.replicate j true).map V.bl))) ⟨(nw (Same.refl _) nB), upd_same⟩ (fun j H' _ z => Same.seq z.1 hS) (fun j v H' hv z => ?_) (fun H2 z => ?_)⟩
    · obtain ⟨z1, z2⟩ := z
      obtain ⟨c, hc, rfl⟩ : ∃ c, L[j]? = some c ∧ v = nV c := by
        rw [List.getElem?_map] at hv
        cases e : L[j]? with
        | none => rw [e] at hv; cases hv
        | some c => rw [e] at hv; exact ⟨c, rfl, (Option.some.inj hv).symm⟩
      have hj : j < L.length := (List.getElem?_eq_some_iff.mp hc).1
      refine ⟨rfl, _, rfl, _, _, rfl, .int _, _, _, rfl, rfl, _, z2, ?_, sk z1 nB, ?_⟩
      · rw [List.length_map, List.length_replicate]
        exact Nat.lt_of_le_of_lt (show j ≤ 100000 by omega) (by decide)
      · rw [upd_same, List.replicate_succ', List.map_append]
        rfl
    obtain ⟨z1, z2⟩ := z
    rw [List.length_map] at z2
    have hS2 := Same.seq z1 hS
    refine ⟨B, _, rfl, SqL.of z2, ?_⟩
    rw [all_rep]
    refine ⟨_, rfl, iteF ?_⟩
    -- len(xs) == 0 or ..
    have hI : SqL K H2 a ((L.map fun c : Nat => (c : Int)).map V.int) := by rw [← nV_map]; exact hS2
    refine ⟨_, rfl, a, _, rfl, .inl hS2, rfl, _, rfl, ?_⟩
    rw [dec_ii, List.length_map]
    by_cases h0 : L.length = 0
    · rw [decide_eq_true (show (L.length : Int) = 0 by omega)]
      exact iteT (k _ z1)
    rw [decide_eq_false (show ¬ (L.length : Int) = 0 by omega)]
    refine iteF ⟨_, rfl, a, _, rfl, hI, by rw [List.length_map]; omega, fun m hm _ => ⟨_, _, rfl, rfl, _, rfl, ?_⟩⟩
    obtain ⟨c, hc, rfl⟩ := List.mem_map.mp hm
    rw [decide_eq_true (show (0 : Int) ≤ (c : Int) by omega)]
    refine iteT ⟨_, rfl, a, _, rfl, hI, by rw [List.length_map]; omega, fun m2 hm2 _ => ⟨_, _, rfl, rfl, ?_⟩⟩
    obtain ⟨c2, hc2, rfl⟩ := List.mem_map.mp hm2
    have := hB c2 hc2
    show Q (.bl (decide ((c2 : Int) ≤ 255))) H2
    rw [decide_eq_true (show (c2 : Int) ≤ 255 by omega)]
    exact k _ z1
theorem c_read (T : Txt K mg) (hSG : SgnT K) : Mx.CalX P w K mg base (L2.CX P w) 6 "read" (spRead K) := by
  have c_are_octets : Mx.CalX P w K mg base CX0 1 "are_octets" (spAre K) := c_are_octets T
  have c_Reading : Mx.MakX P w K mg base CX0 1 "Reading" (rdC K) (spInitR K) := rd_init T
  have c_Reading_value : Mx.MetX P w K mg base (L2.CX P w) 5 (rdC K) "value" (spValue K) := c_Reading_value T hSG
  refine Mx.calX_of T.d_read T.g_read sc_read (fun fd F => b_read F) (fun vs H Q E h => ?_) (fun cdv A outer s H vs Q E hr h => ?_)
  · obtain ⟨a, L, rfl, _⟩ := h
    rfl
  · obtain ⟨a, L, rfl, hS, hB, hR, hL, ks, kn⟩ := h
    refine ⟨_, (pss_cons (ps_if (PW.pt (pw_or (pt_cmpR op_notTyB (pe_callTy (T := "type") call_type1 (by rfl) T.z_type (by decide +kernel) (pa_cons (pv 0) pa_nil)) (pe_bltn (v := .ty "list") (by rfl) T.z_list (by decide +kernel) rfl) (nomark _)) (pw_or1 (pt_not (pt_truth (Mx.pe_cx c_are_octets hr (by decide) (by rfl) pass0 (pa_cons (pv 0) pa_nil)) (by intro _; rfl))))))
    (pss_one (ps_raise rfl (takes_of rfl rfl rfl rfl) (Gk.pmk_bare PySem.F.excBase_ValueError T.x_BadForm.1 T.g_BadForm T.x_BadForm.2.1 (raises_own T.x_BadForm.2.2.1 T.x_BadForm.2.2.2) rfl)))
    pss_nil)
  (pss_cons (ps_set (i := 1) sc_read.nd rfl (by first | exact .inl rfl | exact .inr rfl) (Mx.pe_kx c_Reading hr (by decide) (by rfl) pass0 (pa_cons (pv 0) pa_nil)))
  (pss_cons (ps_set (i := 2) sc_read.nd rfl (by first | exact .inl rfl | exact .inr rfl) (Mx.pe_mx0 c_Reading_value hr (by decide) (Mx.onward (takes_of rfl rfl rfl rfl)) (pv 1)))
  (pss_cons (ps_if (pt_cmpR op_ne (pe_fld (pv 1) rfl) (pe_callB call_len_seq (by rfl) T.z_len (by decide +kernel) (pa_cons (pv 0) pa_nil)) (nomark _))
    (pss_one (ps_raise rfl (takes_of rfl rfl rfl rfl) (Gk.pmk_bare PySem.F.excBase_ValueError T.x_BadForm.1 T.g_BadForm T.x_BadForm.2.1 (raises_own T.x_BadForm.2.2.1 T.x_BadForm.2.2.2) rfl)))
    pss_nil)
  (pss_one (ps_ret (pv 2))))))), ?_⟩
    unfold wholeS at ks kn
    refine ⟨_, rfl, _, _, rfl, .lst hS, _, _, rfl, rfl, _, rfl, iteF ⟨_, rfl, a, L, rfl, hS, hB, by omega, fun H1 s1 => ⟨_, rfl, iteF ?_⟩⟩⟩
    -- reading = Reading(octets)
    refine ⟨_, rfl, fun p dx np nd ne => ⟨p, dx, a, rfl, upd_same, rfl, ?_⟩⟩
    have s2 : Same H1 (upd (upd (upd (upd H1 dx (.own p)) p (.ins (rdC K) dx [])) p (.ins (rdC K) dx (putF "octets" (.ref a) []))) p (rdO K dx a 0)) := fun b o e => by
      rw [upd_ne (ne_of_none e np), upd_ne (ne_of_none e np), upd_ne (ne_of_none e np), upd_ne (ne_of_none e nd)]
      exact e
    have o2 : (upd (upd (upd (upd H1 dx (.own p)) p (.ins (rdC K) dx [])) p (.ins (rdC K) dx (putF "octets" (.ref a) []))) p (rdO K dx a 0)) p = some (rdO K dx a 0) := upd_same
    obtain ⟨H2, e2⟩ : ∃ H2, H2 = (upd (upd (upd (upd H1 dx (.own p)) p (.ins (rdC K) dx [])) p (.ins (rdC K) dx (putF "octets" (.ref a) []))) p (rdO K dx a 0)) := ⟨_, rfl⟩
    rw [← e2] at s2 o2 ⊢
    have s3 := Same.trans s1 s2
    have hp0 : H p = none := s1.free np
    have kpS : ∀ {H3 : Hp}, Kq p H2 H3 → Same H H3 := fun k3 b o e => k3 b o (s3 b o e) (ne_of_none e hp0)
    have nov : ∀ i : Int, (rdF a i).lookup ("value" : Str) = none := fun i => rdF_no _ _ (by decide +kernel) (by decide +kernel)
    have R : RdAt K H2 p dx a L 0 := ⟨o2, Same.seq s3 hS, Nat.zero_le _, hB, hR, by omega⟩
    refine ⟨_, rfl, p, dx, _, rfl, o2, nov _, p, dx, a, L, 0, rfl, R, fun hn H3 k3 => ?_, fun d q hq v H3 k3 o3 hd => ?_⟩
    · have hn' : valS 401 L = none := hn
      rw [hn'] at kn
      exact kn rfl _ (kpS k3)
    · have hq' : valS 401 L = some (d, q) := hq
      rw [hq'] at ks kn
      refine ⟨_, rfl, p, _, dx, _, _, rfl, o3, T.cl_Reading, T.na_Reading_at, rdF_at _ _, _, rfl, a, _, rfl, .inl (Same.seq (kpS k3) hS), rfl, _, rfl, ?_⟩
      rw [dec_ii, List.length_map]
      have ql := val_less _ _ _ _ hq'
      cases q with
      | nil =>
        rw [decide_eq_true (show ((L.length - ([] : List Nat).length : Nat) : Int) = (L.length : Int) by simp)]
        exact iteF ⟨_, rfl, ks d rfl v _ (kpS k3) hd⟩
      | cons x q =>
        rw [List.length_cons] at ql
        rw [decide_eq_false (show ¬ ((L.length - (x :: q).length : Nat) : Int) = (L.length : Int) by rw [List.length_cons]; omega)]
        exact iteT (kn rfl _ (kpS k3))
end
end K28
set_option Elab.async false
set_option linter.all false
set_option maxRecDepth 100000
set_option exponentiation.threshold 3000
set_option maxHeartbeats 4000000
namespace K28
open PySem PySem.Spec PyProof.Rows L2 Oc
def spCodes (K : PySem.W.Frag) : Sp := fun vs H Q _ => ∃ z : Str, vs = [.str z] ∧ (TL.tl z).length ≤ 1000000 ∧ ∀ (p : Addr) (H' : Hp), Same H H' → H p = none → H' p = some (.lst ((TL.tl z).map nV)) → Q (.ref p) H'
def spFigOf (K : PySem.W.Frag) : Sp := fun vs H Q _ => ∃ n : Nat, vs = [.int (n : Int)] ∧ n.log2 < 1920 ∧ ∀ (z : Str) (H' : Hp), Same H H' → TL.tl z = TL.numL n → Q (.str z) H'
theorem two1920 : (2 : Nat) ^ 1920 < 10 ^ 600 := by decide +kernel
theorem log_lt {n k : Nat} (h : n.log2 < k) : n < 2 ^ k := by
  rcases Nat.eq_zero_or_pos n with z | z
  · rw [z]
    exact Nat.pow_pos (by decide)
  · exact (Nat.log2_lt (by omega)).mp h
theorem log_le {n m : Nat} {k : Nat} (h : m ≤ n) (hn : n.log2 < k) (hk : 0 < k) : m.log2 < k := by
  rcases Nat.eq_zero_or_pos m with z | z
  · rw [z]
    exact hk
  · exact (Nat.log2_lt (by omega)).mpr (Nat.lt_of_le_of_lt h (log_lt hn))
theorem sum_len (ys : List Str) : (ys.map (·.length)).sum = ((ys.map TL.tl).flatten).length := by
  rw [List.length_flatten, List.map_map]
  congr 1
section
variable {P : Program} {w : World} {K : PySem.W.Frag} {mg : Str → Option Value} {base : Heap}
theorem c_codes_of (T : Txt K mg) : Mx.CalX P w K mg base CX0 1 "codes_of" (spCodes K) := by
  refine Mx.calX_of T.d_codes_of T.g_codes_of sc_codes_of (fun fd F => b_codes_of F) (fun vs H Q E h => ?_) (fun cdv A outer s H vs Q E hr h => ?_)
  · obtain ⟨z, rfl, _⟩ := h
    rfl
  · obtain ⟨z, rfl, hl, k⟩ := h
    refine ⟨_, (pss_one (ps_ret (pe_lc (own := [("sign", 1)]) (g := gName 1) rfl sc_codes_of.nd (pi_str (pv 0)) (blkOk_by (own := [("sign", 1)]) (N := n_codes_of) (sc := defScope s_codes_of) (by decide +kernel)) (fun _ _ _ _ _ => (pg_name (i := 1) sc_codes_of.nd rfl (by first | exact .inl rfl | exact .inr rfl))) (fun _ _ _ _ _ => pts_nil) (fun _ _ _ _ _ => (pe_callB call_ord (by rfl) T.z_ord (by decide +kernel) (pa_cons (pv 1) pa_nil)))))), ?_⟩
    refine ⟨_, rfl, _, rfl, fun D nD => lc_it walk_str (fun j H' => H' = upd H D (.lst (((TL.tl z).take j).map nV))) rfl (fun _ _ _ _ => trivial) (fun j v H1 H2 hj e y => ?_) (fun H1 e => ?_)⟩
    · obtain ⟨rfl, c, hc, rfl⟩ := y
      subst e
      have hc2 : (TL.tl z)[j]? = some c := by
        show (z.cps.toList)[j]? = some c
        rw [Array.getElem?_toList]
        exact hc
      have hj2 := (List.getElem?_eq_some_iff.mp hc2).1
      refine ⟨rfl, _, rfl, _, rfl, rfl, _, upd_same, ?_, ?_⟩
      · rw [List.length_map, List.length_take]
        exact Nat.lt_of_le_of_lt (show min j (TL.tl z).length ≤ 1000000 by omega) (by decide)
      · rw [upd_upd, List.take_add_one, hc2, List.map_append]
        rfl
    · have e2 : z.cps.size = (TL.tl z).length := Array.length_toList.symm
      rw [e2, List.take_length] at e
      subst e
      exact k D _ (same_upd nD) nD upd_same
theorem c_figures_of (T : Txt K mg) : Mx.CalX P w K mg base CX0 1 "figures_of" (spFigOf K) := by
  refine Mx.calX_of T.d_figures_of T.g_figures_of sc_figures_of (fun fd F => b_figures_of F) (fun vs H Q E h => ?_) (fun cdv A outer s H vs Q E hr h => ?_)
  · obtain ⟨n, rfl, _⟩ := h
    rfl
  · obtain ⟨n, rfl, hn, k⟩ := h
    refine ⟨_, (pss_cons (ps_set (i := 1) sc_figures_of.nd rfl (by first | exact .inl rfl | exact .inr rfl) (pe_lst pa_nil))
  (C8.pss_cut (ps_while (passes_of rfl) (pt_cmpR op_ge (pv 0) (Mx.pe_gi T.i_BASE) (nomark _))
    (pss_cons (ps_asg (pe_callB call_divmodW (by rfl) T.z_divmod (by decide +kernel) (pa_cons (pv 0) (pa_cons (Mx.pe_gi T.i_BASE) pa_nil))) (pg_tup (by rfl) (pgs_cons (pg_name (i := 0) sc_figures_of.nd rfl (by first | exact .inl rfl | exact .inr rfl)) (pgs_cons (pg_name (i := 2) sc_figures_of.nd rfl (by first | exact .inl rfl | exact .inr rfl)) pgs_nil))))
  (pss_one (ps_expr (pe_bm PySem.F.plainAttrs_list PySem.F.slot_list_append PySem.F.type_list_append mt_append (pv 1) (pa_cons (pe_bm PySem.F.plainAttrs_str PySem.F.slot_str_zfill PySem.F.type_str_zfill mt_zfill (pe_callTy call_str_int (by rfl) T.z_str (by decide +kernel) (pa_cons (pv 2) pa_nil)) (pa_cons (Mx.pe_gi T.i_PIECE) pa_nil)) pa_nil))))))
  (pss_cons (ps_expr (pe_bm PySem.F.plainAttrs_list PySem.F.slot_list_append PySem.F.type_list_append mt_append (pv 1) (pa_cons (pe_callTy call_str_int (by rfl) T.z_str (by decide +kernel) (pa_cons (pv 0) pa_nil)) pa_nil)))
  (pss_cons (ps_expr (pe_bm0 PySem.F.plainAttrs_list PySem.F.slot_list_reverse PySem.F.type_list_reverse mt_reverse (pv 1)))
  (pss_one (ps_ret (pe_bm PySem.F.plainAttrs_str PySem.F.slot_str_join PySem.F.type_str_join mt_join pe_str (pa_cons (pv 1) pa_nil)))))))), ?_⟩
    refine ⟨by show 0 ≤ sizeLine; decide, fun D nD => ?_⟩
    have n600 : (TL.numL n).length ≤ 600 := TL.numL_len (by decide) (Nat.lt_trans (log_lt hn) two1920)
    have small : ∀ {m : Nat} {ps : List Str}, TL.numL n = TL.numL m ++ (ps.reverse.map TL.tl).flatten → (ps.reverse.map TL.tl).flatten.length ≤ 600 := fun e => by
      rw [e, List.length_append] at n600
      omega
    refine ⟨fun σ' H' => ∃ (m : Nat) (ps : List Str) (y2 : Option V), σ' = [some (.int (m : Int)), some (.ref D), y2] ∧ H' D = some (.lst (ps.map V.str)) ∧ Same H H' ∧ TL.numL n = TL.numL m ++ (ps.reverse.map TL.tl).flatten ∧ m ≤ n ∧ ps.length ≤ (ps.reverse.map TL.tl).flatten.length, ?_, ?_⟩
    · refine ⟨fun u σ' H' => ∃ (m : Nat) (ps : List Str) (y2 : Option V), u = m ∧ σ' = [some (.int (m : Int)), some (.ref D), y2] ∧ H' D = some (.lst (ps.map V.str)) ∧ Same H H' ∧ TL.numL n = TL.numL m ++ (ps.reverse.map TL.tl).flatten ∧ m ≤ n ∧ ps.length ≤ (ps.reverse.map TL.tl).flatten.length, ⟨n, n, [], none, rfl, rfl, upd_same, same_upd nD, by simp, Nat.le_refl _, Nat.zero_le _⟩, ?_⟩
      rintro u σ' H' ⟨m, ps, y2, eu, rfl, hD, sm, hv, hm, hp⟩
      have fl := small hv
      refine ⟨_, rfl, _, _, rfl, rfl, _, rfl, ite2 (fun h1 => ?_) (fun h1 => ?_)⟩
      · have eB : ((10 ^ 60 : Nat) : Int) = 1000000000000000000000000000000000000000000000000000000000000 := by decide +kernel
        have h1' : 10 ^ 60 ≤ m := by
          have := of_decide_eq_true h1
          omega
        have md : m / 10 ^ 60 < m := Nat.div_lt_self (by omega) (by decide)
        have ml : m % 10 ^ 60 < 10 ^ 60 := Nat.mod_lt _ (by decide)
        refine ⟨fun σ1 H1 => ∃ (m' : Nat) (ps' : List Str) (y2 : Option V), m' < u ∧ σ1 = [some (.int (m' : Int)), some (.ref D), y2] ∧ H1 D = some (.lst (ps'.map V.str)) ∧ Same H H1 ∧ TL.numL n = TL.numL m' ++ (ps'.reverse.map TL.tl).flatten ∧ m' ≤ n ∧ ps'.length ≤ (ps'.reverse.map TL.tl).flatten.length, ?_, ?_⟩
        · rintro σ1 H1 ⟨m', ps', z2, z, z3⟩
          exact ⟨m', z, m', ps', z2, rfl, z3⟩
        refine ⟨_, rfl, _, _, rfl, divp_ok (by decide) ?_, fun t nt => ?_⟩
        · have b : Builtin.Int.intBits (m : Int) ≤ ((m : Int)).natAbs.log2 + 1 := by
            unfold Builtin.Int.intBits
            split <;> omega
          have l := log_le hm hn (by decide)
          rw [Int.natAbs_natCast] at b
          omega
        have d1 : (m : Int) / 1000000000000000000000000000000000000000000000000000000000000 = ((m / 10 ^ 60 : Nat) : Int) := by
          rw [← eB]
          exact (Int.natCast_ediv _ _).symm
        have d2 : (m : Int) % 1000000000000000000000000000000000000000000000000000000000000 = ((m % 10 ^ 60 : Nat) : Int) := by
          rw [← eB]
          exact (Int.natCast_emod _ _).symm
        rw [d1, d2]
        have hDt : (upd H' t (.tup [.int ((m / 10 ^ 60 : Nat) : Int), .int ((m % 10 ^ 60 : Nat) : Int)])) D = some (.lst (ps.map V.str)) := by
          rw [upd_ne (ne_of_none hD nt)]
          exact hD
        refine ⟨t, _, rfl, SqT.of upd_same, rfl, ?_⟩
        refine ⟨_, _, rfl, _, _, rfl, rfl, _, rfl, .inl ⟨rfl, _, SqL.of hDt⟩, _, rfl, _, rfl, ?_, rfl, _, _, rfl, rfl, by decide +kernel, D, _, _, rfl, rfl, hDt, ?_, ?_⟩
        · exact log_le (Nat.le_trans (Nat.mod_le _ _) hm) hn (by decide)
        · rw [List.length_map]
          exact Nat.lt_of_le_of_lt (show ps.length ≤ 100000 by omega) (by decide)
        have tz : TL.tl (Txt.zfill (Str.ofString (toString ((m % 10 ^ 60 : Nat) : Int))) 60) = padL 60 (m % 10 ^ 60) := tl_zfill _ ml
        refine ⟨m / 10 ^ 60, ps ++ [Txt.zfill (Str.ofString (toString ((m % 10 ^ 60 : Nat) : Int))) 60], _, by omega, rfl, ?_, ?_, ?_, by omega, ?_⟩
        · rw [upd_same, List.map_append]
          rfl
        · intro b o e
          rw [upd_ne (ne_of_none e nD), upd_ne (ne_of_none (sm b o e) nt)]
          exact sm b o e
        · rw [hv, num_cut 60 m (by omega), List.reverse_append, List.map_append, List.flatten_append, List.append_assoc, ← tz]
          simp
        · rw [List.reverse_append, List.map_append, List.flatten_append, List.length_append, List.length_append]
          have : 1 ≤ (([Txt.zfill (Str.ofString (toString ((m % 10 ^ 60 : Nat) : Int))) 60].reverse.map TL.tl).flatten).length := by
            show 1 ≤ (TL.tl _ ++ []).length
            rw [tz, List.append_nil]
            show 1 ≤ (padL 59 _ ++ [_]).length
            rw [List.length_append]
            exact Nat.le_add_left _ _
          show ps.length + 1 ≤ _
          omega
      · exact ⟨_, _, _, rfl, hD, sm, hv, hm, hp⟩
    · rintro σ' H' ⟨m, ps, y2, rfl, hD, sm, hv, hm, hp⟩
      have fl := small hv
      refine ⟨_, rfl, .inl ⟨rfl, _, SqL.of hD⟩, _, rfl, _, rfl, log_le hm hn (by decide), D, _, _, rfl, rfl, hD, ?_, ?_⟩
      · rw [List.length_map]
        exact Nat.lt_of_le_of_lt (show ps.length ≤ 100000 by omega) (by decide)
      refine ⟨_, rfl, .inl ⟨rfl, _, SqL.of upd_same⟩, D, _, rfl, rfl, upd_same, ?_⟩
      refine ⟨rfl, _, rfl, _, D, (ps ++ [Str.ofString (toString (m : Int))]).reverse, rfl, rfl, .inl (SqL.of ?_), ?_, ?_⟩
      · rw [upd_same, List.map_reverse, List.map_append]
        rfl
      · rw [sum_len]
        have e1 : (((ps ++ [Str.ofString (toString (m : Int))]).reverse).map TL.tl).flatten = TL.numL n := by
          rw [hv, List.reverse_append, List.map_append, List.flatten_append]
          have : (([Str.ofString (toString (m : Int))].reverse).map TL.tl).flatten = TL.numL m := by
            show TL.tl (Str.ofString (toString (m : Int))) ++ [] = _
            rw [List.append_nil, TL.tl_num]
          rw [this]
        rw [e1]
        show _ + _ * 0 ≤ _
        omega
      · refine k _ _ (fun b o e => ?_) ?_
        · rw [upd_ne (ne_of_none e nD), upd_ne (ne_of_none e nD)]
          exact sm b o e
        · have e0 : Str.ofString "" = Str.empty := rfl
          rw [e0, tl_joined, hv, List.reverse_append, List.map_append, List.flatten_append]
          have : (([Str.ofString (toString (m : Int))].reverse).map TL.tl).flatten = TL.numL m := by
            show TL.tl (Str.ofString (toString (m : Int))) ++ [] = _
            rw [List.append_nil, TL.tl_num]
          rw [this]
end
end K28
set_option Elab.async false
set_option linter.all false
set_option maxRecDepth 100000
set_option exponentiation.threshold 3000
set_option maxHeartbeats 4000000
namespace K28
open PySem PySem.Spec PyProof.Rows L2 Oc
/-- something is put behind the octets at q -/
def spPut (K : PySem.W.Frag) (ok : V → Hp → List Nat → Prop) : Sp := fun vs H Q _ => ∃ (v : V) (q : Addr) (xs ys : List Nat), vs = [v, .ref q] ∧ H q = some (.lst (xs.map nV)) ∧ xs.length + ys.length ≤ 200000 ∧ ok v H ys ∧
  ∀ H', Kq q H H' → H' q = some (.lst ((xs ++ ys).map nV)) → Q .non H'
def okNum : V → Hp → List Nat → Prop := fun v _ ys => ∃ i : Int, v = .int i ∧ i.natAbs.log2 < 1920 ∧ ys = 105 :: (intL i ++ [59])
def okText : V → Hp → List Nat → Prop := fun v _ ys => ∃ x : Str, v = .str x ∧ (TL.tl x).all okc = true ∧ ys = 115 :: (TL.numL (TL.tl x).length ++ (58 :: TL.tl x))
section
variable {P : Program} {w : World} {K : PySem.W.Frag} {mg : Str → Option Value} {base : Heap}
theorem nV_cat (xs ys : List Nat) : (xs ++ ys).map nV = xs.map nV ++ ys.map nV := List.map_append
theorem abs_num (i : Int) : (if i < 0 then -i else i) = ((i.natAbs : Nat) : Int) := by
  split <;> omega
theorem intL_neg {i : Int} (h : i < 0) : intL i = 45 :: TL.numL i.natAbs := by
  cases i with
  | ofNat n => exact absurd h (by show ¬ (n : Int) < 0; omega)
  | negSucc n => rfl
theorem intL_pos {i : Int} (h : ¬ i < 0) : intL i = TL.numL i.natAbs := by
  cases i with
  | ofNat n => rfl
  | negSucc n => exact absurd (Int.negSucc_lt_zero n) h
theorem fit {n : Nat} (h : n ≤ 1000000) : n ≤ sizeLine := Nat.le_trans h (by decide)
theorem fit1 {n : Nat} (h : n ≤ 1000000) : n < sizeLine := Nat.lt_of_le_of_lt h (by decide)
theorem c_write_number (T : Txt K mg) : Mx.CalX P w K mg base CX0 2 "write_number" (spPut K okNum) := by
  have c_codes_of : Mx.CalX P w K mg base CX0 1 "codes_of" (spCodes K) := c_codes_of T
  have c_figures_of : Mx.CalX P w K mg base CX0 1 "figures_of" (spFigOf K) := c_figures_of T
  refine Mx.calX_of T.d_write_number T.g_write_number sc_write_number (fun fd F => b_write_number F) (fun vs H Q E h => ?_) (fun cdv A outer s H vs Q E hr h => ?_)
  · obtain ⟨v, q, xs, ys, rfl, _⟩ := h
    rfl
  · obtain ⟨v, q, xs, ys, rfl, hq, sz, ⟨i, rfl, lg, rfl⟩, k⟩ := h
    refine ⟨_, (pss_cons (ps_expr (pe_bm PySem.F.plainAttrs_list PySem.F.slot_list_append PySem.F.type_list_append mt_append (pv 1) (pa_cons (Mx.pe_gi T.i_NUMBER) pa_nil)))
  (C8.pss_cut (ps_if (pt_cmpR op_lt (pv 0) pe_int (nomark _))
    (pss_one (ps_expr (pe_bm PySem.F.plainAttrs_list PySem.F.slot_list_append PySem.F.type_list_append mt_append (pv 1) (pa_cons (Mx.pe_gi T.i_MINUS) pa_nil))))
    pss_nil)
  (pss_cons (ps_expr (pe_bm PySem.F.plainAttrs_list PySem.F.slot_list_extend PySem.F.type_list_extend mt_extend (pv 1) (pa_cons (Mx.pe_cx c_codes_of hr (by decide) (by rfl) pass0 (pa_cons (Mx.pe_cx c_figures_of hr (by decide) (by rfl) pass0 (pa_cons (pe_callB call_abs (by rfl) T.z_abs (by decide +kernel) (pa_cons (pv 0) pa_nil)) pa_nil)) pa_nil)) pa_nil)))
  (pss_one (ps_expr (pe_bm PySem.F.plainAttrs_list PySem.F.slot_list_append PySem.F.type_list_append mt_append (pv 1) (pa_cons (Mx.pe_gi T.i_END) pa_nil))))))), ?_⟩
    rw [List.length_cons, List.length_append] at sz
    have il : (TL.numL i.natAbs).length ≤ (intL i).length := by
      by_cases h : i < 0
      · rw [intL_neg h, List.length_cons]
        omega
      · rw [intL_pos h]
        exact Nat.le_refl _
    refine ⟨_, rfl, .inl ⟨rfl, _, SqL.of hq⟩, q, _, _, rfl, rfl, hq, fit1 (by rw [List.length_map]; omega), ?_⟩
    refine ⟨fun σ1 H1 => σ1 = [some (.int i), some (.ref q)] ∧ Kq q H H1 ∧ ∃ zs : List Nat, H1 q = some (.lst ((xs ++ 105 :: zs).map nV)) ∧ zs ++ TL.numL i.natAbs = intL i ∧ zs.length ≤ 1, ?_, ?_⟩
    · have h1 : (upd H q (.lst (xs.map nV ++ [V.int 105]))) q = some (.lst ((xs ++ [105]).map nV)) := by
        rw [upd_same, List.map_append]
        rfl
      refine ⟨_, rfl, _, _, rfl, rfl, _, rfl, ite2 (fun h => ?_) (fun h => ?_)⟩
      · have hn := of_decide_eq_true h
        refine ⟨_, rfl, .inl ⟨rfl, _, SqL.of h1⟩, q, _, _, rfl, rfl, h1, fit1 (by rw [List.length_map, List.length_append]; show _ + 1 ≤ _; omega), rfl, Kq.refl.upd.upd, [45], ?_, ?_, by decide⟩
        · rw [upd_same, List.map_append, List.map_append, List.append_assoc]
          rfl
        · rw [intL_neg hn]
          rfl
      · have hn : ¬ i < 0 := fun z => h (decide_eq_true z)
        exact ⟨rfl, Kq.refl.upd, [], h1, by rw [intL_pos hn]; rfl, by decide⟩
    · rintro σ1 H1 ⟨rfl, k1, zs, hz, ez, lz⟩
      have el : zs.length + (TL.numL i.natAbs).length = (intL i).length := by rw [← ez, List.length_append]
      -- out.extend(codes_of(figures_of(abs(n))))
      refine ⟨_, rfl, .inl ⟨rfl, _, SqL.of hz⟩, _, rfl, i, rfl, ?_⟩
      rw [abs_num]
      refine ⟨i.natAbs, rfl, lg, fun z H2 s2 tz => ⟨z, rfl, by rw [tz]; omega, fun p H3 s3 np hp => ?_⟩⟩
      rw [tz] at hp
      have hz3 : H3 q = some (.lst ((xs ++ 105 :: zs).map nV)) := s3 _ _ (s2 _ _ hz)
      refine ⟨q, p, _, _, rfl, rfl, hz3, hp, fit (by rw [List.length_map, List.length_map, List.length_append, List.length_cons]; omega), ?_⟩
      have h4 : (upd H3 q (.lst ((xs ++ 105 :: zs).map nV ++ (TL.numL i.natAbs).map nV))) q = some (.lst ((xs ++ 105 :: intL i).map nV)) := by
        rw [upd_same, ← ez, ← nV_cat, List.append_assoc]
        rfl
      have k4 : Kq q H (upd H3 q (.lst ((xs ++ 105 :: zs).map nV ++ (TL.numL i.natAbs).map nV))) := ((k1.same s2).same s3).upd
      refine ⟨_, rfl, .inl ⟨rfl, _, SqL.of h4⟩, q, _, _, rfl, rfl, h4, fit1 (by rw [List.length_map, List.length_append, List.length_cons]; omega), ?_⟩
      refine k _ k4.upd ?_
      rw [upd_same]
      have e : xs ++ 105 :: (intL i ++ [59]) = (xs ++ 105 :: intL i) ++ [59] := by
        rw [List.append_assoc]
        rfl
      rw [e, nV_cat (xs ++ 105 :: intL i)]
      rfl
theorem c_write_text (T : Txt K mg) : Mx.CalX P w K mg base (L2.CX P w) 2 "write_text" (spPut K okText) := by
  have c_codes_of : Mx.CalX P w K mg base CX0 1 "codes_of" (spCodes K) := c_codes_of T
  have c_figures_of : Mx.CalX P w K mg base CX0 1 "figures_of" (spFigOf K) := c_figures_of T
  have c_is_sign_code : Mx.CalX P w K mg base CX0 1 "is_sign_code" spIsSign := c_is_sign_code T
  refine Mx.calX_of T.d_write_text T.g_write_text sc_write_text (fun fd F => b_write_text F) (fun vs H Q E h => ?_) (fun cdv A outer s H vs Q E hr h => ?_)
  · obtain ⟨v, q, xs, ys, rfl, _⟩ := h
    rfl
  · obtain ⟨v, q, xs, ys, rfl, hq, sz, ⟨x, rfl, ho, rfl⟩, k⟩ := h
    refine ⟨_, (pss_cons (ps_set (i := 2) sc_write_text.nd rfl (by first | exact .inl rfl | exact .inr rfl) (Mx.pe_cx c_codes_of hr (by decide) (by rfl) pass0 (pa_cons (pv 0) pa_nil)))
  (C8.pss_cut (ps_if (PW.pt (pw_and (pt_truth (pv 2) (by intro _; rfl)) (pw_and1 (pt_not (PW.pt (pw_and (pt_cmpR op_ge (pe_callB (cr_min rfl) (by rfl) T.z_min (by decide +kernel) (pa_cons (pv 2) pa_nil)) (Mx.pe_gi T.i_BLANK) (nomark _)) (pw_and (pt_cmpR op_le (pe_callB (cr_max rfl) (by rfl) T.z_max (by decide +kernel) (pa_cons (pv 2) pa_nil)) (Mx.pe_gi T.i_LAST) (nomark _)) (pw_and1 (pt_cmpR op_notIn_seq (Mx.pe_gi T.i_PERCENT) (pv 2) (by rfl))))))))))
    (pss_one (ps_if (pt_not (pt_truth (pe_callB (cr_all rfl) (by rfl) T.z_all (by decide +kernel) (pa_cons (pe_lc (own := [("code", 3)]) (g := gName 3) rfl sc_write_text.nd (pi_list (pv 2)) (blkOk_by (own := [("code", 3)]) (N := n_write_text) (sc := defScope s_write_text) (by decide +kernel)) (fun _ _ _ _ _ => (pg_name (i := 3) sc_write_text.nd rfl (by first | exact .inl rfl | exact .inr rfl))) (fun _ _ _ _ _ => pts_nil) (fun _ _ _ _ _ => (Mx.pe_cx c_is_sign_code hr (by decide) (by rfl) pass0 (pa_cons (pv 3) pa_nil)))) pa_nil)) (by intro _; rfl)))
    (pss_one (ps_raise rfl (takes_of rfl rfl rfl rfl) (Gk.pmk_bare PySem.F.excBase_ValueError T.x_BadForm.1 T.g_BadForm T.x_BadForm.2.1 (raises_own T.x_BadForm.2.2.1 T.x_BadForm.2.2.2) rfl)))
    pss_nil))
    pss_nil)
  (pss_cons (ps_expr (pe_bm PySem.F.plainAttrs_list PySem.F.slot_list_append PySem.F.type_list_append mt_append (pv 1) (pa_cons (Mx.pe_gi T.i_TEXT) pa_nil)))
  (pss_cons (ps_expr (pe_bm PySem.F.plainAttrs_list PySem.F.slot_list_extend PySem.F.type_list_extend mt_extend (pv 1) (pa_cons (Mx.pe_cx c_codes_of hr (by decide) (by rfl) pass0 (pa_cons (Mx.pe_cx c_figures_of hr (by decide) (by rfl) pass0 (pa_cons (pe_callB call_len_seq (by rfl) T.z_len (by decide +kernel) (pa_cons (pv 2) pa_nil)) pa_nil)) pa_nil)) pa_nil)))
  (pss_cons (ps_expr (pe_bm PySem.F.plainAttrs_list PySem.F.slot_list_append PySem.F.type_list_append mt_append (pv 1) (pa_cons (Mx.pe_gi T.i_COLON) pa_nil)))
  (pss_one (ps_expr (pe_bm PySem.F.plainAttrs_list PySem.F.slot_list_extend PySem.F.type_list_extend mt_extend (pv 1) (pa_cons (pv 2) pa_nil))))))))), ?_⟩
    rw [List.length_cons, List.length_append, List.length_cons] at sz
    refine ⟨_, rfl, x, rfl, by omega, fun D H1 s1 nD hD => ?_⟩
    obtain ⟨C, hC⟩ : ∃ C, C = TL.tl x := ⟨_, rfl⟩
    rw [← hC] at hD ho sz k
    have c256 : ∀ c ∈ C, c < 256 := fun c hc => by
      have := List.all_eq_true.mp ho c hc
      unfold okc at this
      simp only [Bool.or_eq_true, beq_iff_eq, Bool.and_eq_true, decide_eq_true_eq] at this
      omega
    have gt : ∀ {j : Nat} {v : V}, (C.map nV)[j]? = some v → ∃ c, C[j]? = some c ∧ v = nV c := fun {j v} h => by
      rw [List.getElem?_map] at h
      cases e : C[j]? with
      | none => rw [e] at h; cases h
      | some c => rw [e] at h; exact ⟨c, rfl, (Option.some.inj h).symm⟩
    have hI : SqL K H1 D ((C.map fun c : Nat => (c : Int)).map V.int) := by rw [← nV_map]; exact SqL.of hD
    refine ⟨fun σ1 H2 => (∃ y3, σ1 = [some (.str x), some (.ref q), some (.ref D), y3]) ∧ Same H H2 ∧ H2 D = some (.lst (C.map nV)), ?_, ?_⟩
    · refine ⟨_, rfl, _, .inl ⟨_, SqL.of hD, rfl⟩, ?_⟩
      cases hc : C with
      | nil =>
        rw [hc] at hD
        exact iteF ⟨⟨_, rfl⟩, s1, hD⟩
      | cons c0 r =>
        rw [← hc]
        have ne : (C.map nV).isEmpty = false := by rw [hc]; rfl
        have np : 0 < (C.map fun c : Nat => (c : Int)).length := by rw [hc]; show 0 < _ + 1; omega
        rw [ne]
        refine iteT ?_
        refine ⟨_, rfl, D, _, rfl, hI, np, fun m _ _ => ⟨_, _, rfl, rfl, _, rfl, ite2 (fun _ => ⟨_, rfl, D, _, rfl, hI, np, fun m2 _ _ => ⟨_, _, rfl, rfl, _, rfl, ite2 (fun _ => ⟨_, rfl, D, _, rfl, .inl (SqL.of hD), rfl, ?_, _, rfl, ?_⟩) (fun _ => ?_)⟩⟩) (fun _ => ?_)⟩⟩
        · rw [List.all_map]
          exact List.all_eq_true.mpr fun _ _ => rfl
        · generalize (if true = true then !inV (V.int 37) (List.map nV C) else inV (V.int 37) (List.map nV C)) = bb
          cases bb
          case true => exact iteF ⟨⟨_, rfl⟩, s1, hD⟩
          refine iteT ?_
          refine ⟨_, rfl, D, rfl, ⟨_, SqL.of hD⟩, fun B nB => lc_list (K := K) (a := D) (xs := C.map nV) (fun j H' => Same H1 H' ∧ H' B = some (.lst ((C.take j).map fun c => V.bl (okc c)))) ⟨(nw (Same.refl _) nB), upd_same⟩ (fun j H' _ z => Same.seq z.1 (SqL.of hD)) (fun j v H' hv z => ?_) (fun H2 z => ?_)⟩
          · obtain ⟨z1, z2⟩ := z
            obtain ⟨c, hc, rfl⟩ := gt hv
            have hj := (List.getElem?_eq_some_iff.mp hc).1
            refine ⟨rfl, _, rfl, c, rfl, c256 c (List.mem_of_getElem? hc), fun H4 s5 => ⟨_, s5 _ _ z2, ?_, sk (Same.trans z1 s5) nB, ?_⟩⟩
            · rw [List.length_map, List.length_take]
              exact fit1 (by omega)
            · rw [upd_same, List.take_add_one, hc, List.map_append]
              rfl
          obtain ⟨z1, z2⟩ := z
          rw [List.length_map, List.take_length] at z2
          have hbs : H2 B = some (.lst ((C.map okc).map V.bl)) := by
            rw [List.map_map]
            exact z2
          refine ⟨B, _, rfl, SqL.of hbs, _, rfl, ?_⟩
          rw [all_okc, ho]
          exact iteF ⟨⟨_, rfl⟩, Same.trans s1 z1, z1 _ _ hD⟩
        · refine iteT ?_
          refine ⟨_, rfl, D, rfl, ⟨_, SqL.of hD⟩, fun B nB => lc_list (K := K) (a := D) (xs := C.map nV) (fun j H' => Same H1 H' ∧ H' B = some (.lst ((C.take j).map fun c => V.bl (okc c)))) ⟨(nw (Same.refl _) nB), upd_same⟩ (fun j H' _ z => Same.seq z.1 (SqL.of hD)) (fun j v H' hv z => ?_) (fun H2 z => ?_)⟩
          · obtain ⟨z1, z2⟩ := z
            obtain ⟨c, hc, rfl⟩ := gt hv
            have hj := (List.getElem?_eq_some_iff.mp hc).1
            refine ⟨rfl, _, rfl, c, rfl, c256 c (List.mem_of_getElem? hc), fun H4 s5 => ⟨_, s5 _ _ z2, ?_, sk (Same.trans z1 s5) nB, ?_⟩⟩
            · rw [List.length_map, List.length_take]
              exact fit1 (by omega)
            · rw [upd_same, List.take_add_one, hc, List.map_append]
              rfl
          obtain ⟨z1, z2⟩ := z
          rw [List.length_map, List.take_length] at z2
          have hbs : H2 B = some (.lst ((C.map okc).map V.bl)) := by
            rw [List.map_map]
            exact z2
          refine ⟨B, _, rfl, SqL.of hbs, _, rfl, ?_⟩
          rw [all_okc, ho]
          exact iteF ⟨⟨_, rfl⟩, Same.trans s1 z1, z1 _ _ hD⟩
        · refine iteT ?_
          refine ⟨_, rfl, D, rfl, ⟨_, SqL.of hD⟩, fun B nB => lc_list (K := K) (a := D) (xs := C.map nV) (fun j H' => Same H1 H' ∧ H' B = some (.lst ((C.take j).map fun c => V.bl (okc c)))) ⟨(nw (Same.refl _) nB), upd_same⟩ (fun j H' _ z => Same.seq z.1 (SqL.of hD)) (fun j v H' hv z => ?_) (fun H2 z => ?_)⟩
          · obtain ⟨z1, z2⟩ := z
            obtain ⟨c, hc, rfl⟩ := gt hv
            have hj := (List.getElem?_eq_some_iff.mp hc).1
            refine ⟨rfl, _, rfl, c, rfl, c256 c (List.mem_of_getElem? hc), fun H4 s5 => ⟨_, s5 _ _ z2, ?_, sk (Same.trans z1 s5) nB, ?_⟩⟩
            · rw [List.length_map, List.length_take]
              exact fit1 (by omega)
            · rw [upd_same, List.take_add_one, hc, List.map_append]
              rfl
          obtain ⟨z1, z2⟩ := z
          rw [List.length_map, List.take_length] at z2
          have hbs : H2 B = some (.lst ((C.map okc).map V.bl)) := by
            rw [List.map_map]
            exact z2
          refine ⟨B, _, rfl, SqL.of hbs, _, rfl, ?_⟩
          rw [all_okc, ho]
          exact iteF ⟨⟨_, rfl⟩, Same.trans s1 z1, z1 _ _ hD⟩
    · rintro σ1 H2 ⟨⟨y3, rfl⟩, s2, hD2⟩
      have hq2 : H2 q = some (.lst (xs.map nV)) := s2 _ _ hq
      have nDq : D ≠ q := fun z => by rw [z, hq] at nD; cases nD
      refine ⟨_, rfl, .inl ⟨rfl, _, SqL.of hq2⟩, q, _, _, rfl, rfl, hq2, fit1 (by rw [List.length_map]; omega), ?_⟩
      have h3 : (upd H2 q (.lst (xs.map nV ++ [V.int 115]))) q = some (.lst ((xs ++ [115]).map nV)) := by
        rw [upd_same, nV_cat]
        rfl
      have k3 : Kq q H (upd H2 q (.lst (xs.map nV ++ [V.int 115]))) := (Kq.refl.same s2).upd
      have hD3 : (upd H2 q (.lst (xs.map nV ++ [V.int 115]))) D = some (.lst (C.map nV)) := by rw [upd_ne nDq]; exact hD2
      have lgC : C.length.log2 < 1920 := by
        refine log_small (Nat.lt_of_lt_of_le (show C.length < 10 ^ 6 by omega) (Nat.pow_le_pow_right (by decide) (by decide)))
      -- out.extend(codes_of(figures_of(len(codes))))
      refine ⟨_, rfl, .inl ⟨rfl, _, SqL.of h3⟩, _, rfl, D, _, rfl, .inl (SqL.of hD3), ?_⟩
      rw [List.length_map]
      refine ⟨C.length, rfl, lgC, fun z H4 s4 tz => ⟨z, rfl, by rw [tz]; omega, fun p H5 s5 np hp => ?_⟩⟩
      rw [tz] at hp
      have h5 : H5 q = some (.lst ((xs ++ [115]).map nV)) := s5 _ _ (s4 _ _ h3)
      have npq : p ≠ q := fun z => by rw [z, s4 _ _ h3] at np; cases np
      refine ⟨q, p, _, _, rfl, rfl, h5, hp, fit (by rw [List.length_map, List.length_map, List.length_append]; show _ + 1 + _ ≤ _; omega), ?_⟩
      have h6 : (upd H5 q (.lst ((xs ++ [115]).map nV ++ (TL.numL C.length).map nV))) q = some (.lst ((xs ++ [115] ++ TL.numL C.length).map nV)) := by
        rw [upd_same, ← nV_cat]
      have k6 : Kq q H (upd H5 q (.lst ((xs ++ [115]).map nV ++ (TL.numL C.length).map nV))) := ((k3.same s4).same s5).upd
      refine ⟨_, rfl, .inl ⟨rfl, _, SqL.of h6⟩, q, _, _, rfl, rfl, h6, fit1 (by rw [List.length_map, List.length_append, List.length_append]; show _ + 1 + _ ≤ _; omega), ?_⟩
      have h7 : (upd (upd H5 q (.lst ((xs ++ [115]).map nV ++ (TL.numL C.length).map nV))) q (.lst ((xs ++ [115] ++ TL.numL C.length).map nV ++ [V.int 58]))) q = some (.lst ((xs ++ [115] ++ TL.numL C.length ++ [58]).map nV)) := by
        rw [upd_same, nV_cat (xs ++ [115] ++ TL.numL C.length)]
        rfl
      have hD7 : (upd (upd H5 q (.lst ((xs ++ [115]).map nV ++ (TL.numL C.length).map nV))) q (.lst ((xs ++ [115] ++ TL.numL C.length).map nV ++ [V.int 58]))) D = some (.lst (C.map nV)) := by
        rw [upd_ne nDq, upd_ne nDq]
        exact s5 _ _ (s4 _ _ hD3)
      refine ⟨_, rfl, .inl ⟨rfl, _, SqL.of h7⟩, _, rfl, q, D, _, _, rfl, rfl, h7, hD7, fit (by rw [List.length_map, List.length_map, List.length_append, List.length_append, List.length_append]; show _ + 1 + _ + 1 + _ ≤ _; omega), ?_⟩
      refine k _ k6.upd.upd ?_
      rw [upd_same, ← nV_cat]
      have e : xs ++ 115 :: (TL.numL C.length ++ 58 :: C) = xs ++ [115] ++ TL.numL C.length ++ [58] ++ C := by
        simp
      rw [e]
end
end K28
set_option Elab.async false
set_option linter.all false
set_option maxRecDepth 100000
set_option exponentiation.threshold 3000
set_option maxHeartbeats 4000000
namespace K28
open PySem PySem.Spec PyProof.Rows L2 Oc
def flatD : PyData → Bool
  | .tuple _ => false
  | _ => true
def spSimpW (K : PySem.W.Frag) : Sp := fun vs H Q E => ∃ (v : V) (q : Addr) (xs : List Nat), vs = [v, .ref q] ∧ H q = some (.lst (xs.map nV)) ∧
  ((∃ d, Dp K H v d ∧ Oc.plain d = true ∧ d.showable = true ∧ flatD d = true ∧ xs.length + (octs d).length ≤ 200000 ∧ ∀ H', Kq q H H' → H' q = some (.lst ((xs ++ octs d).map nV)) → Q .non H') ∨
   (Odd H v ∧ ∀ H', Kq q H H' → bad K E H'))
section
variable {P : Program} {w : World} {K : PySem.W.Frag} {mg : Str → Option Value} {base : Heap}
theorem c_write_simple (T : Txt K mg) : Mx.CalX P w K mg base (L2.CX P w) 3 "write_simple" (spSimpW K) := by
  have c_write_number : Mx.CalX P w K mg base CX0 2 "write_number" (spPut K okNum) := c_write_number T
  have c_write_text : Mx.CalX P w K mg base (L2.CX P w) 2 "write_text" (spPut K okText) := c_write_text T
  refine Mx.calX_of T.d_write_simple T.g_write_simple sc_write_simple (fun fd F => b_write_simple F) (fun vs H Q E h => ?_) (fun cdv A outer s H vs Q E hr h => ?_)
  · obtain ⟨v, q, xs, rfl, _⟩ := h
    rfl
  · obtain ⟨v, q, xs, rfl, hq, h⟩ := h
    refine ⟨_, (pss_one (ps_if (pt_cmpR op_isN (pv 0) pe_non (nomark _))
    (pss_one (ps_expr (pe_bm PySem.F.plainAttrs_list PySem.F.slot_list_append PySem.F.type_list_append mt_append (pv 1) (pa_cons (Mx.pe_gi T.i_NONE) pa_nil))))
    (pss_one (ps_if (pt_cmpR op_isTyB (pe_callTy (T := "type") call_type1 (by rfl) T.z_type (by decide +kernel) (pa_cons (pv 0) pa_nil)) (pe_bltn (v := .ty "bool") (by rfl) T.z_bool (by decide +kernel) rfl) (nomark _))
    (pss_one (ps_expr (pe_bm PySem.F.plainAttrs_list PySem.F.slot_list_append PySem.F.type_list_append mt_append (pv 1) (pa_cons (pe_ifExp (pt_truth (pv 0) (by intro _; rfl)) (Mx.pe_gi T.i_YES) (Mx.pe_gi T.i_NO)) pa_nil))))
    (pss_one (ps_if (pt_cmpR op_isTyB (pe_callTy (T := "type") call_type1 (by rfl) T.z_type (by decide +kernel) (pa_cons (pv 0) pa_nil)) (pe_bltn (v := .ty "int") (by rfl) T.z_int (by decide +kernel) rfl) (nomark _))
    (pss_one (ps_expr (Mx.pe_cx c_write_number hr (by decide) (by rfl) pass0 (pa_cons (pv 0) (pa_cons (pv 1) pa_nil)))))
    (pss_one (ps_if (pt_cmpR op_isTyB (pe_callTy (T := "type") call_type1 (by rfl) T.z_type (by decide +kernel) (pa_cons (pv 0) pa_nil)) (pe_bltn (v := .ty "str") (by rfl) T.z_str (by decide +kernel) rfl) (nomark _))
    (pss_one (ps_expr (Mx.pe_cx c_write_text hr (by decide) (by rfl) (Mx.onward (takes_of rfl rfl rfl rfl)) (pa_cons (pv 0) (pa_cons (pv 1) pa_nil)))))
    (pss_one (ps_raise rfl (takes_of rfl rfl rfl rfl) (Gk.pmk_bare PySem.F.excBase_ValueError T.x_BadForm.1 T.g_BadForm T.x_BadForm.2.1 (raises_own T.x_BadForm.2.2.1 T.x_BadForm.2.2.2) rfl))))))))))), ?_⟩
    rcases h with ⟨d, hd, pl, sh, fl, sz, k⟩ | ⟨ho, k⟩
    · cases hd with
      | lst _ _ => simp only [Oc.plain] at pl; cases pl
      | tup _ _ => cases fl
      | non =>
        rw [octs_non] at sz k
        refine ⟨_, rfl, rfl, _, rfl, iteT ⟨_, rfl, .inl ⟨rfl, _, SqL.of hq⟩, q, _, _, rfl, rfl, hq, fit1 (by rw [List.length_map]; omega), k _ Kq.refl.upd ?_⟩⟩
        rw [upd_same, nV_cat]
        rfl
      | bl b =>
        rw [octs_bl] at sz k
        refine ⟨_, rfl, rfl, _, rfl, iteF ⟨_, rfl, _, _, rfl, .bl b, _, _, rfl, rfl, _, rfl, iteT ⟨_, rfl, .inl ⟨rfl, _, SqL.of hq⟩, _, rfl, b, rfl, ?_⟩⟩⟩
        have fin : ∀ z : Int, z = ((if b = true then 116 else 102 : Nat) : Int) → Q .non (upd H q (.lst (xs.map nV ++ [V.int z]))) := fun z ez => k _ Kq.refl.upd (by
          rw [upd_same, nV_cat, ez]
          rfl)
        refine ite2 (fun e => ?_) (fun e => ?_)
        · exact ⟨q, _, _, rfl, rfl, hq, fit1 (by rw [List.length_map]; omega), fin _ (by rw [if_pos e]; rfl)⟩
        · exact ⟨q, _, _, rfl, rfl, hq, fit1 (by rw [List.length_map]; omega), fin _ (by rw [if_neg e]; rfl)⟩
      | int i =>
        rw [octs_int] at sz k
        have lg : i.natAbs.log2 < 1920 := by simpa only [PyData.showable, decide_eq_true_eq] using sh
        refine ⟨_, rfl, rfl, _, rfl, iteF ⟨_, rfl, _, _, rfl, .int i, _, _, rfl, rfl, _, rfl, iteF ⟨_, rfl, _, _, rfl, .int i, _, _, rfl, rfl, _, rfl, iteT ?_⟩⟩⟩
        exact ⟨_, rfl, _, rfl, _, q, xs, _, rfl, hq, sz, ⟨i, rfl, lg, rfl⟩, k⟩
      | str x =>
        rw [octs_str] at sz k
        have ho : (TL.tl x).all okc = true := by simpa only [Oc.plain] using pl
        refine ⟨_, rfl, rfl, _, rfl, iteF ⟨_, rfl, _, _, rfl, .str x, _, _, rfl, rfl, _, rfl, iteF ⟨_, rfl, _, _, rfl, .str x, _, _, rfl, rfl, _, rfl, iteF ⟨_, rfl, _, _, rfl, .str x, _, _, rfl, rfl, _, rfl, iteT ?_⟩⟩⟩⟩
        exact ⟨_, rfl, _, rfl, _, q, xs, _, rfl, hq, sz, ⟨x, rfl, ho, rfl⟩, k⟩
    · obtain ⟨a, rfl, ha⟩ := ho
      obtain ⟨t, ht, e1, e2, e3⟩ : ∃ t, TyB K H (.ref a) t ∧ t ≠ "bool" ∧ t ≠ "int" ∧ t ≠ "str" := by
        rcases ha with ⟨ys, h⟩ | h
        · exact ⟨"list", .lst (SqL.of h), by decide, by decide, by decide⟩
        · exact ⟨"dict", .dK h, by decide, by decide, by decide⟩
      refine ⟨_, rfl, rfl, _, rfl, iteF ⟨_, rfl, _, _, rfl, ht, _, _, rfl, rfl, _, rfl, ?_⟩⟩
      rw [decide_eq_false e1]
      refine iteF ⟨_, rfl, _, _, rfl, ht, _, _, rfl, rfl, _, rfl, ?_⟩
      rw [decide_eq_false e2]
      refine iteF ⟨_, rfl, _, _, rfl, ht, _, _, rfl, rfl, _, rfl, ?_⟩
      rw [decide_eq_false e3]
      exact iteF (k _ Kq.refl)
end
end K28
set_option Elab.async false
set_option linter.all false
set_option maxRecDepth 100000
set_option exponentiation.threshold 3000
set_option maxHeartbeats 4000000
namespace K28
open PySem PySem.Spec PyProof.Rows L2 Oc
/-- what is still to be written -/
inductive It where
  | val (d : PyData) (n : Nat)
  | shut
  | odd (n : Nat)
  | pair (n : Nat)
def It.sz : It → Nat
  | .val d _ => (octs d).length
  | .shut => 1
  | .odd _ => 1
  | .pair _ => 10
def It.oct : It → List Nat
  | .val d _ => octs d
  | .shut => [41]
  | .odd _ => []
  | .pair _ => []
def It.ok : It → Prop
  | .val d n => n + need d ≤ 401
  | .shut => True
  | .odd _ => False
  | .pair _ => False
def It.bad : It → Prop
  | .val d n => 401 < n + need d
  | .shut => False
  | .odd _ => True
  | .pair _ => True
def szA : List It → Nat
  | [] => 0
  | i :: is => i.sz + szA is
def octA : List It → List Nat
  | [] => []
  | i :: is => i.oct ++ octA is
theorem szA_app : ∀ a b : List It, szA (a ++ b) = szA a + szA b
  | [], b => by simp [szA]
  | i :: a, b => by
    show i.sz + szA (a ++ b) = i.sz + szA a + szA b
    rw [szA_app a b, Nat.add_assoc]
theorem octA_app : ∀ a b : List It, octA (a ++ b) = octA a ++ octA b
  | [], b => rfl
  | i :: a, b => by
    show i.oct ++ octA (a ++ b) = i.oct ++ octA a ++ octA b
    rw [octA_app a b, List.append_assoc]
def vals (n : Nat) (ds : List PyData) : List It := ds.map fun d => .val d n
theorem szA_vals (n : Nat) : ∀ ds : List PyData, szA (vals n ds) = (octsA ds).length
  | [] => by rw [octsA_nil]; rfl
  | d :: ds => by
    rw [octsA_cons, List.length_append, ← szA_vals n ds]
    rfl
theorem octA_vals (n : Nat) : ∀ ds : List PyData, octA (vals n ds) = octsA ds
  | [] => by rw [octsA_nil]; rfl
  | d :: ds => by
    rw [octsA_cons, ← octA_vals n ds]
    rfl
theorem needA_le : ∀ {ds : List PyData} {d : PyData}, d ∈ ds → need d ≤ needA ds
  | e :: ds, d, h => by
    rw [needA_cons]
    rcases List.mem_cons.mp h with rfl | h
    · omega
    · have := needA_le h
      omega
theorem needA_ex : ∀ {ds : List PyData}, 0 < needA ds → ∃ d ∈ ds, need d = needA ds
  | [], h => by simp only [needA] at h; omega
  | e :: ds, h => by
    rw [needA_cons] at h ⊢
    by_cases z : needA ds ≤ need e
    · exact ⟨e, List.mem_cons_self, by omega⟩
    · obtain ⟨d, hd, ed⟩ := needA_ex (ds := ds) (by omega)
      exact ⟨d, List.mem_cons_of_mem _ hd, by omega⟩
/-- the tuple at t is such a thing -/
def ItAt (K : PySem.W.Frag) (H0 H : Hp) (t : Addr) : It → Prop
  | .val d n => ∃ v, H t = some (.tup [v, .int (n : Int)]) ∧ Dp K H v d ∧ Oc.plain d = true ∧ d.showable = true
  | .shut => H t = some (.tup [.non, .int (-1)])
  | .odd n => ∃ v, H t = some (.tup [v, .int (n : Int)]) ∧ Odd H0 v
  | .pair n => ∃ s o, H t = some (.tup [.ref s, .int (n : Int)]) ∧ H0 s = some (.tup [.int 1, o]) ∧ Odd H0 o
theorem ItAt.keep {K : PySem.W.Frag} {H0 H H' : Hp} {t : Addr} (tp : Tps K H H') (h : H' t = H t) : ∀ {i : It}, ItAt K H0 H t i → ItAt K H0 H' t i
  | .val d n, ⟨v, h1, h2, h3, h4⟩ => ⟨v, h.trans h1, Dp.tups tp _ _ h3 h2, h3, h4⟩
  | .shut, h1 => h.trans h1
  | .odd n, ⟨v, h1, h2⟩ => ⟨v, h.trans h1, h2⟩
  | .pair n, ⟨s, o, h1, h2⟩ => ⟨s, o, h.trans h1, h2⟩
theorem ItAt.there {K : PySem.W.Frag} {H0 H : Hp} {t : Addr} : ∀ {i : It}, ItAt K H0 H t i → ∃ xs, H t = some (.tup xs)
  | .val d n, ⟨v, h1, _⟩ => ⟨_, h1⟩
  | .shut, h1 => ⟨_, h1⟩
  | .odd n, ⟨v, h1, h2⟩ => ⟨_, h1⟩
  | .pair n, ⟨s, o, h1, h2⟩ => ⟨_, h1⟩
inductive ItsAt (K : PySem.W.Frag) (H0 H : Hp) : List Addr → List It → Prop
  | nil : ItsAt K H0 H [] []
  | cons {t : Addr} {ts : List Addr} {i : It} {is : List It} : ItAt K H0 H t i → ItsAt K H0 H ts is → ItsAt K H0 H (t :: ts) (i :: is)
theorem ItsAt.keep {K : PySem.W.Frag} {H0 H H' : Hp} (tp : Tps K H H') (h : ∀ t xs, H t = some (.tup xs) → H' t = some (.tup xs)) : ∀ {ts : List Addr} {is : List It}, ItsAt K H0 H ts is → ItsAt K H0 H' ts is
  | _, _, .nil => .nil
  | _, _, .cons h1 h2 => .cons (h1.keep tp (by obtain ⟨xs, e⟩ := h1.there; rw [h _ _ e, e])) (h2.keep tp h)
theorem ItsAt.app {K : PySem.W.Frag} {H0 H : Hp} : ∀ {ts : List Addr} {is : List It} {us : List Addr} {js : List It}, ItsAt K H0 H ts is → ItsAt K H0 H us js → ItsAt K H0 H (ts ++ us) (is ++ js)
  | _, _, _, _, .nil, h => h
  | _, _, _, _, .cons h1 h2, h => .cons h1 (h2.app h)
theorem ItsAt.len {K : PySem.W.Frag} {H0 H : Hp} : ∀ {ts : List Addr} {is : List It}, ItsAt K H0 H ts is → ts.length = is.length
  | _, _, .nil => rfl
  | _, _, .cons _ h => by rw [List.length_cons, List.length_cons, h.len]
theorem len_szA : ∀ is : List It, (∀ i ∈ is, 1 ≤ i.sz) → is.length ≤ szA is
  | [], _ => Nat.le_refl _
  | i :: is, h => by
    have := len_szA is fun j hj => h j (List.mem_cons_of_mem _ hj)
    have := h i List.mem_cons_self
    show is.length + 1 ≤ i.sz + szA is
    omega
theorem It.sz_pos {K : PySem.W.Frag} {H0 H : Hp} {t : Addr} : ∀ {i : It}, ItAt K H0 H t i → 1 ≤ i.sz
  | .val d n, ⟨v, h1, h2, h3, h4⟩ => by
    obtain ⟨c, r, e, _⟩ := octs_first d h3
    show 1 ≤ (octs d).length
    rw [e, List.length_cons]
    omega
  | .shut, h1 => Nat.le_refl _
  | .odd n, ⟨v, h1, h2⟩ => Nat.le_refl _
  | .pair n, ⟨s, o, h1, h2⟩ => (by decide : 1 ≤ 10)
theorem ItsAt.len_sz {K : PySem.W.Frag} {H0 H : Hp} : ∀ {ts : List Addr} {is : List It}, ItsAt K H0 H ts is → ts.length ≤ szA is
  | _, _, .nil => Nat.le_refl _
  | _, _, .cons h1 h2 => by
    have := h2.len_sz
    have := It.sz_pos h1
    rw [List.length_cons]
    show _ ≤ It.sz _ + szA _
    omega
/-- which end is due -/
inductive Due (K : PySem.W.Frag) (Q : VK) (E : XK) (H0 : Hp) (out : List Nat) (is : List It) : Prop
  | good {R : List Nat} : (∀ i ∈ is, i.ok) → out ++ octA is = R → (∀ (p : Addr) (H' : Hp), Same H0 H' → H' p = some (.lst (R.map nV)) → Q (.ref p) H') → Due K Q E H0 out is
  | wrong : (∃ i ∈ is, i.bad) → (∀ H', Same H0 H' → bad K E H') → Due K Q E H0 out is
end K28
set_option Elab.async false
set_option linter.all false
set_option maxRecDepth 100000
set_option exponentiation.threshold 3000
set_option maxHeartbeats 4000000
namespace K28
open PySem PySem.Spec PyProof.Rows L2 Oc
/-- the value of a thing -/
def PV (K : PySem.W.Frag) (H0 H : Hp) (n : Nat) (v : V) : It → Prop
  | .val d m => m = n ∧ Dp K H v d ∧ Oc.plain d = true ∧ d.showable = true
  | .odd m => m = n ∧ Odd H0 v
  | .shut => False
  | .pair m => False
inductive PVs (K : PySem.W.Frag) (H0 H : Hp) (n : Nat) : List V → List It → Prop
  | nil : PVs K H0 H n [] []
  | cons {v : V} {vs : List V} {i : It} {is : List It} : PV K H0 H n v i → PVs K H0 H n vs is → PVs K H0 H n (v :: vs) (i :: is)
theorem PV.keep {K : PySem.W.Frag} {H0 H H' : Hp} {n : Nat} {v : V} (tp : Tps K H H') : ∀ {i : It}, PV K H0 H n v i → PV K H0 H' n v i
  | .val d m, ⟨e, h1, h2, h3⟩ => ⟨e, Dp.tups tp _ _ h2 h1, h2, h3⟩
  | .odd m, h => h
  | .shut, h => h.elim
  | .pair m, h => h.elim
theorem PV.it {K : PySem.W.Frag} {H0 H : Hp} {n : Nat} {v : V} {t : Addr} (ht : H t = some (.tup [v, .int (n : Int)])) : ∀ {i : It}, PV K H0 H n v i → ItAt K H0 H t i
  | .val d m, ⟨e, h1, h2, h3⟩ => e ▸ ⟨v, ht, h1, h2, h3⟩
  | .odd m, ⟨e, h⟩ => e ▸ ⟨v, ht, h⟩
  | .shut, h => h.elim
  | .pair m, h => h.elim
theorem PVs.len {K : PySem.W.Frag} {H0 H : Hp} {n : Nat} : ∀ {vs : List V} {is : List It}, PVs K H0 H n vs is → vs.length = is.length
  | _, _, .nil => rfl
  | _, _, .cons _ h => by rw [List.length_cons, List.length_cons, h.len]
theorem PVs.len_sz {K : PySem.W.Frag} {H0 H : Hp} {n : Nat} : ∀ {vs : List V} {is : List It}, PVs K H0 H n vs is → is.length ≤ szA is
  | _, _, .nil => Nat.le_refl _
  | _, _, .cons (i := i) h1 h2 => by
    have h3 := h2.len_sz
    have h4 : 1 ≤ i.sz := by
      cases i with
      | val d m =>
        obtain ⟨c, r, e, _⟩ := octs_first d h1.2.2.1
        show 1 ≤ (octs d).length
        rw [e, List.length_cons]
        omega
      | odd m => exact Nat.le_refl _
      | shut => exact h1.elim
      | pair m => exact h1.elim
    rw [List.length_cons]
    show _ ≤ i.sz + szA _
    omega
theorem PVs.keep {K : PySem.W.Frag} {H0 H H' : Hp} {n : Nat} (tp : Tps K H H') : ∀ {vs : List V} {is : List It}, PVs K H0 H n vs is → PVs K H0 H' n vs is
  | _, _, .nil => .nil
  | _, _, .cons h1 h2 => .cons (h1.keep tp) (h2.keep tp)
theorem PVs.snoc {K : PySem.W.Frag} {H0 H : Hp} {n : Nat} {v : V} {i : It} : ∀ {vs : List V} {is : List It}, PVs K H0 H n vs is → PV K H0 H n v i → PVs K H0 H n (vs ++ [v]) (is ++ [i])
  | _, _, .nil, h => .cons h .nil
  | _, _, .cons h1 h2, h => .cons h1 (h2.snoc h)
theorem PVs.rev {K : PySem.W.Frag} {H0 H : Hp} {n : Nat} : ∀ {vs : List V} {is : List It}, PVs K H0 H n vs is → PVs K H0 H n vs.reverse is.reverse
  | _, _, .nil => .nil
  | _, _, .cons h1 h2 => by
    rw [List.reverse_cons, List.reverse_cons]
    exact h2.rev.snoc h1
theorem PVs.at {K : PySem.W.Frag} {H0 H : Hp} {n : Nat} : ∀ {vs : List V} {is : List It} {j : Nat} {v : V}, PVs K H0 H n vs is → vs[j]? = some v → ∃ i, is[j]? = some i ∧ PV K H0 H n v i
  | _, _, _, _, .nil, h => by cases h
  | _, _, 0, _, .cons h1 h2, h => by cases h; exact ⟨_, rfl, h1⟩
  | _, _, j + 1, _, .cons h1 h2, h => by
    obtain ⟨i, e, p⟩ := PVs.at (j := j) h2 h
    exact ⟨i, e, p⟩
theorem ItsAt.rev {K : PySem.W.Frag} {H0 H : Hp} : ∀ {ts : List Addr} {is : List It}, ItsAt K H0 H ts is → ItsAt K H0 H ts.reverse is.reverse
  | _, _, .nil => .nil
  | _, _, .cons h1 h2 => by
    rw [List.reverse_cons, List.reverse_cons]
    exact h2.rev.app (.cons h1 .nil)
theorem PVs.vals {K : PySem.W.Frag} {H0 H : Hp} {n : Nat} : ∀ {vs : List V} {ds : List PyData}, DpAll K H vs ds → plainA ds = true → PyData.showableAll ds = true → PVs K H0 H n vs (vals n ds)
  | _, _, .nil, _, _ => .nil
  | _, _, .cons h1 h2, p, s => by
    rw [plainA_cons, Bool.and_eq_true] at p
    simp only [PyData.showableAll, Bool.and_eq_true] at s
    exact .cons ⟨rfl, h1, p.1, s.1⟩ (PVs.vals h2 p.2 s.2)
theorem Dp.tyB {K : PySem.W.Frag} {H : Hp} {v : V} {d : PyData} (h : Dp K H v d) (p : Oc.plain d = true) : TyB K H v (tyD d) := by
  cases h with
  | non => exact .non
  | bl b => exact .bl b
  | int i => exact .int i
  | str x => exact .str x
  | lst h1 h2 => simp only [Oc.plain] at p; cases p
  | tup h1 h2 => exact .tup h1
def VI (K : PySem.W.Frag) (H0 H : Hp) (v : V) (dz : Int) : It → Prop
  | .val d n => dz = (n : Int) ∧ Dp K H v d ∧ Oc.plain d = true ∧ d.showable = true
  | .shut => dz = -1 ∧ v = .non
  | .odd n => dz = (n : Int) ∧ Odd H0 v
  | .pair n => dz = (n : Int) ∧ ∃ s o, v = .ref s ∧ H0 s = some (.tup [.int 1, o]) ∧ Odd H0 o
theorem ItAt.parts {K : PySem.W.Frag} {H0 H : Hp} {t : Addr} : ∀ {i : It}, ItAt K H0 H t i → ∃ v dz, H t = some (.tup [v, .int dz]) ∧ VI K H0 H v dz i
  | .val d n, ⟨v, h1, h2, h3, h4⟩ => ⟨v, _, h1, rfl, h2, h3, h4⟩
  | .shut, h1 => ⟨_, _, h1, rfl, rfl⟩
  | .odd n, ⟨v, h1, h2⟩ => ⟨v, _, h1, rfl, h2⟩
  | .pair n, ⟨s, o, h1, h2, h3⟩ => ⟨_, _, h1, rfl, s, o, rfl, h2, h3⟩
/-- what lies too deep is due to be refused -/
theorem Due.deep {K : PySem.W.Frag} {Q : VK} {E : XK} {H0 : Hp} {out : List Nat} {i : It} {is : List It} {n : Nat} (D : Due K Q E H0 out (i :: is)) (h : 400 < n) (hi : ∀ d, i = .val d n ∨ i = .odd n ∨ i = .pair n → True) (hd : (∃ d, i = .val d n) ∨ i = .odd n ∨ i = .pair n) : ∀ H', Same H0 H' → bad K E H' := by
  cases D with
  | wrong h1 h2 => exact h2
  | good h1 h2 h3 =>
    exfalso
    have z := h1 i List.mem_cons_self
    rcases hd with ⟨d, rfl⟩ | rfl | rfl
    · have := need_pos d
      have z : n + need d ≤ 401 := z
      omega
    · exact z
    · exact z
theorem Due.next {K : PySem.W.Frag} {Q : VK} {E : XK} {H0 : Hp} {out : List Nat} {i : It} {is : List It} (D : Due K Q E H0 out (i :: is)) (hb : ¬ i.bad) : Due K Q E H0 (out ++ i.oct) is := by
  cases D with
  | good h1 h2 h3 => exact .good (fun j hj => h1 j (List.mem_cons_of_mem _ hj)) (by rw [List.append_assoc]; exact h2) h3
  | wrong h1 h2 =>
    obtain ⟨j, hj, bj⟩ := h1
    rcases List.mem_cons.mp hj with rfl | hj
    · exact absurd bj hb
    · exact .wrong ⟨j, hj, bj⟩ h2
theorem Due.odd {K : PySem.W.Frag} {Q : VK} {E : XK} {H0 : Hp} {out : List Nat} {i : It} {is : List It} (D : Due K Q E H0 out (i :: is)) (hb : ¬ i.ok) : ∀ H', Same H0 H' → bad K E H' := by
  cases D with
  | good h1 h2 h3 => exact absurd (h1 i List.mem_cons_self) hb
  | wrong h1 h2 => exact h2
theorem Due.open {K : PySem.W.Frag} {Q : VK} {E : XK} {H0 : Hp} {out : List Nat} {n : Nat} {ds : List PyData} {is : List It} (D : Due K Q E H0 out (.val (.tuple ds) n :: is)) (hn : n ≤ 400) : Due K Q E H0 (out ++ [40]) (vals (n + 1) ds ++ .shut :: is) := by
  cases D with
  | good h1 h2 h3 =>
    have z : n + need (.tuple ds) ≤ 401 := h1 _ List.mem_cons_self
    rw [need_tup] at z
    refine .good (fun j hj => ?_) ?_ h3
    · rcases List.mem_append.mp hj with hj | hj
      · obtain ⟨d, hd, rfl⟩ := List.mem_map.mp hj
        have := needA_le hd
        show n + 1 + need d ≤ 401
        omega
      · rcases List.mem_cons.mp hj with rfl | hj
        · trivial
        · exact h1 j (List.mem_cons_of_mem _ hj)
    · rw [octA_app, octA_vals, ← h2]
      show out ++ [40] ++ (octsA ds ++ ([41] ++ octA is)) = out ++ (octs (.tuple ds) ++ octA is)
      rw [octs_tup]
      simp
  | wrong h1 h2 =>
    obtain ⟨j, hj, bj⟩ := h1
    refine .wrong ?_ h2
    rcases List.mem_cons.mp hj with rfl | hj
    · have bj : 401 < n + need (.tuple ds) := bj
      rw [need_tup] at bj
      obtain ⟨d, hd, ed⟩ := needA_ex (ds := ds) (by omega)
      exact ⟨.val d (n + 1), List.mem_append.mpr (.inl (List.mem_map.mpr ⟨d, hd, rfl⟩)), (show 401 < n + 1 + need d by omega)⟩
    · exact ⟨j, List.mem_append.mpr (.inr (List.mem_cons_of_mem _ hj)), bj⟩
theorem Tps.kq {K : PySem.W.Frag} {H H' : Hp} {p : Addr} {ys : List V} (k : Kq p H H') (h : H p = some (.lst ys)) : Tps K H H' := fun a xs z =>
  k.tup (fun ys e => by rw [h] at e; cases e) (fun u ys e => by rw [h] at e; cases e) z
theorem Odd.same {H H' : Hp} {v : V} (s : Same H H') (h : Odd H v) : Odd H' v := by
  obtain ⟨a, rfl, ⟨xs, h⟩ | h⟩ := h
  · exact ⟨a, rfl, .inl ⟨xs, s _ _ h⟩⟩
  · exact ⟨a, rfl, .inr (s _ _ h)⟩
theorem Odd.tyB {K : PySem.W.Frag} {H : Hp} {v : V} (h : Odd H v) : ∃ t, TyB K H v t ∧ t ≠ "tuple" := by
  obtain ⟨a, rfl, ⟨xs, h⟩ | h⟩ := h
  · exact ⟨"list", .lst (SqL.of h), by decide⟩
  · exact ⟨"dict", .dK h, by decide⟩
theorem flat_ty {d : PyData} (h : flatD d = true) : tyD d ≠ "tuple" := by
  cases d with
  | tuple ds => cases h
  | _ => show _ ≠ _; simp only [tyD]; decide
/-- the loop's head -/
structure WHead (K : PySem.W.Frag) (Q : VK) (E : XK) (H H' : Hp) (q lf : Addr) (out : List Nat) (ts : List Addr) (is : List It) : Prop where
  sm : Same H H'
  hq : H' q = some (.lst (out.map nV))
  hl : H' lf = some (.lst (ts.reverse.map V.ref))
  its : ItsAt K H H' ts is
  sz : out.length + szA is ≤ 200000
  due : Due K Q E H out is
section
variable {P : Program} {w : World} {K : PySem.W.Frag} {mg : Str → Option Value} {base : Heap}
theorem c_written (T : Txt K mg) : Mx.CalX P w K mg base (L2.CX P w) 4 "written" (spWrittenP K) := by
  have c_write_simple : Mx.CalX P w K mg base (L2.CX P w) 3 "write_simple" (spSimpW K) := c_write_simple T
  refine Mx.calX_of T.d_written T.g_written sc_written (fun fd F => b_written F) (fun vs H Q E h => ?_) (fun cdv A outer s H vs Q E hr h => ?_)
  · obtain ⟨v, rfl, _⟩ := h
    rfl
  · obtain ⟨v0, rfl, h⟩ := h
    refine ⟨_, (pss_cons (ps_set (i := 1) sc_written.nd rfl (by first | exact .inl rfl | exact .inr rfl) (pe_lst pa_nil))
  (pss_cons (ps_set (i := 2) sc_written.nd rfl (by first | exact .inl rfl | exact .inr rfl) (pe_lst (pa_cons (pe_tup (pa_cons (pv 0) (pa_cons pe_int pa_nil))) pa_nil)))
  (pss_cons (ps_while (passes_of rfl) (pt_truth (pv 2) (by intro _; rfl))
    (pss_cons (ps_asg (pe_bm0 PySem.F.plainAttrs_list PySem.F.slot_list_pop PySem.F.type_list_pop mt_pop (pv 2)) (pg_tup (by rfl) (pgs_cons (pg_name (i := 3) sc_written.nd rfl (by first | exact .inl rfl | exact .inr rfl)) (pgs_cons (pg_name (i := 4) sc_written.nd rfl (by first | exact .inl rfl | exact .inr rfl)) pgs_nil))))
  (pss_cons (ps_if (pt_cmpR op_gt (pv 4) (Mx.pe_gi T.i_MOST_DEEP) (nomark _))
    (pss_one (ps_raise rfl (takes_of rfl rfl rfl rfl) (Gk.pmk_bare PySem.F.excBase_ValueError T.x_BadForm.1 T.g_BadForm T.x_BadForm.2.1 (raises_own T.x_BadForm.2.2.1 T.x_BadForm.2.2.2) rfl)))
    pss_nil)
  (pss_one (ps_if (pt_cmpR op_lt (pv 4) pe_int (nomark _))
    (pss_one (ps_expr (pe_bm PySem.F.plainAttrs_list PySem.F.slot_list_append PySem.F.type_list_append mt_append (pv 1) (pa_cons (Mx.pe_gi T.i_SHUT) pa_nil))))
    (pss_one (ps_if (pt_cmpR op_isTyB (pe_callTy (T := "type") call_type1 (by rfl) T.z_type (by decide +kernel) (pa_cons (pv 3) pa_nil)) (pe_bltn (v := .ty "tuple") (by rfl) T.z_tuple (by decide +kernel) rfl) (nomark _))
    (pss_cons (ps_expr (pe_bm PySem.F.plainAttrs_list PySem.F.slot_list_append PySem.F.type_list_append mt_append (pv 1) (pa_cons (Mx.pe_gi T.i_BEGIN) pa_nil)))
  (pss_cons (ps_expr (pe_bm PySem.F.plainAttrs_list PySem.F.slot_list_append PySem.F.type_list_append mt_append (pv 2) (pa_cons (pe_tup (pa_cons pe_non (pa_cons (pe_un un_neg pe_int) pa_nil))) pa_nil)))
  (pss_one (ps_expr (pe_bm PySem.F.plainAttrs_list PySem.F.slot_list_extend PySem.F.type_list_extend mt_extend (pv 2) (pa_cons (pe_lc (own := [("part", 5)]) (g := gName 5) rfl sc_written.nd (pi_tup (pe_revT (pv 3))) (blkOk_by (own := [("part", 5)]) (N := n_written) (sc := defScope s_written) (by decide +kernel)) (fun _ _ _ _ _ => (pg_name (i := 5) sc_written.nd rfl (by first | exact .inl rfl | exact .inr rfl))) (fun _ _ _ _ _ => pts_nil) (fun _ _ _ _ _ => (pe_tup (pa_cons (pv 5) (pa_cons (pe_op op_add (pv 4) pe_int) pa_nil))))) pa_nil))))))
    (pss_one (ps_expr (Mx.pe_cx c_write_simple hr (by decide) (by rfl) (Mx.onward (takes_of rfl rfl rfl rfl)) (pa_cons (pv 3) (pa_cons (pv 1) pa_nil))))))))))))
  (pss_one (ps_ret (pv 1)))))), ?_⟩
    refine ⟨by show 0 ≤ sizeLine; decide, fun q nq => ⟨_, rfl, by show 2 ≤ sizeLine; decide, fun t0 nt0 => ⟨by show 1 ≤ sizeLine; decide, fun lf nlf => ?_⟩⟩⟩
    have nqt : q ≠ t0 := fun z => by rw [← z, upd_same] at nt0; cases nt0
    have nql : q ≠ lf := fun z => by rw [← z, upd_ne nqt, upd_same] at nlf; cases nlf
    have ntl : t0 ≠ lf := fun z => by rw [← z, upd_same] at nlf; cases nlf
    have nl0 : H lf = none := by rw [upd_ne ntl.symm, upd_ne nql.symm] at nlf; exact nlf
    have ms : Same H (upd (upd (upd H q (.lst [])) t0 (.tup [v0, .int 0])) lf (.lst [.ref t0])) := (nw (nw (nw (Same.refl H) nq) nt0) nlf)
    have start : ∃ i : It, ItAt K H (upd (upd (upd H q (.lst [])) t0 (.tup [v0, .int 0])) lf (.lst [.ref t0])) t0 i ∧ i.sz ≤ 5000 ∧ Due K Q E H [] [i] := by
      have ht : (upd (upd (upd H q (.lst [])) t0 (.tup [v0, .int 0])) lf (.lst [.ref t0])) t0 = some (.tup [v0, .int ((0 : Nat) : Int)]) := by
        rw [upd_ne ntl, upd_same]
        rfl
      rcases h with ⟨d, hd, pl, sh, n1, sz, kg, kb⟩ | ⟨ho, kb⟩
      · refine ⟨.val d 0, ⟨v0, ht, Dp.same ms _ _ hd, pl, sh⟩, sz, ?_⟩
        by_cases hn : need d ≤ 401
        · refine .good (R := octs d) (fun i hi => ?_) ?_ (kg hn)
          · obtain rfl := List.mem_singleton.mp hi
            show 0 + need d ≤ 401
            omega
          · show [] ++ (octs d ++ []) = octs d
            rw [List.append_nil]
            rfl
        · exact .wrong ⟨_, List.mem_singleton.mpr rfl, (show 401 < 0 + need d by omega)⟩ (kb (by omega))
      · rcases ho with ho | ⟨s1, o, rfl, hs, ho⟩
        · exact ⟨.odd 0, ⟨v0, ht, ho⟩, (by decide : 1 ≤ 5000), .wrong ⟨_, List.mem_singleton.mpr rfl, trivial⟩ kb⟩
        · exact ⟨.pair 0, ⟨s1, o, ht, hs, ho⟩, (by decide : 10 ≤ 5000), .wrong ⟨_, List.mem_singleton.mpr rfl, trivial⟩ kb⟩
    obtain ⟨i0, hi0, zi0, du0⟩ := start
    refine ⟨fun m σ' H' => ∃ (out : List Nat) (ts : List Addr) (is : List It) (y3 y4 : Option V), m = szA is ∧ σ' = [some v0, some (.ref q), some (.ref lf), y3, y4, none] ∧ WHead K Q E H H' q lf out ts is,
      ⟨_, [], [t0], [i0], none, none, rfl, rfl, ⟨ms, by rw [upd_ne nql, upd_ne nqt, upd_same]; rfl, upd_same, .cons hi0 .nil, (show 0 + (i0.sz + 0) ≤ 200000 by omega), du0⟩⟩, ?_⟩
    rintro m σ' H' ⟨out, ts, is, y3, y4, rfl, rfl, W0⟩
    refine ⟨_, rfl, _, .inl ⟨_, SqL.of W0.hl, rfl⟩, ?_⟩
    obtain ⟨sm, hq, hl, its, sz, due⟩ := W0
    cases its with
    | nil =>
      refine iteF ⟨_, rfl, ?_⟩
      cases due with
      | good h1 h2 h3 =>
        refine h3 q _ sm ?_
        rw [hq, ← h2]
        show _ = some (HO.lst ((out ++ []).map nV))
        rw [List.append_nil]
      | wrong h1 h2 =>
        obtain ⟨i, hi, _⟩ := h1
        cases hi
    | @cons t ts i is hi hr' =>
      have ne : (((t :: ts).reverse.map V.ref).isEmpty) = false := by
        rw [rev_refs]
        cases ts.reverse.map V.ref <;> rfl
      rw [ne]
      refine iteT ⟨fun σ1 H1 => ∃ (out : List Nat) (ts : List Addr) (is1 : List It) (y3 y4 : Option V), szA is1 < szA (i :: is) ∧ σ1 = [some v0, some (.ref q), some (.ref lf), y3, y4, none] ∧ WHead K Q E H H1 q lf out ts is1, ?_, ?_⟩
      · rintro σ1 H1 ⟨out1, ts1, is1, z3, z4, lt, rfl, W1⟩
        exact ⟨_, lt, out1, ts1, is1, z3, z4, rfl, rfl, W1⟩
      obtain ⟨v, dz, ht, vi⟩ := hi.parts
      have ntl1 : t ≠ lf := fun z => by rw [z, hl] at ht; cases ht
      rw [rev_refs] at hl
      -- x, deep = left.pop()
      refine ⟨_, rfl, .inl ⟨rfl, _, SqL.of hl⟩, lf, _, .ref t, rfl, rfl, hl, ?_, ?_⟩
      · rw [List.length_append]
        show (ts.reverse.map V.ref ++ [V.ref t])[(ts.reverse.map V.ref).length]? = _
        rw [List.getElem?_append_right (Nat.le_refl _), Nat.sub_self]
        rfl
      rw [List.dropLast_concat]
      obtain ⟨H1, eH1⟩ : ∃ H1, H1 = upd H' lf (.lst (ts.reverse.map V.ref)) := ⟨_, rfl⟩
      rw [← eH1]
      have ht1 : H1 t = some (.tup [v, .int dz]) := by rw [eH1, upd_ne ntl1]; exact ht
      have hq1 : H1 q = some (.lst (out.map nV)) := by rw [eH1, upd_ne nql]; exact hq
      have hl1 : H1 lf = some (.lst (ts.reverse.map V.ref)) := by rw [eH1, upd_same]
      have sm1 : Same H H1 := fun b o e => by rw [eH1, upd_ne (ne_of_none e nl0)]; exact sm b o e
      have tp1 : Tps K H' H1 := by rw [eH1]; exact Tps.lst hl
      have it1 : ItsAt K H H1 ts is := hr'.keep tp1 fun a xs e => by rw [eH1, upd_ne (fun z => by rw [z, hl] at e; cases e)]; exact e
      have isl := hr'.len_sz
      have sz' : out.length + (i.sz + szA is) ≤ 200000 := sz
      refine ⟨t, _, rfl, SqT.of ht1, rfl, _, _, rfl, _, _, rfl, rfl, ?_⟩
      -- if deep > MOST_DEEP
      refine ⟨_, rfl, _, _, rfl, rfl, _, rfl, ?_⟩
      by_cases h400 : 400 < dz
      · rw [decide_eq_true h400]
        refine iteT ?_
        cases i with
        | shut =>
          have : dz = -1 := vi.1
          omega
        | val d n => exact due.deep (n := n) (by have : dz = (n : Int) := vi.1; omega) (fun _ _ => trivial) (.inl ⟨d, rfl⟩) _ sm1
        | odd n => exact due.deep (n := n) (by have : dz = (n : Int) := vi.1; omega) (fun _ _ => trivial) (.inr (.inl rfl)) _ sm1
        | pair n => exact due.deep (n := n) (by have : dz = (n : Int) := vi.1; omega) (fun _ _ => trivial) (.inr (.inr rfl)) _ sm1
      rw [decide_eq_false h400]
      refine iteF ⟨_, rfl, _, _, rfl, rfl, _, rfl, ?_⟩
      have grow : ∀ {H2 : Hp} {ys : List Nat}, Kq q H1 H2 → H2 q = some (.lst ((out ++ ys).map nV)) → ys.length ≤ i.sz → Due K Q E H (out ++ ys) is → WHead K Q E H H2 q lf (out ++ ys) ts is := fun {H2 ys} k2 o2 l2 d2 =>
        ⟨fun b o e => k2 b o (sm1 b o e) (ne_of_none e nq), o2, k2 _ _ hl1 nql.symm, it1.keep (Tps.kq k2 hq1) (fun a xs e => k2 _ _ e (fun z => by rw [z, hq1] at e; cases e)), (by rw [List.length_append]; omega), d2⟩
      have less : 1 ≤ i.sz → szA is < szA (i :: is) := fun h => by
        show szA is < i.sz + szA is
        omega
      have i1 := It.sz_pos hi
      have kind : (i = .shut ∧ dz = -1) ∨ (∃ d n, i = .val d n ∧ dz = (n : Int) ∧ Dp K H' v d ∧ Oc.plain d = true ∧ d.showable = true ∧ flatD d = true) ∨ (∃ n, i = .odd n ∧ dz = (n : Int) ∧ Odd H v) ∨
          (∃ s xs js n, v = .ref s ∧ SqT K H1 s xs ∧ PVs K H H1 (n + 1) xs js ∧ dz = ((n : Nat) : Int) ∧ szA js + 2 ≤ i.sz ∧ Due K Q E H (out ++ [40]) (js ++ .shut :: is)) := by
        cases i with
        | shut => exact .inl ⟨rfl, vi.1⟩
        | odd n => exact .inr (.inr (.inl ⟨n, rfl, vi.1, vi.2⟩))
        | val d n =>
          obtain ⟨e, hd, pl, sh⟩ := vi
          cases hf : flatD d with
          | true => exact .inr (.inl ⟨d, n, rfl, e, hd, pl, sh, hf⟩)
          | false =>
            cases hd with
            | @tup s xs ds h1 h2 =>
              rw [plain_tup] at pl
              simp only [PyData.showable] at sh
              refine .inr (.inr (.inr ⟨s, xs, vals (n + 1) ds, n, rfl, tp1 _ _ h1, (PVs.vals h2 pl sh).keep tp1, e, ?_, due.open (by omega)⟩))
              rw [szA_vals]
              show _ ≤ (octs (.tuple ds)).length
              rw [octs_tup, List.length_cons, List.length_append]
              show _ ≤ _ + 1 + 1
              omega
            | _ => cases hf
        | pair n =>
          obtain ⟨e, s1, o, rfl, hs, ho⟩ := vi
          have hs1 := sm1 _ _ hs
          refine .inr (.inr (.inr ⟨s1, _, [.val (.int 1) (n + 1), .odd (n + 1)], n, rfl, SqT.of hs1, .cons ⟨rfl, .int 1, by simp only [Oc.plain], by simp only [PyData.showable]; decide⟩ (.cons ⟨rfl, ho⟩ .nil), e, ?_, .wrong ⟨.odd (n + 1), by simp, trivial⟩ (due.odd fun z => z)⟩))
          show (octs (.int 1)).length + (1 + 0) + 2 ≤ 10
          rw [octs_int]
          show (105 :: (TL.numL 1 ++ [59])).length + (1 + 0) + 2 ≤ 10
          rw [TL.numL_lt (by decide)]
          decide
      rcases kind with ⟨rfl, rfl⟩ | ⟨d, n, rfl, rfl, hd, pl, sh, hf⟩ | ⟨n, rfl, rfl, ho⟩ | ⟨s1, xs, js, n, rfl, hs, pv, rfl, zj, dj⟩
      · -- a tuple's end
        refine iteT ⟨_, rfl, .inl ⟨rfl, _, SqL.of hq1⟩, q, _, _, rfl, rfl, hq1, fit1 (by rw [List.length_map]; omega), out ++ [41], ts, is, _, _, less i1, rfl, grow Kq.refl.upd ?_ (Nat.le_refl _) (due.next fun z => z)⟩
        rw [upd_same, nV_cat]
        rfl
      · rw [decide_eq_false (show ¬ ((n : Nat) : Int) < 0 by omega)]
        have hd1 := Dp.tups tp1 _ _ pl hd
        refine iteF ⟨_, rfl, _, _, rfl, Dp.tyB hd1 pl, _, _, rfl, rfl, _, rfl, ?_⟩
        rw [decide_eq_false (flat_ty hf)]
        refine iteF ⟨_, rfl, _, rfl, v, q, out, rfl, hq1, .inl ⟨d, hd1, pl, sh, hf, by show out.length + (It.val d n).sz ≤ _; omega, fun H2 k2 o2 => ?_⟩⟩
        refine ⟨out ++ octs d, ts, is, _, _, less i1, rfl, grow k2 o2 (Nat.le_refl _) (due.next fun z => ?_)⟩
        have z : 401 < n + need d := z
        rw [need_flat d (fun ds e => by rw [e] at hf; cases hf)] at z
        omega
      · rw [decide_eq_false (show ¬ ((n : Nat) : Int) < 0 by omega)]
        obtain ⟨ty, hty, nty⟩ := (ho.same sm1).tyB (K := K)
        refine iteF ⟨_, rfl, _, _, rfl, hty, _, _, rfl, rfl, _, rfl, ?_⟩
        rw [decide_eq_false nty]
        refine iteF ⟨_, rfl, _, rfl, v, q, out, rfl, hq1, .inr ⟨ho.same sm1, fun H2 k2 => ?_⟩⟩
        exact due.odd (fun z => z) H2 fun b o e => k2 b o (sm1 b o e) (ne_of_none e nq)
      · rw [decide_eq_false (show ¬ ((n : Nat) : Int) < 0 by omega)]
        refine iteF ⟨_, rfl, _, _, rfl, .tup hs, _, _, rfl, rfl, _, rfl, iteT ?_⟩
        -- out.append(BEGIN)
        have lj := pv.len
        refine ⟨_, rfl, .inl ⟨rfl, _, SqL.of hq1⟩, q, _, _, rfl, rfl, hq1, fit1 (by rw [List.length_map]; omega), ?_⟩
        obtain ⟨H2, eH2⟩ : ∃ H2, H2 = upd H1 q (.lst (out.map nV ++ [V.int 40])) := ⟨_, rfl⟩
        rw [← eH2]
        have k2 : Kq q H1 H2 := by rw [eH2]; exact Kq.refl.upd
        have W2 := fun du => grow (ys := [40]) k2 (by rw [eH2, upd_same, nV_cat]; rfl) (by show 1 ≤ i.sz; omega) du
        have hq2 : H2 q = some (.lst ((out ++ [40]).map nV)) := by rw [eH2, upd_same, nV_cat]; rfl
        have hl2 : H2 lf = some (.lst (ts.reverse.map V.ref)) := k2 _ _ hl1 nql.symm
        have tp2 : Tps K H1 H2 := Tps.kq k2 hq1
        have sm2 : Same H H2 := fun b o e => k2 b o (sm1 b o e) (ne_of_none e nq)
        have it2 : ItsAt K H H2 ts is := it1.keep tp2 (fun a xs e => k2 _ _ e (fun z => by rw [z, hq1] at e; cases e))
        -- left.append((None, -1))
        refine ⟨_, rfl, .inl ⟨rfl, _, SqL.of hl2⟩, _, rfl, by show 2 ≤ sizeLine; decide, fun t3 n3 => ?_⟩
        have n3l : t3 ≠ lf := fun z => by rw [z, hl2] at n3; cases n3
        have n3q : t3 ≠ q := fun z => by rw [z, hq2] at n3; cases n3
        have hl3 : (upd H2 t3 (.tup [.non, .int (-1)])) lf = some (.lst (ts.reverse.map V.ref)) := by rw [upd_ne n3l.symm]; exact hl2
        refine ⟨lf, _, _, rfl, rfl, hl3, fit1 (by rw [List.length_map, List.length_reverse]; omega), ?_⟩
        obtain ⟨H4, eH4⟩ : ∃ H4, H4 = upd (upd H2 t3 (.tup [.non, .int (-1)])) lf (.lst (ts.reverse.map V.ref ++ [V.ref t3])) := ⟨_, rfl⟩
        rw [← eH4]
        have tp4 : Tps K H2 H4 := by rw [eH4]; exact (Tps.same (same_upd n3)).trans (Tps.lst hl3)
        have sm4 : Same H H4 := fun b o e => by rw [eH4, upd_ne (ne_of_none e nl0), upd_ne (ne_of_none (sm2 b o e) n3)]; exact sm2 b o e
        have hl4 : H4 lf = some (.lst (ts.reverse.map V.ref ++ [V.ref t3])) := by rw [eH4, upd_same]
        have hq4 : H4 q = some (.lst ((out ++ [40]).map nV)) := by rw [eH4, upd_ne nql, upd_ne n3q.symm]; exact hq2
        have tup4 : ∀ a xs, H2 a = some (.tup xs) → H4 a = some (.tup xs) := fun a xs e => by
          rw [eH4, upd_ne (fun z => by rw [z, hl2] at e; cases e), upd_ne (ne_of_none e n3)]
          exact e
        have it4 : ItsAt K H H4 (t3 :: ts) (.shut :: is) := .cons (by show H4 t3 = _; rw [eH4, upd_ne n3l, upd_same]) (it2.keep tp4 tup4)
        -- left.extend([(part, deep + 1) for part in x[::-1]])
        have pv4 := (pv.keep (tp2.trans tp4)).rev
        have hs4 := tp4 _ _ (tp2 _ _ hs)
        refine ⟨_, rfl, .inl ⟨rfl, _, SqL.of hl4⟩, _, rfl, s1, xs, rfl, hs4, fun r nr => ⟨r, rfl, ⟨_, SqT.of upd_same⟩, fun D nD => ?_⟩⟩
        have s5 : Same H4 (upd H4 r (.tup xs.reverse)) := same_upd nr
        refine lc_tup (K := K) (a := r) (xs := xs.reverse) (fun j H' => ∃ us : List Addr, Same (upd H4 r (.tup xs.reverse)) H' ∧ H' D = some (.lst (us.map V.ref)) ∧ ItsAt K H H' us (js.reverse.take j) ∧ us.length ≤ j) ⟨[], (nw (Same.refl _) nD), upd_same, .nil, Nat.zero_le _⟩ (fun j H' _ z => ?_) (fun j y H' hy z => ?_) (fun H5 z => ?_)
        · obtain ⟨us, z1, _⟩ := z
          exact Same.tup z1 (SqT.of upd_same)
        · obtain ⟨us, z1, z2, z3, z4⟩ := z
          obtain ⟨it, hit, pit⟩ := pv4.at hy
          have jl : j < xs.reverse.length := (List.getElem?_eq_some_iff.mp hy).1
          rw [List.length_reverse] at jl
          have zjs := pv.len_sz
          refine ⟨rfl, _, rfl, _, rfl, _, _, rfl, rfl, by show 2 ≤ sizeLine; decide, fun p np => ⟨_, (same_upd np) _ _ z2, ?_, us ++ [p], ?_, ?_, ?_, ?_⟩⟩
          · rw [List.length_map]
            exact fit1 (by omega)
          · exact sk ((nw z1 np)) nD
          · rw [upd_same, List.map_append]
            rfl
          · have e1 : ((n : Nat) : Int) + 1 = ((n + 1 : Nat) : Int) := by omega
            rw [List.take_add_one, hit]
            have npD : p ≠ D := fun z => by rw [z, z2] at np; cases np
            have tpp : Tps K H' (upd (upd H' p (.tup [y, .int ((n : Int) + 1)])) D (.lst (us.map V.ref ++ [V.ref p]))) := (Tps.same (same_upd np)).trans (Tps.lst ((same_upd np) _ _ z2))
            refine (z3.keep tpp fun a xs e => ?_).app (.cons (PV.it (v := y) ?_ ((pit.keep (Tps.same s5)).keep ((Tps.same z1).trans tpp))) .nil)
            · rw [upd_ne (fun z => by rw [z, z2] at e; cases e), upd_ne (ne_of_none e np)]
              exact e
            · rw [upd_ne npD, upd_same, e1]
          · rw [List.length_append]
            show us.length + 1 ≤ _
            omega
        · obtain ⟨us, z1, z2, z3, z4⟩ := z
          rw [List.length_reverse] at z3 z4
          rw [List.take_of_length_le (by rw [List.length_reverse]; omega)] at z3
          have s45 : Same H4 H5 := Same.trans s5 z1
          have hl5 : H5 lf = some (.lst (ts.reverse.map V.ref ++ [V.ref t3])) := s45 _ _ hl4
          have zjs := pv.len_sz
          have nDl : D ≠ lf := fun z => by rw [z, s5 _ _ hl4] at nD; cases nD
          refine ⟨lf, D, _, _, rfl, rfl, hl5, z2, fit (by rw [List.length_append, List.length_map, List.length_map, List.length_reverse]; show _ + 1 + _ ≤ _; omega), ?_⟩
          have tp6 : Tps K H5 (upd H5 lf (.lst (ts.reverse.map V.ref ++ [V.ref t3] ++ us.map V.ref))) := Tps.lst hl5
          have keep6 : ∀ a xs, H5 a = some (.tup xs) → (upd H5 lf (.lst (ts.reverse.map V.ref ++ [V.ref t3] ++ us.map V.ref))) a = some (.tup xs) := fun a xs e => by
            rw [upd_ne (fun z => by rw [z, hl5] at e; cases e)]
            exact e
          have zr := z3.rev
          rw [List.reverse_reverse] at zr
          refine ⟨out ++ [40], us.reverse ++ t3 :: ts, js ++ .shut :: is, _, _, ?_, rfl, ⟨fun b o e => ?_, ?_, ?_, ((zr.keep tp6 keep6).app ((it4.keep (Tps.same s45) fun a xs e => s45 _ _ e).keep tp6 keep6)), ?_, dj⟩⟩
          · rw [szA_app]
            show szA js + (1 + szA is) < i.sz + szA is
            omega
          · rw [upd_ne (ne_of_none e nl0)]
            exact s45 _ _ (sm4 b o e)
          · rw [upd_ne nql]
            exact s45 _ _ hq4
          · rw [upd_same, List.reverse_append, List.reverse_cons, List.reverse_reverse, List.map_append, List.map_append]
            rfl
          · rw [szA_app, List.length_append]
            show out.length + 1 + (szA js + (1 + szA is)) ≤ _
            omega
end
end K28
set_option Elab.async false
set_option linter.all false
set_option maxRecDepth 100000
set_option exponentiation.threshold 3000
set_option maxHeartbeats 4000000
namespace K28
open PySem PySem.Spec PyProof.Rows L2 Oc
/-- the products behind one another -/
def prods : Nat → List Nat → List Nat
  | _, [] => []
  | k, c :: l => (k + 1) * c :: prods (k + 1) l
theorem prods_at : ∀ (l : List Nat) (k j c : Nat), l[j]? = some c → (prods k l)[j]? = some ((k + j + 1) * c)
  | [], _, _, _, h => by cases h
  | x :: l, k, 0, c, h => by cases h; rfl
  | x :: l, k, j + 1, c, h => by
    show (prods (k + 1) l)[j]? = _
    rw [prods_at l (k + 1) j c h, show k + 1 + j + 1 = k + (j + 1) + 1 by omega]
theorem prods_len : ∀ (l : List Nat) (k : Nat), (prods k l).length = l.length
  | [], _ => rfl
  | x :: l, k => by
    show (prods (k + 1) l).length + 1 = _
    rw [prods_len l (k + 1)]
    rfl
theorem chk_prods (l : List Nat) : ∀ i, i ≤ l.length → chk (l.take i) = ((prods 0 l).take i).sum % 65521
  | 0, _ => rfl
  | i + 1, h => by
    have hc := List.getElem?_eq_getElem (show i < l.length by omega)
    rw [chk_step hc, chk_prods l i (by omega), List.take_add_one, prods_at l 0 i _ hc, List.sum_append]
    show _ = (_ + ((0 + i + 1) * _ + 0)) % 65521
    rw [Nat.zero_add, Nat.mod_add_mod]
    rfl
theorem sum_ints : ∀ l : List Nat, ((l.map fun n : Nat => (n : Int)).sum) = ((l.sum : Nat) : Int)
  | [] => rfl
  | n :: l => by
    rw [List.map_cons, List.sum_cons, List.sum_cons, sum_ints l]
    omega
def numOf (l : List Nat) : Nat := l.foldl (fun acc c => acc * 256 + c) 0
theorem numOf_snoc (l : List Nat) (c : Nat) : numOf (l ++ [c]) = numOf l * 256 + c := by
  unfold numOf
  rw [List.foldl_append]
  rfl
def spNumOf (K : PySem.W.Frag) : Sp := fun vs H Q _ => ∃ (a : Addr) (L : List Nat), vs = [.ref a] ∧ SqL K H a (L.map nV) ∧ ∀ H', Same H H' → Q (.int ((numOf L : Nat) : Int)) H'
def bigL (n : Nat) : Nat → List Nat
  | 0 => []
  | k + 1 => n / 256 ^ k % 256 :: bigL n k
def spBig : Sp := fun vs H Q _ => ∃ (n k : Nat), vs = [.int (n : Int), .int (k : Int)] ∧ 1 ≤ k ∧ k ≤ 8 ∧ ∀ (p : Addr) (H' : Hp), Same H H' → H p = none → H' p = some (.lst ((bigL n k).map nV)) → Q (.ref p) H'
theorem bigL_at (n : Nat) : ∀ (k j : Nat), j < k → (bigL n k)[j]? = some (n / 256 ^ (k - 1 - j) % 256)
  | k + 1, 0, _ => by
    show some (n / 256 ^ k % 256) = _
    rw [Nat.add_sub_cancel, Nat.sub_zero]
  | k + 1, j + 1, h => by
    show (bigL n k)[j]? = _
    rw [bigL_at n k j (by omega), show k + 1 - 1 - (j + 1) = k - 1 - j by omega]
theorem bigL_len (n : Nat) : ∀ k, (bigL n k).length = k
  | 0 => rfl
  | k + 1 => by
    show (bigL n k).length + 1 = _
    rw [bigL_len n k]
section
variable {P : Program} {w : World} {K : PySem.W.Frag} {mg : Str → Option Value} {base : Heap}
theorem c_check_number (T : Txt K mg) {cx : CXT} : Mx.CalX P w K mg base cx 1 "check_number" (spCheck K) := by
  refine Mx.calX_of T.d_check_number T.g_check_number sc_check_number (fun fd F => b_check_number F) (fun vs H Q E h => ?_) (fun cdv A outer s H vs Q E hr h => ?_)
  · obtain ⟨a, L, rfl, _⟩ := h
    rfl
  · obtain ⟨a, L, rfl, hS, hL, k⟩ := h
    refine ⟨_, (pss_one (ps_ret (pe_op op_modN (pe_callB (cr_sum rfl) (by rfl) T.z_sum (by decide +kernel) (pa_cons (pe_lc (own := [("at", 1), ("octet", 2)]) (g := gTup K 2 (gCons (gName 1) (gCons (gName 2) gNil))) rfl sc_check_number.nd (pi_enum (by rfl) T.z_enumerate (pa_cons (pv 0) pa_nil)) (blkOk_by (own := [("at", 1), ("octet", 2)]) (N := n_check_number) (sc := defScope s_check_number) (by decide +kernel)) (fun _ _ _ _ _ => (pg_tup (by rfl) (pgs_cons (pg_name (i := 1) sc_check_number.nd rfl (by first | exact .inl rfl | exact .inr rfl)) (pgs_cons (pg_name (i := 2) sc_check_number.nd rfl (by first | exact .inl rfl | exact .inr rfl)) pgs_nil)))) (fun _ _ _ _ _ => pts_nil) (fun _ _ _ _ _ => (pe_op op_mul (pe_op op_add (pv 1) pe_int) (pv 2)))) pa_nil)) (Mx.pe_gi T.i_MODULUS)))), ?_⟩
    refine ⟨_, rfl, a, _, rfl, hS, fun D nD => lc_it (walk_enum (K := K) (a := a) (xs := L.map nV)) (fun j H' => Same H H' ∧ H' D = some (.lst (((prods 0 L).take j).map nV))) ⟨nw (Same.refl H) nD, upd_same⟩ (fun j H' _ z => Same.seq z.1 hS) (fun j v H1 H2 hj z y => ?_) (fun H1 z => ?_)⟩
    · obtain ⟨z1, z2⟩ := z
      obtain ⟨p, x, z, rfl, np, rfl, e1, e2⟩ := y
      cases e1
      have e2 : (L.map nV)[j]? = some z := e2
      rw [List.getElem?_map] at e2
      obtain ⟨c, hc, rfl⟩ : ∃ c, L[j]? = some c ∧ nV c = z := by
        cases h : L[j]? with
        | none => rw [h] at e2; cases e2
        | some c => rw [h] at e2; exact ⟨c, rfl, Option.some.inj e2⟩
      have hi' := (List.getElem?_eq_some_iff.mp hc).1
      refine ⟨p, _, rfl, SqT.of upd_same, rfl, _, _, rfl, _, _, rfl, rfl, rfl, ?_⟩
      have npD : p ≠ D := fun z => by rw [z, z2] at np; cases np
      refine ⟨_, rfl, _, _, rfl, rfl, _, rfl, _, _, rfl, rfl, .inl ⟨by omega, by omega⟩, _, (by rw [upd_ne npD.symm]; exact z2), ?_, sk (nw z1 np) nD, ?_⟩
      · rw [List.length_map, List.length_take]
        exact fit1 (by omega)
      · rw [upd_same, List.take_add_one, prods_at L 0 j c hc, List.map_append]
        have e : (((j : Nat) : Int) + 1) * ((c : Nat) : Int) = (((0 + j + 1) * c : Nat) : Int) := by
          rw [Int.natCast_mul]
          congr 1
          omega
        show some (HO.lst (_ ++ [V.int ((((j : Nat) : Int) + 1) * ((c : Nat) : Int))])) = _
        rw [e]
        rfl
    · obtain ⟨z1, z2⟩ := z
      rw [List.length_map, List.take_of_length_le (by rw [prods_len]; exact Nat.le_refl _)] at z2
      have hI : SqL K H1 D (((prods 0 L).map fun c : Nat => (c : Int)).map V.int) := by
        rw [List.map_map]
        exact SqL.of z2
      refine ⟨D, _, rfl, hI, _, _, rfl, rfl, (by show (65521 : Int) ≠ 0; decide), ?_⟩
      rw [sum_ints]
      have e := chk_prods L L.length (Nat.le_refl _)
      rw [List.take_length, List.take_of_length_le (by rw [prods_len]; exact Nat.le_refl _)] at e
      have e2 := fmodN ((prods 0 L).sum) 65521
      have kk := k H1 z1
      rw [e, ← e2] at kk
      exact kk
theorem c_number_of (T : Txt K mg) {cx : CXT} : Mx.CalX P w K mg base cx 1 "number_of" (spNumOf K) := by
  refine Mx.calX_of T.d_number_of T.g_number_of sc_number_of (fun fd F => b_number_of F) (fun vs H Q E h => ?_) (fun cdv A outer s H vs Q E hr h => ?_)
  · obtain ⟨a, L, rfl, _⟩ := h
    rfl
  · obtain ⟨a, L, rfl, hS, k⟩ := h
    refine ⟨_, (pss_cons (ps_set (i := 1) sc_number_of.nd rfl (by first | exact .inl rfl | exact .inr rfl) pe_int)
  (pss_cons (ps_for (passes_of rfl) rfl (pi_list (pv 0)) (pg_name (i := 2) sc_number_of.nd rfl (by first | exact .inl rfl | exact .inr rfl))
    (pss_one (ps_set (i := 1) sc_number_of.nd rfl (by first | exact .inl rfl | exact .inr rfl) (pe_op op_add (pe_op op_mul (pv 1) pe_int) (pv 2)))))
  (pss_one (ps_ret (pv 1))))), ?_⟩
    refine ⟨_, rfl, a, rfl, ⟨_, hS⟩, for_list (K := K) (a := a) (xs := L.map nV) (fun j σ H' => H' = H ∧ ∃ y2, σ = [some (.ref a), some (.int ((numOf (L.take j) : Nat) : Int)), y2]) ⟨rfl, _, rfl⟩ (fun j σ H' _ z => by rw [z.1]; exact hS) (fun j v σ H' hv z => ?_) (fun σ H' z => ?_)⟩
    · obtain ⟨rfl, y2, rfl⟩ := z
      rw [List.getElem?_map] at hv
      obtain ⟨c, hc, rfl⟩ : ∃ c, L[j]? = some c ∧ nV c = v := by
        cases h : L[j]? with
        | none => rw [h] at hv; cases hv
        | some c => rw [h] at hv; exact ⟨c, rfl, Option.some.inj hv⟩
      refine ⟨_, rfl, _, _, rfl, rfl, .inr ⟨by decide, by decide⟩, _, rfl, _, _, rfl, rfl, rfl, some (nV c), ?_⟩
      rw [List.take_add_one, hc]
      show _ = [_, some (V.int ((numOf (L.take j ++ [c]) : Nat) : Int)), _]
      rw [numOf_snoc, Int.natCast_add, Int.natCast_mul]
      rfl
    · obtain ⟨rfl, y2, rfl⟩ := z
      rw [List.length_map, List.take_length]
      exact ⟨_, rfl, k _ (Same.refl _)⟩
theorem c_big_octets (T : Txt K mg) {cx : CXT} : Mx.CalX P w K mg base cx 1 "big_octets" spBig := by
  refine Mx.calX_of T.d_big_octets T.g_big_octets sc_big_octets (fun fd F => b_big_octets F) (fun vs H Q E h => ?_) (fun cdv A outer s H vs Q E hr h => ?_)
  · obtain ⟨n, m, rfl, _⟩ := h
    rfl
  · obtain ⟨n, m, rfl, h1, h8, k⟩ := h
    refine ⟨_, (pss_one (ps_ret (pe_lc (own := [("at", 2)]) (g := gName 2) rfl sc_big_octets.nd (pi_range3 rfl T.z_range (pa_cons (pe_op op_sub (pv 1) pe_int) (pa_cons (pe_un un_neg pe_int) (pa_cons (pe_un un_neg pe_int) pa_nil)))) (blkOk_by (own := [("at", 2)]) (N := n_big_octets) (sc := defScope s_big_octets) (by decide +kernel)) (fun _ _ _ _ _ => (pg_name (i := 2) sc_big_octets.nd rfl (by first | exact .inl rfl | exact .inr rfl))) (fun _ _ _ _ _ => pts_nil) (fun _ _ _ _ _ => (pe_op op_andM (pe_op op_shrN (pv 0) (pe_op op_mul pe_int (pv 2))) pe_int))))), ?_⟩
    have rg : RgC ((m : Int) - 1) (-1) (-1) m := by
      have z := RgC.neg (i := (m : Int) - 1) (j := -1) (by omega) (by omega) (by omega) (by omega)
      have e : ((m : Int) - 1 - (-1)).toNat = m := by omega
      rw [e] at z
      exact z
    refine ⟨_, rfl, _, _, rfl, rfl, _, rfl, _, rfl, _, _, _, m, rfl, rg, fun D nD => lc_it walk_rangeC (fun j H' => Same H H' ∧ H' D = some (.lst (((bigL n m).take j).map nV))) ⟨nw (Same.refl H) nD, upd_same⟩ (fun _ _ _ _ => trivial) (fun j v H1 H2 hj z y => ?_) (fun H1 z => ?_)⟩
    · obtain ⟨z1, z2⟩ := z
      obtain ⟨rfl, rfl⟩ := y
      refine ⟨rfl, _, rfl, _, rfl, _, _, rfl, rfl, .inl ⟨by decide, by decide⟩, (n : Int), 8 * (m - 1 - j), rfl, congrArg V.int (by omega), _, 8, rfl, rfl, _, z2, ?_, sk z1 nD, ?_⟩
      · rw [List.length_map, List.length_take]
        exact fit1 (by rw [bigL_len]; omega)
      · rw [upd_same, List.take_add_one, bigL_at n m j hj, List.map_append]
        have e : (n : Int) / 2 ^ (8 * (m - 1 - j)) % 2 ^ 8 = ((n / 256 ^ (m - 1 - j) % 256 : Nat) : Int) := by
          have e1 : (2 : Int) ^ (8 * (m - 1 - j)) = ((256 ^ (m - 1 - j) : Nat) : Int) := by
            rw [show (256 : Nat) = 2 ^ 8 by decide, ← Nat.pow_mul, Int.natCast_pow]
            rfl
          rw [e1]
          rfl
        rw [e]
        rfl
    · obtain ⟨z1, z2⟩ := z
      rw [List.take_of_length_le (by rw [bigL_len]; exact Nat.le_refl _)] at z2
      exact k D H1 z1 nD z2
end
end K28
set_option Elab.async false
set_option linter.all false
set_option maxRecDepth 100000
set_option exponentiation.threshold 3000
set_option maxHeartbeats 4000000
namespace K28
open PySem PySem.Spec PyProof.Rows L2 Oc
theorem big4 (n : Nat) : bigL n 4 = head4 n := by
  unfold head4 bigL bigL bigL bigL bigL
  simp
theorem big2 {n : Nat} (h : n < 65536) : bigL n 2 = [n / 256, n % 256] := by
  unfold bigL bigL bigL
  have : n / 256 % 256 = n / 256 := Nat.mod_eq_of_lt (by omega)
  simp [this]
def endS (L : List Nat) (i : Nat) : Option Nat := if L.length < i + 7 then none else if L.length < i + 5 + four L i + 2 then none else some (i + 5 + four L i + 2)
def spEndOf (K : PySem.W.Frag) : Sp := fun vs H Q _ => ∃ (a : Addr) (L : List Nat) (i : Nat), vs = [.ref a, .int (i : Int)] ∧ SqL K H a (L.map nV) ∧ byteS L ∧ L.length ≤ 100000 ∧
  (endS L i = none → ∀ H', Same H H' → Q .non H') ∧ ∀ e, endS L i = some e → ∀ H', Same H H' → Q (.int (e : Int)) H'
theorem numOf_four {L : List Nat} {i : Nat} (h : i + 4 ≤ L.length) : numOf ((L.drop i).take 4) = four L i := by
  have e : (L.drop i).take 4 = [L.getD i 0, L.getD (i + 1) 0, L.getD (i + 2) 0, L.getD (i + 3) 0] := by
    apply List.ext_getElem?
    intro j
    rw [List.getElem?_take, List.getElem?_drop]
    match j with
    | 0 => rw [if_pos (by decide), gd_at (L := L) (x := i + 0) (by omega)]; rfl
    | 1 => rw [if_pos (by decide), gd_at (L := L) (x := i + 1) (by omega)]; rfl
    | 2 => rw [if_pos (by decide), gd_at (L := L) (x := i + 2) (by omega)]; rfl
    | 3 => rw [if_pos (by decide), gd_at (L := L) (x := i + 3) (by omega)]; rfl
    | j + 4 => rw [if_neg (by omega)]; rfl
  rw [e]
  unfold numOf four
  simp
theorem numOf_two {L : List Nat} {i : Nat} (h : i + 2 ≤ L.length) : numOf ((L.drop i).take 2) = L.getD i 0 * 256 + L.getD (i + 1) 0 := by
  have e : (L.drop i).take 2 = [L.getD i 0, L.getD (i + 1) 0] := by
    apply List.ext_getElem?
    intro j
    rw [List.getElem?_take, List.getElem?_drop]
    match j with
    | 0 => rw [if_pos (by decide), gd_at (L := L) (x := i + 0) (by omega)]; rfl
    | 1 => rw [if_pos (by decide), gd_at (L := L) (x := i + 1) (by omega)]; rfl
    | j + 2 => rw [if_neg (by omega)]; rfl
  rw [e]
  unfold numOf
  simp
section
variable {P : Program} {w : World} {K : PySem.W.Frag} {mg : Str → Option Value} {base : Heap}
theorem c_entry (T : Txt K mg) : Mx.CalX P w K mg base (L2.CX P w) 5 "entry" (spEntP K) := by
  have c_written : Mx.CalX P w K mg base (L2.CX P w) 4 "written" (spWrittenP K) := c_written T
  have c_check_number : Mx.CalX P w K mg base CX0 1 "check_number" (spCheck K) := c_check_number T
  have c_big_octets : Mx.CalX P w K mg base CX0 1 "big_octets" spBig := c_big_octets T
  refine Mx.calX_of T.d_entry T.g_entry sc_entry (fun fd F => b_entry F) (fun vs H Q E h => ?_) (fun cdv A outer s H vs Q E hr h => ?_)
  · obtain ⟨kd, v, d, rfl, _⟩ := h
    rfl
  · obtain ⟨kd, v, d, rfl, hd, pl, sh, nd, sz, k⟩ := h
    refine ⟨_, (pss_cons (ps_set (i := 2) sc_entry.nd rfl (by first | exact .inl rfl | exact .inr rfl) (Mx.pe_cx c_written hr (by decide) (by rfl) (Mx.onward (takes_of rfl rfl rfl rfl)) (pa_cons (pv 1) pa_nil)))
  (pss_cons (ps_set (i := 3) sc_entry.nd rfl (by first | exact .inl rfl | exact .inr rfl) (Mx.pe_cx c_check_number hr (by decide) (by rfl) pass0 (pa_cons (pe_op op_cat (pe_lst (pa_cons (pv 0) pa_nil)) (pv 2)) pa_nil)))
  (pss_one (ps_ret (pe_op op_cat (pe_op op_cat (pe_op op_cat (Mx.pe_cx c_big_octets hr (by decide) (by rfl) pass0 (pa_cons (pe_callB call_len_seq (by rfl) T.z_len (by decide +kernel) (pa_cons (pv 2) pa_nil)) (pa_cons (pe_op op_sub (Mx.pe_gi T.i_HEAD) pe_int) pa_nil))) (pe_lst (pa_cons (pv 0) pa_nil))) (pv 2)) (Mx.pe_cx c_big_octets hr (by decide) (by rfl) pass0 (pa_cons (pv 3) (pa_cons (Mx.pe_gi T.i_TAIL) pa_nil)))))))), ?_⟩
    refine ⟨_, rfl, v, rfl, .inl ⟨d, hd, pl, sh, by omega, sz, fun _ p H1 s1 hp => ?_, fun z => by omega⟩⟩
    have len : ((octs d).map nV).length = (octs d).length := List.length_map ..
    -- check = check_number([kind] + octets)
    refine ⟨_, rfl, by show 1 ≤ sizeLine; decide, fun o no => ⟨_, rfl, o, p, _, _, rfl, rfl, upd_same, (by rw [upd_ne (ne_of_none hp no)]; exact hp), size_fit (by rw [len]; show 1 + _ ≤ _; omega), fun c nc => ?_⟩⟩
    refine ⟨c, kd :: octs d, rfl, SqL.of upd_same, (by rw [List.length_cons]; omega), fun H2 s2 => ?_⟩
    have s3 : Same H1 H2 := Same.trans (nw (nw (Same.refl H1) no) nc) s2
    have hp2 := s3 _ _ hp
    have ck := chk_lt (kd :: octs d)
    -- the octets
    refine ⟨_, rfl, p, _, rfl, .inl (SqL.of hp2), _, _, rfl, rfl, (octs d).length, 4, by rw [len]; rfl, by decide, by decide, fun b1 H3 s4 n1 h1 => ?_⟩
    rw [big4] at h1
    refine ⟨_, rfl, by show 1 ≤ sizeLine; decide, fun b2 n2 => ?_⟩
    refine ⟨b1, b2, _, _, rfl, rfl, (by rw [upd_ne (ne_of_none h1 n2)]; exact h1), upd_same, size_fit (by rw [List.length_map]; show 4 + 1 ≤ 1000000; decide), fun b3 n3 => ?_⟩
    have s5 : Same H2 (upd (upd H3 b2 (.lst [.int (kd : Int)])) b3 (.lst ((head4 (octs d).length).map nV ++ [.int (kd : Int)]))) := nw (nw s4 n2) n3
    refine ⟨_, rfl, b3, p, _, _, rfl, rfl, upd_same, s5 _ _ hp2, size_fit (by rw [List.length_append, List.length_map, len]; show (head4 _).length + 1 + _ ≤ _; unfold head4; show 4 + 1 + _ ≤ _; omega), fun b4 n4 => ?_⟩
    refine ⟨_, rfl, chk (kd :: octs d), 2, rfl, by decide, by decide, fun b5 H6 s6 n5 h5 => ?_⟩
    rw [big2 (by omega)] at h5
    refine ⟨b4, b5, _, _, rfl, rfl, s6 _ _ upd_same, h5, size_fit (by rw [List.length_append, List.length_append, List.length_map, len]; show (head4 _).length + 1 + _ + 2 ≤ _; unfold head4; show 4 + 1 + _ + 2 ≤ _; omega), fun z nz => ?_⟩
    have s7 : Same H H6 := Same.trans (Same.trans (Same.trans s1 s3) (nw s5 n4)) s6
    refine k z _ (nw s7 nz) (s7.free nz) ?_
    rw [upd_same]
    unfold entO
    simp only [List.map_append, List.map_cons, List.map_nil]
    rfl
theorem c_end_of (T : Txt K mg) : Mx.CalX P w K mg base CX0 2 "end_of" (spEndOf K) := by
  have c_are_octets : Mx.CalX P w K mg base CX0 1 "are_octets" (spAre K) := c_are_octets T
  have c_number_of : Mx.CalX P w K mg base CX0 1 "number_of" (spNumOf K) := c_number_of T
  refine Mx.calX_of T.d_end_of T.g_end_of sc_end_of (fun fd F => b_end_of F) (fun vs H Q E h => ?_) (fun cdv A outer s H vs Q E hr h => ?_)
  · obtain ⟨a, L, i, rfl, _⟩ := h
    rfl
  · obtain ⟨a, L, i, rfl, hS, hB, hL, kn, ks⟩ := h
    refine ⟨_, (C8.pss_cut (ps_if (PW.pt (pw_or (pt_not (pt_chain op_le op_le pe_int (pv 1) (pe_op op_sub (pe_op op_sub (pe_callB call_len_seq (by rfl) T.z_len (by decide +kernel) (pa_cons (pv 0) pa_nil)) (Mx.pe_gi T.i_HEAD)) (Mx.pe_gi T.i_TAIL)))) (pw_or1 (pt_not (pt_truth (Mx.pe_cx c_are_octets hr (by decide) (by rfl) pass0 (pa_cons (pe_slice sl_list (pv 0) (po_some (pv 1)) (po_some (pe_op op_add (pv 1) (Mx.pe_gi T.i_HEAD)))) pa_nil)) (by intro _; rfl))))))
    (pss_one (ps_ret pe_non))
    pss_nil)
  (pss_cons (ps_set (i := 2) sc_end_of.nd rfl (by first | exact .inl rfl | exact .inr rfl) (pe_op op_add (pe_op op_add (pe_op op_add (pv 1) (Mx.pe_gi T.i_HEAD)) (Mx.pe_cx c_number_of hr (by decide) (by rfl) pass0 (pa_cons (pe_slice sl_list (pv 0) (po_some (pv 1)) (po_some (pe_op op_sub (pe_op op_add (pv 1) (Mx.pe_gi T.i_HEAD)) pe_int))) pa_nil))) (Mx.pe_gi T.i_TAIL)))
  (pss_one (ps_ret (pe_ifExp (pt_cmpR op_le (pv 2) (pe_callB call_len_seq (by rfl) T.z_len (by decide +kernel) (pa_cons (pv 0) pa_nil)) (nomark _)) (pv 2) pe_non))))), ?_⟩
    have len : ((L.map nV).length : Int) = (L.length : Int) := by rw [List.length_map]
    refine ⟨fun σ1 H1 => Same H H1 ∧ σ1 = [some (.ref a), some (.int (i : Int)), none] ∧ i + 7 ≤ L.length, ?_, ?_⟩
    · refine ⟨_, rfl, _, _, rfl, rfl, _, rfl, ?_⟩
      rw [decide_eq_true (show (0 : Int) ≤ (i : Int) by omega)]
      refine iteT ⟨_, rfl, a, _, rfl, .inl hS, _, _, rfl, rfl, _, _, rfl, rfl, _, _, rfl, rfl, _, rfl, ?_⟩
      rw [len]
      by_cases h7 : i + 7 ≤ L.length
      case neg =>
        rw [decide_eq_false (show ¬ (i : Int) ≤ (L.length : Int) - 5 - 2 by omega)]
        refine iteT (kn ?_ H (Same.refl H))
        unfold endS
        rw [if_pos (by omega)]
      rw [decide_eq_true (show (i : Int) ≤ (L.length : Int) - 5 - 2 by omega)]
      refine iteF ?_
      have e5 : (i : Int) + 5 = ((i + 5 : Nat) : Int) := by omega
      refine ⟨_, rfl, _, rfl, _, rfl, _, rfl, _, _, rfl, rfl, _, rfl, a, _, rfl, hS, fun D nD => ?_⟩
      have hc : cutV (L.map nV) (some (i : Int)) (some ((i : Int) + 5)) = ((L.drop i).take (i + 5 - i)).map nV := by
        rw [e5]
        exact cut_mid (by omega) (by omega)
      rw [hc]
      refine ⟨D, _, rfl, SqL.of upd_same, byte_take (byte_drop hB _) _, by rw [List.length_take]; omega, fun H2 s2 => ⟨_, rfl, iteF ⟨Same.trans (same_upd nD) s2, rfl, h7⟩⟩⟩
    · rintro σ1 H1 ⟨s1, rfl, h7⟩
      have hS1 := Same.seq s1 hS
      have e4 : (i : Int) + 5 - 1 = ((i + 4 : Nat) : Int) := by omega
      have hc : cutV (L.map nV) (some (i : Int)) (some ((i : Int) + 5 - 1)) = ((L.drop i).take 4).map nV := by
        rw [e4, cut_mid (by omega) (by omega), show i + 4 - i = 4 by omega]
      refine ⟨_, rfl, _, _, rfl, rfl, _, rfl, _, rfl, _, rfl, _, rfl, _, _, rfl, rfl, _, _, rfl, rfl, _, rfl, a, _, rfl, hS1, fun D nD => ?_⟩
      rw [hc]
      refine ⟨D, _, rfl, SqL.of upd_same, fun H2 s2 => ⟨_, _, rfl, rfl, _, _, rfl, rfl, ?_⟩⟩
      rw [numOf_four (by omega)]
      have s3 : Same H H2 := Same.trans (nw s1 nD) s2
      have e : (i : Int) + 5 + ((four L i : Nat) : Int) + 2 = ((i + 5 + four L i + 2 : Nat) : Int) := by omega
      refine ⟨_, rfl, _, rfl, a, _, rfl, .inl (Same.seq s3 hS), _, _, rfl, rfl, _, rfl, ?_⟩
      rw [len]
      unfold endS at kn ks
      rw [if_neg (show ¬ L.length < i + 7 by omega)] at kn ks
      by_cases hf : L.length < i + 5 + four L i + 2
      · rw [if_pos hf] at kn
        rw [decide_eq_false (show ¬ (i : Int) + 5 + ((four L i : Nat) : Int) + 2 ≤ (L.length : Int) by omega)]
        exact iteF (kn rfl _ s3)
      · rw [if_neg hf] at ks
        rw [decide_eq_true (show (i : Int) + 5 + ((four L i : Nat) : Int) + 2 ≤ (L.length : Int) by omega)]
        refine iteT ⟨_, rfl, ?_⟩
        have kk := ks _ rfl H2 s3
        rw [← e] at kk
        exact kk
end
end K28
set_option Elab.async false
set_option linter.all false
set_option maxRecDepth 100000
set_option exponentiation.threshold 3000
set_option maxHeartbeats 4000000
namespace K28
open PySem PySem.Spec PyProof.Rows L2 Oc
theorem end_there {L : List Nat} {i e : Nat} (h : endS L i = some e) : i + 7 ≤ L.length ∧ e = i + 5 + four L i + 2 ∧ i + 5 + four L i + 2 ≤ L.length := by
  unfold endS at h
  by_cases h1 : L.length < i + 7
  · rw [if_pos h1] at h; cases h
  rw [if_neg h1] at h
  by_cases h2 : L.length < i + 5 + four L i + 2
  · rw [if_pos h2] at h; cases h
  rw [if_neg h2] at h
  cases h
  exact ⟨by omega, rfl, by omega⟩
theorem end_no {L : List Nat} {i : Nat} (h : endS L i = none) : entS L i = none := by
  unfold entS thereS
  unfold endS at h
  by_cases h1 : L.length < i + 7
  · rw [if_pos h1]
  rw [if_neg h1] at h
  by_cases h2 : L.length < i + 5 + four L i + 2
  · rw [if_neg h1, if_pos (.inl h2)]
  rw [if_neg h2] at h
  cases h
section
variable {P : Program} {w : World} {K : PySem.W.Frag} {mg : Str → Option Value} {base : Heap}
theorem c_entry_at (T : Txt K mg) (hSG : SgnT K) : Mx.CalX P w K mg base (L2.CX P w) 8 "entry_at" (spEntryAt K) := by
  have c_end_of : Mx.CalX P w K mg base CX0 2 "end_of" (spEndOf K) := c_end_of T
  have c_are_octets : Mx.CalX P w K mg base CX0 1 "are_octets" (spAre K) := c_are_octets T
  have c_number_of : Mx.CalX P w K mg base CX0 1 "number_of" (spNumOf K) := c_number_of T
  have c_check_number : Mx.CalX P w K mg base CX0 1 "check_number" (spCheck K) := c_check_number T
  have c_readB : Gk.CalB P w K mg base (L2.CX P w) 23 296 false "read" (spRead K) := (c_read T hSG).calB (by decide) (by decide)
  refine Mx.calX_of T.d_entry_at T.g_entry_at sc_entry_at (fun fd F => b_entry_at F) (fun vs H Q E h => ?_) (fun cdv A outer s H vs Q E hr h => ?_)
  · obtain ⟨a, L, i, rfl, _⟩ := h
    rfl
  · obtain ⟨a, L, i, rfl, hS, hB, hR, hi, hL, kn, ks⟩ := h
    have rm : Gk.Rm 26 312 false _ := Gk.Rm.of hr
    refine ⟨_, (pss_cons (ps_set (i := 2) sc_entry_at.nd rfl (by first | exact .inl rfl | exact .inr rfl) (Mx.pe_cx c_end_of hr (by decide) (by rfl) pass0 (pa_cons (pv 0) (pa_cons (pv 1) pa_nil))))
  (C8.pss_cut (ps_if (PW.pt (pw_or (pt_cmpR op_isN (pv 2) pe_non (nomark _)) (pw_or1 (pt_not (pt_truth (Mx.pe_cx c_are_octets hr (by decide) (by rfl) pass0 (pa_cons (pe_slice sl_list (pv 0) (po_some (pv 1)) (po_some (pv 2))) pa_nil)) (by intro _; rfl))))))
    (pss_one (ps_ret pe_non))
    pss_nil)
  (pss_cons (ps_set (i := 3) sc_entry_at.nd rfl (by first | exact .inl rfl | exact .inr rfl) (pe_callTy call_list_of (by rfl) T.z_list (by decide +kernel) (pa_cons (pe_slice sl_list (pv 0) (po_some (pe_op op_sub (pe_op op_add (pv 1) (Mx.pe_gi T.i_HEAD)) pe_int)) (po_some (pe_op op_sub (pv 2) (Mx.pe_gi T.i_TAIL)))) pa_nil)))
  (C8.pss_cut (ps_if (pt_cmpR op_ne (Mx.pe_cx c_check_number hr (by decide) (by rfl) pass0 (pa_cons (pv 3) pa_nil)) (Mx.pe_cx c_number_of hr (by decide) (by rfl) pass0 (pa_cons (pe_slice sl_list (pv 0) (po_some (pe_op op_sub (pv 2) (Mx.pe_gi T.i_TAIL))) (po_some (pv 2))) pa_nil)) (nomark _))
    (pss_one (ps_ret pe_non))
    pss_nil)
  (pss_one (ps_try_only rfl rfl ⟨rfl, by decide, .inl T.g_BadForm⟩ takes0 (fun W pn xe tk _ => (pss_one (ps_ret (pe_tup (pa_cons (pe_ix (ix_listK (K := K) rfl) (pv 3) pe_int (fun _ _ => rfl)) (pa_cons (Gk.pe_bS c_readB rm (by decide) (by decide) (by decide) (by rfl) (fun σ => passAt tk σ) (pa_cons (pe_slice (Mx.sl_listK (K := K) rfl) (pv 3) (po_some pe_int) po_none) pa_nil)) (pa_cons (pv 2) pa_nil))))))) (fun a oe cls d pn _ _ => (pss_one (ps_ret pe_non))))))))), ?_⟩
    refine ⟨_, rfl, _, rfl, a, L, i, rfl, hS, hB, by omega, fun hn H1 s1 => ?_, fun e he H1 s1 => ?_⟩
    · refine ⟨fun _ _ => False, ?_, fun _ _ z => z.elim⟩
      exact ⟨_, rfl, rfl, _, rfl, iteT (kn (end_no hn) H1 s1)⟩
    obtain ⟨h7, rfl, hf⟩ := end_there he
    have hS1 := Same.seq s1 hS
    have e0 := cut_mid (L := L) (i := i) (j := i + 5 + four L i + 2) (by omega) hf
    refine ⟨fun σ1 H2 => Same H H2 ∧ σ1 = [some (.ref a), some (.int (i : Int)), some (.int ((i + 5 + four L i + 2 : Nat) : Int)), none], ?_, ?_⟩
    · refine ⟨_, rfl, rfl, _, rfl, iteF ⟨_, rfl, _, rfl, _, rfl, _, rfl, _, rfl, a, _, rfl, hS1, fun D nD => ?_⟩⟩
      rw [e0]
      refine ⟨D, _, rfl, SqL.of upd_same, byte_take (byte_drop hB _) _, by rw [List.length_take, List.length_drop]; omega, fun H2 s2 => ⟨_, rfl, iteF ⟨Same.trans (nw s1 nD) s2, rfl⟩⟩⟩
    · rintro σ1 H2 ⟨s2, rfl⟩
      have hS2 := Same.seq s2 hS
      obtain ⟨f, hfo⟩ : ∃ f, f = four L i := ⟨_, rfl⟩
      rw [← hfo] at hf
      have b1 : (i : Int) + 5 - 1 = ((i + 4 : Nat) : Int) := by omega
      have b2 : ((i + 5 + four L i + 2 : Nat) : Int) - 2 = ((i + 5 + f : Nat) : Int) := by rw [hfo]; omega
      have c1 : cutV (L.map nV) (some ((i : Int) + 5 - 1)) (some (((i + 5 + four L i + 2 : Nat) : Int) - 2)) = ((L.drop (i + 4)).take (1 + f)).map nV := by
        rw [b1, b2, cut_mid (by omega) (by omega), show i + 5 + f - (i + 4) = 1 + f by omega]
      have c2 : cutV (L.map nV) (some (((i + 5 + four L i + 2 : Nat) : Int) - 2)) (some ((i + 5 + four L i + 2 : Nat) : Int)) = ((L.drop (i + 5 + f)).take 2).map nV := by
        rw [b2, ← hfo, cut_mid (by omega) (by omega), show i + 5 + f + 2 - (i + 5 + f) = 2 by omega]
      -- told = list(octets[at + HEAD - 1:end - TAIL])
      refine ⟨_, rfl, _, rfl, _, _, rfl, rfl, _, _, rfl, rfl, _, rfl, _, rfl, _, _, rfl, rfl, _, rfl, a, _, rfl, hS2, fun D nD => ?_⟩
      rw [c1]
      obtain ⟨C, hC⟩ : ∃ C, C = (L.drop (i + 4)).take (1 + f) := ⟨_, rfl⟩
      rw [← hC]
      have cl : C.length = 1 + f := by rw [hC, List.length_take, List.length_drop]; omega
      have d5 : C.drop 1 = (L.drop (i + 5)).take f := by
        rw [hC, List.drop_take, List.drop_drop, show 1 + f - 1 = f by omega]
      have x4 : C[0]? = some (L.getD (i + 4) 0) := by
        rw [hC, List.getElem?_take, if_pos (by omega), List.getElem?_drop, Nat.add_zero]
        exact gd_at (by omega)
      have hCb : byteS C := by rw [hC]; exact byte_take (byte_drop hB _) _
      have hCr : runOk 500 0 C = true := by rw [hC]; exact run_take (run_drop hR _) _
      refine ⟨D, _, rfl, .inl (SqL.of upd_same), fun M nM => ?_⟩
      have s3 : Same H (upd (upd H2 D (.lst (C.map nV))) M (.lst (C.map nV))) := nw (nw s2 nD) nM
      -- the check number
      refine ⟨fun σ1 H3 => Same H H3 ∧ σ1 = [some (.ref a), some (.int (i : Int)), some (.int ((i + 5 + four L i + 2 : Nat) : Int)), some (.ref M)] ∧ H3 M = some (.lst (C.map nV)) ∧ entS L i = (match wholeS (C.drop 1) with | none => none | some d => some (L.getD (i + 4) 0, d, i + 5 + four L i + 2)), ?_, ?_⟩
      · refine ⟨_, rfl, M, C, rfl, SqL.of upd_same, by omega, fun H3 s4 => ?_⟩
        have s5 := Same.trans s3 s4
        refine ⟨_, rfl, _, rfl, _, _, rfl, rfl, _, rfl, _, rfl, _, rfl, a, _, rfl, Same.seq s5 hS, fun N nN => ?_⟩
        rw [c2]
        refine ⟨N, _, rfl, SqL.of upd_same, fun H4 s6 => ?_⟩
        have s7 : Same H H4 := Same.trans (nw s5 nN) s6
        have hM4 : H4 M = some (.lst (C.map nV)) := s6 _ _ ((same_upd nN) _ _ (s4 _ _ upd_same))
        refine ⟨rfl, _, rfl, ?_⟩
        rw [dec_ii, numOf_two (by omega)]
        have en : ¬ L.length < i + 7 := by omega
        have ef : ¬ L.length < i + 5 + f + 2 := by omega
        by_cases hc : chk C = L.getD (i + 5 + f) 0 * 256 + L.getD (i + 5 + f + 1) 0
        · rw [decide_eq_true (show ((chk C : Nat) : Int) = ((L.getD (i + 5 + f) 0 * 256 + L.getD (i + 5 + f + 1) 0 : Nat) : Int) by rw [hc])]
          refine iteF ⟨s7, rfl, hM4, ?_⟩
          have t : thereS L i = some (i + 5 + four L i + 2) := by
            unfold thereS
            rw [if_neg en, if_neg (fun z => by
              rw [← hfo] at z
              rcases z with z | z
              · exact ef z
              · exact z (by rw [← hC]; exact hc.symm))]
          unfold entS
          rw [t, ← hfo, d5]
          all_goals rfl
        · rw [decide_eq_false (show ¬ ((chk C : Nat) : Int) = ((L.getD (i + 5 + f) 0 * 256 + L.getD (i + 5 + f + 1) 0 : Nat) : Int) by omega)]
          refine iteT (kn ?_ H4 s7)
          have t : thereS L i = none := by
            unfold thereS
            rw [if_neg en, if_pos (.inr (fun z => hc (by rw [← hfo, ← hC] at z; exact z.symm)))]
          unfold entS
          rw [t]
      · rintro σ1 H3 ⟨s4, rfl, hM, he⟩
        have cc : cutV (C.map nV) (some 1) none = (C.drop 1).map nV := cut_drop C 1
        have z0 : atI (C.map nV) 0 = some (.int ((L.getD (i + 4) 0 : Nat) : Int)) := nV_at x4
        refine ⟨_, rfl, _, _, _, _, rfl, rfl, SqL.of hM, z0, ?_⟩
        refine ⟨_, rfl, _, rfl, M, _, rfl, SqL.of hM, fun N nN => ?_⟩
        rw [cc]
        refine ⟨N, C.drop 1, rfl, SqL.of upd_same, byte_drop hCb 1, run_drop hCr 1, by rw [List.length_drop]; omega, fun d hd v H5 s5 hv => ?_, fun hn H5 s5 => ?_⟩
        · rw [hd] at he
          have s6 : Same H H5 := Same.trans (nw s4 nN) s5
          exact ⟨_, rfl, by show 3 ≤ sizeLine; decide, fun t nt => ks _ d _ he t v _ (nw s6 nt) upd_same (Dp.same (same_upd nt) _ _ hv)⟩
        · rw [hn] at he
          exact ⟨true, T.m_BadForm, fun _ a ha => kn he _ (Same.trans (nw s4 nN) s5), fun q => nomatch q⟩
end
end K28
set_option Elab.async false
set_option linter.all false
set_option maxRecDepth 100000
set_option maxHeartbeats 0
namespace K28
open PySem PySem.Spec PyProof.Rows L2 Oc
abbrev R : PySem.W.OpenRow := PySem.W.OpenLaw.row PySem.Challenge.rw_entablature_k28_entries_of_a_log
def exF (K : PySem.W.Frag) : Bool := He.tupB K "SIGNS" [.str lowS, .str highS]
abbrev hk : PySem.W.Hook := He.hookX 5 facts fns [] [] exF
def ob (s : PySem.W.SharedT) : He.AlX := He.obsX 5 facts fns [] [] exF (HandSHeadRun.getT s)
theorem ob_is (s : PySem.W.SharedT) : ob s = hk.obs s.abs := He.obsX_eq (HandSHeadRun.getT_eq s)
def names0 : List Str := ["PeristyleError", "BadForm", "are_octets", "is_sign_code", "figures_of", "codes_of", "write_number", "write_text", "write_simple", "written", "Reading", "sign_with", "read", "check_number", "big_octets"]
def names1 : List Str := ["number_of", "entry", "end_of", "entry_at", "_law_box", "_law_take", "_law_pick", "_law_octets", "_law_plain", "_law_check", "_law_entry", "_law_there", "PERCENT", "SIGNS", "MOST_DEEP"]
def names2 : List Str := ["PIECE", "BASE", "NONE", "NO", "YES", "NUMBER", "TEXT", "BEGIN", "SHUT", "COLON", "END", "MINUS", "NOUGHT", "NINE", "TAB"]
def names3 : List Str := ["FEED", "BLANK", "LAST", "HEAD", "TAIL", "MODULUS"]
def names : List Str := names0 ++ (names1 ++ (names2 ++ (names3)))
theorem run (w : World) : HandSHeadRun.RunEq R (PySem.W.view R.prog [55]) hk ob 4000 names w := by
  intro os
  kernel_rfl
theorem c_own (P : Program) (w : World) (K : PySem.W.Frag) (mg : Str → Option Value) (base : Heap) (T : Txt K mg) (hSG : SgnT K) :
    Gk.CalB P w K mg base (L2.CX P w) 680 8000 false "entry" (spEntP K) ∧ Gk.CalB P w K mg base (L2.CX P w) 680 8000 false "entry_at" (spEntryAt K) ∧ Gk.CalB P w K mg base (L2.CX P w) 680 8000 false "check_number" (spCheck K) ∧ Gk.CalB P w K mg base (L2.CX P w) 680 8000 false "written" (spWritten K) :=
  ⟨(c_entry T).calB (by decide) (by decide), (c_entry_at T hSG).calB (by decide) (by decide), (c_check_number T).calB (by decide) (by decide), by
    obtain ⟨fa, fdat, pars, F, r⟩ := ((c_written T).calB (dp := 680) (un := 8000) (g := false) (by decide) (by decide)).ex
    refine ⟨fa, fdat, pars, F.weaker (fun vs H Q E h => ?_), r⟩
    obtain ⟨v, d, rfl, hd, pl, sh, nd, sz, k⟩ := h
    exact ⟨v, rfl, .inl ⟨d, hd, pl, sh, by omega, sz, fun _ => k, fun z => by omega⟩⟩⟩
end K28
open PySem PySem.W PySem.Calls PyProof.Rows
set_option maxRecDepth 100000 in
theorem PySem.Challenge.cw_entablature_k28_entries_of_a_log_holds : PySem.Challenge.rw_entablature_k28_entries_of_a_log.Holds := by
  w_on; o_law
  refine HandSHeadRun.head_any (r := OpenLaw.row PySem.Challenge.rw_entablature_k28_entries_of_a_log) (q := view (OpenLaw.row PySem.Challenge.rw_entablature_k28_entries_of_a_log).prog [55]) (H := K28.hk) (ob := K28.ob) (M := 4000) (loose := K28.names) (d := HandSHeadRun.topDef (OpenLaw.row PySem.Challenge.rw_entablature_k28_entries_of_a_log).prog 55) (kwd := []) K28.ob_is
    (by kernel_rfl) (fun s => by kernel_rfl) K28.run (by kernel_rfl) (by kernel_rfl) (by kernel_rfl) (by rfl) (by first | assumption | decide +kernel) (by decide +kernel) ⟨rfl, rfl, rfl, rfl, rfl, by decide +kernel⟩ ?hw ?hc
  case hw => w_witness2
  case hc =>
    refine Gk.walk_in (l := PySem.Challenge.rw_entablature_k28_entries_of_a_log) (n := 63) (dp := 691) (un := 8203) (nm := "script") (cx := L2.CX0) rfl (by decide) (by kernel_rfl) ⟨rfl, by decide, by decide, fun _ => rfl⟩ ?F (fun _ _ _ _ z => z)
    intro w mg fa h Y G hmg0
    obtain ⟨K, KX, c⟩ := Y
    have hmg1 : mg ("law" : PySem.Str) = some (.ref fa) := by
      have e : (HandSHeadRun.topDef (OpenLaw.row PySem.Challenge.rw_entablature_k28_entries_of_a_log).prog 55).name = ("law" : PySem.Str) := by kernel_rfl
      rw [← e]
      exact hmg0
    have T := K28.txt_of KX G c.t.d
    have hSG : K28.SgnT K := fun H => He.tupB_ok c.more H
    obtain ⟨fd, F⟩ := T.d_law
    have e := hmg1.symm.trans T.g_law
    cases e
    exact ⟨K, fd, K28.spLaw K, KX, fun s v => (L2.FunD.bindsA (ps := ["script"]) F fun _ _ _ _ _ _ us hl => match us, hl with | [_], _ => rfl) s [v] rfl, fun H a ns hl _ hS => ⟨a, ns, rfl, hS, hl, fun _ => rfl⟩, fun base _ _ => let ⟨c1, c2, c3, c4⟩ := K28.c_own _ w K mg base T hSG; K28.c_law T c1 c2 c3 c4 fd F⟩
