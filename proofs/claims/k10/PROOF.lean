import PyProof.Rows.All
import Wide.All
import OpenK.AllK
import Wide.FinOn
import PySem.Challenge.RW_entablature_k10_choices_and_literals
import KE.KStateDown
import Lean
import HandS.ForMost
import HandS.ForExc
import HandS.Codes
import HandS.Walk
import HandS.More
import HandS.Defaults
import HandS.Head0
import HandS.Head1
import HandS.Head2
import HandS.HeadEnd
import HandS.HeadHook1
import HandS.HeadHook2
import HandS.Set
import HandS.SetFor
import HandS.Strs
import HandS.SetKeys
import PyProof.Rows.SortShellAny
import KE.GoesEnum
import HandS.IsInst
import HandS.TupSets
import HandS.TupAny
import HandS.DictTup
import HandS.DictComp
import HandS.Deep
set_option Elab.async false
set_option linter.all false
set_option maxRecDepth 100000
set_option maxHeartbeats 4000000
namespace K10
open PySem PySem.Spec PyProof.Rows L2
def top (i : Nat) : Stmt := PySem.Challenge.pw_entablature_k10_choices_and_literals.main.body.getD i (.Pass ⟨0, 0, 0, 0⟩)
abbrev s_keys_of : Stmt := top 3
abbrev s_is_of_kind : Stmt := top 4
abbrev s_literals : Stmt := top 5
abbrev s_named : Stmt := top 6
abbrev s_signs_for : Stmt := top 7
abbrev s_choices : Stmt := top 8
abbrev s_law_box : Stmt := top 10
abbrev s_law_take : Stmt := top 11
abbrev s_law_pick : Stmt := top 12
abbrev s_law_drawn : Stmt := top 13
abbrev s_law_values : Stmt := top 14
abbrev s_law_options : Stmt := top 15
abbrev s_law : Stmt := top 16
abbrev n_keys_of : List Str := ["shape", "entry"]
theorem sc_keys_of : FnScope n_keys_of ["shape"] (defScope s_keys_of) := ⟨rfl, rfl, rfl, by decide +kernel, rfl, by decide +kernel, by decide +kernel⟩
abbrev n_is_of_kind : List Str := ["worth", "kind"]
theorem sc_is_of_kind : FnScope n_is_of_kind ["worth", "kind"] (defScope s_is_of_kind) := ⟨rfl, rfl, rfl, by decide +kernel, rfl, by decide +kernel, by decide +kernel⟩
abbrev n_literals : List Str := ["shapes", "kind", "found", "shape", "key"]
theorem sc_literals : FnScope n_literals ["shapes", "kind"] (defScope s_literals) := ⟨rfl, rfl, rfl, by decide +kernel, rfl, by decide +kernel, by decide +kernel⟩
abbrev n_named : List Str := ["shape", "key"]
theorem sc_named : FnScope n_named ["shape"] (defScope s_named) := ⟨rfl, rfl, rfl, by decide +kernel, rfl, by decide +kernel, by decide +kernel⟩
abbrev n_signs_for : List Str := ["params", "names", "signs", "worths", "at", "fresh", "found", "other", "worth"]
theorem sc_signs_for : FnScope n_signs_for ["params", "names", "signs", "worths"] (defScope s_signs_for) := ⟨rfl, rfl, rfl, by decide +kernel, rfl, by decide +kernel, by decide +kernel⟩
abbrev n_choices : List Str := ["shapes", "place", "shape", "params", "names", "worths", "told", "_", "kind", "signs", "sign"]
theorem sc_choices : FnScope n_choices ["shapes", "place"] (defScope s_choices) := ⟨rfl, rfl, rfl, by decide +kernel, rfl, by decide +kernel, by decide +kernel⟩
abbrev n_law_box : List Str := ["script", "x"]
theorem sc_law_box : FnScope n_law_box ["script"] (defScope s_law_box) := ⟨rfl, rfl, rfl, by decide +kernel, rfl, by decide +kernel, by decide +kernel⟩
abbrev n_law_take : List Str := ["box", "m", "at", "cell", "told"]
theorem sc_law_take : FnScope n_law_take ["box", "m"] (defScope s_law_take) := ⟨rfl, rfl, rfl, by decide +kernel, rfl, by decide +kernel, by decide +kernel⟩
abbrev n_law_pick : List Str := ["box", "menu"]
theorem sc_law_pick : FnScope n_law_pick ["box", "menu"] (defScope s_law_pick) := ⟨rfl, rfl, rfl, by decide +kernel, rfl, by decide +kernel, by decide +kernel⟩
abbrev n_law_drawn : List Str := ["box", "kinds", "out", "p", "params", "entries", "k", "table", "keys", "value", "key", "i", "kind"]
theorem sc_law_drawn : FnScope n_law_drawn ["box"] (defScope s_law_drawn) := ⟨rfl, rfl, rfl, by decide +kernel, rfl, by decide +kernel, by decide +kernel⟩
abbrev n_law_values : List Str := ["shapes", "kind", "found", "shape", "entry"]
theorem sc_law_values : FnScope n_law_values ["shapes", "kind"] (defScope s_law_values) := ⟨rfl, rfl, rfl, by decide +kernel, rfl, by decide +kernel, by decide +kernel⟩
abbrev n_law_options : List Str := ["shapes", "shape", "row", "at", "keys", "numbers", "least", "old", "entry", "sign", "n", "k", "value"]
theorem sc_law_options : FnScope n_law_options ["shapes", "shape", "row"] (defScope s_law_options) := ⟨rfl, rfl, rfl, by decide +kernel, rfl, by decide +kernel, by decide +kernel⟩
abbrev n_law : List Str := ["script", "box", "shapes", "kind", "told", "place", "shape", "rows", "more", "row", "one"]
theorem sc_law : FnScope n_law ["script"] (defScope s_law) := ⟨rfl, rfl, rfl, by decide +kernel, rfl, by decide +kernel, by decide +kernel⟩
abbrev fns : List He.DefD := [⟨("keys_of", none), "keys_of", "keys_of", defArgs s_keys_of, defBody s_keys_of, defScope s_keys_of, [], []⟩,
  ⟨("is_of_kind", none), "is_of_kind", "is_of_kind", defArgs s_is_of_kind, defBody s_is_of_kind, defScope s_is_of_kind, [], []⟩,
  ⟨("literals", none), "literals", "literals", defArgs s_literals, defBody s_literals, defScope s_literals, [], []⟩,
  ⟨("named", none), "named", "named", defArgs s_named, defBody s_named, defScope s_named, [], []⟩,
  ⟨("signs_for", none), "signs_for", "signs_for", defArgs s_signs_for, defBody s_signs_for, defScope s_signs_for, [], []⟩,
  ⟨("choices", none), "choices", "choices", defArgs s_choices, defBody s_choices, defScope s_choices, [], []⟩,
  ⟨("_law_box", none), "_law_box", "_law_box", defArgs s_law_box, defBody s_law_box, defScope s_law_box, [], []⟩,
  ⟨("_law_take", none), "_law_take", "_law_take", defArgs s_law_take, defBody s_law_take, defScope s_law_take, [], []⟩,
  ⟨("_law_pick", none), "_law_pick", "_law_pick", defArgs s_law_pick, defBody s_law_pick, defScope s_law_pick, [], []⟩,
  ⟨("_law_drawn", none), "_law_drawn", "_law_drawn", defArgs s_law_drawn, defBody s_law_drawn, defScope s_law_drawn, [], []⟩,
  ⟨("_law_values", none), "_law_values", "_law_values", defArgs s_law_values, defBody s_law_values, defScope s_law_values, [], []⟩,
  ⟨("_law_options", none), "_law_options", "_law_options", defArgs s_law_options, defBody s_law_options, defScope s_law_options, [], []⟩,
  ⟨("law", none), "law", "law", defArgs s_law, defBody s_law, defScope s_law, [], []⟩]
abbrev facts : List He.Fa := [.glo "keys_of", .glo "is_of_kind", .glo "literals", .glo "named", .glo "signs_for", .glo "choices", .glo "_law_box", .glo "_law_take", .glo "_law_pick", .glo "_law_drawn", .glo "_law_values", .glo "_law_options", .glo "law", .free "int", .free "type", .free "tuple", .free "sorted", .free "len", .free "abs", .free "range", .free "enumerate", .free "str", .free "set", .free "isinstance", .int "CLASS" 0, .int "LITERAL" 1]
/-- what the walk asks of the top -/
structure Txt (K : PySem.W.Frag) (mg : Str → Option Value) : Prop where
  z_int : mg "int" = none
  z_type : mg "type" = none
  z_tuple : mg "tuple" = none
  z_sorted : mg "sorted" = none
  z_len : mg "len" = none
  z_abs : mg "abs" = none
  z_range : mg "range" = none
  z_enumerate : mg "enumerate" = none
  z_str : mg "str" = none
  z_set : mg "set" = none
  z_isinstance : mg "isinstance" = none
  g_keys_of : mg "keys_of" = some (.ref (He.ga K "keys_of"))
  d_keys_of : ∃ fd, FunD K "keys_of" "keys_of" (defArgs s_keys_of) (defBody s_keys_of) (defScope s_keys_of) [] [] (He.ga K "keys_of") fd
  g_is_of_kind : mg "is_of_kind" = some (.ref (He.ga K "is_of_kind"))
  d_is_of_kind : ∃ fd, FunD K "is_of_kind" "is_of_kind" (defArgs s_is_of_kind) (defBody s_is_of_kind) (defScope s_is_of_kind) [] [] (He.ga K "is_of_kind") fd
  g_literals : mg "literals" = some (.ref (He.ga K "literals"))
  d_literals : ∃ fd, FunD K "literals" "literals" (defArgs s_literals) (defBody s_literals) (defScope s_literals) [] [] (He.ga K "literals") fd
  g_named : mg "named" = some (.ref (He.ga K "named"))
  d_named : ∃ fd, FunD K "named" "named" (defArgs s_named) (defBody s_named) (defScope s_named) [] [] (He.ga K "named") fd
  g_signs_for : mg "signs_for" = some (.ref (He.ga K "signs_for"))
  d_signs_for : ∃ fd, FunD K "signs_for" "signs_for" (defArgs s_signs_for) (defBody s_signs_for) (defScope s_signs_for) [] [] (He.ga K "signs_for") fd
  g_choices : mg "choices" = some (.ref (He.ga K "choices"))
  d_choices : ∃ fd, FunD K "choices" "choices" (defArgs s_choices) (defBody s_choices) (defScope s_choices) [] [] (He.ga K "choices") fd
  g_law_box : mg "_law_box" = some (.ref (He.ga K "_law_box"))
  d_law_box : ∃ fd, FunD K "_law_box" "_law_box" (defArgs s_law_box) (defBody s_law_box) (defScope s_law_box) [] [] (He.ga K "_law_box") fd
  g_law_take : mg "_law_take" = some (.ref (He.ga K "_law_take"))
  d_law_take : ∃ fd, FunD K "_law_take" "_law_take" (defArgs s_law_take) (defBody s_law_take) (defScope s_law_take) [] [] (He.ga K "_law_take") fd
  g_law_pick : mg "_law_pick" = some (.ref (He.ga K "_law_pick"))
  d_law_pick : ∃ fd, FunD K "_law_pick" "_law_pick" (defArgs s_law_pick) (defBody s_law_pick) (defScope s_law_pick) [] [] (He.ga K "_law_pick") fd
  g_law_drawn : mg "_law_drawn" = some (.ref (He.ga K "_law_drawn"))
  d_law_drawn : ∃ fd, FunD K "_law_drawn" "_law_drawn" (defArgs s_law_drawn) (defBody s_law_drawn) (defScope s_law_drawn) [] [] (He.ga K "_law_drawn") fd
  g_law_values : mg "_law_values" = some (.ref (He.ga K "_law_values"))
  d_law_values : ∃ fd, FunD K "_law_values" "_law_values" (defArgs s_law_values) (defBody s_law_values) (defScope s_law_values) [] [] (He.ga K "_law_values") fd
  g_law_options : mg "_law_options" = some (.ref (He.ga K "_law_options"))
  d_law_options : ∃ fd, FunD K "_law_options" "_law_options" (defArgs s_law_options) (defBody s_law_options) (defScope s_law_options) [] [] (He.ga K "_law_options") fd
  g_law : mg "law" = some (.ref (He.ga K "law"))
  d_law : ∃ fd, FunD K "law" "law" (defArgs s_law) (defBody s_law) (defScope s_law) [] [] (He.ga K "law") fd
  i_CLASS : ∃ t, mg "CLASS" = some (.int 0 t)
  i_LITERAL : ∃ t, mg "LITERAL" = some (.int 1 t)
theorem txt_of {K : PySem.W.Frag} {h : Heap} {mg : Str → Option Value} (X : K.In h) (G : h.Ns mainGlobals mg) (c : He.SaysD facts fns K) : Txt K mg where
  g_keys_of := He.glo_ok X G (c.fact 0 (f := .glo "keys_of") rfl)
  g_is_of_kind := He.glo_ok X G (c.fact 1 (f := .glo "is_of_kind") rfl)
  g_literals := He.glo_ok X G (c.fact 2 (f := .glo "literals") rfl)
  g_named := He.glo_ok X G (c.fact 3 (f := .glo "named") rfl)
  g_signs_for := He.glo_ok X G (c.fact 4 (f := .glo "signs_for") rfl)
  g_choices := He.glo_ok X G (c.fact 5 (f := .glo "choices") rfl)
  g_law_box := He.glo_ok X G (c.fact 6 (f := .glo "_law_box") rfl)
  g_law_take := He.glo_ok X G (c.fact 7 (f := .glo "_law_take") rfl)
  g_law_pick := He.glo_ok X G (c.fact 8 (f := .glo "_law_pick") rfl)
  g_law_drawn := He.glo_ok X G (c.fact 9 (f := .glo "_law_drawn") rfl)
  g_law_values := He.glo_ok X G (c.fact 10 (f := .glo "_law_values") rfl)
  g_law_options := He.glo_ok X G (c.fact 11 (f := .glo "_law_options") rfl)
  g_law := He.glo_ok X G (c.fact 12 (f := .glo "law") rfl)
  z_int := He.free_ok X G (c.fact 13 (f := .free "int") rfl)
  z_type := He.free_ok X G (c.fact 14 (f := .free "type") rfl)
  z_tuple := He.free_ok X G (c.fact 15 (f := .free "tuple") rfl)
  z_sorted := He.free_ok X G (c.fact 16 (f := .free "sorted") rfl)
  z_len := He.free_ok X G (c.fact 17 (f := .free "len") rfl)
  z_abs := He.free_ok X G (c.fact 18 (f := .free "abs") rfl)
  z_range := He.free_ok X G (c.fact 19 (f := .free "range") rfl)
  z_enumerate := He.free_ok X G (c.fact 20 (f := .free "enumerate") rfl)
  z_str := He.free_ok X G (c.fact 21 (f := .free "str") rfl)
  z_set := He.free_ok X G (c.fact 22 (f := .free "set") rfl)
  z_isinstance := He.free_ok X G (c.fact 23 (f := .free "isinstance") rfl)
  i_CLASS := He.int_ok X G (c.fact 24 (f := .int "CLASS" 0) rfl)
  i_LITERAL := He.int_ok X G (c.fact 25 (f := .int "LITERAL" 1) rfl)
  d_keys_of := c.def_ 0 (d := ⟨("keys_of", none), "keys_of", "keys_of", defArgs s_keys_of, defBody s_keys_of, defScope s_keys_of, [], []⟩) rfl
  d_is_of_kind := c.def_ 1 (d := ⟨("is_of_kind", none), "is_of_kind", "is_of_kind", defArgs s_is_of_kind, defBody s_is_of_kind, defScope s_is_of_kind, [], []⟩) rfl
  d_literals := c.def_ 2 (d := ⟨("literals", none), "literals", "literals", defArgs s_literals, defBody s_literals, defScope s_literals, [], []⟩) rfl
  d_named := c.def_ 3 (d := ⟨("named", none), "named", "named", defArgs s_named, defBody s_named, defScope s_named, [], []⟩) rfl
  d_signs_for := c.def_ 4 (d := ⟨("signs_for", none), "signs_for", "signs_for", defArgs s_signs_for, defBody s_signs_for, defScope s_signs_for, [], []⟩) rfl
  d_choices := c.def_ 5 (d := ⟨("choices", none), "choices", "choices", defArgs s_choices, defBody s_choices, defScope s_choices, [], []⟩) rfl
  d_law_box := c.def_ 6 (d := ⟨("_law_box", none), "_law_box", "_law_box", defArgs s_law_box, defBody s_law_box, defScope s_law_box, [], []⟩) rfl
  d_law_take := c.def_ 7 (d := ⟨("_law_take", none), "_law_take", "_law_take", defArgs s_law_take, defBody s_law_take, defScope s_law_take, [], []⟩) rfl
  d_law_pick := c.def_ 8 (d := ⟨("_law_pick", none), "_law_pick", "_law_pick", defArgs s_law_pick, defBody s_law_pick, defScope s_law_pick, [], []⟩) rfl
  d_law_drawn := c.def_ 9 (d := ⟨("_law_drawn", none), "_law_drawn", "_law_drawn", defArgs s_law_drawn, defBody s_law_drawn, defScope s_law_drawn, [], []⟩) rfl
  d_law_values := c.def_ 10 (d := ⟨("_law_values", none), "_law_values", "_law_values", defArgs s_law_values, defBody s_law_values, defScope s_law_values, [], []⟩) rfl
  d_law_options := c.def_ 11 (d := ⟨("_law_options", none), "_law_options", "_law_options", defArgs s_law_options, defBody s_law_options, defScope s_law_options, [], []⟩) rfl
  d_law := c.def_ 12 (d := ⟨("law", none), "law", "law", defArgs s_law, defBody s_law, defScope s_law, [], []⟩) rfl
theorem b_keys_of {K : PySem.W.Frag} {f : Addr} {fd : FuncData} (F : FunD K "keys_of" "keys_of" (defArgs s_keys_of) (defBody s_keys_of) (defScope s_keys_of) [] [] f fd) : Binds K fd ["shape"] [] := F.bindsN fun _ _ _ _ _ _ us hl => match us, hl with | [_], _ => rfl
theorem b_is_of_kind {K : PySem.W.Frag} {f : Addr} {fd : FuncData} (F : FunD K "is_of_kind" "is_of_kind" (defArgs s_is_of_kind) (defBody s_is_of_kind) (defScope s_is_of_kind) [] [] f fd) : Binds K fd ["worth", "kind"] [] := F.bindsN fun _ _ _ _ _ _ us hl => match us, hl with | [_, _], _ => rfl
theorem b_literals {K : PySem.W.Frag} {f : Addr} {fd : FuncData} (F : FunD K "literals" "literals" (defArgs s_literals) (defBody s_literals) (defScope s_literals) [] [] f fd) : Binds K fd ["shapes", "kind"] [] := F.bindsN fun _ _ _ _ _ _ us hl => match us, hl with | [_, _], _ => rfl
theorem b_named {K : PySem.W.Frag} {f : Addr} {fd : FuncData} (F : FunD K "named" "named" (defArgs s_named) (defBody s_named) (defScope s_named) [] [] f fd) : Binds K fd ["shape"] [] := F.bindsN fun _ _ _ _ _ _ us hl => match us, hl with | [_], _ => rfl
theorem b_signs_for {K : PySem.W.Frag} {f : Addr} {fd : FuncData} (F : FunD K "signs_for" "signs_for" (defArgs s_signs_for) (defBody s_signs_for) (defScope s_signs_for) [] [] f fd) : Binds K fd ["params", "names", "signs", "worths"] [] := F.bindsN fun _ _ _ _ _ _ us hl => match us, hl with | [_, _, _, _], _ => rfl
theorem b_choices {K : PySem.W.Frag} {f : Addr} {fd : FuncData} (F : FunD K "choices" "choices" (defArgs s_choices) (defBody s_choices) (defScope s_choices) [] [] f fd) : Binds K fd ["shapes", "place"] [] := F.bindsN fun _ _ _ _ _ _ us hl => match us, hl with | [_, _], _ => rfl
theorem b_law_box {K : PySem.W.Frag} {f : Addr} {fd : FuncData} (F : FunD K "_law_box" "_law_box" (defArgs s_law_box) (defBody s_law_box) (defScope s_law_box) [] [] f fd) : Binds K fd ["script"] [] := F.bindsN fun _ _ _ _ _ _ us hl => match us, hl with | [_], _ => rfl
theorem b_law_take {K : PySem.W.Frag} {f : Addr} {fd : FuncData} (F : FunD K "_law_take" "_law_take" (defArgs s_law_take) (defBody s_law_take) (defScope s_law_take) [] [] f fd) : Binds K fd ["box", "m"] [] := F.bindsN fun _ _ _ _ _ _ us hl => match us, hl with | [_, _], _ => rfl
theorem b_law_pick {K : PySem.W.Frag} {f : Addr} {fd : FuncData} (F : FunD K "_law_pick" "_law_pick" (defArgs s_law_pick) (defBody s_law_pick) (defScope s_law_pick) [] [] f fd) : Binds K fd ["box", "menu"] [] := F.bindsN fun _ _ _ _ _ _ us hl => match us, hl with | [_, _], _ => rfl
theorem b_law_drawn {K : PySem.W.Frag} {f : Addr} {fd : FuncData} (F : FunD K "_law_drawn" "_law_drawn" (defArgs s_law_drawn) (defBody s_law_drawn) (defScope s_law_drawn) [] [] f fd) : Binds K fd ["box"] [] := F.bindsN fun _ _ _ _ _ _ us hl => match us, hl with | [_], _ => rfl
theorem b_law_values {K : PySem.W.Frag} {f : Addr} {fd : FuncData} (F : FunD K "_law_values" "_law_values" (defArgs s_law_values) (defBody s_law_values) (defScope s_law_values) [] [] f fd) : Binds K fd ["shapes", "kind"] [] := F.bindsN fun _ _ _ _ _ _ us hl => match us, hl with | [_, _], _ => rfl
theorem b_law_options {K : PySem.W.Frag} {f : Addr} {fd : FuncData} (F : FunD K "_law_options" "_law_options" (defArgs s_law_options) (defBody s_law_options) (defScope s_law_options) [] [] f fd) : Binds K fd ["shapes", "shape", "row"] [] := F.bindsN fun _ _ _ _ _ _ us hl => match us, hl with | [_, _, _], _ => rfl
theorem b_law {K : PySem.W.Frag} {f : Addr} {fd : FuncData} (F : FunD K "law" "law" (defArgs s_law) (defBody s_law) (defScope s_law) [] [] f fd) : Binds K fd ["script"] [] := F.bindsN fun _ _ _ _ _ _ us hl => match us, hl with | [_], _ => rfl
section
variable {P : Program} {w : World} {K : PySem.W.Frag} {mg : Str → Option Value} {base : Heap}
/-- a def of the module keeps its promise -/
theorem fnk_of {x : Str} {st : Stmt} {N ps : List Str} {k : Nat} {sp : Sp} {fd : FuncData} (F : FunD K x x (defArgs st) (defBody st) (defScope st) [] [] (He.ga K x) fd)
    (S : FnScope N ps (defScope st)) (len : ∀ vs H Q E, sp vs H Q E → vs.length = ps.length)
    (hbody : ∀ (cdv : Value) (A : Around) (outer : List Env) (s : Shared) (H : Hp) (vs : List V) (Q : VK) (E : XK), Room k (A.deeper (envOfC x (defScope st) s.heap.objs.size (He.ga K x) cdv)) → sp vs H Q E →
      ∃ t, PSs (cxOf CX0 P w K mg base N x (defScope st) (He.ga K x) cdv A outer s H E).nox (defBody st) t ∧ t { nx := fun _ H' => Q .non H', rt := Q } (start N vs) H) : FnOk P w K mg base CX0 (k + 1) (He.ga K x) fd ps sp :=
  F.ok S len fun cdv A outer s H vs Q E hr hsp => let ⟨t, h, q⟩ := hbody cdv A outer s H vs Q E hr hsp; ⟨t, h.nox, q⟩
/-- a def of the module that may be called by its name -/
theorem cal_of {x : Str} {st : Stmt} {N ps : List Str} {k : Nat} {sp : Sp} (hF : ∃ fd, FunD K x x (defArgs st) (defBody st) (defScope st) [] [] (He.ga K x) fd) (hg : mg x = some (.ref (He.ga K x)))
    (S : FnScope N ps (defScope st)) (hb : ∀ fd, FunD K x x (defArgs st) (defBody st) (defScope st) [] [] (He.ga K x) fd → Binds K fd ps []) (len : ∀ vs H Q E, sp vs H Q E → vs.length = ps.length)
    (hbody : ∀ (cdv : Value) (A : Around) (outer : List Env) (s : Shared) (H : Hp) (vs : List V) (Q : VK) (E : XK), Room k (A.deeper (envOfC x (defScope st) s.heap.objs.size (He.ga K x) cdv)) → sp vs H Q E →
      ∃ t, PSs (cxOf CX0 P w K mg base N x (defScope st) (He.ga K x) cdv A outer s H E).nox (defBody st) t ∧ t { nx := fun _ H' => Q .non H', rt := Q } (start N vs) H) : C8.Cal P w K mg base (k + 1) x sp [] := by
  obtain ⟨fd, F⟩ := hF
  exact ⟨_, fd, ps, [], fnk_of F S len hbody, hg, F.kp, hb fd F, .nil⟩
end
end K10
set_option Elab.async false
set_option linter.all false
set_option maxRecDepth 100000
set_option maxHeartbeats 4000000
namespace K10
open PySem PySem.Spec PyProof.Rows L2
section
variable {K : PySem.W.Frag} {H : Hp} {p : Addr} {xs : List V} {i : Int} {j : Nat} {v : V} {Q : VK} {R : Hp → Prop}
theorem ixL (h : H p = some (.lst xs)) (e : atI xs i = some v) (q : Q v H) : rIxL K (.ref p) (.int i) H Q := ⟨p, xs, i, v, rfl, rfl, SqL.of h, e, q⟩
theorem ixLs (h : SqL K H p xs) (e : atI xs i = some v) (q : Q v H) : rIxL K (.ref p) (.int i) H Q := ⟨p, xs, i, v, rfl, rfl, h, e, q⟩
theorem ixT (h : H p = some (.tup xs)) (e : atI xs i = some v) (q : Q v H) : rIxT K (.ref p) (.int i) H Q := ⟨p, xs, i, v, rfl, rfl, SqT.of h, e, q⟩
theorem ixTs (h : SqT K H p xs) (e : atI xs i = some v) (q : Q v H) : rIxT K (.ref p) (.int i) H Q := ⟨p, xs, i, v, rfl, rfl, h, e, q⟩
theorem setL (h : H p = some (.lst xs)) (e : ixN xs.length i = some j) (q : R (upd H p (.lst (xs.set j v)))) : rSetL (.ref p) (.int i) v H R := ⟨p, xs, i, j, rfl, rfl, h, e, q⟩
theorem atI_map_int {ns : List Int} {i : Int} (h0 : 0 ≤ i) (h : i < ns.length) : ∃ n, n ∈ ns ∧ atI (ns.map V.int) i = some (.int n) := by
  obtain ⟨j, rfl⟩ := Int.eq_ofNat_of_zero_le h0
  have hj : j < ns.length := Int.ofNat_lt.mp h
  refine ⟨ns[j], List.getElem_mem hj, atI_nat ?_⟩
  rw [List.getElem?_map, List.getElem?_eq_getElem hj]
  rfl
theorem dec_int {i j : Int} (h : decide (V.int i = V.int j) = true) : i = j := V.int.inj (of_decide_eq_true h)
theorem dec_int_ne {i j : Int} (h : ¬ decide (V.int i = V.int j) = true) : i ≠ j := fun e => h (decide_eq_true (congrArg V.int e))
theorem fmod_bounds {i m : Int} (hm : 1 ≤ m) : 0 ≤ i.fmod m ∧ i.fmod m < m := ⟨Int.fmod_nonneg_of_pos i (by omega), Int.fmod_lt_of_pos i (by omega)⟩
/-- what the heap tells elsewhere than at b stays -/
def But (b : Addr) (H H' : Hp) : Prop := ∀ a, a ≠ b → H' a = H a
theorem But.refl {b : Addr} {H : Hp} : But b H H := fun _ _ => rfl
theorem But.upd {b : Addr} {H H' : Hp} {o : HO} (h : But b H H') : But b H (upd H' b o) := fun a ha => by rw [upd_ne ha]; exact h a ha
theorem But.trans {b : Addr} {H H1 H2 : Hp} (h : But b H H1) (h' : But b H1 H2) : But b H H2 := fun a ha => (h' a ha).trans (h a ha)
theorem same_upd {H : Hp} {p : Addr} {o : HO} (h : H p = none) : Same H (L2.upd H p o) := fun b x e => by
  rw [upd_ne (ne_of_none e h)]
  exact e
theorem upd_upd {H : Hp} {p : Addr} {o o' : HO} : L2.upd (L2.upd H p o) p o' = L2.upd H p o' := funext fun a => by
  by_cases h : a = p
  · subst h; rw [upd_same, upd_same]
  · rw [upd_ne h, upd_ne h, upd_ne h]
theorem ix_tupK {X : Cx} {K : PySem.W.Frag} (h : X.K = K) : IxR X (rIxT K) := h ▸ ix_tup
theorem ix_listK {X : Cx} {K : PySem.W.Frag} (h : X.K = K) : IxR X (rIxL K) := h ▸ ix_list
theorem op_in_seqK {X : Cx} {K : PySem.W.Frag} (h : X.K = K) : OpR X (compareOp .In) (rIn K false) := h ▸ op_in_seq
theorem op_notIn_seqK {X : Cx} {K : PySem.W.Frag} (h : X.K = K) : OpR X (compareOp .NotIn) (rIn K true) := h ▸ op_notIn_seq
def absI (n : Int) : Int := if n < 0 then -n else n
end
end K10
set_option Elab.async false
set_option linter.all false
set_option maxRecDepth 100000
set_option maxHeartbeats 4000000
/-! Own: sets of keys (whole numbers and texts) that are made of a list and sorted. -/
namespace SM
open PySem PySem.Spec PyProof.Rows L2
/-- the key that a value is -/
def kOf : Value → Key
  | .int i _ => .inl i
  | .str x _ => .inr x
  | _ => .inl 0
theorem kOf_eq {k : Key} {v : Value} (h : keyIs k v = true) : kOf v = k := by
  rcases keyIs_shape h with ⟨i, t, rfl, rfl⟩ | ⟨x, t, rfl, rfl⟩ <;> rfl
theorem scan_of {k : Key} {v : Value} (h : keyIs k v = true) : v.scannable = true := by
  rcases keyIs_shape h with ⟨i, t, rfl, rfl⟩ | ⟨x, t, rfl, rfl⟩ <;> rfl
/-- a right entry of a table -/
def Fine (w : World) (e : Int × Value) : Prop := keyIs (kOf e.2) e.2 = true ∧ e.1 = keyH w (kOf e.2)
abbrev ks (es : Array (Int × Value)) : List Key := es.toList.map fun e => kOf e.2
/-- at a stands a set with just the keys L, in the order of its table -/
structure Tab (w : World) (es : Array (Int × Value)) (t : SetTable) (L : List Key) : Prop where
  fine : ∀ e ∈ es.toList, Fine w e
  keys : ks es = L
  nodup : L.Nodup
  small : es.size < scanBound
  fits : t.fits es.size = true
  rises : Ris t.place.toList
  led : w.params.followText "set-order" = true ∨ t.led = true
def SetM (w : World) (h : Heap) (a : Addr) (L : List Key) : Prop := ∃ o es ep t, h.get? a = some o ∧ o.ExactSet ∧ o.data = .set es ep t ∧ Tab w es t L
theorem SetM.stay {w : World} {h h' : Heap} {a : Addr} {L : List Key} (R : SetM w h a L) (k : ∀ o, h.get? a = some o → h'.get? a = some o) : SetM w h' a L := by
  obtain ⟨o, es, ep, t, e, r⟩ := R
  exact ⟨o, es, ep, t, k o e, r⟩
theorem Tab.size {w : World} {es : Array (Int × Value)} {t : SetTable} {L : List Key} (T : Tab w es t L) : es.size = L.length := by
  rw [← T.keys, List.length_map, Array.length_toList]
theorem Tab.elems {P : Program} {w : World} {es : Array (Int × Value)} {t : SetTable} {L : List Key} (T : Tab w es t L) : ElemsOf (mixKind P w) es.toList := fun e he =>
  ⟨⟨kOf e.2, (T.fine e he).1, (T.fine e he).2⟩, scan_of (T.fine e he).1⟩
theorem Tab.mem {w : World} {es : Array (Int × Value)} {t : SetTable} {L : List Key} (T : Tab w es t L) (k : Key) : k ∈ L ↔ ∃ e ∈ es.toList, keyIs k e.2 = true := by
  rw [← T.keys, List.mem_map]
  constructor
  · rintro ⟨e, he, rfl⟩
    exact ⟨e, he, (T.fine e he).1⟩
  · rintro ⟨e, he, q⟩
    exact ⟨e, he, kOf_eq q⟩
/-- the same entries in another order, in another table -/
theorem Tab.perm {w : World} {es es' : Array (Int × Value)} {t t' : SetTable} {L : List Key} (T : Tab w es t L) (p : es'.toList.Perm es.toList) (hf : t'.fits es'.size = true) (hr : Ris t'.place.toList) (hl : t'.led = t.led) : Tab w es' t' (ks es') where
  fine := fun e he => T.fine e (p.mem_iff.mp he)
  keys := rfl
  nodup := (p.map _).nodup_iff.mpr (by have := T.nodup; rw [← T.keys] at this; exact this)
  small := by rw [← Array.length_toList, p.length_eq, Array.length_toList]; exact T.small
  fits := hf
  rises := hr
  led := T.led.imp id fun z => by rw [hl]; exact z
section
variable {P : Program} {w : World} {A : Around} {E : Value → Shared → Prop} {s : Shared} {a : Addr} {L : List Key}
/-- what stands behind the entry's laying: the table is written, and laid anew if it is too full -/
theorem tail {g : Bool → Sem Unit} (hg : ∀ (b : Bool) (s1 : Shared) (Q1 : Unit → Shared → Prop), Q1 () s1 → wpAny (model P w) A (g b) Q1 E s1)
    {o : Obj} {es : Array (Int × Value)} {ep : Nat} {t : SetTable} (ho : s.heap.get? a = some o) (hex : o.ExactSet) (hd : o.data = .set es ep t)
    {es1 : Array (Int × Value)} {t1 : SetTable} {L1 : List Key} (T : Tab w es1 t1 L1) {dummy : Bool} {R : Option Bool → Shared → Prop}
    (fin : ∀ h' L', Heap.SameBut a s.heap h' → SetM w h' a L' → L'.Perm L1 → R (some true) { s with heap := h' }) :
    wpAny (model P w) A (do
        storeSet a es1 t1
        if (!dummy && t1.tooFull) = true then do
            g (relayAll t1 es1 (SetTable.grown es1.size)).2.2
            storeSet a (relayAll t1 es1 (SetTable.grown es1.size)).1 (relayAll t1 es1 (SetTable.grown es1.size)).2.1
            pure (some true)
          else pure (some true)) R E s := by
  refine wpAny_bind (wpAny_storeSet_of ho hd ?_ (fits_of_scanBound T.small))
  have o1 := store_at (es' := es1) (t' := t1) ho hd
  have b1 := Heap.SameBut.update s.heap a (Obj.putSet es1 t1)
  split
  · have p1 := relayAll_perm t1 es1 (SetTable.grown es1.size)
    have p2 := relayAll_fits t1 es1 (SetTable.grown es1.size)
    have p3 := relayAll_ris t1 es1 (SetTable.grown es1.size)
    have p4 := relayAll_led t1 es1 (SetTable.grown es1.size)
    generalize relayAll t1 es1 (SetTable.grown es1.size) = W at p1 p2 p3 p4 ⊢
    obtain ⟨es2, t2, gave⟩ := W
    dsimp only at p1 p2 p3 p4 ⊢
    have T2 := T.perm p1 p2 p3 p4
    refine wpAny_bind (hg _ _ _ (wpAny_bind (wpAny_storeSet_of o1 rfl ?_ (fits_of_scanBound T2.small))))
    have o2 := store_at (es' := es2) (t' := t2) o1 rfl
    refine wpAny_pure (fin _ (ks es2) (b1.trans (Heap.SameBut.update _ a _)) ⟨_, es2, _, t2, o2, hex, rfl, T2⟩ ?_)
    rw [← T.keys]
    exact p1.map _
  · exact wpAny_pure (fin _ L1 b1 ⟨_, es1, _, t1, o1, hex, rfl, T⟩ (List.Perm.refl _))
theorem add_hashed {k : Key} {x : Value} {Q : Bool → Shared → Prop} (hk : keyIs k x = true) (R : SetM w s.heap a L) (room : L.length + 1 < scanBound)
    (fin : ∀ b h' L', Heap.SameBut a s.heap h' → SetM w h' a L' → (k ∈ L → L' = L) → (k ∉ L → L'.Perm (k :: L)) → Q b { s with heap := h' }) :
    wpAny (model P w) A (setAddHashed a x (keyH w k)) Q E s := by
  obtain ⟨o, es, ep, t, ho, hex, hd, T⟩ := R
  have hel : ElemsOf (mixKind P w) es.toList := T.elems
  have hkm : (mixKind P w).is k x = true := hk
  show wpAny (model P w) A (setAddHashed a x ((mixKind P w).hash k)) Q E s
  unfold setAddHashed setAddHashedIn
  refine wpAny_holding (wpAny_bind (wpAny_setState_of ho hd T.fits ?_))
  dsimp only
  rw [byScan_of (scan_of hk) T.small hel, if_pos rfl]
  unfold setAddByScan
  refine wpAny_bind (wpAny_bind (wpAny_rule (wpAny_bind (wpAny_setScan_of hkm ho hd T.fits hel ?_))))
  cases hfi : List.findIdx? (fun e => (mixKind P w).is k e.2) es.toList with
  | some j =>
    obtain ⟨hj, pj, _⟩ := List.findIdx?_eq_some_iff_getElem.mp hfi
    have hin : k ∈ L := (T.mem k).2 ⟨es.toList[j], List.getElem_mem hj, pj⟩
    dsimp only
    exact wpAny_pure (wpAny_pure (fin _ s.heap L (Heap.SameBut.refl a s.heap) ⟨o, es, ep, t, ho, hex, hd, T⟩ (fun _ => rfl) fun z => absurd hin z))
  | none =>
    dsimp only
    have hout : k ∉ L := fun z => by
      obtain ⟨e, he, q⟩ := (T.mem k).1 z
      have c := List.findIdx?_eq_none_iff.mp hfi e he
      have q2 : (mixKind P w).is k e.2 = true := q
      rw [q2] at c
      cases c
    have gw : ∀ (b : Bool) {s1 : Shared} {Q1 : Unit → Shared → Prop}, Q1 () s1 → wpAny (model P w) A (match b with | true => rule "set.scan.the-table-gave-way" | false => pure ()) Q1 E s1 :=
      fun b s1 Q1 q => by cases b <;> first | exact wpAny_pure q | exact wpAny_rule q
    have p1 := layNew_perm t es ((mixKind P w).hash k) x
    have p2 := layNew_fits t es ((mixKind P w).hash k) x
    have p3 := layNew_ris t es ((mixKind P w).hash k) x T.rises
    have p4 := layNew_led t es ((mixKind P w).hash k) x
    generalize layNew t es ((mixKind P w).hash k) x = W at p1 p2 p3 p4 ⊢
    obtain ⟨es1, t1, dummy, gave⟩ := W
    dsimp only at p1 p2 p3 p4 ⊢
    rw [Array.toList_push] at p1
    have pc := p1.trans (List.perm_append_singleton _ _)
    have pk : (ks es1).Perm (k :: L) := by
      have z := pc.map fun e : Int × Value => kOf e.2
      rw [List.map_cons] at z
      have e1 : kOf x = k := kOf_eq hk
      rw [show kOf ((mixKind P w).hash k, x).2 = k from e1, show List.map (fun e : Int × Value => kOf e.2) es.toList = L from T.keys] at z
      exact z
    have T1 : ∀ t', t'.fits es1.size = true → Ris t'.place.toList → t'.led = t1.led → Tab w es1 t' (ks es1) := fun t' f r l => {
      fine := fun e he => by
        rcases List.mem_cons.mp (pc.mem_iff.mp he) with z | z
        · rw [z]
          exact ⟨by show keyIs (kOf x) x = true; rw [kOf_eq hk]; exact hk, by show keyH w k = keyH w (kOf x); rw [kOf_eq hk]⟩
        · exact T.fine e z
      keys := rfl
      nodup := pk.nodup_iff.mpr (List.nodup_cons.mpr ⟨hout, T.nodup⟩)
      small := by
        have z := pk.length_eq
        rw [List.length_map, Array.length_toList, List.length_cons] at z
        rw [z]
        exact room
      fits := f
      rises := r
      led := T.led.imp id fun z => by rw [l, p4]; exact z }
    have ends : ∀ h' L', Heap.SameBut a s.heap h' → SetM w h' a L' → L'.Perm (ks es1) → Q true { s with heap := h' } := fun h' L' sb r p =>
      fin true h' L' sb r (fun z => absurd z hout) fun _ => p.trans pk
    refine wpAny_bind (gw _ ?_)
    split
    · refine wpAny_bind ?_
      rw [hashByValue_scannable 8 (scan_of hk)]
      refine wpAny_pure ?_
      refine tail (L1 := ks es1) ?_ ho hex hd (T1 _ ?_ ?_ ?_) ?_
      · intro b s1 Q1 q; cases b <;> first | exact wpAny_pure q | exact wpAny_rule q
      · first | (split <;> first | exact p2 | exact SetTable.fits_plain_off p2) | exact p2
      · first | (split <;> exact p3) | exact p3
      · first | (split <;> rfl) | rfl
      · intro h' L' sb r p; dsimp only; exact wpAny_pure (ends h' L' sb r p)
    · refine wpAny_bind (wpAny_pure ?_)
      simp only [↓reduceIte]
      refine tail (L1 := ks es1) ?_ ho hex hd (T1 _ p2 p3 rfl) ?_
      · intro b s1 Q1 q; cases b <;> first | exact wpAny_pure q | exact wpAny_rule q
      · intro h' L' sb r p; dsimp only; exact wpAny_pure (ends h' L' sb r p)
/-! ### the loop over what the set is made of -/
theorem loop {I : Addr} {fp wr : List Addr} {G : Array GenState → Array GenState → Prop} {n : Nat} {Pv : Nat → Value → Prop} {St : Nat → Shared → Prop} {R : Result → Shared → Prop}
    (W : WalksS P w A.in1 I fp wr G n Pv St) (S : Addr) (far : S ∉ fp) (qs : List Key) (hn : n = qs.length) (few : qs.length + 1 < scanBound) (val : ∀ i v, Pv i v → ∃ k, qs[i]? = some k ∧ keyIs k v = true) :
    ∀ (m i : Nat) (s : Shared), n - i = m → i ≤ n → St i s → (∃ L, L.length ≤ i ∧ (∀ k, k ∈ L ↔ k ∈ qs.take i) ∧ SetM w s.heap S L) →
      (∀ s' L, Moved (S :: wr) G s s' → L.length ≤ n → (∀ k, k ∈ L ↔ k ∈ qs) → SetM w s'.heap S L → R (.ok (.ret .none)) s') →
      codeAny (model P w) A (.builtin "set.update.loop" ⟨[.ref S, .ref I], []⟩) R s := by
  have farW : S ∉ wr := fun h => far (W.sub _ h)
  have more : ∀ b ∈ wr, b ∈ S :: wr := fun b hb => List.mem_cons_of_mem _ hb
  intro m
  induction m with
  | zero =>
    intro i s hm hi hst ⟨L, hL, hk, hS⟩ fin
    obtain rfl : i = n := by omega
    refine codeAny_builtin F.entry_set_update_loop ?_
    rw [Around.under_plainId F.plain_set_update_loop _]
    show wpAny _ A.in1 (pyNext (.ref I) >>= _) _ _ s
    refine wpAny_bind (W.done s _ _ hst fun s' mv => ?_)
    rw [List.take_of_length_le (show qs.length ≤ i by omega)] at hk
    show wpAny _ A.in1 (ret Value.none) _ _ s'
    exact wpAny_pure (fin s' L (mv.mono more) hL hk (hS.stay fun o e => mv.heap S o farW e))
  | succ m ih =>
    intro i s hm hi hst ⟨L, hL, hk, hS⟩ fin
    have lt : i < n := by omega
    refine codeAny_builtin F.entry_set_update_loop ?_
    rw [Around.under_plainId F.plain_set_update_loop _]
    show wpAny _ A.in1 (pyNext (.ref I) >>= _) _ _ s
    refine wpAny_bind (W.item i s _ _ lt hst fun v s' hP hst' mv => ?_)
    obtain ⟨k, hq, hv⟩ := val i v hP
    have hS1 : SetM w s'.heap S L := hS.stay fun o e => mv.heap S o farW e
    show wpAny _ A.in1 (holding [v] (setAdd S v) >>= _) _ _ s'
    refine wpAny_bind (wpAny_holding ?_)
    unfold setAdd
    refine wpAny_holding (wpAny_bind ((mixKind P w).pyHash (k := k) hv ?_))
    refine add_hashed (s := { s' with toks := s'.toks + 1 }) hv hS1 (by omega) fun b h' L' sb hS2 same new => ?_
    have hL' : L'.length ≤ i + 1 := by
      by_cases z : k ∈ L
      · rw [same z]; omega
      · rw [(new z).length_eq, List.length_cons]; omega
    have hk' : ∀ j, j ∈ L' ↔ j ∈ qs.take (i + 1) := fun j => by
      rw [List.take_add_one, hq, List.mem_append, ← hk j]
      by_cases z : k ∈ L
      · rw [same z]
        exact ⟨.inl, fun y => y.elim id fun y => by
          have e : j = k := by simpa using y
          rw [e]
          exact z⟩
      · rw [(new z).mem_iff, List.mem_cons]
        exact ⟨fun y => y.elim (fun y => .inr (by simp [y])) .inl, fun y => y.elim .inr fun y => .inl (by simpa using y)⟩
    refine wpAny_pure ⟨plainId_quiet F.plain_set_update_loop _, ih (i + 1) _ (by omega) lt (W.frame _ s' _ _ hst' (Nat.le_succ _) fun b hb o e => ?_) ⟨L', hL', hk', hS2⟩ fun s2 L2 mv2 hl2 hk2 hS3 => ?_⟩
    · rw [sb.2 b (fun z : b = S => far (by rw [← z]; exact hb))]
      exact e
    · refine fin s2 L2 (Moved.trans W.gtrans ((mv.mono more).then_heap (Nat.le_succ _) fun b o hb e => ?_) mv2) hl2 hk2 hS3
      rw [sb.2 b (fun z : b = S => hb (by rw [z]; exact List.mem_cons_self))]
      exact e
theorem fresh_at {h : Heap} (ho : h.get? a = some { cls := .type "set", dict := none, data := .set #[] 0 (.fresh 0 0 (!w.params.followText "set-order")) }) : SetM w h a [] := by
  refine ⟨_, #[], 0, _, ho, ⟨rfl, rfl, rfl⟩, rfl, ⟨fun e he => by simp at he, rfl, List.nodup_nil, by decide, by rfl, List.Pairwise.nil, ?_⟩⟩
  show _ ∨ (!w.params.followText "set-order") = true
  cases w.params.followText "set-order"
  · exact .inr rfl
  · exact .inl rfl
/-! ### set(list) -/
abbrev newSet (w : World) : Obj := { cls := .type "set", dict := none, data := .set #[] 0 (.fresh 0 0 (!w.params.followText "set-order")) }
set_option maxRecDepth 100000 in
set_option maxHeartbeats 3200000 in
theorem call_set {l : Addr} {items : Array Value} {qs : List Key} {Q : Value → Shared → Prop} (calm : A.handled = none) (hl : s.heap.IsList l items) (len : items.size = qs.length)
    (val : ∀ (i : Nat) (v : Value), items[i]? = some v → ∃ k, qs[i]? = some k ∧ keyIs k v = true) (few : qs.length + 1 < scanBound)
    (fin : ∀ (h' : Heap) (tk : Nat) (L : List Key), SetM w h' s.heap.objs.size L → (∀ k, k ∈ L ↔ k ∈ qs) → L.length ≤ qs.length → (∀ b o, s.heap.get? b = some o → h'.get? b = some o) → Q (.ref s.heap.objs.size) { s with heap := h', toks := tk }) :
    wpAny (model P w) A (call (.type "set") [.ref l]) Q E s := by
  obtain ⟨c, tl, mro⟩ := F.called_set.mro
  have made := F.called_set.made
  have sub := F.called_set.sub
  refine wpAny_call (codeAny_of_tree ?_)
  show wpAny _ _ (callAny (.type "set") _) _ _ _
  refine wpAny_pure ⟨Code.quiet_builtin _ (by decide +kernel), codeAny_builtin F.entry_type_call ?_⟩
  rw [Around.under_plain (weight_type_call_type "set" [.ref l] []) rfl]
  have f1 := F.called_set.notType
  have f2 := F.called_set.canCreate
  have f3 := F.typeCall_set_1 (.ref l)
  repeat (any_goals (first | assumption | wp_step))
  refine codeAny_mono (code_set_led1 (.ref l) (E := E) (Q₁ := fun ob s1 => ob = .ref s.heap.objs.size ∧ s1 = { s with heap := s.heap.push (newSet w) }) ⟨rfl, rfl⟩) fun r s1 hr => ?_
  cases r with
  | error e => exact hr
  | ok fl =>
    cases fl with
    | ret ob =>
      obtain ⟨rfl, rfl⟩ := hr
      have at1 : (s.heap.push (newSet w)).get? s.heap.objs.size = some (newSet w) := Heap.get?_push_size _ rfl
      have ty1 : Shared.TypeIs { s with heap := s.heap.push (newSet w) } (.ref s.heap.objs.size) "set" := ⟨_, at1, rfl⟩
      have g1 := F.called_set.init.lookup
      have g2 := F.called_set.init.bind (.ref s.heap.objs.size)
      repeat (any_goals (first | assumption | wp_step))
      refine codeAny_mono (codeAny_call_builtin (R := wants (fun r s2 => r = .none ∧ ∃ h' tk L, s2 = { s with heap := h', toks := tk } ∧ SetM w h' s.heap.objs.size L ∧ (∀ k, k ∈ L ↔ k ∈ qs) ∧ L.length ≤ qs.length ∧
          (∀ b o, s.heap.get? b = some o → h'.get? b = some o)) E) F.called_set.init.plain F.entry_set_init (check_set_init_1 ty1 ?_)) fun r2 s2 hr2 => ?_
      · obtain ⟨ol, hol, hcl, nl, hdl⟩ := hl
        obtain ⟨k1, k2, k3, k4⟩ := ol
        simp only at hcl hdl
        subst hcl; subst hdl
        have atl : (s.heap.push (newSet w)).get? l = some { cls := .type "list", dict := k2, data := .seq items nl, slots := k4 } := Heap.get?_push_of_some _ hol
        have s1 := F.sub_list_set
        have s2 := F.sub_list_frozenset
        have s3 : (Value.type "list" == Value.type "dict") = false := by decide
        have il : (s.heap.push (newSet w)).IsList l items := ⟨_, atl, rfl, nl, rfl⟩
        unfold Builtin.«set.__init__» noKeywords Builtin.Frozenset.updateFrom
        generalize ePI : pyIter = PI
        wp_walk
        subst ePI
        refine wpAny_pyIter_list il ?_
        refine wpAny_bind (wpAny_runValue ?_)
        have ltl : l < s.heap.objs.size := Heap.lt_size hol
        have calm3 : A.in1.in1.in1.handled = none := by simp [calm]
        have sz : (s.heap.push (newSet w)).objs.size = s.heap.objs.size + 1 := Heap.size_push ..
        have neI : l ≠ (s.heap.push (newSet w)).objs.size := Nat.ne_of_lt (by rw [sz]; exact Nat.lt_succ_of_lt ltl)
        have far : s.heap.objs.size ∉ [(s.heap.push (newSet w)).objs.size, l] := by
          intro z
          rcases List.mem_cons.mp z with z | z
          · exact Nat.ne_of_lt (by rw [sz]; exact Nat.lt_succ_self _) z
          · exact Nat.ne_of_gt ltl (List.mem_singleton.mp z)
        refine loop (qs := qs) ((Walks.list calm3 _ l neI items).toS) s.heap.objs.size far len few val (items.size - 0) 0 _ (by omega) (Nat.zero_le _)
          ⟨⟨_, Heap.get?_push_size _ rfl, rfl, rfl⟩, (il.push _)⟩ ⟨[], Nat.le_refl 0, fun k => by simp, fresh_at (Heap.get?_push_of_some _ at1)⟩ fun s' L mv lL kL hS => ?_
        obtain ⟨h', g', d', tk', os'⟩ := s'
        have eg : g' = s.gens := mv.gens
        have ed : d' = s.drawn := mv.drawn
        have eo : os' = s.os := mv.os
        subst eg; subst ed; subst eo
        show wpAny _ _ _ _ _ _
        refine wpAny_pure ?_
        show wpAny _ _ (ret Value.none) _ _ _
        refine wpAny_pure ⟨rfl, h', tk', L, rfl, hS, kL, by rw [← len]; exact lL, fun b o e => ?_⟩
        have lb : b < s.heap.objs.size := Heap.lt_size e
        refine mv.heap b o (fun z => ?_) (Heap.get?_push_of_some _ (Heap.get?_push_of_some _ e))
        rcases List.mem_cons.mp z with z | z
        · exact Nat.ne_of_lt lb z
        · exact Nat.ne_of_lt (Nat.lt_trans lb (by rw [sz]; exact Nat.lt_succ_self _)) (List.mem_singleton.mp z)
      · cases r2 with
        | error e => exact hr2
        | ok fl2 =>
          cases fl2 with
          | ret r =>
            obtain ⟨rfl, h', tk, L, rfl, hS, kL, lL, kp⟩ := hr2
            repeat (any_goals (first | assumption | wp_step))
            exact fin _ _ _ hS kL lL kp
          | _ => exact hr2.elim
    | _ => exact hr.elim
/-! ### sorted(set) -/
theorem ints_in : ∀ (vs : List Value), (∀ v ∈ vs, ∃ i t, v = Value.int i t) → ∃ ns, IntsAre vs ns ∧ ns.map Sum.inl = vs.map kOf
  | [], _ => ⟨[], .nil, rfl⟩
  | v :: vs, h => by
    obtain ⟨i, t, rfl⟩ := h v (List.mem_cons_self ..)
    obtain ⟨ns, h1, h2⟩ := ints_in vs fun u hu => h u (List.mem_cons_of_mem _ hu)
    exact ⟨i :: ns, .cons i t h1, by rw [List.map_cons, h2]; rfl⟩
theorem strs_in : ∀ (vs : List Value), (∀ v ∈ vs, ∃ x t, v = Value.str x t) → ∃ xs, StrsAre vs xs ∧ xs.map Sum.inr = vs.map kOf
  | [], _ => ⟨[], .nil, rfl⟩
  | v :: vs, h => by
    obtain ⟨x, t, rfl⟩ := h v (List.mem_cons_self ..)
    obtain ⟨xs, h1, h2⟩ := strs_in vs fun u hu => h u (List.mem_cons_of_mem _ hu)
    exact ⟨x :: xs, .cons x t h1, by rw [List.map_cons, h2]; rfl⟩
theorem sorted_of {Q : Value → Shared → Prop} (R : SetM w s.heap a L) (calm : A.handled = none) (few : L.length ≤ sizeLine)
    (kind : (∃ ns : List Int, L = ns.map Sum.inl) ∨ (∃ xs : List Str, L = xs.map Sum.inr))
    (fin : ∀ s' p (out : Array Value) (c : Nat), (∀ b o, s.heap.get? b = some o → s'.heap.get? b = some o) → s'.gens = s.gens → s'.os = s.os → s.heap.objs.size ≤ p → s'.heap.get? p = some (seqObj "list" out c) →
      (∃ ns ns' : List Int, L = ns.map Sum.inl ∧ IntsAre out.toList ns' ∧ ns'.Perm ns ∧ ns'.Pairwise (· ≤ ·)) ∨ (∃ xs ys : List Str, L = xs.map Sum.inr ∧ StrsAre out.toList ys ∧ ys.Perm xs ∧ sortedS ys = true) → Q (.ref p) s') :
    wpAny (model P w) A (call (.builtin "sorted") [.ref a]) Q E s := by
  obtain ⟨o, es, ep, t, ho, hex, hd, T⟩ := R
  refine Calls.call_function_entry kind_sorted plain_sorted entry_sorted (args_sorted1 _) ?_
  unfold Builtin.«sorted»
  refine wpAny_bind (m := checkCount "sorted" 1 1 _) (wpAny_pure ?_)
  refine wpAny_bind (collect_set (A := A.in1) calm ⟨o, ho, hex.1, hd⟩ T.fits T.small T.rises T.led fun s1 vs kp hz g1 o1 pm => ?_)
  have lv : vs.length = L.length := by rw [pm.length_eq, List.length_map, Array.length_toList]; exact T.size
  have pk : (vs.map kOf).Perm L := by
    have z := pm.map kOf
    rw [List.map_map] at z
    rw [← T.keys]
    exact z
  have fit : ∀ v ∈ vs, keyIs (kOf v) v = true := fun v hv => by
    obtain ⟨e, he, q⟩ := List.mem_map.mp (pm.mem_iff.mp hv)
    rw [← q]
    exact (T.fine e he).1
  refine wpAny_bind (wpAny_newList ?_ (by rw [lv]; exact few))
  have atp : (s1.heap.push (seqObj "list" vs.toArray 0)).get? s1.heap.objs.size = some (seqObj "list" vs.toArray 0) := Heap.get?_push_size _ rfl
  have old : ∀ (out : Array Value) b u, s.heap.get? b = some u → (sortedHeap (s1.heap.push (seqObj "list" vs.toArray 0)) s1.heap.objs.size vs out).get? b = some u := fun out b u e => by
    have q := kp b u e
    have lt := Heap.lt_size q
    rw [sortedHeap_old (Nat.ne_of_lt lt) (by rw [size_push']; exact Nat.lt_succ_of_lt lt)]
    exact Heap.get?_push_of_some _ q
  rcases kind with ⟨ns, eL⟩ | ⟨xs, eL⟩
  · obtain ⟨ms, hI, em⟩ := ints_in vs fun v hv => by
      have hk : kOf v ∈ L := pk.mem_iff.mp (List.mem_map_of_mem hv)
      rw [eL] at hk
      obtain ⟨i, _, e⟩ := List.mem_map.mp hk
      have f := fit v hv
      rw [← e] at f
      rcases keyIs_shape f with ⟨j, t, _, e2⟩ | ⟨x, t, e1, _⟩
      · exact ⟨j, t, e2⟩
      · cases e1
    refine wpAny_bind (wpAny_holding (wpAny_call_entry slot_list_sort ⟨_, atp, rfl⟩ entry_list_sort (list_sort_treeAny atp hI (by rw [lv]; exact few) fun out ns' a1 a2 a3 => ⟨_, rfl, ?_⟩) (args_list_sort _)))
    obtain ⟨c, hc⟩ := sortedHeap_at (vs := vs) (out := out) atp
    have pp : ms.Perm ns := by
      have z := pk
      rw [← em, eL] at z
      have y := z.map (fun k : Key => match k with | .inl i => i | .inr _ => 0)
      rw [List.map_map, List.map_map] at y
      simpa [Function.comp_def] using y
    exact wpAny_pure ⟨_, rfl, fin _ s1.heap.objs.size out c (old out) g1 o1 hz hc (.inl ⟨ns, ns', eL, a1, a2.trans pp, a3⟩)⟩
  · obtain ⟨ms, hI, em⟩ := strs_in vs fun v hv => by
      have hk : kOf v ∈ L := pk.mem_iff.mp (List.mem_map_of_mem hv)
      rw [eL] at hk
      obtain ⟨i, _, e⟩ := List.mem_map.mp hk
      have f := fit v hv
      rw [← e] at f
      rcases keyIs_shape f with ⟨j, t, e1, _⟩ | ⟨x, t, _, e2⟩
      · cases e1
      · exact ⟨x, t, e2⟩
    refine wpAny_bind (wpAny_holding (wpAny_call_entry slot_list_sort ⟨_, atp, rfl⟩ entry_list_sort (list_sort_treeKAny strKind_oneLt atp hI.keysOf (fun v1 v2 rest e => keyKind_strs (by rw [← e]; exact hI)) (by rw [lv]; exact few) fun st hp hs => ?_) (args_list_sort _)))
    obtain ⟨ys, a1, a2, a3⟩ := sorted_out_str hI hp hs
    refine ⟨_, rfl, ?_⟩
    obtain ⟨c, hc⟩ := sortedHeap_at (vs := vs) (out := (arrOf st).map (·.2)) atp
    have pp : ms.Perm xs := by
      have z := pk
      rw [← em, eL] at z
      have y := z.map (fun k : Key => match k with | .inr i => i | .inl _ => Str.empty)
      rw [List.map_map, List.map_map] at y
      simpa [Function.comp_def] using y
    exact wpAny_pure ⟨_, rfl, fin _ s1.heap.objs.size _ c (old _) g1 o1 hz hc (.inr ⟨xs, ys, eL, a1, a2.trans pp, a3⟩)⟩
end
/-! ### the rules -/
def SetMO (w : World) (a : Addr) (L : List Key) : HO := .ext fun h => SetM w h a L
theorem setM_new {w : World} {P : Program} {H : Hp} {h : Heap} {a : Addr} {L : List Key} (R : SetM w h a L) : ObjOk P w H h a (SetMO w a L) := by
  have ⟨o, _, _, _, ho, _⟩ := R
  exact ⟨R, ⟨o, ho⟩, fun h1 h2 p k => SetM.stay p k⟩
section
variable {X : Cx}
/-- set(list of whole numbers and texts) -/
def rSetL (K : PySem.W.Frag) (w : World) : List V → Hp → VK → Prop := fun vs H Q => ∃ (l : Addr) (qs : List Key), vs = [V.ref l] ∧ SqL K H l (qs.map kV) ∧ qs.length ≤ 1000 ∧
  ∀ (p : Addr) (L : List Key), L.Nodup → (∀ k, k ∈ L ↔ k ∈ qs) → L.length ≤ qs.length → H p = none → Q (.ref p) (upd H p (SetMO w p L))
theorem keyIs_of {k : Key} {u : Value} (r : RelV (kV k) u) : keyIs k u = true := by
  cases k with
  | inl i =>
    obtain ⟨t, rfl⟩ := r
    exact keyIs_int i t
  | inr x =>
    obtain ⟨t, rfl⟩ := r
    exact keyIs_str x t
theorem vals_key : ∀ {qs : List Key} {us : List Value}, Vals (qs.map kV) us → ∀ (i : Nat) (v : Value), us[i]? = some v → ∃ k, qs[i]? = some k ∧ keyIs k v = true
  | [], _, .nil, _, _, h => by simp at h
  | k :: qs, _, .cons r rs, 0, v, h => by
    cases h
    exact ⟨k, rfl, keyIs_of r⟩
  | k :: qs, _, .cons r rs, i + 1, v, h => vals_key rs i v h
theorem cr_setL (hc : X.calm = true) : CallR X (.type "set") (rSetL X.K X.w) := by
  intro pins s σ H vs us Q I r h
  obtain ⟨l, qs, rfl, hl, few, q⟩ := h
  rw [Vals.ref1 r]
  obtain ⟨its, rv, pl, hz⟩ := I.list hl
  have lens : its.toArray.size = qs.length := by
    have z := rv.length
    rw [List.length_map] at z
    rw [List.size_toArray, z]
  refine call_set (P := X.prog) (w := X.w) (qs := qs) (I.ok.hd hc) pl.isList lens (fun i v hv => vals_key rv i v (by rw [← List.getElem?_toArray]; exact hv)) (by unfold scanBound; omega) fun h' tk L R kL lL kp => ?_
  exact ⟨.ref s.heap.objs.size, upd H s.heap.objs.size (SetMO X.w s.heap.objs.size L), I.laid (t' := tk) kp (Nat.le_refl _) (setM_new R), rfl, q _ L (let ⟨_, _, _, _, _, _, _, T⟩ := R; T.nodup) kL lL (I.hok.fresh (Nat.le_refl _))⟩
/-- sorted(set), of whole numbers, of texts -/
def rSortM (w : World) : List V → Hp → VK → Prop := fun vs H Q => ∃ (a : Addr) (L : List Key), vs = [V.ref a] ∧ H a = some (SetMO w a L) ∧ L.length ≤ 1000 ∧
  ((∃ ns : List Int, L = ns.map Sum.inl) ∨ (∃ xs : List Str, L = xs.map Sum.inr)) ∧
  (∀ (ns ns' : List Int) (p : Addr), L = ns.map Sum.inl → ns'.Perm ns → ns'.Pairwise (· ≤ ·) → H p = none → Q (.ref p) (upd H p (.lst (ns'.map V.int)))) ∧
  (∀ (xs ys : List Str) (p : Addr), L = xs.map Sum.inr → ys.Perm xs → sortedS ys = true → H p = none → Q (.ref p) (upd H p (.lst (ys.map V.str))))
theorem cr_sortM (hc : X.calm = true) : CallR X (.builtin "sorted") (rSortM X.w) := by
  intro pins s σ H vs us Q I r h
  obtain ⟨a, L, rfl, ha, few, kind, q1, q2⟩ := h
  have R : SetM X.w s.heap a L := (I.hok a _ ha).1
  rw [Vals.ref1 r]
  refine sorted_of R (I.ok.hd hc) (Nat.le_of_lt (small1000 few)) kind fun s' p out c k g o hp hg hh => ?_
  have hn : H p = none := I.hok.fresh hp
  have e : s' = { s with heap := s'.heap, gens := s'.gens, drawn := s'.drawn, toks := s'.toks } := by
    cases s'
    cases s
    cases o
    rfl
  rcases hh with ⟨ns, ns', eL, hi, pm, hs⟩ | ⟨xs, ys, eL, hi, pm, hs⟩
  · have lens : (ns'.map V.int).length ≤ sizeLine := by
      rw [List.length_map, pm.length_eq, ← List.length_map (f := (Sum.inl : Int → Key)), ← eL]
      exact Nat.le_of_lt (small1000 few)
    have J : Inv X pins σ (upd H p (.lst (ns'.map V.int))) { s with heap := s'.heap, gens := s'.gens, drawn := s'.drawn, toks := s'.toks } :=
      I.call (ch := []) (Un.laid k hp hn) (I.hok.laid k hp ⟨lens, out.toList, c, vals_of_ints hi, hg⟩) (by rw [g]; exact I.bare) (fun _ z => nomatch z)
    rw [e]
    exact ⟨.ref p, _, J, rfl, q1 ns ns' p eL pm hs hn⟩
  · have lens : (ys.map V.str).length ≤ sizeLine := by
      rw [List.length_map, pm.length_eq, ← List.length_map (f := (Sum.inr : Str → Key)), ← eL]
      exact Nat.le_of_lt (small1000 few)
    have J : Inv X pins σ (upd H p (.lst (ys.map V.str))) { s with heap := s'.heap, gens := s'.gens, drawn := s'.drawn, toks := s'.toks } :=
      I.call (ch := []) (Un.laid k hp hn) (I.hok.laid k hp ⟨lens, out.toList, c, vals_of_strs hi, hg⟩) (by rw [g]; exact I.bare) (fun _ z => nomatch z)
    rw [e]
    exact ⟨.ref p, _, J, rfl, q2 xs ys p eL pm hs hn⟩
end
end SM
set_option Elab.async false
set_option linter.all false
set_option maxRecDepth 100000
set_option maxHeartbeats 4000000
/-! Own: enumerate over a tuple. -/
namespace ET
open PySem PySem.Spec PyProof.Rows L2
set_option maxHeartbeats 1000000 in
theorem meets_enum {v : Value} {o : Obj} {G : Heap → Prop} (B : Begins v o G) :
    Meets (Builtin.«enumerate.__new__» ⟨[.type "enumerate", v], []⟩) (fun _ R s => G s.heap ∧
      R (.ok (.ret (.ref (s.heap.push o).objs.size))) { s with heap := (s.heap.push o).push { cls := .type "enumerate", data := .fields #[.none, .bool false, .ref s.heap.objs.size, rawInt 0, .none, .none] } }) :=
  .of_wp fun prog w A R s h => by
    obtain ⟨h0, g, d, tk, os⟩ := s
    obtain ⟨hG, h⟩ := h
    have sub := sub_enumerate
    have begin_ : ∀ {A' : Around} {E : Value → Shared → Prop} {Q : Value → Shared → Prop}, Q (.ref h0.objs.size) ⟨h0.push o, g, d, tk, os⟩ → wpAny (model prog w) A' (pyIter v) Q E ⟨h0, g, d, tk, os⟩ :=
      fun q => B.iter prog w _ _ ⟨h0, g, d, tk, os⟩ _ hG q
    wp_walk using begin_
    refine wpAny_stack_any fun st => wpAny_pure ?_
    split
    · rename_i c _ _ _ _ _
      cases (c == Value.type "enumerate") <;> (wp_walk using begin_; exact ⟨_, rfl, h⟩)
    · wp_walk using begin_
      exact ⟨_, rfl, h⟩
section
variable {prog : Program} {w : World} {A : Around} {E : Value → Shared → Prop} {s : Shared}
theorem call_enum {v : Value} {o : Obj} {G : Heap → Prop} {Q : Value → Shared → Prop} (B : Begins v o G) (hG : G s.heap)
    (fin : ∀ h', IsEnum h' (s.heap.objs.size + 1) s.heap.objs.size 0 .none → h'.get? s.heap.objs.size = some o → (∀ b u, s.heap.get? b = some u → h'.get? b = some u) → Q (.ref (s.heap.objs.size + 1)) { s with heap := h' }) :
    wpAny (model prog w) A (call (.type "enumerate") [v]) Q E s := by
  refine callType_new F.called_enumerate (by decide) (F.typeCall_enumerate_1 _) (F.newCall_enumerate_1 _) (fun ob => F.args_object_init_2 ob _) F.entry_enumerate_new (meets_enum B) ⟨hG, ?_⟩
  have z : (s.heap.push o).objs.size = s.heap.objs.size + 1 := Heap.size_push ..
  show _ ∧ _
  rw [z]
  have he : IsEnum ((s.heap.push o).push { cls := .type "enumerate", data := .fields #[.none, .bool false, .ref s.heap.objs.size, rawInt 0, .none, .none] }) (s.heap.objs.size + 1) s.heap.objs.size 0 .none := by
    have y := Heap.get?_push_size (s.heap.push o) (o := { cls := .type "enumerate", data := .fields #[.none, .bool false, .ref s.heap.objs.size, rawInt 0, .none, .none] }) rfl
    rw [z] at y
    exact y
  exact ⟨⟨_, he, rfl⟩, fin _ he (Heap.get?_push_of_some _ (Heap.get?_push_size _ B.free)) fun b u x => Heap.get?_push_of_some _ (Heap.get?_push_of_some _ x)⟩
end
/-- the tuple at a as it stands at each turn, each item in a new pair -/
def ItT (K : PySem.W.Frag) (a : Addr) : It :=
  ⟨fun i H => ∃ (xs : List V) (x : V), SqT K H a xs ∧ xs[i]? = some x, fun i H v H' => ∃ T x, v = .ref T ∧ H T = none ∧ H' = upd H T (.tup [.int (i : Nat), x]) ∧ ∀ xs, SqT K H a xs → xs[i]? = some x, fun i H => ∃ xs : List V, SqT K H a xs ∧ xs.length = i⟩
theorem turn {P : Program} {w : World} {K : PySem.W.Frag} {elts : List Expr} {kk : Nat} {tpos : Pos} (a e it : Addr) :
    Turn P w K (.Tuple elts kk tpos) (ItT K a) [e, it] e (fun i h => (∃ old, IsEnum h e it ((i : Nat) : Int) old) ∧ h.IsTupleIter it a i ∧ e ≠ it ∧ e ≠ a ∧ it ≠ a) where
  mem := by simp
  obj := fun i h st b hb => by
    obtain ⟨⟨old, he⟩, ⟨o, ho, hc, hd⟩, _⟩ := st
    rcases List.mem_cons.mp hb with z | z
    · rw [z]; exact ⟨_, he, fun v q => nomatch q⟩
    · rw [List.mem_singleton.mp z]; exact ⟨o, ho, fun v q => by rw [hd] at q; cases q⟩
  keep := fun i h h' st k => let ⟨⟨old, he⟩, hi, hne⟩ := st; ⟨⟨old, k e (by simp) _ he⟩, hi.at fun o q => k it (by simp) o q, hne⟩
  item := by
    intro X hP hw hK hc i pins s σ H E I hf st hg
    subst hP hw hK
    obtain ⟨⟨old, he⟩, hit, hne, hea, hia⟩ := st
    obtain ⟨xs, x, hq, hx⟩ := hg
    obtain ⟨its, rv, p, hz⟩ := I.tuple hq
    obtain ⟨u, hu, ru⟩ := rv.get hx
    have le : e < s.heap.objs.size := Heap.lt_size he
    have li : it < s.heap.objs.size := by obtain ⟨_, q, _⟩ := hit; exact Heap.lt_size q
    have lt : i < its.toArray.size := by
      rw [List.size_toArray]
      exact (List.getElem?_eq_some_iff.mp hu).1
    have D := Draws.tuple (prog := X.prog) (w := X.w) (A := X.A.in1) (by simp [I.ok.hd hc]) it a hia.symm its.toArray
    refine wpAny_pyNext_enum_itemD D he ⟨hit, p⟩ lt hne (fun z => ?_) fun y h' tk hP ho hs hT hsz hk => ?_
    · rcases List.mem_cons.mp z with z | z
      · exact hne z
      · exact hea (List.mem_singleton.mp z)
    have ey : y = u := by
      have z : its.toArray[i]? = some y := hP
      rw [List.getElem?_toArray, hu] at z
      exact (Option.some.inj z).symm
    subst ey
    refine ⟨_, rfl, wpAny_letOwnedTupleGo_enum (s := { s with heap := h', toks := tk + 1 }) ho fun h2 he2 sb => ?_⟩
    have hT2 : h2.get? s.heap.objs.size = some { cls := .type "tuple", data := .seq #[.int i tk, y] } := (sb.2 _ (Nat.ne_of_gt le)).trans hT
    have new : ObjOk X.prog X.w (upd H s.heap.objs.size (.tup [.int (i : Nat), x])) h2 s.heap.objs.size (.tup [.int (i : Nat), x]) :=
      ⟨by show 2 ≤ sizeLine; decide, [.int i tk, y], .cons ⟨_, rfl⟩ (.cons ru .nil), ⟨_, hT2, rfl, _, rfl⟩⟩
    have J : Inv X pins σ (upd H s.heap.objs.size (.tup [.int (i : Nat), x])) { s with heap := h2, toks := tk + 1 } :=
      I.turnedNew (ch := [e, it]) (fun b ob hb q => (sb.2 b (fun z => hb (by simp [z]))).trans (hk b ob (fun z => hb (by simp [z])) (fun z => hb (by simp [z])) q)) hf (Nat.le_refl _) new
    refine ⟨.ref s.heap.objs.size, _, J, rfl, ⟨_, x, rfl, I.hok.fresh (Nat.le_refl _), rfl, fun ys hy => by rw [I.tuple_inj hy hq]; exact hx⟩, ⟨⟨y, ?_⟩, hs.1.at fun o q => (sb.2 it (Ne.symm hne)).trans q, hne, hea, hia⟩, fun b hb => ?_⟩
    · rw [show ((i + 1 : Nat) : Int) = (i : Int) + 1 by omega]
      exact he2
    · have lb : b < s.heap.objs.size := by
        rcases List.mem_cons.mp hb with z | z
        · rw [z]; exact le
        · rw [List.mem_singleton.mp z]; exact li
      rw [upd_ne (Nat.ne_of_lt lb)]
      exact (hf b hb).1
  done := by
    intro X hP hw hK hc i pins s σ H E I hf st hg
    subst hP hw hK
    obtain ⟨⟨old, he⟩, hit, hne, hea, hia⟩ := st
    obtain ⟨xs, hq, hx⟩ := hg
    obtain ⟨its, rv, p, hz⟩ := I.tuple hq
    obtain ⟨f0, f1, f2, f3, f4, f5⟩ := hf it (by simp)
    have ei : i = its.toArray.size := by
      rw [List.size_toArray, ← rv.length]
      exact hx.symm
    subst ei
    have D := Draws.tuple (prog := X.prog) (w := X.w) (A := X.A.in1) (by simp [I.ok.hd hc]) it a hia.symm its.toArray
    exact wpAny_pyNext_enum_endD D he ⟨hit, p⟩ fun h' eb => ⟨rfl, I.turned (t' := s.toks) (fun b o hb q => eb b o hb q) f0 f1 f3 f4 f5⟩
  self := fun A i s Q E st h => let ⟨⟨_, he⟩, _⟩ := st; wpAny_pyIter_enum he h
def iEnumT (K : PySem.W.Frag) (ta : TA) : TI := fun σ H R => ta σ H fun vs H1 => ∃ a xs, vs = [.ref a] ∧ SqT K H1 a xs ∧ R (ItT K a) H1
theorem pi_enumT {X : Cx} {e : Expr} {ta : TA} {p pos tpos : Pos} {elts : List Expr} {kk : Nat} (hg : Gl X "enumerate") (hm : X.mg "enumerate" = none) (ha : PA X [e] ta) (hs : starEach [e] X.env = [(false, eval e X.env)] := by rfl) :
    PI X (.Tuple elts kk tpos) (.Call (.Name "enumerate" p) [e] [] pos) (iEnumT X.K ta) := by
  refine ⟨fun pins s σ H R I h => ?_⟩
  refine Call_ (ld_blt I hg hm boot_enumerate (PyProof.Rows.callWith_type1 (thn (ha.run pos pins s σ H _ I h) fun us s1 ⟨vs, H1, I1, r1, q1⟩ => ?_) hs rfl))
  obtain ⟨a, xs, ex, hq, q⟩ := q1
  subst ex
  cases r1 with
  | cons r rr =>
    cases rr
    cases r
    obtain ⟨its, rv, p1, hz⟩ := I1.tuple hq
    have la : a < s1.heap.objs.size := by obtain ⟨_, z, _⟩ := p1; exact Heap.lt_size z
    refine call_enum (begins_tuple a its.toArray) p1 fun h' he hit hk => wpAny_pyIter_enum he ?_
    have J : Inv X pins σ H1 { s1 with heap := h' } := I1.kept (t' := s1.toks) hk
    refine ⟨s1.heap.objs.size + 1, [s1.heap.objs.size + 1, s1.heap.objs.size], _, _, H1, rfl, J, turn a (s1.heap.objs.size + 1) s1.heap.objs.size, ⟨⟨.none, he⟩, ⟨_, hit, rfl, rfl⟩, Nat.succ_ne_self _, Nat.ne_of_gt (Nat.lt_succ_of_lt la), Nat.ne_of_gt la⟩, fun b hb => ?_, q⟩
    have lb : s1.heap.objs.size ≤ b := by
      rcases List.mem_cons.mp hb with z | z
      · rw [z]; exact Nat.le_add_right _ _
      · rw [List.mem_singleton.mp z]; exact Nat.le_refl _
    exact I1.fpOk lb (I1.hok.fresh lb)
theorem walk_enumT {K : PySem.W.Frag} {a : Addr} {xs : List V} : Walk (ItT K a) xs.length (fun H => SqT K H a xs) (YPair (fun i => some (.int (i : Nat))) (fun i => xs[i]?)) where
  goes := fun i H hi h => ⟨xs, xs[i], h, List.getElem?_eq_getElem hi⟩
  stops := fun H h => ⟨xs, h, rfl⟩
  yields := fun i H v H' hi h y => let ⟨T, x, e1, e2, e3, e4⟩ := y; ⟨T, _, x, e1, e2, e3, rfl, e4 xs h⟩
end ET
set_option Elab.async false
set_option linter.all false
set_option maxRecDepth 100000
set_option maxHeartbeats 4000000
namespace K10
open PySem PySem.Spec PyProof.Rows L2
/-! ### shapes as data -/
inductive KeyD where
  | par (i : Nat)
  | val (k : Key)
def KeyD.xs : KeyD → List V
  | .par i => [.str "param", .int i]
  | .val k => [.str "value", kV k]
structure EntD where
  op : Str
  table : Str
  key : Option KeyD
structure ShD where
  params : List Str
  ents : List EntD
/-! ### how they stand in the heap: as tuples, all through -/
def AllAt {α : Type} (R : V → α → Prop) (vs : List V) (as : List α) : Prop := vs.length = as.length ∧ ∀ (i : Nat) (v : V), vs[i]? = some v → ∃ a, as[i]? = some a ∧ R v a
def KeyAt (H : Hp) (v : V) (k : KeyD) : Prop := ∃ p, v = .ref p ∧ H p = some (.tup k.xs)
def EntAt (H : Hp) (v : V) (e : EntD) : Prop := ∃ p, v = .ref p ∧ ((e.key = none ∧ e.op = "a" ∧ H p = some (.tup [.str "a", .str e.table])) ∨ (∃ k kv, e.key = some k ∧ ¬ e.op = "a" ∧ H p = some (.tup [.str e.op, .str e.table, kv]) ∧ KeyAt H kv k))
def ShAt (H : Hp) (v : V) (s : ShD) : Prop := ∃ (p a1 a2 : Addr) (nm : V) (vs : List V), v = .ref p ∧ H p = some (.tup [nm, .ref a1, .ref a2]) ∧ H a1 = some (.tup (s.params.map V.str)) ∧ H a2 = some (.tup vs) ∧ AllAt (EntAt H) vs s.ents
def ShapesAt (H : Hp) (v : V) (ss : List ShD) : Prop := ∃ (p : Addr) (vs : List V), v = .ref p ∧ H p = some (.tup vs) ∧ AllAt (ShAt H) vs ss
/-- tuples stay -/
def Tk (H H' : Hp) : Prop := ∀ a xs, H a = some (.tup xs) → H' a = some (.tup xs)
theorem Tk.refl {H : Hp} : Tk H H := fun _ _ h => h
theorem Tk.trans {H H1 H2 : Hp} (h : Tk H H1) (h' : Tk H1 H2) : Tk H H2 := fun a xs e => h' a xs (h a xs e)
theorem Tk.of_same {H H' : Hp} (h : Same H H') : Tk H H' := fun a xs e => h a _ e
theorem Tk.upd {H H' : Hp} {p : Addr} {o : HO} (h : Tk H H') (hp : ∀ xs, H' p ≠ some (.tup xs)) : Tk H (L2.upd H' p o) := fun a xs e => by
  have e2 := h a xs e
  have ne : a ≠ p := fun z => hp xs (by rw [← z]; exact e2)
  rw [upd_ne ne]
  exact e2
theorem Tk.lst {H H' : Hp} {p : Addr} {o : HO} {ys : List V} (h : Tk H H') (hp : H' p = some (.lst ys)) : Tk H (L2.upd H' p o) := h.upd fun xs z => by rw [hp] at z; cases z
theorem Tk.new {H H' : Hp} {p : Addr} {o : HO} (h : Tk H H') (hp : H' p = none) : Tk H (L2.upd H' p o) := h.upd fun xs z => by rw [hp] at z; cases z
theorem AllAt.mono {α : Type} {R R' : V → α → Prop} {vs : List V} {as : List α} (h : AllAt R vs as) (m : ∀ v a, R v a → R' v a) : AllAt R' vs as :=
  ⟨h.1, fun i v e => let ⟨a, e2, r⟩ := h.2 i v e; ⟨a, e2, m v a r⟩⟩
theorem AllAt.nil {α : Type} {R : V → α → Prop} : AllAt R [] [] := ⟨rfl, fun i v e => by simp at e⟩
theorem AllAt.snoc {α : Type} {R : V → α → Prop} {vs : List V} {as : List α} {v : V} {a : α} (h : AllAt R vs as) (r : R v a) : AllAt R (vs ++ [v]) (as ++ [a]) := by
  refine ⟨by rw [List.length_append, List.length_append, h.1]; rfl, fun i x e => ?_⟩
  by_cases hi : i < vs.length
  · rw [List.getElem?_append_left hi] at e
    obtain ⟨b, e2, r2⟩ := h.2 i x e
    exact ⟨b, by rw [List.getElem?_append_left (by rw [← h.1]; exact hi)]; exact e2, r2⟩
  · have hi2 : vs.length ≤ i := Nat.le_of_not_lt hi
    rw [List.getElem?_append_right hi2] at e
    have z : i - vs.length = 0 := by
      by_cases y : i - vs.length = 0
      · exact y
      · rw [List.getElem?_eq_none (by simp; omega)] at e
        cases e
    rw [z] at e
    cases e
    refine ⟨a, ?_, r⟩
    rw [List.getElem?_append_right (by rw [← h.1]; exact hi2), ← h.1, z]
    rfl
theorem KeyAt.keep {H H' : Hp} {v : V} {k : KeyD} (h : KeyAt H v k) (t : Tk H H') : KeyAt H' v k := by
  obtain ⟨p, e, h⟩ := h
  exact ⟨p, e, t _ _ h⟩
theorem EntAt.keep {H H' : Hp} {v : V} {e : EntD} (h : EntAt H v e) (t : Tk H H') : EntAt H' v e := by
  obtain ⟨p, q, h | ⟨k, kv, h1, h2, h3, h4⟩⟩ := h
  · exact ⟨p, q, .inl ⟨h.1, h.2.1, t _ _ h.2.2⟩⟩
  · exact ⟨p, q, .inr ⟨k, kv, h1, h2, t _ _ h3, h4.keep t⟩⟩
theorem ShAt.keep {H H' : Hp} {v : V} {s : ShD} (h : ShAt H v s) (t : Tk H H') : ShAt H' v s := by
  obtain ⟨p, a1, a2, nm, vs, e, h1, h2, h3, h4⟩ := h
  exact ⟨p, a1, a2, nm, vs, e, t _ _ h1, t _ _ h2, t _ _ h3, h4.mono fun v a r => r.keep t⟩
theorem ShapesAt.keep {H H' : Hp} {v : V} {ss : List ShD} (h : ShapesAt H v ss) (t : Tk H H') : ShapesAt H' v ss := by
  obtain ⟨p, vs, e, h1, h2⟩ := h
  exact ⟨p, vs, e, t _ _ h1, h2.mono fun v a r => r.keep t⟩
/-! ### literals -/
def EntD.lit (e : EntD) : Option Key := match e.key with
  | some (.val k) => some k
  | _ => none
def ShD.lits (s : ShD) : List Key := s.ents.filterMap EntD.lit
def isText : Key → Bool
  | .inl _ => false
  | .inr _ => true
def ofKind (kd : Str) (k : Key) : Bool := isText k == decide (V.str kd = V.str "text")
/-- the literals of a kind, in their order in the shapes -/
def found (kd : Str) (ss : List ShD) : List Key := (ss.flatMap ShD.lits).filter (ofKind kd)
/-- the literals of a kind, rising, each once -/
def IsLit (kd : Str) (ss : List ShD) (xs : List V) : Prop := xs.length ≤ 18 ∧
  ((kd = "text" ∧ ∃ ys : List Str, xs = ys.map V.str ∧ sortedS ys = true ∧ ys.Nodup ∧ ∀ y, y ∈ ys ↔ Sum.inr y ∈ found kd ss) ∨
  (¬ kd = "text" ∧ ∃ ns : List Int, xs = ns.map V.int ∧ ns.Pairwise (· ≤ ·) ∧ ns.Nodup ∧ ∀ n, n ∈ ns ↔ Sum.inl n ∈ found kd ss))
/-- not too many -/
def Few (ss : List ShD) : Prop := ss.length ≤ 3 ∧ ∀ s ∈ ss, s.ents.length ≤ 6 ∧ s.params.length ≤ 3
end K10
set_option Elab.async false
set_option linter.all false
set_option maxRecDepth 100000
set_option maxHeartbeats 4000000
namespace K10
open PySem PySem.Spec PyProof.Rows L2
/-- two lists that rise strictly and have the same members are one -/
theorem uniq {α : Type} {lt : α → α → Prop} (as : ∀ a b, lt a b → lt b a → False) : ∀ {l m : List α}, l.Pairwise lt → m.Pairwise lt → (∀ x, x ∈ l ↔ x ∈ m) → l = m
  | [], [], _, _, _ => rfl
  | [], b :: m, _, _, h => absurd ((h b).2 (List.mem_cons_self ..)) (fun z => by cases z)
  | a :: l, [], _, _, h => absurd ((h a).1 (List.mem_cons_self ..)) (fun z => by cases z)
  | a :: l, b :: m, hl, hm, h => by
    obtain ⟨l1, l2⟩ := List.pairwise_cons.mp hl
    obtain ⟨m1, m2⟩ := List.pairwise_cons.mp hm
    have e : a = b := by
      rcases List.mem_cons.mp ((h a).1 (List.mem_cons_self ..)) with z | z
      · exact z
      · rcases List.mem_cons.mp ((h b).2 (List.mem_cons_self ..)) with y | y
        · exact y.symm
        · exact (as _ _ (m1 a z) (l1 b y)).elim
    subst e
    refine congrArg (a :: ·) (uniq as l2 m2 fun x => ⟨fun hx => ?_, fun hx => ?_⟩)
    · rcases List.mem_cons.mp ((h x).1 (List.mem_cons_of_mem _ hx)) with z | z
      · subst z
        exact (as _ _ (l1 x hx) (l1 x hx)).elim
      · exact z
    · rcases List.mem_cons.mp ((h x).2 (List.mem_cons_of_mem _ hx)) with z | z
      · subst z
        exact (as _ _ (m1 x hx) (m1 x hx)).elim
      · exact z
def ltS (x y : Str) : Prop := x.cps.toList < y.cps.toList
theorem str_ext {x y : Str} (h : x.cps.toList = y.cps.toList) : x = y := by
  rw [← SX.S_tl x, ← SX.S_tl y, h]
theorem rising_le : ∀ (p : Str) (l : List Str), risingS p l = true → ∀ y ∈ l, p.cps.toList ≤ y.cps.toList
  | p, [], _, y, hy => by cases hy
  | p, x :: r, h, y, hy => by
    obtain ⟨h1, h2⟩ := Bool.and_eq_true_iff.mp (show (!ltCps x.cps.toList p.cps.toList && risingS x r) = true from h)
    rw [ltCps_eq] at h1
    have px : p.cps.toList ≤ x.cps.toList := by
      have z : ¬ x.cps.toList < p.cps.toList := by simpa using h1
      exact z
    rcases List.mem_cons.mp hy with e | e
    · rw [e]; exact px
    · exact List.le_trans px (rising_le x r h2 y e)
theorem sortedS_lt : ∀ (l : List Str), sortedS l = true → l.Nodup → l.Pairwise ltS
  | [], _, _ => List.Pairwise.nil
  | x :: r, h, d => by
    obtain ⟨d1, d2⟩ := List.nodup_cons.mp d
    refine List.pairwise_cons.mpr ⟨fun y hy => ?_, sortedS_lt r ?_ d2⟩
    · have le := rising_le x r h y hy
      by_cases z : x.cps.toList < y.cps.toList
      · exact z
      · exact absurd (show x ∈ r by rw [str_ext (List.le_antisymm le z)]; exact hy) d1
    · cases r with
      | nil => rfl
      | cons y r =>
        obtain ⟨_, h2⟩ := Bool.and_eq_true_iff.mp (show (!ltCps y.cps.toList x.cps.toList && risingS y r) = true from h)
        exact h2
theorem IsLit.unique {kd : Str} {ss : List ShD} {xs ys : List V} (h : IsLit kd ss xs) (h' : IsLit kd ss ys) : xs = ys := by
  rcases h.2 with ⟨e, a, rfl, s1, n1, m1⟩ | ⟨e, a, rfl, s1, n1, m1⟩ <;> rcases h'.2 with ⟨e', b, rfl, s2, n2, m2⟩ | ⟨e', b, rfl, s2, n2, m2⟩
  · exact congrArg _ (uniq (lt := ltS) (fun x y h1 h2 => List.lt_asymm h1 h2) (sortedS_lt _ s1 n1) (sortedS_lt _ s2 n2) fun x => (m1 x).trans (m2 x).symm)
  · exact absurd e e'
  · exact absurd e' e
  · exact congrArg _ (uniq (lt := fun x y : Int => x < y) (fun x y h1 h2 => by omega) (lt_of_le_nodup _ s1 n1) (lt_of_le_nodup _ s2 n2) fun x => (m1 x).trans (m2 x).symm)
open Classical in
/-- the literals of a kind, rising, if there is such a list -/
noncomputable def canon (kd : Str) (ss : List ShD) : List V := if h : ∃ xs, IsLit kd ss xs then h.choose else []
theorem IsLit.canon {kd : Str} {ss : List ShD} {xs : List V} (h : IsLit kd ss xs) : xs = K10.canon kd ss := by
  unfold K10.canon
  rw [dif_pos ⟨xs, h⟩]
  exact h.unique (Exists.choose_spec (⟨xs, h⟩ : ∃ xs, IsLit kd ss xs))
/-- numbers in a list of numbers -/
theorem inV_nat (n : Nat) : ∀ ns : List Nat, inV (.int (n : Int)) (ns.map fun m : Nat => V.int (m : Int)) = decide (n ∈ ns)
  | [] => rfl
  | m :: ns => by
    have ih := inV_nat n ns
    unfold inV at ih ⊢
    rw [List.map_cons, List.any_cons, ih]
    have e : eqV (.int (m : Int)) (.int (n : Int)) = decide (n = m) := by
      show ((m : Int) == (n : Int)) = decide (n = m)
      by_cases z : n = m
      · subst z; simp
      · have : ¬ (m : Int) = (n : Int) := by omega
        simp [z, this]
    rw [e]
    by_cases z : n = m <;> simp [z]
theorem flat_nat (ns : List Nat) : (ns.map fun m : Nat => V.int (m : Int)).all flatV = true := by
  rw [List.all_map]
  exact List.all_eq_true.mpr fun _ _ => rfl
end K10
set_option Elab.async false
set_option linter.all false
set_option maxRecDepth 100000
set_option maxHeartbeats 4000000
namespace K10
open PySem PySem.Spec PyProof.Rows L2
/-- the box of a law: three numbers and the list of the script's sizes -/
def BoxAt (H : Hp) (b l : Addr) : Prop := ∃ (ns : List Int) (c0 c1 c2 : Int), H b = some (.lst [.int c0, .int c1, .int c2, .ref l]) ∧ H l = some (.lst (ns.map V.int)) ∧ (∀ n ∈ ns, 0 ≤ n) ∧ (c1 < 0 → -(2 ^ 64) < c0 ∧ c0 < 2 ^ 64) ∧ 0 ≤ c2 ∧ b ≠ l
def spTake : Sp := fun vs H Q _ => ∃ (b l : Addr) (m : Int), vs = [.ref b, .int m] ∧ BoxAt H b l ∧ 1 ≤ m ∧ m < 1000000000 ∧ ∀ (t : Int) (H' : Hp), 0 ≤ t → t < m → BoxAt H' b l → But b H H' → Q (.int t) H'
section
variable {P : Program} {w : World} {K : PySem.W.Frag} {mg : Str → Option Value} {base : Heap}
theorem c_law_take (T : Txt K mg) : C8.Cal P w K mg base 1 "_law_take" spTake [] := by
  refine cal_of T.d_law_take T.g_law_take sc_law_take (fun fd F => b_law_take F) (fun vs H Q E h => ?_) (fun cdv A outer s H vs Q E hr h => ?_)
  · obtain ⟨b, l, m, rfl, _⟩ := h
    rfl
  · obtain ⟨b, l, m, rfl, ⟨ns, c0, c1, c2, hb, hl, hn, hc, h2, hbl⟩, hm, hm2, k⟩ := h
    refine ⟨_, (C8.pss_cut (ps_if (pt_cmpR op_eq (pe_ix ix_list (pv 0) pe_int (fun _ _ => rfl)) pe_int (nomark _))
    (pss_cons (ps_set (i := 2) sc_law_take.nd rfl (by first | exact .inl rfl | exact .inr rfl) (pe_ix ix_list (pv 0) pe_int (fun _ _ => rfl)))
  (pss_cons (ps_set (i := 3) sc_law_take.nd rfl (by first | exact .inl rfl | exact .inr rfl) pe_int)
  (C8.pss_cut (ps_if (pt_cmpR op_lt (pv 2) (pe_callB call_len_seq (by rfl) T.z_len (by decide +kernel) (pa_cons (pe_ix ix_list (pv 0) pe_int (fun _ _ => rfl)) pa_nil)) (nomark _))
    (pss_cons (ps_set (i := 3) sc_law_take.nd rfl (by first | exact .inl rfl | exact .inr rfl) (pe_ix ix_list (pe_ix ix_list (pv 0) pe_int (fun _ _ => rfl)) (pv 2) (fun _ _ => rfl)))
  (pss_one (ps_asg (pe_ifExp (pt_cmpR op_ge (pv 3) (pe_op op_pow pe_int pe_int) (nomark _)) pe_int (pe_un un_neg pe_int)) (pg_sub (pv 0) pe_int set_list))))
    pss_nil)
  (pss_cons (ps_asg (pe_op op_add (pv 2) pe_int) (pg_sub (pv 0) pe_int set_list))
  (pss_cons (ps_asg (pv 3) (pg_sub (pv 0) pe_int set_list))
  (pss_one (ps_if (pt_cmpR op_eq (pe_ix ix_list (pv 0) pe_int (fun _ _ => rfl)) pe_int (nomark _))
    (pss_one (ps_ret pe_int))
    pss_nil)))))))
    pss_nil)
  (pss_cons (ps_if (pt_cmpR op_gt (pe_ix ix_list (pv 0) pe_int (fun _ _ => rfl)) pe_int (nomark _))
    (pss_cons (ps_set (i := 4) sc_law_take.nd rfl (by first | exact .inl rfl | exact .inr rfl) (pe_op op_modN (pe_callTy call_int1 (by rfl) T.z_int (by decide +kernel) (pa_cons (pe_ix ix_list (pv 0) pe_int (fun _ _ => rfl)) pa_nil)) (pv 1)))
  (pss_cons (ps_asg (pe_op op_fdivN (pe_ix ix_list (pv 0) pe_int (fun _ _ => rfl)) (pv 1)) (pg_sub (pv 0) pe_int set_list))
  (pss_cons (ps_asg (pe_ifExp (pt_cmpR op_gt (pe_ix ix_list (pv 0) pe_int (fun _ _ => rfl)) pe_int (nomark _)) (pe_op op_sub (pe_ix ix_list (pv 0) pe_int (fun _ _ => rfl)) pe_int) pe_int) (pg_sub (pv 0) pe_int set_list))
  (pss_one (ps_ret (pv 4))))))
    pss_nil)
  (pss_cons (ps_asg (pe_op op_add (pe_ix ix_list (pv 0) pe_int (fun _ _ => rfl)) pe_int) (pg_sub (pv 0) pe_int set_list))
  (pss_cons (ps_asg (pe_op op_modN (pe_callTy call_int1 (by rfl) T.z_int (by decide +kernel) (pa_cons (pe_op op_add (pe_op op_mul (pe_ix ix_list (pv 0) pe_int (fun _ _ => rfl)) pe_int) (pe_op op_mul pe_int (pe_op op_add (pe_ix ix_list (pv 0) pe_int (fun _ _ => rfl)) pe_int))) pa_nil)) pe_int) (pg_sub (pv 0) pe_int set_list))
  (pss_one (ps_ret (pe_op op_modN (pe_op op_modN (pe_callTy call_int1 (by rfl) T.z_int (by decide +kernel) (pa_cons (pe_op op_add (pe_op op_fdivN (pe_ix ix_list (pv 0) pe_int (fun _ _ => rfl)) pe_int) (pe_ix ix_list (pv 0) pe_int (fun _ _ => rfl))) pa_nil)) pe_int) (pv 1)))))))), ?_⟩
    refine ⟨fun σ' H' => ∃ (c0 c1 c2 : Int) (y2 y3 y4 : Option V), σ' = [some (.ref b), some (.int m), y2, y3, y4] ∧ H' b = some (.lst [.int c0, .int c1, .int c2, .ref l]) ∧ (c1 < 0 → -(2 ^ 64) < c0 ∧ c0 < 2 ^ 64) ∧ 0 ≤ c2 ∧ But b H H' ∧ c1 ≠ 0, ?_, ?_⟩
    · -- if box[1] == 0
      refine ⟨_, rfl, _, _, _, _, rfl, rfl, SqL.of hb, rfl, rfl, _, rfl, ite2 (fun e => ?_) (fun e => ?_)⟩
      · -- at = box[2]; cell = 0
        refine ⟨_, rfl, _, _, _, _, rfl, rfl, SqL.of hb, rfl, ?_⟩
        -- if at < len(box[3])
        refine ⟨fun σ' H' => ∃ (c c1 : Int) (y4 : Option V), σ' = [some (.ref b), some (.int m), some (.int c2), some (.int c), y4] ∧ H' b = some (.lst [.int c0, .int c1, .int c2, .ref l]) ∧ (c1 < 0 → -(2 ^ 64) < c ∧ c < 2 ^ 64) ∧ But b H H', ?_, ?_⟩
        · refine ⟨_, rfl, _, rfl, _, _, _, _, rfl, rfl, SqL.of hb, rfl, l, _, rfl, .inl (SqL.of hl), _, _, rfl, rfl, _, rfl, ite2 (fun e2 => ?_) (fun e2 => ?_)⟩
          · have e3 : c2 < (ns.length : Int) := by
              have := of_decide_eq_true e2
              simpa using this
            obtain ⟨n, hnm, hat⟩ := atI_map_int h2 e3
            refine ⟨_, rfl, _, _, _, _, rfl, rfl, SqL.of hb, rfl, _, rfl, _, _, _, _, rfl, rfl, SqL.of hl, hat, ?_⟩
            have n0 := hn n hnm
            refine ⟨_, rfl, _, _, rfl, rfl, ?_, _, _, rfl, rfl, _, rfl, ite2 (fun e4 => ?_) (fun e4 => ?_)⟩
            · exact ⟨by decide, by decide, by decide⟩
            · refine ⟨_, rfl, _, _, _, _, rfl, rfl, hb, rfl, ?_⟩
              exact ⟨n, 60, none, rfl, upd_same, fun z => by omega, But.refl.upd⟩
            · have e5 : n < 10 ^ 18 := by
                have h5 : ¬ (10 : Int) ^ 18 ≤ n := fun z => e4 (decide_eq_true z)
                omega
              refine ⟨_, rfl, _, rfl, _, _, _, _, rfl, rfl, hb, rfl, ?_⟩
              exact ⟨n, -9, none, rfl, upd_same, fun z => by omega, But.refl.upd⟩
          · exact ⟨0, c1, none, rfl, hb, fun z => by omega, But.refl⟩
        · rintro σ' H' ⟨c, c1', y4, rfl, hb', hc', ho'⟩
          -- box[2] = at + 1; box[0] = cell; if box[1] == 0: return 0
          refine ⟨_, rfl, _, _, rfl, rfl, _, rfl, _, _, _, _, rfl, rfl, hb', rfl, ?_⟩
          refine ⟨_, rfl, _, rfl, _, _, _, _, rfl, rfl, upd_same, rfl, ?_⟩
          refine ⟨_, rfl, _, _, _, _, rfl, rfl, SqL.of upd_same, rfl, rfl, _, rfl, ite2 (fun e4 => ?_) (fun e4 => ?_)⟩
          · refine k 0 _ (by omega) (by omega) ⟨ns, c, c1', c2 + 1, upd_same, ?_, hn, hc', by omega, hbl⟩ ho'.upd.upd
            rw [upd_ne hbl.symm, upd_ne hbl.symm, ho' l hbl.symm]
            exact hl
          · exact ⟨c, c1', c2 + 1, _, _, _, rfl, upd_same, hc', by omega, ho'.upd.upd, dec_int_ne e4⟩
      · exact ⟨c0, c1, c2, _, _, _, rfl, hb, hc, h2, But.refl, dec_int_ne e⟩
    · rintro σ' H' ⟨c0, c1, c2, y2, y3, y4, rfl, hb, hc, h2, ho, hne⟩
      have hl' : H' l = some (.lst (ns.map V.int)) := (ho l hbl.symm).trans hl
      have hlu : ∀ {H2 : Hp} {o : HO}, H2 l = some (.lst (ns.map V.int)) → (upd H2 b o) l = some (.lst (ns.map V.int)) := fun e => by rw [upd_ne hbl.symm]; exact e
      -- if box[1] > 0
      refine ⟨_, rfl, _, _, _, _, rfl, rfl, SqL.of hb, rfl, _, _, rfl, rfl, _, rfl, ite2 (fun e => ?_) (fun e => ?_)⟩
      · have e1 : 0 < c1 := of_decide_eq_true e
        have hf := fmod_bounds (i := c0) hm
        refine ⟨_, rfl, _, _, _, _, rfl, rfl, SqL.of hb, rfl, .inl ⟨_, rfl, _, rfl, _, _, rfl, rfl, by omega, ?_⟩⟩
        refine ⟨_, rfl, _, _, _, _, rfl, rfl, SqL.of hb, rfl, _, rfl, _, _, rfl, rfl, ⟨by omega, by omega⟩, _, rfl, _, _, _, _, rfl, rfl, hb, rfl, ?_⟩
        refine ⟨_, rfl, _, _, _, _, rfl, rfl, SqL.of upd_same, rfl, _, _, rfl, rfl, _, rfl, ite2 (fun e2 => ?_) (fun e2 => ?_)⟩
        · refine ⟨_, rfl, _, _, _, _, rfl, rfl, SqL.of upd_same, rfl, _, _, rfl, rfl, _, rfl, _, _, _, _, rfl, rfl, upd_same, rfl, ?_⟩
          exact ⟨_, rfl, k _ _ hf.1 hf.2 ⟨ns, _, _, _, upd_same, hlu (hlu hl'), hn, fun z => by omega, h2, hbl⟩ ho.upd.upd⟩
        · refine ⟨_, rfl, _, _, _, _, rfl, rfl, upd_same, rfl, ?_⟩
          exact ⟨_, rfl, k _ _ hf.1 hf.2 ⟨ns, _, _, _, upd_same, hlu (hlu hl'), hn, fun z => by omega, h2, hbl⟩ ho.upd.upd⟩
      · have e1 : ¬ 0 < c1 := fun z => e (decide_eq_true z)
        have e2 := hc (by omega)
        refine ⟨_, rfl, _, _, _, _, rfl, rfl, SqL.of hb, rfl, _, _, rfl, rfl, _, rfl, _, _, _, _, rfl, rfl, hb, rfl, ?_⟩
        refine ⟨_, rfl, _, _, _, _, rfl, rfl, SqL.of upd_same, rfl, _, _, rfl, rfl, .inl e2, _, rfl, _, _, _, _, rfl, rfl, SqL.of upd_same, rfl, _, _, rfl, rfl, _, _, rfl, rfl, .inl ⟨by decide, by decide⟩, _, _, rfl, rfl, .inl ⟨_, rfl, _, _, rfl, rfl, (by show (2147483647 : Int) ≠ 0; decide), _, rfl, _, _, _, _, rfl, rfl, upd_same, rfl, ?_⟩⟩
        have h3 := fmod_bounds (i := c0 * 48271 + 69621 * (c1 + 1 + 20)) (m := 2147483647) (by decide)
        refine ⟨_, rfl, _, _, _, _, rfl, rfl, SqL.of upd_same, rfl, _, _, rfl, rfl, ⟨by decide, by decide⟩, _, rfl, _, _, _, _, rfl, rfl, SqL.of upd_same, rfl, _, _, rfl, rfl, .inl ⟨_, rfl, _, _, rfl, rfl, (by show (1000003 : Int) ≠ 0; decide), _, rfl, _, _, rfl, rfl, by omega, ?_⟩⟩
        have hf := fun i => fmod_bounds (i := i) hm
        exact k _ _ (hf _).1 (hf _).2 ⟨ns, _, _, _, upd_same, hlu (hlu hl'), hn, fun z => ⟨by omega, by omega⟩, h2, hbl⟩ ho.upd.upd
def spPick (K : PySem.W.Frag) : Sp := fun vs H Q _ => ∃ (b l a : Addr) (xs : List V), vs = [.ref b, .ref a] ∧ BoxAt H b l ∧ SqL K H a xs ∧ a ≠ b ∧ 0 < xs.length ∧ xs.length < 1000000000 ∧ ∀ (v : V) (H' : Hp), v ∈ xs → BoxAt H' b l → But b H H' → Q v H'
theorem SqL.but {H H' : Hp} {a b : Addr} {xs : List V} (h : SqL K H a xs) (o : But b H H') (ne : a ≠ b) : SqL K H' a xs := by
  rcases h with (h | ⟨o', h⟩) | h
  · exact .inl (.inl ((o a ne).trans h))
  · exact .inl (.inr ⟨o', (o a ne).trans h⟩)
  · exact .inr h
theorem c_law_pick (T : Txt K mg) : C8.Cal P w K mg base 2 "_law_pick" (spPick K) [] := by
  have c_law_take : C8.Cal P w K mg base 1 "_law_take" spTake [] := c_law_take T
  refine cal_of T.d_law_pick T.g_law_pick sc_law_pick (fun fd F => b_law_pick F) (fun vs H Q E h => ?_) (fun cdv A outer s H vs Q E hr h => ?_)
  · obtain ⟨b, l, a, xs, rfl, _⟩ := h
    rfl
  · obtain ⟨b, l, a, xs, rfl, hB, hS, hne, h0, h1, k⟩ := h
    refine ⟨_, (pss_one (ps_ret (pe_ix ix_list (pv 1) (C8.pe_c c_law_take hr (by decide) (by rfl) (pa_cons (pv 0) (pa_cons (pe_callB call_len_seq (by rfl) T.z_len (by decide +kernel) (pa_cons (pv 1) pa_nil)) pa_nil))) (fun _ _ => rfl)))), ?_⟩
    refine ⟨_, rfl, _, rfl, _, rfl, a, xs, rfl, .inl hS, b, l, _, rfl, hB, by omega, by omega, fun t H' t0 t1 hB' o => ?_⟩
    obtain ⟨j, rfl⟩ := Int.eq_ofNat_of_zero_le t0
    have hj : j < xs.length := Int.ofNat_lt.mp t1
    refine ⟨_, _, _, _, rfl, rfl, SqL.but hS o hne, atI_nat (List.getElem?_eq_getElem hj), ?_⟩
    exact k _ _ (List.getElem_mem hj) hB' o
/-- the box of a script -/
def spBox (K : PySem.W.Frag) : Sp := fun vs H Q _ => ∃ (a : Addr) (ns : List Int), vs = [.ref a] ∧ SqL K H a (ns.map V.int) ∧ ns.length ≤ 1000 ∧ ∀ (b l : Addr) (H' : Hp), H b = none → H l = none → BoxAt H' b l → Same H H' → Q (.ref b) H'
theorem c_law_box (T : Txt K mg) : C8.Cal P w K mg base 1 "_law_box" (spBox K) [] := by
  refine cal_of T.d_law_box T.g_law_box sc_law_box (fun fd F => b_law_box F) (fun vs H Q E h => ?_) (fun cdv A outer s H vs Q E hr h => ?_)
  · obtain ⟨a, ns, rfl, _⟩ := h
    rfl
  · obtain ⟨a, ns, rfl, hS, hlen, k⟩ := h
    refine ⟨_, (pss_one (ps_ret (pe_lst (pa_cons pe_int (pa_cons pe_int (pa_cons pe_int (pa_cons (pe_lc (own := [("x", 1)]) (g := gName 1) rfl sc_law_box.nd (pi_list (pv 0)) (blkOk_by (own := [("x", 1)]) (N := n_law_box) (sc := defScope s_law_box) (by decide +kernel)) (fun _ _ _ _ _ => (pg_name (i := 1) sc_law_box.nd rfl (by first | exact .inl rfl | exact .inr rfl))) (fun _ _ _ _ _ => pts_nil) (fun _ _ _ _ _ => (pe_callB call_abs (by rfl) T.z_abs (by decide +kernel) (pa_cons (pe_callTy call_int1 (by rfl) T.z_int (by decide +kernel) (pa_cons (pv 1) pa_nil)) pa_nil)))) pa_nil))))))), ?_⟩
    -- the list of sizes
    refine ⟨.ref a, rfl, a, rfl, ⟨_, hS⟩, fun D hD => lc_list (K := K) (a := a) (xs := ns.map V.int) (fun i H' => H' = upd H D (.lst (((ns.take i).map absI).map V.int))) rfl (fun i H' _ e => ?_) (fun i x H' hx e => ?_) (fun H' e => ?_)⟩
    · subst e
      exact (same_upd hD).seq hS
    · subst e
      obtain ⟨n, hn, rfl⟩ : ∃ n, ns[i]? = some n ∧ V.int n = x := by
        rw [List.getElem?_map] at hx
        cases h : ns[i]? with
        | none => rw [h] at hx; cases hx
        | some n => rw [h] at hx; exact ⟨n, rfl, Option.some.inj hx⟩
      refine ⟨rfl, _, rfl, .inl ⟨_, rfl, _, rfl, _, upd_same, ?_, ?_⟩⟩
      · rw [List.length_map, List.length_map, List.length_take]
        exact small1000 (by omega)
      · rw [List.take_add_one, hn, List.map_append, List.map_append, upd_upd]
        rfl
    · rw [List.length_map, List.take_length] at e
      subst e
      refine ⟨by show 4 ≤ sizeLine; decide, fun b hb => ?_⟩
      have nbD : D ≠ b := fun e => by rw [← e, upd_same] at hb; cases hb
      have nb : H b = none := by rw [upd_ne nbD.symm] at hb; exact hb
      refine k b D _ nb hD ⟨ns.map absI, 0, 0, 0, upd_same, ?_, ?_, by omega, by omega, nbD.symm⟩ ?_
      · rw [upd_ne nbD, upd_same]
      · intro n hn
        obtain ⟨m, _, rfl⟩ := List.mem_map.mp hn
        unfold absI
        split <;> omega
      · intro c o e
        rw [upd_ne (ne_of_none e nb), upd_ne (ne_of_none e hD)]
        exact e
end
end K10
set_option Elab.async false
set_option linter.all false
set_option maxRecDepth 100000
set_option maxHeartbeats 4000000
namespace K10
open PySem PySem.Spec PyProof.Rows L2
theorem found_take {kd : Str} {ss : List ShD} {i : Nat} {s : ShD} (h : ss[i]? = some s) : found kd (ss.take (i + 1)) = found kd (ss.take i) ++ s.lits.filter (ofKind kd) := by
  unfold found
  rw [List.take_add_one, h, List.flatMap_append, List.filter_append]
  show _ ++ List.filter _ ([s].flatMap ShD.lits) = _
  rw [List.flatMap_cons, List.flatMap_nil, List.append_nil]
theorem lits_take {kd : Str} {es : List EntD} {j : Nat} {e : EntD} (h : es[j]? = some e) : ((es.take (j + 1)).filterMap EntD.lit).filter (ofKind kd) = ((es.take j).filterMap EntD.lit).filter (ofKind kd) ++ ((e.lit).toList.filter (ofKind kd)) := by
  rw [List.take_add_one, h, List.filterMap_append, List.filter_append]
  congr 1
theorem flat_le {α β : Type} (f : α → List β) (n : Nat) : ∀ (l : List α), (∀ a ∈ l, (f a).length ≤ n) → (l.flatMap f).length ≤ l.length * n
  | [], _ => by simp
  | a :: l, h => by
    rw [List.flatMap_cons, List.length_append, List.length_cons, Nat.succ_mul]
    have h1 := h a (List.mem_cons_self ..)
    have h2 := flat_le f n l fun b hb => h b (List.mem_cons_of_mem _ hb)
    omega
theorem found_few {kd : Str} {ss : List ShD} (few : Few ss) : (found kd ss).length ≤ 18 := by
  unfold found
  refine Nat.le_trans (List.length_filter_le _ _) (Nat.le_trans (flat_le _ 6 ss fun s hs => ?_) (Nat.mul_le_mul_right 6 few.1))
  exact Nat.le_trans (List.length_filterMap_le _ _) (few.2 s hs).1
theorem Few.take {ss : List ShD} (few : Few ss) (i : Nat) : Few (ss.take i) := ⟨Nat.le_trans (List.length_take_le' ..) few.1, fun s hs => few.2 s (List.mem_of_mem_take hs)⟩
theorem all_ints : ∀ (qs : List Key), (∀ k ∈ qs, isText k = false) → ∃ ns : List Int, qs = ns.map Sum.inl
  | [], _ => ⟨[], rfl⟩
  | k :: qs, h => by
    obtain ⟨ns, e⟩ := all_ints qs fun j hj => h j (List.mem_cons_of_mem _ hj)
    cases k with
    | inl i => exact ⟨i :: ns, by rw [e]; rfl⟩
    | inr x => exact absurd (h (Sum.inr x) (List.mem_cons_self ..)) (fun z => by cases z)
theorem all_strs : ∀ (qs : List Key), (∀ k ∈ qs, isText k = true) → ∃ xs : List Str, qs = xs.map Sum.inr
  | [], _ => ⟨[], rfl⟩
  | k :: qs, h => by
    obtain ⟨xs, e⟩ := all_strs qs fun j hj => h j (List.mem_cons_of_mem _ hj)
    cases k with
    | inr x => exact ⟨x :: xs, by rw [e]; rfl⟩
    | inl i => exact absurd (h (Sum.inl i) (List.mem_cons_self ..)) (fun z => by cases z)
def spValues : Sp := fun vs H Q _ => ∃ (a : V) (kd : Str) (ss : List ShD), vs = [a, .str kd] ∧ ShapesAt H a ss ∧ Few ss ∧ ∀ (p : Addr) (xs : List V) (H' : Hp), IsLit kd ss xs → H p = none → H' p = some (.lst xs) → Same H H' → Q (.ref p) H'
section
variable {P : Program} {w : World} {K : PySem.W.Frag} {mg : Str → Option Value} {base : Heap}
theorem c_law_values (T : Txt K mg) : C8.Cal P w K mg base 1 "_law_values" spValues [] := by
  refine cal_of T.d_law_values T.g_law_values sc_law_values (fun fd F => b_law_values F) (fun vs H Q E h => ?_) (fun cdv A outer s H vs Q E hr h => ?_)
  · obtain ⟨a, kd, ss, rfl, _⟩ := h
    rfl
  · obtain ⟨a, kd, ss, rfl, hS, few, k⟩ := h
    refine ⟨_, (pss_cons (ps_set (i := 2) sc_law_values.nd rfl (by first | exact .inl rfl | exact .inr rfl) (pe_lst pa_nil))
  (pss_cons (ps_for PassesOwn.never rfl (pi_tup (pv 0)) (pg_name (i := 3) sc_law_values.nd rfl (by first | exact .inl rfl | exact .inr rfl))
    (pss_one (ps_for PassesOwn.never rfl (pi_tup (pe_ix ix_tup (pv 3) pe_int (fun _ _ => rfl))) (pg_name (i := 4) sc_law_values.nd rfl (by first | exact .inl rfl | exact .inr rfl))
    (pss_one (ps_if (PW.pt (pw_and (pt_cmpR op_ne (pe_ix ix_tup (pv 4) pe_int (fun _ _ => rfl)) pe_str (nomark _)) (pw_and (pt_cmpR op_eq (pe_ix ix_tup (pe_ix ix_tup (pv 4) pe_int (fun _ _ => rfl)) pe_int (fun _ _ => rfl)) pe_str (nomark _)) (pw_and1 (pt_cmpR op_eq (pe_callB call_isi (by rfl) T.z_isinstance (by decide +kernel) (pa_cons (pe_ix ix_tup (pe_ix ix_tup (pv 4) pe_int (fun _ _ => rfl)) pe_int (fun _ _ => rfl)) (pa_cons (pe_bltn (v := .ty "str") (by rfl) T.z_str (by decide +kernel) rfl) pa_nil))) (pe_cmpR op_eq (pv 1) pe_str (nomark _)) (nomark _))))))
    (pss_one (ps_expr (pe_bm PySem.F.plainAttrs_list PySem.F.slot_list_append PySem.F.type_list_append mt_append (pv 2) (pa_cons (pe_ix ix_tup (pe_ix ix_tup (pv 4) pe_int (fun _ _ => rfl)) pe_int (fun _ _ => rfl)) pa_nil))))
    pss_nil)))))
  (pss_one (ps_ret (pe_callB (SM.cr_sortM rfl) (by rfl) T.z_sorted (by decide +kernel) (pa_cons (pe_callTy (SM.cr_setL rfl) (by rfl) T.z_set (by decide +kernel) (pa_cons (pv 2) pa_nil)) pa_nil)))))), ?_⟩
    obtain ⟨p, vs, rfl, hp, hA⟩ := id hS
    -- found = []
    refine ⟨Nat.zero_le _, fun D nD => ?_⟩
    have tk : ∀ {o : HO}, Tk H (upd H D o) := Tk.refl.new nD
    refine ⟨_, rfl, p, rfl, ⟨_, SqT.of (tk _ _ hp)⟩, for_tup (K := K) (a := p) (xs := vs) (fun i σ H' => ∃ y3 y4, σ = [some (.ref p), some (.str kd), some (.ref D), y3, y4] ∧ H' = upd H D (.lst ((found kd (ss.take i)).map kV))) ⟨_, _, rfl, rfl⟩ (fun i σ H' _ h => ?_) (fun i v σ H' hv h => ?_) (fun σ H' h => ?_)⟩
    · obtain ⟨_, _, _, rfl⟩ := h
      exact SqT.of (tk _ _ hp)
    · obtain ⟨y3, y4, rfl, rfl⟩ := h
      obtain ⟨sh, hsh, rS⟩ := hA.2 i v hv
      obtain ⟨q, a1, a2, nm, es, rfl, hq, _, hes, hE⟩ := rS
      refine ⟨_, rfl, _, _, _, _, rfl, rfl, SqT.of (tk _ _ hq), rfl, a2, rfl, ⟨_, SqT.of (tk _ _ hes)⟩, for_tup (K := K) (a := a2) (xs := es) (fun j σ H' => ∃ y4, σ = [some (.ref p), some (.str kd), some (.ref D), some (.ref q), y4] ∧ H' = upd H D (.lst ((found kd (ss.take i) ++ ((sh.ents.take j).filterMap EntD.lit).filter (ofKind kd)).map kV))) ⟨_, rfl, ?_⟩ (fun j σ H' _ h => ?_) (fun j v σ H' hv h => ?_) (fun σ H' h => ?_)⟩
      · rw [List.take_zero, List.filterMap_nil, List.filter_nil, List.append_nil]
      · obtain ⟨_, _, rfl⟩ := h
        exact SqT.of (tk _ _ hes)
      · obtain ⟨y4, rfl, rfl⟩ := h
        obtain ⟨e, he, r, rfl, rE⟩ := hE.2 j v hv
        have step := lits_take (kd := kd) he
        rcases rE with ⟨e1, e2, e3⟩ | ⟨kd1, kv, e1, e2, e3, m, rfl, e4⟩
        · -- ("a", table)
          have el : e.lit = none := by unfold EntD.lit; rw [e1]
          rw [el] at step
          refine ⟨_, rfl, _, _, _, _, rfl, rfl, SqT.of (tk _ _ e3), rfl, rfl, _, rfl, iteF ?_⟩
          refine iteF ⟨_, rfl, ?_⟩
          rw [step]
          simp
        · refine ⟨_, rfl, _, _, _, _, rfl, rfl, SqT.of (tk _ _ e3), rfl, rfl, _, rfl, ?_⟩
          have ne : (!decide (V.str e.op = V.str (Str.ofString "a"))) = true := by
            rw [decide_eq_false fun z => e2 (V.str.inj z)]
            rfl
          rw [ne]
          refine iteT ⟨_, rfl, _, _, _, _, rfl, rfl, SqT.of (tk _ _ e3), rfl, ?_⟩
          cases kd1 with
          | par n =>
            have el : e.lit = none := by unfold EntD.lit; rw [e1]
            rw [el] at step
            refine ⟨_, _, _, _, rfl, rfl, SqT.of (tk _ _ e4), rfl, rfl, _, rfl, ?_⟩
            have nv : decide (V.str (Str.ofString "param") = V.str (Str.ofString "value")) = false := by decide +kernel
            show if decide (V.str (Str.ofString "param") = V.str (Str.ofString "value")) = true then _ else _
            rw [nv]
            refine iteF (iteF ⟨_, rfl, ?_⟩)
            rw [step]
            simp
          | val z =>
            have el : e.lit = some z := by unfold EntD.lit; rw [e1]
            rw [el] at step
            refine ⟨_, _, _, _, rfl, rfl, SqT.of (tk _ _ e4), rfl, rfl, _, rfl, ?_⟩
            have nv : decide (V.str (Str.ofString "value") = V.str (Str.ofString "value")) = true := by decide +kernel
            show if decide (V.str (Str.ofString "value") = V.str (Str.ofString "value")) = true then _ else _
            rw [nv]
            refine iteT ⟨_, rfl, _, _, _, _, rfl, rfl, SqT.of (tk _ _ e3), rfl, _, _, _, _, rfl, rfl, SqT.of (tk _ _ e4), rfl, ?_⟩
            obtain ⟨ty, hty, hkit⟩ : ∃ ty, TyX K (upd H D (.lst ((found kd (ss.take i) ++ ((sh.ents.take j).filterMap EntD.lit).filter (ofKind kd)).map kV))) (kV z) ty ∧ PySem.W.kitOne K ty (.type "str") = some (isText z) := by
              cases z with
              | inl n => exact ⟨_, .base (.int n), kit_ty (r := false) (by decide +kernel)⟩
              | inr x => exact ⟨_, .base (.str x), kit_ty (r := true) (by decide +kernel)⟩
            refine ⟨_, _, _, _, _, rfl, .ty "str", hty, hkit, _, rfl, rfl, rfl, _, rfl, ?_⟩
            have hk : decide (V.bl (isText z) = V.bl (decide (V.str kd = V.str (Str.ofString "text")))) = ofKind kd z := by
              unfold ofKind
              cases isText z <;> cases decide (V.str kd = V.str (Str.ofString "text")) <;> rfl
            show if decide (V.bl (isText z) = V.bl (decide (V.str kd = V.str (Str.ofString "text")))) = true then _ else _
            rw [hk]
            cases ho : ofKind kd z with
            | false =>
              refine iteF ⟨_, rfl, ?_⟩
              rw [step]
              simp [ho]
            | true =>
              refine iteT ⟨.ref D, rfl, .inl ⟨rfl, _, .inl (.inl upd_same)⟩, _, rfl, _, _, _, _, rfl, rfl, SqT.of (tk _ _ e3), rfl, _, _, _, _, rfl, rfl, SqT.of (tk _ _ e4), rfl, D, _, _, rfl, rfl, upd_same, ?_, ?_⟩
              · rw [List.length_map, List.length_append]
                have h1 := found_few (kd := kd) (few.take i)
                have h2 : (((sh.ents.take j).filterMap EntD.lit).filter (ofKind kd)).length ≤ 6 := Nat.le_trans (List.length_filter_le _ _) (Nat.le_trans (List.length_filterMap_le _ _) (Nat.le_trans (List.length_take_le' ..) (few.2 sh (List.mem_of_getElem? hsh)).1))
                exact small1000 (by omega)
              · refine ⟨_, rfl, ?_⟩
                rw [upd_upd, step]
                simp [ho]
      · obtain ⟨y4, rfl, rfl⟩ := h
        refine ⟨_, _, rfl, ?_⟩
        rw [found_take hsh, hE.1, List.take_length]
        rfl
    · obtain ⟨y3, y4, rfl, rfl⟩ := h
      rw [hA.1, List.take_length]
      have hf := found_few (kd := kd) few
      refine ⟨_, rfl, D, found kd ss, rfl, SqL.of upd_same, by omega, fun p2 L nd hL lL np2 => ?_⟩
      have hof : ∀ z ∈ L, ofKind kd z = true := fun z hz => (List.mem_filter.mp ((hL z).1 hz)).2
      have s1 : Same H (upd (upd H D (.lst ((found kd ss).map kV))) p2 (SM.SetMO w p2 L)) := fun c o e => (same_upd np2) c o ((same_upd nD) c o e)
      have kind : (kd = "text" ∧ ∃ xs : List Str, L = xs.map Sum.inr) ∨ (¬ kd = "text" ∧ ∃ ns : List Int, L = ns.map Sum.inl) := by
        by_cases ek : kd = "text"
        · refine .inl ⟨ek, all_strs L fun z hz => ?_⟩
          have := hof z hz
          unfold ofKind at this
          rw [ek, decide_eq_true rfl] at this
          simpa using this
        · refine .inr ⟨ek, all_ints L fun z hz => ?_⟩
          have := hof z hz
          unfold ofKind at this
          rw [decide_eq_false fun y => ek (V.str.inj y)] at this
          simpa using this
      refine ⟨p2, L, rfl, upd_same, by omega, kind.elim (fun z => .inr z.2) (fun z => .inl z.2), fun ns ns' p3 eL pm hs np3 => ?_, fun xs ys p3 eL pm hs np3 => ?_⟩
      · have nk : L = [] ∨ ¬ kd = "text" := by
          rcases kind with ⟨_, xs, ex⟩ | ⟨z, _⟩
          · cases ns with
            | nil => exact .inl (by rw [eL]; rfl)
            | cons n ns =>
              cases xs with
              | nil => exact .inl (by rw [ex]; rfl)
              | cons x xs => rw [ex] at eL; cases eL
          · exact .inr z
        have hlen : ns'.length ≤ 18 := by
          have := congrArg List.length eL
          rw [List.length_map] at this
          rw [pm.length_eq]
          omega
        have nn : ns.Nodup := by
          rw [eL] at nd
          exact List.Pairwise.of_map Sum.inl (fun a b h e => h (congrArg _ e)) nd
        have mem : ∀ n, n ∈ ns' ↔ Sum.inl n ∈ found kd ss := fun n => by
          rw [pm.mem_iff, ← hL, eL]
          exact ⟨fun h => List.mem_map_of_mem h, fun h => let ⟨m, hm, e⟩ := List.mem_map.mp h; by rw [← Sum.inl.inj e]; exact hm⟩
        refine k p3 (ns'.map V.int) _ ⟨by rw [List.length_map]; exact hlen, ?_⟩ (s1.free np3) upd_same fun c o e => (same_upd np3) c o (s1 c o e)
        by_cases ek : kd = "text"
        · have e0 : L = [] := nk.elim id fun z => absurd ek z
          have e1 : ns' = [] := by
            have h2 : ns = [] := by
              rw [e0] at eL
              cases ns with
              | nil => rfl
              | cons n ns => cases eL
            rw [h2] at pm
            exact List.Perm.eq_nil pm
          refine .inl ⟨ek, [], by rw [e1]; rfl, rfl, List.nodup_nil, fun y => ⟨fun z => (by cases z), fun z => ?_⟩⟩
          have := (hL (Sum.inr y)).2 z
          rw [e0] at this
          cases this
        · exact .inr ⟨ek, ns', rfl, hs, pm.nodup_iff.mpr nn, mem⟩
      · have nk : L = [] ∨ kd = "text" := by
          rcases kind with ⟨z, _⟩ | ⟨_, ns, ex⟩
          · exact .inr z
          · cases ns with
            | nil => exact .inl (by rw [ex]; rfl)
            | cons n ns =>
              cases xs with
              | nil => exact .inl (by rw [eL]; rfl)
              | cons x xs => rw [ex] at eL; cases eL
        have hlen : ys.length ≤ 18 := by
          have := congrArg List.length eL
          rw [List.length_map] at this
          rw [pm.length_eq]
          omega
        have nn : xs.Nodup := by
          rw [eL] at nd
          exact List.Pairwise.of_map Sum.inr (fun a b h e => h (congrArg _ e)) nd
        have mem : ∀ n, n ∈ ys ↔ Sum.inr n ∈ found kd ss := fun n => by
          rw [pm.mem_iff, ← hL, eL]
          exact ⟨fun h => List.mem_map_of_mem h, fun h => let ⟨m, hm, e⟩ := List.mem_map.mp h; by rw [← Sum.inr.inj e]; exact hm⟩
        refine k p3 (ys.map V.str) _ ⟨by rw [List.length_map]; exact hlen, ?_⟩ (s1.free np3) upd_same fun c o e => (same_upd np3) c o (s1 c o e)
        by_cases ek : kd = "text"
        · exact .inl ⟨ek, ys, rfl, hs, pm.nodup_iff.mpr nn, mem⟩
        · have e0 : L = [] := nk.elim id fun z => absurd z ek
          have e1 : ys = [] := by
            have h2 : xs = [] := by
              rw [e0] at eL
              cases xs with
              | nil => rfl
              | cons n xs => cases eL
            rw [h2] at pm
            exact List.Perm.eq_nil pm
          refine .inr ⟨ek, [], by rw [e1]; rfl, List.Pairwise.nil, List.nodup_nil, fun y => ⟨fun z => (by cases z), fun z => ?_⟩⟩
          have := (hL (Sum.inl y)).2 z
          rw [e0] at this
          cases this
end
end K10
set_option Elab.async false
set_option linter.all false
set_option maxRecDepth 100000
set_option maxHeartbeats 4000000
namespace K10
open PySem PySem.Spec PyProof.Rows L2
/-- what stood stays, but for the box -/
def Fb (b : Addr) (H H' : Hp) : Prop := ∀ a o, H a = some o → a ≠ b → H' a = some o
theorem Fb.refl {b : Addr} {H : Hp} : Fb b H H := fun _ _ e _ => e
theorem Fb.trans {b : Addr} {H H1 H2 : Hp} (h : Fb b H H1) (h' : Fb b H1 H2) : Fb b H H2 := fun a o e n => h' a o (h a o e n) n
theorem But.fb {b : Addr} {H H' : Hp} (h : But b H H') : Fb b H H' := fun a o e n => (h a n).trans e
theorem Same.fb {b : Addr} {H H' : Hp} (h : Same H H') : Fb b H H' := fun a o e _ => h a o e
theorem Fb.new {b p : Addr} {H H' : Hp} {o : HO} (h : Fb b H H') (n : H' p = none) : Fb b H (upd H' p o) := fun a u e ne => (same_upd n) a u (h a u e ne)
theorem Fb.put {b p : Addr} {H H' : Hp} {o : HO} (h : Fb b H H') (n : H p = none) : Fb b H (upd H' p o) := fun a u e ne => by
  rw [upd_ne (ne_of_none e n)]
  exact h a u e ne
theorem Fb.tk {b : Addr} {H H' : Hp} {ys : List V} (h : Fb b H H') (hb : H b = some (.lst ys)) : Tk H H' := fun a xs e => h a _ e fun z => by
  rw [z, hb] at e
  cases e
theorem BoxAt.lst {H : Hp} {b l : Addr} (B : BoxAt H b l) : ∃ ys, H b = some (.lst ys) := let ⟨_, _, _, _, h, _⟩ := B; ⟨_, h⟩
theorem BoxAt.inner {H : Hp} {b l : Addr} (B : BoxAt H b l) : ∃ ys, H l = some (.lst ys) := let ⟨_, _, _, _, _, h, _⟩ := B; ⟨_, h⟩
theorem BoxAt.upd {H : Hp} {b l p : Addr} {o : HO} (B : BoxAt H b l) (h1 : p ≠ b) (h2 : p ≠ l) : BoxAt (L2.upd H p o) b l := by
  obtain ⟨ns, c0, c1, c2, e1, e2, r⟩ := B
  exact ⟨ns, c0, c1, c2, by rw [upd_ne h1.symm]; exact e1, by rw [upd_ne h2.symm]; exact e2, r⟩
theorem BoxAt.new {H : Hp} {b l p : Addr} {o : HO} (B : BoxAt H b l) (n : H p = none) : BoxAt (L2.upd H p o) b l := by
  obtain ⟨ys, e1⟩ := B.lst
  obtain ⟨zs, e2⟩ := B.inner
  exact B.upd (ne_of_none e1 n).symm (ne_of_none e2 n).symm
/-- a right text -/
def okK : Key → Bool
  | .inl _ => true
  | .inr x => PyData.strOk x
/-- kinds of parameters, of tables -/
def kindT (t : Str) : Str := if t = "v" then "text" else "int"
structure WfE (ps : List Str) (e : EntD) : Prop where
  op : e.op = "r" ∨ e.op = "w" ∨ e.op = "a"
  table : e.table = "t" ∨ e.table = "u" ∨ e.table = "v"
  par : ∀ i, e.key = some (.par i) → ps[i]? = some (kindT e.table)
  val : ∀ k, e.key = some (.val k) → isText k = decide (e.table = "v")
  ok : ∀ k, e.key = some (.val k) → okK k = true
structure WfS (s : ShD) : Prop where
  params : s.params.length ≤ 3 ∧ ∀ k ∈ s.params, k = "int" ∨ k = "text" ∨ k = "bool"
  many : s.ents.length ≤ 6
  ents : ∀ e ∈ s.ents, WfE s.params e
def Wf (ss : List ShD) : Prop := ss.length ≤ 3 ∧ ∀ s ∈ ss, WfS s
/-- the dict of kinds -/
def kz : List (Key × V) := mergeK [] [(Sum.inr "t", .str "int"), (Sum.inr "u", .str "int"), (Sum.inr "v", .str "text")]
theorem kz_get {t : Str} (h : t = "t" ∨ t = "u" ∨ t = "v") : valV kz (Sum.inr t) = some (.str (kindT t)) := by
  rcases h with h | h | h <;> (rw [h]; decide +kernel)
/-- what holds between two programs -/
structure OutD (H H' : Hp) (b l d o : Addr) (vs : List V) (ss : List ShD) : Prop where
  box : BoxAt H' b l
  fb : Fb b H H'
  dict : H' d = some (.dK kz)
  out : H' o = some (.lst vs)
  shs : AllAt (ShAt H') vs ss
theorem OutD.but {H H1 H2 : Hp} {b l d o : Addr} {vs : List V} {ss : List ShD} (h : OutD H H1 b l d o vs ss) (hd : d ≠ b) (ho : o ≠ b) (B : BoxAt H2 b l) (u : But b H1 H2) : OutD H H2 b l d o vs ss :=
  let ⟨_, e⟩ := h.box.lst
  ⟨B, h.fb.trans u.fb, (u d hd).trans h.dict, (u o ho).trans h.out, h.shs.mono fun _ _ r => r.keep (u.fb.tk e)⟩
theorem OutD.new {H H1 : Hp} {b l d o p : Addr} {x : HO} {vs : List V} {ss : List ShD} (h : OutD H H1 b l d o vs ss) (n : H1 p = none) : OutD H (upd H1 p x) b l d o vs ss :=
  ⟨h.box.new n, h.fb.new n, (same_upd n) _ _ h.dict, (same_upd n) _ _ h.out, h.shs.mono fun _ _ r => r.keep (Tk.refl.new n)⟩
theorem OutD.put {H H1 : Hp} {b l d o p : Addr} {ys zs vs : List V} {ss : List ShD} (h : OutD H H1 b l d o vs ss) (n : H p = none) (e : H1 p = some (.lst ys)) (pb : p ≠ b) (pl : p ≠ l) (po : p ≠ o) : OutD H (upd H1 p (.lst zs)) b l d o vs ss :=
  ⟨h.box.upd pb pl, h.fb.put n, by rw [upd_ne (fun z => by rw [← z, h.dict] at e; cases e)]; exact h.dict, by rw [upd_ne po.symm]; exact h.out, h.shs.mono fun _ _ r => r.keep (Tk.refl.lst e)⟩
theorem OutD.fresh {H H1 : Hp} {b l d o p : Addr} {vs : List V} {ss : List ShD} (h : OutD H H1 b l d o vs ss) (n : H1 p = none) : H p = none ∧ p ≠ b ∧ p ≠ l ∧ p ≠ o := by
  obtain ⟨_, e1⟩ := h.box.lst
  obtain ⟨_, e2⟩ := h.box.inner
  have nb : p ≠ b := (ne_of_none e1 n).symm
  refine ⟨?_, nb, (ne_of_none e2 n).symm, (ne_of_none h.out n).symm⟩
  cases e : H p with
  | none => rfl
  | some x =>
    have z := h.fb p x e nb
    rw [n] at z
    cases z
/-- what holds between two entries of a program -/
structure InD (H H' : Hp) (b l d o a1 e : Addr) (vs : List V) (ss : List ShD) (ps : List Str) (evs : List V) (es : List EntD) : Prop where
  outer : OutD H H' b l d o vs ss
  par : H' a1 = some (.tup (ps.map V.str))
  ent : H' e = some (.lst evs)
  ents : AllAt (EntAt H') evs es
theorem InD.but {H H1 H2 : Hp} {b l d o a1 e : Addr} {vs : List V} {ss : List ShD} {ps : List Str} {evs : List V} {es : List EntD} (h : InD H H1 b l d o a1 e vs ss ps evs es) (hd : d ≠ b) (ho : o ≠ b) (he : e ≠ b) (B : BoxAt H2 b l) (u : But b H1 H2) : InD H H2 b l d o a1 e vs ss ps evs es :=
  let ⟨_, z⟩ := h.outer.box.lst
  ⟨h.outer.but hd ho B u, (u.fb.tk z) _ _ h.par, (u e he).trans h.ent, h.ents.mono fun _ _ r => r.keep (u.fb.tk z)⟩
theorem InD.new {H H1 : Hp} {b l d o a1 e p : Addr} {x : HO} {vs : List V} {ss : List ShD} {ps : List Str} {evs : List V} {es : List EntD} (h : InD H H1 b l d o a1 e vs ss ps evs es) (n : H1 p = none) : InD H (upd H1 p x) b l d o a1 e vs ss ps evs es :=
  ⟨h.outer.new n, (same_upd n) _ _ h.par, (same_upd n) _ _ h.ent, h.ents.mono fun _ _ r => r.keep (Tk.refl.new n)⟩
theorem SqL.new {K : PySem.W.Frag} {H : Hp} {a p : Addr} {o : HO} {xs : List V} (h : SqL K H a xs) (n : H p = none) : SqL K (upd H p o) a xs := (same_upd n).seq h
def spDrawn : Sp := fun vs H Q _ => ∃ (b l : Addr), vs = [.ref b] ∧ BoxAt H b l ∧ ∀ (v : V) (ss : List ShD) (H' : Hp), ShapesAt H' v ss → Wf ss → BoxAt H' b l → Fb b H H' → Q v H'
section
variable {P : Program} {w : World} {K : PySem.W.Frag} {mg : Str → Option Value} {base : Heap}
theorem c_law_drawn (T : Txt K mg) : C8.Cal P w K mg base 3 "_law_drawn" spDrawn [] := by
  have c_law_take : C8.Cal P w K mg base 1 "_law_take" spTake [] := c_law_take T
  have c_law_pick : C8.Cal P w K mg base 2 "_law_pick" (spPick K) [] := c_law_pick T
  refine cal_of T.d_law_drawn T.g_law_drawn sc_law_drawn (fun fd F => b_law_drawn F) (fun vs H Q E h => ?_) (fun cdv A outer s H vs Q E hr h => ?_)
  · obtain ⟨b, l, rfl, _⟩ := h
    rfl
  · obtain ⟨b, l, rfl, hB, k⟩ := h
    have hu := hu_of hr
    refine ⟨_, (pss_cons (ps_set (i := 1) sc_law_drawn.nd rfl (by first | exact .inl rfl | exact .inr rfl) (pe_disp (pps_cons pe_str pe_str (pps_cons pe_str pe_str (pps_cons pe_str pe_str pps_nil))) (by rfl) (by rfl) (fun z => by cases z) (by decide)))
  (pss_cons (ps_set (i := 2) sc_law_drawn.nd rfl (by first | exact .inl rfl | exact .inr rfl) (pe_lst pa_nil))
  (pss_cons (ps_for PassesOwn.never rfl (pi_range1 rfl T.z_range (pa_cons (pe_op op_add pe_int (C8.pe_c c_law_take hr (by decide) (by rfl) (pa_cons (pv 0) (pa_cons pe_int pa_nil)))) pa_nil)) (pg_name (i := 3) sc_law_drawn.nd rfl (by first | exact .inl rfl | exact .inr rfl))
    (pss_cons (ps_set (i := 4) sc_law_drawn.nd rfl (by first | exact .inl rfl | exact .inr rfl) (pe_callTy call_tuple_of (by rfl) T.z_tuple (by decide +kernel) (pa_cons (pe_lc (own := [("k", 6)]) (g := gName 6) rfl sc_law_drawn.nd (pi_range1 rfl T.z_range (pa_cons (C8.pe_c c_law_take hr (by decide) (by rfl) (pa_cons (pv 0) (pa_cons pe_int pa_nil))) pa_nil)) (blkOk_by (own := [("k", 6)]) (N := n_law_drawn) (sc := defScope s_law_drawn) (by decide +kernel)) (fun _ _ _ _ _ => (pg_name (i := 6) sc_law_drawn.nd rfl (by first | exact .inl rfl | exact .inr rfl))) (fun _ _ _ _ _ => pts_nil) (fun _ _ _ _ _ => (C8.pe_c c_law_pick hr (by decide) (by rfl) (pa_cons (pv 0) (pa_cons (pe_lst (pa_cons pe_str (pa_cons pe_str (pa_cons pe_str (pa_cons pe_str pa_nil))))) pa_nil))))) pa_nil)))
  (pss_cons (ps_set (i := 5) sc_law_drawn.nd rfl (by first | exact .inl rfl | exact .inr rfl) (pe_lst pa_nil))
  (pss_cons (ps_for PassesOwn.never rfl (pi_range1 rfl T.z_range (pa_cons (pe_op op_add pe_int (C8.pe_c c_law_take hr (by decide) (by rfl) (pa_cons (pv 0) (pa_cons pe_int pa_nil)))) pa_nil)) (pg_name (i := 6) sc_law_drawn.nd rfl (by first | exact .inl rfl | exact .inr rfl))
    (pss_cons (ps_set (i := 7) sc_law_drawn.nd rfl (by first | exact .inl rfl | exact .inr rfl) (C8.pe_c c_law_pick hr (by decide) (by rfl) (pa_cons (pv 0) (pa_cons (pe_lst (pa_cons pe_str (pa_cons pe_str (pa_cons pe_str pa_nil)))) pa_nil))))
  (pss_cons (ps_setLc (i := 8) (own := [("i", 11), ("kind", 12)]) (g := gTup K 2 (gCons (gName 11) (gCons (gName 12) gNil))) rfl sc_law_drawn.nd rfl (by rfl) (sw_true rfl rfl rfl (by decide +kernel)) (ET.pi_enumT (by rfl) T.z_enumerate (pa_cons (pv 4) pa_nil)) (blkOk_by (own := [("i", 11), ("kind", 12)]) (N := n_law_drawn) (sc := defScope s_law_drawn) (by decide +kernel)) (fun _ _ _ _ _ => (pg_tup (by rfl) (pgs_cons (pg_name (i := 11) sc_law_drawn.nd rfl (by first | exact .inl rfl | exact .inr rfl)) (pgs_cons (pg_name (i := 12) sc_law_drawn.nd rfl (by first | exact .inl rfl | exact .inr rfl)) pgs_nil)))) (fun _ _ _ _ _ => pts_one (pt_cmpR op_eq (pv 12) (pe_dget hu (pv 1) (pv 7) (fun _ _ => rfl)) (nomark _))) (fun _ _ _ _ _ => (pe_tup (pa_cons pe_str (pa_cons (pv 11) pa_nil)))))
  (C8.pss_cut (ps_set (i := 9) sc_law_drawn.nd rfl (by first | exact .inl rfl | exact .inr rfl) (pe_ifExp (pt_cmpR op_eq (pe_dget hu (pv 1) (pv 7) (fun _ _ => rfl)) pe_str (nomark _)) (C8.pe_c c_law_pick hr (by decide) (by rfl) (pa_cons (pv 0) (pa_cons (pe_lst (pa_cons pe_int (pa_cons pe_int (pa_cons (pe_un un_neg pe_int) (pa_cons (pe_op op_pow pe_int pe_int) (pa_cons pe_int pa_nil)))))) pa_nil))) (C8.pe_c c_law_pick hr (by decide) (by rfl) (pa_cons (pv 0) (pa_cons (pe_lst (pa_cons pe_str (pa_cons pe_str (pa_cons pe_str (pa_cons pe_str (pa_cons pe_str pa_nil)))))) pa_nil)))))
  (C8.pss_cut (ps_set (i := 10) sc_law_drawn.nd rfl (by first | exact .inl rfl | exact .inr rfl) (pe_ifExp (PW.pt (pw_and (pt_truth (pv 8) (by intro _; rfl)) (pw_and1 (pt_cmpR op_gt (C8.pe_c c_law_take hr (by decide) (by rfl) (pa_cons (pv 0) (pa_cons pe_int pa_nil))) pe_int (nomark _))))) (C8.pe_c c_law_pick hr (by decide) (by rfl) (pa_cons (pv 0) (pa_cons (pv 8) pa_nil))) (pe_tup (pa_cons pe_str (pa_cons (pv 9) pa_nil)))))
  (pss_one (ps_expr (pe_bm PySem.F.plainAttrs_list PySem.F.slot_list_append PySem.F.type_list_append mt_append (pv 5) (pa_cons (C8.pe_c c_law_pick hr (by decide) (by rfl) (pa_cons (pv 0) (pa_cons (pe_lst (pa_cons (pe_tup (pa_cons pe_str (pa_cons (pv 7) (pa_cons (pv 10) pa_nil)))) (pa_cons (pe_tup (pa_cons pe_str (pa_cons (pv 7) (pa_cons (pv 10) pa_nil)))) (pa_cons (pe_tup (pa_cons pe_str (pa_cons (pv 7) pa_nil))) pa_nil)))) pa_nil))) pa_nil)))))))))
  (pss_one (ps_expr (pe_bm PySem.F.plainAttrs_list PySem.F.slot_list_append PySem.F.type_list_append mt_append (pv 2) (pa_cons (pe_tup (pa_cons (pe_op op_add_str pe_str (pe_callTy call_str_int (by rfl) T.z_str (by decide +kernel) (pa_cons (pv 3) pa_nil))) (pa_cons (pv 4) (pa_cons (pe_callTy call_tuple_of (by rfl) T.z_tuple (by decide +kernel) (pa_cons (pv 5) pa_nil)) pa_nil)))) pa_nil))))))))
  (pss_one (ps_ret (pe_callTy call_tuple_of (by rfl) T.z_tuple (by decide +kernel) (pa_cons (pv 2) pa_nil))))))), ?_⟩
    obtain ⟨yb, eb⟩ := hB.lst
    obtain ⟨yl, el⟩ := hB.inner
    -- kinds = {..}; out = []
    refine fun d nd => ⟨upd_same, [(Sum.inr "t", .str "int"), (Sum.inr "u", .str "int"), (Sum.inr "v", .str "text")], rfl, by show 3 ≤ 15; decide, ?_⟩
    rw [upd_upd]
    refine ⟨Nat.zero_le _, fun o no => ?_⟩
    have hdb : d ≠ b := (ne_of_none eb nd).symm
    have nod : d ≠ o := fun z => by rw [← z, upd_same] at no; cases no
    have no0 : H o = none := by rw [upd_ne nod.symm] at no; exact no
    have hob : o ≠ b := (ne_of_none eb no0).symm
    have hol : o ≠ l := (ne_of_none el no0).symm
    have G0 : OutD H (upd (upd H d (.dK kz)) o (.lst [])) b l d o [] [] :=
      ⟨(hB.new nd).new no, (Fb.refl.new nd).new no, by rw [upd_ne nod, upd_same], upd_same, AllAt.nil⟩
    -- for p in range(1 + take(box, 3))
    refine ⟨_, rfl, b, l, 3, rfl, G0.box, by decide, by decide, fun t1 H1 t10 t13 B1 o1 => ⟨_, _, rfl, rfl, _, rfl, by omega, by omega, ?_⟩⟩
    refine for_range (lo := 0) (n := (1 + t1).toNat) (fun i σ H' => ∃ (y3 y4 y5 y6 y7 y8 y9 y10 y11 y12 : Option V) (vs : List V) (ss : List ShD), σ = [some (.ref b), some (.ref d), some (.ref o), y3, y4, y5, y6, y7, y8, y9, y10, y11, y12] ∧ OutD H H' b l d o vs ss ∧ ss.length = i ∧ ∀ s ∈ ss, WfS s)
      ⟨_, _, _, _, _, _, _, _, _, _, [], [], rfl, G0.but hdb hob B1 o1, rfl, fun s hs => by cases hs⟩ (fun i σ H2 hi h => ?_) (fun σ H2 h => ?_)
    · obtain ⟨y3, y4, y5, y6, y7, y8, y9, y10, y11, y12, vs, ss, rfl, G2, hlen, hwf⟩ := h
      -- params = tuple([pick(..) for k in range(take(box, 4))])
      refine ⟨_, rfl, b, l, 4, rfl, G2.box, by decide, by decide, fun t2 H3 t20 t24 B3 o3 => ⟨_, rfl, by omega, by omega, fun D nD => ?_⟩⟩
      have G3 := G2.but hdb hob B3 o3
      have nDb : D ≠ b := fun z => by
        obtain ⟨_, e⟩ := B3.lst
        rw [← z, nD] at e
        cases e
      refine lc_range (lo := 0) (n := t2.toNat) (fun j H' => OutD H H' b l d o vs ss ∧ ∃ ps : List Str, H' D = some (.lst (ps.map V.str)) ∧ ps.length = j ∧ ∀ k ∈ ps, k = "int" ∨ k = "text" ∨ k = "bool") ⟨G3.new nD, [], upd_same, rfl, fun k hk => by cases hk⟩ (fun j H4 hj h => ?_) (fun H4 h => ?_)
      · obtain ⟨G4, ps, eD, lps, mps⟩ := h
        refine ⟨rfl, _, rfl, by show 4 ≤ sizeLine; decide, fun m nm => ?_⟩
        have G5 := G4.new (x := .lst [.str "int", .str "text", .str "int", .str "bool"]) nm
        have nmb : m ≠ b := fun z => by
          obtain ⟨_, e⟩ := G4.box.lst
          rw [← z, nm] at e
          cases e
        have nmD : m ≠ D := fun z => by rw [← z, nm] at eD; cases eD
        refine ⟨b, l, m, _, rfl, G5.box, SqL.of upd_same, nmb, by decide, by decide, fun v H6 hv B6 o6 => ?_⟩
        have hv2 : v = .str "int" ∨ v = .str "text" ∨ v = .str "int" ∨ v = .str "bool" := by simpa using hv
        obtain ⟨k, rfl, hk⟩ : ∃ k : Str, v = .str k ∧ (k = "int" ∨ k = "text" ∨ k = "bool") := by
          rcases hv2 with e | e | e | e
          · exact ⟨_, e, .inl rfl⟩
          · exact ⟨_, e, .inr (.inl rfl)⟩
          · exact ⟨_, e, .inl rfl⟩
          · exact ⟨_, e, .inr (.inr rfl)⟩
        have G6 := G5.but hdb hob B6 o6
        have eD6 : H6 D = some (.lst (ps.map V.str)) := by rw [o6 D nDb, upd_ne nmD.symm]; exact eD
        have nHD : H D = none := by
          cases e : H D with
          | none => rfl
          | some x =>
            have := G3.fb D x e nDb
            rw [nD] at this
            cases this
        have nDl : D ≠ l := fun z => by
          obtain ⟨_, e⟩ := B3.inner
          rw [← z, nD] at e
          cases e
        have nDo : D ≠ o := fun z => by
          have e := G3.out
          rw [← z, nD] at e
          cases e
        refine ⟨_, eD6, ?_, G6.put nHD eD6 nDb nDl nDo, ps ++ [k], ?_, by rw [List.length_append, lps]; rfl, fun q hq => ?_⟩
        · rw [List.length_map, lps]
          exact small1000 (by omega)
        · rw [upd_same, List.map_append]
          rfl
        · rcases List.mem_append.mp hq with z | z
          · exact mps q z
          · rw [List.mem_singleton.mp z]
            exact hk
      · obtain ⟨G4, ps, eD, lps, mps⟩ := h
        refine ⟨D, _, rfl, .inl ⟨SqL.of eD, fun a1 na1 => ?_⟩⟩
        have G5 := G4.new (x := .tup (ps.map V.str)) na1
        -- entries = []
        refine ⟨Nat.zero_le _, fun e ne => ?_⟩
        obtain ⟨ne0, neb, nel, neo⟩ := G5.fresh ne
        have J0 : InD H (upd (upd H4 a1 (.tup (ps.map V.str))) e (.lst [])) b l d o a1 e vs ss ps [] [] := ⟨G5.new ne, by rw [upd_ne (fun z => by rw [← z, upd_same] at ne; cases ne)]; exact upd_same, upd_same, AllAt.nil⟩
        have hps : ps.length ≤ 3 := by omega
        -- for k in range(1 + take(box, 6))
        refine ⟨_, rfl, b, l, 6, rfl, J0.outer.box, by decide, by decide, fun t3 H6 t30 t36 B6 o6 => ⟨_, _, rfl, rfl, _, rfl, by omega, by omega, ?_⟩⟩
        refine for_range (lo := 0) (n := (1 + t3).toNat) (fun j σ H' => ∃ (y6 y7 y8 y9 y10 y11 y12 : Option V) (evs : List V) (es : List EntD), σ = [some (.ref b), some (.ref d), some (.ref o), some (.int (0 + (i : Nat))), some (.ref a1), some (.ref e), y6, y7, y8, y9, y10, y11, y12] ∧ InD H H' b l d o a1 e vs ss ps evs es ∧ es.length = j ∧ ∀ x ∈ es, WfE ps x)
          ⟨_, _, _, _, _, _, _, [], [], rfl, J0.but hdb hob neb B6 o6, rfl, fun x hx => by cases hx⟩ (fun j σ H7 hj h => ?_) (fun σ H7 h => ?_)
        · obtain ⟨y6, y7, y8, y9, y10, y11, y12, evs, es, rfl, J7, hle, hwe⟩ := h
          -- table = pick(box, ['t', 'u', 'v'])
          refine ⟨_, rfl, by show 3 ≤ sizeLine; decide, fun m nm => ?_⟩
          have J8 := J7.new (x := .lst [.str "t", .str "u", .str "v"]) nm
          obtain ⟨_, nmb, _, _⟩ := J7.outer.fresh nm
          refine ⟨b, l, m, _, rfl, J8.outer.box, SqL.of upd_same, nmb, by decide, by decide, fun v H9 hv B9 o9 => ?_⟩
          have J9 := J8.but hdb hob neb B9 o9
          obtain ⟨tb, rfl, htb⟩ : ∃ t : Str, v = .str t ∧ (t = "t" ∨ t = "u" ∨ t = "v") := by
            have hv2 : v = .str "t" ∨ v = .str "u" ∨ v = .str "v" := by simpa using hv
            rcases hv2 with e | e | e
            · exact ⟨_, e, .inl rfl⟩
            · exact ⟨_, e, .inr (.inl rfl)⟩
            · exact ⟨_, e, .inr (.inr rfl)⟩
          have hget : ∀ {H' : Hp}, H' d = some (.dK kz) → DGet H' d (.str tb) (some (.str (kindT tb))) := fun z => by
            have y := DGet.k (k := Sum.inr tb) z
            rw [kz_get htb] at y
            exact y
          -- keys = [..]
          refine ⟨_, rfl, a1, _, rfl, SqT.of J9.par, fun q nq => ?_⟩
          obtain ⟨nq0, nqb, nql, nqo⟩ := J9.outer.fresh nq
          have nqe : q ≠ e := (ne_of_none J9.ent nq).symm
          refine lc_it (ET.walk_enumT (K := K) (a := a1) (xs := ps.map V.str)) (fun c H' => InD H H' b l d o a1 e vs ss ps evs es ∧ ∃ (ks : List V) (is : List Nat), H' q = some (.lst ks) ∧ AllAt (fun v i => KeyAt H' v (.par i)) ks is ∧ is.length ≤ c ∧ ∀ i ∈ is, ps[i]? = some (kindT tb)) ⟨J9.new nq, [], [], upd_same, AllAt.nil, Nat.le_refl _, fun i hi => by cases hi⟩ (fun c H' _ h => SqT.of h.1.par) (fun c x H' H'' hc h y => ?_) (fun H' h => ?_)
          · obtain ⟨J, ks, is, eq, hks, lis, mis⟩ := h
            obtain ⟨T1, x1, x2, rfl, nT, rfl, ex1, ex2⟩ := y
            cases ex1
            obtain ⟨kd, hkd, rfl⟩ : ∃ kd, ps[c]? = some kd ∧ x2 = .str kd := by
              have ex2 : (ps.map V.str)[c]? = some x2 := ex2
              rw [List.getElem?_map] at ex2
              cases z : ps[c]? with
              | none => rw [z] at ex2; cases ex2
              | some kd => rw [z] at ex2; exact ⟨kd, rfl, (Option.some.inj ex2).symm⟩
            have J1 := J.new (x := .tup [.int (c : Nat), .str kd]) nT
            have eq1 := (same_upd (o := .tup [.int (c : Nat), .str kd]) nT) _ _ eq
            refine ⟨T1, _, rfl, SqT.of upd_same, rfl, _, _, rfl, _, _, rfl, rfl, rfl, ?_⟩
            refine ⟨_, rfl, _, rfl, _, rfl, d, _, rfl, hget J1.outer.dict, rfl, _, rfl, ite2 (fun z => ?_) (fun z => ?_)⟩
            · have ez : kd = kindT tb := V.str.inj (of_decide_eq_true z)
              refine ⟨_, rfl, by show 2 ≤ sizeLine; decide, fun p np => ?_⟩
              have J2 := J1.new (x := .tup [.str "param", .int (c : Nat)]) np
              have eq2 := (same_upd (o := .tup [.str "param", .int (c : Nat)]) np) _ _ eq1
              have tk2 : Tk H' (upd (upd H' T1 (.tup [.int (c : Nat), .str kd])) p (.tup [.str "param", .int (c : Nat)])) := (Tk.refl.new nT).new np
              refine ⟨_, eq2, ?_, ⟨J2.outer.put nq0 eq2 nqb nql nqo, by rw [upd_ne (fun z => by rw [← z, J2.par] at eq2; cases eq2)]; exact J2.par, by rw [upd_ne nqe.symm]; exact J2.ent, J2.ents.mono fun _ _ r => r.keep (Tk.refl.lst eq2)⟩, _, is ++ [c], upd_same, (hks.mono fun _ _ r => (r.keep tk2).keep (Tk.refl.lst eq2)).snoc ⟨p, rfl, ?_⟩, by rw [List.length_append]; exact Nat.succ_le_succ lis, fun i hi => ?_⟩
              · rw [hks.1]
                rw [List.length_map] at hc
                exact small1000 (by omega)
              · rw [upd_ne (fun z => by rw [← z, upd_same] at eq2; cases eq2), upd_same]
                rfl
              · rcases List.mem_append.mp hi with y | y
                · exact mis i y
                · rw [List.mem_singleton.mp y, hkd, ez]
            · exact ⟨J1, ks, is, eq1, hks.mono fun _ _ r => r.keep (Tk.refl.new nT), Nat.le_succ_of_le lis, mis⟩
          · obtain ⟨J10, ks, is, eq, hks, lis, mis⟩ := h
            -- value = ..
            refine ⟨fun σ' H' => ∃ (y10 y11 y12 : Option V) (z : Key), σ' = [some (.ref b), some (.ref d), some (.ref o), some (.int (0 + (i : Nat))), some (.ref a1), some (.ref e), some (.int (0 + (j : Nat))), some (.str tb), some (.ref q), some (kV z), y10, y11, y12] ∧ InD H H' b l d o a1 e vs ss ps evs es ∧ isText z = decide (tb = "v") ∧ okK z = true ∧ H' q = some (.lst ks) ∧ AllAt (fun v i => KeyAt H' v (.par i)) ks is, ?_, ?_⟩
            · refine ⟨_, rfl, _, rfl, d, _, rfl, hget J10.outer.dict, rfl, _, rfl, ite2 (fun z => ?_) (fun z => ?_)⟩
              · have ez : kindT tb = "int" := V.str.inj (of_decide_eq_true z)
                have ev : ¬ tb = "v" := fun y => by rw [y] at ez; exact absurd ez (by decide +kernel)
                refine ⟨_, rfl, _, rfl, _, _, rfl, rfl, ⟨by decide, by decide, by decide⟩, by show 5 ≤ sizeLine; decide, fun m2 nm2 => ?_⟩
                obtain ⟨_, nm2b, _, _⟩ := J10.outer.fresh nm2
                refine ⟨b, l, m2, _, rfl, (J10.new nm2).outer.box, SqL.of upd_same, nm2b, by decide, by decide, fun v H11 hv B11 o11 => ?_⟩
                obtain ⟨n, rfl⟩ : ∃ n : Int, v = .int n := by
                  have hv2 : v = .int 0 ∨ v = .int 3 ∨ v = .int (-1) ∨ v = .int (10 ^ 17) ∨ v = .int 3 := by simpa using hv
                  rcases hv2 with y | y | y | y | y <;> exact ⟨_, y⟩
                have tk : Tk H' H11 := by
                  obtain ⟨_, y⟩ := J10.outer.box.lst
                  exact (Tk.refl.new nm2).trans (o11.fb.tk ((same_upd nm2) _ _ y))
                refine ⟨_, _, _, Sum.inl n, rfl, (J10.new nm2).but hdb hob neb B11 o11, by rw [decide_eq_false ev]; rfl, rfl, ?_, hks.mono fun _ _ r => r.keep tk⟩
                rw [o11 q nqb]
                exact (same_upd nm2) _ _ eq
              · have ev : tb = "v" := by
                  rcases htb with y | y | y
                  · exact absurd (decide_eq_true (by rw [y]; decide +kernel)) z
                  · exact absurd (decide_eq_true (by rw [y]; decide +kernel)) z
                  · exact y
                refine ⟨_, rfl, by show 5 ≤ sizeLine; decide, fun m2 nm2 => ?_⟩
                obtain ⟨_, nm2b, _, _⟩ := J10.outer.fresh nm2
                refine ⟨b, l, m2, _, rfl, (J10.new nm2).outer.box, SqL.of upd_same, nm2b, by decide, by decide, fun v H11 hv B11 o11 => ?_⟩
                obtain ⟨x, rfl, hxo⟩ : ∃ x : Str, v = .str x ∧ PyData.strOk x = true := by
                  have hv2 : v = .str "" ∨ v = .str "b" ∨ v = .str "v0" ∨ v = .str "B" ∨ v = .str "b" := by simpa using hv
                  rcases hv2 with y | y | y | y | y <;> exact ⟨_, y, by decide +kernel⟩
                have tk : Tk H' H11 := by
                  obtain ⟨_, y⟩ := J10.outer.box.lst
                  exact (Tk.refl.new nm2).trans (o11.fb.tk ((same_upd nm2) _ _ y))
                refine ⟨_, _, _, Sum.inr x, rfl, (J10.new nm2).but hdb hob neb B11 o11, by rw [decide_eq_true ev]; rfl, hxo, ?_, hks.mono fun _ _ r => r.keep tk⟩
                rw [o11 q nqb]
                exact (same_upd nm2) _ _ eq
            · rintro σ' H11 ⟨y10, y11, y12, z, rfl, J11, hz, hzo, eq11, hks11⟩
              -- key = ..
              refine ⟨fun σ' H' => ∃ (y11 y12 : Option V) (kv : V) (kd : KeyD), σ' = [some (.ref b), some (.ref d), some (.ref o), some (.int (0 + (i : Nat))), some (.ref a1), some (.ref e), some (.int (0 + (j : Nat))), some (.str tb), some (.ref q), some (kV z), some kv, y11, y12] ∧ InD H H' b l d o a1 e vs ss ps evs es ∧ KeyAt H' kv kd ∧ (∀ i, kd = .par i → ps[i]? = some (kindT tb)) ∧ (∀ k, kd = .val k → isText k = decide (tb = "v")) ∧ (∀ k, kd = .val k → okK k = true), ?_, ?_⟩
              · have hlit : (∀ i, (KeyD.val z) = .par i → ps[i]? = some (kindT tb)) ∧ (∀ k, (KeyD.val z) = .val k → isText k = decide (tb = "v")) ∧ (∀ k, (KeyD.val z) = .val k → okK k = true) := ⟨fun i y => (by cases y), fun k y => (by cases y; exact hz), fun k y => (by cases y; exact hzo)⟩
                refine ⟨.ref q, rfl, !ks.isEmpty, .inl ⟨ks, SqL.of eq11, rfl⟩, ?_⟩
                cases hks0 : ks with
                | nil =>
                  refine iteF (iteF ⟨_, rfl, by show 2 ≤ sizeLine; decide, fun p np => ?_⟩)
                  exact ⟨_, _, _, .val z, rfl, J11.new np, ⟨p, rfl, upd_same⟩, hlit.1, hlit.2.1, hlit.2.2⟩
                | cons k1 ks1 =>
                  refine iteT ⟨_, rfl, b, l, 3, rfl, J11.outer.box, by decide, by decide, fun t4 H12 t40 t43 B12 o12 => ⟨_, _, rfl, rfl, _, rfl, ite2 (fun _ => ?_) (fun _ => ?_)⟩⟩
                  · have J12 := J11.but hdb hob neb B12 o12
                    have tk : Tk H11 H12 := let ⟨_, y⟩ := J11.outer.box.lst; o12.fb.tk y
                    have eq12 : H12 q = some (.lst ks) := (o12 q nqb).trans eq11
                    refine ⟨_, rfl, _, rfl, b, l, q, ks, rfl, B12, SqL.of eq12, nqb, by rw [hks0]; exact Nat.succ_pos _, ?_, fun v H13 hv B13 o13 => ?_⟩
                    · rw [hks.1]
                      rw [List.length_map] at lis
                      omega
                    · obtain ⟨n, hn⟩ := List.getElem?_of_mem hv
                      obtain ⟨m, hm, rK⟩ := hks11.2 n v hn
                      have tk3 : Tk H12 H13 := let ⟨_, y⟩ := B12.lst; o13.fb.tk y
                      exact ⟨_, _, v, .par m, rfl, J12.but hdb hob neb B13 o13, (rK.keep tk).keep tk3, fun i y => (by cases y; exact mis m (List.mem_of_getElem? hm)), fun k y => (by cases y), fun k y => (by cases y)⟩
                  · have J12 := J11.but hdb hob neb B12 o12
                    refine ⟨_, rfl, by show 2 ≤ sizeLine; decide, fun p np => ?_⟩
                    exact ⟨_, _, _, .val z, rfl, J12.new np, ⟨p, rfl, upd_same⟩, hlit.1, hlit.2.1, hlit.2.2⟩
              · rintro σ' H12 ⟨y11, y12, kv, kd, rfl, J12, hkv, hk1, hk2, hk3⟩
                -- entries.append(pick(box, [..]))
                refine ⟨.ref e, rfl, .inl ⟨rfl, _, .inl (.inl J12.ent)⟩, ?_⟩
                refine ⟨_, rfl, _, rfl, _, rfl, by show 3 ≤ sizeLine; decide, fun p1 n1 => ?_⟩
                have J13 := J12.new (x := .tup [.str "r", .str tb, kv]) n1
                refine ⟨_, rfl, _, rfl, by show 3 ≤ sizeLine; decide, fun p2 n2 => ?_⟩
                have J14 := J13.new (x := .tup [.str "w", .str tb, kv]) n2
                refine ⟨_, rfl, by show 2 ≤ sizeLine; decide, fun p3 n3 => ?_⟩
                have J15 := J14.new (x := .tup [.str "a", .str tb]) n3
                refine ⟨by show 3 ≤ sizeLine; decide, fun m nm => ?_⟩
                have J16 := J15.new (x := .lst [.ref p1, .ref p2, .ref p3]) nm
                obtain ⟨_, nmb, _, _⟩ := J15.outer.fresh nm
                refine ⟨b, l, m, _, rfl, J16.outer.box, SqL.of upd_same, nmb, by show 0 < 3; decide, by show 3 < 1000000000; decide, fun v H17 hv B17 o17 => ?_⟩
                have J17 := J16.but hdb hob neb B17 o17
                have tk17 : ∀ a xs, (upd (upd (upd (upd H12 p1 (.tup [.str "r", .str tb, kv])) p2 (.tup [.str "w", .str tb, kv])) p3 (.tup [.str "a", .str tb])) m (.lst [.ref p1, .ref p2, .ref p3])) a = some (.tup xs) → H17 a = some (.tup xs) := by
                  obtain ⟨_, y⟩ := J16.outer.box.lst
                  exact o17.fb.tk y
                have f1 : H17 p1 = some (.tup [.str "r", .str tb, kv]) := tk17 _ _ ((same_upd nm) _ _ ((same_upd n3) _ _ ((same_upd n2) _ _ upd_same)))
                have f2 : H17 p2 = some (.tup [.str "w", .str tb, kv]) := tk17 _ _ ((same_upd nm) _ _ ((same_upd n3) _ _ upd_same))
                have f3 : H17 p3 = some (.tup [.str "a", .str tb]) := tk17 _ _ ((same_upd nm) _ _ upd_same)
                have fk : KeyAt H17 kv kd := ((((hkv.keep (Tk.refl.new n1)).keep (Tk.refl.new n2)).keep (Tk.refl.new n3)).keep (Tk.refl.new nm)).keep tk17
                obtain ⟨x, hx, wx⟩ : ∃ x : EntD, EntAt H17 v x ∧ WfE ps x := by
                  have hv2 : v = .ref p1 ∨ v = .ref p2 ∨ v = .ref p3 := by simpa using hv
                  rcases hv2 with y | y | y
                  · exact ⟨⟨"r", tb, some kd⟩, ⟨p1, y, .inr ⟨kd, kv, rfl, (by show ¬ ("r" : Str) = "a"; decide +kernel), f1, fk⟩⟩, .inl rfl, htb, fun i z => hk1 i (Option.some.inj z), fun k z => hk2 k (Option.some.inj z), fun k z => hk3 k (Option.some.inj z)⟩
                  · exact ⟨⟨"w", tb, some kd⟩, ⟨p2, y, .inr ⟨kd, kv, rfl, (by show ¬ ("w" : Str) = "a"; decide +kernel), f2, fk⟩⟩, .inr (.inl rfl), htb, fun i z => hk1 i (Option.some.inj z), fun k z => hk2 k (Option.some.inj z), fun k z => hk3 k (Option.some.inj z)⟩
                  · exact ⟨⟨"a", tb, none⟩, ⟨p3, y, .inl ⟨rfl, rfl, f3⟩⟩, .inr (.inr rfl), htb, fun i z => (by cases z), fun k z => (by cases z), fun k z => (by cases z)⟩
                obtain ⟨_, neb2, nel2, neo2⟩ := (⟨ne0, neb, nel, neo⟩ : H e = none ∧ e ≠ b ∧ e ≠ l ∧ e ≠ o)
                refine ⟨e, evs, _, rfl, rfl, J17.ent, ?_, ?_⟩
                · have := J17.ents.1
                  rw [this]
                  exact small1000 (by omega)
                · refine ⟨_, _, _, _, _, _, _, evs ++ [v], es ++ [x], rfl, ⟨J17.outer.put ne0 J17.ent neb nel neo, ?_, upd_same, (J17.ents.mono fun _ _ r => r.keep (Tk.refl.lst J17.ent)).snoc (hx.keep (Tk.refl.lst J17.ent))⟩, by rw [List.length_append, hle]; rfl, fun y hy => ?_⟩
                  · rw [upd_ne (fun z => by have := J17.par; rw [z, J17.ent] at this; cases this)]
                    exact J17.par
                  · rcases List.mem_append.mp hy with z | z
                    · exact hwe y z
                    · rw [List.mem_singleton.mp z]
                      exact wx
        · obtain ⟨y6, y7, y8, y9, y10, y11, y12, evs, es, rfl, J7, hle, hwe⟩ := h
          -- out.append(('p' + str(p), params, tuple(entries)))
          refine ⟨.ref o, rfl, .inl ⟨rfl, _, .inl (.inl J7.outer.out)⟩, ?_⟩
          have i3 : i < 3 := by omega
          refine ⟨_, rfl, _, rfl, ?_, _, _, rfl, rfl, ?_, _, rfl, _, rfl, e, _, rfl, .inl ⟨SqL.of J7.ent, fun a2 n2 => ?_⟩⟩
          · have e3 : i = 0 ∨ i = 1 ∨ i = 2 := by omega
            rcases e3 with z | z | z <;> (rw [z]; decide +kernel)
          · have e3 : i = 0 ∨ i = 1 ∨ i = 2 := by omega
            rcases e3 with z | z | z <;> (rw [z]; decide +kernel)
          · have J8 := J7.new (x := .tup evs) n2
            refine ⟨by show 3 ≤ sizeLine; decide, fun p np => ?_⟩
            have J9 := J8.new (x := .tup [.str ("p" ++ Str.ofString (toString (0 + (i : Int)))), .ref a1, .ref a2]) np
            refine ⟨o, vs, _, rfl, rfl, J9.outer.out, ?_, ?_⟩
            · rw [J9.outer.shs.1]
              exact small1000 (by omega)
            · have tk : Tk H7 (upd (upd H7 a2 (.tup evs)) p (.tup [.str ("p" ++ Str.ofString (toString (0 + (i : Int)))), .ref a1, .ref a2])) := (Tk.refl.new n2).new np
              have hsh : ShAt (upd (upd H7 a2 (.tup evs)) p (.tup [.str ("p" ++ Str.ofString (toString (0 + (i : Int)))), .ref a1, .ref a2])) (.ref p) ⟨ps, es⟩ :=
                ⟨p, a1, a2, _, evs, rfl, upd_same, J9.par, (same_upd np) _ _ upd_same, J9.ents⟩
              refine ⟨_, _, _, _, _, _, _, _, _, _, vs ++ [.ref p], ss ++ [⟨ps, es⟩], rfl, ⟨J9.outer.box.upd hob hol, J9.outer.fb.put no0, ?_, upd_same, (J9.outer.shs.mono fun _ _ r => r.keep (Tk.refl.lst J9.outer.out)).snoc (hsh.keep (Tk.refl.lst J9.outer.out))⟩, by rw [List.length_append, hlen]; rfl, fun s hs => ?_⟩
              · rw [upd_ne nod]
                exact J9.outer.dict
              · rcases List.mem_append.mp hs with z | z
                · exact hwf s z
                · rw [List.mem_singleton.mp z]
                  exact ⟨⟨hps, mps⟩, by show es.length ≤ 6; omega, hwe⟩
    · obtain ⟨y3, y4, y5, y6, y7, y8, y9, y10, y11, y12, vs, ss, rfl, G2, hlen, hwf⟩ := h
      refine ⟨_, rfl, o, vs, rfl, .inl ⟨SqL.of G2.out, fun p np => ?_⟩⟩
      have G3 := G2.new (x := .tup vs) np
      exact k _ ss _ ⟨p, vs, rfl, upd_same, G3.shs⟩ ⟨by omega, hwf⟩ G3.box G3.fb
end
end K10
set_option Elab.async false
set_option linter.all false
set_option maxRecDepth 100000
set_option maxHeartbeats 4000000
namespace K10
open PySem PySem.Spec PyProof.Rows L2
/-! ### signs, rows -/
inductive Sg where
  | cls (n : Nat)
  | lit (v : V)
def Sg.xs : Sg → List V
  | .cls n => [.int 0, .int n]
  | .lit v => [.int 1, v]
def SgAt (H : Hp) (v : V) (g : Sg) : Prop := ∃ p, v = .ref p ∧ H p = some (.tup g.xs)
def RowAt (H : Hp) (v : V) (r : List Sg) : Prop := ∃ p vs, v = .ref p ∧ H p = some (.tup vs) ∧ AllAt (SgAt H) vs r
theorem SgAt.keep {H H' : Hp} {v : V} {g : Sg} (h : SgAt H v g) (t : Tk H H') : SgAt H' v g := by
  obtain ⟨p, e, h⟩ := h
  exact ⟨p, e, t _ _ h⟩
theorem RowAt.keep {H H' : Hp} {v : V} {r : List Sg} (h : RowAt H v r) (t : Tk H H') : RowAt H' v r := by
  obtain ⟨p, vs, e, h, a⟩ := h
  exact ⟨p, vs, e, t _ _ h, a.mono fun _ _ x => x.keep t⟩
def EntD.par (e : EntD) : Option Nat := match e.key with
  | some (.par i) => some i
  | _ => none
def Sg.cl : Sg → Option Nat
  | .cls n => some n
  | .lit _ => none
def named (s : ShD) : List Nat := s.ents.filterMap EntD.par
def nums (r : List Sg) : List Nat := r.filterMap Sg.cl
def free (r : List Sg) : List Nat := (List.range (r.length + 1)).filter fun n => !decide (n ∈ nums r)
def least (r : List Sg) : Nat := (free r).headD 0
def old1 (s : ShD) (r : List Sg) (k : Nat) : Option Nat := if k ∈ named s ∧ s.params[k]? = s.params[r.length]? then (r[k]?).bind Sg.cl else none
def old (s : ShD) (r : List Sg) : List Nat := (List.range r.length).filterMap (old1 s r)
noncomputable def opts (ss : List ShD) (s : ShD) (r : List Sg) : List Sg :=
  if r.length ∈ named s then ((List.range 64).filter fun n => decide (n ∈ old s r ++ [least r])).map Sg.cls ++ (canon (s.params.getD r.length "") ss).map Sg.lit else [.cls (least r)]
theorem inj_take {α β : Type} {f : α → Option β} {g : β → V} {l : List α} {i : Nat} {a : α} (h : l[i]? = some a) : ((l.take (i + 1)).filterMap f).map g = ((l.take i).filterMap f).map g ++ ((f a).toList.map g) := by
  rw [List.take_add_one, h, List.filterMap_append, List.map_append]
  congr 1
theorem free_le (r : List Sg) : (free r).length ≤ r.length + 1 := by
  unfold free
  refine Nat.le_trans (List.length_filter_le _ _) ?_
  rw [List.length_range]
  exact Nat.le_refl _
theorem free_mem (r : List Sg) (h : ∀ n ∈ nums r, n < r.length) : r.length ∈ free r := by
  unfold free
  refine List.mem_filter.mpr ⟨List.mem_range.mpr (Nat.lt_succ_self _), ?_⟩
  rw [decide_eq_false fun z => Nat.lt_irrefl _ (h _ z)]
  rfl
theorem least_at (r : List Sg) (h : ∀ n ∈ nums r, n < r.length) : (free r)[0]? = some (least r) ∧ least r ≤ r.length := by
  unfold least
  cases e : free r with
  | nil =>
    have := free_mem r h
    rw [e] at this
    cases this
  | cons n ns =>
    refine ⟨rfl, ?_⟩
    have z : n ∈ free r := by rw [e]; exact List.mem_cons_self ..
    unfold free at z
    have := List.mem_range.mp (List.mem_filter.mp z).1
    show n ≤ r.length
    omega
/-- references to signs of classes -/
theorem refs_of {H : Hp} : ∀ {vs : List V} {ns : List Nat}, AllAt (fun v n => SgAt H v (.cls n)) vs ns → ∃ ks : List (Addr × List Int), vs = ks.map (fun p => V.ref p.1) ∧ ks.map (·.2) = ns.map (fun n : Nat => [0, (n : Int)]) ∧ ∀ p ∈ ks, H p.1 = some (.tup (p.2.map V.int))
  | [], [], _ => ⟨[], rfl, rfl, fun p hp => by cases hp⟩
  | [], _ :: _, h => by cases h.1
  | _ :: _, [], h => by cases h.1
  | v :: vs, n :: ns, h => by
    obtain ⟨m, e1, a, rfl, e2⟩ := h.2 0 v rfl
    cases e1
    obtain ⟨ks, k1, k2, k3⟩ := refs_of (vs := vs) (ns := ns) ⟨Nat.succ.inj h.1, fun i x e => h.2 (i + 1) x e⟩
    refine ⟨(a, [0, (n : Int)]) :: ks, by rw [k1]; rfl, by rw [List.map_cons, k2]; rfl, fun p hp => ?_⟩
    rcases List.mem_cons.mp hp with z | z
    · rw [z]; exact e2
    · exact k3 p z
/-- .. and back -/
theorem refs_back {H : Hp} : ∀ {ks : List (Addr × List Int)} {ns : List Nat}, ks.map (·.2) = ns.map (fun n : Nat => [0, (n : Int)]) → (∀ p ∈ ks, H p.1 = some (.tup (p.2.map V.int))) → AllAt (SgAt H) (ks.map fun p => V.ref p.1) (ns.map Sg.cls)
  | [], [], _, _ => AllAt.nil
  | [], _ :: _, h, _ => by cases h
  | _ :: _, [], h, _ => by cases h
  | p :: ks, n :: ns, h, a => by
    obtain ⟨h1, h2⟩ := List.cons.inj h
    have ih := refs_back h2 fun q hq => a q (List.mem_cons_of_mem _ hq)
    refine ⟨by rw [List.length_map, List.length_map]; have := congrArg List.length h; rw [List.length_map, List.length_map] at this; exact this, fun i x e => ?_⟩
    cases i with
    | zero =>
      cases e
      refine ⟨.cls n, rfl, p.1, rfl, ?_⟩
      have := a p (List.mem_cons_self ..)
      rw [show p.2 = [0, (n : Int)] from h1] at this
      exact this
    | succ i => exact ih.2 i x e
theorem AllAt.append {α : Type} {R : V → α → Prop} {vs ws : List V} {as bs : List α} (h : AllAt R vs as) (h' : AllAt R ws bs) : AllAt R (vs ++ ws) (as ++ bs) := by
  refine ⟨by rw [List.length_append, List.length_append, h.1, h'.1], fun i x e => ?_⟩
  by_cases hi : i < vs.length
  · rw [List.getElem?_append_left hi] at e
    obtain ⟨b, e2, r2⟩ := h.2 i x e
    exact ⟨b, by rw [List.getElem?_append_left (by rw [← h.1]; exact hi)]; exact e2, r2⟩
  · have hi2 : vs.length ≤ i := Nat.le_of_not_lt hi
    rw [List.getElem?_append_right hi2] at e
    obtain ⟨b, e2, r2⟩ := h'.2 _ x e
    exact ⟨b, by rw [List.getElem?_append_right (by rw [← h.1]; exact hi2), ← h.1]; exact e2, r2⟩
theorem old_lt {s : ShD} {r : List Sg} (h : ∀ n ∈ nums r, n < r.length) : ∀ n ∈ old s r, n < r.length := fun n hn => by
  obtain ⟨k, _, e⟩ := List.mem_filterMap.mp hn
  unfold old1 at e
  split at e
  · cases er : r[k]? with
    | none => rw [er] at e; cases e
    | some g =>
      rw [er] at e
      exact h n (List.mem_filterMap.mpr ⟨g, List.mem_of_getElem? er, e⟩)
  · cases e
/-- rising pairs of class 0 are the sorted numbers -/
theorem sort_is {ks : List (Addr × List Int)} {os : List Nat} (few : ∀ n ∈ os, n < 64) (hm : ∀ x, x ∈ ks.map (·.2) ↔ x ∈ os.map (fun n : Nat => [0, (n : Int)])) (nd : (ks.map (·.2)).Nodup) (pw : ks.Pairwise (fun q r => TS.code 64 q.2 ≤ TS.code 64 r.2)) :
    ks.map (·.2) = ((List.range 64).filter fun n => decide (n ∈ os)).map (fun n : Nat => [0, (n : Int)]) := by
  refine uniq (lt := fun a b => TS.code 64 a < TS.code 64 b) (fun a b h1 h2 => by omega) ?_ ?_ fun x => ?_
  · have pm : (ks.map (·.2)).Pairwise (fun a b => TS.code 64 a ≤ TS.code 64 b) := List.pairwise_map.mpr pw
    refine (List.Pairwise.and pm nd).imp_of_mem fun {a b} ha hb h => ?_
    obtain ⟨n, hn, rfl⟩ := List.mem_map.mp ((hm a).1 ha)
    obtain ⟨m, hm', rfl⟩ := List.mem_map.mp ((hm b).1 hb)
    obtain ⟨h1, h2⟩ := h
    rw [code_pair, code_pair] at h1 ⊢
    have : (n : Int) ≠ m := fun z => h2 (by rw [z])
    omega
  · refine List.pairwise_map.mpr (List.Pairwise.imp (fun {a b} h => ?_) (List.Pairwise.filter _ (List.pairwise_lt_range)))
    rw [code_pair, code_pair]
    have : (a : Int) < b := Int.ofNat_lt.mpr h
    omega
  · rw [hm x]
    constructor
    · intro h
      obtain ⟨n, hn, rfl⟩ := List.mem_map.mp h
      exact List.mem_map_of_mem (List.mem_filter.mpr ⟨List.mem_range.mpr (few n hn), decide_eq_true hn⟩)
    · intro h
      obtain ⟨n, hn, rfl⟩ := List.mem_map.mp h
      exact List.mem_map_of_mem (of_decide_eq_true (List.mem_filter.mp hn).2)
def spOptions : Sp := fun vs H Q _ => ∃ (a v rv : V) (ss : List ShD) (s : ShD) (r : List Sg), vs = [a, v, rv] ∧ ShapesAt H a ss ∧ ShAt H v s ∧ RowAt H rv r ∧ Few ss ∧ s.ents.length ≤ 6 ∧ s.params.length ≤ 3 ∧ r.length < s.params.length ∧ (∀ n ∈ nums r, n < r.length) ∧
  ∀ (q : Addr) (ws : List V) (H' : Hp), H q = none → H' q = some (.lst ws) → AllAt (SgAt H') ws (opts ss s r) → Same H H' → Q (.ref q) H'
section
variable {P : Program} {w : World} {K : PySem.W.Frag} {mg : Str → Option Value} {base : Heap}
theorem c_law_options (T : Txt K mg) : C8.Cal P w K mg base 2 "_law_options" spOptions [] := by
  have c_law_values : C8.Cal P w K mg base 1 "_law_values" spValues [] := c_law_values T
  refine cal_of T.d_law_options T.g_law_options sc_law_options (fun fd F => b_law_options F) (fun vs H Q E h => ?_) (fun cdv A outer s H vs Q E hr h => ?_)
  · obtain ⟨a, v, rv, ss, sh, r, rfl, _⟩ := h
    rfl
  · obtain ⟨a, v, rv, ss, sh, r, rfl, hS, hs, hR, few, he6, hp3, hlt, hnum, k⟩ := h
    refine ⟨_, (pss_cons (ps_set (i := 3) sc_law_options.nd rfl (by first | exact .inl rfl | exact .inr rfl) (pe_callB call_len_seq (by rfl) T.z_len (by decide +kernel) (pa_cons (pv 2) pa_nil)))
  (pss_cons (ps_set (i := 4) sc_law_options.nd rfl (by first | exact .inl rfl | exact .inr rfl) (pe_lc (own := [("entry", 8)]) (g := gName 8) rfl sc_law_options.nd (pi_tup (pe_ix ix_tup (pv 1) pe_int (fun _ _ => rfl))) (blkOk_by (own := [("entry", 8)]) (N := n_law_options) (sc := defScope s_law_options) (by decide +kernel)) (fun _ _ _ _ _ => (pg_name (i := 8) sc_law_options.nd rfl (by first | exact .inl rfl | exact .inr rfl))) (fun _ _ _ _ _ => pts_one (PW.pt (pw_and (pt_cmpR op_ne (pe_ix (ix_tupK (K := K) rfl) (pv 8) pe_int (fun _ _ => rfl)) pe_str (nomark _)) (pw_and1 (pt_cmpR op_eq (pe_ix (ix_tupK (K := K) rfl) (pe_ix (ix_tupK (K := K) rfl) (pv 8) pe_int (fun _ _ => rfl)) pe_int (fun _ _ => rfl)) pe_str (nomark _)))))) (fun _ _ _ _ _ => (pe_ix (ix_tupK (K := K) rfl) (pe_ix (ix_tupK (K := K) rfl) (pv 8) pe_int (fun _ _ => rfl)) pe_int (fun _ _ => rfl)))))
  (pss_cons (ps_set (i := 5) sc_law_options.nd rfl (by first | exact .inl rfl | exact .inr rfl) (pe_lc (own := [("sign", 9)]) (g := gName 9) rfl sc_law_options.nd (pi_tup (pv 2)) (blkOk_by (own := [("sign", 9)]) (N := n_law_options) (sc := defScope s_law_options) (by decide +kernel)) (fun _ _ _ _ _ => (pg_name (i := 9) sc_law_options.nd rfl (by first | exact .inl rfl | exact .inr rfl))) (fun _ _ _ _ _ => pts_one (pt_cmpR op_eq (pe_ix (ix_tupK (K := K) rfl) (pv 9) pe_int (fun _ _ => rfl)) pe_int (nomark _))) (fun _ _ _ _ _ => (pe_ix (ix_tupK (K := K) rfl) (pv 9) pe_int (fun _ _ => rfl)))))
  (pss_cons (ps_set (i := 6) sc_law_options.nd rfl (by first | exact .inl rfl | exact .inr rfl) (pe_ix ix_list (pe_lc (own := [("n", 10)]) (g := gName 10) rfl sc_law_options.nd (pi_range1 rfl T.z_range (pa_cons (pe_op op_add (pe_callB call_len_seq (by rfl) T.z_len (by decide +kernel) (pa_cons (pv 2) pa_nil)) pe_int) pa_nil)) (blkOk_by (own := [("n", 10)]) (N := n_law_options) (sc := defScope s_law_options) (by decide +kernel)) (fun _ _ _ _ _ => (pg_name (i := 10) sc_law_options.nd rfl (by first | exact .inl rfl | exact .inr rfl))) (fun _ _ _ _ _ => pts_one (pt_cmpR (op_notIn_seqK (K := K) rfl) (pv 10) (pv 5) (by rfl))) (fun _ _ _ _ _ => (pv 10))) pe_int (fun _ _ => rfl)))
  (pss_cons (ps_if (pt_cmpR op_notIn_seq (pv 3) (pv 4) (by rfl))
    (pss_one (ps_ret (pe_lst (pa_cons (pe_tup (pa_cons pe_int (pa_cons (pv 6) pa_nil))) pa_nil))))
    pss_nil)
  (pss_cons (ps_setLc (i := 7) (own := [("k", 11)]) (g := gName 11) rfl sc_law_options.nd rfl (by rfl) (sw_true rfl rfl rfl (by decide +kernel)) (pi_range1 rfl T.z_range (pa_cons (pv 3) pa_nil)) (blkOk_by (own := [("k", 11)]) (N := n_law_options) (sc := defScope s_law_options) (by decide +kernel)) (fun _ _ _ _ _ => (pg_name (i := 11) sc_law_options.nd rfl (by first | exact .inl rfl | exact .inr rfl))) (fun _ _ _ _ _ => pts_one (PW.pt (pw_and (pt_cmpR (op_in_seqK (K := K) rfl) (pv 11) (pv 4) (by rfl)) (pw_and (pt_cmpR op_eq (pe_ix (ix_tupK (K := K) rfl) (pe_ix (ix_tupK (K := K) rfl) (pv 1) pe_int (fun _ _ => rfl)) (pv 11) (fun _ _ => rfl)) (pe_ix (ix_tupK (K := K) rfl) (pe_ix (ix_tupK (K := K) rfl) (pv 1) pe_int (fun _ _ => rfl)) (pv 3) (fun _ _ => rfl)) (nomark _)) (pw_and1 (pt_cmpR op_eq (pe_ix (ix_tupK (K := K) rfl) (pe_ix (ix_tupK (K := K) rfl) (pv 2) (pv 11) (fun _ _ => rfl)) pe_int (fun _ _ => rfl)) pe_int (nomark _))))))) (fun _ _ _ _ _ => (pe_ix (ix_tupK (K := K) rfl) (pv 2) (pv 11) (fun _ _ => rfl))))
  (pss_one (ps_ret (pe_op op_cat (pe_callB (cr_sortedT rfl) (by rfl) T.z_sorted (by decide +kernel) (pa_cons (pe_callTy (cr_setOfT rfl hr.units) (by rfl) T.z_set (by decide +kernel) (pa_cons (pe_op op_cat (pv 7) (pe_lst (pa_cons (pe_tup (pa_cons pe_int (pa_cons (pv 6) pa_nil))) pa_nil))) pa_nil)) pa_nil)) (pe_lc (own := [("value", 12)]) (g := gName 12) rfl sc_law_options.nd (pi_list (C8.pe_c c_law_values hr (by decide) (by rfl) (pa_cons (pv 0) (pa_cons (pe_ix ix_tup (pe_ix ix_tup (pv 1) pe_int (fun _ _ => rfl)) (pv 3) (fun _ _ => rfl)) pa_nil)))) (blkOk_by (own := [("value", 12)]) (N := n_law_options) (sc := defScope s_law_options) (by decide +kernel)) (fun _ _ _ _ _ => (pg_name (i := 12) sc_law_options.nd rfl (by first | exact .inl rfl | exact .inr rfl))) (fun _ _ _ _ _ => pts_nil) (fun _ _ _ _ _ => (pe_tup (pa_cons pe_int (pa_cons (pv 12) pa_nil)))))))))))))), ?_⟩
    obtain ⟨p, a1, a2, nm, es, rfl, hp, ha1, hes, hE⟩ := id hs
    obtain ⟨q, gs, rfl, hq, hG⟩ := id hR
    -- at = len(row)
    refine ⟨_, rfl, q, gs, rfl, .inr (SqT.of hq), ?_⟩
    rw [hG.1]
    -- keys
    refine ⟨_, rfl, _, _, _, _, rfl, rfl, SqT.of hp, rfl, a2, rfl, ⟨_, SqT.of hes⟩, fun D1 n1 => ?_⟩
    have tk1 : ∀ {o : HO}, Tk H (upd H D1 o) := Tk.refl.new n1
    refine lc_tup (K := K) (a := a2) (xs := es) (fun i H' => H' = upd H D1 (.lst (((sh.ents.take i).filterMap EntD.par).map fun n : Nat => V.int (n : Int)))) rfl (fun i H' _ h => ?_) (fun i v H' hv h => ?_) (fun H' h => ?_)
    · rw [h]; exact SqT.of (tk1 _ _ hes)
    · subst h
      obtain ⟨e, he, x, rfl, rE⟩ := hE.2 i v hv
      have step := inj_take (f := EntD.par) (g := fun n : Nat => V.int (n : Int)) he
      refine ⟨rfl, ?_⟩
      rcases rE with ⟨e1, e2, e3⟩ | ⟨kd1, kv, e1, e2, e3, m, rfl, e4⟩
      · have el : e.par = none := by unfold EntD.par; rw [e1]
        rw [el] at step
        refine ⟨_, rfl, _, _, _, _, rfl, rfl, SqT.of (tk1 _ _ e3), rfl, rfl, _, rfl, iteF (iteF ?_)⟩
        rw [step]
        simp
      · refine ⟨_, rfl, _, _, _, _, rfl, rfl, SqT.of (tk1 _ _ e3), rfl, rfl, _, rfl, ?_⟩
        have ne : (!decide (V.str e.op = V.str (Str.ofString "a"))) = true := by
          rw [decide_eq_false fun z => e2 (V.str.inj z)]
          rfl
        rw [ne]
        refine iteT ⟨_, rfl, _, _, _, _, rfl, rfl, SqT.of (tk1 _ _ e3), rfl, ?_⟩
        cases kd1 with
        | val z =>
          have el : e.par = none := by unfold EntD.par; rw [e1]
          rw [el] at step
          refine ⟨_, _, _, _, rfl, rfl, SqT.of (tk1 _ _ e4), rfl, rfl, _, rfl, ?_⟩
          have nv : decide (V.str (Str.ofString "value") = V.str (Str.ofString "param")) = false := by decide +kernel
          show if decide (V.str (Str.ofString "value") = V.str (Str.ofString "param")) = true then _ else _
          rw [nv]
          refine iteF ?_
          rw [step]
          simp
        | par n =>
          have el : e.par = some n := by unfold EntD.par; rw [e1]
          rw [el] at step
          refine ⟨_, _, _, _, rfl, rfl, SqT.of (tk1 _ _ e4), rfl, rfl, _, rfl, ?_⟩
          have nv : decide (V.str (Str.ofString "param") = V.str (Str.ofString "param")) = true := by decide +kernel
          show if decide (V.str (Str.ofString "param") = V.str (Str.ofString "param")) = true then _ else _
          rw [nv]
          refine iteT ⟨_, rfl, _, _, _, _, rfl, rfl, SqT.of (tk1 _ _ e3), rfl, _, _, _, _, rfl, rfl, SqT.of (tk1 _ _ e4), rfl, _, upd_same, ?_, ?_⟩
          · rw [List.length_map]
            refine small1000 (Nat.le_trans (List.length_filterMap_le _ _) (Nat.le_trans (List.length_take_le' ..) (by omega)))
          · rw [upd_upd, step]
            rfl
    · rw [hE.1, List.take_length] at h
      subst h
      -- numbers
      have hq1 := tk1 (o := .lst ((named sh).map fun n : Nat => V.int (n : Int))) _ _ hq
      have hG1 := hG.mono fun _ _ x => x.keep (tk1 (o := .lst ((named sh).map fun n : Nat => V.int (n : Int))))
      have s1 : Same H (upd H D1 (.lst ((named sh).map fun n : Nat => V.int (n : Int)))) := same_upd n1
      obtain ⟨H1, eH1⟩ : ∃ H1, H1 = upd H D1 (.lst ((named sh).map fun n : Nat => V.int (n : Int))) := ⟨_, rfl⟩
      have d1 : H1 D1 = some (.lst ((named sh).map fun n : Nat => V.int (n : Int))) := by rw [eH1]; exact upd_same
      rw [← eH1] at hq1 hG1 s1
      show tSeq _ _ _ _ (upd H D1 (.lst ((named sh).map fun n : Nat => V.int (n : Int))))
      rw [← eH1]
      clear eH1
      refine ⟨_, rfl, q, rfl, ⟨_, SqT.of hq1⟩, fun D2 n2 => ?_⟩
      refine lc_tup (K := K) (a := q) (xs := gs) (fun i H' => H' = upd H1 D2 (.lst (((r.take i).filterMap Sg.cl).map fun n : Nat => V.int (n : Int)))) rfl (fun i H' _ h => ?_) (fun i v H' hv h => ?_) (fun H' h => ?_)
      · rw [h]; exact SqT.of ((same_upd n2) _ _ hq1)
      · subst h
        obtain ⟨g, hg, x, rfl, hx⟩ := hG1.2 i v hv
        have step := inj_take (f := Sg.cl) (g := fun n : Nat => V.int (n : Int)) hg
        have hx2 := (same_upd (o := .lst (((r.take i).filterMap Sg.cl).map fun n : Nat => V.int (n : Int))) n2) _ _ hx
        refine ⟨rfl, _, rfl, ?_⟩
        cases g with
        | cls n =>
          refine ⟨_, _, _, _, rfl, rfl, SqT.of hx2, rfl, rfl, _, rfl, iteT ⟨_, rfl, _, _, _, _, rfl, rfl, SqT.of hx2, rfl, _, upd_same, ?_, ?_⟩⟩
          · rw [List.length_map]
            refine small1000 (Nat.le_trans (List.length_filterMap_le _ _) (Nat.le_trans (List.length_take_le' ..) (by omega)))
          · rw [upd_upd, step]
            rfl
        | lit y =>
          refine ⟨_, _, _, _, rfl, rfl, SqT.of hx2, rfl, rfl, _, rfl, ?_⟩
          have nv : decide (V.int 1 = V.int 0) = false := by decide
          show if decide (V.int 1 = V.int 0) = true then _ else _
          rw [nv]
          refine iteF ?_
          rw [step]
          simp [Sg.cl]
      · rw [hG1.1, List.take_length] at h
        subst h
        have hq2 := (same_upd (o := .lst ((nums r).map fun n : Nat => V.int (n : Int))) n2) _ _ hq1
        have hG2 := hG1.mono fun _ _ x => x.keep (Tk.of_same (same_upd (o := .lst ((nums r).map fun n : Nat => V.int (n : Int))) n2))
        have d1' := (same_upd (o := .lst ((nums r).map fun n : Nat => V.int (n : Int))) n2) _ _ d1
        have s2 : Same H (upd H1 D2 (.lst ((nums r).map fun n : Nat => V.int (n : Int)))) := s1.trans (same_upd n2)
        obtain ⟨H2, eH2⟩ : ∃ H2, H2 = upd H1 D2 (.lst ((nums r).map fun n : Nat => V.int (n : Int))) := ⟨_, rfl⟩
        have d2 : H2 D2 = some (.lst ((nums r).map fun n : Nat => V.int (n : Int))) := by rw [eH2]; exact upd_same
        rw [← eH2] at hq2 hG2 s2 d1'
        show tSeq _ _ _ _ (upd H1 D2 (.lst ((nums r).map fun n : Nat => V.int (n : Int))))
        rw [← eH2]
        clear eH2
        -- least
        refine ⟨_, rfl, q, gs, rfl, .inr (SqT.of hq2), _, _, rfl, rfl, _, rfl, by omega, by rw [hG.1]; omega, fun D3 n3 => ?_⟩
        have eN : ((gs.length : Int) + 1).toNat = r.length + 1 := by rw [hG.1]; omega
        rw [eN]
        refine lc_range (lo := 0) (n := r.length + 1) (fun i H' => H' = upd H2 D3 (.lst (((List.range i).filter fun n => !decide (n ∈ nums r)).map fun n : Nat => V.int (n : Int)))) rfl (fun i H' hi h => ?_) (fun H' h => ?_)
        · subst h
          have d2' := (same_upd (o := .lst (((List.range i).filter fun n => !decide (n ∈ nums r)).map fun n : Nat => V.int (n : Int))) n3) _ _ d2
          rw [Int.zero_add]
          refine ⟨rfl, _, rfl, _, rfl, D2, _, rfl, .inl (SqL.of d2'), rfl, flat_nat _, _, rfl, ?_⟩
          show if (!inV (.int (i : Int)) ((nums r).map fun n : Nat => V.int (n : Int))) = true then _ else _
          rw [inV_nat, List.range_succ, List.filter_append, List.map_append]
          by_cases z : i ∈ nums r
          · rw [decide_eq_true z]
            refine iteF ?_
            simp [z]
          · rw [decide_eq_false z]
            refine iteT ⟨_, rfl, _, upd_same, ?_, ?_⟩
            · rw [List.length_map]
              refine small1000 (Nat.le_trans (List.length_filter_le _ _) (by rw [List.length_range]; omega))
            · rw [upd_upd]
              simp [z]
        · have l0 := least_at r hnum
          subst h
          have eIx : atI ((free r).map fun n : Nat => V.int (n : Int)) 0 = some (.int (least r : Int)) := atI_nat (j := 0) (by rw [List.getElem?_map, l0.1]; rfl)
          refine ⟨_, _, _, _, rfl, rfl, SqL.of upd_same, eIx, ?_⟩
          have hq3 := (same_upd (o := .lst ((free r).map fun n : Nat => V.int (n : Int))) n3) _ _ hq2
          have hG3 := hG2.mono fun _ _ x => x.keep (Tk.of_same (same_upd (o := .lst ((free r).map fun n : Nat => V.int (n : Int))) n3))
          have d1'' := (same_upd (o := .lst ((free r).map fun n : Nat => V.int (n : Int))) n3) _ _ d1'
          have s3 : Same H (upd H2 D3 (.lst ((free r).map fun n : Nat => V.int (n : Int)))) := s2.trans (same_upd n3)
          obtain ⟨H3, eH3⟩ : ∃ H3, H3 = upd H2 D3 (.lst ((free r).map fun n : Nat => V.int (n : Int))) := ⟨_, rfl⟩
          rw [← eH3] at hq3 hG3 s3 d1''
          show tSeq _ _ _ _ (upd H2 D3 (.lst ((free r).map fun n : Nat => V.int (n : Int))))
          rw [← eH3]
          clear eH3 hq2 hG2 s2 d1' hq1 hG1 s1 d1 eIx
          -- if at not in keys
          refine ⟨_, rfl, _, rfl, D1, _, rfl, .inl (SqL.of d1''), rfl, flat_nat _, _, rfl, ?_⟩
          show if (!inV (.int (r.length : Int)) ((named sh).map fun n : Nat => V.int (n : Int))) = true then _ else _
          rw [inV_nat]
          by_cases hat : r.length ∈ named sh
          · rw [decide_eq_true hat]
            refine iteF ?_
            -- old
            have hp' := s3 _ _ hp
            have ha' := s3 _ _ ha1
            refine ⟨_, rfl, _, rfl, by omega, by omega, fun D4 n4 => ?_⟩
            rw [show ((r.length : Nat) : Int).toNat = r.length from Int.toNat_natCast _]
            refine lc_range (lo := 0) (n := r.length) (fun i H' => ∃ vs', H' = upd H3 D4 (.lst vs') ∧ AllAt (fun v n => SgAt H3 v (.cls n)) vs' ((List.range i).filterMap (old1 sh r))) ⟨[], rfl, AllAt.nil⟩ (fun i H' hi h => ?_) (fun H' h => ?_)
            · obtain ⟨vs', rfl, hvs⟩ := h
              have st : ∀ {o : HO}, Same H3 (upd H3 D4 o) := same_upd n4
              rw [Int.zero_add]
              have step : (List.range (i + 1)).filterMap (old1 sh r) = (List.range i).filterMap (old1 sh r) ++ (old1 sh r i).toList := by
                rw [List.range_succ, List.filterMap_append]
                congr 1
              refine ⟨rfl, _, rfl, _, rfl, D1, _, rfl, .inl (SqL.of (st _ _ d1'')), rfl, flat_nat _, _, rfl, ?_⟩
              show if (inV (.int (i : Int)) ((named sh).map fun n : Nat => V.int (n : Int))) = true then _ else _
              rw [inV_nat]
              by_cases zi : i ∈ named sh
              · rw [decide_eq_true zi]
                have li : i < sh.params.length := by omega
                have gi : atI (sh.params.map V.str) (i : Int) = some (.str (sh.params[i])) := atI_nat (by rw [List.getElem?_map, List.getElem?_eq_getElem li]; rfl)
                have gl : atI (sh.params.map V.str) (r.length : Int) = some (.str (sh.params[r.length])) := atI_nat (by rw [List.getElem?_map, List.getElem?_eq_getElem hlt]; rfl)
                refine iteT ⟨_, rfl, _, _, _, _, rfl, rfl, SqT.of (st _ _ hp'), rfl, _, rfl, _, _, _, _, rfl, rfl, SqT.of (st _ _ ha'), gi, _, rfl, _, _, _, _, rfl, rfl, SqT.of (st _ _ hp'), rfl, _, rfl, _, _, _, _, rfl, rfl, SqT.of (st _ _ ha'), gl, rfl, _, rfl, ite2 (fun z => ?_) (fun z => ?_)⟩
                · have ep : sh.params[i]? = sh.params[r.length]? := by
                    rw [List.getElem?_eq_getElem li, List.getElem?_eq_getElem hlt, V.str.inj (of_decide_eq_true z)]
                  have lg : i < gs.length := by rw [hG.1]; exact hi
                  obtain ⟨g, hg, x, hx1, hx2⟩ := hG3.2 i gs[i] (List.getElem?_eq_getElem lg)
                  have gg : atI gs (i : Int) = some (.ref x) := atI_nat (by rw [List.getElem?_eq_getElem lg, hx1])
                  have eo : old1 sh r i = Sg.cl g := by
                    unfold old1
                    rw [if_pos ⟨zi, ep⟩, hg]
                    rfl
                  rw [eo] at step
                  refine ⟨_, rfl, _, rfl, _, _, _, _, rfl, rfl, SqT.of (st _ _ hq3), gg, ?_⟩
                  cases g with
                  | cls n =>
                    refine ⟨_, _, _, _, rfl, rfl, SqT.of (st _ _ hx2), rfl, rfl, _, rfl, iteT ⟨_, rfl, _, rfl, _, _, _, _, rfl, rfl, SqT.of (st _ _ hq3), gg, _, upd_same, ?_, vs' ++ [.ref x], ?_, ?_⟩⟩
                    · rw [hvs.1]
                      refine small1000 (Nat.le_trans (List.length_filterMap_le _ _) (by rw [List.length_range]; omega))
                    · rw [upd_upd]
                    · rw [step]
                      exact hvs.snoc ⟨x, rfl, hx2⟩
                  | lit y =>
                    refine ⟨_, _, _, _, rfl, rfl, SqT.of (st _ _ hx2), rfl, rfl, _, rfl, ?_⟩
                    have nv : decide (V.int 1 = V.int 0) = false := by decide
                    show if decide (V.int 1 = V.int 0) = true then _ else _
                    rw [nv]
                    refine iteF ⟨vs', rfl, ?_⟩
                    rw [step]
                    simpa [Sg.cl] using hvs
                · have eo : old1 sh r i = none := by
                    unfold old1
                    rw [if_neg]
                    rintro ⟨_, y⟩
                    rw [List.getElem?_eq_getElem li, List.getElem?_eq_getElem hlt] at y
                    exact z (decide_eq_true (congrArg V.str (Option.some.inj y)))
                  rw [eo] at step
                  refine ⟨vs', rfl, ?_⟩
                  rw [step]
                  simpa using hvs
              · rw [decide_eq_false zi]
                have eo : old1 sh r i = none := by
                  unfold old1
                  rw [if_neg fun y => zi y.1]
                rw [eo] at step
                refine iteF (iteF ⟨vs', rfl, ?_⟩)
                rw [step]
                simpa using hvs
            · obtain ⟨vs', rfl, hvs⟩ := h
              have s4 : Same H3 (upd H3 D4 (.lst vs')) := same_upd n4
              obtain ⟨H4, eH4⟩ : ∃ H4, H4 = upd H3 D4 (.lst vs') := ⟨_, rfl⟩
              have d4 : H4 D4 = some (.lst vs') := by rw [eH4]; exact upd_same
              rw [← eH4] at s4
              show gName _ _ _ (upd H3 D4 (.lst vs')) _
              rw [← eH4]
              clear eH4
              -- old + [(0, least)]
              refine ⟨_, rfl, _, rfl, by show 2 ≤ sizeLine; decide, fun p1 np1 => ⟨by show 1 ≤ sizeLine; decide, fun q1 nq1 => ?_⟩⟩
              have l0 := least_at r hnum
              have lold : (old sh r).length ≤ r.length := by
                unfold old
                exact Nat.le_trans (List.length_filterMap_le _ _) (by rw [List.length_range]; exact Nat.le_refl _)
              have lvs : vs'.length ≤ 3 := by rw [hvs.1]; exact Nat.le_trans lold (by omega)
              have s5 : Same H4 (upd (upd H4 p1 (.tup [.int 0, .int (least r : Int)])) q1 (.lst [.ref p1])) := (same_upd np1).trans (same_upd nq1)
              refine ⟨D4, q1, vs', [.ref p1], rfl, rfl, s5 _ _ d4, upd_same, Nat.le_of_lt (small1000 (by simp; omega)), fun c1 nc1 => ?_⟩
              have p1at : (upd (upd H4 p1 (.tup [.int 0, .int (least r : Int)])) q1 (.lst [.ref p1])) p1 = some (.tup [.int 0, .int (least r : Int)]) := (same_upd nq1) _ _ upd_same
              have s6 : Same H4 (upd (upd (upd H4 p1 (.tup [.int 0, .int (least r : Int)])) q1 (.lst [.ref p1])) c1 (.lst (vs' ++ [.ref p1]))) := s5.trans (same_upd nc1)
              have all6 : AllAt (fun v n => SgAt (upd (upd (upd H4 p1 (.tup [.int 0, .int (least r : Int)])) q1 (.lst [.ref p1])) c1 (.lst (vs' ++ [.ref p1]))) v (.cls n)) (vs' ++ [.ref p1]) (old sh r ++ [least r]) :=
                (hvs.mono fun _ _ x => (x.keep (Tk.of_same s4)).keep (Tk.of_same s6)).snoc ⟨p1, rfl, (same_upd nc1) _ _ p1at⟩
              obtain ⟨H5, eH5⟩ : ∃ H5, H5 = upd (upd (upd H4 p1 (.tup [.int 0, .int (least r : Int)])) q1 (.lst [.ref p1])) c1 (.lst (vs' ++ [.ref p1])) := ⟨_, rfl⟩
              have c5 : H5 c1 = some (.lst (vs' ++ [.ref p1])) := by rw [eH5]; exact upd_same
              rw [← eH5] at s6 all6
              rw [← eH5]
              have s7 : Same H H5 := (s3.trans s4).trans s6
              clear eH5 nc1 nq1 np1 p1at s5
              -- sorted(set(..))
              obtain ⟨ks, k1, k2, k3⟩ := refs_of all6
              have few64 : ∀ n ∈ old sh r ++ [least r], n < 64 := fun n hn => by
                rcases List.mem_append.mp hn with y | y
                · have := old_lt hnum n y
                  omega
                · rw [List.mem_singleton.mp y]
                  omega
              have lks : ks.length ≤ 4 := by
                have := congrArg List.length k1
                rw [List.length_map, List.length_append] at this
                simp at this
                omega
              refine ⟨c1, ks, rfl, by rw [← k1]; exact SqL.of c5, fun p hp => SqT.of (k3 p hp), by omega, fun t1 L nt1 hL1 hL2 => ?_⟩
              have s8 : Same H5 (upd H5 t1 (SetTO P w t1 L)) := same_upd nt1
              have cont : ∀ p ∈ ks, ∃ n : Nat, n < 64 ∧ p.2 = [0, (n : Int)] := fun p hp => by
                have : p.2 ∈ (old sh r ++ [least r]).map (fun n : Nat => [0, (n : Int)]) := by rw [← k2]; exact List.mem_map_of_mem hp
                obtain ⟨n, hn, e⟩ := List.mem_map.mp this
                exact ⟨n, few64 n hn, e.symm⟩
              refine ⟨t1, L, 2, 64, rfl, upd_same, fun p hp => SqT.of (s8 _ _ (k3 p (hL1 p hp))), by decide, fun p hp => ?_, fun L' t2 pm nd l64 pw nt2 => ?_⟩
              · obtain ⟨n, hn, e⟩ := cont p (hL1 p hp)
                rw [e]
                refine ⟨rfl, ?_⟩
                intro x hx
                have hx2 : x = 0 ∨ x = (n : Int) := by simpa using hx
                rcases hx2 with y | y <;> (rw [y]; omega)
              · have eL : L'.map (·.2) = ((List.range 64).filter fun n => decide (n ∈ old sh r ++ [least r])).map (fun n : Nat => [0, (n : Int)]) := by
                  refine sort_is few64 (fun x => ?_) nd pw
                  rw [(pm.map (·.2)).mem_iff, ← k2]
                  constructor
                  · intro hx
                    obtain ⟨p, hp, e⟩ := List.mem_map.mp hx
                    rw [← e]
                    exact List.mem_map_of_mem (hL1 p hp)
                  · intro hx
                    obtain ⟨p, hp, e⟩ := List.mem_map.mp hx
                    rw [← e]
                    exact hL2 p hp
                have s9 : Same H5 (upd (upd H5 t1 (SetTO P w t1 L)) t2 (.lst (L'.map fun q => V.ref q.1))) := s8.trans (same_upd nt2)
                have allL : AllAt (SgAt (upd (upd H5 t1 (SetTO P w t1 L)) t2 (.lst (L'.map fun q => V.ref q.1)))) (L'.map fun q => V.ref q.1) (((List.range 64).filter fun n => decide (n ∈ old sh r ++ [least r])).map Sg.cls) :=
                  refs_back eL fun p hp => s9 _ _ (k3 p (hL1 p (pm.mem_iff.mp hp)))
                have t6 : (upd (upd H5 t1 (SetTO P w t1 L)) t2 (.lst (L'.map fun q => V.ref q.1))) t2 = some (.lst (L'.map fun q => V.ref q.1)) := upd_same
                have s10 := s7.trans s9
                have lL' : L'.length ≤ 64 := Nat.le_of_lt l64
                -- [(1, value) for value in _law_values(shapes, shape[1][at])]
                have gl : atI (sh.params.map V.str) (r.length : Int) = some (.str (sh.params[r.length])) := atI_nat (by rw [List.getElem?_map, List.getElem?_eq_getElem hlt]; rfl)
                refine ⟨_, rfl, _, rfl, _, _, _, _, rfl, rfl, SqT.of (s10 _ _ hp), rfl, _, rfl, _, _, _, _, rfl, rfl, SqT.of (s10 _ _ ha1), gl, a, sh.params[r.length], ss, rfl, hS.keep (Tk.of_same s10), few, fun v1 xs H7 hlit nv1 ev1 s11 => ?_⟩
                have ecan := hlit.canon
                refine ⟨v1, rfl, ⟨_, SqL.of ev1⟩, fun D5 n5 => ?_⟩
                refine lc_list (K := K) (a := v1) (xs := xs) (fun i H' => Same H7 H' ∧ ∃ ws, H' D5 = some (.lst ws) ∧ AllAt (SgAt H') ws ((xs.take i).map Sg.lit)) ⟨same_upd n5, [], upd_same, AllAt.nil⟩ (fun i H' _ h => SqL.of (h.1 _ _ ev1)) (fun i x H' hx h => ?_) (fun H' h => ?_)
                · obtain ⟨sH, ws, eD, hws⟩ := h
                  refine ⟨rfl, _, rfl, by show 2 ≤ sizeLine; decide, fun p2 np2 => ?_⟩
                  have eD2 := (same_upd (o := .tup [.int 1, x]) np2) _ _ eD
                  refine ⟨ws, eD2, ?_, ?_, ws ++ [.ref p2], upd_same, ?_⟩
                  · rw [hws.1, List.length_map]
                    exact Nat.lt_of_le_of_lt (List.length_take_le' ..) (small1000 (by have := hlit.1; omega))
                  · intro c o e
                    have e2 := (same_upd (o := .tup [.int 1, x]) np2) _ _ (sH c o e)
                    have ne : c ≠ D5 := ne_of_none e n5
                    rw [upd_ne ne]
                    exact e2
                  · rw [List.take_add_one, hx, List.map_append]
                    refine (hws.mono fun _ _ r => (r.keep (Tk.of_same (same_upd np2))).keep (Tk.refl.lst eD2)).snoc ⟨p2, rfl, ?_⟩
                    rw [upd_ne (fun z => by rw [z, eD] at np2; cases np2), upd_same]
                    rfl
                · obtain ⟨sH, ws, eD, hws⟩ := h
                  rw [List.take_length] at hws
                  have t7 : H' t2 = some (.lst (L'.map fun q => V.ref q.1)) := sH _ _ (s11 _ _ t6)
                  have lws : ws.length ≤ 1000 := by rw [hws.1, List.length_map]; have := hlit.1; omega
                  refine ⟨t2, D5, _, _, rfl, rfl, t7, eD, ?_, fun c2 nc2 => ?_⟩
                  · rw [List.length_map]
                    have : (2000 : Nat) ≤ sizeLine := by decide
                    omega
                  · have s12 : Same H H' := (s10.trans s11).trans sH
                    refine k c2 _ _ (s12.free nc2) upd_same ?_ (s12.trans (same_upd nc2))
                    unfold opts
                    rw [if_pos hat, show sh.params.getD r.length "" = sh.params[r.length] from by rw [List.getD_eq_getElem?_getD, List.getElem?_eq_getElem hlt]; rfl, ← ecan]
                    exact AllAt.append (allL.mono fun _ _ x => x.keep (Tk.of_same ((s11.trans sH).trans (same_upd nc2)))) (hws.mono fun _ _ x => x.keep (Tk.of_same (same_upd nc2)))
          · rw [decide_eq_false hat]
            refine iteT ⟨_, rfl, by show 2 ≤ sizeLine; decide, fun p1 np1 => ⟨by show 1 ≤ sizeLine; decide, fun q1 nq1 => ?_⟩⟩
            refine k q1 [.ref p1] _ ((s3.trans (same_upd np1)).free nq1) upd_same ?_ ((s3.trans (same_upd np1)).trans (same_upd nq1))
            unfold opts
            rw [if_neg hat]
            exact AllAt.nil.snoc (vs := []) (as := []) ⟨p1, rfl, (same_upd nq1) _ _ upd_same⟩
end
end K10
set_option Elab.async false
set_option linter.all false
set_option maxRecDepth 100000
set_option maxHeartbeats 4000000
namespace K10
open PySem PySem.Spec PyProof.Rows L2
theorem op_catAK {X : Cx} {K : PySem.W.Frag} (h : X.K = K) : OpR X (binaryOp .Add) (rCatA K) := h ▸ op_catA
/-- the rows behind so many parameters -/
noncomputable def rowsN (ss : List ShD) (s : ShD) : Nat → List (List Sg)
  | 0 => [[]]
  | n + 1 => (rowsN ss s n).flatMap fun r => (opts ss s r).map fun o => r ++ [o]
noncomputable def rowsOf (ss : List ShD) (s : ShD) : List (List Sg) := rowsN ss s s.params.length
def RowsAt (H : Hp) (v : V) (rs : List (List Sg)) : Prop := ∃ p vs, v = .ref p ∧ H p = some (.tup vs) ∧ AllAt (RowAt H) vs rs
/-! ### what is compared -/
def vD : V → PyData
  | .int i => .int i
  | .str x => .str x
  | _ => .none
def okV : V → Prop
  | .int _ => True
  | .str x => PyData.strOk x = true
  | _ => False
def sgD : Sg → PyData
  | .cls n => .tuple [.int 0, .int (n : Int)]
  | .lit v => .tuple [.int 1, vD v]
def okG : Sg → Prop
  | .cls _ => True
  | .lit v => okV v
def rowD (r : List Sg) : PyData := .tuple (r.map sgD)
def rowsD (rs : List (List Sg)) : PyData := .tuple (rs.map rowD)
theorem lay_all : ∀ {ds : List PyData}, (∀ d ∈ ds, d.canLay0 = true) → PyData.canLayAll0 ds = true
  | [], _ => by simp [PyData.canLayAll0]
  | d :: ds, h => by
    rw [PyData.canLayAll0, h d (List.mem_cons_self ..), lay_all fun e he => h e (List.mem_cons_of_mem _ he)]
    rfl
theorem deep_all {n : Nat} : ∀ {ds : List PyData}, (∀ d ∈ ds, d.depth ≤ n) → PyData.depthAll ds ≤ n
  | [], _ => by simp [PyData.depthAll]
  | d :: ds, h => by
    rw [PyData.depthAll]
    exact Nat.max_le.mpr ⟨h d (List.mem_cons_self ..), deep_all fun e he => h e (List.mem_cons_of_mem _ he)⟩
/-- may be compared -/
def Lay (n : Nat) (d : PyData) : Prop := d.canLay0 = true ∧ d.depth ≤ n
theorem Lay.tup {n : Nat} {ds : List PyData} (h : ∀ d ∈ ds, Lay n d) : Lay (n + 1) (.tuple ds) := by
  refine ⟨?_, ?_⟩
  · rw [PyData.canLay0]
    exact lay_all fun d hd => (h d hd).1
  · rw [PyData.depth]
    exact Nat.succ_le_succ (deep_all fun d hd => (h d hd).2)
theorem Lay.shaped {n : Nat} {d : PyData} (h : Lay n d) (hn : n ≤ 64) : SeqAt.shaped d = true := by
  unfold SeqAt.shaped
  rw [h.1, decide_eq_true (Nat.le_trans h.2 hn)]
  rfl
theorem lay_v {v : V} (h : okV v) : Lay 0 (vD v) := by
  cases v with
  | int i => exact ⟨by simp [vD, PyData.canLay0], by simp [vD, PyData.depth]⟩
  | str x => exact ⟨by rw [vD, PyData.canLay0]; exact h, by simp [vD, PyData.depth]⟩
  | _ => exact h.elim
theorem lay_i (i : Int) : Lay 0 (.int i) := ⟨by simp [PyData.canLay0], by simp [PyData.depth]⟩
theorem lay_g {g : Sg} (h : okG g) : Lay 1 (sgD g) := by
  cases g with
  | cls n =>
    refine Lay.tup fun d hd => ?_
    rcases List.mem_cons.mp hd with e | e
    · rw [e]; exact lay_i _
    · rw [List.mem_singleton.mp e]; exact lay_i _
  | lit v =>
    refine Lay.tup fun d hd => ?_
    rcases List.mem_cons.mp hd with e | e
    · rw [e]; exact lay_i _
    · rw [List.mem_singleton.mp e]; exact lay_v h
theorem lay_row {r : List Sg} (h : ∀ g ∈ r, okG g) : Lay 2 (rowD r) := Lay.tup fun d hd => by
  obtain ⟨g, hg, rfl⟩ := List.mem_map.mp hd
  exact lay_g (h g hg)
theorem lay_rows {rs : List (List Sg)} (h : ∀ r ∈ rs, ∀ g ∈ r, okG g) : Lay 3 (rowsD rs) := Lay.tup fun d hd => by
  obtain ⟨r, hr, rfl⟩ := List.mem_map.mp hd
  exact lay_row (h r hr)
section
variable {K : PySem.W.Frag} {H : Hp}
theorem dp_all {α : Type} {R : V → α → Prop} {f : α → PyData} : ∀ {vs : List V} {as : List α}, AllAt R vs as → (∀ v a, a ∈ as → R v a → Dp K H v (f a)) → DpAll K H vs (as.map f)
  | [], [], _, _ => .nil
  | [], _ :: _, h, _ => by cases h.1
  | _ :: _, [], h, _ => by cases h.1
  | v :: vs, a :: as, h, m => by
    obtain ⟨b, e, r⟩ := h.2 0 v rfl
    cases e
    exact .cons (m v a (List.mem_cons_self ..) r) (dp_all (vs := vs) (as := as) ⟨Nat.succ.inj h.1, fun i x e => h.2 (i + 1) x e⟩ fun v b hb r => m v b (List.mem_cons_of_mem _ hb) r)
theorem dp_v {v : V} (h : okV v) : Dp K H v (vD v) := by
  cases v with
  | int i => exact .int i
  | str x => exact .str x
  | _ => exact h.elim
theorem dp_vs : ∀ {xs : List V}, (∀ v ∈ xs, okV v) → DpAll K H xs (xs.map vD)
  | [], _ => .nil
  | v :: xs, h => .cons (dp_v (h v (List.mem_cons_self ..))) (dp_vs fun u hu => h u (List.mem_cons_of_mem _ hu))
theorem dp_g {v : V} {g : Sg} (h : SgAt H v g) (ok : okG g) : Dp K H v (sgD g) := by
  obtain ⟨p, rfl, e⟩ := h
  cases g with
  | cls n => exact .tup (SqT.of e) (.cons (.int 0) (.cons (.int (n : Int)) .nil))
  | lit y => exact .tup (SqT.of e) (.cons (.int 1) (.cons (dp_v ok) .nil))
theorem dp_row {v : V} {r : List Sg} (h : RowAt H v r) (ok : ∀ g ∈ r, okG g) : Dp K H v (rowD r) := by
  obtain ⟨p, vs, rfl, e, a⟩ := h
  exact .tup (SqT.of e) (dp_all a fun v g hg x => dp_g x (ok g hg))
end
theorem lit_ok {kd : Str} {ss : List ShD} {xs : List V} (wf : Wf ss) (h : IsLit kd ss xs) : ∀ v ∈ xs, okV v := by
  have mem : ∀ k, k ∈ found kd ss → okK k = true := fun k hk => by
    obtain ⟨h1, _⟩ := List.mem_filter.mp hk
    obtain ⟨s, hs, h2⟩ := List.mem_flatMap.mp h1
    obtain ⟨e, he, h3⟩ := List.mem_filterMap.mp h2
    refine ((wf.2 s hs).ents e he).ok k ?_
    unfold EntD.lit at h3
    cases z : e.key with
    | none => rw [z] at h3; cases h3
    | some y =>
      rw [z] at h3
      cases y with
      | par i => cases h3
      | val j => cases h3; rfl
  intro v hv
  rcases h.2 with ⟨_, ys, rfl, _, _, m⟩ | ⟨_, ns, rfl, _, _, m⟩
  · obtain ⟨y, hy, rfl⟩ := List.mem_map.mp hv
    exact mem _ ((m y).1 hy)
  · obtain ⟨n, hn, rfl⟩ := List.mem_map.mp hv
    trivial
theorem canon_ok {kd : Str} {ss : List ShD} (wf : Wf ss) : ∀ v ∈ canon kd ss, okV v := by
  intro v hv
  unfold canon at hv
  split at hv
  · rename_i h
    exact lit_ok wf h.choose_spec v hv
  · cases hv
theorem canon_few (kd : Str) (ss : List ShD) : (canon kd ss).length ≤ 18 := by
  unfold canon
  split
  · rename_i h
    exact h.choose_spec.1
  · exact Nat.zero_le _
theorem opts_ok {ss : List ShD} {s : ShD} {r : List Sg} (wf : Wf ss) : ∀ g ∈ opts ss s r, okG g := by
  intro g hg
  unfold opts at hg
  split at hg
  · rcases List.mem_append.mp hg with z | z
    · obtain ⟨n, _, rfl⟩ := List.mem_map.mp z
      trivial
    · obtain ⟨v, hv, rfl⟩ := List.mem_map.mp z
      exact canon_ok wf v hv
  · rw [List.mem_singleton.mp hg]
    trivial
theorem opts_few (ss : List ShD) (s : ShD) (r : List Sg) : (opts ss s r).length ≤ 82 := by
  unfold opts
  split
  · rw [List.length_append, List.length_map, List.length_map]
    have h1 := canon_few (s.params.getD r.length "") ss
    have h2 : ((List.range 64).filter fun n => decide (n ∈ old s r ++ [least r])).length ≤ 64 := Nat.le_trans (List.length_filter_le _ _) (by rw [List.length_range]; exact Nat.le_refl _)
    omega
  · exact Nat.succ_le_succ (Nat.zero_le _)
theorem opts_cl {ss : List ShD} {s : ShD} {r : List Sg} (h : ∀ n ∈ nums r, n < r.length) : ∀ g ∈ opts ss s r, ∀ n, g.cl = some n → n ≤ r.length := by
  intro g hg n hn
  have l0 := least_at r h
  unfold opts at hg
  split at hg
  · rcases List.mem_append.mp hg with z | z
    · obtain ⟨m, hm, rfl⟩ := List.mem_map.mp z
      cases hn
      rcases List.mem_append.mp (of_decide_eq_true (List.mem_filter.mp hm).2) with y | y
      · exact Nat.le_of_lt (old_lt h n y)
      · rw [List.mem_singleton.mp y]
        exact l0.2
    · obtain ⟨v, hv, rfl⟩ := List.mem_map.mp z
      cases hn
  · rw [List.mem_singleton.mp hg] at hn
    cases hn
    exact l0.2
theorem rows_right {ss : List ShD} {s : ShD} (wf : Wf ss) : ∀ (n : Nat), ∀ r ∈ rowsN ss s n, r.length = n ∧ (∀ m ∈ nums r, m < r.length) ∧ ∀ g ∈ r, okG g
  | 0, r, hr => by
    rw [List.mem_singleton.mp (show r ∈ [[]] from hr)]
    exact ⟨rfl, fun m hm => (by cases hm), fun g hg => (by cases hg)⟩
  | n + 1, r, hr => by
    obtain ⟨q, hq, h2⟩ := List.mem_flatMap.mp (show r ∈ (rowsN ss s n).flatMap fun r => (opts ss s r).map fun o => r ++ [o] from hr)
    obtain ⟨o, ho, rfl⟩ := List.mem_map.mp h2
    obtain ⟨h3, h4, h5⟩ := rows_right wf n q hq
    refine ⟨by rw [List.length_append, h3]; rfl, fun m hm => ?_, fun g hg => ?_⟩
    · rw [List.length_append]
      unfold nums at hm
      rw [List.filterMap_append] at hm
      rcases List.mem_append.mp hm with z | z
      · have := h4 m z
        show m < q.length + 1
        omega
      · obtain ⟨g, hg, e⟩ := List.mem_filterMap.mp z
        rw [List.mem_singleton.mp hg] at e
        have := opts_cl h4 o ho m e
        show m < q.length + 1
        omega
    · rcases List.mem_append.mp hg with z | z
      · exact h5 g z
      · rw [List.mem_singleton.mp z]
        exact opts_ok wf o ho
theorem rows_few (ss : List ShD) (s : ShD) : ∀ n, (rowsN ss s n).length ≤ 82 ^ n
  | 0 => Nat.le_refl _
  | n + 1 => by
    show ((rowsN ss s n).flatMap fun r => (opts ss s r).map fun o => r ++ [o]).length ≤ 82 ^ n * 82
    refine Nat.le_trans (flat_le _ 82 _ fun r _ => ?_) (Nat.mul_le_mul_right 82 (rows_few ss s n))
    rw [List.length_map]
    exact opts_few ss s r
theorem Wf.few {ss : List ShD} (wf : Wf ss) : Few ss := ⟨wf.1, fun s hs => ⟨(wf.2 s hs).many, (wf.2 s hs).params.1⟩⟩
def spLiterals : Sp := fun vs H Q _ => ∃ (a : V) (kd : Str) (ss : List ShD), vs = [a, .str kd] ∧ ShapesAt H a ss ∧ Wf ss ∧ (kd = "int" ∨ kd = "text") ∧ ∀ (p : Addr) (xs : List V) (H' : Hp), IsLit kd ss xs → H' p = some (.tup xs) → Same H H' → Q (.ref p) H'
def spChoices : Sp := fun vs H Q _ => ∃ (a : V) (i : Nat) (ss : List ShD) (s : ShD), vs = [a, .int (i : Int)] ∧ ShapesAt H a ss ∧ Wf ss ∧ ss[i]? = some s ∧ ∀ (v : V) (H' : Hp), RowsAt H' v (rowsOf ss s) → Same H H' → Q v H'
def spLaw (K : PySem.W.Frag) : Sp := fun vs H Q _ => ∃ (a : Addr) (ns : List Int), vs = [.ref a] ∧ SqL K H a (ns.map V.int) ∧ ns.length ≤ 63 ∧ ∀ H', Q (.bl true) H'
section
variable {P : Program} {w : World} {K : PySem.W.Frag} {mg : Str → Option Value} {base : Heap}
theorem c_law (T : Txt K mg) (c_literals : C8.Cal P w K mg base 8 "literals" spLiterals []) (c_choices : C8.Cal P w K mg base 8 "choices" spChoices []) : ∀ fd, FunD K "law" "law" (defArgs s_law) (defBody s_law) (defScope s_law) [] [] (He.ga K "law") fd → FnOk P w K mg base CX0 9 (He.ga K "law") fd ["script"] (spLaw K) := by
  intro fd F
  have c_law_box : C8.Cal P w K mg base 1 "_law_box" (spBox K) [] := c_law_box T
  have c_law_drawn : C8.Cal P w K mg base 3 "_law_drawn" spDrawn [] := c_law_drawn T
  have c_law_values : C8.Cal P w K mg base 1 "_law_values" spValues [] := c_law_values T
  have c_law_options : C8.Cal P w K mg base 2 "_law_options" spOptions [] := c_law_options T
  refine fnk_of F sc_law (fun vs H Q E h => ?_) (fun cdv A outer s H vs Q E hr h => ?_)
  · obtain ⟨a, ns, rfl, _⟩ := h
    rfl
  · obtain ⟨a, ns, rfl, hS, hlen, k⟩ := h
    refine ⟨_, (pss_cons (ps_set (i := 1) sc_law.nd rfl (by first | exact .inl rfl | exact .inr rfl) (C8.pe_c c_law_box hr (by decide) (by rfl) (pa_cons (pv 0) pa_nil)))
  (pss_cons (ps_set (i := 2) sc_law.nd rfl (by first | exact .inl rfl | exact .inr rfl) (C8.pe_c c_law_drawn hr (by decide) (by rfl) (pa_cons (pv 1) pa_nil)))
  (pss_cons (ps_for PassesOwn.never rfl (pi_tup (pe_tup (pa_cons pe_str (pa_cons pe_str pa_nil)))) (pg_name (i := 3) sc_law.nd rfl (by first | exact .inl rfl | exact .inr rfl))
    (pss_cons (ps_set (i := 4) sc_law.nd rfl (by first | exact .inl rfl | exact .inr rfl) (C8.pe_c c_literals hr (by decide) (by rfl) (pa_cons (pv 2) (pa_cons (pv 3) pa_nil))))
  (pss_one (ps_if (PW.pt (pw_or (pt_not (pt_val (pe_callB call_isi (by rfl) T.z_isinstance (by decide +kernel) (pa_cons (pv 4) (pa_cons (pe_bltn (v := .ty "tuple") (by rfl) T.z_tuple (by decide +kernel) rfl) pa_nil))))) (pw_or1 (pt_cmpR (op_neD hr.units) (pv 4) (pe_callTy call_tuple_of (by rfl) T.z_tuple (by decide +kernel) (pa_cons (C8.pe_c c_law_values hr (by decide) (by rfl) (pa_cons (pv 2) (pa_cons (pv 3) pa_nil))) pa_nil)) (nomark _)))))
    (pss_one (ps_ret pe_bl))
    pss_nil))))
  (pss_cons (ps_for PassesOwn.never rfl (ET.pi_enumT (by rfl) T.z_enumerate (pa_cons (pv 2) pa_nil)) (pg_tup (by rfl) (pgs_cons (pg_name (i := 5) sc_law.nd rfl (by first | exact .inl rfl | exact .inr rfl)) (pgs_cons (pg_name (i := 6) sc_law.nd rfl (by first | exact .inl rfl | exact .inr rfl)) pgs_nil)))
    (pss_cons (ps_set (i := 7) sc_law.nd rfl (by first | exact .inl rfl | exact .inr rfl) (pe_lst (pa_cons (pe_tup pa_nil) pa_nil)))
  (pss_cons (ps_for PassesOwn.never rfl (pi_tup (pe_ix ix_tup (pv 6) pe_int (fun _ _ => rfl))) (pg_name (i := 3) sc_law.nd rfl (by first | exact .inl rfl | exact .inr rfl))
    (pss_cons (ps_set (i := 8) sc_law.nd rfl (by first | exact .inl rfl | exact .inr rfl) (pe_lst pa_nil))
  (pss_cons (ps_for PassesOwn.never rfl (pi_list (pv 7)) (pg_name (i := 9) sc_law.nd rfl (by first | exact .inl rfl | exact .inr rfl))
    (pss_one (ps_set (i := 8) sc_law.nd rfl (by first | exact .inl rfl | exact .inr rfl) (pe_op op_cat (pv 8) (pe_lc (own := [("one", 10)]) (g := gName 10) rfl sc_law.nd (pi_list (C8.pe_c c_law_options hr (by decide) (by rfl) (pa_cons (pv 2) (pa_cons (pv 6) (pa_cons (pv 9) pa_nil))))) (blkOk_by (own := [("one", 10)]) (N := n_law) (sc := defScope s_law) (by decide +kernel)) (fun _ _ _ _ _ => (pg_name (i := 10) sc_law.nd rfl (by first | exact .inl rfl | exact .inr rfl))) (fun _ _ _ _ _ => pts_nil) (fun _ _ _ _ _ => (pe_op (op_catAK (K := K) rfl) (pv 9) (pe_tup (pa_cons (pv 10) pa_nil)))))))))
  (pss_one (ps_set (i := 7) sc_law.nd rfl (by first | exact .inl rfl | exact .inr rfl) (pv 8))))))
  (pss_cons (ps_set (i := 4) sc_law.nd rfl (by first | exact .inl rfl | exact .inr rfl) (C8.pe_c c_choices hr (by decide) (by rfl) (pa_cons (pv 2) (pa_cons (pv 5) pa_nil))))
  (pss_one (ps_if (PW.pt (pw_or (pt_not (pt_val (pe_callB call_isi (by rfl) T.z_isinstance (by decide +kernel) (pa_cons (pv 4) (pa_cons (pe_bltn (v := .ty "tuple") (by rfl) T.z_tuple (by decide +kernel) rfl) pa_nil))))) (pw_or1 (pt_cmpR (op_neD hr.units) (pv 4) (pe_callTy call_tuple_of (by rfl) T.z_tuple (by decide +kernel) (pa_cons (pv 7) pa_nil)) (nomark _)))))
    (pss_one (ps_ret pe_bl))
    pss_nil))))))
  (pss_one (ps_ret pe_bl)))))), ?_⟩
    -- box, shapes
    refine ⟨.ref a, rfl, a, ns, rfl, hS, by omega, fun bx l H1 nb nl B1 s1 => ?_⟩
    refine ⟨_, rfl, bx, l, rfl, B1, fun sv ss H2 hS2 wf B2 f2 => ?_⟩
    obtain ⟨sp, svs, rfl, hsp, hA⟩ := id hS2
    -- for kind in ('int', 'text')
    refine ⟨by show 2 ≤ sizeLine; decide, fun T nT => ⟨T, rfl, ⟨_, SqT.of upd_same⟩, for_tup (K := K) (a := T) (xs := [.str "int", .str "text"]) (fun i σ H' => ∃ (y3 y4 : Option V), σ = [some (.ref a), some (.ref bx), some (.ref sp), y3, y4, none, none, none, none, none, none] ∧ Same (upd H2 T (.tup [.str "int", .str "text"])) H') ⟨_, _, rfl, fun _ _ e => e⟩ (fun i σ H' _ h => ?_) (fun i v σ H' hv h => ?_) (fun σ H' h => ?_)⟩⟩
    · obtain ⟨_, _, _, sm⟩ := h
      exact SqT.of (sm _ _ upd_same)
    · obtain ⟨y3, y4, rfl, sm⟩ := h
      obtain ⟨kd, rfl, hkd⟩ : ∃ kd : Str, v = .str kd ∧ (kd = "int" ∨ kd = "text") := by
        match i, hv with
        | 0, hv => exact ⟨_, (Option.some.inj hv).symm, .inl rfl⟩
        | 1, hv => exact ⟨_, (Option.some.inj hv).symm, .inr rfl⟩
        | _ + 2, hv => cases hv
      have hS3 : ShapesAt H' (.ref sp) ss := hS2.keep (Tk.of_same ((same_upd nT).trans sm))
      refine ⟨_, rfl, _, rfl, .ref sp, kd, ss, rfl, hS3, wf, hkd, fun p xs H3 hx e3 s3 => ?_⟩
      refine ⟨_, rfl, _, _, _, _, _, rfl, .ty "tuple", .base (.tup e3), kit_ty (r := true) (by decide +kernel), _, rfl, iteF ?_⟩
      refine ⟨_, rfl, _, rfl, _, rfl, .ref sp, kd, ss, rfl, hS3.keep (Tk.of_same s3), wf.few, fun q ys H4 hy nq e4 s4 => ⟨q, ys, rfl, .inl ⟨SqL.of e4, fun t nt => ?_⟩⟩⟩
      have exy : ys = xs := hy.unique hx
      subst exy
      have okx := lit_ok wf hx
      have lx : Lay 1 (.tuple (ys.map vD)) := Lay.tup fun d hd => by
        obtain ⟨v, hv, rfl⟩ := List.mem_map.mp hd
        exact lay_v (okx v hv)
      refine ⟨.tuple (ys.map vD), .tuple (ys.map vD), .tup (SqT.of ((same_upd nt) _ _ (s4 _ _ e3))) (dp_vs okx), .tup (SqT.of upd_same) (dp_vs okx), lx.shaped (by decide), lx.shaped (by decide), _, rfl, ?_⟩
      rw [SeqAt.eqv_refl _ lx.1]
      refine iteF ⟨_, _, rfl, sm.trans (s3.trans (s4.trans (same_upd nt)))⟩
    · obtain ⟨y3, y4, rfl, sm⟩ := h
      have s0 : Same H2 H' := (same_upd nT).trans sm
      have hsp' := s0 _ _ hsp
      have hA' := hA.mono fun _ _ x => x.keep (Tk.of_same s0)
      have hS3 : ShapesAt H' (.ref sp) ss := hS2.keep (Tk.of_same s0)
      -- for place, shape in enumerate(shapes)
      refine ⟨_, rfl, sp, svs, rfl, SqT.of hsp', for_it (ET.walk_enumT (K := K) (a := sp) (xs := svs)) (fun i σ H2 => ∃ (y3 y4 y5 y6 y7 y8 y9 y10 : Option V), σ = [some (.ref a), some (.ref bx), some (.ref sp), y3, y4, y5, y6, y7, y8, y9, y10] ∧ Same H' H2) ⟨_, _, _, _, _, _, _, _, rfl, fun _ _ e => e⟩ (fun i σ H2 _ h => ?_) (fun i x σ H3 H4 hi h y => ?_) (fun σ H2 h => k H2)⟩
      · obtain ⟨_, _, _, _, _, _, _, _, _, sm2⟩ := h
        exact SqT.of (sm2 _ _ hsp')
      · obtain ⟨y3, y4, y5, y6, y7, y8, y9, y10, rfl, sm2⟩ := h
        obtain ⟨T2, x1, x2, rfl, nT2, rfl, ex1, ex2⟩ := y
        cases ex1
        have ex2 : svs[i]? = some x2 := ex2
        obtain ⟨sh, hsh, shp, a1, a2, nm, es, rfl, hq, ha1, hes, hE⟩ := hA'.2 i x2 ex2
        have wfs := wf.2 sh (List.mem_of_getElem? hsh)
        refine ⟨T2, _, rfl, SqT.of upd_same, rfl, _, _, rfl, _, _, rfl, rfl, ?_⟩
        have s5 : Same H' (upd H3 T2 (.tup [.int (i : Nat), .ref shp])) := sm2.trans (same_upd nT2)
        -- rows = [()]
        refine ⟨Nat.zero_le _, fun p0 np0 => ⟨by show 1 ≤ sizeLine; decide, fun r0 nr0 => ?_⟩⟩
        have s6 : Same H' (upd (upd (upd H3 T2 (.tup [.int (i : Nat), .ref shp])) p0 (.tup [])) r0 (.lst [.ref p0])) := (s5.trans (same_upd np0)).trans (same_upd nr0)
        have z0 : AllAt (RowAt (upd (upd (upd H3 T2 (.tup [.int (i : Nat), .ref shp])) p0 (.tup [])) r0 (.lst [.ref p0]))) [.ref p0] (rowsN ss sh 0) :=
          AllAt.nil.snoc (vs := []) (as := []) ⟨p0, [], rfl, (same_upd nr0) _ _ upd_same, AllAt.nil⟩
        -- for kind in shape[1]
        refine ⟨_, rfl, _, _, _, _, rfl, rfl, SqT.of (s6 _ _ hq), rfl, a1, rfl, ⟨_, SqT.of (s6 _ _ ha1)⟩, for_tup (K := K) (a := a1) (xs := sh.params.map V.str) (fun j σ H5 => ∃ (y3 y8 y9 y10 : Option V) (rl : Addr) (vs : List V), σ = [some (.ref a), some (.ref bx), some (.ref sp), y3, y4, some (.int (i : Nat)), some (.ref shp), some (.ref rl), y8, y9, y10] ∧ Same H' H5 ∧ H5 rl = some (.lst vs) ∧ AllAt (RowAt H5) vs (rowsN ss sh j)) ⟨_, _, _, _, r0, _, rfl, s6, upd_same, z0⟩ (fun j σ H5 _ h => ?_) (fun j x σ H5 hx h => ?_) (fun σ H5 h => ?_)⟩
        · obtain ⟨_, _, _, _, _, _, _, s7, _⟩ := h
          exact SqT.of (s7 _ _ ha1)
        · obtain ⟨y3, y8, y9, y10, rl, vs, rfl, s7, erl, hvs⟩ := h
          have hj : j < sh.params.length := by
            have := (List.getElem?_eq_some_iff.mp hx).1
            rw [List.length_map] at this
            exact this
          have rr := rows_right (s := sh) wf j
          -- more = []
          refine ⟨Nat.zero_le _, fun m0 nm0 => ?_⟩
          have s8 : Same H' (upd H5 m0 (.lst [])) := s7.trans (same_upd nm0)
          have erl' := (same_upd (o := .lst []) nm0) _ _ erl
          have hvs' := hvs.mono fun _ _ x => x.keep (Tk.of_same (same_upd (o := .lst []) nm0))
          -- for row in rows
          refine ⟨.ref rl, rfl, rl, rfl, ⟨_, SqL.of erl'⟩, for_list (K := K) (a := rl) (xs := vs) (fun c σ H6 => ∃ (y9 y10 : Option V) (mm : Addr) (ms : List V), σ = [some (.ref a), some (.ref bx), some (.ref sp), some x, y4, some (.int (i : Nat)), some (.ref shp), some (.ref rl), some (.ref mm), y9, y10] ∧ Same (upd H5 m0 (.lst [])) H6 ∧ H6 mm = some (.lst ms) ∧ AllAt (RowAt H6) ms (((rowsN ss sh j).take c).flatMap fun r => (opts ss sh r).map fun o => r ++ [o])) ⟨_, _, m0, [], rfl, fun _ _ e => e, upd_same, AllAt.nil⟩ (fun c σ H6 _ h => ?_) (fun c v σ H6 hv h => ?_) (fun σ H6 h => ?_)⟩
          · obtain ⟨_, _, _, _, _, s9, _⟩ := h
            exact SqL.of (s9 _ _ erl')
          · obtain ⟨y9, y10, mm, ms, rfl, s9, emm, hms⟩ := h
            obtain ⟨r, hr, rp, gs, rfl, hrp, hgs⟩ := hvs'.2 c v hv
            obtain ⟨r1, r2, r3⟩ := rr r (List.mem_of_getElem? hr)
            have s10 : Same H' H6 := s8.trans s9
            have hrow : RowAt H6 (.ref rp) r := ⟨rp, gs, rfl, s9 _ _ hrp, hgs.mono fun _ _ x => x.keep (Tk.of_same s9)⟩
            refine ⟨.ref mm, rfl, _, rfl, _, rfl, _, rfl, .ref sp, .ref shp, .ref rp, ss, sh, r, rfl, hS3.keep (Tk.of_same s10), ⟨shp, a1, a2, nm, es, rfl, s10 _ _ hq, s10 _ _ ha1, s10 _ _ hes, hE.mono fun _ _ x => x.keep (Tk.of_same s10)⟩, hrow, wf.few, wfs.many, wfs.params.1, by rw [r1]; exact hj, r2, fun q ws H7 nq eq hws s11 => ?_⟩
            refine ⟨q, rfl, ⟨_, SqL.of eq⟩, fun D nD => ?_⟩
            have lo := opts_few ss sh r
            refine lc_list (K := K) (a := q) (xs := ws) (fun c H8 => Same H7 H8 ∧ ∃ rs, H8 D = some (.lst rs) ∧ AllAt (RowAt H8) rs (((opts ss sh r).take c).map fun o => r ++ [o])) ⟨same_upd nD, [], upd_same, AllAt.nil⟩ (fun c H8 _ h => SqL.of (h.1 _ _ eq)) (fun c x H8 hx h => ?_) (fun H8 h => ?_)
            · obtain ⟨s12, rs, eD, hrs⟩ := h
              obtain ⟨o, ho, hxo⟩ := hws.2 c x hx
              have s13 : Same H6 H8 := s11.trans s12
              have e9 := s13 _ _ (s9 _ _ hrp)
              have gs9 : AllAt (SgAt H8) gs r := hgs.mono fun _ _ x => x.keep (Tk.of_same (s9.trans s13))
              have xo9 : SgAt H8 x o := hxo.keep (Tk.of_same s12)
              have stp : ((opts ss sh r).take (c + 1)).map (fun o => r ++ [o]) = ((opts ss sh r).take c).map (fun o => r ++ [o]) ++ [r ++ [o]] := by
                rw [List.take_add_one, ho, List.map_append]
                rfl
              have lrs : rs.length < sizeLine := by
                rw [hrs.1, List.length_map]
                exact Nat.lt_of_le_of_lt (List.length_take_le' ..) (small1000 (by omega))
              refine ⟨rfl, _, rfl, _, rfl, by show 1 ≤ sizeLine; decide, fun p1 np1 => ?_⟩
              have eD1 := (same_upd (o := .tup [x]) np1) _ _ eD
              refine ⟨rp, p1, gs, [x], rfl, rfl, SqT.of ((same_upd np1) _ _ e9), SqT.of upd_same, Nat.le_of_lt (small1000 (by rw [hgs.1, r1]; show j + 1 ≤ 1000; have := wfs.params.1; omega)), fun e0 => ?_, fun _ z => (by cases z), fun ne _ p2 np2 => ?_⟩
              · have er : r = [] := by
                  have := hgs.1
                  rw [e0] at this
                  cases r with
                  | nil => rfl
                  | cons g r => cases this
                refine ⟨rs, eD1, lrs, fun b u e => ?_, rs ++ [.ref p1], upd_same, ?_⟩
                · rw [upd_ne (ne_of_none e nD)]
                  exact (same_upd np1) _ _ (s12 _ _ e)
                · rw [stp]
                  refine (hrs.mono fun _ _ x => (x.keep (Tk.of_same (same_upd np1))).keep (Tk.refl.lst eD1)).snoc ⟨p1, [x], rfl, Tk.refl.lst eD1 _ _ upd_same, ?_⟩
                  rw [er]
                  exact AllAt.nil.snoc (vs := []) (as := []) ((xo9.keep (Tk.of_same (same_upd np1))).keep (Tk.refl.lst eD1))
              · have eD2 := (same_upd (o := .tup (gs ++ [x])) np2) _ _ eD1
                have tk : Tk H8 (upd (upd (upd H8 p1 (.tup [x])) p2 (.tup (gs ++ [x]))) D (.lst (rs ++ [.ref p2]))) := (Tk.of_same ((same_upd np1).trans (same_upd np2))).trans (Tk.refl.lst eD2)
                refine ⟨rs, eD2, lrs, fun b u e => ?_, rs ++ [.ref p2], upd_same, ?_⟩
                · rw [upd_ne (ne_of_none e nD)]
                  exact (same_upd np2) _ _ ((same_upd np1) _ _ (s12 _ _ e))
                · rw [stp]
                  exact (hrs.mono fun _ _ x => x.keep tk).snoc ⟨p2, gs ++ [x], rfl, Tk.refl.lst eD2 _ _ upd_same, (gs9.mono fun _ _ x => x.keep tk).snoc (xo9.keep tk)⟩
            · obtain ⟨s12, rs, eD, hrs⟩ := h
              rw [hws.1, List.take_length] at hrs
              have s13 : Same H6 H8 := s11.trans s12
              refine ⟨mm, D, ms, rs, rfl, rfl, s13 _ _ emm, eD, ?_, fun p1 np1 => ?_⟩
              · rw [hms.1, hrs.1, List.length_map]
                have l1 : (((rowsN ss sh j).take c).flatMap fun r => (opts ss sh r).map fun o => r ++ [o]).length ≤ 82 ^ 2 * 82 := by
                  refine Nat.le_trans (flat_le _ 82 _ fun r _ => by rw [List.length_map]; exact opts_few ss sh r) (Nat.mul_le_mul_right 82 (Nat.le_trans (List.length_take_le' ..) (Nat.le_trans (rows_few ss sh j) (Nat.pow_le_pow_right (by decide) (by have := wfs.params.1; omega)))))
                have : (82 ^ 2 * 82 + 82 : Nat) ≤ sizeLine := by decide
                omega
              · refine ⟨_, _, p1, ms ++ rs, rfl, s9.trans (s13.trans (same_upd np1)), upd_same, ?_⟩
                rw [List.take_add_one, hr, List.flatMap_append]
                refine AllAt.append (hms.mono fun _ _ x => x.keep (Tk.of_same (s13.trans (same_upd np1)))) ?_
                have e1 : ((some r).toList.flatMap fun r => (opts ss sh r).map fun o => r ++ [o]) = (opts ss sh r).map fun o => r ++ [o] := by
                  show [r].flatMap _ = _
                  rw [List.flatMap_cons, List.flatMap_nil, List.append_nil]
                rw [e1]
                exact hrs.mono fun _ _ x => x.keep (Tk.of_same (same_upd np1))
          · obtain ⟨y9, y10, mm, ms, rfl, s9, emm, hms⟩ := h
            rw [hvs.1, List.take_length] at hms
            exact ⟨_, rfl, _, _, _, _, mm, ms, rfl, s8.trans s9, emm, hms⟩
        · obtain ⟨y3, y8, y9, y10, rl, vs, rfl, s7, erl, hvs⟩ := h
          rw [List.length_map] at hvs
          -- told = choices(shapes, place)
          refine ⟨_, rfl, _, rfl, .ref sp, i, ss, sh, rfl, hS3.keep (Tk.of_same s7), wf, hsh, fun v H6 hR s8 => ?_⟩
          obtain ⟨p, ws, rfl, ep, hws⟩ := hR
          refine ⟨_, rfl, _, _, _, _, _, rfl, .ty "tuple", .base (.tup ep), kit_ty (r := true) (by decide +kernel), _, rfl, iteF ?_⟩
          refine ⟨_, rfl, _, rfl, rl, vs, rfl, .inl ⟨SqL.of (s8 _ _ erl), fun t nt => ?_⟩⟩
          have ok : ∀ r ∈ rowsOf ss sh, ∀ g ∈ r, okG g := fun r hr => (rows_right wf _ r hr).2.2
          have lx := lay_rows ok
          refine ⟨rowsD (rowsOf ss sh), rowsD (rowsOf ss sh), .tup (SqT.of ((same_upd nt) _ _ ep)) (dp_all (hws.mono fun _ _ x => x.keep (Tk.of_same (same_upd nt))) fun v r hr x => dp_row x (ok r hr)), .tup (SqT.of upd_same) (dp_all (hvs.mono fun _ _ x => x.keep (Tk.of_same (s8.trans (same_upd nt)))) fun v r hr x => dp_row x (ok r hr)), lx.shaped (by decide), lx.shaped (by decide), _, rfl, ?_⟩
          rw [SeqAt.eqv_refl _ lx.1]
          exact iteF ⟨_, _, _, _, _, _, _, _, rfl, s7.trans (s8.trans (same_upd nt))⟩
end
end K10
set_option Elab.async false
set_option linter.all false
set_option maxRecDepth 100000
set_option maxHeartbeats 4000000
/-! own: sorted(xs), xs a list of pairs of a number and a number or text, by a rank that tells their order -/
namespace SP
open PySem PySem.Spec PyProof.Rows L2 TS
def sameK : Key → Key → Prop
  | .inl _, .inl _ => True
  | .inr _, .inr _ => True
  | _, _ => False
def keyLt : Key → Key → Bool
  | .inl i, .inl j => decide (i < j)
  | .inr x, .inr y => decide (x.cps.toList < y.cps.toList)
  | _, _ => false
/-- the rank tells the order of two pairs -/
def Ranks (ρ : Int → Key → Int) (c : Int) (k : Key) (d : Int) (l : Key) : Prop :=
  (c = d → sameK k l ∧ keyLt k l = decide (ρ c k < ρ d l)) ∧ (¬ c = d → decide (c < d) = decide (ρ c k < ρ d l))
/-- a tuple of c and k -/
def PairR (h : Heap) (v : Value) (c : Int) (k : Key) : Prop := ∃ (a : Addr) (t : Tok) (u : Value), v = .ref a ∧ keyIs k u = true ∧ IsTup h a #[.int c t, u]
theorem PairR.keeps {h h' : Heap} {v : Value} {c : Int} {k : Key} (x : PairR h v c k) (q : ∀ b o, h.get? b = some o → o.cls = .type "tuple" → h'.get? b = some o) : PairR h' v c k := by
  obtain ⟨a, t, u, e, hk, ⟨o, ho, hc, hd⟩⟩ := x
  exact ⟨a, t, u, e, hk, ⟨o, q _ _ ho hc, hc, hd⟩⟩
theorem PairR.uniq {h : Heap} {v : Value} {c d : Int} {k l : Key} (x : PairR h v c k) (y : PairR h v d l) : c = d ∧ k = l := by
  obtain ⟨a1, t1, u1, rfl, hk1, ⟨o1, ho1, hc1, n1, hd1⟩⟩ := x
  obtain ⟨a2, t2, u2, e2, hk2, ⟨o2, ho2, hc2, n2, hd2⟩⟩ := y
  cases e2
  rw [ho1] at ho2
  cases ho2
  rw [hd1] at hd2
  have e3 : #[Value.int c t1, u1] = #[Value.int d t2, u2] := by
    injection hd2
  have e4 := congrArg Array.toList e3
  simp only [List.cons.injEq, Value.int.injEq] at e4
  obtain ⟨⟨e5, e6⟩, e7, _⟩ := e4
  subst e5 e6 e7
  rcases keyIs_shape hk1 with ⟨i, t, rfl, rfl⟩ | ⟨z, t, rfl, rfl⟩ <;> rcases keyIs_shape hk2 with ⟨j, t', rfl, e⟩ | ⟨z', t', rfl, e⟩ <;> cases e <;> exact ⟨rfl, rfl⟩
def PrsOk (h : Heap) (vs : List Value) : Prop := ∀ v ∈ vs, ∃ c k, PairR h v c k
def kOf : Value → Key
  | .int i _ => .inl i
  | .str x _ => .inr x
  | _ => .inl 0
theorem kOf_is {k : Key} {u : Value} (h : keyIs k u = true) : kOf u = k := by
  rcases keyIs_shape h with ⟨i, t, rfl, rfl⟩ | ⟨x, t, rfl, rfl⟩ <;> rfl
/-- the rank of a pair, read off the heap -/
def rk (ρ : Int → Key → Int) (h : Heap) : Value → Int
  | .ref a => match h.get? a with
    | some o => match o.data with
      | .seq xs _ => match xs.toList with
        | [.int c _, u] => ρ c (kOf u)
        | _ => 0
      | _ => 0
    | none => 0
  | _ => 0
theorem PairR.rk {h : Heap} {v : Value} {c : Int} {k : Key} (x : PairR h v c k) (ρ : Int → Key → Int) : SP.rk ρ h v = ρ c k := by
  obtain ⟨a, t, u, rfl, hk, ⟨o, ho, hc, n, hd⟩⟩ := x
  simp only [SP.rk, ho, hd]
  rw [kOf_is hk]
theorem firsts_of {h : Heap} : ∀ vs : List Value, PrsOk h vs → ∃ fs, PySem.W.KatTups h vs fs ∧ fs.length = vs.length ∧ ∀ f, f ∈ fs → ∃ n t, f = Value.int n t
  | [], _ => ⟨[], PySem.W.KatTups.nil, rfl, fun f hf => by simp at hf⟩
  | v :: vs, x => by
    obtain ⟨fs, k, hl, hi⟩ := firsts_of vs fun u hu => x u (List.mem_cons_of_mem _ hu)
    obtain ⟨c, key, a, t, u, rfl, hk, ⟨o, ho, hc, n, hd⟩⟩ := x v (List.mem_cons_self ..)
    refine ⟨.int c t :: fs, PySem.W.KatTups.cons ho hc hd rfl k, by simp [hl], ?_⟩
    intro f hf
    rcases List.mem_cons.mp hf with rfl | hf
    · exact ⟨c, t, rfl⟩
    · exact hi f hf
section
variable {prog : Program} {w : World} {A : Around} {E : Value → Shared → Prop} {s : Shared}
/-- one comparison -/
theorem lex_prs {ρ : Int → Key → Int} {b : Bool} {c d : Int} {k l : Key} {t t' : Tok} {u u' : Value} {Q : Bool → Shared → Prop} (hk : keyIs k u = true) (hl : keyIs l u' = true) (r : Ranks ρ c k d l)
    (h : Q (decide (ρ c k < ρ d l)) s) : PySem.W.KatLex prog w A b false Q [(Value.int c t, Value.int d t'), (u, u')] 0 s := by
  refine PySem.W.kat_cons (wpAny_eqBool_int ?_)
  by_cases e : c = d
  · obtain ⟨sm, lt⟩ := r.1 e
    rw [show (c == d) = true from beq_iff_eq.mpr e]
    rw [← lt] at h
    refine PySem.W.kat_yes ?_
    rcases keyIs_shape hk with ⟨i, t1, rfl, rfl⟩ | ⟨x, t1, rfl, rfl⟩
    · rcases keyIs_shape hl with ⟨j, t2, rfl, rfl⟩ | ⟨y, t2, rfl, rfl⟩
      · have h : Q (decide (i < j)) s := h
        refine PySem.W.kat_cons (wpAny_eqBool_int ?_)
        by_cases e2 : i = j
        · rw [show (i == j) = true from beq_iff_eq.mpr e2]
          rw [decide_eq_false (by omega)] at h
          exact PySem.W.kat_yes (PySem.W.kat_nil h)
        · rw [show (i == j) = false from beq_eq_false_iff_ne.mpr e2]
          exact PySem.W.kat_no (oneLt_ints _ h)
      · exact sm.elim
    · rcases keyIs_shape hl with ⟨j, t2, rfl, rfl⟩ | ⟨y, t2, rfl, rfl⟩
      · exact sm.elim
      · have h : Q (decide (x.cps.toList < y.cps.toList)) s := h
        refine PySem.W.kat_cons (wpAny_eqBool_str ?_)
        by_cases e2 : x = y
        · rw [decide_eq_true e2]
          have irr : decide (x.cps.toList < y.cps.toList) = false := by
            rw [e2]
            first | exact decide_eq_false (List.lt_irrefl _) | simp
          rw [irr] at h
          exact PySem.W.kat_yes (PySem.W.kat_nil h)
        · rw [decide_eq_false e2]
          refine PySem.W.kat_no ?_
          have eb : (b && (0 + 1) == 0) = false := by cases b <;> rfl
          rw [eb]
          exact PySem.W.kat_one _ _ (PyProof.Rows.lt_str (Q := PySem.W.BoolBack Q) h)
  · rw [show (c == d) = false from beq_eq_false_iff_ne.mpr e]
    rw [← r.2 e] at h
    exact PySem.W.kat_no (oneLt_ints _ h)
theorem kind_prs {vs : List Value} {ρ : Int → Key → Int} (h2 : 2 ≤ vs.length) (x : PrsOk s.heap vs) (r : Value → Int) (hr : ∀ v, v ∈ vs → ∀ c k, PairR s.heap v c k → r v = ρ c k)
    (hρ : ∀ v ∈ vs, ∀ u ∈ vs, ∀ c k d l, PairR s.heap v c k → PairR s.heap u d l → Ranks ρ c k d l) (Q : SortKind → Shared → Prop)
    (h : ∀ κ, TS.Cmp prog w A s κ (pairsOf vs) r → Q κ s) : wpAny (model prog w) A (keyKind' vs.toArray) Q E s := by
  obtain ⟨fs, k, hl, hi⟩ := firsts_of vs x
  refine PySem.W.kat_kind (T := Value.type "int") k (by omega) (fun f hf => ?_) rfl (h _ ?_)
  · obtain ⟨n, t, rfl⟩ := hi f hf
    exact PySem.W.Looks.of_pure rfl
  · intro p q hp hq Q' E' hQ
    rw [pairsOf_toList] at hp hq
    obtain ⟨c, k, tp⟩ := x _ (mem_zip_self hp).2
    obtain ⟨d, l, tq⟩ := x _ (mem_zip_self hq).2
    have ep := hr _ (mem_zip_self hp).2 _ _ tp
    have eq2 := hr _ (mem_zip_self hq).2 _ _ tq
    have rr := hρ _ (mem_zip_self hp).2 _ (mem_zip_self hq).2 _ _ _ _ tp tq
    have hQ' : Q' (decide (ρ c k < ρ d l)) s := by
      have z : decide (r p.1 < r q.1) = decide (ρ c k < ρ d l) := by rw [ep, eq2]
      rw [← z]; exact hQ
    obtain ⟨a, t, u, e1, hk, ⟨o, ho, hc, n, hdt⟩⟩ := tp
    obtain ⟨a', t', u', e2, hk', ⟨o', ho', hc', n', hdt'⟩⟩ := tq
    rw [e1, e2]
    refine PySem.W.kat_lt ho hdt ho' hdt' ?_
    exact lex_prs hk hk' rr hQ'
/-- list.sort of a list of pairs -/
theorem sort_prs {ρ : Int → Key → Int} {a : Addr} {vs : List Value} {n : Nat} {P : PySem.Fin → Shared → Prop} (ho : s.heap.get? a = some (seqObj "list" vs.toArray n)) (h64 : vs.length < 64) (x : PrsOk s.heap vs)
    (hρ : ∀ v ∈ vs, ∀ u ∈ vs, ∀ c k d l, PairR s.heap v c k → PairR s.heap u d l → Ranks ρ c k d l) (r : Value → Int) (hr : ∀ v, v ∈ vs → ∀ c k, PairR s.heap v c k → r v = ρ c k)
    (h : ∀ out : Array Value, out.toList.Perm vs → out.toList.Pairwise (fun u v => r u ≤ r v) → P (.done (.ret .none)) { s with heap := sortedHeap s.heap a vs out }) :
    wpAny (model prog w) A (Builtin.«list.sort» ⟨[.ref a], []⟩) P E s := by
  have keep : ∀ b o, s.heap.get? b = some o → o.cls = .type "tuple" → (midHeap s.heap a vs).get? b = some o := fun b o e hc => by
    refine midHeap_old ?_ e
    rintro rfl
    rw [ho] at e
    have e' : seqObj "list" vs.toArray n = o := Option.some.inj e
    rw [← e'] at hc
    have c' : Value.type "list" = Value.type "tuple" := hc
    injection c' with c''
    exact absurd c'' (by decide)
  have back : ∀ {v : Value} (c : Int) (k : Key), v ∈ vs → PairR (midHeap s.heap a vs) v c k → PairR s.heap v c k := fun {v} c k hv y => by
    obtain ⟨c0, k0, y0⟩ := x v hv
    obtain ⟨rfl, rfl⟩ := (y0.keeps keep).uniq y
    exact y0
  refine SK.plain_sort (r := r) ho h64 (fun h2 Q hQ => ?_) fun ps out h1 h2 h3 => ?_
  · refine kind_prs (s := { s with heap := midHeap s.heap a vs }) (ρ := ρ) h2 (fun v hv => let ⟨c, k, y⟩ := x v hv; ⟨c, k, y.keeps keep⟩) r (fun v hv c k t => hr v hv c k (back c k hv t)) (fun v hv u hu c k d l y z => hρ v hv u hu c k d l (back c k hv y) (back d l hu z)) Q hQ
  · obtain ⟨p, o⟩ := out_rank h1 h2 h3
    exact h out p o
/-- sorted(xs) of a list -/
theorem sorted_prs {ρ : Int → Key → Int} {l : Addr} {vs : List Value} {Q : Value → Shared → Prop} (hl : s.heap.IsList l vs.toArray) (h64 : vs.length < 64) (x : PrsOk s.heap vs)
    (hρ : ∀ v ∈ vs, ∀ u ∈ vs, ∀ c k d l, PairR s.heap v c k → PairR s.heap u d l → Ranks ρ c k d l)
    (h : ∀ out : Array Value, out.toList.Perm vs → out.toList.Pairwise (fun u v => rk ρ s.heap u ≤ rk ρ s.heap v) → Q (.ref (s.heap.objs.size + 1)) { s with heap := sortedAll s.heap vs out }) :
    wpAny (model prog w) A (call (.builtin "sorted") [.ref l]) Q E s := by
  refine Calls.call_function_entry kind_sorted plain_sorted entry_sorted (args_sorted1 _) ?_
  unfold Builtin.«sorted»
  refine wpAny_bind (m := checkCount "sorted" 1 1 _) (wpAny_pure ?_)
  refine wpAny_bind (collect_list hl ?_ (by rw [sizeLine_eq]; omega))
  refine wpAny_bind (wpAny_newList ?_ (by rw [sizeLine_eq]; omega))
  have hsz : ((s.heap.push (seqObj "list" #[] 0)).update s.heap.objs.size (Obj.mapSeq (· ++ vs.toArray))).objs.size = s.heap.objs.size + 1 := by
    rw [Heap.size_update, size_push']
  have hoL : (((s.heap.push (seqObj "list" #[] 0)).update s.heap.objs.size (Obj.mapSeq (· ++ vs.toArray))).push (seqObj "list" vs.toArray 0)).get? (s.heap.objs.size + 1) = some (seqObj "list" vs.toArray 0) := by
    rw [← hsz]; exact Heap.get?_push_size _ rfl
  have keep : ∀ b o, s.heap.get? b = some o → o.cls = .type "tuple" → (((s.heap.push (seqObj "list" #[] 0)).update s.heap.objs.size (Obj.mapSeq (· ++ vs.toArray))).push (seqObj "list" vs.toArray 0)).get? b = some o := fun b o q _ => by
    have hlt : b < s.heap.objs.size := Heap.lt_size q
    rw [Heap.get?_push_ne _ _ _ (by rw [hsz]; exact Nat.ne_of_lt (Nat.lt_succ_of_lt hlt)), Heap.get?_update_ne _ _ _ _ (Nat.ne_of_lt hlt), Heap.get?_push_ne _ _ _ (Nat.ne_of_lt hlt)]
    exact q
  have back : ∀ {v : Value} (c : Int) (k : Key), v ∈ vs → PairR (((s.heap.push (seqObj "list" #[] 0)).update s.heap.objs.size (Obj.mapSeq (· ++ vs.toArray))).push (seqObj "list" vs.toArray 0)) v c k → PairR s.heap v c k := fun {v} c k hv y => by
    obtain ⟨c0, k0, y0⟩ := x v hv
    obtain ⟨rfl, rfl⟩ := (y0.keeps keep).uniq y
    exact y0
  show wpAny _ _ _ _ _ { s with heap := ((s.heap.push (seqObj "list" #[] 0)).update s.heap.objs.size (Obj.mapSeq (· ++ vs.toArray))).push (seqObj "list" vs.toArray 0) }
  rw [hsz]
  refine wpAny_bind (wpAny_holding (wpAny_call_entry slot_list_sort ⟨_, hoL, rfl⟩ entry_list_sort (sort_prs (ρ := ρ) hoL h64 (fun v hv => let ⟨c, k, y⟩ := x v hv; ⟨c, k, y.keeps keep⟩) (fun v hv u hu c k d l y z => hρ v hv u hu c k d l (back c k hv y) (back d l hu z)) (fun v => rk ρ s.heap v) (fun v hv c k t => ?_) fun out a1 a2 => ⟨_, rfl, ?_⟩) (args_list_sort _)))
  · exact (back c k hv t).rk ρ
  · exact wpAny_pure ⟨_, rfl, h out a1 a2⟩
end
/-- x is a pair of c and k -/
def PairV (K : PySem.W.Frag) (H : Hp) (x : V) (c : Int) (k : Key) : Prop := ∃ t, x = .ref t ∧ SqT K H t [.int c, kV k]
section
variable {X : Cx} {pins : List (Addr × Obj)} {σ : L2.St} {H : Hp} {s : Shared}
theorem keyIs_of {k : Key} {u : Value} (r : RelV (kV k) u) : keyIs k u = true := by
  cases k with
  | inl i => obtain ⟨t, rfl⟩ := r; exact keyIs_int i t
  | inr x => obtain ⟨t, rfl⟩ := r; exact keyIs_str x t
theorem pairV_raw (I : Inv X pins σ H s) {t : Addr} {c : Int} {k : Key} (h : SqT X.K H t [.int c, kV k]) : PairR s.heap (.ref t) c k := by
  obtain ⟨its, rv, hT, _⟩ := I.tuple h
  obtain ⟨u1, u2, rfl, ⟨t1, rfl⟩, r2⟩ := vals2 rv
  exact ⟨t, t1, u2, rfl, keyIs_of r2, hT⟩
/-- sorted(xs), xs a list of fewer than 64 pairs, by a rank -/
def rSortP (K : PySem.W.Frag) : List V → Hp → VK → Prop := fun vs H Q => ∃ (a : Addr) (xs : List V) (f : V → Int × Key) (ρ : Int → Key → Int), vs = [V.ref a] ∧ SqL K H a xs ∧ xs.length < 64 ∧ (∀ x ∈ xs, PairV K H x (f x).1 (f x).2) ∧
  (∀ x ∈ xs, ∀ y ∈ xs, Ranks ρ (f x).1 (f x).2 (f y).1 (f y).2) ∧
  ∀ (ys : List V) (p : Addr), ys.Perm xs → ys.Pairwise (fun x y => ρ (f x).1 (f x).2 ≤ ρ (f y).1 (f y).2) → H p = none → Q (.ref p) (upd H p (.lst ys))
theorem cr_sortP : CallR X (.builtin "sorted") (rSortP X.K) := by
  intro pins s σ H vs us Q I r h
  obtain ⟨a, xs, f, ρ, rfl, hs, h64, hx, hρ, q⟩ := h
  obtain ⟨its, rv, hl, hz⟩ := I.list hs
  rw [Vals.ref1 r]
  obtain ⟨e1, e2⟩ := bkV_refs rv fun x m => by
    obtain ⟨t, e, _⟩ := hx x m
    exact ⟨t, e⟩
  have mem : ∀ {t : Addr}, Value.ref t ∈ its → V.ref t ∈ xs := fun {t} hv => by
    rw [e1]
    exact List.mem_map.mpr ⟨_, hv, rfl⟩
  have raw : ∀ {t : Addr}, V.ref t ∈ xs → PairR s.heap (.ref t) (f (.ref t)).1 (f (.ref t)).2 := fun {t} hm => by
    obtain ⟨t', e, ht⟩ := hx _ hm
    cases e
    exact pairV_raw I ht
  refine sorted_prs (ρ := ρ) hl.isList (by rw [← rv.length]; exact h64) (fun v hv => ?_) (fun v hv u hu c k d l y z => ?_) fun out h1 h2 => ?_
  · obtain ⟨t, rfl⟩ := e2 v hv
    exact ⟨_, _, raw (mem hv)⟩
  · obtain ⟨t, rfl⟩ := e2 v hv
    obtain ⟨t', rfl⟩ := e2 u hu
    obtain ⟨rfl, rfl⟩ := (raw (mem hv)).uniq y
    obtain ⟨rfl, rfl⟩ := (raw (mem hu)).uniq z
    exact hρ _ (mem hv) _ (mem hu)
  · obtain ⟨ep, he'⟩ := PyProof.Rows.sortedAll_at s.heap its out
    have h3 : ∀ u ∈ out.toList, ∃ a, u = Value.ref a := fun u hu => e2 u (h1.mem_iff.mp hu)
    have hp : (out.toList.map bkV).Perm xs := by
      rw [e1]
      exact h1.map bkV
    have hlen : (out.toList.map bkV).length ≤ sizeLine := by
      rw [hp.length_eq]
      exact hz
    refine ⟨.ref _, upd H (s.heap.objs.size + 1) (.lst (out.toList.map bkV)), I.laid (t' := s.toks) (fun _ _ => PyProof.Rows.sortedAll_old) (Nat.le_succ _) ⟨hlen, out.toList, ep, bkV_vals h3, he'⟩, rfl, q _ _ hp ?_ (I.hok.fresh (Nat.le_succ _))⟩
    rw [List.pairwise_map]
    refine List.Pairwise.imp_of_mem (fun {u v} hu hv huv => ?_) h2
    have hu' := h1.mem_iff.mp hu
    have hv' := h1.mem_iff.mp hv
    obtain ⟨t, rfl⟩ := e2 u hu'
    obtain ⟨t', rfl⟩ := e2 v hv'
    have i1 : rk ρ s.heap (.ref t) = ρ (f (.ref t)).1 (f (.ref t)).2 := (raw (mem hu')).rk ρ
    have i2 : rk ρ s.heap (.ref t') = ρ (f (.ref t')).1 (f (.ref t')).2 := (raw (mem hv')).rk ρ
    show ρ (f (.ref t)).1 (f (.ref t)).2 ≤ ρ (f (.ref t')).1 (f (.ref t')).2
    rw [← i1, ← i2]
    exact huv
end
end SP
set_option Elab.async false
set_option linter.all false
set_option maxRecDepth 100000
set_option maxHeartbeats 4000000
namespace K10
open PySem PySem.Spec PyProof.Rows L2
section
variable {X : Cx}
/-- x in t, t a tuple of data -/
def rInTD (K : PySem.W.Frag) : R2 := fun x y H Q => ∃ d ds, Dp K H x d ∧ Dp K H y (.tuple ds) ∧ SeqAt.shaped d = true ∧ SeqAt.shaped (.tuple ds) = true ∧ Q (.bl (ds.any fun z => PyData.eqv z d)) H
theorem op_inTD (hu : X.A.units + 65 < cLine) : OpR X (compareOp .In) (rInTD X.K) := by
  intro pins s σ H x y v u Q I rx ry ⟨d, ds, hd, he, sd, se, q⟩
  obtain ⟨_, r1⟩ := Dp.reads I d x v hd rx
  obtain ⟨_, r2⟩ := Dp.reads I (.tuple ds) y u he ry
  have l1 := SeqAt.canLay_of_shaped se
  have l2 := SeqAt.canLay_of_shaped sd
  exact SeqAt.in_tuple_reads r2 r1 l1 l2 (room_in_shaped sd hu) ⟨.bl _, H, I, rfl, q⟩
/-- one of two roads of a built-in -/
theorem cr_or {f : Value} {r1 r2 : List V → Hp → VK → Prop} (h1 : CallR X f r1) (h2 : CallR X f r2) : CallR X f (fun xs H Q => r1 xs H Q ∨ r2 xs H Q) := by
  intro pins s σ H vs us Q I r h
  rcases h with h | h
  · exact h1 _ _ _ _ _ _ _ I r h
  · exact h2 _ _ _ _ _ _ _ I r h
end
/-! ### the keys of a dict of truths -/
theorem put_keys (kvs : List (Key × V)) (k : Key) (v : V) : (k ∈ kvs.map (·.1) ∧ (putK kvs k v).map (·.1) = kvs.map (·.1)) ∨ (k ∉ kvs.map (·.1) ∧ (putK kvs k v).map (·.1) = kvs.map (·.1) ++ [k]) := by
  unfold putK
  by_cases h : k ∈ kvs.map (·.1)
  · obtain ⟨p, hp, e⟩ := List.mem_map.mp h
    have a : (kvs.any fun kv => decide (kv.1 = k)) = true := List.any_eq_true.mpr ⟨p, hp, decide_eq_true e⟩
    rw [if_pos a, List.map_map]
    refine .inl ⟨h, List.map_congr_left fun q _ => ?_⟩
    show (if q.1 = k then (q.1, v) else q).1 = q.1
    split <;> rfl
  · have a : ¬ (kvs.any fun kv => decide (kv.1 = k)) = true := fun z => by
      obtain ⟨p, hp, e⟩ := List.any_eq_true.mp z
      exact h (List.mem_map.mpr ⟨p, hp, of_decide_eq_true e⟩)
    rw [if_neg a, List.map_append]
    exact .inr ⟨h, rfl⟩
/-- a dict whose keys are these -/
def KeysAre (kvs : List (Key × V)) (qs : List Key) : Prop := (kvs.map (·.1)).Nodup ∧ (∀ k, k ∈ kvs.map (·.1) ↔ k ∈ qs) ∧ kvs.length ≤ qs.length
theorem KeysAre.nil : KeysAre [] [] := ⟨List.nodup_nil, fun _ => Iff.rfl, Nat.le_refl _⟩
theorem KeysAre.put {kvs : List (Key × V)} {qs : List Key} {v : V} (h : KeysAre kvs qs) (k : Key) : KeysAre (putK kvs k v) (qs ++ [k]) := by
  obtain ⟨n, m, l⟩ := h
  have hl := length_putK kvs k v
  rcases put_keys kvs k v with ⟨hk, e⟩ | ⟨hk, e⟩
  · refine ⟨by rw [e]; exact n, fun j => ?_, by rw [List.length_append]; show _ ≤ qs.length + 1; omega⟩
    rw [e, List.mem_append, List.mem_singleton, m j]
    exact ⟨.inl, fun z => z.elim id fun e => by rw [e]; exact (m k).1 hk⟩
  · refine ⟨?_, fun j => ?_, by rw [List.length_append]; show _ ≤ qs.length + 1; omega⟩
    · rw [e]
      refine List.nodup_append.mpr ⟨n, List.nodup_cons.mpr ⟨List.not_mem_nil, List.nodup_nil⟩, fun a ha b hb z => ?_⟩
      rw [List.mem_singleton.mp hb] at z
      exact hk (z ▸ ha)
    · rw [e, List.mem_append, List.mem_singleton, List.mem_append, List.mem_singleton, m j]
end K10
set_option Elab.async false
set_option linter.all false
set_option maxRecDepth 100000
set_option maxHeartbeats 4000000
namespace K10
open PySem PySem.Spec PyProof.Rows L2
def KeyD.lit : KeyD → Option Key
  | .val k => some k
  | .par _ => none
def KeyD.par? : KeyD → Option Nat
  | .par i => some i
  | .val _ => none
def ShD.keys (s : ShD) : List KeyD := s.ents.filterMap EntD.key
theorem lits_keys (s : ShD) : s.lits = s.keys.filterMap KeyD.lit := by
  unfold ShD.lits ShD.keys
  rw [List.filterMap_filterMap]
  refine congrArg (fun f => List.filterMap f s.ents) (funext fun e => ?_)
  unfold EntD.lit
  cases e.key with
  | none => rfl
  | some k => cases k <;> rfl
theorem named_keys (s : ShD) : named s = s.keys.filterMap KeyD.par? := by
  unfold named ShD.keys
  rw [List.filterMap_filterMap]
  refine congrArg (fun f => List.filterMap f s.ents) (funext fun e => ?_)
  unfold EntD.par
  cases e.key with
  | none => rfl
  | some k => cases k <;> rfl
/-- a value of a kind, as the program asks -/
def kindWord (k : Key) : Str := if isText k then "text" else "int"
def ofK (kd : Str) (k : Key) : Bool := decide (V.str kd = V.str (kindWord k))
theorem ofK_is {kd : Str} (h : kd = "int" ∨ kd = "text") (k : Key) : ofK kd k = ofKind kd k := by
  unfold ofK ofKind kindWord
  rcases h with rfl | rfl <;> cases isText k <;> decide +kernel
def found2 (kd : Str) (ss : List ShD) : List Key := (ss.flatMap ShD.lits).filter (ofK kd)
theorem found2_is {kd : Str} (h : kd = "int" ∨ kd = "text") (ss : List ShD) : found2 kd ss = found kd ss := by
  unfold found2 found
  exact List.filter_congr fun k _ => ofK_is h k
theorem found2_few {kd : Str} {ss : List ShD} (few : Few ss) : (found2 kd ss).length ≤ 18 := by
  unfold found2
  refine Nat.le_trans (List.length_filter_le _ _) (Nat.le_trans (flat_le _ 6 ss fun s hs => ?_) (Nat.mul_le_mul_right 6 few.1))
  exact Nat.le_trans (List.length_filterMap_le _ _) (few.2 s hs).1
theorem found2_take {kd : Str} {ss : List ShD} {i : Nat} {s : ShD} (h : ss[i]? = some s) : found2 kd (ss.take (i + 1)) = found2 kd (ss.take i) ++ s.lits.filter (ofK kd) := by
  unfold found2
  rw [List.take_add_one, h, List.flatMap_append, List.filter_append]
  show _ ++ List.filter _ ([s].flatMap ShD.lits) = _
  rw [List.flatMap_cons, List.flatMap_nil, List.append_nil]
theorem keys_take {kd : Str} {ks : List KeyD} {j : Nat} {k : KeyD} (h : ks[j]? = some k) : ((ks.take (j + 1)).filterMap KeyD.lit).filter (ofK kd) = ((ks.take j).filterMap KeyD.lit).filter (ofK kd) ++ (k.lit.toList.filter (ofK kd)) := by
  rw [List.take_add_one, h, List.filterMap_append, List.filter_append]
  congr 1
def spKeys : Sp := fun vs H Q _ => ∃ (v : V) (s : ShD), vs = [v] ∧ ShAt H v s ∧ s.ents.length ≤ 6 ∧ ∀ (q : Addr) (ks : List V) (H' : Hp), H q = none → H' q = some (.lst ks) → AllAt (KeyAt H') ks s.keys → Same H H' → Q (.ref q) H'
def spKind : Sp := fun vs H Q _ => ∃ (k : Key) (kd : Str), vs = [kV k, .str kd] ∧ Q (.bl (ofK kd k)) H
/-- what literals tells -/
def LitOf (kd : Str) (ss : List ShD) (xs : List V) : Prop := (kd = "int" ∨ kd = "text") → IsLit kd ss xs
def spLits : Sp := fun vs H Q _ => ∃ (a : V) (kd : Str) (ss : List ShD), vs = [a, .str kd] ∧ ShapesAt H a ss ∧ Few ss ∧ ∀ (p : Addr) (xs : List V) (H' : Hp), LitOf kd ss xs → xs.length ≤ 18 → H p = none → H' p = some (.tup xs) → Same H H' → Q (.ref p) H'
section
variable {P : Program} {w : World} {K : PySem.W.Frag} {mg : Str → Option Value} {base : Heap}
theorem c_keys_of (T : Txt K mg) : C8.Cal P w K mg base 1 "keys_of" spKeys [] := by
  refine cal_of T.d_keys_of T.g_keys_of sc_keys_of (fun fd F => b_keys_of F) (fun vs H Q E h => ?_) (fun cdv A outer s H vs Q E hr h => ?_)
  · obtain ⟨v, sh, rfl, _⟩ := h
    rfl
  · obtain ⟨v, sh, rfl, hS, he6, k⟩ := h
    refine ⟨_, (pss_one (ps_ret (pe_lc (own := [("entry", 1)]) (g := gName 1) rfl sc_keys_of.nd (pi_tup (pe_ix ix_tup (pv 0) pe_int (fun _ _ => rfl))) (blkOk_by (own := [("entry", 1)]) (N := n_keys_of) (sc := defScope s_keys_of) (by decide +kernel)) (fun _ _ _ _ _ => (pg_name (i := 1) sc_keys_of.nd rfl (by first | exact .inl rfl | exact .inr rfl))) (fun _ _ _ _ _ => pts_one (pt_cmpR op_ne (pe_ix (ix_tupK (K := K) rfl) (pv 1) pe_int (fun _ _ => rfl)) pe_str (nomark _))) (fun _ _ _ _ _ => (pe_ix (ix_tupK (K := K) rfl) (pv 1) pe_int (fun _ _ => rfl)))))), ?_⟩
    obtain ⟨p, a1, a2, nm, es, rfl, hp, ha1, hes, hE⟩ := id hS
    refine ⟨_, rfl, _, _, _, _, rfl, rfl, SqT.of hp, rfl, a2, rfl, ⟨_, SqT.of hes⟩, fun D nD => ?_⟩
    have tk : ∀ {o : HO}, Tk H (upd H D o) := Tk.refl.new nD
    refine lc_tup (K := K) (a := a2) (xs := es) (fun i H' => ∃ ks, H' = upd H D (.lst ks) ∧ AllAt (KeyAt H) ks ((sh.ents.take i).filterMap EntD.key)) ⟨[], rfl, AllAt.nil⟩ (fun i H' _ h => ?_) (fun i v H' hv h => ?_) (fun H' h => ?_)
    · obtain ⟨ks, rfl, _⟩ := h
      exact SqT.of (tk _ _ hes)
    · obtain ⟨ks, rfl, hks⟩ := h
      obtain ⟨e, he, x, rfl, rE⟩ := hE.2 i v hv
      have step : (sh.ents.take (i + 1)).filterMap EntD.key = (sh.ents.take i).filterMap EntD.key ++ e.key.toList := by
        rw [List.take_add_one, he, List.filterMap_append]
        congr 1
      refine ⟨rfl, ?_⟩
      rcases rE with ⟨e1, e2, e3⟩ | ⟨kd1, kv, e1, e2, e3, hk⟩
      · refine ⟨_, rfl, _, _, _, _, rfl, rfl, SqT.of (tk _ _ e3), rfl, rfl, _, rfl, iteF ⟨ks, rfl, ?_⟩⟩
        rw [step, e1]
        simpa using hks
      · refine ⟨_, rfl, _, _, _, _, rfl, rfl, SqT.of (tk _ _ e3), rfl, rfl, _, rfl, ?_⟩
        have ne : (!decide (V.str e.op = V.str (Str.ofString "a"))) = true := by
          rw [decide_eq_false fun z => e2 (V.str.inj z)]
          rfl
        rw [ne]
        refine iteT ⟨_, rfl, _, _, _, _, rfl, rfl, SqT.of (tk _ _ e3), rfl, ks, upd_same, ?_, ks ++ [kv], ?_, ?_⟩
        · rw [hks.1]
          exact small1000 (Nat.le_trans (List.length_filterMap_le _ _) (Nat.le_trans (List.length_take_le' ..) (by omega)))
        · rw [upd_upd]
        · rw [step, e1]
          exact hks.snoc hk
    · obtain ⟨ks, rfl, hks⟩ := h
      rw [hE.1, List.take_length] at hks
      exact k D ks _ nD upd_same (hks.mono fun _ _ x => x.keep tk) (same_upd nD)
theorem c_is_of_kind (T : Txt K mg) : C8.Cal P w K mg base 1 "is_of_kind" spKind [] := by
  refine cal_of T.d_is_of_kind T.g_is_of_kind sc_is_of_kind (fun fd F => b_is_of_kind F) (fun vs H Q E h => ?_) (fun cdv A outer s H vs Q E hr h => ?_)
  · obtain ⟨k, kd, rfl, _⟩ := h
    rfl
  · obtain ⟨k, kd, rfl, q⟩ := h
    refine ⟨_, (pss_one (ps_ret (pe_cmpR op_eq (pv 1) (pe_ifExp (pt_cmpR op_isTyB (pe_callTy call_type1 (by rfl) T.z_type (by decide +kernel) (pa_cons (pv 0) pa_nil)) (pe_bltn (v := .ty "int") (by rfl) T.z_int (by decide +kernel) rfl) (nomark _)) pe_str pe_str) (nomark _)))), ?_⟩
    refine ⟨_, rfl, ?_⟩
    cases k with
    | inl i => exact ⟨_, rfl, _, "int", rfl, .int i, "int", "int", rfl, rfl, _, rfl, iteT ⟨rfl, q⟩⟩
    | inr x => exact ⟨_, rfl, _, "str", rfl, .str x, "str", "int", rfl, rfl, _, rfl, iteF ⟨rfl, q⟩⟩
end
end K10
set_option Elab.async false
set_option linter.all false
set_option maxRecDepth 100000
set_option maxHeartbeats 4000000
namespace K10
open PySem PySem.Spec PyProof.Rows L2
theorem keys_all (f : Key → Bool) (hf : ∀ k, f k = isText k) {qs : List Key} (h : ∀ k ∈ qs, f k = true) : ∃ xs : List Str, qs = xs.map Sum.inr := all_strs qs fun k hk => (hf k).symm.trans (h k hk)
section
variable {P : Program} {w : World} {K : PySem.W.Frag} {mg : Str → Option Value} {base : Heap}
theorem c_lits (T : Txt K mg) : C8.Cal P w K mg base 2 "literals" spLits [] := by
  have c_keys_of : C8.Cal P w K mg base 1 "keys_of" spKeys [] := c_keys_of T
  have c_is_of_kind : C8.Cal P w K mg base 1 "is_of_kind" spKind [] := c_is_of_kind T
  refine cal_of T.d_literals T.g_literals sc_literals (fun fd F => b_literals F) (fun vs H Q E h => ?_) (fun cdv A outer s H vs Q E hr h => ?_)
  · obtain ⟨a, kd, ss, rfl, _⟩ := h
    rfl
  · obtain ⟨a, kd, ss, rfl, hS, few, k⟩ := h
    have hu := hu_of hr
    refine ⟨_, (pss_cons (ps_set (i := 2) sc_literals.nd rfl (by first | exact .inl rfl | exact .inr rfl) pe_dnewK)
  (pss_cons (ps_for PassesOwn.never rfl (pi_tup (pv 0)) (pg_name (i := 3) sc_literals.nd rfl (by first | exact .inl rfl | exact .inr rfl))
    (pss_one (ps_for PassesOwn.never rfl (pi_list (C8.pe_c c_keys_of hr (by decide) (by rfl) (pa_cons (pv 3) pa_nil))) (pg_name (i := 4) sc_literals.nd rfl (by first | exact .inl rfl | exact .inr rfl))
    (pss_one (ps_if (PW.pt (pw_and (pt_cmpR op_eq (pe_ix ix_tup (pv 4) pe_int (fun _ _ => rfl)) pe_str (nomark _)) (pw_and1 (pt_truth (C8.pe_c c_is_of_kind hr (by decide) (by rfl) (pa_cons (pe_ix ix_tup (pv 4) pe_int (fun _ _ => rfl)) (pa_cons (pv 1) pa_nil))) (by intro _; rfl)))))
    (pss_one (ps_dput hu (pv 2) (pe_ix ix_tup (pv 4) pe_int (fun _ _ => rfl)) pe_bl rfl))
    pss_nil)))))
  (pss_one (ps_ret (pe_callTy call_tuple_of (by rfl) T.z_tuple (by decide +kernel) (pa_cons (pe_callB (cr_or (call_sortedD rfl) (call_sortedDI rfl)) (by rfl) T.z_sorted (by decide +kernel) (pa_cons (pv 2) pa_nil)) pa_nil)))))), ?_⟩
    obtain ⟨p, vs, rfl, hp, hA⟩ := id hS
    -- found = {}
    refine fun D nD => ?_
    -- for shape in shapes
    have s0 : Same H (upd H D (.dK [])) := same_upd nD
    refine ⟨_, rfl, p, rfl, ⟨_, SqT.of (s0 _ _ hp)⟩, for_tup (K := K) (a := p) (xs := vs) (fun i σ H' => ∃ y3 y4 kvs, σ = [some (.ref p), some (.str kd), some (.ref D), y3, y4] ∧ Same H H' ∧ H' D = some (.dK kvs) ∧ KeysAre kvs (found2 kd (ss.take i))) ⟨_, _, [], rfl, s0, upd_same, KeysAre.nil⟩ (fun i σ H' _ h => ?_) (fun i v σ H' hv h => ?_) (fun σ H' h => ?_)⟩
    · obtain ⟨_, _, _, _, s1, _⟩ := h
      exact SqT.of (s1 _ _ hp)
    · obtain ⟨y3, y4, kvs, rfl, s1, hD, ka⟩ := h
      obtain ⟨sh, hsh, rS⟩ := hA.2 i v hv
      have six := (few.2 sh (List.mem_of_getElem? hsh)).1
      -- keys_of(shape)
      refine ⟨_, rfl, v, sh, rfl, rS.keep (Tk.of_same s1), six, fun q ks H1 nq eq hks s2 => ⟨q, rfl, ⟨_, SqL.of eq⟩, ?_⟩⟩
      have klen : sh.keys.length ≤ 6 := Nat.le_trans (List.length_filterMap_le _ _) six
      refine for_list (K := K) (a := q) (xs := ks) (fun j σ H' => ∃ y4 kvs, σ = [some (.ref p), some (.str kd), some (.ref D), some v, y4] ∧ Same H H' ∧ H' q = some (.lst ks) ∧ AllAt (KeyAt H') ks sh.keys ∧ H' D = some (.dK kvs) ∧ KeysAre kvs (found2 kd (ss.take i) ++ ((sh.keys.take j).filterMap KeyD.lit).filter (ofK kd))) ⟨_, kvs, rfl, s1.trans s2, eq, hks, s2 _ _ hD, by simpa using ka⟩ (fun j σ H' _ h => ?_) (fun j x σ H' hx h => ?_) (fun σ H' h => ?_)
      · obtain ⟨_, _, _, _, e, _⟩ := h
        exact SqL.of e
      · obtain ⟨y4, kvs, rfl, s3, eq', hks', hD', ka'⟩ := h
        obtain ⟨kd1, hkd, kp, rfl, hkp⟩ := hks'.2 j x hx
        have step := keys_take (kd := kd) hkd
        cases kd1 with
        | par n =>
          refine ⟨_, rfl, _, _, _, _, rfl, rfl, SqT.of hkp, rfl, rfl, _, rfl, ?_⟩
          have nv : decide (V.str (Str.ofString "param") = V.str (Str.ofString "value")) = false := by decide +kernel
          show if decide (V.str (Str.ofString "param") = V.str (Str.ofString "value")) = true then _ else _
          rw [nv]
          refine iteF (iteF ⟨_, kvs, rfl, s3, eq', hks', hD', ?_⟩)
          rw [step]
          simpa [KeyD.lit] using ka'
        | val z =>
          refine ⟨_, rfl, _, _, _, _, rfl, rfl, SqT.of hkp, rfl, rfl, _, rfl, ?_⟩
          have nv : decide (V.str (Str.ofString "value") = V.str (Str.ofString "value")) = true := by decide +kernel
          show if decide (V.str (Str.ofString "value") = V.str (Str.ofString "value")) = true then _ else _
          rw [nv]
          refine iteT ⟨_, rfl, _, _, _, _, rfl, rfl, SqT.of hkp, rfl, _, rfl, z, kd, rfl, ?_⟩
          refine ⟨_, rfl, ?_⟩
          cases ho : ofK kd z with
          | false =>
            refine iteF ⟨_, kvs, rfl, s3, eq', hks', hD', ?_⟩
            rw [step]
            simpa [KeyD.lit, ho] using ka'
          | true =>
            refine iteT ⟨_, rfl, _, rfl, _, _, _, _, rfl, rfl, SqT.of hkp, rfl, D, _, rfl, DPut.k (k := z) hD' ?_, ?_⟩
            · have h1 := ka'.2.2
              rw [List.length_append] at h1
              have h2 := found2_few (kd := kd) (few.take i)
              have h3 : (((sh.keys.take j).filterMap KeyD.lit).filter (ofK kd)).length ≤ 6 := Nat.le_trans (List.length_filter_le _ _) (Nat.le_trans (List.length_filterMap_le _ _) (Nat.le_trans (List.length_take_le' ..) klen))
              exact small1000 (by omega)
            · have qD : q ≠ D := fun z => by rw [z, hD'] at eq'; cases eq'
              have tk : Tk H' (upd H' D (.dK (putK kvs z (.bl true)))) := Tk.refl.upd fun xs z => by rw [hD'] at z; cases z
              refine ⟨_, _, rfl, ?_, by rw [upd_ne qD]; exact eq', hks'.mono fun _ _ x => x.keep tk, upd_same, ?_⟩
              · intro b o e
                have nb : b ≠ D := ne_of_none e nD
                rw [upd_ne nb]
                exact s3 b o e
              · rw [step]
                have e1 : (KeyD.val z).lit.toList.filter (ofK kd) = [z] := by simp [KeyD.lit, ho]
                rw [e1, ← List.append_assoc]
                exact ka'.put z
      · obtain ⟨y4, kvs, rfl, s3, eq', hks', hD', ka'⟩ := h
        refine ⟨_, _, kvs, rfl, s3, hD', ?_⟩
        rw [found2_take hsh, lits_keys]
        rw [hks'.1, List.take_length] at ka'
        exact ka'
    · obtain ⟨y3, y4, kvs, rfl, s1, hD, ka⟩ := h
      rw [hA.1, List.take_length] at ka
      have hf := found2_few (kd := kd) few
      have hl : kvs.length ≤ 18 := Nat.le_trans ka.2.2 hf
      by_cases ek : kd = "text"
      · obtain ⟨xs, ex⟩ : ∃ xs : List Str, kvs.map (·.1) = xs.map Sum.inr := all_strs _ fun z hz => by
          have h2 := (List.mem_filter.mp ((ka.2.1 z).1 hz)).2
          rw [ofK_is (.inr ek)] at h2
          unfold ofKind at h2
          rw [ek, decide_eq_true rfl] at h2
          simpa using h2
        have lx : xs.length ≤ 18 := by
          have := congrArg List.length ex
          rw [List.length_map, List.length_map] at this
          omega
        refine ⟨_, rfl, .inl ⟨D, kvs, xs, rfl, Rd.of hD, ex, by omega, fun ys l pm hs nl => ?_⟩⟩
        refine ⟨l, _, rfl, .inl ⟨SqL.of upd_same, fun t nt => ?_⟩⟩
        have nn : xs.Nodup := by
          have h1 := ka.1
          rw [ex] at h1
          exact List.Pairwise.of_map Sum.inr (fun a b h e => h (congrArg _ e)) h1
        refine k t (ys.map V.str) _ (fun _ => ⟨by rw [List.length_map, pm.length_eq]; exact lx, .inl ⟨ek, ys, rfl, hs, pm.nodup_iff.mpr nn, fun y => ?_⟩⟩) (by rw [List.length_map, pm.length_eq]; exact lx) (s1.free ((same_upd nl).free nt)) upd_same (s1.trans ((same_upd nl).trans (same_upd nt)))
        rw [pm.mem_iff, ← found2_is (.inr ek), ← ka.2.1, ex]
        exact ⟨fun h => List.mem_map_of_mem h, fun h => let ⟨m, hm, e⟩ := List.mem_map.mp h; by rw [← Sum.inr.inj e]; exact hm⟩
      · obtain ⟨ns, ex⟩ : ∃ ns : List Int, kvs.map (·.1) = ns.map Sum.inl := all_ints _ fun z hz => by
          have h2 := (List.mem_filter.mp ((ka.2.1 z).1 hz)).2
          cases z with
          | inl i => rfl
          | inr x =>
            have h3 : V.str kd = V.str (kindWord (Sum.inr x)) := of_decide_eq_true h2
            exact absurd (V.str.inj h3) ek
        have lx : ns.length ≤ 18 := by
          have := congrArg List.length ex
          rw [List.length_map, List.length_map] at this
          omega
        refine ⟨_, rfl, .inr ⟨D, kvs, ns, rfl, Rd.of hD, ex, by omega, fun ys l pm hs nl => ?_⟩⟩
        refine ⟨l, _, rfl, .inl ⟨SqL.of upd_same, fun t nt => ?_⟩⟩
        have nn : ns.Nodup := by
          have h1 := ka.1
          rw [ex] at h1
          exact List.Pairwise.of_map Sum.inl (fun a b h e => h (congrArg _ e)) h1
        refine k t (ys.map V.int) _ (fun hk => ⟨by rw [List.length_map, pm.length_eq]; exact lx, .inr ⟨ek, ys, rfl, hs, pm.nodup_iff.mpr nn, fun y => ?_⟩⟩) (by rw [List.length_map, pm.length_eq]; exact lx) (s1.free ((same_upd nl).free nt)) upd_same (s1.trans ((same_upd nl).trans (same_upd nt)))
        rw [pm.mem_iff, ← found2_is hk, ← ka.2.1, ex]
        exact ⟨fun h => List.mem_map_of_mem h, fun h => let ⟨m, hm, e⟩ := List.mem_map.mp h; by rw [← Sum.inl.inj e]; exact hm⟩
theorem c_literals (T : Txt K mg) : C8.Cal P w K mg base 8 "literals" spLiterals [] := by
  obtain ⟨f, fd, ps, ds, F, hm, kp, b, d⟩ := (c_lits (P := P) (w := w) (base := base) T).ex
  refine ⟨f, fd, ps, ds, (F.imp fun vs H Q E h => ?_).mono (by decide), hm, kp, b, d⟩
  obtain ⟨a, kd, ss, rfl, hS, wf, hk, q⟩ := h
  exact ⟨a, kd, ss, rfl, hS, wf.few, fun p xs H' hx _ _ e s => q p xs H' (hx hk) e s⟩
end
end K10
set_option Elab.async false
set_option linter.all false
set_option maxRecDepth 100000
set_option maxHeartbeats 4000000
namespace K10
open PySem PySem.Spec PyProof.Rows L2
/-- a dict comprehension over a list: its reading -/
theorem dc_lst {K : PySem.W.Frag} {a : Addr} {xs : List V} {g : TG} {tt : TT} {tk tv : TE} {vs : List Nat} {σ : L2.St} {B : Hp} {D : Addr} {Qd : Hp → Prop} (Pv : Nat → Hp → Prop)
    (h0 : Pv 0 (upd B D (.dK []))) (keep : ∀ i H, i ≤ xs.length → Pv i H → SqL K H a xs) (fin : ∀ H, Pv xs.length H → Qd H)
    (turn : ∀ i x H, xs[i]? = some x → Pv i H → g x (wipe σ vs) H fun τ I => wipe τ vs = wipe σ vs ∧ tt τ I fun b J => if b = true then tk τ J fun y L => tv τ L fun z M => ∃ kvs k, y = kV k ∧ M D = some (.dK kvs) ∧ kvs.length < sizeLine ∧ Pv (i + 1) (upd M D (.dK (putK kvs k z))) else Pv (i + 1) J) :
    ∃ W : Nat → Nat → Hp → Prop, (∃ m, W 0 m (upd B D (.dK []))) ∧ ∀ i m H, W i m H → ((Itl K a).stop i H ∧ Qd H) ∨ ((Itl K a).go i H ∧ ∃ Nx : Hp → Prop, (∀ H', Nx H' → ∃ m', m' < m ∧ W (i + 1) m' H') ∧ ∀ x H', (Itl K a).yld i H x H' → g x (wipe σ vs) H' fun τ I => wipe τ vs = wipe σ vs ∧ tt τ I fun b J => if b = true then tk τ J fun y L => tv τ L fun z M => ∃ kvs k, y = kV k ∧ M D = some (.dK kvs) ∧ kvs.length < sizeLine ∧ Nx (upd M D (.dK (putK kvs k z))) else Nx J) := by
  refine ⟨fun i m H => i + m = xs.length ∧ Pv i H, ⟨xs.length, Nat.zero_add _, h0⟩, fun i m H w => ?_⟩
  obtain ⟨e, p⟩ := w
  have st := keep i H (by omega) p
  cases m with
  | zero =>
    have e' : i = xs.length := e
    rw [e'] at p
    exact .inl ⟨⟨xs, st, Nat.le_of_eq e'.symm⟩, fin H p⟩
  | succ m =>
    have lt : i < xs.length := by omega
    refine .inr ⟨⟨xs, xs[i], st, List.getElem?_eq_getElem lt⟩, Pv (i + 1), fun H' q => ⟨m, Nat.lt_succ_self m, by omega, q⟩, fun x H' y => ?_⟩
    obtain ⟨rfl, at_⟩ := y
    exact turn i x _ (at_ xs st) p
def spNamed : Sp := fun vs H Q _ => ∃ (v : V) (s : ShD), vs = [v] ∧ ShAt H v s ∧ s.ents.length ≤ 6 ∧ ∀ (q : Addr) (ns : List Nat) (H' : Hp), H' q = some (.lst (ns.map fun n : Nat => V.int (n : Int))) → ns.Pairwise (· < ·) → (∀ n, n ∈ ns ↔ n ∈ named s) → ns.length ≤ 6 → Same H H' → Q (.ref q) H'
theorem par_take {ks : List KeyD} {j : Nat} {k : KeyD} (h : ks[j]? = some k) : (ks.take (j + 1)).filterMap KeyD.par? = (ks.take j).filterMap KeyD.par? ++ k.par?.toList := by
  rw [List.take_add_one, h, List.filterMap_append]
  congr 1
section
variable {P : Program} {w : World} {K : PySem.W.Frag} {mg : Str → Option Value} {base : Heap}
theorem c_named (T : Txt K mg) : C8.Cal P w K mg base 2 "named" spNamed [] := by
  have c_keys_of : C8.Cal P w K mg base 1 "keys_of" spKeys [] := c_keys_of T
  refine cal_of T.d_named T.g_named sc_named (fun fd F => b_named F) (fun vs H Q E h => ?_) (fun cdv A outer s H vs Q E hr h => ?_)
  · obtain ⟨v, sh, rfl, _⟩ := h
    rfl
  · obtain ⟨v, sh, rfl, hS, he6, k⟩ := h
    refine ⟨_, (pss_one (ps_ret (pe_callB (call_sortedDI rfl) (by rfl) T.z_sorted (by decide +kernel) (pa_cons (pe_dc (own := [("key", 1)]) (g := gName 1) rfl sc_named.nd (pi_list (C8.pe_c c_keys_of hr (by decide) (by rfl) (pa_cons (pv 0) pa_nil))) (blkOk_by (own := [("key", 1)]) (N := n_named) (sc := defScope s_named) (by decide +kernel)) (fun _ _ _ _ _ => (pg_name (i := 1) sc_named.nd rfl (by first | exact .inl rfl | exact .inr rfl))) (fun _ _ _ _ _ => pts_one (pt_cmpR op_eq (pe_ix (ix_tupK (K := K) rfl) (pv 1) pe_int (fun _ _ => rfl)) pe_str (nomark _))) (fun _ _ _ _ _ => (pe_ix (ix_tupK (K := K) rfl) (pv 1) pe_int (fun _ _ => rfl))) (fun _ _ _ _ _ => pe_bl)) pa_nil)))), ?_⟩
    refine ⟨_, rfl, v, sh, rfl, hS, he6, fun q ks H1 nq eq hks s1 => ⟨q, rfl, ⟨_, SqL.of eq⟩, fun D nD => ?_⟩⟩
    have klen : sh.keys.length ≤ 6 := Nat.le_trans (List.length_filterMap_le _ _) he6
    refine dc_lst (K := K) (a := q) (xs := ks) (fun j H' => ∃ kvs, H' = upd H1 D (.dK kvs) ∧ KeysAre kvs (((sh.keys.take j).filterMap KeyD.par?).map fun n : Nat => Sum.inl (n : Int))) ⟨[], rfl, KeysAre.nil⟩ (fun j H' _ h => ?_) (fun H' h => ?_) (fun j x H' hx h => ?_)
    · obtain ⟨kvs, rfl, _⟩ := h
      exact SqL.of ((same_upd nD) _ _ eq)
    · obtain ⟨kvs, rfl, ka⟩ := h
      rw [hks.1, List.take_length, ← named_keys] at ka
      have lk : (named sh).length ≤ 6 := Nat.le_trans (List.length_filterMap_le _ _) he6
      have hl : kvs.length ≤ 6 := by
        have := ka.2.2
        rw [List.length_map] at this
        omega
      obtain ⟨ns, ex⟩ : ∃ ns : List Int, kvs.map (·.1) = ns.map Sum.inl := all_ints _ fun z hz => by
        obtain ⟨n, _, rfl⟩ := List.mem_map.mp ((ka.2.1 z).1 hz)
        rfl
      have lx : ns.length ≤ 6 := by
        have := congrArg List.length ex
        rw [List.length_map, List.length_map] at this
        omega
      refine ⟨D, kvs, ns, rfl, Rd.of upd_same, ex, by omega, fun ys l pm hs nl => ?_⟩
      have nn : ns.Nodup := by
        have h1 := ka.1
        rw [ex] at h1
        exact List.Pairwise.of_map Sum.inl (fun a b h e => h (congrArg _ e)) h1
      have mem : ∀ i : Int, i ∈ ys ↔ ∃ n : Nat, n ∈ named sh ∧ i = n := fun i => by
        have h1 : i ∈ ys ↔ Sum.inl i ∈ kvs.map (·.1) := by
          rw [pm.mem_iff, ex]
          exact ⟨fun h => List.mem_map_of_mem h, fun h => let ⟨m, hm, e⟩ := List.mem_map.mp h; by rw [← Sum.inl.inj e]; exact hm⟩
        rw [h1, ka.2.1]
        constructor
        · intro h
          obtain ⟨n, hn, e⟩ := List.mem_map.mp h
          exact ⟨n, hn, (Sum.inl.inj e).symm⟩
        · rintro ⟨n, hn, rfl⟩
          exact List.mem_map_of_mem hn
      have nat : ys = (ys.map Int.toNat).map fun n : Nat => (n : Int) := by
        rw [List.map_map]
        refine (List.map_id' ys).symm.trans (List.map_congr_left fun i hi => ?_)
        obtain ⟨n, _, rfl⟩ := (mem i).1 hi
        rfl
      have lt : ys.Pairwise (· < ·) := lt_of_le_nodup _ hs (pm.nodup_iff.mpr nn)
      refine k l (ys.map Int.toNat) _ ?_ ?_ (fun n => ?_) (by rw [List.length_map, pm.length_eq]; exact lx) (s1.trans ((same_upd nD).trans (same_upd nl)))
      · rw [upd_same]
        refine congrArg (fun z => some (HO.lst z)) ?_
        have := congrArg (List.map V.int) nat
        rw [List.map_map] at this
        exact this
      · rw [nat, List.pairwise_map] at lt
        exact lt.imp fun h => Int.ofNat_lt.mp h
      · constructor
        · intro h
          obtain ⟨i, hi, rfl⟩ := List.mem_map.mp h
          obtain ⟨m, hm, rfl⟩ := (mem i).1 hi
          exact hm
        · intro h
          exact List.mem_map.mpr ⟨(n : Int), (mem _).2 ⟨n, h, rfl⟩, rfl⟩
    · obtain ⟨kvs, rfl, ka⟩ := h
      obtain ⟨kd1, hkd, kp, rfl, hkp⟩ := hks.2 j x hx
      have hkp' := (same_upd (o := .dK kvs) nD) _ _ hkp
      have step := par_take hkd
      refine ⟨rfl, ?_⟩
      cases kd1 with
      | val z =>
        refine ⟨_, rfl, _, _, _, _, rfl, rfl, SqT.of hkp', rfl, rfl, _, rfl, ?_⟩
        have nv : decide (V.str (Str.ofString "value") = V.str (Str.ofString "param")) = false := by decide +kernel
        show if decide (V.str (Str.ofString "value") = V.str (Str.ofString "param")) = true then _ else _
        rw [nv]
        refine iteF ⟨kvs, rfl, ?_⟩
        rw [step]
        simpa [KeyD.par?] using ka
      | par n =>
        refine ⟨_, rfl, _, _, _, _, rfl, rfl, SqT.of hkp', rfl, rfl, _, rfl, ?_⟩
        have nv : decide (V.str (Str.ofString "param") = V.str (Str.ofString "param")) = true := by decide +kernel
        show if decide (V.str (Str.ofString "param") = V.str (Str.ofString "param")) = true then _ else _
        rw [nv]
        refine iteT ⟨_, rfl, _, _, _, _, rfl, rfl, SqT.of hkp', rfl, kvs, .inl (n : Int), rfl, upd_same, ?_, putK kvs (.inl (n : Int)) (.bl true), ?_, ?_⟩
        · have h1 := ka.2.2
          rw [List.length_map] at h1
          have h3 : ((sh.keys.take j).filterMap KeyD.par?).length ≤ 6 := Nat.le_trans (List.length_filterMap_le _ _) (Nat.le_trans (List.length_take_le' ..) klen)
          exact small1000 (by omega)
        · rw [upd_upd]
        · rw [step, List.map_append]
          exact ka.put _
end
end K10
set_option Elab.async false
set_option linter.all false
set_option maxRecDepth 100000
set_option maxHeartbeats 4000000
namespace K10
open PySem PySem.Spec PyProof.Rows L2
/-! ### signs in order -/
theorem keyLt_irr (k : Key) : SP.keyLt k k = false := by
  cases k with
  | inl i => exact decide_eq_false (Int.lt_irrefl i)
  | inr x => exact decide_eq_false (List.lt_irrefl _)
theorem keyLt_asym {k l : Key} (h : SP.keyLt k l = true) : SP.keyLt l k = false := by
  cases k with
  | inl i => cases l with
    | inl j =>
      have h : i < j := of_decide_eq_true h
      exact decide_eq_false (by omega)
    | inr y => cases h
  | inr x => cases l with
    | inl j => cases h
    | inr y => exact decide_eq_false (List.lt_asymm (of_decide_eq_true h))
/-- the place of a key -/
def pos (L : List Key) (k : Key) : Nat := L.findIdx fun j => decide (j = k)
theorem pos_at {L : List Key} (nd : L.Nodup) {i : Nat} (hi : i < L.length) : pos L L[i] = i := by
  unfold pos
  rw [List.findIdx_eq hi]
  refine ⟨decide_eq_true rfl, fun j hj => decide_eq_false fun e => ?_⟩
  have := (List.getElem_inj (h₀ := Nat.lt_trans hj hi) (h₁ := hi) nd).mp e
  omega
def gk : Sg → Int × Key
  | .cls n => (0, .inl (n : Int))
  | .lit (.int i) => (1, .inl i)
  | .lit (.str x) => (1, .inr x)
  | .lit _ => (1, .inl 0)
def sgOf (p : Int × Key) : Sg := if p.1 = 0 then .cls (match p.2 with | .inl i => i.toNat | .inr _ => 0) else .lit (kV p.2)
theorem sgOf_gk {g : Sg} (ok : okG g) : sgOf (gk g) = g := by
  cases g with
  | cls n => rfl
  | lit v => cases v with
    | int i => rfl
    | str x => rfl
    | _ => exact ok.elim
def rank (L : List Key) (c : Int) (k : Key) : Int := if c = 0 then (match k with | .inl i => i | .inr _ => 0) else 64 + (pos L k : Nat)
def rkG (L : List Key) (g : Sg) : Int := rank L (gk g).1 (gk g).2
theorem rk_cls (L : List Key) (n : Nat) : rkG L (.cls n) = n := rfl
theorem rk_lit (L : List Key) (k : Key) : rkG L (.lit (kV k)) = 64 + (pos L k : Nat) := by cases k <;> rfl
theorem gk_lit (k : Key) : gk (.lit (kV k)) = (1, k) := by cases k <;> rfl
/-- keys of one kind, rising strictly -/
structure Rise (L : List Key) : Prop where
  lt : L.Pairwise fun k l => SP.keyLt k l = true
  same : ∀ k ∈ L, ∀ l ∈ L, SP.sameK k l
theorem Rise.nd {L : List Key} (R : Rise L) : L.Nodup := R.lt.imp fun {a b} h e => by
  rw [e, keyLt_irr] at h
  cases h
theorem Rise.pos_lt {L : List Key} (R : Rise L) {k l : Key} (hk : k ∈ L) (hl : l ∈ L) : SP.keyLt k l = decide (pos L k < pos L l) := by
  obtain ⟨i, hi, rfl⟩ := List.getElem_of_mem hk
  obtain ⟨j, hj, rfl⟩ := List.getElem_of_mem hl
  rw [pos_at R.nd hi, pos_at R.nd hj]
  have pw := List.pairwise_iff_getElem.mp R.lt
  rcases Nat.lt_trichotomy i j with h | h | h
  · rw [pw i j hi hj h, decide_eq_true h]
  · subst h
    rw [keyLt_irr, decide_eq_false (Nat.lt_irrefl _)]
  · rw [keyLt_asym (pw j i hj hi h), decide_eq_false (by omega)]
theorem Rise.pos_inj {L : List Key} (R : Rise L) {k l : Key} (hk : k ∈ L) (hl : l ∈ L) (e : pos L k = pos L l) : k = l := by
  obtain ⟨i, hi, rfl⟩ := List.getElem_of_mem hk
  obtain ⟨j, hj, rfl⟩ := List.getElem_of_mem hl
  rw [pos_at R.nd hi, pos_at R.nd hj] at e
  subst e
  rfl
/-- what is sorted: classes and literals -/
def signs (F : List Nat) (L : List Key) : List Sg := F.map Sg.cls ++ L.map fun k => .lit (kV k)
theorem mem_signs {F : List Nat} {L : List Key} {g : Sg} : g ∈ signs F L ↔ (∃ n ∈ F, g = .cls n) ∨ ∃ k ∈ L, g = .lit (kV k) := by
  unfold signs
  rw [List.mem_append, List.mem_map, List.mem_map]
  constructor
  · rintro (⟨n, h, rfl⟩ | ⟨k, h, rfl⟩)
    · exact .inl ⟨n, h, rfl⟩
    · exact .inr ⟨k, h, rfl⟩
  · rintro (⟨n, h, rfl⟩ | ⟨k, h, rfl⟩)
    · exact .inl ⟨n, h, rfl⟩
    · exact .inr ⟨k, h, rfl⟩
theorem kV_inj {k l : Key} (h : kV k = kV l) : k = l := by
  cases k <;> cases l <;> first | (cases h; rfl) | cases h
theorem rk_inj {F : List Nat} {L : List Key} (R : Rise L) (few : ∀ n ∈ F, n < 64) {g h : Sg} (hg : g ∈ signs F L) (hh : h ∈ signs F L) (e : rkG L g = rkG L h) : g = h := by
  rcases mem_signs.mp hg with ⟨n, hn, rfl⟩ | ⟨k, hk, rfl⟩ <;> rcases mem_signs.mp hh with ⟨m, hm, rfl⟩ | ⟨l, hl, rfl⟩
  · rw [rk_cls, rk_cls] at e
    rw [Int.ofNat_inj.mp e]
  · rw [rk_cls, rk_lit] at e
    have := few n hn
    omega
  · rw [rk_cls, rk_lit] at e
    have := few m hm
    omega
  · rw [rk_lit, rk_lit] at e
    rw [R.pos_inj hk hl (by omega)]
/-- the rank tells Python's order -/
theorem rank_ok {F : List Nat} {L : List Key} (R : Rise L) (few : ∀ n ∈ F, n < 64) {g h : Sg} (hg : g ∈ signs F L) (hh : h ∈ signs F L) : SP.Ranks (rank L) (gk g).1 (gk g).2 (gk h).1 (gk h).2 := by
  rcases mem_signs.mp hg with ⟨n, hn, rfl⟩ | ⟨k, hk, rfl⟩ <;> rcases mem_signs.mp hh with ⟨m, hm, rfl⟩ | ⟨l, hl, rfl⟩
  · exact ⟨fun _ => ⟨trivial, rfl⟩, fun z => (z rfl).elim⟩
  · rw [gk_lit]
    refine ⟨fun z => (by cases z), fun _ => ?_⟩
    have := few n hn
    show decide ((0 : Int) < 1) = decide ((n : Int) < 64 + (pos L l : Nat))
    rw [decide_eq_true (by omega), decide_eq_true (by omega)]
  · rw [gk_lit]
    refine ⟨fun z => (by cases z), fun _ => ?_⟩
    have := few m hm
    show decide ((1 : Int) < 0) = decide (64 + (pos L k : Nat) < (m : Int))
    rw [decide_eq_false (by omega), decide_eq_false (by omega)]
  · rw [gk_lit, gk_lit]
    refine ⟨fun _ => ⟨R.same k hk l hl, ?_⟩, fun z => (z rfl).elim⟩
    show SP.keyLt k l = decide (64 + ((pos L k : Nat) : Int) < 64 + (pos L l : Nat))
    rw [R.pos_lt hk hl]
    refine decide_eq_decide.mpr ?_
    omega
theorem signs_nd {F : List Nat} {L : List Key} (R : Rise L) (nd : F.Nodup) : (signs F L).Nodup := by
  unfold signs
  refine List.nodup_append.mpr ⟨?_, ?_, fun a ha b hb e => ?_⟩
  · exact List.pairwise_map.mpr (nd.imp fun h e => h (Sg.cls.inj e))
  · exact List.pairwise_map.mpr (R.nd.imp fun h e => h (kV_inj (Sg.lit.inj e)))
  · obtain ⟨n, _, rfl⟩ := List.mem_map.mp ha
    obtain ⟨k, _, rfl⟩ := List.mem_map.mp hb
    cases e
theorem signs_rise {F : List Nat} {L : List Key} (R : Rise L) (few : ∀ n ∈ F, n < 64) (lt : F.Pairwise (· < ·)) : (signs F L).Pairwise fun g h => rkG L g < rkG L h := by
  unfold signs
  refine List.pairwise_append.mpr ⟨?_, ?_, fun a ha b hb => ?_⟩
  · exact List.pairwise_map.mpr (lt.imp fun h => Int.ofNat_lt.mpr h)
  · refine List.pairwise_map.mpr (R.lt.imp_of_mem fun {k l} hk hl h => ?_)
    rw [R.pos_lt hk hl] at h
    have h := of_decide_eq_true h
    show rkG L (.lit (kV k)) < rkG L (.lit (kV l))
    rw [rk_lit, rk_lit]
    omega
  · obtain ⟨n, hn, rfl⟩ := List.mem_map.mp ha
    obtain ⟨k, _, rfl⟩ := List.mem_map.mp hb
    rw [rk_cls, rk_lit]
    have := few n hn
    omega
/-- sorted by ranks is the list in order -/
theorem sort_sg {F F' : List Nat} {L : List Key} {Y : List Sg} (R : Rise L) (few : ∀ n ∈ F, n < 64) (nd : F.Nodup) (pm : Y.Perm (signs F L)) (pw : Y.Pairwise fun g h => rkG L g ≤ rkG L h)
    (lt : F'.Pairwise (· < ·)) (hm : ∀ n, n ∈ F' ↔ n ∈ F) : Y = signs F' L := by
  refine uniq (lt := fun g h => rkG L g < rkG L h) (fun a b h1 h2 => by omega) ?_ (signs_rise R (fun n hn => few n ((hm n).1 hn)) lt) fun g => ?_
  · refine (List.Pairwise.and pw (pm.nodup_iff.mpr (signs_nd R nd))).imp_of_mem fun {a b} ha hb h => ?_
    have ne : rkG L a ≠ rkG L b := fun e => h.2 (rk_inj R few (pm.mem_iff.mp ha) (pm.mem_iff.mp hb) e)
    have := h.1
    omega
  · rw [pm.mem_iff, mem_signs, mem_signs]
    constructor
    · rintro (⟨n, h, e⟩ | h)
      · exact .inl ⟨n, (hm n).2 h, e⟩
      · exact .inr h
    · rintro (⟨n, h, e⟩ | h)
      · exact .inl ⟨n, (hm n).1 h, e⟩
      · exact .inr h
/-- the literals of a kind rise -/
theorem lit_rise {kd : Str} {ss : List ShD} {xs : List V} (h : IsLit kd ss xs) : ∃ L : List Key, xs = L.map kV ∧ Rise L := by
  rcases h.2 with ⟨_, ys, rfl, s, n, _⟩ | ⟨_, ns, rfl, s, n, _⟩
  · refine ⟨ys.map Sum.inr, by rw [List.map_map]; rfl, ⟨?_, fun k hk l hl => ?_⟩⟩
    · exact List.pairwise_map.mpr ((sortedS_lt _ s n).imp fun {a b} h => decide_eq_true (show a.cps.toList < b.cps.toList from h))
    · obtain ⟨_, _, rfl⟩ := List.mem_map.mp hk
      obtain ⟨_, _, rfl⟩ := List.mem_map.mp hl
      trivial
  · refine ⟨ns.map Sum.inl, by rw [List.map_map]; rfl, ⟨?_, fun k hk l hl => ?_⟩⟩
    · exact List.pairwise_map.mpr ((lt_of_le_nodup _ s n).imp fun {a b} h => decide_eq_true (show a < b from h))
    · obtain ⟨_, _, rfl⟩ := List.mem_map.mp hk
      obtain ⟨_, _, rfl⟩ := List.mem_map.mp hl
      trivial
/-! ### what stands among the signs -/
theorem eqv_cls (m n : Nat) : PyData.eqv (sgD (.cls m)) (.tuple [.int 0, .int (n : Int)]) = decide (m = n) := by
  simp only [sgD, PyData.eqv, PyData.eqvAll]
  by_cases h : m = n
  · subst h; simp
  · rw [decide_eq_false h]
    have : ¬ (m : Int) = n := fun e => h (Int.ofNat_inj.mp e)
    simp [this]
theorem eqv_lit (v : V) (n : Nat) : PyData.eqv (sgD (.lit v)) (.tuple [.int 0, .int (n : Int)]) = false := by
  simp only [sgD, PyData.eqv, PyData.eqvAll]
  simp
theorem any_nums (n : Nat) : ∀ r : List Sg, ((r.map sgD).any fun z => PyData.eqv z (.tuple [.int 0, .int (n : Int)])) = decide (n ∈ nums r)
  | [] => rfl
  | g :: r => by
    rw [List.map_cons, List.any_cons, any_nums n r]
    cases g with
    | cls m =>
      rw [eqv_cls]
      show (decide (m = n) || decide (n ∈ nums r)) = decide (n ∈ m :: nums r)
      rw [← Bool.decide_or]
      refine decide_eq_decide.mpr ?_
      rw [List.mem_cons]
      exact ⟨fun h => h.elim (fun e => .inl e.symm) .inr, fun h => h.elim (fun e => .inl e.symm) .inr⟩
    | lit v =>
      rw [eqv_lit]
      rfl
theorem least_min {r : List Sg} (h : ∀ n ∈ nums r, n < r.length) {m : Nat} (hm : m < least r) : m ∈ nums r := by
  by_cases z : m ∈ nums r
  · exact z
  · exfalso
    have l0 := least_at r h
    have hf : m ∈ free r := by
      unfold free
      refine List.mem_filter.mpr ⟨List.mem_range.mpr (by omega), ?_⟩
      rw [decide_eq_false z]
      rfl
    have pw : (free r).Pairwise (· < ·) := List.Pairwise.filter _ List.pairwise_lt_range
    obtain ⟨i, hi, e⟩ := List.getElem_of_mem hf
    have e0 : (free r)[0]'(by omega) = least r := by
      have := l0.1
      rw [List.getElem?_eq_getElem (by omega)] at this
      exact Option.some.inj this
    rcases Nat.eq_zero_or_pos i with q | q
    · subst q
      rw [e0] at e
      omega
    · have := List.pairwise_iff_getElem.mp pw 0 i (by omega) hi q
      rw [e0, e] at this
      omega
theorem least_new {r : List Sg} (h : ∀ n ∈ nums r, n < r.length) : least r ∉ nums r := by
  have l0 := least_at r h
  have : least r ∈ free r := List.mem_of_getElem? l0.1
  unfold free at this
  have := (List.mem_filter.mp this).2
  simpa using this
end K10
set_option Elab.async false
set_option linter.all false
set_option maxRecDepth 100000
set_option maxHeartbeats 4000000
namespace K10
open PySem PySem.Spec PyProof.Rows L2
theorem r65 {k : Nat} {A : Around} (r : Room k A) : A.units + 65 < cLine := by have := r.un; omega
/-- worths: for each parameter the literals of its kind -/
def WorthsAt (H : Hp) (v : V) (ss : List ShD) (ps : List Str) : Prop := ∃ (q : Addr) (ws : List V), v = .ref q ∧ H q = some (.lst ws) ∧ ws.length = ps.length ∧
  ∀ (i : Nat) (kd : Str), ps[i]? = some kd → ∃ (p : Addr) (xs : List V), ws[i]? = some (.ref p) ∧ H p = some (.tup xs) ∧ LitOf kd ss xs ∧ xs.length ≤ 18
def NamesAt (H : Hp) (v : V) (s : ShD) : Prop := ∃ (q : Addr) (ns : List Nat), v = .ref q ∧ H q = some (.lst (ns.map fun n : Nat => V.int (n : Int))) ∧ ns.Pairwise (· < ·) ∧ (∀ n, n ∈ ns ↔ n ∈ named s) ∧ ns.length ≤ 6
theorem NamesAt.keep {H H' : Hp} {v : V} {s : ShD} (h : NamesAt H v s) (t : Same H H') : NamesAt H' v s := by
  obtain ⟨q, ns, e, hq, r⟩ := h
  exact ⟨q, ns, e, t _ _ hq, r⟩
theorem WorthsAt.keep {H H' : Hp} {v : V} {ss : List ShD} {ps : List Str} (h : WorthsAt H v ss ps) (t : Same H H') : WorthsAt H' v ss ps := by
  obtain ⟨q, ws, e, hq, hl, r⟩ := h
  exact ⟨q, ws, e, t _ _ hq, hl, fun i kd hi => let ⟨p, xs, h1, h2, h3⟩ := r i kd hi; ⟨p, xs, h1, t _ _ h2, h3⟩⟩
def spSigns : Sp := fun vs H Q _ => ∃ (a1 : Addr) (nv sv wv : V) (ss : List ShD) (s : ShD) (r : List Sg), vs = [.ref a1, nv, sv, wv] ∧ H a1 = some (.tup (s.params.map V.str)) ∧ NamesAt H nv s ∧ RowAt H sv r ∧ WorthsAt H wv ss s.params ∧ WfS s ∧ r.length < s.params.length ∧ (∀ n ∈ nums r, n < r.length) ∧ (∀ g ∈ r, okG g) ∧
  ∀ (q : Addr) (ws : List V) (H' : Hp), H q = none → H' q = some (.lst ws) → AllAt (SgAt H') ws (opts ss s r) → Same H H' → Q (.ref q) H'
/-- a named parameter is of the kind int or text -/
theorem WfS.kind {s : ShD} (wf : WfS s) {n : Nat} (h : n ∈ named s) : s.params[n]? = some "int" ∨ s.params[n]? = some "text" := by
  obtain ⟨e, he, z⟩ := List.mem_filterMap.mp h
  unfold EntD.par at z
  cases ek : e.key with
  | none => rw [ek] at z; cases z
  | some k =>
    rw [ek] at z
    cases k with
    | val _ => cases z
    | par i =>
      cases z
      have := (wf.ents e he).par n ek
      rw [this]
      unfold kindT
      split
      · exact .inr rfl
      · exact .inl rfl
/-- a pair, read off the heap -/
def pairOf (H : Hp) : V → Int × Key
  | .ref p => match H p with
    | some (.tup [.int c, .int i]) => (c, .inl i)
    | some (.tup [.int c, .str x]) => (c, .inr x)
    | _ => (0, .inl 0)
  | _ => (0, .inl 0)
theorem pairOf_sg {H : Hp} {v : V} {g : Sg} (h : SgAt H v g) (ok : okG g) : pairOf H v = gk g := by
  obtain ⟨p, rfl, e⟩ := h
  show (match H p with | some (.tup [.int c, .int i]) => (c, Sum.inl i) | some (.tup [.int c, .str x]) => (c, Sum.inr x) | _ => (0, Sum.inl 0)) = gk g
  rw [e]
  cases g with
  | cls n => rfl
  | lit v => cases v with
    | int i => rfl
    | str x => rfl
    | _ => exact ok.elim
theorem sg_pairV {K : PySem.W.Frag} {H : Hp} {v : V} {g : Sg} (h : SgAt H v g) (ok : okG g) : SP.PairV K H v (gk g).1 (gk g).2 := by
  obtain ⟨p, rfl, e⟩ := h
  refine ⟨p, rfl, SqT.of ?_⟩
  rw [e]
  cases g with
  | cls n => rfl
  | lit v => cases v with
    | int i => rfl
    | str x => rfl
    | _ => exact ok.elim
/-- what stands at the places of a list -/
theorem AllAt.map_eq {α β : Type} {R : V → α → Prop} {f : V → β} {g : α → β} : ∀ {vs : List V} {as : List α}, AllAt R vs as → (∀ v a, a ∈ as → R v a → f v = g a) → vs.map f = as.map g
  | [], [], _, _ => rfl
  | [], _ :: _, h, _ => by cases h.1
  | _ :: _, [], h, _ => by cases h.1
  | v :: vs, a :: as, h, m => by
    obtain ⟨b, e, r⟩ := h.2 0 v rfl
    cases e
    rw [List.map_cons, List.map_cons, m v a (List.mem_cons_self ..) r, AllAt.map_eq (vs := vs) (as := as) ⟨Nat.succ.inj h.1, fun i x e => h.2 (i + 1) x e⟩ fun v b hb r => m v b (List.mem_cons_of_mem _ hb) r]
theorem AllAt.mem {α : Type} {R : V → α → Prop} {vs : List V} {as : List α} (h : AllAt R vs as) {v : V} (hv : v ∈ vs) : ∃ a ∈ as, R v a := by
  obtain ⟨i, hi, rfl⟩ := List.getElem_of_mem hv
  obtain ⟨a, e, r⟩ := h.2 i _ (List.getElem?_eq_getElem hi)
  exact ⟨a, List.mem_of_getElem? e, r⟩
theorem AllAt.get {α : Type} {R : V → α → Prop} {vs : List V} {as : List α} (h : AllAt R vs as) {i : Nat} {a : α} (e : as[i]? = some a) : ∃ v, vs[i]? = some v ∧ R v a := by
  have hi : i < vs.length := by rw [h.1]; exact (List.getElem?_eq_some_iff.mp e).1
  obtain ⟨b, e2, r⟩ := h.2 i _ (List.getElem?_eq_getElem hi)
  rw [e] at e2
  cases e2
  exact ⟨_, List.getElem?_eq_getElem hi, r⟩
/-- signs that are sorted are pairs -/
theorem signs_pair {K : PySem.W.Frag} {H : Hp} {v : V} {g : Sg} {F : List Nat} {L : List Key} (hg : g ∈ signs F L) (h : SgAt H v g) : pairOf H v = gk g ∧ SP.PairV K H v (pairOf H v).1 (pairOf H v).2 := by
  have e : pairOf H v = gk g := by
    obtain ⟨p, rfl, e⟩ := h
    show (match H p with | some (.tup [.int c, .int i]) => (c, Sum.inl i) | some (.tup [.int c, .str x]) => (c, Sum.inr x) | _ => (0, Sum.inl 0)) = gk g
    rw [e]
    rcases mem_signs.mp hg with ⟨n, _, rfl⟩ | ⟨k, _, rfl⟩
    · rfl
    · cases k <;> rfl
  refine ⟨e, ?_⟩
  rw [e]
  obtain ⟨p, rfl, e2⟩ := h
  refine ⟨p, rfl, SqT.of ?_⟩
  rw [e2]
  rcases mem_signs.mp hg with ⟨n, _, rfl⟩ | ⟨k, _, rfl⟩
  · rfl
  · cases k <;> rfl
/-- sorted signs stand in order -/
theorem sorted_at {H : Hp} {fs ys : List V} {F F' : List Nat} {L : List Key} (R : Rise L) (few : ∀ n ∈ F, n < 64) (nd : F.Nodup) (ha : AllAt (SgAt H) fs (signs F L)) (pm : ys.Perm fs)
    (pw : ys.Pairwise fun x y => rank L (pairOf H x).1 (pairOf H x).2 ≤ rank L (pairOf H y).1 (pairOf H y).2) (lt : F'.Pairwise (· < ·)) (hm : ∀ n, n ∈ F' ↔ n ∈ F) : AllAt (SgAt H) ys (signs F' L) := by
  have okS : ∀ g ∈ signs F L, okG g → True := fun _ _ _ => trivial
  have gOk : ∀ {v : V}, v ∈ fs → ∃ g ∈ signs F L, SgAt H v g ∧ sgOf (pairOf H v) = g ∧ pairOf H v = gk g := fun {v} hv => by
    obtain ⟨g, hg, x⟩ := ha.mem hv
    rcases mem_signs.mp hg with ⟨n, hn, rfl⟩ | ⟨k, hk, rfl⟩
    · have e := pairOf_sg x trivial
      exact ⟨_, hg, x, by rw [e]; rfl, e⟩
    · obtain ⟨p, e0, e1⟩ := id x
      have e : pairOf H v = gk (.lit (kV k)) := by
        subst e0
        show (match H p with | some (.tup [.int c, .int i]) => (c, Sum.inl i) | some (.tup [.int c, .str x]) => (c, Sum.inr x) | _ => (0, Sum.inl 0)) = gk (.lit (kV k))
        rw [e1]
        cases k <;> rfl
      exact ⟨_, hg, x, by rw [e, gk_lit]; rfl, e⟩
  have m1 : fs.map (fun v => sgOf (pairOf H v)) = signs F L := by
    have := ha.map_eq (f := fun v => sgOf (pairOf H v)) (g := id) fun v a hA x => by
      rcases mem_signs.mp hA with ⟨n, hn, rfl⟩ | ⟨k, hk, rfl⟩
      · rw [pairOf_sg x trivial]; rfl
      · obtain ⟨p, e0, e1⟩ := id x
        subst e0
        show sgOf (match H p with | some (.tup [.int c, .int i]) => (c, Sum.inl i) | some (.tup [.int c, .str x]) => (c, Sum.inr x) | _ => (0, Sum.inl 0)) = _
        rw [e1]
        cases k <;> rfl
    rw [this, List.map_id]
  have e := sort_sg (Y := ys.map fun v => sgOf (pairOf H v)) R few nd (by rw [← m1]; exact pm.map _) (List.pairwise_map.mpr (pw.imp_of_mem fun {a b} hA hB h => ?_)) lt hm
  · refine ⟨by rw [← e, List.length_map], fun i v hv => ?_⟩
    obtain ⟨g, hg, x, y, _⟩ := gOk (pm.mem_iff.mp (List.mem_of_getElem? hv))
    refine ⟨g, ?_, x⟩
    rw [← e, List.getElem?_map, hv, ← y]
    rfl
  · obtain ⟨g, _, _, y1, z1⟩ := gOk (pm.mem_iff.mp hA)
    obtain ⟨g', _, _, y2, z2⟩ := gOk (pm.mem_iff.mp hB)
    rw [y1, y2]
    show rank L (gk g).1 (gk g).2 ≤ rank L (gk g').1 (gk g').2
    rw [← z1, ← z2]
    exact h
end K10
set_option Elab.async false
set_option linter.all false
set_option maxRecDepth 100000
set_option maxHeartbeats 4000000
namespace K10
open PySem PySem.Spec PyProof.Rows L2
/-- the number of a class of an earlier parameter that may be taken -/
def oldAt (s : ShD) (r : List Sg) (k : Nat) : Option Nat := if k < r.length then old1 s r k else none
theorem mem_old {s : ShD} {r : List Sg} {ns : List Nat} (hn : ∀ n, n ∈ ns ↔ n ∈ named s) {m : Nat} : m ∈ old s r ↔ ∃ k ∈ ns, oldAt s r k = some m := by
  unfold old
  rw [List.mem_filterMap]
  constructor
  · rintro ⟨k, hk, e⟩
    refine ⟨k, ?_, by unfold oldAt; rw [if_pos (List.mem_range.mp hk)]; exact e⟩
    unfold old1 at e
    split at e
    · rename_i h
      exact (hn k).2 h.1
    · cases e
  · rintro ⟨k, hk, e⟩
    unfold oldAt at e
    split at e
    · rename_i h
      exact ⟨k, List.mem_range.mpr h, e⟩
    · cases e
/-- the classes that have been found behind so many names -/
structure Fnd (s : ShD) (r : List Sg) (ns : List Nat) (i : Nat) (F : List Nat) : Prop where
  nd : F.Nodup
  len : F.length ≤ i + 1
  mem : ∀ m, m ∈ F ↔ m = least r ∨ ∃ k ∈ ns.take i, oldAt s r k = some m
theorem Fnd.start {s : ShD} {r : List Sg} {ns : List Nat} : Fnd s r ns 0 [least r] where
  nd := List.nodup_cons.mpr ⟨List.not_mem_nil, List.nodup_nil⟩
  len := Nat.le_refl _
  mem m := by simp
theorem Fnd.skip {s : ShD} {r : List Sg} {ns F : List Nat} {i k : Nat} (h : Fnd s r ns i F) (hk : ns[i]? = some k) (e : ∀ m, oldAt s r k = some m → m ∈ F) : Fnd s r ns (i + 1) F where
  nd := h.nd
  len := by have := h.len; omega
  mem m := by
    rw [List.take_add_one, hk]
    constructor
    · intro z
      rcases (h.mem m).1 z with y | ⟨j, hj, y⟩
      · exact .inl y
      · exact .inr ⟨j, List.mem_append_left _ hj, y⟩
    · rintro (y | ⟨j, hj, y⟩)
      · exact (h.mem m).2 (.inl y)
      · rcases List.mem_append.mp hj with q | q
        · exact (h.mem m).2 (.inr ⟨j, q, y⟩)
        · have q : j = k := List.mem_singleton.mp q
          rw [q] at y
          exact e m y
theorem Fnd.add {s : ShD} {r : List Sg} {ns F : List Nat} {i k m : Nat} (h : Fnd s r ns i F) (hk : ns[i]? = some k) (e : oldAt s r k = some m) (n : m ∉ F) : Fnd s r ns (i + 1) (F ++ [m]) where
  nd := List.nodup_append.mpr ⟨h.nd, List.nodup_cons.mpr ⟨List.not_mem_nil, List.nodup_nil⟩, fun a ha b hb z => n (by rw [← List.mem_singleton.mp hb, ← z]; exact ha)⟩
  len := by rw [List.length_append]; have := h.len; show F.length + 1 ≤ _; omega
  mem x := by
    rw [List.take_add_one, hk, List.mem_append, List.mem_singleton]
    constructor
    · rintro (z | z)
      · rcases (h.mem x).1 z with y | ⟨j, hj, y⟩
        · exact .inl y
        · exact .inr ⟨j, List.mem_append_left _ hj, y⟩
      · exact .inr ⟨k, List.mem_append_right _ (List.mem_singleton.mpr rfl), by rw [z]; exact e⟩
    · rintro (y | ⟨j, hj, y⟩)
      · exact .inl ((h.mem x).2 (.inl y))
      · rcases List.mem_append.mp hj with q | q
        · exact .inl ((h.mem x).2 (.inr ⟨j, q, y⟩))
        · have q : j = k := List.mem_singleton.mp q
          rw [q, e] at y
          exact .inr (Option.some.inj y).symm
theorem Fnd.few {s : ShD} {r : List Sg} {ns F : List Nat} {i : Nat} (h : Fnd s r ns i F) (hr : ∀ n ∈ nums r, n < r.length) (h3 : r.length < 64) : ∀ m ∈ F, m < 64 := fun m hm => by
  rcases (h.mem m).1 hm with e | ⟨k, _, e⟩
  · have := (least_at r hr).2
    omega
  · unfold oldAt at e
    split at e
    · rename_i hk
      have : m ∈ old s r := List.mem_filterMap.mpr ⟨k, List.mem_range.mpr hk, e⟩
      have := old_lt hr m this
      omega
    · cases e
/-- what stands among classes -/
theorem any_cls (n : Nat) : ∀ F : List Nat, ((F.map fun m => sgD (.cls m)).any fun z => PyData.eqv z (.tuple [.int 0, .int (n : Int)])) = decide (n ∈ F)
  | [] => rfl
  | m :: F => by
    rw [List.map_cons, List.any_cons, any_cls n F, eqv_cls, ← Bool.decide_or]
    refine decide_eq_decide.mpr ?_
    rw [List.mem_cons]
    exact ⟨fun h => h.elim (fun e => .inl e.symm) .inr, fun h => h.elim (fun e => .inl e.symm) .inr⟩
/-- the number in a slot -/
def slotN (σ : L2.St) (i : Nat) : Nat := match σ[i]? with
  | some (some (.int n)) => n.toNat
  | _ => 0
/-- what holds behind the choice of signs -/
structure Done (H : Hp) (D : Addr) (ss : List ShD) (s : ShD) (r : List Sg) (H' : Hp) : Prop where
  same : Same H H'
  ex : ∃ (fs : List V) (F F' : List Nat) (L : List Key), H' D = some (.lst fs) ∧ AllAt (SgAt H') fs (signs F L) ∧ F.Nodup ∧ (∀ n ∈ F, n < 64) ∧ Rise L ∧ fs.length < 64 ∧ F'.Pairwise (· < ·) ∧ (∀ n, n ∈ F' ↔ n ∈ F) ∧ signs F' L = opts ss s r
section
variable {P : Program} {w : World} {K : PySem.W.Frag} {mg : Str → Option Value} {base : Heap}
theorem c_signs_for (T : Txt K mg) : C8.Cal P w K mg base 1 "signs_for" spSigns [] := by
  refine cal_of T.d_signs_for T.g_signs_for sc_signs_for (fun fd F => b_signs_for F) (fun vs H Q E h => ?_) (fun cdv A outer s H vs Q E hr h => ?_)
  · obtain ⟨a1, nv, sv, wv, ss, sh, r, rfl, _⟩ := h
    rfl
  · obtain ⟨a1, nv, sv, wv, ss, sh, r, rfl, ha1, hN, hR, hW, wf, hlt, hnum, hok, k⟩ := h
    obtain ⟨tC, gC⟩ := T.i_CLASS
    obtain ⟨tL, gL⟩ := T.i_LITERAL
    have h65 := r65 hr
    refine ⟨_, (pss_cons (ps_set (i := 4) sc_signs_for.nd rfl (by first | exact .inl rfl | exact .inr rfl) (pe_callB call_len_seq (by rfl) T.z_len (by decide +kernel) (pa_cons (pv 2) pa_nil)))
  (pss_cons (ps_set (i := 5) sc_signs_for.nd rfl (by first | exact .inl rfl | exact .inr rfl) pe_int)
  (pss_cons (ps_while PassesOwn.never (pt_cmpR (op_inTD h65) (pe_tup (pa_cons (pe_glob (v := .int 0) rfl gC ⟨_, rfl⟩) (pa_cons (pv 5) pa_nil))) (pv 2) (by rfl))
    (pss_one (ps_aug (i := 5) sc_signs_for.nd rfl (by first | exact .inl rfl | exact .inr rfl) pe_int ip_add)))
  (pss_cons (ps_set (i := 6) sc_signs_for.nd rfl (by first | exact .inl rfl | exact .inr rfl) (pe_lst (pa_cons (pe_tup (pa_cons (pe_glob (v := .int 0) rfl gC ⟨_, rfl⟩) (pa_cons (pv 5) pa_nil))) pa_nil)))
  (C8.pss_cut (ps_if (pt_cmpR op_in_seq (pv 4) (pv 1) (by rfl))
    (pss_cons (ps_for PassesOwn.never rfl (pi_list (pv 1)) (pg_name (i := 7) sc_signs_for.nd rfl (by first | exact .inl rfl | exact .inr rfl))
    (pss_one (ps_if (PW.pt (pw_and (pt_cmpR op_lt (pv 7) (pv 4) (nomark _)) (pw_and (pt_cmpR op_eq (pe_ix ix_tup (pv 0) (pv 7) (fun _ _ => rfl)) (pe_ix ix_tup (pv 0) (pv 4) (fun _ _ => rfl)) (nomark _)) (pw_and (pt_cmpR op_eq (pe_ix ix_tup (pe_ix ix_tup (pv 2) (pv 7) (fun _ _ => rfl)) pe_int (fun _ _ => rfl)) (pe_glob (v := .int 0) rfl gC ⟨_, rfl⟩) (nomark _)) (pw_and1 (pt_cmpR (op_notInD h65) (pe_ix ix_tup (pv 2) (pv 7) (fun _ _ => rfl)) (pv 6) (by rfl)))))))
    (pss_one (ps_expr (pe_bm PySem.F.plainAttrs_list PySem.F.slot_list_append PySem.F.type_list_append mt_append (pv 6) (pa_cons (pe_ix ix_tup (pv 2) (pv 7) (fun _ _ => rfl)) pa_nil))))
    pss_nil)))
  (pss_one (ps_expr (pe_bm PySem.F.plainAttrs_list PySem.F.slot_list_extend PySem.F.type_list_extend mt_extend (pv 6) (pa_cons (pe_lc (own := [("worth", 8)]) (g := gName 8) rfl sc_signs_for.nd (pi_tup (pe_ix ix_list (pv 3) (pv 4) (fun _ _ => rfl))) (blkOk_by (own := [("worth", 8)]) (N := n_signs_for) (sc := defScope s_signs_for) (by decide +kernel)) (fun _ _ _ _ _ => (pg_name (i := 8) sc_signs_for.nd rfl (by first | exact .inl rfl | exact .inr rfl))) (fun _ _ _ _ _ => pts_nil) (fun _ _ _ _ _ => (pe_tup (pa_cons (pe_glob (v := .int 1) rfl gL ⟨_, rfl⟩) (pa_cons (pv 8) pa_nil))))) pa_nil)))))
    pss_nil)
  (pss_one (ps_ret (pe_callB SP.cr_sortP (by rfl) T.z_sorted (by decide +kernel) (pa_cons (pv 6) pa_nil))))))))), ?_⟩
    obtain ⟨nq, ns, rfl, hnq, nlt, nmem, nlen⟩ := id hN
    obtain ⟨sq, gs, rfl, hsq, hG⟩ := id hR
    obtain ⟨wq, ws, rfl, hwq, hwl, hws⟩ := id hW
    have p3 := wf.params.1
    -- at = len(signs), fresh = 0
    refine ⟨_, rfl, sq, gs, rfl, .inr (SqT.of hsq), ?_⟩
    rw [hG.1]
    -- while (CLASS, fresh) in signs
    refine while_by (fun σ H' => ∃ n : Nat, σ = [some (.ref a1), some (.ref nq), some (.ref sq), some (.ref wq), some (.int (r.length : Nat)), some (.int (n : Int)), none, none, none] ∧ n ≤ least r ∧ Same H H') (fun σ _ => r.length + 1 - slotN σ 5) ⟨0, rfl, Nat.zero_le _, fun _ _ e => e⟩ (fun σ H' h => ?_) (fun σ H' Q1 Q2 hq h => ?_)
    · obtain ⟨n, rfl, hn, sm⟩ := h
      have lst := (least_at r hnum).2
      refine ⟨_, rfl, by show 2 ≤ sizeLine; decide, fun t nt => ⟨_, rfl, ?_⟩⟩
      have s1 := sm.trans (same_upd (o := .tup [.int 0, .int (n : Int)]) nt)
      have rr : RowAt (upd H' t (.tup [.int 0, .int (n : Int)])) (.ref sq) r := hR.keep (Tk.of_same s1)
      refine ⟨.tuple [.int 0, .int (n : Int)], r.map sgD, .tup (SqT.of upd_same) (.cons (.int 0) (.cons (.int (n : Int)) .nil)), dp_row rr hok, (lay_g (g := .cls n) trivial).shaped (by decide), (lay_row hok).shaped (by decide), _, rfl, ?_⟩
      rw [any_nums]
      by_cases hm : n ∈ nums r
      · rw [decide_eq_true hm]
        refine iteT ⟨_, rfl, _, _, rfl, rfl, ⟨n + 1, rfl, ?_, s1⟩, ?_⟩
        · have : n ≠ least r := fun e => least_new hnum (e ▸ hm)
          omega
        · show r.length + 1 - ((n : Int) + 1).toNat < r.length + 1 - (n : Int).toNat
          omega
      · rw [decide_eq_false hm]
        have en : n = least r := by
          rcases Nat.lt_or_ge n (least r) with q | q
          · exact absurd (least_min hnum q) hm
          · omega
        subst en
        -- found = [(CLASS, fresh)]
        refine iteF ⟨_, rfl, by show 2 ≤ sizeLine; decide, fun t2 nt2 => ⟨by show 1 ≤ sizeLine; decide, fun D nD => ?_⟩⟩
        have s2 := s1.trans (same_upd (o := .tup [.int 0, .int (least r : Nat)]) nt2)
        have s3 := s2.trans (same_upd (o := .lst [.ref t2]) nD)
        have hDn : H D = none := s2.free nD
        obtain ⟨H3, eH3⟩ : ∃ H3, H3 = upd (upd (upd H' t (.tup [.int 0, .int (least r : Nat)])) t2 (.tup [.int 0, .int (least r : Nat)])) D (.lst [.ref t2]) := ⟨_, rfl⟩
        have eD : H3 D = some (.lst [.ref t2]) := by rw [eH3]; exact upd_same
        have e2 : SgAt H3 (.ref t2) (.cls (least r)) := ⟨t2, rfl, by rw [eH3]; exact (same_upd nD) _ _ upd_same⟩
        rw [← eH3] at s3
        show C8.tCut _ _ _ _ (upd (upd (upd H' t (.tup [.int 0, .int (least r : Nat)])) t2 (.tup [.int 0, .int (least r : Nat)])) D (.lst [.ref t2]))
        rw [← eH3]
        clear eH3
        refine ⟨fun σ' H' => ∃ y7 y8, σ' = [some (.ref a1), some (.ref nq), some (.ref sq), some (.ref wq), some (.int (r.length : Nat)), some (.int (least r : Nat)), some (.ref D), y7, y8] ∧ Done H D ss sh r H', ?_, ?_⟩
        · -- if at in names
          have h3 := hlt
          have nq3 := s3 _ _ hnq
          have flat : (ns.map fun n : Nat => V.int (n : Int)).all flatV = true := flat_nat _
          refine ⟨_, rfl, _, rfl, nq, _, rfl, .inl (SqL.of nq3), rfl, flat, _, rfl, ?_⟩
          show if inV (.int (r.length : Int)) (ns.map fun n : Nat => V.int (n : Int)) = true then _ else _
          rw [inV_nat]
          by_cases hin : r.length ∈ ns
          · rw [decide_eq_true hin]
            have hin2 := (nmem _).1 hin
            -- for other in names
            refine iteT ⟨_, rfl, nq, rfl, ⟨_, SqL.of nq3⟩, for_list (K := K) (a := nq) (xs := ns.map fun n : Nat => V.int (n : Int)) (fun i σ H' => ∃ (y7 : Option V) (fs : List V) (F : List Nat), σ = [some (.ref a1), some (.ref nq), some (.ref sq), some (.ref wq), some (.int (r.length : Nat)), some (.int (least r : Nat)), some (.ref D), y7, none] ∧ Same H H' ∧ H' D = some (.lst fs) ∧ AllAt (SgAt H') fs (F.map Sg.cls) ∧ Fnd sh r ns i F) ⟨_, _, [least r], rfl, s3, eD, AllAt.nil.snoc (vs := []) (as := []) e2, Fnd.start⟩ (fun i σ H' _ h => ?_) (fun i x σ H' hx h => ?_) (fun σ H' h => ?_)⟩
            · obtain ⟨_, _, _, _, s4, _⟩ := h
              exact SqL.of (s4 _ _ hnq)
            · obtain ⟨y7, fs, F, rfl, s4, eD4, ha, fnd⟩ := h
              obtain ⟨kk, hkk, rfl⟩ : ∃ kk, ns[i]? = some kk ∧ x = .int (kk : Int) := by
                rw [List.getElem?_map] at hx
                cases e : ns[i]? with
                | none => rw [e] at hx; cases hx
                | some kk => rw [e] at hx; exact ⟨kk, rfl, (Option.some.inj hx).symm⟩
              have hi : i < ns.length := (List.getElem?_eq_some_iff.mp hkk).1
              have kin : kk ∈ named sh := (nmem _).1 (List.mem_of_getElem? hkk)
              refine ⟨_, rfl, _, rfl, _, _, rfl, rfl, _, rfl, ?_⟩
              by_cases hk : kk < r.length
              · rw [decide_eq_true (show (kk : Int) < (r.length : Int) by omega)]
                have li : kk < sh.params.length := by omega
                have gi : atI (sh.params.map V.str) (kk : Int) = some (.str (sh.params[kk])) := atI_nat (by rw [List.getElem?_map, List.getElem?_eq_getElem li]; rfl)
                have gl : atI (sh.params.map V.str) (r.length : Int) = some (.str (sh.params[r.length])) := atI_nat (by rw [List.getElem?_map, List.getElem?_eq_getElem hlt]; rfl)
                refine iteT ⟨_, rfl, _, rfl, _, _, _, _, rfl, rfl, SqT.of (s4 _ _ ha1), gi, _, rfl, _, rfl, _, _, _, _, rfl, rfl, SqT.of (s4 _ _ ha1), gl, rfl, _, rfl, ite2 (fun z => ?_) (fun z => ?_)⟩
                · have ep : sh.params[kk]? = sh.params[r.length]? := by
                    rw [List.getElem?_eq_getElem li, List.getElem?_eq_getElem hlt, V.str.inj (of_decide_eq_true z)]
                  obtain ⟨g, hg⟩ : ∃ g, r[kk]? = some g := ⟨_, List.getElem?_eq_getElem hk⟩
                  obtain ⟨gv, hgv, xp, rfl, hxp⟩ := hG.get hg
                  have hxp4 := s4 _ _ hxp
                  have gg : atI gs (kk : Int) = some (.ref xp) := atI_nat hgv
                  have eo : oldAt sh r kk = Sg.cl g := by
                    unfold oldAt old1
                    rw [if_pos hk, if_pos ⟨kin, ep⟩, hg]
                    rfl
                  refine ⟨_, rfl, _, rfl, _, _, _, _, rfl, rfl, SqT.of (s4 _ _ hsq), gg, ?_⟩
                  cases g with
                  | lit y =>
                    refine ⟨_, _, _, _, rfl, rfl, SqT.of hxp4, rfl, rfl, _, rfl, ?_⟩
                    have nv : decide (V.int 1 = V.int 0) = false := by decide
                    show if decide (V.int 1 = V.int 0) = true then _ else _
                    rw [nv]
                    refine iteF (iteF ⟨_, fs, F, rfl, s4, eD4, ha, fnd.skip hkk fun m e => ?_⟩)
                    rw [eo] at e
                    cases e
                  | cls n =>
                    have fok : ∀ g ∈ F.map Sg.cls, okG g := fun g hg => by
                      obtain ⟨_, _, rfl⟩ := List.mem_map.mp hg
                      trivial
                    refine ⟨_, _, _, _, rfl, rfl, SqT.of hxp4, rfl, rfl, _, rfl, iteT ⟨_, rfl, _, rfl, _, _, _, _, rfl, rfl, SqT.of (s4 _ _ hsq), gg, _, rfl, .tuple [.int 0, .int (n : Int)], (F.map Sg.cls).map sgD, dp_g (g := .cls n) ⟨xp, rfl, hxp4⟩ trivial, .lst (SqL.of eD4) (dp_all ha fun v g hg x => dp_g x (fok g hg)), (lay_g (g := .cls n) trivial).shaped (by decide), ?_, _, rfl, ?_⟩⟩
                    · refine Lay.shaped (n := 2) ⟨?_, ?_⟩ (by decide)
                      · rw [PyData.canLay0]
                        exact lay_all fun d hd => by
                          obtain ⟨g, hg, rfl⟩ := List.mem_map.mp hd
                          exact (lay_g (fok g hg)).1
                      · rw [PyData.depth]
                        exact Nat.succ_le_succ (deep_all fun d hd => by
                          obtain ⟨g, hg, rfl⟩ := List.mem_map.mp hd
                          exact (lay_g (fok g hg)).2)
                    · rw [List.map_map]
                      show if (!((F.map fun m => sgD (.cls m)).any fun z => PyData.eqv z (.tuple [.int 0, .int (n : Int)]))) = true then _ else _
                      rw [any_cls]
                      by_cases hF : n ∈ F
                      · rw [decide_eq_true hF]
                        refine iteF ⟨_, fs, F, rfl, s4, eD4, ha, fnd.skip hkk fun m e => ?_⟩
                        rw [eo] at e
                        rw [← Option.some.inj e]
                        exact hF
                      · rw [decide_eq_false hF]
                        have lf : fs.length ≤ i + 1 := by rw [ha.1, List.length_map]; exact fnd.len
                        have eD' : Tk H' (upd H' D (.lst (fs ++ [.ref xp]))) := Tk.refl.lst eD4
                        refine iteT ⟨_, rfl, .inl ⟨rfl, _, SqL.of eD4⟩, _, rfl, _, rfl, _, _, _, _, rfl, rfl, SqT.of (s4 _ _ hsq), gg, D, _, _, rfl, rfl, eD4, small1000 (by omega), _, fs ++ [.ref xp], F ++ [n], rfl, ?_, upd_same, ?_, fnd.add hkk (by rw [eo]; rfl) hF⟩
                        · intro b o e
                          rw [upd_ne (ne_of_none e hDn)]
                          exact s4 b o e
                        · rw [List.map_append]
                          exact (ha.mono fun _ _ x => x.keep eD').snoc ⟨xp, rfl, eD' _ _ hxp4⟩
                · have eo : oldAt sh r kk = none := by
                    unfold oldAt old1
                    rw [if_pos hk, if_neg]
                    rintro ⟨_, y⟩
                    rw [List.getElem?_eq_getElem li, List.getElem?_eq_getElem hlt] at y
                    exact z (decide_eq_true (congrArg V.str (Option.some.inj y)))
                  refine iteF ⟨_, fs, F, rfl, s4, eD4, ha, fnd.skip hkk fun m e => ?_⟩
                  rw [eo] at e
                  cases e
              · rw [decide_eq_false (show ¬ (kk : Int) < (r.length : Int) by omega)]
                refine iteF (iteF ⟨_, fs, F, rfl, s4, eD4, ha, fnd.skip hkk fun m e => ?_⟩)
                unfold oldAt at e
                rw [if_neg hk] at e
                cases e
            · obtain ⟨y7, fs, F, rfl, s4, eD4, ha, fnd⟩ := h
              rw [List.length_map] at fnd
              obtain ⟨kd, hkd⟩ : ∃ kd, sh.params[r.length]? = some kd := ⟨_, List.getElem?_eq_getElem hlt⟩
              have kok : kd = "int" ∨ kd = "text" := by
                have := wf.kind hin2
                rw [hkd] at this
                exact this.imp Option.some.inj Option.some.inj
              obtain ⟨lp, xs, hwx, hlp, hx, lx⟩ := hws r.length kd hkd
              have hx := hx kok
              have cx := hx.canon
              obtain ⟨L, eL, R⟩ := lit_rise hx
              subst eL
              rw [List.length_map] at lx
              have hlp4 := s4 _ _ hlp
              have lf : fs.length ≤ 7 := by
                have := fnd.len
                rw [ha.1, List.length_map]
                omega
              refine ⟨_, rfl, .inl ⟨rfl, _, SqL.of eD4⟩, _, rfl, _, rfl, _, _, _, _, rfl, rfl, SqL.of (s4 _ _ hwq), atI_nat hwx, lp, rfl, ⟨_, SqT.of hlp4⟩, fun D2 nD2 => ?_⟩
              refine lc_tup (K := K) (a := lp) (xs := L.map kV) (fun c H2 => ∃ ls : List V, Same H' H2 ∧ H2 D2 = some (.lst ls) ∧ AllAt (SgAt H2) ls ((L.take c).map fun k => Sg.lit (kV k))) ⟨[], same_upd nD2, upd_same, AllAt.nil⟩ (fun c H2 _ h => ?_) (fun c x H2 hc h => ?_) (fun H2 h => ?_)
              · obtain ⟨ls, s5, _⟩ := h
                exact SqT.of (s5 _ _ hlp4)
              · obtain ⟨ls, s5, eD2, hls⟩ := h
                obtain ⟨kk, hkk, rfl⟩ : ∃ kk, L[c]? = some kk ∧ x = kV kk := by
                  rw [List.getElem?_map] at hc
                  cases e : L[c]? with
                  | none => rw [e] at hc; cases hc
                  | some kk => rw [e] at hc; exact ⟨kk, rfl, (Option.some.inj hc).symm⟩
                have hcl : c < L.length := (List.getElem?_eq_some_iff.mp hkk).1
                refine ⟨rfl, _, rfl, by show 2 ≤ sizeLine; decide, fun t3 nt3 => ?_⟩
                have s6 := s5.trans (same_upd (o := .tup [.int 1, kV kk]) nt3)
                have eD3 := (same_upd (o := .tup [.int 1, kV kk]) nt3) _ _ eD2
                have tk : Tk H2 (upd (upd H2 t3 (.tup [.int 1, kV kk])) D2 (.lst (ls ++ [.ref t3]))) := (Tk.of_same (same_upd nt3)).trans (Tk.refl.lst eD3)
                refine ⟨ls, eD3, ?_, ls ++ [.ref t3], ?_, upd_same, ?_⟩
                · rw [hls.1, List.length_map]
                  exact small1000 (Nat.le_trans (List.length_take_le' ..) (by omega))
                · intro b o e
                  rw [upd_ne (ne_of_none e nD2)]
                  exact s6 b o e
                · rw [List.take_add_one, hkk, List.map_append]
                  exact (hls.mono fun _ _ x => x.keep tk).snoc ⟨t3, rfl, Tk.refl.lst eD3 _ _ upd_same⟩
              · obtain ⟨ls, s5, eD2, hls⟩ := h
                rw [List.length_map, List.take_length] at hls
                have eD5 := s5 _ _ eD4
                have ll : ls.length ≤ 18 := by rw [hls.1, List.length_map]; exact lx
                refine ⟨D, D2, fs, ls, rfl, rfl, eD5, eD2, Nat.le_of_lt (small1000 (by omega)), _, _, rfl, ?_, fs ++ ls, F, (List.range 64).filter fun n => decide (n ∈ old sh r ++ [least r]), L, upd_same, ?_, fnd.nd, fnd.few hnum (by omega), R, by rw [List.length_append]; omega, List.Pairwise.filter _ List.pairwise_lt_range, fun n => ?_, ?_⟩
                · intro b o e
                  rw [upd_ne (ne_of_none e hDn)]
                  exact s5 _ _ (s4 b o e)
                · have tk : Tk H2 (upd H2 D (.lst (fs ++ ls))) := Tk.refl.lst eD5
                  exact ((ha.mono fun _ _ x => x.keep (Tk.of_same s5)).append hls).mono fun _ _ x => x.keep tk
                · have m1 : n ∈ F ↔ n = least r ∨ ∃ k ∈ ns, oldAt sh r k = some n := by
                    have := fnd.mem n
                    rw [List.take_length] at this
                    exact this
                  rw [m1, ← mem_old nmem, List.mem_filter, decide_eq_true_iff, List.mem_append, List.mem_singleton, List.mem_range]
                  constructor
                  · rintro ⟨_, h | h⟩
                    · exact .inr h
                    · exact .inl h
                  · rintro (h | h)
                    · have := (least_at r hnum).2
                      exact ⟨by omega, .inr h⟩
                    · have := old_lt hnum n h
                      exact ⟨by omega, .inl h⟩
                · unfold opts
                  rw [if_pos hin2, List.getD_eq_getElem?_getD, hkd]
                  show signs _ L = _ ++ (canon kd ss).map Sg.lit
                  rw [← cx, List.map_map]
                  rfl
          · rw [decide_eq_false hin]
            refine iteF ⟨_, _, rfl, s3, [.ref t2], [least r], [least r], [], eD, AllAt.nil.snoc (vs := []) (as := []) e2, List.nodup_cons.mpr ⟨List.not_mem_nil, List.nodup_nil⟩, fun n hn => ?_, ⟨List.Pairwise.nil, fun k hk => (by cases hk)⟩, by show 1 < 64; decide, List.pairwise_singleton _ _, fun _ => Iff.rfl, ?_⟩
            · rw [List.mem_singleton.mp hn]
              omega
            · unfold opts
              rw [if_neg fun z => hin ((nmem _).2 z)]
              rfl
        · intro σ' H4 h
          obtain ⟨y7, y8, rfl, dn⟩ := h
          obtain ⟨s4, fs, F, F', L, eD4, ha, nd, few, R, lf, lt, hm, eo⟩ := dn
          refine ⟨_, rfl, D, fs, pairOf H4, rank L, rfl, SqL.of eD4, lf, fun x hx => ?_, fun x hx y hy => ?_, fun ys p pm pw np => ?_⟩
          · obtain ⟨g, hg, z⟩ := ha.mem hx
            exact (signs_pair hg z).2
          · obtain ⟨g, hg, z⟩ := ha.mem hx
            obtain ⟨g', hg', z'⟩ := ha.mem hy
            rw [(signs_pair (K := K) hg z).1, (signs_pair (K := K) hg' z').1]
            exact rank_ok R few hg hg'
          · have so := sorted_at R few nd ha pm pw lt hm
            rw [eo] at so
            exact k p ys _ (s4.free np) upd_same (so.mono fun _ _ x => x.keep (Tk.of_same (same_upd np))) (s4.trans (same_upd np))
    · obtain ⟨v, hv, hl, h⟩ := h
      refine ⟨v, hv, hl, fun t nt => ?_⟩
      obtain ⟨u, hu, d, ds, h1, h2, h3, h4, c, hc, h5⟩ := h t nt
      exact ⟨u, hu, d, ds, h1, h2, h3, h4, c, hc, hq _ _ h5⟩
end
end K10
set_option Elab.async false
set_option linter.all false
set_option maxRecDepth 100000
set_option maxHeartbeats 4000000
namespace K10
open PySem PySem.Spec PyProof.Rows L2
/-- a walk of a list, whatever is done in a turn -/
theorem walk_lst {K : PySem.W.Frag} {a : Addr} {xs : List V} {B : Hp} {Qd : Hp → Prop} {Body : V → Hp → (Hp → Prop) → Prop} (Pv : Nat → Hp → Prop)
    (h0 : Pv 0 B) (keep : ∀ i H, i ≤ xs.length → Pv i H → SqL K H a xs) (fin : ∀ H, Pv xs.length H → Qd H) (turn : ∀ i x H, xs[i]? = some x → Pv i H → Body x H (Pv (i + 1))) :
    ∃ W : Nat → Nat → Hp → Prop, (∃ m, W 0 m B) ∧ ∀ i m H, W i m H → ((Itl K a).stop i H ∧ Qd H) ∨ ((Itl K a).go i H ∧ ∃ Nx : Hp → Prop, (∀ H', Nx H' → ∃ m', m' < m ∧ W (i + 1) m' H') ∧ ∀ x H', (Itl K a).yld i H x H' → Body x H' Nx) := by
  refine ⟨fun i m H => i + m = xs.length ∧ Pv i H, ⟨xs.length, Nat.zero_add _, h0⟩, fun i m H w => ?_⟩
  obtain ⟨e, p⟩ := w
  have st := keep i H (by omega) p
  cases m with
  | zero =>
    have e' : i = xs.length := e
    rw [e'] at p
    exact .inl ⟨⟨xs, st, Nat.le_of_eq e'.symm⟩, fin H p⟩
  | succ m =>
    have lt : i < xs.length := by omega
    refine .inr ⟨⟨xs, xs[i], st, List.getElem?_eq_getElem lt⟩, Pv (i + 1), fun H' q => ⟨m, Nat.lt_succ_self m, by omega, q⟩, fun x H' y => ?_⟩
    obtain ⟨rfl, at_⟩ := y
    exact turn i x _ (at_ xs st) p
theorem pi_listK {X : Cx} {K : PySem.W.Frag} {tg l : Expr} {tl : TE} (h : X.K = K) (hl : PE X l tl) : PI X tg l (iList K tl) := h ▸ pi_list hl
section
variable {P : Program} {w : World} {K : PySem.W.Frag} {mg : Str → Option Value} {base : Heap}
theorem c_chs (T : Txt K mg) : C8.Cal P w K mg base 3 "choices" spChoices [] := by
  have c_literals : C8.Cal P w K mg base 2 "literals" spLits [] := c_lits T
  have c_named : C8.Cal P w K mg base 2 "named" spNamed [] := c_named T
  have c_signs_for : C8.Cal P w K mg base 1 "signs_for" spSigns [] := c_signs_for T
  refine cal_of T.d_choices T.g_choices sc_choices (fun fd F => b_choices F) (fun vs H Q E h => ?_) (fun cdv A outer s H vs Q E hr h => ?_)
  · obtain ⟨a, i, ss, sh, rfl, _⟩ := h
    rfl
  · obtain ⟨a, pl, ss, sh, rfl, hS, wf, hsh, k⟩ := h
    refine ⟨_, (pss_cons (ps_set (i := 2) sc_choices.nd rfl (by first | exact .inl rfl | exact .inr rfl) (pe_ix ix_tup (pv 0) (pv 1) (fun _ _ => rfl)))
  (pss_cons (ps_set (i := 3) sc_choices.nd rfl (by first | exact .inl rfl | exact .inr rfl) (pe_ix ix_tup (pv 2) pe_int (fun _ _ => rfl)))
  (pss_cons (ps_set (i := 4) sc_choices.nd rfl (by first | exact .inl rfl | exact .inr rfl) (C8.pe_c c_named hr (by decide) (by rfl) (pa_cons (pv 2) pa_nil)))
  (pss_cons (ps_set (i := 5) sc_choices.nd rfl (by first | exact .inl rfl | exact .inr rfl) (pe_lc (own := [("kind", 8)]) (g := gName 8) rfl sc_choices.nd (pi_tup (pv 3)) (blkOk_by (own := [("kind", 8)]) (N := n_choices) (sc := defScope s_choices) (by decide +kernel)) (fun _ _ _ _ _ => (pg_name (i := 8) sc_choices.nd rfl (by first | exact .inl rfl | exact .inr rfl))) (fun _ _ _ _ _ => pts_nil) (fun _ _ _ _ _ => (C8.pe_c c_literals hr (by decide) (by rfl) (pa_cons (pv 0) (pa_cons (pv 8) pa_nil))))))
  (pss_cons (ps_set (i := 6) sc_choices.nd rfl (by first | exact .inl rfl | exact .inr rfl) (pe_lst (pa_cons (pe_tup pa_nil) pa_nil)))
  (pss_cons (ps_for PassesOwn.never rfl (pi_tup (pv 3)) (pg_name (i := 7) sc_choices.nd rfl (by first | exact .inl rfl | exact .inr rfl))
    (pss_one (ps_setLc2 (i := 6) (own := [("signs", 9), ("sign", 10)]) (vs1 := [10]) (g := gName 9) (g1 := gName 10) rfl sc_choices.nd rfl (by rfl) (sw_true rfl rfl rfl (by decide +kernel)) (pi_list (pv 6)) (blkOk_by (own := [("signs", 9), ("sign", 10)]) (N := n_choices) (sc := defScope s_choices) (by decide +kernel)) (by decide) (fun _ _ _ _ _ => (pg_name (i := 9) sc_choices.nd rfl (by first | exact .inl rfl | exact .inr rfl))) (fun _ _ _ _ _ => pts_nil) (fun _ _ _ _ _ => pi_listK (K := K) rfl (C8.pe_c c_signs_for hr (by decide) (by rfl) (pa_cons (pv 3) (pa_cons (pv 4) (pa_cons (pv 9) (pa_cons (pv 5) pa_nil)))))) (fun _ _ _ _ _ => (pg_name (i := 10) sc_choices.nd rfl (by first | exact .inl rfl | exact .inr rfl))) (fun _ _ _ _ _ => pts_nil) (fun _ _ _ _ _ => (pe_op (op_catAK (K := K) rfl) (pv 9) (pe_tup (pa_cons (pv 10) pa_nil)))))))
  (pss_one (ps_ret (pe_callTy call_tuple_of (by rfl) T.z_tuple (by decide +kernel) (pa_cons (pv 6) pa_nil)))))))))), ?_⟩
    obtain ⟨p, vs, rfl, hp, hA⟩ := id hS
    obtain ⟨shv, hshv, hSh⟩ := hA.get hsh
    obtain ⟨q, a1, a2, nm, es, rfl, hq, ha1, hes, hE⟩ := id hSh
    have wfs := wf.2 sh (List.mem_of_getElem? hsh)
    have p3 := wfs.params.1
    -- shape, params
    refine ⟨_, rfl, _, rfl, _, _, _, _, rfl, rfl, SqT.of hp, atI_nat hshv, ?_⟩
    refine ⟨_, rfl, _, _, _, _, rfl, rfl, SqT.of hq, rfl, ?_⟩
    -- names
    refine ⟨_, rfl, .ref q, sh, rfl, hSh, wfs.many, fun nq ns H1 enq nlt nmem nlen s1 => ?_⟩
    have hN : NamesAt H1 (.ref nq) sh := ⟨nq, ns, rfl, enq, nlt, nmem, nlen⟩
    -- worths
    refine ⟨_, rfl, a1, rfl, ⟨_, SqT.of (s1 _ _ ha1)⟩, fun wq nwq => ?_⟩
    have hwq0 : H wq = none := s1.free nwq
    refine lc_tup (K := K) (a := a1) (xs := sh.params.map V.str) (fun i H' => ∃ ws : List V, Same H1 H' ∧ H' wq = some (.lst ws) ∧ ws.length = i ∧ ∀ (j : Nat) (kd : Str), j < i → sh.params[j]? = some kd → ∃ (p : Addr) (xs : List V), ws[j]? = some (.ref p) ∧ H' p = some (.tup xs) ∧ LitOf kd ss xs ∧ xs.length ≤ 18) ⟨[], same_upd nwq, upd_same, rfl, fun j kd hj => (by omega)⟩ (fun i H' _ h => ?_) (fun i x H' hx h => ?_) (fun H' h => ?_)
    · obtain ⟨ws, s2, _⟩ := h
      exact SqT.of (s2 _ _ (s1 _ _ ha1))
    · obtain ⟨ws, s2, ewq, wl, hws⟩ := h
      obtain ⟨kd, hkd, rfl⟩ : ∃ kd, sh.params[i]? = some kd ∧ x = .str kd := by
        rw [List.getElem?_map] at hx
        cases e : sh.params[i]? with
        | none => rw [e] at hx; cases hx
        | some kd => rw [e] at hx; exact ⟨kd, rfl, (Option.some.inj hx).symm⟩
      have hi : i < sh.params.length := (List.getElem?_eq_some_iff.mp hkd).1
      refine ⟨rfl, _, rfl, _, rfl, .ref p, kd, ss, rfl, hS.keep (Tk.of_same (s1.trans s2)), wf.few, fun lp xs H2 hlit lx nlp elp s3 => ?_⟩
      have ewq2 := s3 _ _ ewq
      refine ⟨ws, ewq2, small1000 (by omega), ws ++ [.ref lp], ?_, upd_same, by rw [List.length_append, wl]; rfl, fun j kd' hj hkd' => ?_⟩
      · intro b o e
        rw [upd_ne (ne_of_none e nwq)]
        exact s3 _ _ (s2 b o e)
      · have tk : Tk H2 (upd H2 wq (.lst (ws ++ [.ref lp]))) := Tk.refl.lst ewq2
        by_cases hj2 : j < i
        · obtain ⟨p', xs', h1, h2, h3, h4⟩ := hws j kd' hj2 hkd'
          exact ⟨p', xs', by rw [List.getElem?_append_left (by omega)]; exact h1, tk _ _ (s3 _ _ h2), h3, h4⟩
        · have ej : j = i := by omega
          subst ej
          rw [hkd] at hkd'
          cases hkd'
          exact ⟨lp, xs, by rw [List.getElem?_append_right (by omega), wl, Nat.sub_self]; rfl, tk _ _ elp, hlit, lx⟩
    · obtain ⟨ws, s2, ewq, wl, hws⟩ := h
      rw [List.length_map] at wl hws
      have hW : WorthsAt H' (.ref wq) ss sh.params := ⟨wq, ws, rfl, ewq, wl, fun i kd hi => hws i kd (List.getElem?_eq_some_iff.mp hi).1 hi⟩
      have s3 : Same H H' := s1.trans s2
      have hN' := hN.keep s2
      -- told = [()]
      refine ⟨Nat.zero_le _, fun p0 np0 => ⟨by show 1 ≤ sizeLine; decide, fun r0 nr0 => ?_⟩⟩
      have s4 : Same H' (upd (upd H' p0 (.tup [])) r0 (.lst [.ref p0])) := (same_upd np0).trans (same_upd nr0)
      have z0 : AllAt (RowAt (upd (upd H' p0 (.tup [])) r0 (.lst [.ref p0]))) [.ref p0] (rowsN ss sh 0) :=
        AllAt.nil.snoc (vs := []) (as := []) ⟨p0, [], rfl, (same_upd nr0) _ _ upd_same, AllAt.nil⟩
      -- for _ in params
      refine ⟨_, rfl, a1, rfl, ⟨_, SqT.of (s4 _ _ (s3 _ _ ha1))⟩, for_tup (K := K) (a := a1) (xs := sh.params.map V.str) (fun j σ H5 => ∃ (y7 y8 y9 y10 : Option V) (tl : Addr) (ts : List V), σ = [some (.ref p), some (.int (pl : Nat)), some (.ref q), some (.ref a1), some (.ref nq), some (.ref wq), some (.ref tl), y7, y8, y9, y10] ∧ Same H' H5 ∧ H5 tl = some (.lst ts) ∧ AllAt (RowAt H5) ts (rowsN ss sh j)) ⟨_, _, _, _, r0, _, rfl, s4, upd_same, z0⟩ (fun j σ H5 _ h => ?_) (fun j x σ H5 hx h => ?_) (fun σ H5 h => ?_)⟩
      · obtain ⟨_, _, _, _, _, _, _, s5, _⟩ := h
        exact SqT.of (s5 _ _ (s3 _ _ ha1))
      · obtain ⟨y7, y8, y9, y10, tl, ts, rfl, s5, etl, hts⟩ := h
        have hj : j < sh.params.length := by
          have := (List.getElem?_eq_some_iff.mp hx).1
          rw [List.length_map] at this
          exact this
        have rr := rows_right (s := sh) wf j
        refine ⟨_, rfl, tl, rfl, ⟨_, SqL.of etl⟩, fun D nD => ?_⟩
        have hD0 : H' D = none := s5.free nD
        have s35 : Same H H5 := s3.trans s5
        refine walk_lst (K := K) (a := tl) (xs := ts) (fun i H6 => ∃ ms : List V, Same H5 H6 ∧ H6 D = some (.lst ms) ∧ AllAt (RowAt H6) ms (((rowsN ss sh j).take i).flatMap fun r => (opts ss sh r).map fun o => r ++ [o])) ⟨[], same_upd nD, upd_same, AllAt.nil⟩ (fun i H6 _ h => ?_) (fun H6 h => ?_) (fun i x H6 hx h => ?_)
        · obtain ⟨ms, s6, _⟩ := h
          exact SqL.of (s6 _ _ etl)
        · obtain ⟨ms, s6, eD, hms⟩ := h
          rw [hts.1, List.take_length] at hms
          exact ⟨_, _, _, _, D, ms, rfl, s5.trans s6, eD, hms⟩
        · obtain ⟨ms, s6, eD, hms⟩ := h
          obtain ⟨r, hr, rp, gs, rfl, hrp, hgs⟩ := hts.2 i x hx
          obtain ⟨r1, r2, r3⟩ := rr r (List.mem_of_getElem? hr)
          have s36 : Same H H6 := s35.trans s6
          have s56 : Same H' H6 := s5.trans s6
          have hrow : RowAt H6 (.ref rp) r := ⟨rp, gs, rfl, s6 _ _ hrp, hgs.mono fun _ _ x => x.keep (Tk.of_same s6)⟩
          have lo := opts_few ss sh r
          -- signs_for(params, names, signs, worths)
          refine ⟨rfl, _, rfl, _, rfl, _, rfl, _, rfl, a1, .ref nq, .ref rp, .ref wq, ss, sh, r, rfl, s36 _ _ ha1, hN'.keep s56, hrow, hW.keep s56, wfs, by rw [r1]; exact hj, r2, r3, fun sq ws H7 nsq esq hws s7 => ⟨sq, rfl, ⟨_, SqL.of esq⟩, ?_⟩⟩
          refine walk_lst (K := K) (a := sq) (xs := ws) (fun c H8 => ∃ ms : List V, Same H5 H8 ∧ H8 sq = some (.lst ws) ∧ AllAt (SgAt H8) ws (opts ss sh r) ∧ H8 D = some (.lst ms) ∧ AllAt (RowAt H8) ms ((((rowsN ss sh j).take i).flatMap fun r => (opts ss sh r).map fun o => r ++ [o]) ++ ((opts ss sh r).take c).map fun o => r ++ [o])) ⟨ms, s6.trans s7, esq, hws, s7 _ _ eD, by simpa using hms.mono fun _ _ x => x.keep (Tk.of_same s7)⟩ (fun c H8 _ h => ?_) (fun H8 h => ?_) (fun c x H8 hx h => ?_)
          · obtain ⟨ms, _, e, _⟩ := h
            exact SqL.of e
          · obtain ⟨ms, s8, e, hw8, eD8, hms8⟩ := h
            refine ⟨ms, s8, eD8, ?_⟩
            rw [hws.1, List.take_length] at hms8
            rw [List.take_add_one, hr, List.flatMap_append]
            have e1 : ((some r).toList.flatMap fun r => (opts ss sh r).map fun o => r ++ [o]) = (opts ss sh r).map fun o => r ++ [o] := by
              show [r].flatMap _ = _
              rw [List.flatMap_cons, List.flatMap_nil, List.append_nil]
            rw [e1]
            exact hms8
          · obtain ⟨rs, s8, e8, hw8, eD8, hrs⟩ := h
            obtain ⟨o, ho, hxo⟩ := hw8.2 c x hx
            have e9 := s8 _ _ hrp
            have gs9 : AllAt (SgAt H8) gs r := hgs.mono fun _ _ x => x.keep (Tk.of_same s8)
            have stp : ((opts ss sh r).take (c + 1)).map (fun o => r ++ [o]) = ((opts ss sh r).take c).map (fun o => r ++ [o]) ++ [r ++ [o]] := by
              rw [List.take_add_one, ho, List.map_append]
              rfl
            have lrs : rs.length < sizeLine := by
              rw [hrs.1, List.length_append, List.length_map]
              have l1 : (((rowsN ss sh j).take i).flatMap fun r => (opts ss sh r).map fun o => r ++ [o]).length ≤ 82 ^ 2 * 82 := by
                refine Nat.le_trans (flat_le _ 82 _ fun r _ => by rw [List.length_map]; exact opts_few ss sh r) (Nat.mul_le_mul_right 82 (Nat.le_trans (List.length_take_le' ..) (Nat.le_trans (rows_few ss sh j) (Nat.pow_le_pow_right (by decide) (by omega)))))
              have l2 : ((opts ss sh r).take c).length ≤ 82 := Nat.le_trans (List.length_take_le' ..) lo
              have : (82 ^ 2 * 82 + 82 : Nat) < sizeLine := by decide
              omega
            have sD : sq ≠ D := fun z => by rw [z, eD] at nsq; cases nsq
            refine ⟨rfl, _, rfl, _, rfl, by show 1 ≤ sizeLine; decide, fun p1 np1 => ?_⟩
            have eD1 := (same_upd (o := .tup [x]) np1) _ _ eD8
            refine ⟨rp, p1, gs, [x], rfl, rfl, SqT.of ((same_upd np1) _ _ e9), SqT.of upd_same, Nat.le_of_lt (small1000 (by rw [hgs.1, r1]; show j + 1 ≤ 1000; omega)), fun e0 => ?_, fun _ z => (by cases z), fun ne _ p2 np2 => ?_⟩
            · have er : r = [] := by
                have := hgs.1
                rw [e0] at this
                cases r with
                | nil => rfl
                | cons g r => cases this
              have tk : Tk (upd H8 p1 (.tup [x])) (upd (upd H8 p1 (.tup [x])) D (.lst (rs ++ [.ref p1]))) := Tk.refl.lst eD1
              have t0 : Tk H8 (upd H8 p1 (.tup [x])) := Tk.of_same (same_upd np1)
              refine ⟨rs, eD1, lrs, rs ++ [.ref p1], fun b u e => ?_, ?_, hw8.mono fun _ _ x => (x.keep t0).keep tk, upd_same, ?_⟩
              · rw [upd_ne (ne_of_none e nD)]
                exact (same_upd np1) _ _ (s8 _ _ e)
              · rw [upd_ne sD]
                exact (same_upd np1) _ _ e8
              · rw [stp, ← List.append_assoc]
                refine (hrs.mono fun _ _ x => (x.keep t0).keep tk).snoc ⟨p1, [x], rfl, tk _ _ upd_same, ?_⟩
                rw [er]
                exact AllAt.nil.snoc (vs := []) (as := []) ((hxo.keep t0).keep tk)
            · have eD2 := (same_upd (o := .tup (gs ++ [x])) np2) _ _ eD1
              have tk : Tk H8 (upd (upd (upd H8 p1 (.tup [x])) p2 (.tup (gs ++ [x]))) D (.lst (rs ++ [.ref p2]))) := (Tk.of_same ((same_upd np1).trans (same_upd np2))).trans (Tk.refl.lst eD2)
              refine ⟨rs, eD2, lrs, rs ++ [.ref p2], fun b u e => ?_, ?_, hw8.mono fun _ _ x => x.keep tk, upd_same, ?_⟩
              · rw [upd_ne (ne_of_none e nD)]
                exact (same_upd np2) _ _ ((same_upd np1) _ _ (s8 _ _ e))
              · rw [upd_ne sD]
                exact (same_upd np2) _ _ ((same_upd np1) _ _ e8)
              · rw [stp, ← List.append_assoc]
                exact (hrs.mono fun _ _ x => x.keep tk).snoc ⟨p2, gs ++ [x], rfl, Tk.refl.lst eD2 _ _ upd_same, (gs9.mono fun _ _ x => x.keep tk).snoc (hxo.keep tk)⟩
      · obtain ⟨y7, y8, y9, y10, tl, ts, rfl, s5, etl, hts⟩ := h
        rw [List.length_map] at hts
        refine ⟨_, rfl, tl, _, rfl, .inl ⟨SqL.of etl, fun t nt => k _ _ ⟨t, ts, rfl, upd_same, hts.mono fun _ _ x => x.keep (Tk.of_same (same_upd nt))⟩ (s3.trans (s5.trans (same_upd nt)))⟩⟩
theorem c_choices (T : Txt K mg) : C8.Cal P w K mg base 8 "choices" spChoices [] := by
  obtain ⟨f, fd, ps, ds, F, hm, kp, b, d⟩ := (c_chs (P := P) (w := w) (base := base) T).ex
  exact ⟨f, fd, ps, ds, F.mono (by decide), hm, kp, b, d⟩
end
end K10
set_option Elab.async false
set_option linter.all false
set_option maxRecDepth 100000
set_option maxHeartbeats 0
namespace K10
open PySem PySem.Spec PyProof.Rows L2
abbrev R : PySem.W.OpenRow := PySem.W.OpenLaw.row PySem.Challenge.rw_entablature_k10_choices_and_literals
abbrev hk : PySem.W.Hook := He.hookD 4 facts fns
def ob (s : PySem.W.SharedT) : He.AlD := He.obsDG 4 facts fns (HandSHeadRun.getT s)
theorem ob_eq (s : PySem.W.SharedT) : ob s = hk.obs s.abs := He.obsDG_eq (HandSHeadRun.getT_eq s)
def names : List Str := ["keys_of", "is_of_kind", "literals", "named", "signs_for", "choices", "_law_box", "_law_take", "_law_pick", "_law_drawn", "_law_values", "_law_options", "CLASS", "LITERAL"]
theorem run (w : World) : HandSHeadRun.RunEq R (PySem.W.view R.prog [16]) hk ob 2000 names w := by
  intro os
  kernel_rfl
end K10
open PySem PySem.W PySem.Calls PyProof.Rows
set_option maxRecDepth 100000 in
theorem PySem.Challenge.cw_entablature_k10_choices_and_literals_holds : PySem.Challenge.rw_entablature_k10_choices_and_literals.Holds := by
  w_on; o_law
  refine HandSHeadRun.head_any (r := OpenLaw.row PySem.Challenge.rw_entablature_k10_choices_and_literals) (q := view (OpenLaw.row PySem.Challenge.rw_entablature_k10_choices_and_literals).prog [16]) (H := K10.hk) (ob := K10.ob) (M := 2000) (loose := K10.names) (d := HandSHeadRun.topDef (OpenLaw.row PySem.Challenge.rw_entablature_k10_choices_and_literals).prog 16) (kwd := []) K10.ob_eq
    (by kernel_rfl) (fun s => by kernel_rfl) K10.run (by kernel_rfl) (by kernel_rfl) (by kernel_rfl) (by rfl) (by first | assumption | decide +kernel) (by decide +kernel) ⟨rfl, rfl, rfl, rfl, rfl, by decide +kernel⟩ ?hw ?hc
  case hw => w_witness2
  case hc =>
    refine L2.walk_ofE (l := PySem.Challenge.rw_entablature_k10_choices_and_literals) (n := 63) (k := 9) (x := "script") (CX := L2.CX0) rfl (by decide) (by kernel_rfl) ⟨rfl, by decide, by decide⟩ ?F (fun _ _ _ _ z => z)
    intro w mg fa h Y G hmg0
    obtain ⟨K, KX, c⟩ := Y
    have hmg : mg ("law" : PySem.Str) = some (.ref fa) := by
      have e : (HandSHeadRun.topDef (OpenLaw.row PySem.Challenge.rw_entablature_k10_choices_and_literals).prog 16).name = ("law" : PySem.Str) := by kernel_rfl
      rw [← e]
      exact hmg0
    have T := K10.txt_of KX G c
    obtain ⟨fd, F⟩ := T.d_law
    have e := hmg.symm.trans T.g_law
    cases e
    exact ⟨K, fd, K10.spLaw K, KX, fun s v => (L2.FunD.bindsA (ps := ["script"]) F fun _ _ _ _ _ _ us hl => match us, hl with | [_], _ => rfl) s [v] rfl, fun H a ns hl _ hS => ⟨a, ns, rfl, hS, hl, fun _ => rfl⟩, fun base _ _ => K10.c_law T (K10.c_literals T) (K10.c_choices T) fd F⟩
