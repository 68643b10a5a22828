import PyProof.Rows.All
import Wide.All
import OpenK.AllK
import Wide.FinOn
import HandS.ForMost
import HandS.Exc
import HandS.ExcOwn
import HandS.WordsExc
import HandS.ExcIs
import HandS.IsInst
import HandS.Lambda
import HandS.AnyAll
import HandS.EndTab
import HandS.Codes
import HandS.Defaults
import HandS.Head0
import HandS.Head1
import HandS.Head2
import HandS.HeadEnd
import HandS.HeadHook1
import HandS.HeadHook2
import HandS.HeadHook3
import HandS.HeadHook4
import HandS.HeadWalk
import HandS.Walk
import HandS.More
import KE.KDflt
import HandS.SetFor
import PyProof.SetRoads
import PyProof.Rows.SetFrom
import PyProof.Rows.SortShellAny
import HandS.SetBool
import HandS.DictComp
import HandS.Star
import HandS.Flow
import HandS.SetKeys
import HandS.Deep
import KE.SortCalls
import HandS.Comp
import HandS.GenOver
import PyProof.GenQ
import HandS.Iter
import HandS.GenList
import HandS.Text
import HandS.RaiseMore
import HandS.FStr
import KE.SortData
import PyProof.ZipIter
import PyProof.CallType
import PyProof.Walk
import PyProof.WalkLemmas
import PyProof.RangeIter
import PyProof.RulesTry
import PyProof.TupleOfSeq
import PyProof.Rows.SortShell
import PyProof.Rows.Range3
import HandS.WideBits
import HandS.ListItems
import HandS.TupAny
import KE.KDictSum
import HandS.TupLen
import HandS.Conv
import KE.KeyNested
import KE.KDictCopyH
import PySem.Challenge.RW_busfind_k12_plans_with_the_least_looks
set_option Elab.async false
set_option linter.all false
set_option maxRecDepth 100000
set_option maxHeartbeats 4000000
namespace B
open PySem PySem.Spec PyProof.Rows L2
def topS (i : Nat) : Stmt := PySem.Challenge.pw_busfind_k12_plans_with_the_least_looks.main.body.getD i (.Pass ⟨0, 0, 0, 0⟩)
abbrev s_BadLooks_init : Stmt := inClass (topS 11) 0
abbrev s_BadStep_init : Stmt := inClass (topS 15) 0
abbrev s_BadText_init : Stmt := inClass (topS 16) 0
abbrev s_require_width : Stmt := topS 20
abbrev s_require_number : Stmt := topS 21
abbrev s_is_number : Stmt := topS 22
abbrev s_heard : Stmt := topS 23
abbrev s_met : Stmt := topS 24
abbrev s_require_roster : Stmt := topS 27
abbrev s_is_rising : Stmt := topS 28
abbrev s_sets_of : Stmt := topS 29
abbrev s_answer_of : Stmt := topS 33
abbrev s_plan_of : Stmt := topS 34
abbrev s_telling : Stmt := topS 35
abbrev s_best_plan : Stmt := topS 36
abbrev s_sought_plan : Stmt := topS 37
abbrev s_parted : Stmt := topS 38
abbrev s_ltaken : Stmt := topS 40
abbrev s_lalike : Stmt := topS 41
abbrev s_lword : Stmt := topS 42
abbrev s_lnumber : Stmt := topS 43
abbrev s_lnear : Stmt := topS 44
abbrev s_lthings : Stmt := topS 45
abbrev s_lwidth : Stmt := topS 46
abbrev s_llooked : Stmt := topS 47
abbrev s_lmet : Stmt := topS 48
abbrev s_lsets : Stmt := topS 49
abbrev s_levery : Stmt := topS 50
abbrev s_lroster : Stmt := topS 51
abbrev s_lworst : Stmt := topS 52
abbrev s_lgoes : Stmt := topS 53
abbrev s_law : Stmt := topS 54
theorem sc_require_width : FnScope ["width"] ["width"] (defScope s_require_width) := ⟨rfl, rfl, rfl, by decide +kernel, rfl, by decide +kernel, by decide +kernel⟩
theorem sc_require_number : FnScope ["width", "number"] ["width", "number"] (defScope s_require_number) := ⟨rfl, rfl, rfl, by decide +kernel, rfl, by decide +kernel, by decide +kernel⟩
theorem sc_is_number : FnScope ["width", "number", "sign"] ["width", "number"] (defScope s_is_number) := ⟨rfl, rfl, rfl, by decide +kernel, rfl, by decide +kernel, by decide +kernel⟩
theorem sc_heard : FnScope ["numbers", "beginning", "zero", "one", "number"] ["numbers", "beginning"] (defScope s_heard) := ⟨rfl, rfl, rfl, by decide +kernel, rfl, by decide +kernel, by decide +kernel⟩
theorem sc_met : FnScope ["width", "numbers", "number", "texts", "text", "length"] ["width", "numbers"] (defScope s_met) := ⟨rfl, rfl, rfl, by decide +kernel, rfl, by decide +kernel, by decide +kernel⟩
theorem sc_require_roster : FnScope ["width", "roster"] ["width", "roster"] (defScope s_require_roster) := ⟨rfl, rfl, rfl, by decide +kernel, rfl, by decide +kernel, by decide +kernel⟩
theorem sc_is_rising : FnScope ["width", "numbers", "number"] ["width", "numbers"] (defScope s_is_rising) := ⟨rfl, rfl, rfl, by decide +kernel, rfl, by decide +kernel, by decide +kernel⟩
theorem sc_sets_of : FnScope ["roster", "sets", "number", "numbers"] ["roster"] (defScope s_sets_of) := ⟨rfl, rfl, rfl, by decide +kernel, rfl, by decide +kernel, by decide +kernel⟩
theorem sc_answer_of : FnScope ["look", "zero", "one"] ["look"] (defScope s_answer_of) := ⟨rfl, rfl, rfl, by decide +kernel, rfl, by decide +kernel, by decide +kernel⟩
theorem sc_plan_of : FnScope ["width", "roster", "sets"] ["width", "roster"] (defScope s_plan_of) := ⟨rfl, rfl, rfl, by decide +kernel, rfl, by decide +kernel, by decide +kernel⟩
theorem sc_telling : FnScope ["beginnings", "sets", "firsts", "beginning", "looks", "numbers", "look"] ["beginnings", "sets"] (defScope s_telling) := ⟨rfl, rfl, rfl, by decide +kernel, rfl, by decide +kernel, by decide +kernel⟩
theorem sc_best_plan : FnScope ["beginnings", "sets", "known", "key", "numbers"] ["beginnings", "sets", "known"] (defScope s_best_plan) := ⟨rfl, rfl, rfl, by decide +kernel, rfl, by decide +kernel, by decide +kernel⟩
theorem sc_sought_plan : FnScope ["beginnings", "sets", "known", "best", "beginning", "parts", "told", "looks", "part", "row"] ["beginnings", "sets", "known"] (defScope s_sought_plan) := ⟨rfl, rfl, rfl, by decide +kernel, rfl, by decide +kernel, by decide +kernel⟩
theorem sc_parted : FnScope ["sets", "beginning", "parts", "numbers", "_"] ["sets", "beginning"] (defScope s_parted) := ⟨rfl, rfl, rfl, by decide +kernel, rfl, by decide +kernel, by decide +kernel⟩
theorem sc_ltaken : FnScope ["_law_row", "_law_many", "_law_found", "_law_cell"] ["_law_row", "_law_many"] (defScope s_ltaken) := ⟨rfl, rfl, rfl, by decide +kernel, rfl, by decide +kernel, by decide +kernel⟩
theorem sc_lalike : FnScope ["_law_found", "_law_due", "_law_k"] ["_law_found", "_law_due"] (defScope s_lalike) := ⟨rfl, rfl, rfl, by decide +kernel, rfl, by decide +kernel, by decide +kernel⟩
theorem sc_lword : FnScope ["_law_work", "e", "_law_kinds", "_law_words", "_law_word_here"] ["_law_work"] (defScope s_lword) := ⟨rfl, rfl, rfl, by decide +kernel, rfl, by decide +kernel, by decide +kernel⟩
theorem sc_lnumber : FnScope ["_law_row", "_law_width_here", "_law_k"] ["_law_row", "_law_width_here"] (defScope s_lnumber) := ⟨rfl, rfl, rfl, by decide +kernel, rfl, by decide +kernel, by decide +kernel⟩
theorem sc_lnear : FnScope ["_law_row", "_law_width_here", "_law_some", "_law_number_here", "_law_many"] ["_law_row", "_law_width_here", "_law_some"] (defScope s_lnear) := ⟨rfl, rfl, rfl, by decide +kernel, rfl, by decide +kernel, by decide +kernel⟩
theorem sc_lthings : FnScope ["_law_row", "_law_width_here", "_law_most", "_law_found", "_law_base", "_law_k", "_law_number_here"] ["_law_row", "_law_width_here", "_law_most"] (defScope s_lthings) := ⟨rfl, rfl, rfl, by decide +kernel, rfl, by decide +kernel, by decide +kernel⟩
theorem sc_lwidth : FnScope ["_law_row"] ["_law_row"] (defScope s_lwidth) := ⟨rfl, rfl, rfl, by decide +kernel, rfl, by decide +kernel, by decide +kernel⟩
theorem sc_llooked : FnScope ["_law_numbers", "_law_beginning", "_law_zero", "_law_one", "_law_number_here"] ["_law_numbers", "_law_beginning"] (defScope s_llooked) := ⟨rfl, rfl, rfl, by decide +kernel, rfl, by decide +kernel, by decide +kernel⟩
theorem sc_lmet : FnScope ["_law_width_here", "_law_numbers", "_law_found", "_law_number_here", "_law_many"] ["_law_width_here", "_law_numbers"] (defScope s_lmet) := ⟨rfl, rfl, rfl, by decide +kernel, rfl, by decide +kernel, by decide +kernel⟩
theorem sc_lsets : FnScope ["_law_numbers", "_law_found", "_law_number_here", "_law_one"] ["_law_numbers"] (defScope s_lsets) := ⟨rfl, rfl, rfl, by decide +kernel, rfl, by decide +kernel, by decide +kernel⟩
theorem sc_levery : FnScope ["_law_width_here", "_law_found", "_law_k", "_law_longer", "_law_text"] ["_law_width_here"] (defScope s_levery) := ⟨rfl, rfl, rfl, by decide +kernel, rfl, by decide +kernel, by decide +kernel⟩
theorem sc_lroster : FnScope ["_law_row", "_law_width_here", "_law_most", "_law_found"] ["_law_row", "_law_width_here", "_law_most"] (defScope s_lroster) := ⟨rfl, rfl, rfl, by decide +kernel, rfl, by decide +kernel, by decide +kernel⟩
theorem sc_lworst : FnScope ["_law_told", "_law_some", "_law_known", "_law_found", "_law_beginning", "_law_parts", "_law_place", "_law_key"] ["_law_told", "_law_some", "_law_known"] (defScope s_lworst) := ⟨rfl, rfl, rfl, by decide +kernel, rfl, by decide +kernel, by decide +kernel⟩
theorem sc_lgoes : FnScope ["_law_plan", "_law_sets_here", "_law_most", "_law_hung", "_law_here", "_law_many", "_law_zero", "_law_one"] ["_law_plan", "_law_sets_here"] (defScope s_lgoes) := ⟨rfl, rfl, rfl, by decide +kernel, rfl, by decide +kernel, by decide +kernel⟩
theorem sc_law : FnScope ["_law_script", "_law_row", "_law_turn", "_law_width_here", "_law_roster_here", "_law_sets_here", "_law_told", "_law_beginning", "_law_due", "_law_handed", "_law_again", "_law_found", "_law_great", "_law_one", "_law_text"] ["_law_script"] (defScope s_law) := ⟨rfl, rfl, rfl, by decide +kernel, rfl, by decide +kernel, by decide +kernel⟩
def d_require_width : He.DefD := ⟨("require_width", none), "require_width", "require_width", defArgs s_require_width, defBody s_require_width, defScope s_require_width, [], []⟩
def d_require_number : He.DefD := ⟨("require_number", none), "require_number", "require_number", defArgs s_require_number, defBody s_require_number, defScope s_require_number, [], []⟩
def d_is_number : He.DefD := ⟨("is_number", none), "is_number", "is_number", defArgs s_is_number, defBody s_is_number, defScope s_is_number, [], []⟩
def d_heard : He.DefD := ⟨("heard", none), "heard", "heard", defArgs s_heard, defBody s_heard, defScope s_heard, [], []⟩
def d_met : He.DefD := ⟨("met", none), "met", "met", defArgs s_met, defBody s_met, defScope s_met, [], []⟩
def d_require_roster : He.DefD := ⟨("require_roster", none), "require_roster", "require_roster", defArgs s_require_roster, defBody s_require_roster, defScope s_require_roster, [], []⟩
def d_is_rising : He.DefD := ⟨("is_rising", none), "is_rising", "is_rising", defArgs s_is_rising, defBody s_is_rising, defScope s_is_rising, [], []⟩
def d_sets_of : He.DefD := ⟨("sets_of", none), "sets_of", "sets_of", defArgs s_sets_of, defBody s_sets_of, defScope s_sets_of, [], []⟩
def d_answer_of : He.DefD := ⟨("answer_of", none), "answer_of", "answer_of", defArgs s_answer_of, defBody s_answer_of, defScope s_answer_of, [], []⟩
def d_plan_of : He.DefD := ⟨("plan_of", none), "plan_of", "plan_of", defArgs s_plan_of, defBody s_plan_of, defScope s_plan_of, [], []⟩
def d_telling : He.DefD := ⟨("telling", none), "telling", "telling", defArgs s_telling, defBody s_telling, defScope s_telling, [], []⟩
def d_best_plan : He.DefD := ⟨("best_plan", none), "best_plan", "best_plan", defArgs s_best_plan, defBody s_best_plan, defScope s_best_plan, [], []⟩
def d_sought_plan : He.DefD := ⟨("sought_plan", none), "sought_plan", "sought_plan", defArgs s_sought_plan, defBody s_sought_plan, defScope s_sought_plan, [], []⟩
def d_parted : He.DefD := ⟨("parted", none), "parted", "parted", defArgs s_parted, defBody s_parted, defScope s_parted, [], []⟩
def d_ltaken : He.DefD := ⟨("_law_taken", none), "_law_taken", "_law_taken", defArgs s_ltaken, defBody s_ltaken, defScope s_ltaken, [], []⟩
def d_lalike : He.DefD := ⟨("_law_alike", none), "_law_alike", "_law_alike", defArgs s_lalike, defBody s_lalike, defScope s_lalike, [], []⟩
def d_lword : He.DefD := ⟨("_law_word", none), "_law_word", "_law_word", defArgs s_lword, defBody s_lword, defScope s_lword, [], []⟩
def d_lnumber : He.DefD := ⟨("_law_number", none), "_law_number", "_law_number", defArgs s_lnumber, defBody s_lnumber, defScope s_lnumber, [], []⟩
def d_lnear : He.DefD := ⟨("_law_near", none), "_law_near", "_law_near", defArgs s_lnear, defBody s_lnear, defScope s_lnear, [], []⟩
def d_lthings : He.DefD := ⟨("_law_things", none), "_law_things", "_law_things", defArgs s_lthings, defBody s_lthings, defScope s_lthings, [], []⟩
def d_lwidth : He.DefD := ⟨("_law_width", none), "_law_width", "_law_width", defArgs s_lwidth, defBody s_lwidth, defScope s_lwidth, [], []⟩
def d_llooked : He.DefD := ⟨("_law_looked", none), "_law_looked", "_law_looked", defArgs s_llooked, defBody s_llooked, defScope s_llooked, [], []⟩
def d_lmet : He.DefD := ⟨("_law_met", none), "_law_met", "_law_met", defArgs s_lmet, defBody s_lmet, defScope s_lmet, [], []⟩
def d_lsets : He.DefD := ⟨("_law_sets", none), "_law_sets", "_law_sets", defArgs s_lsets, defBody s_lsets, defScope s_lsets, [], []⟩
def d_levery : He.DefD := ⟨("_law_every", none), "_law_every", "_law_every", defArgs s_levery, defBody s_levery, defScope s_levery, [], []⟩
def d_lroster : He.DefD := ⟨("_law_roster", none), "_law_roster", "_law_roster", defArgs s_lroster, defBody s_lroster, defScope s_lroster, [], []⟩
def d_lworst : He.DefD := ⟨("_law_worst", none), "_law_worst", "_law_worst", defArgs s_lworst, defBody s_lworst, defScope s_lworst, [], []⟩
def d_lgoes : He.DefD := ⟨("_law_goes", none), "_law_goes", "_law_goes", defArgs s_lgoes, defBody s_lgoes, defScope s_lgoes, [], []⟩
def d_law : He.DefD := ⟨("law", none), "law", "law", defArgs s_law, defBody s_law, defScope s_law, [], []⟩
def fa : List He.Fa := [.glo "require_width", .glo "require_number", .glo "is_number", .glo "heard", .glo "met", .glo "require_roster", .glo "is_rising", .glo "sets_of", .glo "answer_of", .glo "plan_of", .glo "telling", .glo "best_plan", .glo "sought_plan", .glo "parted", .glo "_law_taken", .glo "_law_alike", .glo "_law_word", .glo "_law_number", .glo "_law_near", .glo "_law_things", .glo "_law_width", .glo "_law_looked", .glo "_law_met", .glo "_law_sets", .glo "_law_every", .glo "_law_roster", .glo "_law_worst", .glo "_law_goes", .glo "law", .glo "BusError", .glo "BadWidth", .glo "BadNumber", .glo "BadKind", .glo "BadBit", .glo "There", .glo "NotThere", .glo "NoRound", .glo "Over", .glo "Busy", .glo "BadLooks", .glo "BadRoster", .glo "TooMany", .glo "BadPlan", .glo "BadStep", .glo "BadText", .int "LEAST_WIDTH" 1, .int "GREATEST_WIDTH" 12, .int "MOST_NUMBERS" 8, .int "MOST_FOR_PLAN" 4, .int "MANY_ANSWERS" 4, .free "super", .free "isinstance", .free "bool", .free "all", .free "str", .free "len", .free "any", .free "sorted", .free "range", .free "set", .free "list", .free "tuple", .free "max", .free "int", .free "ValueError", .free "min", .exc "TooMany", .exm "TooMany" "BusError" true]
def fn : List He.DefD := [d_require_width, d_require_number, d_is_number, d_heard, d_met, d_require_roster, d_is_rising, d_sets_of, d_answer_of, d_plan_of, d_telling, d_best_plan, d_sought_plan, d_parted, d_ltaken, d_lalike, d_lword, d_lnumber, d_lnear, d_lthings, d_lwidth, d_llooked, d_lmet, d_lsets, d_levery, d_lroster, d_lworst, d_lgoes, d_law]
def pd_is_number : He.Defn := ("is_number", none)
def pd_heard : He.Defn := ("heard", none)
def pd_is_rising : He.Defn := ("is_rising", none)
def pd_law : He.Defn := ("law", none)
def gens : List He.Defn := [pd_is_number, pd_heard, pd_is_rising]
def lams : List (He.Defn × Str) := [(pd_law, "law.<locals>.<lambda>")]
def tf : List He.Defn := [pd_is_number, pd_heard, pd_is_rising, pd_law]
def kitC (K : PySem.W.Frag) (c d : Str) (b : Bool) : Bool := decide (PySem.W.kitOne K (.ref (He.ga K c)) (.ref (He.ga K d)) = some b)
def excC (K : PySem.W.Frag) (c : Str) : Bool :=
  He.eqO (PySem.W.findIn K (.ref (He.ga K c)) "__getattribute__") (some (some (.builtin "BaseException.__getattribute__"))) &&
  He.eqO (PySem.W.findIn K (.ref (He.ga K c)) "__getattr__") (some none) && PySem.W.hasDictIn K (He.ga K c) &&
  He.eqO (PySem.W.findIn K (.ref (He.ga K c)) "__class__") (some (some (.builtin "object.__class__"))) &&
  decide (PySem.W.specialIn K (.builtin "object.__class__") "__get__" = some (some (.builtin "getset_descriptor.__get__"))) &&
  decide (PySem.W.takesIn K (.builtin "object.__class__") = some true) && decide (PySem.W.mroIn K (He.ga K c) (.type "object") = some true) &&
  decide (PySem.W.kitOne K (.ref (He.ga K c)) (.type "ValueError") = some true)
def tupB (K : PySem.W.Frag) (x : Str) (vs : List V) : Bool := match K.lookup (He.ga K x) with
  | some ⟨.type t, _, .seq its _, _⟩ => decide (t = "tuple") && He.relAll vs its.toList
  | _ => false
def allErr : List Str := ["BadWidth", "BadNumber", "BadKind", "BadBit", "There", "NotThere", "NoRound", "Over", "Busy", "BadLooks", "BadRoster", "TooMany", "BadPlan", "BadStep", "BadText"]
def raised : List Str := ["TooMany"]
def exExc (K : PySem.W.Frag) : Bool := raised.all fun c => excC K c && allErr.all fun d => kitC K c d (decide (c = d))
def exTup (K : PySem.W.Frag) : Bool := true
def ex (K : PySem.W.Frag) : Bool := decide ((tf.map fun p => (He.cT K p).2).Nodup) && (exTup K && exExc K)
abbrev R : PySem.W.OpenRow := PySem.W.OpenLaw.row PySem.Challenge.rw_busfind_k12_plans_with_the_least_looks
abbrev hk : PySem.W.Hook := He.hookX 5 fa fn [] tf ex
def ob (s : PySem.W.SharedT) : He.AlX := He.obsX 5 fa fn [] tf ex (HandSHeadRun.getT s)
theorem ob_eq (s : PySem.W.SharedT) : ob s = hk.obs s.abs := He.obsX_eq (HandSHeadRun.getT_eq s)
def names : List Str := (["BusError", "BadWidth", "BadNumber", "BadKind", "BadBit", "There", "NotThere", "NoRound", "Over", "Busy", "BadLooks", "BadRoster", "TooMany", "BadPlan", "BadStep"] : List Str) ++ (["BadText", "LEAST_WIDTH", "GREATEST_WIDTH", "require_width", "require_number", "is_number", "heard", "met", "MOST_NUMBERS", "require_roster", "is_rising", "sets_of", "MOST_FOR_PLAN", "MANY_ANSWERS", "answer_of"] : List Str) ++ (["plan_of", "telling", "best_plan", "sought_plan", "parted", "_law_taken", "_law_alike", "_law_word", "_law_number", "_law_near", "_law_things", "_law_width", "_law_looked", "_law_met", "_law_sets"] : List Str) ++ (["_law_every", "_law_roster", "_law_worst", "_law_goes"] : List Str)
set_option maxHeartbeats 0 in
theorem run (w : World) : HandSHeadRun.RunEq R (PySem.W.view R.prog [54]) hk ob 6000 names w := by
  intro os
  kernel_rfl
end B

set_option Elab.async false
set_option linter.all false
set_option maxRecDepth 100000
set_option maxHeartbeats 4000000
namespace B
open PySem PySem.Spec PyProof.Rows L2
/-- what the defs lean on: the written part, the names, the code tables -/
structure Txt (P : Program) (w : World) (K : PySem.W.Frag) (mg : Str → Option Value) (base : Heap) : Prop where
  X : K.In base
  G : base.Ns mainGlobals mg
  t : He.SaysD fa fn K
  m : ex K = true
  tb : ∀ p ∈ tf, LamX.TabB base mg (He.cT K p).1 (He.cT K p).2
/-- a def that may be called by its name -/
structure CalX (CX : CXT) (P : Program) (w : World) (K : PySem.W.Frag) (mg : Str → Option Value) (base : Heap) (k : Nat) (x : Str) (sp : Sp) : Prop where
  ex : ∃ (f : Addr) (fd : FuncData) (ps : List Str), FnOk P w K mg base CX k f fd ps sp ∧ mg x = some (.ref f) ∧ PySem.W.keepIn K (.ref f) = true ∧ Binds K fd ps []
structure MetX (CX : CXT) (P : Program) (w : World) (K : PySem.W.Frag) (mg : Str → Option Value) (base : Heap) (k : Nat) (C : Addr) (m : Str) (sp : Sp) : Prop where
  ex : ∃ (f : Addr) (fd : FuncData) (ps : List Str), Cls K C ∧ Meth K C m f ∧ FnOk P w K mg base CX k f fd ps sp ∧ Binds K fd ps []
structure MakX (CX : CXT) (P : Program) (w : World) (K : PySem.W.Frag) (mg : Str → Option Value) (base : Heap) (k : Nat) (x : Str) (C : Addr) (sp : Sp) : Prop where
  ex : ∃ (f : Addr) (fd : FuncData) (ps : List Str), Mk K C f ∧ FnOk P w K mg base CX k f fd ps sp ∧ mg x = some (.ref C) ∧ Binds K fd ps []
section
variable {X : Cx} {CX : CXT} {k j : Nat} {C : Addr} {x m : Str} {sp : Sp} {p pos apos : Pos} {e o : Expr} {es : List Expr} {ta : TE} {t : TA} {E : XK}
theorem pe_cx (c : CalX CX X.prog X.w X.K X.mg X.base k x sp) (hr : Room j X.A) (hk : k ≤ j) (hg : Gl X x) (hx : Passes CX X E) (ha : PA X (e :: es) t)
    (hdb : (x == ("__debug__" : Str)) = false := by decide) (he : starEach (e :: es) X.env = (false, eval e X.env) :: starEach es X.env := by rfl) (hpl : (backTo pos (starEach es X.env)).any (·.1) = false := by rfl) :
    PE X (.Call (.Name x p) (e :: es) [] pos) (tCall sp [] E t) := by
  obtain ⟨f, fd, ps, F, hm, hkp, hb⟩ := c.ex
  exact pe_call F (hr.mono hk) hg hm hkp hb .nil hx ha hdb he hpl
theorem pe_mx {pl : Sem Bool} (c : MetX CX X.prog X.w X.K X.mg X.base k C m sp) (hr : Room j X.A) (hk : k ≤ j) (he : PE X o ta) (hx : Passes CX X E) (ha : PA X (e :: es) t)
    (hst : starEach (e :: es) X.env = (false, eval e X.env) :: starEach es X.env := by rfl) (hpl : (backTo pos (starEach es X.env)).any (·.1) = false := by rfl)
    (ht : eval (.Call (.Attribute o m apos) (e :: es) [] pos) X.env = (do
      let ov ← eval o X.env
      standAt apos.atName
      let (f, first) ← holding [ov] (getMethod ov m pl)
      callWith pos f first (backTo pos (starEach (e :: es) X.env)) (backToKw pos (keywordEach [] X.env))) := by rfl) :
    PE X (.Call (.Attribute o m apos) (e :: es) [] pos) (tMeth C m sp [] E ta t) := by
  obtain ⟨f, fd, ps, hc, hm, F, b⟩ := c.ex
  exact pe_meth (pl := pl) he hc hm F (hr.mono hk) b .nil hx ha hst hpl ht
theorem pe_mx0 {pl : Sem Bool} (c : MetX CX X.prog X.w X.K X.mg X.base k C m sp) (hr : Room j X.A) (hk : k ≤ j) (he : PE X o ta) (hx : Passes CX X E)
    (ht : eval (.Call (.Attribute o m apos) [] [] pos) X.env = (do
      let ov ← eval o X.env
      standAt apos.atName
      let (f, first) ← holding [ov] (getMethod ov m pl)
      callWith pos f first (backTo pos (starEach [] X.env)) (backToKw pos (keywordEach [] X.env))) := by rfl) :
    PE X (.Call (.Attribute o m apos) [] [] pos) (tMeth C m sp [] E ta tNil) := by
  obtain ⟨f, fd, ps, hc, hm, F, b⟩ := c.ex
  exact pe_meth0 (pl := pl) he hc hm F (hr.mono hk) b .nil hx ht
/-- a field, the written part by its own name (within a comprehension) -/
theorem pe_fldK {K : PySem.W.Frag} {f : Str} (hK : X.K = K) (ha : PE X e ta) (hb : attributeBase e f X.env (eval e X.env) = eval e X.env := by rfl) : PE X (.Attribute e f pos) (tFld K ta f) := by
  subst hK
  exact pe_fld ha hb
theorem pe_mkx (c : MakX CX X.prog X.w X.K X.mg X.base k x C sp) (hr : Room j X.A) (hk : k + 1 ≤ j) (hg : Gl X x) (hx : Passes CX X E) (ha : PA X (e :: es) t)
    (hdb : (x == ("__debug__" : Str)) = false := by decide) (he : starEach (e :: es) X.env = (false, eval e X.env) :: starEach es X.env := by rfl) (hpl : (backTo pos (starEach es X.env)).any (·.1) = false := by rfl) :
    PE X (.Call (.Name x p) (e :: es) [] pos) (tMake C sp [] E t) := by
  obtain ⟨f, fd, ps, M, F, hm, b⟩ := c.ex
  exact pe_make M F (hr.mono hk) hg hm b .nil hx ha hdb he hpl
end
section
variable {P : Program} {w : World} {K : PySem.W.Frag} {mg : Str → Option Value} {base : Heap}
theorem g_BusError (T : Txt P w K mg base) : mg "BusError" = some (.ref (He.ga K "BusError")) := He.glo_ok T.X T.G (T.t.fact 29)
theorem g_BadWidth (T : Txt P w K mg base) : mg "BadWidth" = some (.ref (He.ga K "BadWidth")) := He.glo_ok T.X T.G (T.t.fact 30)
theorem g_BadNumber (T : Txt P w K mg base) : mg "BadNumber" = some (.ref (He.ga K "BadNumber")) := He.glo_ok T.X T.G (T.t.fact 31)
theorem g_BadKind (T : Txt P w K mg base) : mg "BadKind" = some (.ref (He.ga K "BadKind")) := He.glo_ok T.X T.G (T.t.fact 32)
theorem g_BadBit (T : Txt P w K mg base) : mg "BadBit" = some (.ref (He.ga K "BadBit")) := He.glo_ok T.X T.G (T.t.fact 33)
theorem g_There (T : Txt P w K mg base) : mg "There" = some (.ref (He.ga K "There")) := He.glo_ok T.X T.G (T.t.fact 34)
theorem g_NotThere (T : Txt P w K mg base) : mg "NotThere" = some (.ref (He.ga K "NotThere")) := He.glo_ok T.X T.G (T.t.fact 35)
theorem g_NoRound (T : Txt P w K mg base) : mg "NoRound" = some (.ref (He.ga K "NoRound")) := He.glo_ok T.X T.G (T.t.fact 36)
theorem g_Over (T : Txt P w K mg base) : mg "Over" = some (.ref (He.ga K "Over")) := He.glo_ok T.X T.G (T.t.fact 37)
theorem g_Busy (T : Txt P w K mg base) : mg "Busy" = some (.ref (He.ga K "Busy")) := He.glo_ok T.X T.G (T.t.fact 38)
theorem g_BadLooks (T : Txt P w K mg base) : mg "BadLooks" = some (.ref (He.ga K "BadLooks")) := He.glo_ok T.X T.G (T.t.fact 39)
theorem g_BadRoster (T : Txt P w K mg base) : mg "BadRoster" = some (.ref (He.ga K "BadRoster")) := He.glo_ok T.X T.G (T.t.fact 40)
theorem g_TooMany (T : Txt P w K mg base) : mg "TooMany" = some (.ref (He.ga K "TooMany")) := He.glo_ok T.X T.G (T.t.fact 41)
theorem g_BadPlan (T : Txt P w K mg base) : mg "BadPlan" = some (.ref (He.ga K "BadPlan")) := He.glo_ok T.X T.G (T.t.fact 42)
theorem g_BadStep (T : Txt P w K mg base) : mg "BadStep" = some (.ref (He.ga K "BadStep")) := He.glo_ok T.X T.G (T.t.fact 43)
theorem g_BadText (T : Txt P w K mg base) : mg "BadText" = some (.ref (He.ga K "BadText")) := He.glo_ok T.X T.G (T.t.fact 44)
theorem n_super (T : Txt P w K mg base) : mg "super" = none := He.free_ok T.X T.G (T.t.fact 50)
theorem n_isinstance (T : Txt P w K mg base) : mg "isinstance" = none := He.free_ok T.X T.G (T.t.fact 51)
theorem n_bool (T : Txt P w K mg base) : mg "bool" = none := He.free_ok T.X T.G (T.t.fact 52)
theorem n_all (T : Txt P w K mg base) : mg "all" = none := He.free_ok T.X T.G (T.t.fact 53)
theorem n_str (T : Txt P w K mg base) : mg "str" = none := He.free_ok T.X T.G (T.t.fact 54)
theorem n_len (T : Txt P w K mg base) : mg "len" = none := He.free_ok T.X T.G (T.t.fact 55)
theorem n_any (T : Txt P w K mg base) : mg "any" = none := He.free_ok T.X T.G (T.t.fact 56)
theorem n_sorted (T : Txt P w K mg base) : mg "sorted" = none := He.free_ok T.X T.G (T.t.fact 57)
theorem n_range (T : Txt P w K mg base) : mg "range" = none := He.free_ok T.X T.G (T.t.fact 58)
theorem n_set (T : Txt P w K mg base) : mg "set" = none := He.free_ok T.X T.G (T.t.fact 59)
theorem n_list (T : Txt P w K mg base) : mg "list" = none := He.free_ok T.X T.G (T.t.fact 60)
theorem n_tuple (T : Txt P w K mg base) : mg "tuple" = none := He.free_ok T.X T.G (T.t.fact 61)
theorem n_max (T : Txt P w K mg base) : mg "max" = none := He.free_ok T.X T.G (T.t.fact 62)
theorem n_int (T : Txt P w K mg base) : mg "int" = none := He.free_ok T.X T.G (T.t.fact 63)
theorem n_ValueError (T : Txt P w K mg base) : mg "ValueError" = none := He.free_ok T.X T.G (T.t.fact 64)
theorem n_min (T : Txt P w K mg base) : mg "min" = none := He.free_ok T.X T.G (T.t.fact 65)
end
section
variable {X : Cx}
theorem g_LEAST_WIDTH (T : Txt X.prog X.w X.K X.mg X.base) {p : Pos} (hg : Gl X "LEAST_WIDTH" := by rfl) : PE X (.Name "LEAST_WIDTH" p) (tC (.int 1)) := by
  obtain ⟨t, e⟩ := He.int_ok T.X T.G (T.t.fact 45 (f := .int "LEAST_WIDTH" 1))
  exact pe_glob hg e ⟨t, rfl⟩
theorem g_GREATEST_WIDTH (T : Txt X.prog X.w X.K X.mg X.base) {p : Pos} (hg : Gl X "GREATEST_WIDTH" := by rfl) : PE X (.Name "GREATEST_WIDTH" p) (tC (.int 12)) := by
  obtain ⟨t, e⟩ := He.int_ok T.X T.G (T.t.fact 46 (f := .int "GREATEST_WIDTH" 12))
  exact pe_glob hg e ⟨t, rfl⟩
end
/-- a test whose answer is open -/
theorem iteB {b : Bool} {A B : Prop} (h1 : b = true → A) (h2 : b = false → B) : if b = true then A else B := by
  cases b with
  | true => exact iteT (h1 rfl)
  | false => exact iteF (h2 rfl)
/-! ### drawing -/
/-- the row of a draw -/
abbrev rowO (a : Addr) (i m b : Int) : HO := .lst [.ref a, .int i, .int m, .int b]
/-- the row at r stands over the script at a -/
def RowAt (r a : Addr) (H : Hp) : Prop := ∃ i m b : Int, H r = some (rowO a i m b) ∧ 0 ≤ i
/-- the script stands at a -/
def Scr (K : PySem.W.Frag) (a : Addr) (H : Hp) : Prop := ∃ ns : List Int, SqL K H a (ns.map V.int)
/-- no list but of objects, no tuple -/
def nl : HO → Bool
  | .ins _ _ _ => true
  | .dK _ => true
  | .lst (.ref _ :: _) => true
  | _ => false
def NL (S : List Addr) (H : Hp) : Prop := ∀ s ∈ S, ∃ o, H s = some o ∧ nl o = true
theorem NL.nil {H : Hp} : NL [] H := fun _ h => absurd h (by simp)
theorem NL.cons {S : List Addr} {H : Hp} {s : Addr} {o : HO} (h : H s = some o) (n : nl o = true) (t : NL S H) : NL (s :: S) H := fun c hc => by
  rcases List.mem_cons.mp hc with e | e
  · rw [e]
    exact ⟨o, h, n⟩
  · exact t c e
theorem RowAt.nl {r a : Addr} {H : Hp} (h : RowAt r a H) : NL [r] H := by
  obtain ⟨i, m, b, e, _⟩ := h
  exact .cons e rfl .nil
/-- a code table: only its own rules say what becomes of it -/
def isT : HO → Bool
  | .tbl _ => true
  | _ => false
/-- what stood stands, but for the objects of S; nothing goes -/
structure Frm (S : List Addr) (H H' : Hp) : Prop where
  k : ∀ b o, H b = some o → 0 = 0 → b ∉ S → H' b = some o
  b : ∀ b, H' b = none → H b = none
theorem Frm.refl (S : List Addr) (H : Hp) : Frm S H H := ⟨fun _ _ h _ _ => h, fun _ h => h⟩
theorem Frm.trans {S : List Addr} {H H1 H2 : Hp} (a : Frm S H H1) (b : Frm S H1 H2) : Frm S H H2 := ⟨fun c o h t n => b.k c o (a.k c o h t n) t n, fun c h => a.b c (b.b c h)⟩
theorem Frm.mono {S S' : List Addr} {H H1 : Hp} (a : Frm S H H1) (h : ∀ x ∈ S, x ∈ S') : Frm S' H H1 := ⟨fun c o e t n => a.k c o e t fun z => n (h c z), a.b⟩
theorem Frm.of {S : List Addr} {H H1 : Hp} (a : Same H H1) : Frm S H H1 := ⟨fun c o e _ _ => a c o e, fun c h => a.free h⟩
theorem upd_back {H : Hp} {p b : Addr} {o : HO} (h : upd H p o b = none) : H b = none := by
  by_cases e : b = p
  · rw [e, upd_same] at h
    cases h
  · rw [upd_ne e] at h
    exact h
theorem Frm.new {S : List Addr} {H H1 : Hp} {p : Addr} {o : HO} (a : Frm S H H1) (h : H p = none) : Frm S H (upd H1 p o) := ⟨fun c u e t n => by
  rw [upd_ne (ne_of_none e h)]
  exact a.k c u e t n, fun c z => a.b c (upd_back z)⟩
theorem Frm.put {S : List Addr} {H H1 : Hp} {p : Addr} {o : HO} (a : Frm S H H1) (h : p ∈ S) : Frm S H (upd H1 p o) := ⟨fun c u e t n => by
  rw [upd_ne (fun z => n (by rw [z]; exact h))]
  exact a.k c u e t n, fun c z => a.b c (upd_back z)⟩
theorem same_upd {H : Hp} {p : Addr} {o : HO} (h : H p = none) : Same H (upd H p o) := fun b x e => by
  rw [upd_ne (ne_of_none e h)]
  exact e
/-- what is no nl stands -/
theorem Frm.at {S : List Addr} {H H' : Hp} {p : Addr} {o : HO} (f : Frm S H H') (n : NL S H) (h : H p = some o) (h1 : isT o = false) (h2 : B.nl o = false) : H' p = some o :=
  f.k p o h rfl fun z => by
    obtain ⟨u, e, q⟩ := n p z
    rw [h] at e
    cases e
    rw [h2] at q
    cases q
theorem nl_strs (xs : List Str) : B.nl (.lst (xs.map V.str)) = false := by
  cases xs <;> rfl
theorem nl_ints (xs : List Int) : B.nl (.lst (xs.map V.int)) = false := by
  cases xs <;> rfl
theorem Frm.scr {K : PySem.W.Frag} {S : List Addr} {H H' : Hp} {a : Addr} (f : Frm S H H') (n : NL S H) (h : Scr K a H) : Scr K a H' := by
  obtain ⟨ns, (h | ⟨u, h⟩) | h⟩ := h
  · exact ⟨ns, .inl (.inl (f.at n h rfl (nl_ints ns)))⟩
  · exact ⟨ns, .inl (.inr ⟨u, f.at n h rfl rfl⟩)⟩
  · exact ⟨ns, .inr h⟩
theorem Frm.row {S : List Addr} {H H' : Hp} {r a : Addr} (f : Frm S H H') (hr : r ∉ S) (h : RowAt r a H) : RowAt r a H' := by
  obtain ⟨i, m, b, e, h0⟩ := h
  exact ⟨i, m, b, f.k r _ e rfl hr, h0⟩
/-- a number below n; the row turned -/
def spTaken (K : PySem.W.Frag) : Sp := fun vs H Q _ => ∃ (r a : Addr) (n : Int), vs = [.ref r, .int n] ∧ RowAt r a H ∧ Scr K a H ∧ 0 < n ∧ n < 1073741824 ∧
  ∀ (v : Int) (H' : Hp), 0 ≤ v → v < n → RowAt r a H' → Frm [r] H H' → Q (.int v) H'
theorem fmod_in {x n : Int} (h : 0 < n) : 0 ≤ x.fmod n ∧ x.fmod n < n := by
  rw [Int.fmod_eq_emod_of_nonneg _ (by omega)]
  exact ⟨Int.emod_nonneg _ (by omega), Int.emod_lt_of_pos _ h⟩
section
variable {P : Program} {w : World} {K : PySem.W.Frag} {mg : Str → Option Value} {base : Heap}
theorem c_ltaken (T : Txt P w K mg base) : CalX CX0 P w K mg base 1 "_law_taken" (spTaken K) := by
  obtain ⟨fd, F⟩ := T.t.def_ 14 (d := d_ltaken)
  refine ⟨_, fd, _, F.ok sc_ltaken (fun vs H Q E h => ?_) (fun cdv A outer s H vs Q E hr h => ?_), He.glo_ok T.X T.G (T.t.fact 14), F.kp, F.bindsN fun _ _ _ _ _ _ us hl => match us, hl with | [_, _], _ => rfl⟩
  · obtain ⟨r, a, n, rfl, _⟩ := h
    rfl
  · obtain ⟨r, a, n, rfl, ⟨i, m, b, h1, hi⟩, ⟨ns, hS⟩, hn, hn2, k0⟩ := h
    have f1 : ∀ o', Frm [r] H (upd H r o') := fun o' => (Frm.refl _ _).put (List.mem_singleton.mpr rfl)
    have k : ∀ v i' m' b' : Int, 0 ≤ i' → 0 ≤ v → v < n → Q (.int v) (upd H r (rowO a i' m' b')) := fun v i' m' b' h2 h3 h4 =>
      k0 v _ h3 h4 ⟨i', m', b', upd_same, h2⟩ (f1 _)
    refine ⟨_, PSs.nox (pss_cons (ps_if (pt_cmpR op_gt (pe_ix ix_list (pv 0) pe_int (fun _ _ => rfl)) pe_int (nomark _))
      (pss_cons (ps_set (i := 2) sc_ltaken.nd rfl (Or.inl rfl) (pe_op op_modN (pe_ix ix_list (pv 0) pe_int (fun _ _ => rfl)) (pv 1)))
      (pss_cons (ps_asg (pe_op op_fdivN (pe_ix ix_list (pv 0) pe_int (fun _ _ => rfl)) (pv 1)) (pg_sub (pv 0) pe_int set_list))
      (pss_one (ps_ret (pv 2)))))
      pss_nil)
    (pss_cons (ps_asg (pe_op op_add (pe_ix ix_list (pv 0) pe_int (fun _ _ => rfl)) pe_int) (pg_sub (pv 0) pe_int set_list))
    (pss_cons (ps_if (pt_cmpR op_gt (pe_ix ix_list (pv 0) pe_int (fun _ _ => rfl)) (pe_callB call_len_seq (by rfl) (n_len T) PySem.boot_len (pa_cons (pe_ix ix_list (pv 0) pe_int (fun _ _ => rfl)) pa_nil)) (nomark _))
      (pss_cons (ps_asg (pe_op op_mod (pe_op op_add (pe_op op_mul (pe_ix ix_list (pv 0) pe_int (fun _ _ => rfl)) pe_int) pe_int) pe_int) (pg_sub (pv 0) pe_int set_list))
      (pss_one (ps_ret (pe_op op_modN (pe_op op_fdiv (pe_ix ix_list (pv 0) pe_int (fun _ _ => rfl)) pe_int) (pv 1)))))
      pss_nil)
    (pss_cons (ps_set (i := 3) sc_ltaken.nd rfl (Or.inl rfl) (pe_ix ix_list (pe_ix ix_list (pv 0) pe_int (fun _ _ => rfl)) (pe_op op_sub (pe_ix ix_list (pv 0) pe_int (fun _ _ => rfl)) pe_int) (fun _ _ => rfl)))
    (pss_cons (ps_asg (pe_op op_mod (pe_op op_add (pe_op op_add (pe_op op_mul (pe_ix ix_list (pv 0) pe_int (fun _ _ => rfl)) pe_int) (pv 3)) pe_int) pe_int) (pg_sub (pv 0) pe_int set_list))
    (pss_cons (ps_if (pt_cmpR op_ge (pv 3) (pe_op op_pow pe_int pe_int) (nomark _))
      (pss_one (ps_asg (pe_op op_fdivN (pv 3) (pv 1)) (pg_sub (pv 0) pe_int set_list)))
      pss_nil)
    (pss_one (ps_ret (pe_op op_modN (pv 3) (pv 1)))))))))), ?_⟩
    have hd : n ≠ 0 ∧ n.natAbs < 1073741824 := by omega
    -- if row[3] > 0
    refine ⟨_, rfl, r, _, 3, .int b, rfl, rfl, SqL.of h1, rfl, b, 0, rfl, rfl, _, rfl, iteB (fun c => ?_) (fun c => ?_)⟩
    · refine ⟨_, rfl, r, _, 3, .int b, rfl, rfl, SqL.of h1, rfl, _, rfl, b, n, rfl, rfl, (by omega), ?_⟩
      refine ⟨_, rfl, r, _, 3, .int b, rfl, rfl, SqL.of h1, rfl, _, rfl, b, n, rfl, rfl, hd, ?_⟩
      refine ⟨_, rfl, r, _, 3, 3, rfl, rfl, h1, rfl, ?_⟩
      refine ⟨_, rfl, ?_⟩
      exact k _ i m _ hi (fmod_in hn).1 (fmod_in hn).2
    · -- row[1] = row[1] + 1
      refine ⟨_, rfl, r, _, 1, .int i, rfl, rfl, SqL.of h1, rfl, i, 1, rfl, rfl, ?_⟩
      refine ⟨_, rfl, r, _, 1, 1, rfl, rfl, h1, rfl, ?_⟩
      have h2 : (upd H r (rowO a (i + 1) m b)) r = some (rowO a (i + 1) m b) := upd_same
      have S2 : SqL K (upd H r (rowO a (i + 1) m b)) a (ns.map V.int) := by
        rcases hS with (z | ⟨u, z⟩) | z
        · exact .inl (.inl ((f1 _).at (RowAt.nl ⟨i, m, b, h1, hi⟩) z rfl (nl_ints ns)))
        · exact .inl (.inr ⟨u, (f1 _).at (RowAt.nl ⟨i, m, b, h1, hi⟩) z rfl rfl⟩)
        · exact .inr z
      -- if row[1] > len(row[0])
      refine ⟨_, rfl, r, _, 1, .int (i + 1), rfl, rfl, SqL.of h2, rfl, _, rfl, r, _, 0, .ref a, rfl, rfl, SqL.of h2, rfl, a, _, rfl, .inl S2, _, _, rfl, rfl, _, rfl, iteB (fun c => ?_) (fun c => ?_)⟩
      · refine ⟨_, rfl, r, _, 2, .int m, rfl, rfl, SqL.of h2, rfl, m, 48271, rfl, rfl, .inr (by decide), _, 11, rfl, rfl, _, 2147483647, rfl, rfl, (by show (0 : Int) < 2147483647; decide), ?_⟩
        refine ⟨_, rfl, r, _, 2, 2, rfl, rfl, h2, rfl, ?_⟩
        refine ⟨_, rfl, r, _, 2, _, rfl, rfl, SqL.of upd_same, rfl, _, 7, rfl, rfl, ⟨by decide, by decide⟩, _, rfl, _, n, rfl, rfl, (by omega), ?_⟩
        rw [upd_upd]
        exact k _ (i + 1) _ b (by omega) (fmod_in hn).1 (fmod_in hn).2
      · have hlt : i.toNat < ns.length := by
          have c' := of_decide_eq_false c
          rw [List.length_map] at c'
          omega
        have hat : atI (ns.map V.int) (i + 1 - 1) = some (.int ns[i.toNat]) := by
          have e : i + 1 - 1 = ((i.toNat : Nat) : Int) := by omega
          rw [e]
          exact atI_nat (by rw [List.getElem?_map, List.getElem?_eq_getElem hlt]; rfl)
        refine ⟨_, rfl, r, _, 0, .ref a, rfl, rfl, SqL.of h2, rfl, _, rfl, r, _, 1, .int (i + 1), rfl, rfl, SqL.of h2, rfl, _, 1, rfl, rfl, a, _, _, _, rfl, rfl, S2, hat, ?_⟩
        refine ⟨_, rfl, r, _, 2, .int m, rfl, rfl, SqL.of h2, rfl, m, 48271, rfl, rfl, .inr (by decide), _, rfl, _, _, rfl, rfl, _, 11, rfl, rfl, _, 2147483647, rfl, rfl, (by show (0 : Int) < 2147483647; decide), ?_⟩
        refine ⟨_, rfl, r, _, 2, 2, rfl, rfl, h2, rfl, ?_⟩
        refine ⟨_, rfl, 10, 18, rfl, rfl, ⟨by decide, by decide, by decide⟩, _, _, rfl, rfl, _, rfl, iteB (fun c => ?_) (fun c => ?_)⟩
        · refine ⟨_, rfl, _, rfl, _, n, rfl, rfl, hd, _, rfl, r, _, 3, 3, rfl, rfl, upd_same, rfl, ?_⟩
          refine ⟨_, rfl, _, rfl, _, n, rfl, rfl, (by omega), ?_⟩
          rw [upd_upd, upd_upd]
          exact k _ (i + 1) _ _ (by omega) (fmod_in hn).1 (fmod_in hn).2
        · refine ⟨_, rfl, _, rfl, _, n, rfl, rfl, (by omega), ?_⟩
          rw [upd_upd]
          exact k _ (i + 1) _ b (by omega) (fmod_in hn).1 (fmod_in hn).2
end
end B

set_option Elab.async false
set_option linter.all false
set_option maxRecDepth 100000
set_option maxHeartbeats 4000000
namespace B
open PySem PySem.Spec PyProof.Rows L2
open SX (S)
/-! ### texts of signs 0 and 1 -/
def Bits (l : List Nat) : Prop := ∀ c ∈ l, c = 48 ∨ c = 49
/-- a number of the width W -/
def Num (W : Nat) (x : Str) : Prop := ∃ l, x = S l ∧ l.length = W ∧ Bits l
theorem Bits.nil : Bits [] := fun _ h => absurd h (by simp)
theorem Bits.snoc {l : List Nat} {c : Nat} (h : Bits l) (hc : c = 48 ∨ c = 49) : Bits (l ++ [c]) := fun d hd => by
  rcases List.mem_append.mp hd with z | z
  · exact h d z
  · rw [List.mem_singleton.mp z]
    exact hc
theorem Bits.app {l m : List Nat} (h : Bits l) (h2 : Bits m) : Bits (l ++ m) := fun d hd => by
  rcases List.mem_append.mp hd with z | z
  · exact h d z
  · exact h2 d z
theorem Bits.take {l : List Nat} (n : Nat) (h : Bits l) : Bits (l.take n) := fun d hd => h d (List.mem_of_mem_take hd)
theorem Bits.drop {l : List Nat} (n : Nat) (h : Bits l) : Bits (l.drop n) := fun d hd => h d (List.mem_of_mem_drop hd)
theorem joinL_signs : ∀ cs : List Nat, TL.joinL [] (cs.map fun c => [c]) = cs
  | [] => rfl
  | [c] => rfl
  | c :: d :: r => by
    show [c] ++ ([] ++ TL.joinL [] ((d :: r).map fun c => [c])) = c :: d :: r
    rw [joinL_signs (d :: r)]
    rfl
theorem empty_S : ("" : Str) = S [] := by decide +kernel
theorem join_signs (cs : List Nat) : Txt.join "" (cs.map fun c => S [c]) = S cs := by
  have e : cs.map (fun c => S [c]) = (cs.map fun c => [c]).map S := by rw [List.map_map]; rfl
  rw [empty_S, e, SX.join_S, joinL_signs]
theorem sum_signs (cs : List Nat) : ((cs.map fun c => S [c]).map (·.length)).sum = cs.length := by
  induction cs with
  | nil => rfl
  | cons c r ih =>
    rw [List.map_cons, List.map_cons, List.sum_cons, ih, SX.S_len, List.length_cons]
    show 1 + r.length = r.length + 1
    omega
theorem op_rep_str {X : Cx} : OpR X (binaryOp .Mult) (fun x y H Q => ∃ z k, x = .str z ∧ y = .int k ∧ PySem.MulOk z k ∧ Q (.str (Txt.mul z k)) H) := by
  intro pins s σ H x y v u Q I rx ry h
  obtain ⟨z, k, rfl, rfl, ok, q⟩ := h
  obtain ⟨t, rfl⟩ := rx
  obtain ⟨t', rfl⟩ := ry
  exact PySem.SB.mul ok fun t' tk => ⟨.str _, H, I.tok _, ⟨_, rfl⟩, q⟩
theorem zeros_ok : ∀ n : Nat, n ≤ 12 → PySem.MulOk "0" (n : Int) := fun n hn => by
  have z : (List.range 13).all (fun n => (decide (((n : Nat) : Int) < -(2 ^ 63 : Int)) || decide (((n : Nat) : Int) ≥ 2 ^ 63)) == false && (decide (((n : Nat) : Int) < 1) || (!decide ((("0" : Str).length : Int) > (2 ^ 63 - 1) / ((n : Nat) : Int)) && (Builtin.Str.tooLong (("0" : Str).length * n) == false)))) = true := by decide +kernel
  have q := List.all_eq_true.mp z n (List.mem_range.mpr (by omega))
  simp only [Bool.and_eq_true, Bool.or_eq_true, decide_eq_true_eq, beq_iff_eq, Bool.not_eq_true', decide_eq_false_iff_not] at q
  refine ⟨q.1, fun h1 _ => ?_, fun h1 _ => ?_⟩
  · rcases q.2 with a | a
    · exact absurd a h1
    · exact a.1
  · rcases q.2 with a | a
    · exact absurd a h1
    · rw [Int.toNat_natCast]
      exact a.2
theorem zeros_is : ∀ n : Nat, n ≤ 12 → Txt.mul "0" (n : Int) = S (List.replicate n 48) := fun n hn => by
  have z : (List.range 13).all (fun n => decide (Txt.mul "0" ((n : Nat) : Int) = S (List.replicate n 48))) = true := by decide +kernel
  exact of_decide_eq_true (List.all_eq_true.mp z n (List.mem_range.mpr (by omega)))
section
variable {P : Program} {w : World} {K : PySem.W.Frag} {mg : Str → Option Value} {base : Heap}
theorem RowAt.ne {r a p : Addr} {H : Hp} {o : HO} (h : RowAt r a H) (n : r ≠ p) : RowAt r a (upd H p o) := by
  obtain ⟨i, m, b, z, h0⟩ := h
  exact ⟨i, m, b, by rw [upd_ne n]; exact z, h0⟩
theorem RowAt.out {r a p : Addr} {H : Hp} (h : RowAt r a H) (n : H p = none) : r ≠ p := by
  obtain ⟨i, m, b, z, h0⟩ := h
  exact ne_of_none z n
/-- a number, each sign drawn -/
def spNumber (K : PySem.W.Frag) : Sp := fun vs H Q _ => ∃ (r a : Addr) (W : Nat), vs = [.ref r, .int W] ∧ RowAt r a H ∧ Scr K a H ∧ W ≤ 12 ∧
  ∀ (x : Str) (H' : Hp), Num W x → RowAt r a H' → Frm [r] H H' → Q (.str x) H'
theorem c_lnumber (T : Txt P w K mg base) : CalX CX0 P w K mg base 2 "_law_number" (spNumber K) := by
  obtain ⟨fd, F⟩ := T.t.def_ 17 (d := d_lnumber)
  refine ⟨_, fd, _, F.ok sc_lnumber (fun vs H Q E h => ?_) (fun cdv A outer s H vs Q E hr h => ?_), He.glo_ok T.X T.G (T.t.fact 17), F.kp, F.bindsN fun _ _ _ _ _ _ us hl => match us, hl with | [_, _], _ => rfl⟩
  · obtain ⟨r, a, W, rfl, _⟩ := h
    rfl
  · obtain ⟨r, a, W, rfl, hR, hS, hW, k⟩ := h
    refine ⟨_, PSs.nox (pss_one (ps_ret (pe_join pe_str (pe_lc (own := [("_law_k", 2)]) (g := gName 2) rfl sc_lnumber.nd (pi_range1 rfl (n_range T) (pa_cons (pv 1) pa_nil)) (blkOk_by (N := ["_law_row", "_law_width_here", "_law_k"]) (sc := defScope s_lnumber) (own := [("_law_k", 2)]) (by decide +kernel)) (fun _ _ _ _ _ => pg_name (i := 2) sc_lnumber.nd rfl (Or.inl rfl)) (fun _ _ _ _ _ => pts_nil) (fun _ _ _ _ _ => by exact (pe_ix ix_str pe_str (pe_cx (c_ltaken T) hr (by decide) rfl pass0 (pa_cons (pv 0) (pa_cons pe_int pa_nil))) (fun _ _ => rfl))))))), ?_⟩
    refine ⟨⟨_, rfl⟩, _, rfl, (W : Int), rfl, by omega, by omega, fun D hD => ?_⟩
    have nDr : r ≠ D := hR.out hD
    refine lc_range (lo := 0) (n := (W : Int).toNat) (fun i H' => ∃ cs : List Nat, cs.length = i ∧ Bits cs ∧ H' D = some (.lst ((cs.map fun c => S [c]).map V.str)) ∧ RowAt r a H' ∧ Frm [r] H H')
      ⟨[], rfl, Bits.nil, upd_same, hR.ne nDr, (Frm.refl _ _).new hD⟩ ?_ ?_
    · rintro i H1 hi ⟨cs, hl, hb, hD1, hR1, f1⟩
      refine ⟨rfl, _, rfl, r, a, 2, rfl, hR1, f1.scr hR.nl hS, by decide, by decide, fun v H2 h0 h1 hR2 f2 => ?_⟩
      have hD2 : H2 D = some (.lst ((cs.map fun c => S [c]).map V.str)) := f2.k D _ hD1 rfl (by simpa using nDr.symm)
      have hv : v = 0 ∨ v = 1 := by omega
      have fin : ∀ c : Nat, c = 48 ∨ c = 49 → ∃ acc, H2 D = some (.lst acc) ∧ acc.length < sizeLine ∧ ∃ cs : List Nat, cs.length = i + 1 ∧ Bits cs ∧ (upd H2 D (.lst (acc ++ [V.str ⟨#[c]⟩]))) D = some (.lst ((cs.map fun c => S [c]).map V.str)) ∧ RowAt r a (upd H2 D (.lst (acc ++ [V.str ⟨#[c]⟩]))) ∧ Frm [r] H (upd H2 D (.lst (acc ++ [V.str ⟨#[c]⟩]))) := fun c hc => by
        refine ⟨_, hD2, by rw [List.length_map, List.length_map]; exact small1000 (by omega), cs ++ [c], by rw [List.length_append, hl]; rfl, hb.snoc hc, ?_, ?_, (f1.trans f2).new hD⟩
        · rw [upd_same, List.map_append, List.map_append]
          rfl
        · exact hR2.ne nDr
      rcases hv with rfl | rfl
      · exact ⟨_, _, 48, rfl, rfl, by decide +kernel, by decide +kernel, fin 48 (.inl rfl)⟩
      · exact ⟨_, _, 49, rfl, rfl, by decide +kernel, by decide +kernel, fin 49 (.inr rfl)⟩
    · rintro H1 ⟨cs, hl, hb, hD1, hR1, f1⟩
      refine ⟨_, D, cs.map fun c => S [c], rfl, rfl, .inl (SqL.of hD1), ?_, ?_⟩
      · rw [sum_signs, empty_S, SX.S_len]
        show cs.length + _ * 0 ≤ 16777216
        omega
      · rw [join_signs]
        exact k _ H1 ⟨cs, rfl, by omega, hb⟩ hR1 f1
end
end B

set_option Elab.async false
set_option linter.all false
set_option maxRecDepth 100000
set_option maxHeartbeats 4000000
namespace B
open PySem PySem.Spec PyProof.Rows L2
open SX (S)
/-! ### the order of texts -/
def leS (x y : Str) : Prop := x.cps.toList ≤ y.cps.toList
theorem leS_of {x y : Str} (h : ltCps y.cps.toList x.cps.toList = false) : leS x y := by
  rw [ltCps_eq] at h
  exact of_decide_eq_false h
theorem of_leS {x y : Str} (h : leS x y) : ltCps y.cps.toList x.cps.toList = false := by
  rw [ltCps_eq]
  exact decide_eq_false h
theorem leS_trans {x y z : Str} (h1 : leS x y) (h2 : leS y z) : leS x z := List.le_trans h1 h2
theorem leS_antisymm {x y : Str} (h1 : leS x y) (h2 : leS y x) : x = y := TL.ext_tl (List.le_antisymm h1 h2)
theorem rising_pw : ∀ (r : List Str) (x : Str), risingS x r = true → (x :: r).Pairwise leS
  | [], x, _ => by simp
  | y :: r, x, h => by
    have h' : (!ltCps y.cps.toList x.cps.toList && risingS y r) = true := h
    rw [Bool.and_eq_true, Bool.not_eq_true'] at h'
    have ih := rising_pw r y h'.2
    refine List.pairwise_cons.mpr ⟨fun z hz => ?_, ih⟩
    have hxy : leS x y := leS_of h'.1
    rcases List.mem_cons.mp hz with e | e
    · rw [e]
      exact hxy
    · exact leS_trans hxy ((List.pairwise_cons.mp ih).1 z e)
theorem sorted_pw : ∀ {l : List Str}, sortedS l = true → l.Pairwise leS
  | [], _ => .nil
  | x :: r, h => rising_pw r x h
theorem pw_sorted {l : List Str} (h : l.Pairwise leS) : sortedS l = true := sortedS_of_pairwise l (h.imp of_leS)
theorem pw_perm_eq : ∀ {l m : List Str}, l.Pairwise leS → m.Pairwise leS → l.Perm m → l = m
  | [], m, _, _, p => (List.perm_nil.mp p.symm).symm
  | x :: r, [], _, _, p => absurd (List.perm_nil.mp p) (by simp)
  | x :: r, y :: t, h1, h2, p => by
    have a1 := List.pairwise_cons.mp h1
    have a2 := List.pairwise_cons.mp h2
    have e : x = y := by
      have hx : x ∈ y :: t := p.mem_iff.mp List.mem_cons_self
      have hy : y ∈ x :: r := p.mem_iff.mpr List.mem_cons_self
      rcases List.mem_cons.mp hx with e | e
      · exact e
      · rcases List.mem_cons.mp hy with e' | e'
        · exact e'.symm
        · exact leS_antisymm (a1.1 y e') (a2.1 x e)
    subst e
    rw [pw_perm_eq a1.2 a2.2 (List.Perm.cons_inv p)]
theorem sorted_eq {l m : List Str} (h1 : sortedS l = true) (h2 : sortedS m = true) (p : l.Perm m) : l = m := pw_perm_eq (sorted_pw h1) (sorted_pw h2) p
/-- a sorted list, some left out -/
theorem sorted_filter {l : List Str} (f : Str → Bool) (h : sortedS l = true) : sortedS (l.filter f) = true := pw_sorted ((sorted_pw h).filter f)
/-! ### data: lists of texts -/
theorem strOk_bits {l : List Nat} (h : Bits l) : PyData.strOk (S l) = true := by
  show (S l).cps.all (· < 0x110000) = true
  rw [Array.all_eq_true']
  intro c hc
  have z : c ∈ l := by simpa [SX.S] using hc
  rcases h c z with e | e <;> (subst e; rfl)
theorem strOk_num {W : Nat} {x : Str} (h : Num W x) : PyData.strOk x = true := by
  obtain ⟨l, rfl, _, b⟩ := h
  exact strOk_bits b
theorem shaped_strs {xs : List Str} (h : ∀ x ∈ xs, PyData.strOk x = true) : SeqAt.shaped (.list (xs.map .str)) = true := by
  have e1 : (PyData.list (xs.map .str)).canLay0 = true := by
    show PyData.canLayAll0 (xs.map .str) = true
    rw [canLayAll_strs']
    exact List.all_eq_true.mpr h
  have e2 : (PyData.list (xs.map .str)).depth ≤ 64 := by
    show PyData.depthAll (xs.map .str) + 1 ≤ 64
    rw [depthAll_strs']
    decide
  show ((PyData.list (xs.map .str)).canLay0 && decide ((PyData.list (xs.map .str)).depth ≤ 64)) = true
  rw [e1, decide_eq_true e2]
  rfl
theorem dp_strs {K : PySem.W.Frag} {H : Hp} : ∀ (xs : List Str), DpAll K H (xs.map V.str) (xs.map .str)
  | [] => .nil
  | x :: r => .cons (.str x) (dp_strs r)
theorem eqv_empty (xs : List Str) : PyData.eqv (.list (xs.map .str)) (.list []) = xs.isEmpty := by
  cases xs <;> rfl
end B

set_option Elab.async false
set_option linter.all false
set_option maxRecDepth 100000
set_option maxHeartbeats 4000000
namespace B
open PySem PySem.Spec PyProof.Rows L2
open SX (S)
/-- a part of a list is of its items -/
theorem cutV_strs (xs : List Str) (lo hi : Option Int) : ∃ ys : List Str, cutV (xs.map V.str) lo hi = ys.map V.str ∧ (∀ y ∈ ys, y ∈ xs) ∧ ys.length ≤ xs.length ∧ ys.Sublist xs := by
  refine ⟨(xs.drop (HT.sIx (xs.map V.str).length 0 lo)).take (HT.sIx (xs.map V.str).length (xs.map V.str).length hi - HT.sIx (xs.map V.str).length 0 lo), ?_, fun y h => List.mem_of_mem_drop (List.mem_of_mem_take h), ?_, (List.take_sublist _ _).trans (List.drop_sublist _ _)⟩
  · unfold cutV
    rw [List.map_take, List.map_drop]
  · rw [List.length_take, List.length_drop]
    omega
theorem num_len {W : Nat} {x : Str} (h : Num W x) : x.length = W := by
  obtain ⟨l, rfl, e, _⟩ := h
  rw [SX.S_len, e]
theorem size12 {n : Nat} (h : n ≤ 100) : n ≤ sizeLine := Nat.le_trans h (by decide)
/-- an item of a list at a place below its length -/
theorem at_strs {xs : List Str} {v : Int} (h0 : 0 ≤ v) (h1 : v < (xs.length : Int)) : ∃ x ∈ xs, atI (xs.map V.str) v = some (.str x) := by
  obtain ⟨n, rfl⟩ : ∃ n : Nat, v = (n : Int) := ⟨v.toNat, by omega⟩
  have hlt : n < xs.length := by omega
  exact ⟨xs[n], List.getElem_mem hlt, atI_nat (by rw [List.getElem?_map, List.getElem?_eq_getElem hlt]; rfl)⟩
/-- the front of one number, the rest of another -/
theorem num_mix {W : Nat} {x y : Str} (hx : Num W x) (hy : Num W y) {i : Int} (h0 : 0 ≤ i) : Num W (Txt.slice x none (some i) ++ Txt.slice y (some i) none) := by
  obtain ⟨l, rfl, e1, b1⟩ := hx
  obtain ⟨m, rfl, e2, b2⟩ := hy
  rw [SX.slice_to h0, SX.slice_from h0, SX.S_cat]
  refine ⟨_, rfl, ?_, (b1.take _).app (b2.drop _)⟩
  rw [List.length_append, List.length_take, List.length_drop]
  omega
theorem slice_len {W : Nat} {x : Str} (hx : Num W x) {i : Int} (h0 : 0 ≤ i) : (Txt.slice x none (some i)).length ≤ W ∧ (Txt.slice x (some i) none).length ≤ W := by
  obtain ⟨l, rfl, e1, b1⟩ := hx
  rw [SX.slice_to h0, SX.slice_from h0, SX.S_len, SX.S_len, List.length_take, List.length_drop]
  omega
section
variable {P : Program} {w : World} {K : PySem.W.Frag} {mg : Str → Option Value} {base : Heap}
/-- a number; some: a list of such -/
def spNear (K : PySem.W.Frag) : Sp := fun vs H Q _ => ∃ (r a p : Addr) (W : Nat) (xs : List Str), vs = [.ref r, .int W, .ref p] ∧ RowAt r a H ∧ Scr K a H ∧ W ≤ 12 ∧ H p = some (.lst (xs.map V.str)) ∧ (∀ x ∈ xs, Num W x) ∧ xs.length ≤ 100 ∧
  ∀ (x : Str) (H' : Hp), Num W x → RowAt r a H' → Frm [r] H H' → Q (.str x) H'
theorem c_lnear (T : Txt P w K mg base) : CalX CX0 P w K mg base 3 "_law_near" (spNear K) := by
  obtain ⟨fd, F⟩ := T.t.def_ 18 (d := d_lnear)
  refine ⟨_, fd, _, F.ok sc_lnear (fun vs H Q E h => ?_) (fun cdv A outer s H vs Q E hr h => ?_), He.glo_ok T.X T.G (T.t.fact 18), F.kp, F.bindsN fun _ _ _ _ _ _ us hl => match us, hl with | [_, _, _], _ => rfl⟩
  · obtain ⟨r, a, p, W, xs, rfl, _⟩ := h
    rfl
  · obtain ⟨r, a, p, W, xs, rfl, hR, hS, hW, hp, hn, hl, k⟩ := h
    refine ⟨_, PSs.nox (pss_cons (ps_set (i := 3) sc_lnear.nd rfl (Or.inl rfl) (pe_cx (c_lnumber T) hr (by decide) rfl pass0 (pa_cons (pv 0) (pa_cons (pv 1) pa_nil))))
    (pss_cons (ps_if (PW.pt (pw_or (pt_cmpR (op_eqD hr.units) (pv 2) (pe_lst pa_nil) (nomark _)) (pw_or1 (pt_cmpR op_eq (pe_cx (c_ltaken T) hr (by decide) rfl pass0 (pa_cons (pv 0) (pa_cons pe_int pa_nil))) pe_int (nomark _)))))
      (pss_one (ps_ret (pv 3)))
      pss_nil)
    (pss_cons (ps_set (i := 4) sc_lnear.nd rfl (Or.inl rfl) (pe_cx (c_ltaken T) hr (by decide) rfl pass0 (pa_cons (pv 0) (pa_cons (pe_op op_add (pv 1) pe_int) pa_nil))))
    (pss_one (ps_ret (pe_op op_add_str (pe_slice C8.sl_txt (pe_ix ix_list (pv 2) (pe_cx (c_ltaken T) hr (by decide) rfl pass0 (pa_cons (pv 0) (pa_cons (pe_callB call_len_seq (by rfl) (n_len T) PySem.boot_len (pa_cons (pv 2) pa_nil)) pa_nil))) (fun _ _ => rfl)) po_none (po_some (pv 4))) (pe_slice C8.sl_txt (pv 3) (po_some (pv 4)) po_none))))))), ?_⟩
    refine ⟨_, rfl, _, rfl, r, a, W, rfl, hR, hS, hW, fun x H1 hx hR1 f1 => ?_⟩
    have hp1 : H1 p = some (.lst (xs.map V.str)) := f1.at hR.nl hp rfl (nl_strs xs)
    have fin : ∀ H2, RowAt r a H2 → Frm [r] H H2 → Q (.str x) H2 := fun H2 a1 a2 => k x H2 hx a1 a2
    -- some == []
    refine ⟨_, rfl, Nat.zero_le _, fun D hD => ?_⟩
    have f2 : Frm [r] H (upd H1 D (.lst [])) := f1.trans (Frm.of (same_upd hD))
    have hR2 := hR1.ne (hR1.out hD) (o := .lst [])
    have hp2 : (upd H1 D (.lst [])) p = some (.lst (xs.map V.str)) := same_upd hD _ _ hp1
    refine ⟨_, _, .lst (SqL.of hp2) (dp_strs xs), .lst (SqL.of upd_same) .nil, shaped_strs (fun x h => strOk_num (hn x h)), by decide +kernel, _, rfl, ?_⟩
    rw [eqv_empty]
    refine iteB (fun c => ?_) (fun c => ?_)
    · exact ⟨_, rfl, fin _ hR2 f2⟩
    · have hne : xs ≠ [] := fun e => by
        rw [e] at c
        cases c
      refine ⟨_, rfl, r, a, 3, rfl, hR2, f2.scr hR.nl hS, by decide, by decide, fun v H3 h0 h1 hR3 f3 => ?_⟩
      refine ⟨rfl, _, rfl, iteB (fun c => ?_) (fun c => ?_)⟩
      · exact ⟨_, rfl, fin _ hR3 (f2.trans f3)⟩
      · have f3' := f2.trans f3
        refine ⟨_, rfl, _, rfl, W, 1, rfl, rfl, r, a, (W : Int) + 1, rfl, hR3, f3'.scr hR.nl hS, by omega, by omega, fun many H4 m0 m1 hR4 f4 => ?_⟩
        have f4' := f3'.trans f4
        have hp4 : H4 p = some (.lst (xs.map V.str)) := f4'.at hR.nl hp rfl (nl_strs xs)
        have hlp : 0 < xs.length := List.length_pos_iff.mpr hne
        refine ⟨_, rfl, _, rfl, _, rfl, p, _, rfl, .inl (SqL.of hp4), r, a, _, rfl, hR4, f4'.scr hR.nl hS, by rw [List.length_map]; omega, by rw [List.length_map]; omega, fun v H5 v0 v1 hR5 f5 => ?_⟩
        have f5' := f4'.trans f5
        have hp5 : H5 p = some (.lst (xs.map V.str)) := f5'.at hR.nl hp rfl (nl_strs xs)
        obtain ⟨y, hy, hat⟩ := at_strs (xs := xs) v0 (by rw [List.length_map] at v1; exact v1)
        refine ⟨p, _, _, _, rfl, rfl, SqL.of hp5, hat, _, rfl, many, rfl, y, rfl, by rw [num_len (hn y hy)]; exact size12 (by omega), ?_⟩
        refine ⟨_, rfl, _, rfl, many, rfl, x, rfl, by rw [num_len hx]; exact size12 (by omega), ?_⟩
        refine ⟨_, _, rfl, rfl, ?_, ?_⟩
        · have l1 := (slice_len (hn y hy) m0).1
          have l2 := (slice_len hx m0).2
          exact size12 (by omega)
        · exact k _ H5 (num_mix (hn y hy) hx m0) hR5 f5'
/-- a width -/
def spWidth (K : PySem.W.Frag) : Sp := fun vs H Q _ => ∃ (r a : Addr), vs = [.ref r] ∧ RowAt r a H ∧ Scr K a H ∧ ∀ (W : Nat) (H' : Hp), 1 ≤ W → W ≤ 12 → RowAt r a H' → Frm [r] H H' → Q (.int W) H'
theorem c_lwidth (T : Txt P w K mg base) : CalX CX0 P w K mg base 2 "_law_width" (spWidth K) := by
  obtain ⟨fd, F⟩ := T.t.def_ 20 (d := d_lwidth)
  refine ⟨_, fd, _, F.ok sc_lwidth (fun vs H Q E h => ?_) (fun cdv A outer s H vs Q E hr h => ?_), He.glo_ok T.X T.G (T.t.fact 20), F.kp, F.bindsN fun _ _ _ _ _ _ us hl => match us, hl with | [_], _ => rfl⟩
  · obtain ⟨r, a, rfl, _⟩ := h
    rfl
  · obtain ⟨r, a, rfl, hR, hS, k⟩ := h
    refine ⟨_, PSs.nox (pss_one (ps_ret (pe_op op_add pe_int (pe_cx (c_ltaken T) hr (by decide) rfl pass0 (pa_cons (pv 0) (pa_cons (pe_ix ix_list (pe_lst (pa_cons pe_int (pa_cons pe_int (pa_cons pe_int pa_nil)))) (pe_cx (c_ltaken T) hr (by decide) rfl pass0 (pa_cons (pv 0) (pa_cons pe_int pa_nil))) (fun _ _ => rfl)) pa_nil)))))), ?_⟩
    refine ⟨_, rfl, by decide, fun D hD => ?_⟩
    have f1 : Frm [r] H (upd H D (.lst [.int 4, .int 7, .int 12])) := Frm.of (same_upd hD)
    refine ⟨_, rfl, r, a, 3, rfl, hR.ne (hR.out hD), f1.scr hR.nl hS, by decide, by decide, fun v H2 v0 v1 hR2 f2 => ?_⟩
    have hD2 : H2 D = some (.lst [.int 4, .int 7, .int 12]) := f2.k D _ upd_same rfl (by simpa using (hR.out hD).symm)
    have f2' := f1.trans f2
    have go : ∀ m : Int, 0 < m → m ≤ 12 → atI [V.int 4, V.int 7, V.int 12] v = some (.int m) → ∃ (p : Addr) (xs : List V) (i : Int) (v' : V), V.ref D = V.ref p ∧ V.int v = V.int i ∧ SqL K H2 p xs ∧ atI xs i = some v' ∧ spTaken K ([V.ref r, v'] ++ []) H2 (fun y H => ∃ i j, V.int 1 = V.int i ∧ y = .int j ∧ Q (.int (i + j)) H) E0 := fun m m0 m1 hat => by
      refine ⟨D, _, v, _, rfl, rfl, SqL.of hD2, hat, r, a, m, rfl, hR2, f2'.scr hR.nl hS, m0, by omega, fun u H3 u0 u1 hR3 f3 => ⟨1, u, rfl, rfl, ?_⟩⟩
      have e : (1 : Int) + u = ((1 + u.toNat : Nat) : Int) := by omega
      rw [e]
      exact k _ H3 (by omega) (by omega) hR3 (f2'.trans f3)
    have hv : v = 0 ∨ v = 1 ∨ v = 2 := by omega
    rcases hv with rfl | rfl | rfl
    · exact go 4 (by decide) (by decide) rfl
    · exact go 7 (by decide) (by decide) rfl
    · exact go 12 (by decide) (by decide) rfl
end
end B

set_option Elab.async false
set_option linter.all false
set_option maxRecDepth 100000
set_option maxHeartbeats 4000000
namespace B
open PySem PySem.Spec PyProof.Rows L2
open SX (S)
theorem ix_seqK {X : Cx} {K : PySem.W.Frag} (hK : X.K = K) : IxR X (rIx K) := by
  subst hK
  exact ix_seq
theorem in_seqK {X : Cx} {K : PySem.W.Frag} (hK : X.K = K) : OpR X (compareOp .In) (rIn K false) := by
  subst hK
  exact op_in_seq
theorem notIn_seqK {X : Cx} {K : PySem.W.Frag} (hK : X.K = K) : OpR X (compareOp .NotIn) (rIn K true) := by
  subst hK
  exact op_notIn_seq
theorem flat_strs (xs : List Str) : (xs.map V.str).all flatV = true := by
  induction xs with
  | nil => rfl
  | cons x r ih => rw [List.map_cons, List.all_cons, ih]; rfl
/-- one sign of a number turned, the signs behind it of another -/
theorem num_flip {W i c : Nat} {x y : Str} (hx : Num W x) (hy : Num W y) (hi : i < W) (hc : c = 48 ∨ c = 49) : Num W (Txt.slice x none (some (0 + (i : Int))) ++ S [c] ++ Txt.slice y (some (0 + (i : Int) + 1)) none) := by
  obtain ⟨l, rfl, e1, b1⟩ := hx
  obtain ⟨m, rfl, e2, b2⟩ := hy
  rw [SX.slice_to (by omega), SX.slice_from (by omega), SX.S_cat, SX.S_cat]
  refine ⟨_, rfl, ?_, ((b1.take _).snoc hc).app (b2.drop _)⟩
  rw [List.length_append, List.length_append, List.length_take, List.length_drop]
  show min _ _ + 1 + _ = W
  omega
theorem num_sign {W i : Nat} {x : Str} (hx : Num W x) (hi : i < W) : ∃ c, (c = 48 ∨ c = 49) ∧ atI x.cps.toList (0 + (i : Int)) = some c := by
  obtain ⟨l, rfl, e1, b1⟩ := hx
  have hl : i < l.length := by omega
  refine ⟨l[i], b1 _ (List.getElem_mem hl), ?_⟩
  have e : (0 : Int) + (i : Int) = ((i : Nat) : Int) := by omega
  rw [e]
  exact atI_nat (List.getElem?_eq_getElem hl)
theorem in_strs {x : Str} {xs : List Str} (h : inV (V.str x) (xs.map V.str) = false) : x ∉ xs := fun hx => by
  have : inV (V.str x) (xs.map V.str) = true := by
    unfold inV
    rw [List.any_map, List.any_eq_true]
    exact ⟨x, hx, by show eqV (V.str x) (V.str x) = true; simp [eqV]⟩
  rw [this] at h
  cases h
theorem nodup_snoc {xs : List Str} {x : Str} (h : xs.Nodup) (hx : x ∉ xs) : (xs ++ [x]).Nodup := by
  rw [List.nodup_append]
  refine ⟨h, by simp, fun a ha c hc => ?_⟩
  rw [List.mem_singleton] at hc
  rw [hc]
  intro e
  exact hx (e ▸ ha)
/-- parts from b at the place i, not before -/
def Parts (b z : Str) (i : Nat) : Prop := z.cps.toList[i]? ≠ b.cps.toList[i]? ∧ ∀ m, m < i → z.cps.toList[m]? = b.cps.toList[m]?
theorem flip_parts {W i c d : Nat} {x y : Str} (hx : Num W x) (hy : Num W y) (hi : i < W) (hc : atI x.cps.toList (0 + (i : Int)) = some c) (hd : d ≠ c) : Parts x (Txt.slice x none (some (0 + (i : Int))) ++ S [d] ++ Txt.slice y (some (0 + (i : Int) + 1)) none) i := by
  obtain ⟨l, rfl, e1, b1⟩ := hx
  obtain ⟨m, rfl, e2, b2⟩ := hy
  have hil : i < l.length := by omega
  have e0 : (0 : Int) + (i : Int) = ((i : Nat) : Int) := by omega
  rw [SX.slice_to (by omega), SX.slice_from (by omega), SX.S_cat, SX.S_cat]
  have el : ∀ q : List Nat, (S q).cps.toList = q := fun q => by simp [SX.S]
  have et : (0 + (i : Int)).toNat = i := by omega
  rw [et]
  unfold Parts
  rw [el, el]
  rw [el, e0, atI_nat (List.getElem?_eq_getElem hil)] at hc
  have tl : (l.take i).length = i := by rw [List.length_take]; omega
  refine ⟨?_, fun q hq => ?_⟩
  · rw [List.append_assoc, List.getElem?_append_right (by omega), tl, Nat.sub_self, List.getElem?_eq_getElem hil, hc]
    intro z
    exact hd (Option.some.inj z)
  · rw [List.append_assoc, List.getElem?_append_left (by omega), List.getElem?_take_of_lt hq]
theorem parts_ne {b z : Str} {xs : List Str} (h : ∀ j y, xs[j]? = some y → Parts b y j) (hz : Parts b z xs.length) : z ∉ xs ∧ b ∉ xs := by
  refine ⟨fun e => ?_, fun e => ?_⟩
  · obtain ⟨j, hj⟩ := List.getElem?_of_mem e
    have hl := (List.getElem?_eq_some_iff.mp hj).1
    exact (h j z hj).1 (hz.2 j hl)
  · obtain ⟨j, hj⟩ := List.getElem?_of_mem e
    exact (h j b hj).1 rfl
section
variable {P : Program} {w : World} {K : PySem.W.Frag} {mg : Str → Option Value} {base : Heap}
def spThings (K : PySem.W.Frag) : Sp := fun vs H Q _ => ∃ (r a : Addr) (W : Nat) (most : Int), vs = [.ref r, .int W, .int most] ∧ RowAt r a H ∧ Scr K a H ∧ W ≤ 12 ∧ 0 ≤ most ∧ most ≤ 40 ∧
  ∀ (xs : List Str) (p : Addr) (H' : Hp), (∀ x ∈ xs, Num W x) → xs.length ≤ 41 → xs.Nodup → sortedS xs = true → H' p = some (.lst (xs.map V.str)) → RowAt r a H' → Frm [r] H H' → Q (.ref p) H'
theorem c_lthings (T : Txt P w K mg base) : CalX CX0 P w K mg base 4 "_law_things" (spThings K) := by
  obtain ⟨fd, F⟩ := T.t.def_ 19 (d := d_lthings)
  refine ⟨_, fd, _, F.ok sc_lthings (fun vs H Q E h => ?_) (fun cdv A outer s H vs Q E hr h => ?_), He.glo_ok T.X T.G (T.t.fact 19), F.kp, F.bindsN fun _ _ _ _ _ _ us hl => match us, hl with | [_, _, _], _ => rfl⟩
  · obtain ⟨r, a, W, most, rfl, _⟩ := h
    rfl
  · obtain ⟨r, a, W, most, rfl, hR, hS, hW, hm0, hm1, k⟩ := h
    refine ⟨_, PSs.nox (pss_cons (ps_set (i := 3) sc_lthings.nd rfl (Or.inl rfl) (pe_lst pa_nil))
    (pss_cons (ps_if (PW.pt (pw_and (pt_cmpR op_gt (pv 2) pe_int (nomark _)) (pw_and1 (pt_cmpR op_eq (pe_cx (c_ltaken T) hr (by decide) rfl pass0 (pa_cons (pv 0) (pa_cons pe_int pa_nil))) pe_int (nomark _)))))
      (pss_cons (ps_set (i := 4) sc_lthings.nd rfl (Or.inl rfl) (pe_ix ix_list (pe_lst (pa_cons (pe_cx (c_lnumber T) hr (by decide) rfl pass0 (pa_cons (pv 0) (pa_cons (pv 1) pa_nil))) (pa_cons (pe_op op_rep_str pe_str (pv 1)) pa_nil))) (pe_cx (c_ltaken T) hr (by decide) rfl pass0 (pa_cons (pv 0) (pa_cons pe_int pa_nil))) (fun _ _ => rfl)))
      (pss_cons (ps_for PassesOwn.never rfl (pi_range1 rfl (n_range T) (pa_cons (pv 1) pa_nil)) (pg_name (i := 5) sc_lthings.nd rfl (Or.inl rfl))
        (pss_one (ps_expr (pe_bm PySem.F.plainAttrs_list PySem.F.slot_list_append PySem.F.type_list_append mt_append (pv 3) (pa_cons (pe_op op_add_str (pe_op op_add_str (pe_slice C8.sl_txt (pv 4) po_none (po_some (pv 5))) (pe_ix ix_str pe_str (pe_callTy call_int_str (by rfl) (n_int T) (by decide +kernel) (pa_cons (pe_ix ix_str (pv 4) (pv 5) (fun _ _ => rfl)) pa_nil)) (fun _ _ => rfl))) (pe_slice C8.sl_txt (pe_cx (c_lnumber T) hr (by decide) rfl pass0 (pa_cons (pv 0) (pa_cons (pv 1) pa_nil))) (po_some (pe_op op_add (pv 5) pe_int)) po_none)) pa_nil)))))
      (pss_one (ps_ret (pe_callB cr_sortedS (by rfl) (n_sorted T) (by decide +kernel) (pa_cons (pe_op op_cat (pe_slice sl_list (pv 3) po_none (po_some (pe_callB (call_max2 rfl) (by rfl) (n_max T) (by decide +kernel) (pa_cons (pe_op op_sub (pv 1) (pe_cx (c_ltaken T) hr (by decide) rfl pass0 (pa_cons (pv 0) (pa_cons pe_int pa_nil)))) (pa_cons (pe_cx (c_ltaken T) hr (by decide) rfl pass0 (pa_cons (pv 0) (pa_cons (pe_op op_add (pv 1) pe_int) pa_nil))) pa_nil))))) (pe_lst (pa_cons (pv 4) pa_nil))) pa_nil))))))
      pss_nil)
    (pss_cons (ps_for PassesOwn.never rfl (pi_range1 rfl (n_range T) (pa_cons (pe_cx (c_ltaken T) hr (by decide) rfl pass0 (pa_cons (pv 0) (pa_cons (pe_op op_add (pv 2) pe_int) pa_nil))) pa_nil)) (pg_name (i := 5) sc_lthings.nd rfl (Or.inl rfl))
      (pss_cons (ps_set (i := 6) sc_lthings.nd rfl (Or.inl rfl) (pe_cx (c_lnear T) hr (by decide) rfl pass0 (pa_cons (pv 0) (pa_cons (pv 1) (pa_cons (pv 3) pa_nil)))))
      (pss_one (ps_if (pt_cmpR op_notIn_seq (pv 6) (pv 3) rfl)
        (pss_one (ps_expr (pe_bm PySem.F.plainAttrs_list PySem.F.slot_list_append PySem.F.type_list_append mt_append (pv 3) (pa_cons (pv 6) pa_nil))))
        pss_nil))))
    (pss_one (ps_ret (pe_callB cr_sortedS (by rfl) (n_sorted T) (by decide +kernel) (pa_cons (pv 3) pa_nil))))))), ?_⟩
    refine ⟨Nat.zero_le _, fun D hD => ?_⟩
    have nrD := hR.out hD
    have f0 : Frm [r] H (upd H D (.lst [])) := Frm.of (same_upd hD)
    have hR0 : RowAt r a (upd H D (.lst [])) := hR.ne nrD
    have hD0 : (upd H D (.lst [])) D = some (.lst (([] : List Str).map V.str)) := upd_same
    have keepD : ∀ {H1 H2 : Hp} {xs : List V}, H1 D = some (.lst xs) → Frm [r] H1 H2 → H2 D = some (.lst xs) := fun h f => f.k D _ h rfl (by simpa using nrD.symm)
    -- the list, sorted
    have srt : ∀ (H1 : Hp) (xs : List Str) (z : Addr), (∀ x ∈ xs, Num W x) → xs.length ≤ 41 → xs.Nodup → H1 z = some (.lst (xs.map V.str)) → RowAt r a H1 → Frm [r] H H1 → rSortedS K [.ref z] H1 Q := fun H1 xs z hx hl hnd hz hR1 f1 =>
      ⟨z, xs, rfl, SqL.of hz, by omega, fun ys p pm ss hp => k ys p _ (fun y hy => hx y (pm.mem_iff.mp hy)) (by rw [pm.length_eq]; exact hl) (pm.nodup_iff.mpr hnd) ss upd_same (hR1.ne (hR1.out hp)) (f1.trans (Frm.of (same_upd hp)))⟩
    -- the second half: drawn numbers
    have rest : ∀ H1 : Hp, RowAt r a H1 → Frm [r] H H1 → H1 D = some (.lst (([] : List Str).map V.str)) → ∀ v4 v5 v6 : Option V,
        tSeq (tFor (iRng1 (tCons (tCall (spTaken K) [] E0 (tCons (tVar 0) (tCons (tOp (rI0 fun i j => .int (i + j)) (tVar 2) (tC (.int 1))) tNil))) tNil)) (gName 5)
          (tSeq (tAsg (tCall (spNear K) [] E0 (tCons (tVar 0) (tCons (tVar 1) (tCons (tVar 3) tNil)))) (gName 6))
            (tIfS (tTest (tOp (rIn K true) (tVar 6) (tVar 3))) (tDrop (tBM K "list" rAppend (tVar 3) (tCons (tVar 6) tNil))) tNext)))
          (tRet (tCB (rSortedS K) (tCons (tVar 3) tNil))) { nx := fun _ H' => Q .non H', rt := Q } [some (.ref r), some (.int W), some (.int most), some (.ref D), v4, v5, v6] H1 := fun H1 hR1 f1 hD1 v4 v5 v6 => by
      refine ⟨_, rfl, _, rfl, most, 1, rfl, rfl, r, a, most + 1, rfl, hR1, f1.scr hR.nl hS, by omega, by omega, fun m H2 m0 m1 hR2 f2 => ?_⟩
      refine ⟨m, rfl, by omega, by omega, ?_⟩
      refine for_range (lo := 0) (n := m.toNat) (fun i σ H' => ∃ v5 v6, σ = [some (.ref r), some (.int W), some (.int most), some (.ref D), v4, v5, v6] ∧ ∃ xs : List Str, (∀ x ∈ xs, Num W x) ∧ xs.Nodup ∧ xs.length ≤ i ∧ H' D = some (.lst (xs.map V.str)) ∧ RowAt r a H' ∧ Frm [r] H H')
        ⟨v5, v6, rfl, [], fun x h => absurd h (by simp), .nil, Nat.le_refl _, keepD hD1 f2, hR2, f1.trans f2⟩ ?_ ?_
      · rintro i σ H3 hi ⟨w5, w6, rfl, xs, hx, hnd, hl, hD3, hR3, f3⟩
        refine ⟨_, rfl, _, rfl, _, rfl, r, a, D, W, xs, rfl, hR3, f3.scr hR.nl hS, hW, hD3, hx, by omega, fun x H4 hxn hR4 f4 => ?_⟩
        have hD4 := keepD hD3 f4
        refine ⟨_, rfl, _, rfl, D, _, rfl, .inl (SqL.of hD4), rfl, flat_strs xs, _, rfl, iteB (fun c => ?_) (fun c => ?_)⟩
        · refine ⟨_, rfl, .inl ⟨rfl, _, SqL.of hD4⟩, _, rfl, D, _, _, rfl, rfl, hD4, by rw [List.length_map]; exact small1000 (by omega), ?_⟩
          refine ⟨_, _, rfl, xs ++ [x], fun y hy => ?_, nodup_snoc hnd (in_strs (by simpa using c)), by rw [List.length_append]; show xs.length + 1 ≤ i + 1; omega, by rw [upd_same, List.map_append]; rfl, hR4.ne nrD, (f3.trans f4).new hD⟩
          rcases List.mem_append.mp hy with z | z
          · exact hx y z
          · rw [List.mem_singleton.mp z]
            exact hxn
        · exact ⟨_, _, rfl, xs, hx, hnd, by omega, hD4, hR4, f3.trans f4⟩
      · rintro σ H3 ⟨w5, w6, rfl, xs, hx, hnd, hl, hD3, hR3, f3⟩
        exact ⟨_, rfl, srt H3 xs D hx (by omega) hnd hD3 hR3 f3⟩
    -- if most > 11 and taken(row, 5) == 4
    refine ⟨_, rfl, most, 11, rfl, rfl, _, rfl, iteB (fun c => ?_) (fun c => ?_)⟩
    · refine ⟨_, rfl, r, a, 5, rfl, hR0, f0.scr hR.nl hS, by decide, by decide, fun v H1 v0 v1 hR1 f1 => ?_⟩
      have f1' := f0.trans f1
      refine ⟨rfl, _, rfl, iteB (fun c => ?_) (fun c => ?_)⟩
      · -- base
        refine ⟨_, rfl, _, rfl, r, a, W, rfl, hR1, f1'.scr hR.nl hS, hW, fun x H2 hx hR2 f2 => ?_⟩
        have f2' := f1'.trans f2
        refine ⟨_, rfl, _, W, rfl, rfl, zeros_ok W hW, by show 2 ≤ sizeLine; decide, fun L hL => ?_⟩
        have nrL := hR2.out hL
        have f3' : Frm [r] H (upd H2 L (.lst [.str x, .str (Txt.mul "0" W)])) := f2'.trans (Frm.of (same_upd hL))
        refine ⟨_, rfl, r, a, 2, rfl, hR2.ne nrL, f3'.scr hR.nl hS, by decide, by decide, fun v H4 v0 v1 hR4 f4 => ?_⟩
        have hL4 : H4 L = some (.lst [.str x, .str (Txt.mul "0" W)]) := f4.k L _ upd_same rfl (by simpa using nrL.symm)
        have f4' := f3'.trans f4
        have hD4 : H4 D = some (.lst (([] : List Str).map V.str)) := keepD (keepD (keepD (keepD hD0 f1) f2) (Frm.of (same_upd hL))) f4
        have zer : Num W (Txt.mul "0" W) := by
          rw [zeros_is W hW]
          exact ⟨_, rfl, List.length_replicate, fun c hc => .inl (List.eq_of_mem_replicate hc)⟩
        obtain ⟨b, hb, hat⟩ : ∃ b, Num W b ∧ atI [V.str x, V.str (Txt.mul "0" W)] v = some (.str b) := by
          have hv : v = 0 ∨ v = 1 := by omega
          rcases hv with rfl | rfl
          · exact ⟨x, hx, rfl⟩
          · exact ⟨_, zer, rfl⟩
        refine ⟨L, _, v, _, rfl, rfl, SqL.of hL4, hat, ?_⟩
        have sz : ∀ {n : Nat}, n ≤ 100 → n ≤ sizeLine := fun h => size12 h
        -- the loop
        refine ⟨_, rfl, (W : Int), rfl, by omega, by omega, ?_⟩
        refine for_range (lo := 0) (n := (W : Int).toNat) (fun i σ H' => ∃ v5, σ = [some (.ref r), some (.int W), some (.int most), some (.ref D), some (.str b), v5, none] ∧ ∃ xs : List Str, (∀ x ∈ xs, Num W x) ∧ (∀ j z, xs[j]? = some z → Parts b z j) ∧ xs.Nodup ∧ xs.length = i ∧ H' D = some (.lst (xs.map V.str)) ∧ RowAt r a H' ∧ Frm [r] H H')
          ⟨none, rfl, [], fun x h => absurd h (by simp), fun j z h => by simp at h, .nil, rfl, hD4, hR4, f4'⟩ ?_ ?_
        · rintro i σ H5 hi ⟨w5, rfl, xs, hx, hpt, hnd, hl, hD5, hR5, f5⟩
          have hi' : i < W := by omega
          obtain ⟨c, hc, hcat⟩ := num_sign hb hi'
          refine ⟨_, rfl, .inl ⟨rfl, _, SqL.of hD5⟩, ?_⟩
          refine ⟨_, rfl, _, rfl, _, rfl, b, rfl, sz (by rw [num_len hb]; omega), ?_⟩
          refine ⟨_, rfl, _, rfl, b, _, c, rfl, rfl, sz (by rw [num_len hb]; omega), hcat, ?_⟩
          have go : ∀ (n : Int) (d : Nat), PySem.intText? (S [c]) = some n → atI ("10" : Str).cps.toList n = some d → (d = 48 ∨ d = 49) → ∃ (a' : Str) (n' : Int), [V.str ⟨#[c]⟩] = [V.str a'] ∧ PySem.intText? a' = some n' ∧ a'.length ≤ 640 ∧
              ∃ (z : Str) (i' : Int) (c' : Nat), V.str "10" = V.str z ∧ V.int n' = V.int i' ∧ z.length ≤ sizeLine ∧ atI z.cps.toList i' = some c' ∧ (c' = 48 ∨ c' = 49) ∧ c' = d := fun n d h1 h2 h3 =>
            ⟨S [c], n, rfl, h1, by rw [SX.S_len]; show 1 ≤ 640; decide, "10", n, d, rfl, rfl, by decide +kernel, h2, h3, rfl⟩
          have two : ∃ (n : Int) (d : Nat), PySem.intText? (S [c]) = some n ∧ atI ("10" : Str).cps.toList n = some d ∧ (d = 48 ∨ d = 49) ∧ d ≠ c := by
            rcases hc with rfl | rfl
            · exact ⟨0, 49, by decide +kernel, by decide +kernel, .inr rfl, by decide⟩
            · exact ⟨1, 48, by decide +kernel, by decide +kernel, .inl rfl, by decide⟩
          obtain ⟨n, d, t1, t2, t3, t4⟩ := two
          refine ⟨S [c], n, rfl, t1, by rw [SX.S_len]; show 1 ≤ 640; decide, "10", n, d, rfl, rfl, by decide +kernel, t2, ?_⟩
          have l1 : (Txt.slice b none (some (0 + (i : Int)))).length ≤ W := (slice_len hb (by omega)).1
          refine ⟨_, S [d], rfl, rfl, sz (by have e1 := SX.S_len [d]; have e2 : [d].length = 1 := rfl; omega), ?_⟩
          refine ⟨_, rfl, _, rfl, r, a, W, rfl, hR5, f5.scr hR.nl hS, hW, fun y H6 hy hR6 f6 => ?_⟩
          have hD6 := keepD hD5 f6
          have l2 : (Txt.slice y (some (0 + (i : Int) + 1)) none).length ≤ W := (slice_len hy (by omega)).2
          have nf := num_flip hb hy hi' t3
          have np := flip_parts hb hy hi' hcat t4
          refine ⟨_, rfl, _, 1, rfl, rfl, _, rfl, y, rfl, sz (by rw [num_len hy]; omega), ?_⟩
          refine ⟨_, _, rfl, rfl, ?_, ?_⟩
          · have l3 : (Txt.slice b none (some (0 + (i : Int))) ++ S [d]).length = (Txt.slice b none (some (0 + (i : Int)))).length + 1 := by
              obtain ⟨l, rfl, _, _⟩ := hb
              rw [SX.slice_to (by omega), SX.S_cat, SX.S_len, SX.S_len, List.length_append]
              rfl
            rw [l3]
            exact sz (by omega)
          · refine ⟨D, _, _, rfl, rfl, hD6, by rw [List.length_map]; exact small1000 (by omega), ?_⟩
            refine ⟨_, rfl, xs ++ [_], fun z hz => ?_, fun j z hz => ?_, nodup_snoc hnd (parts_ne hpt (by rw [hl]; exact np)).1, by rw [List.length_append, hl]; rfl, by rw [upd_same, List.map_append]; rfl, hR6.ne nrD, (f5.trans f6).new hD⟩
            · rcases List.mem_append.mp hz with q | q
              · exact hx z q
              · rw [List.mem_singleton.mp q]
                exact nf
            · by_cases hj : j < xs.length
              · rw [List.getElem?_append_left hj] at hz
                exact hpt j z hz
              · have ej : j = xs.length := by
                  have := (List.getElem?_eq_some_iff.mp hz).1
                  rw [List.length_append, List.length_singleton] at this
                  omega
                subst ej
                rw [List.getElem?_append_right (Nat.le_refl _), Nat.sub_self] at hz
                rw [← Option.some.inj hz, hl]
                exact np
        · rintro σ H5 ⟨w5, rfl, xs, hx, hpt, hnd, hl, hD5, hR5, f5⟩
          -- return sorted(found[:max(..)] + [base])
          refine ⟨_, rfl, _, rfl, _, rfl, r, a, 4, rfl, hR5, f5.scr hR.nl hS, by decide, by decide, fun u H6 u0 u1 hR6 f6 => ?_⟩
          have f6' := f5.trans f6
          refine ⟨_, _, rfl, rfl, _, rfl, _, rfl, _, 1, rfl, rfl, r, a, _, rfl, hR6, f6'.scr hR.nl hS, by omega, by omega, fun u2 H7 _ _ hR7 f7 => ?_⟩
          have f7' := f6'.trans f7
          have hD7 := keepD (keepD hD5 f6) f7
          refine ⟨_, _, rfl, _, rfl, D, _, rfl, SqL.of hD7, fun p hp => ?_⟩
          obtain ⟨ys, ey, hy, ly, hsl⟩ := cutV_strs xs none (some (if u2 > (W : Int) - u then u2 else (W : Int) - u))
          refine ⟨_, rfl, by show 1 ≤ sizeLine; decide, fun q hq => ?_⟩
          have npq : p ≠ q := ne_of_none upd_same hq
          refine ⟨p, q, _, _, rfl, rfl, by rw [upd_ne npq]; exact upd_same, upd_same, ?_, fun z hz => ?_⟩
          · rw [ey, List.length_map]
            exact sz (by show _ + 1 ≤ 100; omega)
          · refine srt _ (ys ++ [b]) z (fun x hx' => ?_) ?_ (nodup_snoc (hnd.sublist hsl) fun z => ?_) ?_ (((hR7.ne (hR7.out hp)).ne ((hR7.ne (hR7.out hp)).out hq)).ne (((hR7.ne (hR7.out hp)).ne ((hR7.ne (hR7.out hp)).out hq)).out hz)) (((f7'.trans (Frm.of (same_upd hp))).trans (Frm.of (same_upd hq))).trans (Frm.of (same_upd hz)))
            · rcases List.mem_append.mp hx' with e | e
              · exact hx x (hy x e)
              · rw [List.mem_singleton.mp e]
                exact hb
            · rw [List.length_append]
              show ys.length + 1 ≤ 41
              omega
            · obtain ⟨j, hj⟩ := List.getElem?_of_mem (hy b z)
              exact (hpt j b hj).1 rfl
            · rw [upd_same, ey, List.map_append]
              rfl
      · exact rest H1 hR1 f1' (keepD hD0 f1) none none none
    · exact rest _ hR0 f0 hD0 none none none
/-- numbers that may be hung -/
def spPool (K : PySem.W.Frag) : Sp := fun vs H Q _ => ∃ (r a : Addr) (W : Nat), vs = [.ref r, .int W] ∧ RowAt r a H ∧ Scr K a H ∧ W ≤ 12 ∧
  ∀ (xs : List Str) (p : Addr) (H' : Hp), xs ≠ [] → (∀ x ∈ xs, Num W x) → xs.length ≤ 41 → xs.Nodup → sortedS xs = true → H' p = some (.lst (xs.map V.str)) → RowAt r a H' → Frm [r] H H' → Q (.ref p) H'
end
end B

set_option Elab.async false
set_option linter.all false
set_option maxRecDepth 100000
set_option maxHeartbeats 4000000
namespace B
open PySem PySem.Spec PyProof.Rows L2
open SX (S)
section
variable {P : Program} {w : World} {K : PySem.W.Frag} {mg : Str → Option Value} {base : Heap}
/-- a roster drawn -/
def spRoster (K : PySem.W.Frag) : Sp := fun vs H Q _ => ∃ (r a : Addr) (W : Nat) (m : Int), vs = [.ref r, .int W, .int m] ∧ RowAt r a H ∧ Scr K a H ∧ W ≤ 12 ∧ 0 ≤ m ∧ m ≤ 40 ∧
  ∀ (xs : List Str) (p : Addr) (H' : Hp), xs ≠ [] → (∀ x ∈ xs, Num W x) → xs.length ≤ 41 → xs.Nodup → sortedS xs = true → H' p = some (.lst (xs.map V.str)) → RowAt r a H' → Frm [r] H H' → Q (.ref p) H'
theorem c_lroster (T : Txt P w K mg base) : CalX CX0 P w K mg base 5 "_law_roster" (spRoster K) := by
  obtain ⟨fd, F⟩ := T.t.def_ 25 (d := d_lroster)
  refine ⟨_, fd, _, F.ok sc_lroster (fun vs H Q E h => ?_) (fun cdv A outer s H vs Q E hr h => ?_), He.glo_ok T.X T.G (T.t.fact 25), F.kp, F.bindsN fun _ _ _ _ _ _ us hl => match us, hl with | [_, _, _], _ => rfl⟩
  · obtain ⟨r, a, W, m, rfl, _⟩ := h
    rfl
  · obtain ⟨r, a, W, m, rfl, hR, hS, hW, m0, m1, k⟩ := h
    refine ⟨_, PSs.nox (pss_cons (ps_set (i := 3) sc_lroster.nd rfl (Or.inl rfl) (pe_cx (c_lthings T) hr (by decide) rfl pass0 (pa_cons (pv 0) (pa_cons (pv 1) (pa_cons (pv 2) pa_nil)))))
    (pss_one (ps_ret (pe_ifExp (pt_cmpR (op_neD hr.units) (pv 3) (pe_lst pa_nil) (nomark _)) (pv 3) (pe_lst (pa_cons (pe_cx (c_lnumber T) hr (by decide) rfl pass0 (pa_cons (pv 0) (pa_cons (pv 1) pa_nil))) pa_nil)))))), ?_⟩
    refine ⟨_, rfl, _, rfl, _, rfl, r, a, W, m, rfl, hR, hS, hW, m0, m1, fun xs p H3 hx hl hnd hss hp hR3 f3 => ?_⟩
    have f3' := f3
    -- names if names != [] else [number]
    refine ⟨_, rfl, Nat.zero_le _, fun q hq => ?_⟩
    have nrq := hR3.out hq
    have f4' : Frm [r] H (upd H3 q (.lst [])) := f3'.trans (Frm.of (same_upd hq))
    have hp4 : (upd H3 q (.lst [])) p = some (.lst (xs.map V.str)) := same_upd hq _ _ hp
    refine ⟨_, _, .lst (SqL.of hp4) (dp_strs xs), .lst (SqL.of upd_same) .nil, shaped_strs (fun x h => strOk_num (hx x h)), by decide +kernel, _, rfl, ?_⟩
    rw [eqv_empty]
    refine iteB (fun c => ?_) (fun c => ?_)
    · refine ⟨_, rfl, k xs p _ (fun e => ?_) hx hl hnd hss hp4 (hR3.ne nrq) f4'⟩
      rw [e] at c
      cases c
    · refine ⟨_, rfl, _, rfl, r, a, W, rfl, hR3.ne nrq, f4'.scr hR.nl hS, hW, fun x H5 hxn hR5 f5 => ?_⟩
      refine ⟨by show 1 ≤ sizeLine; decide, fun z hz => k [x] z _ (by simp) (fun y hy => ?_) (by show 1 ≤ 41; decide) (by simp) rfl upd_same (hR5.ne (hR5.out hz)) ((f4'.trans f5).trans (Frm.of (same_upd hz)))⟩
      rw [List.mem_singleton.mp hy]
      exact hxn
end
end B

set_option Elab.async false
set_option linter.all false
set_option maxRecDepth 100000
set_option maxHeartbeats 4000000
namespace B
open PySem PySem.Spec PyProof.Rows L2
open SX (S)
/-! ### dicts of things: texts to truths -/
def kv (kvs : List (Str × Bool)) : List (Key × V) := kvs.map fun p => (Sum.inr p.1, V.bl p.2)
def hasK (kvs : List (Str × Bool)) (x : Str) : Bool := kvs.any fun p => decide (p.1 = x)
def getB (kvs : List (Str × Bool)) (x : Str) : Option Bool := (kvs.find? fun p => decide (p.1 = x)).map (·.2)
def putB (kvs : List (Str × Bool)) (x : Str) (b : Bool) : List (Str × Bool) := if hasK kvs x = true then kvs.map (fun p => if p.1 = x then (p.1, b) else p) else kvs ++ [(x, b)]
def dropB (kvs : List (Str × Bool)) (x : Str) : List (Str × Bool) := kvs.filter fun p => decide (p.1 ≠ x)
theorem inr_dec (a b : Str) : decide ((Sum.inr a : Key) = Sum.inr b) = decide (a = b) := by
  by_cases h : a = b
  · rw [decide_eq_true h, decide_eq_true (by rw [h])]
  · rw [decide_eq_false h, decide_eq_false (fun q => h (Sum.inr.inj q))]
theorem val_kv (kvs : List (Str × Bool)) (x : Str) : valV (kv kvs) (.inr x : Key) = (getB kvs x).map V.bl := by
  induction kvs with
  | nil => rfl
  | cons p r ih =>
    by_cases h : p.1 = x
    · have e1 : valV (kv (p :: r)) (.inr x : Key) = some (.bl p.2) := valV_pos (p := ((Sum.inr p.1 : Key), V.bl p.2)) (r := kv r) (by rw [h])
      rw [e1]
      unfold getB
      rw [List.find?_cons, decide_eq_true h]
      rfl
    · have e1 : valV (kv (p :: r)) (.inr x : Key) = valV (kv r) (.inr x : Key) := valV_neg (p := ((Sum.inr p.1 : Key), V.bl p.2)) (r := kv r) (fun q => h (Sum.inr.inj q))
      rw [e1, ih]
      unfold getB
      rw [List.find?_cons, decide_eq_false h]
theorem any_kv (kvs : List (Str × Bool)) (x : Str) : ((kv kvs).any fun q => decide (q.1 = (Sum.inr x : Key))) = hasK kvs x := by
  induction kvs with
  | nil => rfl
  | cons p r ih =>
    show (decide ((Sum.inr p.1 : Key) = Sum.inr x) || _) = (decide (p.1 = x) || hasK r x)
    rw [inr_dec, ← ih]
    rfl
theorem put_kv (kvs : List (Str × Bool)) (x : Str) (b : Bool) : putK (kv kvs) (.inr x : Key) (.bl b) = kv (putB kvs x b) := by
  unfold putK putB
  rw [any_kv]
  by_cases h : hasK kvs x = true
  · rw [if_pos h, if_pos h]
    unfold kv
    rw [List.map_map, List.map_map]
    refine List.map_congr_left fun p _ => ?_
    by_cases e : p.1 = x
    · show (if (Sum.inr p.1 : Key) = Sum.inr x then _ else _) = ((Sum.inr (if p.1 = x then (p.1, b) else p).1 : Key), V.bl (if p.1 = x then (p.1, b) else p).2)
      rw [if_pos e, if_pos (by rw [e])]
    · show (if (Sum.inr p.1 : Key) = Sum.inr x then _ else _) = ((Sum.inr (if p.1 = x then (p.1, b) else p).1 : Key), V.bl (if p.1 = x then (p.1, b) else p).2)
      rw [if_neg e, if_neg (fun q => e (Sum.inr.inj q))]
  · rw [if_neg h, if_neg h]
    unfold kv
    rw [List.map_append]
    rfl
theorem drop_kv (kvs : List (Str × Bool)) (x : Str) : dropK (kv kvs) (.inr x : Key) = kv (dropB kvs x) := by
  unfold dropK dropB kv
  rw [List.filter_map]
  congr 1
  refine List.filter_congr fun p _ => ?_
  show decide (¬ (Sum.inr p.1 : Key) = Sum.inr x) = decide (¬ p.1 = x)
  by_cases h : p.1 = x
  · simp [h]
  · simp [h]
theorem get_has (kvs : List (Str × Bool)) (x : Str) : (getB kvs x).isSome = hasK kvs x := by
  induction kvs with
  | nil => rfl
  | cons p r ih =>
    unfold getB hasK
    rw [List.find?_cons, List.any_cons]
    by_cases h : p.1 = x
    · rw [decide_eq_true h]
      rfl
    · rw [decide_eq_false h]
      exact ih
theorem some_map_bl (o : Option Bool) : (o.map V.bl).isSome = o.isSome := by cases o <;> rfl
/-- x in the dict at d (it may be locked) -/
theorem dg_has {H : Hp} {d : Addr} {kvs : List (Str × Bool)} (h : Rd H d (.dK (kv kvs))) (x : Str) : DGet H d (.str x) ((getB kvs x).map V.bl) := .inl ⟨kv kvs, .inr x, h, rfl, (val_kv kvs x).symm⟩
theorem dg_get {H : Hp} {d : Addr} {kvs : List (Str × Bool)} {x : Str} {b : Bool} (h : Rd H d (.dK (kv kvs))) (e : getB kvs x = some b) : DGet H d (.str x) (some (.bl b)) := by
  have := dg_has h x
  rw [e] at this
  exact this
theorem dp_put {H : Hp} {d : Addr} {kvs : List (Str × Bool)} (h : H d = some (.dK (kv kvs))) (hl : kvs.length ≤ 1000) (x : Str) (b : Bool) : DPut H d (.str x) (.bl b) (upd H d (.dK (kv (putB kvs x b)))) := by
  have := DPut.k (k := Sum.inr x) (v := V.bl b) h (by unfold kv; rw [List.length_map]; exact small1000 hl)
  rw [put_kv] at this
  exact this
theorem keys_kv (kvs : List (Str × Bool)) : (kv kvs).map (·.1) = (kvs.map (·.1)).map Sum.inr := by
  unfold kv
  rw [List.map_map, List.map_map]
  rfl
/-- a thing of the list is found by its number -/
theorem get_at {kvs : List (Str × Bool)} (hn : (kvs.map (·.1)).Nodup) {i : Nat} {x : Str} {b : Bool} (h : kvs[i]? = some (x, b)) : getB kvs x = some b := by
  induction kvs generalizing i with
  | nil => simp at h
  | cons p r ih =>
    rw [List.map_cons, List.nodup_cons] at hn
    cases i with
    | zero =>
      have e : p = (x, b) := by simpa using h
      subst e
      unfold getB
      rw [List.find?_cons, decide_eq_true rfl]
      rfl
    | succ i =>
      have h' : r[i]? = some (x, b) := by simpa using h
      have hm : x ∈ r.map (·.1) := List.mem_map.mpr ⟨(x, b), List.mem_of_getElem? h', rfl⟩
      have ne : ¬ p.1 = x := fun e => hn.1 (by rw [e]; exact hm)
      unfold getB
      rw [List.find?_cons, decide_eq_false ne]
      exact ih hn.2 h'
theorem kv_at {kvs : List (Str × Bool)} {i : Nat} {k : Key} {v : V} (h : (kv kvs)[i]? = some (k, v)) : ∃ x b, kvs[i]? = some (x, b) ∧ k = Sum.inr x ∧ v = .bl b := by
  unfold kv at h
  rw [List.getElem?_map] at h
  cases e : kvs[i]? with
  | none => rw [e] at h; cases h
  | some p =>
    rw [e] at h
    have := Option.some.inj h
    cases this
    exact ⟨p.1, p.2, rfl, rfl, rfl⟩
theorem take_snoc {α : Type} {l : List α} {i : Nat} {x : α} (h : l[i]? = some x) : l.take (i + 1) = l.take i ++ [x] := by
  rw [List.take_add_one, h]
  rfl
/-- a dict locked, a list made within, the dict free again -/
theorem upd_lock {H : Hp} {d D : Addr} {u f o : HO} (h : H d = some u) (n : d ≠ D) : upd (upd (upd H d f) D o) d u = upd H D o := by
  funext b
  by_cases e1 : b = d
  · rw [e1, upd_same, upd_ne n, h]
  · rw [upd_ne e1]
    by_cases e2 : b = D
    · rw [e2, upd_same, upd_same]
    · rw [upd_ne e2, upd_ne e2, upd_ne e1]
/-! ### the own wire -/
def mkv (W : Nat) (dt ml : Addr) (sd : V) (lk : Int) : List (Key × V) := [(.inr "width", .int W), (.inr "things", .ref dt), (.inr "listening", .ref ml), (.inr "said", sd), (.inr "looks", .int lk)]
def sdV : Option (List Nat) → V
  | none => .non
  | some l => .str (S l)
structure MdAt (H : Hp) (pm dt ml : Addr) (W : Nat) (kvs : List (Str × Bool)) (lm : List Str) (sd : Option (List Nat)) (lk : Int) : Prop where
  ob : H pm = some (.dK (mkv W dt ml (sdV sd) lk))
  li : H ml = some (.lst (lm.map V.str))
  dc : H dt = some (.dK (kv kvs))
section
variable {H : Hp} {pm dt ml : Addr} {W : Nat} {sd : V} {lk : Int}
theorem mv_width : valV (mkv W dt ml sd lk) (.inr "width" : Key) = some (.int W) := by kernel_rfl
theorem mv_things : valV (mkv W dt ml sd lk) (.inr "things" : Key) = some (.ref dt) := by kernel_rfl
theorem mv_listening : valV (mkv W dt ml sd lk) (.inr "listening" : Key) = some (.ref ml) := by kernel_rfl
theorem mv_said : valV (mkv W dt ml sd lk) (.inr "said" : Key) = some sd := by kernel_rfl
theorem mv_looks : valV (mkv W dt ml sd lk) (.inr "looks" : Key) = some (.int lk) := by kernel_rfl
theorem mp_listening {q : Addr} : putK (mkv W dt ml sd lk) (.inr "listening" : Key) (.ref q) = mkv W dt q sd lk := by kernel_rfl
theorem mp_said {v : V} : putK (mkv W dt ml sd lk) (.inr "said" : Key) v = mkv W dt ml v lk := by kernel_rfl
theorem mp_looks {z : Int} : putK (mkv W dt ml sd lk) (.inr "looks" : Key) (.int z) = mkv W dt ml sd z := by kernel_rfl
theorem md_width (h : H pm = some (.dK (mkv W dt ml sd lk))) : DGet H pm (.str "width") (some (.int W)) := by rw [← mv_width (dt := dt) (ml := ml) (sd := sd) (lk := lk)]; exact DGet.k (k := Sum.inr "width") h
theorem md_things (h : H pm = some (.dK (mkv W dt ml sd lk))) : DGet H pm (.str "things") (some (.ref dt)) := by rw [← mv_things (W := W) (dt := dt) (ml := ml) (sd := sd) (lk := lk)]; exact DGet.k (k := Sum.inr "things") h
theorem md_listening (h : H pm = some (.dK (mkv W dt ml sd lk))) : DGet H pm (.str "listening") (some (.ref ml)) := by rw [← mv_listening (W := W) (dt := dt) (ml := ml) (sd := sd) (lk := lk)]; exact DGet.k (k := Sum.inr "listening") h
theorem md_said (h : H pm = some (.dK (mkv W dt ml sd lk))) : DGet H pm (.str "said") (some sd) := by rw [← mv_said (W := W) (dt := dt) (ml := ml) (sd := sd) (lk := lk)]; exact DGet.k (k := Sum.inr "said") h
theorem md_looks (h : H pm = some (.dK (mkv W dt ml sd lk))) : DGet H pm (.str "looks") (some (.int lk)) := by rw [← mv_looks (W := W) (dt := dt) (ml := ml) (sd := sd) (lk := lk)]; exact DGet.k (k := Sum.inr "looks") h
theorem mdp_listening {q : Addr} (h : H pm = some (.dK (mkv W dt ml sd lk))) : DPut H pm (.str "listening") (.ref q) (upd H pm (.dK (mkv W dt q sd lk))) := by rw [← mp_listening (ml := ml)]; exact DPut.k (k := Sum.inr "listening") h (by show 5 < sizeLine; decide)
theorem mdp_said {v : V} (h : H pm = some (.dK (mkv W dt ml sd lk))) : DPut H pm (.str "said") v (upd H pm (.dK (mkv W dt ml v lk))) := by rw [← mp_said (sd := sd)]; exact DPut.k (k := Sum.inr "said") h (by show 5 < sizeLine; decide)
theorem mdp_looks {z : Int} (h : H pm = some (.dK (mkv W dt ml sd lk))) : DPut H pm (.str "looks") (.int z) (upd H pm (.dK (mkv W dt ml sd z))) := by rw [← mp_looks (lk := lk)]; exact DPut.k (k := Sum.inr "looks") h (by show 5 < sizeLine; decide)
theorem mk_merge {u q : Addr} : mergeK [] ([(.inr "width", .int W), (.inr "things", .ref u), (.inr "listening", .ref q), (.inr "said", .non), (.inr "looks", .int 0)] : List (Key × V)) = mkv W u q .non 0 := by kernel_rfl
end
end B

set_option Elab.async false
set_option linter.all false
set_option maxRecDepth 100000
set_option maxHeartbeats 4000000
namespace B
open PySem PySem.Spec PyProof.Rows L2
open SX (S)
/-- the sign at the place n is c -/
def sg (n c : Nat) (x : Str) : Bool := decide (x.cps.toList[n]? = some c)
theorem int_dec (a b : Int) : decide (V.int a = V.int b) = decide (a = b) := by
  by_cases h : a = b
  · rw [decide_eq_true h, decide_eq_true (by rw [h])]
  · rw [decide_eq_false h, decide_eq_false (fun q => h (V.int.inj q))]
theorem str_dec (a b : Str) : decide (V.str a = V.str b) = decide (a = b) := by
  by_cases h : a = b
  · rw [decide_eq_true h, decide_eq_true (by rw [h])]
  · rw [decide_eq_false h, decide_eq_false (fun q => h (V.str.inj q))]
theorem sign_dec (c d : Nat) : decide (V.str ⟨#[c]⟩ = V.str (S [d])) = decide (c = d) := by
  rw [str_dec]
  by_cases h : c = d
  · rw [decide_eq_true h, decide_eq_true (by rw [h])]
  · rw [decide_eq_false h, decide_eq_false (fun q => h (by
      have := SX.S_inj (a := [c]) (b := [d]) q
      exact (List.cons.inj this).1))]
theorem zero_S : ("0" : Str) = S [48] := by decide +kernel
theorem one_S : ("1" : Str) = S [49] := by decide +kernel
theorem sg_at {n c : Nat} {x : Str} (h : x.cps.toList[n]? = some c) (d : Nat) : sg n d x = decide (c = d) := by
  unfold sg
  rw [h]
  by_cases e : c = d
  · rw [decide_eq_true e, decide_eq_true (by rw [e])]
  · rw [decide_eq_false e, decide_eq_false (fun q => e (Option.some.inj q))]
theorem any_step {α : Type} {l : List α} {i : Nat} {x : α} (f : α → Bool) (h : l[i]? = some x) : (l.take (i + 1)).any f = ((l.take i).any f || f x) := by
  rw [take_snoc h, List.any_append]
  simp
theorem at_map {xs : List Str} {i : Nat} {y : V} (h : (xs.map V.str)[i]? = some y) : ∃ x, xs[i]? = some x ∧ y = .str x := by
  rw [List.getElem?_map] at h
  cases e : xs[i]? with
  | none => rw [e] at h; cases h
  | some x =>
    rw [e] at h
    exact ⟨x, rfl, (Option.some.inj h).symm⟩
/-- a number that begins as l does -/
def Beg (W : Nat) (l : List Nat) (x : Str) : Prop := ∃ m, x = S m ∧ m.length = W ∧ Bits m ∧ m.take l.length = l
theorem Beg.num {W : Nat} {l : List Nat} {x : Str} (h : Beg W l x) : Num W x := by
  obtain ⟨m, e, h1, h2, _⟩ := h
  exact ⟨m, e, h1, h2⟩
theorem num_at {W n : Nat} {x : Str} (h : Num W x) (hn : n < W) : ∃ c, (c = 48 ∨ c = 49) ∧ x.cps.toList[n]? = some c ∧ atI x.cps.toList ((n : Nat) : Int) = some c := by
  obtain ⟨l, rfl, e1, b1⟩ := h
  have hl : n < l.length := by omega
  exact ⟨l[n], b1 _ (List.getElem_mem hl), List.getElem?_eq_getElem hl, atI_nat (List.getElem?_eq_getElem hl)⟩
section
variable {P : Program} {w : World} {K : PySem.W.Frag} {mg : Str → Option Value} {base : Heap}
/-- whether some go on with a 0, with a 1 -/
def spLooked (K : PySem.W.Frag) : Sp := fun vs H Q _ => ∃ (ml : Addr) (W : Nat) (l : List Nat) (xs : List Str), vs = [.ref ml, .str (S l)] ∧ H ml = some (.lst (xs.map V.str)) ∧ (∀ x ∈ xs, Beg W l x) ∧ l.length < W ∧ W ≤ 12 ∧
  ∀ (p : Addr) (H' : Hp), H' p = some (.tup [.bl (xs.any (sg l.length 48)), .bl (xs.any (sg l.length 49))]) → Frm [] H H' → Q (.ref p) H'
theorem c_llooked (T : Txt P w K mg base) : CalX CX0 P w K mg base 1 "_law_looked" (spLooked K) := by
  obtain ⟨fd, F⟩ := T.t.def_ 21 (d := d_llooked)
  refine ⟨_, fd, _, F.ok sc_llooked (fun vs H Q E h => ?_) (fun cdv A outer s H vs Q E hr h => ?_), He.glo_ok T.X T.G (T.t.fact 21), F.kp, F.bindsN fun _ _ _ _ _ _ us hl => match us, hl with | [_, _], _ => rfl⟩
  · obtain ⟨ml, W, l, xs, rfl, _⟩ := h
    rfl
  · obtain ⟨ml, W, l, xs, rfl, hm0, hb, hl, hW, k0⟩ := h
    refine ⟨_, PSs.nox (pss_cons (ps_asg (pe_tup (pa_cons pe_bl (pa_cons pe_bl pa_nil))) (pg_tup rfl (pgs_cons (pg_name (i := 2) sc_llooked.nd rfl (Or.inl rfl)) (pgs_cons (pg_name (i := 3) sc_llooked.nd rfl (Or.inl rfl)) pgs_nil))))
    (pss_cons (ps_for PassesOwn.never rfl (pi_list (pv 0)) (pg_name (i := 4) sc_llooked.nd rfl (Or.inl rfl))
      (pss_one (ps_if (pt_cmpR op_eq (pe_slice C8.sl_txt (pv 4) po_none (po_some (pe_callB call_len_str (by rfl) (n_len T) PySem.boot_len (pa_cons (pv 1) pa_nil)))) (pv 1) (nomark _))
        (pss_cons (ps_set (i := 2) sc_llooked.nd rfl (Or.inl rfl) (pe_or (pv 2) (pe_one (pe_cmpR op_eq (pe_ix ix_str (pv 4) (pe_callB call_len_str (by rfl) (n_len T) PySem.boot_len (pa_cons (pv 1) pa_nil)) (fun _ _ => rfl)) pe_str (nomark _)))))
        (pss_one (ps_set (i := 3) sc_llooked.nd rfl (Or.inl rfl) (pe_or (pv 3) (pe_one (pe_cmpR op_eq (pe_ix ix_str (pv 4) (pe_callB call_len_str (by rfl) (n_len T) PySem.boot_len (pa_cons (pv 1) pa_nil)) (fun _ _ => rfl)) pe_str (nomark _)))))))
        pss_nil)))
    (pss_one (ps_ret (pe_tup (pa_cons (pv 2) (pa_cons (pv 3) pa_nil))))))), ?_⟩
    refine ⟨by show 2 ≤ sizeLine; decide, fun t ht => ⟨t, _, rfl, SqT.of upd_same, rfl, _, _, rfl, _, _, rfl, rfl, ?_⟩⟩
    have hm : (upd H t (.tup [.bl false, .bl false])) ml = some (.lst (xs.map V.str)) := same_upd ht _ _ hm0
    have k : ∀ p, (upd H t (.tup [.bl false, .bl false])) p = none → Q (.ref p) (upd (upd H t (.tup [.bl false, .bl false])) p (.tup [.bl (xs.any (sg l.length 48)), .bl (xs.any (sg l.length 49))])) := fun p hp =>
      k0 p _ upd_same (((Frm.refl _ _).new ht).new (upd_back hp))
    generalize (upd H t (.tup [.bl false, .bl false])) = H at hm k ⊢
    refine ⟨_, rfl, ml, rfl, ⟨_, SqL.of hm⟩, for_list (K := K) (a := ml) (xs := xs.map V.str) (fun i σ H' => ∃ v4, σ = [some (.ref ml), some (.str (S l)), some (.bl ((xs.take i).any (sg l.length 48))), some (.bl ((xs.take i).any (sg l.length 49))), v4] ∧ H' = H)
      ⟨none, rfl, rfl⟩ (fun i σ H' _ ⟨_, _, e⟩ => by rw [e]; exact SqL.of hm) ?_ ?_⟩
    · rintro i y σ H' hi ⟨v4, rfl, eH⟩
      subst H'
      obtain ⟨x, hx, rfl⟩ := at_map hi
      have hxb := hb x (List.mem_of_getElem? hx)
      obtain ⟨c, hc, g1, g2⟩ := num_at hxb.num hl
      have ls : ((S l).length : Int) = (l.length : Int) := by rw [SX.S_len]
      have sl : (S l).length ≤ sizeLine := by rw [SX.S_len]; exact size12 (by omega)
      have sx : x.length ≤ sizeLine := by rw [num_len hxb.num]; exact size12 (by omega)
      refine ⟨_, rfl, _, rfl, S l, rfl, sl, _, rfl, x, rfl, sx, _, rfl, rfl, _, rfl, ?_⟩
      have e1 : decide (V.str (Txt.slice x none (some ((S l).length : Int))) = V.str (S l)) = true := by
        obtain ⟨m, rfl, m1, m2, m3⟩ := hxb
        rw [ls, SX.slice_to (by omega), Int.toNat_natCast, m3]
        exact decide_eq_true rfl
      rw [e1]
      rw [← ls] at g2
      have step : ∀ d, (if ((xs.take i).any (sg l.length d)) = true then V.bl true else V.bl (decide (V.str ⟨#[c]⟩ = V.str (S [d])))) = V.bl ((xs.take (i + 1)).any (sg l.length d)) := fun d => by
        rw [any_step _ hx, sg_at g1, sign_dec]
        cases (xs.take i).any (sg l.length d) <;> rfl
      have fin : ∀ v4, (fun (σ : L2.St) (H' : Hp) => ∃ v4, σ = [some (.ref ml), some (.str (S l)), some (.bl ((xs.take (i + 1)).any (sg l.length 48))), some (.bl ((xs.take (i + 1)).any (sg l.length 49))), v4] ∧ H' = H) [some (.ref ml), some (.str (S l)), some (.bl ((xs.take (i + 1)).any (sg l.length 48))), some (.bl ((xs.take (i + 1)).any (sg l.length 49))), v4] H := fun v4 => ⟨v4, rfl, rfl⟩
      have s0 := step 48
      have s1 := step 49
      -- zero = zero or ..
      have two : ∀ z : V, z = V.bl ((xs.take (i + 1)).any (sg l.length 48)) → tAsg (tOrV (tVar 3) (tOp rEq (tOp rIxS (tVar 4) (tCB (fun xs H Q => ∃ a, xs = [.str a] ∧ a.length ≤ sizeLine ∧ Q (.int a.length) H) (tCons (tVar 1) tNil))) (tC (.str "1")))) (gName 3)
          { nx := fun σ H' => ∃ v4, σ = [some (.ref ml), some (.str (S l)), some (.bl ((xs.take (i + 1)).any (sg l.length 48))), some (.bl ((xs.take (i + 1)).any (sg l.length 49))), v4] ∧ H' = H, rt := Q } [some (.ref ml), some (.str (S l)), some z, some (.bl ((xs.take i).any (sg l.length 49))), some (.str x)] H := fun z ez => by
        subst ez
        refine ⟨_, rfl, _, rfl, iteB (fun b => ?_) (fun b => ?_)⟩
        · rw [b] at s1
          refine ⟨some (.str x), ?_, rfl⟩
          rw [← s1]
          rfl
        · rw [b, ← one_S] at s1
          refine ⟨_, rfl, _, rfl, S l, rfl, sl, x, _, c, rfl, rfl, sx, g2, rfl, ?_⟩
          refine ⟨some (.str x), ?_, rfl⟩
          rw [← s1]
          rfl
      refine ⟨_, rfl, _, rfl, iteB (fun b => ?_) (fun b => ?_)⟩
      · rw [b] at s0
        exact two _ s0
      · rw [b, ← zero_S] at s0
        refine ⟨_, rfl, _, rfl, S l, rfl, sl, x, _, c, rfl, rfl, sx, g2, rfl, ?_⟩
        exact two _ s0
    · rintro σ H' ⟨v4, rfl, eH⟩
      subst H'
      rw [List.length_map, List.take_length]
      exact ⟨_, rfl, _, rfl, by show 2 ≤ sizeLine; decide, fun p hp => k p hp⟩
/-- an own wire -/
def spModel : Sp := fun vs H Q _ => ∃ W : Nat, vs = [.int W] ∧ ∀ (pm dt ml : Addr) (H' : Hp), H pm = none → H dt = none → H ml = none → pm ≠ dt → H' pm = some (.dK (mkv W dt ml .non 0)) → H' ml = some (.lst []) → H' dt = some (.dK []) → Frm [] H H' → Q (.ref pm) H'
end
end B

set_option Elab.async false
set_option linter.all false
set_option maxRecDepth 100000
set_option maxHeartbeats 4000000
namespace B
open PySem PySem.Spec PyProof.Rows L2
open SX (S)
/-- who listens in a new round -/
def lisB (kvs : List (Str × Bool)) (all : Bool) : List Str := (kvs.filter fun p => all || p.2).map (·.1)
def wordsB : List Str := ["hang", "off", "alarm", "calm"]
/-- what becomes of a thing: the word of a refusal, the things -/
def deedW (kvs : List (Str × Bool)) (wd x : Str) : Str := if wd = "hang" then (if hasK kvs x = true then "there" else "") else (if hasK kvs x = true then "" else "not")
def deedK (kvs : List (Str × Bool)) (wd x : Str) : List (Str × Bool) :=
  if wd = "hang" then (if hasK kvs x = true then kvs else putB kvs x false) else (if hasK kvs x = true then (if wd = "off" then dropB kvs x else putB kvs x (decide (wd = "alarm"))) else kvs)
def deedL (kvs : List (Str × Bool)) (lm : List Str) (wd x : Str) : List Str := if wd = "off" ∧ hasK kvs x = true then lm.filter (fun y => decide (y ≠ x)) else lm
theorem dig_S (bit : Int) (h : bit = 0 ∨ bit = 1) : Str.ofString (toString bit) = S [48 + bit.toNat] := by
  rcases h with rfl | rfl <;> decide +kernel
theorem filter_step {α : Type} {l : List α} {i : Nat} {x : α} (f : α → Bool) (h : l[i]? = some x) : (l.take (i + 1)).filter f = (l.take i).filter f ++ (if f x = true then [x] else []) := by
  rw [take_snoc h, List.filter_append, List.filter_cons, List.filter_nil]
theorem has_get {kvs : List (Str × Bool)} {x : Str} (h : hasK kvs x = true) : ∃ b, getB kvs x = some b := by
  rw [← get_has] at h
  exact Option.isSome_iff_exists.mp h
section
variable {P : Program} {w : World} {K : PySem.W.Frag} {mg : Str → Option Value} {base : Heap}
/-- a round begun on an own wire -/
def spBegun : Sp := fun vs H Q _ => ∃ (pm dt ml : Addr) (kind : Str) (W : Nat) (kvs : List (Str × Bool)) (lm : List Str) (sd : Option (List Nat)) (lk : Int), vs = [.ref pm, .str kind] ∧ MdAt H pm dt ml W kvs lm sd lk ∧ pm ≠ dt ∧ (kvs.map (·.1)).Nodup ∧ kvs.length ≤ 100 ∧
  ∀ (ml' : Addr) (H' : Hp), H ml' = none → MdAt H' pm dt ml' W kvs (lisB kvs (decide (kind = "all"))) (some []) lk → Frm [pm] H H' → Q .non H'
/-- a bit said on an own wire -/
def spSaid : Sp := fun vs H Q _ => ∃ (pm dt ml : Addr) (bit : Int) (W : Nat) (kvs : List (Str × Bool)) (lm : List Str) (l : List Nat) (lk : Int), vs = [.ref pm, .int bit] ∧ (bit = 0 ∨ bit = 1) ∧ MdAt H pm dt ml W kvs lm (some l) lk ∧ pm ≠ dt ∧ (∀ x ∈ lm, Num W x) ∧ lm.length ≤ 100 ∧ l.length < W ∧ W ≤ 12 ∧
  ∀ (ml' : Addr) (H' : Hp), H ml' = none → MdAt H' pm dt ml' W kvs (lm.filter (sg l.length (48 + bit.toNat))) (some (l ++ [48 + bit.toNat])) lk → Frm [pm] H H' → Q .non H'
end
end B

set_option Elab.async false
set_option linter.all false
set_option maxRecDepth 100000
set_option maxHeartbeats 4000000
namespace B
open PySem PySem.Spec PyProof.Rows L2
open SX (S)
section
variable {P : Program} {w : World} {K : PySem.W.Frag} {mg : Str → Option Value} {base : Heap}
/-- something becomes of a thing of an own wire -/
def spDeed : Sp := fun vs H Q _ => ∃ (pm dt ml : Addr) (wd x : Str) (W : Nat) (kvs : List (Str × Bool)) (lm : List Str) (sd : Option (List Nat)) (lk : Int), vs = [.ref pm, .str wd, .str x] ∧ MdAt H pm dt ml W kvs lm sd lk ∧ pm ≠ dt ∧ kvs.length ≤ 100 ∧ lm.length ≤ 100 ∧
  ∀ (ml' : Addr) (H' : Hp), (ml' = ml ∨ H ml' = none) → MdAt H' pm dt ml' W (deedK kvs wd x) (deedL kvs lm wd x) sd lk → Frm [pm, dt] H H' → Q (.str (deedW kvs wd x)) H'
end
end B

set_option Elab.async false
set_option linter.all false
set_option maxRecDepth 100000
set_option maxHeartbeats 4000000
namespace B
open PySem PySem.Spec PyProof.Rows L2
open SX (S)
/-! ### code tables -/
def tabA (K : PySem.W.Frag) (p : He.Defn) : Addr := (He.cT K p).2
def TL (K : PySem.W.Frag) : List (Addr × Str) := lams.map fun z => (tabA K z.1, z.2)
/-- the tables stand well -/
def Tb (K : PySem.W.Frag) (H : Hp) : Prop := (∀ p ∈ gens, GxR.TabG H (tabA K p)) ∧ LamX.Tabs (TL K) H
/-- as Frm, but code tables may grow -/
structure FrT (K : PySem.W.Frag) (S : List Addr) (H H' : Hp) : Prop where
  k : ∀ b o, H b = some o → isT o = false → b ∉ S → H' b = some o
  b : ∀ b, H' b = none → H b = none
  t : Tb K H → Tb K H'
theorem FrT.refl (K : PySem.W.Frag) (S : List Addr) (H : Hp) : FrT K S H H := ⟨fun _ _ h _ _ => h, fun _ h => h, fun h => h⟩
theorem FrT.trans {K : PySem.W.Frag} {S : List Addr} {H H1 H2 : Hp} (a : FrT K S H H1) (b : FrT K S H1 H2) : FrT K S H H2 := ⟨fun c o h t n => b.k c o (a.k c o h t n) t n, fun c h => a.b c (b.b c h), fun h => b.t (a.t h)⟩
theorem FrT.mono {K : PySem.W.Frag} {S S' : List Addr} {H H1 : Hp} (a : FrT K S H H1) (h : ∀ x ∈ S, x ∈ S') : FrT K S' H H1 := ⟨fun c o e t n => a.k c o e t fun z => n (h c z), a.b, a.t⟩
theorem nl_codeO {c : Addr} {q : Str} : B.nl (LamX.CodeO c q) = false := rfl
theorem Frm.toT {K : PySem.W.Frag} {S : List Addr} {H H' : Hp} (f : Frm S H H') (n : NL S H) : FrT K S H H' := by
  have out : ∀ {p : Addr} {o : HO}, H p = some o → B.nl o = false → p ∉ S := fun {p o} e h z => by
    obtain ⟨u, e2, q⟩ := n p z
    rw [e] at e2
    cases e2
    rw [h] at q
    cases q
  have kp : ∀ {p : Addr} {o : HO}, H p = some o → B.nl o = false → H' p = some o := fun {p o} e h => f.k p o e rfl (out e h)
  refine ⟨fun b o e _ hb => f.k b o e rfl hb, f.b, fun ⟨h1, h2⟩ => ⟨fun p hp => ?_, fun p hp => ?_⟩⟩
  · obtain ⟨ps, e, t⟩ := h1 p hp
    exact ⟨ps, kp e rfl, t⟩
  obtain ⟨qs, e1, t1, a1⟩ := h2 p hp
  refine ⟨qs, kp e1 rfl, t1, fun pos cv hc => ?_⟩
  obtain ⟨c, e2, e3⟩ := a1 pos cv hc
  exact ⟨c, e2, kp e3 nl_codeO⟩
theorem FrT.at {K : PySem.W.Frag} {S : List Addr} {H H' : Hp} {p : Addr} {o : HO} (f : FrT K S H H') (n : NL S H) (h : H p = some o) (h1 : isT o = false) (h2 : B.nl o = false) : H' p = some o :=
  f.k p o h h1 fun z => by
    obtain ⟨u, e, q⟩ := n p z
    rw [h] at e
    cases e
    rw [h2] at q
    cases q
theorem FrT.scr {K : PySem.W.Frag} {S : List Addr} {H H' : Hp} {a : Addr} (f : FrT K S H H') (n : NL S H) (h : Scr K a H) : Scr K a H' := by
  obtain ⟨ns, (h | ⟨u, h⟩) | h⟩ := h
  · exact ⟨ns, .inl (.inl (f.at n h rfl (nl_ints ns)))⟩
  · exact ⟨ns, .inl (.inr ⟨u, f.at n h rfl rfl⟩)⟩
  · exact ⟨ns, .inr h⟩
theorem FrT.row {K : PySem.W.Frag} {S : List Addr} {H H' : Hp} {r a : Addr} (f : FrT K S H H') (hr : r ∉ S) (h : RowAt r a H) : RowAt r a H' := by
  obtain ⟨i, m, b, e, h0⟩ := h
  exact ⟨i, m, b, f.k r _ e rfl hr, h0⟩
section
theorem map_inj {α β : Type} {f : α → β} : ∀ {l : List α}, (l.map f).Nodup → ∀ a ∈ l, ∀ b ∈ l, f a = f b → a = b
  | [], _, a, ha, _, _, _ => absurd ha (by simp)
  | x :: r, h, a, ha, b, hb, e => by
    have n := List.nodup_cons.mp (show (f x :: r.map f).Nodup from h)
    rcases List.mem_cons.mp ha with rfl | ha2 <;> rcases List.mem_cons.mp hb with rfl | hb2
    · rfl
    · exact absurd (List.mem_map.mpr ⟨b, hb2, e.symm⟩) n.1
    · exact absurd (List.mem_map.mpr ⟨a, ha2, e⟩) n.1
    · exact map_inj n.2 a ha2 b hb2 e
theorem gens_tf : ∀ p ∈ gens, p ∈ tf := by decide +kernel
theorem lams_tf : ∀ z ∈ lams, z.1 ∈ tf := by decide +kernel
theorem gl_ne : ∀ p ∈ gens, ∀ z ∈ lams, p ≠ z.1 := by decide +kernel
theorem lams_fun : ∀ a ∈ lams, ∀ b ∈ lams, a.1 = b.1 → a.2 = b.2 := by decide +kernel
theorem tl_mem {K : PySem.W.Frag} {p : He.Defn} {q : Str} (h : (p, q) ∈ lams) : (tabA K p, q) ∈ TL K := List.mem_map.mpr ⟨(p, q), h, rfl⟩
theorem tb_empty {K : PySem.W.Frag} {H : Hp} (h : ∀ p ∈ tf.map (He.cT K), H p.2 = some (.tbl #[])) : Tb K H := by
  have z : ∀ p ∈ tf, H (tabA K p) = some (.tbl #[]) := fun p hp => h (He.cT K p) (List.mem_map.mpr ⟨p, hp, rfl⟩)
  refine ⟨fun p hp => ⟨#[], z p (gens_tf p hp), True.intro⟩, fun p hp => ?_⟩
  obtain ⟨y, hy, rfl⟩ := List.mem_map.mp hp
  exact .nil (z y.1 (lams_tf y hy))
variable {P : Program} {w : World} {K : PySem.W.Frag} {mg : Str → Option Value} {base : Heap}
theorem ex_nd (T : Txt P w K mg base) : (tf.map fun p => (He.cT K p).2).Nodup := of_decide_eq_true (He.ba T.m).1
theorem ex_tup (T : Txt P w K mg base) : exTup K = true := (He.ba (He.ba T.m).2).1
theorem ex_exc (T : Txt P w K mg base) : exExc K = true := (He.ba (He.ba T.m).2).2
theorem tab_inj (T : Txt P w K mg base) {p q : He.Defn} (hp : p ∈ tf) (hq : q ∈ tf) (e : tabA K p = tabA K q) : p = q := map_inj (f := fun p => (He.cT K p).2) (ex_nd T) p hp q hq e
theorem tb_g (T : Txt P w K mg base) {p : He.Defn} (hp : p ∈ tf) : GxR.TabB base mg (He.codeOf K p) (tabA K p) := by
  have h := T.tb p hp
  exact ⟨h.code, h.bm, h.gP⟩
/-- a generator's table grows -/
theorem tb_gen (T : Txt P w K mg base) {p : He.Defn} (hp : p ∈ gens) {H H1 : Hp} (ht : Tb K H) (hT : GxR.Tabbed (tabA K p) H H1) : FrT K [] H H1 ∧ Tb K H1 := by
  have off : ∀ {b : Addr}, b ≠ tabA K p → H1 b = H b := fun h => hT.2 _ h
  obtain ⟨ps0, e0, t0⟩ := ht.1 p hp
  have tb : Tb K H1 := by
    refine ⟨fun q hq => ?_, fun z hz => ?_⟩
    · by_cases c : tabA K q = tabA K p
      · rw [c]
        exact hT.1
      · obtain ⟨ps, e, t⟩ := ht.1 q hq
        exact ⟨ps, by rw [off c]; exact e, t⟩
    · obtain ⟨y, hy, rfl⟩ := List.mem_map.mp hz
      have ne : tabA K y.1 ≠ tabA K p := fun c => gl_ne p hp y hy (tab_inj T (gens_tf p hp) (lams_tf y hy) c.symm)
      obtain ⟨qs, e1, t1, a1⟩ := ht.2 _ hz
      refine ⟨qs, by rw [off ne]; exact e1, t1, fun pos cv hc => ?_⟩
      obtain ⟨c, e2, e3⟩ := a1 pos cv hc
      refine ⟨c, e2, ?_⟩
      rw [off (fun z => ?_)]
      · exact e3
      · rw [z, e0] at e3
        exact LamX.codeO_ne ps0 (Option.some.inj e3).symm
  refine ⟨⟨fun b o hb hto _ => ?_, fun b hb => ?_, fun _ => tb⟩, tb⟩
  · by_cases q : b = tabA K p
    · rw [q, e0] at hb
      cases hb
      cases hto
    · rw [off q]
      exact hb
  · by_cases q : b = tabA K p
    · obtain ⟨ps, z, _⟩ := hT.1
      rw [q, z] at hb
      cases hb
    · rw [off q] at hb
      exact hb
/-- a lambda's table grows -/
theorem tb_grow (T : Txt P w K mg base) {p : He.Defn} {q : Str} (hp : (p, q) ∈ lams) {H H1 : Hp} (ht : Tb K H) (f1 : ∀ b o, H b = some o → b ≠ tabA K p → H1 b = some o) (f2 : ∀ b, H1 b = none → H b = none) (t : LamX.TabS H1 (tabA K p) q) : FrT K [] H H1 ∧ Tb K H1 := by
  obtain ⟨qs0, e0, t0, a0⟩ := ht.2 _ (tl_mem hp)
  have tb : Tb K H1 := by
    refine ⟨fun g hg => ?_, fun z hz => ?_⟩
    · have ne : tabA K g ≠ tabA K p := fun c => gl_ne g hg (p, q) hp (tab_inj T (gens_tf g hg) (lams_tf _ hp) c)
      obtain ⟨ps, e, tr⟩ := ht.1 g hg
      exact ⟨ps, f1 _ _ e ne, tr⟩
    · obtain ⟨y, hy, rfl⟩ := List.mem_map.mp hz
      by_cases c : tabA K y.1 = tabA K p
      · have e := tab_inj T (lams_tf y hy) (lams_tf _ hp) c
        have e2 := lams_fun y hy (p, q) hp e
        show LamX.TabS H1 (tabA K y.1) y.2
        rw [c, e2]
        exact t
      · obtain ⟨qs, e1, t1, a1⟩ := ht.2 _ hz
        refine ⟨qs, f1 _ _ e1 c, t1, fun pos cv hc => ?_⟩
        obtain ⟨c', e2, e3⟩ := a1 pos cv hc
        refine ⟨c', e2, f1 _ _ e3 fun y => ?_⟩
        rw [y, e0] at e3
        exact LamX.codeO_ne qs0 (Option.some.inj e3).symm
  refine ⟨⟨fun b o e hb _ => f1 b o e fun y => ?_, f2, fun _ => tb⟩, tb⟩
  rw [y, e0] at e
  cases e
  cases hb
/-- a def whose code object is known -/
theorem okT {x qual : Str} {params : Arguments} {body : List Stmt} {scope : Scope} {dvs : List V} {kws : List (Str × V)} {p : He.Defn} {fd : FuncData} {CX : CXT} {N ps : List Str} {k : Nat} {sp : Sp} (F : FunD K x qual params body scope dvs kws (He.fAd K p) fd) (S : FnScope N ps scope)
    (len : ∀ vs H Q E, sp vs H Q E → vs.length = ps.length)
    (hbody : ∀ (A : Around) (outer : List Env) (s : Shared) (H : Hp) (vs : List V) (Q : VK) (E : XK), Room k (A.deeper (envOfC qual scope s.heap.objs.size (He.fAd K p) (.ref (He.codeOf K p)))) → sp vs H Q E →
      ∃ t, PSs (cxOf CX P w K mg base N qual scope (He.fAd K p) (.ref (He.codeOf K p)) A outer s H E) body t ∧ t { nx := fun _ H' => Q .non H', rt := Q } (L2.start N vs) H) : FnOk P w K mg base CX (k + 1) (He.fAd K p) fd ps sp := by
  obtain ⟨oc, od, dV, kV, doc, pm, an, cdv, ct, osl, rfl, lk, hcd, _, _⟩ := F.ex
  obtain ⟨c, rfl⟩ := He.codeIn_ref hcd
  have e : He.codeOf K p = c := He.codeOf_eq lk rfl
  subst e
  exact fn_of lk hcd S len hbody
def genB (scope : Scope) (x : Str) : Bool := (match scope.kind with | .function => true | _ => false) && (!scope.isCoroutine && (scope.names.all (fun y => match y.2 with | .cell => false | .free => false | _ => true) && (decide (scope.names.lookup (".0" : Str) = some NameKind.local) && decide (scope.names.lookup x = some NameKind.local))))
theorem gens_by {env : Env} {scope : Scope} {x : Str} (h : genB scope x = true) : GxR.GenS env scope x := by
  obtain ⟨h1, h⟩ := He.ba h
  obtain ⟨h2, h⟩ := He.ba h
  obtain ⟨h3, h⟩ := He.ba h
  obtain ⟨h4, h5⟩ := He.ba h
  have q := List.all_eq_true.mp h3
  refine ⟨?_, ?_, fun y hy e => ?_, of_decide_eq_true h4, of_decide_eq_true h5, fun y hy e => ?_⟩
  · split at h1
    · assumption
    · cases h1
  · simpa using h2
  · have := q y hy
    rw [e] at this
    cases this
  · have := q y hy
    rw [e] at this
    cases this
theorem elt_in {prog : Program} {w : World} {scope : Scope} {x k : Str} {j : Nat} {p1 p2 p3 : Pos} (hk : scope.kind = .function) (hl : scope.names.lookup x = some .local) (hd : (x == ("__debug__" : Str)) = false := by decide) :
    GxR.EltP prog w scope x (.Compare (.Name x p1) [.In] [.Constant (.str k) j p2] p3) (fun c => decide (c ∈ k.cps.toList)) := by
  intro cenv A' E' c t s2 m2 hs hn hm
  refine wpAny_Compare1 ?_
  refine wpAny_Name (wpAny_loadName_local (by rw [hs]; exact hk) (show cenv.scope.names.lookup x = some .local by rw [hs]; exact hl) hn hm ?_) hd
  refine Calls.Constant_str (PyProof.Rows.in_str ⟨?_, GxR.keeps_tok _ _⟩)
  exact congrArg Value.bool (PySem.StrLaws.found_one k c)
end
theorem FrT.fresh {K : PySem.W.Frag} {T : List Addr} {H H1 H2 : Hp} (a : FrT K [] H H1) (b : FrT K T H1 H2) (h : ∀ x ∈ T, H x = none) : FrT K [] H H2 :=
  ⟨fun c o e t _ => b.k c o (a.k c o e t (by simp)) t fun z => (by rw [h c z] at e; cases e), fun c z => a.b c (b.b c z), fun z => b.t (a.t z)⟩
theorem Frm.fresh {T : List Addr} {H H1 H2 : Hp} (a : Frm [] H H1) (b : Frm T H1 H2) (h : ∀ x ∈ T, H x = none) : Frm [] H H2 :=
  ⟨fun c o e t _ => b.k c o (a.k c o e t (by simp)) t fun z => (by rw [h c z] at e; cases e), fun c z => a.b c (b.b c z)⟩
theorem tb_upd {K : PySem.W.Frag} {H : Hp} {b : Addr} {xs : List V} {o : HO} (h : Tb K H) (hb : H b = some (.lst xs)) : Tb K (upd H b o) := by
  obtain ⟨h1, h2⟩ := h
  refine ⟨fun p hp => ?_, fun p hp => ?_⟩
  · obtain ⟨ps, e, t⟩ := h1 p hp
    refine ⟨ps, ?_, t⟩
    rw [upd_ne (ne_of e hb (by intro z; cases z))]
    exact e
  · obtain ⟨qs, e1, t1, a1⟩ := h2 p hp
    refine ⟨qs, ?_, t1, fun pos cv hc => ?_⟩
    · rw [upd_ne (ne_of e1 hb (by intro z; cases z))]
      exact e1
    · obtain ⟨c, e2, e3⟩ := a1 pos cv hc
      refine ⟨c, e2, ?_⟩
      rw [upd_ne (ne_of e3 hb (by intro z; cases z))]
      exact e3
theorem FrT.putN {K : PySem.W.Frag} {H H1 : Hp} {b : Addr} {xs : List V} {o : HO} (a : FrT K [] H H1) (h : H b = none) (hb : H1 b = some (.lst xs)) : FrT K [] H (upd H1 b o) :=
  ⟨fun c u e t n => by
    rw [upd_ne (ne_of_none e h)]
    exact a.k c u e t n, fun c z => a.b c (upd_back z), fun z => tb_upd (a.t z) hb⟩
end B

set_option Elab.async false
set_option linter.all false
set_option maxRecDepth 100000
set_option maxHeartbeats 4000000
namespace B
open PySem PySem.Spec PyProof.Rows L2
open SX (S)
section
variable {P : Program} {w : World} {K : PySem.W.Frag} {mg : Str → Option Value} {base : Heap}
theorem num_gen : pd_is_number ∈ gens := by decide +kernel
/-- a text of so many signs 0 and 1 is a number -/
def spIsNum (K : PySem.W.Frag) : Sp := fun vs H Q _ => ∃ (W : Nat) (x : Str), vs = [.int W, .str x] ∧ Num W x ∧ W ≤ 12 ∧ Tb K H ∧ ∀ H', FrT K [] H H' → Q (.bl true) H'
theorem c_is_number (T : Txt P w K mg base) : CalX CX0 P w K mg base 1 "is_number" (spIsNum K) := by
  obtain ⟨fd, F⟩ := T.t.def_ 2 (d := d_is_number)
  refine ⟨_, fd, _, okT (p := pd_is_number) F sc_is_number (fun vs H Q E h => ?_) (fun A outer s H vs Q E hr h => ?_), He.glo_ok T.X T.G (T.t.fact 2), F.kp, F.bindsN fun _ _ _ _ _ _ us hl => match us, hl with | [_, _], _ => rfl⟩
  · obtain ⟨W, x, rfl, _⟩ := h
    rfl
  · obtain ⟨W, x, rfl, hx, hW, ht, k⟩ := h
    refine ⟨_, PSs.nox (pss_cons (ps_if (PW.pt (pw_or (pt_not (pt_val (pe_callB call_isi (by rfl) (n_isinstance T) (by decide +kernel) (pa_cons (pv 1) (pa_cons (pe_bltn (v := .ty "str") (u := .type "str") rfl (n_str T) (by decide +kernel) rfl) pa_nil))))) (pw_or1 (pt_cmpR op_ne (pe_callB call_len_str (by rfl) (n_len T) PySem.boot_len (pa_cons (pv 1) pa_nil)) (pv 0) (nomark _)))))
      (pss_one (ps_ret pe_bl))
      pss_nil)
    (pss_one (ps_ret (GxR.pe_allS hr rfl (n_all T) (by decide +kernel) (tb_g T (p := pd_is_number) (by decide +kernel)) rfl (gens_by (by decide +kernel)) (pv 1) (elt_in rfl rfl) (fun _ => rfl))))), ?_⟩
    refine ⟨_, rfl, .str x, .ty "str", .type "str", .type "str", true, rfl, .ty "str", .base (.str x), kit_ty (by decide +kernel), true, rfl, ?_⟩
    refine ⟨_, rfl, x, rfl, by rw [num_len hx]; exact size12 (by omega), _, rfl, rfl, _, rfl, ?_⟩
    rw [num_len hx, decide_eq_true rfl]
    refine ⟨_, rfl, x, rfl, ht.1 _ num_gen, fun H2 hT => ?_⟩
    have e : x.cps.toList.all (fun c => decide (c ∈ ("01" : Str).cps.toList)) = true := by
      obtain ⟨l, rfl, _, b⟩ := hx
      refine List.all_eq_true.mpr fun c hc => ?_
      rcases b c hc with rfl | rfl <;> decide +kernel
    rw [e]
    exact k H2 (tb_gen T num_gen ht hT).1
end
end B

set_option Elab.async false
set_option linter.all false
set_option maxRecDepth 100000
set_option maxHeartbeats 4000000
namespace B
open PySem PySem.Spec PyProof.Rows L2
open SX (S)
/-! ### the wire's object -/
def wfl (W : Nat) (dh dl : Addr) (ms lk : Int) : List (Str × V) := [("width", .int W), ("_hanging", .ref dh), ("_listening", .ref dl), ("_many_said", .int ms), ("_many_looks", .int lk)]
abbrev WC (K : PySem.W.Frag) : Addr := He.ga K "Wire"
structure WiAt (K : PySem.W.Frag) (H : Hp) (pw dh dl : Addr) (W : Nat) (kvs : List (Str × Bool)) (lw : List Str) (ms lk : Int) : Prop where
  ob : ∃ dx, H pw = some (.ins (WC K) dx (wfl W dh dl ms lk))
  li : H dl = some (.lst (lw.map V.str))
  dc : H dh = some (.dK (kv kvs))
section
variable {W : Nat} {dh dl q : Addr} {ms lk z : Int}
theorem wl_width : (wfl W dh dl ms lk).lookup ("width" : Str) = some (.int W) := by kernel_rfl
theorem wl_hanging : (wfl W dh dl ms lk).lookup ("_hanging" : Str) = some (.ref dh) := by kernel_rfl
theorem wl_listening : (wfl W dh dl ms lk).lookup ("_listening" : Str) = some (.ref dl) := by kernel_rfl
theorem wl_said : (wfl W dh dl ms lk).lookup ("_many_said" : Str) = some (.int ms) := by kernel_rfl
theorem wl_looks : (wfl W dh dl ms lk).lookup ("_many_looks" : Str) = some (.int lk) := by kernel_rfl
theorem wp_listening : putF "_listening" (.ref q) (wfl W dh dl ms lk) = wfl W dh q ms lk := by kernel_rfl
theorem wp_said : putF "_many_said" (.int z) (wfl W dh dl ms lk) = wfl W dh dl z lk := by kernel_rfl
theorem wp_looks : putF "_many_looks" (.int z) (wfl W dh dl ms lk) = wfl W dh dl ms z := by kernel_rfl
theorem wp_new : putF "_many_looks" (.int 0) (putF "_many_said" (.int W) (putF "_listening" (.ref dl) (putF "_hanging" (.ref dh) (putF "width" (.int W) [])))) = wfl W dh dl W 0 := by kernel_rfl
theorem wl_len : (wfl W dh dl ms lk).length < 1000 := by show 5 < 1000; decide
end
section
variable {P : Program} {w : World} {K : PySem.W.Frag} {mg : Str → Option Value} {base : Heap}
end
section
variable {X : Cx}
end
/-- what stands of a wire stands behind what changes other things -/
theorem WiAt.stay {K : PySem.W.Frag} {S : List Addr} {H H' : Hp} {pw dh dl : Addr} {W : Nat} {kvs : List (Str × Bool)} {lw : List Str} {ms lk : Int} (h : WiAt K H pw dh dl W kvs lw ms lk) (f : FrT K S H H') (n : NL S H) (h1 : pw ∉ S) (h2 : dh ∉ S) : WiAt K H' pw dh dl W kvs lw ms lk := by
  obtain ⟨⟨dx, a⟩, b, c⟩ := h
  exact ⟨⟨dx, f.k _ _ a rfl h1⟩, f.at n b rfl (nl_strs lw), f.k _ _ c rfl h2⟩
theorem WiAt.keep {K : PySem.W.Frag} {S : List Addr} {H H' : Hp} {pw dh dl : Addr} {W : Nat} {kvs : List (Str × Bool)} {lw : List Str} {ms lk : Int} (h : WiAt K H pw dh dl W kvs lw ms lk) (f : FrT K S H H') (h1 : pw ∉ S) (h2 : dh ∉ S) (h3 : dl ∉ S) : WiAt K H' pw dh dl W kvs lw ms lk := by
  obtain ⟨⟨dx, a⟩, b, c⟩ := h
  exact ⟨⟨dx, f.k _ _ a rfl h1⟩, f.k _ _ b rfl h3, f.k _ _ c rfl h2⟩
theorem MdAt.stay {K : PySem.W.Frag} {S : List Addr} {H H' : Hp} {pm dt ml : Addr} {W : Nat} {kvs : List (Str × Bool)} {lm : List Str} {sd : Option (List Nat)} {lk : Int} (h : MdAt H pm dt ml W kvs lm sd lk) (f : FrT K S H H') (n : NL S H) (h1 : pm ∉ S) (h2 : dt ∉ S) : MdAt H' pm dt ml W kvs lm sd lk := by
  obtain ⟨a, b, c⟩ := h
  exact ⟨f.k _ _ a rfl h1, f.at n b rfl (nl_strs lm), f.k _ _ c rfl h2⟩
theorem MdAt.keep {K : PySem.W.Frag} {S : List Addr} {H H' : Hp} {pm dt ml : Addr} {W : Nat} {kvs : List (Str × Bool)} {lm : List Str} {sd : Option (List Nat)} {lk : Int} (h : MdAt H pm dt ml W kvs lm sd lk) (f : FrT K S H H') (h1 : pm ∉ S) (h2 : dt ∉ S) (h3 : ml ∉ S) : MdAt H' pm dt ml W kvs lm sd lk := by
  obtain ⟨a, b, c⟩ := h
  exact ⟨f.k _ _ a rfl h1, f.k _ _ b rfl h3, f.k _ _ c rfl h2⟩
theorem WiAt.ne {K : PySem.W.Frag} {H : Hp} {pw dh dl : Addr} {W : Nat} {kvs : List (Str × Bool)} {lw : List Str} {ms lk : Int} (h : WiAt K H pw dh dl W kvs lw ms lk) : pw ≠ dh := by
  obtain ⟨⟨dx, a⟩, b, c⟩ := h
  exact ne_of a c (by intro z; cases z)
theorem WiAt.nl {K : PySem.W.Frag} {H : Hp} {pw dh dl : Addr} {W : Nat} {kvs : List (Str × Bool)} {lw : List Str} {ms lk : Int} (h : WiAt K H pw dh dl W kvs lw ms lk) : NL [pw, dh] H := by
  obtain ⟨⟨dx, a⟩, b, c⟩ := h
  exact .cons a rfl (.cons c rfl .nil)
theorem WiAt.nl1 {K : PySem.W.Frag} {H : Hp} {pw dh dl : Addr} {W : Nat} {kvs : List (Str × Bool)} {lw : List Str} {ms lk : Int} (h : WiAt K H pw dh dl W kvs lw ms lk) : NL [pw] H := by
  obtain ⟨⟨dx, a⟩, b, c⟩ := h
  exact .cons a rfl .nil
section
variable {P : Program} {w : World} {K : PySem.W.Frag} {mg : Str → Option Value} {base : Heap}
def spReqWidth : Sp := fun vs H Q _ => ∃ W : Nat, vs = [.int W] ∧ 1 ≤ W ∧ W ≤ 12 ∧ Q .non H
theorem c_require_width (T : Txt P w K mg base) : CalX CX0 P w K mg base 1 "require_width" spReqWidth := by
  obtain ⟨fd, F⟩ := T.t.def_ 0 (d := d_require_width)
  refine ⟨_, fd, _, F.ok sc_require_width (fun vs H Q E h => ?_) (fun cdv A outer s H vs Q E hr h => ?_), He.glo_ok T.X T.G (T.t.fact 0), F.kp, F.bindsN fun _ _ _ _ _ _ us hl => match us, hl with | [_], _ => rfl⟩
  · obtain ⟨W, rfl, _⟩ := h
    rfl
  · obtain ⟨W, rfl, h1, h2, k⟩ := h
    refine ⟨_, PSs.nox (pss_one (ps_if (PW.pt (pw_or (pt_val (pe_callB call_isi (by rfl) (n_isinstance T) (by decide +kernel) (pa_cons (pv 0) (pa_cons (pe_bltn (v := .ty "bool") (u := .type "bool") rfl (n_bool T) (by decide +kernel) rfl) pa_nil)))) (pw_or1 (pt_not (pt_chain op_le op_le (g_LEAST_WIDTH T) (pv 0) (g_GREATEST_WIDTH T))))))
      (pss_one ps_never)
      pss_nil)), ?_⟩
    refine ⟨_, rfl, .int W, .ty "bool", .type "int", .type "bool", false, rfl, .ty "bool", .base (.int W), kit_ty (by decide +kernel), false, rfl, ?_⟩
    refine ⟨_, rfl, 1, W, rfl, rfl, _, rfl, ?_⟩
    rw [decide_eq_true (show (1 : Int) ≤ (W : Int) by omega)]
    refine ⟨W, 12, rfl, rfl, _, rfl, ?_⟩
    rw [decide_eq_true (show (W : Int) ≤ 12 by omega)]
    exact k
def spReqNum (K : PySem.W.Frag) : Sp := fun vs H Q _ => ∃ (W : Nat) (x : Str), vs = [.int W, .str x] ∧ Num W x ∧ W ≤ 12 ∧ Tb K H ∧ ∀ H', FrT K [] H H' → Q .non H'
theorem c_require_number (T : Txt P w K mg base) : CalX CX0 P w K mg base 2 "require_number" (spReqNum K) := by
  obtain ⟨fd, F⟩ := T.t.def_ 1 (d := d_require_number)
  refine ⟨_, fd, _, F.ok sc_require_number (fun vs H Q E h => ?_) (fun cdv A outer s H vs Q E hr h => ?_), He.glo_ok T.X T.G (T.t.fact 1), F.kp, F.bindsN fun _ _ _ _ _ _ us hl => match us, hl with | [_, _], _ => rfl⟩
  · obtain ⟨W, x, rfl, _⟩ := h
    rfl
  · obtain ⟨W, x, rfl, hx, hW, ht, k⟩ := h
    refine ⟨_, PSs.nox (pss_one (ps_if (pt_not (pt_val (pe_cx (c_is_number T) hr (by decide) rfl pass0 (pa_cons (pv 0) (pa_cons (pv 1) pa_nil)))))
      (pss_one ps_never)
      pss_nil)), ?_⟩
    exact ⟨_, rfl, _, rfl, W, x, rfl, hx, hW, ht, fun H' f => ⟨true, rfl, k H' f⟩⟩
theorem tup_K {x : Str} {vs : List V} (h : tupB K x vs = true) (hl : vs.length ≤ sizeLine) (H : Hp) : SqT K H (He.ga K x) vs := by
  unfold tupB at h
  split at h
  · rename_i t dd its n sl e
    obtain ⟨h1, h2⟩ := He.ba h
    have e1 : t = "tuple" := of_decide_eq_true h1
    subst e1
    have rl := He.relAll_ok h2
    refine .inr ⟨_, its, n, e, rfl, rfl, ?_, rl⟩
    have z : vs.length = its.toList.length := Paired.length rl
    have y : its.toList.length = its.size := by simp
    omega
  · cases h
def spReqKind : Sp := fun vs H Q _ => ∃ k : Str, vs = [.str k] ∧ (k = "all" ∨ k = "alarm") ∧ Q .non H
/-! ### a wire made -/
def spInit (K : PySem.W.Frag) : Sp := fun vs H Q _ => ∃ (pw dx : Addr) (W : Nat), vs = [.ref pw, .int W] ∧ H pw = some (.ins (WC K) dx []) ∧ 1 ≤ W ∧ W ≤ 12 ∧ ∀ (dh dl : Addr) (H' : Hp), H dh = none → H dl = none → H' pw = some (.ins (WC K) dx (wfl W dh dl W 0)) → H' dl = some (.lst []) → H' dh = some (.dK []) → Frm [pw] H H' → Q .non H'
end
end B

set_option Elab.async false
set_option linter.all false
set_option maxRecDepth 100000
set_option maxHeartbeats 4000000
namespace B
open PySem PySem.Spec PyProof.Rows L2
open SX (S)
section
variable {W : Nat} {dh dl : Addr} {ms lk : Int}
theorem wx_hung : (wfl W dh dl ms lk).lookup ("hung" : Str) = none := by kernel_rfl
theorem wx_alarms : (wfl W dh dl ms lk).lookup ("alarms" : Str) = none := by kernel_rfl
theorem wx_reqh : (wfl W dh dl ms lk).lookup ("_require_hanging" : Str) = none := by kernel_rfl
theorem wx_reqr : (wfl W dh dl ms lk).lookup ("_require_round" : Str) = none := by kernel_rfl
theorem wx_hang : (wfl W dh dl ms lk).lookup ("hang" : Str) = none := by kernel_rfl
theorem wx_off : (wfl W dh dl ms lk).lookup ("off" : Str) = none := by kernel_rfl
theorem wx_alarm : (wfl W dh dl ms lk).lookup ("alarm" : Str) = none := by kernel_rfl
theorem wx_calm : (wfl W dh dl ms lk).lookup ("calm" : Str) = none := by kernel_rfl
theorem wx_begin : (wfl W dh dl ms lk).lookup ("begin" : Str) = none := by kernel_rfl
theorem wx_look : (wfl W dh dl ms lk).lookup ("look" : Str) = none := by kernel_rfl
theorem wx_say : (wfl W dh dl ms lk).lookup ("say" : Str) = none := by kernel_rfl
theorem wx_looks : (wfl W dh dl ms lk).lookup ("looks" : Str) = none := by kernel_rfl
end
theorem lisB_all (kvs : List (Str × Bool)) : lisB kvs true = kvs.map (·.1) := by
  unfold lisB
  have : kvs.filter (fun p => true || p.2) = kvs := List.filter_eq_self.mpr fun p _ => rfl
  rw [this]
theorem lisB_len (kvs : List (Str × Bool)) (b : Bool) : (lisB kvs b).length ≤ kvs.length := by
  unfold lisB
  rw [List.length_map]
  exact List.length_filter_le _ _
section
variable {P : Program} {w : World} {K : PySem.W.Frag} {mg : Str → Option Value} {base : Heap}
def spLooks (K : PySem.W.Frag) : Sp := fun vs H Q _ => ∃ (pw dh dl : Addr) (W : Nat) (kvs : List (Str × Bool)) (lw : List Str) (ms lk : Int), vs = [.ref pw] ∧ WiAt K H pw dh dl W kvs lw ms lk ∧ Q (.int lk) H
def spRound (K : PySem.W.Frag) : Sp := fun vs H Q E => ∃ (pw dh dl : Addr) (W : Nat) (kvs : List (Str × Bool)) (lw : List Str) (ms lk : Int), vs = [.ref pw] ∧ WiAt K H pw dh dl W kvs lw ms lk ∧ (ms = W → E (.ref (He.ga K "NoRound")) none H) ∧ (ms ≠ W → Q .non H)
/-- all that hang, rising -/
def spHung (K : PySem.W.Frag) : Sp := fun vs H Q _ => ∃ (pw dh dl : Addr) (W : Nat) (kvs : List (Str × Bool)) (lw : List Str) (ms lk : Int), vs = [.ref pw] ∧ WiAt K H pw dh dl W kvs lw ms lk ∧ kvs.length < 64 ∧
  ∀ (ys : List Str) (p : Addr) (H' : Hp), ys.Perm (kvs.map (·.1)) → sortedS ys = true → H p = none → H' p = some (.lst (ys.map V.str)) → Frm [] H H' → Q (.ref p) H'
/-- all that have an alarm, rising -/
def spAlarms (K : PySem.W.Frag) : Sp := fun vs H Q _ => ∃ (pw dh dl : Addr) (W : Nat) (kvs : List (Str × Bool)) (lw : List Str) (ms lk : Int), vs = [.ref pw] ∧ WiAt K H pw dh dl W kvs lw ms lk ∧ kvs.length < 64 ∧ (kvs.map (·.1)).Nodup ∧
  ∀ (ys : List Str) (p : Addr) (H' : Hp), ys.Perm (lisB kvs false) → sortedS ys = true → H p = none → H' p = some (.lst (ys.map V.str)) → Frm [] H H' → Q (.ref p) H'
/-- a round begun -/
def spBegin (K : PySem.W.Frag) : Sp := fun vs H Q _ => ∃ (pw dh dl : Addr) (kind : Str) (W : Nat) (kvs : List (Str × Bool)) (lw : List Str) (ms lk : Int), vs = [.ref pw, .str kind] ∧ (kind = "all" ∨ kind = "alarm") ∧ WiAt K H pw dh dl W kvs lw ms lk ∧ kvs.length < 64 ∧ (kvs.map (·.1)).Nodup ∧
  ∀ (ys : List Str) (dl' : Addr) (H' : Hp), ys.Perm (lisB kvs (decide (kind = "all"))) → H dl' = none → WiAt K H' pw dh dl' W kvs ys 0 lk → Frm [pw] H H' → Q .non H'
end
end B

set_option Elab.async false
set_option linter.all false
set_option maxRecDepth 100000
set_option maxHeartbeats 4000000
namespace B
open PySem PySem.Spec PyProof.Rows L2
open SX (S)
/-- the sign at a place -/
def sgn (n : Nat) (x : Str) : Nat := x.cps.toList.getD n 0
theorem sgn_at {n c : Nat} {x : Str} (h : x.cps.toList[n]? = some c) : sgn n x = c := by
  unfold sgn
  rw [List.getD_eq_getElem?_getD, h]
  rfl
theorem flat_sgn (n : Nat) (xs : List Str) : (xs.map fun x => V.str (S [sgn n x])).all flatV = true := by
  induction xs with
  | nil => rfl
  | cons x r ih => rw [List.map_cons, List.all_cons, ih]; rfl
theorem inV_sgn {W n d : Nat} (hn : n < W) : ∀ xs : List Str, (∀ x ∈ xs, Num W x) → inV (.str (S [d])) (xs.map fun x => V.str (S [sgn n x])) = xs.any (sg n d)
  | [], _ => rfl
  | x :: r, h => by
    have ih := inV_sgn (d := d) hn r fun y hy => h y (List.mem_cons_of_mem _ hy)
    obtain ⟨c, _, g1, _⟩ := num_at (h x List.mem_cons_self) hn
    show (eqV (.str (S [sgn n x])) (.str (S [d])) || inV (.str (S [d])) (r.map fun x => V.str (S [sgn n x]))) = (sg n d x || r.any (sg n d))
    rw [ih, sgn_at g1, sg_at g1]
    congr 1
    show (S [c] == S [d]) = decide (c = d)
    rw [SX.S_beq_eq]
    by_cases e : c = d
    · rw [decide_eq_true e, decide_eq_true (by rw [e])]
    · rw [decide_eq_false e, decide_eq_false (fun q => e (List.cons.inj q).1)]
section
variable {P : Program} {w : World} {K : PySem.W.Frag} {mg : Str → Option Value} {base : Heap}
/-- a look -/
def spLook (K : PySem.W.Frag) : Sp := fun vs H Q E => ∃ (pw dh dl : Addr) (W : Nat) (kvs : List (Str × Bool)) (lw : List Str) (ms lk : Int), vs = [.ref pw] ∧ WiAt K H pw dh dl W kvs lw ms lk ∧ W ≤ 12 ∧ 0 ≤ ms ∧ ms ≤ W ∧ (∀ x ∈ lw, Num W x) ∧ lw.length ≤ 100 ∧
  (ms = W → E (.ref (He.ga K "NoRound")) none H) ∧ (ms ≠ W → ∀ (p : Addr) (H' : Hp), H' p = some (.tup [.bl (lw.any (sg ms.toNat 48)), .bl (lw.any (sg ms.toNat 49))]) → WiAt K H' pw dh dl W kvs lw ms (lk + 1) → Frm [pw] H H' → Q (.ref p) H')
/-- a bit said -/
def spSay (K : PySem.W.Frag) : Sp := fun vs H Q E => ∃ (pw dh dl : Addr) (bit : Int) (W : Nat) (kvs : List (Str × Bool)) (lw : List Str) (ms lk : Int), vs = [.ref pw, .int bit] ∧ (bit = 0 ∨ bit = 1) ∧ WiAt K H pw dh dl W kvs lw ms lk ∧ W ≤ 12 ∧ 0 ≤ ms ∧ ms ≤ W ∧ (∀ x ∈ lw, Num W x) ∧ lw.length ≤ 100 ∧
  (ms = W → E (.ref (He.ga K "NoRound")) none H) ∧ (ms ≠ W → ∀ (dl' : Addr) (H' : Hp), H dl' = none → WiAt K H' pw dh dl' W kvs (lw.filter (sg ms.toNat (48 + bit.toNat))) (ms + 1) lk → Frm [pw] H H' → Q .non H')
end
end B

set_option Elab.async false
set_option linter.all false
set_option maxRecDepth 100000
set_option maxHeartbeats 4000000
namespace B
open PySem PySem.Spec PyProof.Rows L2
open SX (S)
/-- who refuses -/
def errOf (K : PySem.W.Frag) (wd : Str) : Addr := if wd = "hang" then He.ga K "There" else He.ga K "NotThere"
section
variable {P : Program} {w : World} {K : PySem.W.Frag} {mg : Str → Option Value} {base : Heap}
def spReqHang (K : PySem.W.Frag) : Sp := fun vs H Q E => ∃ (pw dh dl : Addr) (x : Str) (W : Nat) (kvs : List (Str × Bool)) (lw : List Str) (ms lk : Int), vs = [.ref pw, .str x] ∧ WiAt K H pw dh dl W kvs lw ms lk ∧ Num W x ∧ W ≤ 12 ∧ Tb K H ∧
  (hasK kvs x = false → ∀ H', FrT K [] H H' → E (.ref (He.ga K "NotThere")) none H') ∧ (hasK kvs x = true → ∀ H', FrT K [] H H' → Q .non H')
/-- something becomes of a thing of a wire -/
def spWd (K : PySem.W.Frag) (wd : Str) : Sp := fun vs H Q E => ∃ (pw dh dl : Addr) (x : Str) (W : Nat) (kvs : List (Str × Bool)) (lw : List Str) (ms lk : Int), vs = [.ref pw, .str x] ∧ WiAt K H pw dh dl W kvs lw ms lk ∧ Num W x ∧ W ≤ 12 ∧ kvs.length ≤ 100 ∧ lw.length ≤ 100 ∧ Tb K H ∧
  (¬ deedW kvs wd x = "" → ∀ H', FrT K [] H H' → E (.ref (errOf K wd)) none H') ∧
  (deedW kvs wd x = "" → ∀ (dl' : Addr) (H' : Hp), (dl' = dl ∨ H dl' = none) → WiAt K H' pw dh dl' W (deedK kvs wd x) (deedL kvs lw wd x) ms lk → FrT K [pw, dh] H H' → Q .non H')
end
end B

set_option Elab.async false
set_option linter.all false
set_option maxRecDepth 100000
set_option maxHeartbeats 4000000
namespace B
open PySem PySem.Spec PyProof.Rows L2
open PySem.W (kdv_obj kdv_fn kdv_tup)
/-! ### a lambda, all of whose parameters have written defaults, handed to a def -/
/-- what a lambda's making leaves: fr: all but the maker's table stands; ob: its function object; ext: the tuple of defaults -/
structure Made (X : Cx) (P : Addr) (q : Str) (params : Arguments) (body : Expr) (scope : Scope) (dV : Value) (ext : List (Addr × Obj)) (H H1 : Hp) (s1 : Shared) (f c1 : Addr) : Prop where
  fr : ∀ b o, H b = some o → b ≠ P → H1 b = some o
  bk : ∀ b, H1 b = none → H b = none
  tb : LamX.TabS H1 P q
  ob : ∃ doc pm ctv, s1.heap.get? f = some (kdv_obj "<lambda>" q params (.expr body) scope (cloFrom X.env.cells scope.names []) dV doc pm c1 ctv)
  fn : H1 f = none
  ff : f ∉ frs X.stack
  co : H1 c1 = some (LamX.CodeO c1 q)
  ex : ∀ p ∈ ext, s1.heap.get? p.1 = some p.2 ∧ H1 p.1 = none ∧ p.1 ∉ frs X.stack
section
variable {X : Cx} {pins : List (Addr × Obj)} {σ : L2.St} {H : Hp} {s : Shared}
theorem no_frame (I : Inv X pins σ H s) {b : Addr} (hb : s.heap.objs.size ≤ b) : b ∉ frs X.stack := fun z => by
  rcases List.mem_cons.mp (I.stkSub b z) with e | e
  · subst e
    exact absurd I.lt (Nat.not_lt.mpr hb)
  · exact I.nofs hb e
theorem made_tail {q : Str} {params : Arguments} {body : Expr} {scope : Scope} {pos : Pos} {c P : Addr} {dV : Value} {ext : List (Addr × Obj)} {E : Value → Shared → Prop} {Q : Value → Shared → Prop} (I : Inv X pins σ H s) (TB : LamX.TabB X.base X.mg c P) (hcode : X.env.code = .ref c)
    (hT : LamX.TabS H P q) (hfree : ∀ y ∈ scope.names, y.2 = .free → ∃ c, X.env.cells.lookup y.1 = some c) (hext : ∀ p ∈ ext, s.heap.get? p.1 = some p.2 ∧ H p.1 = none ∧ p.1 ∉ frs X.stack)
    (h : ∀ f c1 H1 s1, Inv X pins σ H1 s1 → Made X P q params body scope dV ext H H1 s1 f c1 → Q (.ref f) s1) :
    wpAny (model X.prog X.w) X.A (PySem.makeTail "<lambda>" q params (.expr body) scope X.env dV .none none pos pos.line) Q E s := by
  obtain ⟨ps, hP, trip, among⟩ := hT
  have heapP : s.heap.get? P = some { cls := .none, data := .fields ps } := I.hok P _ hP
  have glob : s.heap.Ns mainGlobals X.mg := I.mod.glob.keeps I.bk
  have bat : s.heap.BuiltinsAt X.mg P := TB.bm.keeps I.bk
  have hd : PySem.W.CodeHd s.heap c P := TB.code.keeps I.bk
  cases found : codeAmong pos ps.toList with
  | none =>
    refine PySem.W.kdv_makeTail (closure_ok hfree) I.ok.glob glob hcode hd heapP trip found TB.gP bat ?_
    intro c1 ctv doc h1 tk but ge lt rec_ tab
    obtain ⟨c2, oc, vs, t, eq2, got, dat, nth⟩ := rec_
    injection eq2 with eq2
    subst eq2
    have grow : s.heap.objs.size ≤ h1.objs.size := Nat.le_trans ge (Nat.le_of_lt lt)
    have freeC : H c1 = none := I.hok.fresh ge
    have neP : P ≠ c1 := ne_of_none hP freeC
    have old : ∀ b o, b ≠ P → s.heap.get? b = some o → (h1.push (kdv_obj "<lambda>" q params (.expr body) scope (cloFrom X.env.cells scope.names []) dV doc ((X.mg "__name__").getD .none) c1 ctv)).get? b = some o :=
      fun b o nb e => Heap.get?_push_of_some _ (but b o nb e)
    have I1 := LamX.inv_table (t' := tk) (more := #[rawInt pos.line, rawInt pos.col, .ref c1]) (q := q) I hP old (Heap.get?_push_of_some _ tab) ge ⟨oc, vs, t, Heap.get?_push_of_some _ got, dat, nth⟩
    have extP : ∀ p ∈ ext, p.1 ≠ P := fun p hp e => by
      have := (hext p hp).2.1
      rw [e, hP] at this
      cases this
    refine h h1.objs.size c1 _ _ I1 ⟨fun b o e nb => ?_, fun b e => upd_back (upd_back e), ⟨ps ++ #[rawInt pos.line, rawInt pos.col, .ref c1], ?_, ?_, fun pos2 cv hcv => ?_⟩, ⟨doc, _, ctv, Heap.get?_push_size _ rfl⟩, ?_, no_frame I grow, upd_same, fun p hp => ⟨old _ _ (extP p hp) (hext p hp).1, ?_, (hext p hp).2.2⟩⟩
    · rw [upd_ne (ne_of_none e freeC), upd_ne nb]
      exact e
    · rw [upd_ne neP, upd_same]
    · have e : (ps ++ #[rawInt pos.line, rawInt pos.col, .ref c1]).toList = ps.toList ++ [rawInt pos.line, rawInt pos.col, .ref c1] := by simp
      rw [e]
      exact PySem.TriplesOk_snoc _ _ _ _ trip
    · have e : (ps ++ #[rawInt pos.line, rawInt pos.col, .ref c1]).toList = ps.toList ++ [rawInt pos.line, rawInt pos.col, .ref c1] := by simp
      rw [e] at hcv
      rcases LamX.among_app _ trip hcv with z | z
      · obtain ⟨c0, e0, w0⟩ := among pos2 cv z
        refine ⟨c0, e0, ?_⟩
        rw [upd_ne (ne_of_none w0 freeC), upd_ne (fun y => ?_)]
        · exact w0
        · rw [y, hP] at w0
          exact LamX.codeO_ne ps (Option.some.inj w0).symm
      · exact ⟨c1, z, upd_same⟩
    · have n1 : h1.objs.size ≠ c1 := Nat.ne_of_gt lt
      have n2 : h1.objs.size ≠ P := Nat.ne_of_gt (Nat.lt_of_lt_of_le (Heap.lt_size heapP) grow)
      rw [upd_ne n1, upd_ne n2]
      exact I.hok.fresh grow
    · have n1 : p.1 ≠ c1 := Nat.ne_of_lt (Nat.lt_of_lt_of_le (Heap.lt_size (hext p hp).1) ge)
      rw [upd_ne n1, upd_ne (extP p hp)]
      exact (hext p hp).2.1
  | some cv =>
    obtain ⟨c1, e1, w1⟩ := among pos cv found
    subst e1
    refine PySem.W.kdv_makeTailHit (closure_ok hfree) I.ok.glob glob hcode hd heapP trip found bat ?_
    intro ctv doc h1 tk keep grow
    have I1 : Inv X pins σ H { s with heap := h1.push (kdv_obj "<lambda>" q params (.expr body) scope (cloFrom X.env.cells scope.names []) dV doc ((X.mg "__name__").getD .none) c1 ctv), toks := tk } :=
      I.kept fun b o e => Heap.get?_push_of_some _ (keep b o e)
    exact h h1.objs.size c1 H _ I1 ⟨fun b o e _ => e, fun b e => e, ⟨ps, hP, trip, among⟩, ⟨doc, _, ctv, Heap.get?_push_size _ rfl⟩, I.hok.fresh grow, no_frame I grow, w1,
      fun p hp => ⟨Heap.get?_push_of_some _ (keep _ _ (hext p hp).1), (hext p hp).2⟩⟩
/-- lambda: .. -/
theorem made0 {params : Arguments} {body : Expr} {scope : Scope} {pos : Pos} {c P : Addr} {E : Value → Shared → Prop} {Q : Value → Shared → Prop} (I : Inv X pins σ H s) (TB : LamX.TabB X.base X.mg c P) (hcode : X.env.code = .ref c)
    (hT : LamX.TabS H P (X.env.qual ++ "<lambda>")) (hfree : ∀ y ∈ scope.names, y.2 = .free → ∃ c, X.env.cells.lookup y.1 = some c) (h0 : params.defaults = []) (h1 : params.kw_defaults = [])
    (h : ∀ f c1 H1 s1, Inv X pins σ H1 s1 → Made X P (X.env.qual ++ "<lambda>") params body scope .none [] H H1 s1 f c1 → Q (.ref f) s1) :
    wpAny (model X.prog X.w) X.A (eval (.Lambda params body scope pos) X.env) Q E s := by
  have e : defaultsOf params X.env = ([], []) := by
    rw [defaultsOf_eq, h0, h1]
    rfl
  refine PySem.W.kla_eval e ?_
  rw [makeFunction_eq]
  simp only [List.zip_nil_right, List.filterMap_nil, List.isEmpty_nil, if_true, pure_bind]
  exact made_tail I TB hcode hT hfree (fun _ hp => absurd hp (by simp)) h
/-- lambda x=i: .. -/
theorem made1 {params : Arguments} {body : Expr} {scope : Scope} {pos dp : Pos} {i : Int} {j : Nat} {c P : Addr} {E : Value → Shared → Prop} {Q : Value → Shared → Prop} (I : Inv X pins σ H s) (TB : LamX.TabB X.base X.mg c P) (hcode : X.env.code = .ref c)
    (hT : LamX.TabS H P (X.env.qual ++ "<lambda>")) (hfree : ∀ y ∈ scope.names, y.2 = .free → ∃ c, X.env.cells.lookup y.1 = some c) (h0 : params.defaults = [.Constant (.int i) j dp]) (h1 : params.kw_defaults = [])
    (h : ∀ f c1 t0 tk H1 s1, Inv X pins σ H1 s1 → Made X P (X.env.qual ++ "<lambda>") params body scope (.ref t0) [(t0, kdv_tup [.int i tk])] H H1 s1 f c1 → Q (.ref f) s1) :
    wpAny (model X.prog X.w) X.A (eval (.Lambda params body scope pos) X.env) Q E s := by
  refine PySem.W.kdv_lam (by rw [h0]; rfl) h1 ?_
  rw [h0]
  refine PySem.W.kdv_all1 (wpAny_Constant_int (PySem.W.kdv_all0 ?_))
  rw [makeFunction_eq]
  simp only [List.zip_nil_right, List.filterMap_nil, List.isEmpty_nil, List.isEmpty_cons, if_true, pure_bind, Bool.false_eq_true, if_false]
  refine wpAny_bind (wpAny_newTextTuple ?_)
  have I1 := I.tok (s.toks + 1)
  have big : s.heap.objs.size ≤ s.heap.objs.size := Nat.le_refl _
  have I2 : Inv X pins σ H { s with heap := s.heap.push (kdv_tup [.int i s.toks]), toks := s.toks + 1 } := I.kept fun b o e => Heap.get?_push_of_some _ e
  refine made_tail I2 TB hcode hT hfree (ext := [(s.heap.objs.size, kdv_tup [.int i s.toks])]) (fun p hp => ?_) fun f c1 H1 s1 J M => h f c1 _ _ H1 s1 J M
  rw [List.mem_singleton.mp hp]
  exact ⟨Heap.get?_push_size _ rfl, I.hok.fresh big, no_frame I big⟩
end
end B

set_option Elab.async false
set_option linter.all false
set_option maxRecDepth 100000
set_option maxHeartbeats 4000000
namespace B
open PySem PySem.Spec PyProof.Rows L2
open PySem.W (kdv_obj kdv_fn kdv_tup)
/-- the lambda's names: none a cell; its own ones are none of the maker's -/
structure LamP (N : List Str) (sc scope : Scope) : Prop where
  kind : scope.kind = .function
  co : scope.isCoroutine = false
  gen : scope.isGenerator = false
  cell : ∀ y ∈ scope.names, y.2 ≠ .cell
  own : ∀ y ∈ scope.names, y.2 = .local → y.1 ∉ N
  free : ∀ y ∈ scope.names, y.2 = .free → sc.names.lookup y.1 = some .cell ∨ sc.names.lookup y.1 = some .free
def lamPB (N : List Str) (sc scope : Scope) : Bool :=
  (match scope.kind with | .function => true | _ => false) && (!scope.isCoroutine && (!scope.isGenerator && scope.names.all fun y => match y.2 with
    | .cell => false
    | .local => decide (y.1 ∉ N)
    | .free => (match sc.names.lookup y.1 with | some .cell => true | some .free => true | _ => false)
    | _ => true))
theorem lamP_by {N : List Str} {sc scope : Scope} (h : lamPB N sc scope = true) : LamP N sc scope := by
  obtain ⟨h1, h⟩ := He.ba h
  obtain ⟨h2, h⟩ := He.ba h
  obtain ⟨h3, h4⟩ := He.ba h
  have q := List.all_eq_true.mp h4
  refine ⟨?_, by simpa using h2, by simpa using h3, fun y hy e => ?_, fun y hy e => ?_, fun y hy e => ?_⟩
  · split at h1
    · assumption
    · cases h1
  · have := q y hy
    rw [e] at this
    cases this
  · have := q y hy
    rw [e] at this
    exact of_decide_eq_true this
  · have := q y hy
    rw [e] at this
    dsimp only at this
    split at this
    · exact .inl (by assumption)
    · exact .inr (by assumption)
    · cases this
section
variable {X : Cx} {pins : List (Addr × Obj)} {σ : L2.St} {H HZ : Hp} {s s2 : Shared}
theorem LamP.has {scope : Scope} (L : LamP X.N X.env.scope scope) (ok : X.Ok) : ∀ y ∈ scope.names, y.2 = .free → ∃ c, X.env.cells.lookup y.1 = some c := fun y hy e =>
  (L.free y hy e).elim (fun z => ok.has _ (.inl z)) (fun z => ok.has _ (.inr z))
theorem lam_enter {A : Around} {outer : List Env} {E : XK} {scope : Scope} {f c1 : Addr} {h2 : Heap} {tk : Nat} {m : Str → Option Value} (I : Inv X pins σ H s) (L : LamP X.N X.env.scope scope) (e0 : Env0 X.prog X.w X.K X.mg X.base A outer s2 HZ) (calm : A.handled = none)
    (un : Un (frs X.stack) [] H HZ s.heap s2.heap) (ns : h2.Ns s2.heap.objs.size m) (kp : ∀ b o, s2.heap.get? b = some o → h2.get? b = some o) :
    Inv (LamX.lamCx X A outer s2 HZ E scope f c1) [] σ HZ { s2 with heap := h2, toks := tk } := by
  have hfree := L.has I.ok
  -- a cell of the lambda is the maker's
  have up : ∀ {y : Str} {c : Addr}, (cloFrom X.env.cells scope.names []).lookup y = some c → X.env.cells.lookup y = some c := by
    intro y c e
    rcases cloFrom_mem (PySem.mem_of_lookup e) with z | ⟨z1, z2⟩
    · exact absurd z (by simp)
    · obtain ⟨d, hd⟩ := hfree _ z1 rfl
      have hd' : X.env.cells.lookup y = some d := hd
      rw [hd'] at z2
      have z3 : c = d := z2
      rw [z3]
      exact hd'
  have down : ∀ {y : Str}, scope.names.lookup y = some .free → ∃ c, (cloFrom X.env.cells scope.names []).lookup y = some c := by
    intro y e
    have mem : (y, NameKind.free) ∈ scope.names := PySem.mem_of_lookup e
    exact mem_lookup (cloFrom_has (cells := X.env.cells) (acc := []) mem)
  have noEx : ∀ b : Addr, b ∉ (LamX.lamCx X A outer s2 HZ E scope f c1).ex := fun b z => absurd (show b ∈ ([] : List Addr) from z) (by simp)
  have cellUp : ∀ {c : Addr} {v : Option Value}, H c = none → s.heap.IsCell c v → h2.IsCell c v := by
    rintro c v n ⟨o, ho, hd⟩
    obtain ⟨sl, e⟩ := un.any ho n (by simp)
    exact ⟨_, kp _ _ e, hd⟩
  have okI : (LamX.lamCx X A outer s2 HZ E scope f c1).Ok := by
    refine ⟨e0.mod, L.kind, rfl, rfl, Nat.le_refl _, fun y z c e1 e2 => I.ok.inj y z c (up e1) (up e2), ?_, ?_, fun _ => calm, Around.frames_deeper e0.frames, .inr ⟨rfl, rfl⟩, fun b z => absurd z (noEx b), e0.bs, e0.bsz, fun b _ _ => noEx b, fun b z => absurd z (noEx b), e0.funs, e0.frf⟩
    · intro y hy
      have hy2 : scope.names.lookup y = some .cell ∨ scope.names.lookup y = some .free := hy
      rcases hy2 with z | z
      · exact absurd rfl (L.cell _ (PySem.mem_of_lookup z))
      · exact down z
    · intro y c z
      exact absurd (show false = true from z) Bool.false_ne_true
  refine ⟨okI, rfl, e0.bare, Un.kept kp, ⟨m, ns, ?_⟩, ?_, e0.hok.fresh (Nat.le_refl _), ?_, fun p hp => absurd (show p ∈ ([] : List (Addr × Obj)) ++ [] from hp) (by simp), e0.hok.kept kp, I.len⟩
  · intro i y v hN hσ hV
    have hV2 : Vis scope y := hV
    rcases hV2 with z | z | z
    · exact absurd (List.mem_of_getElem? hN) (L.own _ (PySem.mem_of_lookup z) rfl)
    · exact absurd rfl (L.cell _ (PySem.mem_of_lookup z))
    · obtain ⟨m0, _, look⟩ := I.loc
      have fr := L.free _ (PySem.mem_of_lookup z) rfl
      have vis : Vis X.env.scope y := fr.elim (fun q => .inr (.inl q)) (fun q => .inr (.inr q))
      obtain ⟨u, ru, lk⟩ := look i y v hN hσ vis
      obtain ⟨c2, hc2⟩ := down z
      refine ⟨u, ru, .inr ⟨.inr z, c2, hc2, ?_⟩⟩
      have hc3 := up hc2
      rcases lk with ⟨q, _⟩ | ⟨_, c3, hc4, isC⟩
      · have q2 : X.env.scope.names.lookup y = some .local := q
        rcases fr with q3 | q3
        · have q3' : X.env.scope.names.lookup y = some .cell := q3
          rw [q3'] at q2
          cases q2
        · have q3' : X.env.scope.names.lookup y = some .free := q3
          rw [q3'] at q2
          cases q2
      · rw [hc3] at hc4
        cases hc4
        exact cellUp (I.freeC y _ hc3) isC
  · intro y c e
    obtain ⟨v, isC⟩ := I.cell y c (up e)
    exact ⟨v, cellUp (I.freeC y c (up e)) isC⟩
  · intro y c e
    obtain ⟨v, o, ho, _⟩ := I.cell y c (up e)
    exact un.free c o ho (I.freeC y c (up e)) (by simp)
/-- a(), a the parameter of the def at g that got the lambda -/
theorem pe_turn {CXg : CXT} {Eg : XK} {Ng : List Str} {qg : Str} {sg : Scope} {g f c1 P : Addr} {cdg dV : Value} {params : Arguments} {body : Expr} {scope : Scope} {k i : Nat} {a : Str} {pn : List (Addr × Obj)} {xe : Value → Shared → Prop} {W : WX} {tb : XK → TE} {p1 p2 : Pos} {ext : List (Addr × Obj)} {binds : List (Str × Value)} {H0 : Hp}
    (I : Inv X pins σ H s) (L : LamP X.N X.env.scope scope) (M : Made X P (X.env.qual ++ "<lambda>") params body scope dV ext H0 H s f c1)
    (bnd : ∀ (s' : Shared) (cl : List (Str × Addr)) (doc pm cv ctv : Value), (∀ p ∈ ext, s'.heap.get? p.1 = some p.2) → BindsTo s' (kdv_fn "<lambda>" (X.env.qual ++ "<lambda>") params (.expr body) scope cl dV doc pm cv ctv) ⟨[], []⟩ binds)
    (loc : ∀ y ∈ binds, scope.names.lookup y.1 = some .local)
    (tk : Takes ((cxOf CXg X.prog X.w X.K X.mg X.base Ng qg sg g cdg X.A X.stack s H Eg).tr pn xe) W) (hr : Room (k + 1) (X.A.deeper (envOfC qg sg s.heap.objs.size g cdg)))
    (hbody : ∀ (A : Around) (outer : List Env) (s : Shared) (H : Hp) (E : XK), Room k (A.deeper (LamX.lamEnv X scope s.heap.objs.size f c1)) → PE (LamX.lamCx X A outer s H E scope f c1) body (tb E))
    (hN : Ng[i]? = some a) (hv : Vis sg a) (hd : (a == ("__debug__" : Str)) = false := by decide) (hcd : (a == ("__classdict__" : Str)) = false := by decide) :
    PE ((cxOf CXg X.prog X.w X.K X.mg X.base Ng qg sg g cdg X.A X.stack s H Eg).tr pn xe) (.Call (.Name a p1) [] [] p2)
      (fun σZ HZ Q => σZ[i]? = some (some (.ref f)) ∧ HZ c1 = some (LamX.CodeO c1 (X.env.qual ++ "<lambda>")) ∧ ∃ E : XK, (∀ cls d H', E cls d H' → W cls d σZ H') ∧ tb E σ HZ Q) := by
  refine ⟨fun pinsZ sZ σZ HZ Q IZ h => ?_⟩
  obtain ⟨at_, code, E, hW, rd⟩ := h
  have name := (pe_var (X := (cxOf CXg X.prog X.w X.K X.mg X.base Ng qg sg g cdg X.A X.stack s H Eg).tr pn xe) (pos := p1) (i := i) hN hv hd hcd).run pinsZ sZ σZ HZ (fun v H1 => v = .ref f ∧ H1 = HZ) IZ ⟨.ref f, at_, rfl, rfl⟩
  refine wpAny_Call_Name_kw (thn name fun u s1 hu => ?_)
  obtain ⟨v, H1, I1, r1, ev, eH⟩ := hu
  subst ev
  rw [eH] at I1
  have eu : u = Value.ref f := r1
  subst eu
  obtain ⟨doc, pm, ctv, ob⟩ := M.ob
  have un : Un (frs X.stack) [] H HZ s.heap s1.heap := I1.base
  have ob1 := un.keep f _ ob M.fn M.ff (by simp)
  refine PySem.W.callWith_F0 ⟨_, _, _, _, ob1⟩ ?_
  obtain ⟨⟨oc, vs, t, got, dat, nth⟩, _, _⟩ := I1.hok c1 _ code
  have inner : codeAny (model X.prog X.w) (X.A.deeper (envOfC qg sg s.heap.objs.size g cdg)) (.call (.ref f) ⟨[], []⟩) (CR (L2.CX X.prog X.w) (envOfC qg sg s.heap.objs.size g cdg :: X.stack) X.prog X.w HZ s1 Q E) s1 := by
    refine PySem.W.kla_callFunE hr.depth ob1 rfl L.co L.gen rfl ⟨c1, oc, vs, t, rfl, got, dat, nth⟩ ?_
    refine bnd s1 _ doc pm _ ctv (fun p hp => un.keep p.1 p.2 (M.ex p hp).1 (M.ex p hp).2.1 (M.ex p hp).2.2 (by simp)) _ _ _ _ ?_
    refine wpAny_newFunctionEnv L.cell loc ?_ L.kind
    intro h2 ns but
    refine ⟨I1.nolimit.fresh _ but, ?_⟩
    have kp : ∀ b o, s1.heap.get? b = some o → h2.get? b = some o := fun b o e => but.extBut b o (Nat.ne_of_lt (Heap.lt_size e)) (Heap.get?_push_of_some _ e)
    have J := lam_enter (E := E) (f := f) (c1 := c1) (tk := s1.toks + binds.length) I L I1.env0 hr.hd un ns kp
    show codeAny _ _ (.expr body (LamX.lamEnv X scope s1.heap.objs.size f c1)) _ _
    refine PySem.W.kla_codeExpr (wpAny_mono ((hbody _ _ s1 HZ E (hr.deeper _)).run [] _ _ HZ Q J rd) ?_ fun e s' z => z)
    rintro v s' ⟨w', H', J', rv, q⟩
    exact ⟨w', H', J'.os, J'.bare, J'.base, J'.hok, rv, q⟩
  refine wpAny_call (codeAny_mono inner ?_)
  intro r s' hq
  match r, hq with
  | .error e, hq => exact tk e s' (XE.of_call I1 (fun cls d H' z => hW cls d H' z) hq)
  | .ok (.ret u), hq => exact I1.after hq
  | .ok .next, hq => exact False.elim hq
  | .ok .brk, hq => exact False.elim hq
  | .ok .cont, hq => exact False.elim hq
end
end B

set_option Elab.async false
set_option linter.all false
set_option maxRecDepth 100000
set_option maxHeartbeats 4000000
namespace B
open PySem PySem.Spec PyProof.Rows L2
open PySem.W (kdv_obj kdv_fn kdv_tup)
/-! ### the word of a refusal -/
theorem pe_never {X : Cx} {e : Expr} : PE X e (fun _ _ _ => False) := ⟨fun _ _ _ _ _ _ h => h.elim⟩
/-- how many of a list's flat items are alike -/
def rCntV (K : PySem.W.Frag) : V → List V → Hp → VK → Prop := fun x xs H Q => ∃ (p : Addr) (ys : List V) (y : V), x = .ref p ∧ xs = [y] ∧ SqL K H p ys ∧ flatV y = true ∧ ys.all flatV = true ∧ Q (.int (ys.countP (fun z => eqV z y) : Nat)) H
theorem count_U {y : V} : ∀ {ys : List V} {us : List Value}, Vals ys us → ys.all flatV = true → us.countP (eqU y) = ys.countP (fun z => eqV z y)
  | _, _, .nil, _ => rfl
  | z :: r, u :: t, .cons ru rt, h => by
    rw [List.all_cons, Bool.and_eq_true] at h
    rw [List.countP_cons, List.countP_cons, count_U rt h.2, eqU_of ru h.1]
theorem mt_cntV {X : Cx} : MtR X "list.count" (rCntV X.K) := by
  intro pins s σ H x xs v us Q I rx rxs h
  obtain ⟨p, ys, y, rfl, rfl, hs, fy, fys, q⟩ := h
  cases rx
  obtain ⟨u, rfl, ru⟩ := rxs.one
  obtain ⟨its, rv, ⟨⟨cls, dd, data, sl⟩, n, ho, hc, hdn, hd⟩, hlen⟩ := I.list hs
  simp only at hc hd
  subst hc hd
  refine call_meets PySem.F.slot_list_count ⟨_, ho, rfl⟩ PySem.F.entry_list_count (PySem.F.args_list_count_2 _ _)
    (SeqAt.list_countAt p its.toArray n dd sl u (eqU y)) ⟨ho, fun z hz => mem_eqAt ru fy rv fys z (by simpa using hz), ?_⟩
  have ec : its.toArray.toList.countP (eqU y) = ys.countP (fun z => eqV z y) := count_U rv fys
  refine ⟨.int (ys.countP (fun z => eqV z y) : Nat), H, I.tok _, ⟨s.toks, ?_⟩, q⟩
  show Value.int ((its.toArray.toList.countP (eqU y) : Nat) : Int) s.toks = _
  rw [ec]
/-- isinstance(e, c), e the exception that the suite holds: whatever its class -/
def rIsX (K : PySem.W.Frag) (cls : Value) (d : Option Addr) (a : Addr) : List V → Hp → VK → Prop := fun xs H Q =>
  ∃ (D : Addr) (c : V) (cv : Value) (b : Bool), cls = .ref D ∧ d = none ∧ ExcC K D ∧ xs = [.ref a, c] ∧ (∀ u, RelV c u → u = cv) ∧ PySem.W.kitOne K (.ref D) cv = some b ∧ Q (.bl b) H
theorem call_isX {X : Cx} {a : Addr} {cls : Value} {d : Option Addr} {oe : Obj} {pn : List (Addr × Obj)} (hz : Zc cls d oe) (hf : ∃ vs, oe.data = .fields vs) : CallR (X.suite a ((a, oe) :: pn)) (.builtin "isinstance") (rIsX X.K cls d a) := by
  intro pins s σ H xs us Q I r h
  obtain ⟨D, c, cv, b, rfl, rfl, C, ex, h1, h2, q⟩ := h
  exact call_isE C hz hf pins s σ H xs us Q I r ⟨c, cv, b, ex, h1, h2, q⟩
/-- the fifteen answers, the n-th yes -/
def kindsV (n : Nat) : List V := (List.range 15).map fun i => V.bl (decide (i = n))
def wordsV : List Str := ["width", "number", "kind", "bit", "there", "not", "round", "over", "busy", "looks", "roster", "many", "plan", "step", "text"]
theorem kinds_count (n : Nat) (h : n < 15) : (kindsV n).countP (fun z => eqV z (.bl true)) = 1 := by
  have z : (List.range 15).all (fun n => (kindsV n).countP (fun z => eqV z (.bl true)) == 1) = true := by decide +kernel
  exact beq_iff_eq.mp (List.all_eq_true.mp z n (List.mem_range.mpr h))
theorem kinds_flat (n : Nat) : (kindsV n).all flatV = true := by
  unfold kindsV
  rw [List.all_map]
  exact List.all_eq_true.mpr fun _ _ => rfl
theorem kinds_at (n i : Nat) (h : i < 15) : (kindsV n)[i]? = some (.bl (decide (i = n))) := by
  unfold kindsV
  rw [List.getElem?_map, List.getElem?_range h]
  rfl
theorem kinds_none {n m : Nat} {z : V} (hn : n < 15) (hm : m < n) (h : (kindsV n)[m]? = some z) : eqV z (.bl true) = false := by
  rw [kinds_at n m (by omega)] at h
  have e := Option.some.inj h
  rw [← e, decide_eq_false (show ¬ m = n by omega)]
  rfl
/-- the class's word: the n-th of allErr, with no field -/
structure WordC (K : PySem.W.Frag) (cls : Value) (n : Nat) (wd : Str) : Prop where
  D : ∃ D, cls = .ref D ∧ ExcC K D ∧ (∀ i d, allErr[i]? = some d → PySem.W.kitOne K (.ref D) (.ref (He.ga K d)) = some (decide (i = n))) ∧ PySem.W.kitOne K (.ref D) (.type "ValueError") = some true ∧ PySem.W.exmOne K (.ref D) (.ref (He.ga K "BusError")) = some true
  lt : n < 15
  at_ : wordsV[n]? = some wd
  ne : inV (.str wd) [V.str "looks", V.str "step"] = false ∧ decide (V.str wd = V.str "text") = false
theorem PSs.imp {X : Cx} {st : List Stmt} {t t' : TS} (h : PSs X st t) (f : ∀ D σ H, t' D σ H → t D σ H) : PSs X st t' := ⟨fun pins s σ H D I q => h.run pins s σ H D I (f D σ H q)⟩
/-- what the except suite asks -/
def tSuite (K : PySem.W.Frag) (a : Addr) (cls : Value) (d : Option Addr) : TS := fun D σ H => d = none ∧ ∃ (n : Nat) (wd : Str) (v0 v2 v3 v4 : Option V), WordC K cls n wd ∧ σ = [v0, some (.ref a), v2, v3, v4] ∧ ∀ H3, Frm [] H H3 → D.rt (.str wd) H3
abbrev NW : List Str := ["_law_work", "e", "_law_kinds", "_law_words", "_law_word_here"]
/-- what the def makes of the lambda that it got -/
def TWord (K : PySem.W.Frag) : (XK → Hp → VK → Prop) → Hp → VK → Prop := fun tl H Q =>
  tl (fun cls d H2 => d = none ∧ ∃ n wd, WordC K cls n wd ∧ ∀ H3, Frm [] H2 H3 → Q (.str wd) H3) H (fun _ H2 => Q (.str "") H2)
section
variable {X : Cx} {cdg : Value} {s : Shared} {H0 : Hp}
abbrev WX0 (X : Cx) (cdg : Value) (s : Shared) (H0 : Hp) : Cx := (cxOf CX0 X.prog X.w X.K X.mg X.base NW "_law_word" (defScope s_lword) (He.ga X.K "_law_word") cdg X.A X.stack s H0 E0)
/-- the suite's statements -/
def suiteOf : List Stmt → List Stmt
  | .Try _ (.ExceptHandler _ _ b _ :: _) _ _ _ :: _ => b
  | _ => []
@[elab_as_elim] theorem gen_top {H0 H : Hp} {p : Addr} {o : HO} {P : Hp → Prop} (fr : Frm [] H0 (upd H p o)) (k : ∀ H7, Frm [] H0 H7 → H7 p = some o → P H7) : P (upd H p o) := k _ fr upd_same
theorem word_suite (T : Txt X.prog X.w X.K X.mg X.base) (a : Addr) (oe : Obj) (cls : Value) (d : Option Addr) (pn : List (Addr × Obj)) (hz : Zc cls d oe) (hf : ∃ vs, oe.data = .fields vs) :
    PSs ((WX0 X cdg s H0).suite a ((a, oe) :: pn)) (suiteOf (defBody s_lword)) (tSuite X.K a cls d) := by
  refine PSs.imp (pss_cons (ps_set (i := 2) sc_lword.nd rfl (Or.inl rfl) (pe_lst (pa_cons (pe_callB (call_isX hz hf) (by rfl) (n_isinstance T) (by decide +kernel) (pa_cons (pv 1) (pa_cons (pe_glob (v := .ref _) rfl (g_BadWidth T) rfl) pa_nil))) (pa_cons (pe_callB (call_isX hz hf) (by rfl) (n_isinstance T) (by decide +kernel) (pa_cons (pv 1) (pa_cons (pe_glob (v := .ref _) rfl (g_BadNumber T) rfl) pa_nil))) (pa_cons (pe_callB (call_isX hz hf) (by rfl) (n_isinstance T) (by decide +kernel) (pa_cons (pv 1) (pa_cons (pe_glob (v := .ref _) rfl (g_BadKind T) rfl) pa_nil))) (pa_cons (pe_callB (call_isX hz hf) (by rfl) (n_isinstance T) (by decide +kernel) (pa_cons (pv 1) (pa_cons (pe_glob (v := .ref _) rfl (g_BadBit T) rfl) pa_nil))) pa_nil))))))
    (pss_cons (ps_set (i := 2) sc_lword.nd rfl (Or.inl rfl) (pe_op op_cat (pv 2) (pe_lst (pa_cons (pe_callB (call_isX hz hf) (by rfl) (n_isinstance T) (by decide +kernel) (pa_cons (pv 1) (pa_cons (pe_glob (v := .ref _) rfl (g_There T) rfl) pa_nil))) (pa_cons (pe_callB (call_isX hz hf) (by rfl) (n_isinstance T) (by decide +kernel) (pa_cons (pv 1) (pa_cons (pe_glob (v := .ref _) rfl (g_NotThere T) rfl) pa_nil))) (pa_cons (pe_callB (call_isX hz hf) (by rfl) (n_isinstance T) (by decide +kernel) (pa_cons (pv 1) (pa_cons (pe_glob (v := .ref _) rfl (g_NoRound T) rfl) pa_nil))) (pa_cons (pe_callB (call_isX hz hf) (by rfl) (n_isinstance T) (by decide +kernel) (pa_cons (pv 1) (pa_cons (pe_glob (v := .ref _) rfl (g_Over T) rfl) pa_nil))) pa_nil)))))))
    (pss_cons (ps_set (i := 2) sc_lword.nd rfl (Or.inl rfl) (pe_op op_cat (pv 2) (pe_lst (pa_cons (pe_callB (call_isX hz hf) (by rfl) (n_isinstance T) (by decide +kernel) (pa_cons (pv 1) (pa_cons (pe_glob (v := .ref _) rfl (g_Busy T) rfl) pa_nil))) (pa_cons (pe_callB (call_isX hz hf) (by rfl) (n_isinstance T) (by decide +kernel) (pa_cons (pv 1) (pa_cons (pe_glob (v := .ref _) rfl (g_BadLooks T) rfl) pa_nil))) (pa_cons (pe_callB (call_isX hz hf) (by rfl) (n_isinstance T) (by decide +kernel) (pa_cons (pv 1) (pa_cons (pe_glob (v := .ref _) rfl (g_BadRoster T) rfl) pa_nil))) pa_nil))))))
    (pss_cons (ps_set (i := 2) sc_lword.nd rfl (Or.inl rfl) (pe_op op_cat (pv 2) (pe_lst (pa_cons (pe_callB (call_isX hz hf) (by rfl) (n_isinstance T) (by decide +kernel) (pa_cons (pv 1) (pa_cons (pe_glob (v := .ref _) rfl (g_TooMany T) rfl) pa_nil))) (pa_cons (pe_callB (call_isX hz hf) (by rfl) (n_isinstance T) (by decide +kernel) (pa_cons (pv 1) (pa_cons (pe_glob (v := .ref _) rfl (g_BadPlan T) rfl) pa_nil))) (pa_cons (pe_callB (call_isX hz hf) (by rfl) (n_isinstance T) (by decide +kernel) (pa_cons (pv 1) (pa_cons (pe_glob (v := .ref _) rfl (g_BadStep T) rfl) pa_nil))) (pa_cons (pe_callB (call_isX hz hf) (by rfl) (n_isinstance T) (by decide +kernel) (pa_cons (pv 1) (pa_cons (pe_glob (v := .ref _) rfl (g_BadText T) rfl) pa_nil))) pa_nil)))))))
    (pss_cons (ps_if (PW.pt (pw_or (pt_cmpR op_ne (pe_bm PySem.F.plainAttrs_list PySem.F.slot_list_count PySem.F.type_list_count mt_cntV (pv 2) (pa_cons pe_bl pa_nil)) pe_int (nomark _)) (pw_or1 (pt_not (pt_val (pe_callB (call_isX hz hf) (by rfl) (n_isinstance T) (by decide +kernel) (pa_cons (pv 1) (pa_cons (pe_bltn (v := .ty "ValueError") (u := .type "ValueError") rfl (n_ValueError T) (by decide +kernel) rfl) pa_nil))))))))
      (pss_one (ps_ret pe_str))
      pss_nil)
    (pss_cons (ps_set (i := 3) sc_lword.nd rfl (Or.inl rfl) (pe_lst (pa_cons pe_str (pa_cons pe_str (pa_cons pe_str (pa_cons pe_str (pa_cons pe_str (pa_cons pe_str (pa_cons pe_str (pa_cons pe_str (pa_cons pe_str (pa_cons pe_str (pa_cons pe_str (pa_cons pe_str pa_nil))))))))))))))
    (pss_cons (ps_set (i := 4) sc_lword.nd rfl (Or.inl rfl) (pe_ix ix_list (pe_op op_cat (pv 3) (pe_lst (pa_cons pe_str (pa_cons pe_str (pa_cons pe_str pa_nil))))) (pe_bm PySem.F.plainAttrs_list PySem.F.slot_list_index PySem.F.type_list_index mt_index (pv 2) (pa_cons pe_bl pa_nil)) (fun _ _ => rfl)))
    (pss_cons (ps_if (pt_cmpR op_in_seq (pv 4) (pe_tup (pa_cons pe_str (pa_cons pe_str pa_nil))) rfl)
      (pss_one (ps_ret (pe_never)))
      pss_nil)
    (pss_one (ps_ret (pe_ifExp (pt_cmpR op_eq (pv 4) pe_str (nomark _)) (pe_never) (pv 4)))))))))))) ?_
  rintro D σ H ⟨rfl, n, wd, v0, v2, v3, v4, ⟨⟨C, rfl, hC, hk, hv, _⟩, hn, hat, hne1, hne2⟩, rfl, k⟩
  refine ⟨_, rfl, C, _, _, _, rfl, rfl, hC, rfl, fun u h => h, hk 0 _ rfl, ?_⟩
  refine ⟨_, rfl, C, _, _, _, rfl, rfl, hC, rfl, fun u h => h, hk 1 _ rfl, ?_⟩
  refine ⟨_, rfl, C, _, _, _, rfl, rfl, hC, rfl, fun u h => h, hk 2 _ rfl, ?_⟩
  refine ⟨_, rfl, C, _, _, _, rfl, rfl, hC, rfl, fun u h => h, hk 3 _ rfl, ?_⟩
  refine ⟨by show 4 ≤ sizeLine; decide, fun p1 h1 => ?_⟩
  refine ⟨_, rfl, ?_⟩
  refine ⟨_, rfl, C, _, _, _, rfl, rfl, hC, rfl, fun u h => h, hk 4 _ rfl, ?_⟩
  refine ⟨_, rfl, C, _, _, _, rfl, rfl, hC, rfl, fun u h => h, hk 5 _ rfl, ?_⟩
  refine ⟨_, rfl, C, _, _, _, rfl, rfl, hC, rfl, fun u h => h, hk 6 _ rfl, ?_⟩
  refine ⟨_, rfl, C, _, _, _, rfl, rfl, hC, rfl, fun u h => h, hk 7 _ rfl, ?_⟩
  refine ⟨by show 4 ≤ sizeLine; decide, fun p2 h2 => ?_⟩
  have n12 : p1 ≠ p2 := ne_of_none upd_same h2
  refine ⟨p1, p2, _, _, rfl, rfl, by rw [upd_ne n12]; exact upd_same, upd_same, by show 8 ≤ sizeLine; decide, fun p3 h3 => ?_⟩
  refine ⟨_, rfl, ?_⟩
  refine ⟨_, rfl, C, _, _, _, rfl, rfl, hC, rfl, fun u h => h, hk 8 _ rfl, ?_⟩
  refine ⟨_, rfl, C, _, _, _, rfl, rfl, hC, rfl, fun u h => h, hk 9 _ rfl, ?_⟩
  refine ⟨_, rfl, C, _, _, _, rfl, rfl, hC, rfl, fun u h => h, hk 10 _ rfl, ?_⟩
  refine ⟨by show 3 ≤ sizeLine; decide, fun p4 h4 => ?_⟩
  have n34 : p3 ≠ p4 := ne_of_none upd_same h4
  refine ⟨p3, p4, _, _, rfl, rfl, by rw [upd_ne n34]; exact upd_same, upd_same, by show 11 ≤ sizeLine; decide, fun p5 h5 => ?_⟩
  refine ⟨_, rfl, ?_⟩
  refine ⟨_, rfl, C, _, _, _, rfl, rfl, hC, rfl, fun u h => h, hk 11 _ rfl, ?_⟩
  refine ⟨_, rfl, C, _, _, _, rfl, rfl, hC, rfl, fun u h => h, hk 12 _ rfl, ?_⟩
  refine ⟨_, rfl, C, _, _, _, rfl, rfl, hC, rfl, fun u h => h, hk 13 _ rfl, ?_⟩
  refine ⟨_, rfl, C, _, _, _, rfl, rfl, hC, rfl, fun u h => h, hk 14 _ rfl, ?_⟩
  refine ⟨by show 4 ≤ sizeLine; decide, fun p6 h6 => ?_⟩
  have n56 : p5 ≠ p6 := ne_of_none upd_same h6
  refine ⟨p5, p6, _, _, rfl, rfl, by rw [upd_ne n56]; exact upd_same, upd_same, by show 15 ≤ sizeLine; decide, fun p7 h7 => ?_⟩
  -- what stood stands
  show tSeq _ _ D _ (upd _ p7 (.lst (kindsV n)))
  refine gen_top (((((((Frm.of (same_upd h1)).trans (Frm.of (same_upd h2))).trans (Frm.of (same_upd h3))).trans (Frm.of (same_upd h4))).trans (Frm.of (same_upd h5))).trans (Frm.of (same_upd h6))).trans (Frm.of (same_upd (o := .lst (kindsV n)) h7))) ?_
  clear h7 n56 h6 h5 n34 h4 h3 n12 h2 h1
  intro H7 fr at7
  refine ⟨_, rfl, .inl ⟨rfl, _, SqL.of at7⟩, p7, _, _, rfl, rfl, SqL.of at7, rfl, kinds_flat n, rfl, _, rfl, ?_⟩
  rw [kinds_count n hn]
  refine ⟨_, rfl, C, _, _, _, rfl, rfl, hC, rfl, fun u h => h, hv, true, rfl, ?_⟩
  refine ⟨by show 12 ≤ sizeLine; decide, fun p8 h8 => ?_⟩
  refine ⟨_, rfl, by show 3 ≤ sizeLine; decide, fun p9 h9 => ?_⟩
  have n89 : p8 ≠ p9 := ne_of_none upd_same h9
  refine ⟨p8, p9, _, _, rfl, rfl, by rw [upd_ne n89]; exact upd_same, upd_same, by show 15 ≤ sizeLine; decide, fun p10 h10 => ?_⟩
  have f10 : Frm [] H7 (upd (upd (upd H7 p8 (.lst [.str "width", .str "number", .str "kind", .str "bit", .str "there", .str "not", .str "round", .str "over", .str "busy", .str "looks", .str "roster", .str "many"])) p9 (.lst [.str "plan", .str "step", .str "text"])) p10 (.lst (wordsV.map V.str))) :=
    ((Frm.of (same_upd h8)).trans (Frm.of (same_upd h9))).trans (Frm.of (same_upd h10))
  have at7' := f10.k _ _ at7 rfl (by simp)
  refine ⟨_, rfl, .inl ⟨rfl, _, SqL.of at7'⟩, p7, _, _, n, _, rfl, rfl, SqL.of at7', rfl, kinds_flat n, kinds_at n n hn, by rw [decide_eq_true rfl]; rfl, fun m z hm hz => kinds_none hn hm hz, ?_⟩
  refine ⟨p10, wordsV.map V.str, _, .str wd, rfl, rfl, SqL.of upd_same, atI_nat (by rw [List.getElem?_map, hat]; rfl), ?_⟩
  refine ⟨_, rfl, by show 2 ≤ sizeLine; decide, fun p11 h11 => ?_⟩
  refine ⟨p11, _, rfl, .inr (SqT.of upd_same), rfl, rfl, _, rfl, ?_⟩
  rw [hne1]
  refine ⟨_, rfl, rfl, _, rfl, ?_⟩
  rw [hne2]
  exact ⟨_, rfl, k _ ((fr.trans f10).trans (Frm.of (same_upd h11)))⟩
theorem word_ok (T : Txt X.prog X.w X.K X.mg X.base) {f c1 : Addr} {q : Str} {tl : XK → Hp → VK → Prop} {Q : VK}
    (turn : ∀ (W : WX) (pn : List (Addr × Obj)) (xe : Value → Shared → Prop) (p1 p2 : Pos), Takes ((WX0 X cdg s H0).tr pn xe) W →
      PE ((WX0 X cdg s H0).tr pn xe) (.Call (.Name "_law_work" p1) [] [] p2) (fun σZ HZ Q => σZ[0]? = some (some (.ref f)) ∧ HZ c1 = some (LamX.CodeO c1 q) ∧ ∃ E : XK, (∀ cls d H', E cls d H' → W cls d σZ H') ∧ tl E HZ Q))
    (hc : H0 c1 = some (LamX.CodeO c1 q)) (h : TWord X.K tl H0 Q) :
    ∃ t, PSs (WX0 X cdg s H0) (defBody s_lword) t ∧ t { nx := fun _ H' => Q .non H', rt := Q } (L2.start NW [.ref f]) H0 := by
  refine ⟨_, pss_cons (ps_try_as (i := 1) (n := "e") (ts := tSuite X.K) (Wout := fun _ _ _ _ => False) (tb := fun W D σ H => σ[0]? = some (some (.ref f)) ∧ H c1 = some (LamX.CodeO c1 q) ∧ ∃ E : XK, (∀ cls d H', E cls d H' → W cls d σ H') ∧ tl E H (fun _ H' => D.nx σ H')) rfl rfl sc_lword.nd rfl rfl ⟨rfl, by decide, .inl (g_BusError T)⟩ L2.takes0
    (fun W pn xe tk _ => pss_one (ps_expr (turn W pn xe _ _ tk))) (fun a oe cls d pn hz hf => word_suite T a oe cls d pn hz hf)) (pss_one (ps_ret pe_str)), ?_⟩
  refine ⟨rfl, hc, _, fun cls d H' z => ?_, h⟩
  obtain ⟨rfl, n, wd, C, k⟩ := z
  obtain ⟨D, rfl, _, _, _, hb⟩ := id C.D
  exact ⟨true, hb, fun _ a ha => ⟨rfl, n, wd, _, _, _, _, C, rfl, k⟩, fun z => nomatch z⟩
end
end B

set_option Elab.async false
set_option linter.all false
set_option maxRecDepth 100000
set_option maxHeartbeats 4000000
namespace B
open PySem PySem.Spec PyProof.Rows L2
open PySem.W (kdv_obj kdv_fn kdv_tup)
/-! ### word(lambda: ..) -/
section
variable {X : Cx} {pins : List (Addr × Obj)} {σ : L2.St} {H H1 : Hp} {s s1 : Shared}
theorem word_go (T : Txt X.prog X.w X.K X.mg X.base) {params : Arguments} {body : Expr} {scope : Scope} {f c1 P : Addr} {dV : Value} {k : Nat} {ext : List (Addr × Obj)} {binds : List (Str × Value)} {t : XK → TE} {Q : VK} (I : Inv X pins σ H1 s1) (L : LamP X.N X.env.scope scope)
    (M : Made X P (X.env.qual ++ "<lambda>") params body scope dV ext H H1 s1 f c1)
    (bnd : ∀ (s' : Shared) (cl : List (Str × Addr)) (doc pm cv ctv : Value), (∀ p ∈ ext, s'.heap.get? p.1 = some p.2) → BindsTo s' (kdv_fn "<lambda>" (X.env.qual ++ "<lambda>") params (.expr body) scope cl dV doc pm cv ctv) ⟨[], []⟩ binds)
    (loc : ∀ y ∈ binds, scope.names.lookup y.1 = some .local) (hr : Room (k + 2) X.A)
    (hbody : ∀ (A : Around) (outer : List Env) (s : Shared) (H : Hp) (E : XK) (f c1 : Addr), Room k (A.deeper (LamX.lamEnv X scope s.heap.objs.size f c1)) → PE (LamX.lamCx X A outer s H E scope f c1) body (t E))
    (h : TWord X.K (fun E H' Q' => t E σ H' Q') H1 Q) : codeAny (model X.prog X.w) X.A (.call (.ref (He.ga X.K "_law_word")) ⟨[.ref f], []⟩) (CR CX0 X.stack X.prog X.w H1 s1 Q E0) s1 := by
  obtain ⟨fd, F⟩ := T.t.def_ 16 (d := d_lword)
  have b : L2.Binds X.K fd ["_law_work"] [] := F.bindsN fun _ _ _ _ _ _ us hl => match us, hl with | [_], _ => rfl
  obtain ⟨oc, od, dV', kV, doc, pm, an, cdv, ct, osl, rfl, lk, hcd, _, _⟩ := F.ex
  refine LamX.run_ofS (N := NW) (ps := ["_law_work"]) (us := [.ref f]) (vs := [.ref f]) lk hcd sc_lword hr I.env0 (b s1 [.ref f] I.kIn rfl) (.cons rfl .nil) rfl fun hr' => ?_
  exact word_ok (X := X) (cdg := cdv) (s := s1) (H0 := H1) T (fun W pn xe p1 p2 tk => pe_turn (i := 0) (tb := t) I L M bnd loc tk hr' (fun A outer s H E hr2 => hbody A outer s H E f c1 hr2) rfl (.inl rfl)) M.co h
def tWordL (K : PySem.W.Frag) (P : Addr) (q : Str) (t : XK → TE) : TE := fun σ H Q => LamX.TabS H P q ∧ ∀ H1, (∀ b o, H b = some o → b ≠ P → H1 b = some o) → (∀ b, H1 b = none → H b = none) → LamX.TabS H1 P q → TWord K (fun E H' Q' => t E σ H' Q') H1 Q
theorem pe_word0 (T : Txt X.prog X.w X.K X.mg X.base) {params : Arguments} {body : Expr} {scope : Scope} {c P : Addr} {k : Nat} {t : XK → TE} {p lpos pos : Pos} (h0 : params.defaults = []) (h1 : params.kw_defaults = []) (hbind : ∀ (q : Str) (cl : List (Str × Addr)) (doc pm cv ctv : Value), bindArgs (kdv_fn "<lambda>" q params (.expr body) scope cl .none doc pm cv ctv) ⟨[], []⟩ = pure []) (TB : LamX.TabB X.base X.mg c P) (hcode : X.env.code = .ref c) (hr : Room (k + 2) X.A) (L : LamP X.N X.env.scope scope)
    (hbody : ∀ (A : Around) (outer : List Env) (s : Shared) (H : Hp) (E : XK) (f c1 : Addr), Room k (A.deeper (LamX.lamEnv X scope s.heap.objs.size f c1)) → PE (LamX.lamCx X A outer s H E scope f c1) body (t E)) (hg : Gl X "_law_word")
    (hst : starEach [.Lambda params body scope lpos] X.env = (false, eval (.Lambda params body scope lpos) X.env) :: starEach [] X.env := by rfl) (hpl : (backTo pos (starEach [] X.env)).any (·.1) = false := by rfl) :
    PE X (.Call (.Name "_law_word" p) [.Lambda params body scope lpos] [] pos) (tWordL X.K P (X.env.qual ++ "<lambda>") t) := by
  refine ⟨fun pins s σ H Q I h => ?_⟩
  obtain ⟨hT, h⟩ := h
  obtain ⟨fd, F⟩ := T.t.def_ 16 (d := d_lword)
  have hm : X.mg "_law_word" = some (.ref (He.ga X.K "_law_word")) := He.glo_ok T.X T.G (T.t.fact 16)
  have hk : PySem.W.keepIn X.K (.ref (He.ga X.K "_law_word")) = true := F.kp
  refine wpAny_Call_Name_kw (ld_glob I hg hm ?_)
  refine PySem.W.callWith_K (h₀ := X.base) I.ok.mod.kin hk ?_ (by rfl) (by rfl)
  show wpAny _ _ (spliced ((false, eval (.Lambda params body scope lpos) X.env) :: backTo pos (starEach [] X.env))) _ _ s
  refine Calls.spliced_cons (made0 I TB hcode hT (L.has I.ok) h0 h1 fun f c1 H1 s1 I1 M => ?_)
  refine Calls.spliced_nil ⟨I1.kIn, ?_⟩
  refine wpAny_call (codeAny_mono (word_go T I1 L M (binds := []) (fun s2 cl doc pm cv ctv _ => .of_eq (hbind _ _ _ _ _ _)) (fun _ hy => absurd hy (by simp)) hr hbody (h _ M.fr M.bk M.tb)) fun r s2 hq => ?_)
  match r, hq with
  | .error e, hq => exact (show False from hq).elim
  | .ok (.ret u), hq => exact I1.after hq
  | .ok .next, hq => exact False.elim hq
  | .ok .brk, hq => exact False.elim hq
  | .ok .cont, hq => exact False.elim hq
theorem pe_word1 (T : Txt X.prog X.w X.K X.mg X.base) {params : Arguments} {body : Expr} {scope : Scope} {c P : Addr} {k : Nat} {t : XK → TE} {p lpos pos : Pos} {i : Int} {j : Nat} {dp : Pos} {a : Str} (h0 : params.defaults = [.Constant (.int i) j dp]) (h1 : params.kw_defaults = []) (hloc : scope.names.lookup a = some .local) (hbind : ∀ (s : Shared) (q : Str) (cl : List (Str × Addr)) (t0 : Addr) (tk : Nat) (doc pm cv ctv : Value), s.heap.get? t0 = some (kdv_tup [.int i tk]) → BindsTo s (kdv_fn "<lambda>" q params (.expr body) scope cl (.ref t0) doc pm cv ctv) ⟨[], []⟩ [(a, .int i tk)]) (TB : LamX.TabB X.base X.mg c P) (hcode : X.env.code = .ref c) (hr : Room (k + 2) X.A) (L : LamP X.N X.env.scope scope)
    (hbody : ∀ (A : Around) (outer : List Env) (s : Shared) (H : Hp) (E : XK) (f c1 : Addr), Room k (A.deeper (LamX.lamEnv X scope s.heap.objs.size f c1)) → PE (LamX.lamCx X A outer s H E scope f c1) body (t E)) (hg : Gl X "_law_word")
    (hst : starEach [.Lambda params body scope lpos] X.env = (false, eval (.Lambda params body scope lpos) X.env) :: starEach [] X.env := by rfl) (hpl : (backTo pos (starEach [] X.env)).any (·.1) = false := by rfl) :
    PE X (.Call (.Name "_law_word" p) [.Lambda params body scope lpos] [] pos) (tWordL X.K P (X.env.qual ++ "<lambda>") t) := by
  refine ⟨fun pins s σ H Q I h => ?_⟩
  obtain ⟨hT, h⟩ := h
  obtain ⟨fd, F⟩ := T.t.def_ 16 (d := d_lword)
  have hm : X.mg "_law_word" = some (.ref (He.ga X.K "_law_word")) := He.glo_ok T.X T.G (T.t.fact 16)
  have hk : PySem.W.keepIn X.K (.ref (He.ga X.K "_law_word")) = true := F.kp
  refine wpAny_Call_Name_kw (ld_glob I hg hm ?_)
  refine PySem.W.callWith_K (h₀ := X.base) I.ok.mod.kin hk ?_ (by rfl) (by rfl)
  show wpAny _ _ (spliced ((false, eval (.Lambda params body scope lpos) X.env) :: backTo pos (starEach [] X.env))) _ _ s
  refine Calls.spliced_cons (made1 I TB hcode hT (L.has I.ok) h0 h1 fun f c1 t0 tk H1 s1 I1 M => ?_)
  refine Calls.spliced_nil ⟨I1.kIn, ?_⟩
  refine wpAny_call (codeAny_mono (word_go T I1 L M (binds := [(a, .int i tk)]) (fun s2 cl doc pm cv ctv e => hbind _ _ _ _ _ _ _ _ _ (e _ (List.mem_singleton.mpr rfl))) (fun y hy => by rw [List.mem_singleton.mp hy]; exact hloc) hr hbody (h _ M.fr M.bk M.tb)) fun r s2 hq => ?_)
  match r, hq with
  | .error e, hq => exact (show False from hq).elim
  | .ok (.ret u), hq => exact I1.after hq
  | .ok .next, hq => exact False.elim hq
  | .ok .brk, hq => exact False.elim hq
  | .ok .cont, hq => exact False.elim hq
end
end B

set_option Elab.async false
set_option linter.all false
set_option maxRecDepth 100000
set_option maxHeartbeats 4000000
namespace B
open PySem PySem.Spec PyProof.Rows L2
open SX (S)
/-! ### alike -/
theorem atI_nat' {xs : List V} {i : Nat} {v : V} (h : xs[i]? = some v) : atI xs (0 + (i : Int)) = some v := by
  rw [Int.zero_add]
  exact atI_nat h
/-- asked of two things that A calls alike -/
def spAl (A : V → V → Hp → Prop) : Sp := fun vs H Q _ => ∃ x y, vs = [x, y] ∧ A x y H ∧ ∀ H', Frm [] H H' → Q (.bl true) H'
def Atom (x y : V) : Prop := (∃ b, x = .bl b ∧ y = .bl b) ∨ (∃ s, x = .str s ∧ y = .str s) ∨ (∃ i, x = .int i ∧ y = .int i) ∨ (x = .non ∧ y = .non)
def AlStep (K : PySem.W.Frag) (A : V → V → Hp → Prop) (x y : V) (H : Hp) : Prop := Atom x y ∨ ∃ (p q : Addr) (xs ys : List V), x = .ref p ∧ y = .ref q ∧ ((H p = some (.lst xs) ∧ H q = some (.lst ys)) ∨ (H p = some (.tup xs) ∧ H q = some (.tup ys))) ∧ xs.length = ys.length ∧ ys.length ≤ 100000 ∧
  ∀ (i : Nat) a b, xs[i]? = some a → ys[i]? = some b → A a b H
def Steady (A : V → V → Hp → Prop) : Prop := ∀ x y H H', A x y H → Frm [] H H' → A x y H'
theorem steady0 : Steady (fun _ _ _ => False) := fun _ _ _ _ h _ => h
theorem steady_step {K : PySem.W.Frag} {A : V → V → Hp → Prop} (h : Steady A) : Steady (AlStep K A) := by
  rintro x y H H' (z | ⟨p, q, xs, ys, e1, e2, hs, hl, hn, hA⟩) f
  · exact .inl z
  · refine .inr ⟨p, q, xs, ys, e1, e2, ?_, hl, hn, fun i a b ha hb => h _ _ _ _ (hA i a b ha hb) f⟩
    rcases hs with ⟨h1, h2⟩ | ⟨h1, h2⟩
    · exact .inl ⟨f.k _ _ h1 rfl (by simp), f.k _ _ h2 rfl (by simp)⟩
    · exact .inr ⟨f.k _ _ h1 rfl (by simp), f.k _ _ h2 rfl (by simp)⟩
theorem al_strs {K : PySem.W.Frag} {A : V → V → Hp → Prop} {H : Hp} {p q : Addr} {xs : List Str} (hp : H p = some (.lst (xs.map V.str))) (hq : H q = some (.lst (xs.map V.str))) (hl : xs.length ≤ 100000) : AlStep K (AlStep K A) (.ref p) (.ref q) H := by
  refine .inr ⟨p, q, _, _, rfl, rfl, .inl ⟨hp, hq⟩, rfl, by rw [List.length_map]; exact hl, fun i a b ha hb => .inl ?_⟩
  rw [hb] at ha
  obtain rfl := Option.some.inj ha
  obtain ⟨z, hz, e⟩ := at_map hb
  exact .inr (.inl ⟨z, e, e⟩)
section
variable {P : Program} {w : World} {K : PySem.W.Frag} {mg : Str → Option Value} {base : Heap}
theorem alike0 (T : Txt P w K mg base) : CalX CX0 P w K mg base 1 "_law_alike" (spAl fun _ _ _ => False) := by
  obtain ⟨fd, F⟩ := T.t.def_ 15 (d := d_lalike)
  refine ⟨_, fd, _, F.ok sc_lalike (fun vs H Q E h => ?_) (fun cdv A outer s H vs Q E hr h => ?_), He.glo_ok T.X T.G (T.t.fact 15), F.kp, F.bindsN fun _ _ _ _ _ _ us hl => match us, hl with | [_, _], _ => rfl⟩
  · obtain ⟨_, _, _, z, _⟩ := h
    exact z.elim
  · obtain ⟨_, _, _, z, _⟩ := h
    exact z.elim
theorem alike_step (T : Txt P w K mg base) {A : V → V → Hp → Prop} {k : Nat} (sA : Steady A) (c : CalX CX0 P w K mg base k "_law_alike" (spAl A)) : CalX CX0 P w K mg base (k + 1) "_law_alike" (spAl (AlStep K A)) := by
  obtain ⟨fd, F⟩ := T.t.def_ 15 (d := d_lalike)
  refine ⟨_, fd, _, F.ok sc_lalike (fun vs H Q E h => ?_) (fun cdv A outer s H vs Q E hr h => ?_), He.glo_ok T.X T.G (T.t.fact 15), F.kp, F.bindsN fun _ _ _ _ _ _ us hl => match us, hl with | [_, _], _ => rfl⟩
  · obtain ⟨x, y, rfl, _⟩ := h
    rfl
  · obtain ⟨x, y, rfl, hA, k⟩ := h
    have hu := hu_of hr
    refine ⟨_, PSs.nox (pss_cons (ps_if (PW.pt (pw_or (pt_val (pe_callB call_isi (by rfl) (n_isinstance T) (by decide +kernel) (pa_cons (pv 1) (pa_cons (pe_bltn (v := .ty "tuple") (u := .type "tuple") rfl (n_tuple T) (by decide +kernel) rfl) pa_nil)))) (pw_or1 (pt_val (pe_callB call_isi (by rfl) (n_isinstance T) (by decide +kernel) (pa_cons (pv 1) (pa_cons (pe_bltn (v := .ty "list") (u := .type "list") rfl (n_list T) (by decide +kernel) rfl) pa_nil)))))))
      (pss_cons (ps_if (PW.pt (pw_or (pt_cmpR op_ne (pe_callB call_isi (by rfl) (n_isinstance T) (by decide +kernel) (pa_cons (pv 0) (pa_cons (pe_bltn (v := .ty "tuple") (u := .type "tuple") rfl (n_tuple T) (by decide +kernel) rfl) pa_nil))) (pe_callB call_isi (by rfl) (n_isinstance T) (by decide +kernel) (pa_cons (pv 1) (pa_cons (pe_bltn (v := .ty "tuple") (u := .type "tuple") rfl (n_tuple T) (by decide +kernel) rfl) pa_nil))) (nomark _)) (pw_or1 (pt_not (pt_val (pe_callB call_isiT (by rfl) (n_isinstance T) (by decide +kernel) (pa_cons (pv 0) (pa_cons (pe_tup (pa_cons (pe_bltn (v := .ty "tuple") (u := .type "tuple") rfl (n_tuple T) (by decide +kernel) rfl) (pa_cons (pe_bltn (v := .ty "list") (u := .type "list") rfl (n_list T) (by decide +kernel) rfl) pa_nil))) pa_nil))))))))
        (pss_one (ps_ret pe_bl))
        pss_nil)
      (pss_cons (ps_if (pt_cmpR op_ne (pe_callB call_len_seq (by rfl) (n_len T) PySem.boot_len (pa_cons (pv 0) pa_nil)) (pe_callB call_len_seq (by rfl) (n_len T) PySem.boot_len (pa_cons (pv 1) pa_nil)) (nomark _))
        (pss_one (ps_ret pe_bl))
        pss_nil)
      (pss_one (ps_ret (pe_cmpR (op_eqD hr.units) (pe_lc (own := [("_law_k", 2)]) (g := gName 2) rfl sc_lalike.nd (pi_range1 rfl (n_range T) (pa_cons (pe_callB call_len_seq (by rfl) (n_len T) PySem.boot_len (pa_cons (pv 1) pa_nil)) pa_nil)) (blkOk_by (N := ["_law_found", "_law_due", "_law_k"]) (sc := defScope s_lalike) (own := [("_law_k", 2)]) (by decide +kernel)) (fun _ _ _ _ _ => pg_name (i := 2) sc_lalike.nd rfl (Or.inl rfl)) (fun _ _ _ _ _ => pts_one (by exact (pt_not (pt_val (pe_cx c hr (Nat.le_refl _) rfl pass0 (pa_cons (pe_ix (ix_seqK (K := K) rfl) (pv 0) (pv 2) (fun _ _ => rfl)) (pa_cons (pe_ix (ix_seqK (K := K) rfl) (pv 1) (pv 2) (fun _ _ => rfl)) pa_nil))))))) (fun _ _ _ _ _ => by exact (pv 2))) (pe_lst pa_nil) (nomark _))))))
      pss_nil)
    (pss_cons (ps_if (PW.pt (pw_or (pt_cmpR op_isN (pv 1) pe_non (nomark _)) (pw_or1 (pt_cmpR op_isN (pv 0) pe_non (nomark _)))))
      (pss_one (ps_ret (pe_and (pe_cmpR op_isN (pv 1) pe_non (nomark _)) (pe_one (pe_cmpR op_isN (pv 0) pe_non (nomark _))))))
      pss_nil)
    (pss_cons (ps_if (PW.pt (pw_or (pt_val (pe_callB call_isi (by rfl) (n_isinstance T) (by decide +kernel) (pa_cons (pv 1) (pa_cons (pe_bltn (v := .ty "bool") (u := .type "bool") rfl (n_bool T) (by decide +kernel) rfl) pa_nil)))) (pw_or1 (pt_val (pe_callB call_isi (by rfl) (n_isinstance T) (by decide +kernel) (pa_cons (pv 0) (pa_cons (pe_bltn (v := .ty "bool") (u := .type "bool") rfl (n_bool T) (by decide +kernel) rfl) pa_nil)))))))
      (pss_one (ps_ret (pe_and (pe_callB call_isi (by rfl) (n_isinstance T) (by decide +kernel) (pa_cons (pv 1) (pa_cons (pe_bltn (v := .ty "bool") (u := .type "bool") rfl (n_bool T) (by decide +kernel) rfl) pa_nil))) (pe_and (pe_callB call_isi (by rfl) (n_isinstance T) (by decide +kernel) (pa_cons (pv 0) (pa_cons (pe_bltn (v := .ty "bool") (u := .type "bool") rfl (n_bool T) (by decide +kernel) rfl) pa_nil))) (pe_one (pe_cmpR op_eq (pv 0) (pv 1) (nomark _)))))))
      pss_nil)
    (pss_cons (ps_if (pt_val (pe_callB call_isi (by rfl) (n_isinstance T) (by decide +kernel) (pa_cons (pv 1) (pa_cons (pe_bltn (v := .ty "str") (u := .type "str") rfl (n_str T) (by decide +kernel) rfl) pa_nil))))
      (pss_one (ps_ret (pe_and (pe_callB call_isi (by rfl) (n_isinstance T) (by decide +kernel) (pa_cons (pv 0) (pa_cons (pe_bltn (v := .ty "str") (u := .type "str") rfl (n_str T) (by decide +kernel) rfl) pa_nil))) (pe_one (pe_cmpR op_eq (pv 0) (pv 1) (nomark _))))))
      pss_nil)
    (pss_one (ps_ret (pe_and (pe_callB call_isi (by rfl) (n_isinstance T) (by decide +kernel) (pa_cons (pv 0) (pa_cons (pe_bltn (v := .ty "int") (u := .type "int") rfl (n_int T) (by decide +kernel) rfl) pa_nil))) (pe_one (pe_cmpR op_eq (pv 0) (pv 1) (nomark _)))))))))), ?_⟩
    have kH := k H (Frm.refl _ _)
    rcases hA with (⟨b, rfl, rfl⟩ | ⟨z, rfl, rfl⟩ | ⟨i, rfl, rfl⟩ | ⟨rfl, rfl⟩) | ⟨p, q, xs, ys, rfl, rfl, hs, hl, hn, hA⟩
    · refine ⟨_, rfl, _, _, _, _, false, rfl, .ty _, .base (.bl b), kit_ty (by decide +kernel), false, rfl, ?_⟩
      refine ⟨_, rfl, _, _, _, _, false, rfl, .ty _, .base (.bl b), kit_ty (by decide +kernel), false, rfl, ?_⟩
      refine ⟨_, rfl, rfl, _, rfl, ?_⟩
      refine ⟨_, rfl, rfl, _, rfl, ?_⟩
      refine ⟨_, rfl, _, _, _, _, true, rfl, .ty _, .base (.bl b), kit_ty (by decide +kernel), true, rfl, ?_⟩
      refine ⟨_, rfl, _, _, _, _, true, rfl, .ty _, .base (.bl b), kit_ty (by decide +kernel), true, rfl, ?_⟩
      refine ⟨_, rfl, _, _, _, _, true, rfl, .ty _, .base (.bl b), kit_ty (by decide +kernel), true, rfl, ?_⟩
      refine ⟨_, rfl, _, rfl, rfl, ?_⟩
      have e : decide (V.bl b = V.bl b) = true := decide_eq_true rfl
      rw [e]
      exact kH
    · refine ⟨_, rfl, _, _, _, _, false, rfl, .ty _, .base (.str z), kit_ty (by decide +kernel), false, rfl, ?_⟩
      refine ⟨_, rfl, _, _, _, _, false, rfl, .ty _, .base (.str z), kit_ty (by decide +kernel), false, rfl, ?_⟩
      refine ⟨_, rfl, rfl, _, rfl, ?_⟩
      refine ⟨_, rfl, rfl, _, rfl, ?_⟩
      refine ⟨_, rfl, _, _, _, _, false, rfl, .ty _, .base (.str z), kit_ty (by decide +kernel), false, rfl, ?_⟩
      refine ⟨_, rfl, _, _, _, _, false, rfl, .ty _, .base (.str z), kit_ty (by decide +kernel), false, rfl, ?_⟩
      refine ⟨_, rfl, _, _, _, _, true, rfl, .ty _, .base (.str z), kit_ty (by decide +kernel), true, rfl, ?_⟩
      refine ⟨_, rfl, _, _, _, _, true, rfl, .ty _, .base (.str z), kit_ty (by decide +kernel), true, rfl, ?_⟩
      refine ⟨_, rfl, _, rfl, rfl, ?_⟩
      rw [str_dec, decide_eq_true rfl]
      exact kH
    · refine ⟨_, rfl, _, _, _, _, false, rfl, .ty _, .base (.int i), kit_ty (by decide +kernel), false, rfl, ?_⟩
      refine ⟨_, rfl, _, _, _, _, false, rfl, .ty _, .base (.int i), kit_ty (by decide +kernel), false, rfl, ?_⟩
      refine ⟨_, rfl, rfl, _, rfl, ?_⟩
      refine ⟨_, rfl, rfl, _, rfl, ?_⟩
      refine ⟨_, rfl, _, _, _, _, false, rfl, .ty _, .base (.int i), kit_ty (by decide +kernel), false, rfl, ?_⟩
      refine ⟨_, rfl, _, _, _, _, false, rfl, .ty _, .base (.int i), kit_ty (by decide +kernel), false, rfl, ?_⟩
      refine ⟨_, rfl, _, _, _, _, false, rfl, .ty _, .base (.int i), kit_ty (by decide +kernel), false, rfl, ?_⟩
      refine ⟨_, rfl, _, _, _, _, true, rfl, .ty _, .base (.int i), kit_ty (by decide +kernel), true, rfl, ?_⟩
      refine ⟨_, rfl, _, rfl, rfl, ?_⟩
      rw [int_dec, decide_eq_true rfl]
      exact kH
    · refine ⟨_, rfl, _, _, _, _, false, rfl, .ty _, .base .non, kit_ty (by decide +kernel), false, rfl, ?_⟩
      refine ⟨_, rfl, _, _, _, _, false, rfl, .ty _, .base .non, kit_ty (by decide +kernel), false, rfl, ?_⟩
      refine ⟨_, rfl, rfl, _, rfl, ?_⟩
      refine ⟨_, rfl, rfl, _, rfl, _, rfl, rfl, ?_⟩
      exact kH
    · rcases hs with ⟨h1, h2⟩ | ⟨h1, h2⟩
      · refine ⟨_, rfl, _, _, _, _, false, rfl, .ty _, .base (.lst h2), kit_ty (by decide +kernel), false, rfl, ?_⟩
        refine ⟨_, rfl, _, _, _, _, true, rfl, .ty _, .base (.lst h2), kit_ty (by decide +kernel), true, rfl, ?_⟩
        refine ⟨_, rfl, _, _, _, _, false, rfl, .ty _, .base (.lst h1), kit_ty (by decide +kernel), ?_⟩
        refine ⟨_, rfl, _, _, _, _, false, rfl, .ty _, .base (.lst h2), kit_ty (by decide +kernel), rfl, false, rfl, ?_⟩
        refine ⟨_, rfl, by show 2 ≤ sizeLine; decide, fun tp htp => ?_⟩
        have f1 : Frm [] H (upd H tp (.tup [.ty "tuple", .ty "list"])) := Frm.of (same_upd htp)
        have g1 := f1.k _ _ h1 rfl (by simp)
        have g2 := f1.k _ _ h2 rfl (by simp)
        refine ⟨_, tp, _, _, _, true, rfl, upd_same, .cons (.ty _) (.cons (.ty _) .nil), .base (.lst g1), kitAny_cons (b := false) (kit_ty (by decide +kernel)) (fun _ => kitAny_cons (b := true) (kit_ty (by decide +kernel)) (fun z => nomatch z) (fun _ => rfl)) (fun z => nomatch z), true, rfl, ?_⟩
        refine ⟨_, rfl, p, xs, rfl, .inl (SqL.of g1), _, rfl, q, ys, rfl, .inl (SqL.of g2), rfl, false, congrArg V.bl (by rw [hl, decide_eq_true rfl]; rfl), ?_⟩
        refine ⟨_, rfl, q, ys, rfl, .inl (SqL.of g2), _, rfl, by omega, by omega, fun D hD => ?_⟩
        have fD : Frm [] H (upd (upd H tp (.tup [.ty "tuple", .ty "list"])) D (.lst [])) := f1.trans (Frm.of (same_upd hD))
        refine lc_range (lo := 0) (n := ((ys.length : Nat) : Int).toNat) (fun i H' => Frm [] H H' ∧ H' D = some (.lst [])) ⟨fD, upd_same⟩ ?_ ?_
        · rintro i H1 hi ⟨fi, di⟩
          have hi' : i < ys.length := hi
          have hx : xs[i]? = some (xs[i]'(by omega)) := by simp [hl, hi']
          have hy : ys[i]? = some (ys[i]'hi') := by simp [hi']
          have k1 := fi.k _ _ h1 rfl (by simp)
          have k2 := fi.k _ _ h2 rfl (by simp)
          refine ⟨rfl, _, rfl, _, rfl, .inl ⟨p, xs, _, _, rfl, rfl, SqL.of k1, atI_nat' hx, _, rfl, _, rfl, .inl ⟨q, ys, _, _, rfl, rfl, SqL.of k2, atI_nat' hy, _, _, rfl, sA _ _ _ _ (hA i _ _ hx hy) fi, fun H2 f2 => ?_⟩⟩⟩
          refine ⟨true, rfl, fi.trans f2, f2.k _ _ di rfl (by simp)⟩
        · rintro H1 ⟨fi, di⟩
          refine ⟨Nat.zero_le _, fun D2 hD2 => ?_⟩
          refine ⟨_, _, .lst (SqL.of (same_upd hD2 _ _ di)) .nil, .lst (SqL.of upd_same) .nil, by decide +kernel, by decide +kernel, ?_⟩
          exact k _ (fi.trans (Frm.of (same_upd hD2)))
      · refine ⟨_, rfl, _, _, _, _, true, rfl, .ty _, .base (.tup h2), kit_ty (by decide +kernel), true, rfl, ?_⟩
        refine ⟨_, rfl, _, _, _, _, true, rfl, .ty _, .base (.tup h1), kit_ty (by decide +kernel), ?_⟩
        refine ⟨_, rfl, _, _, _, _, true, rfl, .ty _, .base (.tup h2), kit_ty (by decide +kernel), rfl, false, rfl, ?_⟩
        refine ⟨_, rfl, by show 2 ≤ sizeLine; decide, fun tp htp => ?_⟩
        have f1 : Frm [] H (upd H tp (.tup [.ty "tuple", .ty "list"])) := Frm.of (same_upd htp)
        have g1 := f1.k _ _ h1 rfl (by simp)
        have g2 := f1.k _ _ h2 rfl (by simp)
        refine ⟨_, tp, _, _, _, true, rfl, upd_same, .cons (.ty _) (.cons (.ty _) .nil), .base (.tup g1), kitAny_cons (b := true) (kit_ty (by decide +kernel)) (fun z => nomatch z) (fun _ => rfl), true, rfl, ?_⟩
        refine ⟨_, rfl, p, xs, rfl, .inr (SqT.of g1), _, rfl, q, ys, rfl, .inr (SqT.of g2), rfl, false, congrArg V.bl (by rw [hl, decide_eq_true rfl]; rfl), ?_⟩
        refine ⟨_, rfl, q, ys, rfl, .inr (SqT.of g2), _, rfl, by omega, by omega, fun D hD => ?_⟩
        have fD : Frm [] H (upd (upd H tp (.tup [.ty "tuple", .ty "list"])) D (.lst [])) := f1.trans (Frm.of (same_upd hD))
        refine lc_range (lo := 0) (n := ((ys.length : Nat) : Int).toNat) (fun i H' => Frm [] H H' ∧ H' D = some (.lst [])) ⟨fD, upd_same⟩ ?_ ?_
        · rintro i H1 hi ⟨fi, di⟩
          have hi' : i < ys.length := hi
          have hx : xs[i]? = some (xs[i]'(by omega)) := by simp [hl, hi']
          have hy : ys[i]? = some (ys[i]'hi') := by simp [hi']
          have k1 := fi.k _ _ h1 rfl (by simp)
          have k2 := fi.k _ _ h2 rfl (by simp)
          refine ⟨rfl, _, rfl, _, rfl, .inr (.inl ⟨p, xs, _, _, rfl, rfl, SqT.of k1, atI_nat' hx, _, rfl, _, rfl, .inr (.inl ⟨q, ys, _, _, rfl, rfl, SqT.of k2, atI_nat' hy, _, _, rfl, sA _ _ _ _ (hA i _ _ hx hy) fi, fun H2 f2 => ?_⟩)⟩)⟩
          refine ⟨true, rfl, fi.trans f2, f2.k _ _ di rfl (by simp)⟩
        · rintro H1 ⟨fi, di⟩
          refine ⟨Nat.zero_le _, fun D2 hD2 => ?_⟩
          refine ⟨_, _, .lst (SqL.of (same_upd hD2 _ _ di)) .nil, .lst (SqL.of upd_same) .nil, by decide +kernel, by decide +kernel, ?_⟩
          exact k _ (fi.trans (Frm.of (same_upd hD2)))
end
end B

set_option Elab.async false
set_option linter.all false
set_option maxRecDepth 100000
set_option maxHeartbeats 4000000
namespace B
open PySem PySem.Spec PyProof.Rows L2
open SX (S)
/-! ### the classes' words -/
section
variable {P : Program} {w : World} {K : PySem.W.Frag} {mg : Str → Option Value} {base : Heap}
theorem exc_all {c : Str} (h : excC K c = true) (hs : PySem.W.subIn K (.ref (He.ga K c)) (.type "BaseException") = some true) : ExcC K (He.ga K c) ∧ PySem.W.kitOne K (.ref (He.ga K c)) (.type "ValueError") = some true := by
  unfold excC at h
  obtain ⟨h, h8⟩ := He.ba h
  obtain ⟨h, h7⟩ := He.ba h
  obtain ⟨h, h6⟩ := He.ba h
  obtain ⟨h, h5⟩ := He.ba h
  obtain ⟨h, h4⟩ := He.ba h
  obtain ⟨h, h3⟩ := He.ba h
  obtain ⟨h1, h2⟩ := He.ba h
  exact ⟨⟨He.eqO_ok h1, He.eqO_ok h2, hs, h3, He.eqO_ok h4, of_decide_eq_true h5, of_decide_eq_true h6, of_decide_eq_true h7⟩, of_decide_eq_true h8⟩
theorem kit_all {c : Str} {n : Nat} (hc : allErr[n]? = some c) (h : (allErr.all fun d => kitC K c d (decide (c = d))) = true) (i : Nat) (d : Str) (hd : allErr[i]? = some d) : PySem.W.kitOne K (.ref (He.ga K c)) (.ref (He.ga K d)) = some (decide (i = n)) := by
  have q := of_decide_eq_true (List.all_eq_true.mp h d (List.mem_of_getElem? hd))
  rw [q]
  have hn := (List.getElem?_eq_some_iff.mp hc).1
  have hi := (List.getElem?_eq_some_iff.mp hd).1
  have z : (List.range 15).all (fun i => (List.range 15).all fun n => decide (allErr[n]? = allErr[i]?) == decide (i = n)) = true := by decide +kernel
  have z1 := beq_iff_eq.mp (List.all_eq_true.mp (List.all_eq_true.mp z i (List.mem_range.mpr hi)) n (List.mem_range.mpr hn))
  rw [hc, hd] at z1
  have e : decide (c = d) = decide (some c = some d) := by
    by_cases q : c = d
    · rw [decide_eq_true q, decide_eq_true (by rw [q])]
    · rw [decide_eq_false q, decide_eq_false (fun z => q (Option.some.inj z))]
  rw [e, z1]
theorem word_of (T : Txt P w K mg base) {c wd : Str} {n : Nat} (hr : c ∈ raised) (hs : PySem.W.subIn K (.ref (He.ga K c)) (.type "BaseException") = some true) (hm : PySem.W.exmOne K (.ref (He.ga K c)) (.ref (He.ga K "BusError")) = some true) (hn : n < 15) (hc : allErr[n]? = some c) (hw : wordsV[n]? = some wd)
    (ne : inV (.str wd) [V.str "looks", V.str "step"] = false ∧ decide (V.str wd = V.str "text") = false) : WordC K (.ref (He.ga K c)) n wd := by
  obtain ⟨h1, h2⟩ := He.ba (List.all_eq_true.mp (ex_exc T) c hr)
  obtain ⟨e1, e2⟩ := exc_all h1 hs
  exact ⟨⟨_, rfl, e1, kit_all hc h2, e2, hm⟩, hn, hw, ne⟩
end
end B

set_option Elab.async false
set_option linter.all false
set_option maxRecDepth 100000
set_option maxHeartbeats 4000000
namespace B
open PySem PySem.Spec PyProof.Rows L2
open SX (S)
theorem nodup_le {xs : List Str} : ∀ {ys : List Str}, xs.Nodup → (∀ x ∈ xs, x ∈ ys) → xs.length ≤ ys.length := by
  induction xs with
  | nil => intro ys _ _; exact Nat.zero_le _
  | cons x r ih =>
    intro ys hn hs
    have hx := hs x (List.mem_cons_self ..)
    have n := List.nodup_cons.mp hn
    have q := ih (ys := ys.erase x) n.2 fun z hz => by
      have ne : z ≠ x := fun e => n.1 (e ▸ hz)
      exact (List.mem_erase_of_ne ne).mpr (hs z (List.mem_cons_of_mem _ hz))
    rw [List.length_erase_of_mem hx] at q
    have := List.length_pos_of_mem hx
    rw [List.length_cons]
    omega
/-- what the wire counts of a round -/
def msOf (W : Nat) : Option (List Nat) → Int
  | none => W
  | some l => l.length
/-- a wire and an own one agree -/
structure SideX (K : PySem.W.Frag) (H : Hp) (pw dh dl pm dt ml : Addr) (W : Nat) (names : List Str) (kvs : List (Str × Bool)) (lw lm : List Str) (sd : Option (List Nat)) (lk : Int) : Prop where
  wa : WiAt K H pw dh dl W kvs lw (msOf W sd) lk
  ma : MdAt H pm dt ml W kvs lm sd lk
  perm : lw.Perm lm
  nd : (kvs.map (·.1)).Nodup
  sub : ∀ x ∈ kvs.map (·.1), x ∈ names
  len : lm.length ≤ 41
  num : ∀ x ∈ lm, Num W x
  beg : ∀ l, sd = some l → l.length ≤ W ∧ ∀ x ∈ lm, Beg W l x
  ne : pm ≠ dt ∧ dh ≠ pm ∧ dh ≠ dt
/-- the numbers that a side draws from -/
structure Pool (H : Hp) (pn : Addr) (W : Nat) (names : List Str) : Prop where
  at_ : H pn = some (.lst (names.map V.str))
  ne : names ≠ []
  len : names.length ≤ 41
  num : ∀ x ∈ names, Num W x
  w : 1 ≤ W ∧ W ≤ 12
theorem has_key {kvs : List (Str × Bool)} {x : Str} : hasK kvs x = true ↔ x ∈ kvs.map (·.1) := by
  unfold hasK
  rw [List.any_eq_true]
  constructor
  · rintro ⟨p, hp, e⟩
    exact List.mem_map.mpr ⟨p, hp, of_decide_eq_true e⟩
  · intro h
    obtain ⟨p, hp, e⟩ := List.mem_map.mp h
    exact ⟨p, hp, decide_eq_true e⟩
theorem keys_put {kvs : List (Str × Bool)} {x : Str} {b : Bool} : (putB kvs x b).map (·.1) = if hasK kvs x = true then kvs.map (·.1) else kvs.map (·.1) ++ [x] := by
  unfold putB
  split
  · rw [List.map_map]
    apply List.map_congr_left
    intro p _
    show (if p.1 = x then (p.1, b) else p).1 = p.1
    split <;> rfl
  · rw [List.map_append]
    rfl
theorem put_nodup {kvs : List (Str × Bool)} {x : Str} {b : Bool} (h : (kvs.map (·.1)).Nodup) : ((putB kvs x b).map (·.1)).Nodup := by
  rw [keys_put]
  split
  · exact h
  · rename_i nh
    rw [List.nodup_append]
    refine ⟨h, by simp, fun a ha c hc => ?_⟩
    rw [List.mem_singleton] at hc
    rw [hc]
    intro e
    exact nh (has_key.mpr (e ▸ ha))
theorem put_sub {kvs : List (Str × Bool)} {x : Str} {b : Bool} {names : List Str} (h : ∀ y ∈ kvs.map (·.1), y ∈ names) (hx : x ∈ names) : ∀ y ∈ (putB kvs x b).map (·.1), y ∈ names := by
  rw [keys_put]
  split
  · exact h
  · intro y hy
    rw [List.mem_append, List.mem_singleton] at hy
    rcases hy with z | rfl
    · exact h y z
    · exact hx
theorem drop_keys {kvs : List (Str × Bool)} {x : Str} : (dropB kvs x).map (·.1) = (kvs.map (·.1)).filter (fun y => decide (y ≠ x)) := by
  unfold dropB
  rw [List.filter_map]
  rfl
theorem deed_nodup {kvs : List (Str × Bool)} {wd x : Str} (h : (kvs.map (·.1)).Nodup) : ((deedK kvs wd x).map (·.1)).Nodup := by
  unfold deedK
  split
  · split
    · exact h
    · exact put_nodup h
  · split
    · split
      · rw [drop_keys]
        exact h.filter _
      · exact put_nodup h
    · exact h
theorem deed_sub {kvs : List (Str × Bool)} {wd x : Str} {names : List Str} (h : ∀ y ∈ kvs.map (·.1), y ∈ names) (hx : x ∈ names) : ∀ y ∈ (deedK kvs wd x).map (·.1), y ∈ names := by
  unfold deedK
  split
  · split
    · exact h
    · exact put_sub h hx
  · split
    · split
      · rw [drop_keys]
        intro y hy
        exact h y (List.mem_filter.mp hy).1
      · exact put_sub h hx
    · exact h
theorem deed_len {kvs : List (Str × Bool)} {lm : List Str} {wd x : Str} : (deedL kvs lm wd x).length ≤ lm.length ∧ ∀ y ∈ deedL kvs lm wd x, y ∈ lm := by
  unfold deedL
  split
  · exact ⟨List.length_filter_le _ _, fun y hy => (List.mem_filter.mp hy).1⟩
  · exact ⟨Nat.le_refl _, fun y hy => hy⟩
theorem deed_perm {kvs : List (Str × Bool)} {lw lm : List Str} {wd x : Str} (h : lw.Perm lm) : (deedL kvs lw wd x).Perm (deedL kvs lm wd x) := by
  unfold deedL
  split
  · exact h.filter _
  · exact h
theorem deed_no {kvs : List (Str × Bool)} {lm : List Str} {wd x : Str} (h : ¬ deedW kvs wd x = "") : deedK kvs wd x = kvs ∧ deedL kvs lm wd x = lm := by
  unfold deedW at h
  unfold deedK deedL
  split at h
  · rename_i e
    rw [if_pos e]
    split at h
    · rename_i k
      rw [if_pos k, if_neg (fun z => absurd (e.symm.trans z.1) (by decide +kernel))]
      exact ⟨rfl, rfl⟩
    · exact absurd rfl h
  · rename_i e
    rw [if_neg e]
    split at h
    · exact absurd rfl h
    · rename_i k
      rw [if_neg k, if_neg (fun z => k z.2)]
      exact ⟨rfl, rfl⟩
end B

set_option Elab.async false
set_option linter.all false
set_option maxRecDepth 100000
set_option maxHeartbeats 4000000
namespace B
open PySem PySem.Spec PyProof.Rows L2
open SX (S)
section
variable {P : Program} {w : World} {K : PySem.W.Frag} {mg : Str → Option Value} {base : Heap}
def calmK (xs : List Str) : List (Str × Bool) := xs.map fun x => (x, false)
theorem calm_keys (xs : List Str) : (calmK xs).map (·.1) = xs := by
  unfold calmK
  rw [List.map_map]
  exact List.map_id' xs
theorem calm_new {xs : List Str} {x : Str} (h : x ∉ xs) : deedW (calmK xs) "hang" x = "" ∧ deedK (calmK xs) "hang" x = calmK (xs ++ [x]) := by
  have nh : ¬ hasK (calmK xs) x = true := fun z => h (by rw [has_key, calm_keys] at z; exact z)
  unfold deedW deedK
  rw [if_pos rfl, if_neg nh, if_pos rfl, if_neg nh]
  refine ⟨rfl, ?_⟩
  unfold putB
  rw [if_neg nh]
  unfold calmK
  rw [List.map_append]
  rfl
/-- a wire on which some hang -/
def spMade (K : PySem.W.Frag) : Sp := fun vs H Q _ => ∃ (pn : Addr) (W : Nat) (names : List Str), vs = [.int W, .ref pn] ∧ H pn = some (.lst (names.map V.str)) ∧ names.Nodup ∧ names.length ≤ 100 ∧ (∀ x ∈ names, Num W x) ∧ 1 ≤ W ∧ W ≤ 12 ∧ Tb K H ∧
  ∀ (pw dh dl : Addr) (H' : Hp), H pw = none → H dh = none → H dl = none → WiAt K H' pw dh dl W (calmK names) [] W 0 → FrT K [] H H' → Q (.ref pw) H'
end
end B

set_option Elab.async false
set_option linter.all false
set_option maxRecDepth 100000
set_option maxHeartbeats 4000000
namespace B
open PySem PySem.Spec PyProof.Rows L2
open SX (S)
/-! ### an own walk -/
def wkv (kd : Str) (pr : Addr) (sd : V) (pf pp : Addr) : List (Key × V) := [(.inr "kind", .str kd), (.inr "rest", .ref pr), (.inr "said", sd), (.inr "found", .ref pf), (.inr "paper", .ref pp)]
section
variable {H : Hp} {pk pr pf pp : Addr} {kd : Str} {sd : V}
theorem kv_kind : valV (wkv kd pr sd pf pp) (.inr "kind" : Key) = some (.str kd) := by kernel_rfl
theorem kv_rest : valV (wkv kd pr sd pf pp) (.inr "rest" : Key) = some (.ref pr) := by kernel_rfl
theorem kv_said : valV (wkv kd pr sd pf pp) (.inr "said" : Key) = some sd := by kernel_rfl
theorem kv_found : valV (wkv kd pr sd pf pp) (.inr "found" : Key) = some (.ref pf) := by kernel_rfl
theorem kv_paper : valV (wkv kd pr sd pf pp) (.inr "paper" : Key) = some (.ref pp) := by kernel_rfl
theorem kp_said {v : V} : putK (wkv kd pr sd pf pp) (.inr "said" : Key) v = wkv kd pr v pf pp := by kernel_rfl
theorem wk_kind (h : H pk = some (.dK (wkv kd pr sd pf pp))) : DGet H pk (.str "kind") (some (.str kd)) := by rw [← kv_kind (kd := kd) (pr := pr) (sd := sd) (pf := pf) (pp := pp)]; exact DGet.k (k := Sum.inr "kind") h
theorem wk_rest (h : H pk = some (.dK (wkv kd pr sd pf pp))) : DGet H pk (.str "rest") (some (.ref pr)) := by rw [← kv_rest (kd := kd) (pr := pr) (sd := sd) (pf := pf) (pp := pp)]; exact DGet.k (k := Sum.inr "rest") h
theorem wk_said (h : H pk = some (.dK (wkv kd pr sd pf pp))) : DGet H pk (.str "said") (some sd) := by rw [← kv_said (kd := kd) (pr := pr) (sd := sd) (pf := pf) (pp := pp)]; exact DGet.k (k := Sum.inr "said") h
theorem wk_found (h : H pk = some (.dK (wkv kd pr sd pf pp))) : DGet H pk (.str "found") (some (.ref pf)) := by rw [← kv_found (kd := kd) (pr := pr) (sd := sd) (pf := pf) (pp := pp)]; exact DGet.k (k := Sum.inr "found") h
theorem wk_paper (h : H pk = some (.dK (wkv kd pr sd pf pp))) : DGet H pk (.str "paper") (some (.ref pp)) := by rw [← kv_paper (kd := kd) (pr := pr) (sd := sd) (pf := pf) (pp := pp)]; exact DGet.k (k := Sum.inr "paper") h
theorem wkp_said {v : V} (h : H pk = some (.dK (wkv kd pr sd pf pp))) : DPut H pk (.str "said") v (upd H pk (.dK (wkv kd pr v pf pp))) := by rw [← kp_said (sd := sd)]; exact DPut.k (k := Sum.inr "said") h (by show 5 < sizeLine; decide)
end
/-- a walk's state -/
structure WkS where
  kd : Str
  rest : List (List Nat)
  sd : Option (List Nat)
  found : List (List Nat)
  paper : List (List Nat × Bool × Bool)
def txV (l : List Nat) : V := .str (S l)
structure WkAt (H : Hp) (pk pr pf pp : Addr) (st : WkS) : Prop where
  ob : H pk = some (.dK (wkv st.kd pr (sdV st.sd) pf pp))
  rs : H pr = some (.lst (st.rest.map txV))
  fd : H pf = some (.lst (st.found.map txV))
  pa : ∃ ts : List Addr, H pp = some (.lst (ts.map V.ref)) ∧ ts.length = st.paper.length ∧ ∀ (i : Nat) (t : Addr) (q : List Nat × Bool × Bool), ts[i]? = some t → st.paper[i]? = some q → H t = some (.tup [txV q.1, .bl q.2.1, .bl q.2.2])
  ne : pr ≠ pf ∧ pr ≠ pp ∧ pf ≠ pp
section
variable {P : Program} {w : World} {K : PySem.W.Frag} {mg : Str → Option Value} {base : Heap}
/-- an own walk, new -/
def spPath : Sp := fun vs H Q _ => ∃ kd : Str, vs = [.str kd] ∧ ∀ (pk pr pf pp : Addr) (H' : Hp), H pk = none → H pr = none → H pf = none → H pp = none → WkAt H' pk pr pf pp ⟨kd, [[]], none, [], []⟩ → Frm [] H H' → Q (.ref pk) H'
theorem big6 {n : Nat} (h : n < 1000000) : n < sizeLine := Nat.lt_of_lt_of_le h (by decide)
/-- what an own round comes to -/
inductive Tld where
  | no | lost | found (l : List Nat)
def TldAt (H : Hp) : Tld → V → Prop
  | .no, v => v = .non
  | .lost, v => ∃ t, v = .ref t ∧ H t = some (.tup [.str "lost"])
  | .found l, v => ∃ t, v = .ref t ∧ H t = some (.tup [.str "found", txV l])
/-- the round's end, if all bits are said -/
def overF (W : Nat) (st : WkS) (l : List Nat) : WkS × Tld := if l.length < W then ({ st with sd := some l }, .no) else ({ st with sd := none, found := st.found ++ [l] }, .found l)
def spOver : Sp := fun vs H Q _ => ∃ (pk pr pf pp pm dt ml : Addr) (W : Nat) (kvs : List (Str × Bool)) (lm : List Str) (sdm : Option (List Nat)) (lk : Int) (st : WkS) (l : List Nat), vs = [.ref pk, .ref pm] ∧ WkAt H pk pr pf pp st ∧ MdAt H pm dt ml W kvs lm sdm lk ∧ st.sd = some l ∧ l.length ≤ 100 ∧ st.found.length < 1000000 ∧
  ∀ (v : V) (H' : Hp), WkAt H' pk pr pf pp (overF W st l).1 → TldAt H' (overF W st l).2 v → Frm [pk, pf] H H' → Q v H'
end
end B

set_option Elab.async false
set_option linter.all false
set_option maxRecDepth 100000
set_option maxHeartbeats 4000000
namespace B
open PySem PySem.Spec PyProof.Rows L2
open SX (S)
/-- begins so -/
def starts (l : List Nat) (x : Str) : Bool := decide (x.cps.toList.take l.length = l)
/-- who listens behind a beginning -/
def begF (kvs : List (Str × Bool)) (kd : Str) (l : List Nat) : List Str := (lisB kvs (decide (kd = "all"))).filter (starts l)
theorem begF_nil {kvs : List (Str × Bool)} {kd : Str} : begF kvs kd [] = lisB kvs (decide (kd = "all")) := by
  unfold begF
  refine List.filter_eq_self.mpr fun x _ => ?_
  exact decide_eq_true rfl
theorem starts_snoc {l : List Nat} {c : Nat} {x : Str} : starts (l ++ [c]) x = (sg l.length c x && starts l x) := by
  unfold starts sg
  rw [Bool.eq_iff_iff, Bool.and_eq_true, decide_eq_true_eq, decide_eq_true_eq, decide_eq_true_eq]
  generalize x.cps.toList = m
  rw [List.length_append, List.length_singleton, List.take_succ]
  constructor
  · intro h
    have hl : (m.take l.length ++ m[l.length]?.toList).length = l.length + 1 := by rw [h]; simp
    cases q : m[l.length]? with
    | none =>
      rw [q] at hl
      simp only [Option.toList, List.append_nil, List.length_take] at hl
      omega
    | some d =>
      rw [q] at h
      have e := List.append_inj' h rfl
      exact ⟨congrArg some (List.singleton_inj.mp e.2), e.1⟩
  · rintro ⟨h1, h2⟩
    rw [h1, h2]
    rfl
theorem begF_snoc {kvs : List (Str × Bool)} {kd : Str} {l : List Nat} {c : Nat} : begF kvs kd (l ++ [c]) = (begF kvs kd l).filter (sg l.length c) := by
  unfold begF
  rw [List.filter_filter]
  apply List.filter_congr
  intro x _
  exact starts_snoc
theorem lisB_sub (kvs : List (Str × Bool)) (all : Bool) : (lisB kvs all).length ≤ kvs.length ∧ ∀ x ∈ lisB kvs all, x ∈ kvs.map (·.1) := by
  unfold lisB
  refine ⟨?_, fun x hx => ?_⟩
  · rw [List.length_map]
    exact List.length_filter_le _ _
  · obtain ⟨p, hp, e⟩ := List.mem_map.mp hx
    exact List.mem_map.mpr ⟨p, (List.mem_filter.mp hp).1, e⟩
theorem begF_sub {kvs : List (Str × Bool)} {kd : Str} {l : List Nat} : (begF kvs kd l).length ≤ kvs.length ∧ ∀ x ∈ begF kvs kd l, x ∈ kvs.map (·.1) ∧ starts l x = true := by
  have h := lisB_sub kvs (decide (kd = "all"))
  refine ⟨Nat.le_trans (List.length_filter_le _ _) h.1, fun x hx => ?_⟩
  obtain ⟨h1, h2⟩ := List.mem_filter.mp hx
  exact ⟨h.2 x h1, h2⟩
/-- a step told: the walk, what comes of its round, who listens, what is said on the wire, the looks -/
def stepF (W : Nat) (kvs : List (Str × Bool)) (lm : List Str) (lk : Int) (st : WkS) : (WkS × Tld) × List Str × Option (List Nat) × Int :=
  match st.sd with
  | none => (overF W { st with rest := st.rest.dropLast } (st.rest.getLast?.getD []), begF kvs st.kd (st.rest.getLast?.getD []), some (st.rest.getLast?.getD []), lk)
  | some l =>
    let z := lm.any (sg l.length 48)
    let o := lm.any (sg l.length 49)
    let st1 : WkS := { st with paper := st.paper ++ [(l, z, o)] }
    if z = false ∧ o = false then (({ st1 with sd := none }, .lost), lm, some l, lk + 1)
    else
      let b := if z = true then 48 else 49
      let st2 : WkS := if z = true ∧ o = true then { st1 with rest := st1.rest ++ [l ++ [49]] } else st1
      (overF W st2 (l ++ [b]), lm.filter (sg l.length b), some (l ++ [b]), lk + 1)
theorem WkAt.stay {T : List Addr} {H H' : Hp} {pk pr pf pp : Addr} {st : WkS} (h : WkAt H pk pr pf pp st) (f : Frm T H H') (n : NL T H) (h1 : pk ∉ T) (h2 : pr ∉ T) (h3 : pf ∉ T) (h4 : pp ∉ T) : WkAt H' pk pr pf pp st := by
  obtain ⟨o1, o2, o3, ⟨ts, o4, o5, o6⟩, n⟩ := h
  exact ⟨f.k _ _ o1 rfl h1, f.k _ _ o2 rfl h2, f.k _ _ o3 rfl h3, ⟨ts, f.k _ _ o4 rfl h4, o5, fun i t q a b => f.at ‹NL T H› (o6 i t q a b) rfl rfl⟩, n⟩
section
variable {P : Program} {w : World} {K : PySem.W.Frag} {mg : Str → Option Value} {base : Heap}
def spStep : Sp := fun vs H Q _ => ∃ (pk pr pf pp pm dt ml : Addr) (W : Nat) (kvs : List (Str × Bool)) (lm : List Str) (sdm : Option (List Nat)) (lk : Int) (st : WkS), vs = [.ref pk, .ref pm] ∧ WkAt H pk pr pf pp st ∧ MdAt H pm dt ml W kvs lm sdm lk ∧ pm ≠ dt ∧ pk ≠ pm ∧ pk ≠ dt ∧ (ml ≠ pr ∧ ml ≠ pf ∧ ml ≠ pp) ∧
  (kvs.map (·.1)).Nodup ∧ kvs.length ≤ 100 ∧ (∀ x ∈ kvs.map (·.1), Num W x) ∧ lm.length ≤ 100 ∧ W ≤ 12 ∧ st.rest.length < 999999 ∧ st.found.length < 999999 ∧ st.paper.length < 999999 ∧
  (st.sd = none → ∃ r g, st.rest = r ++ [g] ∧ g.length ≤ W ∧ Bits g) ∧ (∀ l, st.sd = some l → sdm = some l ∧ l.length < W ∧ Bits l ∧ ∀ x ∈ lm, Beg W l x) ∧
  ∀ (v : V) (ml' : Addr) (H' : Hp), (ml' = ml ∨ H ml' = none) → WkAt H' pk pr pf pp (stepF W kvs lm lk st).1.1 → TldAt H' (stepF W kvs lm lk st).1.2 v → MdAt H' pm dt ml' W kvs (stepF W kvs lm lk st).2.1 (stepF W kvs lm lk st).2.2.1 (stepF W kvs lm lk st).2.2.2 → Frm [pk, pr, pf, pp, pm] H H' → Q v H'
end
end B

set_option Elab.async false
set_option linter.all false
set_option maxRecDepth 100000
set_option maxHeartbeats 4000000
namespace B
open PySem PySem.Spec PyProof.Rows L2
open SX (S)
/-! ### a step keeps a walk well -/
theorem S_list (m : List Nat) : (S m).cps.toList = m := by simp [SX.S]
theorem beg_starts {W : Nat} {l : List Nat} {x : Str} (h : Num W x) (hs : starts l x = true) : Beg W l x := by
  obtain ⟨m, rfl, e, b⟩ := h
  have z := of_decide_eq_true hs
  rw [S_list] at z
  exact ⟨m, rfl, e, b, z⟩
theorem beg_next' {W : Nat} {l : List Nat} {x : Str} {c : Nat} (h : Beg W l x) (hc : sg l.length c x = true) : Beg W (l ++ [c]) x := by
  refine beg_starts h.num ?_
  rw [starts_snoc, hc]
  obtain ⟨m, rfl, e, b, t⟩ := h
  unfold starts
  rw [S_list, t, decide_eq_true rfl]
  rfl
structure WkOk (W : Nat) (lm : List Str) (sdm : Option (List Nat)) (st : WkS) (n : Nat) : Prop where
  rest : ∀ g ∈ st.rest, g.length ≤ W ∧ Bits g
  said : ∀ l, st.sd = some l → sdm = some l ∧ l.length < W ∧ Bits l ∧ ∀ x ∈ lm, Beg W l x
  len : st.rest.length ≤ n ∧ st.found.length ≤ n ∧ st.paper.length ≤ n
  lm : lm.length ≤ 100
theorem WkOk.none_ {W n : Nat} {lm : List Str} {sdm : Option (List Nat)} {st : WkS} (h : WkOk W lm sdm st n) (hr : st.rest ≠ []) : ∃ r g, st.rest = r ++ [g] ∧ g.length ≤ W ∧ Bits g := by
  refine ⟨st.rest.dropLast, st.rest.getLast hr, (List.dropLast_concat_getLast hr).symm, ?_⟩
  exact h.rest _ (List.getLast_mem hr)
theorem over_ok {W n : Nat} {lm : List Str} {st : WkS} {l : List Nat} (hr : ∀ g ∈ st.rest, g.length ≤ W ∧ Bits g) (hl : st.rest.length ≤ n ∧ st.found.length ≤ n - 1 ∧ st.paper.length ≤ n) (hn : 1 ≤ n) (hm : lm.length ≤ 100) (hb : Bits l) (hbeg : ∀ x ∈ lm, Beg W l x) : WkOk W lm (some l) (overF W st l).1 n := by
  unfold overF
  split
  · rename_i h
    exact ⟨hr, fun l' e => by cases e; exact ⟨rfl, h, hb, hbeg⟩, ⟨hl.1, by show st.found.length ≤ n; omega, hl.2.2⟩, hm⟩
  · refine ⟨hr, fun l' e => (by cases e), ⟨hl.1, ?_, hl.2.2⟩, hm⟩
    show (st.found ++ [l]).length ≤ n
    rw [List.length_append, List.length_singleton]
    omega
theorem step_ok {W n : Nat} {kvs : List (Str × Bool)} {lm : List Str} {sdm : Option (List Nat)} {lk : Int} {st : WkS} (h : WkOk W lm sdm st n) (hr : st.sd = none → st.rest ≠ []) (hk : kvs.length ≤ 100) (hkn : ∀ x ∈ kvs.map (·.1), Num W x) :
    WkOk W (stepF W kvs lm lk st).2.1 (stepF W kvs lm lk st).2.2.1 (stepF W kvs lm lk st).1.1 (n + 1) := by
  obtain ⟨kd, rest, sd, found, paper⟩ := st
  obtain ⟨h1, h2, ⟨h3, h4, h5⟩, h6⟩ := id h
  dsimp only at h1 h2 h3 h4 h5
  cases sd with
  | none =>
    obtain ⟨r, g, e, hg, hb⟩ := h.none_ (hr rfl)
    dsimp only at e
    subst e
    have e0 : stepF W kvs lm lk ⟨kd, r ++ [g], none, found, paper⟩ = (overF W ⟨kd, r, none, found, paper⟩ g, begF kvs kd g, some g, lk) := by
      unfold stepF
      simp
    rw [e0]
    have bs := begF_sub (kvs := kvs) (kd := kd) (l := g)
    rw [List.length_append, List.length_singleton] at h3
    refine over_ok (fun q hq => h1 q (List.mem_append_left _ hq)) ⟨?_, ?_, ?_⟩ (by omega) (by show (begF kvs kd g).length ≤ 100; omega) hb fun x hx => beg_starts (hkn x (bs.2 x hx).1) (bs.2 x hx).2
    · show r.length ≤ n + 1
      omega
    · show found.length ≤ n + 1 - 1
      omega
    · show paper.length ≤ n + 1
      omega
  | some l =>
    obtain ⟨e, hlt, hlb, hbeg⟩ := h2 l rfl
    subst e
    have hp : ∀ q : List Nat × Bool × Bool, (paper ++ [q]).length ≤ n + 1 := fun q => by
      rw [List.length_append, List.length_singleton]
      omega
    unfold stepF
    dsimp only
    split
    · exact ⟨h1, fun l' e => (by cases e), ⟨by show rest.length ≤ n + 1; omega, by show found.length ≤ n + 1; omega, hp _⟩, h6⟩
    · have hbit : ∀ z : Bool, (if z = true then 48 else 49) = 48 ∨ (if z = true then 48 else 49) = 49 := fun z => by cases z <;> simp
      have bb : ∀ c : Nat, c = 48 ∨ c = 49 → Bits (l ++ [c]) := fun c hc => hlb.snoc hc
      refine over_ok ?_ ⟨?_, ?_, ?_⟩ (by omega) ?_ (bb _ (hbit _)) ?_
      · split
        · intro g hg
          rcases List.mem_append.mp hg with z | z
          · exact h1 g z
          · rw [List.mem_singleton.mp z, List.length_append, List.length_singleton]
            exact ⟨by omega, bb 49 (.inr rfl)⟩
        · exact h1
      · split
        · show (rest ++ [l ++ [49]]).length ≤ n + 1
          rw [List.length_append, List.length_singleton]
          omega
        · show rest.length ≤ n + 1
          omega
      · split
        · show found.length ≤ n + 1 - 1
          omega
        · show found.length ≤ n + 1 - 1
          omega
      · split
        · exact hp _
        · exact hp _
      · exact Nat.le_trans (List.length_filter_le _ _) h6
      · intro x hx
        obtain ⟨x1, x2⟩ := List.mem_filter.mp hx
        exact beg_next' (hbeg x x1) x2
theorem over_no {W : Nat} {st : WkS} {l : List Nat} (h : (overF W st l).2 = .no) : (overF W st l).1.sd = some l ∧ l.length < W := by
  unfold overF at h ⊢
  split
  · rename_i c
    exact ⟨rfl, c⟩
  · rename_i c
    rw [if_neg c] at h
    cases h
theorem step_no {W : Nat} {kvs : List (Str × Bool)} {lm : List Str} {lk : Int} {st : WkS} (h : (stepF W kvs lm lk st).1.2 = .no) : ∃ l', (stepF W kvs lm lk st).1.1.sd = some l' ∧ l'.length < W ∧ ∀ l, st.sd = some l → l'.length = l.length + 1 := by
  obtain ⟨kd, rest, sd, found, paper⟩ := st
  cases sd with
  | none =>
    have q := over_no (W := W) (st := ⟨kd, rest.dropLast, none, found, paper⟩) (l := rest.getLast?.getD []) h
    exact ⟨_, q.1, q.2, fun l e => by cases e⟩
  | some l =>
    unfold stepF at h ⊢
    dsimp only at h ⊢
    split
    · rename_i c
      rw [if_pos c] at h
      cases h
    · rename_i c
      rw [if_neg c] at h
      have q := over_no h
      exact ⟨_, q.1, q.2, fun l' e => by cases e; rw [List.length_append, List.length_singleton]⟩
/-- steps till a round is over -/
def roundF (W : Nat) (kvs : List (Str × Bool)) : Nat → List Str → Int → WkS → (WkS × Tld) × List Str × Option (List Nat) × Int
  | 0, lm, lk, st => stepF W kvs lm lk st
  | n + 1, lm, lk, st => match (stepF W kvs lm lk st).1.2 with
    | .no => roundF W kvs n (stepF W kvs lm lk st).2.1 (stepF W kvs lm lk st).2.2.2 (stepF W kvs lm lk st).1.1
    | _ => stepF W kvs lm lk st
theorem round_no {W n : Nat} {kvs : List (Str × Bool)} {lm : List Str} {lk : Int} {st : WkS} (h : (stepF W kvs lm lk st).1.2 = .no) : roundF W kvs (n + 1) lm lk st = roundF W kvs n (stepF W kvs lm lk st).2.1 (stepF W kvs lm lk st).2.2.2 (stepF W kvs lm lk st).1.1 := by
  show (match (stepF W kvs lm lk st).1.2 with | .no => _ | _ => _) = _
  rw [h]
theorem round_yes {W n : Nat} {kvs : List (Str × Bool)} {lm : List Str} {lk : Int} {st : WkS} (h : (stepF W kvs lm lk st).1.2 ≠ .no) : roundF W kvs n lm lk st = stepF W kvs lm lk st := by
  cases n with
  | zero => rfl
  | succ n =>
    show (match (stepF W kvs lm lk st).1.2 with | .no => _ | _ => _) = _
    cases q : (stepF W kvs lm lk st).1.2 with
    | no => exact absurd q h
    | lost => rfl
    | found l => rfl
section
variable {P : Program} {w : World} {K : PySem.W.Frag} {mg : Str → Option Value} {base : Heap}
def spRound_ : Sp := fun vs H Q _ => ∃ (pk pr pf pp pm dt ml : Addr) (W n : Nat) (kvs : List (Str × Bool)) (lm : List Str) (sdm : Option (List Nat)) (lk : Int) (st : WkS), vs = [.ref pk, .ref pm] ∧ WkAt H pk pr pf pp st ∧ MdAt H pm dt ml W kvs lm sdm lk ∧ pm ≠ dt ∧ pk ≠ pm ∧ pk ≠ dt ∧ (ml ≠ pr ∧ ml ≠ pf ∧ ml ≠ pp) ∧
  (kvs.map (·.1)).Nodup ∧ kvs.length ≤ 100 ∧ (∀ x ∈ kvs.map (·.1), Num W x) ∧ W ≤ 12 ∧ WkOk W lm sdm st n ∧ n ≤ 900000 ∧ (st.sd = none → st.rest ≠ []) ∧
  ∀ (v : V) (ml' : Addr) (H' : Hp), (ml' = ml ∨ H ml' = none) → WkAt H' pk pr pf pp (roundF W kvs W lm lk st).1.1 → TldAt H' (roundF W kvs W lm lk st).1.2 v → MdAt H' pm dt ml' W kvs (roundF W kvs W lm lk st).2.1 (roundF W kvs W lm lk st).2.2.1 (roundF W kvs W lm lk st).2.2.2 → Frm [pk, pr, pf, pp, pm] H H' → Q v H'
end
end B

set_option Elab.async false
set_option linter.all false
set_option maxRecDepth 100000
set_option maxHeartbeats 4000000
namespace B
open PySem PySem.Spec PyProof.Rows L2
open SX (S)
/-! ### a walk ends -/
/-- of a beginning to go to; of what is said -/
def wR (W : Nat) (g : List Nat) : Nat := 2 ^ (W - g.length + 2) - 1
def wS (W : Nat) (l : List Nat) : Nat := 2 ^ (W - l.length + 2) - 2
def sumR (W : Nat) : List (List Nat) → Nat
  | [] => 0
  | g :: r => wR W g + sumR W r
theorem sumR_app {W : Nat} : ∀ {a b : List (List Nat)}, sumR W (a ++ b) = sumR W a + sumR W b
  | [], b => by show sumR W b = 0 + sumR W b; omega
  | g :: a, b => by
    have := sumR_app (W := W) (a := a) (b := b)
    show wR W g + sumR W (a ++ b) = wR W g + sumR W a + sumR W b
    omega
def meas (W : Nat) (st : WkS) : Nat := sumR W st.rest + (match st.sd with | none => 0 | some l => wS W l)
theorem two_pow {n : Nat} : 4 ≤ 2 ^ (n + 2) := by
  have := Nat.one_le_two_pow (n := n)
  rw [Nat.pow_add]
  omega
theorem over_meas {W : Nat} {st : WkS} {l : List Nat} : meas W (overF W st l).1 ≤ sumR W st.rest + wS W l := by
  unfold overF meas
  split
  · exact Nat.le_refl _
  · show sumR W st.rest + 0 ≤ _
    omega
theorem step_meas {W n : Nat} {kvs : List (Str × Bool)} {lm : List Str} {sdm : Option (List Nat)} {lk : Int} {st : WkS} (h : WkOk W lm sdm st n) (hr : st.sd = none → st.rest ≠ []) : meas W (stepF W kvs lm lk st).1.1 < meas W st := by
  obtain ⟨kd, rest, sd, found, paper⟩ := st
  cases sd with
  | none =>
    obtain ⟨r, g, e, hg, hb⟩ := h.none_ (hr rfl)
    dsimp only at e
    subst e
    have e0 : stepF W kvs lm lk ⟨kd, r ++ [g], none, found, paper⟩ = (overF W ⟨kd, r, none, found, paper⟩ g, begF kvs kd g, some g, lk) := by
      unfold stepF
      simp
    rw [e0]
    have q := over_meas (W := W) (st := ⟨kd, r, none, found, paper⟩) (l := g)
    refine Nat.lt_of_le_of_lt q ?_
    show sumR W r + wS W g < sumR W (r ++ [g]) + 0
    rw [sumR_app]
    show sumR W r + wS W g < sumR W r + (wR W g + 0) + 0
    have := two_pow (n := W - g.length)
    unfold wS wR
    omega
  | some l =>
    obtain ⟨_, hlt, _, _⟩ := h.said l rfl
    unfold stepF
    dsimp only
    have p1 := two_pow (n := W - l.length)
    split
    · show sumR W rest + 0 < sumR W rest + wS W l
      unfold wS
      omega
    · refine Nat.lt_of_le_of_lt over_meas ?_
      have en : W - l.length = (W - (l.length + 1)) + 1 := by omega
      have lc : ∀ c : Nat, (l ++ [c]).length = l.length + 1 := fun c => by rw [List.length_append, List.length_singleton]
      have p2 := two_pow (n := W - (l.length + 1))
      have ep : 2 ^ (W - l.length + 2) = 2 * 2 ^ (W - (l.length + 1) + 2) := by
        rw [en, show W - (l.length + 1) + 1 + 2 = (W - (l.length + 1) + 2) + 1 from by omega, Nat.pow_succ]
        omega
      show sumR W _ + wS W _ < sumR W rest + wS W l
      split
      · show sumR W (rest ++ [l ++ [49]]) + wS W _ < _
        rw [sumR_app]
        show sumR W rest + (wR W (l ++ [49]) + 0) + wS W _ < sumR W rest + wS W l
        unfold wS wR
        rw [lc, lc, ep]
        omega
      · show sumR W rest + wS W _ < sumR W rest + wS W l
        unfold wS
        rw [lc, ep]
        omega
end B

set_option Elab.async false
set_option linter.all false
set_option maxRecDepth 100000
set_option maxHeartbeats 4000000
namespace B
open PySem PySem.Spec PyProof.Rows L2
open SX (S)
/-! ### the program's walk -/
abbrev VC (K : PySem.W.Frag) : Addr := He.ga K "Walk"
def vfl (pw : Addr) (kd : Str) (qr qf qp : Addr) (sd : V) : List (Str × V) := [("_wire", .ref pw), ("_kind", .str kd), ("_row", .ref qr), ("_found", .ref qf), ("_paper", .ref qp), ("_said", sd)]
structure VkAt (K : PySem.W.Frag) (H : Hp) (qk pw qr qf qp : Addr) (st : WkS) : Prop where
  ob : ∃ dx, H qk = some (.ins (VC K) dx (vfl pw st.kd qr qf qp (sdV st.sd)))
  rs : H qr = some (.lst (st.rest.map txV))
  fd : H qf = some (.lst (st.found.map txV))
  pa : ∃ ts : List Addr, H qp = some (.lst (ts.map V.ref)) ∧ ts.length = st.paper.length ∧ ∀ (i : Nat) (t : Addr) (q : List Nat × Bool × Bool), ts[i]? = some t → st.paper[i]? = some q → H t = some (.tup [txV q.1, .bl q.2.1, .bl q.2.2])
  ne : qr ≠ qf ∧ qr ≠ qp ∧ qf ≠ qp
section
variable {pw qr qf qp : Addr} {kd : Str} {sd v : V}
theorem vl_wire : (vfl pw kd qr qf qp sd).lookup ("_wire" : Str) = some (.ref pw) := by kernel_rfl
theorem vl_kind : (vfl pw kd qr qf qp sd).lookup ("_kind" : Str) = some (.str kd) := by kernel_rfl
theorem vl_row : (vfl pw kd qr qf qp sd).lookup ("_row" : Str) = some (.ref qr) := by kernel_rfl
theorem vl_found : (vfl pw kd qr qf qp sd).lookup ("_found" : Str) = some (.ref qf) := by kernel_rfl
theorem vl_paper : (vfl pw kd qr qf qp sd).lookup ("_paper" : Str) = some (.ref qp) := by kernel_rfl
theorem vl_said : (vfl pw kd qr qf qp sd).lookup ("_said" : Str) = some sd := by kernel_rfl
theorem vp_said : putF "_said" v (vfl pw kd qr qf qp sd) = vfl pw kd qr qf qp v := by kernel_rfl
theorem vp_new : putF "_said" .non (putF "_paper" (.ref qp) (putF "_found" (.ref qf) (putF "_row" (.ref qr) (putF "_kind" (.str kd) (putF "_wire" (.ref pw) []))))) = vfl pw kd qr qf qp .non := by kernel_rfl
theorem vl_len : (vfl pw kd qr qf qp sd).length < 1000 := by show 6 < 1000; decide
theorem vx_step : (vfl pw kd qr qf qp sd).lookup ("step" : Str) = none := by kernel_rfl
theorem vx_round : (vfl pw kd qr qf qp sd).lookup ("go_round" : Str) = none := by kernel_rfl
theorem vx_all : (vfl pw kd qr qf qp sd).lookup ("go_all" : Str) = none := by kernel_rfl
theorem vx_left : (vfl pw kd qr qf qp sd).lookup ("left" : Str) = none := by kernel_rfl
theorem vx_found : (vfl pw kd qr qf qp sd).lookup ("found" : Str) = none := by kernel_rfl
theorem vx_paper : (vfl pw kd qr qf qp sd).lookup ("paper" : Str) = none := by kernel_rfl
theorem vx_under : (vfl pw kd qr qf qp sd).lookup ("is_under_way" : Str) = none := by kernel_rfl
theorem vx_begin : (vfl pw kd qr qf qp sd).lookup ("_begin_round" : Str) = none := by kernel_rfl
theorem vx_say : (vfl pw kd qr qf qp sd).lookup ("_say" : Str) = none := by kernel_rfl
end
section
variable {P : Program} {w : World} {K : PySem.W.Frag} {mg : Str → Option Value} {base : Heap}
end
section
variable {X : Cx}
end
theorem VkAt.keep {K : PySem.W.Frag} {S : List Addr} {H H' : Hp} {qk pw qr qf qp : Addr} {st : WkS} (h : VkAt K H qk pw qr qf qp st) (f : FrT K S H H') (n : NL S H) (h1 : qk ∉ S) (h2 : qr ∉ S) (h3 : qf ∉ S) (h4 : qp ∉ S) : VkAt K H' qk pw qr qf qp st := by
  obtain ⟨⟨dx, o1⟩, o2, o3, ⟨ts, o4, o5, o6⟩, ne⟩ := h
  exact ⟨⟨dx, f.k _ _ o1 rfl h1⟩, f.k _ _ o2 rfl h2, f.k _ _ o3 rfl h3, ⟨ts, f.k _ _ o4 rfl h4, o5, fun i t q a b => f.at n (o6 i t q a b) rfl rfl⟩, ne⟩
section
variable {P : Program} {w : World} {K : PySem.W.Frag} {mg : Str → Option Value} {base : Heap}
/-! ### a walk made -/
def spVNew (K : PySem.W.Frag) : Sp := fun vs H Q _ => ∃ (qk dx pw : Addr) (kd : Str), vs = [.ref qk, .ref pw, .str kd] ∧ (kd = "all" ∨ kd = "alarm") ∧ H qk = some (.ins (VC K) dx []) ∧ ∀ (qr qf qp : Addr) (H' : Hp), H qr = none → H qf = none → H qp = none → VkAt K H' qk pw qr qf qp ⟨kd, [[]], none, [], []⟩ → Frm [qk] H H' → Q .non H'
/-! ### what is told -/
def spVList (K : PySem.W.Frag) (f : WkS → List (List Nat)) : Sp := fun vs H Q _ => ∃ (qk pw qr qf qp : Addr) (st : WkS), vs = [.ref qk] ∧ VkAt K H qk pw qr qf qp st ∧ ∀ (p : Addr) (H' : Hp), H p = none → H' p = some (.lst ((f st).map txV)) → Frm [] H H' → Q (.ref p) H'
/-- the paper, as a list of rows -/
def PapAt (H : Hp) (p : Addr) (pa : List (List Nat × Bool × Bool)) : Prop := ∃ ts : List Addr, H p = some (.lst (ts.map V.ref)) ∧ ts.length = pa.length ∧ ∀ (i : Nat) (t : Addr) (q : List Nat × Bool × Bool), ts[i]? = some t → pa[i]? = some q → H t = some (.tup [txV q.1, .bl q.2.1, .bl q.2.2])
def spVPaper (K : PySem.W.Frag) : Sp := fun vs H Q _ => ∃ (qk pw qr qf qp : Addr) (st : WkS), vs = [.ref qk] ∧ VkAt K H qk pw qr qf qp st ∧ ∀ (p : Addr) (H' : Hp), H p = none → PapAt H' p st.paper → Frm [] H H' → Q (.ref p) H'
def spVUnder (K : PySem.W.Frag) : Sp := fun vs H Q _ => ∃ (qk pw qr qf qp : Addr) (st : WkS), vs = [.ref qk] ∧ VkAt K H qk pw qr qf qp st ∧ Q (.bl st.sd.isSome) H
end
end B

set_option Elab.async false
set_option linter.all false
set_option maxRecDepth 100000
set_option maxHeartbeats 4000000
namespace B
open PySem PySem.Spec PyProof.Rows L2
open SX (S)
/-- has these signs from a place on -/
def behind (n : Nat) (g : List Nat) (x : Str) : Bool := decide ((x.cps.toList.drop n).take g.length = g)
theorem behind_nil {n : Nat} {x : Str} : behind n [] x = true := decide_eq_true rfl
theorem behind_snoc {n : Nat} {l : List Nat} {c : Nat} {x : Str} : behind n (l ++ [c]) x = (sg (n + l.length) c x && behind n l x) := by
  unfold behind sg
  rw [Bool.eq_iff_iff, Bool.and_eq_true, decide_eq_true_eq, decide_eq_true_eq, decide_eq_true_eq, ← List.getElem?_drop]
  generalize x.cps.toList.drop n = m
  rw [List.length_append, List.length_singleton, List.take_succ]
  constructor
  · intro h
    have hl : (m.take l.length ++ m[l.length]?.toList).length = l.length + 1 := by rw [h]; simp
    cases q : m[l.length]? with
    | none =>
      rw [q] at hl
      simp only [Option.toList, List.append_nil, List.length_take] at hl
      omega
    | some d =>
      rw [q] at h
      have e := List.append_inj' h rfl
      exact ⟨congrArg some (List.singleton_inj.mp e.2), e.1⟩
  · rintro ⟨h1, h2⟩
    rw [h1, h2]
    rfl
theorem behind_step {n : Nat} {l : List Nat} {c : Nat} {lw : List Str} : lw.filter (behind n (l ++ [c])) = (lw.filter (behind n l)).filter (sg (n + l.length) c) := by
  rw [List.filter_filter]
  exact List.filter_congr fun x _ => behind_snoc
theorem behind_all {n : Nat} {lw : List Str} : lw.filter (behind n []) = lw := List.filter_eq_self.mpr fun x _ => behind_nil
theorem behind_zero {g : List Nat} {x : Str} : behind 0 g x = starts g x := by
  unfold behind starts
  rw [List.drop_zero]
theorem behind_one {n c : Nat} {x : Str} : behind n [c] x = sg n c x := by
  have := behind_snoc (n := n) (l := []) (c := c) (x := x)
  rw [behind_nil, Bool.and_true] at this
  exact this
theorem vk_ne {K : PySem.W.Frag} {H : Hp} {qk pw qr qf qp dh dl : Addr} {st : WkS} {W : Nat} {kvs : List (Str × Bool)} {lw : List Str} {ms lk : Int} (h : VkAt K H qk pw qr qf qp st) (g : WiAt K H pw dh dl W kvs lw ms lk) : qk ≠ pw := by
  intro e
  obtain ⟨⟨dx, o1⟩, _⟩ := h
  obtain ⟨⟨dw, w1⟩, _⟩ := g
  subst e
  rw [o1] at w1
  have z := HO.ins.inj (Option.some.inj w1)
  have y := congrArg List.length z.2.2
  cases y
/-- tuples stay -/
def TupK (H H' : Hp) : Prop := ∀ t vs, H t = some (.tup vs) → H' t = some (.tup vs)
theorem TupK.put {H : Hp} {p : Addr} {o o' : HO} (h : H p = some o) (n : ∀ vs, o ≠ .tup vs) : TupK H (upd H p o') := fun t vs e => by
  rw [upd_ne (fun z => by rw [z, h] at e; exact n vs (Option.some.inj e))]
  exact e
theorem TupK.new {H : Hp} {p : Addr} {o' : HO} (h : H p = none) : TupK H (upd H p o') := fun t vs e => same_upd h _ _ e
theorem TupK.trans {H H1 H2 : Hp} (a : TupK H H1) (b : TupK H1 H2) : TupK H H2 := fun t vs e => b t vs (a t vs e)
theorem VkAt.set {K : PySem.W.Frag} {H H' : Hp} {qk pw qr qf qp : Addr} {st : WkS} (st' : WkS) (h : VkAt K H qk pw qr qf qp st) (h1 : ∃ dx, H' qk = some (.ins (VC K) dx (vfl pw st'.kd qr qf qp (sdV st'.sd)))) (h2 : H' qr = some (.lst (st'.rest.map txV))) (h3 : H' qf = some (.lst (st'.found.map txV))) (h4 : H' qp = H qp) (h5 : st'.paper = st.paper) (h6 : TupK H H') : VkAt K H' qk pw qr qf qp st' := by
  obtain ⟨_, _, _, ⟨ts, o4, o5, o6⟩, ne⟩ := h
  refine ⟨h1, h2, h3, ⟨ts, by rw [h4]; exact o4, by rw [h5]; exact o5, fun i t q a b => ?_⟩, ne⟩
  rw [h5] at b
  exact h6 _ _ (o6 i t q a b)
theorem VkAt.nek {K : PySem.W.Frag} {H : Hp} {qk pw qr qf qp : Addr} {st : WkS} (h : VkAt K H qk pw qr qf qp st) : qk ≠ qr ∧ qk ≠ qf ∧ qk ≠ qp := by
  obtain ⟨⟨dx, o1⟩, o2, o3, ⟨ts, o4, _⟩, _⟩ := h
  exact ⟨ne_of o1 o2 (by intro z; cases z), ne_of o1 o3 (by intro z; cases z), ne_of o1 o4 (by intro z; cases z)⟩
theorem VkAt.old {K : PySem.W.Frag} {H : Hp} {qk pw qr qf qp b : Addr} {st : WkS} (h : VkAt K H qk pw qr qf qp st) (hb : H b = none) : b ≠ qk ∧ b ≠ qr ∧ b ≠ qf ∧ b ≠ qp := by
  obtain ⟨⟨dx, o1⟩, o2, o3, ⟨ts, o4, _⟩, _⟩ := h
  exact ⟨(ne_of_none o1 hb).symm, (ne_of_none o2 hb).symm, (ne_of_none o3 hb).symm, (ne_of_none o4 hb).symm⟩
/-- what is said changed -/
theorem VkAt.say {K : PySem.W.Frag} {H : Hp} {qk pw qr qf qp dx : Addr} {st : WkS} {sd : Option (List Nat)} (h : VkAt K H qk pw qr qf qp st) : VkAt K (upd H qk (.ins (VC K) dx (vfl pw st.kd qr qf qp (sdV sd)))) qk pw qr qf qp { st with sd := sd } := by
  obtain ⟨n1, n2, n3⟩ := h.nek
  obtain ⟨⟨dx', o1⟩, o2, o3, _⟩ := id h
  exact h.set _ ⟨dx, upd_same⟩ (by rw [upd_ne n1.symm]; exact o2) (by rw [upd_ne n2.symm]; exact o3) (by rw [upd_ne n3.symm]) rfl (TupK.put o1 (by intro vs z; cases z))
theorem VkAt.row {K : PySem.W.Frag} {H : Hp} {qk pw qr qf qp : Addr} {st : WkS} {r : List (List Nat)} (h : VkAt K H qk pw qr qf qp st) : VkAt K (upd H qr (.lst (r.map txV))) qk pw qr qf qp { st with rest := r } := by
  obtain ⟨n1, n2, n3⟩ := h.nek
  obtain ⟨⟨dx', o1⟩, o2, o3, _, m1, m2, m3⟩ := id h
  exact h.set _ ⟨dx', by rw [upd_ne n1]; exact o1⟩ upd_same (by rw [upd_ne m1.symm]; exact o3) (by rw [upd_ne m2.symm]) rfl (TupK.put o2 (by intro vs z; cases z))
theorem VkAt.fnd {K : PySem.W.Frag} {H : Hp} {qk pw qr qf qp : Addr} {st : WkS} {r : List (List Nat)} (h : VkAt K H qk pw qr qf qp st) : VkAt K (upd H qf (.lst (r.map txV))) qk pw qr qf qp { st with found := r } := by
  obtain ⟨n1, n2, n3⟩ := h.nek
  obtain ⟨⟨dx', o1⟩, o2, o3, _, m1, m2, m3⟩ := id h
  exact h.set _ ⟨dx', by rw [upd_ne n2]; exact o1⟩ (by rw [upd_ne m1]; exact o2) upd_same (by rw [upd_ne m3.symm]) rfl (TupK.put o3 (by intro vs z; cases z))
theorem VkAt.new {K : PySem.W.Frag} {H : Hp} {qk pw qr qf qp p : Addr} {o : HO} {st : WkS} (h : VkAt K H qk pw qr qf qp st) (hp : H p = none) : VkAt K (upd H p o) qk pw qr qf qp st := by
  obtain ⟨⟨dx', o1⟩, o2, o3, ⟨ts, o4, _⟩, _⟩ := id h
  exact h.set _ ⟨dx', same_upd hp _ _ o1⟩ (same_upd hp _ _ o2) (same_upd hp _ _ o3) (by rw [same_upd hp _ _ o4, o4]) rfl (TupK.new hp)
/-- a look written down -/
theorem VkAt.pap {K : PySem.W.Frag} {H : Hp} {qk pw qr qf qp t : Addr} {st : WkS} {ts : List Addr} {q : List Nat × Bool × Bool} (h : VkAt K H qk pw qr qf qp st) (hts : H qp = some (.lst (ts.map V.ref))) (ht : H t = none) : VkAt K (upd (upd H t (.tup [txV q.1, .bl q.2.1, .bl q.2.2])) qp (.lst (ts.map V.ref ++ [.ref t]))) qk pw qr qf qp { st with paper := st.paper ++ [q] } := by
  obtain ⟨n1, n2, n3⟩ := h.nek
  obtain ⟨⟨dx', o1⟩, o2, o3, ⟨ts', o4, o5, o6⟩, m1, m2, m3⟩ := id h
  obtain ⟨_, _, _, ntp⟩ := h.old ht
  have e : ts' = ts := by
    rw [hts] at o4
    have z := HO.lst.inj (Option.some.inj o4)
    exact (List.map_inj_right (fun a b y => V.ref.inj y)).mp z.symm
  subst e
  refine ⟨⟨dx', by rw [upd_ne n3]; exact same_upd ht _ _ o1⟩, by rw [upd_ne m2]; exact same_upd ht _ _ o2, by rw [upd_ne m3]; exact same_upd ht _ _ o3, ⟨ts' ++ [t], by rw [upd_same, List.map_append]; rfl, by rw [List.length_append, List.length_append, o5]; rfl, fun i t' q' a b => ?_⟩, m1, m2, m3⟩
  by_cases hi : i < ts'.length
  · rw [List.getElem?_append_left hi] at a
    rw [List.getElem?_append_left (by rw [← o5]; exact hi)] at b
    have z := o6 i t' q' a b
    rw [upd_ne (ne_of z o4 (by intro z; cases z))]
    exact same_upd ht _ _ z
  · have e : i = ts'.length := by
      have := (List.getElem?_eq_some_iff.mp a).1
      rw [List.length_append, List.length_singleton] at this
      omega
    subst e
    rw [List.getElem?_append_right (Nat.le_refl _), Nat.sub_self] at a
    rw [o5, List.getElem?_append_right (Nat.le_refl _), Nat.sub_self] at b
    obtain rfl := Option.some.inj a
    obtain rfl := Option.some.inj b
    rw [upd_ne ntp, upd_same]
theorem VkAt.nl5 {K : PySem.W.Frag} {H : Hp} {qk pw qr qf qp dh dl : Addr} {st : WkS} {W : Nat} {kvs : List (Str × Bool)} {lw : List Str} {ms lk : Int} (h : VkAt K H qk pw qr qf qp st) (g : WiAt K H pw dh dl W kvs lw ms lk) : dh ≠ qk ∧ dh ≠ qr ∧ dh ≠ qf ∧ dh ≠ qp ∧ pw ≠ qr ∧ pw ≠ qf ∧ pw ≠ qp ∧ dl ≠ qk ∧ pw ≠ dl := by
  obtain ⟨⟨dx, o1⟩, o2, o3, ⟨ts, o4, _⟩, _⟩ := h
  obtain ⟨⟨dw, w1⟩, w2, w3⟩ := g
  exact ⟨ne_of w3 o1 (by intro z; cases z), ne_of w3 o2 (by intro z; cases z), ne_of w3 o3 (by intro z; cases z), ne_of w3 o4 (by intro z; cases z), ne_of w1 o2 (by intro z; cases z), ne_of w1 o3 (by intro z; cases z), ne_of w1 o4 (by intro z; cases z), ne_of w2 o1 (by intro z; cases z), ne_of w1 w2 (by intro z; cases z)⟩
section
variable {P : Program} {w : World} {K : PySem.W.Frag} {mg : Str → Option Value} {base : Heap}
/-- signs said -/
def spVSay (K : PySem.W.Frag) : Sp := fun vs H Q _ => ∃ (qk pw qr qf qp dh dl : Addr) (W : Nat) (kvs : List (Str × Bool)) (lw : List Str) (lk : Int) (st : WkS) (l g : List Nat), vs = [.ref qk, .str (S g)] ∧ VkAt K H qk pw qr qf qp st ∧ WiAt K H pw dh dl W kvs lw (l.length : Nat) lk ∧ st.sd = some l ∧ l.length + g.length ≤ W ∧ W ≤ 12 ∧ Bits g ∧ (∀ x ∈ lw, Num W x) ∧ lw.length ≤ 100 ∧ st.found.length < 1000000 ∧ (dl ≠ qr ∧ dl ≠ qf ∧ dl ≠ qp) ∧
  ∀ (v : V) (dl' : Addr) (H' : Hp), (dl' = dl ∨ H dl' = none) → VkAt K H' qk pw qr qf qp (overF W st (l ++ g)).1 → TldAt H' (overF W st (l ++ g)).2 v → WiAt K H' pw dh dl' W kvs (lw.filter (behind l.length g)) ((l ++ g).length : Nat) lk → Frm [qk, qf, pw] H H' → Q v H'
end
end B

set_option Elab.async false
set_option linter.all false
set_option maxRecDepth 100000
set_option maxHeartbeats 4000000
namespace B
open PySem PySem.Spec PyProof.Rows L2
open SX (S)
section
variable {P : Program} {w : World} {K : PySem.W.Frag} {mg : Str → Option Value} {base : Heap}
/-- a round begun -/
def spVBegin (K : PySem.W.Frag) : Sp := fun vs H Q E => ∃ (qk pw qr qf qp dh dl : Addr) (W : Nat) (kvs : List (Str × Bool)) (lw : List Str) (ms lk : Int) (st : WkS), vs = [.ref qk] ∧ VkAt K H qk pw qr qf qp st ∧ WiAt K H pw dh dl W kvs lw ms lk ∧ st.sd = none ∧ (st.kd = "all" ∨ st.kd = "alarm") ∧ W ≤ 12 ∧ kvs.length < 64 ∧ (kvs.map (·.1)).Nodup ∧ (∀ x ∈ kvs.map (·.1), Num W x) ∧ st.found.length < 1000000 ∧ (∀ g ∈ st.rest, g.length ≤ W ∧ Bits g) ∧
  (st.rest = [] → E (.ref (He.ga K "Over")) none H) ∧ (st.rest ≠ [] → ∀ (v : V) (ys : List Str) (dl' : Addr) (H' : Hp), H dl' = none → ys.Perm (begF kvs st.kd (st.rest.getLast?.getD [])) → VkAt K H' qk pw qr qf qp (overF W { st with rest := st.rest.dropLast } (st.rest.getLast?.getD [])).1 → TldAt H' (overF W { st with rest := st.rest.dropLast } (st.rest.getLast?.getD [])).2 v → WiAt K H' pw dh dl' W kvs ys ((st.rest.getLast?.getD []).length : Nat) lk → Frm [qk, qr, qf, pw] H H' → Q v H')
/-- a step -/
def spVStep (K : PySem.W.Frag) : Sp := fun vs H Q E => ∃ (qk pw qr qf qp dh dl : Addr) (W : Nat) (kvs : List (Str × Bool)) (lw : List Str) (ms lk : Int) (st : WkS), vs = [.ref qk] ∧ VkAt K H qk pw qr qf qp st ∧ WiAt K H pw dh dl W kvs lw ms lk ∧ (dl ≠ qr ∧ dl ≠ qf ∧ dl ≠ qp) ∧ (st.kd = "all" ∨ st.kd = "alarm") ∧ W ≤ 12 ∧ kvs.length < 64 ∧ (kvs.map (·.1)).Nodup ∧ (∀ x ∈ kvs.map (·.1), Num W x) ∧ lw.length ≤ 100 ∧ st.rest.length < 999999 ∧ st.found.length < 999999 ∧ st.paper.length < 999999 ∧ (∀ g ∈ st.rest, g.length ≤ W ∧ Bits g) ∧ (∀ l, st.sd = some l → ms = (l.length : Nat) ∧ l.length < W ∧ Bits l ∧ ∀ x ∈ lw, Num W x) ∧
  (st.sd = none → st.rest = [] → E (.ref (He.ga K "Over")) none H) ∧ ((st.sd = none → st.rest ≠ []) → ∀ (v : V) (lw' : List Str) (dl' : Addr) (H' : Hp), (dl' = dl ∨ H dl' = none) → lw'.Perm (stepF W kvs lw lk st).2.1 → VkAt K H' qk pw qr qf qp (stepF W kvs lw lk st).1.1 → TldAt H' (stepF W kvs lw lk st).1.2 v → WiAt K H' pw dh dl' W kvs lw' (msOf W (stepF W kvs lw lk st).2.2.1) (stepF W kvs lw lk st).2.2.2 → Frm [qk, qr, qf, qp, pw] H H' → Q v H')
end
end B

set_option Elab.async false
set_option linter.all false
set_option maxRecDepth 100000
set_option maxHeartbeats 4000000
namespace B
open PySem PySem.Spec PyProof.Rows L2
open SX (S)
theorem nil_of {σ : L2.St} {H : Hp} {Q : List V → Hp → Prop} (h : Q [] H) : tNil σ H Q := h
/-! ### a step of lists with the same things -/
theorem any_perm {a b : List Str} {f : Str → Bool} (h : a.Perm b) : a.any f = b.any f := by
  rw [Bool.eq_iff_iff, List.any_eq_true, List.any_eq_true]
  constructor
  · rintro ⟨x, hx, e⟩
    exact ⟨x, h.mem_iff.mp hx, e⟩
  · rintro ⟨x, hx, e⟩
    exact ⟨x, h.mem_iff.mpr hx, e⟩
theorem step_perm {W : Nat} {kvs : List (Str × Bool)} {lw lm : List Str} {lk : Int} {st : WkS} (h : lw.Perm lm) : (stepF W kvs lw lk st).1 = (stepF W kvs lm lk st).1 ∧ (stepF W kvs lw lk st).2.1.Perm (stepF W kvs lm lk st).2.1 ∧ (stepF W kvs lw lk st).2.2 = (stepF W kvs lm lk st).2.2 := by
  obtain ⟨kd, rest, sd, found, paper⟩ := st
  cases sd with
  | none => exact ⟨rfl, List.Perm.refl _, rfl⟩
  | some l =>
    unfold stepF
    dsimp only
    rw [any_perm h (f := sg l.length 48), any_perm h (f := sg l.length 49)]
    split
    · exact ⟨rfl, h, rfl⟩
    · exact ⟨rfl, h.filter _, rfl⟩
/-- steps till there is nowhere to go -/
def allF (W : Nat) (kvs : List (Str × Bool)) : Nat → WkS × List Str × Option (List Nat) × Int → WkS × List Str × Option (List Nat) × Int
  | 0, q => q
  | n + 1, q => if q.1.sd = none ∧ q.1.rest = [] then q else allF W kvs n ((stepF W kvs q.2.1 q.2.2.2 q.1).1.1, (stepF W kvs q.2.1 q.2.2.2 q.1).2)
theorem all_stop {W n : Nat} {kvs : List (Str × Bool)} {q : WkS × List Str × Option (List Nat) × Int} (h : q.1.sd = none ∧ q.1.rest = []) : allF W kvs n q = q := by
  cases n with
  | zero => rfl
  | succ n =>
    show (if _ then _ else _) = _
    rw [if_pos h]
theorem all_go {W n : Nat} {kvs : List (Str × Bool)} {q : WkS × List Str × Option (List Nat) × Int} (h : ¬ (q.1.sd = none ∧ q.1.rest = [])) : allF W kvs (n + 1) q = allF W kvs n ((stepF W kvs q.2.1 q.2.2.2 q.1).1.1, (stepF W kvs q.2.1 q.2.2.2 q.1).2) := by
  show (if _ then _ else _) = _
  rw [if_neg h]
theorem over_kd {W : Nat} {st : WkS} {l : List Nat} : (overF W st l).1.kd = st.kd := by
  unfold overF
  split <;> rfl
theorem step_kd {W : Nat} {kvs : List (Str × Bool)} {lm : List Str} {lk : Int} {st : WkS} : (stepF W kvs lm lk st).1.1.kd = st.kd := by
  obtain ⟨kd, rest, sd, found, paper⟩ := st
  cases sd with
  | none => exact over_kd
  | some l =>
    unfold stepF
    dsimp only
    split
    · rfl
    · refine over_kd.trans ?_
      split <;> rfl
section
variable {P : Program} {w : World} {K : PySem.W.Frag} {mg : Str → Option Value} {base : Heap}
/-- where a step may be done: a walk and its wire, the wire's list told up to its order -/
structure VkOk (K : PySem.W.Frag) (H : Hp) (qk pw qr qf qp dh dl : Addr) (W : Nat) (kvs : List (Str × Bool)) (lm : List Str) (sdm : Option (List Nat)) (lk : Int) (st : WkS) (n : Nat) : Prop where
  wk : VkAt K H qk pw qr qf qp st
  wa : ∃ lw, WiAt K H pw dh dl W kvs lw (msOf W sdm) lk ∧ lw.Perm lm
  nl : dl ≠ qr ∧ dl ≠ qf ∧ dl ≠ qp
  kd : st.kd = "all" ∨ st.kd = "alarm"
  w : W ≤ 12
  kl : kvs.length < 64
  nd : (kvs.map (·.1)).Nodup
  num : ∀ x ∈ kvs.map (·.1), Num W x
  ok : WkOk W lm sdm st n
theorem VkOk.stay {H H' : Hp} {S : List Addr} {qk pw qr qf qp dh dl : Addr} {W : Nat} {kvs : List (Str × Bool)} {lm : List Str} {sdm : Option (List Nat)} {lk : Int} {st : WkS} {n : Nat} (h : VkOk K H qk pw qr qf qp dh dl W kvs lm sdm lk st n) (f : FrT K S H H') (z : NL S H) (h1 : qk ∉ S) (h2 : qr ∉ S) (h3 : qf ∉ S) (h4 : qp ∉ S) (h5 : pw ∉ S) (h6 : dh ∉ S) : VkOk K H' qk pw qr qf qp dh dl W kvs lm sdm lk st n := by
  obtain ⟨a, ⟨lw, b1, b2⟩, c, d, e, g, i, j, o⟩ := h
  exact ⟨a.keep f z h1 h2 h3 h4, ⟨lw, b1.stay f z h5 h6, b2⟩, c, d, e, g, i, j, o⟩
/-- a step, the list up to its order -/
theorem VkOk.step {H : Hp} {qk pw qr qf qp dh dl : Addr} {W : Nat} {kvs : List (Str × Bool)} {lm : List Str} {sdm : Option (List Nat)} {lk : Int} {st : WkS} {n : Nat} (h : VkOk K H qk pw qr qf qp dh dl W kvs lm sdm lk st n) (hn : n < 999999) {Q : VK} {E : XK} (hO : st.sd = none → st.rest = [] → E (.ref (He.ga K "Over")) none H)
    (k : (st.sd = none → st.rest ≠ []) → ∀ (v : V) (dl' : Addr) (H' : Hp), (dl' = dl ∨ H dl' = none) → VkOk K H' qk pw qr qf qp dh dl' W kvs (stepF W kvs lm lk st).2.1 (stepF W kvs lm lk st).2.2.1 (stepF W kvs lm lk st).2.2.2 (stepF W kvs lm lk st).1.1 (n + 1) → TldAt H' (stepF W kvs lm lk st).1.2 v → Frm [qk, qr, qf, qp, pw] H H' → Q v H') : spVStep K [.ref qk] H Q E := by
  obtain ⟨wk, ⟨lw, wa, pm⟩, nl, kd, hw, hkl, hnd, hnum, ok⟩ := h
  obtain ⟨z1, z2, z3⟩ := ok.len
  have hb : ∀ l, st.sd = some l → msOf W sdm = (l.length : Nat) ∧ l.length < W ∧ Bits l ∧ ∀ x ∈ lw, Num W x := fun l e => by
    obtain ⟨a, b, c, d⟩ := ok.said l e
    exact ⟨by rw [a]; rfl, b, c, fun x hx => (d x (pm.mem_iff.mp hx)).num⟩
  refine ⟨qk, pw, qr, qf, qp, dh, dl, W, kvs, lw, _, lk, st, rfl, wk, wa, nl, kd, hw, hkl, hnd, hnum, by rw [pm.length_eq]; exact ok.lm, by omega, by omega, by omega, ok.rest, hb, hO, fun hne v lw' dl' H' hd pm' wk' tl' wa' f' => ?_⟩
  obtain ⟨s1, s2, s3⟩ := step_perm (W := W) (kvs := kvs) (lk := lk) (st := st) pm
  rw [s1] at wk' tl'
  rw [s3] at wa'
  refine k hne v dl' H' hd ⟨wk', ⟨lw', wa', pm'.trans s2⟩, ?_, by rw [step_kd]; exact kd, hw, hkl, hnd, hnum, step_ok ok hne (by omega) hnum⟩ tl' f'
  exact hd.elim (fun e => by rw [e]; exact nl) fun z => ⟨(wk.old z).2.1, (wk.old z).2.2.1, (wk.old z).2.2.2⟩
/-- a round -/
def spVRound (K : PySem.W.Frag) : Sp := fun vs H Q _ => ∃ (qk pw qr qf qp dh dl : Addr) (W : Nat) (kvs : List (Str × Bool)) (lm : List Str) (sdm : Option (List Nat)) (lk : Int) (st : WkS) (n : Nat), vs = [.ref qk] ∧ VkOk K H qk pw qr qf qp dh dl W kvs lm sdm lk st n ∧ n ≤ 900000 ∧ (st.sd = none → st.rest ≠ []) ∧
  ∀ (v : V) (dl' : Addr) (H' : Hp), (dl' = dl ∨ H dl' = none) → VkOk K H' qk pw qr qf qp dh dl' W kvs (roundF W kvs W lm lk st).2.1 (roundF W kvs W lm lk st).2.2.1 (roundF W kvs W lm lk st).2.2.2 (roundF W kvs W lm lk st).1.1 (n + 1 + W) → TldAt H' (roundF W kvs W lm lk st).1.2 v → Frm [qk, qr, qf, qp, pw] H H' → Q v H'
theorem WkOk.le {W n m : Nat} {lm : List Str} {sdm : Option (List Nat)} {st : WkS} (h : WkOk W lm sdm st n) (hm : n ≤ m) : WkOk W lm sdm st m := by
  obtain ⟨a, b, ⟨c, d, e⟩, f⟩ := h
  exact ⟨a, b, ⟨by omega, by omega, by omega⟩, f⟩
theorem VkOk.le {H : Hp} {qk pw qr qf qp dh dl : Addr} {W : Nat} {kvs : List (Str × Bool)} {lm : List Str} {sdm : Option (List Nat)} {lk : Int} {st : WkS} {n m : Nat} (h : VkOk K H qk pw qr qf qp dh dl W kvs lm sdm lk st n) (hm : n ≤ m) : VkOk K H qk pw qr qf qp dh dl W kvs lm sdm lk st m := by
  obtain ⟨a, b, c, d, e, g, i, j, o⟩ := h
  exact ⟨a, b, c, d, e, g, i, j, o.le hm⟩
theorem tld_ref {H : Hp} {r : Tld} {v : V} (h : TldAt H r v) (n : r ≠ .no) : ∃ t, v = .ref t := by
  cases r with
  | no => exact absurd rfl n
  | lost =>
    obtain ⟨t, e, _⟩ := h
    exact ⟨t, e⟩
  | found l =>
    obtain ⟨t, e, _⟩ := h
    exact ⟨t, e⟩
/-- all -/
def spVAll (K : PySem.W.Frag) : Sp := fun vs H Q _ => ∃ (qk pw qr qf qp dh dl : Addr) (W : Nat) (kvs : List (Str × Bool)) (lm : List Str) (sdm : Option (List Nat)) (lk : Int) (st : WkS) (n : Nat), vs = [.ref qk] ∧ VkOk K H qk pw qr qf qp dh dl W kvs lm sdm lk st n ∧ n + meas W st ≤ 900000 ∧
  ∀ (p dl' : Addr) (H' : Hp), (dl' = dl ∨ H dl' = none) → H p = none → VkOk K H' qk pw qr qf qp dh dl' W kvs (allF W kvs (meas W st) (st, lm, sdm, lk)).2.1 (allF W kvs (meas W st) (st, lm, sdm, lk)).2.2.1 (allF W kvs (meas W st) (st, lm, sdm, lk)).2.2.2 (allF W kvs (meas W st) (st, lm, sdm, lk)).1 (n + meas W st) → (allF W kvs (meas W st) (st, lm, sdm, lk)).1.sd = none → (allF W kvs (meas W st) (st, lm, sdm, lk)).1.rest = [] →
    H' p = some (.lst ((allF W kvs (meas W st) (st, lm, sdm, lk)).1.found.map txV)) → Frm [qk, qr, qf, qp, pw] H H' → Q (.ref p) H'
theorem meas_pos {W : Nat} {st : WkS} (h : ¬ (st.sd = none ∧ st.rest = [])) : 0 < meas W st := by
  obtain ⟨kd, rest, sd, found, paper⟩ := st
  unfold meas
  cases sd with
  | some l =>
    have := two_pow (n := W - l.length)
    show 0 < sumR W rest + wS W l
    unfold wS
    omega
  | none =>
    cases rest with
    | nil => exact absurd ⟨rfl, rfl⟩ h
    | cons g r =>
      have := two_pow (n := W - g.length)
      show 0 < (wR W g + sumR W r) + 0
      unfold wR
      omega
end
end B

set_option Elab.async false
set_option linter.all false
set_option maxRecDepth 100000
set_option maxHeartbeats 4000000
namespace B
open PySem PySem.Spec PyProof.Rows L2
open SX (S)
/-! ### a walk over a pool ends soon -/
def cnt (names : List Str) (l : List Nat) : Nat := (names.filter (starts l)).length
theorem sg_one {n : Nat} {x : Str} (a : sg n 48 x = true) (b : sg n 49 x = true) : False := by
  have a' := of_decide_eq_true a
  have b' := of_decide_eq_true b
  rw [a'] at b'
  cases b'
theorem cnt_two {names : List Str} {l : List Nat} : cnt names (l ++ [48]) + cnt names (l ++ [49]) ≤ cnt names l := by
  unfold cnt
  induction names with
  | nil => exact Nat.le_refl _
  | cons x r ih =>
    rw [List.filter_cons, List.filter_cons, List.filter_cons, starts_snoc, starts_snoc]
    cases e : starts l x with
    | false =>
      rw [Bool.and_false, Bool.and_false]
      exact ih
    | true =>
      rw [Bool.and_true, Bool.and_true]
      cases a : sg l.length 48 x with
      | false =>
        cases b : sg l.length 49 x with
        | false =>
          rw [if_neg Bool.false_ne_true, if_neg Bool.false_ne_true, if_pos rfl, List.length_cons]
          omega
        | true =>
          rw [if_neg Bool.false_ne_true, if_pos rfl, if_pos rfl, List.length_cons, List.length_cons]
          omega
      | true =>
        cases b : sg l.length 49 x with
        | false =>
          rw [if_pos rfl, if_neg Bool.false_ne_true, if_pos rfl, List.length_cons, List.length_cons]
          omega
        | true => exact (sg_one a b).elim
theorem cnt_pos {names : List Str} {l : List Nat} {x : Str} (hx : x ∈ names) (h : starts l x = true) : 1 ≤ cnt names l := List.length_pos_of_mem (List.mem_filter.mpr ⟨hx, h⟩)
def vR (W : Nat) (names : List Str) (g : List Nat) : Nat := cnt names g * (W - g.length + 1)
def sumV (W : Nat) (names : List Str) : List (List Nat) → Nat
  | [] => 0
  | g :: r => vR W names g + sumV W names r
theorem sumV_app {W : Nat} {names : List Str} : ∀ {a b : List (List Nat)}, sumV W names (a ++ b) = sumV W names a + sumV W names b
  | [], b => by show sumV W names b = 0 + sumV W names b; omega
  | g :: a, b => by
    have := sumV_app (W := W) (names := names) (a := a) (b := b)
    show vR W names g + sumV W names (a ++ b) = vR W names g + sumV W names a + sumV W names b
    omega
def mv (W : Nat) (names : List Str) (st : WkS) : Nat := sumV W names st.rest + (match st.sd with | none => 0 | some l => vR W names l - 1)
structure Cnts (names : List Str) (st : WkS) : Prop where
  rest : ∀ g ∈ st.rest, 1 ≤ cnt names g
  said : ∀ l, st.sd = some l → 1 ≤ cnt names l
theorem over_mv {W : Nat} {names : List Str} {st : WkS} {l : List Nat} : mv W names (overF W st l).1 ≤ sumV W names st.rest + (vR W names l - 1) := by
  unfold overF mv
  split
  · exact Nat.le_refl _
  · show sumV W names st.rest + 0 ≤ _
    omega
theorem over_cnts {W : Nat} {names : List Str} {st : WkS} {l : List Nat} (h : ∀ g ∈ st.rest, 1 ≤ cnt names g) (hl : 1 ≤ cnt names l) : Cnts names (overF W st l).1 := by
  unfold overF
  split
  · exact ⟨h, fun l' e => by cases e; exact hl⟩
  · exact ⟨h, fun l' e => by cases e⟩
theorem beg_st {W : Nat} {l : List Nat} {x : Str} (h : Beg W l x) : starts l x = true := by
  obtain ⟨m, rfl, e, b, t⟩ := h
  unfold starts
  rw [S_list]
  exact decide_eq_true t
theorem heard_cnt {W c : Nat} {names lm : List Str} {l : List Nat} (h : lm.any (sg l.length c) = true) (hb : ∀ x ∈ lm, Beg W l x) (hs : ∀ x ∈ lm, x ∈ names) : 1 ≤ cnt names (l ++ [c]) := by
  obtain ⟨x, hx, e⟩ := List.any_eq_true.mp h
  refine cnt_pos (hs x hx) ?_
  rw [starts_snoc, e, beg_st (hb x hx)]
  rfl
theorem vR_snoc {W c : Nat} {names : List Str} {l : List Nat} (h : l.length < W) : vR W names (l ++ [c]) = cnt names (l ++ [c]) * (W - l.length) := by
  unfold vR
  rw [List.length_append, List.length_singleton, show W - (l.length + 1) + 1 = W - l.length by omega]
theorem step_mv {W n : Nat} {names : List Str} {kvs : List (Str × Bool)} {lm : List Str} {sdm : Option (List Nat)} {lk : Int} {st : WkS} (h : WkOk W lm sdm st n) (c : Cnts names st) (hs : ∀ x ∈ lm, x ∈ names) (hr : st.sd = none → st.rest ≠ []) : mv W names (stepF W kvs lm lk st).1.1 < mv W names st ∧ Cnts names (stepF W kvs lm lk st).1.1 := by
  obtain ⟨kd, rest, sd, found, paper⟩ := st
  obtain ⟨c1, c2⟩ := c
  dsimp only at c1 c2
  cases sd with
  | none =>
    obtain ⟨r, g, e, hg, hb⟩ := h.none_ (hr rfl)
    dsimp only at e
    subst e
    have e0 : stepF W kvs lm lk ⟨kd, r ++ [g], none, found, paper⟩ = (overF W ⟨kd, r, none, found, paper⟩ g, begF kvs kd g, some g, lk) := by
      unfold stepF
      simp
    rw [e0]
    have hg1 := c1 g (by simp)
    refine ⟨Nat.lt_of_le_of_lt over_mv ?_, over_cnts (fun q hq => c1 q (List.mem_append_left _ hq)) hg1⟩
    show sumV W names r + (vR W names g - 1) < sumV W names (r ++ [g]) + 0
    rw [sumV_app]
    show sumV W names r + (vR W names g - 1) < sumV W names r + (vR W names g + 0) + 0
    have : 1 * 1 ≤ vR W names g := Nat.mul_le_mul hg1 (by omega)
    omega
  | some l =>
    obtain ⟨_, hlt, _, hbeg⟩ := h.said l rfl
    have hl1 := c2 l rfl
    have hk : 1 ≤ W - l.length := by omega
    have v0 : vR W names l = cnt names l * (W - l.length) + cnt names l := Nat.mul_succ _ _
    have v1 : 1 * 1 ≤ cnt names l * (W - l.length) := Nat.mul_le_mul hl1 hk
    have v2 := vR_snoc (c := 48) (names := names) hlt
    have v3 := vR_snoc (c := 49) (names := names) hlt
    have v4 : (cnt names (l ++ [48]) + cnt names (l ++ [49])) * (W - l.length) ≤ cnt names l * (W - l.length) := Nat.mul_le_mul_right _ cnt_two
    rw [Nat.add_mul] at v4
    have q48 := fun z => heard_cnt (c := 48) z hbeg hs
    have q49 := fun z => heard_cnt (c := 49) z hbeg hs
    unfold stepF
    dsimp only
    revert q48 q49
    generalize lm.any (sg l.length 48) = z
    generalize lm.any (sg l.length 49) = o
    intro q48 q49
    cases z <;> cases o
    · rw [if_pos ⟨rfl, rfl⟩]
      refine ⟨?_, ⟨c1, fun l' e => by cases e⟩⟩
      show sumV W names rest + 0 < sumV W names rest + (vR W names l - 1)
      omega
    · rw [if_neg (fun z => Bool.noConfusion z.2), if_neg Bool.false_ne_true, if_neg (fun z => Bool.noConfusion z.1)]
      refine ⟨Nat.lt_of_le_of_lt over_mv ?_, over_cnts c1 (q49 rfl)⟩
      have := Nat.mul_le_mul (q49 rfl) hk
      show sumV W names rest + (vR W names (l ++ [49]) - 1) < sumV W names rest + (vR W names l - 1)
      omega
    · rw [if_neg (fun z => Bool.noConfusion z.1), if_pos rfl, if_neg (fun z => Bool.noConfusion z.2)]
      refine ⟨Nat.lt_of_le_of_lt over_mv ?_, over_cnts c1 (q48 rfl)⟩
      have := Nat.mul_le_mul (q48 rfl) hk
      show sumV W names rest + (vR W names (l ++ [48]) - 1) < sumV W names rest + (vR W names l - 1)
      omega
    · rw [if_neg (fun z => Bool.noConfusion z.1), if_pos rfl, if_pos ⟨rfl, rfl⟩]
      refine ⟨Nat.lt_of_le_of_lt over_mv ?_, over_cnts (fun g hg => ?_) (q48 rfl)⟩
      · have := Nat.mul_le_mul (q48 rfl) hk
        have := Nat.mul_le_mul (q49 rfl) hk
        show sumV W names (rest ++ [l ++ [49]]) + (vR W names (l ++ [48]) - 1) < sumV W names rest + (vR W names l - 1)
        rw [sumV_app]
        show sumV W names rest + (vR W names (l ++ [49]) + 0) + (vR W names (l ++ [48]) - 1) < sumV W names rest + (vR W names l - 1)
        omega
      · rcases List.mem_append.mp hg with z | z
        · exact c1 g z
        · rw [List.mem_singleton.mp z]
          exact q49 rfl
/-- what is said on a wire is what those that listen begin with -/
theorem step_beg {W n : Nat} {kvs : List (Str × Bool)} {lm : List Str} {sdm : Option (List Nat)} {lk : Int} {st : WkS} (h : WkOk W lm sdm st n) (hr : st.sd = none → st.rest ≠ []) (hkn : ∀ x ∈ kvs.map (·.1), Num W x) : ∀ l, (stepF W kvs lm lk st).2.2.1 = some l → l.length ≤ W ∧ ∀ x ∈ (stepF W kvs lm lk st).2.1, Beg W l x := by
  obtain ⟨kd, rest, sd, found, paper⟩ := st
  cases sd with
  | none =>
    obtain ⟨r, g, e, hg, hb⟩ := h.none_ (hr rfl)
    dsimp only at e
    subst e
    have e0 : stepF W kvs lm lk ⟨kd, r ++ [g], none, found, paper⟩ = (overF W ⟨kd, r, none, found, paper⟩ g, begF kvs kd g, some g, lk) := by
      unfold stepF
      simp
    rw [e0]
    intro l e
    cases e
    have bs := begF_sub (kvs := kvs) (kd := kd) (l := g)
    exact ⟨hg, fun x hx => beg_starts (hkn x (bs.2 x hx).1) (bs.2 x hx).2⟩
  | some l =>
    obtain ⟨_, hlt, _, hbeg⟩ := h.said l rfl
    unfold stepF
    dsimp only
    split
    · intro l' e
      cases e
      exact ⟨Nat.le_of_lt hlt, hbeg⟩
    · intro l' e
      cases e
      refine ⟨by rw [List.length_append, List.length_singleton]; omega, fun x hx => ?_⟩
      obtain ⟨x1, x2⟩ := List.mem_filter.mp hx
      exact beg_next' (hbeg x x1) x2
theorem step_sub {W : Nat} {kvs : List (Str × Bool)} {lm : List Str} {lk : Int} {st : WkS} {names : List Str} (hs : ∀ x ∈ lm, x ∈ names) (hk : ∀ x ∈ kvs.map (·.1), x ∈ names) : ∀ x ∈ (stepF W kvs lm lk st).2.1, x ∈ names := by
  obtain ⟨kd, rest, sd, found, paper⟩ := st
  cases sd with
  | none => exact fun x hx => hk x (begF_sub.2 x hx).1
  | some l =>
    unfold stepF
    dsimp only
    split
    · exact hs
    · exact fun x hx => hs x (List.mem_filter.mp hx).1
theorem step_len {W m : Nat} {kvs : List (Str × Bool)} {lm : List Str} {lk : Int} {st : WkS} (hs : lm.length ≤ m) (hk : kvs.length ≤ m) : (stepF W kvs lm lk st).2.1.length ≤ m := by
  obtain ⟨kd, rest, sd, found, paper⟩ := st
  cases sd with
  | none => exact Nat.le_trans begF_sub.1 hk
  | some l =>
    unfold stepF
    dsimp only
    split
    · exact hs
    · exact Nat.le_trans (List.length_filter_le _ _) hs
/-- a walk's state, who listens, what is said on the wire, the looks -/
abbrev Q4 := WkS × List Str × Option (List Nat) × Int
def stepQ (W : Nat) (kvs : List (Str × Bool)) (q : Q4) : Q4 := ((stepF W kvs q.2.1 q.2.2.2 q.1).1.1, (stepF W kvs q.2.1 q.2.2.2 q.1).2)
structure InvQ (names : List Str) (W : Nat) (q : Q4) (b : Nat) : Prop where
  ok : WkOk W q.2.1 q.2.2.1 q.1 b
  cn : Cnts names q.1
  sub : ∀ x ∈ q.2.1, x ∈ names
  beg : ∀ l, q.2.2.1 = some l → l.length ≤ W ∧ ∀ x ∈ q.2.1, Beg W l x
  len : q.2.1.length ≤ 41
  mz : b + meas W q.1 ≤ 20000
theorem inv_step {names : List Str} {W b : Nat} {kvs : List (Str × Bool)} {q : Q4} (h : InvQ names W q b) (hr : q.1.sd = none → q.1.rest ≠ []) (hk : kvs.length ≤ 41) (hkn : ∀ x ∈ kvs.map (·.1), x ∈ names) (hnn : ∀ x ∈ names, Num W x) : InvQ names W (stepQ W kvs q) (b + 1) ∧ mv W names (stepQ W kvs q).1 < mv W names q.1 := by
  obtain ⟨a1, a2, a3, a4, a5, a6⟩ := h
  have kn : ∀ x ∈ kvs.map (·.1), Num W x := fun x hx => hnn x (hkn x hx)
  have s1 := step_mv (kvs := kvs) (lk := q.2.2.2) a1 a2 a3 hr
  have s2 := step_meas (kvs := kvs) (lk := q.2.2.2) a1 hr
  refine ⟨⟨step_ok a1 hr (by omega) kn, s1.2, step_sub a3 hkn, step_beg a1 hr kn, step_len a5 hk, ?_⟩, s1.1⟩
  show b + 1 + meas W (stepF W kvs q.2.1 q.2.2.2 q.1).1.1 ≤ 20000
  omega
/-- some steps -/
inductive Stp (W : Nat) (kvs : List (Str × Bool)) : Q4 → Q4 → Prop where
  | refl (q : Q4) : Stp W kvs q q
  | step (q q' : Q4) : (q.1.sd = none → q.1.rest ≠ []) → Stp W kvs (stepQ W kvs q) q' → Stp W kvs q q'
theorem inv_stp {names : List Str} {W : Nat} {kvs : List (Str × Bool)} (hk : kvs.length ≤ 41) (hkn : ∀ x ∈ kvs.map (·.1), x ∈ names) (hnn : ∀ x ∈ names, Num W x) {q q' : Q4} (s : Stp W kvs q q') : ∀ {b : Nat}, InvQ names W q b → (∃ b', InvQ names W q' b') ∧ mv W names q'.1 ≤ mv W names q.1 := by
  induction s with
  | refl q => exact fun h => ⟨⟨_, h⟩, Nat.le_refl _⟩
  | step q q' hr _ ih =>
    intro b h
    have s1 := inv_step h hr hk hkn hnn
    have s2 := ih s1.1
    exact ⟨s2.1, by omega⟩
theorem round_stp {W : Nat} {kvs : List (Str × Bool)} : ∀ {n : Nat} {st : WkS} {lm : List Str} {sdm : Option (List Nat)} {lk : Int}, (st.sd = none → st.rest ≠ []) → Stp W kvs (stepQ W kvs (st, lm, sdm, lk)) ((roundF W kvs n lm lk st).1.1, (roundF W kvs n lm lk st).2)
  | 0, st, lm, sdm, lk, h => .refl _
  | n + 1, st, lm, sdm, lk, h => by
    by_cases hno : (stepF W kvs lm lk st).1.2 = .no
    · rw [round_no hno]
      obtain ⟨l', e, _⟩ := step_no hno
      have hc : (stepF W kvs lm lk st).1.1.sd = none → (stepF W kvs lm lk st).1.1.rest ≠ [] := fun z => by rw [e] at z; cases z
      exact .step _ _ hc (round_stp (sdm := (stepF W kvs lm lk st).2.2.1) hc)
    · rw [round_yes hno]
      exact .refl _
theorem all_stp {W : Nat} {kvs : List (Str × Bool)} : ∀ {n : Nat} {q : Q4}, Stp W kvs q (allF W kvs n q)
  | 0, q => .refl _
  | n + 1, q => by
    by_cases h : q.1.sd = none ∧ q.1.rest = []
    · rw [all_stop h]
      exact .refl _
    · rw [all_go h]
      exact .step _ _ (fun a b => h ⟨a, b⟩) all_stp
theorem cnt_nil {names : List Str} : cnt names [] = names.length := by
  have e : names.filter (starts []) = names := List.filter_eq_self.mpr fun x _ => decide_eq_true rfl
  unfold cnt
  rw [e]
/-- a walk begun -/
theorem inv_new {names : List Str} {W : Nat} {kd : Str} (hn : names ≠ []) (hW : W ≤ 12) (hl : names.length ≤ 41) : InvQ names W (⟨kd, [[]], none, [], []⟩, [], none, 0) 1 ∧ mv W names ⟨kd, [[]], none, [], []⟩ ≤ 533 := by
  have hp : 1 ≤ names.length := List.length_pos_iff.mpr hn
  refine ⟨⟨⟨fun g hg => ?_, fun l e => (by cases e), ⟨Nat.le_refl _, Nat.zero_le _, Nat.zero_le _⟩, Nat.zero_le _⟩, ⟨fun g hg => ?_, fun l e => (by cases e)⟩, fun x hx => absurd hx (by simp), fun l e => (by cases e), Nat.zero_le _, ?_⟩, ?_⟩
  · rw [List.mem_singleton.mp hg]
    exact ⟨Nat.zero_le _, Bits.nil⟩
  · rw [List.mem_singleton.mp hg, cnt_nil]
    exact hp
  · show 1 + (wR W [] + 0 + 0) ≤ 20000
    have : 2 ^ (W + 2) ≤ 2 ^ 14 := Nat.pow_le_pow_right (by decide) (by omega)
    have e : wR W [] = 2 ^ (W + 2) - 1 := rfl
    omega
  · show vR W names [] + 0 + 0 ≤ 533
    have e : vR W names [] = names.length * (W + 1) := by
      unfold vR
      rw [cnt_nil]
      rfl
    have := Nat.mul_le_mul hl (show W + 1 ≤ 13 by omega)
    omega
end B

set_option Elab.async false
set_option linter.all false
set_option maxRecDepth 100000
set_option maxHeartbeats 4000000
namespace B
open PySem PySem.Spec PyProof.Rows L2
open SX (S)
theorem deed_hang {kvs : List (Str × Bool)} {x : Str} {lw : List Str} (h : ¬ hasK kvs x = true) : deedW kvs "hang" x = "" ∧ deedK kvs "hang" x = putB kvs x false ∧ deedL kvs lw "hang" x = lw := by
  unfold deedW deedK deedL
  rw [if_pos rfl, if_pos rfl, if_neg h, if_neg h, if_neg (fun z => absurd z.1 (by decide +kernel))]
  exact ⟨rfl, rfl, rfl⟩
theorem deed_alarm {kvs : List (Str × Bool)} {x : Str} {lw : List Str} (h : hasK kvs x = true) : deedW kvs "alarm" x = "" ∧ deedK kvs "alarm" x = putB kvs x true ∧ deedL kvs lw "alarm" x = lw := by
  have nw : ¬ ("alarm" : Str) = "hang" := by decide +kernel
  have no : ¬ ("alarm" : Str) = "off" := by decide +kernel
  unfold deedW deedK deedL
  rw [if_neg nw, if_neg nw, if_pos h, if_pos h, if_neg no, if_neg (fun z => no z.1), decide_eq_true rfl]
  exact ⟨rfl, rfl, rfl⟩
theorem has_put {kvs : List (Str × Bool)} {x : Str} {b : Bool} : hasK (putB kvs x b) x = true := by
  rw [has_key, keys_put]
  split
  · rename_i h
    exact has_key.mp h
  · exact List.mem_append_right _ (by simp)
theorem nod_app {L G : List Addr} {H : Hp} (hL : L.Nodup) (hG : G.Nodup) (al : ∀ x ∈ L, H x ≠ none) (nn : ∀ x ∈ G, H x = none) : (L ++ G).Nodup := by
  rw [List.nodup_append]
  exact ⟨hL, hG, fun a ha c hc e => al a ha (by rw [e]; exact nn c hc)⟩
/-- a statement whose ways all lead to the same -/
theorem seq_merge {a b : TS} {D : Ends} {σ : L2.St} {H : Hp} (P : L2.St → Hp → Prop) (h1 : ∀ K : L2.St → Hp → Prop, (∀ σ' H', P σ' H' → K σ' H') → a { D with nx := K } σ H) (h2 : ∀ σ' H', P σ' H' → b D σ' H') : tSeq a b D σ H := h1 _ h2
theorem seq_merge2 {a b c : TS} {D : Ends} {σ : L2.St} {H : Hp} (P : L2.St → Hp → Prop) (h1 : ∀ K : L2.St → Hp → Prop, (∀ σ' H', P σ' H' → K σ' H') → tSeq a b { D with nx := K } σ H) (h2 : ∀ σ' H', P σ' H' → c D σ' H') : tSeq a (tSeq b c) D σ H := h1 _ h2
/-- a while whose test makes but new things: G tells whether it goes on -/
theorem while_go {α : Type} {c : TT} {tb : TS} {D : Ends} {σ : L2.St} {H : Hp} (Wd : α → Nat → L2.St → Hp → Prop) (G : α → Prop) (h0 : ∃ x m, Wd x m σ H)
    (hc : ∀ x m σ H, Wd x m σ H → ∀ K : Bool → Hp → Prop, (G x → ∀ H', Frm [] H H' → K true H') → (¬ G x → ∀ H', Frm [] H H' → K false H') → c σ H K)
    (hb : ∀ x m σ H H', Wd x m σ H → G x → Frm [] H H' → tb { D with nx := fun σ' H'' => ∃ m', m' < m ∧ ∃ x', Wd x' m' σ' H'', ct := fun σ' H'' => ∃ m', m' < m ∧ ∃ x', Wd x' m' σ' H'', bk := D.nx } σ H')
    (hd : ∀ x m σ H H', Wd x m σ H → ¬ G x → Frm [] H H' → D.nx σ H') : tWhile c tb D σ H := by
  obtain ⟨x0, m0, w0⟩ := h0
  refine ⟨fun m σ H => ∃ x, Wd x m σ H, ⟨m0, x0, w0⟩, ?_⟩
  rintro m σ H ⟨x, w⟩
  refine hc x m σ H w _ (fun g H' f => ?_) (fun g H' f => ?_)
  · rw [if_pos rfl]
    exact ⟨fun σ' H'' => ∃ m', m' < m ∧ ∃ x', Wd x' m' σ' H'', fun _ _ h => h, hb x m σ H H' w g f⟩
  · rw [if_neg Bool.false_ne_true]
    exact hd x m σ H H' w g f
theorem deed_off {kvs : List (Str × Bool)} {x : Str} {lw : List Str} (h : hasK kvs x = true) : deedW kvs "off" x = "" ∧ deedK kvs "off" x = dropB kvs x ∧ deedL kvs lw "off" x = lw.filter (fun y => decide (y ≠ x)) := by
  have nw : ¬ ("off" : Str) = "hang" := by decide +kernel
  unfold deedW deedK deedL
  rw [if_neg nw, if_neg nw, if_pos h, if_pos h, if_pos rfl, if_pos ⟨rfl, h⟩]
  exact ⟨rfl, rfl, rfl⟩
theorem inV_strs (x : Str) (xs : List Str) : inV (V.str x) (xs.map V.str) = decide (x ∈ xs) := by
  by_cases h : x ∈ xs
  · rw [decide_eq_true h]
    unfold inV
    rw [List.any_map, List.any_eq_true]
    exact ⟨x, h, by show eqV (V.str x) (V.str x) = true; simp [eqV]⟩
  · rw [decide_eq_false h]
    cases e : inV (V.str x) (xs.map V.str) with
    | false => rfl
    | true =>
      exfalso
      unfold inV at e
      rw [List.any_map, List.any_eq_true] at e
      obtain ⟨y, hy, q⟩ := e
      have q' : (y == x) = true := q
      exact h (eq_of_beq q' ▸ hy)
theorem keys_new {kvs : List (Str × Bool)} {x : Str} {b : Bool} (h : ¬ hasK kvs x = true) : (putB kvs x b).map (·.1) = kvs.map (·.1) ++ [x] := by rw [keys_put, if_neg h]
theorem keys_in {kvs : List (Str × Bool)} {x y : Str} {b : Bool} : y ∈ (putB kvs x b).map (·.1) ↔ y ∈ kvs.map (·.1) ∨ y = x := by
  rw [keys_put]
  split
  · rename_i h
    exact ⟨.inl, fun q => q.elim id fun e => by rw [e]; exact has_key.mp h⟩
  · rw [List.mem_append, List.mem_singleton]
theorem tld_dec {H : Hp} {r : Tld} {v : V} (h : TldAt H r v) : (v = V.non ↔ r = .no) := by
  cases r with
  | no => exact ⟨fun _ => rfl, fun _ => h⟩
  | lost =>
    obtain ⟨t, e, _⟩ := h
    exact ⟨fun z => (by rw [e] at z; cases z), fun z => (by cases z)⟩
  | found l =>
    obtain ⟨t, e, _⟩ := h
    exact ⟨fun z => (by rw [e] at z; cases z), fun z => (by cases z)⟩
end B

set_option Elab.async false
set_option linter.all false
set_option maxRecDepth 100000
set_option maxHeartbeats 4000000
namespace B
open PySem PySem.Spec PyProof.Rows L2
open SX (S)
/-! ### what changes is no tuple -/
def nt : HO → Bool
  | .ins _ _ _ => true
  | .dK _ => true
  | .lst _ => true
  | _ => false
def NT (T : List Addr) (H : Hp) : Prop := ∀ s ∈ T, ∃ o, H s = some o ∧ nt o = true
theorem NT.nil {H : Hp} : NT [] H := fun _ h => absurd h (by simp)
theorem NT.cons {T : List Addr} {H : Hp} {s : Addr} {o : HO} (h : H s = some o) (n : nt o = true) (t : NT T H) : NT (s :: T) H := fun c hc => by
  rcases List.mem_cons.mp hc with e | e
  · rw [e]
    exact ⟨o, h, n⟩
  · exact t c e
theorem NT.of {T : List Addr} {H : Hp} (h : NL T H) : NT T H := fun s hs => by
  obtain ⟨o, e, n⟩ := h s hs
  refine ⟨o, e, ?_⟩
  cases o <;> first | rfl | cases n
theorem NT.out {T : List Addr} {H : Hp} {p : Addr} {o : HO} (n : NT T H) (h : H p = some o) (h2 : nt o = false) : p ∉ T := fun z => by
  obtain ⟨u, e, q⟩ := n p z
  rw [h] at e
  cases e
  rw [h2] at q
  cases q
theorem nt_codeO {c : Addr} {q : Str} : nt (LamX.CodeO c q) = false := rfl
theorem Frm.toN {K : PySem.W.Frag} {T : List Addr} {H H' : Hp} (f : Frm T H H') (n : NT T H) : FrT K T H H' := by
  have kp : ∀ {p : Addr} {o : HO}, H p = some o → nt o = false → H' p = some o := fun {p o} e h => f.k p o e rfl (n.out e h)
  refine ⟨fun b o e _ hb => f.k b o e rfl hb, f.b, fun ⟨h1, h2⟩ => ⟨fun p hp => ?_, fun p hp => ?_⟩⟩
  · obtain ⟨ps, e, t⟩ := h1 p hp
    exact ⟨ps, kp e rfl, t⟩
  obtain ⟨qs, e1, t1, a1⟩ := h2 p hp
  refine ⟨qs, kp e1 rfl, t1, fun pos cv hc => ?_⟩
  obtain ⟨c, e2, e3⟩ := a1 pos cv hc
  exact ⟨c, e2, kp e3 nt_codeO⟩
theorem VkAt.keepT {K : PySem.W.Frag} {T : List Addr} {H H' : Hp} {qk pw qr qf qp : Addr} {st : WkS} (h : VkAt K H qk pw qr qf qp st) (f : FrT K T H H') (n : NT T H) (h1 : qk ∉ T) (h2 : qr ∉ T) (h3 : qf ∉ T) (h4 : qp ∉ T) : VkAt K H' qk pw qr qf qp st := by
  obtain ⟨⟨dx, o1⟩, o2, o3, ⟨ts, o4, o5, o6⟩, ne⟩ := h
  exact ⟨⟨dx, f.k _ _ o1 rfl h1⟩, f.k _ _ o2 rfl h2, f.k _ _ o3 rfl h3, ⟨ts, f.k _ _ o4 rfl h4, o5, fun i t q a b => f.k _ _ (o6 i t q a b) rfl (n.out (o6 i t q a b) rfl)⟩, ne⟩
theorem WkAt.keepT {K : PySem.W.Frag} {T : List Addr} {H H' : Hp} {pk pr pf pp : Addr} {st : WkS} (h : WkAt H pk pr pf pp st) (f : FrT K T H H') (n : NT T H) (h1 : pk ∉ T) (h2 : pr ∉ T) (h3 : pf ∉ T) (h4 : pp ∉ T) : WkAt H' pk pr pf pp st := by
  obtain ⟨o1, o2, o3, ⟨ts, o4, o5, o6⟩, ne⟩ := h
  exact ⟨f.k _ _ o1 rfl h1, f.k _ _ o2 rfl h2, f.k _ _ o3 rfl h3, ⟨ts, f.k _ _ o4 rfl h4, o5, fun i t q a b => f.k _ _ (o6 i t q a b) rfl (n.out (o6 i t q a b) rfl)⟩, ne⟩
theorem TldAt.keepT {K : PySem.W.Frag} {T : List Addr} {H H' : Hp} {r : Tld} {v : V} (h : TldAt H r v) (f : FrT K T H H') (n : NT T H) : TldAt H' r v := by
  cases r with
  | no => exact h
  | lost =>
    obtain ⟨t, e, z⟩ := h
    exact ⟨t, e, f.k _ _ z rfl (n.out z rfl)⟩
  | found l =>
    obtain ⟨t, e, z⟩ := h
    exact ⟨t, e, f.k _ _ z rfl (n.out z rfl)⟩
theorem VkOk.keepT {K : PySem.W.Frag} {H H' : Hp} {T : List Addr} {qk pw qr qf qp dh dl : Addr} {W : Nat} {kvs : List (Str × Bool)} {lm : List Str} {sdm : Option (List Nat)} {lk : Int} {st : WkS} {n : Nat} (h : VkOk K H qk pw qr qf qp dh dl W kvs lm sdm lk st n) (f : FrT K T H H') (z : NT T H) (h1 : qk ∉ T) (h2 : qr ∉ T) (h3 : qf ∉ T) (h4 : qp ∉ T) (h5 : pw ∉ T) (h6 : dh ∉ T) (h7 : dl ∉ T) : VkOk K H' qk pw qr qf qp dh dl W kvs lm sdm lk st n := by
  obtain ⟨a, ⟨lw, b1, b2⟩, c, d, e, g, i, j, o⟩ := h
  exact ⟨a.keepT f z h1 h2 h3 h4, ⟨lw, b1.keep f h5 h6 h7, b2⟩, c, d, e, g, i, j, o⟩
theorem Pool.keep {K : PySem.W.Frag} {T : List Addr} {H H' : Hp} {pn : Addr} {W : Nat} {names : List Str} (h : Pool H pn W names) (f : FrT K T H H') (n : pn ∉ T) : Pool H' pn W names :=
  ⟨f.k _ _ h.at_ rfl n, h.ne, h.len, h.num, h.w⟩
theorem txs (l : List (List Nat)) : l.map txV = (l.map S).map V.str := by
  rw [List.map_map]
  rfl
theorem eqv_txs (l : List (List Nat)) : PyData.eqv (.list ((l.map S).map .str)) (.list []) = l.isEmpty := by
  rw [eqv_empty]
  cases l <;> rfl
end B

set_option Elab.async false
set_option linter.all false
set_option maxRecDepth 100000
set_option maxHeartbeats 4000000
namespace B
open PySem PySem.Spec PyProof.Rows L2
/-! ### sets of texts that can be walked: made of a list, sorted, counted -/
/-- a table's row that holds a text -/
def TxRow (w : World) (e : Int × Value) : Prop := ∃ z t, e.2 = Value.str z t ∧ e.1 = hashStr w z
def txOf (e : Int × Value) : Str := match e.2 with
  | .str z _ => z
  | _ => Str.empty
structure STr (w : World) (h : Heap) (a : Addr) (T : Str → Bool) (n : Nat) (o : Obj) (es : Array (Int × Value)) (ep : Nat) (t : SetTable) : Prop where
  at_ : h.get? a = some o
  ex : o.ExactSet
  dt : o.data = .set es ep t
  row : ∀ e ∈ es.toList, TxRow w e
  nd : (es.toList.map txOf).Nodup
  mem : ∀ x, T x = true ↔ x ∈ es.toList.map txOf
  few : es.size < scanBound
  fit : t.fits es.size = true
  cnt : es.size = n
  ris : Ris t.place.toList
  led : w.params.followText "set-order" = true ∨ t.led = true
/-- the set of texts at a: its members, how many they are -/
def STx (w : World) (h : Heap) (a : Addr) (T : Str → Bool) (n : Nat) : Prop := ∃ o es ep t, STr w h a T n o es ep t
section
variable {P : Program} {w : World} {A : Around} {E : Value → Shared → Prop} {s : Shared} {h h' : Heap} {a : Addr} {T : Str → Bool} {n : Nat}
theorem STx.keep (R : STx w h a T n) (k : ∀ o, h.get? a = some o → h'.get? a = some o) : STx w h' a T n := by
  obtain ⟨o, es, ep, t, r⟩ := R
  exact ⟨o, es, ep, t, { r with at_ := k o r.at_ }⟩
theorem STx.like {T' : Str → Bool} {m : Nat} (R : STx w h a T n) (e : ∀ x, T' x = T x) (hm : m = n) : STx w h a T' m := by
  have q : T' = T := funext e
  rw [q, hm]
  exact R
theorem tx_elems {l : List (Int × Value)} (g : ∀ e ∈ l, TxRow w e) : ElemsOf (PySem.strKind P w) l := by
  intro e he
  obtain ⟨z, t, h1, h2⟩ := g e he
  refine ⟨⟨z, ?_, h2⟩, ?_⟩
  · rw [h1]
    exact strKind_is _ _ _ _
  · rw [h1] <;> rfl
theorem tx_is {e : Int × Value} (g : TxRow w e) (x : Str) : (PySem.strKind P w).is x e.2 = true ↔ txOf e = x := by
  obtain ⟨z, t, h1, _⟩ := g
  unfold txOf
  rw [h1]
  constructor
  · intro q
    have q' : Value.isStrOf x (.str z t) = true := q
    obtain ⟨t', q2⟩ := Value.isStrOf_shape q'
    injection q2
  · intro q
    have q' : z = x := q
    rw [q']
    exact strKind_is _ _ _ _
theorem tx_mem {l : List (Int × Value)} (g : ∀ e ∈ l, TxRow w e) (x : Str) : x ∈ l.map txOf ↔ ∃ e ∈ l, (PySem.strKind P w).is x e.2 = true := by
  rw [List.mem_map]
  exact ⟨fun ⟨e, he, q⟩ => ⟨e, he, (tx_is (g e he) x).mpr q⟩, fun ⟨e, he, q⟩ => ⟨e, he, (tx_is (g e he) x).mp q⟩⟩
theorem tx_put {h0 : Heap} {o : Obj} {es es' : Array (Int × Value)} {ep : Nat} {t t' : SetTable} (ho : h0.get? a = some o) (hd : o.data = .set es ep t) : (h0.update a (Obj.putSet es' t')).get? a = some { o with data := .set es' (ep + 1) t' } := L2.store_at ho hd
/-- the end of an add: the rows stored, the table laid anew if it is full -/
theorem stx_tail {g : Bool → Sem Unit} (hg : ∀ (b : Bool) (z : Shared) (Z : Unit → Shared → Prop), Z () z → wpAny (model P w) A (g b) Z E z) {o : Obj} {es ys : Array (Int × Value)} {ep : Nat} {t u : SetTable} {U : Str → Bool} (ho : s.heap.get? a = some o) (ex : o.ExactSet) (hd : o.data = .set es ep t)
    (g1 : ∀ e ∈ ys.toList, TxRow w e) (g2 : (ys.toList.map txOf).Nodup) (g3 : ∀ x, U x = true ↔ x ∈ ys.toList.map txOf) (g4 : ys.size < scanBound) (g5 : u.fits ys.size = true) (g6 : Ris u.place.toList) (g7 : w.params.followText "set-order" = true ∨ u.led = true) {wd : Bool} {Z : Option Bool → Shared → Prop}
    (k : ∀ h', Heap.SameBut a s.heap h' → STx w h' a U ys.size → Z (some true) { s with heap := h' }) :
    wpAny (model P w) A (do
      storeSet a ys u
      if (!wd && u.tooFull) = true then do
          g (relayAll u ys (SetTable.grown ys.size)).2.2
          storeSet a (relayAll u ys (SetTable.grown ys.size)).1 (relayAll u ys (SetTable.grown ys.size)).2.1
          pure (some true)
        else pure (some true)) Z E s := by
  have b1 := Heap.SameBut.update s.heap a (Obj.putSet ys u)
  have ho1 := tx_put (es' := ys) (t' := u) ho hd
  refine wpAny_bind (wpAny_storeSet_of ho hd ?_ (fits_of_scanBound g4))
  split
  · have y1 := relayAll_perm u ys (SetTable.grown ys.size)
    have y2 := relayAll_fits u ys (SetTable.grown ys.size)
    have y3 := L2.relayAll_ris u ys (SetTable.grown ys.size)
    have y4 := L2.relayAll_led u ys (SetTable.grown ys.size)
    generalize relayAll u ys (SetTable.grown ys.size) = N at y1 y2 y3 y4 ⊢
    obtain ⟨zs, v, gave⟩ := N
    dsimp only at y1 y2 y3 y4 ⊢
    have es2 : zs.size = ys.size := by
      have q := y1.length_eq
      rw [Array.length_toList, Array.length_toList] at q
      exact q
    have few2 : zs.size < scanBound := by omega
    refine wpAny_bind (hg _ _ _ (wpAny_bind (wpAny_storeSet_of ho1 rfl ?_ (fits_of_scanBound few2))))
    refine wpAny_pure (k _ (b1.trans (Heap.SameBut.update _ a _)) ⟨_, zs, _, v, tx_put (es' := zs) (t' := v) ho1 rfl, ex, rfl, fun e he => g1 e (y1.mem_iff.mp he), (y1.map txOf).nodup_iff.mpr g2, fun x => (g3 x).trans (y1.map txOf).mem_iff.symm, few2, y2, es2, y3, ?_⟩)
    exact g7.imp id fun q => y4.trans q
  · exact wpAny_pure (k _ b1 ⟨_, ys, _, u, ho1, ex, rfl, g1, g2, g3, g4, g5, rfl, g6, g7⟩)
theorem stx_add {x : Str} {tk : Tok} {Q : Bool → Shared → Prop} (R : STx w s.heap a T n) (room : n + 1 < scanBound) (k : ∀ h', Heap.SameBut a s.heap h' → STx w h' a (fun y => T y || decide (y = x)) (if T x = true then n else n + 1) → Q (!T x) { s with heap := h' }) :
    wpAny (model P w) A (setAddHashed a (.str x tk) ((PySem.strKind P w).hash x)) Q E s := by
  obtain ⟨o, es, ep, t, r⟩ := R
  have ix : (PySem.strKind P w).is x (.str x tk) = true := strKind_is _ _ _ _
  have sc : (Value.str x tk).scannable = true := rfl
  have el : ElemsOf (PySem.strKind P w) es.toList := tx_elems r.row
  unfold setAddHashed setAddHashedIn
  refine wpAny_holding (wpAny_bind (wpAny_setState_of r.at_ r.dt r.fit ?_))
  dsimp only
  rw [byScan_of sc r.few el]
  simp only [↓reduceIte]
  unfold setAddByScan
  refine wpAny_bind (wpAny_bind (wpAny_rule (wpAny_bind (wpAny_setScan_of ix r.at_ r.dt r.fit el ?_))))
  cases q : List.findIdx? (fun e => (PySem.strKind P w).is x e.2) es.toList with
  | some j =>
    dsimp only
    obtain ⟨hj, pj, _⟩ := List.findIdx?_eq_some_iff_getElem.mp q
    have hx : T x = true := (r.mem x).mpr ((tx_mem (P := P) r.row x).mpr ⟨_, List.getElem_mem hj, pj⟩)
    have z := k s.heap (Heap.SameBut.refl a s.heap) ⟨o, es, ep, t, { r with
      mem := fun y => by
        rw [Bool.or_eq_true, decide_eq_true_eq, ← r.mem y]
        constructor
        · rintro (c | rfl)
          · exact c
          · exact hx
        · exact Or.inl
      cnt := by rw [if_pos hx]; exact r.cnt }⟩
    rw [hx] at z
    exact wpAny_pure (wpAny_pure z)
  | none =>
    dsimp only
    have nx : x ∉ es.toList.map txOf := fun c => by
      obtain ⟨e, he, c1⟩ := (tx_mem (P := P) r.row x).mp c
      have c2 := List.findIdx?_eq_none_iff.mp q e he
      rw [c1] at c2
      cases c2
    have hx : T x = false := by
      cases c : T x with
      | false => rfl
      | true => exact absurd ((r.mem x).mp c) nx
    have gw : ∀ (b : Bool) {z : Shared} {Z : Unit → Shared → Prop}, Z () z → wpAny (model P w) A (match b with | true => rule "set.scan.the-table-gave-way" | false => pure ()) Z E z := by
      intro b z Z c
      cases b <;> first | exact wpAny_pure c | exact wpAny_rule c
    have y1 := layNew_perm t es ((PySem.strKind P w).hash x) (.str x tk)
    have y2 := layNew_fits t es ((PySem.strKind P w).hash x) (.str x tk)
    have y3 := L2.layNew_ris t es ((PySem.strKind P w).hash x) (.str x tk) r.ris
    have y4 := L2.layNew_led t es ((PySem.strKind P w).hash x) (.str x tk)
    generalize layNew t es ((PySem.strKind P w).hash x) (.str x tk) = N at y1 y2 y3 y4 ⊢
    obtain ⟨ys, u, wd, gave⟩ := N
    dsimp only at y1 y2 y3 y4 ⊢
    rw [Array.toList_push] at y1
    have pc : ys.toList.Perm (((PySem.strKind P w).hash x, Value.str x tk) :: es.toList) := y1.trans (List.perm_append_singleton _ _)
    have pk : (ys.toList.map txOf).Perm (x :: es.toList.map txOf) := pc.map txOf
    have sz : ys.size = n + 1 := by
      have c := pc.length_eq
      rw [List.length_cons, Array.length_toList, Array.length_toList, r.cnt] at c
      exact c
    have few : ys.size < scanBound := by omega
    have row : ∀ e ∈ ys.toList, TxRow w e := fun e he => by
      rcases List.mem_cons.mp (pc.mem_iff.mp he) with c | c
      · exact ⟨x, tk, by rw [c], by rw [c]; rfl⟩
      · exact r.row e c
    have nd : (ys.toList.map txOf).Nodup := pk.nodup_iff.mpr (List.nodup_cons.mpr ⟨nx, r.nd⟩)
    have mem : ∀ y, (T y || decide (y = x)) = true ↔ y ∈ ys.toList.map txOf := fun y => by
      rw [pk.mem_iff, List.mem_cons, Bool.or_eq_true, decide_eq_true_eq, r.mem y]
      exact Or.comm
    have led : w.params.followText "set-order" = true ∨ u.led = true := r.led.imp id fun c => y4.trans c
    have fin : ∀ h', Heap.SameBut a s.heap h' → STx w h' a (fun y => T y || decide (y = x)) ys.size → Q true { s with heap := h' } := fun h' sb c => by
      have z := k h' sb
      rw [hx] at z
      rw [sz] at c
      exact z c
    refine wpAny_bind (gw _ ?_)
    split
    · rw [hashByValue_scannable 8 sc]
      refine wpAny_bind (wpAny_pure ?_)
      refine stx_tail ?_ r.at_ r.ex r.dt row nd mem few ?_ ?_ ?_ ?_
      · intro b z Z c; cases b <;> first | exact wpAny_pure c | exact wpAny_rule c
      · first | (split <;> first | exact y2 | exact SetTable.fits_plain_off y2) | exact y2
      · first | (split <;> exact y3) | exact y3
      · first | (split <;> exact led) | exact led
      · intro h' sb c; dsimp only; exact wpAny_pure (fin h' sb c)
    · refine wpAny_bind (wpAny_pure ?_)
      simp only [↓reduceIte]
      refine stx_tail ?_ r.at_ r.ex r.dt row nd mem few y2 y3 led ?_
      · intro b z Z c; cases b <;> first | exact wpAny_pure c | exact wpAny_rule c
      · intro h' sb c; dsimp only; exact wpAny_pure (fin h' sb c)
theorem stx_none {o : Addr} (e : h.get? o = some { cls := .type "set", dict := none, data := .set #[] 0 (.fresh 0 0 (!w.params.followText "set-order")) }) : STx w h o (fun _ => false) 0 := by
  refine ⟨_, #[], 0, _, e, ⟨rfl, rfl, rfl⟩, rfl, fun e he => (by simp at he), (by simp), fun x => (by simp), (by decide), (by rfl), rfl, List.Pairwise.nil, ?_⟩
  show _ ∨ (!w.params.followText "set-order") = true
  cases w.params.followText "set-order" <;> simp
theorem snoc_ind {α : Type} {motive : List α → Prop} (h0 : motive []) (h1 : ∀ r x, motive r → motive (r ++ [x])) (l : List α) : motive l := by
  rw [← List.reverse_reverse l]
  induction l.reverse with
  | nil => exact h0
  | cons x r ih =>
    rw [List.reverse_cons]
    exact h1 _ _ ih
/-- the unlike ones of a list of texts, in turn -/
def dedT (xs : List Str) : List Str := xs.foldl (fun acc x => if x ∈ acc then acc else acc ++ [x]) []
theorem ded_snoc {xs : List Str} {x : Str} : dedT (xs ++ [x]) = if x ∈ dedT xs then dedT xs else dedT xs ++ [x] := by
  unfold dedT
  rw [List.foldl_append]
  rfl
theorem ded_mem (xs : List Str) (y : Str) : y ∈ dedT xs ↔ y ∈ xs := by
  induction xs using snoc_ind with
  | h0 => exact Iff.rfl
  | h1 r x ih =>
    rw [ded_snoc, List.mem_append, List.mem_singleton]
    split
    · rename_i hx
      constructor
      · exact fun q => .inl (ih.mp q)
      · rintro (q | rfl)
        · exact ih.mpr q
        · exact hx
    · rw [List.mem_append, List.mem_singleton, ih]
theorem ded_nodup (xs : List Str) : (dedT xs).Nodup := by
  induction xs using snoc_ind with
  | h0 => exact List.nodup_nil
  | h1 r x ih =>
    rw [ded_snoc]
    split
    · exact ih
    · rename_i hx
      exact nodup_snoc ih hx
theorem ded_len (xs : List Str) : (dedT xs).length ≤ xs.length := by
  induction xs using snoc_ind with
  | h0 => exact Nat.le_refl _
  | h1 r x ih =>
    rw [ded_snoc, List.length_append, List.length_singleton]
    split
    · omega
    · rw [List.length_append, List.length_singleton]
      omega
theorem ded_self {xs : List Str} (h : xs.Nodup) : dedT xs = xs := by
  induction xs using snoc_ind with
  | h0 => rfl
  | h1 r x ih =>
    rw [List.nodup_append] at h
    have hx : x ∉ r := fun z => h.2.2 x z x (by simp) rfl
    rw [ded_snoc, ih h.1, if_neg hx]
/-- all of a list put in -/
theorem stx_loop {I : Addr} {fp wr : List Addr} {G : Array GenState → Array GenState → Prop} {m : Nat} {Pv : Nat → Value → Prop} {St : Nat → Shared → Prop} {Z : Result → Shared → Prop} (W : WalksS P w A.in1 I fp wr G m Pv St) (D : Addr) (hD : D ∉ fp) (xs : List Str) (hm : m = xs.length) (few : xs.length + 1 < scanBound) (val : ∀ i v, Pv i v → ∃ z t, xs[i]? = some z ∧ v = .str z t) :
    ∀ (j i : Nat) (s : Shared), m - i = j → i ≤ m → St i s → STx w s.heap D (fun y => decide (y ∈ xs.take i)) (dedT (xs.take i)).length → (∀ s', Moved (D :: wr) G s s' → STx w s'.heap D (fun y => decide (y ∈ xs)) (dedT xs).length → Z (.ok (.ret .none)) s') →
      codeAny (model P w) A (.builtin "set.update.loop" ⟨[.ref D, .ref I], []⟩) Z s := by
  have out : D ∉ wr := fun q => hD (W.sub _ q)
  have more : ∀ b ∈ wr, b ∈ D :: wr := fun b q => List.mem_cons_of_mem _ q
  intro j
  induction j with
  | zero =>
    intro i s hj hi hst hS k
    obtain rfl : i = m := by omega
    refine codeAny_builtin PyProof.Rows.F.entry_set_update_loop ?_
    rw [Around.under_plainId PyProof.Rows.F.plain_set_update_loop _]
    show wpAny _ A.in1 (pyNext (.ref I) >>= _) _ _ s
    refine wpAny_bind (W.done s _ _ hst fun s' mv => ?_)
    show wpAny _ A.in1 (ret Value.none) _ _ s'
    rw [List.take_of_length_le (by omega)] at hS
    exact wpAny_pure (k s' (mv.mono more) (hS.keep fun o e => mv.heap D o out e))
  | succ j ih =>
    intro i s hj hi hst hS k
    refine codeAny_builtin PyProof.Rows.F.entry_set_update_loop ?_
    rw [Around.under_plainId PyProof.Rows.F.plain_set_update_loop _]
    show wpAny _ A.in1 (pyNext (.ref I) >>= _) _ _ s
    refine wpAny_bind (W.item i s _ _ (by omega) hst fun v s' hP hst' mv => ?_)
    obtain ⟨z, t, hz, rfl⟩ := val i v hP
    have hS' := hS.keep fun o e => mv.heap D o out e
    show wpAny _ A.in1 (holding [Value.str z t] (setAdd D (.str z t)) >>= _) _ _ s'
    refine wpAny_bind (wpAny_holding ?_)
    unfold setAdd
    refine wpAny_holding (wpAny_bind ((PySem.strKind P w).pyHash (k := z) (strKind_is _ _ _ _) ?_))
    have cnt := ded_len (xs.take i)
    rw [List.length_take] at cnt
    refine stx_add (s := { s' with toks := s'.toks + 1 }) hS' (by omega) fun h' sb hS2 => ?_
    have hS3 : STx w h' D (fun y => decide (y ∈ xs.take (i + 1))) (dedT (xs.take (i + 1))).length := hS2.like (fun y => by
      rw [take_snoc hz]
      simp [List.mem_append]) (by
      rw [take_snoc hz, ded_snoc]
      by_cases c : z ∈ xs.take i
      · rw [if_pos ((ded_mem _ _).mpr c), if_pos (decide_eq_true c)]
      · rw [if_neg (fun q => c ((ded_mem _ _).mp q)), if_neg (by rw [decide_eq_false c]; exact Bool.false_ne_true), List.length_append]
        rfl)
    refine wpAny_pure ⟨plainId_quiet PyProof.Rows.F.plain_set_update_loop _, ih (i + 1) _ (by omega) (by omega) (W.frame _ s' _ _ hst' (Nat.le_succ _) fun b hb o e => ?_) hS3 fun s'' mv2 hS4 => ?_⟩
    · rw [sb.2 b (fun q : b = D => hD (q ▸ hb))]
      exact e
    · refine k s'' (Moved.trans W.gtrans ((mv.mono more).then_heap (Nat.le_succ _) fun b o hb e => ?_) mv2) hS4
      rw [sb.2 b (fun q : b = D => hb (by rw [q]; exact List.mem_cons_self))]
      exact e
end
end B

set_option Elab.async false
set_option linter.all false
set_option maxRecDepth 100000
set_option maxHeartbeats 4000000
namespace B
open PySem PySem.Spec PyProof.Rows L2
section
variable {P : Program} {w : World} {A : Around} {E : Value → Shared → Prop} {s : Shared}
abbrev noneSet (w : World) : Obj := { cls := .type "set", dict := none, data := .set #[] 0 (.fresh 0 0 (!w.params.followText "set-order")) }
theorem txt_at : ∀ {us : List Value} {xs : List Str}, StrsAre us xs → ∀ (i : Nat) (v : Value), us[i]? = some v → ∃ z t, xs[i]? = some z ∧ v = .str z t
  | _, _, .nil, i, v, h => by simp at h
  | _, _, .cons z t r, 0, v, h => by
    rw [List.getElem?_cons_zero] at h
    exact ⟨z, t, rfl, (Option.some.inj h).symm⟩
  | _, _, .cons z t r, i + 1, v, h => by
    rw [List.getElem?_cons_succ] at h
    obtain ⟨y, u, h1, h2⟩ := txt_at r i v h
    exact ⟨y, u, by rw [List.getElem?_cons_succ]; exact h1, h2⟩
/-- set(list of texts) -/
theorem stx_of {l : Addr} {items : Array Value} (xs : List Str) {Q : Value → Shared → Prop} (hh : A.handled = none) (hl : s.heap.IsList l items) (hit : StrsAre items.toList xs) (few : xs.length + 1 < scanBound)
    (k : ∀ (h' : Heap) (tk : Nat), STx w h' s.heap.objs.size (fun y => decide (y ∈ xs)) (dedT xs).length → (∀ b o, s.heap.get? b = some o → h'.get? b = some o) → Q (.ref s.heap.objs.size) { s with heap := h', toks := tk }) :
    wpAny (model P w) A (call (.type "set") [.ref l]) Q E s := by
  have sz : items.size = xs.length := by
    have q := StrsAre.len_eq hit
    rw [Array.length_toList] at q
    exact q
  have made := PySem.F.called_set.made
  have sub := PySem.F.called_set.sub
  obtain ⟨c, tl, mro⟩ := PySem.F.called_set.mro
  refine wpAny_call (codeAny_of_tree ?_)
  show wpAny _ _ (callAny (.type "set") _) _ _ _
  refine wpAny_pure ⟨Code.quiet_builtin _ (by decide +kernel), codeAny_builtin PySem.F.entry_type_call ?_⟩
  rw [Around.under_plain (weight_type_call_type "set" [.ref l] []) rfl]
  have y1 := PySem.F.called_set.notType
  have y2 := PySem.F.called_set.canCreate
  have y3 := PySem.F.typeCall_set_1 (.ref l)
  repeat (any_goals (first | assumption | wp_step))
  refine codeAny_mono (L2.code_set_led1 (.ref l) (E := E) (Q₁ := fun v z => v = .ref s.heap.objs.size ∧ z = { s with heap := s.heap.push (noneSet w) }) ⟨rfl, rfl⟩) fun r z hr => ?_
  cases r with
  | error e => exact hr
  | ok fl =>
    cases fl with
    | ret v =>
      obtain ⟨rfl, rfl⟩ := hr
      have g0 : (s.heap.push (noneSet w)).get? s.heap.objs.size = some (noneSet w) := Heap.get?_push_size _ rfl
      have ty : Shared.TypeIs { s with heap := s.heap.push (noneSet w) } (.ref s.heap.objs.size) "set" := ⟨_, g0, rfl⟩
      have y4 := PySem.F.called_set.init.lookup
      have y5 := PySem.F.called_set.init.bind (.ref s.heap.objs.size)
      repeat (any_goals (first | assumption | wp_step))
      refine codeAny_mono (codeAny_call_builtin (R := wants (fun r u => r = .none ∧ ∃ h' tk, u = { s with heap := h', toks := tk } ∧ STx w h' s.heap.objs.size (fun y => decide (y ∈ xs)) (dedT xs).length ∧ ∀ b o, s.heap.get? b = some o → h'.get? b = some o) E) PySem.F.called_set.init.plain PySem.F.entry_set_init (check_set_init_1 ty ?_)) fun r2 u hr2 => ?_
      · obtain ⟨⟨ocls, odict, odata, oslots⟩, ol, hcl, nl, hdl⟩ := hl
        simp only at hcl hdl
        subst hcl hdl
        have ol2 : (s.heap.push (noneSet w)).get? l = some { cls := .type "list", dict := odict, data := .seq items nl, slots := oslots } := Heap.get?_push_of_some _ ol
        have y6 := PySem.F.sub_list_set
        have y7 := PySem.F.sub_list_frozenset
        have y8 : (Value.type "list" == Value.type "dict") = false := by decide
        have li : (s.heap.push (noneSet w)).IsList l items := ⟨_, ol2, rfl, nl, rfl⟩
        unfold Builtin.«set.__init__» noKeywords Builtin.Frozenset.updateFrom
        generalize hI : pyIter = itr
        wp_walk
        subst hI
        refine wpAny_pyIter_list li (wpAny_bind (wpAny_runValue ?_))
        have lt : l < s.heap.objs.size := Heap.lt_size ol
        have nI : l ≠ (s.heap.push (noneSet w)).objs.size := by
          rw [Heap.size_push]
          exact Nat.ne_of_lt (Nat.lt_succ_of_lt lt)
        have nS : s.heap.objs.size ∉ [(s.heap.push (noneSet w)).objs.size, l] := by
          rw [Heap.size_push, List.mem_cons, List.mem_singleton, not_or]
          exact ⟨Nat.ne_of_lt (Nat.lt_succ_self _), Nat.ne_of_gt lt⟩
        have val : ∀ (i : Nat) (v : Value), items[i]? = some v → ∃ z t, xs[i]? = some z ∧ v = .str z t := fun i v hv => by
          exact txt_at hit i v (by rw [Array.getElem?_toList]; exact hv)
        refine stx_loop ((Walks.list (show A.in1.in1.in1.handled = none by simp [hh]) _ l nI items).toS) s.heap.objs.size nS xs sz few val (items.size - 0) 0 _ (by omega) (Nat.zero_le _) ⟨⟨_, Heap.get?_push_size _ rfl, rfl, rfl⟩, (li.push _)⟩ ?first ?after
        case first => exact (stx_none (Heap.get?_push_of_some _ g0)).like (fun y => by simp) rfl
        case after =>
          intro z mv hS
          obtain ⟨h', g2, d', tk', os'⟩ := z
          obtain rfl : g2 = s.gens := mv.gens
          obtain rfl : d' = s.drawn := mv.drawn
          obtain rfl : os' = s.os := mv.os
          show wpAny _ _ _ _ _ _
          refine wpAny_pure ?_
          show wpAny _ _ (ret Value.none) _ _ _
          refine wpAny_pure ⟨rfl, h', tk', rfl, hS, fun b o e => ?_⟩
          have b0 : b < s.heap.objs.size := Heap.lt_size e
          refine mv.heap b o (fun q => ?_) (Heap.get?_push_of_some _ (Heap.get?_push_of_some _ e))
          rcases List.mem_cons.mp q with q | q
          · exact absurd b0 (by rw [q]; exact Nat.lt_irrefl _)
          · rw [List.mem_singleton, Heap.size_push] at q
            exact absurd b0 (by rw [q]; exact Nat.not_lt_of_le (Nat.le_succ _))
      · cases r2 with
        | error e => exact hr2
        | ok fl2 =>
          cases fl2 with
          | ret r =>
            obtain ⟨rfl, h', tk, rfl, hS, hk⟩ := hr2
            repeat (any_goals (first | assumption | wp_step))
            exact k _ _ hS hk
          | _ => exact hr2.elim
    | _ => exact hr.elim
theorem tx_strs : ∀ (l : List (Int × Value)), (∀ e ∈ l, TxRow w e) → StrsAre (l.map (·.2)) (l.map txOf)
  | [], _ => .nil
  | e :: r, h => by
    obtain ⟨z, t, h1, _⟩ := h e List.mem_cons_self
    have q := tx_strs r fun d hd => h d (List.mem_cons_of_mem _ hd)
    rw [List.map_cons, List.map_cons]
    have e1 : txOf e = z := by unfold txOf; rw [h1]
    rw [e1, h1]
    exact .cons z t q
def txtOf (v : Value) : Str := match v with
  | .str z _ => z
  | _ => Str.empty
theorem strs_txt : ∀ {us : List Value} {xs : List Str}, StrsAre us xs → us.map txtOf = xs
  | _, _, .nil => rfl
  | _, _, .cons z t h => by rw [List.map_cons, strs_txt h]; rfl
theorem strs_all : ∀ (us : List Value), (∀ v ∈ us, ∃ z t, v = Value.str z t) → StrsAre us (us.map txtOf)
  | [], _ => .nil
  | v :: r, h => by
    obtain ⟨z, t, rfl⟩ := h v List.mem_cons_self
    exact .cons z t (strs_all r fun u hu => h u (List.mem_cons_of_mem _ hu))
/-- sorted(set of texts) -/
theorem stx_sorted {a : Addr} {T : Str → Bool} {n : Nat} {Q : Value → Shared → Prop} (R : STx w s.heap a T n) (hh : A.handled = none)
    (k : ∀ s' p (out : Array Value) (c : Nat) (ys : List Str), (∀ b o, s.heap.get? b = some o → s'.heap.get? b = some o) → s'.gens = s.gens → s'.os = s.os → s.heap.objs.size ≤ p → s'.heap.get? p = some (seqObj "list" out c) → StrsAre out.toList ys → sortedS ys = true → ys.Nodup → (∀ y, y ∈ ys ↔ T y = true) → ys.length = n → Q (.ref p) s') :
    wpAny (model P w) A (call (.builtin "sorted") [.ref a]) Q E s := by
  obtain ⟨o, es, ep, t, r⟩ := R
  have fw := fits_of_scanBound r.few
  refine Calls.call_function_entry kind_sorted plain_sorted entry_sorted (args_sorted1 _) ?_
  unfold Builtin.«sorted»
  refine wpAny_bind (m := checkCount "sorted" 1 1 _) (wpAny_pure (wpAny_bind (L2.collect_set (A := A.in1) hh ⟨o, r.at_, r.ex.1, r.dt⟩ r.fit r.few r.ris r.led fun s1 vs k1 hz g1 o1 pm => ?_)))
  have vl : vs.length = es.size := by rw [pm.length_eq, List.length_map, Array.length_toList]
  have st := tx_strs es.toList r.row
  have sv : StrsAre vs (vs.map txtOf) := strs_all vs fun v hv => by
    obtain ⟨e, he, q⟩ := List.mem_map.mp (pm.mem_iff.mp hv)
    obtain ⟨z, t, h1, _⟩ := r.row e he
    exact ⟨z, t, by rw [← q]; exact h1⟩
  have pk : (vs.map txtOf).Perm (es.toList.map txOf) := by
    have q := pm.map txtOf
    rw [strs_txt st] at q
    exact q
  refine wpAny_bind (wpAny_newList ?_ (by rw [vl]; exact fw))
  have oL : (s1.heap.push (seqObj "list" vs.toArray 0)).get? s1.heap.objs.size = some (seqObj "list" vs.toArray 0) := Heap.get?_push_size _ rfl
  refine wpAny_bind (wpAny_holding (wpAny_call_entry slot_list_sort ⟨_, oL, rfl⟩ entry_list_sort (list_sort_treeKAny strKind_oneLt oL sv.keysOf (fun v₁ v₂ rest e => keyKind_strs (by rw [← e]; exact sv)) (by rw [vl]; exact fw) fun st' hp hs => ⟨_, rfl, ?_⟩) (args_list_sort _)))
  obtain ⟨ys, h1, h2, h3⟩ := sorted_out_str sv hp hs
  obtain ⟨c, hc⟩ := sortedHeap_at (vs := vs) (out := (arrOf st').map (·.2)) oL
  have py := h2.trans pk
  refine wpAny_pure ⟨_, rfl, k _ s1.heap.objs.size _ c ys (fun b u e => ?_) g1 o1 hz hc h1 h3 (py.nodup_iff.mpr r.nd) (fun y => by rw [py.mem_iff, ← r.mem y]) ?_⟩
  · have q := k1 b u e
    have lt := Heap.lt_size q
    show (sortedHeap (s1.heap.push (seqObj "list" vs.toArray 0)) s1.heap.objs.size vs _).get? b = some u
    rw [sortedHeap_old (Nat.ne_of_lt lt) (by rw [size_push']; exact Nat.lt_succ_of_lt lt)]
    exact Heap.get?_push_of_some _ q
  · rw [py.length_eq, List.length_map, Array.length_toList]
    exact r.cnt
end
/-! ### over the layer -/
def StxO (w : World) (a : Addr) (T : Str → Bool) (n : Nat) : HO := .ext fun h => STx w h a T n
theorem stxO_ok {w : World} {P : Program} {H : Hp} {h : Heap} {a : Addr} {T : Str → Bool} {n : Nat} (R : STx w h a T n) : ObjOk P w H h a (StxO w a T n) := by
  have ⟨o, _, _, _, r⟩ := R
  exact ⟨R, ⟨o, r.at_⟩, fun h1 h2 p k => STx.keep p k⟩
section
variable {X : Cx}
def rSetTx (K : PySem.W.Frag) (w : World) : List V → Hp → VK → Prop := fun xs H Q => ∃ (l : Addr) (zs : List Str), xs = [V.ref l] ∧ SqL K H l (zs.map V.str) ∧ zs.length + 1 < scanBound ∧ ∀ a, H a = none → Q (.ref a) (upd H a (StxO w a (fun y => decide (y ∈ zs)) (dedT zs).length))
theorem cr_setTx (hc : X.calm = true) : CallR X (.type "set") (rSetTx X.K X.w) := by
  intro pins s σ H xs us Q I r h
  obtain ⟨l, zs, rfl, hl, hf, q⟩ := h
  rw [Vals.ref1 r]
  obtain ⟨its, rv, pl, hz⟩ := I.list hl
  have hn : H s.heap.objs.size = none := I.hok.fresh (Nat.le_refl _)
  refine stx_of (P := X.prog) (w := X.w) zs (I.ok.hd hc) pl.isList (by simpa using rv.strs) hf fun h' tk R k => ?_
  exact ⟨.ref s.heap.objs.size, upd H s.heap.objs.size (StxO X.w s.heap.objs.size (fun y => decide (y ∈ zs)) (dedT zs).length), I.laid (t' := tk) k (Nat.le_refl _) (stxO_ok R), rfl, q _ hn⟩
def rSortedTx (w : World) : List V → Hp → VK → Prop := fun vs H Q => ∃ (a : Addr) (T : Str → Bool) (n : Nat), vs = [V.ref a] ∧ H a = some (StxO w a T n) ∧
  ∀ (ys : List Str) (p : Addr), sortedS ys = true → ys.Nodup → (∀ y, y ∈ ys ↔ T y = true) → ys.length = n → H p = none → Q (.ref p) (upd H p (.lst (ys.map V.str)))
theorem cr_sortedTx (hc : X.calm = true) : CallR X (.builtin "sorted") (rSortedTx X.w) := by
  intro pins s σ H vs us Q I r h
  obtain ⟨a, T, n, rfl, ha, q⟩ := h
  have R : STx X.w s.heap a T n := (I.hok a _ ha).1
  rw [Vals.ref1 r]
  obtain ⟨o0, es0, ep0, t0, r0⟩ := id R
  have fw := fits_of_scanBound r0.few
  refine stx_sorted R (I.ok.hd hc) fun s' p out c ys k g o hp hg hi hs hn hm hl => ?_
  have len : (ys.map V.str).length ≤ sizeLine := by
    rw [List.length_map, hl, ← r0.cnt]
    exact fw
  have fresh : H p = none := I.hok.fresh hp
  have J : Inv X pins σ (upd H p (.lst (ys.map V.str))) { s with heap := s'.heap, gens := s'.gens, drawn := s'.drawn, toks := s'.toks } :=
    I.call (ch := []) (Un.laid k hp fresh) (I.hok.laid k hp ⟨len, out.toList, c, vals_of_strs hi, hg⟩) (by rw [g]; exact I.bare) (fun _ z => nomatch z)
  have e : s' = { s with heap := s'.heap, gens := s'.gens, drawn := s'.drawn, toks := s'.toks } := by
    cases s'
    cases s
    cases o
    rfl
  rw [e]
  exact ⟨.ref p, _, J, rfl, q ys p hs hn hm hl fresh⟩
def rLenTx (w : World) : List V → Hp → VK → Prop := fun vs H Q => ∃ (a : Addr) (T : Str → Bool) (n : Nat), vs = [V.ref a] ∧ H a = some (StxO w a T n) ∧ Q (.int (n : Nat)) H
theorem call_lenTx : CallR X (.builtin "len") (rLenTx X.w) := by
  intro pins s σ H vs us Q I r h
  obtain ⟨a, T, n, rfl, ha, q⟩ := h
  obtain ⟨o, es, ep, t, r0⟩ := (show STx X.w s.heap a T n from (I.hok a _ ha).1)
  rw [Vals.ref1 r]
  have fw := fits_of_scanBound r0.few
  rw [sizeLine_eq] at fw
  refine PySem.call_len_set r0.at_ r0.ex r0.dt r0.fit (by omega) ?_
  rw [r0.cnt]
  exact ⟨.int ((n : Nat) : Int), H, I.tok _, ⟨_, rfl⟩, q⟩
end
end B

set_option Elab.async false
set_option linter.all false
set_option maxRecDepth 100000
set_option maxHeartbeats 4000000
namespace B
open PySem PySem.Spec PyProof.Rows L2
/-! ### a set of texts of two clauses without tests -/
abbrev SC2 (e t0 i0 t1 i1 : Expr) (sc : Scope) (po : Pos) : Expr := .SetComp e [⟨t0, i0, [], 0⟩, ⟨t1, i1, [], 0⟩] sc po
section
variable {P : Program} {w : World} {A : Around} {E : Value → Shared → Prop} {s : Shared} {a : Addr} {T : Str → Bool} {n : Nat}
theorem stx_call {x : Str} {tk : Tok} {Q : Value → Shared → Prop} (R : STx w s.heap a T n) (room : n + 1 < scanBound) (k : ∀ h', Heap.SameBut a s.heap h' → STx w h' a (fun y => T y || decide (y = x)) (if T x = true then n else n + 1) → Q .none { s with heap := h', toks := s.toks + 1 }) :
    wpAny (model P w) A (call (.builtin "set.add") [.ref a, .str x tk]) Q E s := by
  obtain ⟨o, es, ep, t, r⟩ := id R
  refine wpAny_call_entry PySem.F.slot_set_add ⟨o, r.at_, r.ex.1⟩ PySem.F.entry_set_add ?_ (PySem.F.args_set_add_2 _ _)
  unfold Builtin.«set.add» Builtin.Frozenset.oneOther Builtin.Frozenset.addrOf setAdd
  simp only [List.isEmpty_nil, bind_assoc]
  refine wpAny_bind (wpAny_pure ?_)
  refine wpAny_bind (wpAny_pure (wpAny_bind (wpAny_holding (wpAny_bind ((PySem.strKind P w).pyHash (k := x) (strKind_is _ _ _ _) ?_)))))
  exact stx_add (s := { s with toks := s.toks + 1 }) R room fun h' sb z => wpAny_pure ⟨_, rfl, k h' sb z⟩
theorem turn_first (e t0 i0 t1 i1 : Expr) (sc : Scope) (po : Pos) (I D : Value) (en : Env) :
    compTurn (SC2 e t0 i0 t1 i1 sc po) 0 I D en = (do
      standAt i0.pos
      match ← pyNext I with
      | none => pure (.done .next)
      | some v => do
        letOwnedTupleGo t0 I v
        assign t0 en v
        let x ← eval i1 en
        standAt i1.pos
        let y ← foldedSetIterable i1 en x
        let _ ← runOwn (.compStart (SC2 e t0 i0 t1 i1 sc po) 1 (← holding [y] (pyIter y)) D en) en
        again (.compLoop (SC2 e t0 i0 t1 i1 sc po) 0 I D en)) := by rfl
theorem turn_second (e t0 i0 t1 i1 : Expr) (sc : Scope) (po : Pos) (I D : Value) (en : Env) :
    compTurn (SC2 e t0 i0 t1 i1 sc po) 1 I D en = (do
      standAt i1.pos
      match ← pyNext I with
      | none => pure (.done .next)
      | some v => do
        letOwnedTupleGo t1 I v
        assign t1 en v
        (do let y ← eval e en; standAt e.pos; let _ ← call (.builtin "set.add") [D, y])
        again (.compLoop (SC2 e t0 i0 t1 i1 sc po) 1 I D en)) := by rfl
end
theorem st2_start {e t0 i0 t1 i1 : Expr} {sc : Scope} {po : Pos} {I D : Value} {en : Env} {P : Program} {w : World} {A : Around} {R : Result → Shared → Prop} {s : Shared} (go : codeAny (model P w) A (.compLoop (SC2 e t0 i0 t1 i1 sc po) 1 I D en) R s)
    (it : wpAny (model P w) A (pyIter I) (fun J s' => codeAny (model P w) A (.compLoop (SC2 e t0 i0 t1 i1 sc po) 1 J D en) R s') (notedBy (model P w) A en fun x s' => R (.error x) s') s) :
    codeAny (model P w) A (.compStart (SC2 e t0 i0 t1 i1 sc po) 1 I D en) R s := by
  refine codeAny_of_tree ?_
  show wpAny _ _ ((compStart (SC2 e t0 i0 t1 i1 sc po) 1 I D en).onRaise (fun x => do noteFrame x en; standAt theWindowsPlace)) _ _ s
  refine wpAny_notedAt ?_
  unfold compStart; show wpAny _ _ (ask >>= _) _ _ s
  refine wpAny_bind (wpAny_askSetting (wpAny_ite ?_))
  split
  · first | exact wpAny_bind (wpAny_pure (wpAny_pure (And.intro rfl go))) | exact wpAny_pure (And.intro rfl go)
  · refine wpAny_bind (wpAny_rule ?_)
    show wpAny _ _ (standAt i1.pos >>= _) _ _ s
    exact wpAny_bind (wpAny_standAt (wpAny_bind (wpAny_mono it (fun J s' h' => wpAny_pure (And.intro rfl h')) fun _ _ x => x)))
/-- what it comes to: D the new set, Nx the first loop's next turn, Ny the second's -/
def tSt2 (w : World) (wa : TI) (ga : TG) (wb : TI) (gb : TG) (te : TE) (va vb : List Nat) : TE := fun σ H Q => wa σ H fun J H1 => ∀ D, H1 D = none → ∃ W : Nat → Nat → Hp → Prop, (∃ m, W 0 m (upd H1 D (StxO w D (fun _ => false) 0))) ∧ ∀ i m H, W i m H →
  (J.stop i H ∧ Q (.ref D) H) ∨ (J.go i H ∧ ∃ Nx : Hp → Prop, (∀ H', Nx H' → ∃ m', m' < m ∧ W (i + 1) m' H') ∧ ∀ x H', J.yld i H x H' → ga x (wipe σ va) H' fun τ H2 => wipe τ va = wipe σ va ∧ wb τ H2 fun L H4 => ∃ U : Nat → Nat → Hp → Prop, (∃ m, U 0 m H4) ∧ ∀ j k H, U j k H →
    (L.stop j H ∧ Nx H) ∨ (L.go j H ∧ ∃ Ny : Hp → Prop, (∀ H', Ny H' → ∃ k', k' < k ∧ U (j + 1) k' H') ∧ ∀ x H', L.yld j H x H' → gb x (wipe τ vb) H' fun υ H5 => wipe υ vb = wipe τ vb ∧ te υ H5 fun y H7 =>
      ∃ (z : Str) (T : Str → Bool) (n : Nat), y = .str z ∧ H7 D = some (StxO w D T n) ∧ n + 1 < scanBound ∧ Ny (upd H7 D (StxO w D (fun y => T y || decide (y = z)) (if T z = true then n else n + 1)))))
section
variable {X : Cx}
/-- one text more, over the layer -/
theorem stx_put {pins : List (Addr × Obj)} {σ : L2.St} {H : Hp} {s : Shared} {E : Value → Shared → Prop} {D : Addr} {T : Str → Bool} {n : Nat} {x : Str} {v : Value} {Q : Value → Shared → Prop} (I : Inv X pins σ H s) (e : H D = some (StxO X.w D T n)) (room : n + 1 < scanBound) (rv : RelV (.str x) v)
    (k : ∀ s', Inv X pins σ (upd H D (StxO X.w D (fun y => T y || decide (y = x)) (if T x = true then n else n + 1))) s' → Q .none s') : wpAny (model X.prog X.w) X.A (call (.builtin "set.add") [.ref D, v]) Q E s := by
  obtain ⟨tk, rfl⟩ := rv
  refine stx_call (I.hok D _ e).1 room fun h' sb z => k _ ?_
  have ⟨o, _, _, _, r⟩ := id z
  exact I.write (e := D) (t' := s.toks + 1) (by rw [e]; trivial) (.inl rfl) (fun b u hb hu => (sb.2 b hb).trans hu) ⟨o, r.at_⟩ (stxO_ok z)
abbrev InBlk (X : Cx) (sc : Scope) (own : List (Str × Nat)) (p : Cx → Prop) : Prop := ∀ (s : Shared) (H : Hp) (C : Addr) (cl : List (Str × Addr)) (fp : List Addr), p (X.blk s H sc (compEnvC sc cl C X.env) fp)
theorem pe_st2 {e t0 i0 t1 i1 : Expr} {sc : Scope} {own : List (Str × Nat)} {vb : List Nat} {po : Pos} {wa wb : TI} {ga gb : TG} {te : TE} (calm : X.calm = true) (nn : X.N.Nodup) (p0 : PI X t0 i0 wa) (ok : BlkOk X.N X.env.scope sc own) (sub : ∀ i ∈ vb, i ∈ own.map (·.2))
    (q0 : InBlk X sc own fun Y => PG Y t0 ga) (p1 : InBlk X sc own fun Y => PI Y t1 i1 wb) (q1 : InBlk X sc own fun Y => PG Y t1 gb) (pv : InBlk X sc own fun Y => PE Y e te) (f0 : ∀ x, foldedSetIterable i0 X.env x = pure x := by intro _; rfl) (f1 : ∀ en x, foldedSetIterable i1 en x = pure x := by intro _ _; rfl) :
    PE X (SC2 e t0 i0 t1 i1 sc po) (tSt2 X.w wa ga wb gb te (own.map (·.2)) vb) := by
  refine ⟨fun pins s σ H Q I h => ?_⟩
  rw [show eval (SC2 e t0 i0 t1 i1 sc po) X.env = _ from PpSet.eval_SetComp _ _ _ _]
  have fr : ∀ y ∈ sc.names, y.2 = .free → ∃ c, X.env.cells.lookup y.1 = some c := fun y hy z => (ok.free y hy z).elim (fun k => I.ok.has _ (.inl k)) fun k => I.ok.has _ (.inr k)
  refine wpAny_comprehension_free (use := none) rfl f0 (closure_ok fr) ok.kind (fun y hy z => by rw [ok.uniq y hy, z]) (thn (p0.run pins s σ H _ I h) fun x1 s1 h1 => thn h1 fun x2 s2 h2 => ?_)
  obtain ⟨it, fp, tn, J, H2, rfl, I2, TR, st2, fo, q⟩ := h2
  refine PpSet.newSet_ok (newEnv_comp ?_)
  generalize hD : s2.heap.objs.size = D
  have dn : H2 D = none := I2.hok.fresh (Nat.le_of_eq hD)
  obtain ⟨W, ⟨m0, w0⟩, turn⟩ := q D dn
  generalize hs3 : ({ s2 with heap := s2.heap.push (noneSet X.w) } : Shared) = s3
  have e3 : s3.heap = s2.heap.push (noneSet X.w) := by rw [← hs3]
  generalize hH3 : upd H2 D (StxO X.w D (fun _ => false) 0) = H3 at w0
  have I3 : Inv X pins σ H3 s3 := by
    rw [← hs3, ← hH3]
    refine I2.laid (t' := s2.toks) (fun b o z => Heap.get?_push_of_some _ z) (Nat.le_of_eq hD) (stxO_ok (stx_none ?_))
    exact hD ▸ Heap.get?_push_size _ rfl
  have lt : ∀ b ∈ fp, b < s2.heap.objs.size := fun b hb => let ⟨o, z, _⟩ := TR.obj _ _ st2 b hb; Heap.lt_size z
  have f3 : ∀ b ∈ fp, FpOk X pins H3 b ∧ b < s3.heap.objs.size := fun b hb => ⟨⟨by rw [← hH3, upd_ne (by rw [← hD]; exact Nat.ne_of_lt (lt b hb))]; exact (fo b hb).1, (fo b hb).2⟩, by rw [e3, Heap.size_push]; exact Nat.lt_succ_of_lt (lt b hb)⟩
  have st3 : tn 0 s3.heap := TR.keep _ _ _ st2 fun b _ o z => by rw [e3, Heap.get?_push_of_some _ z]
  have I4 := block_start I3 ok nn f3
  have b0 := q0 s3 H3 s3.heap.objs.size (cellsFrom (s3.heap.objs.size + 1) sc.names (cloFrom X.env.cells sc.names [])) fp
  have b1 := p1 s3 H3 s3.heap.objs.size (cellsFrom (s3.heap.objs.size + 1) sc.names (cloFrom X.env.cells sc.names [])) fp
  have b2 := q1 s3 H3 s3.heap.objs.size (cellsFrom (s3.heap.objs.size + 1) sc.names (cloFrom X.env.cells sc.names [])) fp
  have b3 := pv s3 H3 s3.heap.objs.size (cellsFrom (s3.heap.objs.size + 1) sc.names (cloFrom X.env.cells sc.names [])) fp
  show codeAny _ _ (.compStart (SC2 e t0 i0 t1 i1 sc po) 0 (.ref it) (.ref D) (compEnvC sc (cellsFrom (s3.heap.objs.size + 1) sc.names (cloFrom X.env.cells sc.names [])) s3.heap.objs.size X.env)) (compPost (model X.prog X.w) X.A X.xe none _ (.ref D) s3.heap.objs.size) { s3 with heap := pushCells (s3.heap.push { cls := .type "dict", data := .dict #[] }) sc.names }
  have nf : ∀ b ∈ fp, H3 b = none := fun b hb => (f3 b hb).1.1
  generalize hce : compEnvC sc (cellsFrom (s3.heap.objs.size + 1) sc.names (cloFrom X.env.cells sc.names [])) s3.heap.objs.size X.env = ce at I4 b0 b1 b2 b3 ⊢
  have ec : ce.locals = s3.heap.objs.size := by rw [← hce]; rfl
  generalize hs4 : ({ s3 with heap := pushCells (s3.heap.push { cls := .type "dict", data := .dict #[] }) sc.names } : Shared) = s4 at I4 ⊢
  have st4 : tn 0 s4.heap := TR.keep _ _ _ st3 fun b _ o z => by rw [← hs4]; exact pushCells_keeps _ _ _ _ (Heap.get?_push_of_some _ z)
  have own0 : ∀ {τ : L2.St} {H' : Hp} {s' : Shared}, Inv (X.blk s3 H3 sc ce fp) [] τ H' s' → (∀ b ∈ fp, H' b = none) → ∀ b ∈ fp, FpOk (X.blk s3 H3 sc ce fp) [] H' b := fun {τ H' s'} I' hn b hb =>
    ⟨hn b hb, (I'.ok.exf b hb).1, I'.ok.exfs b hb, .inl hb, fun x c z => (I'.ok.exf b hb).2 x c z, fun p hp => absurd (show p ∈ ([] : List (Addr × Obj)) ++ [] from hp) (by simp)⟩
  generalize hR : compPost (model X.prog X.w) X.A X.xe none _ (.ref D) s3.heap.objs.size = R
  have loop : codeAny (model X.prog X.w) X.A (.compLoop (SC2 e t0 i0 t1 i1 sc po) 0 (.ref it) (.ref D) ce) R s4 := by
    refine codeAny_loop rfl (fun n s' => ∃ i H', Inv (X.blk s3 H3 sc ce fp) [] (wipe σ (own.map (·.2))) H' s' ∧ tn i s'.heap ∧ (∀ b ∈ fp, H' b = none) ∧ W i n H') ?_ m0 ⟨0, H3, I4, st4, nf, w0⟩
    rintro n s5 ⟨i, H5, I5, st5, n5, w5⟩
    show wpAny _ X.A ((compTurn (SC2 e t0 i0 t1 i1 sc po) 0 (.ref it) (.ref D) ce).onRaise (fun x => do noteFrame x ce; theTreesLotGoes x)) _ _ s5
    rw [turn_first]
    refine wpAny_noted (wpAny_bind (wpAny_standAt (wpAny_bind ?_)))
    rcases turn i n H5 w5 with ⟨stop, qq⟩ | ⟨go, Nx, hNx, step⟩
    · refine thnF (TR.done (X.blk s3 H3 sc ce fp) rfl rfl rfl calm i [] s5 _ H5 (fun _ _ => False) I5 (own0 I5 n5) st5 stop) fun r s6 ⟨hr, I6⟩ => ?_
      subst hr
      rw [← hR]
      have I7 : Inv X pins σ H5 s6 := I3.call' (ch := fp) I6.os I6.base I6.hok I6.bare fun b hb => let z := (f3 b hb).1; ⟨z.2.2.2.1, z.2.1, z.2.2.2.2.1, z.2.2.2.2.2⟩
      have fr0 : H5 ce.locals = none := I6.free
      rw [ec] at fr0
      obtain ⟨m, hm, _⟩ := I6.loc
      have hm : s6.heap.Ns ce.locals m := hm
      rw [ec] at hm
      obtain ⟨c0, c1, c2, c3, c4, c5⟩ := I3.fpOk (Nat.le_refl _) fr0
      refine wpAny_pure ⟨m, hm, fun h'' sb => ?_⟩
      exact ⟨.ref D, H5, I7.turned (t' := s6.toks) (fun b o hb z => (sb.2 b hb).trans z) c0 c1 c3 c4 c5, rfl, qq⟩
    · refine thnF (TR.item (X.blk s3 H3 sc ce fp) rfl rfl rfl calm i [] s5 _ H5 (fun _ _ => False) I5 (own0 I5 n5) st5 go) fun r s6 ⟨u, hr, h6⟩ => ?_
      subst hr
      refine wpAny_bind (thnF h6 fun _ s7 ⟨x, H7, I7, r7, y7, st7, n7⟩ => ?_)
      have I8 := I7.pinned (own0 I7 n7) (TR.obj _ _ st7)
      refine wpAny_bind (thnF (b0.run _ s7 _ H7 x u _ I8 r7 (step x H7 y7)) fun _ s8 ⟨τ, H8, I9, hw, g8⟩ => ?_)
      have len8 : (wipe σ (own.map (·.2))).length = τ.length := by rw [← hw, wipe_length]
      refine wpAny_bind (thnF (b1.run _ s8 τ H8 _ I9 g8) fun xv s10 hx => ?_)
      refine wpAny_bind (wpAny_standAt (wpAny_bind (wpAny_of_eq (f1 ce xv) (wpAny_bind (wpAny_holding (thnF hx fun itv s11 h11 => ?_))))))
      refine wpAny_bind (wpAny_runOwn ?_)
      rw [Around.mark_none]
      obtain ⟨jt, fq, tm, L, H11, rfl, I11, TL, st11, fo1, U, ⟨k0, u0⟩, turn1⟩ := h11
      have keep9 : ∀ (j : Nat) v, (wipe σ (own.map (·.2)))[j]? = some (some v) → (wipe τ vb)[j]? = some (some v) := fun j v z => by
        rw [← hw] at z
        obtain ⟨z1, z2⟩ := wipe_some z
        rw [wipe_out fun y => z2 (sub j y)]
        exact z1
      have own1 : ∀ {H' : Hp}, (∀ b ∈ fq, H' b = none) → ∀ b ∈ fq, FpOk (X.blk s3 H3 sc ce fp) ([] ++ pinsAt fp s7.heap) H' b := fun hn b hb => ⟨hn b hb, (fo1 b hb).2⟩
      have mid : codeAny (model X.prog X.w) X.A (.compLoop (SC2 e t0 i0 t1 i1 sc po) 1 (.ref jt) (.ref D) ce) (fun r s' => match r with
          | .ok _ => ∃ m, m < n ∧ ∃ i H', Inv (X.blk s3 H3 sc ce fp) [] (wipe σ (own.map (·.2))) H' s' ∧ tn i s'.heap ∧ (∀ b ∈ fp, H' b = none) ∧ W i m H'
          | .error _ => False) s11 := by
        refine codeAny_loop rfl (fun k s' => ∃ j H', Inv (X.blk s3 H3 sc ce fp) ([] ++ pinsAt fp s7.heap) (wipe τ vb) H' s' ∧ tm j s'.heap ∧ (∀ b ∈ fq, H' b = none) ∧ U j k H') ?_ k0 ⟨0, H11, I11.weak (wipe_length _ _) (fun j v z => (wipe_some z).1), st11, fun b hb => (fo1 b hb).1, u0⟩
        rintro k s12 ⟨j, H12, I12, st12, n12, u12⟩
        show wpAny _ X.A ((compTurn (SC2 e t0 i0 t1 i1 sc po) 1 (.ref jt) (.ref D) ce).onRaise (fun x => do noteFrame x ce; theTreesLotGoes x)) _ _ s12
        rw [turn_second]
        refine wpAny_noted (wpAny_bind (wpAny_standAt (wpAny_bind ?_)))
        rcases turn1 j k H12 u12 with ⟨stop1, nx⟩ | ⟨go1, Ny, hNy, step1⟩
        · refine thnF (TL.done (X.blk s3 H3 sc ce fp) rfl rfl rfl calm j _ s12 (wipe τ vb) H12 (fun _ _ => False) I12 (own1 n12) st12 stop1) fun r s13 ⟨hr, I13⟩ => ?_
          subst hr
          obtain ⟨m', lm, w'⟩ := hNx _ nx
          have pins' : ∀ b ∈ fp, ∀ o, s7.heap.get? b = some o → s13.heap.get? b = some o ∧ H12 b = none := fun b hb o z => let y := I13.pin (b, o) (List.mem_append_right _ (List.mem_append_right _ (mem_pinsAt hb z))); ⟨y.1, y.2.1⟩
          refine wpAny_pure ⟨m', lm, i + 1, H12, (I13.unpinned (pins := [])).weak (len8.trans (wipe_length τ vb).symm) keep9, TR.keep _ _ _ st7 fun b hb o z => (pins' b hb o z).1, fun b hb => ?_, w'⟩
          exact let ⟨o, z, _⟩ := TR.obj _ _ st7 b hb; (pins' b hb o z).2
        · refine thnF (TL.item (X.blk s3 H3 sc ce fp) rfl rfl rfl calm j _ s12 (wipe τ vb) H12 (fun _ _ => False) I12 (own1 n12) st12 go1) fun r s13 ⟨u1, hr, h13⟩ => ?_
          subst hr
          refine wpAny_bind (thnF h13 fun _ s14 ⟨x1, H14, I14, r14, y14, st14, n14⟩ => ?_)
          have I15 := I14.pinned (own1 n14) (TL.obj _ _ st14)
          refine wpAny_bind (thnF (b2.run _ s14 (wipe τ vb) H14 x1 u1 _ I15 r14 (step1 x1 H14 y14)) fun _ s15 ⟨υ, H15, I16, hw1, g15⟩ => ?_)
          refine wpAny_bind (wpAny_bind (thnF (b3.run _ s15 υ H15 _ I16 g15) fun z s17 ⟨yv, H17, I17, r17, zx, T, nT, ey, d17, room, nx⟩ => ?_))
          subst ey
          refine wpAny_bind (wpAny_standAt (wpAny_bind (stx_put (X := X.blk s3 H3 sc ce fp) I17 d17 room r17 fun s18 I18 => ?_)))
          obtain ⟨k', lk, u'⟩ := hNy _ nx
          have pins' : ∀ b ∈ fq, ∀ o, s14.heap.get? b = some o → s18.heap.get? b = some o ∧ _ := fun b hb o z => let y := I18.pin (b, o) (List.mem_append_right _ (List.mem_append_right _ (mem_pinsAt hb z))); ⟨y.1, y.2.1⟩
          refine wpAny_pure (wpAny_pure ⟨rfl, k', lk, j + 1, _, I18.unpinned.weak (by rw [← hw1, wipe_length]) (fun j v z => (wipe_some (hw1.symm ▸ z)).1), TL.keep _ _ _ st14 fun b hb o z => (pins' b hb o z).1, fun b hb => ?_, u'⟩)
          exact let ⟨o, z, _⟩ := TL.obj _ _ st14 b hb; (pins' b hb o z).2
      refine codeAny_mono (st2_start mid (TL.self X.A 0 _ _ _ st11 mid)) fun r s' hr => ?_
      cases r with
      | ok f => exact wpAny_bind (wpAny_pure (wpAny_pure ⟨rfl, hr⟩))
      | error z => exact hr.elim
  exact PpSet.codeAny_compStart_set loop (TR.self X.A 0 _ _ _ st4 loop)
end
/-- a walk over a list told by what holds at its turns; B: what a turn comes to -/
theorem walk_lst {K : PySem.W.Frag} {a : Addr} {xs : List V} {H0 : Hp} {Qd : Hp → Prop} {B : V → Hp → (Hp → Prop) → Prop} (Pv : Nat → Hp → Prop) (h0 : Pv 0 H0) (hl : ∀ i H, i ≤ xs.length → Pv i H → SqL K H a xs) (hs : ∀ i x H, xs[i]? = some x → Pv i H → B x H (Pv (i + 1))) (hd : ∀ H, Pv xs.length H → Qd H) :
    ∃ W : Nat → Nat → Hp → Prop, (∃ m, W 0 m H0) ∧ ∀ i m H, W i m H → ((Itl K a).stop i H ∧ Qd H) ∨ ((Itl K a).go i H ∧ ∃ Nx : Hp → Prop, (∀ H', Nx H' → ∃ m', m' < m ∧ W (i + 1) m' H') ∧ ∀ x H', (Itl K a).yld i H x H' → B x H' Nx) := by
  refine ⟨fun i m H => i + m = xs.length ∧ Pv i H, ⟨xs.length, by omega, h0⟩, fun i m H h => ?_⟩
  obtain ⟨e, p⟩ := h
  cases hx : xs[i]? with
  | none => exact .inl ⟨⟨xs, hl i H (by omega) p, List.getElem?_eq_none_iff.mp hx⟩, hd H (by rw [show xs.length = i by have := List.getElem?_eq_none_iff.mp hx; omega]; exact p)⟩
  | some x =>
    have lt := (List.getElem?_eq_some_iff.mp hx).1
    refine .inr ⟨⟨xs, x, hl i H (by omega) p, hx⟩, Pv (i + 1), fun H' p' => ⟨m - 1, by omega, by omega, p'⟩, fun y H' z => ?_⟩
    obtain ⟨rfl, z⟩ := z
    exact hs i y _ (z xs (hl i _ (by omega) p)) p
theorem walk_rng {lo : Int} {n : Nat} {H0 : Hp} {Qd : Hp → Prop} {B : V → Hp → (Hp → Prop) → Prop} (Pv : Nat → Hp → Prop) (h0 : Pv 0 H0) (hs : ∀ i H, i < n → Pv i H → B (.int (lo + i)) H (Pv (i + 1))) (hd : ∀ H, Pv n H → Qd H) :
    ∃ W : Nat → Nat → Hp → Prop, (∃ m, W 0 m H0) ∧ ∀ i m H, W i m H → ((Itr lo n).stop i H ∧ Qd H) ∨ ((Itr lo n).go i H ∧ ∃ Nx : Hp → Prop, (∀ H', Nx H' → ∃ m', m' < m ∧ W (i + 1) m' H') ∧ ∀ x H', (Itr lo n).yld i H x H' → B x H' Nx) := by
  refine ⟨fun i m H => i + m = n ∧ Pv i H, ⟨n, by omega, h0⟩, fun i m H h => ?_⟩
  obtain ⟨e, p⟩ := h
  by_cases lt : i < n
  · refine .inr ⟨lt, Pv (i + 1), fun H' p' => ⟨m - 1, by omega, by omega, p'⟩, fun y H' z => ?_⟩
    obtain ⟨rfl, rfl⟩ := z
    exact hs i _ lt p
  · exact .inl ⟨Nat.le_of_not_lt lt, hd H (by rw [show n = i by omega]; exact p)⟩
end B

set_option Elab.async false
set_option linter.all false
set_option maxRecDepth 100000
set_option maxHeartbeats 4000000
namespace B
open PySem PySem.Spec PyProof.Rows L2
/-! ### a dict of two clauses without tests -/
abbrev DC2 (kx vx t0 i0 t1 i1 : Expr) (sc : Scope) (po : Pos) : Expr := .DictComp kx vx [⟨t0, i0, [], 0⟩, ⟨t1, i1, [], 0⟩] sc po
abbrev noneD : Obj := { cls := .type "dict", data := .dict #[] }
theorem turnD_first (kx vx t0 i0 t1 i1 : Expr) (sc : Scope) (po : Pos) (I : Value) (D : Addr) (en : Env) :
    compTurn (DC2 kx vx t0 i0 t1 i1 sc po) 0 I (.ref D) en = (do
      standAt i0.pos
      match ← pyNext I with
      | none => pure (.done .next)
      | some v => do
        letOwnedTupleGo t0 I v
        assign t0 en v
        let x ← eval i1 en
        standAt i1.pos
        let y ← foldedSetIterable i1 en x
        let _ ← runOwn (.compStart (DC2 kx vx t0 i0 t1 i1 sc po) 1 (← holding [y] (pyIter y)) (.ref D) en) en
        again (.compLoop (DC2 kx vx t0 i0 t1 i1 sc po) 0 I (.ref D) en)) := by rfl
theorem turnD_second (kx vx t0 i0 t1 i1 : Expr) (sc : Scope) (po : Pos) (I : Value) (D : Addr) (en : Env) :
    compTurn (DC2 kx vx t0 i0 t1 i1 sc po) 1 I (.ref D) en = (do
      standAt i1.pos
      match ← pyNext I with
      | none => pure (.done .next)
      | some v => do
        letOwnedTupleGo t1 I v
        assign t1 en v
        (do let y ← eval kx en; let z ← holding [y] (eval vx en); standAt { kx.pos with endLine := vx.pos.endLine, endCol := vx.pos.endCol }; holding [y, z] (dictSet D y z))
        again (.compLoop (DC2 kx vx t0 i0 t1 i1 sc po) 1 I (.ref D) en)) := by rfl
theorem dc2_start {kx vx t0 i0 t1 i1 : Expr} {sc : Scope} {po : Pos} {I D : Value} {en : Env} {P : Program} {w : World} {A : Around} {R : Result → Shared → Prop} {s : Shared} (go : codeAny (model P w) A (.compLoop (DC2 kx vx t0 i0 t1 i1 sc po) 1 I D en) R s)
    (it : wpAny (model P w) A (pyIter I) (fun J s' => codeAny (model P w) A (.compLoop (DC2 kx vx t0 i0 t1 i1 sc po) 1 J D en) R s') (notedBy (model P w) A en fun x s' => R (.error x) s') s) :
    codeAny (model P w) A (.compStart (DC2 kx vx t0 i0 t1 i1 sc po) 1 I D en) R s := by
  refine codeAny_of_tree ?_
  show wpAny _ _ ((compStart (DC2 kx vx t0 i0 t1 i1 sc po) 1 I D en).onRaise (fun x => do noteFrame x en; standAt theWindowsPlace)) _ _ s
  refine wpAny_notedAt ?_
  unfold compStart; show wpAny _ _ (ask >>= _) _ _ s
  refine wpAny_bind (wpAny_askSetting (wpAny_ite ?_))
  split
  · first | exact wpAny_bind (wpAny_pure (wpAny_pure (And.intro rfl go))) | exact wpAny_pure (And.intro rfl go)
  · refine wpAny_bind (wpAny_rule ?_)
    show wpAny _ _ (standAt i1.pos >>= _) _ _ s
    exact wpAny_bind (wpAny_standAt (wpAny_bind (wpAny_mono it (fun J s' h' => wpAny_pure (And.intro rfl h')) fun _ _ x => x)))
/-- what it comes to: D the new set, Nx the first loop's next turn, Ny the second's -/
def tDc2 (wa : TI) (ga : TG) (wb : TI) (gb : TG) (tk tv : TE) (va vb : List Nat) : TE := fun σ H Q => wa σ H fun J H1 => ∀ D, H1 D = none → ∃ W : Nat → Nat → Hp → Prop, (∃ m, W 0 m (upd H1 D (.dK []))) ∧ ∀ i m H, W i m H →
  (J.stop i H ∧ Q (.ref D) H) ∨ (J.go i H ∧ ∃ Nx : Hp → Prop, (∀ H', Nx H' → ∃ m', m' < m ∧ W (i + 1) m' H') ∧ ∀ x H', J.yld i H x H' → ga x (wipe σ va) H' fun τ H2 => wipe τ va = wipe σ va ∧ wb τ H2 fun L H4 => ∃ U : Nat → Nat → Hp → Prop, (∃ m, U 0 m H4) ∧ ∀ j k H, U j k H →
    (L.stop j H ∧ Nx H) ∨ (L.go j H ∧ ∃ Ny : Hp → Prop, (∀ H', Ny H' → ∃ k', k' < k ∧ U (j + 1) k' H') ∧ ∀ x H', L.yld j H x H' → gb x (wipe τ vb) H' fun υ H5 => wipe υ vb = wipe τ vb ∧ tk υ H5 fun y H6 => tv υ H6 fun z H7 =>
      ∃ (kvs : List (Key × V)) (k : Key), y = kV k ∧ H7 D = some (.dK kvs) ∧ kvs.length < sizeLine ∧ Ny (upd H7 D (.dK (putK kvs k z)))))
section
variable {X : Cx}
theorem pe_dc2 {kx vx t0 i0 t1 i1 : Expr} {sc : Scope} {own : List (Str × Nat)} {vb : List Nat} {po : Pos} {wa wb : TI} {ga gb : TG} {tk tv : TE} (calm : X.calm = true) (nn : X.N.Nodup) (p0 : PI X t0 i0 wa) (ok : BlkOk X.N X.env.scope sc own) (sub : ∀ i ∈ vb, i ∈ own.map (·.2))
    (q0 : InBlk X sc own fun Y => PG Y t0 ga) (p1 : InBlk X sc own fun Y => PI Y t1 i1 wb) (q1 : InBlk X sc own fun Y => PG Y t1 gb) (pk : InBlk X sc own fun Y => PE Y kx tk) (pv : InBlk X sc own fun Y => PE Y vx tv) (f0 : ∀ x, foldedSetIterable i0 X.env x = pure x := by intro _; rfl) (f1 : ∀ en x, foldedSetIterable i1 en x = pure x := by intro _ _; rfl) :
    PE X (DC2 kx vx t0 i0 t1 i1 sc po) (tDc2 wa ga wb gb tk tv (own.map (·.2)) vb) := by
  refine ⟨fun pins s σ H Q I h => ?_⟩
  rw [show eval (DC2 kx vx t0 i0 t1 i1 sc po) X.env = _ from arm_eval_DictComp _ _ _ _ _ _]
  have fr : ∀ y ∈ sc.names, y.2 = .free → ∃ c, X.env.cells.lookup y.1 = some c := fun y hy z => (ok.free y hy z).elim (fun k => I.ok.has _ (.inl k)) fun k => I.ok.has _ (.inr k)
  refine wpAny_comprehension_free (use := none) rfl f0 (closure_ok fr) ok.kind (fun y hy z => by rw [ok.uniq y hy, z]) (thn (p0.run pins s σ H _ I h) fun x1 s1 h1 => thn h1 fun x2 s2 h2 => ?_)
  obtain ⟨it, fp, tn, J, H2, rfl, I2, TR, st2, fo, q⟩ := h2
  refine wpAny_newObj_type (newEnv_comp ?_)
  generalize hD : s2.heap.objs.size = D
  have dn : H2 D = none := I2.hok.fresh (Nat.le_of_eq hD)
  obtain ⟨W, ⟨m0, w0⟩, turn⟩ := q D dn
  generalize hs3 : ({ s2 with heap := s2.heap.push noneD } : Shared) = s3
  have e3 : s3.heap = s2.heap.push noneD := by rw [← hs3]
  generalize hH3 : upd H2 D (.dK []) = H3 at w0
  have I3 : Inv X pins σ H3 s3 := by
    rw [← hs3, ← hH3]
    refine I2.laid (t' := s2.toks) (fun b o z => Heap.get?_push_of_some _ z) (Nat.le_of_eq hD) ?_
    exact hD ▸ dk_empty s2.heap I2.big
  have lt : ∀ b ∈ fp, b < s2.heap.objs.size := fun b hb => let ⟨o, z, _⟩ := TR.obj _ _ st2 b hb; Heap.lt_size z
  have f3 : ∀ b ∈ fp, FpOk X pins H3 b ∧ b < s3.heap.objs.size := fun b hb => ⟨⟨by rw [← hH3, upd_ne (by rw [← hD]; exact Nat.ne_of_lt (lt b hb))]; exact (fo b hb).1, (fo b hb).2⟩, by rw [e3, Heap.size_push]; exact Nat.lt_succ_of_lt (lt b hb)⟩
  have st3 : tn 0 s3.heap := TR.keep _ _ _ st2 fun b _ o z => by rw [e3, Heap.get?_push_of_some _ z]
  have I4 := block_start I3 ok nn f3
  have b0 := q0 s3 H3 s3.heap.objs.size (cellsFrom (s3.heap.objs.size + 1) sc.names (cloFrom X.env.cells sc.names [])) fp
  have b1 := p1 s3 H3 s3.heap.objs.size (cellsFrom (s3.heap.objs.size + 1) sc.names (cloFrom X.env.cells sc.names [])) fp
  have b2 := q1 s3 H3 s3.heap.objs.size (cellsFrom (s3.heap.objs.size + 1) sc.names (cloFrom X.env.cells sc.names [])) fp
  have b4 := pk s3 H3 s3.heap.objs.size (cellsFrom (s3.heap.objs.size + 1) sc.names (cloFrom X.env.cells sc.names [])) fp
  have b3 := pv s3 H3 s3.heap.objs.size (cellsFrom (s3.heap.objs.size + 1) sc.names (cloFrom X.env.cells sc.names [])) fp
  show codeAny _ _ (.compStart (DC2 kx vx t0 i0 t1 i1 sc po) 0 (.ref it) (.ref D) (compEnvC sc (cellsFrom (s3.heap.objs.size + 1) sc.names (cloFrom X.env.cells sc.names [])) s3.heap.objs.size X.env)) (compPost (model X.prog X.w) X.A X.xe none _ (.ref D) s3.heap.objs.size) { s3 with heap := pushCells (s3.heap.push { cls := .type "dict", data := .dict #[] }) sc.names }
  have nf : ∀ b ∈ fp, H3 b = none := fun b hb => (f3 b hb).1.1
  generalize hce : compEnvC sc (cellsFrom (s3.heap.objs.size + 1) sc.names (cloFrom X.env.cells sc.names [])) s3.heap.objs.size X.env = ce at I4 b0 b1 b2 b3 b4 ⊢
  have ec : ce.locals = s3.heap.objs.size := by rw [← hce]; rfl
  generalize hs4 : ({ s3 with heap := pushCells (s3.heap.push { cls := .type "dict", data := .dict #[] }) sc.names } : Shared) = s4 at I4 ⊢
  have st4 : tn 0 s4.heap := TR.keep _ _ _ st3 fun b _ o z => by rw [← hs4]; exact pushCells_keeps _ _ _ _ (Heap.get?_push_of_some _ z)
  have own0 : ∀ {τ : L2.St} {H' : Hp} {s' : Shared}, Inv (X.blk s3 H3 sc ce fp) [] τ H' s' → (∀ b ∈ fp, H' b = none) → ∀ b ∈ fp, FpOk (X.blk s3 H3 sc ce fp) [] H' b := fun {τ H' s'} I' hn b hb =>
    ⟨hn b hb, (I'.ok.exf b hb).1, I'.ok.exfs b hb, .inl hb, fun x c z => (I'.ok.exf b hb).2 x c z, fun p hp => absurd (show p ∈ ([] : List (Addr × Obj)) ++ [] from hp) (by simp)⟩
  generalize hR : compPost (model X.prog X.w) X.A X.xe none _ (.ref D) s3.heap.objs.size = R
  have loop : codeAny (model X.prog X.w) X.A (.compLoop (DC2 kx vx t0 i0 t1 i1 sc po) 0 (.ref it) (.ref D) ce) R s4 := by
    refine codeAny_loop rfl (fun n s' => ∃ i H', Inv (X.blk s3 H3 sc ce fp) [] (wipe σ (own.map (·.2))) H' s' ∧ tn i s'.heap ∧ (∀ b ∈ fp, H' b = none) ∧ W i n H') ?_ m0 ⟨0, H3, I4, st4, nf, w0⟩
    rintro n s5 ⟨i, H5, I5, st5, n5, w5⟩
    show wpAny _ X.A ((compTurn (DC2 kx vx t0 i0 t1 i1 sc po) 0 (.ref it) (.ref D) ce).onRaise (fun x => do noteFrame x ce; theTreesLotGoes x)) _ _ s5
    rw [turnD_first]
    refine wpAny_noted (wpAny_bind (wpAny_standAt (wpAny_bind ?_)))
    rcases turn i n H5 w5 with ⟨stop, qq⟩ | ⟨go, Nx, hNx, step⟩
    · refine thnF (TR.done (X.blk s3 H3 sc ce fp) rfl rfl rfl calm i [] s5 _ H5 (fun _ _ => False) I5 (own0 I5 n5) st5 stop) fun r s6 ⟨hr, I6⟩ => ?_
      subst hr
      rw [← hR]
      have I7 : Inv X pins σ H5 s6 := I3.call' (ch := fp) I6.os I6.base I6.hok I6.bare fun b hb => let z := (f3 b hb).1; ⟨z.2.2.2.1, z.2.1, z.2.2.2.2.1, z.2.2.2.2.2⟩
      have fr0 : H5 ce.locals = none := I6.free
      rw [ec] at fr0
      obtain ⟨m, hm, _⟩ := I6.loc
      have hm : s6.heap.Ns ce.locals m := hm
      rw [ec] at hm
      obtain ⟨c0, c1, c2, c3, c4, c5⟩ := I3.fpOk (Nat.le_refl _) fr0
      refine wpAny_pure ⟨m, hm, fun h'' sb => ?_⟩
      exact ⟨.ref D, H5, I7.turned (t' := s6.toks) (fun b o hb z => (sb.2 b hb).trans z) c0 c1 c3 c4 c5, rfl, qq⟩
    · refine thnF (TR.item (X.blk s3 H3 sc ce fp) rfl rfl rfl calm i [] s5 _ H5 (fun _ _ => False) I5 (own0 I5 n5) st5 go) fun r s6 ⟨u, hr, h6⟩ => ?_
      subst hr
      refine wpAny_bind (thnF h6 fun _ s7 ⟨x, H7, I7, r7, y7, st7, n7⟩ => ?_)
      have I8 := I7.pinned (own0 I7 n7) (TR.obj _ _ st7)
      refine wpAny_bind (thnF (b0.run _ s7 _ H7 x u _ I8 r7 (step x H7 y7)) fun _ s8 ⟨τ, H8, I9, hw, g8⟩ => ?_)
      have len8 : (wipe σ (own.map (·.2))).length = τ.length := by rw [← hw, wipe_length]
      refine wpAny_bind (thnF (b1.run _ s8 τ H8 _ I9 g8) fun xv s10 hx => ?_)
      refine wpAny_bind (wpAny_standAt (wpAny_bind (wpAny_of_eq (f1 ce xv) (wpAny_bind (wpAny_holding (thnF hx fun itv s11 h11 => ?_))))))
      refine wpAny_bind (wpAny_runOwn ?_)
      rw [Around.mark_none]
      obtain ⟨jt, fq, tm, L, H11, rfl, I11, TL, st11, fo1, U, ⟨k0, u0⟩, turn1⟩ := h11
      have keep9 : ∀ (j : Nat) v, (wipe σ (own.map (·.2)))[j]? = some (some v) → (wipe τ vb)[j]? = some (some v) := fun j v z => by
        rw [← hw] at z
        obtain ⟨z1, z2⟩ := wipe_some z
        rw [wipe_out fun y => z2 (sub j y)]
        exact z1
      have own1 : ∀ {H' : Hp}, (∀ b ∈ fq, H' b = none) → ∀ b ∈ fq, FpOk (X.blk s3 H3 sc ce fp) ([] ++ pinsAt fp s7.heap) H' b := fun hn b hb => ⟨hn b hb, (fo1 b hb).2⟩
      have mid : codeAny (model X.prog X.w) X.A (.compLoop (DC2 kx vx t0 i0 t1 i1 sc po) 1 (.ref jt) (.ref D) ce) (fun r s' => match r with
          | .ok _ => ∃ m, m < n ∧ ∃ i H', Inv (X.blk s3 H3 sc ce fp) [] (wipe σ (own.map (·.2))) H' s' ∧ tn i s'.heap ∧ (∀ b ∈ fp, H' b = none) ∧ W i m H'
          | .error _ => False) s11 := by
        refine codeAny_loop rfl (fun k s' => ∃ j H', Inv (X.blk s3 H3 sc ce fp) ([] ++ pinsAt fp s7.heap) (wipe τ vb) H' s' ∧ tm j s'.heap ∧ (∀ b ∈ fq, H' b = none) ∧ U j k H') ?_ k0 ⟨0, H11, I11.weak (wipe_length _ _) (fun j v z => (wipe_some z).1), st11, fun b hb => (fo1 b hb).1, u0⟩
        rintro k s12 ⟨j, H12, I12, st12, n12, u12⟩
        show wpAny _ X.A ((compTurn (DC2 kx vx t0 i0 t1 i1 sc po) 1 (.ref jt) (.ref D) ce).onRaise (fun x => do noteFrame x ce; theTreesLotGoes x)) _ _ s12
        rw [turnD_second]
        refine wpAny_noted (wpAny_bind (wpAny_standAt (wpAny_bind ?_)))
        rcases turn1 j k H12 u12 with ⟨stop1, nx⟩ | ⟨go1, Ny, hNy, step1⟩
        · refine thnF (TL.done (X.blk s3 H3 sc ce fp) rfl rfl rfl calm j _ s12 (wipe τ vb) H12 (fun _ _ => False) I12 (own1 n12) st12 stop1) fun r s13 ⟨hr, I13⟩ => ?_
          subst hr
          obtain ⟨m', lm, w'⟩ := hNx _ nx
          have pins' : ∀ b ∈ fp, ∀ o, s7.heap.get? b = some o → s13.heap.get? b = some o ∧ H12 b = none := fun b hb o z => let y := I13.pin (b, o) (List.mem_append_right _ (List.mem_append_right _ (mem_pinsAt hb z))); ⟨y.1, y.2.1⟩
          refine wpAny_pure ⟨m', lm, i + 1, H12, (I13.unpinned (pins := [])).weak (len8.trans (wipe_length τ vb).symm) keep9, TR.keep _ _ _ st7 fun b hb o z => (pins' b hb o z).1, fun b hb => ?_, w'⟩
          exact let ⟨o, z, _⟩ := TR.obj _ _ st7 b hb; (pins' b hb o z).2
        · refine thnF (TL.item (X.blk s3 H3 sc ce fp) rfl rfl rfl calm j _ s12 (wipe τ vb) H12 (fun _ _ => False) I12 (own1 n12) st12 go1) fun r s13 ⟨u1, hr, h13⟩ => ?_
          subst hr
          refine wpAny_bind (thnF h13 fun _ s14 ⟨x1, H14, I14, r14, y14, st14, n14⟩ => ?_)
          have I15 := I14.pinned (own1 n14) (TL.obj _ _ st14)
          refine wpAny_bind (thnF (b2.run _ s14 (wipe τ vb) H14 x1 u1 _ I15 r14 (step1 x1 H14 y14)) fun _ s15 ⟨υ, H15, I16, hw1, g15⟩ => ?_)
          refine wpAny_bind (wpAny_bind (thnF (b4.run _ s15 υ H15 _ I16 g15) fun z s16 ⟨yk, H16, J16, r16, g16⟩ => ?_))
          refine wpAny_bind (wpAny_holding (thnF (b3.run _ s16 υ H16 _ J16 g16) fun z2 s17 ⟨yv, H17, I17, r17, kvs, kk, ey, d17, room, nx⟩ => ?_))
          subst ey
          refine wpAny_bind (wpAny_standAt (wpAny_holding (d_dictSet (X := X.blk s3 H3 sc ce fp) I17 d17 room r16 r17 fun s18 I18 => ?_)))
          obtain ⟨k', lk, u'⟩ := hNy _ nx
          have pins' : ∀ b ∈ fq, ∀ o, s14.heap.get? b = some o → s18.heap.get? b = some o ∧ _ := fun b hb o z => let y := I18.pin (b, o) (List.mem_append_right _ (List.mem_append_right _ (mem_pinsAt hb z))); ⟨y.1, y.2.1⟩
          refine wpAny_pure ⟨rfl, k', lk, j + 1, _, I18.unpinned.weak (by rw [← hw1, wipe_length]) (fun j v z => (wipe_some (hw1.symm ▸ z)).1), TL.keep _ _ _ st14 fun b hb o z => (pins' b hb o z).1, fun b hb => ?_, u'⟩
          exact let ⟨o, z, _⟩ := TL.obj _ _ st14 b hb; (pins' b hb o z).2
      refine codeAny_mono (dc2_start mid (TL.self X.A 0 _ _ _ st11 mid)) fun r s' hr => ?_
      cases r with
      | ok f => exact wpAny_bind (wpAny_pure (wpAny_pure ⟨rfl, hr⟩))
      | error z => exact hr.elim
  exact codeAny_compStart_dict loop (TR.self X.A 0 _ _ _ st4 loop)
end
end B

set_option Elab.async false
set_option linter.all false
set_option maxRecDepth 100000
set_option maxHeartbeats 4000000
namespace B
open PySem PySem.Spec PyProof.Rows L2
open SX (S)
/-! ### what a walk has still to go to, and what it has behind it -/
/-- all with the one beginning stand ahead of all with the other -/
def LtP (p q : List Nat) : Prop := ∃ c u v, p = c ++ 48 :: u ∧ q = c ++ 49 :: v
theorem LtP.extL {p q a : List Nat} (h : LtP p q) : LtP (p ++ a) q := by
  obtain ⟨c, u, v, rfl, rfl⟩ := h
  exact ⟨c, u ++ a, v, by simp, rfl⟩
theorem LtP.extR {p q a : List Nat} (h : LtP p q) : LtP p (q ++ a) := by
  obtain ⟨c, u, v, rfl, rfl⟩ := h
  exact ⟨c, u, v ++ a, rfl, by simp⟩
theorem LtP.nilL {q : List Nat} : ¬ LtP [] q := by
  rintro ⟨c, u, v, h, _⟩
  cases c <;> cases h
theorem LtP.nilR {p : List Nat} : ¬ LtP p [] := by
  rintro ⟨c, u, v, _, h⟩
  cases c <;> cases h
theorem LtP.ne {p q : List Nat} (h : LtP p q) : p ≠ q := by
  obtain ⟨c, u, v, rfl, rfl⟩ := h
  intro e
  have := List.append_cancel_left e
  cases this
theorem LtP.split (l : List Nat) : LtP (l ++ [48]) (l ++ [49]) := ⟨l, [], [], rfl, rfl⟩
theorem starts_at {p : List Nat} {x : Str} (h : starts p x = true) {i : Nat} (hi : i < p.length) : x.cps.toList[i]? = p[i]? := by
  have e := of_decide_eq_true h
  have := congrArg (fun z : List Nat => z[i]?) e
  rw [List.getElem?_take_of_lt hi] at this
  exact this
theorem LtP.no {p q : List Nat} {x : Str} (h : LtP p q) (h1 : starts p x = true) (h2 : starts q x = true) : False := by
  obtain ⟨c, u, v, rfl, rfl⟩ := h
  have e1 := starts_at h1 (i := c.length) (by simp)
  have e2 := starts_at h2 (i := c.length) (by simp)
  rw [e1] at e2
  simp at e2
theorem starts_ext {l a : List Nat} {x : Str} (h : starts (l ++ a) x = true) : starts l x = true := by
  have e := of_decide_eq_true h
  refine decide_eq_true ?_
  have := congrArg (List.take l.length) e
  rw [List.take_take, List.take_left, List.length_append, Nat.min_eq_left (by omega)] at this
  exact this
theorem starts_num {W : Nat} {l : List Nat} {x : Str} (h : starts l x = true) (hx : Num W x) : ∃ a, x = S (l ++ a) ∧ (l ++ a).length = W ∧ Bits (l ++ a) := by
  obtain ⟨m, rfl, e, b⟩ := hx
  have z := of_decide_eq_true h
  rw [S_list] at z
  have em : l ++ m.drop l.length = m := by
    have := List.take_append_drop l.length m
    rw [z] at this
    exact this
  exact ⟨m.drop l.length, by rw [em], by rw [em]; exact e, by rw [em]; exact b⟩
theorem starts_full {W : Nat} {l : List Nat} {x : Str} (h : starts l x = true) (hx : Num W x) (hl : l.length = W) : x = S l := by
  obtain ⟨a, rfl, e, _⟩ := starts_num h hx
  rw [List.length_append] at e
  have : a = [] := List.length_eq_zero_iff.mp (by omega)
  rw [this, List.append_nil]
theorem starts_self {l : List Nat} : starts l (S l) = true := by
  refine decide_eq_true ?_
  rw [S_list, List.take_length]
theorem lt_app : ∀ (c : List Nat) {u v : List Nat}, c ++ 48 :: u ≤ c ++ 49 :: v
  | [], u, v => by
    rw [List.nil_append, List.nil_append, List.cons_le_cons_iff]
    exact .inl (by decide)
  | a :: c, u, v => by
    rw [List.cons_append, List.cons_append, List.cons_le_cons_iff]
    exact .inr ⟨rfl, lt_app c⟩
theorem LtP.le {p q : List Nat} (h : LtP p q) : leS (S p) (S q) := by
  obtain ⟨c, u, v, rfl, rfl⟩ := h
  unfold leS
  rw [S_list, S_list]
  exact lt_app c
/-- looked at ahead of -/
def Bef (l p : List Nat) : Prop := (∃ u, u ≠ [] ∧ p = l ++ u) ∨ LtP l p
theorem Bef.ext {l p a : List Nat} (h : Bef l p) : Bef l (p ++ a) := by
  rcases h with ⟨u, hu, rfl⟩ | h
  · exact .inl ⟨u ++ a, by simp [hu], by rw [List.append_assoc]⟩
  · exact .inr h.extR
theorem Bef.ne {l p : List Nat} (h : Bef l p) : l ≠ p := by
  rcases h with ⟨u, hu, rfl⟩ | h
  · intro e
    exact hu (List.self_eq_append_right.mp e)
  · exact h.ne
/-- where a walk goes still, the next one last -/
def pend (st : WkS) : List (List Nat) := match st.sd with
  | none => st.rest
  | some l => st.rest ++ [l]
/-- ever: all that may have been found; stay: all that must be found; cl: of each round that is over one of ever, that no other has -/
structure Wlk (ever stay : List Str) (st : WkS) (lm : List Str) (cl : List (List Nat)) : Prop where
  po : (pend st).Pairwise (fun a b => LtP b a)
  ff : st.found.Pairwise LtP
  fp : ∀ y ∈ st.found, ∀ p ∈ pend st, LtP y p
  fe : ∀ y ∈ st.found, S y ∈ ever
  pe : ∀ p ∈ pend st, p = [] ∨ ∃ x ∈ ever, starts p x = true
  pp : (st.paper.map (·.1)).Nodup
  pb : ∀ z ∈ st.paper, ∀ p ∈ pend st, Bef z.1 p
  cc : cl.Pairwise LtP
  ce : ∀ c ∈ cl, S c ∈ ever
  cp : ∀ c ∈ cl, ∀ p ∈ pend st, LtP c p
  ty : ∀ x ∈ stay, (∃ y ∈ st.found, S y = x) ∨ ∃ p ∈ pend st, starts p x = true
  tl : ∀ l, st.sd = some l → ∀ x ∈ stay, starts l x = true → x ∈ lm
  le : ∀ x ∈ lm, x ∈ ever
theorem Wlk.mono {ever stay ever' stay' : List Str} {st : WkS} {lm lm' : List Str} {cl : List (List Nat)} (h : Wlk ever stay st lm cl) (he : ∀ x ∈ ever, x ∈ ever') (hs : ∀ x ∈ stay', x ∈ stay) (hl : ∀ x ∈ lm', x ∈ lm) (ht : ∀ x ∈ stay', x ∈ lm → x ∈ lm') : Wlk ever' stay' st lm' cl := by
  obtain ⟨a1, a2, a3, a4, a5, a6, a7, a8, a9, b1, b2, b3, b4⟩ := h
  exact ⟨a1, a2, a3, fun y hy => he _ (a4 y hy), fun p hp => (a5 p hp).imp id fun ⟨x, hx, e⟩ => ⟨x, he x hx, e⟩, a6, a7, a8, fun c hc => he _ (a9 c hc), b1, fun x hx => b2 x (hs x hx), fun l e x hx hst => ht x hx (b3 l e x (hs x hx) hst), fun x hx => he x (b4 x (hl x hx))⟩
theorem wlk_new {ever stay : List Str} {kd : Str} : Wlk ever stay ⟨kd, [[]], none, [], []⟩ [] [] := by
  refine ⟨List.pairwise_singleton _ _, .nil, fun y hy => absurd hy (by simp), fun y hy => absurd hy (by simp), fun p hp => .inl (List.mem_singleton.mp hp), .nil, fun z hz => absurd hz (by simp), .nil, fun c hc => absurd hc (by simp), fun c hc => absurd hc (by simp), fun x hx => .inr ⟨[], List.mem_singleton.mpr rfl, decide_eq_true rfl⟩, fun l e => (by cases e), fun x hx => absurd hx (by simp)⟩
/-- how the claims stand to one another where something came of a round -/
def Clm (cl cl' : List (List Nat)) (st' : WkS) : Prop := cl'.length = cl.length + 1 ∨ (cl = [] ∧ cl' = [] ∧ st'.sd = none ∧ st'.rest = [] ∧ st'.found = [])
/-- what is said, complete or not -/
theorem wlk_over {W : Nat} {ever stay : List Str} {st : WkS} {l : List Nat} {lm : List Str} {cl : List (List Nat)} (h : Wlk ever stay { st with sd := some l } lm cl) (hW : 1 ≤ W) (hl : l.length ≤ W) (hev : ∀ x ∈ ever, Num W x) (hst : ∀ x ∈ stay, Num W x) :
    ∃ cl', Wlk ever stay (overF W st l).1 lm cl' ∧ ((overF W st l).2 = .no → cl' = cl) ∧ ((overF W st l).2 ≠ .no → Clm cl cl' (overF W st l).1) := by
  unfold overF
  split
  · exact ⟨cl, h, fun _ => rfl, fun z => absurd rfl z⟩
  · rename_i c
    have eW : l.length = W := by omega
    obtain ⟨a1, a2, a3, a4, a5, a6, a7, a8, a9, b1, b2, b3, b4⟩ := h
    have ep : pend { st with sd := some l } = st.rest ++ [l] := rfl
    rw [ep] at a1 a3 a5 a7 b1 b2
    have hin : l ∈ st.rest ++ [l] := by simp
    have hr : ∀ g ∈ st.rest, g ∈ st.rest ++ [l] := fun g hg => List.mem_append_left _ hg
    obtain ⟨p1, p2, p3⟩ := List.pairwise_append.mp a1
    have lne : l ≠ [] := fun e => by rw [e] at eW; simp at eW; omega
    have le : S l ∈ ever := by
      rcases a5 l hin with e | ⟨x, hx, e⟩
      · exact absurd e lne
      · rw [← starts_full e (hev x hx) eW]
        exact hx
    have lr : ∀ g ∈ st.rest, LtP l g := fun g hg => p3 g hg l (List.mem_singleton.mpr rfl)
    refine ⟨cl ++ [l], ⟨p1, List.pairwise_append.mpr ⟨a2, List.pairwise_singleton _ _, fun y hy z hz => by rw [List.mem_singleton.mp hz]; exact a3 y hy l hin⟩, fun y hy g hg => ?_, fun y hy => ?_, fun g hg => a5 g (hr g hg), a6, fun z hz g hg => a7 z hz g (hr g hg), List.pairwise_append.mpr ⟨a8, List.pairwise_singleton _ _, fun y hy z hz => by rw [List.mem_singleton.mp hz]; exact b1 y hy l hin⟩, fun c hc => ?_, fun c hc g hg => ?_, fun x hx => ?_, fun l' e => (by cases e), b4⟩, fun z => (by cases z), fun _ => .inl (by rw [List.length_append]; rfl)⟩
    · rcases List.mem_append.mp hy with z | z
      · exact a3 y z g (hr g hg)
      · rw [List.mem_singleton.mp z]
        exact lr g hg
    · rcases List.mem_append.mp hy with z | z
      · exact a4 y z
      · rw [List.mem_singleton.mp z]
        exact le
    · rcases List.mem_append.mp hc with z | z
      · exact a9 c z
      · rw [List.mem_singleton.mp z]
        exact le
    · rcases List.mem_append.mp hc with z | z
      · exact b1 c z g (hr g hg)
      · rw [List.mem_singleton.mp z]
        exact lr g hg
    · rcases b2 x hx with ⟨y, hy, e⟩ | ⟨p, hp, e⟩
      · exact .inl ⟨y, List.mem_append_left _ hy, e⟩
      · rcases List.mem_append.mp hp with z | z
        · exact .inr ⟨p, z, e⟩
        · rw [List.mem_singleton.mp z] at e
          exact .inl ⟨l, List.mem_append_right _ (by simp), (starts_full e (hst x hx) eW).symm⟩
/-- a look written down, a bit said -/
theorem wlk_bit {ever stay lm : List Str} {kd : Str} {rest found : List (List Nat)} {paper : List (List Nat × Bool × Bool)} {l : List Nat} {z o : Bool} {b : Nat} {W : Nat} {cl : List (List Nat)} (h : Wlk ever stay ⟨kd, rest, some l, found, paper⟩ lm cl) (hb : ∀ x ∈ lm, Beg W l x) (hl : l.length < W) (hst : ∀ x ∈ stay, Num W x)
    (hx : ∃ x ∈ lm, sg l.length b x = true) (hb2 : b = 48 ∨ b = 49) (only : ∀ x ∈ lm, sg l.length b x = true) : Wlk ever stay ⟨kd, rest, some (l ++ [b]), found, paper ++ [(l, z, o)]⟩ (lm.filter (sg l.length b)) cl := by
  obtain ⟨a1, a2, a3, a4, a5, a6, a7, a8, a9, b1, b2, b3, b4⟩ := h
  have ep : pend ⟨kd, rest, some l, found, paper⟩ = rest ++ [l] := rfl
  rw [ep] at a1 a3 a5 a7 b1 b2
  obtain ⟨p1, p2, p3⟩ := List.pairwise_append.mp a1
  have hin : l ∈ rest ++ [l] := by simp
  have lr : ∀ g ∈ rest, LtP l g := fun g hg => p3 g hg l (by simp)
  have to : ∀ {R : List Nat → Prop}, (∀ p ∈ rest ++ [l], R p) → (R l → R (l ++ [b])) → ∀ p ∈ rest ++ [l ++ [b]], R p := fun hR he p hp => by
    rcases List.mem_append.mp hp with q | q
    · exact hR p (List.mem_append_left _ q)
    · rw [List.mem_singleton.mp q]
      exact he (hR l hin)
  refine ⟨?_, a2, fun y hy => to (a3 y hy) fun q => q.extR, a4, to (R := fun p => p = [] ∨ ∃ x ∈ ever, starts p x = true) a5 fun _ => ?_, ?_, fun w hw => ?_, a8, a9, fun c hc => to (b1 c hc) fun q => q.extR, fun x hx => ?_, fun l' e x hx hs => ?_, fun x hx => b4 x (List.mem_filter.mp hx).1⟩
  · exact List.pairwise_append.mpr ⟨p1, List.pairwise_singleton _ _, fun g hg y hy => by rw [List.mem_singleton.mp hy]; exact (lr g hg).extL⟩
  · obtain ⟨x, hx1, hx2⟩ := hx
    refine .inr ⟨x, b4 x hx1, ?_⟩
    rw [starts_snoc, hx2, beg_st (hb x hx1)]
    rfl
  · rw [List.map_append]
    refine List.nodup_append.mpr ⟨a6, by simp, fun u hu v hv => ?_⟩
    obtain ⟨w, hw, rfl⟩ := List.mem_map.mp hu
    have hv' : v = l := by simpa using hv
    rw [hv']
    exact (a7 w hw l hin).ne
  · rcases List.mem_append.mp hw with q | q
    · exact to (a7 w q) fun z => z.ext
    · rw [List.mem_singleton.mp q]
      intro p hp
      rcases List.mem_append.mp hp with r | r
      · exact .inr (lr p r)
      · rw [List.mem_singleton.mp r]
        exact .inl ⟨[b], by simp, rfl⟩
  · rcases b2 x hx with q | ⟨p, hp, e⟩
    · exact .inl q
    · rcases List.mem_append.mp hp with r | r
      · exact .inr ⟨p, List.mem_append_left _ r, e⟩
      · rw [List.mem_singleton.mp r] at e
        refine .inr ⟨l ++ [b], List.mem_append_right _ (by simp), ?_⟩
        rw [starts_snoc, only x (b3 l rfl x hx e), e]
        rfl
  · cases e
    have := b3 l rfl x hx (starts_ext hs)
    exact List.mem_filter.mpr ⟨this, only x this⟩
/-- a look at which both are heard -/
theorem wlk_two {ever stay lm : List Str} {kd : Str} {rest found : List (List Nat)} {paper : List (List Nat × Bool × Bool)} {l : List Nat} {z o : Bool} {W : Nat} {cl : List (List Nat)} (h : Wlk ever stay ⟨kd, rest, some l, found, paper⟩ lm cl) (hb : ∀ x ∈ lm, Beg W l x) (hl : l.length < W) (hst : ∀ x ∈ stay, Num W x)
    (h0 : ∃ x ∈ lm, sg l.length 48 x = true) (h1 : ∃ x ∈ lm, sg l.length 49 x = true) : Wlk ever stay ⟨kd, rest ++ [l ++ [49]], some (l ++ [48]), found, paper ++ [(l, z, o)]⟩ (lm.filter (sg l.length 48)) cl := by
  obtain ⟨a1, a2, a3, a4, a5, a6, a7, a8, a9, b1, b2, b3, b4⟩ := h
  have ep : pend ⟨kd, rest, some l, found, paper⟩ = rest ++ [l] := rfl
  have ep' : pend ⟨kd, rest ++ [l ++ [49]], some (l ++ [48]), found, paper ++ [(l, z, o)]⟩ = rest ++ [l ++ [49]] ++ [l ++ [48]] := rfl
  rw [ep] at a1 a3 a5 a7 b1 b2
  obtain ⟨p1, p2, p3⟩ := List.pairwise_append.mp a1
  have hin : l ∈ rest ++ [l] := by simp
  have lr : ∀ g ∈ rest, LtP l g := fun g hg => p3 g hg l (by simp)
  have to : ∀ {R : List Nat → Prop}, (∀ p ∈ rest ++ [l], R p) → (R l → R (l ++ [49])) → (R l → R (l ++ [48])) → ∀ p ∈ rest ++ [l ++ [49]] ++ [l ++ [48]], R p := fun hR he he2 p hp => by
    rcases List.mem_append.mp hp with q | q
    · rcases List.mem_append.mp q with q | q
      · exact hR p (List.mem_append_left _ q)
      · rw [List.mem_singleton.mp q]
        exact he (hR l hin)
    · rw [List.mem_singleton.mp q]
      exact he2 (hR l hin)
  have ev : ∀ c, (∃ x ∈ lm, sg l.length c x = true) → ∃ x ∈ ever, starts (l ++ [c]) x = true := fun c ⟨x, hx1, hx2⟩ => ⟨x, b4 x hx1, by rw [starts_snoc, hx2, beg_st (hb x hx1)]; rfl⟩
  have bit : ∀ x ∈ stay, starts l x = true → sg l.length 48 x = true ∨ sg l.length 49 x = true := fun x hx _ => by
    obtain ⟨c, hc, g1, _⟩ := num_at (hst x hx) hl
    rcases hc with rfl | rfl
    · exact .inl (decide_eq_true g1)
    · exact .inr (decide_eq_true g1)
  refine ⟨?_, a2, fun y hy => ?_, a4, ?_, ?_, fun w hw => ?_, a8, a9, fun c hc => ?_, fun x hx => ?_, fun l' e x hx hs => ?_, fun x hx => b4 x (List.mem_filter.mp hx).1⟩
  · rw [ep']
    refine List.pairwise_append.mpr ⟨List.pairwise_append.mpr ⟨p1, List.pairwise_singleton _ _, fun g hg y hy => by rw [List.mem_singleton.mp hy]; exact (lr g hg).extL⟩, List.pairwise_singleton _ _, fun g hg y hy => ?_⟩
    rw [List.mem_singleton.mp hy]
    rcases List.mem_append.mp hg with q | q
    · exact (lr g q).extL
    · rw [List.mem_singleton.mp q]
      exact LtP.split l
  · exact to (a3 y hy) (fun q => q.extR) fun q => q.extR
  · exact to (R := fun p => p = [] ∨ ∃ x ∈ ever, starts p x = true) a5 (fun _ => .inr (ev 49 h1)) fun _ => .inr (ev 48 h0)
  · rw [List.map_append]
    refine List.nodup_append.mpr ⟨a6, by simp, fun u hu v hv => ?_⟩
    obtain ⟨w, hw, rfl⟩ := List.mem_map.mp hu
    have hv' : v = l := by simpa using hv
    rw [hv']
    exact (a7 w hw l hin).ne
  · rcases List.mem_append.mp hw with q | q
    · exact to (a7 w q) (fun z => z.ext) fun z => z.ext
    · rw [List.mem_singleton.mp q]
      intro p hp
      rw [ep'] at hp
      rcases List.mem_append.mp hp with r | r
      · rcases List.mem_append.mp r with r | r
        · exact .inr (lr p r)
        · rw [List.mem_singleton.mp r]
          exact .inl ⟨[49], by simp, rfl⟩
      · rw [List.mem_singleton.mp r]
        exact .inl ⟨[48], by simp, rfl⟩
  · exact to (b1 c hc) (fun q => q.extR) fun q => q.extR
  · rcases b2 x hx with q | ⟨p, hp, e⟩
    · exact .inl q
    · rcases List.mem_append.mp hp with r | r
      · exact .inr ⟨p, by rw [ep']; simp [r], e⟩
      · rw [List.mem_singleton.mp r] at e
        rcases bit x hx e with c | c
        · exact .inr ⟨l ++ [48], by rw [ep']; simp, by rw [starts_snoc, c, e]; rfl⟩
        · exact .inr ⟨l ++ [49], by rw [ep']; simp, by rw [starts_snoc, c, e]; rfl⟩
  · cases e
    have h2 := b3 l rfl x hx (starts_ext hs)
    rw [starts_snoc, Bool.and_eq_true] at hs
    exact List.mem_filter.mpr ⟨h2, hs.1⟩
/-- nobody answers -/
theorem wlk_lost {ever stay lm : List Str} {kd : Str} {rest found : List (List Nat)} {paper : List (List Nat × Bool × Bool)} {l : List Nat} {z o : Bool} {W : Nat} {cl : List (List Nat)} (h : Wlk ever stay ⟨kd, rest, some l, found, paper⟩ lm cl) (hl : l.length < W) (hst : ∀ x ∈ stay, Num W x) (hev : ∀ x ∈ ever, Num W x)
    (h0 : lm.any (sg l.length 48) = false) (h1 : lm.any (sg l.length 49) = false) : ∃ cl', Wlk ever stay ⟨kd, rest, none, found, paper ++ [(l, z, o)]⟩ lm cl' ∧ Clm cl cl' ⟨kd, rest, none, found, paper ++ [(l, z, o)]⟩ := by
  obtain ⟨a1, a2, a3, a4, a5, a6, a7, a8, a9, b1, b2, b3, b4⟩ := h
  have ep : pend ⟨kd, rest, some l, found, paper⟩ = rest ++ [l] := rfl
  rw [ep] at a1 a3 a5 a7 b1 b2
  obtain ⟨p1, p2, p3⟩ := List.pairwise_append.mp a1
  have hin : l ∈ rest ++ [l] := by simp
  have hr : ∀ g ∈ rest, g ∈ rest ++ [l] := fun g hg => List.mem_append_left _ hg
  have lr : ∀ g ∈ rest, LtP l g := fun g hg => p3 g hg l (by simp)
  have none_ : ∀ x ∈ stay, starts l x = true → False := fun x hx e => by
    have hm := b3 l rfl x hx e
    obtain ⟨c, hc, g1, _⟩ := num_at (hst x hx) hl
    have n0 := List.any_eq_false.mp h0 x hm
    have n1 := List.any_eq_false.mp h1 x hm
    rcases hc with rfl | rfl
    · exact n0 (decide_eq_true g1)
    · exact n1 (decide_eq_true g1)
  have base : ∀ cl', cl'.Pairwise LtP → (∀ c ∈ cl', S c ∈ ever) → (∀ c ∈ cl', ∀ g ∈ rest, LtP c g) → Wlk ever stay ⟨kd, rest, none, found, paper ++ [(l, z, o)]⟩ lm cl' := fun cl' q1 q2 q3 => by
    refine ⟨p1, a2, fun y hy g hg => a3 y hy g (hr g hg), a4, fun g hg => a5 g (hr g hg), ?_, fun w hw g hg => ?_, q1, q2, q3, fun x hx => ?_, fun l' e => (by cases e), b4⟩
    · rw [List.map_append]
      refine List.nodup_append.mpr ⟨a6, by simp, fun u hu v hv => ?_⟩
      obtain ⟨w, hw, rfl⟩ := List.mem_map.mp hu
      have hv' : v = l := by simpa using hv
      rw [hv']
      exact (a7 w hw l hin).ne
    · rcases List.mem_append.mp hw with q | q
      · exact a7 w q g (hr g hg)
      · rw [List.mem_singleton.mp q]
        exact .inr (lr g hg)
    · rcases b2 x hx with q | ⟨p, hp, e⟩
      · exact .inl q
      · rcases List.mem_append.mp hp with r | r
        · exact .inr ⟨p, r, e⟩
        · rw [List.mem_singleton.mp r] at e
          exact (none_ x hx e).elim
  rcases a5 l hin with e | ⟨x, hx, e⟩
  · have e1 : rest = [] := by
      cases rest with
      | nil => rfl
      | cons g r => exact (LtP.nilL (by rw [← e]; exact lr g (by simp))).elim
    have e2 : found = [] := by
      cases found with
      | nil => rfl
      | cons y r => exact (LtP.nilR (by rw [← e]; exact a3 y (by simp) l hin)).elim
    have e3 : cl = [] := by
      cases cl with
      | nil => rfl
      | cons y r => exact (LtP.nilR (by rw [← e]; exact b1 y (by simp) l hin)).elim
    exact ⟨[], base [] .nil (fun c hc => absurd hc (by simp)) (fun c hc => absurd hc (by simp)), .inr ⟨e3, rfl, rfl, e1, e2⟩⟩
  · obtain ⟨a, rfl, e1, e2⟩ := starts_num e (hev x hx)
    refine ⟨cl ++ [l ++ a], base _ (List.pairwise_append.mpr ⟨a8, List.pairwise_singleton _ _, fun c hc y hy => by rw [List.mem_singleton.mp hy]; exact (b1 c hc l hin).extR⟩) (fun c hc => ?_) (fun c hc g hg => ?_), .inl (by rw [List.length_append]; rfl)⟩
    · rcases List.mem_append.mp hc with q | q
      · exact a9 c q
      · rw [List.mem_singleton.mp q]
        exact hx
    · rcases List.mem_append.mp hc with q | q
      · exact b1 c q g (hr g hg)
      · rw [List.mem_singleton.mp q]
        exact (lr g hg).extL
/-- a step -/
theorem wlk_step {W n : Nat} {kvs : List (Str × Bool)} {lm : List Str} {sdm : Option (List Nat)} {lk : Int} {st : WkS} {ever stay : List Str} {cl : List (List Nat)} (h : Wlk ever stay st lm cl) (ok : WkOk W lm sdm st n) (hr : st.sd = none → st.rest ≠ []) (hW : 1 ≤ W) (hev : ∀ x ∈ ever, Num W x) (hst : ∀ x ∈ stay, Num W x) (he : ∀ x ∈ lisB kvs (decide (st.kd = "all")), x ∈ ever) (hs : ∀ x ∈ stay, x ∈ lisB kvs (decide (st.kd = "all"))) :
    ∃ cl', Wlk ever stay (stepF W kvs lm lk st).1.1 (stepF W kvs lm lk st).2.1 cl' ∧ ((stepF W kvs lm lk st).1.2 = .no → cl' = cl) ∧ ((stepF W kvs lm lk st).1.2 ≠ .no → Clm cl cl' (stepF W kvs lm lk st).1.1) := by
  obtain ⟨kd, rest, sd, found, paper⟩ := st
  cases sd with
  | none =>
    obtain ⟨r, g, e, hg, hb⟩ := ok.none_ (hr rfl)
    dsimp only at e he hs
    subst e
    have e0 : stepF W kvs lm lk ⟨kd, r ++ [g], none, found, paper⟩ = (overF W ⟨kd, r, none, found, paper⟩ g, begF kvs kd g, some g, lk) := by
      unfold stepF
      simp
    rw [e0]
    obtain ⟨a1, a2, a3, a4, a5, a6, a7, a8, a9, b1, b2, b3, b4⟩ := h
    refine wlk_over (st := ⟨kd, r, none, found, paper⟩) (l := g) ⟨a1, a2, a3, a4, a5, a6, a7, a8, a9, b1, b2, fun l e x hx hq => ?_, fun x hx => he x (List.mem_filter.mp hx).1⟩ hW hg hev hst
    cases e
    exact List.mem_filter.mpr ⟨hs x hx, hq⟩
  | some l =>
    obtain ⟨_, hlt, hlb, hbeg⟩ := ok.said l rfl
    have lc : ∀ c : Nat, (l ++ [c]).length ≤ W := fun c => by rw [List.length_append, List.length_singleton]; omega
    have bits : ∀ x ∈ lm, sg l.length 48 x = true ∨ sg l.length 49 x = true := fun x hx => by
      obtain ⟨c, hc, g1, _⟩ := num_at (hbeg x hx).num hlt
      rcases hc with rfl | rfl
      · exact .inl (decide_eq_true g1)
      · exact .inr (decide_eq_true g1)
    have wl := fun z o => wlk_lost (z := z) (o := o) h hlt hst hev
    have w2 := fun z o => wlk_two (z := z) (o := o) h hbeg hlt hst
    have w1 := fun z o b => wlk_bit (z := z) (o := o) (b := b) h hbeg hlt hst
    unfold stepF
    dsimp only
    cases hz : lm.any (sg l.length 48) <;> cases ho : lm.any (sg l.length 49)
    · rw [if_pos ⟨rfl, rfl⟩]
      obtain ⟨cl', q1, q2⟩ := wl false false hz ho
      exact ⟨cl', q1, fun z => (by cases z), fun _ => q2⟩
    · rw [if_neg (fun z => Bool.noConfusion z.2), if_neg Bool.false_ne_true, if_neg (fun z => Bool.noConfusion z.1)]
      refine wlk_over (w1 false true 49 (List.any_eq_true.mp ho) (.inr rfl) fun x hx => (bits x hx).resolve_left fun q => ?_) hW (lc _) hev hst
      exact absurd (List.any_eq_true.mpr ⟨x, hx, q⟩) (by rw [hz]; exact Bool.false_ne_true)
    · rw [if_neg (fun z => Bool.noConfusion z.1), if_pos rfl, if_neg (fun z => Bool.noConfusion z.2)]
      refine wlk_over (w1 true false 48 (List.any_eq_true.mp hz) (.inl rfl) fun x hx => (bits x hx).resolve_right fun q => ?_) hW (lc _) hev hst
      exact absurd (List.any_eq_true.mpr ⟨x, hx, q⟩) (by rw [ho]; exact Bool.false_ne_true)
    · rw [if_neg (fun z => Bool.noConfusion z.1), if_pos rfl, if_pos ⟨rfl, rfl⟩]
      exact wlk_over (w2 true true (List.any_eq_true.mp hz) (List.any_eq_true.mp ho)) hW (lc _) hev hst
end B

set_option Elab.async false
set_option linter.all false
set_option maxRecDepth 100000
set_option maxHeartbeats 4000000
namespace B
open PySem PySem.Spec PyProof.Rows L2
open SX (S)
/-! ### the beginnings that some numbers have -/
/-- y is one of the beginnings, fewer signs than W, of some of xs, or the empty one -/
def MetS (W : Nat) (xs : List Str) (y : Str) : Prop := y = "" ∨ ∃ x ∈ xs, ∃ i, i < W ∧ y = S (x.cps.toList.take i)
/-- told: each once, rising -/
structure MetL (W : Nat) (xs ys : List Str) : Prop where
  srt : sortedS ys = true
  nd : ys.Nodup
  mem : ∀ y, y ∈ ys ↔ MetS W xs y
theorem MetL.one {W : Nat} {xs ys zs : List Str} (h : MetL W xs ys) (g : MetL W xs zs) : ys = zs :=
  sorted_eq h.srt g.srt ((List.perm_ext_iff_of_nodup h.nd g.nd).mpr fun y => (h.mem y).trans (g.mem y).symm)
theorem S_cps (x : Str) : S x.cps.toList = x := by
  cases x
  simp [SX.S]
def MetP (W : Nat) (ts : List Str) (y : Str) : Prop := ∃ x ∈ ts, ∃ i, i < W ∧ y = S (x.cps.toList.take i)
theorem metP_all {W : Nat} {xs : List Str} {y : Str} (hW : 1 ≤ W) : MetP W (xs ++ [("" : Str)]) y ↔ MetS W xs y := by
  unfold MetP MetS
  constructor
  · rintro ⟨x, hx, i, hi, e⟩
    rcases List.mem_append.mp hx with q | q
    · exact .inr ⟨x, q, i, hi, e⟩
    · rw [List.mem_singleton.mp q] at e
      refine .inl (e.trans ?_)
      rw [show ("" : Str).cps.toList = [] by decide +kernel, List.take_nil]
      exact empty_S.symm
  · rintro (e | ⟨x, hx, i, hi, e⟩)
    · refine ⟨"", by simp, 0, by omega, ?_⟩
      rw [e, List.take_zero]
      exact empty_S
    · exact ⟨x, List.mem_append_left _ hx, i, hi, e⟩
section
variable {P : Program} {w : World} {K : PySem.W.Frag} {mg : Str → Option Value} {base : Heap}
def spMet (K : PySem.W.Frag) : Sp := fun vs H Q _ => ∃ (W : Nat) (p : Addr) (xs : List Str), vs = [.int W, .ref p] ∧ H p = some (.lst (xs.map V.str)) ∧ (∀ x ∈ xs, Num W x) ∧ 1 ≤ W ∧ W ≤ 12 ∧ xs.length ≤ 41 ∧ Tb K H ∧
  ∀ (ys : List Str) (q : Addr) (H' : Hp), MetL W xs ys → H q = none → H' q = some (.lst (ys.map V.str)) → FrT K [] H H' → Q (.ref q) H'
theorem c_met (T : Txt P w K mg base) : CalX CX0 P w K mg base 3 "met" (spMet K) := by
  obtain ⟨fd, F⟩ := T.t.def_ 4 (d := d_met)
  refine ⟨_, fd, _, F.ok sc_met (fun vs H Q E h => ?_) (fun cdv A outer s H vs Q E hr h => ?_), He.glo_ok T.X T.G (T.t.fact 4), F.kp, F.bindsN fun _ _ _ _ _ _ us hl => match us, hl with | [_, _], _ => rfl⟩
  · obtain ⟨W, p, xs, rfl, _⟩ := h
    rfl
  · obtain ⟨W, p, xs, rfl, hp, hnum, w1, w2, hlen, ht, k⟩ := h
    have hu := hu_of hr
    refine ⟨_, PSs.nox (pss_cons (ps_expr (pe_cx (c_require_width T) hr (by decide) rfl pass0 (pa_cons (pv 0) pa_nil)))
    (pss_cons (ps_for PassesOwn.never rfl (pi_list (pv 1)) (pg_name (i := 2) sc_met.nd rfl (Or.inl rfl))
      (pss_one (ps_expr (pe_cx (c_require_number T) hr (by decide) rfl pass0 (pa_cons (pv 0) (pa_cons (pv 2) pa_nil))))))
    (pss_cons (ps_set (i := 3) sc_met.nd rfl (Or.inl rfl) (pe_lst (StX.pa_star (pv 1) (pa_cons pe_str pa_nil))))
    (pss_one (ps_ret (pe_callB (cr_sortedTx rfl) (by rfl) (n_sorted T) (by decide +kernel) (pa_cons (pe_st2 (own := [("text", 4), ("length", 5)]) (vb := [5]) (ga := gName 4) (gb := gName 5) rfl sc_met.nd (pi_list (pv 3)) (blkOk_by (N := ["width", "numbers", "number", "texts", "text", "length"]) (sc := defScope s_met) (own := [("text", 4), ("length", 5)]) (by decide +kernel)) (by decide) (fun _ _ _ _ _ => pg_name (i := 4) sc_met.nd rfl (Or.inl rfl)) (fun _ _ _ _ _ => by exact (pi_range1 rfl (n_range T) (pa_cons (pv 0) pa_nil))) (fun _ _ _ _ _ => pg_name (i := 5) sc_met.nd rfl (Or.inl rfl)) (fun _ _ _ _ _ => by exact (pe_slice C8.sl_txt (pv 4) po_none (po_some (pv 5))))) pa_nil))))))), ?_⟩
    refine ⟨_, rfl, W, rfl, w1, w2, ?_⟩
    refine ⟨_, rfl, p, rfl, ⟨_, SqL.of hp⟩, for_list (K := K) (a := p) (xs := xs.map V.str) (fun i σ H' => ∃ v2 : Option V, σ = [some (.int W), some (.ref p), v2, none, none, none] ∧ H' p = some (.lst (xs.map V.str)) ∧ FrT K [] H H')
      ⟨_, rfl, hp, FrT.refl _ _ _⟩ (fun i σ H' _ ⟨_, _, e, _⟩ => SqL.of e) ?_ ?_⟩
    · rintro i y σ H1 hi ⟨v2, rfl, hp1, f1⟩
      obtain ⟨x, hx, rfl⟩ := at_map hi
      refine ⟨_, rfl, _, rfl, W, x, rfl, hnum x (List.mem_of_getElem? hx), w2, f1.t ht, fun H2 f2 => ?_⟩
      exact ⟨_, rfl, f2.k _ _ hp1 rfl (by simp), f1.trans f2⟩
    · rintro σ H1 ⟨v2, rfl, hp1, f1⟩
      refine ⟨_, rfl, p, _, rfl, .inr (SqL.of hp1), ?_⟩
      have el : xs.map V.str ++ [V.str ""] = (xs ++ [("" : Str)]).map V.str := by rw [List.map_append]; rfl
      refine ⟨?_, fun q hq => ?_⟩
      · show (xs.map V.str ++ [V.str ""]).length ≤ sizeLine
        rw [List.length_append, List.length_map]
        exact Nat.le_of_lt (small1000 (by show _ + 1 ≤ 1000; omega))
      have g1 : Frm [] H1 (upd H1 q (.lst ((xs ++ [("" : Str)]).map V.str))) := Frm.of (same_upd hq)
      have d1 : (upd H1 q (.lst ((xs ++ [("" : Str)]).map V.str))) q = some (.lst ((xs ++ [("" : Str)]).map V.str)) := upd_same
      rw [← el] at g1 d1
      revert g1 d1
      generalize (upd H1 q (.lst (xs.map V.str ++ [V.str ""]))) = H2
      intro g1 d1
      rw [el] at d1
      have tl : ∀ x ∈ xs ++ [("" : Str)], x.length ≤ 12 := fun x hx => by
        rcases List.mem_append.mp hx with z | z
        · rw [num_len (hnum x z)]
          exact w2
        · rw [List.mem_singleton.mp z]
          decide +kernel
      have tn : (xs ++ [("" : Str)]).length ≤ 42 := by rw [List.length_append]; show _ + 1 ≤ 42; omega
      revert d1 tl tn
      generalize hts : xs ++ [("" : Str)] = ts
      intro d1 tl tn
      have f2 : FrT K [] H H2 := f1.trans (g1.toT .nil)
      generalize hw : (cxOf CX0 P w K mg base _ d_met.qual d_met.scope _ cdv A outer s H E).nox.w = w0
      refine ⟨_, rfl, q, rfl, ⟨_, SqL.of d1⟩, fun D hD => ?_⟩
      have nq : q ≠ D := ne_of_none d1 hD
      refine walk_lst (K := K) (a := q) (xs := ts.map V.str) (fun i H' => ∃ (T' : Str → Bool) (n : Nat), (∀ y, T' y = true ↔ MetP W (ts.take i) y) ∧ n ≤ i * W ∧ H' = upd H2 D (StxO w0 D T' n)) ⟨_, 0, fun y => ⟨fun z => (by cases z), fun ⟨x, hx, _⟩ => absurd hx (by simp)⟩, by omega, rfl⟩ (fun i H' _ ⟨_, _, _, _, e⟩ => by rw [e]; exact SqL.of (by rw [upd_ne nq]; exact d1)) ?_ ?_
      · rintro i y H3 hi ⟨T', n, hT, hn, rfl⟩
        obtain ⟨x, hx, rfl⟩ := at_map hi
        refine ⟨rfl, _, rfl, W, rfl, by omega, by omega, ?_⟩
        refine walk_rng (lo := 0) (n := (W : Int).toNat) (fun j H' => ∃ (U : Str → Bool) (m : Nat), (∀ y, U y = true ↔ MetP W (ts.take i) y ∨ ∃ c, c < j ∧ y = S (x.cps.toList.take c)) ∧ m ≤ i * W + j ∧ H' = upd H2 D (StxO w0 D U m)) ⟨T', n, fun y => (hT y).trans ⟨.inl, fun z => z.elim id fun ⟨c, hc, _⟩ => absurd hc (by omega)⟩, by omega, rfl⟩ ?_ ?_
        · rintro j H4 hj ⟨U, m, hU, hm, rfl⟩
          have iw : i * W + W ≤ 42 * 12 := by
            have hi' := (List.getElem?_eq_some_iff.mp hx).1
            have : (i + 1) * W ≤ 42 * 12 := Nat.mul_le_mul (by omega) w2
            rw [Nat.succ_mul] at this
            exact this
          have sb : (4096 : Nat) = scanBound := rfl
          refine ⟨rfl, _, rfl, _, rfl, 0 + (j : Int), rfl, x, rfl, by have := tl x (List.mem_of_getElem? hx); exact size12 (by omega), S (x.cps.toList.take j), U, m, ?_, upd_same, by rw [← sb]; omega, ?_⟩
          · rw [show x = S x.cps.toList from (S_cps x).symm, SX.slice_to (by omega), S_list]
            exact congrArg (fun c => V.str (S (x.cps.toList.take c))) (by omega)
          · refine ⟨_, _, fun y => ?_, ?_, upd_upd⟩
            · rw [Bool.or_eq_true, hU y, decide_eq_true_eq, or_assoc]
              refine or_congr Iff.rfl ⟨?_, ?_⟩
              · rintro (⟨c, hc, e⟩ | e)
                · exact ⟨c, by omega, e⟩
                · exact ⟨j, by omega, e⟩
              · rintro ⟨c, hc, e⟩
                by_cases q : c = j
                · exact .inr (by rw [← q]; exact e)
                · exact .inl ⟨c, by omega, e⟩
            · split <;> omega
        · rintro H4 ⟨U, m, hU, hm, rfl⟩
          refine ⟨U, m, fun y => (hU y).trans ?_, by rw [Nat.succ_mul]; omega, rfl⟩
          rw [take_snoc hx]
          unfold MetP
          constructor
          · rintro (⟨z, hz, r⟩ | ⟨c, hc, e⟩)
            · exact ⟨z, List.mem_append_left _ hz, r⟩
            · exact ⟨x, by simp, c, by omega, e⟩
          · rintro ⟨z, hz, c, hc, e⟩
            rcases List.mem_append.mp hz with r | r
            · exact .inl ⟨z, r, c, hc, e⟩
            · rw [List.mem_singleton.mp r] at e
              exact .inr ⟨c, by omega, e⟩
      · rintro H3 ⟨T', n, hT, hn, rfl⟩
        rw [List.length_map, List.take_length] at hT
        refine ⟨D, T', n, rfl, upd_same, fun ys p' srt nd mem _ hp' => ?_⟩
        have g3 : Frm [] H2 (upd (upd H2 D (StxO w0 D T' n)) p' (.lst (ys.map V.str))) := (Frm.of (same_upd hD)).trans (Frm.of (same_upd hp'))
        exact k ys p' _ ⟨srt, nd, fun y => by rw [mem y, hT y, ← hts]; exact metP_all w1⟩ (f2.b _ (upd_back hp')) upd_same (f2.trans (g3.toT .nil))
theorem c_lmet (T : Txt P w K mg base) : CalX CX0 P w K mg base 1 "_law_met" (spMet K) := by
  obtain ⟨fd, F⟩ := T.t.def_ 22 (d := d_lmet)
  refine ⟨_, fd, _, F.ok sc_lmet (fun vs H Q E h => ?_) (fun cdv A outer s H vs Q E hr h => ?_), He.glo_ok T.X T.G (T.t.fact 22), F.kp, F.bindsN fun _ _ _ _ _ _ us hl => match us, hl with | [_, _], _ => rfl⟩
  · obtain ⟨W, p, xs, rfl, _⟩ := h
    rfl
  · obtain ⟨W, p, xs, rfl, hp, hnum, w1, w2, hlen, ht, k⟩ := h
    have hu := hu_of hr
    refine ⟨_, PSs.nox (pss_cons (ps_set (i := 2) sc_lmet.nd rfl (Or.inl rfl) (pe_lst (pa_cons pe_str pa_nil)))
    (pss_cons (ps_for PassesOwn.never rfl (pi_list (pv 1)) (pg_name (i := 3) sc_lmet.nd rfl (Or.inr rfl))
      (pss_one (ps_expr (pe_bm PySem.F.plainAttrs_list PySem.F.slot_list_extend PySem.F.type_list_extend mt_extend (pv 2) (pa_cons (pe_lc (own := [("_law_many", 4)]) (g := gName 4) rfl sc_lmet.nd (pi_range2 rfl (n_range T) (pa_cons pe_int (pa_cons (pv 0) pa_nil))) (blkOk_by (N := ["_law_width_here", "_law_numbers", "_law_found", "_law_number_here", "_law_many"]) (sc := defScope s_lmet) (own := [("_law_many", 4)]) (by decide +kernel)) (fun _ _ _ _ _ => pg_name (i := 4) sc_lmet.nd rfl (Or.inl rfl)) (fun _ _ _ _ _ => pts_nil) (fun _ _ _ _ _ => by exact (pe_slice C8.sl_txt (pv 3) po_none (po_some (pv 4))))) pa_nil)))))
    (pss_one (ps_ret (pe_callB (cr_sortedTx rfl) (by rfl) (n_sorted T) (by decide +kernel) (pa_cons (pe_callTy (cr_setTx rfl) (by rfl) (n_set T) (by decide +kernel) (pa_cons (pv 2) pa_nil)) pa_nil)))))), ?_⟩
    refine ⟨by show 1 ≤ sizeLine; decide, fun pf hpf => ?_⟩
    have npf : p ≠ pf := ne_of_none hp hpf
    refine ⟨_, rfl, p, rfl, ⟨_, SqL.of (show (upd H pf _) p = _ by rw [upd_ne npf]; exact hp)⟩, for_list (K := K) (a := p) (xs := xs.map V.str) (fun i σ H' => ∃ (v3 v4 : Option V) (zs : List Str), σ = [some (.int W), some (.ref p), some (.ref pf), v3, v4] ∧ H' p = some (.lst (xs.map V.str)) ∧ H' pf = some (.lst (zs.map V.str)) ∧ (∀ y, y ∈ zs ↔ y = "" ∨ ∃ x ∈ xs.take i, ∃ c, 1 ≤ c ∧ c < W ∧ y = S (x.cps.toList.take c)) ∧ zs.length ≤ 1 + i * W ∧ Frm [pf] H H')
      ⟨_, _, [""], rfl, by rw [upd_ne npf]; exact hp, upd_same, fun y => by simp, by simp, Frm.of (same_upd hpf)⟩ (fun i σ H' _ ⟨_, _, _, _, e, _⟩ => SqL.of e) ?_ ?_⟩
    · rintro i y σ H1 hi ⟨v3, v4, zs, rfl, hp1, hf1, hz, hzl, f1⟩
      obtain ⟨x, hx, rfl⟩ := at_map hi
      have hxn := hnum x (List.mem_of_getElem? hx)
      refine ⟨_, rfl, .inl ⟨rfl, _, SqL.of hf1⟩, _, rfl, 1, W, rfl, by omega, fun D hD => ?_⟩
      have nD : pf ≠ D := ne_of_none hf1 hD
      refine lc_range (lo := 1) (n := ((W : Int) - 1).toNat) (fun j H' => H' = upd H1 D (.lst (((List.range j).map fun c => S (x.cps.toList.take (c + 1))).map V.str))) rfl ?_ ?_
      · rintro j H2 hj rfl
        refine ⟨rfl, _, rfl, _, rfl, 1 + (j : Int), rfl, x, rfl, by rw [num_len hxn]; exact size12 (by omega), _, upd_same, ?_, ?_⟩
        · rw [List.length_map, List.length_map, List.length_range]
          exact small1000 (by omega)
        · show _ = _
          rw [upd_upd, List.range_succ, List.map_append, List.map_append, show Txt.slice x none (some (1 + (j : Int))) = S (x.cps.toList.take (j + 1)) from by rw [show x = S x.cps.toList from (S_cps x).symm, SX.slice_to (by omega), S_list, show (1 + (j : Int)).toNat = j + 1 by omega]]
          rfl
      · rintro H2 rfl
        refine ⟨pf, D, _, _, rfl, rfl, by rw [upd_ne nD]; exact hf1, upd_same, ?_, ?_⟩
        · rw [List.length_map, List.length_map, List.length_map, List.length_range]
          have : i * W ≤ 41 * 12 := Nat.mul_le_mul (by have := (List.getElem?_eq_some_iff.mp hx).1; omega) w2
          exact Nat.le_of_lt (small1000 (by omega))
        · have f2 : Frm [pf] H1 (upd (upd H1 D (.lst (((List.range ((W : Int) - 1).toNat).map fun c => S (x.cps.toList.take (c + 1))).map V.str))) pf (.lst (zs.map V.str ++ ((List.range ((W : Int) - 1).toNat).map fun c => S (x.cps.toList.take (c + 1))).map V.str))) := ((Frm.refl _ _).new hD).put (by simp)
          refine ⟨_, _, zs ++ (List.range ((W : Int) - 1).toNat).map fun c => S (x.cps.toList.take (c + 1)), rfl, f2.k _ _ hp1 rfl (by simpa using npf), by rw [upd_same, List.map_append], fun y => ?_, ?_, f1.trans f2⟩
          · rw [List.mem_append, hz y, take_snoc hx]
            constructor
            · rintro ((e | ⟨z, hz, r⟩) | e)
              · exact .inl e
              · exact .inr ⟨z, List.mem_append_left _ hz, r⟩
              · obtain ⟨c, hc, e⟩ := List.mem_map.mp e
                have hc' := List.mem_range.mp hc
                exact .inr ⟨x, by simp, c + 1, by omega, by omega, e.symm⟩
            · rintro (e | ⟨z, hz, c, c1, c2, e⟩)
              · exact .inl (.inl e)
              · rcases List.mem_append.mp hz with r | r
                · exact .inl (.inr ⟨z, r, c, c1, c2, e⟩)
                · rw [List.mem_singleton.mp r] at e
                  refine .inr (List.mem_map.mpr ⟨c - 1, List.mem_range.mpr (by omega), ?_⟩)
                  rw [e, show c - 1 + 1 = c by omega]
          · rw [List.length_append, List.length_map, List.length_range, Nat.succ_mul]
            omega
    · rintro σ H1 ⟨v3, v4, zs, rfl, hp1, hf1, hz, hzl, f1⟩
      rw [List.length_map] at hzl
      rw [List.length_map, List.take_length] at hz
      have sb : (4096 : Nat) = scanBound := rfl
      have zl : zs.length + 1 < 4096 := by
        have : xs.length * W ≤ 41 * 12 := Nat.mul_le_mul hlen w2
        omega
      refine ⟨_, rfl, pf, zs, rfl, SqL.of hf1, by rw [← sb]; exact zl, fun s1 hs1 => ⟨s1, _, _, rfl, upd_same, fun ys p' srt nd mem _ hp' => ?_⟩⟩
      generalize hH : (upd H1 s1 _) = H2 at hp' ⊢
      have g2 : Frm [] H1 H2 := by
        rw [← hH]
        exact Frm.of (same_upd hs1)
      have g3 : Frm [pf] H (upd H2 p' (.lst (ys.map V.str))) := (f1.trans ((g2.trans (Frm.of (same_upd hp'))).mono (by simp)))
      refine k ys p' _ ⟨srt, nd, fun y => ?_⟩ (f1.b _ (g2.b _ hp')) upd_same ((Frm.fresh (Frm.refl [] H) g3 (by simpa using hpf)).toT .nil)
      rw [mem y, decide_eq_true_eq, hz y]
      unfold MetS
      constructor
      · rintro (e | ⟨x, hx, c, c1, c2, e⟩)
        · exact .inl e
        · exact .inr ⟨x, hx, c, c2, e⟩
      · rintro (e | ⟨x, hx, c, c2, e⟩)
        · exact .inl e
        · by_cases c1 : c = 0
          · subst c1
            exact .inl (by rw [e, List.take_zero]; exact empty_S.symm)
          · exact .inr ⟨x, hx, c, by omega, c2, e⟩
end
end B

set_option Elab.async false
set_option linter.all false
set_option maxRecDepth 100000
set_option maxHeartbeats 4000000
namespace B
open PySem PySem.Spec PyProof.Rows L2
open SX (S)
/-! ### a walk while nothing changes -/
/-- what stands on its paper -/
structure Pap (W : Nat) (due : List Str) (st : WkS) : Prop where
  pa : ∀ z ∈ st.paper, z.1.length < W ∧ (z.1 = [] ∨ ∃ x ∈ due, starts z.1 x = true)
  fb : ∀ y ∈ st.found, ∀ i, i < W → y.take i ∈ st.paper.map (·.1)
  pb : ∀ p ∈ pend st, ∀ i, i < p.length → p.take i ∈ st.paper.map (·.1)
  nl : [] ∈ pend st ∨ [] ∈ st.paper.map (·.1)
theorem pap_new {W : Nat} {due : List Str} {kd : Str} : Pap W due ⟨kd, [[]], none, [], []⟩ := by
  refine ⟨fun z hz => absurd hz (by simp), fun y hy => absurd hy (by simp), fun p hp i hi => ?_, .inl (List.mem_singleton.mpr rfl)⟩
  rw [List.mem_singleton.mp hp] at hi
  exact absurd hi (Nat.not_lt_zero _)
theorem pap_over {W : Nat} {due : List Str} {st : WkS} {l : List Nat} (h : Pap W due { st with sd := some l }) (hW : 1 ≤ W) (hl : l.length ≤ W) : Pap W due (overF W st l).1 := by
  unfold overF
  split
  · exact h
  · rename_i c
    have eW : l.length = W := by omega
    obtain ⟨a, b, c, d⟩ := h
    have ep : pend { st with sd := some l } = st.rest ++ [l] := rfl
    rw [ep] at c d
    refine ⟨a, fun y hy i hi => ?_, fun p hp => c p (List.mem_append_left _ hp), ?_⟩
    · rcases List.mem_append.mp hy with q | q
      · exact b y q i hi
      · rw [List.mem_singleton.mp q]
        exact c l (by simp) i (by omega)
    · rcases d with q | q
      · rcases List.mem_append.mp q with q | q
        · exact .inl q
        · have e0 : l.length = 0 := by rw [← List.mem_singleton.mp q]; rfl
          omega
      · exact .inr q
theorem pap_look {W : Nat} {due : List Str} {kd : Str} {rest rest' found : List (List Nat)} {l : List Nat} {paper : List (List Nat × Bool × Bool)} {z o : Bool} {sd : Option (List Nat)} (h : Pap W due ⟨kd, rest, some l, found, paper⟩) (hl : l.length < W) (ev : l = [] ∨ ∃ x ∈ due, starts l x = true)
    (hp : ∀ p ∈ pend ⟨kd, rest', sd, found, paper ++ [(l, z, o)]⟩, p ∈ rest ∨ ∃ b, p = l ++ [b]) (hr : ∀ p ∈ rest, p ∈ pend ⟨kd, rest', sd, found, paper ++ [(l, z, o)]⟩) : Pap W due ⟨kd, rest', sd, found, paper ++ [(l, z, o)]⟩ := by
  obtain ⟨a, b, c, d⟩ := h
  have ep : pend ⟨kd, rest, some l, found, paper⟩ = rest ++ [l] := rfl
  rw [ep] at c d
  have old : ∀ {y : List Nat}, y ∈ paper.map (·.1) → y ∈ (paper ++ [(l, z, o)]).map (·.1) := fun q => by
    rw [List.map_append]
    exact List.mem_append_left _ q
  have new : l ∈ (paper ++ [(l, z, o)]).map (·.1) := by
    rw [List.map_append]
    exact List.mem_append_right _ (by simp)
  refine ⟨fun y hy => ?_, fun y hy i hi => old (b y hy i hi), fun p q i hi => ?_, ?_⟩
  · rcases List.mem_append.mp hy with q | q
    · exact a y q
    · rw [List.mem_singleton.mp q]
      exact ⟨hl, ev⟩
  · rcases hp p q with q | ⟨b', rfl⟩
    · exact old (c p (List.mem_append_left _ q) i hi)
    · rw [List.length_append, List.length_singleton] at hi
      rw [List.take_append_of_le_length (by omega)]
      by_cases e : i = l.length
      · rw [e, List.take_length]
        exact new
      · exact old (c l (by simp) i (by omega))
  · rcases d with q | q
    · rcases List.mem_append.mp q with q | q
      · exact .inl (hr _ q)
      · refine .inr ?_
        rw [List.mem_singleton.mp q]
        exact new
    · exact .inr (old q)
theorem over_tld {W : Nat} {st : WkS} {l : List Nat} : (overF W st l).2 ≠ .lost ∧ (∀ l', (overF W st l).2 = .found l' → (overF W st l).1.found = st.found ++ [l'] ∧ (overF W st l).1.sd = none) ∧ ((overF W st l).2 = .no → (overF W st l).1.found = st.found) ∧ (overF W st l).1.paper = st.paper := by
  unfold overF
  split
  · exact ⟨fun z => (by cases z), fun l' z => (by cases z), fun _ => rfl, rfl⟩
  · refine ⟨fun z => (by cases z), fun l' z => ?_, fun z => (by cases z), rfl⟩
    cases z
    exact ⟨rfl, rfl⟩
/-- what a step on a still wire comes to -/
structure Stll (W : Nat) (due : List Str) (st : WkS) (lk : Int) (r : (WkS × Tld) × List Str × Option (List Nat) × Int) : Prop where
  pp : Pap W due r.1.1
  lost : r.1.2 = .lost → due = [] ∧ r.1.1.rest = [] ∧ r.1.1.sd = none
  fnd : ∀ l, r.1.2 = .found l → r.1.1.found = st.found ++ [l] ∧ r.1.1.sd = none
  no : r.1.2 = .no → r.1.1.found = st.found
  lk : r.2.2.2 = lk + (r.1.1.paper.length : Int) - (st.paper.length : Int)
theorem step_still {W n : Nat} {kvs : List (Str × Bool)} {lm : List Str} {sdm : Option (List Nat)} {lk : Int} {st : WkS} {due : List Str} {cl : List (List Nat)} (h : Wlk due due st lm cl) (p : Pap W due st) (ok : WkOk W lm sdm st n) (hr : st.sd = none → st.rest ≠ []) (hW : 1 ≤ W) (hd : ∀ x ∈ due, Num W x) : Stll W due st lk (stepF W kvs lm lk st) := by
  obtain ⟨kd, rest, sd, found, paper⟩ := st
  cases sd with
  | none =>
    obtain ⟨r, g, e, hg, hb⟩ := ok.none_ (hr rfl)
    dsimp only at e
    subst e
    have e0 : stepF W kvs lm lk ⟨kd, r ++ [g], none, found, paper⟩ = (overF W ⟨kd, r, none, found, paper⟩ g, begF kvs kd g, some g, lk) := by
      unfold stepF
      simp
    rw [e0]
    obtain ⟨t1, t2, t3, t4⟩ := over_tld (W := W) (st := ⟨kd, r, none, found, paper⟩) (l := g)
    exact ⟨pap_over (st := ⟨kd, r, none, found, paper⟩) (l := g) ⟨p.pa, p.fb, p.pb, p.nl⟩ hW hg, fun z => absurd z t1, t2, t3, by rw [show (overF W ⟨kd, r, none, found, paper⟩ g).1.paper = paper from t4]; show lk = lk + (paper.length : Int) - (paper.length : Int); omega⟩
  | some l =>
    obtain ⟨_, hlt, hlb, hbeg⟩ := ok.said l rfl
    have lc : ∀ c : Nat, (l ++ [c]).length ≤ W := fun c => by rw [List.length_append, List.length_singleton]; omega
    have hin : l ∈ rest ++ [l] := by simp
    have ev : l = [] ∨ ∃ x ∈ due, starts l x = true := h.pe l hin
    have plen : ∀ (z o : Bool), lk + 1 = lk + ((paper ++ [(l, z, o)]).length : Int) - (paper.length : Int) := fun z o => by
      rw [List.length_append]
      show lk + 1 = lk + ((paper.length + 1 : Nat) : Int) - (paper.length : Int)
      omega
    have fin : ∀ (rest' : List (List Nat)) (z o : Bool) (b : Nat) (lm' : List Str), (∀ q ∈ rest, q ∈ rest') → (∀ q ∈ rest', q ∈ rest ∨ ∃ b, q = l ++ [b]) → Stll W due ⟨kd, rest, some l, found, paper⟩ lk (overF W ⟨kd, rest', some l, found, paper ++ [(l, z, o)]⟩ (l ++ [b]), lm', some (l ++ [b]), lk + 1) := fun rest' z o b lm' h1 h2 => by
      obtain ⟨t1, t2, t3, t4⟩ := over_tld (W := W) (st := ⟨kd, rest', some l, found, paper ++ [(l, z, o)]⟩) (l := l ++ [b])
      refine ⟨pap_over (st := ⟨kd, rest', some l, found, paper ++ [(l, z, o)]⟩) (pap_look (sd := some (l ++ [b])) p hlt ev (fun q hq => ?_) fun q hq => List.mem_append_left _ (h1 q hq)) hW (lc b), fun y => absurd y t1, t2, t3, ?_⟩
      · rcases List.mem_append.mp hq with y | y
        · exact h2 q y
        · exact .inr ⟨b, List.mem_singleton.mp y⟩
      · show lk + 1 = lk + ((overF W ⟨kd, rest', some l, found, paper ++ [(l, z, o)]⟩ (l ++ [b])).1.paper.length : Int) - (paper.length : Int)
        rw [t4]
        exact plen z o
    unfold stepF
    dsimp only
    cases hz : lm.any (sg l.length 48) <;> cases ho : lm.any (sg l.length 49)
    · rw [if_pos ⟨rfl, rfl⟩]
      have none_ : ∀ x ∈ due, starts l x = true → False := fun x hx e => by
        have hm := h.tl l rfl x hx e
        obtain ⟨c, hc, g1, _⟩ := num_at (hd x hx) hlt
        rcases hc with rfl | rfl
        · exact List.any_eq_false.mp hz x hm (decide_eq_true g1)
        · exact List.any_eq_false.mp ho x hm (decide_eq_true g1)
      have e0 : l = [] := ev.resolve_right fun ⟨x, hx, e⟩ => none_ x hx e
      have ed : due = [] := by
        cases hdue : due with
        | nil => rfl
        | cons x r => exact (none_ x (by rw [hdue]; simp) (by rw [e0]; exact decide_eq_true rfl)).elim
      have er : rest = [] := by
        cases hrest : rest with
        | nil => rfl
        | cons g r =>
          have po := h.po
          have ep : pend ⟨kd, rest, some l, found, paper⟩ = rest ++ [l] := rfl
          rw [ep] at po
          have := (List.pairwise_append.mp po).2.2 g (by rw [hrest]; simp) l (by simp)
          rw [e0] at this
          exact (LtP.nilL this).elim
      refine ⟨pap_look (sd := none) p hlt ev (fun q hq => .inl hq) fun q hq => hq, fun _ => ⟨ed, er, rfl⟩, fun l' y => (by cases y), fun y => (by cases y), plen _ _⟩
    · rw [if_neg (fun z => Bool.noConfusion z.2), if_neg Bool.false_ne_true, if_neg (fun z => Bool.noConfusion z.1)]
      exact fin rest false true 49 _ (fun q hq => hq) fun q hq => .inl hq
    · rw [if_neg (fun z => Bool.noConfusion z.1), if_pos rfl, if_neg (fun z => Bool.noConfusion z.2)]
      exact fin rest true false 48 _ (fun q hq => hq) fun q hq => .inl hq
    · rw [if_neg (fun z => Bool.noConfusion z.1), if_pos rfl, if_pos ⟨rfl, rfl⟩]
      exact fin (rest ++ [l ++ [49]]) true true 48 _ (fun q hq => List.mem_append_left _ hq) fun q hq => (List.mem_append.mp hq).imp id fun y => ⟨49, List.mem_singleton.mp y⟩
/-- a round -/
structure Rnd (names : List Str) (W : Nat) (due : List Str) (st : WkS) (lk : Int) (r : (WkS × Tld) × List Str × Option (List Nat) × Int) : Prop where
  wl : ∃ cl, Wlk due due r.1.1 r.2.1 cl
  sl : Stll W due st lk r
  iv : ∃ b, InvQ names W (r.1.1, r.2) b
  ms : mv W names r.1.1 < mv W names st
  kd : r.1.1.kd = st.kd
theorem round_still {W : Nat} {kvs : List (Str × Bool)} {names due : List Str} (hW : 1 ≤ W) (hd : ∀ x ∈ due, Num W x) (hk : kvs.length ≤ 41) (hkn : ∀ x ∈ kvs.map (·.1), x ∈ names) (hnn : ∀ x ∈ names, Num W x) :
    ∀ {n : Nat} {lm : List Str} {sdm : Option (List Nat)} {lk : Int} {st : WkS} {b : Nat} {cl : List (List Nat)}, Wlk due due st lm cl → Pap W due st → InvQ names W (st, lm, sdm, lk) b → (st.sd = none → st.rest ≠ []) → (∀ x, x ∈ lisB kvs (decide (st.kd = "all")) ↔ x ∈ due) →
      Rnd names W due st lk (roundF W kvs n lm lk st) ∧ ((∀ l, st.sd = some l → W ≤ l.length + n + 1) → (st.sd = none → W ≤ n) → (roundF W kvs n lm lk st).1.2 ≠ .no) := by
  intro n
  induction n with
  | zero =>
    intro lm sdm lk st b cl h p iv hr he
    obtain ⟨cl', w1, _⟩ := wlk_step (kvs := kvs) (lk := lk) h iv.ok hr hW hd hd (fun x hx => (he x).mp hx) fun x hx => (he x).mpr hx
    have s1 := step_still (kvs := kvs) (lk := lk) h p iv.ok hr hW hd
    have i1 := inv_step (kvs := kvs) iv hr hk hkn hnn
    refine ⟨⟨⟨cl', w1⟩, s1, ⟨_, i1.1⟩, i1.2, step_kd⟩, fun q1 q2 z => ?_⟩
    obtain ⟨l', e1, e2, e3⟩ := step_no z
    cases hs : st.sd with
    | none => have := q2 hs; omega
    | some l =>
      have := q1 l hs
      have := e3 l hs
      omega
  | succ n ih =>
    intro lm sdm lk st b cl h p iv hr he
    obtain ⟨cl', w1, _⟩ := wlk_step (kvs := kvs) (lk := lk) h iv.ok hr hW hd hd (fun x hx => (he x).mp hx) fun x hx => (he x).mpr hx
    have s1 := step_still (kvs := kvs) (lk := lk) h p iv.ok hr hW hd
    have i1 := inv_step (kvs := kvs) iv hr hk hkn hnn
    by_cases hno : (stepF W kvs lm lk st).1.2 = .no
    · rw [round_no hno]
      obtain ⟨l', e1, e2, e3⟩ := step_no hno
      have hc : (stepF W kvs lm lk st).1.1.sd = none → (stepF W kvs lm lk st).1.1.rest ≠ [] := fun z => by rw [e1] at z; cases z
      have i2 : InvQ names W ((stepF W kvs lm lk st).1.1, (stepF W kvs lm lk st).2.1, (stepF W kvs lm lk st).2.2.1, (stepF W kvs lm lk st).2.2.2) (b + 1) := i1.1
      have i3 : mv W names (stepF W kvs lm lk st).1.1 < mv W names st := i1.2
      obtain ⟨⟨r1, r2, r3, r4, r5⟩, r6⟩ := ih (sdm := (stepF W kvs lm lk st).2.2.1) w1 s1.pp i2 hc (fun x => by rw [step_kd]; exact he x)
      have fs := s1.no hno
      have lk1 := s1.lk
      have lk2 := r2.lk
      refine ⟨⟨r1, ⟨r2.pp, r2.lost, fun l z => by rw [← fs]; exact r2.fnd l z, fun z => (r2.no z).trans fs, by omega⟩, r3, Nat.lt_trans r4 i3, r5.trans step_kd⟩, fun q1 q2 => r6 (fun l e => ?_) fun e => by rw [e1] at e; cases e⟩
      rw [e1] at e
      cases e
      cases hs : st.sd with
      | none =>
        have := q2 hs
        omega
      | some l =>
        have := q1 l hs
        have := e3 l hs
        omega
    · rw [round_yes hno]
      exact ⟨⟨⟨cl', w1⟩, s1, ⟨_, i1.1⟩, i1.2, step_kd⟩, fun _ _ => hno⟩
/-- what is found is due, in its order -/
theorem due_split {W : Nat} {due : List Str} {st : WkS} {lm : List Str} {cl : List (List Nat)} (h : Wlk due due st lm cl) (hd : ∀ x ∈ due, Num W x) (srt : sortedS due = true) (nd : due.Nodup) : due = st.found.map S ++ due.filter (fun x => decide (x ∉ st.found.map S)) := by
  have finj : ∀ {a b : List Nat}, S a = S b → a = b := fun e => by
    have := congrArg (fun z : Str => z.cps.toList) e
    simpa [S_list] using this
  have fnd : (st.found.map S).Nodup := List.Pairwise.map S (fun a b h e => h.ne (finj e)) h.ff
  have sub : ∀ x ∈ st.found.map S, x ∈ due := fun x hx => by
    obtain ⟨y, hy, rfl⟩ := List.mem_map.mp hx
    exact h.fe y hy
  refine sorted_eq srt (pw_sorted (List.pairwise_append.mpr ⟨List.Pairwise.map S (fun a b h => h.le) h.ff, (sorted_pw srt).filter _, fun y hy x hx => ?_⟩)) ?_
  · obtain ⟨l, hl, rfl⟩ := List.mem_map.mp hy
    obtain ⟨hx1, hx2⟩ := List.mem_filter.mp hx
    rcases h.ty x hx1 with ⟨z, hz, e⟩ | ⟨p, hp, e⟩
    · exact absurd (List.mem_map.mpr ⟨z, hz, e⟩) (of_decide_eq_true hx2)
    · obtain ⟨a, rfl, _⟩ := starts_num e (hd x hx1)
      exact (h.fp l hl p hp).extR.le
  · refine (List.perm_ext_iff_of_nodup nd (List.nodup_append.mpr ⟨fnd, nd.filter _, fun a ha b hb e => absurd (e ▸ ha) (of_decide_eq_true (List.mem_filter.mp hb).2)⟩)).mpr fun x => ?_
    rw [List.mem_append, List.mem_filter, decide_eq_true_eq]
    constructor
    · intro hx
      by_cases q : x ∈ st.found.map S
      · exact .inl q
      · exact .inr ⟨hx, q⟩
    · rintro (q | q)
      · exact sub x q
      · exact q.1
theorem due_end {W : Nat} {due : List Str} {st : WkS} {lm : List Str} {cl : List (List Nat)} (h : Wlk due due st lm cl) (hd : ∀ x ∈ due, Num W x) (srt : sortedS due = true) (nd : due.Nodup) (he : pend st = []) : due = st.found.map S := by
  have e := due_split h hd srt nd
  have : due.filter (fun x => decide (x ∉ st.found.map S)) = [] := List.filter_eq_nil_iff.mpr fun x hx z => by
    rcases h.ty x hx with ⟨y, hy, e⟩ | ⟨p, hp, _⟩
    · exact of_decide_eq_true z (List.mem_map.mpr ⟨y, hy, e⟩)
    · rw [he] at hp
      cases hp
  rw [this, List.append_nil] at e
  exact e
/-- the paper at the end -/
theorem pap_end {W : Nat} {due : List Str} {st : WkS} {lm : List Str} {cl : List (List Nat)} (h : Wlk due due st lm cl) (p : Pap W due st) (hd : ∀ x ∈ due, Num W x) (srt : sortedS due = true) (nd : due.Nodup) (he : pend st = []) : ((st.paper.map (·.1)).map S).Nodup ∧ ∀ y, y ∈ (st.paper.map (·.1)).map S ↔ MetS W due y := by
  have finj : ∀ {a b : List Nat}, S a = S b → a = b := fun e => by
    have := congrArg (fun z : Str => z.cps.toList) e
    simpa [S_list] using this
  refine ⟨List.Pairwise.map S (fun a b h e => h (finj e)) h.pp, fun y => ?_⟩
  have de := due_end h hd srt nd he
  constructor
  · intro hy
    obtain ⟨l, hl, rfl⟩ := List.mem_map.mp hy
    obtain ⟨z, hz, rfl⟩ := List.mem_map.mp hl
    obtain ⟨a, b⟩ := p.pa z hz
    rcases b with b | ⟨x, hx, b⟩
    · exact .inl (by rw [b]; exact empty_S.symm)
    · exact .inr ⟨x, hx, z.1.length, a, by rw [of_decide_eq_true b]⟩
  · rintro (e | ⟨x, hx, i, hi, e⟩)
    · rcases p.nl with q | q
      · rw [he] at q
        cases q
      · exact List.mem_map.mpr ⟨_, q, by rw [e]; exact empty_S.symm⟩
    · rw [de] at hx
      obtain ⟨l, hl, rfl⟩ := List.mem_map.mp hx
      rw [S_list] at e
      exact List.mem_map.mpr ⟨_, p.fb l hl i hi, e.symm⟩
end B

set_option Elab.async false
set_option linter.all false
set_option maxRecDepth 100000
set_option maxHeartbeats 4000000
namespace B
open PySem PySem.Spec PyProof.Rows L2
open SX (S)
theorem FrT.drop {K : PySem.W.Frag} {U T : List Addr} {H H' : Hp} (f : FrT K U H H') (h : ∀ x ∈ U, x ∈ T ∨ H x = none) : FrT K T H H' := ⟨fun b o e t n => f.k b o e t fun z => (h b z).elim n (fun q => absurd (q.symm.trans e) (by simp)), f.b, f.t⟩
theorem eqv_strs {xs : List Str} (h : ∀ x ∈ xs, PyData.strOk x = true) : PyData.eqv (.list (xs.map .str)) (.list (xs.map .str)) = true := by
  have q := shaped_strs h
  have q' : ((PyData.list (xs.map .str)).canLay0 && decide ((PyData.list (xs.map .str)).depth ≤ 64)) = true := q
  rw [Bool.and_eq_true] at q'
  exact SeqAt.eqv_refl _ q'.1
section
variable {X : Cx}
def rSortedAny (K : PySem.W.Frag) : List V → Hp → VK → Prop := fun vs H Q => ∃ (a : Addr) (xs : List Str), vs = [V.ref a] ∧ SqL K H a (xs.map V.str) ∧ xs.length ≤ sizeLine ∧ ∀ (ys : List Str) (p : Addr), ys.Perm xs → sortedS ys = true → H p = none → Q (.ref p) (upd H p (.lst (ys.map V.str)))
theorem cr_sortedAny : CallR X (.builtin "sorted") (rSortedAny X.K) := by
  intro pins s σ H vs us Q I r h
  obtain ⟨a, xs, rfl, hs, big, q⟩ := h
  rw [Vals.ref1 r]
  obtain ⟨its, rv, hl, _⟩ := I.list hs
  have il := rv.length
  rw [List.length_map] at il
  refine sorted_strsAny hl.isList rv.strs (by rw [← il]; exact big) fun out ys h1 h2 h3 => ?_
  obtain ⟨c, hc⟩ := sortedAll_at s.heap its out
  refine ⟨.ref _, upd H (s.heap.objs.size + 1) (.lst (ys.map V.str)), I.laid (t' := s.toks) (fun _ _ => sortedAll_old) (Nat.le_succ _) ⟨?_, out.toList, c, vals_of_strs h1, hc⟩, rfl, q ys _ h2 h3 (I.hok.fresh (Nat.le_succ _))⟩
  rw [List.length_map, h2.length_eq]
  exact big
end
section
variable {P : Program} {w : World} {K : PySem.W.Frag} {mg : Str → Option Value} {base : Heap}
abbrev AL2 (K : PySem.W.Frag) : V → V → Hp → Prop := AlStep K (AlStep K (AlStep K fun _ _ _ => False))
theorem c_lalike (T : Txt P w K mg base) : CalX CX0 P w K mg base 4 "_law_alike" (spAl (AL2 K)) :=
  alike_step T (steady_step (steady_step steady0)) (alike_step T (steady_step steady0) (alike_step T steady0 (alike0 T)))
end
/-- all steps on a still wire -/
structure Als (names : List Str) (W : Nat) (due : List Str) (q r : Q4) : Prop where
  wl : ∃ cl, Wlk due due r.1 r.2.1 cl
  pp : Pap W due r.1
  iv : ∃ b, InvQ names W r b
  lk : r.2.2.2 = q.2.2.2 + (r.1.paper.length : Int) - (q.1.paper.length : Int)
theorem all_still {W : Nat} {kvs : List (Str × Bool)} {names due : List Str} (hW : 1 ≤ W) (hd : ∀ x ∈ due, Num W x) (hk : kvs.length ≤ 41) (hkn : ∀ x ∈ kvs.map (·.1), x ∈ names) (hnn : ∀ x ∈ names, Num W x) :
    ∀ {n : Nat} {q : Q4} {b : Nat} {cl : List (List Nat)}, Wlk due due q.1 q.2.1 cl → Pap W due q.1 → InvQ names W q b → (∀ x, x ∈ lisB kvs (decide (q.1.kd = "all")) ↔ x ∈ due) → Als names W due q (allF W kvs n q) := by
  intro n
  induction n with
  | zero => exact fun {q b cl} h p iv he => ⟨⟨cl, h⟩, p, ⟨b, iv⟩, by show q.2.2.2 = q.2.2.2 + (q.1.paper.length : Int) - (q.1.paper.length : Int); omega⟩
  | succ n ih =>
    intro q b cl h p iv he
    by_cases hst : q.1.sd = none ∧ q.1.rest = []
    · rw [all_stop hst]
      exact ⟨⟨cl, h⟩, p, ⟨b, iv⟩, by omega⟩
    · rw [all_go hst]
      have hr : q.1.sd = none → q.1.rest ≠ [] := fun a b => hst ⟨a, b⟩
      obtain ⟨cl', w1, _⟩ := wlk_step (kvs := kvs) (lk := q.2.2.2) h iv.ok hr hW hd hd (fun x hx => (he x).mp hx) fun x hx => (he x).mpr hx
      have s1 := step_still (kvs := kvs) (lk := q.2.2.2) h p iv.ok hr hW hd
      have i1 := inv_step (kvs := kvs) iv hr hk hkn hnn
      have r := ih (q := stepQ W kvs q) w1 s1.pp i1.1 (fun x => by
        show x ∈ lisB kvs (decide ((stepF W kvs q.2.1 q.2.2.2 q.1).1.1.kd = "all")) ↔ _
        rw [step_kd]
        exact he x)
      have l1 := r.lk
      have l2 := s1.lk
      refine ⟨r.wl, r.pp, r.iv, ?_⟩
      show (allF W kvs n (stepQ W kvs q)).2.2.2 = q.2.2.2 + ((allF W kvs n (stepQ W kvs q)).1.paper.length : Int) - (q.1.paper.length : Int)
      have e1 : (stepQ W kvs q).2.2.2 = (stepF W kvs q.2.1 q.2.2.2 q.1).2.2.2 := rfl
      have e2 : (stepQ W kvs q).1 = (stepF W kvs q.2.1 q.2.2.2 q.1).1.1 := rfl
      rw [e1, e2] at l1
      omega
theorem all_lm {W n : Nat} {kvs : List (Str × Bool)} {lm : List Str} {sdm : Option (List Nat)} {lk : Int} {st : WkS} (h : st.sd = none) (hr : st.rest ≠ []) : allF W kvs (n + 1) (st, lm, sdm, lk) = allF W kvs (n + 1) (st, [], none, lk) := by
  have e : stepF W kvs lm lk st = stepF W kvs [] lk st := by
    obtain ⟨kd, rest, sd, found, paper⟩ := st
    dsimp only at h
    subst h
    rfl
  rw [all_go (q := (st, lm, sdm, lk)) (fun z => hr z.2), all_go (q := (st, [], none, lk)) (fun z => hr z.2)]
  dsimp only
  rw [e]
/-- what a new walk finds -/
theorem all_new {W : Nat} {kvs : List (Str × Bool)} {names due : List Str} {kd : Str} {lm : List Str} {sdm : Option (List Nat)} {lk : Int} (hW : 1 ≤ W) (hW2 : W ≤ 12) (hn : names ≠ []) (hl : names.length ≤ 41) (hd : ∀ x ∈ due, Num W x) (srt : sortedS due = true) (nd : due.Nodup) (hk : kvs.length ≤ 41) (hkn : ∀ x ∈ kvs.map (·.1), x ∈ names) (hnn : ∀ x ∈ names, Num W x)
    (he : ∀ x, x ∈ lisB kvs (decide (kd = "all")) ↔ x ∈ due) {R : Q4} (eR : R = allF W kvs (meas W ⟨kd, [[]], none, [], []⟩) (⟨kd, [[]], none, [], []⟩, lm, sdm, lk)) (h1 : R.1.sd = none) (h2 : R.1.rest = []) :
    R.1.found.map S = due ∧ R.2.1.length ≤ 41 ∧ ∃ m : Nat, R.2.2.2 = lk + (m : Int) ∧ ∀ ys, MetL W due ys → ys.length = m := by
  have hp : 0 < meas W ⟨kd, [[]], none, [], []⟩ := meas_pos (fun z => by cases z.2)
  obtain ⟨m0, hm0⟩ : ∃ m0, meas W ⟨kd, [[]], none, [], []⟩ = m0 + 1 := ⟨meas W ⟨kd, [[]], none, [], []⟩ - 1, by omega⟩
  rw [hm0, all_lm rfl (by simp)] at eR
  have i0 := (inv_new (kd := kd) hn hW2 hl).1
  have iv : InvQ names W (⟨kd, [[]], none, [], []⟩, [], none, lk) 1 := ⟨i0.ok, i0.cn, i0.sub, i0.beg, i0.len, i0.mz⟩
  have A := all_still (n := m0 + 1) (kvs := kvs) hW hd hk hkn hnn (q := (⟨kd, [[]], none, [], []⟩, [], none, lk)) wlk_new pap_new iv he
  rw [← eR] at A
  obtain ⟨⟨cl, wl⟩, pp, ⟨b, iv2⟩, l⟩ := A
  have ep : pend R.1 = [] := by
    obtain ⟨⟨k1, rest, sd, fo, pa⟩, R2⟩ := R
    dsimp only at h1 h2
    subst h1
    exact h2
  have df := due_end wl hd srt nd ep
  obtain ⟨q1, q2⟩ := pap_end wl pp hd srt nd ep
  refine ⟨df.symm, iv2.len, R.1.paper.length, ?_, fun ys hy => ?_⟩
  · have e : R.2.2.2 = lk + (R.1.paper.length : Int) - ((0 : Nat) : Int) := l
    omega
  · have pm := (List.perm_ext_iff_of_nodup q1 hy.nd).mpr fun y => (q2 y).trans (hy.mem y).symm
    have := pm.length_eq
    rw [List.length_map, List.length_map] at this
    exact this.symm
end B

set_option Elab.async false
set_option linter.all false
set_option maxRecDepth 100000
set_option maxHeartbeats 4000000
namespace B
open PySem PySem.Spec PyProof.Rows L2
open SX (S)
/-! ### the fewest looks of a paper -/
theorem putB_len {kvs : List (Str × Bool)} {x : Str} {b : Bool} : (putB kvs x b).length ≤ kvs.length + 1 := by
  unfold putB
  split
  · rw [List.length_map]
    exact Nat.le_succ _
  · rw [List.length_append]
    exact Nat.le_refl _
theorem flt_go {H : Hp} {D : Addr} {xs : List Str} {f : Str → Bool} {i : Nat} {x : Str} (hx : xs[i]? = some x) (hl : xs.length ≤ 100000) (c : f x = true) : ∃ acc, (upd H D (.lst (((xs.take i).filter f).map V.str))) D = some (.lst acc) ∧ acc.length < sizeLine ∧ upd (upd H D (.lst (((xs.take i).filter f).map V.str))) D (.lst (acc ++ [V.str x])) = upd H D (.lst (((xs.take (i + 1)).filter f).map V.str)) := by
  refine ⟨_, upd_same, ?_, ?_⟩
  · rw [List.length_map]
    have h1 := List.length_filter_le f (xs.take i)
    rw [List.length_take] at h1
    exact Nat.lt_of_le_of_lt (show _ ≤ 100000 by omega) (by decide)
  · rw [upd_upd, filter_step _ hx, if_pos c, List.map_append]
    rfl
theorem flt_no {H : Hp} {D : Addr} {xs : List Str} {f : Str → Bool} {i : Nat} {x : Str} (hx : xs[i]? = some x) (c : f x = false) : upd H D (.lst (((xs.take i).filter f).map V.str)) = upd H D (.lst (((xs.take (i + 1)).filter f).map V.str)) := by
  rw [filter_step _ hx, if_neg (by rw [c]; exact Bool.false_ne_true), List.append_nil]
/-- whether a look at a beginning may not be left out, by the texts that numbers begin with -/
def needF (W : Nat) (kvs : List (Str × Bool)) (b : Str) : Bool := !(hasK kvs (b ++ "0") && hasK kvs (b ++ "1")) || decide ((b.length : Int) = (W : Int) - 1)
section
variable {P : Program} {w : World} {K : PySem.W.Frag} {mg : Str → Option Value} {base : Heap}
def spNeed : Sp := fun vs H Q _ => ∃ (W : Nat) (d : Addr) (kvs : List (Str × Bool)) (b : Str), vs = [.int W, .ref d, .str b] ∧ H d = some (.dK (kv kvs)) ∧ b.length ≤ 12 ∧ Q (.bl (needF W kvs b)) H
theorem met_len {W : Nat} {xs ms : List Str} (h : MetL W xs ms) : ms.length ≤ 1 + xs.length * W := by
  have len : ∀ l : List Str, (l.flatMap fun x => (List.range W).map fun i => S (x.cps.toList.take i)).length = l.length * W := fun l => by
    induction l with
    | nil => simp
    | cons x r ih => rw [List.flatMap_cons, List.length_append, ih, List.length_map, List.length_range, List.length_cons, Nat.succ_mul, Nat.add_comm]
  have := nodup_le h.nd (ys := "" :: xs.flatMap fun x => (List.range W).map fun i => S (x.cps.toList.take i)) fun y hy => by
    rcases (h.mem y).mp hy with e | ⟨x, hx, i, hi, e⟩
    · exact List.mem_cons.mpr (.inl e)
    · exact List.mem_cons.mpr (.inr (List.mem_flatMap.mpr ⟨x, hx, List.mem_map.mpr ⟨i, List.mem_range.mpr hi, e.symm⟩⟩))
  rw [List.length_cons, len] at this
  omega
/-- reached are the texts that some begin with, whole numbers, too -/
def ReaS (W : Nat) (xs : List Str) (y : Str) : Prop := ∃ x ∈ xs, ∃ i, i < W + 1 ∧ y = S (x.cps.toList.take i)
/-- told of a list of numbers: of the beginnings met those that are needed -/
def spFew (K : PySem.W.Frag) : Sp := fun vs H Q _ => ∃ (W : Nat) (p : Addr) (xs : List Str), vs = [.int W, .ref p] ∧ H p = some (.lst (xs.map V.str)) ∧ (∀ x ∈ xs, Num W x) ∧ 1 ≤ W ∧ W ≤ 12 ∧ xs.length ≤ 41 ∧ Tb K H ∧
  ∀ (ms : List Str) (kvs : List (Str × Bool)) (q : Addr) (H' : Hp), MetL W xs ms → (∀ y, hasK kvs y = true ↔ ReaS W xs y) → H q = none → H' q = some (.lst ((ms.filter (needF W kvs)).map V.str)) → FrT K [] H H' → Q (.ref q) H'
end
end B

set_option Elab.async false
set_option linter.all false
set_option maxRecDepth 100000
set_option maxHeartbeats 4000000
namespace B
open PySem PySem.Spec PyProof.Rows L2
open SX (S)
/-! ### the texts that looks' beginnings begin with -/
def OpenS (ps : List (List Nat × Bool × Bool)) (y : Str) : Prop := ∃ q ∈ ps, ∃ i, i ≤ q.1.length ∧ y = S (q.1.take i)
section
variable {P : Program} {w : World} {K : PySem.W.Frag} {mg : Str → Option Value} {base : Heap}
def spOpen (K : PySem.W.Frag) : Sp := fun vs H Q _ => ∃ (p : Addr) (ps : List (List Nat × Bool × Bool)), vs = [.ref p] ∧ PapAt H p ps ∧ (∀ q ∈ ps, q.1.length ≤ 12) ∧ ps.length ≤ 1000 ∧
  ∀ (kvs : List (Str × Bool)) (D : Addr) (H' : Hp), (∀ y, hasK kvs y = true ↔ OpenS ps y) → H D = none → H' D = some (.dK (kv kvs)) → Frm [] H H' → Q (.ref D) H'
end
end B

set_option Elab.async false
set_option linter.all false
set_option maxRecDepth 100000
set_option maxHeartbeats 4000000
namespace B
open PySem PySem.Spec PyProof.Rows L2
open SX (S)
/-! ### sets of things behind a beginning at which nobody looked -/
/-- a list of lists of texts -/
def SetsAt (H : Hp) (p : Addr) (ss : List (List Str)) : Prop := ∃ qs : List Addr, H p = some (.lst (qs.map V.ref)) ∧ qs.length = ss.length ∧ ∀ (i : Nat) (q : Addr) (s : List Str), qs[i]? = some q → ss[i]? = some s → H q = some (.lst (s.map V.str))
theorem SetsAt.keep {S : List Addr} {H H' : Hp} {p : Addr} {ss : List (List Str)} (h : SetsAt H p ss) (f : Frm [] H H') : SetsAt H' p ss := by
  obtain ⟨qs, a, b, c⟩ := h
  exact ⟨qs, f.k _ _ a rfl (by simp), b, fun i q s h1 h2 => f.k _ _ (c i q s h1 h2) rfl (by simp)⟩
def unlF (W : Nat) (l : List Nat) : List (List Str) := if l.length = W then [[], [S l]] else [[], [S (l ++ List.replicate (W - l.length) 48)], [S (l ++ List.replicate (W - l.length) 49)]]
theorem ones_ok : ∀ n : Nat, n ≤ 12 → PySem.MulOk "1" (n : Int) := fun n hn => by
  have h := zeros_ok n hn
  exact h
theorem ones_is : ∀ n : Nat, n ≤ 12 → Txt.mul "1" (n : Int) = S (List.replicate n 49) := fun n hn => by
  have z : (List.range 13).all (fun n => decide (Txt.mul "1" ((n : Nat) : Int) = S (List.replicate n 49))) = true := by decide +kernel
  exact of_decide_eq_true (List.all_eq_true.mp z n (List.mem_range.mpr (by omega)))
theorem new_in {H H' : Hp} {p : Addr} {ps : List Addr} (e0 : H' p = some (.lst (ps.map V.ref))) (h : ∀ p ∈ ps, H p = none) : ∀ xs, H' p = some (.lst xs) → ∀ q : Addr, V.ref q ∈ xs → H q = none := fun xs e q hq => by
  rw [e0] at e
  rw [← HO.lst.inj (Option.some.inj e)] at hq
  obtain ⟨p, hp, e2⟩ := List.mem_map.mp hq
  cases e2
  exact h _ hp
theorem all2 {H : Hp} {a b : Addr} (h1 : H a = none) (h2 : H b = none) : ∀ p ∈ [a, b], H p = none := fun p hp => by
  rcases List.mem_cons.mp hp with rfl | hp
  · exact h1
  · rw [List.mem_singleton.mp hp]
    exact h2
theorem all3 {H : Hp} {a b c : Addr} (h1 : H a = none) (h2 : H b = none) (h3 : H c = none) : ∀ p ∈ [a, b, c], H p = none := fun p hp => by
  rcases List.mem_cons.mp hp with rfl | hp
  · exact h1
  · exact all2 h2 h3 p hp
section
variable {P : Program} {w : World} {K : PySem.W.Frag} {mg : Str → Option Value} {base : Heap}
def spUnl : Sp := fun vs H Q _ => ∃ (W : Nat) (l : List Nat), vs = [.int W, .str (S l)] ∧ l.length ≤ W ∧ W ≤ 12 ∧ ∀ (p : Addr) (H' : Hp), H p = none → SetsAt H' p (unlF W l) → (∀ xs, H' p = some (.lst xs) → ∀ q : Addr, V.ref q ∈ xs → H q = none) → Frm [] H H' → Q (.ref p) H'
end
end B

set_option Elab.async false
set_option linter.all false
set_option maxRecDepth 100000
set_option maxHeartbeats 4000000
namespace B
open PySem PySem.Spec PyProof.Rows L2
open SX (S)
/-! ### within a comprehension: the fragment by its own name -/
section
variable {X : Cx} {K : PySem.W.Frag}
theorem pi_listK {tg l : Expr} {tl : TE} (hK : X.K = K) (h : PE X l tl) : PI X tg l (iList K tl) := by
  subst hK
  exact pi_list h
theorem pt_truthK {a : Expr} {ta : TE} (hK : X.K = K) (h : PE X a ta) (e : ∀ whole : Sem Value, PySem.isTrue a X.env whole = (do
          let v ← whole
          standAt a.pos
          holding [v] (truthy v))) : PT X a fun σ H Q => ta σ H fun x H' => ∃ k, TruV K x H' k ∧ Q k H' := by
  subst hK
  exact pt_truth h e
theorem pe_notTK {a : Expr} {ta : TE} {pos : Pos} (hK : X.K = K) (h : PE X a ta) (e : ∀ whole : Sem Value, PySem.isTrue a X.env whole = (do
          let v ← whole
          standAt a.pos
          holding [v] (truthy v)) := by intro _; rfl) : PE X (.UnaryOp .Not a pos) (tNotT K ta) := by
  subst hK
  exact pe_notT h
theorem op_eqDK (hK : X.K = K) (hu : X.A.units + 64 < cLine) : OpR X (compareOp .Eq) (rEqD K) := by
  subst hK
  exact op_eqD hu
theorem op_neDK (hK : X.K = K) (hu : X.A.units + 64 < cLine) : OpR X (compareOp .NotEq) (rNeD K) := by
  subst hK
  exact op_neD hu
theorem op_catTK (hK : X.K = K) : OpR X (binaryOp .Add) (rCatT K) := by
  subst hK
  exact op_catT
theorem sl_listK (hK : X.K = K) : SlR X (rSlL K) := by
  subst hK
  exact sl_list
theorem sl_tupK (hK : X.K = K) : SlR X (rSlT K) := by
  subst hK
  exact sl_tup
end
end B

set_option Elab.async false
set_option linter.all false
set_option maxRecDepth 100000
set_option maxHeartbeats 4000000
namespace B
open PySem PySem.Spec PyProof.Rows L2
open SX (S)
/-! ### what looks say of each text -/
/-- what a look says of a text -/
def tol1 (q : List Nat × Bool × Bool) (y : Str) : List Bool := (if y = S (q.1 ++ [48]) then [q.2.1] else []) ++ (if y = S (q.1 ++ [49]) then [q.2.2] else [])
def toldF (ps : List (List Nat × Bool × Bool)) (y : Str) : List Bool := ps.flatMap (tol1 · y)
/-- a dict of texts, of each a list of truths; the lists new since H0 -/
structure TdAt (H0 H : Hp) (D : Addr) (f : Str → List Bool) : Prop where
  d : ∃ kvs : List (Key × V), H D = some (.dK kvs) ∧ (∀ y : Str, (f y = [] ∧ valV kvs (.inr y) = none) ∨ (f y ≠ [] ∧ ∃ q, valV kvs (.inr y) = some (.ref q) ∧ H0 q = none ∧ H q = some (.lst ((f y).map V.bl)))) ∧ (∀ (y z : Str) (q : Addr), valV kvs (.inr y) = some (.ref q) → valV kvs (.inr z) = some (.ref q) → y = z)
theorem TdAt.keep {H0 H H' : Hp} {D : Addr} {f : Str → List Bool} (h : TdAt H0 H D f) (fr : Frm [] H H') : TdAt H0 H' D f := by
  obtain ⟨kvs, a, b, c⟩ := h
  refine ⟨kvs, fr.k _ _ a rfl (by simp), fun y => ?_, c⟩
  rcases b y with z | ⟨z, q, q1, q2, q3⟩
  · exact .inl z
  · exact .inr ⟨z, q, q1, q2, fr.k _ _ q3 rfl (by simp)⟩
section
variable {P : Program} {w : World} {K : PySem.W.Frag} {mg : Str → Option Value} {base : Heap}
/-- one more truth of a text -/
theorem told_put {H0 H : Hp} {D : Addr} {f : Str → List Bool} {y0 : Str} {b : Bool} {n : Nat} (hD : H0 D = none) (h : TdAt H0 H D f) (fr : Frm [] H0 H) (hl : ∀ kvs : List (Key × V), H D = some (.dK kvs) → kvs.length ≤ n) (hn : n ≤ 100000) (hf : ∀ y, (f y).length ≤ 100000) {Q : Hp → Prop}
    (k : ∀ H', TdAt H0 H' D (fun y => if y = y0 then f y ++ [b] else f y) → Frm [] H0 H' → (∀ kvs : List (Key × V), H' D = some (.dK kvs) → kvs.length ≤ n + 1) → Q H') :
    ∀ E1 : Addr, H E1 = none → ∃ (kvs : List (Key × V)) (k : Key), (upd H E1 (.lst [])) D = some (.dK kvs) ∧ V.str y0 = kV k ∧ kvs.length < sizeLine ∧
      (∀ v, valV kvs k = some v → ∃ (q : Addr) (acc : List V), v = .ref q ∧ (upd H E1 (.lst [])) q = some (.lst acc) ∧ acc.length < sizeLine ∧ Q (upd (upd H E1 (.lst [])) q (.lst (acc ++ [.bl b])))) ∧
      (valV kvs k = none → (upd (upd H E1 (.lst [])) D (.dK (putK kvs k (.ref E1)))) E1 = some (.lst []) ∧ Q (upd (upd (upd H E1 (.lst [])) D (.dK (putK kvs k (.ref E1)))) E1 (.lst [.bl b]))) := by
  intro E1 hE1
  obtain ⟨kvs, a, c, d⟩ := h
  have nDE : D ≠ E1 := ne_of_none a hE1
  have h0E : H0 E1 = none := fr.b _ hE1
  refine ⟨kvs, .inr y0, by rw [upd_ne nDE]; exact a, rfl, Nat.lt_of_le_of_lt (Nat.le_trans (hl kvs a) hn) (by decide), fun v hv => ?_, fun hv => ?_⟩
  · rcases c y0 with z | ⟨z, q, q1, q2, q3⟩
    · rw [z.2] at hv
      cases hv
    · rw [q1] at hv
      obtain rfl := Option.some.inj hv
      have nqE : q ≠ E1 := ne_of_none q3 hE1
      have nqD : q ≠ D := ne_of q3 a (by intro y; cases y)
      refine ⟨q, _, rfl, by rw [upd_ne nqE]; exact q3, by rw [List.length_map]; exact Nat.lt_of_le_of_lt (hf y0) (by decide), k _ ⟨kvs, by rw [upd_ne nqD.symm, upd_ne nDE]; exact a, fun y => ?_, d⟩ ((fr.new h0E).new q2) (fun kvs2 e => ?_)⟩
      · by_cases e : y = y0
        · subst e
          rw [if_pos rfl]
          exact .inr ⟨by simp, q, q1, q2, by rw [upd_same, List.map_append]; rfl⟩
        · rw [if_neg e]
          rcases c y with w | ⟨w, p, p1, p2, p3⟩
          · exact .inl w
          · have npq : p ≠ q := fun z => e (d y y0 q (by rw [← z]; exact p1) q1)
            exact .inr ⟨w, p, p1, p2, by rw [upd_ne npq, upd_ne (ne_of_none p3 hE1)]; exact p3⟩
      · rw [upd_ne nqD.symm, upd_ne nDE, a] at e
        cases e
        exact Nat.le_succ_of_le (hl kvs a)
  · have fy : f y0 = [] := by
      rcases c y0 with z | ⟨z, q, q1, q2, q3⟩
      · exact z.1
      · rw [q1] at hv
        cases hv
    refine ⟨by rw [upd_ne nDE.symm]; exact upd_same, k _ ⟨putK kvs (.inr y0) (.ref E1), by rw [upd_ne nDE]; exact upd_same, fun y => ?_, fun y z q h1 h2 => ?_⟩ (((fr.new h0E).new hD).new h0E) (fun kvs2 e => ?_)⟩
    · rw [valV_put]
      by_cases e : y = y0
      · subst e
        rw [if_pos rfl, if_pos rfl, fy]
        exact .inr ⟨by simp, E1, rfl, h0E, upd_same⟩
      · rw [if_neg e, if_neg (fun z => e (Sum.inr.inj z))]
        rcases c y with w | ⟨w, p, p1, p2, p3⟩
        · exact .inl w
        · exact .inr ⟨w, p, p1, p2, by rw [upd_ne (ne_of_none p3 hE1), upd_ne (ne_of p3 a (by intro y; cases y)), upd_ne (ne_of_none p3 hE1)]; exact p3⟩
    · rw [valV_put] at h1 h2
      have old : ∀ (x : Str), valV kvs (.inr x) = some (.ref E1) → False := fun x hx => by
        rcases c x with w | ⟨w, p, p1, p2, p3⟩
        · rw [w.2] at hx; cases hx
        · rw [p1] at hx
          cases hx
          rw [hE1] at p3
          cases p3
      by_cases e1 : y = y0 <;> by_cases e2 : z = y0
      · rw [e1, e2]
      · subst e1
        rw [if_pos rfl] at h1
        rw [if_neg (fun x => e2 (Sum.inr.inj x))] at h2
        cases h1
        exact (old z h2).elim
      · subst e2
        rw [if_pos rfl] at h2
        rw [if_neg (fun x => e1 (Sum.inr.inj x))] at h1
        cases h2
        exact (old y h1).elim
      · rw [if_neg (fun x => e1 (Sum.inr.inj x))] at h1
        rw [if_neg (fun x => e2 (Sum.inr.inj x))] at h2
        exact d y z q h1 h2
    · rw [upd_ne nDE, upd_same] at e
      cases e
      have := hl kvs a
      unfold putK
      split
      · rw [List.length_map]
        omega
      · rw [List.length_append]
        show kvs.length + 1 ≤ _
        omega
def spTold (K : PySem.W.Frag) : Sp := fun vs H Q _ => ∃ (p : Addr) (ps : List (List Nat × Bool × Bool)), vs = [.ref p] ∧ PapAt H p ps ∧ (∀ q ∈ ps, q.1.length ≤ 12) ∧ ps.length ≤ 100 ∧
  ∀ (D : Addr) (H' : Hp), H D = none → TdAt H H' D (toldF ps) → Frm [] H H' → Q (.ref D) H'
end
end B

set_option Elab.async false
set_option linter.all false
set_option maxRecDepth 100000
set_option maxHeartbeats 4000000
namespace B
open PySem PySem.Spec PyProof.Rows L2
open SX (S)
/-! ### the sets behind a beginning -/
def filtF (ts : List Bool) (ss : List (List Str)) : List (List Str) := ss.filter fun s => !decide (s.isEmpty ∈ ts)
def capF (ss : List (List Str)) : List (List Str) := ss.filter (fun s => s.isEmpty) ++ (ss.filter fun s => !s.isEmpty).take 2
def prodF (a b : List (List Str)) : List (List Str) := a.flatMap fun x => b.map fun y => x ++ y
def sbF (W : Nat) (op : Str → Bool) (td : Str → List Bool) : Nat → List Nat → List (List Str)
  | 0, l => capF (filtF (td (S l)) (unlF W l))
  | n + 1, l => capF (filtF (td (S l)) (if op (S l) = true then prodF (sbF W op td n (l ++ [48])) (sbF W op td n (l ++ [49])) else unlF W l))
/-- empty ones at most one, no more than three, none long -/
structure Sml (n : Nat) (ss : List (List Str)) : Prop where
  e : (ss.filter fun s => s.isEmpty).length ≤ 1
  l : ∀ s ∈ ss, s.length ≤ n
theorem cap_sml {n : Nat} {ss : List (List Str)} (h : Sml n ss) : Sml n (capF ss) ∧ (capF ss).length ≤ 3 := by
  have l2 : ((ss.filter fun s => !s.isEmpty).take 2).length ≤ 2 := by
    rw [List.length_take]
    omega
  have e := h.e
  refine ⟨⟨?_, fun s hs => ?_⟩, ?_⟩
  · unfold capF
    rw [List.filter_append, List.length_append, List.filter_filter]
    have z : (((ss.filter fun s => !s.isEmpty).take 2).filter fun s => s.isEmpty) = [] := List.filter_eq_nil_iff.mpr fun s hs => by
      have := (List.mem_filter.mp (List.mem_of_mem_take hs)).2
      simpa using this
    rw [z]
    simp only [Bool.and_self, List.length_nil, Nat.add_zero]
    exact e
  · unfold capF at hs
    rcases List.mem_append.mp hs with z | z
    · exact h.l s (List.mem_filter.mp z).1
    · exact h.l s (List.mem_filter.mp (List.mem_of_mem_take z)).1
  · unfold capF
    rw [List.length_append]
    omega
theorem filt_sml {n : Nat} {ss : List (List Str)} {ts : List Bool} (h : Sml n ss) : Sml n (filtF ts ss) := by
  refine ⟨Nat.le_trans ?_ h.e, fun s hs => h.l s (List.mem_filter.mp hs).1⟩
  exact List.Sublist.length_le (List.Sublist.filter _ List.filter_sublist)
theorem unl_sml {W : Nat} {l : List Nat} : Sml 1 (unlF W l) := by
  unfold unlF
  split
  · exact ⟨by simp, fun s hs => by
      simp only [List.mem_cons, List.not_mem_nil, or_false] at hs
      rcases hs with rfl | rfl
      · exact Nat.zero_le _
      · exact Nat.le_refl _⟩
  · refine ⟨by simp, fun s hs => ?_⟩
    simp only [List.mem_cons, List.not_mem_nil, or_false] at hs
    rcases hs with rfl | rfl | rfl
    · exact Nat.zero_le _
    · exact Nat.le_refl _
    · exact Nat.le_refl _
theorem prod_empty {a b : List (List Str)} : ((prodF a b).filter fun s => s.isEmpty).length = (a.filter fun s => s.isEmpty).length * (b.filter fun s => s.isEmpty).length := by
  induction a with
  | nil => simp [prodF]
  | cons x r ih =>
    have e : prodF (x :: r) b = (b.map fun y => x ++ y) ++ prodF r b := rfl
    rw [e, List.filter_append, List.length_append, List.filter_map, List.length_map, ih]
    cases x with
    | nil =>
      have : ((fun s : List Str => s.isEmpty) ∘ fun y => [] ++ y) = fun s => s.isEmpty := rfl
      rw [this, List.filter_cons, if_pos (show ([] : List Str).isEmpty = true from rfl), List.length_cons, Nat.succ_mul]
      omega
    | cons z t =>
      have : ((fun s : List Str => s.isEmpty) ∘ fun y => (z :: t) ++ y) = fun _ => false := by funext y; rfl
      rw [this, List.filter_cons, if_neg (by simp)]
      simp
theorem prod_sml {n : Nat} {a b : List (List Str)} (ha : Sml n a) (hb : Sml n b) : Sml (n + n) (prodF a b) := by
  refine ⟨?_, fun s hs => ?_⟩
  · rw [prod_empty]
    exact Nat.le_trans (Nat.mul_le_mul ha.e hb.e) (by decide)
  · obtain ⟨x, hx, h⟩ := List.mem_flatMap.mp hs
    obtain ⟨y, hy, rfl⟩ := List.mem_map.mp h
    rw [List.length_append]
    have := ha.l x hx
    have := hb.l y hy
    omega
theorem Sml.mono {n m : Nat} {ss : List (List Str)} (h : Sml n ss) (hm : n ≤ m) : Sml m ss := ⟨h.e, fun s hs => Nat.le_trans (h.l s hs) hm⟩
theorem sb_sml {W : Nat} {op : Str → Bool} {td : Str → List Bool} : ∀ (n : Nat) (l : List Nat), Sml (2 ^ n) (sbF W op td n l) ∧ (sbF W op td n l).length ≤ 3
  | 0, l => cap_sml (filt_sml unl_sml)
  | n + 1, l => by
    show Sml _ (capF (filtF _ (if op (S l) = true then _ else _))) ∧ _
    refine cap_sml (filt_sml ?_)
    split
    · have h := prod_sml (sb_sml (W := W) (op := op) (td := td) n (l ++ [48])).1 (sb_sml (W := W) (op := op) (td := td) n (l ++ [49])).1
      rw [show 2 ^ (n + 1) = 2 ^ n + 2 ^ n by rw [Nat.pow_succ]; omega]
      exact h
    · exact unl_sml.mono Nat.one_le_two_pow
/-- a list of lists of texts, told with their places -/
def SZ (H : Hp) (p : Addr) (zs : List (Addr × List Str)) : Prop := H p = some (.lst (zs.map fun z => V.ref z.1)) ∧ ∀ z ∈ zs, H z.1 = some (.lst (z.2.map V.str))
theorem SZ.keep {H H' : Hp} {p : Addr} {zs : List (Addr × List Str)} (h : SZ H p zs) (f : Frm [] H H') : SZ H' p zs := ⟨f.k _ _ h.1 rfl (by simp), fun z hz => f.k _ _ (h.2 z hz) rfl (by simp)⟩
theorem SetsAt.sz {H : Hp} {p : Addr} {ss : List (List Str)} (h : SetsAt H p ss) : ∃ zs : List (Addr × List Str), SZ H p zs ∧ zs.map (·.2) = ss := by
  obtain ⟨qs, a, b, c⟩ := h
  refine ⟨qs.zip ss, ⟨?_, fun z hz => ?_⟩, ?_⟩
  · rw [a]
    congr 2
    have : qs = (qs.zip ss).map (·.1) := (List.map_fst_zip (by omega)).symm
    conv => lhs; rw [this]
    rw [List.map_map]
    rfl
  · obtain ⟨i, hi⟩ := List.getElem?_of_mem hz
    obtain ⟨h1, h2⟩ := List.getElem?_zip_eq_some.mp hi
    exact c i z.1 z.2 h1 h2
  · exact List.map_snd_zip (by omega)
theorem at_sz {zs : List (Addr × List Str)} {i : Nat} {y : V} (h : (zs.map fun z => V.ref z.1)[i]? = some y) : ∃ z, zs[i]? = some z ∧ y = .ref z.1 := by
  rw [List.getElem?_map] at h
  cases e : zs[i]? with
  | none => rw [e] at h; cases h
  | some z =>
    rw [e] at h
    exact ⟨z, rfl, (Option.some.inj h).symm⟩
theorem fz_go {H : Hp} {D : Addr} {zs : List (Addr × List Str)} {g : List Str → Bool} {i : Nat} {z : Addr × List Str} (hz : zs[i]? = some z) (hl : zs.length ≤ 1000) (c : g z.2 = true) : ∃ acc, (upd H D (.lst (((zs.take i).filter fun z => g z.2).map fun z => V.ref z.1))) D = some (.lst acc) ∧ acc.length < sizeLine ∧ upd (upd H D (.lst (((zs.take i).filter fun z => g z.2).map fun z => V.ref z.1))) D (.lst (acc ++ [V.ref z.1])) = upd H D (.lst (((zs.take (i + 1)).filter fun z => g z.2).map fun z => V.ref z.1)) := by
  refine ⟨_, upd_same, ?_, ?_⟩
  · rw [List.length_map]
    have h1 := List.length_filter_le (fun z : Addr × List Str => g z.2) (zs.take i)
    rw [List.length_take] at h1
    exact Nat.lt_of_le_of_lt (show _ ≤ 1000 by omega) (by decide)
  · rw [upd_upd, filter_step _ hz, if_pos c, List.map_append]
    rfl
theorem fz_no {H : Hp} {D : Addr} {zs : List (Addr × List Str)} {g : List Str → Bool} {i : Nat} {z : Addr × List Str} (hz : zs[i]? = some z) (c : g z.2 = false) : upd H D (.lst (((zs.take i).filter fun z => g z.2).map fun z => V.ref z.1)) = upd H D (.lst (((zs.take (i + 1)).filter fun z => g z.2).map fun z => V.ref z.1)) := by
  rw [filter_step _ hz, if_neg (by rw [c]; exact Bool.false_ne_true), List.append_nil]
theorem flt_snd {zs : List (Addr × List Str)} {g : List Str → Bool} : (zs.filter fun z => g z.2).map (·.2) = (zs.map (·.2)).filter g := by
  rw [List.filter_map]
  rfl
theorem inV_bls (x : Bool) (ts : List Bool) : inV (V.bl x) (ts.map V.bl) = decide (x ∈ ts) := by
  induction ts with
  | nil => rfl
  | cons t r ih =>
    show (eqV (V.bl t) (V.bl x) || inV (V.bl x) (r.map V.bl)) = _
    rw [ih]
    cases t <;> cases x <;> simp [eqV]
section
variable {P : Program} {w : World} {K : PySem.W.Frag} {mg : Str → Option Value} {base : Heap}
def spSb (n : Nat) : Sp := fun vs H Q _ => ∃ (W : Nat) (D1 D2 : Addr) (l : List Nat) (kvo : List (Str × Bool)) (H0 : Hp) (td : Str → List Bool), vs = [.int W, .ref D1, .ref D2, .str (S l)] ∧ l.length + n = W ∧ W ≤ 12 ∧ H D1 = some (.dK (kv kvo)) ∧ TdAt H0 H D2 td ∧ (∀ y : List Nat, hasK kvo (S y) = true → y.length < W) ∧ (∀ y, (td y).length ≤ 100000) ∧
  ∀ (p : Addr) (zs : List (Addr × List Str)) (H' : Hp), H p = none → SZ H' p zs → (∀ z ∈ zs, H z.1 = none) → zs.map (·.2) = sbF W (hasK kvo) td n l → Frm [] H H' → Q (.ref p) H'
end
end B

set_option Elab.async false
set_option linter.all false
set_option maxRecDepth 100000
set_option maxHeartbeats 4000000
namespace B
open PySem PySem.Spec PyProof.Rows L2
open SX (S)
/-! ### the law's answers -/
abbrev Lk := List Nat × Bool × Bool
def LZ (H : Hp) (p : Addr) (zs : List (Addr × Lk)) : Prop := H p = some (.lst (zs.map fun z => V.ref z.1)) ∧ ∀ z ∈ zs, H z.1 = some (.tup [txV z.2.1, .bl z.2.2.1, .bl z.2.2.2])
theorem LZ.keep {H H' : Hp} {p : Addr} {zs : List (Addr × Lk)} (h : LZ H p zs) (f : Frm [] H H') : LZ H' p zs := ⟨f.k _ _ h.1 rfl (by simp), fun z hz => f.k _ _ (h.2 z hz) rfl (by simp)⟩
theorem LZ.pap {H : Hp} {p : Addr} {zs : List (Addr × Lk)} (h : LZ H p zs) : PapAt H p (zs.map (·.2)) := by
  refine ⟨zs.map (·.1), by rw [List.map_map]; exact h.1, by rw [List.length_map, List.length_map], fun i t q h1 h2 => ?_⟩
  rw [List.getElem?_map] at h1 h2
  cases e : zs[i]? with
  | none => rw [e] at h1; cases h1
  | some z =>
    rw [e] at h1 h2
    obtain rfl := Option.some.inj h1
    obtain rfl := Option.some.inj h2
    exact h.2 z (List.mem_of_getElem? e)
def BZ (H : Hp) (p : Addr) (as : List (Addr × Bool × Bool)) : Prop := H p = some (.lst (as.map fun z => V.ref z.1)) ∧ ∀ z ∈ as, H z.1 = some (.tup [.bl z.2.1, .bl z.2.2])
theorem BZ.keep {H H' : Hp} {p : Addr} {as : List (Addr × Bool × Bool)} (h : BZ H p as) (f : Frm [] H H') : BZ H' p as := ⟨f.k _ _ h.1 rfl (by simp), fun z hz => f.k _ _ (h.2 z hz) rfl (by simp)⟩
theorem at_z {α : Type} {zs : List (Addr × α)} {i : Nat} {y : V} (h : (zs.map fun z => V.ref z.1)[i]? = some y) : ∃ z, zs[i]? = some z ∧ y = .ref z.1 := by
  rw [List.getElem?_map] at h
  cases e : zs[i]? with
  | none => rw [e] at h; cases h
  | some z =>
    rw [e] at h
    exact ⟨z, rfl, (Option.some.inj h).symm⟩
def allB : List (Bool × Bool) := [(false, false), (false, true), (true, false), (true, true)]
def badF (ps : List Lk) (l : List Nat) (w : Bool × Bool) : List Lk := ps.filter fun q => decide (q.1 = l) && !decide (q.2 = w)
def ansF (ps : List Lk) (l : List Nat) : List (Bool × Bool) := allB.filter fun w => (badF ps l w).isEmpty
def lkD (q : Lk) : PyData := .tuple [.str (S q.1), .bool q.2.1, .bool q.2.2]
theorem dp_lk {K : PySem.W.Frag} {H : Hp} : ∀ {zs : List (Addr × Lk)}, (∀ z ∈ zs, H z.1 = some (.tup [txV z.2.1, .bl z.2.2.1, .bl z.2.2.2])) → DpAll K H (zs.map fun z => V.ref z.1) (zs.map fun z => lkD z.2)
  | [], _ => .nil
  | z :: r, h => .cons (.tup (SqT.of (h z (by simp))) (.cons (.str _) (.cons (.bl _) (.cons (.bl _) .nil)))) (dp_lk fun y hy => h y (List.mem_cons_of_mem _ hy))
theorem lay_lk {qs : List Lk} (h : ∀ q ∈ qs, Bits q.1) : PyData.canLayAll0 (qs.map lkD) = true := by
  induction qs with
  | nil => rfl
  | cons q r ih =>
    have e1 : (lkD q).canLay0 = true := by
      show ((PyData.strOk (S q.1)) && (true && (true && true))) = true
      rw [strOk_bits (h q (by simp))]
      rfl
    have e2 := ih fun y hy => h y (List.mem_cons_of_mem _ hy)
    show ((lkD q).canLay0 && PyData.canLayAll0 (r.map lkD)) = true
    rw [e1, e2]
    rfl
theorem dep_lk {qs : List Lk} : PyData.depthAll (qs.map lkD) ≤ 10 := by
  induction qs with
  | nil => exact Nat.zero_le _
  | cons q r ih =>
    show max (lkD q).depth (PyData.depthAll (r.map lkD)) ≤ 10
    have : (lkD q).depth ≤ 10 := by
      simp [lkD, PyData.depth, PyData.depthAll]
    omega
theorem shaped_lk {qs : List Lk} (h : ∀ q ∈ qs, Bits q.1) : SeqAt.shaped (.list (qs.map lkD)) = true := by
  have e1 : (PyData.list (qs.map lkD)).canLay0 = true := lay_lk h
  have e2 : (PyData.list (qs.map lkD)).depth ≤ 64 := by
    show PyData.depthAll (qs.map lkD) + 1 ≤ 64
    have := dep_lk (qs := qs)
    omega
  show ((PyData.list (qs.map lkD)).canLay0 && decide ((PyData.list (qs.map lkD)).depth ≤ 64)) = true
  rw [e1, decide_eq_true e2]
  rfl
theorem eqv_lk (qs : List Lk) : PyData.eqv (.list (qs.map lkD)) (.list []) = qs.isEmpty := by
  cases qs <;> rfl
theorem eqv_bb (a b c d : Bool) : PyData.eqv (.tuple [.bool a, .bool b]) (.tuple [.bool c, .bool d]) = decide ((a, b) = (c, d)) := by
  cases a <;> cases b <;> cases c <;> cases d <;> decide +kernel
theorem shaped_bb (a b : Bool) : SeqAt.shaped (.tuple [.bool a, .bool b]) = true := by
  cases a <;> cases b <;> decide +kernel
theorem S_inj {a b : List Nat} (h : S a = S b) : a = b := by
  have := congrArg (fun z : Str => z.cps.toList) h
  simpa [S_list] using this
theorem S_dec (a b : List Nat) : decide (V.str (S a) = V.str (S b)) = decide (a = b) := by
  rw [str_dec]
  by_cases h : a = b
  · rw [h, decide_eq_true rfl, decide_eq_true rfl]
  · rw [decide_eq_false h, decide_eq_false (fun e => h (S_inj e))]
section
variable {P : Program} {w : World} {K : PySem.W.Frag} {mg : Str → Option Value} {base : Heap}
def spAns : Sp := fun vs H Q _ => ∃ (p : Addr) (zs : List (Addr × Lk)) (l : List Nat), vs = [.ref p, .str (S l)] ∧ LZ H p zs ∧ zs.length ≤ 1000 ∧ (∀ z ∈ zs, Bits z.2.1) ∧
  ∀ (q : Addr) (as : List (Addr × Bool × Bool)) (H' : Hp), H q = none → BZ H' q as → as.map (·.2) = ansF (zs.map (·.2)) l → Frm [] H H' → Q (.ref q) H'
end
end B

set_option Elab.async false
set_option linter.all false
set_option maxRecDepth 100000
set_option maxHeartbeats 4000000
namespace B
open PySem PySem.Spec PyProof.Rows L2
open SX (S)
/-! ### the ways, counted beginning by beginning -/
def beg2 (l : List Nat) (q : Lk) : Bool := decide (q.1.take l.length = l)
def sel (a : Nat × Nat) (z : Bool) : Nat := if z = true then a.2 else a.1
def stepW (a b : Nat × Nat) (r : Nat × Nat) (w : Bool × Bool) : Nat × Nat := if (w.1 || w.2) = true then (r.1, r.2 + sel a w.1 * sel b w.2) else (r.1 + sel a w.1 * sel b w.2, r.2)
def waysG : Nat → List Lk → List Nat → Nat × Nat
  | 0, _, _ => (1, 1)
  | n + 1, ps, l => if ps.any (beg2 l) = true then
      (min 2 ((ansF ps l).foldl (stepW (waysG n ps (l ++ [48])) (waysG n ps (l ++ [49]))) (0, 0)).1, min 2 ((ansF ps l).foldl (stepW (waysG n ps (l ++ [48])) (waysG n ps (l ++ [49]))) (0, 0)).2) else (1, 2)
def goodW (a b : Nat × Nat) (w : Bool × Bool) : Bool := (w.1 || w.2) && decide (0 < sel a w.1 * sel b w.2)
def thoseG : Nat → List Lk → List Nat → List Str
  | 0, _, l => [S l]
  | n + 1, ps, l => match (ansF ps l).find? (goodW (waysG n ps (l ++ [48])) (waysG n ps (l ++ [49]))) with
    | some w => (if w.1 = true then thoseG n ps (l ++ [48]) else []) ++ (if w.2 = true then thoseG n ps (l ++ [49]) else [])
    | none => []
def eN (ss : List (List Str)) : Nat := (ss.filter fun s => s.isEmpty).length
def fN (ss : List (List Str)) : Nat := (ss.filter fun s => !s.isEmpty).length
theorem ef_len (ss : List (List Str)) : ss.length = eN ss + fN ss := by
  unfold eN fN
  induction ss with
  | nil => rfl
  | cons s r ih =>
    rw [List.filter_cons, List.filter_cons, List.length_cons]
    cases s <;> simp <;> omega
theorem prod_len (a b : List (List Str)) : (prodF a b).length = a.length * b.length := by
  unfold prodF
  induction a with
  | nil => simp
  | cons u r ih => rw [List.flatMap_cons, List.length_append, ih, List.length_map, List.length_cons, Nat.succ_mul]; omega
theorem fN_prod (a b : List (List Str)) : fN (prodF a b) = eN a * fN b + fN a * eN b + fN a * fN b := by
  have h1 := prod_len a b
  rw [ef_len, ef_len a, ef_len b] at h1
  have h2 : eN (prodF a b) = eN a * eN b := prod_empty
  rw [h2, Nat.add_mul, Nat.mul_add, Nat.mul_add] at h1
  omega
theorem eN_cap (ss : List (List Str)) : eN (capF ss) = eN ss := by
  unfold eN capF
  rw [List.filter_append, List.length_append, List.filter_filter]
  have z : (((ss.filter fun s => !s.isEmpty).take 2).filter fun s => s.isEmpty) = [] := List.filter_eq_nil_iff.mpr fun s hs => by
    have := (List.mem_filter.mp (List.mem_of_mem_take hs)).2
    simpa using this
  rw [z]
  simp
theorem ne_cap (ss : List (List Str)) : ((capF ss).filter fun s => !s.isEmpty) = (ss.filter fun s => !s.isEmpty).take 2 := by
  unfold capF
  rw [List.filter_append, List.filter_filter]
  have z : (ss.filter fun s => !s.isEmpty && s.isEmpty) = [] := List.filter_eq_nil_iff.mpr fun s _ => by simp
  have z2 : (((ss.filter fun s => !s.isEmpty).take 2).filter fun s => !s.isEmpty) = (ss.filter fun s => !s.isEmpty).take 2 := List.filter_eq_self.mpr fun s hs => (List.mem_filter.mp (List.mem_of_mem_take hs)).2
  rw [z, z2]
  rfl
theorem fN_cap (ss : List (List Str)) : fN (capF ss) = min 2 (fN ss) := by
  unfold fN
  rw [ne_cap, List.length_take]
theorem e_filt (ts : List Bool) (ss : List (List Str)) : ((filtF ts ss).filter fun s => s.isEmpty) = if true ∈ ts then [] else ss.filter fun s => s.isEmpty := by
  unfold filtF
  rw [List.filter_filter]
  split
  · rename_i h
    refine List.filter_eq_nil_iff.mpr fun s _ => ?_
    cases s <;> simp [h]
  · rename_i h
    refine List.filter_congr fun s _ => ?_
    cases s <;> simp [h]
theorem f_filt (ts : List Bool) (ss : List (List Str)) : ((filtF ts ss).filter fun s => !s.isEmpty) = if false ∈ ts then [] else ss.filter fun s => !s.isEmpty := by
  unfold filtF
  rw [List.filter_filter]
  split
  · rename_i h
    refine List.filter_eq_nil_iff.mpr fun s _ => ?_
    cases s <;> simp [h]
  · rename_i h
    refine List.filter_congr fun s _ => ?_
    cases s <;> simp [h]
/-- what a beginning's sets are ahead of what is told of it -/
def uF (W : Nat) (op : Str → Bool) (td : Str → List Bool) : Nat → List Nat → List (List Str)
  | 0, l => unlF W l
  | n + 1, l => if op (S l) = true then prodF (sbF W op td n (l ++ [48])) (sbF W op td n (l ++ [49])) else unlF W l
theorem uF0 {W : Nat} {op : Str → Bool} {td : Str → List Bool} {l : List Nat} : uF W op td 0 l = unlF W l := rfl
theorem uFs {W n : Nat} {op : Str → Bool} {td : Str → List Bool} {l : List Nat} : uF W op td (n + 1) l = if op (S l) = true then prodF (sbF W op td n (l ++ [48])) (sbF W op td n (l ++ [49])) else unlF W l := rfl
theorem waysS {n : Nat} {ps : List Lk} {l : List Nat} : waysG (n + 1) ps l = if ps.any (beg2 l) = true then
      (min 2 ((ansF ps l).foldl (stepW (waysG n ps (l ++ [48])) (waysG n ps (l ++ [49]))) (0, 0)).1, min 2 ((ansF ps l).foldl (stepW (waysG n ps (l ++ [48])) (waysG n ps (l ++ [49]))) (0, 0)).2) else (1, 2) := rfl
theorem sb_u (W : Nat) (op : Str → Bool) (td : Str → List Bool) (n : Nat) (l : List Nat) : sbF W op td n l = capF (filtF (td (S l)) (uF W op td n l)) := by
  cases n <;> rfl
theorem u_e1 (W : Nat) (op : Str → Bool) (td : Str → List Bool) (n : Nat) (l : List Nat) : eN (uF W op td n l) ≤ 1 := by
  cases n with
  | zero => exact unl_sml.e
  | succ n =>
    rw [uFs]
    split
    · exact (prod_sml (sb_sml n _).1 (sb_sml n _).1).e
    · exact unl_sml.e
theorem mem_t0 {ps : List Lk} {l : List Nat} {x : Bool} : x ∈ toldF ps (S (l ++ [48])) ↔ ∃ q ∈ ps, q.1 = l ∧ q.2.1 = x := by
  unfold toldF
  rw [List.mem_flatMap]
  refine exists_congr fun q => and_congr_right fun _ => ?_
  unfold tol1
  have n2 : ¬ S (l ++ [48]) = S (q.1 ++ [49]) := fun e => by
    have := S_inj e
    have h2 := congrArg List.getLast? this
    simp at h2
  rw [if_neg n2, List.append_nil]
  constructor
  · intro h
    split at h
    · rename_i e
      have := S_inj e
      exact ⟨(List.append_cancel_right this).symm, (List.mem_singleton.mp h).symm⟩
    · cases h
  · rintro ⟨rfl, rfl⟩
    rw [if_pos rfl]
    simp
theorem mem_t1 {ps : List Lk} {l : List Nat} {x : Bool} : x ∈ toldF ps (S (l ++ [49])) ↔ ∃ q ∈ ps, q.1 = l ∧ q.2.2 = x := by
  unfold toldF
  rw [List.mem_flatMap]
  refine exists_congr fun q => and_congr_right fun _ => ?_
  unfold tol1
  have n2 : ¬ S (l ++ [49]) = S (q.1 ++ [48]) := fun e => by
    have := S_inj e
    have h2 := congrArg List.getLast? this
    simp at h2
  rw [if_neg n2, List.nil_append]
  constructor
  · intro h
    split at h
    · rename_i e
      have := S_inj e
      exact ⟨(List.append_cancel_right this).symm, (List.mem_singleton.mp h).symm⟩
    · cases h
  · rintro ⟨rfl, rfl⟩
    rw [if_pos rfl]
    simp
theorem bad_nil {ps : List Lk} {l : List Nat} {w : Bool × Bool} : (badF ps l w).isEmpty = (!decide ((!w.1) ∈ toldF ps (S (l ++ [48]))) && !decide ((!w.2) ∈ toldF ps (S (l ++ [49])))) := by
  rw [Bool.eq_iff_iff, List.isEmpty_iff]
  simp only [Bool.and_eq_true, Bool.not_eq_true', decide_eq_false_iff_not]
  rw [mem_t0, mem_t1]
  unfold badF
  rw [List.filter_eq_nil_iff]
  constructor
  · intro h
    refine ⟨?_, ?_⟩
    · rintro ⟨q, hq, e1, e2⟩
      have := h q hq
      rw [decide_eq_true e1] at this
      simp only [Bool.true_and, Bool.not_eq_true', decide_eq_false_iff_not, Decidable.not_not] at this
      rw [this] at e2
      cases hw : w.1 <;> rw [hw] at e2 <;> cases e2
    · rintro ⟨q, hq, e1, e2⟩
      have := h q hq
      rw [decide_eq_true e1] at this
      simp only [Bool.true_and, Bool.not_eq_true', decide_eq_false_iff_not, Decidable.not_not] at this
      rw [this] at e2
      cases hw : w.2 <;> rw [hw] at e2 <;> cases e2
  · rintro ⟨h1, h2⟩ q hq c
    simp only [Bool.and_eq_true, Bool.not_eq_true', decide_eq_true_eq, decide_eq_false_iff_not] at c
    refine c.2 ?_
    have e1 : q.2.1 = w.1 := by
      by_cases e : q.2.1 = w.1
      · exact e
      · exact (h1 ⟨q, hq, c.1, by cases hx : q.2.1 <;> cases hy : w.1 <;> simp_all⟩).elim
    have e2 : q.2.2 = w.2 := by
      by_cases e : q.2.2 = w.2
      · exact e
      · exact (h2 ⟨q, hq, c.1, by cases hx : q.2.2 <;> cases hy : w.2 <;> simp_all⟩).elim
    exact Prod.ext e1 e2
theorem open_any {ps : List Lk} {l : List Nat} : OpenS ps (S l) ↔ ps.any (beg2 l) = true := by
  rw [List.any_eq_true]
  unfold OpenS beg2
  constructor
  · rintro ⟨q, hq, i, hi, e⟩
    refine ⟨q, hq, decide_eq_true ?_⟩
    have := S_inj e
    rw [this, List.length_take, Nat.min_eq_left hi]
  · rintro ⟨q, hq, e⟩
    have e' := of_decide_eq_true e
    have hl : l.length ≤ q.1.length := by
      have := congrArg List.length e'
      rw [List.length_take] at this
      omega
    exact ⟨q, hq, l.length, hl, by rw [e']⟩
def okW (ts : List Bool) (z : Bool) : Bool := !decide ((!z) ∈ ts)
theorem mul_one2 {a b : Nat} (h : a * b = 1) : a = 1 ∧ b = 1 := ⟨Nat.dvd_one.mp ⟨b, h.symm⟩, Nat.dvd_one.mp ⟨a, by rw [Nat.mul_comm]; exact h.symm⟩⟩
def sS (ss : List (List Str)) (z : Bool) : Nat := if z = true then fN ss else eN ss
def tT (a : Nat × Nat) (A : Bool → Bool) (z : Bool) : Nat := if A z = true then sel a z else 0
theorem sS_cap {t : List Bool} {U : List (List Str)} (h : eN U ≤ 1) (z : Bool) : tT (min 2 (eN U), min 2 (fN U)) (okW t) z = sS (capF (filtF t U)) z := by
  cases z with
  | false =>
    show (if (!decide (true ∈ t)) = true then min 2 (eN U) else 0) = eN (capF (filtF t U))
    rw [eN_cap]
    have e : eN (filtF t U) = if true ∈ t then 0 else eN U := by
      unfold eN
      rw [e_filt]
      split <;> rfl
    rw [e]
    by_cases c : true ∈ t
    · rw [if_pos c, decide_eq_true c]
      rfl
    · rw [if_neg c, decide_eq_false c]
      show min 2 (eN U) = eN U
      omega
  | true =>
    show (if (!decide (false ∈ t)) = true then min 2 (fN U) else 0) = fN (capF (filtF t U))
    rw [fN_cap]
    have e : fN (filtF t U) = if false ∈ t then 0 else fN U := by
      unfold fN
      rw [f_filt]
      split <;> rfl
    rw [e]
    by_cases c : false ∈ t
    · rw [if_pos c, decide_eq_true c]
      rfl
    · rw [if_neg c, decide_eq_false c]
      rfl
theorem fold_ans (A B : Bool → Bool) (a b : Nat × Nat) : (allB.filter (fun w => A w.1 && B w.2)).foldl (stepW a b) (0, 0) = (tT a A false * tT b B false, tT a A false * tT b B true + tT a A true * tT b B false + tT a A true * tT b B true) := by
  unfold allB tT
  cases h1 : A false <;> cases h2 : A true <;> cases h3 : B false <;> cases h4 : B true <;> simp [List.filter, h1, h2, h3, h4, stepW, sel]
theorem ans_eq (ps : List Lk) (l : List Nat) : ansF ps l = allB.filter fun w => okW (toldF ps (S (l ++ [48]))) w.1 && okW (toldF ps (S (l ++ [49]))) w.2 := by
  unfold ansF
  exact List.filter_congr fun w _ => bad_nil
section
variable {W : Nat} {ps : List Lk} {op : Str → Bool}
theorem ways_u (ho : ∀ y, op y = true ↔ OpenS ps y) : ∀ (n : Nat) (l : List Nat), l.length + n = W → waysG n ps l = (min 2 (eN (uF W op (toldF ps) n l)), min 2 (fN (uF W op (toldF ps) n l)))
  | 0, l, h => by
    show (1, 1) = _
    rw [uF0]
    unfold unlF
    rw [if_pos (by omega)]
    rfl
  | n + 1, l, h => by
    have i0 := ways_u ho n (l ++ [48]) (by rw [List.length_append, List.length_singleton]; omega)
    have i1 := ways_u ho n (l ++ [49]) (by rw [List.length_append, List.length_singleton]; omega)
    rw [waysS, uFs]
    by_cases c : ps.any (beg2 l) = true
    · rw [if_pos c, if_pos ((ho _).mpr (open_any.mpr c)), ans_eq, fold_ans, i0, i1]
      rw [sS_cap (u_e1 _ _ _ _ _), sS_cap (u_e1 _ _ _ _ _), sS_cap (u_e1 _ _ _ _ _), sS_cap (u_e1 _ _ _ _ _), ← sb_u, ← sb_u]
      rw [fN_prod, show eN (prodF (sbF W op (toldF ps) n (l ++ [48])) (sbF W op (toldF ps) n (l ++ [49]))) = _ from prod_empty]
      rfl
    · rw [if_neg c, if_neg (fun z => c (open_any.mp ((ho _).mp z)))]
      unfold unlF
      rw [if_neg (by omega)]
      rfl
theorem no_empty {ss : List (List Str)} (h : eN ss = 0) : (ss.filter fun s => !s.isEmpty) = ss := by
  refine List.filter_eq_self.mpr fun s hs => ?_
  have : s ∉ ss.filter fun s => s.isEmpty := by
    rw [List.length_eq_zero_iff.mp h]
    simp
  rw [List.mem_filter] at this
  cases hx : s.isEmpty with
  | false => rfl
  | true => exact (this ⟨hs, hx⟩).elim
theorem only_empty {ss : List (List Str)} (h : eN ss = 1) (h2 : fN ss = 0) : ss = [[]] := by
  have e : (ss.filter fun s => s.isEmpty) = ss := by
    refine List.filter_eq_self.mpr fun s hs => ?_
    have : s ∉ ss.filter fun s => !s.isEmpty := by
      rw [List.length_eq_zero_iff.mp h2]
      simp
    rw [List.mem_filter] at this
    cases hx : s.isEmpty with
    | true => rfl
    | false => exact (this ⟨hs, by rw [hx]; rfl⟩).elim
  unfold eN at h
  rw [e] at h
  match ss, h, e with
  | [s], _, e =>
    have hs : s ∈ [s].filter fun s => s.isEmpty := by rw [e]; simp
    have := (List.mem_filter.mp hs).2
    rw [List.isEmpty_iff.mp this]
theorem ne_sb {n : Nat} {l : List Nat} {x : List Str} (ih : fN (uF W op (toldF ps) n l) = 1 → ((uF W op (toldF ps) n l).filter fun s => !s.isEmpty) = [x]) (h : fN (sbF W op (toldF ps) n l) = 1) : ((sbF W op (toldF ps) n l).filter fun s => !s.isEmpty) = [x] := by
  rw [sb_u] at h ⊢
  rw [fN_cap] at h
  rw [ne_cap]
  unfold fN at h ih
  rw [f_filt] at h ⊢
  by_cases c : false ∈ toldF ps (S l)
  · rw [if_pos c] at h
    simp at h
  · rw [if_neg c] at h ⊢
    have h1 := ih (by omega)
    rw [h1]
    rfl
theorem good_eq {A B : Bool → Bool} {a b : Nat × Nat} {w : Bool × Bool} : ((A w.1 && B w.2) && goodW a b w) = ((w.1 || w.2) && decide (0 < tT a A w.1 * tT b B w.2)) := by
  unfold goodW tT
  cases h1 : A w.1 <;> cases h2 : B w.2 <;> simp
theorem those_u (ho : ∀ y, op y = true ↔ OpenS ps y) : ∀ (n : Nat) (l : List Nat), l.length + n = W → fN (uF W op (toldF ps) n l) = 1 → ((uF W op (toldF ps) n l).filter fun s => !s.isEmpty) = [thoseG n ps l]
  | 0, l, h, h1 => by
    rw [uF0]
    unfold unlF
    rw [if_pos (by omega)]
    rfl
  | n + 1, l, h, h1 => by
    have l0 : (l ++ [48]).length + n = W := by rw [List.length_append, List.length_singleton]; omega
    have l1 : (l ++ [49]).length + n = W := by rw [List.length_append, List.length_singleton]; omega
    have i0 := those_u ho n (l ++ [48]) l0
    have i1 := those_u ho n (l ++ [49]) l1
    rw [uFs] at h1 ⊢
    by_cases c : op (S l) = true
    · rw [if_pos c] at h1 ⊢
      rw [fN_prod] at h1
      have n0 := ne_sb (x := thoseG n ps (l ++ [48])) i0
      have n1 := ne_sb (x := thoseG n ps (l ++ [49])) i1
      have m0 : eN (sbF W op (toldF ps) n (l ++ [48])) ≤ 1 := (sb_sml n _).1.e
      have m1 : eN (sbF W op (toldF ps) n (l ++ [49])) ≤ 1 := (sb_sml n _).1.e
      -- what the law finds
      have fd : (ansF ps l).find? (goodW (waysG n ps (l ++ [48])) (waysG n ps (l ++ [49]))) = allB.find? fun w => (w.1 || w.2) && decide (0 < sS (sbF W op (toldF ps) n (l ++ [48])) w.1 * sS (sbF W op (toldF ps) n (l ++ [49])) w.2) := by
        rw [ans_eq, List.find?_filter]
        congr 1
        funext w
        rw [Bool.decide_and, Bool.decide_eq_true, Bool.decide_eq_true, good_eq, ways_u ho n _ l0, ways_u ho n _ l1, sS_cap (u_e1 _ _ _ _ _), sS_cap (u_e1 _ _ _ _ _), ← sb_u, ← sb_u]
      show _ = [match (ansF ps l).find? (goodW (waysG n ps (l ++ [48])) (waysG n ps (l ++ [49]))) with
        | some w => (if w.1 = true then thoseG n ps (l ++ [48]) else []) ++ (if w.2 = true then thoseG n ps (l ++ [49]) else [])
        | none => []]
      rw [fd]
      generalize hS0 : sbF W op (toldF ps) n (l ++ [48]) = S0 at h1 n0 m0 ⊢
      generalize hS1 : sbF W op (toldF ps) n (l ++ [49]) = S1 at h1 n1 m1 ⊢
      generalize thoseG n ps (l ++ [48]) = x0 at n0 ⊢
      generalize thoseG n ps (l ++ [49]) = x1 at n1 ⊢
      have cs : (eN S0 = 1 ∧ fN S1 = 1 ∧ fN S0 = 0) ∨ (eN S0 * fN S1 = 0 ∧ fN S0 = 1 ∧ eN S1 = 1 ∧ fN S1 = 0) ∨ (eN S0 = 0 ∧ eN S1 = 0 ∧ fN S0 = 1 ∧ fN S1 = 1) := by
        rcases Nat.eq_zero_or_pos (eN S0) with z0 | z0 <;> rcases Nat.eq_zero_or_pos (eN S1) with z1 | z1
        · rw [z0, z1] at h1
          have := mul_one2 (show fN S0 * fN S1 = 1 by omega)
          exact .inr (.inr ⟨z0, z1, this.1, this.2⟩)
        · have e1 : eN S1 = 1 := by omega
          rw [z0, e1] at h1
          have hf : fN S0 * (fN S1 + 1) = 1 := by rw [Nat.mul_add]; omega
          have := mul_one2 hf
          exact .inr (.inl ⟨by rw [z0]; omega, this.1, e1, by omega⟩)
        · have e0 : eN S0 = 1 := by omega
          rw [z1, e0] at h1
          have hf : (fN S0 + 1) * fN S1 = 1 := by rw [Nat.add_mul]; omega
          have := mul_one2 hf
          exact .inl ⟨e0, this.2, by omega⟩
        · have e0 : eN S0 = 1 := by omega
          have e1 : eN S1 = 1 := by omega
          rw [e0, e1] at h1
          rcases Nat.eq_zero_or_pos (fN S0) with y0 | y0
          · rw [y0] at h1
            exact .inl ⟨e0, by omega, y0⟩
          · have hz : fN S1 = 0 := by omega
            rw [hz] at h1
            exact .inr (.inl ⟨by rw [hz]; omega, by omega, e1, hz⟩)
      rcases cs with ⟨a1, a2, a3⟩ | ⟨a0, a1, a2, a3⟩ | ⟨a0, a1, a2, a3⟩
      · have fw : (allB.find? fun w => (w.1 || w.2) && decide (0 < sS S0 w.1 * sS S1 w.2)) = some (false, true) := by
          simp [allB, sS, a1, a2, a3]
        rw [fw, only_empty a1 a3]
        have e : prodF [[]] S1 = S1 := by simp [prodF]
        rw [e, n1 a2]
        rfl
      · have fw : (allB.find? fun w => (w.1 || w.2) && decide (0 < sS S0 w.1 * sS S1 w.2)) = some (true, false) := by
          have : eN S0 * 0 = 0 := rfl
          simp [allB, sS, a1, a2, a3]
        rw [fw, only_empty a2 a3]
        have e : prodF S0 [[]] = S0 := by simp [prodF]
        rw [e, n0 a1]
        simp
      · have fw : (allB.find? fun w => (w.1 || w.2) && decide (0 < sS S0 w.1 * sS S1 w.2)) = some (true, true) := by
          simp [allB, sS, a0, a1, a2, a3]
        rw [fw]
        have q0 := n0 a2
        have q1 := n1 a3
        rw [no_empty a0] at q0
        rw [no_empty a1] at q1
        rw [q0, q1]
        have hx : x0 ≠ [] := fun z => by
          rw [q0, z] at a0
          cases a0
        have e : prodF [x0] [x1] = [x0 ++ x1] := by simp [prodF]
        rw [e]
        simp [hx]
    · rw [if_neg c] at h1
      unfold unlF at h1
      rw [if_neg (by omega)] at h1
      cases h1
/-- what is shown: none, one, or more -/
theorem shown_is (ho : ∀ y, op y = true ↔ OpenS ps y) : (sbF W op (toldF ps) W []).length = (waysG W ps []).1 + (waysG W ps []).2 ∧ ((waysG W ps []).1 + (waysG W ps []).2 = 1 → sbF W op (toldF ps) W [] = [if (waysG W ps []).2 = 1 then thoseG W ps [] else []]) := by
  have hw := ways_u (W := W) ho W [] (by simp)
  have e1 := u_e1 W op (toldF ps) W []
  have td0 : toldF ps (S []) = [] := by
    unfold toldF
    rw [List.flatMap_eq_nil_iff]
    intro q _
    unfold tol1
    rw [if_neg (fun e => by have := S_inj e; simp at this), if_neg (fun e => by have := S_inj e; simp at this)]
    rfl
  have es : sbF W op (toldF ps) W [] = capF (uF W op (toldF ps) W []) := by
    rw [sb_u, td0]
    congr 1
    unfold filtF
    exact List.filter_eq_self.mpr fun s _ => by simp
  have et := those_u (W := W) ho W [] (by simp)
  generalize uF W op (toldF ps) W [] = U at hw e1 es et
  rw [hw, es]
  dsimp only
  have hl := ef_len (capF U)
  rw [eN_cap, fN_cap] at hl
  refine ⟨by omega, fun h => ?_⟩
  by_cases c : min 2 (fN U) = 1
  · rw [if_pos c]
    have h0 : eN U = 0 := by omega
    have h1 : fN U = 1 := by omega
    have hn := et h1
    unfold capF
    rw [hn, List.length_eq_zero_iff.mp h0]
    rfl
  · rw [if_neg c]
    have h0 : eN U = 1 := by omega
    have h1 : fN U = 0 := by omega
    exact only_empty (by rw [eN_cap]; exact h0) (by rw [fN_cap, h1]; rfl)
end
end B

set_option Elab.async false
set_option linter.all false
set_option maxRecDepth 100000
set_option maxHeartbeats 4000000
namespace B
open PySem PySem.Spec PyProof.Rows L2
open SX (S)
theorem beg_long {l : List Nat} {c : Nat} {q : Lk} (h : beg2 (l ++ [c]) q = true) : beg2 l q = true := by
  unfold beg2 at h ⊢
  have e := of_decide_eq_true h
  refine decide_eq_true ?_
  have := congrArg (List.take l.length) e
  rw [List.take_take, List.length_append, List.length_singleton, Nat.min_eq_left (by omega), List.take_left] at this
  exact this
theorem beg_self {l : List Nat} {q : Lk} (h : q.1 = l) : beg2 l q = true := by
  unfold beg2
  rw [← h, List.take_length]
  exact decide_eq_true rfl
theorem bad_flt {qs : List Lk} {l m : List Nat} {w : Bool × Bool} (h : ∀ q, beg2 m q = true → beg2 l q = true) : badF (qs.filter (beg2 l)) m w = badF qs m w := by
  unfold badF
  rw [List.filter_filter]
  refine List.filter_congr fun q _ => ?_
  by_cases c : q.1 = m
  · rw [h q (beg_self c), Bool.and_true]
  · rw [decide_eq_false c]
    rfl
theorem ans_flt {qs : List Lk} {l m : List Nat} (h : ∀ q, beg2 m q = true → beg2 l q = true) : ansF (qs.filter (beg2 l)) m = ansF qs m := by
  unfold ansF
  exact List.filter_congr fun w _ => by rw [bad_flt h]
theorem any_flt {qs : List Lk} {l m : List Nat} (h : ∀ q, beg2 m q = true → beg2 l q = true) : (qs.filter (beg2 l)).any (beg2 m) = qs.any (beg2 m) := by
  rw [List.any_filter]
  congr 1
  funext q
  cases c : beg2 m q with
  | false => rw [Bool.and_false]
  | true => rw [h q c]; rfl
theorem ways_flt {qs : List Lk} {l : List Nat} : ∀ (n : Nat) {m : List Nat}, (∀ q, beg2 m q = true → beg2 l q = true) → waysG n (qs.filter (beg2 l)) m = waysG n qs m
  | 0, m, h => rfl
  | n + 1, m, h => by
    rw [waysS, waysS, any_flt h, ans_flt h, ways_flt n (fun q c => h q (beg_long c)), ways_flt n (fun q c => h q (beg_long c))]
theorem ways_le (n : Nat) (qs : List Lk) (l : List Nat) : (waysG n qs l).1 ≤ 2 ∧ (waysG n qs l).2 ≤ 2 := by
  cases n with
  | zero => exact ⟨Nat.le_succ 1, Nat.le_succ 1⟩
  | succ n =>
    rw [waysS]
    split
    · exact ⟨by dsimp only; omega, by dsimp only; omega⟩
    · exact ⟨by decide, by decide⟩
theorem len12 {l : List Nat} (h : l.length ≤ 12) : (S l).length ≤ sizeLine := by
  rw [SX.S_len]
  exact size12 (by omega)
theorem gz_go {α : Type} {H : Hp} {D : Addr} {zs : List (Addr × α)} {g : Addr × α → Bool} {i : Nat} {z : Addr × α} (hz : zs[i]? = some z) (hl : zs.length ≤ 1000) (c : g z = true) : ∃ acc, (upd H D (.lst (((zs.take i).filter g).map fun z => V.ref z.1))) D = some (.lst acc) ∧ acc.length < sizeLine ∧ upd (upd H D (.lst (((zs.take i).filter g).map fun z => V.ref z.1))) D (.lst (acc ++ [V.ref z.1])) = upd H D (.lst (((zs.take (i + 1)).filter g).map fun z => V.ref z.1)) := by
  refine ⟨_, upd_same, ?_, ?_⟩
  · rw [List.length_map]
    have h1 := List.length_filter_le g (zs.take i)
    rw [List.length_take] at h1
    exact Nat.lt_of_le_of_lt (show _ ≤ 1000 by omega) (by decide)
  · rw [upd_upd, filter_step _ hz, if_pos c, List.map_append]
    rfl
theorem gz_no {α : Type} {H : Hp} {D : Addr} {zs : List (Addr × α)} {g : Addr × α → Bool} {i : Nat} {z : Addr × α} (hz : zs[i]? = some z) (c : g z = false) : upd H D (.lst (((zs.take i).filter g).map fun z => V.ref z.1)) = upd H D (.lst (((zs.take (i + 1)).filter g).map fun z => V.ref z.1)) := by
  rw [filter_step _ hz, if_neg (by rw [c]; exact Bool.false_ne_true), List.append_nil]
section
variable {P : Program} {w : World} {K : PySem.W.Frag} {mg : Str → Option Value} {base : Heap}
def spWays (N : Nat) : Sp := fun vs H Q _ => ∃ (W : Nat) (p : Addr) (zs : List (Addr × Lk)) (l : List Nat) (n : Nat), vs = [.int W, .ref p, .str (S l)] ∧ l.length + n = W ∧ n ≤ N ∧ W ≤ 12 ∧ LZ H p zs ∧ zs.length ≤ 1000 ∧ (∀ z ∈ zs, Bits z.2.1 ∧ z.2.1.length ≤ 12) ∧
  ∀ (t : Addr) (H' : Hp), H t = none → H' t = some (.tup [.int (waysG n (zs.map (·.2)) l).1, .int (waysG n (zs.map (·.2)) l).2]) → Frm [] H H' → Q (.ref t) H'
end
end B

set_option Elab.async false
set_option linter.all false
set_option maxRecDepth 100000
set_option maxHeartbeats 4000000
namespace B
open PySem PySem.Spec PyProof.Rows L2
open SX (S)
theorem those_len {qs : List Lk} : ∀ (n : Nat) (l : List Nat), (thoseG n qs l).length ≤ 2 ^ n
  | 0, l => Nat.le_refl 1
  | n + 1, l => by
    have h0 := those_len (qs := qs) n (l ++ [48])
    have h1 := those_len (qs := qs) n (l ++ [49])
    rw [Nat.pow_succ]
    unfold thoseG
    split
    · rw [List.length_append]
      have e0 : ∀ (b : Bool) (x : List Str), (if b = true then x else []).length ≤ x.length := fun b x => by cases b <;> simp
      have := e0
      rename_i z _
      have a0 := e0 z.1 (thoseG n qs (l ++ [48]))
      have a1 := e0 z.2 (thoseG n qs (l ++ [49]))
      omega
    · simp
theorem find_at {α : Type} {f : α → Bool} {x : α} : ∀ {xs : List α} {j : Nat}, xs[j]? = some x → (xs.take j).find? f = none → f x = true → xs.find? f = some x
  | [], j, h, _, _ => by simp at h
  | y :: r, 0, h, _, c => by
    rw [List.getElem?_cons_zero] at h
    obtain rfl := Option.some.inj h
    rw [List.find?_cons, c]
  | y :: r, j + 1, h, n, c => by
    rw [List.getElem?_cons_succ] at h
    rw [List.take_succ_cons, List.find?_cons] at n
    rw [List.find?_cons]
    cases hy : f y with
    | true => rw [hy] at n; cases n
    | false =>
      rw [hy] at n
      exact find_at h n c
theorem dec_mul (x y : Nat) : decide ((0 : Int) < (x : Int) * (y : Int)) = decide (0 < x * y) := by
  rw [decide_eq_decide]
  constructor
  · intro h
    exact_mod_cast h
  · intro h
    exact_mod_cast h
section
variable {P : Program} {w : World} {K : PySem.W.Frag} {mg : Str → Option Value} {base : Heap}
def spThose (N : Nat) : Sp := fun vs H Q _ => ∃ (W : Nat) (p : Addr) (zs : List (Addr × Lk)) (l : List Nat) (n : Nat), vs = [.int W, .ref p, .str (S l)] ∧ l.length + n = W ∧ n ≤ N ∧ W ≤ 12 ∧ LZ H p zs ∧ zs.length ≤ 1000 ∧ (∀ z ∈ zs, Bits z.2.1 ∧ z.2.1.length ≤ 12) ∧
  ∀ (q : Addr) (H' : Hp), H q = none → H' q = some (.lst ((thoseG n (zs.map (·.2)) l).map V.str)) → Frm [] H H' → Q (.ref q) H'
end
end B

set_option Elab.async false
set_option linter.all false
set_option maxRecDepth 100000
set_option maxHeartbeats 4000000
namespace B
open PySem PySem.Spec PyProof.Rows L2
open SX (S)
/-! ### what the sets behind a beginning are -/
def RL (s : List Str) : Prop := s.Pairwise leS ∧ s.Nodup
/-- what a set tells at a look's beginning is what the look tells -/
def Tl (s : List Str) (q : Lk) : Prop := q.2.1 = s.any (starts (q.1 ++ [48])) ∧ q.2.2 = s.any (starts (q.1 ++ [49]))
def Cn (ps : List Lk) (W : Nat) (l : List Nat) (s : List Str) : Prop := (∀ x ∈ s, Beg W l x) ∧ (∀ q ∈ ps, beg2 l q = true → Tl s q) ∧ ∀ t ∈ toldF ps (S l), t = !s.isEmpty
theorem starts_S {l m : List Nat} : starts l (S m) = decide (m.take l.length = l) := by
  unfold starts
  rw [S_list]
theorem starts_app {l m : List Nat} {x : Str} (h : starts (l ++ m) x = true) : starts l x = true := by
  have e := of_decide_eq_true h
  refine decide_eq_true ?_
  have := congrArg (List.take l.length) e
  rw [List.take_take, List.length_append, Nat.min_eq_left (by omega), List.take_left] at this
  exact this
theorem starts_two {l : List Nat} {x : Str} (h0 : starts (l ++ [48]) x = true) (h1 : starts (l ++ [49]) x = true) : False := by
  have e0 := of_decide_eq_true h0
  have e1 := of_decide_eq_true h1
  rw [List.length_append] at e0 e1
  have e0' : x.cps.toList.take (l.length + 1) = l ++ [48] := e0
  have e1' : x.cps.toList.take (l.length + 1) = l ++ [49] := e1
  rw [e0'] at e1'
  have := List.append_cancel_left e1'
  simp at this
theorem Beg.st {W : Nat} {l : List Nat} {x : Str} (h : Beg W l x) : starts l x = true := by
  obtain ⟨m, rfl, _, _, e⟩ := h
  rw [starts_S]
  exact decide_eq_true e
theorem Beg.of {W : Nat} {l : List Nat} {x : Str} (h : Num W x) (e : starts l x = true) : Beg W l x := by
  obtain ⟨m, rfl, h1, h2⟩ := h
  rw [starts_S] at e
  exact ⟨m, rfl, h1, h2, of_decide_eq_true e⟩
theorem num_next {W : Nat} {l : List Nat} {x : Str} (h : Beg W l x) (hl : l.length < W) : starts (l ++ [48]) x = true ∨ starts (l ++ [49]) x = true := by
  obtain ⟨m, rfl, h1, h2, e⟩ := h
  rw [starts_S, starts_S, List.length_append, List.length_append]
  have hm : l.length < m.length := by omega
  have s : m.take (l.length + 1) = l ++ [m[l.length]] := by rw [List.take_succ_eq_append_getElem hm, e]
  rcases h2 _ (List.getElem_mem hm) with c | c
  · refine .inl (decide_eq_true ?_)
    show m.take (l.length + 1) = _
    rw [s, c]
  · refine .inr (decide_eq_true ?_)
    show m.take (l.length + 1) = _
    rw [s, c]
theorem beg_lt {W : Nat} {l : List Nat} {x y : Str} (h0 : Beg W (l ++ [48]) x) (h1 : Beg W (l ++ [49]) y) : leS x y ∧ x ≠ y := by
  have e : ∀ {l : List Nat}, starts (l ++ [48]) y = true → starts (l ++ [49]) y = true → False := fun a b => starts_two a b
  obtain ⟨m, rfl, _, _, e0⟩ := h0
  have h1' := h1.st
  obtain ⟨p, rfl, _, _, e1⟩ := h1
  refine ⟨LtP.le ⟨l, m.drop (l ++ [48]).length, p.drop (l ++ [49]).length, ?_, ?_⟩, fun z => ?_⟩
  · have := List.take_append_drop (l ++ [48]).length m
    rw [e0] at this
    rw [← this]
    simp
  · have := List.take_append_drop (l ++ [49]).length p
    rw [e1] at this
    rw [← this]
    simp
  · refine e (l := l) ?_ h1'
    rw [← z, starts_S]
    exact decide_eq_true e0
theorem rl_cat {W : Nat} {l : List Nat} {s0 s1 : List Str} (r0 : RL s0) (r1 : RL s1) (b0 : ∀ x ∈ s0, Beg W (l ++ [48]) x) (b1 : ∀ x ∈ s1, Beg W (l ++ [49]) x) : RL (s0 ++ s1) :=
  ⟨List.pairwise_append.mpr ⟨r0.1, r1.1, fun x hx y hy => (beg_lt (b0 x hx) (b1 y hy)).1⟩, List.pairwise_append.mpr ⟨r0.2, r1.2, fun x hx y hy => (beg_lt (b0 x hx) (b1 y hy)).2⟩⟩
theorem RL.flt {s : List Str} (h : RL s) (f : Str → Bool) : RL (s.filter f) := ⟨h.1.filter f, h.2.filter f⟩
theorem rl_eq {s t : List Str} (h : RL s) (g : RL t) (e : ∀ x, x ∈ s ↔ x ∈ t) : s = t := pw_perm_eq h.1 g.1 ((List.perm_ext_iff_of_nodup h.2 g.2).mpr e)
theorem Beg.flt {W : Nat} {l m : List Nat} {s : List Str} (h : ∀ x ∈ s, Beg W l x) : ∀ x ∈ s.filter (starts m), Beg W m x := fun x hx => by
  have := List.mem_filter.mp hx
  exact Beg.of (h x this.1).num this.2
theorem rl_split {W : Nat} {l : List Nat} {s : List Str} (h : RL s) (b : ∀ x ∈ s, Beg W l x) (hl : l.length < W) : s = s.filter (starts (l ++ [48])) ++ s.filter (starts (l ++ [49])) := by
  refine rl_eq h (rl_cat (h.flt _) (h.flt _) (Beg.flt b) (Beg.flt b)) fun x => ?_
  rw [List.mem_append, List.mem_filter, List.mem_filter]
  constructor
  · intro hx
    exact (num_next (b x hx) hl).imp (fun c => ⟨hx, c⟩) (fun c => ⟨hx, c⟩)
  · rintro (c | c) <;> exact c.1
theorem flt_all {l m : List Nat} {s : List Str} (h : ∀ x ∈ s, starts l x = true) : s.filter (starts l) = s := List.filter_eq_self.mpr h
theorem any_ne {l : List Nat} {s : List Str} (h : ∀ x ∈ s, starts l x = true) : s.any (starts l) = !s.isEmpty := by
  cases s with
  | nil => rfl
  | cons x r => rw [List.any_cons, h x (by simp)]; rfl
theorem any_none {l : List Nat} {s : List Str} (h : ∀ x ∈ s, starts l x = false) : s.any (starts l) = false := List.any_eq_false.mpr fun x hx => by rw [h x hx]; exact Bool.false_ne_true
/-- looks behind one side see that side only -/
theorem any_side {W : Nat} {l m : List Nat} {s0 s1 : List Str} {c d : Nat} (hc : (c = 48 ∧ d = 49) ∨ (c = 49 ∧ d = 48)) (b1 : ∀ x ∈ s1, starts (l ++ [d]) x = true) (hm : m.take (l.length + 1) = l ++ [c]) : s1.any (starts m) = false := by
  refine any_none fun x hx => ?_
  cases e : starts m x with
  | false => rfl
  | true =>
    have h1 : m = (l ++ [c]) ++ m.drop (l.length + 1) := by rw [← hm, List.take_append_drop]
    rw [h1] at e
    have h2 := starts_app e
    rcases hc with ⟨rfl, rfl⟩ | ⟨rfl, rfl⟩
    · exact (starts_two h2 (b1 x hx)).elim
    · exact (starts_two (b1 x hx) h2).elim
theorem mem_cap {F : List (List Str)} {s : List Str} (h : s ∈ capF F) : s ∈ F := by
  unfold capF at h
  rcases List.mem_append.mp h with c | c
  · exact (List.mem_filter.mp c).1
  · exact (List.mem_filter.mp (List.mem_of_mem_take c)).1
theorem cap_mem {F : List (List Str)} {s : List Str} (h : s ∈ F) : s ∈ capF F ∨ (s ≠ [] ∧ 2 ≤ fN (capF F)) := by
  rw [fN_cap]
  by_cases e : s = []
  · exact .inl (List.mem_append_left _ (List.mem_filter.mpr ⟨h, by rw [e]; rfl⟩))
  · have hm : s ∈ F.filter fun s => !s.isEmpty := List.mem_filter.mpr ⟨h, by cases s with
      | nil => exact absurd rfl e
      | cons a b => rfl⟩
    by_cases c : fN F ≤ 2
    · refine .inl (List.mem_append_right _ ?_)
      rw [List.take_of_length_le c]
      exact hm
    · exact .inr ⟨e, by omega⟩
theorem mem_filt {ts : List Bool} {F : List (List Str)} {s : List Str} : s ∈ filtF ts F ↔ s ∈ F ∧ ∀ t ∈ ts, t = !s.isEmpty := by
  unfold filtF
  rw [List.mem_filter]
  refine and_congr_right fun _ => ?_
  rw [Bool.not_eq_true', decide_eq_false_iff_not]
  constructor
  · intro h t ht
    cases t <;> cases e : s.isEmpty
    · rw [e] at h; exact absurd ht h
    · rfl
    · rfl
    · rw [e] at h; exact absurd ht h
  · intro h c
    have := h _ c
    cases e : s.isEmpty <;> rw [e] at this <;> cases this
theorem mem_prod {a b : List (List Str)} {s : List Str} : s ∈ prodF a b ↔ ∃ x ∈ a, ∃ y ∈ b, s = x ++ y := by
  unfold prodF
  rw [List.mem_flatMap]
  refine exists_congr fun x => and_congr_right fun _ => ?_
  rw [List.mem_map]
  constructor
  · rintro ⟨y, hy, e⟩
    exact ⟨y, hy, e.symm⟩
  · rintro ⟨y, hy, e⟩
    exact ⟨y, hy, e.symm⟩
theorem reps_beg {W c : Nat} {l : List Nat} (hc : c = 48 ∨ c = 49) (hb : Bits l) (hl : l.length ≤ W) : Beg W l (S (l ++ List.replicate (W - l.length) c)) := by
  refine ⟨_, rfl, by rw [List.length_append, List.length_replicate]; omega, fun z hz => ?_, by rw [List.take_left]⟩
  rcases List.mem_append.mp hz with q | q
  · exact hb z q
  · rw [(List.mem_replicate.mp q).2]
    exact hc
theorem unl_ok {W : Nat} {l : List Nat} {s : List Str} (hb : Bits l) (hl : l.length ≤ W) (h : s ∈ unlF W l) : (∀ x ∈ s, Beg W l x) ∧ RL s := by
  have one : ∀ y : Str, RL [y] := fun y => ⟨List.pairwise_singleton _ _, List.pairwise_singleton _ _⟩
  unfold unlF at h
  split at h
  · rename_i e
    simp only [List.mem_cons, List.not_mem_nil, or_false] at h
    rcases h with rfl | rfl
    · exact ⟨fun x hx => absurd hx (by simp), .nil, .nil⟩
    · refine ⟨fun x hx => ?_, one _⟩
      rw [List.mem_singleton.mp hx]
      exact ⟨l, rfl, e, hb, by rw [List.take_length]⟩
  · simp only [List.mem_cons, List.not_mem_nil, or_false] at h
    rcases h with rfl | rfl | rfl
    · exact ⟨fun x hx => absurd hx (by simp), .nil, .nil⟩
    · refine ⟨fun x hx => ?_, one _⟩
      rw [List.mem_singleton.mp hx]
      exact reps_beg (.inl rfl) hb hl
    · refine ⟨fun x hx => ?_, one _⟩
      rw [List.mem_singleton.mp hx]
      exact reps_beg (.inr rfl) hb hl
theorem bits_snoc {l : List Nat} {c : Nat} (h : Bits l) (hc : c = 48 ∨ c = 49) : Bits (l ++ [c]) := fun z hz => by
  rcases List.mem_append.mp hz with q | q
  · exact h z q
  · rw [List.mem_singleton.mp q]
    exact hc
theorem beg2_next {l : List Nat} {q : Lk} (hb : Bits q.1) (h : beg2 l q = true) : q.1 = l ∨ beg2 (l ++ [48]) q = true ∨ beg2 (l ++ [49]) q = true := by
  have e := of_decide_eq_true h
  by_cases c : q.1.length ≤ l.length
  · rw [List.take_of_length_le c] at e
    exact .inl e
  · refine .inr ?_
    have hm : l.length < q.1.length := by omega
    have s : q.1.take (l.length + 1) = l ++ [q.1[l.length]] := by rw [List.take_succ_eq_append_getElem hm, e]
    rcases hb _ (List.getElem_mem hm) with d | d
    · refine .inl (decide_eq_true ?_)
      rw [List.length_append]
      show q.1.take (l.length + 1) = _
      rw [s, d]
    · refine .inr (decide_eq_true ?_)
      rw [List.length_append]
      show q.1.take (l.length + 1) = _
      rw [s, d]
theorem beg2_take {l : List Nat} {c : Nat} {q : Lk} (h : beg2 (l ++ [c]) q = true) (d : Nat) : (q.1 ++ [d]).take (l.length + 1) = l ++ [c] := by
  have e := of_decide_eq_true h
  rw [List.length_append] at e
  have e' : q.1.take (l.length + 1) = l ++ [c] := e
  have hl : l.length + 1 ≤ q.1.length := by
    have := congrArg List.length e'
    rw [List.length_take, List.length_append, List.length_singleton] at this
    omega
  rw [List.take_append_of_le_length hl]
  exact e'
section
variable {W : Nat} {ps : List Lk} {op : Str → Bool}
theorem tl_cat {W : Nat} {l : List Nat} {q : Lk} {s0 s1 : List Str} (hb : Bits q.1) (b0 : ∀ x ∈ s0, Beg W (l ++ [48]) x) (b1 : ∀ x ∈ s1, Beg W (l ++ [49]) x) (h : beg2 l q = true) :
    (q.1 = l ∧ (Tl (s0 ++ s1) q ↔ q.2.1 = !s0.isEmpty ∧ q.2.2 = !s1.isEmpty)) ∨ (beg2 (l ++ [48]) q = true ∧ (Tl (s0 ++ s1) q ↔ Tl s0 q)) ∨ (beg2 (l ++ [49]) q = true ∧ (Tl (s0 ++ s1) q ↔ Tl s1 q)) := by
  have t0 : ∀ x ∈ s0, starts (l ++ [48]) x = true := fun x hx => (b0 x hx).st
  have t1 : ∀ x ∈ s1, starts (l ++ [49]) x = true := fun x hx => (b1 x hx).st
  rcases beg2_next hb h with e | e | e
  · refine .inl ⟨e, ?_⟩
    unfold Tl
    rw [List.any_append, List.any_append, e, any_ne t0, any_ne t1, any_side (W := W) (s0 := s0) (.inl ⟨rfl, rfl⟩) t1 (List.take_of_length_le (by simp)), any_side (W := W) (s0 := s0) (.inr ⟨rfl, rfl⟩) t0 (List.take_of_length_le (by simp)), Bool.or_false, Bool.false_or]
  · refine .inr (.inl ⟨e, ?_⟩)
    unfold Tl
    rw [List.any_append, List.any_append, any_side (W := W) (s0 := s0) (.inl ⟨rfl, rfl⟩) t1 (beg2_take e 48), any_side (W := W) (s0 := s0) (.inl ⟨rfl, rfl⟩) t1 (beg2_take e 49), Bool.or_false, Bool.or_false]
  · refine .inr (.inr ⟨e, ?_⟩)
    unfold Tl
    rw [List.any_append, List.any_append, any_side (W := W) (s0 := s0) (.inr ⟨rfl, rfl⟩) t0 (beg2_take e 48), any_side (W := W) (s0 := s0) (.inr ⟨rfl, rfl⟩) t0 (beg2_take e 49), Bool.false_or, Bool.false_or]
theorem sb_sound (hps : ∀ q ∈ ps, Bits q.1 ∧ q.1.length < W) (ho : ∀ y, op y = true ↔ OpenS ps y) : ∀ (n : Nat) (l : List Nat), l.length + n = W → Bits l → ∀ s ∈ sbF W op (toldF ps) n l, Cn ps W l s ∧ RL s
  | 0, l, hn, hb, s, hs => by
    rw [sb_u, uF0] at hs
    obtain ⟨h1, h2⟩ := mem_filt.mp (mem_cap hs)
    obtain ⟨u1, u2⟩ := unl_ok hb (by omega) h1
    refine ⟨⟨u1, fun q hq c => ?_, h2⟩, u2⟩
    have e := congrArg List.length (of_decide_eq_true c)
    rw [List.length_take] at e
    have := (hps q hq).2
    omega
  | n + 1, l, hn, hb, s, hs => by
    rw [sb_u, uFs] at hs
    obtain ⟨h1, h2⟩ := mem_filt.mp (mem_cap hs)
    have ll : ∀ c : Nat, (l ++ [c]).length + n = W := fun c => by rw [List.length_append, List.length_singleton]; omega
    by_cases c : op (S l) = true
    · rw [if_pos c] at h1
      obtain ⟨s0, hs0, s1, hs1, rfl⟩ := mem_prod.mp h1
      obtain ⟨⟨b0, q0, t0⟩, r0⟩ := sb_sound hps ho n (l ++ [48]) (ll 48) (bits_snoc hb (.inl rfl)) s0 hs0
      obtain ⟨⟨b1, q1, t1⟩, r1⟩ := sb_sound hps ho n (l ++ [49]) (ll 49) (bits_snoc hb (.inr rfl)) s1 hs1
      have up : ∀ {c : Nat} {x : Str}, Beg W (l ++ [c]) x → Beg W l x := fun h => Beg.of h.num (starts_app h.st)
      refine ⟨⟨fun x hx => ?_, fun q hq hl => ?_, h2⟩, rl_cat r0 r1 b0 b1⟩
      · rcases List.mem_append.mp hx with y | y
        · exact up (b0 x y)
        · exact up (b1 x y)
      · rcases tl_cat (hps q hq).1 b0 b1 hl with ⟨e, i⟩ | ⟨e, i⟩ | ⟨e, i⟩
        · exact i.mpr ⟨t0 _ (mem_t0.mpr ⟨q, hq, e, rfl⟩), t1 _ (mem_t1.mpr ⟨q, hq, e, rfl⟩)⟩
        · exact i.mpr (q0 q hq e)
        · exact i.mpr (q1 q hq e)
    · rw [if_neg c] at h1
      obtain ⟨u1, u2⟩ := unl_ok hb (by omega) h1
      refine ⟨⟨u1, fun q hq z => ?_, h2⟩, u2⟩
      exact (c ((ho _).mpr (open_any.mpr (List.any_eq_true.mpr ⟨q, hq, z⟩)))).elim
theorem fN_filt {ts : List Bool} {U : List (List Str)} (h : false ∉ ts) : fN (filtF ts U) = fN U := by
  unfold fN
  rw [f_filt, if_neg h]
theorem sb_comp (hps : ∀ q ∈ ps, Bits q.1 ∧ q.1.length < W) (ho : ∀ y, op y = true ↔ OpenS ps y) : ∀ (n : Nat) (l : List Nat), l.length + n = W → ∀ s, Cn ps W l s → RL s → s ∈ sbF W op (toldF ps) n l ∨ (s ≠ [] ∧ 2 ≤ fN (sbF W op (toldF ps) n l)) := by
  intro n
  induction n with
  | zero =>
    intro l hn s hc hr
    rw [sb_u, uF0]
    refine cap_mem (mem_filt.mpr ⟨?_, hc.2.2⟩)
    unfold unlF
    rw [if_pos (by omega)]
    have al : ∀ x ∈ s, x = S l := fun x hx => by
      obtain ⟨m, rfl, e1, _, e⟩ := hc.1 x hx
      rw [List.take_of_length_le (by omega)] at e
      rw [e]
    match s, al, hr with
    | [], _, _ => exact List.mem_cons_self
    | [x], al, _ => rw [al x (by simp)]; simp
    | x :: y :: r, al, hr =>
      have := (List.pairwise_cons.mp hr.2).1 y (by simp)
      exact (this (by rw [al x (by simp), al y (by simp)])).elim
  | succ n ih =>
    intro l hn s hc hr
    obtain ⟨c1, c2, c3⟩ := hc
    have ll : ∀ c : Nat, (l ++ [c]).length + n = W := fun c => by rw [List.length_append, List.length_singleton]; omega
    have two : s ≠ [] → 2 ≤ fN (uF W op (toldF ps) (n + 1) l) → s ≠ [] ∧ 2 ≤ fN (sbF W op (toldF ps) (n + 1) l) := fun hs h => by
      refine ⟨hs, ?_⟩
      rw [sb_u, fN_cap, fN_filt]
      · omega
      · intro z
        have := c3 _ z
        cases s with
        | nil => exact hs rfl
        | cons a b => cases this
    by_cases c : op (S l) = true
    · have sp := rl_split hr c1 (by omega)
      have f0 := Beg.flt (m := l ++ [48]) c1
      have f1 := Beg.flt (m := l ++ [49]) c1
      have r0 := hr.flt (starts (l ++ [48]))
      have r1 := hr.flt (starts (l ++ [49]))
      generalize s.filter (starts (l ++ [48])) = s0 at sp f0 r0
      generalize s.filter (starts (l ++ [49])) = s1 at sp f1 r1
      subst sp
      have g0 : Cn ps W (l ++ [48]) s0 := by
        refine ⟨f0, fun q hq z => ?_, fun t ht => ?_⟩
        · rcases tl_cat (hps q hq).1 f0 f1 (beg_long z) with ⟨e, i⟩ | ⟨e, i⟩ | ⟨e, i⟩
          · exfalso
            have := congrArg List.length (of_decide_eq_true z)
            rw [List.length_take, List.length_append, e, List.length_singleton] at this
            omega
          · exact i.mp (c2 q hq (beg_long z))
          · exfalso
            have a := of_decide_eq_true z
            have b := of_decide_eq_true e
            rw [List.length_append] at a b
            have a' : q.1.take (l.length + 1) = l ++ [48] := a
            have b' : q.1.take (l.length + 1) = l ++ [49] := b
            rw [a'] at b'
            have := List.append_cancel_left b'
            simp at this
        · obtain ⟨q, hq, e, rfl⟩ := mem_t0.mp ht
          rcases tl_cat (hps q hq).1 f0 f1 (beg_self e) with ⟨_, i⟩ | ⟨z, i⟩ | ⟨z, i⟩
          · exact (i.mp (c2 q hq (beg_self e))).1
          all_goals
            exfalso
            have := congrArg List.length (of_decide_eq_true z)
            rw [List.length_take, List.length_append, e, List.length_singleton] at this
            omega
      have g1 : Cn ps W (l ++ [49]) s1 := by
        refine ⟨f1, fun q hq z => ?_, fun t ht => ?_⟩
        · rcases tl_cat (hps q hq).1 f0 f1 (beg_long z) with ⟨e, i⟩ | ⟨e, i⟩ | ⟨e, i⟩
          · exfalso
            have := congrArg List.length (of_decide_eq_true z)
            rw [List.length_take, List.length_append, e, List.length_singleton] at this
            omega
          · exfalso
            have a := of_decide_eq_true z
            have b := of_decide_eq_true e
            rw [List.length_append] at a b
            have a' : q.1.take (l.length + 1) = l ++ [49] := a
            have b' : q.1.take (l.length + 1) = l ++ [48] := b
            rw [a'] at b'
            have := List.append_cancel_left b'
            simp at this
          · exact i.mp (c2 q hq (beg_long z))
        · obtain ⟨q, hq, e, rfl⟩ := mem_t1.mp ht
          rcases tl_cat (hps q hq).1 f0 f1 (beg_self e) with ⟨_, i⟩ | ⟨z, i⟩ | ⟨z, i⟩
          · exact (i.mp (c2 q hq (beg_self e))).2
          all_goals
            exfalso
            have := congrArg List.length (of_decide_eq_true z)
            rw [List.length_take, List.length_append, e, List.length_singleton] at this
            omega
      have i0 := ih (l ++ [48]) (ll 48) s0 g0 r0
      have i1 := ih (l ++ [49]) (ll 49) s1 g1 r1
      have hU : uF W op (toldF ps) (n + 1) l = prodF (sbF W op (toldF ps) n (l ++ [48])) (sbF W op (toldF ps) n (l ++ [49])) := by rw [uFs, if_pos c]
      generalize sbF W op (toldF ps) n (l ++ [48]) = A at i0 hU
      generalize sbF W op (toldF ps) n (l ++ [49]) = B at i1 hU
      have pos : ∀ {F : List (List Str)} {s : List Str}, (s ∈ F ∨ (s ≠ [] ∧ 2 ≤ fN F)) → 1 ≤ eN F + fN F := fun {F s} h => by
        rw [← ef_len]
        rcases h with h | h
        · exact List.length_pos_of_mem h
        · rw [ef_len]
          omega
      have p0 := pos i0
      have p1 := pos i1
      have ef := fN_prod A B
      rcases i0 with i0 | ⟨n0, i0⟩
      · rcases i1 with i1 | ⟨n1, i1⟩
        · rw [sb_u, hU]
          exact cap_mem (mem_filt.mpr ⟨mem_prod.mpr ⟨s0, i0, s1, i1, rfl⟩, c3⟩)
        · refine .inr (two (fun z => n1 (List.append_eq_nil_iff.mp z).2) ?_)
          rw [hU, ef]
          have : 1 * fN B ≤ (eN A + fN A) * fN B := Nat.mul_le_mul_right _ p0
          rw [Nat.add_mul] at this
          omega
      · refine .inr (two (fun z => n0 (List.append_eq_nil_iff.mp z).1) ?_)
        rw [hU, ef]
        have : fN A * 1 ≤ fN A * (eN B + fN B) := Nat.mul_le_mul_left _ p1
        rw [Nat.mul_add] at this
        omega
    · by_cases e : s = []
      · rw [sb_u, uFs, if_neg c]
        refine cap_mem (mem_filt.mpr ⟨?_, c3⟩)
        unfold unlF
        rw [if_neg (by omega), e]
        exact List.mem_cons_self
      · refine .inr (two e ?_)
        rw [uFs, if_neg c]
        unfold unlF
        rw [if_neg (by omega)]
        exact Nat.le_refl 2
theorem cap_nd {F : List (List Str)} (h : F.Nodup) : (capF F).Nodup := by
  unfold capF
  refine List.pairwise_append.mpr ⟨h.filter _, (h.filter _).sublist (List.take_sublist _ _), fun x hx y hy e => ?_⟩
  have a := (List.mem_filter.mp hx).2
  have b := (List.mem_filter.mp (List.mem_of_mem_take hy)).2
  rw [e] at a
  rw [a] at b
  cases b
theorem sb_nd (hps : ∀ q ∈ ps, Bits q.1 ∧ q.1.length < W) (ho : ∀ y, op y = true ↔ OpenS ps y) : ∀ (n : Nat) (l : List Nat), l.length + n = W → Bits l → (sbF W op (toldF ps) n l).Nodup
  | 0, l, hn, hb => by
    rw [sb_u, uF0]
    refine cap_nd (List.Pairwise.filter _ ?_)
    unfold unlF
    rw [if_pos (by omega)]
    simp
  | n + 1, l, hn, hb => by
    rw [sb_u, uFs]
    have ll : ∀ c : Nat, (l ++ [c]).length + n = W := fun c => by rw [List.length_append, List.length_singleton]; omega
    refine cap_nd (List.Pairwise.filter _ ?_)
    by_cases c : op (S l) = true
    · rw [if_pos c]
      have n0 := sb_nd hps ho n (l ++ [48]) (ll 48) (bits_snoc hb (.inl rfl))
      have n1 := sb_nd hps ho n (l ++ [49]) (ll 49) (bits_snoc hb (.inr rfl))
      have s0 := sb_sound hps ho n (l ++ [48]) (ll 48) (bits_snoc hb (.inl rfl))
      have s1 := sb_sound hps ho n (l ++ [49]) (ll 49) (bits_snoc hb (.inr rfl))
      have un : ∀ a ∈ sbF W op (toldF ps) n (l ++ [48]), ∀ b ∈ sbF W op (toldF ps) n (l ++ [49]), (a ++ b).filter (starts (l ++ [48])) = a ∧ (a ++ b).filter (starts (l ++ [49])) = b := fun a ha b hb => by
        have ba := (s0 a ha).1.1
        have bb := (s1 b hb).1.1
        rw [List.filter_append, List.filter_append, flt_all (m := l) (fun x hx => (ba x hx).st), flt_all (m := l) (fun x hx => (bb x hx).st)]
        rw [List.filter_eq_nil_iff.mpr fun x hx z => starts_two z (bb x hx).st, List.filter_eq_nil_iff.mpr fun x hx z => starts_two (ba x hx).st z]
        exact ⟨List.append_nil _, rfl⟩
      unfold prodF
      refine List.pairwise_flatMap.mpr ⟨fun a ha => ?_, ?_⟩
      · exact List.Pairwise.map _ (fun x y h => fun e => h (List.append_cancel_left e)) n1
      · refine n0.imp_of_mem fun {a b} ha hb hab x hx y hy e => ?_
        obtain ⟨u, hu, rfl⟩ := List.mem_map.mp hx
        obtain ⟨v, hv, rfl⟩ := List.mem_map.mp hy
        have e1 := (un a ha u hu).1
        have e2 := (un b hb v hv).1
        rw [e, e2] at e1
        exact hab e1.symm
    · rw [if_neg c]
      unfold unlF
      rw [if_neg (by omega)]
      have ne : ∀ k : Nat, 0 < k → S (l ++ List.replicate k 48) ≠ S (l ++ List.replicate k 49) := fun k hk e => by
        have := List.append_cancel_left (S_inj e)
        cases k with
        | zero => omega
        | succ k => simp [List.replicate_succ] at this
      have := ne (W - l.length) (by omega)
      simp [this]
def Top (ps : List Lk) (W : Nat) (s : List Str) : Prop := (∀ x ∈ s, Num W x) ∧ (∀ q ∈ ps, Tl s q) ∧ RL s
theorem told_nil : toldF ps (S []) = [] := by
  unfold toldF
  rw [List.flatMap_eq_nil_iff]
  intro q _
  unfold tol1
  rw [if_neg (fun e => by have := S_inj e; simp at this), if_neg (fun e => by have := S_inj e; simp at this)]
  rfl
theorem Top.cn {s : List Str} (h : Top ps W s) : Cn ps W [] s := ⟨fun x hx => Beg.of (h.1 x hx) (decide_eq_true rfl), fun q hq _ => h.2.1 q hq, fun t ht => by rw [told_nil] at ht; cases ht⟩
theorem Cn.top {s : List Str} (h : Cn ps W [] s) (r : RL s) : Top ps W s := ⟨fun x hx => (h.1 x hx).num, fun q hq => h.2.1 q hq (decide_eq_true rfl), r⟩
/-- just one -/
theorem shown_one (hps : ∀ q ∈ ps, Bits q.1 ∧ q.1.length < W) (ho : ∀ y, op y = true ↔ OpenS ps y) {s : List Str} (h : Top ps W s) (u : ∀ t, Top ps W t → t = s) : sbF W op (toldF ps) W [] = [s] := by
  have nd := sb_nd hps ho W [] (by simp) (fun c hc => absurd hc (by simp))
  have so : ∀ t ∈ sbF W op (toldF ps) W [], t = s := fun t ht => by
    have := sb_sound hps ho W [] (by simp) (fun c hc => absurd hc (by simp)) t ht
    exact u t (this.1.top this.2)
  have co := sb_comp hps ho W [] (by simp) s h.cn h.2.2
  have l1 : (sbF W op (toldF ps) W []).length ≤ 1 := by
    generalize sbF W op (toldF ps) W [] = F at nd so
    match F, nd, so with
    | [], _, _ => exact Nat.zero_le _
    | [x], _, _ => exact Nat.le_refl _
    | x :: y :: r, nd, so =>
      have := (List.pairwise_cons.mp nd).1 y (by simp)
      exact (this (by rw [so x (by simp), so y (by simp)])).elim
  rcases co with c | ⟨_, c⟩
  · generalize sbF W op (toldF ps) W [] = F at l1 so c
    match F, l1, so, c with
    | [x], _, so, _ => rw [so x (by simp)]
  · have := ef_len (sbF W op (toldF ps) W [])
    omega
/-- several -/
theorem shown_more (hps : ∀ q ∈ ps, Bits q.1 ∧ q.1.length < W) (ho : ∀ y, op y = true ↔ OpenS ps y) {s t : List Str} (h : Top ps W s) (g : Top ps W t) (ne : s ≠ t) : 2 ≤ (sbF W op (toldF ps) W []).length := by
  have c1 := sb_comp hps ho W [] (by simp) s h.cn h.2.2
  have c2 := sb_comp hps ho W [] (by simp) t g.cn g.2.2
  have e := ef_len (sbF W op (toldF ps) W [])
  generalize sbF W op (toldF ps) W [] = F at c1 c2 e
  rcases c1 with c1 | ⟨_, c1⟩
  · rcases c2 with c2 | ⟨_, c2⟩
    · match F, c1, c2 with
      | [], c1, _ => cases c1
      | [x], c1, c2 => exact (ne (by rw [List.mem_singleton.mp c1, List.mem_singleton.mp c2])).elim
      | x :: y :: r, _, _ => exact Nat.le_add_left 2 _
    · omega
  · omega
/-- not so -/
theorem shown_not (hps : ∀ q ∈ ps, Bits q.1 ∧ q.1.length < W) (ho : ∀ y, op y = true ↔ OpenS ps y) {s : List Str} (h : ¬ Top ps W s) : sbF W op (toldF ps) W [] ≠ [s] := fun e => by
  have := sb_sound hps ho W [] (by simp) (fun c hc => absurd hc (by simp)) s (by rw [e]; exact List.mem_singleton.mpr rfl)
  exact h (this.1.top this.2)
end
end B

set_option Elab.async false
set_option linter.all false
set_option maxRecDepth 100000
set_option maxHeartbeats 4000000
namespace B
open PySem PySem.Spec PyProof.Rows L2
open SX (S)
theorem for_enum {K : PySem.W.Frag} {a : Addr} {xs : List V} {g : TG} {tb : TS} {D : Ends} {σ : L2.St} {H : Hp} (Pv : Nat → L2.St → Hp → Prop) (h0 : Pv 0 σ H) (hL : ∀ (i : Nat) (σ : L2.St) (H : Hp), i ≤ xs.length → Pv i σ H → SqL K H a xs)
    (hs : ∀ (i : Nat) (x : V) (T : Addr) (σ : L2.St) (H : Hp), xs[i]? = some x → Pv i σ H → H T = none → g (.ref T) σ (upd H T (.tup [.int i, x])) fun σ2 H2 => tb { nx := Pv (i + 1), rt := D.rt, bk := D.nx, ct := Pv (i + 1) } σ2 H2)
    (hd : ∀ (σ : L2.St) (H : Hp), Pv xs.length σ H → D.nx σ H) : ∃ W : Nat → Nat → L2.St → Hp → Prop, (∃ m, W 0 m σ H) ∧ ∀ (i m : Nat) (σ : L2.St) (H : Hp), W i m σ H →
      (Ite K a).stop i H ∧ D.nx σ H ∨ (Ite K a).go i H ∧ ∃ N : L2.St → Hp → Prop, (∀ (σ' : L2.St) (H' : Hp), N σ' H' → ∃ m', m' < m ∧ W (i + 1) m' σ' H') ∧
        ∀ (x : V) (H' : Hp), (Ite K a).yld i H x H' → g x σ H' fun σ2 H2 => tb { nx := N, rt := D.rt, bk := D.nx, ct := N } σ2 H2 := by
  refine ⟨fun i m σ H => i + m = xs.length ∧ Pv i σ H, ⟨xs.length, by omega, h0⟩, fun i m σ H ⟨e, p⟩ => ?_⟩
  have L := hL i σ H (by omega) p
  rcases Nat.lt_or_ge i xs.length with h | h
  · refine .inr ⟨⟨xs, xs[i], L, List.getElem?_eq_getElem h⟩, Pv (i + 1), fun σ' H' p' => ⟨m - 1, by omega, by omega, p'⟩, fun x H' ⟨T, y, e1, e2, e3, e4⟩ => ?_⟩
    subst e1 e3
    exact hs i y T σ H (e4 xs L) p e2
  · obtain rfl : i = xs.length := by omega
    exact .inl ⟨⟨xs, L, Nat.le_refl _⟩, hd _ _ p⟩
section
variable {P : Program} {w : World} {K : PySem.W.Frag} {mg : Str → Option Value} {base : Heap}
theorem LZ.keepT {H H' : Hp} {p : Addr} {zs : List (Addr × Lk)} (h : LZ H p zs) (f : FrT K [] H H') : LZ H' p zs := ⟨f.k _ _ h.1 rfl (by simp), fun z hz => f.k _ _ (h.2 z hz) rfl (by simp)⟩
def spIsBeg (K : PySem.W.Frag) : Sp := fun vs H Q _ => ∃ (W : Nat) (l : List Nat), vs = [.int W, .str (S l)] ∧ Bits l ∧ l.length < W ∧ W ≤ 12 ∧ Tb K H ∧ ∀ H', FrT K [] H H' → Q (.bl true) H'
def spIsLook (K : PySem.W.Frag) : Sp := fun vs H Q _ => ∃ (W : Nat) (t : Addr) (q : Lk), vs = [.int W, .ref t] ∧ H t = some (.tup [txV q.1, .bl q.2.1, .bl q.2.2]) ∧ Bits q.1 ∧ q.1.length < W ∧ W ≤ 12 ∧ Tb K H ∧ ∀ H', FrT K [] H H' → Q (.bl true) H'
def spReqLooks (K : PySem.W.Frag) : Sp := fun vs H Q _ => ∃ (W : Nat) (p : Addr) (zs : List (Addr × Lk)), vs = [.int W, .ref p] ∧ LZ H p zs ∧ zs.length ≤ 100 ∧ (∀ z ∈ zs, Bits z.2.1 ∧ z.2.1.length < W) ∧ W ≤ 12 ∧ Tb K H ∧ ∀ H', FrT K [] H H' → Q .non H'
def dueF (W : Nat) (qs : List Lk) (H : Hp) (t : Addr) : Prop := ((waysG W qs []).1 + (waysG W qs []).2 = 0 ∧ H t = some (.tup [.str "none"])) ∨ ((waysG W qs []).1 + (waysG W qs []).2 = 1 ∧ ∃ q, H t = some (.tup [.str "one", .ref q]) ∧ H q = some (.lst ((if (waysG W qs []).2 = 1 then thoseG W qs [] else []).map V.str))) ∨ (2 ≤ (waysG W qs []).1 + (waysG W qs []).2 ∧ H t = some (.tup [.str "more"]))
def spShown (K : PySem.W.Frag) : Sp := fun vs H Q _ => ∃ (W : Nat) (p : Addr) (zs : List (Addr × Lk)), vs = [.int W, .ref p] ∧ LZ H p zs ∧ zs.length ≤ 100 ∧ (∀ z ∈ zs, Bits z.2.1 ∧ z.2.1.length < W) ∧ 1 ≤ W ∧ W ≤ 12 ∧ Tb K H ∧ ∀ (t : Addr) (H' : Hp), FrT K [] H H' → dueF W (zs.map (·.2)) H' t → Q (.ref t) H'
theorem told_len {ps : List Lk} (y : Str) : (toldF ps y).length ≤ ps.length * 2 := by
  unfold toldF
  induction ps with
  | nil => exact Nat.le_refl 0
  | cons q r ih =>
    rw [List.flatMap_cons, List.length_append, List.length_cons]
    have : (tol1 q y).length ≤ 2 := by
      unfold tol1
      split <;> split <;> simp
    omega
end
end B

set_option Elab.async false
set_option linter.all false
set_option maxRecDepth 100000
set_option maxHeartbeats 4000000
namespace B
open PySem PySem.Spec PyProof.Rows L2
open SX (S)
section
variable {P : Program} {w : World} {K : PySem.W.Frag} {mg : Str → Option Value} {base : Heap}
/-- two truths of numbers and a beginning, whichever -/
def spLook2 : Sp := fun vs H Q _ => ∃ (ml : Addr) (W : Nat) (l : List Nat) (xs : List Str), vs = [.ref ml, .str (S l)] ∧ H ml = some (.lst (xs.map V.str)) ∧ (∀ x ∈ xs, Num W x) ∧ l.length < W ∧ W ≤ 12 ∧
  ∀ (p : Addr) (a b : Bool) (H' : Hp), H p = none → H' p = some (.tup [.bl a, .bl b]) → Frm [] H H' → Q (.ref p) H'
theorem c_llook2 (T : Txt P w K mg base) : CalX CX0 P w K mg base 1 "_law_looked" spLook2 := by
  obtain ⟨fd, F⟩ := T.t.def_ 21 (d := d_llooked)
  refine ⟨_, fd, _, F.ok sc_llooked (fun vs H Q E h => ?_) (fun cdv A outer s H vs Q E hr h => ?_), He.glo_ok T.X T.G (T.t.fact 21), F.kp, F.bindsN fun _ _ _ _ _ _ us hl => match us, hl with | [_, _], _ => rfl⟩
  · obtain ⟨ml, W, l, xs, rfl, _⟩ := h
    rfl
  · obtain ⟨ml, W, l, xs, rfl, hm0, hb, hl, hW, k0⟩ := h
    refine ⟨_, PSs.nox (pss_cons (ps_asg (pe_tup (pa_cons pe_bl (pa_cons pe_bl pa_nil))) (pg_tup rfl (pgs_cons (pg_name (i := 2) sc_llooked.nd rfl (Or.inl rfl)) (pgs_cons (pg_name (i := 3) sc_llooked.nd rfl (Or.inl rfl)) pgs_nil))))
    (pss_cons (ps_for PassesOwn.never rfl (pi_list (pv 0)) (pg_name (i := 4) sc_llooked.nd rfl (Or.inl rfl))
      (pss_one (ps_if (pt_cmpR op_eq (pe_slice C8.sl_txt (pv 4) po_none (po_some (pe_callB call_len_str (by rfl) (n_len T) PySem.boot_len (pa_cons (pv 1) pa_nil)))) (pv 1) (nomark _))
        (pss_cons (ps_set (i := 2) sc_llooked.nd rfl (Or.inl rfl) (pe_or (pv 2) (pe_one (pe_cmpR op_eq (pe_ix ix_str (pv 4) (pe_callB call_len_str (by rfl) (n_len T) PySem.boot_len (pa_cons (pv 1) pa_nil)) (fun _ _ => rfl)) pe_str (nomark _)))))
        (pss_one (ps_set (i := 3) sc_llooked.nd rfl (Or.inl rfl) (pe_or (pv 3) (pe_one (pe_cmpR op_eq (pe_ix ix_str (pv 4) (pe_callB call_len_str (by rfl) (n_len T) PySem.boot_len (pa_cons (pv 1) pa_nil)) (fun _ _ => rfl)) pe_str (nomark _)))))))
        pss_nil)))
    (pss_one (ps_ret (pe_tup (pa_cons (pv 2) (pa_cons (pv 3) pa_nil))))))), ?_⟩
    refine ⟨by show 2 ≤ sizeLine; decide, fun t ht => ⟨t, _, rfl, SqT.of upd_same, rfl, _, _, rfl, _, _, rfl, rfl, ?_⟩⟩
    have hm : (upd H t (.tup [.bl false, .bl false])) ml = some (.lst (xs.map V.str)) := same_upd ht _ _ hm0
    have k : ∀ p a b, (upd H t (.tup [.bl false, .bl false])) p = none → Q (.ref p) (upd (upd H t (.tup [.bl false, .bl false])) p (.tup [.bl a, .bl b])) := fun p a b hp =>
      k0 p a b _ (upd_back hp) upd_same (((Frm.refl _ _).new ht).new (upd_back hp))
    generalize (upd H t (.tup [.bl false, .bl false])) = H at hm k ⊢
    refine ⟨_, rfl, ml, rfl, ⟨_, SqL.of hm⟩, for_list (K := K) (a := ml) (xs := xs.map V.str) (fun i σ H' => ∃ (a b : Bool) (v4 : Option V), σ = [some (.ref ml), some (.str (S l)), some (.bl a), some (.bl b), v4] ∧ H' = H)
      ⟨_, _, none, rfl, rfl⟩ (fun i σ H' _ ⟨_, _, _, _, e⟩ => by rw [e]; exact SqL.of hm) ?_ ?_⟩
    · rintro i y σ H' hi ⟨a, b, v4, rfl, eH⟩
      subst H'
      obtain ⟨x, hx, rfl⟩ := at_map hi
      have hxb := hb x (List.mem_of_getElem? hx)
      obtain ⟨c, hc, g1, g2⟩ := num_at hxb hl
      have ls : ((S l).length : Int) = (l.length : Int) := by rw [SX.S_len]
      have sl : (S l).length ≤ sizeLine := by rw [SX.S_len]; exact size12 (by omega)
      have sx : x.length ≤ sizeLine := by rw [num_len hxb]; exact size12 (by omega)
      rw [← ls] at g2
      refine ⟨_, rfl, _, rfl, S l, rfl, sl, _, rfl, x, rfl, sx, _, rfl, rfl, _, rfl, ?_⟩
      refine iteB (fun _ => ?_) (fun _ => ⟨_, _, _, rfl, rfl⟩)
      have two : ∀ z : Bool, tAsg (tOrV (tVar 3) (tOp rEq (tOp rIxS (tVar 4) (tCB (fun xs H Q => ∃ a, xs = [.str a] ∧ a.length ≤ sizeLine ∧ Q (.int a.length) H) (tCons (tVar 1) tNil))) (tC (.str "1")))) (gName 3)
          { nx := fun σ H' => ∃ (a b : Bool) (v4 : Option V), σ = [some (.ref ml), some (.str (S l)), some (.bl a), some (.bl b), v4] ∧ H' = H, rt := Q } [some (.ref ml), some (.str (S l)), some (.bl z), some (.bl b), some (.str x)] H := fun z => by
        refine ⟨_, rfl, _, rfl, iteB (fun b => ?_) (fun b => ?_)⟩
        · exact ⟨_, _, _, rfl, rfl⟩
        · refine ⟨_, rfl, _, rfl, S l, rfl, sl, x, _, c, rfl, rfl, sx, g2, rfl, ?_⟩
          exact ⟨_, _, _, rfl, rfl⟩
      refine ⟨_, rfl, _, rfl, iteB (fun b => ?_) (fun b => ?_)⟩
      · exact two _
      · refine ⟨_, rfl, _, rfl, S l, rfl, sl, x, _, c, rfl, rfl, sx, g2, rfl, ?_⟩
        exact two _
    · rintro σ H' ⟨a, b, v4, rfl, eH⟩
      subst H'
      exact ⟨_, rfl, _, rfl, by show 2 ≤ sizeLine; decide, fun p hp => k p a b hp⟩
end
end B

set_option Elab.async false
set_option linter.all false
set_option maxRecDepth 100000
set_option maxHeartbeats 4000000
namespace B
open PySem PySem.Spec PyProof.Rows L2
open SX (S)
/-! ### the paper of a walk, and the looks of it that are needed -/
def MetB (W : Nat) (xs : List Str) (l : List Nat) : Prop := l.length < W ∧ (l = [] ∨ ∃ x ∈ xs, starts l x = true)
theorem MetB.bits {W : Nat} {xs : List Str} {l : List Nat} (h : MetB W xs l) (hn : ∀ x ∈ xs, Num W x) : Bits l := by
  rcases h.2 with rfl | ⟨x, hx, e⟩
  · exact fun c hc => absurd hc (by simp)
  · obtain ⟨m, rfl, _, b⟩ := hn x hx
    rw [starts_S] at e
    rw [← of_decide_eq_true e]
    exact fun c hc => b c (List.mem_of_mem_take hc)
structure PapG (W : Nat) (xs : List Str) (ps : List Lk) : Prop where
  nd : (ps.map (·.1)).Nodup
  met : ∀ q ∈ ps, MetB W xs q.1
  tl : ∀ q ∈ ps, Tl xs q
  all : ∀ l, MetB W xs l → ∃ q ∈ ps, q.1 = l
def needL (W : Nat) (xs : List Str) (l : List Nat) : Bool := !(xs.any (starts (l ++ [48])) && xs.any (starts (l ++ [49]))) || decide (l.length + 1 = W)
theorem tl_said {W : Nat} {due lm : List Str} {l : List Nat} (h1 : ∀ x ∈ due, starts l x = true → x ∈ lm) (h2 : ∀ x ∈ lm, x ∈ due) (h3 : ∀ x ∈ lm, Beg W l x) : Tl due (l, lm.any (sg l.length 48), lm.any (sg l.length 49)) := by
  have e : ∀ c : Nat, lm.any (sg l.length c) = due.any (starts (l ++ [c])) := fun c => by
    rw [Bool.eq_iff_iff, List.any_eq_true, List.any_eq_true]
    constructor
    · rintro ⟨x, hx, z⟩
      exact ⟨x, h2 x hx, by rw [starts_snoc, z, (h3 x hx).st]; rfl⟩
    · rintro ⟨x, hx, z⟩
      refine ⟨x, h1 x hx (starts_app z), ?_⟩
      rw [starts_snoc, Bool.and_eq_true] at z
      exact z.1
  exact ⟨e 48, e 49⟩
theorem step_paper {W : Nat} {kvs : List (Str × Bool)} {lm : List Str} {lk : Int} {st : WkS} : (stepF W kvs lm lk st).1.1.paper = match st.sd with
    | none => st.paper
    | some l => st.paper ++ [(l, lm.any (sg l.length 48), lm.any (sg l.length 49))] := by
  obtain ⟨kd, rest, sd, found, paper⟩ := st
  cases sd with
  | none => exact over_tld.2.2.2
  | some l =>
    unfold stepF
    dsimp only
    split
    · rfl
    · rw [over_tld.2.2.2]
      split <;> rfl
theorem all_pq {W : Nat} {kvs : List (Str × Bool)} {names due : List Str} (hW : 1 ≤ W) (hd : ∀ x ∈ due, Num W x) (hk : kvs.length ≤ 41) (hkn : ∀ x ∈ kvs.map (·.1), x ∈ names) (hnn : ∀ x ∈ names, Num W x) :
    ∀ {n : Nat} {q : Q4} {b : Nat} {cl : List (List Nat)}, Wlk due due q.1 q.2.1 cl → InvQ names W q b → (∀ x, x ∈ lisB kvs (decide (q.1.kd = "all")) ↔ x ∈ due) → (∀ z ∈ q.1.paper, Tl due z) → ∀ z ∈ (allF W kvs n q).1.paper, Tl due z := by
  intro n
  induction n with
  | zero => exact fun {q b cl} h iv he p => p
  | succ n ih =>
    intro q b cl h iv he p
    by_cases hst : q.1.sd = none ∧ q.1.rest = []
    · rw [all_stop hst]
      exact p
    · rw [all_go hst]
      have hr : q.1.sd = none → q.1.rest ≠ [] := fun a b => hst ⟨a, b⟩
      obtain ⟨cl', w1, _⟩ := wlk_step (kvs := kvs) (lk := q.2.2.2) h iv.ok hr hW hd hd (fun x hx => (he x).mp hx) fun x hx => (he x).mpr hx
      have i1 := inv_step (kvs := kvs) iv hr hk hkn hnn
      refine ih (q := stepQ W kvs q) w1 i1.1 (fun x => by
        show x ∈ lisB kvs (decide ((stepF W kvs q.2.1 q.2.2.2 q.1).1.1.kd = "all")) ↔ _
        rw [step_kd]
        exact he x) ?_
      show ∀ z ∈ (stepF W kvs q.2.1 q.2.2.2 q.1).1.1.paper, Tl due z
      rw [step_paper]
      cases hs : q.1.sd with
      | none => exact p
      | some l =>
        intro z hz
        rcases List.mem_append.mp hz with c | c
        · exact p z c
        · rw [List.mem_singleton.mp c]
          exact tl_said (fun x hx e => h.tl l hs x hx e) h.le (iv.ok.said l hs).2.2.2
/-- a whole walk on a still wire: what it finds, and its paper -/
theorem all_pap {W : Nat} {kvs : List (Str × Bool)} {names due : List Str} {kd : Str} {lm : List Str} {sdm : Option (List Nat)} {lk : Int} (hW : 1 ≤ W) (hW2 : W ≤ 12) (hn : names ≠ []) (hl : names.length ≤ 41) (hd : ∀ x ∈ due, Num W x) (srt : sortedS due = true) (nd : due.Nodup) (hk : kvs.length ≤ 41) (hkn : ∀ x ∈ kvs.map (·.1), x ∈ names) (hnn : ∀ x ∈ names, Num W x)
    (he : ∀ x, x ∈ lisB kvs (decide (kd = "all")) ↔ x ∈ due) {R : Q4} (eR : R = allF W kvs (meas W ⟨kd, [[]], none, [], []⟩) (⟨kd, [[]], none, [], []⟩, lm, sdm, lk)) (h1 : R.1.sd = none) (h2 : R.1.rest = []) :
    R.1.found.map S = due ∧ PapG W due R.1.paper ∧ ∀ ys, MetL W due ys → ys.length = R.1.paper.length := by
  have hp : 0 < meas W ⟨kd, [[]], none, [], []⟩ := meas_pos (fun z => by cases z.2)
  obtain ⟨m0, hm0⟩ : ∃ m0, meas W ⟨kd, [[]], none, [], []⟩ = m0 + 1 := ⟨meas W ⟨kd, [[]], none, [], []⟩ - 1, by omega⟩
  rw [hm0, all_lm rfl (by simp)] at eR
  have i0 := (inv_new (kd := kd) hn hW2 hl).1
  have iv : InvQ names W (⟨kd, [[]], none, [], []⟩, [], none, lk) 1 := ⟨i0.ok, i0.cn, i0.sub, i0.beg, i0.len, i0.mz⟩
  have A := all_still (n := m0 + 1) (kvs := kvs) hW hd hk hkn hnn (q := (⟨kd, [[]], none, [], []⟩, [], none, lk)) wlk_new pap_new iv he
  have PQ := all_pq (n := m0 + 1) (kvs := kvs) hW hd hk hkn hnn (q := (⟨kd, [[]], none, [], []⟩, [], none, lk)) wlk_new iv he fun z hz => absurd hz (by simp)
  rw [← eR] at A PQ
  obtain ⟨⟨cl, wl⟩, pp, ⟨b, iv2⟩, l⟩ := A
  have ep : pend R.1 = [] := by
    obtain ⟨⟨k1, rest, sd, fo, pa⟩, R2⟩ := R
    dsimp only at h1 h2
    subst h1
    exact h2
  have df := due_end wl hd srt nd ep
  obtain ⟨q1, q2⟩ := pap_end wl pp hd srt nd ep
  refine ⟨df.symm, ⟨wl.pp, fun q hq => pp.pa q hq, PQ, fun l hl => ?_⟩, fun ys hy => ?_⟩
  · have hm : S l ∈ (R.1.paper.map (·.1)).map S := by
      refine (q2 _).mpr ?_
      rcases hl.2 with rfl | ⟨x, hx, e⟩
      · exact .inl empty_S.symm
      · exact .inr ⟨x, hx, l.length, hl.1, by rw [of_decide_eq_true e]⟩
    obtain ⟨m, hm, e⟩ := List.mem_map.mp hm
    obtain ⟨q, hq, rfl⟩ := List.mem_map.mp hm
    exact ⟨q, hq, S_inj e⟩
  · have pm := (List.perm_ext_iff_of_nodup q1 hy.nd).mpr fun y => (q2 y).trans (hy.mem y).symm
    have := pm.length_eq
    rw [List.length_map, List.length_map] at this
    exact this.symm
section
variable {W : Nat} {xs : List Str}
theorem take_next {W k : Nat} {m : List Nat} (hm : m.length = W) (hk : k < W) (hb : Bits m) : ∃ c, (c = 48 ∨ c = 49) ∧ m.take (k + 1) = m.take k ++ [c] := by
  have h : k < m.length := by omega
  exact ⟨m[k], hb _ (List.getElem_mem h), List.take_succ_eq_append_getElem h⟩
theorem Tl.at {s : List Str} {q : Lk} (h : Tl s q) {c : Nat} (hc : c = 48 ∨ c = 49) : (if c = 48 then q.2.1 else q.2.2) = s.any (starts (q.1 ++ [c])) := by
  rcases hc with rfl | rfl
  · exact h.1
  · exact h.2
theorem few_one {qs : List Lk} (hW : 1 ≤ W) (hx : ∀ x ∈ xs, Num W x) (rx : RL xs) (ht : ∀ q ∈ qs, Tl xs q) (hall : ∀ l, MetB W xs l → needL W xs l = true → ∃ q ∈ qs, q.1 = l) : Top qs W xs ∧ ∀ t, Top qs W t → t = xs := by
  refine ⟨⟨hx, ht, rx⟩, fun t tt => rl_eq tt.2.2 rx fun x => ⟨fun h => ?_, fun h => ?_⟩⟩
  · obtain ⟨m, rfl, hm, hb⟩ := tt.1 x h
    by_cases hin : S m ∈ xs
    · exact hin
    exfalso
    have key : ∀ k, k ≤ W → (k = 0 ∨ ∃ y ∈ xs, starts (m.take k) y = true) := by
      intro k
      induction k with
      | zero => exact fun _ => .inl rfl
      | succ k ih =>
        intro hk
        have pk := ih (by omega)
        obtain ⟨c, hc, e⟩ := take_next hm (show k < W by omega) hb
        have lk : (m.take k).length = k := by rw [List.length_take]; omega
        have mt : MetB W xs (m.take k) := ⟨by omega, pk.imp (fun z => by rw [z, List.take_zero]) id⟩
        cases hz : xs.any (starts (m.take k ++ [c])) with
        | true =>
          obtain ⟨y, hy, e2⟩ := List.any_eq_true.mp hz
          exact .inr ⟨y, hy, by rw [e]; exact e2⟩
        | false =>
          have nd : needL W xs (m.take k) = true := by
            unfold needL
            rcases hc with rfl | rfl
            · rw [hz]; rfl
            · rw [hz, Bool.and_false]; rfl
          obtain ⟨q, hq, eq⟩ := hall _ mt nd
          have a := (ht q hq).at hc
          have b := (tt.2.1 q hq).at hc
          rw [a, eq, hz] at b
          have : t.any (starts (m.take k ++ [c])) = true := List.any_eq_true.mpr ⟨S m, h, by rw [starts_S, ← e]; exact decide_eq_true (by rw [List.length_take, Nat.min_eq_left (by omega)])⟩
          rw [this] at b
          cases b
    rcases key W (Nat.le_refl W) with z | ⟨y, hy, e⟩
    · omega
    · rw [List.take_of_length_le (by omega)] at e
      exact hin (by rw [← starts_full e (hx y hy) hm]; exact hy)
  · obtain ⟨m, rfl, hm, hb⟩ := hx x h
    obtain ⟨c, hc, e⟩ := take_next hm (show W - 1 < W by omega) hb
    have lk : (m.take (W - 1)).length = W - 1 := by rw [List.length_take]; omega
    have mt : MetB W xs (m.take (W - 1)) := ⟨by omega, .inr ⟨S m, h, by rw [starts_S]; exact decide_eq_true (by rw [List.length_take, Nat.min_eq_left (by omega)])⟩⟩
    have em : m.take (W - 1) ++ [c] = m := by
      rw [← e, show W - 1 + 1 = W by omega, List.take_of_length_le (by omega)]
    obtain ⟨q, hq, eq⟩ := hall _ mt (by
      unfold needL
      rw [decide_eq_true (show (m.take (W - 1)).length + 1 = W by omega), Bool.or_true])
    have a := (ht q hq).at hc
    have b := (tt.2.1 q hq).at hc
    rw [a, eq, em, List.any_eq_true.mpr ⟨S m, h, starts_self⟩] at b
    obtain ⟨y, hy, z⟩ := List.any_eq_true.mp b.symm
    rw [← starts_full z (tt.1 y hy) hm]
    exact hy
/-- one more, in its place -/
def insS (x : Str) (s : List Str) : List Str := s.filter (fun y => !ltCps x.cps.toList y.cps.toList) ++ x :: s.filter (fun y => ltCps x.cps.toList y.cps.toList)
theorem ins_mem {x y : Str} {s : List Str} : y ∈ insS x s ↔ y = x ∨ y ∈ s := by
  unfold insS
  rw [List.mem_append, List.mem_cons, List.mem_filter, List.mem_filter]
  cases ltCps x.cps.toList y.cps.toList <;> simp [or_comm]
theorem ins_rl {x : Str} {s : List Str} (h : RL s) (hx : x ∉ s) : RL (insS x s) := by
  have lo : ∀ {y : Str}, (!ltCps x.cps.toList y.cps.toList) = true → leS y x := fun {y} e => leS_of (by simpa using e)
  have hi : ∀ {y : Str}, ltCps x.cps.toList y.cps.toList = true → leS x y := fun {y} e => by
    rw [ltCps_eq] at e
    exact List.le_of_lt (of_decide_eq_true e)
  refine ⟨?_, ?_⟩
  · refine List.pairwise_append.mpr ⟨h.1.filter _, List.pairwise_cons.mpr ⟨fun y hy => hi (List.mem_filter.mp hy).2, h.1.filter _⟩, fun a ha b hb => ?_⟩
    have la := lo (List.mem_filter.mp ha).2
    rcases List.mem_cons.mp hb with rfl | hb
    · exact la
    · exact leS_trans la (hi (List.mem_filter.mp hb).2)
  · refine List.pairwise_append.mpr ⟨h.2.filter _, List.pairwise_cons.mpr ⟨fun y hy e => hx (by rw [e]; exact (List.mem_filter.mp hy).1), h.2.filter _⟩, fun a ha b hb e => ?_⟩
    have ha' := List.mem_filter.mp ha
    rcases List.mem_cons.mp hb with rfl | hb
    · exact hx (by rw [← e]; exact ha'.1)
    · have hb' := (List.mem_filter.mp hb).2
      rw [← e] at hb'
      have := ha'.2
      rw [hb'] at this
      cases this
theorem any_ext {f : Str → Bool} {s t : List Str} (h1 : ∀ x ∈ s, f x = true → ∃ y ∈ t, f y = true) (h2 : ∀ x ∈ t, f x = true → ∃ y ∈ s, f y = true) : s.any f = t.any f := by
  rw [Bool.eq_iff_iff, List.any_eq_true, List.any_eq_true]
  exact ⟨fun ⟨x, a, b⟩ => h1 x a b, fun ⟨x, a, b⟩ => h2 x a b⟩
theorem few_min {rest : List Lk} {l : List Nat} (hx : ∀ x ∈ xs, Num W x) (rx : RL xs) (ht : ∀ q ∈ rest, Tl xs q) (hm : ∀ q ∈ rest, MetB W xs q.1 ∧ q.1 ≠ l) (hl : MetB W xs l) (nd : needL W xs l = true) : ∃ t, t ≠ xs ∧ Top rest W t := by
  have bl := hl.bits hx
  by_cases both : (xs.any (starts (l ++ [48])) && xs.any (starts (l ++ [49]))) = true
  · -- the last sign, both
    have eW : l.length + 1 = W := by
      unfold needL at nd
      rw [both] at nd
      simpa using nd
    rw [Bool.and_eq_true] at both
    have full : ∀ c : Nat, xs.any (starts (l ++ [c])) = true → S (l ++ [c]) ∈ xs := fun c h => by
      obtain ⟨y, hy, e⟩ := List.any_eq_true.mp h
      rw [← starts_full e (hx y hy) (by rw [List.length_append, List.length_singleton]; exact eW)]
      exact hy
    have i0 := full 48 both.1
    have i1 := full 49 both.2
    refine ⟨xs.filter (fun x => decide (x ≠ S (l ++ [49]))), fun e => ?_, fun x h => hx x (List.mem_filter.mp h).1, fun q hq => ?_, rx.flt _⟩
    · rw [← e] at i1
      exact of_decide_eq_true (List.mem_filter.mp i1).2 rfl
    · have same : ∀ c : Nat, (xs.filter (fun x => decide (x ≠ S (l ++ [49])))).any (starts (q.1 ++ [c])) = xs.any (starts (q.1 ++ [c])) := fun c => by
        refine any_ext (fun x h e => ⟨x, (List.mem_filter.mp h).1, e⟩) fun x h e => ?_
        by_cases z : x = S (l ++ [49])
        · rw [z, starts_S] at e
          have e' := of_decide_eq_true e
          rw [List.length_append, List.length_singleton] at e'
          obtain ⟨⟨hq1, _⟩, hq2⟩ := hm q hq
          by_cases c1 : q.1.length = l.length
          · exfalso
            rw [List.take_of_length_le (by rw [List.length_append, List.length_singleton]; omega)] at e'
            have := (List.append_inj e' c1.symm).1
            exact hq2 this.symm
          · rw [List.take_append_of_le_length (by omega)] at e'
            refine ⟨S (l ++ [48]), List.mem_filter.mpr ⟨i0, decide_eq_true fun w => ?_⟩, ?_⟩
            · have := List.append_cancel_left (S_inj w)
              simp at this
            · rw [starts_S]
              refine decide_eq_true ?_
              rw [List.length_append, List.length_singleton, List.take_append_of_le_length (by omega)]
              exact e'
        · exact ⟨x, List.mem_filter.mpr ⟨h, decide_eq_true z⟩, e⟩
      obtain ⟨a, b⟩ := ht q hq
      exact ⟨by rw [same]; exact a, by rw [same]; exact b⟩
  · -- a side that is empty
    obtain ⟨c, hc, no⟩ : ∃ c, (c = 48 ∨ c = 49) ∧ xs.any (starts (l ++ [c])) = false := by
      cases h0 : xs.any (starts (l ++ [48])) with
      | false => exact ⟨48, .inl rfl, h0⟩
      | true =>
        cases h1 : xs.any (starts (l ++ [49])) with
        | false => exact ⟨49, .inr rfl, h1⟩
        | true => exact (both (by rw [h0, h1]; rfl)).elim
    have bx := reps_beg (W := W) (l := l ++ [c]) (.inl rfl) (bits_snoc bl hc) (by rw [List.length_append, List.length_singleton]; have := hl.1; omega)
    generalize hx0 : S (l ++ [c] ++ List.replicate (W - (l ++ [c]).length) 48) = x0 at bx
    have nx : x0 ∉ xs := fun h => by
      have := List.any_eq_false.mp no x0 h
      exact this bx.st
    refine ⟨insS x0 xs, fun e => ?_, fun x h => ?_, fun q hq => ?_, ins_rl rx nx⟩
    · have : x0 ∈ insS x0 xs := ins_mem.mpr (.inl rfl)
      rw [e] at this
      exact nx this
    · rcases ins_mem.mp h with rfl | h
      · exact bx.num
      · exact hx x h
    · have same : ∀ d : Nat, (insS x0 xs).any (starts (q.1 ++ [d])) = xs.any (starts (q.1 ++ [d])) := fun d => by
        refine any_ext (fun x h e => ?_) fun x h e => ⟨x, ins_mem.mpr (.inr h), e⟩
        rcases ins_mem.mp h with rfl | h
        · obtain ⟨⟨hq1, hq3⟩, hq2⟩ := hm q hq
          have f := bx.st
          -- both begin it
          obtain ⟨m, rfl, hmW, _⟩ := bx.num
          rw [starts_S] at e f
          have e' := of_decide_eq_true e
          have f' := of_decide_eq_true f
          rw [List.length_append, List.length_singleton] at e' f'
          rcases Nat.lt_trichotomy q.1.length l.length with z | z | z
          · have e2 : l.take (q.1.length + 1) = q.1 ++ [d] := by
              have : (m.take (l.length + 1)).take (q.1.length + 1) = q.1 ++ [d] := by
                rw [List.take_take, Nat.min_eq_left (by omega)]
                exact e'
              rw [f', List.take_append_of_le_length (by omega)] at this
              exact this
            rcases hl.2 with w | ⟨y, hy, w⟩
            · rw [w] at z
              exact absurd z (Nat.not_lt_zero _)
            · refine ⟨y, hy, ?_⟩
              rw [← List.take_append_drop (q.1.length + 1) l, e2] at w
              exact starts_app w
          · exfalso
            have e2 : q.1 ++ [d] = l ++ [c] := by rw [← e', ← f', z]
            exact hq2 (List.append_inj e2 z).1
          · exfalso
            have e2 : q.1.take (l.length + 1) = l ++ [c] := by
              have : (m.take (q.1.length + 1)).take (l.length + 1) = l ++ [c] := by
                rw [List.take_take, Nat.min_eq_left (by omega)]
                exact f'
              rw [e', List.take_append_of_le_length (by omega)] at this
              exact this
            rcases hq3 with w | ⟨y, hy, w⟩
            · rw [w] at z
              exact absurd z (Nat.not_lt_zero _)
            · rw [← List.take_append_drop (l.length + 1) q.1, e2] at w
              exact List.any_eq_false.mp no y hy (starts_app w)
        · exact ⟨x, h, e⟩
      obtain ⟨a, b⟩ := ht q hq
      exact ⟨by rw [same]; exact a, by rw [same]; exact b⟩
end
end B

set_option Elab.async false
set_option linter.all false
set_option maxRecDepth 100000
set_option maxHeartbeats 4000000
namespace B
open PySem PySem.Spec PyProof.Rows L2
open SX (S)
theorem eqv_strsD : ∀ (a b : List Str), PyData.eqv (.list (a.map .str)) (.list (b.map .str)) = decide (a = b)
  | [], [] => rfl
  | [], _ :: _ => rfl
  | _ :: _, [] => rfl
  | x :: a, y :: b => by
    have ih := eqv_strsD a b
    show (decide (x = y) && PyData.eqvAll (a.map .str) (b.map .str)) = _
    have ih' : PyData.eqvAll (a.map .str) (b.map .str) = decide (a = b) := ih
    rw [ih']
    by_cases h : x = y
    · by_cases g : a = b
      · rw [h, g]; simp
      · simp [h, g]
    · simp [h]
def oneD (xs : List Str) : PyData := .tuple [.str "one", .list (xs.map .str)]
theorem eqv_one (a b : List Str) : PyData.eqv (oneD a) (oneD b) = decide (a = b) := by
  show (decide (("one" : Str) = "one") && (PyData.eqv (.list (a.map .str)) (.list (b.map .str)) && true)) = _
  rw [eqv_strsD, decide_eq_true rfl, Bool.true_and, Bool.and_true]
theorem shaped_one {xs : List Str} (h : ∀ x ∈ xs, PyData.strOk x = true) : SeqAt.shaped (oneD xs) = true := by
  have q := shaped_strs h
  have q' : ((PyData.list (xs.map .str)).canLay0 && decide ((PyData.list (xs.map .str)).depth ≤ 64)) = true := q
  rw [Bool.and_eq_true] at q'
  have e1 : (oneD xs).canLay0 = true := by
    show (PyData.strOk "one" && ((PyData.list (xs.map .str)).canLay0 && true)) = true
    rw [q'.1]
    decide +kernel
  have dp : ∀ ys : List Str, PyData.depthAll (ys.map .str) ≤ 1 := fun ys => by
    induction ys with
    | nil => exact Nat.zero_le _
    | cons y r ih =>
      show max (PyData.depth (.str y)) (PyData.depthAll (r.map .str)) ≤ 1
      have : PyData.depth (.str y) ≤ 1 := by simp [PyData.depth]
      omega
  have e2 : (oneD xs).depth ≤ 64 := by
    have d := dp xs
    simp only [oneD, PyData.depth, PyData.depthAll]
    omega
  show ((oneD xs).canLay0 && decide ((oneD xs).depth ≤ 64)) = true
  rw [e1, decide_eq_true e2]
  rfl
theorem dp_one {K : PySem.W.Frag} {H : Hp} {t q : Addr} {xs : List Str} (h : H t = some (.tup [.str "one", .ref q])) (g : H q = some (.lst (xs.map V.str))) : Dp K H (.ref t) (oneD xs) :=
  .tup (SqT.of h) (.cons (.str _) (.cons (.lst (SqL.of g) (dp_strs xs)) .nil))
theorem slice_starts {l m : List Nat} : decide (V.str (Txt.slice (S m) none (some ((S l).length : Int))) = V.str (S l)) = starts l (S m) := by
  rw [SX.S_len, SX.slice_to (by omega), Int.toNat_natCast, S_dec, starts_S]
section
variable {P : Program} {w : World} {K : PySem.W.Frag} {mg : Str → Option Value} {base : Heap}
/-- two truths of numbers and a beginning -/
def spLook3 : Sp := fun vs H Q _ => ∃ (ml : Addr) (W : Nat) (l : List Nat) (xs : List Str), vs = [.ref ml, .str (S l)] ∧ H ml = some (.lst (xs.map V.str)) ∧ (∀ x ∈ xs, Num W x) ∧ l.length < W ∧ W ≤ 12 ∧
  ∀ (p : Addr) (H' : Hp), H p = none → H' p = some (.tup [.bl (xs.any (starts (l ++ [48]))), .bl (xs.any (starts (l ++ [49])))]) → Frm [] H H' → Q (.ref p) H'
theorem c_llook3 (T : Txt P w K mg base) : CalX CX0 P w K mg base 1 "_law_looked" spLook3 := by
  obtain ⟨fd, F⟩ := T.t.def_ 21 (d := d_llooked)
  refine ⟨_, fd, _, F.ok sc_llooked (fun vs H Q E h => ?_) (fun cdv A outer s H vs Q E hr h => ?_), He.glo_ok T.X T.G (T.t.fact 21), F.kp, F.bindsN fun _ _ _ _ _ _ us hl => match us, hl with | [_, _], _ => rfl⟩
  · obtain ⟨ml, W, l, xs, rfl, _⟩ := h
    rfl
  · obtain ⟨ml, W, l, xs, rfl, hm0, hb, hl, hW, k0⟩ := h
    refine ⟨_, PSs.nox (pss_cons (ps_asg (pe_tup (pa_cons pe_bl (pa_cons pe_bl pa_nil))) (pg_tup rfl (pgs_cons (pg_name (i := 2) sc_llooked.nd rfl (Or.inl rfl)) (pgs_cons (pg_name (i := 3) sc_llooked.nd rfl (Or.inl rfl)) pgs_nil))))
    (pss_cons (ps_for PassesOwn.never rfl (pi_list (pv 0)) (pg_name (i := 4) sc_llooked.nd rfl (Or.inl rfl))
      (pss_one (ps_if (pt_cmpR op_eq (pe_slice C8.sl_txt (pv 4) po_none (po_some (pe_callB call_len_str (by rfl) (n_len T) PySem.boot_len (pa_cons (pv 1) pa_nil)))) (pv 1) (nomark _))
        (pss_cons (ps_set (i := 2) sc_llooked.nd rfl (Or.inl rfl) (pe_or (pv 2) (pe_one (pe_cmpR op_eq (pe_ix ix_str (pv 4) (pe_callB call_len_str (by rfl) (n_len T) PySem.boot_len (pa_cons (pv 1) pa_nil)) (fun _ _ => rfl)) pe_str (nomark _)))))
        (pss_one (ps_set (i := 3) sc_llooked.nd rfl (Or.inl rfl) (pe_or (pv 3) (pe_one (pe_cmpR op_eq (pe_ix ix_str (pv 4) (pe_callB call_len_str (by rfl) (n_len T) PySem.boot_len (pa_cons (pv 1) pa_nil)) (fun _ _ => rfl)) pe_str (nomark _)))))))
        pss_nil)))
    (pss_one (ps_ret (pe_tup (pa_cons (pv 2) (pa_cons (pv 3) pa_nil))))))), ?_⟩
    refine ⟨by show 2 ≤ sizeLine; decide, fun t ht => ⟨t, _, rfl, SqT.of upd_same, rfl, _, _, rfl, _, _, rfl, rfl, ?_⟩⟩
    have hm : (upd H t (.tup [.bl false, .bl false])) ml = some (.lst (xs.map V.str)) := same_upd ht _ _ hm0
    have k : ∀ p, (upd H t (.tup [.bl false, .bl false])) p = none → Q (.ref p) (upd (upd H t (.tup [.bl false, .bl false])) p (.tup [.bl (xs.any (starts (l ++ [48]))), .bl (xs.any (starts (l ++ [49])))])) := fun p hp =>
      k0 p _ (upd_back hp) upd_same (((Frm.refl _ _).new ht).new (upd_back hp))
    generalize (upd H t (.tup [.bl false, .bl false])) = H at hm k ⊢
    refine ⟨_, rfl, ml, rfl, ⟨_, SqL.of hm⟩, for_list (K := K) (a := ml) (xs := xs.map V.str) (fun i σ H' => ∃ (v4 : Option V), σ = [some (.ref ml), some (.str (S l)), some (.bl ((xs.take i).any (starts (l ++ [48])))), some (.bl ((xs.take i).any (starts (l ++ [49])))), v4] ∧ H' = H)
      ⟨none, rfl, rfl⟩ (fun i σ H' _ ⟨_, _, e⟩ => by rw [e]; exact SqL.of hm) ?_ ?_⟩
    · rintro i y σ H' hi ⟨v4, rfl, eH⟩
      subst H'
      obtain ⟨x, hx, rfl⟩ := at_map hi
      have hxb := hb x (List.mem_of_getElem? hx)
      obtain ⟨c, hc, g1, g2⟩ := num_at hxb hl
      have ls : ((S l).length : Int) = (l.length : Int) := by rw [SX.S_len]
      have sl : (S l).length ≤ sizeLine := by rw [SX.S_len]; exact size12 (by omega)
      have sx : x.length ≤ sizeLine := by rw [num_len hxb]; exact size12 (by omega)
      rw [← ls] at g2
      refine ⟨_, rfl, _, rfl, S l, rfl, sl, _, rfl, x, rfl, sx, _, rfl, rfl, _, rfl, ?_⟩
      have est : decide (V.str (Txt.slice x none (some ((S l).length : Int))) = V.str (S l)) = starts l x := by
        obtain ⟨m, rfl, _, _⟩ := hxb
        exact slice_starts
      rw [est]
      refine iteB (fun cs => ?_) (fun cs => ?_)
      · have step : ∀ d, (if ((xs.take i).any (starts (l ++ [d]))) = true then V.bl true else V.bl (decide (V.str ⟨#[c]⟩ = V.str (S [d])))) = V.bl ((xs.take (i + 1)).any (starts (l ++ [d]))) := fun d => by
          rw [any_step _ hx, starts_snoc, cs, Bool.and_true, sg_at g1, sign_dec]
          cases (xs.take i).any (starts (l ++ [d])) <;> rfl
        have s0 := step 48
        have s1 := step 49
        have two : ∀ z : V, z = V.bl ((xs.take (i + 1)).any (starts (l ++ [48]))) → tAsg (tOrV (tVar 3) (tOp rEq (tOp rIxS (tVar 4) (tCB (fun xs H Q => ∃ a, xs = [.str a] ∧ a.length ≤ sizeLine ∧ Q (.int a.length) H) (tCons (tVar 1) tNil))) (tC (.str "1")))) (gName 3)
            { nx := fun σ H' => ∃ v4, σ = [some (.ref ml), some (.str (S l)), some (.bl ((xs.take (i + 1)).any (starts (l ++ [48])))), some (.bl ((xs.take (i + 1)).any (starts (l ++ [49])))), v4] ∧ H' = H, rt := Q } [some (.ref ml), some (.str (S l)), some z, some (.bl ((xs.take i).any (starts (l ++ [49])))), some (.str x)] H := fun z ez => by
          subst ez
          refine ⟨_, rfl, _, rfl, iteB (fun b => ?_) (fun b => ?_)⟩
          · rw [b] at s1
            refine ⟨some (.str x), ?_, rfl⟩
            rw [← s1]
            rfl
          · rw [b, ← one_S] at s1
            refine ⟨_, rfl, _, rfl, S l, rfl, sl, x, _, c, rfl, rfl, sx, g2, rfl, ?_⟩
            refine ⟨some (.str x), ?_, rfl⟩
            rw [← s1]
            rfl
        refine ⟨_, rfl, _, rfl, iteB (fun b => ?_) (fun b => ?_)⟩
        · rw [b] at s0
          exact two _ s0
        · rw [b, ← zero_S] at s0
          refine ⟨_, rfl, _, rfl, S l, rfl, sl, x, _, c, rfl, rfl, sx, g2, rfl, ?_⟩
          exact two _ s0
      · have nost : ∀ d : Nat, (xs.take (i + 1)).any (starts (l ++ [d])) = (xs.take i).any (starts (l ++ [d])) := fun d => by
          rw [any_step _ hx, starts_snoc, cs, Bool.and_false, Bool.or_false]
        exact ⟨_, by rw [nost, nost]; rfl, rfl⟩
    · rintro σ H' ⟨v4, rfl, eH⟩
      subst H'
      rw [List.length_map, List.take_length]
      exact ⟨_, rfl, _, rfl, by show 2 ≤ sizeLine; decide, fun p hp => k p hp⟩
/-- a beginning that names meet -/
theorem met_lst {W : Nat} {xs : List Str} {y : Str} (hW : 1 ≤ W) (hn : ∀ x ∈ xs, Num W x) (h : MetS W xs y) : ∃ l, y = S l ∧ MetB W xs l := by
  rcases h with rfl | ⟨x, hx, i, hi, rfl⟩
  · exact ⟨[], rfl, hW, .inl rfl⟩
  · obtain ⟨m, rfl, hm, hb⟩ := hn x hx
    refine ⟨m.take i, by rw [S_list], by rw [List.length_take]; omega, .inr ⟨S m, hx, ?_⟩⟩
    rw [starts_S, List.length_take, Nat.min_eq_left (by omega)]
    exact decide_eq_true rfl
theorem lst_met {W : Nat} {xs : List Str} {l : List Nat} (h : MetB W xs l) : MetS W xs (S l) := by
  rcases h.2 with rfl | ⟨x, hx, e⟩
  · exact .inl rfl
  · exact .inr ⟨x, hx, l.length, h.1, by rw [of_decide_eq_true e]⟩
theorem need_eq {W : Nat} {xs : List Str} {kvs : List (Str × Bool)} {l : List Nat} (hn : ∀ x ∈ xs, Num W x) (hk : ∀ y, hasK kvs y = true ↔ ReaS W xs y) (hl : l.length < W) : needF W kvs (S l) = needL W xs l := by
  have e : ∀ c : Nat, hasK kvs (S (l ++ [c])) = xs.any (starts (l ++ [c])) := fun c => by
    rw [Bool.eq_iff_iff, hk, List.any_eq_true]
    constructor
    · rintro ⟨x, hx, i, hi, e⟩
      obtain ⟨m, rfl, hm, _⟩ := hn x hx
      rw [S_list] at e
      have e' := S_inj e
      refine ⟨S m, hx, ?_⟩
      rw [starts_S, e', List.length_take, Nat.min_eq_left (by omega)]
      exact decide_eq_true rfl
    · rintro ⟨x, hx, e⟩
      refine ⟨x, hx, (l ++ [c]).length, ?_, by rw [of_decide_eq_true e]⟩
      rw [List.length_append, List.length_singleton]
      omega
  unfold needF needL
  rw [zero_S, one_S, SX.S_cat, SX.S_cat, e, e, SX.S_len]
  congr 1
  rw [decide_eq_decide]
  omega
def fewL (W : Nat) (xs ys : List Str) : List Str := ys.filter fun y => needL W xs y.cps.toList
theorem few_eq {W : Nat} {xs ys : List Str} {kvs : List (Str × Bool)} (hW : 1 ≤ W) (hn : ∀ x ∈ xs, Num W x) (hk : ∀ y, hasK kvs y = true ↔ ReaS W xs y) (ml : MetL W xs ys) : ys.filter (needF W kvs) = fewL W xs ys := by
  unfold fewL
  refine List.filter_congr fun y hy => ?_
  obtain ⟨l, rfl, hl⟩ := met_lst hW hn ((ml.mem y).mp hy)
  rw [need_eq hn hk hl.1, S_list]
def spLfew (K : PySem.W.Frag) : Sp := fun vs H Q _ => ∃ (W : Nat) (p : Addr) (xs : List Str), vs = [.int W, .ref p] ∧ H p = some (.lst (xs.map V.str)) ∧ (∀ x ∈ xs, Num W x) ∧ 1 ≤ W ∧ W ≤ 12 ∧ xs.length ≤ 41 ∧ Tb K H ∧
  ∀ (ys : List Str) (q : Addr) (H' : Hp), MetL W xs ys → H q = none → H' q = some (.lst ((fewL W xs ys).map V.str)) → FrT K [] H H' → Q (.ref q) H'
end
end B

set_option Elab.async false
set_option linter.all false
set_option maxRecDepth 100000
set_option maxHeartbeats 4000000
namespace B
open PySem PySem.Spec PyProof.Rows L2
/-! ### sorted of a list of data of any depth: some arrangement -/
theorem vals_perm {us out : List Value} (p : out.Perm us) : ∀ {xs : List V}, Vals xs us → ∃ ys : List V, ys.Perm xs ∧ Vals ys out := by
  induction p with
  | nil => exact fun h => ⟨_, .refl _, h⟩
  | cons x _ ih =>
    intro xs h
    cases h with
    | cons r rs =>
      obtain ⟨ys, q, v⟩ := ih rs
      exact ⟨_ :: ys, q.cons _, .cons r v⟩
  | swap x y l =>
    intro xs h
    cases h with
    | cons r rs =>
      cases rs with
      | cons r2 rs2 => exact ⟨_ :: _ :: _, .swap _ _ _, .cons r2 (.cons r rs2)⟩
  | trans _ _ i1 i2 =>
    intro xs h
    obtain ⟨ys, q, v⟩ := i2 h
    obtain ⟨zs, q2, v2⟩ := i1 v
    exact ⟨zs, q2.trans q, v2⟩
theorem each_reads {h : Heap} : ∀ {vs : List Value} {ds : List PyData} {as : List Addr}, ReadsAll h vs ds as → PySem.W.EachIs (fun v d => ∃ as, Reads h v d as) vs ds
  | [], [], _, _ => .nil
  | _ :: _, _ :: _, _, h => by
    cases h with
    | cons r rs => exact .cons ⟨_, r⟩ (each_reads rs)
  | [], _ :: _, _, h => by cases h
  | _ :: _, [], _, h => by cases h
theorem sortVals_perm {κ : PyProof.Rows.KeyKind} {vs : List Value} : (PySem.W.sortVals κ false vs vs).Perm vs := by
  unfold PySem.W.sortVals
  have e : (vs.zip vs).map Prod.snd = vs := List.map_snd_zip (Nat.le_refl _)
  have p := (List.mergeSort_perm (vs.zip vs) (PySem.W.sortLe κ.toKeyOrd false fun p : Keyed => PySem.W.keyD κ p.1)).map Prod.snd
  rw [e] at p
  exact p
section
variable {X : Cx}
def rSortedD (K : PySem.W.Frag) : List V → Hp → VK → Prop := fun vs H Q => ∃ (a : Addr) (xs : List V) (ds : List PyData), vs = [V.ref a] ∧ SqL K H a xs ∧ DpAll K H xs ds ∧ PySem.W.AllAlike ds ∧ PySem.W.Sortable ds ∧ (∀ d ∈ ds, d.depth ≤ 60) ∧
  ∀ (ys : List V) (p : Addr), ys.Perm xs → H p = none → Q (.ref p) (upd H p (.lst ys))
theorem cr_sortedD (hu : X.A.units + 65 < cLine) : CallR X (.builtin "sorted") (rSortedD X.K) := by
  intro pins s σ H vs us Q I r h
  obtain ⟨a, xs, ds, rfl, hs, hd, al, so, dp, q⟩ := h
  rw [Vals.ref1 r]
  obtain ⟨its, rv, hl, hz⟩ := I.list hs
  obtain ⟨as, ra⟩ := Dp.readsAll I ds _ its hd rv
  have hlen := rv.length
  refine PySem.W.sorted_vals (κ := PySem.W.dataKind (PySem.W.sortingHeap (PySem.W.copyHeap s.heap its) (s.heap.objs.size + 1) its) ds) hl.isList (PySem.W.SortsAt.data (each_reads (ReadsAll.keeps (fun b o e => PySem.W.sorting_copy_old e) ra)) al so fun d hd => ?_) (by omega) ?_
  · have := dp d hd
    show X.A.in1.in1.units + d.depth < cLine
    have e : X.A.in1.in1.units = X.A.units + 1 + 1 := rfl
    omega
  · obtain ⟨c, hc⟩ := sortedAll_at s.heap its (PySem.W.sortVals (PySem.W.dataKind (PySem.W.sortingHeap (PySem.W.copyHeap s.heap its) (s.heap.objs.size + 1) its) ds) false its its).toArray
    obtain ⟨ys, p1, v1⟩ := vals_perm (sortVals_perm (κ := PySem.W.dataKind (PySem.W.sortingHeap (PySem.W.copyHeap s.heap its) (s.heap.objs.size + 1) its) ds) (vs := its)) rv
    refine ⟨.ref _, upd H (s.heap.objs.size + 1) (.lst ys), I.laid (t' := s.toks) (fun _ _ => sortedAll_old) (Nat.le_succ _) ⟨?_, _, c, v1, hc⟩, rfl, q ys _ p1 (I.hok.fresh (Nat.le_succ _))⟩
    rw [p1.length_eq]
    exact hz
end
end B

set_option Elab.async false
set_option linter.all false
set_option maxRecDepth 1000000
set_option maxHeartbeats 4000000
namespace B
open PySem PySem.Spec PyProof.Rows L2
open SX (S)
/-! ### widths of one to three: the shortest list of beginnings that shows is what fewest tells -/
def everyN : Nat → List (List Nat)
  | 0 => [[]]
  | n + 1 => (everyN n).flatMap fun l => [l ++ [48], l ++ [49]]
def setsN (xs : List (List Nat)) : List (List (List Nat)) := xs.foldl (fun F x => F ++ F.map (· ++ [x])) [[]]
def begsN (W : Nat) : List (List Nat) := if W = 1 then [[]] else if W = 2 then [[], [48], [49]] else [[], [48], [48, 48], [48, 49], [49], [49, 48], [49, 49]]
def anyN (s : List (List Nat)) (b : List Nat) : Bool := s.any fun x => decide (x.take b.length = b)
def lookN (s : List (List Nat)) (b : List Nat) : Bool × Bool := (anyN s (b ++ [48]), anyN s (b ++ [49]))
def rowN (W : Nat) (s : List (List Nat)) : List (Bool × Bool) := (begsN W).map (lookN s)
def encR : List (Bool × Bool) → Nat
  | [] => 0
  | (a, b) :: r => a.toNat + 2 * (b.toNat + 2 * encR r)
def maskR (ps : List Nat) : Nat := ps.foldr (fun k m => (3 <<< (2 * k)) ||| m) 0
def nbB (own m : Nat) : List Nat → Bool
  | [] => false
  | c :: r => cond (Nat.beq (Nat.land (Nat.xor c own) m) 0) true (nbB own m r)
def fstB (own : Nat) (nbs : List Nat) : List (List Nat × Nat) → List Nat
  | [] => []
  | x :: r => cond (nbB own x.2 nbs) (fstB own nbs r) x.1
def needN (W : Nat) (s : List (List Nat)) (b : List Nat) : Bool := (b.isEmpty || anyN s b) && (!(anyN s (b ++ [48]) && anyN s (b ++ [49])) || decide (b.length + 1 = W))
def rowsF (n : Nat) : Nat → List (List Nat)
  | 0 => [[]]
  | m + 1 => (rowsF n m).flatMap fun p => (List.range (n - (match p.getLast? with | none => 0 | some k => k + 1))).map fun j => p ++ [(match p.getLast? with | none => 0 | some k => k + 1) + j]
def toldC1 : List Nat := [0, 1, 2, 3]
def fewC1 : List (List Nat) := [[0], [0], [0], [0]]
def rmC1 : List (List Nat × Nat) := [([0], 3)]
def nbC1 : List (Nat × List Nat) := [(0, [1, 2]), (1, [0, 3]), (2, [3, 0]), (3, [2, 1])]
def toldC2 : List Nat := [0, 5, 9, 13, 18, 23, 27, 31, 34, 39, 43, 47, 50, 55, 59, 63]
def fewC2 : List (List Nat) := [[0], [0, 1], [0, 1], [0, 1], [0, 2], [1, 2], [1, 2], [1, 2], [0, 2], [1, 2], [1, 2], [1, 2], [0, 2], [1, 2], [1, 2], [1, 2]]
def rmC2 : List (List Nat × Nat) := [([0], 3), ([1], 12), ([2], 48), ([0, 1], 15), ([0, 2], 51), ([1, 2], 60), ([0, 1, 2], 63)]
def nbC2 : List (Nat × List Nat) := [(0, [5, 9, 18, 34]), (5, [0, 13, 23, 39]), (9, [13, 0, 27, 43]), (13, [9, 5, 31, 47]), (18, [23, 27, 0, 50]), (23, [18, 31, 5, 55]), (27, [31, 18, 9, 59]), (31, [27, 23, 13, 63]), (34, [39, 43, 50, 0]), (39, [34, 47, 55, 5]), (43, [47, 34, 59, 9]), (47, [43, 39, 63, 13]), (50, [55, 59, 34, 18]), (55, [50, 63, 39, 23]), (59, [63, 50, 43, 27]), (63, [59, 55, 47, 31])]
def toldC3 : List Nat := [0, 21, 37, 53, 73, 93, 109, 125, 137, 157, 173, 189, 201, 221, 237, 253, 1282, 1303, 1319, 1335, 1355, 1375, 1391, 1407, 1419, 1439, 1455, 1471, 1483, 1503, 1519, 1535, 2306, 2327, 2343, 2359, 2379, 2399, 2415, 2431, 2443, 2463, 2479, 2495, 2507, 2527, 2543, 2559, 3330, 3351, 3367, 3383, 3403, 3423, 3439, 3455, 3467, 3487, 3503, 3519, 3531, 3551, 3567, 3583, 4610, 4631, 4647, 4663, 4683, 4703, 4719, 4735, 4747, 4767, 4783, 4799, 4811, 4831, 4847, 4863, 5890, 5911, 5927, 5943, 5963, 5983, 5999, 6015, 6027, 6047, 6063, 6079, 6091, 6111, 6127, 6143, 6914, 6935, 6951, 6967, 6987, 7007, 7023, 7039, 7051, 7071, 7087, 7103, 7115, 7135, 7151, 7167, 7938, 7959, 7975, 7991, 8011, 8031, 8047, 8063, 8075, 8095, 8111, 8127, 8139, 8159, 8175, 8191, 8706, 8727, 8743, 8759, 8779, 8799, 8815, 8831, 8843, 8863, 8879, 8895, 8907, 8927, 8943, 8959, 9986, 10007, 10023, 10039, 10059, 10079, 10095, 10111, 10123, 10143, 10159, 10175, 10187, 10207, 10223, 10239, 11010, 11031, 11047, 11063, 11083, 11103, 11119, 11135, 11147, 11167, 11183, 11199, 11211, 11231, 11247, 11263, 12034, 12055, 12071, 12087, 12107, 12127, 12143, 12159, 12171, 12191, 12207, 12223, 12235, 12255, 12271, 12287, 12802, 12823, 12839, 12855, 12875, 12895, 12911, 12927, 12939, 12959, 12975, 12991, 13003, 13023, 13039, 13055, 14082, 14103, 14119, 14135, 14155, 14175, 14191, 14207, 14219, 14239, 14255, 14271, 14283, 14303, 14319, 14335, 15106, 15127, 15143, 15159, 15179, 15199, 15215, 15231, 15243, 15263, 15279, 15295, 15307, 15327, 15343, 15359, 16130, 16151, 16167, 16183, 16203, 16223, 16239, 16255, 16267, 16287, 16303, 16319, 16331, 16351, 16367, 16383]
def fewC3 : List (List Nat) := [[0], [0, 1, 2], [0, 1, 2], [0, 1, 2], [0, 1, 3], [0, 2, 3], [0, 2, 3], [0, 2, 3], [0, 1, 3], [0, 2, 3], [0, 2, 3], [0, 2, 3], [0, 1, 3], [0, 2, 3], [0, 2, 3], [0, 2, 3], [0, 4, 5], [1, 2, 4, 5], [1, 2, 4, 5], [1, 2, 4, 5], [1, 3, 4, 5], [2, 3, 4, 5], [2, 3, 4, 5], [2, 3, 4, 5], [1, 3, 4, 5], [2, 3, 4, 5], [2, 3, 4, 5], [2, 3, 4, 5], [1, 3, 4, 5], [2, 3, 4, 5], [2, 3, 4, 5], [2, 3, 4, 5], [0, 4, 5], [1, 2, 4, 5], [1, 2, 4, 5], [1, 2, 4, 5], [1, 3, 4, 5], [2, 3, 4, 5], [2, 3, 4, 5], [2, 3, 4, 5], [1, 3, 4, 5], [2, 3, 4, 5], [2, 3, 4, 5], [2, 3, 4, 5], [1, 3, 4, 5], [2, 3, 4, 5], [2, 3, 4, 5], [2, 3, 4, 5], [0, 4, 5], [1, 2, 4, 5], [1, 2, 4, 5], [1, 2, 4, 5], [1, 3, 4, 5], [2, 3, 4, 5], [2, 3, 4, 5], [2, 3, 4, 5], [1, 3, 4, 5], [2, 3, 4, 5], [2, 3, 4, 5], [2, 3, 4, 5], [1, 3, 4, 5], [2, 3, 4, 5], [2, 3, 4, 5], [2, 3, 4, 5], [0, 4, 6], [1, 2, 4, 6], [1, 2, 4, 6], [1, 2, 4, 6], [1, 3, 4, 6], [2, 3, 4, 6], [2, 3, 4, 6], [2, 3, 4, 6], [1, 3, 4, 6], [2, 3, 4, 6], [2, 3, 4, 6], [2, 3, 4, 6], [1, 3, 4, 6], [2, 3, 4, 6], [2, 3, 4, 6], [2, 3, 4, 6], [0, 5, 6], [1, 2, 5, 6], [1, 2, 5, 6], [1, 2, 5, 6], [1, 3, 5, 6], [2, 3, 5, 6], [2, 3, 5, 6], [2, 3, 5, 6], [1, 3, 5, 6], [2, 3, 5, 6], [2, 3, 5, 6], [2, 3, 5, 6], [1, 3, 5, 6], [2, 3, 5, 6], [2, 3, 5, 6], [2, 3, 5, 6], [0, 5, 6], [1, 2, 5, 6], [1, 2, 5, 6], [1, 2, 5, 6], [1, 3, 5, 6], [2, 3, 5, 6], [2, 3, 5, 6], [2, 3, 5, 6], [1, 3, 5, 6], [2, 3, 5, 6], [2, 3, 5, 6], [2, 3, 5, 6], [1, 3, 5, 6], [2, 3, 5, 6], [2, 3, 5, 6], [2, 3, 5, 6], [0, 5, 6], [1, 2, 5, 6], [1, 2, 5, 6], [1, 2, 5, 6], [1, 3, 5, 6], [2, 3, 5, 6], [2, 3, 5, 6], [2, 3, 5, 6], [1, 3, 5, 6], [2, 3, 5, 6], [2, 3, 5, 6], [2, 3, 5, 6], [1, 3, 5, 6], [2, 3, 5, 6], [2, 3, 5, 6], [2, 3, 5, 6], [0, 4, 6], [1, 2, 4, 6], [1, 2, 4, 6], [1, 2, 4, 6], [1, 3, 4, 6], [2, 3, 4, 6], [2, 3, 4, 6], [2, 3, 4, 6], [1, 3, 4, 6], [2, 3, 4, 6], [2, 3, 4, 6], [2, 3, 4, 6], [1, 3, 4, 6], [2, 3, 4, 6], [2, 3, 4, 6], [2, 3, 4, 6], [0, 5, 6], [1, 2, 5, 6], [1, 2, 5, 6], [1, 2, 5, 6], [1, 3, 5, 6], [2, 3, 5, 6], [2, 3, 5, 6], [2, 3, 5, 6], [1, 3, 5, 6], [2, 3, 5, 6], [2, 3, 5, 6], [2, 3, 5, 6], [1, 3, 5, 6], [2, 3, 5, 6], [2, 3, 5, 6], [2, 3, 5, 6], [0, 5, 6], [1, 2, 5, 6], [1, 2, 5, 6], [1, 2, 5, 6], [1, 3, 5, 6], [2, 3, 5, 6], [2, 3, 5, 6], [2, 3, 5, 6], [1, 3, 5, 6], [2, 3, 5, 6], [2, 3, 5, 6], [2, 3, 5, 6], [1, 3, 5, 6], [2, 3, 5, 6], [2, 3, 5, 6], [2, 3, 5, 6], [0, 5, 6], [1, 2, 5, 6], [1, 2, 5, 6], [1, 2, 5, 6], [1, 3, 5, 6], [2, 3, 5, 6], [2, 3, 5, 6], [2, 3, 5, 6], [1, 3, 5, 6], [2, 3, 5, 6], [2, 3, 5, 6], [2, 3, 5, 6], [1, 3, 5, 6], [2, 3, 5, 6], [2, 3, 5, 6], [2, 3, 5, 6], [0, 4, 6], [1, 2, 4, 6], [1, 2, 4, 6], [1, 2, 4, 6], [1, 3, 4, 6], [2, 3, 4, 6], [2, 3, 4, 6], [2, 3, 4, 6], [1, 3, 4, 6], [2, 3, 4, 6], [2, 3, 4, 6], [2, 3, 4, 6], [1, 3, 4, 6], [2, 3, 4, 6], [2, 3, 4, 6], [2, 3, 4, 6], [0, 5, 6], [1, 2, 5, 6], [1, 2, 5, 6], [1, 2, 5, 6], [1, 3, 5, 6], [2, 3, 5, 6], [2, 3, 5, 6], [2, 3, 5, 6], [1, 3, 5, 6], [2, 3, 5, 6], [2, 3, 5, 6], [2, 3, 5, 6], [1, 3, 5, 6], [2, 3, 5, 6], [2, 3, 5, 6], [2, 3, 5, 6], [0, 5, 6], [1, 2, 5, 6], [1, 2, 5, 6], [1, 2, 5, 6], [1, 3, 5, 6], [2, 3, 5, 6], [2, 3, 5, 6], [2, 3, 5, 6], [1, 3, 5, 6], [2, 3, 5, 6], [2, 3, 5, 6], [2, 3, 5, 6], [1, 3, 5, 6], [2, 3, 5, 6], [2, 3, 5, 6], [2, 3, 5, 6], [0, 5, 6], [1, 2, 5, 6], [1, 2, 5, 6], [1, 2, 5, 6], [1, 3, 5, 6], [2, 3, 5, 6], [2, 3, 5, 6], [2, 3, 5, 6], [1, 3, 5, 6], [2, 3, 5, 6], [2, 3, 5, 6], [2, 3, 5, 6], [1, 3, 5, 6], [2, 3, 5, 6], [2, 3, 5, 6], [2, 3, 5, 6]]
def rmC3 : List (List Nat × Nat) := [([0], 3), ([1], 12), ([2], 48), ([3], 192), ([4], 768), ([5], 3072), ([6], 12288), ([0, 1], 15), ([0, 2], 51), ([0, 3], 195), ([0, 4], 771), ([0, 5], 3075), ([0, 6], 12291), ([1, 2], 60), ([1, 3], 204), ([1, 4], 780), ([1, 5], 3084), ([1, 6], 12300), ([2, 3], 240), ([2, 4], 816), ([2, 5], 3120), ([2, 6], 12336), ([3, 4], 960), ([3, 5], 3264), ([3, 6], 12480), ([4, 5], 3840), ([4, 6], 13056), ([5, 6], 15360), ([0, 1, 2], 63), ([0, 1, 3], 207), ([0, 1, 4], 783), ([0, 1, 5], 3087), ([0, 1, 6], 12303), ([0, 2, 3], 243), ([0, 2, 4], 819), ([0, 2, 5], 3123), ([0, 2, 6], 12339), ([0, 3, 4], 963), ([0, 3, 5], 3267), ([0, 3, 6], 12483), ([0, 4, 5], 3843), ([0, 4, 6], 13059), ([0, 5, 6], 15363), ([1, 2, 3], 252), ([1, 2, 4], 828), ([1, 2, 5], 3132), ([1, 2, 6], 12348), ([1, 3, 4], 972), ([1, 3, 5], 3276), ([1, 3, 6], 12492), ([1, 4, 5], 3852), ([1, 4, 6], 13068), ([1, 5, 6], 15372), ([2, 3, 4], 1008), ([2, 3, 5], 3312), ([2, 3, 6], 12528), ([2, 4, 5], 3888), ([2, 4, 6], 13104), ([2, 5, 6], 15408), ([3, 4, 5], 4032), ([3, 4, 6], 13248), ([3, 5, 6], 15552), ([4, 5, 6], 16128), ([0, 1, 2, 3], 255), ([0, 1, 2, 4], 831), ([0, 1, 2, 5], 3135), ([0, 1, 2, 6], 12351), ([0, 1, 3, 4], 975), ([0, 1, 3, 5], 3279), ([0, 1, 3, 6], 12495), ([0, 1, 4, 5], 3855), ([0, 1, 4, 6], 13071), ([0, 1, 5, 6], 15375), ([0, 2, 3, 4], 1011), ([0, 2, 3, 5], 3315), ([0, 2, 3, 6], 12531), ([0, 2, 4, 5], 3891), ([0, 2, 4, 6], 13107), ([0, 2, 5, 6], 15411), ([0, 3, 4, 5], 4035), ([0, 3, 4, 6], 13251), ([0, 3, 5, 6], 15555), ([0, 4, 5, 6], 16131), ([1, 2, 3, 4], 1020), ([1, 2, 3, 5], 3324), ([1, 2, 3, 6], 12540), ([1, 2, 4, 5], 3900), ([1, 2, 4, 6], 13116), ([1, 2, 5, 6], 15420), ([1, 3, 4, 5], 4044), ([1, 3, 4, 6], 13260), ([1, 3, 5, 6], 15564), ([1, 4, 5, 6], 16140), ([2, 3, 4, 5], 4080), ([2, 3, 4, 6], 13296), ([2, 3, 5, 6], 15600), ([2, 4, 5, 6], 16176), ([3, 4, 5, 6], 16320), ([0, 1, 2, 3, 4], 1023), ([0, 1, 2, 3, 5], 3327), ([0, 1, 2, 3, 6], 12543), ([0, 1, 2, 4, 5], 3903), ([0, 1, 2, 4, 6], 13119), ([0, 1, 2, 5, 6], 15423), ([0, 1, 3, 4, 5], 4047), ([0, 1, 3, 4, 6], 13263), ([0, 1, 3, 5, 6], 15567), ([0, 1, 4, 5, 6], 16143), ([0, 2, 3, 4, 5], 4083), ([0, 2, 3, 4, 6], 13299), ([0, 2, 3, 5, 6], 15603), ([0, 2, 4, 5, 6], 16179), ([0, 3, 4, 5, 6], 16323), ([1, 2, 3, 4, 5], 4092), ([1, 2, 3, 4, 6], 13308), ([1, 2, 3, 5, 6], 15612), ([1, 2, 4, 5, 6], 16188), ([1, 3, 4, 5, 6], 16332), ([2, 3, 4, 5, 6], 16368), ([0, 1, 2, 3, 4, 5], 4095), ([0, 1, 2, 3, 4, 6], 13311), ([0, 1, 2, 3, 5, 6], 15615), ([0, 1, 2, 4, 5, 6], 16191), ([0, 1, 3, 4, 5, 6], 16335), ([0, 2, 3, 4, 5, 6], 16371), ([1, 2, 3, 4, 5, 6], 16380), ([0, 1, 2, 3, 4, 5, 6], 16383)]
def nbC3 : List (Nat × List Nat) := [(0, [21, 37, 73, 137, 1282, 2306, 4610, 8706]), (21, [0, 53, 93, 157, 1303, 2327, 4631, 8727]), (37, [53, 0, 109, 173, 1319, 2343, 4647, 8743]), (53, [37, 21, 125, 189, 1335, 2359, 4663, 8759]), (73, [93, 109, 0, 201, 1355, 2379, 4683, 8779]), (93, [73, 125, 21, 221, 1375, 2399, 4703, 8799]), (109, [125, 73, 37, 237, 1391, 2415, 4719, 8815]), (125, [109, 93, 53, 253, 1407, 2431, 4735, 8831]), (137, [157, 173, 201, 0, 1419, 2443, 4747, 8843]), (157, [137, 189, 221, 21, 1439, 2463, 4767, 8863]), (173, [189, 137, 237, 37, 1455, 2479, 4783, 8879]), (189, [173, 157, 253, 53, 1471, 2495, 4799, 8895]), (201, [221, 237, 137, 73, 1483, 2507, 4811, 8907]), (221, [201, 253, 157, 93, 1503, 2527, 4831, 8927]), (237, [253, 201, 173, 109, 1519, 2543, 4847, 8943]), (253, [237, 221, 189, 125, 1535, 2559, 4863, 8959]), (1282, [1303, 1319, 1355, 1419, 0, 3330, 5890, 9986]), (1303, [1282, 1335, 1375, 1439, 21, 3351, 5911, 10007]), (1319, [1335, 1282, 1391, 1455, 37, 3367, 5927, 10023]), (1335, [1319, 1303, 1407, 1471, 53, 3383, 5943, 10039]), (1355, [1375, 1391, 1282, 1483, 73, 3403, 5963, 10059]), (1375, [1355, 1407, 1303, 1503, 93, 3423, 5983, 10079]), (1391, [1407, 1355, 1319, 1519, 109, 3439, 5999, 10095]), (1407, [1391, 1375, 1335, 1535, 125, 3455, 6015, 10111]), (1419, [1439, 1455, 1483, 1282, 137, 3467, 6027, 10123]), (1439, [1419, 1471, 1503, 1303, 157, 3487, 6047, 10143]), (1455, [1471, 1419, 1519, 1319, 173, 3503, 6063, 10159]), (1471, [1455, 1439, 1535, 1335, 189, 3519, 6079, 10175]), (1483, [1503, 1519, 1419, 1355, 201, 3531, 6091, 10187]), (1503, [1483, 1535, 1439, 1375, 221, 3551, 6111, 10207]), (1519, [1535, 1483, 1455, 1391, 237, 3567, 6127, 10223]), (1535, [1519, 1503, 1471, 1407, 253, 3583, 6143, 10239]), (2306, [2327, 2343, 2379, 2443, 3330, 0, 6914, 11010]), (2327, [2306, 2359, 2399, 2463, 3351, 21, 6935, 11031]), (2343, [2359, 2306, 2415, 2479, 3367, 37, 6951, 11047]), (2359, [2343, 2327, 2431, 2495, 3383, 53, 6967, 11063]), (2379, [2399, 2415, 2306, 2507, 3403, 73, 6987, 11083]), (2399, [2379, 2431, 2327, 2527, 3423, 93, 7007, 11103]), (2415, [2431, 2379, 2343, 2543, 3439, 109, 7023, 11119]), (2431, [2415, 2399, 2359, 2559, 3455, 125, 7039, 11135]), (2443, [2463, 2479, 2507, 2306, 3467, 137, 7051, 11147]), (2463, [2443, 2495, 2527, 2327, 3487, 157, 7071, 11167]), (2479, [2495, 2443, 2543, 2343, 3503, 173, 7087, 11183]), (2495, [2479, 2463, 2559, 2359, 3519, 189, 7103, 11199]), (2507, [2527, 2543, 2443, 2379, 3531, 201, 7115, 11211]), (2527, [2507, 2559, 2463, 2399, 3551, 221, 7135, 11231]), (2543, [2559, 2507, 2479, 2415, 3567, 237, 7151, 11247]), (2559, [2543, 2527, 2495, 2431, 3583, 253, 7167, 11263]), (3330, [3351, 3367, 3403, 3467, 2306, 1282, 7938, 12034]), (3351, [3330, 3383, 3423, 3487, 2327, 1303, 7959, 12055]), (3367, [3383, 3330, 3439, 3503, 2343, 1319, 7975, 12071]), (3383, [3367, 3351, 3455, 3519, 2359, 1335, 7991, 12087]), (3403, [3423, 3439, 3330, 3531, 2379, 1355, 8011, 12107]), (3423, [3403, 3455, 3351, 3551, 2399, 1375, 8031, 12127]), (3439, [3455, 3403, 3367, 3567, 2415, 1391, 8047, 12143]), (3455, [3439, 3423, 3383, 3583, 2431, 1407, 8063, 12159]), (3467, [3487, 3503, 3531, 3330, 2443, 1419, 8075, 12171]), (3487, [3467, 3519, 3551, 3351, 2463, 1439, 8095, 12191]), (3503, [3519, 3467, 3567, 3367, 2479, 1455, 8111, 12207]), (3519, [3503, 3487, 3583, 3383, 2495, 1471, 8127, 12223]), (3531, [3551, 3567, 3467, 3403, 2507, 1483, 8139, 12235]), (3551, [3531, 3583, 3487, 3423, 2527, 1503, 8159, 12255]), (3567, [3583, 3531, 3503, 3439, 2543, 1519, 8175, 12271]), (3583, [3567, 3551, 3519, 3455, 2559, 1535, 8191, 12287]), (4610, [4631, 4647, 4683, 4747, 5890, 6914, 0, 12802]), (4631, [4610, 4663, 4703, 4767, 5911, 6935, 21, 12823]), (4647, [4663, 4610, 4719, 4783, 5927, 6951, 37, 12839]), (4663, [4647, 4631, 4735, 4799, 5943, 6967, 53, 12855]), (4683, [4703, 4719, 4610, 4811, 5963, 6987, 73, 12875]), (4703, [4683, 4735, 4631, 4831, 5983, 7007, 93, 12895]), (4719, [4735, 4683, 4647, 4847, 5999, 7023, 109, 12911]), (4735, [4719, 4703, 4663, 4863, 6015, 7039, 125, 12927]), (4747, [4767, 4783, 4811, 4610, 6027, 7051, 137, 12939]), (4767, [4747, 4799, 4831, 4631, 6047, 7071, 157, 12959]), (4783, [4799, 4747, 4847, 4647, 6063, 7087, 173, 12975]), (4799, [4783, 4767, 4863, 4663, 6079, 7103, 189, 12991]), (4811, [4831, 4847, 4747, 4683, 6091, 7115, 201, 13003]), (4831, [4811, 4863, 4767, 4703, 6111, 7135, 221, 13023]), (4847, [4863, 4811, 4783, 4719, 6127, 7151, 237, 13039]), (4863, [4847, 4831, 4799, 4735, 6143, 7167, 253, 13055]), (5890, [5911, 5927, 5963, 6027, 4610, 7938, 1282, 14082]), (5911, [5890, 5943, 5983, 6047, 4631, 7959, 1303, 14103]), (5927, [5943, 5890, 5999, 6063, 4647, 7975, 1319, 14119]), (5943, [5927, 5911, 6015, 6079, 4663, 7991, 1335, 14135]), (5963, [5983, 5999, 5890, 6091, 4683, 8011, 1355, 14155]), (5983, [5963, 6015, 5911, 6111, 4703, 8031, 1375, 14175]), (5999, [6015, 5963, 5927, 6127, 4719, 8047, 1391, 14191]), (6015, [5999, 5983, 5943, 6143, 4735, 8063, 1407, 14207]), (6027, [6047, 6063, 6091, 5890, 4747, 8075, 1419, 14219]), (6047, [6027, 6079, 6111, 5911, 4767, 8095, 1439, 14239]), (6063, [6079, 6027, 6127, 5927, 4783, 8111, 1455, 14255]), (6079, [6063, 6047, 6143, 5943, 4799, 8127, 1471, 14271]), (6091, [6111, 6127, 6027, 5963, 4811, 8139, 1483, 14283]), (6111, [6091, 6143, 6047, 5983, 4831, 8159, 1503, 14303]), (6127, [6143, 6091, 6063, 5999, 4847, 8175, 1519, 14319]), (6143, [6127, 6111, 6079, 6015, 4863, 8191, 1535, 14335]), (6914, [6935, 6951, 6987, 7051, 7938, 4610, 2306, 15106]), (6935, [6914, 6967, 7007, 7071, 7959, 4631, 2327, 15127]), (6951, [6967, 6914, 7023, 7087, 7975, 4647, 2343, 15143]), (6967, [6951, 6935, 7039, 7103, 7991, 4663, 2359, 15159]), (6987, [7007, 7023, 6914, 7115, 8011, 4683, 2379, 15179]), (7007, [6987, 7039, 6935, 7135, 8031, 4703, 2399, 15199]), (7023, [7039, 6987, 6951, 7151, 8047, 4719, 2415, 15215]), (7039, [7023, 7007, 6967, 7167, 8063, 4735, 2431, 15231]), (7051, [7071, 7087, 7115, 6914, 8075, 4747, 2443, 15243]), (7071, [7051, 7103, 7135, 6935, 8095, 4767, 2463, 15263]), (7087, [7103, 7051, 7151, 6951, 8111, 4783, 2479, 15279]), (7103, [7087, 7071, 7167, 6967, 8127, 4799, 2495, 15295]), (7115, [7135, 7151, 7051, 6987, 8139, 4811, 2507, 15307]), (7135, [7115, 7167, 7071, 7007, 8159, 4831, 2527, 15327]), (7151, [7167, 7115, 7087, 7023, 8175, 4847, 2543, 15343]), (7167, [7151, 7135, 7103, 7039, 8191, 4863, 2559, 15359]), (7938, [7959, 7975, 8011, 8075, 6914, 5890, 3330, 16130]), (7959, [7938, 7991, 8031, 8095, 6935, 5911, 3351, 16151]), (7975, [7991, 7938, 8047, 8111, 6951, 5927, 3367, 16167]), (7991, [7975, 7959, 8063, 8127, 6967, 5943, 3383, 16183]), (8011, [8031, 8047, 7938, 8139, 6987, 5963, 3403, 16203]), (8031, [8011, 8063, 7959, 8159, 7007, 5983, 3423, 16223]), (8047, [8063, 8011, 7975, 8175, 7023, 5999, 3439, 16239]), (8063, [8047, 8031, 7991, 8191, 7039, 6015, 3455, 16255]), (8075, [8095, 8111, 8139, 7938, 7051, 6027, 3467, 16267]), (8095, [8075, 8127, 8159, 7959, 7071, 6047, 3487, 16287]), (8111, [8127, 8075, 8175, 7975, 7087, 6063, 3503, 16303]), (8127, [8111, 8095, 8191, 7991, 7103, 6079, 3519, 16319]), (8139, [8159, 8175, 8075, 8011, 7115, 6091, 3531, 16331]), (8159, [8139, 8191, 8095, 8031, 7135, 6111, 3551, 16351]), (8175, [8191, 8139, 8111, 8047, 7151, 6127, 3567, 16367]), (8191, [8175, 8159, 8127, 8063, 7167, 6143, 3583, 16383]), (8706, [8727, 8743, 8779, 8843, 9986, 11010, 12802, 0]), (8727, [8706, 8759, 8799, 8863, 10007, 11031, 12823, 21]), (8743, [8759, 8706, 8815, 8879, 10023, 11047, 12839, 37]), (8759, [8743, 8727, 8831, 8895, 10039, 11063, 12855, 53]), (8779, [8799, 8815, 8706, 8907, 10059, 11083, 12875, 73]), (8799, [8779, 8831, 8727, 8927, 10079, 11103, 12895, 93]), (8815, [8831, 8779, 8743, 8943, 10095, 11119, 12911, 109]), (8831, [8815, 8799, 8759, 8959, 10111, 11135, 12927, 125]), (8843, [8863, 8879, 8907, 8706, 10123, 11147, 12939, 137]), (8863, [8843, 8895, 8927, 8727, 10143, 11167, 12959, 157]), (8879, [8895, 8843, 8943, 8743, 10159, 11183, 12975, 173]), (8895, [8879, 8863, 8959, 8759, 10175, 11199, 12991, 189]), (8907, [8927, 8943, 8843, 8779, 10187, 11211, 13003, 201]), (8927, [8907, 8959, 8863, 8799, 10207, 11231, 13023, 221]), (8943, [8959, 8907, 8879, 8815, 10223, 11247, 13039, 237]), (8959, [8943, 8927, 8895, 8831, 10239, 11263, 13055, 253]), (9986, [10007, 10023, 10059, 10123, 8706, 12034, 14082, 1282]), (10007, [9986, 10039, 10079, 10143, 8727, 12055, 14103, 1303]), (10023, [10039, 9986, 10095, 10159, 8743, 12071, 14119, 1319]), (10039, [10023, 10007, 10111, 10175, 8759, 12087, 14135, 1335]), (10059, [10079, 10095, 9986, 10187, 8779, 12107, 14155, 1355]), (10079, [10059, 10111, 10007, 10207, 8799, 12127, 14175, 1375]), (10095, [10111, 10059, 10023, 10223, 8815, 12143, 14191, 1391]), (10111, [10095, 10079, 10039, 10239, 8831, 12159, 14207, 1407]), (10123, [10143, 10159, 10187, 9986, 8843, 12171, 14219, 1419]), (10143, [10123, 10175, 10207, 10007, 8863, 12191, 14239, 1439]), (10159, [10175, 10123, 10223, 10023, 8879, 12207, 14255, 1455]), (10175, [10159, 10143, 10239, 10039, 8895, 12223, 14271, 1471]), (10187, [10207, 10223, 10123, 10059, 8907, 12235, 14283, 1483]), (10207, [10187, 10239, 10143, 10079, 8927, 12255, 14303, 1503]), (10223, [10239, 10187, 10159, 10095, 8943, 12271, 14319, 1519]), (10239, [10223, 10207, 10175, 10111, 8959, 12287, 14335, 1535]), (11010, [11031, 11047, 11083, 11147, 12034, 8706, 15106, 2306]), (11031, [11010, 11063, 11103, 11167, 12055, 8727, 15127, 2327]), (11047, [11063, 11010, 11119, 11183, 12071, 8743, 15143, 2343]), (11063, [11047, 11031, 11135, 11199, 12087, 8759, 15159, 2359]), (11083, [11103, 11119, 11010, 11211, 12107, 8779, 15179, 2379]), (11103, [11083, 11135, 11031, 11231, 12127, 8799, 15199, 2399]), (11119, [11135, 11083, 11047, 11247, 12143, 8815, 15215, 2415]), (11135, [11119, 11103, 11063, 11263, 12159, 8831, 15231, 2431]), (11147, [11167, 11183, 11211, 11010, 12171, 8843, 15243, 2443]), (11167, [11147, 11199, 11231, 11031, 12191, 8863, 15263, 2463]), (11183, [11199, 11147, 11247, 11047, 12207, 8879, 15279, 2479]), (11199, [11183, 11167, 11263, 11063, 12223, 8895, 15295, 2495]), (11211, [11231, 11247, 11147, 11083, 12235, 8907, 15307, 2507]), (11231, [11211, 11263, 11167, 11103, 12255, 8927, 15327, 2527]), (11247, [11263, 11211, 11183, 11119, 12271, 8943, 15343, 2543]), (11263, [11247, 11231, 11199, 11135, 12287, 8959, 15359, 2559]), (12034, [12055, 12071, 12107, 12171, 11010, 9986, 16130, 3330]), (12055, [12034, 12087, 12127, 12191, 11031, 10007, 16151, 3351]), (12071, [12087, 12034, 12143, 12207, 11047, 10023, 16167, 3367]), (12087, [12071, 12055, 12159, 12223, 11063, 10039, 16183, 3383]), (12107, [12127, 12143, 12034, 12235, 11083, 10059, 16203, 3403]), (12127, [12107, 12159, 12055, 12255, 11103, 10079, 16223, 3423]), (12143, [12159, 12107, 12071, 12271, 11119, 10095, 16239, 3439]), (12159, [12143, 12127, 12087, 12287, 11135, 10111, 16255, 3455]), (12171, [12191, 12207, 12235, 12034, 11147, 10123, 16267, 3467]), (12191, [12171, 12223, 12255, 12055, 11167, 10143, 16287, 3487]), (12207, [12223, 12171, 12271, 12071, 11183, 10159, 16303, 3503]), (12223, [12207, 12191, 12287, 12087, 11199, 10175, 16319, 3519]), (12235, [12255, 12271, 12171, 12107, 11211, 10187, 16331, 3531]), (12255, [12235, 12287, 12191, 12127, 11231, 10207, 16351, 3551]), (12271, [12287, 12235, 12207, 12143, 11247, 10223, 16367, 3567]), (12287, [12271, 12255, 12223, 12159, 11263, 10239, 16383, 3583]), (12802, [12823, 12839, 12875, 12939, 14082, 15106, 8706, 4610]), (12823, [12802, 12855, 12895, 12959, 14103, 15127, 8727, 4631]), (12839, [12855, 12802, 12911, 12975, 14119, 15143, 8743, 4647]), (12855, [12839, 12823, 12927, 12991, 14135, 15159, 8759, 4663]), (12875, [12895, 12911, 12802, 13003, 14155, 15179, 8779, 4683]), (12895, [12875, 12927, 12823, 13023, 14175, 15199, 8799, 4703]), (12911, [12927, 12875, 12839, 13039, 14191, 15215, 8815, 4719]), (12927, [12911, 12895, 12855, 13055, 14207, 15231, 8831, 4735]), (12939, [12959, 12975, 13003, 12802, 14219, 15243, 8843, 4747]), (12959, [12939, 12991, 13023, 12823, 14239, 15263, 8863, 4767]), (12975, [12991, 12939, 13039, 12839, 14255, 15279, 8879, 4783]), (12991, [12975, 12959, 13055, 12855, 14271, 15295, 8895, 4799]), (13003, [13023, 13039, 12939, 12875, 14283, 15307, 8907, 4811]), (13023, [13003, 13055, 12959, 12895, 14303, 15327, 8927, 4831]), (13039, [13055, 13003, 12975, 12911, 14319, 15343, 8943, 4847]), (13055, [13039, 13023, 12991, 12927, 14335, 15359, 8959, 4863]), (14082, [14103, 14119, 14155, 14219, 12802, 16130, 9986, 5890]), (14103, [14082, 14135, 14175, 14239, 12823, 16151, 10007, 5911]), (14119, [14135, 14082, 14191, 14255, 12839, 16167, 10023, 5927]), (14135, [14119, 14103, 14207, 14271, 12855, 16183, 10039, 5943]), (14155, [14175, 14191, 14082, 14283, 12875, 16203, 10059, 5963]), (14175, [14155, 14207, 14103, 14303, 12895, 16223, 10079, 5983]), (14191, [14207, 14155, 14119, 14319, 12911, 16239, 10095, 5999]), (14207, [14191, 14175, 14135, 14335, 12927, 16255, 10111, 6015]), (14219, [14239, 14255, 14283, 14082, 12939, 16267, 10123, 6027]), (14239, [14219, 14271, 14303, 14103, 12959, 16287, 10143, 6047]), (14255, [14271, 14219, 14319, 14119, 12975, 16303, 10159, 6063]), (14271, [14255, 14239, 14335, 14135, 12991, 16319, 10175, 6079]), (14283, [14303, 14319, 14219, 14155, 13003, 16331, 10187, 6091]), (14303, [14283, 14335, 14239, 14175, 13023, 16351, 10207, 6111]), (14319, [14335, 14283, 14255, 14191, 13039, 16367, 10223, 6127]), (14335, [14319, 14303, 14271, 14207, 13055, 16383, 10239, 6143]), (15106, [15127, 15143, 15179, 15243, 16130, 12802, 11010, 6914]), (15127, [15106, 15159, 15199, 15263, 16151, 12823, 11031, 6935]), (15143, [15159, 15106, 15215, 15279, 16167, 12839, 11047, 6951]), (15159, [15143, 15127, 15231, 15295, 16183, 12855, 11063, 6967]), (15179, [15199, 15215, 15106, 15307, 16203, 12875, 11083, 6987]), (15199, [15179, 15231, 15127, 15327, 16223, 12895, 11103, 7007]), (15215, [15231, 15179, 15143, 15343, 16239, 12911, 11119, 7023]), (15231, [15215, 15199, 15159, 15359, 16255, 12927, 11135, 7039]), (15243, [15263, 15279, 15307, 15106, 16267, 12939, 11147, 7051]), (15263, [15243, 15295, 15327, 15127, 16287, 12959, 11167, 7071]), (15279, [15295, 15243, 15343, 15143, 16303, 12975, 11183, 7087]), (15295, [15279, 15263, 15359, 15159, 16319, 12991, 11199, 7103]), (15307, [15327, 15343, 15243, 15179, 16331, 13003, 11211, 7115]), (15327, [15307, 15359, 15263, 15199, 16351, 13023, 11231, 7135]), (15343, [15359, 15307, 15279, 15215, 16367, 13039, 11247, 7151]), (15359, [15343, 15327, 15295, 15231, 16383, 13055, 11263, 7167]), (16130, [16151, 16167, 16203, 16267, 15106, 14082, 12034, 7938]), (16151, [16130, 16183, 16223, 16287, 15127, 14103, 12055, 7959]), (16167, [16183, 16130, 16239, 16303, 15143, 14119, 12071, 7975]), (16183, [16167, 16151, 16255, 16319, 15159, 14135, 12087, 7991]), (16203, [16223, 16239, 16130, 16331, 15179, 14155, 12107, 8011]), (16223, [16203, 16255, 16151, 16351, 15199, 14175, 12127, 8031]), (16239, [16255, 16203, 16167, 16367, 15215, 14191, 12143, 8047]), (16255, [16239, 16223, 16183, 16383, 15231, 14207, 12159, 8063]), (16267, [16287, 16303, 16331, 16130, 15243, 14219, 12171, 8075]), (16287, [16267, 16319, 16351, 16151, 15263, 14239, 12191, 8095]), (16303, [16319, 16267, 16367, 16167, 15279, 14255, 12207, 8111]), (16319, [16303, 16287, 16383, 16183, 15295, 14271, 12223, 8127]), (16331, [16351, 16367, 16267, 16203, 15307, 14283, 12235, 8139]), (16351, [16331, 16383, 16287, 16223, 15327, 14303, 12255, 8159]), (16367, [16383, 16331, 16303, 16239, 15343, 14319, 12271, 8175]), (16383, [16367, 16351, 16319, 16255, 15359, 14335, 12287, 8191])]
theorem chk1 : (nbC1.zip fewC1).all (fun z => fstB z.1.1 z.1.2 rmC1 == z.2) = true := by decide +kernel
theorem ctold1 : (setsN (everyN 1)).map (fun s => encR (rowN 1 s)) = toldC1 := by decide +kernel
theorem crow1 : ((List.range 1).flatMap fun j => rowsF 1 (j + 1)).map (fun p => (p, maskR p)) = rmC1 := by decide +kernel
theorem cfew1 : (setsN (everyN 1)).map (fun s => (begsN 1).filter (needN 1 s)) = fewC1.map (fun p => p.map fun k => (begsN 1).getD k []) := by decide +kernel
theorem cnb1 : (List.range 4).map (fun i => (toldC1.getD i 0, (List.range 2).map fun k => toldC1.getD (i ^^^ (1 <<< k)) 0)) = nbC1 := by decide +kernel
theorem chk2 : (nbC2.zip fewC2).all (fun z => fstB z.1.1 z.1.2 rmC2 == z.2) = true := by decide +kernel
theorem ctold2 : (setsN (everyN 2)).map (fun s => encR (rowN 2 s)) = toldC2 := by decide +kernel
theorem crow2 : ((List.range 3).flatMap fun j => rowsF 3 (j + 1)).map (fun p => (p, maskR p)) = rmC2 := by decide +kernel
theorem cfew2 : (setsN (everyN 2)).map (fun s => (begsN 2).filter (needN 2 s)) = fewC2.map (fun p => p.map fun k => (begsN 2).getD k []) := by decide +kernel
theorem cnb2 : (List.range 16).map (fun i => (toldC2.getD i 0, (List.range 4).map fun k => toldC2.getD (i ^^^ (1 <<< k)) 0)) = nbC2 := by decide +kernel
theorem chk3 : (nbC3.zip fewC3).all (fun z => fstB z.1.1 z.1.2 rmC3 == z.2) = true := by decide +kernel
theorem ctold3 : (setsN (everyN 3)).map (fun s => encR (rowN 3 s)) = toldC3 := by decide +kernel
theorem crow3 : ((List.range 7).flatMap fun j => rowsF 7 (j + 1)).map (fun p => (p, maskR p)) = rmC3 := by decide +kernel
theorem cfew3 : (setsN (everyN 3)).map (fun s => (begsN 3).filter (needN 3 s)) = fewC3.map (fun p => p.map fun k => (begsN 3).getD k []) := by decide +kernel
theorem cnb3 : (List.range 256).map (fun i => (toldC3.getD i 0, (List.range 8).map fun k => toldC3.getD (i ^^^ (1 <<< k)) 0)) = nbC3 := by decide +kernel

/-! ### the codes -/
theorem tb_zero (b : Bool) (m : Nat) : (b.toNat + 2 * m).testBit 0 = b := by
  rw [Nat.testBit_zero]
  cases b <;> simp <;> omega
theorem tb_succ (b : Bool) (m j : Nat) : (b.toNat + 2 * m).testBit (j + 1) = m.testBit j := by
  rw [Nat.testBit_succ]
  congr 1
  have : b.toNat ≤ 1 := by cases b <;> decide
  omega
theorem enc_bit : ∀ (r : List (Bool × Bool)) (k : Nat), (encR r).testBit (2 * k) = (r.getD k (false, false)).1 ∧ (encR r).testBit (2 * k + 1) = (r.getD k (false, false)).2
  | [], k => by simp [encR]
  | (a, b) :: r, 0 => by
    refine ⟨?_, ?_⟩
    · show (a.toNat + 2 * (b.toNat + 2 * encR r)).testBit 0 = a
      exact tb_zero _ _
    · show (a.toNat + 2 * (b.toNat + 2 * encR r)).testBit (0 + 1) = b
      rw [tb_succ]
      exact tb_zero _ _
  | (a, b) :: r, k + 1 => by
    have ih := enc_bit r k
    have e : ∀ j, (encR ((a, b) :: r)).testBit (j + 2) = (encR r).testBit j := fun j => by
      show (a.toNat + 2 * (b.toNat + 2 * encR r)).testBit (j + 1 + 1) = _
      rw [tb_succ, tb_succ]
    refine ⟨?_, ?_⟩
    · rw [show 2 * (k + 1) = 2 * k + 2 by omega, e]
      exact ih.1
    · rw [show 2 * (k + 1) + 1 = 2 * k + 1 + 2 by omega, e]
      exact ih.2
theorem mask_bit : ∀ {ps : List Nat} {k : Nat}, k ∈ ps → (maskR ps).testBit (2 * k) = true ∧ (maskR ps).testBit (2 * k + 1) = true
  | [], _, h => absurd h (by simp)
  | p :: ps, k, h => by
    have e : ∀ j, (maskR (p :: ps)).testBit j = ((3 <<< (2 * p)).testBit j || (maskR ps).testBit j) := fun j => Nat.testBit_or _ _ _
    rcases List.mem_cons.mp h with rfl | h
    · rw [e, e, Nat.testBit_shiftLeft, Nat.testBit_shiftLeft, Nat.sub_self, Nat.add_sub_cancel_left]
      have a1 : (2 * k + 1 ≥ 2 * k) := by omega
      simp [a1]
      exact .inl (by decide)
    · have ih := mask_bit h
      rw [e, e, ih.1, ih.2, Bool.or_true, Bool.or_true]
      exact ⟨rfl, rfl⟩
theorem agree_of {r q : List (Bool × Bool)} {ps : List Nat} (h : Nat.beq (Nat.land (Nat.xor (encR r) (encR q)) (maskR ps)) 0 = true) : (ps.all fun k => decide (r.getD k (false, false) = q.getD k (false, false))) = true := by
  have h0 : (encR r ^^^ encR q) &&& maskR ps = 0 := Nat.eq_of_beq_eq_true h
  rw [List.all_eq_true]
  intro k hk
  have m := mask_bit hk
  have bit : ∀ j, (maskR ps).testBit j = true → (encR r).testBit j = (encR q).testBit j := fun j hj => by
    have z := congrArg (fun n => n.testBit j) h0
    have z' : ((encR r ^^^ encR q) &&& maskR ps).testBit j = false := by rw [h0]; exact Nat.zero_testBit j
    rw [Nat.testBit_and, Nat.testBit_xor, hj, Bool.and_true] at z'
    cases c : (encR r).testBit j <;> cases d : (encR q).testBit j <;> rw [c, d] at z' <;> first | rfl | cases z'
  have a := bit _ m.1
  have b := bit _ m.2
  rw [(enc_bit r k).1, (enc_bit q k).1] at a
  rw [(enc_bit r k).2, (enc_bit q k).2] at b
  exact decide_eq_true (Prod.ext a b)
theorem fst_split {own : Nat} {nbs : List Nat} : ∀ {rows : List (List Nat × Nat)} {ps : List Nat}, fstB own nbs rows = ps → ps ≠ [] → ∃ pre m post, rows = pre ++ (ps, m) :: post ∧ ∀ x ∈ pre, nbB own x.2 nbs = true
  | [], ps, h, hn => absurd h.symm hn
  | x :: rows, ps, h, hn => by
    cases c : nbB own x.2 nbs with
    | true =>
      have h' : cond (nbB own x.2 nbs) (fstB own nbs rows) x.1 = ps := h
      rw [c] at h'
      obtain ⟨pre, m, post, e, q⟩ := fst_split (rows := rows) h' hn
      refine ⟨x :: pre, m, post, by rw [e]; rfl, fun y hy => ?_⟩
      rcases List.mem_cons.mp hy with rfl | hy
      · exact c
      · exact q y hy
    | false =>
      have h' : cond (nbB own x.2 nbs) (fstB own nbs rows) x.1 = ps := h
      rw [c] at h'
      have h2 : x.1 = ps := h'
      refine ⟨[], x.2, rows, by rw [← h2]; rfl, fun y hy => absurd hy (by simp)⟩
theorem nb_split {own m : Nat} : ∀ {nbs : List Nat}, nbB own m nbs = true → ∃ c ∈ nbs, Nat.beq (Nat.land (Nat.xor c own) m) 0 = true
  | [], h => by cases h
  | c :: r, h => by
    have h' : cond (Nat.beq (Nat.land (Nat.xor c own) m) 0) true (nbB own m r) = true := h
    cases e : Nat.beq (Nat.land (Nat.xor c own) m) 0 with
    | true => exact ⟨c, by simp, e⟩
    | false =>
      rw [e] at h'
      obtain ⟨d, hd, z⟩ := nb_split (nbs := r) h'
      exact ⟨d, by simp [hd], z⟩
theorem two_at {α : Type} {l : List α} {p : α → Bool} {i j : Nat} {x y : α} (hi : l[i]? = some x) (hj : l[j]? = some y) (ne : i ≠ j) (px : p x = true) (py : p y = true) : (l.filter p).length ≠ 1 := by
  have go : ∀ {i j : Nat} {x y : α}, l[i]? = some x → l[j]? = some y → i < j → p x = true → p y = true → (l.filter p).length ≠ 1 := by
    intro i j x y hi hj lt px py
    have e : l = l.take j ++ l.drop j := (List.take_append_drop j l).symm
    obtain ⟨hj2, ej⟩ := List.getElem?_eq_some_iff.mp hj
    have m1 : x ∈ (l.take j).filter p := List.mem_filter.mpr ⟨List.mem_of_getElem? (i := i) (by rw [List.getElem?_take_of_lt lt]; exact hi), px⟩
    have m2 : y ∈ (l.drop j).filter p := List.mem_filter.mpr ⟨by rw [List.drop_eq_getElem_cons hj2, ej]; simp, py⟩
    rw [e, List.filter_append, List.length_append]
    have l1 := List.length_pos_of_mem m1
    have l2 := List.length_pos_of_mem m2
    omega
  rcases Nat.lt_or_gt_of_ne ne with h | h
  · exact go hi hj h px py
  · exact go hj hi h py px
theorem one_of {α : Type} {l : List α} {p : α → Bool} {x : α} (nd : l.Nodup) (hx : x ∈ l) (px : p x = true) (u : ∀ y ∈ l, p y = true → y = x) : (l.filter p).length = 1 := by
  have e : l.filter p = [x] := by
    refine List.Perm.eq_singleton ?_
    refine ((List.perm_ext_iff_of_nodup (nd.filter _) (by simp)).mpr fun y => ?_)
    rw [List.mem_filter, List.mem_singleton]
    exact ⟨fun h => u y h.1 h.2, fun h => by rw [h]; exact ⟨hx, px⟩⟩
  rw [e]
  rfl
theorem nodup_of {α β : Type} {f : α → β} {l : List α} (h : (l.map f).Nodup) : l.Nodup := List.Pairwise.of_map f (fun _ _ hne e => hne (congrArg f e)) h
theorem nodup_map {α β : Type} {f : α → β} (hf : ∀ a b, f a = f b → a = b) {l : List α} (h : l.Nodup) : (l.map f).Nodup := List.pairwise_map.mpr (h.imp fun ne e => ne (hf _ _ e))
theorem mapl_inj {α β : Type} {f : α → β} (hf : ∀ a b, f a = f b → a = b) : ∀ {l m : List α}, l.map f = m.map f → l = m
  | [], [], _ => rfl
  | [], _ :: _, e => by cases e
  | _ :: _, [], e => by cases e
  | a :: l, b :: m, e => by
    rw [List.map_cons, List.map_cons] at e
    obtain ⟨e1, e2⟩ := List.cons.inj e
    rw [hf _ _ e1, mapl_inj hf e2]
/-! ### the sets of some numbers -/
def setsS (xs : List Str) : List (List Str) := xs.foldl (fun F x => F ++ F.map (· ++ [x])) [[]]
def everyS (W : Nat) : List Str := (everyN W).map S
theorem sets_step {α : Type} {x : α} {F : List (List α)} {pre s : List α} (h : ∀ s, s ∈ F ↔ s.Sublist pre) : s ∈ F ++ F.map (· ++ [x]) ↔ s.Sublist (pre ++ [x]) := by
  rw [List.mem_append, List.mem_map, List.sublist_append_iff]
  constructor
  · rintro (c | ⟨t, ht, rfl⟩)
    · exact ⟨s, [], by simp, (h s).mp c, by simp⟩
    · exact ⟨t, [x], rfl, (h t).mp ht, by simp⟩
  · rintro ⟨a, b, rfl, ha, hb⟩
    cases b with
    | nil => exact .inl (by rw [List.append_nil]; exact (h a).mpr ha)
    | cons y r =>
      have l1 := hb.length_le
      have : r = [] := by
        cases r with
        | nil => rfl
        | cons _ _ => simp at l1
      subst this
      have : y = x := by
        have := hb.subset (List.mem_singleton.mpr rfl)
        exact List.mem_singleton.mp this
      subst this
      exact .inr ⟨a, (h a).mpr ha, rfl⟩
theorem sets_fold {α : Type} : ∀ (xs : List α) (F : List (List α)) (pre : List α), (∀ s, s ∈ F ↔ s.Sublist pre) → ∀ s, s ∈ xs.foldl (fun F x => F ++ F.map (· ++ [x])) F ↔ s.Sublist (pre ++ xs)
  | [], F, pre, h, s => by rw [List.append_nil]; exact h s
  | x :: r, F, pre, h, s => by
    have e : pre ++ x :: r = (pre ++ [x]) ++ r := by simp
    rw [e]
    exact sets_fold r (F ++ F.map (· ++ [x])) (pre ++ [x]) (fun s => sets_step h) s
theorem mem_sets {xs s : List Str} : s ∈ setsS xs ↔ s.Sublist xs := by
  have := sets_fold xs [[]] [] (fun s => by rw [List.mem_singleton, List.sublist_nil]) s
  rw [List.nil_append] at this
  exact this
theorem sets_map : ∀ (xs : List (List Nat)) (F : List (List (List Nat))), (xs.foldl (fun F x => F ++ F.map (· ++ [x])) F).map (fun s => s.map S) = (xs.map S).foldl (fun F x => F ++ F.map (· ++ [x])) (F.map fun s => s.map S)
  | [], F => rfl
  | x :: r, F => by
    rw [List.foldl_cons, List.map_cons, List.foldl_cons, sets_map r]
    congr 1
    rw [List.map_append, List.map_map, List.map_map]
    congr 1
    refine List.map_congr_left fun s _ => ?_
    show (s ++ [x]).map S = s.map S ++ [S x]
    rw [List.map_append]
    rfl
theorem setsS_N {W : Nat} : setsS (everyS W) = (setsN (everyN W)).map fun s => s.map S := (sets_map (everyN W) [[]]).symm
theorem every_all {W : Nat} (hW : W = 1 ∨ W = 2 ∨ W = 3) : ∀ m ∈ everyN W, m.length = W ∧ Bits m := by
  have z : (everyN 1).all (fun m => decide (m.length = 1) && m.all fun c => decide (c = 48 ∨ c = 49)) = true ∧ (everyN 2).all (fun m => decide (m.length = 2) && m.all fun c => decide (c = 48 ∨ c = 49)) = true ∧ (everyN 3).all (fun m => decide (m.length = 3) && m.all fun c => decide (c = 48 ∨ c = 49)) = true := by decide +kernel
  have g : ∀ {W : Nat}, (everyN W).all (fun m => decide (m.length = W) && m.all fun c => decide (c = 48 ∨ c = 49)) = true → ∀ m ∈ everyN W, m.length = W ∧ Bits m := fun {W} h m hm => by
    have := List.all_eq_true.mp h m hm
    rw [Bool.and_eq_true] at this
    exact ⟨of_decide_eq_true this.1, fun c hc => of_decide_eq_true (List.all_eq_true.mp this.2 c hc)⟩
  rcases hW with rfl | rfl | rfl
  · exact g z.1
  · exact g z.2.1
  · exact g z.2.2
theorem all_every : ∀ {W : Nat} {m : List Nat}, m.length = W → Bits m → m ∈ everyN W := by
  intro W
  induction W with
  | zero =>
    intro m h _
    rw [List.eq_nil_of_length_eq_zero h]
    exact List.mem_singleton.mpr rfl
  | succ n ih =>
    intro m h b
    have ne : m ≠ [] := by
      intro c
      rw [c] at h
      cases h
    have e := List.dropLast_concat_getLast ne
    have hd : m.dropLast ∈ everyN n := ih (by rw [List.length_dropLast, h]; rfl) fun c hc => b c ((List.dropLast_sublist _).subset hc)
    show m ∈ (everyN n).flatMap fun l => [l ++ [48], l ++ [49]]
    rw [List.mem_flatMap]
    refine ⟨_, hd, ?_⟩
    rcases b _ (List.getLast_mem ne) with c | c
    · rw [c] at e
      rw [e]
      simp
    · rw [c] at e
      rw [e]
      simp
theorem every_num {W : Nat} (hW : W = 1 ∨ W = 2 ∨ W = 3) : ∀ x ∈ everyS W, Num W x := fun x hx => by
  obtain ⟨m, hm, rfl⟩ := List.mem_map.mp hx
  have := every_all hW m hm
  exact ⟨m, rfl, this.1, this.2⟩
theorem num_every {W : Nat} {x : Str} (h : Num W x) : x ∈ everyS W := by
  obtain ⟨m, rfl, e, b⟩ := h
  exact List.mem_map.mpr ⟨m, all_every e b, rfl⟩
theorem every_rl {W : Nat} (hW : W = 1 ∨ W = 2 ∨ W = 3) : RL (everyS W) := by
  have z : sortedS (everyS 1) = true ∧ sortedS (everyS 2) = true ∧ sortedS (everyS 3) = true := by decide +kernel
  have y : (everyS 1).Nodup ∧ (everyS 2).Nodup ∧ (everyS 3).Nodup := by decide +kernel
  rcases hW with rfl | rfl | rfl
  · exact ⟨sorted_pw z.1, y.1⟩
  · exact ⟨sorted_pw z.2.1, y.2.1⟩
  · exact ⟨sorted_pw z.2.2, y.2.2⟩
/-- the sets are the rising lists of numbers -/
theorem set_iff {W : Nat} (hW : W = 1 ∨ W = 2 ∨ W = 3) {s : List Str} : s ∈ setsS (everyS W) ↔ (∀ x ∈ s, Num W x) ∧ RL s := by
  rw [mem_sets]
  constructor
  · exact fun h => ⟨fun x hx => every_num hW x (h.subset hx), (every_rl hW).1.sublist h, h.nodup (every_rl hW).2⟩
  · rintro ⟨h, r⟩
    have e : s = (everyS W).filter fun x => decide (x ∈ s) := rl_eq r ((every_rl hW).flt _) fun x => by
      rw [List.mem_filter, decide_eq_true_eq]
      exact ⟨fun hx => ⟨num_every (h x hx), hx⟩, fun hx => hx.2⟩
    rw [e]
    exact List.filter_sublist
theorem sets_nd {W : Nat} (hW : W = 1 ∨ W = 2 ∨ W = 3) : (setsS (everyS W)).Nodup := by
  have y : toldC1.Nodup ∧ toldC2.Nodup ∧ toldC3.Nodup := by decide +kernel
  rw [setsS_N]
  have g : (setsN (everyN W)).Nodup := by
    rcases hW with rfl | rfl | rfl
    · exact nodup_of (ctold1 ▸ y.1)
    · exact nodup_of (ctold2 ▸ y.2.1)
    · exact nodup_of (ctold3 ▸ y.2.2)
  refine nodup_map (fun a b e => ?_) g
  exact mapl_inj (fun a b e => S_inj e) e
/-! ### beginnings -/
theorem begs_all {W : Nat} (hW : W = 1 ∨ W = 2 ∨ W = 3) {l : List Nat} (hb : Bits l) (hl : l.length < W) : l ∈ begsN W := by
  have g : ∀ c, c = 48 ∨ c = 49 → c = 48 ∨ c = 49 := fun _ h => h
  match l, hb, hl with
  | [], _, _ => rcases hW with rfl | rfl | rfl <;> decide
  | [a], hb, hl =>
    rcases hb a (by simp) with rfl | rfl <;> rcases hW with rfl | rfl | rfl <;> first | decide | exact absurd hl (by simp)
  | [a, b], hb, hl =>
    rcases hb a (by simp) with rfl | rfl <;> rcases hb b (by simp) with rfl | rfl <;> rcases hW with rfl | rfl | rfl <;> first | decide | exact absurd hl (by simp)
  | a :: b :: c :: r, _, hl => exact absurd hl (by simp only [List.length_cons]; omega)
theorem begs_met {W : Nat} (hW : W = 1 ∨ W = 2 ∨ W = 3) : MetL W (everyS W) ((begsN W).map S) := by
  have z : sortedS ((begsN 1).map S) = true ∧ sortedS ((begsN 2).map S) = true ∧ sortedS ((begsN 3).map S) = true := by decide +kernel
  have y : ((begsN 1).map S).Nodup ∧ ((begsN 2).map S).Nodup ∧ ((begsN 3).map S).Nodup := by decide +kernel
  have u : (begsN 1).all (fun b => (everyN 1).any fun x => (List.range 1).any fun i => decide (x.take i = b)) = true ∧ (begsN 2).all (fun b => (everyN 2).any fun x => (List.range 2).any fun i => decide (x.take i = b)) = true ∧ (begsN 3).all (fun b => (everyN 3).any fun x => (List.range 3).any fun i => decide (x.take i = b)) = true := by decide +kernel
  have mem : (begsN W).all (fun b => (everyN W).any fun x => (List.range W).any fun i => decide (x.take i = b)) = true → ∀ y, y ∈ (begsN W).map S ↔ MetS W (everyS W) y := fun h y => by
    rw [List.mem_map]
    constructor
    · rintro ⟨b, hb, rfl⟩
      obtain ⟨x, hx, z⟩ := List.any_eq_true.mp (List.all_eq_true.mp h b hb)
      obtain ⟨i, hi, e⟩ := List.any_eq_true.mp z
      exact .inr ⟨S x, List.mem_map.mpr ⟨x, hx, rfl⟩, i, List.mem_range.mp hi, by rw [S_list, of_decide_eq_true e]⟩
    · rintro (rfl | ⟨x, hx, i, hi, rfl⟩)
      · exact ⟨[], begs_all hW (fun c hc => absurd hc (by simp)) (by simp; omega), rfl⟩
      · obtain ⟨m, hm, rfl⟩ := List.mem_map.mp hx
        have q := every_all hW m hm
        refine ⟨m.take i, begs_all hW (fun c hc => q.2 c (List.mem_of_mem_take hc)) (by rw [List.length_take]; omega), by rw [S_list]⟩
  rcases hW with rfl | rfl | rfl
  · exact ⟨z.1, y.1, mem u.1⟩
  · exact ⟨z.2.1, y.2.1, mem u.2.1⟩
  · exact ⟨z.2.2, y.2.2, mem u.2.2⟩
/-! ### what is told of sets at beginnings -/
def lookB (s : List Str) (b : List Nat) : Bool × Bool := (s.any (starts (b ++ [48])), s.any (starts (b ++ [49])))
def rowB (W : Nat) (s : List Str) : List (Bool × Bool) := (begsN W).map (lookB s)
def agR (own r : List (Bool × Bool)) (ps : List Nat) : Bool := ps.all fun k => decide (r.getD k (false, false) = own.getD k (false, false))
def cntR (told : List (List (Bool × Bool))) (own : List (Bool × Bool)) (ps : List Nat) : Nat := (told.filter fun r => agR own r ps).length
def needB (W : Nat) (s : List Str) (b : List Nat) : Bool := (b.isEmpty || s.any (starts b)) && needL W s b
def rowsAll (W : Nat) : List (List Nat) := (List.range (begsN W).length).flatMap fun j => rowsF (begsN W).length (j + 1)
theorem any_S {s : List (List Nat)} {b : List Nat} : (s.map S).any (starts b) = anyN s b := by
  rw [List.any_map]
  unfold anyN
  congr 1
theorem row_S {W : Nat} {s : List (List Nat)} : rowB W (s.map S) = rowN W s := by
  unfold rowB rowN
  refine List.map_congr_left fun b _ => ?_
  show (_, _) = (_, _)
  rw [any_S, any_S]
theorem need_S {W : Nat} {s : List (List Nat)} {b : List Nat} : needB W (s.map S) b = needN W s b := by
  unfold needB needN needL
  rw [any_S, any_S, any_S]
theorem pick_at {α : Type} {l : List α} {k : Nat} {d : α} (h : k < l.length) : l.getD k d = l[k] := by
  rw [List.getD_eq_getElem?_getD, List.getElem?_eq_getElem h]
  rfl
/-- the tables of one width -/
structure TabC (W : Nat) (toldC : List Nat) (fewC : List (List Nat)) (rmC : List (List Nat × Nat)) (nbC : List (Nat × List Nat)) (N M : Nat) : Prop where
  chk : (nbC.zip fewC).all (fun z => fstB z.1.1 z.1.2 rmC == z.2) = true
  told : (setsN (everyN W)).map (fun s => encR (rowN W s)) = toldC
  row : ((List.range (begsN W).length).flatMap fun j => rowsF (begsN W).length (j + 1)).map (fun p => (p, maskR p)) = rmC
  few : (setsN (everyN W)).map (fun s => (begsN W).filter (needN W s)) = fewC.map (fun p => p.map fun k => (begsN W).getD k [])
  nb : (List.range N).map (fun i => (toldC.getD i 0, (List.range M).map fun k => toldC.getD (i ^^^ (1 <<< k)) 0)) = nbC
  ne : fewC.all (fun p => !p.isEmpty) = true
  len : toldC.length = N
  lt : ((List.range N).all fun i => (List.range M).all fun k => decide (i ^^^ (1 <<< k) < N) && decide (i ^^^ (1 <<< k) ≠ i)) = true
theorem tab1 : TabC 1 toldC1 fewC1 rmC1 nbC1 4 2 := ⟨chk1, ctold1, crow1, cfew1, cnb1, by decide +kernel, by decide +kernel, by decide +kernel⟩
theorem tab2 : TabC 2 toldC2 fewC2 rmC2 nbC2 16 4 := ⟨chk2, ctold2, crow2, cfew2, cnb2, by decide +kernel, by decide +kernel, by decide +kernel⟩
theorem tab3 : TabC 3 toldC3 fewC3 rmC3 nbC3 256 8 := ⟨chk3, ctold3, crow3, cfew3, cnb3, by decide +kernel, by decide +kernel, by decide +kernel⟩
theorem least_tab {W N M : Nat} {toldC : List Nat} {fewC : List (List Nat)} {rmC : List (List Nat × Nat)} {nbC : List (Nat × List Nat)} (T : TabC W toldC fewC rmC nbC N M) {s : List (List Nat)} (hs : s ∈ setsN (everyN W)) :
    ∃ pre ps post, rowsAll W = pre ++ ps :: post ∧ ps.map (fun k => (begsN W).getD k []) = (begsN W).filter (needN W s) ∧
      ∀ q ∈ pre, ((setsN (everyN W)).filter fun t => agR (rowN W s) (rowN W t) q).length ≠ 1 := by
  obtain ⟨i, hi, es⟩ := List.getElem_of_mem hs
  have ln : (setsN (everyN W)).length = N := by
    have := congrArg List.length T.told
    rw [List.length_map, T.len] at this
    exact this
  have hiN : i < N := by omega
  have code : ∀ j (hj : j < (setsN (everyN W)).length), toldC.getD j 0 = encR (rowN W (setsN (everyN W))[j]) := fun j hj => by
    rw [← T.told, pick_at (by rw [List.length_map]; exact hj), List.getElem_map]
  have lf : fewC.length = N := by
    have := congrArg List.length T.few
    rw [List.length_map, List.length_map, ln] at this
    exact this.symm
  have lnb : nbC.length = N := by
    have := congrArg List.length T.nb
    rw [List.length_map, List.length_range] at this
    exact this.symm
  have hfi : i < fewC.length := by omega
  have hni : i < nbC.length := by omega
  have fe : (begsN W).filter (needN W s) = (fewC[i]).map fun k => (begsN W).getD k [] := by
    have := congrArg (fun l => l[i]?) T.few
    simp only [List.getElem?_map] at this
    rw [List.getElem?_eq_getElem hi, List.getElem?_eq_getElem hfi, es] at this
    exact Option.some.inj this
  have nbe : nbC[i] = (toldC.getD i 0, (List.range M).map fun k => toldC.getD (i ^^^ (1 <<< k)) 0) := by
    have := congrArg (fun l => l[i]?) T.nb
    simp only [List.getElem?_map] at this
    rw [List.getElem?_range hiN, List.getElem?_eq_getElem hni] at this
    exact (Option.some.inj this).symm
  have ck : fstB nbC[i].1 nbC[i].2 rmC = fewC[i] := by
    have m : (nbC[i], fewC[i]) ∈ nbC.zip fewC := by
      refine List.mem_of_getElem? (i := i) ?_
      rw [List.getElem?_zip_eq_some]
      exact ⟨List.getElem?_eq_getElem hni, List.getElem?_eq_getElem hfi⟩
    exact eq_of_beq (List.all_eq_true.mp T.chk _ m)
  have nem : fewC[i] ≠ [] := fun e => by
    have := List.all_eq_true.mp T.ne _ (List.getElem_mem hfi)
    rw [e] at this
    cases this
  obtain ⟨pre, m, post, er, hpre⟩ := fst_split ck nem
  have er2 := T.row
  rw [er] at er2
  have er3 : (rowsAll W).map (fun p => (p, maskR p)) = pre ++ (fewC[i], m) :: post := er2
  obtain ⟨a, b, e1, e2, e3⟩ := List.map_eq_append_iff.mp er3
  obtain ⟨c, d, e4, e5, e6⟩ := List.map_eq_cons_iff.mp e3
  have ec : c = fewC[i] := (Prod.mk.inj e5).1
  refine ⟨a, c, d, by rw [e1, e4], by rw [ec, fe], fun q hq => ?_⟩
  have hqm : (q, maskR q) ∈ pre := by
    rw [← e2]
    exact List.mem_map.mpr ⟨q, hq, rfl⟩
  obtain ⟨cd, hcd, z⟩ := nb_split (hpre _ hqm)
  rw [nbe] at hcd z
  obtain ⟨k, hk, rfl⟩ := List.mem_map.mp hcd
  have lt := List.all_eq_true.mp (List.all_eq_true.mp T.lt i (List.mem_range.mpr hiN)) k hk
  rw [Bool.and_eq_true] at lt
  have l1 := of_decide_eq_true lt.1
  have l2 := of_decide_eq_true lt.2
  have hj : i ^^^ (1 <<< k) < (setsN (everyN W)).length := by omega
  rw [code _ hj, code _ hi, es] at z
  refine two_at (i := i) (j := i ^^^ (1 <<< k)) (x := s) (y := (setsN (everyN W))[i ^^^ (1 <<< k)]) (by rw [List.getElem?_eq_getElem hi, es]) (List.getElem?_eq_getElem hj) (Ne.symm l2) ?_ (agree_of z)
  rw [agR, List.all_eq_true]
  exact fun k _ => decide_eq_true rfl
theorem least_few {W : Nat} (hW : W = 1 ∨ W = 2 ∨ W = 3) {ys : List (List Str)} (hp : ys.Perm (setsS (everyS W))) {s : List Str} (hs : s ∈ ys) :
    ∃ pre ps post, rowsAll W = pre ++ ps :: post ∧ (∀ q ∈ pre, cntR (ys.map (rowB W)) (rowB W s) q ≠ 1) ∧ cntR (ys.map (rowB W)) (rowB W s) ps = 1 ∧ ps.map (fun k => (begsN W).getD k []) = (begsN W).filter (needB W s) := by
  have hs1 := hp.mem_iff.mp hs
  have hs2 := hs1
  rw [setsS_N] at hs2
  obtain ⟨sn, hsn, rfl⟩ := List.mem_map.mp hs2
  have cnt : ∀ q, cntR (ys.map (rowB W)) (rowB W (sn.map S)) q = ((setsN (everyN W)).filter fun t => agR (rowN W sn) (rowN W t) q).length := fun q => by
    unfold cntR
    rw [List.filter_map, List.length_map, (hp.filter _).length_eq, setsS_N, List.filter_map, List.length_map]
    congr 1
    refine List.filter_congr fun t _ => ?_
    show agR (rowB W (sn.map S)) (rowB W (t.map S)) q = _
    rw [row_S, row_S]
  have main : ∃ pre ps post, rowsAll W = pre ++ ps :: post ∧ ps.map (fun k => (begsN W).getD k []) = (begsN W).filter (needN W sn) ∧ ∀ q ∈ pre, ((setsN (everyN W)).filter fun t => agR (rowN W sn) (rowN W t) q).length ≠ 1 := by
    rcases hW with rfl | rfl | rfl
    · exact least_tab tab1 hsn
    · exact least_tab tab2 hsn
    · exact least_tab tab3 hsn
  obtain ⟨pre, ps, post, e1, e2, e3⟩ := main
  have e2' : ps.map (fun k => (begsN W).getD k []) = (begsN W).filter (needB W (sn.map S)) := by
    rw [e2]
    exact List.filter_congr fun b _ => need_S.symm
  refine ⟨pre, ps, post, e1, fun q hq => by rw [cnt]; exact e3 q hq, ?_, e2'⟩
  have nm := (set_iff hW).mp hs1
  unfold cntR
  rw [List.filter_map, List.length_map]
  refine one_of (hp.nodup_iff.mpr (sets_nd hW)) hs ?_ fun t ht a => ?_
  · show agR _ _ _ = true
    rw [agR, List.all_eq_true]
    exact fun k _ => decide_eq_true rfl
  · have a' : agR (rowB W (sn.map S)) (rowB W t) ps = true := a
    rw [agR, List.all_eq_true] at a'
    have tn := (set_iff hW).mp (hp.mem_iff.mp ht)
    have same : ∀ b ∈ (begsN W).filter (needB W (sn.map S)), lookB t b = lookB (sn.map S) b := fun b hb => by
      rw [← e2'] at hb
      obtain ⟨k, hk, rfl⟩ := List.mem_map.mp hb
      have q := of_decide_eq_true (a' k hk)
      rcases Nat.lt_or_ge k (begsN W).length with c | c
      · unfold rowB at q
        rw [pick_at (by rw [List.length_map]; exact c), pick_at (by rw [List.length_map]; exact c), List.getElem_map, List.getElem_map] at q
        rw [pick_at c]
        exact q
      · exfalso
        have h1 : (begsN W).getD k [] = [] := by rw [List.getD_eq_getElem?_getD, List.getElem?_eq_none c]; rfl
        have hc : rowsAll W = pre ++ ps :: post := e1
        have hm : ps ∈ rowsAll W := by rw [hc]; simp
        have bd : ((rowsAll 1).all fun p => p.all fun k => decide (k < (begsN 1).length)) = true ∧ ((rowsAll 2).all fun p => p.all fun k => decide (k < (begsN 2).length)) = true ∧ ((rowsAll 3).all fun p => p.all fun k => decide (k < (begsN 3).length)) = true := by decide +kernel
        have : k < (begsN W).length := by
          rcases hW with rfl | rfl | rfl
          · exact of_decide_eq_true (List.all_eq_true.mp (List.all_eq_true.mp bd.1 _ hm) k hk)
          · exact of_decide_eq_true (List.all_eq_true.mp (List.all_eq_true.mp bd.2.1 _ hm) k hk)
          · exact of_decide_eq_true (List.all_eq_true.mp (List.all_eq_true.mp bd.2.2 _ hm) k hk)
        omega
    have w1 : 1 ≤ W := by omega
    have fo := few_one (qs := ((begsN W).filter (needB W (sn.map S))).map fun b => (b, lookB (sn.map S) b)) w1 nm.1 nm.2 (fun q hq => by
      obtain ⟨b, hb, rfl⟩ := List.mem_map.mp hq
      exact ⟨rfl, rfl⟩) (fun l ml nl => ⟨_, List.mem_map.mpr ⟨l, List.mem_filter.mpr ⟨begs_all hW (ml.bits nm.1) ml.1, ?_⟩, rfl⟩, rfl⟩)
    · refine fo.2 t ⟨tn.1, fun q hq => ?_, tn.2⟩
      obtain ⟨b, hb, rfl⟩ := List.mem_map.mp hq
      have z := same b hb
      exact ⟨(congrArg Prod.fst z).symm, (congrArg Prod.snd z).symm⟩
    · show needB W (sn.map S) l = true
      unfold needB
      rw [nl, Bool.and_true]
      rcases ml.2 with rfl | ⟨x, hx, e⟩
      · rfl
      · rw [Bool.or_eq_true]
        exact .inr (List.any_eq_true.mpr ⟨x, hx, e⟩)
/-- what fewest tells of a set's numbers in whatever order -/
theorem few_is {W : Nat} (hW : W = 1 ∨ W = 2 ∨ W = 3) {s xs ms : List Str} {kvs : List (Str × Bool)} (hx : ∀ x, x ∈ xs ↔ x ∈ s) (hn : ∀ x ∈ s, Num W x) (hm : MetL W xs ms) (hk : ∀ y, hasK kvs y = true ↔ ReaS W xs y) : ms.filter (needF W kvs) = ((begsN W).filter (needB W s)).map S := by
  have w1 : 1 ≤ W := by omega
  have hn' : ∀ x ∈ xs, Num W x := fun x h => hn x ((hx x).mp h)
  have anyE : ∀ b, xs.any (starts b) = s.any (starts b) := fun b => by
    rw [Bool.eq_iff_iff, List.any_eq_true, List.any_eq_true]
    exact ⟨fun ⟨x, h, e⟩ => ⟨x, (hx x).mp h, e⟩, fun ⟨x, h, e⟩ => ⟨x, (hx x).mpr h, e⟩⟩
  have nE : ∀ b, needL W xs b = needL W s b := fun b => by
    unfold needL
    rw [anyE, anyE]
  have r1 : RL (ms.filter (needF W kvs)) := ⟨(sorted_pw hm.srt).filter _, hm.nd.filter _⟩
  have b1 := begs_met hW
  have r2 : RL (((begsN W).filter (needB W s)).map S) := by
    have sl : (((begsN W).filter (needB W s)).map S).Sublist ((begsN W).map S) := List.filter_sublist.map S
    exact ⟨(sorted_pw b1.srt).sublist sl, sl.nodup b1.nd⟩
  refine rl_eq r1 r2 fun y => ?_
  rw [List.mem_filter, List.mem_map]
  constructor
  · rintro ⟨h1, h2⟩
    obtain ⟨l, rfl, ml⟩ := met_lst w1 hn' ((hm.mem y).mp h1)
    refine ⟨l, List.mem_filter.mpr ⟨begs_all hW (ml.bits hn') ml.1, ?_⟩, rfl⟩
    rw [need_eq hn' hk ml.1] at h2
    unfold needB
    rw [← nE, h2, Bool.and_true, ← anyE]
    rcases ml.2 with rfl | ⟨x, hx2, e⟩
    · rfl
    · rw [Bool.or_eq_true]
      exact .inr (List.any_eq_true.mpr ⟨x, hx2, e⟩)
  · rintro ⟨l, hl, rfl⟩
    obtain ⟨hb, nb⟩ := List.mem_filter.mp hl
    unfold needB at nb
    rw [Bool.and_eq_true, ← nE, ← anyE] at nb
    have ll : l.length < W := by
      have z : (begsN 1).all (fun b => decide (b.length < 1)) = true ∧ (begsN 2).all (fun b => decide (b.length < 2)) = true ∧ (begsN 3).all (fun b => decide (b.length < 3)) = true := by decide +kernel
      rcases hW with rfl | rfl | rfl
      · exact of_decide_eq_true (List.all_eq_true.mp z.1 l hb)
      · exact of_decide_eq_true (List.all_eq_true.mp z.2.1 l hb)
      · exact of_decide_eq_true (List.all_eq_true.mp z.2.2 l hb)
    have ml : MetB W xs l := ⟨ll, by
      rw [Bool.or_eq_true] at nb
      rcases nb.1 with c | c
      · exact .inl (List.isEmpty_iff.mp c)
      · exact .inr (List.any_eq_true.mp c)⟩
    exact ⟨(hm.mem _).mpr (lst_met ml), by rw [need_eq hn' hk ll]; exact nb.2⟩
end B

set_option Elab.async false
set_option linter.all false
set_option maxRecDepth 100000
set_option maxHeartbeats 4000000
namespace B
open PySem PySem.Spec PyProof.Rows L2
open SX (S)
theorem _root_.L2.Room.u65 {k : Nat} {A : Around} (r : Room k A) : A.units + 65 < cLine := by
  have := r.un
  omega
/-! ### xs[::1], xs[::-1] -/
theorem fm_range {α : Type} (l : List α) : ∀ n, n ≤ l.length → (List.range n).filterMap (l[·]?) = l.take n
  | 0, _ => by simp
  | n + 1, h => by
    rw [List.range_succ, List.filterMap_append, fm_range l n (by omega), List.take_add_one, List.getElem?_eq_getElem (show n < l.length by omega)]
    simp [List.getElem?_eq_getElem (show n < l.length by omega)]
theorem fm_rev {α : Type} (l : List α) : ∀ n, n ≤ l.length → (List.range n).filterMap (fun k => l[l.length - 1 - k]?) = l.reverse.take n
  | 0, _ => by simp
  | n + 1, h => by
    have h2 : n < l.reverse.length := by rw [List.length_reverse]; omega
    have e : l[l.length - 1 - n]? = some l.reverse[n] := by
      rw [List.getElem_reverse, List.getElem?_eq_getElem (by omega)]
    rw [List.range_succ, List.filterMap_append, fm_rev l n (by omega), List.take_add_one, List.getElem?_eq_getElem h2]
    simp [e]
theorem pick_one (its : List Value) : slicePick its.toArray none none (some 1) = its.toArray := by
  unfold slicePick
  have e : sliceBounds none none (some 1) its.toArray.size = (0, (its.length : Int), 1) := by simp [sliceBounds]
  rw [e]
  have e2 : sliceRange 0 (its.length : Int) 1 = List.range its.length := by
    unfold sliceRange
    have : ((if (1 : Int) > 0 then (if (0 : Int) < (its.length : Int) then ((its.length : Int) - 0 + 1 - 1) / 1 else 0) else (if (0 : Int) > (its.length : Int) then ((0 : Int) - (its.length : Int) - 1 - 1) / (-1) else 0))).toNat = its.length := by
      rw [if_pos (by decide)]
      split <;> omega
    dsimp only
    rw [this]
    conv => rhs; rw [← List.map_id (List.range its.length)]
    exact List.map_congr_left fun k _ => by show ((0 : Int) + 1 * (k : Int)).toNat = k; omega
  rw [e2]
  have e3 := fm_range its its.length (Nat.le_refl _)
  rw [List.take_length] at e3
  have e5 : (fun k : Nat => its.toArray[k]?) = fun k => its[k]? := funext fun k => List.getElem?_toArray
  have e4 : (List.range its.length).filterMap (fun k => its.toArray[k]?) = its := by
    rw [e5]
    exact e3
  exact congrArg List.toArray e4
theorem pick_rev (its : List Value) : slicePick its.toArray none none (some (-1)) = its.reverse.toArray := by
  unfold slicePick
  have e : sliceBounds none none (some (-1)) its.toArray.size = ((its.length : Int) - 1, -1, -1) := by simp [sliceBounds]
  rw [e]
  have e2 : sliceRange ((its.length : Int) - 1) (-1) (-1) = (List.range its.length).map fun k => its.length - 1 - k := by
    unfold sliceRange
    have : ((if (-1 : Int) > 0 then (if ((its.length : Int) - 1) < (-1 : Int) then ((-1 : Int) - ((its.length : Int) - 1) + (-1) - 1) / (-1) else 0) else (if ((its.length : Int) - 1) > (-1 : Int) then (((its.length : Int) - 1) - (-1 : Int) - (-1) - 1) / (-(-1)) else 0))).toNat = its.length := by
      rw [if_neg (by decide)]
      split
      · rw [show (-(-1) : Int) = 1 by decide, Int.ediv_one]
        omega
      · omega
    dsimp only
    rw [this]
    exact List.map_congr_left fun k _ => by show (((its.length : Int) - 1) + (-1) * (k : Int)).toNat = _; omega
  rw [e2, List.filterMap_map]
  have e3 := fm_rev its its.length (Nat.le_refl _)
  rw [← List.length_reverse, List.take_length, List.length_reverse] at e3
  rw [← e3]
  congr 2
  funext k
  exact List.getElem?_toArray
theorem vals_rev : ∀ {xs : List V} {us : List Value}, Vals xs us → Vals xs.reverse us.reverse
  | [], [], _ => .nil
  | x :: xs, u :: us, h => by
    cases h with
    | cons r rs =>
      rw [List.reverse_cons, List.reverse_cons]
      exact (vals_rev rs).append (.cons r .nil)
section
variable {X : Cx}
def tSlS (K : PySem.W.Frag) (te ts : TE) : TE := fun σ H Q => te σ H fun x H1 => ts σ H1 fun y H2 => ∃ (a : Addr) (xs : List V) (c : Int), x = .ref a ∧ y = .int c ∧ (c = 1 ∨ c = -1) ∧ SqL K H2 a xs ∧ ∀ p, H2 p = none → Q (.ref p) (upd H2 p (.lst (if c = 1 then xs else xs.reverse)))
theorem pe_sliceS {e st : Expr} {te ts : TE} {p2 pos : Pos} (he : PE X e te) (hs : PE X st ts) : PE X (.Subscript e (.Slice none none (some st) p2) pos) (tSlS X.K te ts) := by
  refine ⟨fun pins s σ H Q I h => ?_⟩
  refine Subscript_ (thn (he.run pins s σ H _ I h) fun v s1 ⟨x, H1, I1, r1, q1⟩ => ?_)
  refine wpAny_Slice ?_
  rw [evalPart_none]
  refine wpAny_pure ?_
  refine wpAny_pure ?_
  rw [evalPart_some]
  refine thn (hs.run pins s1 σ H1 _ I1 q1) fun u s3 ⟨y, H3, I3, r3, q3⟩ => ?_
  obtain ⟨a, xs, c, rfl, rfl, hc, hx, q⟩ := q3
  obtain ⟨t, rfl⟩ := r3
  cases r1
  have I4 : Inv X pins σ H3 { s3 with heap := s3.heap.push { cls := .type "slice", data := .fields #[.none, .none, .int c t] } } := I3.kept (t' := s3.toks) fun b ob q => Heap.get?_push_of_some _ q
  obtain ⟨its, r, ht, hz⟩ := I4.list hx
  have hlen := r.length
  have e : slicePick its.toArray none none (some c) = (if c = 1 then its else its.reverse).toArray := by
    rcases hc with rfl | rfl
    · exact pick_one its
    · exact pick_rev its
  have rr : Vals (if c = 1 then xs else xs.reverse) (if c = 1 then its else its.reverse) := by
    by_cases h : c = 1
    · rw [if_pos h, if_pos h]
      exact r
    · rw [if_neg h, if_neg h]
      exact vals_rev r
  have lr : (if c = 1 then xs else xs.reverse).length = xs.length := by
    by_cases h : c = 1
    · rw [if_pos h]
    · rw [if_neg h, List.length_reverse]
  refine tail_any (ops := [.ref a, .ref s3.heap.objs.size]) (T := "list") ht.isList.typeIs slot_list_getitem.lookup ?_ (by with_unfolding_all rfl)
  refine wpAny_getItem_list_slice ht.isList (Heap.IsSliceOf.new ..) .none .none (.int c t) (by rcases hc with rfl | rfl <;> simp) ?_ (by rw [List.size_toArray]; omega)
  rw [e]
  refine ⟨.ref _, _, I4.laid (t' := s3.toks) (o := .lst (if c = 1 then xs else xs.reverse)) (fun b ob q => Heap.get?_push_of_some _ q) (Nat.le_refl _) ?_, rfl, q _ (I4.hok.fresh (Nat.le_refl _))⟩
  exact ⟨by rw [lr]; exact hz, _, 0, rr, Heap.get?_push_size _ rfl⟩
end
end B

set_option Elab.async false
set_option linter.all false
set_option maxRecDepth 100000
set_option maxHeartbeats 4000000
namespace B
open PySem PySem.Spec PyProof.Rows L2
open SX (S)
theorem every_len : ∀ n : Nat, (everyN n).length = 2 ^ n
  | 0 => rfl
  | n + 1 => by
    show ((everyN n).flatMap fun l => [l ++ [48], l ++ [49]]).length = _
    rw [List.length_flatMap]
    have : (everyN n).map (fun l => ([l ++ [48], l ++ [49]] : List (List Nat)).length) = (everyN n).map fun _ => 2 := List.map_congr_left fun _ _ => rfl
    rw [this, List.map_const', every_len n, Nat.pow_succ]
    have r : ∀ m : Nat, (List.replicate m 2).sum = m * 2 := fun m => by
      induction m with
      | zero => rfl
      | succ m ih => rw [List.replicate_succ, List.sum_cons, ih]; omega
    exact r _
theorem every_succ (n : Nat) : everyS (n + 1) = (everyS n).flatMap fun x : Str => ([x ++ ("0" : Str), x ++ ("1" : Str)] : List Str) := by
  show ((everyN n).flatMap fun l => [l ++ [48], l ++ [49]]).map S = _
  rw [List.map_flatMap]
  unfold everyS
  rw [List.flatMap_map]
  congr 1
  funext l
  show [S (l ++ [48]), S (l ++ [49])] = _
  rw [← SX.S_cat, ← SX.S_cat]
  rfl
theorem every_l : ∀ {n : Nat} {m : List Nat}, m ∈ everyN n → m.length = n
  | 0, m, h => by rw [List.mem_singleton.mp h]; rfl
  | n + 1, m, h => by
    obtain ⟨l, hl, z⟩ := List.mem_flatMap.mp h
    have e := every_l hl
    rcases List.mem_cons.mp z with rfl | z
    · rw [List.length_append, e]; rfl
    · rw [List.mem_singleton.mp z, List.length_append, e]; rfl
theorem every_lS {n : Nat} {x : Str} (h : x ∈ everyS n) : x.length = n := by
  obtain ⟨m, hm, rfl⟩ := List.mem_map.mp h
  rw [SX.S_len]
  exact every_l hm
theorem flat_len : ∀ xs : List Str, (xs.flatMap fun x : Str => ([x ++ ("0" : Str), x ++ ("1" : Str)] : List Str)).length ≤ xs.length * 2
  | [] => by simp
  | x :: r => by
    rw [List.flatMap_cons, List.length_append]
    have := flat_len r
    show 2 + _ ≤ (r.length + 1) * 2
    omega
section
variable {P : Program} {w : World} {K : PySem.W.Frag} {mg : Str → Option Value} {base : Heap}
def spEvery (K : PySem.W.Frag) : Sp := fun vs H Q _ => ∃ (W : Nat), vs = [.int W] ∧ W ≤ 8 ∧ ∀ (p : Addr) (H' : Hp), H p = none → H' p = some (.lst ((everyS W).map V.str)) → Frm [] H H' → Q (.ref p) H'
theorem c_levery (T : Txt P w K mg base) : CalX CX0 P w K mg base 1 "_law_every" (spEvery K) := by
  obtain ⟨fd, F⟩ := T.t.def_ 24 (d := d_levery)
  refine ⟨_, fd, _, F.ok sc_levery (fun vs H Q E h => ?_) (fun cdv A outer s H vs Q E hr h => ?_), He.glo_ok T.X T.G (T.t.fact 24), F.kp, F.bindsN fun _ _ _ _ _ _ us hl => match us, hl with | [_], _ => rfl⟩
  · obtain ⟨W, rfl, _⟩ := h
    rfl
  · obtain ⟨W, rfl, hW, k⟩ := h
    refine ⟨_, PSs.nox (pss_cons (ps_set (i := 1) sc_levery.nd rfl (Or.inl rfl) (pe_lst (pa_cons pe_str pa_nil)))
    (pss_cons (ps_for PassesOwn.never rfl (pi_range1 rfl (n_range T) (pa_cons (pv 0) pa_nil)) (pg_name (i := 2) sc_levery.nd rfl (Or.inl rfl))
      (pss_cons (ps_set (i := 3) sc_levery.nd rfl (Or.inl rfl) (pe_lst pa_nil))
      (pss_cons (ps_for PassesOwn.never rfl (pi_list (pv 1)) (pg_name (i := 4) sc_levery.nd rfl (Or.inl rfl))
        (pss_one (ps_set (i := 3) sc_levery.nd rfl (Or.inl rfl) (pe_op op_cat (pv 3) (pe_lst (pa_cons (pe_op op_add_str (pv 4) pe_str) (pa_cons (pe_op op_add_str (pv 4) pe_str) pa_nil)))))))
      (pss_one (ps_set (i := 1) sc_levery.nd rfl (Or.inl rfl) (pv 3))))))
    (pss_one (ps_ret (pv 1))))), ?_⟩
    refine ⟨by show 1 ≤ sizeLine; decide, fun p0 hp0 => ?_⟩
    refine ⟨_, rfl, (W : Int), rfl, by omega, by omega, for_range (lo := 0) (n := (W : Int).toNat) (fun i σ H' => ∃ (p : Addr) (v2 v3 v4 : Option V), σ = [some (.int W), some (.ref p), v2, v3, v4] ∧ H p = none ∧ H' p = some (.lst ((everyS i).map V.str)) ∧ Frm [] H H')
      ⟨p0, none, none, none, rfl, hp0, upd_same, Frm.of (same_upd hp0)⟩ ?_ ?_⟩
    · rintro i σ H1 hi ⟨p, v2, v3, v4, rfl, hp, e1, f1⟩
      have hl : (everyS i).length ≤ 256 := by
        unfold everyS
        rw [List.length_map, every_len]
        exact Nat.le_trans (Nat.pow_le_pow_right (by decide) (show i ≤ 8 by omega)) (by decide)
      refine ⟨Nat.zero_le _, fun q hq => ?_⟩
      have g1 : Frm [] H1 (upd H1 q (.lst [])) := Frm.of (same_upd hq)
      refine ⟨_, rfl, p, rfl, ⟨_, SqL.of (g1.k _ _ e1 rfl (by simp))⟩, for_list (K := K) (a := p) (xs := (everyS i).map V.str) (fun j σ H' => ∃ (r : Addr) (v4 : Option V), σ = [some (.int W), some (.ref p), some (.int (0 + (i : Int))), some (.ref r), v4] ∧ H1 r = none ∧ H' r = some (.lst ((((everyS i).take j).flatMap fun x : Str => ([x ++ ("0" : Str), x ++ ("1" : Str)] : List Str)).map V.str)) ∧ Frm [] H1 H')
        ⟨q, v4, rfl, hq, upd_same, g1⟩ (fun j σ H' _ ⟨_, _, _, _, _, f⟩ => SqL.of (f.k _ _ e1 rfl (by simp))) ?_ ?_⟩
      · rintro j y σ H2 hj ⟨r, v4, rfl, hr0, e2, f2⟩
        obtain ⟨x, hx, rfl⟩ := at_map hj
        have lx := every_lS (List.mem_of_getElem? hx)
        have lj : ((((everyS i).take j).flatMap fun x : Str => ([x ++ ("0" : Str), x ++ ("1" : Str)] : List Str)).map V.str).length ≤ 512 := by
          rw [List.length_map]
          exact Nat.le_trans (flat_len ((everyS i).take j)) (by rw [List.length_take]; omega)
        refine ⟨_, rfl, _, rfl, x, "0", rfl, rfl, size12 (by rw [lx]; show i + 1 ≤ 100; omega), _, rfl, x, "1", rfl, rfl, size12 (by rw [lx]; show i + 1 ≤ 100; omega), by show 2 ≤ sizeLine; decide, fun d hd => ⟨r, d, _, _, rfl, rfl, same_upd hd _ _ e2, upd_same, Nat.le_trans (show _ + 2 ≤ 514 by omega) (by decide), fun t ht => ?_⟩⟩
        have f3 : Frm [] H2 (upd (upd H2 d (.lst [.str (x ++ "0"), .str (x ++ "1")])) t (.lst (((((everyS i).take j).flatMap fun x : Str => ([x ++ ("0" : Str), x ++ ("1" : Str)] : List Str)).map V.str) ++ [.str (x ++ "0"), .str (x ++ "1")]))) := (Frm.of (same_upd hd)).trans (Frm.of (same_upd ht))
        refine ⟨t, _, rfl, f2.b _ (upd_back ht), ?_, f2.trans f3⟩
        rw [upd_same, take_snoc hx, List.flatMap_append, List.map_append]
        rfl
      · rintro σ H2 ⟨r, v4', rfl, hr0, e2, f2⟩
        rw [List.length_map, List.take_length, ← every_succ] at e2
        exact ⟨_, rfl, r, _, _, _, rfl, f1.b _ hr0, e2, f1.trans f2⟩
    · rintro σ H1 ⟨p, v2, v3, v4, rfl, hp, e1, f1⟩
      exact ⟨_, rfl, k p H1 hp e1 f1⟩
theorem sets_take {xs : List Str} {i : Nat} {x : Str} (h : xs[i]? = some x) : setsS (xs.take (i + 1)) = setsS (xs.take i) ++ (setsS (xs.take i)).map (· ++ [x]) := by
  unfold setsS
  rw [take_snoc h, List.foldl_append]
  rfl
theorem sets_len (xs : List Str) : (setsS xs).length = 2 ^ xs.length := by
  have go : ∀ (xs : List Str) (F : List (List Str)), (xs.foldl (fun F x => F ++ F.map (· ++ [x])) F).length = F.length * 2 ^ xs.length := by
    intro xs
    induction xs with
    | nil => exact fun F => by simp
    | cons x r ih =>
      intro F
      rw [List.foldl_cons, ih, List.length_append, List.length_map, List.length_cons, Nat.pow_succ]
      rw [← Nat.two_mul, Nat.mul_comm 2, Nat.mul_assoc, Nat.mul_comm 2]
  have := go xs [[]]
  rw [show ([[]] : List (List Str)).length = 1 from rfl, Nat.one_mul] at this
  exact this
theorem SZ.snoc {H H' : Hp} {D t : Addr} {us : List (Addr × List Str)} {s : List Str} (h : SZ H D us) (f : Frm [] H H') (et : H' t = some (.lst (s.map V.str))) (nt : t ≠ D) (nD : ∀ u ∈ us, u.1 ≠ D) : SZ (upd H' D (.lst ((us.map fun z => V.ref z.1) ++ [.ref t]))) D (us ++ [(t, s)]) := by
  refine ⟨by rw [upd_same, List.map_append]; rfl, fun z hz => ?_⟩
  rcases List.mem_append.mp hz with c | c
  · rw [upd_ne (nD z c)]
    exact f.k _ _ (h.2 z c) rfl (by simp)
  · rw [List.mem_singleton.mp c, upd_ne nt]
    exact et
theorem dp_sets {K : PySem.W.Frag} {H : Hp} : ∀ {zs : List (Addr × List Str)}, (∀ z ∈ zs, H z.1 = some (.lst (z.2.map V.str))) → DpAll K H (zs.map fun z => V.ref z.1) ((zs.map (·.2)).map fun s => .list (s.map .str))
  | [], _ => .nil
  | z :: r, h => .cons (.lst (SqL.of (h z (by simp))) (dp_strs z.2)) (dp_sets fun y hy => h y (by simp [hy]))
theorem al_strs' : ∀ a b : List Str, PySem.W.alikeAll (a.map .str) (b.map .str) = true
  | [], _ => by simp [PySem.W.alikeAll]
  | _ :: _, [] => by simp [PySem.W.alikeAll]
  | x :: a, y :: b => by simp [PySem.W.alikeAll, PySem.W.alike, al_strs' a b]
theorem al_sets (ss : List (List Str)) : PySem.W.AllAlike (ss.map fun s => PyData.list (s.map .str)) := fun d hd d' hd' => by
  obtain ⟨s, _, rfl⟩ := List.mem_map.mp hd
  obtain ⟨t, _, rfl⟩ := List.mem_map.mp hd'
  show PySem.W.alikeAll _ _ = true
  exact al_strs' s t
theorem depth_strs (s : List Str) : (PyData.list (s.map .str)).depth ≤ 2 := by
  have h : ∀ s : List Str, PyData.depthAll (s.map .str) ≤ 1 := fun s => by
    induction s with
    | nil => exact Nat.zero_le _
    | cons x r ih =>
      rw [List.map_cons]
      show max (PyData.depth (.str x)) (PyData.depthAll (r.map .str)) ≤ 1
      exact Nat.max_le.mpr ⟨by simp [PyData.depth], ih⟩
  have := h s
  show PyData.depthAll (s.map .str) + 1 ≤ 2
  omega
theorem perm_map {α β : Type} {f : α → β} : ∀ {l : List α} {m : List β}, m.Perm (l.map f) → ∃ l' : List α, l'.Perm l ∧ m = l'.map f := by
  intro l m p
  generalize e : l.map f = n at p
  induction p generalizing l with
  | nil =>
    have : l = [] := List.map_eq_nil_iff.mp e
    exact ⟨[], by rw [this], rfl⟩
  | cons x p ih =>
    obtain ⟨a, r, rfl, e1, e2⟩ := List.map_eq_cons_iff.mp e
    obtain ⟨l', q, e3⟩ := ih e2
    exact ⟨a :: l', q.cons a, by rw [List.map_cons, e1, e3]⟩
  | swap x y l1 =>
    obtain ⟨a, r, rfl, e1, e2⟩ := List.map_eq_cons_iff.mp e
    obtain ⟨b, r2, rfl, e3, e4⟩ := List.map_eq_cons_iff.mp e2
    exact ⟨b :: a :: r2, .swap _ _ _, by rw [List.map_cons, List.map_cons, e1, e3, e4]⟩
  | trans p1 p2 i1 i2 =>
    obtain ⟨l1, q1, e1⟩ := i2 e
    obtain ⟨l2, q2, e2⟩ := i1 e1.symm
    exact ⟨l2, q2.trans q1, e2⟩
def spSets (K : PySem.W.Frag) : Sp := fun vs H Q _ => ∃ (p : Addr) (xs : List Str), vs = [.ref p] ∧ H p = some (.lst (xs.map V.str)) ∧ xs.length ≤ 8 ∧
  ∀ (q : Addr) (zs : List (Addr × List Str)) (H' : Hp), H q = none → SZ H' q zs → (zs.map (·.2)).Perm (setsS xs) → Frm [] H H' → Q (.ref q) H'
theorem c_lsets (T : Txt P w K mg base) : CalX CX0 P w K mg base 1 "_law_sets" (spSets K) := by
  obtain ⟨fd, F⟩ := T.t.def_ 23 (d := d_lsets)
  refine ⟨_, fd, _, F.ok sc_lsets (fun vs H Q E h => ?_) (fun cdv A outer s H vs Q E hr h => ?_), He.glo_ok T.X T.G (T.t.fact 23), F.kp, F.bindsN fun _ _ _ _ _ _ us hl => match us, hl with | [_], _ => rfl⟩
  · obtain ⟨p, xs, rfl, _⟩ := h
    rfl
  · obtain ⟨p, xs, rfl, hp, hl, k⟩ := h
    refine ⟨_, PSs.nox (pss_cons (ps_set (i := 1) sc_lsets.nd rfl (Or.inl rfl) (pe_lst (pa_cons (pe_lst pa_nil) pa_nil)))
    (pss_cons (ps_for PassesOwn.never rfl (pi_list (pv 0)) (pg_name (i := 2) sc_lsets.nd rfl (Or.inr rfl))
      (pss_one (ps_set (i := 1) sc_lsets.nd rfl (Or.inl rfl) (pe_op op_cat (pv 1) (pe_lc (own := [("_law_one", 3)]) (g := gName 3) rfl sc_lsets.nd (pi_list (pv 1)) (blkOk_by (N := ["_law_numbers", "_law_found", "_law_number_here", "_law_one"]) (sc := defScope s_lsets) (own := [("_law_one", 3)]) (by decide +kernel)) (fun _ _ _ _ _ => pg_name (i := 3) sc_lsets.nd rfl (Or.inl rfl)) (fun _ _ _ _ _ => pts_nil) (fun _ _ _ _ _ => by exact (pe_op op_cat (pv 3) (pe_lst (pa_cons (pv 2) pa_nil)))))))))
    (pss_one (ps_ret (pe_callB (cr_sortedD hr.u65) (by rfl) (n_sorted T) (by decide +kernel) (pa_cons (pv 1) pa_nil)))))), ?_⟩
    refine ⟨Nat.zero_le _, fun p1 hp1 => ⟨by show 1 ≤ sizeLine; decide, fun p2 hp2 => ?_⟩⟩
    have g0 : Frm [] H (upd (upd H p1 (.lst [])) p2 (.lst [.ref p1])) := (Frm.of (same_upd hp1)).trans (Frm.of (same_upd hp2))
    refine ⟨_, rfl, p, rfl, ⟨_, SqL.of (g0.k _ _ hp rfl (by simp))⟩, for_list (K := K) (a := p) (xs := xs.map V.str) (fun i σ H' => ∃ (pf : Addr) (v2 v3 : Option V) (zs : List (Addr × List Str)), σ = [some (.ref p), some (.ref pf), v2, v3] ∧ H pf = none ∧ SZ H' pf zs ∧ zs.map (·.2) = setsS (xs.take i) ∧ Frm [] H H')
      ⟨p2, none, none, [(p1, [])], rfl, upd_back hp2, ⟨upd_same, fun z hz => by rw [List.mem_singleton.mp hz]; exact same_upd hp2 _ _ upd_same⟩, rfl, g0⟩ (fun i σ H' _ ⟨_, _, _, _, _, _, _, _, f⟩ => SqL.of (f.k _ _ hp rfl (by simp))) ?_ ?_⟩
    · rintro i y σ H1 hi ⟨pf, v2, v3, zs, rfl, hpf, sz, es, f1⟩
      obtain ⟨x, hx, rfl⟩ := at_map hi
      have hi2 := (List.getElem?_eq_some_iff.mp hx).1
      have zl : zs.length ≤ 128 := by
        have := congrArg List.length es
        rw [List.length_map, sets_len, List.length_take] at this
        rw [this]
        exact Nat.le_trans (Nat.pow_le_pow_right (by decide) (show min i xs.length ≤ 7 by omega)) (by decide)
      refine ⟨_, rfl, _, rfl, pf, rfl, ⟨_, SqL.of sz.1⟩, fun D hD => ?_⟩
      have gD : Frm [] H1 (upd H1 D (.lst [])) := Frm.of (same_upd hD)
      refine lc_list (K := K) (a := pf) (xs := zs.map fun z => V.ref z.1) (fun j H' => ∃ us : List (Addr × List Str), SZ H' D us ∧ us.map (·.2) = ((zs.take j).map (·.2)).map (· ++ [x]) ∧ (∀ u ∈ us, u.1 ≠ D) ∧ Frm [] H1 H')
        ⟨[], ⟨upd_same, fun z hz => absurd hz (by simp)⟩, rfl, fun u hu => absurd hu (by simp), gD⟩ (fun j H' _ ⟨_, _, _, _, f⟩ => SqL.of (f.k _ _ sz.1 rfl (by simp))) ?_ ?_
      · rintro j y H2 hj ⟨us, su, eu, nu, f2⟩
        obtain ⟨z, hz, rfl⟩ := at_sz hj
        have hz2 := f2.k _ _ (sz.2 z (List.mem_of_getElem? hz)) rfl (by simp)
        have hj2 := (List.getElem?_eq_some_iff.mp hz).1
        have zx : z.2.length ≤ 8 := by
          have m : z.2 ∈ setsS (xs.take i) := by
            rw [← es]
            exact List.mem_map.mpr ⟨z, List.mem_of_getElem? hz, rfl⟩
          have := (mem_sets.mp m).length_le
          rw [List.length_take] at this
          omega
        have lu : us.length ≤ 128 := by
          have := congrArg List.length eu
          rw [List.length_map, List.length_map, List.length_map, List.length_take] at this
          omega
        refine ⟨rfl, _, rfl, _, rfl, by show 1 ≤ sizeLine; decide, fun t1 ht1 => ⟨z.1, t1, _, _, rfl, rfl, same_upd ht1 _ _ hz2, upd_same, ?_, fun t ht => ?_⟩⟩
        · rw [List.length_map]
          exact size12 (by show z.2.length + 1 ≤ 100; omega)
        have f3 : Frm [] H2 (upd (upd H2 t1 (.lst [.str x])) t (.lst (z.2.map V.str ++ [.str x]))) := (Frm.of (same_upd ht1)).trans (Frm.of (same_upd ht))
        have eD := f3.k _ _ su.1 rfl (by simp)
        have nt : t ≠ D := Ne.symm (ne_of_none (same_upd ht1 _ _ su.1) ht)
        refine ⟨_, eD, by rw [List.length_map]; exact small1000 (by omega), us ++ [(t, z.2 ++ [x])], su.snoc f3 (by rw [upd_same, List.map_append]; rfl) nt nu, ?_, fun u hu => ?_, (f2.trans f3).new hD⟩
        · rw [List.map_append, eu, take_snoc hz, List.map_append, List.map_append]
          rfl
        · rcases List.mem_append.mp hu with c | c
          · exact nu u c
          · rw [List.mem_singleton.mp c]
            exact nt
      · rintro H2 ⟨us, su, eu, nu, f2⟩
        rw [List.length_map, List.take_length] at eu
        have lu : us.length ≤ 128 := by
          have := congrArg List.length eu
          rw [List.length_map, List.length_map, List.length_map] at this
          omega
        have sz2 := sz.keep f2
        refine ⟨pf, D, _, _, rfl, rfl, sz2.1, su.1, by rw [List.length_map, List.length_map]; exact Nat.le_of_lt (small1000 (by omega)), fun t ht => ?_⟩
        have g3 : Frm [] H2 (upd H2 t (.lst ((zs.map fun z => V.ref z.1) ++ us.map fun z => V.ref z.1))) := Frm.of (same_upd ht)
        refine ⟨t, _, _, zs ++ us, rfl, f1.b _ (f2.b _ ht), ⟨by rw [upd_same, List.map_append], fun z hz => ?_⟩, ?_, f1.trans (f2.trans g3)⟩
        · rcases List.mem_append.mp hz with c | c
          · exact g3.k _ _ (sz2.2 z c) rfl (by simp)
          · exact g3.k _ _ (su.2 z c) rfl (by simp)
        · rw [List.map_append, sets_take hx, eu, es]
    · rintro σ H1 ⟨pf, v2, v3, zs, rfl, hpf, sz, es, f1⟩
      rw [List.length_map, List.take_length] at es
      have ok : ∀ s ∈ zs.map (·.2), s.length ≤ 8 := fun s hs => by
        rw [es] at hs
        exact Nat.le_trans (mem_sets.mp hs).length_le hl
      refine ⟨_, rfl, pf, _, (zs.map (·.2)).map fun s => .list (s.map .str), rfl, SqL.of sz.1, ?_, ?_, ?_, ?_, fun ys q py hq => ?_⟩
      · exact dp_sets sz.2
      · exact al_sets _
      · refine .inr fun d hd => ?_
        obtain ⟨s, _, rfl⟩ := List.mem_map.mp hd
        exact ⟨(fun e => by cases e), fun _ e => by cases e⟩
      · intro d hd
        obtain ⟨s, _, rfl⟩ := List.mem_map.mp hd
        exact Nat.le_trans (depth_strs s) (by decide)
      · have g3 : Frm [] H1 (upd H1 q (.lst ys)) := Frm.of (same_upd hq)
        obtain ⟨zs2, p2, rfl⟩ := perm_map py
        exact k q zs2 _ (f1.b _ hq) ⟨upd_same, fun z hz => g3.k _ _ (sz.2 z (p2.mem_iff.mp hz)) rfl (by simp)⟩ (by rw [← es]; exact p2.map _) (f1.trans g3)
end
end B

set_option Elab.async false
set_option linter.all false
set_option maxRecDepth 100000
set_option maxHeartbeats 4000000
namespace B
open PySem PySem.Spec PyProof.Rows L2
/-! ### any, all of a generator expression with captures, over whatever is walked, its element any expression that doesn't raise -/
/-- the context of the element, run from the frames X.stack in a frame of its own -/
abbrev gexCx (X : Cx) (A : Around) (s : Shared) (H : Hp) (ce : Env) (fp : List Addr) : Cx :=
  { X with A := A, s_0 := s, H_0 := H, env := ce, outer := X.stack, stack := ce :: X.stack, ex := fp, fn := fun _ => false, calm := true, pn := [], xe := fun _ _ => False }
abbrev gexEnv (X : Cx) (scope : Scope) (C : Addr) (code : Value) (bi : Addr) : Env := genEnv scope (cloFrom X.env.cells scope.names []) C code bi X.env
section
variable {X : Cx} {pins : List (Addr × Obj)} {σ : L2.St} {H : Hp} {s : Shared}
theorem gex_start {A : Around} {scope : Scope} {own : List (Str × Nat)} {fp : List Addr} {code : Value} {h' : Heap} {g' : Array GenState} {tk : Nat} {m : Str → Option Value} (I : Inv X pins σ H s) (hN : X.N.Nodup) (ok : BlkOk X.N X.env.scope scope own) (hcell : ∀ y ∈ scope.names, y.2 ≠ .cell) (hfp : ∀ b ∈ fp, FpOk X pins H b ∧ b < s.heap.objs.size)
    (hd : A.handled = none) (hfr : A.frames = some (gexEnv X scope s.heap.objs.size code builtinsNs :: X.stack)) (kp : ∀ b o, s.heap.get? b = some o → h'.get? b = some o) (hns : h'.Ns s.heap.objs.size m) (hg : AllBare g') :
    Inv (gexCx X A s H (gexEnv X scope s.heap.objs.size code builtinsNs) fp) [] (wipe σ (own.map (·.2))) H { s with heap := h', gens := g', toks := tk } := by
  have hfree : ∀ y ∈ scope.names, y.2 = .free → ∃ c, X.env.cells.lookup y.1 = some c := fun y hy e => by
    rcases ok.free y hy e with k | k
    · exact I.ok.has _ (.inl k)
    · exact I.ok.has _ (.inr k)
  have cm : ∀ {y c}, (cloFrom X.env.cells scope.names []).lookup y = some c → X.env.cells.lookup y = some c := fun {y c} e => by
    rcases cloFrom_mem (PySem.mem_of_lookup e) with hm | ⟨h1, h2⟩
    · cases hm
    · obtain ⟨c1, hc⟩ := hfree _ h1 rfl
      have hc : X.env.cells.lookup y = some c1 := hc
      have e2 : c = c1 := by
        rw [h2, hc] <;> rfl
      rw [e2]
      exact hc
  have look : ∀ {y}, scope.names.lookup y = some .free → ∃ c, (cloFrom X.env.cells scope.names []).lookup y = some c := fun {y} hl => by
    have hy : (y, NameKind.free) ∈ scope.names := PySem.mem_of_lookup hl
    exact mem_lookup (cloFrom_has (cells := X.env.cells) (acc := []) hy)
  have cellK : ∀ {c : Addr} {v : Option Value}, s.heap.IsCell c v → h'.IsCell c v := fun {c v} z => by
    obtain ⟨o, ho, hd⟩ := z
    exact ⟨o, kp _ _ ho, hd⟩
  refine ⟨⟨I.ok.mod, ok.kind, I.ok.glob, rfl, Nat.le_refl _, fun y z c e1 e2 => I.ok.inj y z c (cm e1) (cm e2), fun y hy => ?_, fun y c z _ => ?_, fun _ => hd, hfr, .inr ⟨rfl, rfl⟩, fun b hb => ⟨Nat.ne_of_lt (hfp b hb).2, fun y c e => (hfp b hb).1.2.2.2.2.1 y c (cm e)⟩, I.bs, Nat.le_trans I.ok.bsz I.sz, fun b o e hb => ?_, fun b hb z => ?_, I.stack, I.stkFree⟩,
    rfl, hg, Un.kept kp, ⟨_, hns, fun i y v e1 e2 e3 => ?_⟩, fun y c e => ?_, I.hok.fresh (Nat.le_refl _), fun y c e => I.freeC y c (cm e), fun q hq => absurd (show q ∈ ([] : List (Addr × Obj)) ++ [] from hq) (by simp), I.hok.kept kp, by rw [wipe_length]; exact I.len⟩
  · have hy : scope.names.lookup y = some .cell ∨ scope.names.lookup y = some .free := hy
    rcases hy with hy | hy
    · exact absurd rfl (hcell _ (PySem.mem_of_lookup hy))
    · exact look hy
  · have z : false = true := z
    cases z
  · rcases (hfp b hb).1.2.2.2.1 with z | z
    · exact I.ok.noex b o e z
    · exact absurd (Nat.lt_of_lt_of_le (Heap.lt_size e) (Nat.le_trans I.ok.bsz z)) (Nat.lt_irrefl _)
  · rcases List.mem_cons.mp (I.stkSub b z) with z | z
    · exact (hfp b hb).1.2.1 z
    · exact (hfp b hb).1.2.2.1 z
  · have e3 : Vis scope y := e3
    obtain ⟨e2', hni⟩ := wipe_some e2
    have out : scope.names.lookup y = some .local → False := fun hl => by
      rcases ok.own _ (PySem.mem_of_lookup hl) (.inl rfl) with hm | hm
      · obtain ⟨p, hp, rfl⟩ := List.mem_map.mp hm
        have := nodup_ix hN (ok.ix p hp) e1
        exact hni (List.mem_map.mpr ⟨p, hp, this⟩)
      · exact hm (List.mem_of_getElem? e1)
    rcases e3 with k | k | k
    · exact (out k).elim
    · exact absurd rfl (hcell _ (PySem.mem_of_lookup k))
    · obtain ⟨m1, hn1, hl⟩ := I.loc
      have hvis : Vis X.env.scope y := (ok.free _ (PySem.mem_of_lookup k) rfl).elim (fun k => .inr (.inl k)) (fun k => .inr (.inr k))
      obtain ⟨w', r, q⟩ := hl i y v e1 e2' hvis
      obtain ⟨c2, h2⟩ := look k
      refine ⟨w', r, .inr ⟨.inr k, c2, h2, ?_⟩⟩
      have c1 := cm h2
      rcases q with ⟨k', _⟩ | ⟨_, c3, e', z⟩
      · have k' : X.env.scope.names.lookup y = some .local := k'
        rcases ok.free _ (PySem.mem_of_lookup k) rfl with k2 | k2 <;> rw [show X.env.scope.names.lookup y = _ from k2] at k' <;> cases k'
      · rw [c1] at e'
        cases e'
        exact cellK z
  · obtain ⟨w', z⟩ := I.cell y c (cm e)
    exact ⟨w', cellK z⟩
end

/-! ### the generator's own run -/
theorem inv_gens {X : Cx} {pins : List (Addr × Obj)} {σ : L2.St} {H : Hp} {s s' : Shared} (I : Inv X pins σ H s) (hh : s'.heap = s.heap) (ho : s'.os = s.os) (hg : AllBare s'.gens) : Inv X pins σ H s' := by
  obtain ⟨h', g', d', t', o'⟩ := s'
  cases hh
  cases ho
  exact ⟨I.ok, I.os, hg, I.base, I.loc, I.cell, I.free, I.freeC, I.pin, I.hok, I.len⟩
theorem over_gl {A : Around} {elt : Expr} {gs : List Comprehension} {scope : Scope} {pos : Pos} {it acc : Value} {ce : Env} : A.over (.compLoop (.GeneratorExp elt gs scope pos) 0 it acc ce) [] = A.deeper ce := by
  obtain ⟨hd, d, fr, gs, u⟩ := A
  first
    | rfl
    | (simp [Around.over, Around.deeper, marksOver, frameCount, unitsOf, envsOf, guardsOf, pushEnvs, pushGuards, Code.envs, Code.env?, Code.isFrame, Code.guards, Code.isGuard, Code.weight, Code.frames, Code.isCreation, Code.isCaller, Code.cUnits]; done)
theorem over_gs {A : Around} {elt : Expr} {gs : List Comprehension} {scope : Scope} {pos : Pos} {it acc : Value} {ce : Env} : A.over (.compStart (.GeneratorExp elt gs scope pos) 0 it acc ce) [] = A.deeper ce := by
  obtain ⟨hd, d, fr, gs, u⟩ := A
  first
    | rfl
    | (simp [Around.over, Around.deeper, marksOver, frameCount, unitsOf, envsOf, guardsOf, pushEnvs, pushGuards, Code.envs, Code.env?, Code.isFrame, Code.guards, Code.isGuard, Code.weight, Code.frames, Code.isCreation, Code.isCaller, Code.cUnits]; done)
theorem seg_go {M : Model} {A A' : Around} {R : GenEnd} {Y : Protocol} {n g : Nat} {s₀ : Shared} {c : Code} {s : Shared} {α β : Type} {m : Sem α} {K : α → Sem β} {K' : β → Sem Fin} {H' : Value → Sem Fin} {gd lv}
    (hA : A.over c [] = A') (hg : g < s.gens.size) (h : wpAny M A' m (fun a s' => g < s'.gens.size → Seg M A R Y n s₀ c ((K a).wrap K' H' gd lv) [] s') (fun _ _ => False) s) : Seg M A R Y n s₀ c ((m >>= K).wrap K' H' gd lv) [] s := by
  refine seg_bind_wrap ?_
  rw [hA]
  exact GenW.wpAny_gsz (n := g + 1) hg (wpAny_mono h (fun a s' q hs => q hs) fun _ _ z => z.elim)
/-- what the generator answers: its end, an element -/
def RdG (Y : Cx) (a : Addr) (oA : Obj) (σ' : L2.St) (g : Nat) (Q : VK) (b : Bool) (s₁ : Shared) : Prop := ∃ H', Inv Y [(a, oA)] σ' H' s₁ ∧ Q (.bl (!b)) H' ∧ g < s₁.gens.size
abbrev RgG (Y : Cx) (a : Addr) (oA : Obj) (σ' : L2.St) (g : Nat) (Q : VK) (b : Bool) : GenEnd := fun _ _ r s₁ => r = .ok .next ∧ RdG Y a oA σ' g Q b s₁
def YpG (Y : Cx) (a : Addr) (oA : Obj) (σ' : L2.St) (g : Nat) (Q : VK) (b : Bool) : Protocol := fun _ _ v s₁ kap =>
  ∃ bb H', v = .bool bb ∧ Inv Y [(a, oA)] σ' H' s₁ ∧ g < s₁.gens.size ∧ (bb = b → Q (.bl b) H') ∧ (bb ≠ b → ∀ s'' : Shared, s''.heap = s₁.heap → s''.os = s₁.os → AllBare s''.gens → g < s''.gens.size → kap (.send .none) s'')
theorem seg_anyG {Y : Cx} {AG : Around} {a it : Addr} {oA : Obj} {σ : L2.St} {own : List (Str × Nat)} {g : Nat} {Q : VK} {b : Bool} {tg iter elt : Expr} {scope : Scope} {pos : Pos} {J : It} {fp : List Addr} {tn : Nat → Heap → Prop} {gt : TG} {te : TE} {W : Nat → Nat → Hp → Prop}
    (hA : Y.A = AG.deeper Y.env) (hxe : Y.xe = fun _ _ => False) (hcalm : Y.calm = true) (hco : Y.env.scope.isCoroutine = false) (T : Turn Y.prog Y.w Y.K tg J fp it tn) (hfpa : ∀ c ∈ fp, a ≠ c) (hex : ∀ c ∈ fp, c ∈ Y.ex) (hpn : Y.pn = [])
    (pg : PG Y tg gt) (pe : PE Y elt te)
    (turn : ∀ i m H, W i m H → (J.stop i H ∧ Q (.bl (!b)) H) ∨ (J.go i H ∧ ∃ Nx : Hp → Prop, (∀ H', Nx H' → ∃ m', m' < m ∧ W (i + 1) m' H') ∧ ∀ x H', J.yld i H x H' → gt x (wipe σ (own.map (·.2))) H' fun σ2 H2 => wipe σ2 (own.map (·.2)) = wipe σ (own.map (·.2)) ∧ te σ2 H2 fun y H3 => ∃ k, y = .bl k ∧ (k = b → Q (.bl b) H3) ∧ (k ≠ b → Nx H3))) :
    ∀ (n m i : Nat) (s₀ s : Shared) (H : Hp), m < n → Inv Y [(a, oA)] (wipe σ (own.map (·.2))) H s → tn i s.heap → (∀ c ∈ fp, H c = none) → W i m H → g < s.gens.size →
      Seg (model Y.prog Y.w) AG (RgG Y a oA (wipe σ (own.map (·.2))) g Q b) (YpG Y a oA (wipe σ (own.map (·.2))) g Q b) n s₀ (.compLoop (.GeneratorExp elt [⟨tg, iter, [], 0⟩] scope pos) 0 (.ref it) .none Y.env)
        ((model Y.prog Y.w).den (.compLoop (.GeneratorExp elt [⟨tg, iter, [], 0⟩] scope pos) 0 (.ref it) .none Y.env)) [] s := by
  have hA' : AG.over (.compLoop (.GeneratorExp elt [⟨tg, iter, [], 0⟩] scope pos) 0 (.ref it) .none Y.env) [] = Y.A := by rw [over_gl, hA]
  have stat : ∀ {σ' : L2.St} {H' : Hp} {s' : Shared}, Inv Y [(a, oA)] σ' H' s' → (∀ b ∈ fp, H' b = none) → ∀ b ∈ fp, FpOk Y [(a, oA)] H' b := fun {σ' H' s'} I' hn b hb =>
    ⟨hn b hb, (I'.ok.exf b (hex b hb)).1, I'.ok.exfs b (hex b hb), .inl (hex b hb), fun x c e => (I'.ok.exf b (hex b hb)).2 x c e, fun p hp => by
      rw [hpn, List.nil_append, List.mem_singleton] at hp
      rw [hp]
      exact hfpa b hb⟩
  intro n
  induction n with
  | zero => intro m i s₀ s H hm; exact absurd hm (Nat.not_lt_zero _)
  | succ n ih =>
    intro m i s₀ s H hm I st hn w hg
    show Seg _ AG _ _ _ s₀ _ ((compTurn (.GeneratorExp elt [⟨tg, iter, [], 0⟩] scope pos) 0 (.ref it) .none Y.env).onRaise (leaving Y.env)) [] s
    rw [compTurn_gen, Sem.onRaise_eq_wrap]
    refine seg_bind_wrap (wpAny_standAt ?_)
    rcases turn i m H w with ⟨stop, qq⟩ | ⟨go, Nx, hNx, step⟩
    · have td := T.done Y rfl rfl rfl hcalm i [(a, oA)] s _ H (fun _ _ => False) I (stat I hn) st stop
      refine seg_go hA' hg (wpAny_mono td (fun r s6 ⟨hr, I6⟩ hg6 => ?_) fun _ _ z => z)
      subst hr
      exact seg_end (.ok .next) ⟨rfl, H, I6, qq, hg6⟩
    · have ti := T.item Y rfl rfl rfl hcalm i [(a, oA)] s _ H (fun _ _ => False) I (stat I hn) st go
      refine seg_go hA' hg (wpAny_mono ti (fun r s6 ⟨u, hr, h6⟩ hg6 => ?_) fun _ _ z => z)
      subst hr
      refine seg_go hA' hg6 (wpAny_mono h6 (fun _ s7 ⟨x, H7, I7, r7, y7, st7, n7⟩ hg7 => ?_) fun _ _ z => z)
      have I7' := I7.pinned (stat I7 n7) (T.obj _ _ st7)
      have rg := pg.run _ s7 _ H7 x u _ I7' r7 (step x H7 y7)
      rw [hxe] at rg
      refine seg_go hA' hg7 (wpAny_mono rg (fun _ s8 ⟨σ8, H8, I8, hw8, q8⟩ hg8 => ?_) fun _ _ z => z)
      refine seg_bind_wrap (wpAny_tests_nil ?_)
      simp only [if_true]
      have hy : ∀ v, yieldOut Y.env v = yieldValue v := fun v => by simp only [yieldOut, hco, Bool.false_eq_true, if_false]
      simp only [hy]
      rw [Sem.bind_eq_wrap', Sem.bind_eq_wrap', Sem.wrap_wrap, Sem.wrap_wrap]
      have re := pe.run _ s8 σ8 H8 _ I8 q8
      rw [hxe] at re
      refine seg_wrap ?_
      rw [hA']
      refine GenW.wpAny_gsz (n := g + 1) hg8 (wpAny_mono re (fun z s9 ⟨yv, H9, I9, r9, k, hk, q1, q2⟩ hg9 => ?_) fun _ _ z => z.elim)
      subst hk
      have r9 : z = .bool k := r9
      subst r9
      have pin' : ∀ c ∈ fp, ∀ o, s7.heap.get? c = some o → s9.heap.get? c = some o ∧ H9 c = none := fun c hc o e =>
        let z := I9.pin (c, o) (List.mem_append_right _ (List.mem_append_right _ (mem_pinsAt hc e)))
        ⟨z.1, z.2.1⟩
      have hl : (wipe σ (own.map (·.2))).length = σ8.length := by rw [← hw8, wipe_length]
      have I9' : Inv Y [(a, oA)] (wipe σ (own.map (·.2))) H9 s9 := (I9.unpinned (pins := [(a, oA)])).weak hl fun j v e => by
        rw [← hw8] at e
        exact (wipe_some e).1
      refine seg_at (seg_yield rfl rfl rfl ⟨k, H9, rfl, I9', hg9, q1, fun hkb s'' e1 e2 e3 e4 => ?_⟩)
      obtain ⟨m', hm', w'⟩ := hNx H9 (q2 hkb)
      refine seg_again rfl (ih m' (i + 1) s'' s'' H9 (by omega) (inv_gens I9' e1 e2 e3) ?_ (fun c hc => ?_) w' e4)
      · rw [e1]
        exact T.keep _ _ _ st7 fun c hc o e => (pin' c hc o e).1
      · obtain ⟨o, e, _⟩ := T.obj _ _ st7 c hc
        exact (pin' c hc o e).2

theorem seg_anyS {Y : Cx} {AG : Around} {a it : Addr} {oA : Obj} {σ : L2.St} {own : List (Str × Nat)} {g : Nat} {Q : VK} {b : Bool} {tg iter elt : Expr} {scope : Scope} {pos : Pos} {J : It} {fp : List Addr} {tn : Nat → Heap → Prop} {gt : TG} {te : TE} {W : Nat → Nat → Hp → Prop}
    (hA : Y.A = AG.deeper Y.env) (hxe : Y.xe = fun _ _ => False) (hcalm : Y.calm = true) (hco : Y.env.scope.isCoroutine = false) (T : Turn Y.prog Y.w Y.K tg J fp it tn) (hfpa : ∀ c ∈ fp, a ≠ c) (hex : ∀ c ∈ fp, c ∈ Y.ex) (hpn : Y.pn = [])
    (pg : PG Y tg gt) (pe : PE Y elt te)
    (turn : ∀ i m H, W i m H → (J.stop i H ∧ Q (.bl (!b)) H) ∨ (J.go i H ∧ ∃ Nx : Hp → Prop, (∀ H', Nx H' → ∃ m', m' < m ∧ W (i + 1) m' H') ∧ ∀ x H', J.yld i H x H' → gt x (wipe σ (own.map (·.2))) H' fun σ2 H2 => wipe σ2 (own.map (·.2)) = wipe σ (own.map (·.2)) ∧ te σ2 H2 fun y H3 => ∃ k, y = .bl k ∧ (k = b → Q (.bl b) H3) ∧ (k ≠ b → Nx H3)))
    (n m i : Nat) (s₀ s : Shared) (H : Hp) (hm : m < n) (I : Inv Y [(a, oA)] (wipe σ (own.map (·.2))) H s) (st : tn i s.heap) (hn : ∀ c ∈ fp, H c = none) (w : W i m H) (hg : g < s.gens.size) :
      Seg (model Y.prog Y.w) AG (RgG Y a oA (wipe σ (own.map (·.2))) g Q b) (YpG Y a oA (wipe σ (own.map (·.2))) g Q b) n s₀ (.compStart (.GeneratorExp elt [⟨tg, iter, [], 0⟩] scope pos) 0 (.ref it) .none Y.env)
        ((model Y.prog Y.w).den (.compStart (.GeneratorExp elt [⟨tg, iter, [], 0⟩] scope pos) 0 (.ref it) .none Y.env)) [] s := by
  have loop := seg_anyG (iter := iter) (scope := scope) (pos := pos) hA hxe hcalm hco T hfpa hex hpn pg pe turn n m i s₀ s H hm I st hn w hg
  show Seg _ AG _ _ _ s₀ _ ((compStart (.GeneratorExp elt [⟨tg, iter, [], 0⟩] scope pos) 0 (.ref it) .none Y.env).onRaise (leaving Y.env)) [] s
  unfold compStart
  rw [Sem.onRaise_eq_wrap]
  show Seg _ AG _ _ _ s₀ _ ((ask >>= _).wrap _ _ _ _) [] s
  refine seg_bind_wrap (wpAny_askSetting ?_)
  split
  · exact seg_again rfl loop
  · first
      | exact seg_bind_wrap (wpAny_rule (seg_bind_wrap (wpAny_standAt (seg_bind_wrap (T.self _ i s _ _ st (seg_again rfl loop))))))
      | (refine seg_bind_wrap (wpAny_rule ?_); show Seg _ AG _ _ _ s₀ _ ((standAt iter.pos >>= _).wrap _ _ _ _) [] s; exact seg_bind_wrap (wpAny_standAt (seg_bind_wrap (T.self _ i s _ _ st (seg_again rfl loop)))))

/-! ### the walk of any, all -/
/-- one turn of the walk -/
theorem next_anyG {Y : Cx} {A : Around} {a : Addr} {oA : Obj} {σ' : L2.St} {g n : Nat} {Q : VK} {b : Bool} {s : Shared} {H : Hp} {gs : GenState} {Z : Option Value → Shared → Prop} {E : Value → Shared → Prop}
    (hh : A.handled = none) (hroom : A.depth < recursionLimit) (hgen : ∀ h : Heap, h.get? a = some oA → h.IsGen a g) (I : Inv Y [(a, oA)] σ' H s) (hgs : s.gens[g]? = some gs)
    (hgo : ∀ s'' : Shared, s''.heap = s.heap → s''.os = s.os → AllBare s''.gens → g < s''.gens.size → gs.Goes (model Y.prog Y.w) A.in1 (RgG Y a oA σ' g Q b) (YpG Y a oA σ' g Q b) n (.send .none) s'')
    (hend : ∀ s' H', Inv Y [(a, oA)] σ' H' s' → Q (.bl (!b)) H' → Z none s')
    (hit : ∀ s' H', Inv Y [(a, oA)] σ' H' s' → Q (.bl b) H' → Z (some (.bool b)) s')
    (hon : ∀ s' H' m gs', m < n → Inv Y [(a, oA)] σ' H' s' → s'.gens[g]? = some gs' →
      (∀ s'' : Shared, s''.heap = s'.heap → s''.os = s'.os → AllBare s''.gens → g < s''.gens.size → gs'.Goes (model Y.prog Y.w) A.in1 (RgG Y a oA σ' g Q b) (YpG Y a oA σ' g Q b) m (.send .none) s'') → Z (some (.bool (!b))) s') :
    wpAny (model Y.prog Y.w) A (pyNext (.ref a)) Z E s := by
  have pin := I.pin (a, oA) (List.mem_append_right _ (List.mem_singleton.mpr rfl))
  have glt : g < s.gens.size := by
    rcases Nat.lt_or_ge g s.gens.size with z | z
    · exact z
    · rw [Array.getElem?_eq_none z] at hgs
      cases hgs
  have ss : ∀ (s : Shared) (x : GenState), (s.setGen g x).gens.size = s.gens.size := fun s x => GenW.setGen_size s g x
  have bs : ∀ (s : Shared) (x : GenState), AllBare s.gens → x.bare = true → AllBare (s.setGen g x).gens := fun s x h1 h2 => allBare_setGen h1 h2
  refine wpAny_pyNext_genexpQ (P := fun _ _ s₁ => RdG Y a oA σ' g Q b s₁) hh I.nolimit hroom (hgen _ pin.1) hgs (hgo _ rfl rfl (bs s _ I.bare rfl) (by rw [ss]; exact glt)) (fun v s₁ gs' hb hv => ?_) (fun s₁ hp h' hk => ?_)
  · obtain ⟨bb, H', e, I1, g1, q1, q2⟩ := hv
    subst e
    have I2 : Inv Y [(a, oA)] σ' H' (s₁.setGen g gs') := inv_gens I1 rfl rfl (bs s₁ _ I1.bare hb)
    by_cases hbb : bb = b
    · subst hbb
      exact hit _ H' I2 (q1 rfl)
    · have e1 : bb = !b := by
        cases bb <;> cases b <;> first | rfl | exact absurd rfl hbb
      subst e1
      have q3 := q2 hbb
      cases n with
      | zero => exact (q3 s₁ rfl rfl I1.bare g1).elim
      | succ m => exact hon _ H' m gs' (Nat.lt_succ_self m) I2 (by simp [Shared.setGen, g1]) fun s'' e1 e2 e3 e4 => q3 s'' e1 e2 e3 e4
  · obtain ⟨H', I1, q1, g1⟩ := hp
    have I2 : Inv Y [(a, oA)] σ' H' (s₁.setGen g .finished) := inv_gens I1 rfl rfl (bs s₁ _ I1.bare rfl)
    exact hend _ H' (I2.turnedL (t' := s₁.toks) (ch := []) (h' := h') (fun c o _ e => hk c o e) fun c hc => nomatch hc) q1

theorem loop_anyG {Y : Cx} {A : Around} {a : Addr} {oA : Obj} {σ' : L2.St} {g : Nat} {Q : VK} {R : Result → Shared → Prop}
    (hh : A.in1.handled = none) (hroom : A.in1.depth < recursionLimit) (hgen : ∀ h : Heap, h.get? a = some oA → h.IsGen a g)
    (hR : ∀ k s' H', Inv Y [(a, oA)] σ' H' s' → Q (.bl k) H' → R (.ok (.ret (.bool k))) s') :
    ∀ (n m : Nat) (s : Shared) (H : Hp) (gs : GenState), m < n → Inv Y [(a, oA)] σ' H s → s.gens[g]? = some gs →
      (∀ s'' : Shared, s''.heap = s.heap → s''.os = s.os → AllBare s''.gens → g < s''.gens.size → gs.Goes (model Y.prog Y.w) A.in1.in1 (RgG Y a oA σ' g Q true) (YpG Y a oA σ' g Q true) m (.send .none) s'') →
      codeAny (model Y.prog Y.w) A (.builtin "any.loop" ⟨[.ref a], []⟩) R s := by
  intro n
  induction n with
  | zero => intro m s H gs hm; exact absurd hm (Nat.not_lt_zero _)
  | succ n ih =>
    intro m s H gs hm I hgs hgo
    refine codeAny_builtin F.entry_any_loop ?_
    rw [Around.under_plainId F.plain_any_loop _]
    show wpAny _ A.in1 (pyNext (.ref a) >>= _) _ _ s
    refine wpAny_bind (next_anyG (b := true) hh hroom hgen I hgs hgo (fun s' H' I' q => ?_) (fun s' H' I' q => ?_) fun s' H' m' gs' hm' I' hgs' hgo' => ?_)
    · exact wpAny_bind (wpAny_rule (wpAny_pure (hR false s' H' I' q)))
    · refine wpAny_bind (wpAny_holding (wpAny_truthy_bool ?_))
      refine wpAny_bind (wpAny_letGo ?_)
      simp only [if_true]
      exact wpAny_bind (wpAny_rule (wpAny_pure (hR true s' H' I' q)))
    · refine wpAny_bind (wpAny_holding (wpAny_truthy_bool ?_))
      refine wpAny_bind (wpAny_letGo ?_)
      simp only [Bool.not_true, Bool.false_eq_true, if_false]
      exact wpAny_pure ⟨plainId_quiet F.plain_any_loop _, ih m' s' H' gs' (by omega) I' hgs' hgo'⟩
theorem loop_allG {Y : Cx} {A : Around} {a : Addr} {oA : Obj} {σ' : L2.St} {g : Nat} {Q : VK} {R : Result → Shared → Prop}
    (hh : A.in1.handled = none) (hroom : A.in1.depth < recursionLimit) (hgen : ∀ h : Heap, h.get? a = some oA → h.IsGen a g)
    (hR : ∀ k s' H', Inv Y [(a, oA)] σ' H' s' → Q (.bl k) H' → R (.ok (.ret (.bool k))) s') :
    ∀ (n m : Nat) (s : Shared) (H : Hp) (gs : GenState), m < n → Inv Y [(a, oA)] σ' H s → s.gens[g]? = some gs →
      (∀ s'' : Shared, s''.heap = s.heap → s''.os = s.os → AllBare s''.gens → g < s''.gens.size → gs.Goes (model Y.prog Y.w) A.in1.in1 (RgG Y a oA σ' g Q false) (YpG Y a oA σ' g Q false) m (.send .none) s'') →
      codeAny (model Y.prog Y.w) A (.builtin "all.loop" ⟨[.ref a], []⟩) R s := by
  intro n
  induction n with
  | zero => intro m s H gs hm; exact absurd hm (Nat.not_lt_zero _)
  | succ n ih =>
    intro m s H gs hm I hgs hgo
    refine codeAny_builtin F.entry_all_loop ?_
    rw [Around.under_plainId F.plain_all_loop _]
    show wpAny _ A.in1 (pyNext (.ref a) >>= _) _ _ s
    refine wpAny_bind (next_anyG (b := false) hh hroom hgen I hgs hgo (fun s' H' I' q => ?_) (fun s' H' I' q => ?_) fun s' H' m' gs' hm' I' hgs' hgo' => ?_)
    · exact wpAny_bind (wpAny_rule (wpAny_pure (hR true s' H' I' q)))
    · refine wpAny_bind (wpAny_holding (wpAny_truthy_bool ?_))
      refine wpAny_bind (wpAny_letGo ?_)
      simp only [Bool.false_eq_true, if_false]
      exact wpAny_bind (wpAny_rule (wpAny_pure (hR false s' H' I' q)))
    · refine wpAny_bind (wpAny_holding (wpAny_truthy_bool ?_))
      refine wpAny_bind (wpAny_letGo ?_)
      simp only [Bool.not_false, if_true]
      exact wpAny_pure ⟨plainId_quiet F.plain_all_loop _, ih m' s' H' gs' (by omega) I' hgs' hgo'⟩

/-! ### the generator made -/
theorem Room_gx {k : Nat} {A : Around} (r : Room (k + 1) A) (env : Env) : Room k (A.in1.in1.deeper env) :=
  ⟨r.hd, by have := r.dp; show A.depth + 1 + 3 * k + 5 < _; omega, by have := r.un; show A.units + 1 + 1 + 3 + 16 * k + 200 < _; omega⟩
/-- any (b) or all (not b) over what wi walks, the element a bool; behind the making the def's table may have grown -/
def WalkG (b : Bool) (gt : TG) (te : TE) (vs : List Nat) (σ : L2.St) (Q : VK) (J : It) (H1 : Hp) : Prop := ∃ W : Nat → Nat → Hp → Prop, (∃ m, W 0 m H1) ∧ ∀ i m H, W i m H →
  (J.stop i H ∧ Q (.bl (!b)) H) ∨ (J.go i H ∧ ∃ Nx : Hp → Prop, (∀ H', Nx H' → ∃ m', m' < m ∧ W (i + 1) m' H') ∧ ∀ x H', J.yld i H x H' → gt x (wipe σ vs) H' fun σ2 H2 => wipe σ2 vs = wipe σ vs ∧ te σ2 H2 fun y H3 => ∃ k, y = .bl k ∧ (k = b → Q (.bl b) H3) ∧ (k ≠ b → Nx H3))
def tAnyG (b : Bool) (P : Addr) (wi : TI) (gt : TG) (te : TE) (vs : List Nat) : TE := fun σ H Q => wi σ H fun J H0 => GxR.TabG H0 P ∧ ∀ H1, GxR.Tabbed P H0 H1 → WalkG b gt te vs σ Q J H1
/-- the generator stands at v in the state s5, ready to be walked -/
def RdyG (X : Cx) (pins : List (Addr × Obj)) (σ : L2.St) (b : Bool) (Q : VK) (v : Value) (s5 : Shared) : Prop :=
  ∃ (Y : Cx) (a : Addr) (oA : Obj) (g n : Nat) (gs : GenState) (H : Hp) (σ' : L2.St), v = .ref a ∧ Y.prog = X.prog ∧ Y.w = X.w ∧ (∀ h : Heap, h.get? a = some oA → h.IsGen a g) ∧ Inv Y [(a, oA)] σ' H s5 ∧ s5.gens[g]? = some gs ∧
    (∀ s'' : Shared, s''.heap = s5.heap → s''.os = s5.os → AllBare s''.gens → g < s''.gens.size → gs.Goes (model Y.prog Y.w) X.A.in1.in1 (RgG Y a oA σ' g Q b) (YpG Y a oA σ' g Q b) n (.send .none) s'') ∧
    ∀ s' H', Inv Y [(a, oA)] σ' H' s' → Inv X pins σ H' s'
section
variable {X : Cx}
theorem gen_anyG {pins : List (Addr × Obj)} {σ : L2.St} {H : Hp} {s : Shared} {c P : Addr} {elt tg iter : Expr} {gpos : Pos} {scope : Scope} {own : List (Str × Nat)} {wi : TI} {gt : TG} {te : TE} {k : Nat} {Q : VK} {b : Bool}
    (hr : Room (k + 1) X.A) (TB : GxR.TabB X.base X.mg c P) (hcode : X.env.code = .ref c) (hN : X.N.Nodup) (hi : PI X tg iter wi) (ok : BlkOk X.N X.env.scope scope own)
    (hco : scope.isCoroutine = false) (hcell : ∀ y ∈ scope.names, y.2 ≠ .cell) (hdot : scope.names.lookup (".0" : Str) = some NameKind.local)
    (hg : ∀ (s : Shared) (H : Hp) (C : Addr) (code : Value) (fp : List Addr), Room k (X.A.in1.in1.deeper (gexEnv X scope C code builtinsNs)) → PG (gexCx X (X.A.in1.in1.deeper (gexEnv X scope C code builtinsNs)) s H (gexEnv X scope C code builtinsNs) fp) tg gt)
    (he : ∀ (s : Shared) (H : Hp) (C : Addr) (code : Value) (fp : List Addr), Room k (X.A.in1.in1.deeper (gexEnv X scope C code builtinsNs)) → PE (gexCx X (X.A.in1.in1.deeper (gexEnv X scope C code builtinsNs)) s H (gexEnv X scope C code builtinsNs) fp) elt te)
    (hs : ∀ v, genFold iter X.env v = pure v) (I : Inv X pins σ H s) (h : tAnyG b P wi gt te (own.map (·.2)) σ H Q) :
    wpAny (model X.prog X.w) X.A (eval (.GeneratorExp elt [⟨tg, iter, [], 0⟩] scope gpos) X.env) (RdyG X pins σ b Q) X.xe s := by
  have hfree : ∀ y ∈ scope.names, y.2 = .free → ∃ c, X.env.cells.lookup y.1 = some c := fun y hy e => by
    rcases ok.free y hy e with k | k
    · exact I.ok.has _ (.inl k)
    · exact I.ok.has _ (.inr k)
  refine wpAny_GeneratorExp_make hco (closure_ok hfree) hcell hdot ok.kind (by have := hr.dp; omega) ?_ hs
  refine thn (hi.run pins s σ H _ I h) fun xv s1 hx => thn hx fun itv s2 h2 => ?_
  obtain ⟨it, fp, tn, J, H2, e, I1, T, st2, f2, ⟨ps, hP, ht⟩, q1⟩ := h2
  subst e
  have hPs : s2.heap.get? P = some { cls := .none, data := .fields ps } := I1.hok P _ hP
  have hPlt : P < s2.heap.objs.size := Heap.lt_size hPs
  have cd : PySem.W.CodeHd s2.heap c P := TB.code.keeps fun b u e => I1.bk b u e
  have cont : ∀ (code : Value) (h3 : Heap) (tk : Nat) (ps' : Array Value), Heap.ExtBut P s2.heap h3 → s2.heap.objs.size ≤ h3.objs.size → h3.get? P = some { cls := .none, data := .fields ps' } → (∃ more, ps' = ps ++ more) → TriplesOk ps'.toList →
      wpAny (model X.prog X.w) X.A (builtinsFor X.env.globals X.env.builtins) (fun bi s₄ =>
        ∀ h', h'.Ns s₄.heap.objs.size (fun y => if y = ".0" then some (.ref it) else none) → Heap.SameBut s₄.heap.objs.size (s₄.heap.push { cls := .type "frame", data := .dict #[] }) h' →
          RdyG X pins σ b Q (.ref h'.objs.size) { s₄ with
            gens := s₄.gens.push (.fresh (.compStart (.GeneratorExp elt [⟨tg, iter, [], 0⟩] scope gpos) 0 (.ref it) .none (genEnv scope (cloFrom X.env.cells scope.names []) s₄.heap.objs.size code bi X.env))),
            toks := s₄.toks + 1 + 1 + 1,
            heap := h'.push { cls := .type "generator", data := .fields #[.int s₄.gens.size 0, .str "<genexpr>" (s₄.toks + 1), .str (X.env.qual ++ "<genexpr>") (s₄.toks + 1 + 1)] } }) X.xe { s2 with heap := h3, toks := tk } := by
    intro code h3 tk ps' hx hsz hP3 hmore ht3
    obtain ⟨more, em⟩ := hmore
    obtain ⟨bm, ob, e1, e2, e3, e4, e5, e6, e7, e8⟩ := TB.bm
    have keep3 : ∀ b u, b ≠ P → s2.heap.get? b = some u → h3.get? b = some u := fun b u hb e => hx b u hb e
    refine wpAny_builtinsFor (m := X.mg) (by rw [I1.ok.glob]; exact (I1.mod.glob.keeps I1.bk).extBut hx TB.gP) e1 e2 (keep3 _ _ e4 (I1.bk _ _ e5)) e6 e7 e8 ?_
    have I4 : Inv X pins σ (upd H2 P (.tbl (ps ++ more))) { s2 with heap := h3, toks := tk } :=
      GxR.inv_tab (more := more) (h' := h3) (g' := s2.gens) (d' := s2.drawn) (t' := tk) I1 hP (fun b u hb e => keep3 b u hb e) (by rw [← em]; exact hP3) I1.bare
    have hT : GxR.Tabbed P H2 (upd H2 P (.tbl (ps ++ more))) := ⟨⟨ps ++ more, upd_same, by rw [← em]; exact ht3⟩, fun b hb => upd_ne hb⟩
    obtain ⟨W, ⟨m0, w0⟩, turn⟩ := q1 _ hT
    generalize upd H2 P (.tbl (ps ++ more)) = H3 at I4 hT w0 turn
    generalize hs4 : ({ s2 with heap := h3, toks := tk } : Shared) = s4 at I4
    have h34 : s4.heap = h3 := by rw [← hs4]
    have sz : ∀ b ∈ fp, b < s2.heap.objs.size := fun b hb => by
      obtain ⟨o, e, _⟩ := T.obj _ _ st2 b hb
      exact Heap.lt_size e
    have nP : ∀ b ∈ fp, b ≠ P := fun b hb z => by
      have q := (f2 b hb).1
      rw [z, hP] at q
      cases q
    have f4 : ∀ b ∈ fp, FpOk X pins H3 b ∧ b < s4.heap.objs.size := fun b hb => by
      refine ⟨⟨?_, (f2 b hb).2⟩, by rw [h34]; exact Nat.lt_of_lt_of_le (sz b hb) hsz⟩
      rw [hT.2 b (nP b hb)]
      exact (f2 b hb).1
    have st4 : tn 0 s4.heap := T.keep _ _ _ st2 fun b hb o e => by rw [h34]; exact keep3 b o (nP b hb) e
    intro h' hn' hs'
    have hsz' : h'.objs.size = s4.heap.objs.size + 1 := by rw [hs'.1, Heap.size_push]
    have keep' : ∀ b o, s4.heap.get? b = some o → h'.get? b = some o := fun b o e => hs'.extBut b o (Nat.ne_of_lt (Heap.lt_size e)) (Heap.get?_push_of_some _ e)
    generalize hoA : ({ cls := .type "generator", data := .fields #[.int s4.gens.size 0, .str "<genexpr>" (s4.toks + 1), .str (X.env.qual ++ "<genexpr>") (s4.toks + 1 + 1)] } : Obj) = oA
    have keep5 : ∀ b o, s4.heap.get? b = some o → (h'.push oA).get? b = some o := fun b o e => Heap.get?_push_of_some _ (keep' b o e)
    have I5 := gex_start (A := X.A.in1.in1.deeper (gexEnv X scope s4.heap.objs.size code builtinsNs)) (code := code) (h' := h'.push oA) (g' := s4.gens.push (.fresh (.compStart (.GeneratorExp elt [⟨tg, iter, [], 0⟩] scope gpos) 0 (.ref it) .none (gexEnv X scope s4.heap.objs.size code builtinsNs)))) (tk := s4.toks + 1 + 1 + 1)
      I4 hN ok hcell f4 hr.hd (by
        show pushEnvs [_] X.A.frames = _
        rw [I4.ok.frames]
        rfl) keep5 (hn'.push oA) (I4.bare.push rfl)
    have hA : (h'.push oA).get? h'.objs.size = some oA := Heap.get?_push_size _ (by rw [← hoA]; rfl)
    have a4 : s4.heap.objs.size ≤ h'.objs.size := by omega
    refine ⟨gexCx X (X.A.in1.in1.deeper (gexEnv X scope s4.heap.objs.size code builtinsNs)) s4 H3 (gexEnv X scope s4.heap.objs.size code builtinsNs) fp, h'.objs.size, oA, s4.gens.size, m0 + 1, _, H3, wipe σ (own.map (·.2)), rfl, rfl, rfl, fun h e => ?_, I5.pins_of fun p hp => ?_, Array.getElem?_push_size .., fun s'' x1 x2 x3 x4 => ⟨rfl, ?_⟩, fun s' H' I' => ?_⟩
    · subst hoA
      exact ⟨_, _, _, e, rfl, rfl, rfl⟩
    · rw [List.mem_singleton] at hp
      subst hp
      refine ⟨hA, I4.hok.fresh a4, ?_, fun z => ?_, fun v => ?_⟩
      · show h'.objs.size ≠ s4.heap.objs.size
        omega
      · have z : h'.objs.size ∈ frs X.stack := z
        rcases List.mem_cons.mp (I4.stkSub _ z) with z | z
        · exact absurd (show s4.heap.objs.size ≤ X.env.locals by rw [← z]; exact a4) (Nat.not_le_of_lt I4.lt)
        · exact I4.nofs a4 z
      · rw [← hoA]
        intro z
        cases z
    · have Iz : Inv (gexCx X (X.A.in1.in1.deeper (gexEnv X scope s4.heap.objs.size code builtinsNs)) s4 H3 (gexEnv X scope s4.heap.objs.size code builtinsNs) fp) [(h'.objs.size, oA)] (wipe σ (own.map (·.2))) H3 s'' := inv_gens (I5.pins_of fun p hp => by
        rw [List.mem_singleton] at hp
        subst hp
        refine ⟨hA, I4.hok.fresh a4, ?_, fun z => ?_, fun v => ?_⟩
        · show h'.objs.size ≠ s4.heap.objs.size
          omega
        · have z : h'.objs.size ∈ frs X.stack := z
          rcases List.mem_cons.mp (I4.stkSub _ z) with z | z
          · exact absurd (show s4.heap.objs.size ≤ X.env.locals by rw [← z]; exact a4) (Nat.not_le_of_lt I4.lt)
          · exact I4.nofs a4 z
        · rw [← hoA]
          intro z
          cases z) x1 x2 x3
      have rm := Room_gx hr (gexEnv X scope s4.heap.objs.size code builtinsNs)
      exact seg_anyS (Y := gexCx X (X.A.in1.in1.deeper (gexEnv X scope s4.heap.objs.size code builtinsNs)) s4 H3 (gexEnv X scope s4.heap.objs.size code builtinsNs) fp) (own := own) rfl rfl rfl hco T
        (fun c hc z => absurd (f4 c hc).2 (by rw [← z]; exact Nat.not_lt_of_le a4)) (fun c hc => hc) rfl (hg s4 H3 _ code fp rm) (he s4 H3 _ code fp rm) turn (m0 + 1) m0 0 s'' s'' H3 (Nat.lt_succ_self _) Iz
        (T.keep _ _ _ st4 fun c _ o e => by rw [x1]; exact keep5 c o e) (fun c hc => (f4 c hc).1.1) w0 x4
    · exact I4.call' (ch := fp) I'.os I'.base I'.hok I'.bare fun c hc => ⟨(f4 c hc).1.2.2.2.1, (f4 c hc).1.2.1, (f4 c hc).1.2.2.2.2.1, (f4 c hc).1.2.2.2.2.2⟩
  refine ⟨I1.nolimit, ?_⟩
  cases hf : codeAmong gpos ps.toList with
  | none =>
    refine wpAny_genexprCodeX hcode (cd.code hPs ht) (cd.tab hPs) hf fun c' h' tk hx hge hlt hco' _ htab' _ => ?_
    obtain ⟨o1, vs, f1, tf, fl, tg, inF, tx, tt, op, _, _, _, _, _, _, _, _, _, htr, _⟩ := hco'
    exact cont _ h' tk _ hx (Nat.le_trans hge (Nat.le_of_lt hlt)) htab'.2 ⟨_, rfl⟩ htr
  | some cv =>
    refine wpAny_genexprCode_hit hcode (cd.code hPs ht) hf ?_
    exact cont cv s2.heap s2.toks ps (Heap.ExtBut.refl _ _) (Nat.le_refl _) hPs ⟨#[], by simp⟩ ht

theorem call_anyG {pins : List (Addr × Obj)} {σ : L2.St} {v : Value} {s : Shared} {Q : VK} {k : Nat} {E : Value → Shared → Prop} (hr : Room k X.A) (h : RdyG X pins σ true Q v s) : wpAny (model X.prog X.w) X.A (call (.builtin "any") [v]) (EP X pins σ Q) E s := by
  obtain ⟨Y, a, oA, g, n, gs, H, σ', rfl, e1, e2, hgen, I, hgs, hgo, back⟩ := h
  refine call_function_tree F.kind_any F.plain_any F.entry_any (F.args_any1 _) ?_
  unfold Builtin.«any»
  refine wpAny_bind (m := oneArg "any" _) (wpAny_pure ?_)
  have pin := I.pin (a, oA) (List.mem_append_right _ (List.mem_singleton.mpr rfl))
  refine wpAny_bind (wpAny_pyIter_gen (hgen _ pin.1) ?_)
  refine wpAny_pure ⟨plainId_quiet F.plain_any_loop _, ?_⟩
  rw [← e1, ← e2]
  refine loop_anyG (Q := Q) hr.hd (by have := hr.dp; show X.A.depth < _; omega) hgen (fun k s' H' I' q => ?_) (n + 1) n s H gs (Nat.lt_succ_self n) I hgs hgo
  exact ⟨.bl k, H', back s' H' I', rfl, q⟩
theorem call_allG {pins : List (Addr × Obj)} {σ : L2.St} {v : Value} {s : Shared} {Q : VK} {k : Nat} {E : Value → Shared → Prop} (hr : Room k X.A) (h : RdyG X pins σ false Q v s) : wpAny (model X.prog X.w) X.A (call (.builtin "all") [v]) (EP X pins σ Q) E s := by
  obtain ⟨Y, a, oA, g, n, gs, H, σ', rfl, e1, e2, hgen, I, hgs, hgo, back⟩ := h
  refine call_function_tree F.kind_all F.plain_all F.entry_all (F.args_all1 _) ?_
  unfold Builtin.«all»
  refine wpAny_bind (m := oneArg "all" _) (wpAny_pure ?_)
  have pin := I.pin (a, oA) (List.mem_append_right _ (List.mem_singleton.mpr rfl))
  refine wpAny_bind (wpAny_pyIter_gen (hgen _ pin.1) ?_)
  refine wpAny_pure ⟨plainId_quiet F.plain_all_loop _, ?_⟩
  rw [← e1, ← e2]
  refine loop_allG (Q := Q) hr.hd (by have := hr.dp; show X.A.depth < _; omega) hgen (fun k s' H' I' q => ?_) (n + 1) n s H gs (Nat.lt_succ_self n) I hgs hgo
  exact ⟨.bl k, H', back s' H' I', rfl, q⟩
/-- any(elt for tg in iter) -/
theorem pe_anyG {c P : Addr} {elt tg iter : Expr} {p pos gpos : Pos} {scope : Scope} {own : List (Str × Nat)} {wi : TI} {gt : TG} {te : TE} {k : Nat}
    (hr : Room (k + 1) X.A) (hgl : Gl X "any") (hm : X.mg "any" = none) (TB : GxR.TabB X.base X.mg c P) (hcode : X.env.code = .ref c) (hN : X.N.Nodup) (hi : PI X tg iter wi) (ok : BlkOk X.N X.env.scope scope own)
    (hg : ∀ (s : Shared) (H : Hp) (C : Addr) (code : Value) (fp : List Addr), Room k (X.A.in1.in1.deeper (gexEnv X scope C code builtinsNs)) → PG (gexCx X (X.A.in1.in1.deeper (gexEnv X scope C code builtinsNs)) s H (gexEnv X scope C code builtinsNs) fp) tg gt)
    (he : ∀ (s : Shared) (H : Hp) (C : Addr) (code : Value) (fp : List Addr), Room k (X.A.in1.in1.deeper (gexEnv X scope C code builtinsNs)) → PE (gexCx X (X.A.in1.in1.deeper (gexEnv X scope C code builtinsNs)) s H (gexEnv X scope C code builtinsNs) fp) elt te)
    (hcell : ∀ y ∈ scope.names, y.2 ≠ .cell := by decide) (hco : scope.isCoroutine = false := by rfl) (hdot : scope.names.lookup (".0" : Str) = some NameKind.local := by rfl) (hs : ∀ v, genFold iter X.env v = pure v := by intro _; rfl)
    (hst : starEach [.GeneratorExp elt [⟨tg, iter, [], 0⟩] scope gpos] X.env = (false, eval (.GeneratorExp elt [⟨tg, iter, [], 0⟩] scope gpos) X.env) :: starEach [] X.env := by rfl) :
    PE X (.Call (.Name "any" p) [.GeneratorExp elt [⟨tg, iter, [], 0⟩] scope gpos] [] pos) (tAnyG true P wi gt te (own.map (·.2))) := by
  refine ⟨fun pins s σ H Q I h => ?_⟩
  refine wpAny_Call_Name_kw (ld_blt I hgl hm boot_any ?_)
  refine PyProof.Rows.callWith_builtin1 ?_ hst (by rfl)
  rw [hst]
  show wpAny _ _ (spliced ((false, eval (.GeneratorExp elt [⟨tg, iter, [], 0⟩] scope gpos) X.env) :: backTo pos (starEach [] X.env))) _ _ s
  exact Calls.spliced_cons (thn (gen_anyG hr TB hcode hN hi ok hco hcell hdot hg he hs I h) fun v s5 hv => Calls.spliced_nil (call_anyG hr hv))
/-- all(elt for tg in iter) -/
theorem pe_allG {c P : Addr} {elt tg iter : Expr} {p pos gpos : Pos} {scope : Scope} {own : List (Str × Nat)} {wi : TI} {gt : TG} {te : TE} {k : Nat}
    (hr : Room (k + 1) X.A) (hgl : Gl X "all") (hm : X.mg "all" = none) (hb : bootBuiltins "all" = some (.builtin "all")) (TB : GxR.TabB X.base X.mg c P) (hcode : X.env.code = .ref c) (hN : X.N.Nodup) (hi : PI X tg iter wi) (ok : BlkOk X.N X.env.scope scope own)
    (hg : ∀ (s : Shared) (H : Hp) (C : Addr) (code : Value) (fp : List Addr), Room k (X.A.in1.in1.deeper (gexEnv X scope C code builtinsNs)) → PG (gexCx X (X.A.in1.in1.deeper (gexEnv X scope C code builtinsNs)) s H (gexEnv X scope C code builtinsNs) fp) tg gt)
    (he : ∀ (s : Shared) (H : Hp) (C : Addr) (code : Value) (fp : List Addr), Room k (X.A.in1.in1.deeper (gexEnv X scope C code builtinsNs)) → PE (gexCx X (X.A.in1.in1.deeper (gexEnv X scope C code builtinsNs)) s H (gexEnv X scope C code builtinsNs) fp) elt te)
    (hcell : ∀ y ∈ scope.names, y.2 ≠ .cell := by decide) (hco : scope.isCoroutine = false := by rfl) (hdot : scope.names.lookup (".0" : Str) = some NameKind.local := by rfl) (hs : ∀ v, genFold iter X.env v = pure v := by intro _; rfl)
    (hst : starEach [.GeneratorExp elt [⟨tg, iter, [], 0⟩] scope gpos] X.env = (false, eval (.GeneratorExp elt [⟨tg, iter, [], 0⟩] scope gpos) X.env) :: starEach [] X.env := by rfl) :
    PE X (.Call (.Name "all" p) [.GeneratorExp elt [⟨tg, iter, [], 0⟩] scope gpos] [] pos) (tAnyG false P wi gt te (own.map (·.2))) := by
  refine ⟨fun pins s σ H Q I h => ?_⟩
  refine wpAny_Call_Name_kw (ld_blt I hgl hm hb ?_)
  refine PyProof.Rows.callWith_builtin1 ?_ hst (by rfl)
  rw [hst]
  show wpAny _ _ (spliced ((false, eval (.GeneratorExp elt [⟨tg, iter, [], 0⟩] scope gpos) X.env) :: backTo pos (starEach [] X.env))) _ _ s
  exact Calls.spliced_cons (thn (gen_anyG hr TB hcode hN hi ok hco hcell hdot hg he hs I h) fun v s5 hv => Calls.spliced_nil (call_allG hr hv))
end

end B

set_option Elab.async false
set_option linter.all false
set_option maxRecDepth 100000
set_option maxHeartbeats 4000000
namespace B
open PySem PySem.Spec PyProof.Rows L2
/-! ### the forms one uses -/
theorem aa_none {α : Type} {xs : List α} {p : α → Bool} {b : Bool} (h : ∀ y ∈ xs, p y = !b) : (if b = true then xs.any p else xs.all p) = !b := by
  cases b with
  | true =>
    rw [if_pos rfl]
    exact List.any_eq_false.mpr fun y hy => by rw [h y hy]; simp
  | false =>
    rw [if_neg (by simp)]
    exact List.all_eq_true.mpr fun y hy => by rw [h y hy]; simp
theorem aa_hit {α : Type} {xs : List α} {p : α → Bool} {b : Bool} {y : α} (hy : y ∈ xs) (h : p y = b) : (if b = true then xs.any p else xs.all p) = b := by
  cases b with
  | true =>
    rw [if_pos rfl]
    exact List.any_eq_true.mpr ⟨y, hy, h⟩
  | false =>
    rw [if_neg (by simp)]
    rw [Bool.eq_false_iff]
    intro z
    have := List.all_eq_true.mp z y hy
    rw [h] at this
    cases this
/-- over a list that the elements leave as it is: p tells of each item; Pv holds all the way -/
theorem any_lst {K : PySem.W.Frag} {a : Addr} {xs : List V} {gt : TG} {te : TE} {vs : List Nat} {σ : L2.St} {H1 : Hp} {b : Bool} {Q : VK} (p : V → Bool) (Pv : Hp → Prop) (h0 : Pv H1) (hl : ∀ H, Pv H → SqL K H a xs)
    (hs : ∀ (x : V) (H : Hp) (Z : VK), x ∈ xs → Pv H → (∀ H3, Pv H3 → Z (.bl (p x)) H3) → gt x (wipe σ vs) H fun σ2 H2 => wipe σ2 vs = wipe σ vs ∧ te σ2 H2 Z)
    (hd : ∀ H, Pv H → Q (.bl (if b = true then xs.any p else xs.all p)) H) :
    WalkG b gt te vs σ Q (Itl K a) H1 := by
  refine ⟨fun i m H => m = xs.length - i ∧ i ≤ xs.length ∧ Pv H ∧ ∀ y ∈ xs.take i, p y = !b, ⟨xs.length, by simp, Nat.zero_le _, h0, by simp⟩, ?_⟩
  rintro i m H ⟨rfl, hi, pv, hp⟩
  have q := hl H pv
  by_cases hlt : i < xs.length
  · have hm : xs[i] ∈ xs := List.getElem_mem hlt
    have nx : ∀ H', (Pv H' ∧ p xs[i] = !b) → ∃ m', m' < xs.length - i ∧ m' = xs.length - (i + 1) ∧ i + 1 ≤ xs.length ∧ Pv H' ∧ ∀ y ∈ xs.take (i + 1), p y = !b := fun H' h => by
      refine ⟨xs.length - (i + 1), by omega, rfl, hlt, h.1, fun y hy => ?_⟩
      rw [List.take_add_one, List.getElem?_eq_getElem hlt] at hy
      rcases List.mem_append.mp hy with z | z
      · exact hp y z
      · rw [show y = xs[i] by simpa using z]
        exact h.2
    refine .inr ⟨⟨xs, xs[i], q, by simp [hlt]⟩, fun H' => Pv H' ∧ p xs[i] = !b, nx, fun x H' y => ?_⟩
    obtain ⟨e, y⟩ := y
    subst e
    have ex := y xs q
    rw [List.getElem?_eq_getElem hlt] at ex
    have ex := Option.some.inj ex
    subst ex
    refine hs _ _ _ hm pv fun H3 p3 => ⟨_, rfl, fun e => ?_, fun e => ⟨p3, ?_⟩⟩
    · have := hd H3 p3
      rw [aa_hit hm e] at this
      exact this
    · revert e
      cases p xs[i] <;> cases b <;> simp
  · have e : i = xs.length := by omega
    subst e
    refine .inl ⟨⟨xs, q, Nat.le_refl _⟩, ?_⟩
    have := hd H pv
    rw [aa_none (b := b) (fun y hy => hp y (by rw [List.take_length]; exact hy))] at this
    exact this
/-- .. the items told by something else's list -/
theorem any_map {α : Type} {K : PySem.W.Frag} {a : Addr} {ys : List α} {f : α → V} {gt : TG} {te : TE} {vs : List Nat} {σ : L2.St} {H1 : Hp} {b : Bool} {Q : VK} (p : α → Bool) (Pv : Hp → Prop) (h0 : Pv H1) (hl : ∀ H, Pv H → SqL K H a (ys.map f))
    (hs : ∀ (y : α) (H : Hp) (Z : VK), y ∈ ys → Pv H → (∀ H3, Pv H3 → Z (.bl (p y)) H3) → gt (f y) (wipe σ vs) H fun σ2 H2 => wipe σ2 vs = wipe σ vs ∧ te σ2 H2 Z)
    (hd : ∀ H, Pv H → Q (.bl (if b = true then ys.any p else ys.all p)) H) : WalkG b gt te vs σ Q (Itl K a) H1 := by
  refine ⟨fun i m H => m = ys.length - i ∧ i ≤ ys.length ∧ Pv H ∧ ∀ y ∈ ys.take i, p y = !b, ⟨ys.length, by simp, Nat.zero_le _, h0, by simp⟩, ?_⟩
  rintro i m H ⟨rfl, hi, pv, hp⟩
  have q := hl H pv
  by_cases hlt : i < ys.length
  · have hm : ys[i] ∈ ys := List.getElem_mem hlt
    have nx : ∀ H', (Pv H' ∧ p ys[i] = !b) → ∃ m', m' < ys.length - i ∧ m' = ys.length - (i + 1) ∧ i + 1 ≤ ys.length ∧ Pv H' ∧ ∀ y ∈ ys.take (i + 1), p y = !b := fun H' h => by
      refine ⟨ys.length - (i + 1), by omega, rfl, hlt, h.1, fun y hy => ?_⟩
      rw [List.take_add_one, List.getElem?_eq_getElem hlt] at hy
      rcases List.mem_append.mp hy with z | z
      · exact hp y z
      · rw [show y = ys[i] by simpa using z]
        exact h.2
    refine .inr ⟨⟨ys.map f, f ys[i], q, by simp [hlt]⟩, fun H' => Pv H' ∧ p ys[i] = !b, nx, fun x H' y => ?_⟩
    obtain ⟨e, y⟩ := y
    subst e
    have ex := y (ys.map f) q
    rw [List.getElem?_map, List.getElem?_eq_getElem hlt] at ex
    have ex : f ys[i] = x := Option.some.inj ex
    subst ex
    refine hs _ _ _ hm pv fun H3 p3 => ⟨_, rfl, fun e => ?_, fun e => ⟨p3, ?_⟩⟩
    · have := hd H3 p3
      rw [aa_hit hm e] at this
      exact this
    · revert e
      cases p ys[i] <;> cases b <;> simp
  · have e : i = ys.length := by omega
    subst e
    refine .inl ⟨⟨ys.map f, q, by rw [List.length_map]; exact Nat.le_refl _⟩, ?_⟩
    have := hd H pv
    rw [aa_none (b := b) (fun y hy => hp y (by rw [List.take_length]; exact hy))] at this
    exact this
section
variable {X : Cx} {K : PySem.W.Frag}
theorem pg_tupK {es : List Expr} {k : Nat} {pos : Pos} {t : TGs} {n : Nat} (hK : X.K = K) (hc : X.calm = true) (h : PGs X es t) (hn : (assignEach es X.env).length = n := by rfl) (hst : (assignEach es X.env).findIdx? (·.1) = none := by rfl) : PG X (.Tuple es k pos) (gTup K n t) := by
  subst hK
  exact pg_tup hc h hn hst
theorem pa_starK {e : Expr} {es : List Expr} {te : TE} {t : TA} {p : Pos} (hK : X.K = K) (he : PE X e te) (hr : PA X es t) (hs : starEach (.Starred e p :: es) X.env = (true, eval e X.env) :: starEach es X.env := by rfl) : PA X (.Starred e p :: es) (StX.tStar K te t) := by
  subst hK
  exact StX.pa_star he hr hs
end
end B

set_option Elab.async false
set_option linter.all false
set_option maxRecDepth 100000
set_option maxHeartbeats 4000000
namespace B
open PySem PySem.Spec PyProof.Rows L2
open SX (S)
/-! ### what some numbers tell at a beginning; rising lists -/
theorem startswith_eq {x : Str} {l : List Nat} : Txt.startswith x (S l) = starts l x := by
  unfold Txt.startswith starts
  rw [PySem.StrLaws.subAt_eq]
  have e1 : (S l).cps.toList = l := by simp [SX.S]
  have e2 : (S l).length = l.length := SX.S_len l
  have e3 : x.length = x.cps.toList.length := by simp [Str.length]
  rw [e1, e2, e3, List.drop_zero]
  by_cases h : x.cps.toList.take l.length = l
  · have := congrArg List.length h
    rw [List.length_take] at this
    have h3 : l.length ≤ x.cps.toList.length := by omega
    rw [h]
    simp
    simpa using h3
  · simp [h]
section
variable {P : Program} {w : World} {K : PySem.W.Frag} {mg : Str → Option Value} {base : Heap}
theorem heard_gen : pd_heard ∈ gens := by decide +kernel
/-- some numbers and a beginning: whether some go on with a 0, with a 1 -/
def spHeard (K : PySem.W.Frag) : Sp := fun vs H Q _ => ∃ (p : Addr) (l : List Nat) (xs : List Str), vs = [.ref p, .str (S l)] ∧ H p = some (.lst (xs.map V.str)) ∧ l.length ≤ 100 ∧ Tb K H ∧
  ∀ (q : Addr) (H' : Hp), H q = none → H' q = some (.tup [.bl (xs.any (starts (l ++ [48]))), .bl (xs.any (starts (l ++ [49])))]) → FrT K [] H H' → Q (.ref q) H'
theorem any_str {xs : List Str} {p : V → Bool} {q : Str → Bool} (h : ∀ x, p (.str x) = q x) : (xs.map V.str).any p = xs.any q := by
  rw [List.any_map]
  exact congrArg (fun f => xs.any f) (funext h)
theorem all_str {xs : List Str} {p : V → Bool} {q : Str → Bool} (h : ∀ x, p (.str x) = q x) : (xs.map V.str).all p = xs.all q := by
  rw [List.all_map]
  exact congrArg (fun f => xs.all f) (funext h)
def ofS (q : Str → Bool) : V → Bool
  | .str x => q x
  | _ => false
theorem c_heard (T : Txt P w K mg base) : CalX CX0 P w K mg base 2 "heard" (spHeard K) := by
  obtain ⟨fd, F⟩ := T.t.def_ 3 (d := d_heard)
  refine ⟨_, fd, _, okT (p := pd_heard) F sc_heard (fun vs H Q E h => ?_) (fun A outer s H vs Q E hr h => ?_), He.glo_ok T.X T.G (T.t.fact 3), F.kp, F.bindsN fun _ _ _ _ _ _ us hl => match us, hl with | [_, _], _ => rfl⟩
  · obtain ⟨p, l, xs, rfl, _⟩ := h
    rfl
  · obtain ⟨p, l, xs, rfl, hp, hl, ht, k⟩ := h
    refine ⟨_, PSs.nox (pss_cons (ps_set (i := 2) sc_heard.nd rfl (Or.inl rfl) (pe_anyG (own := [("number", 4)]) hr rfl (n_any T) (tb_g T (p := pd_heard) (by decide +kernel)) rfl sc_heard.nd (pi_list (pv 0)) (blkOk_by (N := ["numbers", "beginning", "zero", "one", "number"]) (sc := defScope s_heard) (own := [("number", 4)]) (by decide +kernel)) (fun _ _ _ _ _ hr => by exact (pg_name (i := 4) sc_heard.nd rfl (Or.inl rfl))) (fun _ _ _ _ _ hr => by exact (pe_m1 PySem.F.slot_str_startswith PySem.F.type_str_startswith mt_startswith (pv 4) (pe_op op_add_str (pv 1) pe_str))) (by decide +kernel)))
    (pss_cons (ps_set (i := 3) sc_heard.nd rfl (Or.inl rfl) (pe_anyG (own := [("number", 4)]) hr rfl (n_any T) (tb_g T (p := pd_heard) (by decide +kernel)) rfl sc_heard.nd (pi_list (pv 0)) (blkOk_by (N := ["numbers", "beginning", "zero", "one", "number"]) (sc := defScope s_heard) (own := [("number", 4)]) (by decide +kernel)) (fun _ _ _ _ _ hr => by exact (pg_name (i := 4) sc_heard.nd rfl (Or.inl rfl))) (fun _ _ _ _ _ hr => by exact (pe_m1 PySem.F.slot_str_startswith PySem.F.type_str_startswith mt_startswith (pv 4) (pe_op op_add_str (pv 1) pe_str))) (by decide +kernel)))
    (pss_one (ps_ret (pe_tup (pa_cons (pv 2) (pa_cons (pv 3) pa_nil))))))), ?_⟩
    refine ⟨_, rfl, p, rfl, ⟨_, SqL.of hp⟩, ht.1 _ heard_gen, fun H1 hT => any_lst (K := K) (a := p) (xs := xs.map V.str) (ofS (starts (l ++ [48]))) (fun H' => H' p = some (.lst (xs.map V.str)) ∧ FrT K [] H H') ?_ (fun H' h => SqL.of h.1) ?_ ?_⟩
    · obtain ⟨f1, _⟩ := tb_gen T heard_gen ht hT
      exact ⟨f1.k _ _ hp rfl (by simp), f1⟩
    · rintro y H2 Z hy ⟨hp2, f2⟩ hZ
      obtain ⟨x, hx, rfl⟩ := List.mem_map.mp hy
      refine ⟨rfl, _, rfl, ⟨_, rfl⟩, _, rfl, _, _, rfl, rfl, by rw [SX.S_len]; exact Nat.le_trans (Nat.add_le_add_right hl _) (by decide +kernel), _, _, rfl, rfl, ?_⟩
      have a0 : S l ++ "0" = S (l ++ [48]) := by rw [zero_S, SX.S_cat]
      rw [a0, startswith_eq]
      exact hZ H2 ⟨hp2, f2⟩
    · rintro H2 ⟨hp2, f2⟩
      rw [if_pos rfl, any_str (q := starts (l ++ [48])) fun _ => rfl]
      refine ⟨_, rfl, p, rfl, ⟨_, SqL.of hp2⟩, (f2.t ht).1 _ heard_gen, fun H3 hT3 => any_lst (K := K) (a := p) (xs := xs.map V.str) (ofS (starts (l ++ [49]))) (fun H' => H' p = some (.lst (xs.map V.str)) ∧ FrT K [] H H') ?_ (fun H' h => SqL.of h.1) ?_ ?_⟩
      · obtain ⟨f3, _⟩ := tb_gen T heard_gen (f2.t ht) hT3
        exact ⟨f3.k _ _ hp2 rfl (by simp), f2.trans f3⟩
      · rintro y H4 Z hy ⟨hp4, f4⟩ hZ
        obtain ⟨x, hx, rfl⟩ := List.mem_map.mp hy
        refine ⟨rfl, _, rfl, ⟨_, rfl⟩, _, rfl, _, _, rfl, rfl, by rw [SX.S_len]; exact Nat.le_trans (Nat.add_le_add_right hl _) (by decide +kernel), _, _, rfl, rfl, ?_⟩
        have a1 : S l ++ "1" = S (l ++ [49]) := by rw [one_S, SX.S_cat]
        rw [a1, startswith_eq]
        exact hZ H4 ⟨hp4, f4⟩
      · rintro H4 ⟨hp4, f4⟩
        rw [if_pos rfl, any_str (q := starts (l ++ [49])) fun _ => rfl]
        refine ⟨_, rfl, _, rfl, by show 2 ≤ sizeLine; decide, fun q hq => ?_⟩
        exact k q _ (f4.b q hq) upd_same (f4.trans (Frm.toT (K := K) (S := []) ((Frm.refl [] H4).new hq) (by simp [NL])))
end
end B

set_option Elab.async false
set_option linter.all false
set_option maxRecDepth 100000
set_option maxHeartbeats 4000000
namespace B
open PySem PySem.Spec PyProof.Rows L2
open SX (S)
section
variable {P : Program} {w : World} {K : PySem.W.Frag} {mg : Str → Option Value} {base : Heap}
/-- the program's own sets: the same promise as the law's -/
theorem c_sets_of (T : Txt P w K mg base) : CalX CX0 P w K mg base 1 "sets_of" (spSets K) := by
  obtain ⟨fd, F⟩ := T.t.def_ 7 (d := d_sets_of)
  refine ⟨_, fd, _, F.ok sc_sets_of (fun vs H Q E h => ?_) (fun cdv A outer s H vs Q E hr h => ?_), He.glo_ok T.X T.G (T.t.fact 7), F.kp, F.bindsN fun _ _ _ _ _ _ us hl => match us, hl with | [_], _ => rfl⟩
  · obtain ⟨p, xs, rfl, _⟩ := h
    rfl
  · obtain ⟨p, xs, rfl, hp, hl, k⟩ := h
    refine ⟨_, PSs.nox (pss_cons (ps_set (i := 1) sc_sets_of.nd rfl (Or.inl rfl) (pe_lst (pa_cons (pe_lst pa_nil) pa_nil)))
    (pss_cons (ps_for PassesOwn.never rfl (pi_list (pv 0)) (pg_name (i := 2) sc_sets_of.nd rfl (Or.inr rfl))
      (pss_one (ps_set (i := 1) sc_sets_of.nd rfl (Or.inl rfl) (pe_op op_cat (pv 1) (pe_lc (own := [("numbers", 3)]) (g := gName 3) rfl sc_sets_of.nd (pi_list (pv 1)) (blkOk_by (N := ["roster", "sets", "number", "numbers"]) (sc := defScope s_sets_of) (own := [("numbers", 3)]) (by decide +kernel)) (fun _ _ _ _ _ => pg_name (i := 3) sc_sets_of.nd rfl (Or.inl rfl)) (fun _ _ _ _ _ => pts_nil) (fun _ _ _ _ _ => by exact (pe_lst (pa_starK (K := K) rfl (pv 3) (pa_cons (pv 2) pa_nil)))))))))
    (pss_one (ps_ret (pe_callB (cr_sortedD hr.u65) (by rfl) (n_sorted T) (by decide +kernel) (pa_cons (pv 1) pa_nil)))))), ?_⟩
    refine ⟨Nat.zero_le _, fun p1 hp1 => ⟨by show 1 ≤ sizeLine; decide, fun p2 hp2 => ?_⟩⟩
    have g0 : Frm [] H (upd (upd H p1 (.lst [])) p2 (.lst [.ref p1])) := (Frm.of (same_upd hp1)).trans (Frm.of (same_upd hp2))
    refine ⟨_, rfl, p, rfl, ⟨_, SqL.of (g0.k _ _ hp rfl (by simp))⟩, for_list (K := K) (a := p) (xs := xs.map V.str) (fun i σ H' => ∃ (pf : Addr) (v2 v3 : Option V) (zs : List (Addr × List Str)), σ = [some (.ref p), some (.ref pf), v2, v3] ∧ H pf = none ∧ SZ H' pf zs ∧ zs.map (·.2) = setsS (xs.take i) ∧ Frm [] H H')
      ⟨p2, none, none, [(p1, [])], rfl, upd_back hp2, ⟨upd_same, fun z hz => by rw [List.mem_singleton.mp hz]; exact same_upd hp2 _ _ upd_same⟩, rfl, g0⟩ (fun i σ H' _ ⟨_, _, _, _, _, _, _, _, f⟩ => SqL.of (f.k _ _ hp rfl (by simp))) ?_ ?_⟩
    · rintro i y σ H1 hi ⟨pf, v2, v3, zs, rfl, hpf, sz, es, f1⟩
      obtain ⟨x, hx, rfl⟩ := at_map hi
      have hi2 := (List.getElem?_eq_some_iff.mp hx).1
      have zl : zs.length ≤ 128 := by
        have := congrArg List.length es
        rw [List.length_map, sets_len, List.length_take] at this
        rw [this]
        exact Nat.le_trans (Nat.pow_le_pow_right (by decide) (show min i xs.length ≤ 7 by omega)) (by decide)
      refine ⟨_, rfl, _, rfl, pf, rfl, ⟨_, SqL.of sz.1⟩, fun D hD => ?_⟩
      have gD : Frm [] H1 (upd H1 D (.lst [])) := Frm.of (same_upd hD)
      refine lc_list (K := K) (a := pf) (xs := zs.map fun z => V.ref z.1) (fun j H' => ∃ us : List (Addr × List Str), SZ H' D us ∧ us.map (·.2) = ((zs.take j).map (·.2)).map (· ++ [x]) ∧ (∀ u ∈ us, u.1 ≠ D) ∧ Frm [] H1 H')
        ⟨[], ⟨upd_same, fun z hz => absurd hz (by simp)⟩, rfl, fun u hu => absurd hu (by simp), gD⟩ (fun j H' _ ⟨_, _, _, _, f⟩ => SqL.of (f.k _ _ sz.1 rfl (by simp))) ?_ ?_
      · rintro j y H2 hj ⟨us, su, eu, nu, f2⟩
        obtain ⟨z, hz, rfl⟩ := at_sz hj
        have hz2 := f2.k _ _ (sz.2 z (List.mem_of_getElem? hz)) rfl (by simp)
        have hj2 := (List.getElem?_eq_some_iff.mp hz).1
        have zx : z.2.length ≤ 8 := by
          have m : z.2 ∈ setsS (xs.take i) := by
            rw [← es]
            exact List.mem_map.mpr ⟨z, List.mem_of_getElem? hz, rfl⟩
          have := (mem_sets.mp m).length_le
          rw [List.length_take] at this
          omega
        have lu : us.length ≤ 128 := by
          have := congrArg List.length eu
          rw [List.length_map, List.length_map, List.length_map, List.length_take] at this
          omega
        refine ⟨rfl, _, rfl, z.1, _, rfl, .inr (SqL.of hz2), _, rfl, ?_, fun t ht => ?_⟩
        · rw [List.length_append, List.length_map]
          exact size12 (by show z.2.length + 1 ≤ 100; omega)
        have f3 : Frm [] H2 (upd H2 t (.lst (z.2.map V.str ++ [.str x]))) := Frm.of (same_upd ht)
        have eD := f3.k _ _ su.1 rfl (by simp)
        have nt : t ≠ D := Ne.symm (ne_of_none su.1 ht)
        refine ⟨_, eD, by rw [List.length_map]; exact small1000 (by omega), us ++ [(t, z.2 ++ [x])], su.snoc f3 (by rw [upd_same, List.map_append]; rfl) nt nu, ?_, fun u hu => ?_, (f2.trans f3).new hD⟩
        · rw [List.map_append, eu, take_snoc hz, List.map_append, List.map_append]
          rfl
        · rcases List.mem_append.mp hu with c | c
          · exact nu u c
          · rw [List.mem_singleton.mp c]
            exact nt
      · rintro H2 ⟨us, su, eu, nu, f2⟩
        rw [List.length_map, List.take_length] at eu
        have lu : us.length ≤ 128 := by
          have := congrArg List.length eu
          rw [List.length_map, List.length_map, List.length_map] at this
          omega
        have sz2 := sz.keep f2
        refine ⟨pf, D, _, _, rfl, rfl, sz2.1, su.1, by rw [List.length_map, List.length_map]; exact Nat.le_of_lt (small1000 (by omega)), fun t ht => ?_⟩
        have g3 : Frm [] H2 (upd H2 t (.lst ((zs.map fun z => V.ref z.1) ++ us.map fun z => V.ref z.1))) := Frm.of (same_upd ht)
        refine ⟨t, _, _, zs ++ us, rfl, f1.b _ (f2.b _ ht), ⟨by rw [upd_same, List.map_append], fun z hz => ?_⟩, ?_, f1.trans (f2.trans g3)⟩
        · rcases List.mem_append.mp hz with c | c
          · exact g3.k _ _ (sz2.2 z c) rfl (by simp)
          · exact g3.k _ _ (su.2 z c) rfl (by simp)
        · rw [List.map_append, sets_take hx, eu, es]
    · rintro σ H1 ⟨pf, v2, v3, zs, rfl, hpf, sz, es, f1⟩
      rw [List.length_map, List.take_length] at es
      have ok : ∀ s ∈ zs.map (·.2), s.length ≤ 8 := fun s hs => by
        rw [es] at hs
        exact Nat.le_trans (mem_sets.mp hs).length_le hl
      refine ⟨_, rfl, pf, _, (zs.map (·.2)).map fun s => .list (s.map .str), rfl, SqL.of sz.1, ?_, ?_, ?_, ?_, fun ys q py hq => ?_⟩
      · exact dp_sets sz.2
      · exact al_sets _
      · refine .inr fun d hd => ?_
        obtain ⟨s, _, rfl⟩ := List.mem_map.mp hd
        exact ⟨(fun e => by cases e), fun _ e => by cases e⟩
      · intro d hd
        obtain ⟨s, _, rfl⟩ := List.mem_map.mp hd
        exact Nat.le_trans (depth_strs s) (by decide)
      · have g3 : Frm [] H1 (upd H1 q (.lst ys)) := Frm.of (same_upd hq)
        obtain ⟨zs2, p2, rfl⟩ := perm_map py
        exact k q zs2 _ (f1.b _ hq) ⟨upd_same, fun z hz => g3.k _ _ (sz.2 z (p2.mem_iff.mp hz)) rfl (by simp)⟩ (by rw [← es]; exact p2.map _) (f1.trans g3)
end
end B

set_option Elab.async false
set_option linter.all false
set_option maxRecDepth 100000
set_option maxHeartbeats 4000000
namespace B
open PySem PySem.Spec PyProof.Rows L2
open SX (S)
/-! ### rising lists of numbers, of any texts -/
def bits01 (x : Str) : Bool := x.cps.toList.all (fun c => decide (c ∈ ("01" : Str).cps.toList))
def numB (W : Nat) (x : Str) : Bool := decide (x.length = W) && bits01 x
def riseB (xs : List Str) : Bool := sortedS xs && decide xs.Nodup
section
variable {P : Program} {w : World} {K : PySem.W.Frag} {mg : Str → Option Value} {base : Heap}
theorem num_genG : pd_is_number ∈ gens := by decide +kernel
def spIsNumG (K : PySem.W.Frag) : Sp := fun vs H Q _ => ∃ (W : Nat) (x : Str), vs = [.int W, .str x] ∧ x.length ≤ 1000000 ∧ Tb K H ∧ ∀ H', FrT K [] H H' → Q (.bl (numB W x)) H'
theorem c_isnumG (T : Txt P w K mg base) : CalX CX0 P w K mg base 1 "is_number" (spIsNumG K) := by
  obtain ⟨fd, F⟩ := T.t.def_ 2 (d := d_is_number)
  refine ⟨_, fd, _, okT (p := pd_is_number) F sc_is_number (fun vs H Q E h => ?_) (fun A outer s H vs Q E hr h => ?_), He.glo_ok T.X T.G (T.t.fact 2), F.kp, F.bindsN fun _ _ _ _ _ _ us hl => match us, hl with | [_, _], _ => rfl⟩
  · obtain ⟨n, x, rfl, _⟩ := h
    rfl
  · obtain ⟨W, x, rfl, hn, ht, k⟩ := h
    refine ⟨_, PSs.nox (pss_cons (ps_if (PW.pt (pw_or (pt_not (pt_val (pe_callB call_isi (by rfl) (n_isinstance T) (by decide +kernel) (pa_cons (pv 1) (pa_cons (pe_bltn (v := .ty "str") (u := .type "str") rfl (n_str T) (by decide +kernel) rfl) pa_nil))))) (pw_or1 (pt_cmpR op_ne (pe_callB call_len_str (by rfl) (n_len T) PySem.boot_len (pa_cons (pv 1) pa_nil)) (pv 0) (nomark _)))))
      (pss_one (ps_ret pe_bl))
      pss_nil)
    (pss_one (ps_ret (GxR.pe_allS hr rfl (n_all T) (by decide +kernel) (tb_g T (p := pd_is_number) (by decide +kernel)) rfl (gens_by (by decide +kernel)) (pv 1) (elt_in rfl rfl) (fun _ => rfl))))), ?_⟩
    refine ⟨_, rfl, .str x, .ty "str", .type "str", .type "str", true, rfl, .ty "str", .base (.str x), kit_ty (by decide +kernel), true, rfl, ?_⟩
    refine ⟨_, rfl, x, rfl, Nat.le_trans hn (by decide), _, rfl, rfl, _, rfl, ?_⟩
    unfold numB at k
    by_cases e : x.length = W
    · rw [int_dec, decide_eq_true (show (x.length : Int) = (W : Int) by omega)]
      refine ⟨_, rfl, x, rfl, ht.1 _ num_genG, fun H2 hT => ?_⟩
      rw [decide_eq_true e] at k
      exact k H2 (tb_gen T num_genG ht hT).1
    · rw [int_dec, decide_eq_false (show ¬ (x.length : Int) = (W : Int) by omega)]
      rw [decide_eq_false e] at k
      exact k H (FrT.refl _ _ _)
theorem num_all {W : Nat} {x : Str} (h : Num W x) : numB W x = true := by
  unfold numB
  rw [decide_eq_true (num_len h)]
  obtain ⟨l, rfl, _, b⟩ := h
  unfold bits01
  rw [Bool.true_and]
  refine List.all_eq_true.mpr fun c hc => ?_
  rcases b c hc with rfl | rfl <;> decide +kernel
theorem num_of {W : Nat} {x : Str} (h : numB W x = true) : Num W x := by
  unfold numB at h
  obtain ⟨h1, h2⟩ := He.ba h
  have e1 := of_decide_eq_true h1
  refine ⟨x.cps.toList, (S_cps x).symm, ?_, fun c hc => ?_⟩
  · rw [← e1]
    simp [Str.length]
  · have := of_decide_eq_true (List.all_eq_true.mp h2 c hc)
    rw [show ("01" : Str).cps.toList = [48, 49] by decide +kernel] at this
    simpa using this
theorem numB_iff {W : Nat} {x : Str} : numB W x = true ↔ Num W x := ⟨num_of, num_all⟩
theorem rise_gen : pd_is_rising ∈ gens := by decide +kernel
def spRising (K : PySem.W.Frag) : Sp := fun vs H Q _ => ∃ (W : Nat) (p : Addr) (xs : List Str), vs = [.int W, .ref p] ∧ H p = some (.lst (xs.map V.str)) ∧ (∀ x ∈ xs, x.length ≤ 1000000) ∧ xs.length ≤ 1000 ∧ Tb K H ∧
  ∀ H', FrT K [] H H' → Q (.bl (xs.all (numB W) && riseB xs)) H'
theorem c_is_rising (T : Txt P w K mg base) : CalX CX0 P w K mg base 3 "is_rising" (spRising K) := by
  obtain ⟨fd, F⟩ := T.t.def_ 6 (d := d_is_rising)
  refine ⟨_, fd, _, okT (p := pd_is_rising) F sc_is_rising (fun vs H Q E h => ?_) (fun A outer s H vs Q E hr h => ?_), He.glo_ok T.X T.G (T.t.fact 6), F.kp, F.bindsN fun _ _ _ _ _ _ us hl => match us, hl with | [_, _], _ => rfl⟩
  · obtain ⟨W, p, xs, rfl, _⟩ := h
    rfl
  · obtain ⟨W, p, xs, rfl, hp, hx, hl, ht, k⟩ := h
    refine ⟨_, PSs.nox (pss_one (ps_ret (pe_and (pe_allG (own := [("number", 2)]) hr rfl (n_all T) (by decide +kernel) (tb_g T (p := pd_is_rising) (by decide +kernel)) rfl sc_is_rising.nd (pi_list (pv 1)) (blkOk_by (N := ["width", "numbers", "number"]) (sc := defScope s_is_rising) (own := [("number", 2)]) (by decide +kernel)) (fun _ _ _ _ _ hr => by exact (pg_name (i := 2) sc_is_rising.nd rfl (Or.inl rfl))) (fun _ _ _ _ _ hr => by exact (pe_cx (c_isnumG T) hr (by decide) rfl pass0 (pa_cons (pv 0) (pa_cons (pv 2) pa_nil)))) (by decide +kernel)) (pe_one (pe_cmpR (op_eqD hr.units) (pv 1) (pe_callB (cr_sortedTx rfl) (by rfl) (n_sorted T) (by decide +kernel) (pa_cons (pe_callTy (cr_setTx rfl) (by rfl) (n_set T) (by decide +kernel) (pa_cons (pv 1) pa_nil)) pa_nil)) (nomark _)))))), ?_⟩
    have szx : xs.length ≤ sizeLine := Nat.le_trans hl (by decide)
    refine ⟨_, rfl, p, rfl, ⟨_, SqL.of hp⟩, ht.1 _ rise_gen, fun H1 hT => any_lst (K := K) (a := p) (xs := xs.map V.str) (ofS (numB W)) (fun H' => H' p = some (.lst (xs.map V.str)) ∧ FrT K [] H H') ?_ (fun H' h => SqL.of h.1) ?_ ?_⟩
    · obtain ⟨f1, _⟩ := tb_gen T rise_gen ht hT
      exact ⟨f1.k _ _ hp rfl (by simp), f1⟩
    · rintro y H2 Z hy ⟨hp2, f2⟩ hZ
      obtain ⟨x, hx2, rfl⟩ := List.mem_map.mp hy
      refine ⟨rfl, _, rfl, _, rfl, W, x, rfl, hx x hx2, f2.t ht, fun H3 f3 => hZ H3 ⟨f3.k _ _ hp2 rfl (by simp), f2.trans f3⟩⟩
    · rintro H2 ⟨hp2, f2⟩
      rw [if_neg (by simp), all_str (q := numB W) fun _ => rfl]
      refine ⟨_, rfl, ?_⟩
      cases e : xs.all (numB W) with
      | false =>
        rw [e, Bool.false_and] at k
        exact k H2 f2
      | true =>
        rw [e, Bool.true_and] at k
        rw [if_pos rfl]
        refine ⟨_, rfl, _, rfl, p, xs, rfl, SqL.of hp2, ?_, fun a ha => ?_⟩
        · have sb : (4096 : Nat) = scanBound := rfl
          omega
        have g1 : Frm [] H2 (upd H2 a (StxO w a (fun y => decide (y ∈ xs)) (dedT xs).length)) := Frm.of (same_upd ha)
        refine ⟨a, _, _, rfl, upd_same, fun ys q hs hnd hm hn hq => ?_⟩
        have g2 := g1.trans (Frm.of (same_upd (o := .lst (ys.map V.str)) hq))
        refine ⟨.list (xs.map .str), .list (ys.map .str), .lst (SqL.of (g2.k _ _ hp2 rfl (by simp))) (dp_strs xs), .lst (SqL.of upd_same) (dp_strs ys), shaped_strs (fun x h => strOk_num (num_of (List.all_eq_true.mp e x h))), shaped_strs (fun x h => strOk_num (num_of (List.all_eq_true.mp e x (by simpa using (hm x).mp h)))), ?_⟩
        rw [eqv_strsD]
        have er : decide (xs = ys) = riseB xs := by
          unfold riseB
          by_cases c : sortedS xs = true ∧ xs.Nodup
          · rw [c.1, decide_eq_true c.2]
            refine decide_eq_true (sorted_eq c.1 hs ((List.perm_ext_iff_of_nodup c.2 hnd).mpr fun y => ?_))
            rw [hm y]
            simp
          · rw [decide_eq_false fun z => c (by rw [z]; exact ⟨hs, hnd⟩)]
            cases c1 : sortedS xs with
            | false => rfl
            | true =>
              rw [Bool.true_and]
              exact (decide_eq_false fun c2 => c ⟨c1, c2⟩).symm
        rw [er]
        exact k _ (f2.trans (Frm.toT (K := K) (S := []) g2 (by simp [NL])))
end
end B

set_option Elab.async false
set_option linter.all false
set_option maxRecDepth 100000
set_option maxHeartbeats 4000000
namespace B
open PySem PySem.Spec PyProof.Rows L2
open SX (S)
/-! ### rosters judged -/
/-- some numbers tell just so at a beginning -/
def tellB (xs : List Str) (q : Lk) : Bool := decide ((xs.any (starts (q.1 ++ [48])), xs.any (starts (q.1 ++ [49]))) = (q.2.1, q.2.2))
section
variable {X : Cx}
theorem g_MOST_NUMBERS (T : Txt X.prog X.w X.K X.mg X.base) {p : Pos} (hg : Gl X "MOST_NUMBERS" := by rfl) : PE X (.Name "MOST_NUMBERS" p) (tC (.int 8)) := by
  obtain ⟨t, e⟩ := He.int_ok T.X T.G (T.t.fact 47 (f := .int "MOST_NUMBERS" 8))
  exact pe_glob hg e ⟨t, rfl⟩
end
section
variable {P : Program} {w : World} {K : PySem.W.Frag} {mg : Str → Option Value} {base : Heap}
/-- a roster that is one -/
def spReqRoster (K : PySem.W.Frag) : Sp := fun vs H Q _ => ∃ (W : Nat) (p : Addr) (xs : List Str), vs = [.int W, .ref p] ∧ H p = some (.lst (xs.map V.str)) ∧ (∀ x ∈ xs, Num W x) ∧ riseB xs = true ∧ 1 ≤ xs.length ∧ xs.length ≤ 8 ∧ W ≤ 12 ∧ Tb K H ∧ ∀ H', FrT K [] H H' → Q .non H'
theorem c_require_roster (T : Txt P w K mg base) : CalX CX0 P w K mg base 4 "require_roster" (spReqRoster K) := by
  obtain ⟨fd, F⟩ := T.t.def_ 5 (d := d_require_roster)
  refine ⟨_, fd, _, F.ok sc_require_roster (fun vs H Q E h => ?_) (fun cdv A outer s H vs Q E hr h => ?_), He.glo_ok T.X T.G (T.t.fact 5), F.kp, F.bindsN fun _ _ _ _ _ _ us hl => match us, hl with | [_, _], _ => rfl⟩
  · obtain ⟨W, p, xs, rfl, _⟩ := h
    rfl
  · obtain ⟨W, p, xs, rfl, hp, hn, hs, h1, h8, hW, ht, k⟩ := h
    refine ⟨_, PSs.nox (pss_one (ps_if (PW.pt (pw_or (pt_not (pt_chain op_le op_le pe_int (pe_callB call_len_seq (by rfl) (n_len T) PySem.boot_len (pa_cons (pv 1) pa_nil)) (g_MOST_NUMBERS T))) (pw_or1 (pt_not (pt_val (pe_cx (c_is_rising T) hr (by decide) rfl pass0 (pa_cons (pv 0) (pa_cons (pv 1) pa_nil))))))))
      (pss_one ps_never)
      pss_nil)), ?_⟩
    refine ⟨_, rfl, p, _, rfl, .inl (SqL.of hp), 1, (xs.length : Int), rfl, by rw [List.length_map], _, rfl, ?_⟩
    rw [decide_eq_true (show (1 : Int) ≤ (xs.length : Int) by omega)]
    refine ⟨(xs.length : Int), 8, by rw [List.length_map], rfl, _, rfl, ?_⟩
    rw [decide_eq_true (show (xs.length : Int) ≤ 8 by omega)]
    refine ⟨_, rfl, _, rfl, W, p, xs, rfl, hp, fun x hx => by rw [num_len (hn x hx)]; omega, by omega, ht, fun H' f => ⟨_, rfl, ?_⟩⟩
    rw [List.all_eq_true.mpr fun x hx => num_all (hn x hx), hs]
    exact k H' f
theorem dp_bb {H : Hp} {t : Addr} {a b : Bool} (h : H t = some (.tup [.bl a, .bl b])) : Dp K H (.ref t) (.tuple [.bool a, .bool b]) := .tup (SqT.of h) (.cons (.bl _) (.cons (.bl _) .nil))
end
end B

set_option Elab.async false
set_option linter.all false
set_option maxRecDepth 100000
set_option maxHeartbeats 4000000
namespace B
open PySem PySem.Spec PyProof.Rows L2
open SX (S)
/-! ### a roster refused -/
section
variable {X : Cx}
end
def rosterB (W : Nat) (xs : List Str) : Bool := (decide (1 ≤ xs.length) && decide (xs.length ≤ 8)) && (xs.all (numB W) && riseB xs)
section
variable {P : Program} {w : World} {K : PySem.W.Frag} {mg : Str → Option Value} {base : Heap}
/-- any list of texts: a roster, or refused -/
def spReqRosterV (K : PySem.W.Frag) : Sp := fun vs H Q E => ∃ (W : Nat) (p : Addr) (xs : List Str), vs = [.int W, .ref p] ∧ H p = some (.lst (xs.map V.str)) ∧ (∀ x ∈ xs, x.length ≤ 1000000) ∧ xs.length ≤ 1000 ∧ Tb K H ∧
  ∀ H', FrT K [] H H' → (rosterB W xs = true → Q .non H') ∧ (rosterB W xs = false → E (.ref (He.ga K "BadRoster")) none H')
end
end B

set_option Elab.async false
set_option linter.all false
set_option maxRecDepth 100000
set_option maxHeartbeats 4000000
namespace B
open PySem PySem.Spec PyProof.Rows L2
/-! ### sorted of a list of data of any depth: the very arrangement -/
theorem each_zip {h : Heap} {P : Value → V → Prop} : ∀ {us : List Value} {xs : List V} {ds : List PyData} {as : List Addr}, Vals xs us → ReadsAll h us ds as → PySem.W.EachIs (fun v (b : V × PyData) => RelV b.1 v) us (xs.zip ds) ∧ PySem.W.EachIs (fun v (b : V × PyData) => ∃ as, Reads h v b.2 as) us (xs.zip ds) ∧ (xs.zip ds).map Prod.snd = ds
  | [], [], [], _, _, _ => ⟨.nil, .nil, rfl⟩
  | u :: us, x :: xs, d :: ds, _, v, r => by
    cases v with
    | cons v1 v2 =>
      cases r with
      | cons r1 r2 =>
        obtain ⟨a, b, c⟩ := each_zip (P := P) v2 r2
        exact ⟨.cons v1 a, .cons ⟨_, r1⟩ b, by rw [List.zip_cons_cons, List.map_cons, c]⟩
  | [], [], _ :: _, _, _, r => by cases r
  | [], _ :: _, _, _, v, _ => by cases v
  | _ :: _, [], _, _, v, _ => by cases v
  | _ :: _, _ :: _, [], _, _, r => by cases r
theorem vals_each : ∀ {us : List Value} {bs : List (V × PyData)}, PySem.W.EachIs (fun v (b : V × PyData) => RelV b.1 v) us bs → Vals (bs.map Prod.fst) us
  | [], [], _ => .nil
  | _ :: _, _ :: _, h => by
    cases h with
    | cons a b => exact .cons a (vals_each b)
  | [], _ :: _, h => by cases h
  | _ :: _, [], h => by cases h
section
variable {X : Cx}
def rSortedO (K : PySem.W.Frag) : List V → Hp → VK → Prop := fun vs H Q => ∃ (a : Addr) (xs : List V) (ds : List PyData), vs = [V.ref a] ∧ SqL K H a xs ∧ DpAll K H xs ds ∧ PySem.W.AllAlike ds ∧ PySem.W.Sortable ds ∧ (∀ d ∈ ds, d.depth ≤ 60) ∧
  ∀ (p : Addr), H p = none → Q (.ref p) (upd H p (.lst (((xs.zip ds).mergeSort (PySem.W.dataLe false Prod.snd)).map Prod.fst)))
theorem cr_sortedO (hu : X.A.units + 65 < cLine) : CallR X (.builtin "sorted") (rSortedO X.K) := by
  intro pins s σ H vs us Q I r h
  obtain ⟨a, xs, ds, rfl, hs, hd, al, so, dp, q⟩ := h
  rw [Vals.ref1 r]
  obtain ⟨its, rv, hl, hz⟩ := I.list hs
  obtain ⟨as, ra⟩ := Dp.readsAll I ds _ its hd rv
  have hlen := rv.length
  have ra' : ReadsAll (PySem.W.sortingHeap (PySem.W.copyHeap s.heap its) (s.heap.objs.size + 1) its) its ds as := ReadsAll.keeps (fun b o e => PySem.W.sorting_copy_old e) ra
  refine PySem.W.sorted_vals (κ := PySem.W.dataKind (PySem.W.sortingHeap (PySem.W.copyHeap s.heap its) (s.heap.objs.size + 1) its) ds) hl.isList (PySem.W.SortsAt.data (each_reads ra') al so fun d hd => ?_) (by omega) ?_
  · have := dp d hd
    show X.A.in1.in1.units + d.depth < cLine
    have e : X.A.in1.in1.units = X.A.units + 1 + 1 := rfl
    omega
  · obtain ⟨c, hc⟩ := sortedAll_at s.heap its (PySem.W.sortVals (PySem.W.dataKind (PySem.W.sortingHeap (PySem.W.copyHeap s.heap its) (s.heap.objs.size + 1) its) ds) false its its).toArray
    obtain ⟨e1, e2, e3⟩ := each_zip (P := fun _ _ => True) rv ra'
    have key := PySem.W.sortVals_data (h' := PySem.W.sortingHeap (PySem.W.copyHeap s.heap its) (s.heap.objs.size + 1) its) (enc := fun b : V × PyData => b.2) false e1 e2 (by rw [show (xs.zip ds).map (fun b : V × PyData => b.2) = ds from e3]; exact al)
    rw [show (xs.zip ds).map (fun b : V × PyData => b.2) = ds from e3] at key
    have v1 := vals_each key
    refine ⟨.ref _, upd H (s.heap.objs.size + 1) (.lst _), I.laid (t' := s.toks) (fun _ _ => sortedAll_old) (Nat.le_succ _) ⟨?_, _, c, v1, hc⟩, rfl, q _ (I.hok.fresh (Nat.le_succ _))⟩
    have dl : (xs.zip ds).length ≤ xs.length := by rw [List.length_zip]; exact Nat.min_le_left _ _
    rw [List.length_map, List.length_mergeSort]
    exact Nat.le_trans dl hz
end
end B

set_option Elab.async false
set_option linter.all false
set_option maxRecDepth 100000
set_option maxHeartbeats 4000000
namespace B
open PySem PySem.Spec PyProof.Rows L2
open SX (S)
/-! ### the sets in their very order -/
noncomputable def leS2 (s t : List Str) : Bool := PySem.W.dataLe false (fun s : List Str => PyData.list (s.map .str)) s t
noncomputable def leZ (y z : Addr × List Str) : Bool := leS2 y.2 z.2
theorem sort_refs {zs : List (Addr × List Str)} : (((zs.map fun z => V.ref z.1).zip ((zs.map (·.2)).map fun s => PyData.list (s.map .str))).mergeSort (PySem.W.dataLe false Prod.snd)).map Prod.fst = (zs.mergeSort leZ).map fun z => V.ref z.1 := by
  have e : (zs.map fun z => V.ref z.1).zip ((zs.map (·.2)).map fun s => PyData.list (s.map .str)) = zs.map fun z => (V.ref z.1, PyData.list (z.2.map .str)) := by
    rw [List.map_map, List.zip_map']
    rfl
  have m := List.map_mergeSort (r := leZ) (s := PySem.W.dataLe false Prod.snd) (f := fun z : Addr × List Str => (V.ref z.1, PyData.list (z.2.map .str))) (l := zs) (fun a _ b _ => rfl)
  rw [e, ← m, List.map_map]
  rfl
theorem sort_snd {zs : List (Addr × List Str)} : (zs.mergeSort leZ).map (·.2) = (zs.map (·.2)).mergeSort leS2 := List.map_mergeSort (fun _ _ _ _ => rfl)
section
variable {P : Program} {w : World} {K : PySem.W.Frag} {mg : Str → Option Value} {base : Heap}
def spSetsO (K : PySem.W.Frag) : Sp := fun vs H Q _ => ∃ (p : Addr) (xs : List Str), vs = [.ref p] ∧ H p = some (.lst (xs.map V.str)) ∧ xs.length ≤ 8 ∧
  ∀ (q : Addr) (zs : List (Addr × List Str)) (H' : Hp), H q = none → SZ H' q zs → zs.map (·.2) = (setsS xs).mergeSort leS2 → (∀ z ∈ zs, H z.1 = none) → Frm [] H H' → Q (.ref q) H'
theorem c_lsetsO (T : Txt P w K mg base) : CalX CX0 P w K mg base 1 "_law_sets" (spSetsO K) := by
  obtain ⟨fd, F⟩ := T.t.def_ 23 (d := d_lsets)
  refine ⟨_, fd, _, F.ok sc_lsets (fun vs H Q E h => ?_) (fun cdv A outer s H vs Q E hr h => ?_), He.glo_ok T.X T.G (T.t.fact 23), F.kp, F.bindsN fun _ _ _ _ _ _ us hl => match us, hl with | [_], _ => rfl⟩
  · obtain ⟨p, xs, rfl, _⟩ := h
    rfl
  · obtain ⟨p, xs, rfl, hp, hl, k⟩ := h
    refine ⟨_, PSs.nox (pss_cons (ps_set (i := 1) sc_lsets.nd rfl (Or.inl rfl) (pe_lst (pa_cons (pe_lst pa_nil) pa_nil)))
    (pss_cons (ps_for PassesOwn.never rfl (pi_list (pv 0)) (pg_name (i := 2) sc_lsets.nd rfl (Or.inr rfl))
      (pss_one (ps_set (i := 1) sc_lsets.nd rfl (Or.inl rfl) (pe_op op_cat (pv 1) (pe_lc (own := [("_law_one", 3)]) (g := gName 3) rfl sc_lsets.nd (pi_list (pv 1)) (blkOk_by (N := ["_law_numbers", "_law_found", "_law_number_here", "_law_one"]) (sc := defScope s_lsets) (own := [("_law_one", 3)]) (by decide +kernel)) (fun _ _ _ _ _ => pg_name (i := 3) sc_lsets.nd rfl (Or.inl rfl)) (fun _ _ _ _ _ => pts_nil) (fun _ _ _ _ _ => by exact (pe_op op_cat (pv 3) (pe_lst (pa_cons (pv 2) pa_nil)))))))))
    (pss_one (ps_ret (pe_callB (cr_sortedO hr.u65) (by rfl) (n_sorted T) (by decide +kernel) (pa_cons (pv 1) pa_nil)))))), ?_⟩
    refine ⟨Nat.zero_le _, fun p1 hp1 => ⟨by show 1 ≤ sizeLine; decide, fun p2 hp2 => ?_⟩⟩
    have g0 : Frm [] H (upd (upd H p1 (.lst [])) p2 (.lst [.ref p1])) := (Frm.of (same_upd hp1)).trans (Frm.of (same_upd hp2))
    refine ⟨_, rfl, p, rfl, ⟨_, SqL.of (g0.k _ _ hp rfl (by simp))⟩, for_list (K := K) (a := p) (xs := xs.map V.str) (fun i σ H' => ∃ (pf : Addr) (v2 v3 : Option V) (zs : List (Addr × List Str)), σ = [some (.ref p), some (.ref pf), v2, v3] ∧ H pf = none ∧ SZ H' pf zs ∧ zs.map (·.2) = setsS (xs.take i) ∧ (∀ z ∈ zs, H z.1 = none) ∧ Frm [] H H')
      ⟨p2, none, none, [(p1, [])], rfl, upd_back hp2, ⟨upd_same, fun z hz => by rw [List.mem_singleton.mp hz]; exact same_upd hp2 _ _ upd_same⟩, rfl, fun z hz => by rw [List.mem_singleton.mp hz]; exact hp1, g0⟩ (fun i σ H' _ ⟨_, _, _, _, _, _, _, _, _, f⟩ => SqL.of (f.k _ _ hp rfl (by simp))) ?_ ?_⟩
    · rintro i y σ H1 hi ⟨pf, v2, v3, zs, rfl, hpf, sz, es, zn, f1⟩
      obtain ⟨x, hx, rfl⟩ := at_map hi
      have hi2 := (List.getElem?_eq_some_iff.mp hx).1
      have zl : zs.length ≤ 128 := by
        have := congrArg List.length es
        rw [List.length_map, sets_len, List.length_take] at this
        rw [this]
        exact Nat.le_trans (Nat.pow_le_pow_right (by decide) (show min i xs.length ≤ 7 by omega)) (by decide)
      refine ⟨_, rfl, _, rfl, pf, rfl, ⟨_, SqL.of sz.1⟩, fun D hD => ?_⟩
      have gD : Frm [] H1 (upd H1 D (.lst [])) := Frm.of (same_upd hD)
      refine lc_list (K := K) (a := pf) (xs := zs.map fun z => V.ref z.1) (fun j H' => ∃ us : List (Addr × List Str), SZ H' D us ∧ us.map (·.2) = ((zs.take j).map (·.2)).map (· ++ [x]) ∧ (∀ u ∈ us, u.1 ≠ D ∧ H1 u.1 = none) ∧ Frm [] H1 H')
        ⟨[], ⟨upd_same, fun z hz => absurd hz (by simp)⟩, rfl, fun u hu => absurd hu (by simp), gD⟩ (fun j H' _ ⟨_, _, _, _, f⟩ => SqL.of (f.k _ _ sz.1 rfl (by simp))) ?_ ?_
      · rintro j y H2 hj ⟨us, su, eu, nu, f2⟩
        obtain ⟨z, hz, rfl⟩ := at_sz hj
        have hz2 := f2.k _ _ (sz.2 z (List.mem_of_getElem? hz)) rfl (by simp)
        have hj2 := (List.getElem?_eq_some_iff.mp hz).1
        have zx : z.2.length ≤ 8 := by
          have m : z.2 ∈ setsS (xs.take i) := by
            rw [← es]
            exact List.mem_map.mpr ⟨z, List.mem_of_getElem? hz, rfl⟩
          have := (mem_sets.mp m).length_le
          rw [List.length_take] at this
          omega
        have lu : us.length ≤ 128 := by
          have := congrArg List.length eu
          rw [List.length_map, List.length_map, List.length_map, List.length_take] at this
          omega
        refine ⟨rfl, _, rfl, _, rfl, by show 1 ≤ sizeLine; decide, fun t1 ht1 => ⟨z.1, t1, _, _, rfl, rfl, same_upd ht1 _ _ hz2, upd_same, ?_, fun t ht => ?_⟩⟩
        · rw [List.length_map]
          exact size12 (by show z.2.length + 1 ≤ 100; omega)
        have f3 : Frm [] H2 (upd (upd H2 t1 (.lst [.str x])) t (.lst (z.2.map V.str ++ [.str x]))) := (Frm.of (same_upd ht1)).trans (Frm.of (same_upd ht))
        have eD := f3.k _ _ su.1 rfl (by simp)
        have nt : t ≠ D := Ne.symm (ne_of_none (same_upd ht1 _ _ su.1) ht)
        refine ⟨_, eD, by rw [List.length_map]; exact small1000 (by omega), us ++ [(t, z.2 ++ [x])], su.snoc f3 (by rw [upd_same, List.map_append]; rfl) nt (fun u hu => (nu u hu).1), ?_, fun u hu => ?_, (f2.trans f3).new hD⟩
        · rw [List.map_append, eu, take_snoc hz, List.map_append, List.map_append]
          rfl
        · rcases List.mem_append.mp hu with c | c
          · exact nu u c
          · rw [List.mem_singleton.mp c]
            exact ⟨nt, f2.b _ (upd_back ht)⟩
      · rintro H2 ⟨us, su, eu, nu, f2⟩
        rw [List.length_map, List.take_length] at eu
        have lu : us.length ≤ 128 := by
          have := congrArg List.length eu
          rw [List.length_map, List.length_map, List.length_map] at this
          omega
        have sz2 := sz.keep f2
        refine ⟨pf, D, _, _, rfl, rfl, sz2.1, su.1, by rw [List.length_map, List.length_map]; exact Nat.le_of_lt (small1000 (by omega)), fun t ht => ?_⟩
        have g3 : Frm [] H2 (upd H2 t (.lst ((zs.map fun z => V.ref z.1) ++ us.map fun z => V.ref z.1))) := Frm.of (same_upd ht)
        refine ⟨t, _, _, zs ++ us, rfl, f1.b _ (f2.b _ ht), ⟨by rw [upd_same, List.map_append], fun z hz => ?_⟩, ?_, fun z hz => (List.mem_append.mp hz).elim (zn z) fun c => f1.b _ (nu z c).2, f1.trans (f2.trans g3)⟩
        · rcases List.mem_append.mp hz with c | c
          · exact g3.k _ _ (sz2.2 z c) rfl (by simp)
          · exact g3.k _ _ (su.2 z c) rfl (by simp)
        · rw [List.map_append, sets_take hx, eu, es]
    · rintro σ H1 ⟨pf, v2, v3, zs, rfl, hpf, sz, es, zn, f1⟩
      rw [List.length_map, List.take_length] at es
      have ok : ∀ s ∈ zs.map (·.2), s.length ≤ 8 := fun s hs => by
        rw [es] at hs
        exact Nat.le_trans (mem_sets.mp hs).length_le hl
      refine ⟨_, rfl, pf, _, (zs.map (·.2)).map fun s => .list (s.map .str), rfl, SqL.of sz.1, ?_, ?_, ?_, ?_, fun q hq => ?_⟩
      · exact dp_sets sz.2
      · exact al_sets _
      · refine .inr fun d hd => ?_
        obtain ⟨s, _, rfl⟩ := List.mem_map.mp hd
        exact ⟨(fun e => by cases e), fun _ e => by cases e⟩
      · intro d hd
        obtain ⟨s, _, rfl⟩ := List.mem_map.mp hd
        exact Nat.le_trans (depth_strs s) (by decide)
      · rw [sort_refs]
        have g3 : Frm [] H1 (upd H1 q (.lst ((zs.mergeSort leZ).map fun z => V.ref z.1))) := Frm.of (same_upd hq)
        exact k q (zs.mergeSort leZ) _ (f1.b _ hq) ⟨upd_same, fun z hz => g3.k _ _ (sz.2 z (List.mem_mergeSort.mp hz)) rfl (by simp)⟩ (by rw [sort_snd, es]) (fun z hz => zn z (List.mem_mergeSort.mp hz)) (f1.trans g3)
theorem c_sets_ofO (T : Txt P w K mg base) : CalX CX0 P w K mg base 1 "sets_of" (spSetsO K) := by
  obtain ⟨fd, F⟩ := T.t.def_ 7 (d := d_sets_of)
  refine ⟨_, fd, _, F.ok sc_sets_of (fun vs H Q E h => ?_) (fun cdv A outer s H vs Q E hr h => ?_), He.glo_ok T.X T.G (T.t.fact 7), F.kp, F.bindsN fun _ _ _ _ _ _ us hl => match us, hl with | [_], _ => rfl⟩
  · obtain ⟨p, xs, rfl, _⟩ := h
    rfl
  · obtain ⟨p, xs, rfl, hp, hl, k⟩ := h
    refine ⟨_, PSs.nox (pss_cons (ps_set (i := 1) sc_sets_of.nd rfl (Or.inl rfl) (pe_lst (pa_cons (pe_lst pa_nil) pa_nil)))
    (pss_cons (ps_for PassesOwn.never rfl (pi_list (pv 0)) (pg_name (i := 2) sc_sets_of.nd rfl (Or.inr rfl))
      (pss_one (ps_set (i := 1) sc_sets_of.nd rfl (Or.inl rfl) (pe_op op_cat (pv 1) (pe_lc (own := [("numbers", 3)]) (g := gName 3) rfl sc_sets_of.nd (pi_list (pv 1)) (blkOk_by (N := ["roster", "sets", "number", "numbers"]) (sc := defScope s_sets_of) (own := [("numbers", 3)]) (by decide +kernel)) (fun _ _ _ _ _ => pg_name (i := 3) sc_sets_of.nd rfl (Or.inl rfl)) (fun _ _ _ _ _ => pts_nil) (fun _ _ _ _ _ => by exact (pe_lst (pa_starK (K := K) rfl (pv 3) (pa_cons (pv 2) pa_nil)))))))))
    (pss_one (ps_ret (pe_callB (cr_sortedO hr.u65) (by rfl) (n_sorted T) (by decide +kernel) (pa_cons (pv 1) pa_nil)))))), ?_⟩
    refine ⟨Nat.zero_le _, fun p1 hp1 => ⟨by show 1 ≤ sizeLine; decide, fun p2 hp2 => ?_⟩⟩
    have g0 : Frm [] H (upd (upd H p1 (.lst [])) p2 (.lst [.ref p1])) := (Frm.of (same_upd hp1)).trans (Frm.of (same_upd hp2))
    refine ⟨_, rfl, p, rfl, ⟨_, SqL.of (g0.k _ _ hp rfl (by simp))⟩, for_list (K := K) (a := p) (xs := xs.map V.str) (fun i σ H' => ∃ (pf : Addr) (v2 v3 : Option V) (zs : List (Addr × List Str)), σ = [some (.ref p), some (.ref pf), v2, v3] ∧ H pf = none ∧ SZ H' pf zs ∧ zs.map (·.2) = setsS (xs.take i) ∧ (∀ z ∈ zs, H z.1 = none) ∧ Frm [] H H')
      ⟨p2, none, none, [(p1, [])], rfl, upd_back hp2, ⟨upd_same, fun z hz => by rw [List.mem_singleton.mp hz]; exact same_upd hp2 _ _ upd_same⟩, rfl, fun z hz => by rw [List.mem_singleton.mp hz]; exact hp1, g0⟩ (fun i σ H' _ ⟨_, _, _, _, _, _, _, _, _, f⟩ => SqL.of (f.k _ _ hp rfl (by simp))) ?_ ?_⟩
    · rintro i y σ H1 hi ⟨pf, v2, v3, zs, rfl, hpf, sz, es, zn, f1⟩
      obtain ⟨x, hx, rfl⟩ := at_map hi
      have hi2 := (List.getElem?_eq_some_iff.mp hx).1
      have zl : zs.length ≤ 128 := by
        have := congrArg List.length es
        rw [List.length_map, sets_len, List.length_take] at this
        rw [this]
        exact Nat.le_trans (Nat.pow_le_pow_right (by decide) (show min i xs.length ≤ 7 by omega)) (by decide)
      refine ⟨_, rfl, _, rfl, pf, rfl, ⟨_, SqL.of sz.1⟩, fun D hD => ?_⟩
      have gD : Frm [] H1 (upd H1 D (.lst [])) := Frm.of (same_upd hD)
      refine lc_list (K := K) (a := pf) (xs := zs.map fun z => V.ref z.1) (fun j H' => ∃ us : List (Addr × List Str), SZ H' D us ∧ us.map (·.2) = ((zs.take j).map (·.2)).map (· ++ [x]) ∧ (∀ u ∈ us, u.1 ≠ D ∧ H1 u.1 = none) ∧ Frm [] H1 H')
        ⟨[], ⟨upd_same, fun z hz => absurd hz (by simp)⟩, rfl, fun u hu => absurd hu (by simp), gD⟩ (fun j H' _ ⟨_, _, _, _, f⟩ => SqL.of (f.k _ _ sz.1 rfl (by simp))) ?_ ?_
      · rintro j y H2 hj ⟨us, su, eu, nu, f2⟩
        obtain ⟨z, hz, rfl⟩ := at_sz hj
        have hz2 := f2.k _ _ (sz.2 z (List.mem_of_getElem? hz)) rfl (by simp)
        have hj2 := (List.getElem?_eq_some_iff.mp hz).1
        have zx : z.2.length ≤ 8 := by
          have m : z.2 ∈ setsS (xs.take i) := by
            rw [← es]
            exact List.mem_map.mpr ⟨z, List.mem_of_getElem? hz, rfl⟩
          have := (mem_sets.mp m).length_le
          rw [List.length_take] at this
          omega
        have lu : us.length ≤ 128 := by
          have := congrArg List.length eu
          rw [List.length_map, List.length_map, List.length_map, List.length_take] at this
          omega
        refine ⟨rfl, _, rfl, z.1, _, rfl, .inr (SqL.of hz2), _, rfl, ?_, fun t ht => ?_⟩
        · rw [List.length_append, List.length_map]
          exact size12 (by show z.2.length + 1 ≤ 100; omega)
        have f3 : Frm [] H2 (upd H2 t (.lst (z.2.map V.str ++ [.str x]))) := Frm.of (same_upd ht)
        have eD := f3.k _ _ su.1 rfl (by simp)
        have nt : t ≠ D := Ne.symm (ne_of_none su.1 ht)
        refine ⟨_, eD, by rw [List.length_map]; exact small1000 (by omega), us ++ [(t, z.2 ++ [x])], su.snoc f3 (by rw [upd_same, List.map_append]; rfl) nt (fun u hu => (nu u hu).1), ?_, fun u hu => ?_, (f2.trans f3).new hD⟩
        · rw [List.map_append, eu, take_snoc hz, List.map_append, List.map_append]
          rfl
        · rcases List.mem_append.mp hu with c | c
          · exact nu u c
          · rw [List.mem_singleton.mp c]
            exact ⟨nt, f2.b _ ht⟩
      · rintro H2 ⟨us, su, eu, nu, f2⟩
        rw [List.length_map, List.take_length] at eu
        have lu : us.length ≤ 128 := by
          have := congrArg List.length eu
          rw [List.length_map, List.length_map, List.length_map] at this
          omega
        have sz2 := sz.keep f2
        refine ⟨pf, D, _, _, rfl, rfl, sz2.1, su.1, by rw [List.length_map, List.length_map]; exact Nat.le_of_lt (small1000 (by omega)), fun t ht => ?_⟩
        have g3 : Frm [] H2 (upd H2 t (.lst ((zs.map fun z => V.ref z.1) ++ us.map fun z => V.ref z.1))) := Frm.of (same_upd ht)
        refine ⟨t, _, _, zs ++ us, rfl, f1.b _ (f2.b _ ht), ⟨by rw [upd_same, List.map_append], fun z hz => ?_⟩, ?_, fun z hz => (List.mem_append.mp hz).elim (zn z) fun c => f1.b _ (nu z c).2, f1.trans (f2.trans g3)⟩
        · rcases List.mem_append.mp hz with c | c
          · exact g3.k _ _ (sz2.2 z c) rfl (by simp)
          · exact g3.k _ _ (su.2 z c) rfl (by simp)
        · rw [List.map_append, sets_take hx, eu, es]
    · rintro σ H1 ⟨pf, v2, v3, zs, rfl, hpf, sz, es, zn, f1⟩
      rw [List.length_map, List.take_length] at es
      have ok : ∀ s ∈ zs.map (·.2), s.length ≤ 8 := fun s hs => by
        rw [es] at hs
        exact Nat.le_trans (mem_sets.mp hs).length_le hl
      refine ⟨_, rfl, pf, _, (zs.map (·.2)).map fun s => .list (s.map .str), rfl, SqL.of sz.1, ?_, ?_, ?_, ?_, fun q hq => ?_⟩
      · exact dp_sets sz.2
      · exact al_sets _
      · refine .inr fun d hd => ?_
        obtain ⟨s, _, rfl⟩ := List.mem_map.mp hd
        exact ⟨(fun e => by cases e), fun _ e => by cases e⟩
      · intro d hd
        obtain ⟨s, _, rfl⟩ := List.mem_map.mp hd
        exact Nat.le_trans (depth_strs s) (by decide)
      · rw [sort_refs]
        have g3 : Frm [] H1 (upd H1 q (.lst ((zs.mergeSort leZ).map fun z => V.ref z.1))) := Frm.of (same_upd hq)
        exact k q (zs.mergeSort leZ) _ (f1.b _ hq) ⟨upd_same, fun z hz => g3.k _ _ (sz.2 z (List.mem_mergeSort.mp hz)) rfl (by simp)⟩ (by rw [sort_snd, es]) (fun z hz => zn z (List.mem_mergeSort.mp hz)) (f1.trans g3)
end
end B

set_option Elab.async false
set_option linter.all false
set_option maxRecDepth 100000
set_option maxHeartbeats 2000000
/-! itertools.combinations(list, r): made, walked -/
namespace Cmk
open PySem PySem.Spec
open Sem (wp)
theorem mro_c : mroOf (.type "itertools.combinations") = pure [.type "itertools.combinations", .type "object"] := by rw [mroOf_type]; kernel_rfl
theorem lookup_c_new : typeLookup (.type "itertools.combinations") "__new__" = pure (some (.builtin "itertools.combinations.__new__")) := by rw [typeLookup_type, builtinLookup_eq_fast]; kernel_rfl
theorem slot_c_init : Slot "itertools.combinations" "__init__" "object.__init__" :=
  .of (owner := "object") (n := "__init__") (by rw [typeLookup_type, builtinLookup_eq_fast]; kernel_rfl) (by decide +kernel) (by decide +kernel) (by decide +kernel)
    (by first | exact .inl (by decide +kernel) | exact .inr (by decide +kernel)) (by rw [isSubtype_type]; kernel_rfl)
theorem sub_c : isSubtype (.type "itertools.combinations") (.type "itertools.combinations") = pure true := by rw [isSubtype_type]; kernel_rfl
theorem called_c : TypeCalled "itertools.combinations" "itertools.combinations.__new__" "object.__init__" :=
  ⟨by decide +kernel, by decide +kernel, ⟨_, _, mro_c⟩, madeBy_type mro_c lookup_c_new (by decide +kernel), by decide +kernel, sub_c, slot_c_init⟩
theorem typeCall_c (a b : Value) : checkTypeCall "itertools.combinations" ⟨[a, b], []⟩ = pure () := by kernel_rfl
theorem newCall_c (a b : Value) : checkBuiltinCall "itertools.combinations.__new__" ⟨[.type "itertools.combinations", a, b], []⟩ = pure () := by kernel_rfl
theorem entry_c_new : entryFor table "itertools.combinations.__new__" = some Builtin.«itertools.combinations.__new__» := entryFor_of_tree (by kernel_rfl)
theorem slot_c_iter : Slot "itertools.combinations" "__iter__" "itertools.combinations.__iter__" :=
  .of (owner := "itertools.combinations") (n := "__iter__") (by rw [typeLookup_type, builtinLookup_eq_fast]; kernel_rfl) (by decide +kernel) (by decide +kernel) (by decide +kernel)
    (by first | exact .inl (by decide +kernel) | exact .inr (by decide +kernel)) sub_c
theorem slot_c_next : Slot "itertools.combinations" "__next__" "itertools.combinations.__next__" :=
  .of (owner := "itertools.combinations") (n := "__next__") (by rw [typeLookup_type, builtinLookup_eq_fast]; kernel_rfl) (by decide +kernel) (by decide +kernel) (by decide +kernel)
    (by first | exact .inl (by decide +kernel) | exact .inr (by decide +kernel)) sub_c
theorem entry_c_iter : entryFor table "itertools.combinations.__iter__" = some Builtin.«dict_keyiterator.__iter__» :=
  entryFor_alias (id' := "dict_keyiterator.__iter__") (by kernel_rfl) (by first | rfl | decide +kernel | (unfold String.splitOn; simp +decide [String.splitOnAux])) (by decide +kernel) (by kernel_rfl)
theorem entry_c_next : entryFor table "itertools.combinations.__next__" = some Builtin.«itertools.combinations.__next__» := entryFor_of_tree (by kernel_rfl)
theorem owner_c : Manifest.owners.lookup (String.ofList ['s', 'n', 'o', 'i', 't', 'a', 'n', 'i', 'b', 'm', 'o', 'c', '.', 's', 'l', 'o', 'o', 't', 'r', 'e', 't', 'i'].reverse) = some Manifest.sig_itertools_combinations := by kernel_rfl
theorem args_c_iter (a : Value) : argsOk "itertools.combinations.__iter__" ⟨[a], []⟩ := by
  unfold argsOk; rw [signature?_of (id := "itertools.combinations.__iter__") (n := ['_', '_', 'r', 'e', 't', 'i', '_', '_']) (o := ['s', 'n', 'o', 'i', 't', 'a', 'n', 'i', 'b', 'm', 'o', 'c', '.', 's', 'l', 'o', 'o', 't', 'r', 'e', 't', 'i']) (by kernel_rfl) owner_c]; kernel_rfl
theorem args_c_next (a : Value) : argsOk "itertools.combinations.__next__" ⟨[a], []⟩ := by
  unfold argsOk; rw [signature?_of (id := "itertools.combinations.__next__") (n := ['_', '_', 't', 'x', 'e', 'n', '_', '_']) (o := ['s', 'n', 'o', 'i', 't', 'a', 'n', 'i', 'b', 'm', 'o', 'c', '.', 's', 'l', 'o', 'o', 't', 'r', 'e', 't', 'i']) (by kernel_rfl) owner_c]; kernel_rfl
theorem noDict_c : typeHasDict (.type "itertools.combinations") = false := by decide +kernel
/-- the record: its pool, whether begun (0, 1) or at its end (2), what was told last, the places -/
abbrev IsC (h : Heap) (it pool : Addr) (st : Int) (last : Value) (ix : List Nat) : Prop := h.get? it = some { cls := .type "itertools.combinations", dict := none, data := .fields ([.ref pool, rawInt st, last] ++ ix.map fun (i : Nat) => rawInt i).toArray, slots := #[] }
end Cmk

set_option Elab.async false
set_option linter.all false
set_option maxRecDepth 100000
set_option maxHeartbeats 2000000
namespace Cmk
open PySem PySem.Spec
open Sem (wp)
open AutoSeq1 (wpAny_loadPart')
theorem cls_c (a b : Value) : Builtin.Itertools.itClassAndRest "combinations" ⟨[.type "itertools.combinations", a, b], []⟩ = pure (.type "itertools.combinations", [a, b]) := by
  unfold Builtin.Itertools.itClassAndRest
  show ((isType (.type "itertools.combinations") >>= _) : Sem _) = _
  rw [show isType (.type "itertools.combinations") = pure true from rfl]
  show ((isSubtype (.type "itertools.combinations") (.type "itertools.combinations") >>= _) : Sem _) = _
  rw [sub_c]
  rfl
theorem named_c (a b : Value) : Builtin.Itertools.itBindNamed "combinations" ["iterable", "r"] 2 2 [a, b] [] = pure [some a, some b] := by
  rfl
theorem ssize_c (r : Nat) (t : Tok) (h : r ≤ 1000000) : Builtin.Itertools.itSsizeArg (.int (r : Int) t) = pure (r : Int) := by
  unfold Builtin.Itertools.itSsizeArg
  show (if (decide ((r : Int) < -(2 ^ 63 : Int)) || decide ((r : Int) ≥ 2 ^ 63)) = true then _ else _ : Sem Int) = _
  rw [if_neg (by rw [decide_eq_false (by omega), decide_eq_false (by omega)]; simp)]
/-- the record as it is made -/
theorem meets_c_new {prog : Program} {w : World} (l : Addr) (o : Obj) (items : Array Value) (n : Nat) (r : Nat) (t : Tok) (hc : o.cls = .type "list") (hd : o.data = .seq items n) (hsz : items.size ≤ sizeLine) (hr : r ≤ items.size) (hr2 : r ≤ 1000000) :
    MeetsIn prog w (Builtin.«itertools.combinations.__new__» ⟨[.type "itertools.combinations", .ref l, .int (r : Int) t], []⟩)
      (fun _ R s => s.heap.get? l = some o ∧ ∀ (h' : Heap) (it pool : Addr) , s.heap.objs.size ≤ it → s.heap.objs.size ≤ pool → it ≠ pool → (∀ b o', s.heap.get? b = some o' → h'.get? b = some o') → h'.get? pool = some { cls := .type "tuple", data := .seq items } →
        IsC h' it pool 0 .none (List.range r) → R (.ok (.ret (.ref it))) { s with heap := h' }) :=
  MeetsIn.of_wp fun A R s h => by
    obtain ⟨hp, g, dd, tk, os⟩ := s
    obtain ⟨ho, h⟩ := h
    have hdd := noDict_c
    refine wpAny_bind ?_
    show wpAny _ _ (Builtin.Itertools.itClassAndRest "combinations" ⟨[.type "itertools.combinations", .ref l, .int (r : Int) t], []⟩ >>= _) _ _ _
    rw [cls_c]
    refine wpAny_bind (wpAny_pure ?_)
    show wpAny _ _ (Builtin.Itertools.itBindNamed "combinations" ["iterable", "r"] 2 2 [.ref l, .int (r : Int) t] [] >>= _) _ _ _
    rw [named_c]
    refine wpAny_bind (wpAny_pure ?_)
    show wpAny _ _ (Builtin.Itertools.itSsizeArg (.int (r : Int) t) >>= _) _ _ _
    rw [ssize_c r t hr2]
    refine wpAny_bind (wpAny_pure ?_)
    refine wpAny_bind (PyProof.Rows.collect_list (vs := items.toList) ⟨o, ho, hc, n, by simpa using hd⟩ ?_ (by simpa using hsz))
    show wpAny _ _ _ _ _ { heap := (hp.push (PyProof.Rows.seqObj "list" #[] 0)).update hp.objs.size (Obj.mapSeq (· ++ items.toList.toArray)), gens := g, drawn := dd, toks := tk, os := os }
    generalize hh1 : (hp.push (PyProof.Rows.seqObj "list" #[] 0)).update hp.objs.size (Obj.mapSeq (· ++ items.toList.toArray)) = h1
    have hsz1 : hp.objs.size ≤ h1.objs.size := by
      rw [← hh1, Heap.size_update, Heap.size_push]
      exact Nat.le_succ _
    have k1 : ∀ b o', hp.get? b = some o' → h1.get? b = some o' := fun b o' e => by
      rw [← hh1]
      exact (Heap.get?_update_other _ _ (Nat.ne_of_gt (Heap.lt_size e))).trans (Heap.get?_push_of_some _ e)
    show wpAny _ _ (if ((r : Int) < 0) then _ else _) _ _ _
    rw [if_neg (by omega)]
    show wpAny _ _ (if (Builtin.Itertools.itTooMany (r : Int)) = true then _ else _) _ _ _
    rw [if_neg (by unfold Builtin.Itertools.itTooMany; simp; omega)]
    show wpAny _ _ (newTuple items.toList >>= _) _ _ _
    simp only [newTuple]
    refine wpAny_bind (wpAny_newObj_type ?_ (by show items.toList.length ≤ _; simpa using hsz))
    refine wpAny_pure ?_
    show wpAny _ _ (Builtin.Itertools.itNewRecord (.type "itertools.combinations") ([.ref h1.objs.size, rawInt (if (r : Int).toNat > items.toList.length then 2 else 0), .none] ++ List.map (fun i : Nat => rawInt (i : Int)) (List.range (r : Int).toNat)) >>= _) _ _ _
    rw [if_neg (by simp; omega), Int.toNat_natCast]
    unfold Builtin.Itertools.itNewRecord
    rw [hdd]
    simp only [Bool.not_false, if_true]
    refine wpAny_bind (wpAny_newObj_type ?_ ?_)
    · refine wpAny_pure ⟨_, rfl, h _ _ h1.objs.size ?_ ?_ ?_ ?_ ?_ ?_⟩
      · show hp.objs.size ≤ (h1.push _).objs.size
        rw [Heap.size_push]
        exact Nat.le_succ_of_le hsz1
      · exact hsz1
      · show (h1.push _).objs.size ≠ h1.objs.size
        rw [Heap.size_push]
        exact Nat.succ_ne_self _
      · exact fun b o' e => Heap.get?_push_of_some _ (Heap.get?_push_of_some _ (k1 b o' e))
      · refine Heap.get?_push_of_some _ ((Heap.get?_push_size _ rfl).trans ?_)
        simp
      · exact Heap.get?_push_size _ rfl
    · show (List.toArray _).size ≤ _
      simp
      exact Nat.le_trans (Nat.succ_le_succ hr2) (show 1000001 ≤ sizeLine by decide)
section
variable {prog : Program} {w : World} {A : Around} {E : Value → Shared → Prop} {s : Shared}
theorem call_c {l : Addr} {items : Array Value} {r : Nat} {t : Tok} {Q : Value → Shared → Prop} (hl : s.heap.IsList l items) (hsz : items.size ≤ sizeLine) (hr : r ≤ items.size) (hr2 : r ≤ 1000000)
    (h : ∀ (h' : Heap) (it pool : Addr), s.heap.objs.size ≤ it → s.heap.objs.size ≤ pool → it ≠ pool → (∀ b o', s.heap.get? b = some o' → h'.get? b = some o') → h'.get? pool = some { cls := .type "tuple", data := .seq items } →
      IsC h' it pool 0 .none (List.range r) → Q (.ref it) { s with heap := h' }) :
    wpAny (model prog w) A (call (.type "itertools.combinations") [.ref l, .int (r : Int) t]) Q E s := by
  obtain ⟨o, ho, hc, n, hd⟩ := hl
  refine callType_newIn called_c (by decide +kernel) (typeCall_c _ _) (newCall_c _ _) (fun obj => F.args_object_init_3 obj _ _) entry_c_new (meets_c_new l o items n r t hc hd hsz hr hr2) ⟨ho, fun h' it pool e1 e2 e3 e4 e5 e6 => ?_⟩
  show _ ∧ _
  exact ⟨⟨_, e6, rfl⟩, h h' it pool e1 e2 e3 e4 e5 e6⟩
theorem iter_c {it pool : Addr} {st : Int} {last : Value} {ix : List Nat} {Q : Value → Shared → Prop} (hit : IsC s.heap it pool st last ix) (h : Q (.ref it) s) : wpAny (model prog w) A (pyIter (.ref it)) Q E s := by
  have hT : s.TypeIs (.ref it) "itertools.combinations" := ⟨_, hit, rfl⟩
  refine wpAny_pyIter_slot hT slot_c_iter (wpAny_call_entry slot_c_iter hT entry_c_iter ?_ (args_c_iter _))
  show wpAny _ _ (ret (.ref it)) _ _ s
  exact wpAny_pure ⟨_, rfl, "itertools.combinations", _, hT, slot_c_next.lookup, h⟩
end
end Cmk

set_option Elab.async false
set_option linter.all false
set_option maxRecDepth 100000
set_option maxHeartbeats 2000000
namespace Cmk
open PySem PySem.Spec
open Sem (wp)
/-- the place that can go up -/
def canUp (n : Nat) (ix : List Nat) (i : Nat) : Bool := ix.getD i 0 != i + n - ix.length
/-- the places after these -/
def upC (n : Nat) (ix : List Nat) : Option (List Nat) := ((List.range ix.length).reverse.find? (canUp n ix)).map fun i => ix.take i ++ (List.range (ix.length - i)).map (ix.getD i 0 + 1 + ·)
def tellC (items : Array Value) (ix : List Nat) : List Value := ix.map fun i => items.getD i .none
section
variable {prog : Program} {w : World} {A : Around} {E : Value → Shared → Prop} {s : Shared}
theorem nums_c {it pool : Addr} {st : Int} {last : Value} {ix : List Nat} {Q : List Nat → Shared → Prop} (hit : IsC s.heap it pool st last ix) (h : Q ix s) : wpAny (model prog w) A (Builtin.Itertools.itNumbersFrom (.ref it) 3) Q E s := by
  show wpAny _ _ (load it >>= _) _ _ s
  refine wpAny_bind (wpAny_load hit ?_)
  refine wpAny_pure ?_
  refine (congrArg (fun l => Q l s) ?_).mpr h
  show List.map _ (ix.map fun (i : Nat) => rawInt (i : Int)) = ix
  rw [List.map_map]
  exact (List.map_congr_left fun i _ => rfl).trans (List.map_id ix)
theorem some_c {o : Option (List Nat)} {ix' : List Nat} {K : List Nat → Sem Fin} {N : Sem Fin} {Q : Fin → Shared → Prop} (ho : o = some ix') (h : wpAny (model prog w) A (K ix') Q E s) : wpAny (model prog w) A (match o with | some next => K next | none => N) Q E s := by
  subst ho
  exact h
theorem none_c {o : Option (List Nat)} {K : List Nat → Sem Fin} {N : Sem Fin} {Q : Fin → Shared → Prop} (ho : o = none) (h : wpAny (model prog w) A N Q E s) : wpAny (model prog w) A (match o with | some next => K next | none => N) Q E s := by
  subst ho
  exact h
/-- told: a tuple of the items at these places -/
theorem hand_c {it pool : Addr} {last : Value} {ix : List Nat} {items : Array Value} {Q : Fin → Shared → Prop} (hit : IsC s.heap it pool 1 last ix) (hp : s.heap.get? pool = some { cls := .type "tuple", data := .seq items }) (hne : it ≠ pool) (hl : ix.length ≤ 1000)
    (hQ : ∀ (h' : Heap) (t : Addr), s.heap.objs.size ≤ t → h'.get? t = some { cls := .type "tuple", data := .seq (tellC items ix).toArray } → IsC h' it pool 1 (.ref t) ix → (∀ b o, b ≠ it → s.heap.get? b = some o → h'.get? b = some o) → Q (.done (.ret (.ref t))) { s with heap := h' }) :
    wpAny (model prog w) A (do
      let result ← (do
        let items ← Builtin.Itertools.itPoolItems (.ref pool)
        newTuple (ix.map fun i => items.getD i .none))
      let before ← field (.ref it) 2
      setField (.ref it) 2 result
      letGo [before] [result]
      ret result) Q E s := by
  refine wpAny_bind ?_
  show wpAny _ _ ((seqItems? (.ref pool) >>= _) >>= _) _ _ s
  refine wpAny_bind (wpAny_bind (wpAny_seqItems hp rfl (wpAny_pure ?_)))
  simp only [newTuple]
  refine wpAny_newObj_type ?_ (by show (tellC items ix).length ≤ _; unfold tellC; rw [List.length_map]; exact Nat.le_trans hl (by decide))
  have hit1 : IsC (s.heap.push { cls := .type "tuple", data := .seq (tellC items ix).toArray }) it pool 1 last ix := Heap.get?_push_of_some _ hit
  refine wpAny_bind (wpAny_field hit1 rfl (x := last) rfl ?_)
  refine wpAny_bind (wpAny_setField_rec hit1 (by simp) fun h2 hit2 sb => ?_)
  refine wpAny_bind (wpAny_letGo ?_)
  have ne : s.heap.objs.size ≠ it := Nat.ne_of_gt (Heap.lt_size hit)
  exact wpAny_pure (hQ h2 s.heap.objs.size (Nat.le_refl _) ((sb.2 _ ne).trans (Heap.get?_push_size _ rfl)) hit2 fun b o hb e => (sb.2 b hb).trans (Heap.get?_push_of_some _ e))
theorem first_c {it pool : Addr} {last : Value} {ix : List Nat} {items : Array Value} {Q : Option Value → Shared → Prop} (hit : IsC s.heap it pool 0 last ix) (hp : s.heap.get? pool = some { cls := .type "tuple", data := .seq items }) (hne : it ≠ pool) (hl : ix.length ≤ 1000)
    (hQ : ∀ (h' : Heap) (t : Addr), s.heap.objs.size ≤ t → h'.get? t = some { cls := .type "tuple", data := .seq (tellC items ix).toArray } → IsC h' it pool 1 (.ref t) ix → (∀ b o, b ≠ it → s.heap.get? b = some o → h'.get? b = some o) → Q (some (.ref t)) { s with heap := h' }) : wpAny (model prog w) A (callSpecial? (.ref it) "__next__") Q E s := by
  have hT : s.TypeIs (.ref it) "itertools.combinations" := ⟨_, hit, rfl⟩
  refine wpAny_callSpecial?_slot (name := Str.ofString "__next__") hT slot_c_next (wpAny_call_entry slot_c_next hT entry_c_next ?_ (args_c_next _))
  show wpAny _ _ (field (.ref it) 0 >>= _) _ _ s
  refine wpAny_bind (wpAny_field hit rfl (x := .ref pool) rfl ?_)
  refine wpAny_bind (nums_c hit ?_)
  refine wpAny_bind ?_
  show wpAny _ _ (field (.ref it) 1 >>= _) _ _ s
  refine wpAny_bind (wpAny_field hit rfl (x := rawInt 0) rfl (wpAny_pure ?_))
  show wpAny _ _ (setField (.ref it) 1 (rawInt 1) >>= _) _ _ s
  refine wpAny_bind (wpAny_setField_rec hit (by simp) fun h1 hit1 sb => ?_)
  have hp1 : h1.get? pool = some { cls := .type "tuple", data := .seq items } := (sb.2 _ hne.symm).trans hp
  refine hand_c (s := { s with heap := h1 }) hit1 hp1 hne hl fun h2 t e1 e2 e3 e4 => ?_
  exact ⟨_, rfl, hQ h2 t (by rw [← sb.1]; exact e1) e2 e3 fun b o hb e => e4 b o hb ((sb.2 b hb).trans e)⟩
theorem next_c {it pool : Addr} {last : Value} {ix ix' : List Nat} {items : Array Value} {Q : Option Value → Shared → Prop} (hit : IsC s.heap it pool 1 last ix) (hp : s.heap.get? pool = some { cls := .type "tuple", data := .seq items }) (hne : it ≠ pool) (hl : ix.length ≤ 1000) (hl' : ix'.length ≤ 1000) (hu : upC items.size ix = some ix')
    (hQ : ∀ (h' : Heap) (t : Addr), s.heap.objs.size ≤ t → h'.get? t = some { cls := .type "tuple", data := .seq (tellC items ix').toArray } → IsC h' it pool 1 (.ref t) ix' → (∀ b o, b ≠ it → s.heap.get? b = some o → h'.get? b = some o) → Q (some (.ref t)) { s with heap := h' }) : wpAny (model prog w) A (callSpecial? (.ref it) "__next__") Q E s := by
  have hT : s.TypeIs (.ref it) "itertools.combinations" := ⟨_, hit, rfl⟩
  refine wpAny_callSpecial?_slot (name := Str.ofString "__next__") hT slot_c_next (wpAny_call_entry slot_c_next hT entry_c_next ?_ (args_c_next _))
  show wpAny _ _ (field (.ref it) 0 >>= _) _ _ s
  refine wpAny_bind (wpAny_field hit rfl (x := .ref pool) rfl ?_)
  refine wpAny_bind (nums_c hit ?_)
  refine wpAny_bind ?_
  show wpAny _ _ (field (.ref it) 1 >>= _) _ _ s
  refine wpAny_bind (wpAny_field hit rfl (x := rawInt 1) rfl (wpAny_pure ?_))
  show wpAny _ _ (Builtin.Itertools.itPoolItems (.ref pool) >>= _) _ _ s
  refine wpAny_bind ?_
  show wpAny _ _ (seqItems? (.ref pool) >>= _) _ _ s
  refine wpAny_bind (wpAny_seqItems hp rfl (wpAny_pure ?_))
  have go : ∀ {o : Option (List Nat)}, (o = match (List.range ix.length).reverse.find? (fun i => ix.getD i 0 != i + items.size - ix.length) with | none => none | some i => some (ix.take i ++ (List.range (ix.length - i)).map (ix.getD i 0 + 1 + ·))) → o = upC items.size ix := fun {o} e => by
    rw [e]
    unfold upC canUp
    cases (List.range ix.length).reverse.find? (fun i => ix.getD i 0 != i + items.size - ix.length) <;> rfl
  refine some_c (ix' := ix') ((go rfl).trans hu) ?_
  show wpAny _ _ (Builtin.Itertools.itSetNumbersFrom (.ref it) 3 ix' >>= _) _ _ s
  refine wpAny_bind ?_
  show wpAny _ _ (updateFields it fun fs => fs.extract 0 3 ++ (ix'.map fun (n : Nat) => rawInt (n : Int)).toArray) _ _ s
  refine wpAny_updateFields hit rfl ?_ ?_
  · have sb : Heap.SameBut it s.heap (s.heap.update it (Obj.mapFields fun fs => fs.extract 0 3 ++ (ix'.map fun (n : Nat) => rawInt (n : Int)).toArray)) := Heap.SameBut.update ..
    have hit1 : IsC (s.heap.update it (Obj.mapFields fun fs => fs.extract 0 3 ++ (ix'.map fun (n : Nat) => rawInt (n : Int)).toArray)) it pool 1 last ix' := by
      refine (Heap.get?_update_self _ hit rfl).trans ?_
      simp [Obj.mapFields]
    have hp1 := (sb.2 _ hne.symm).trans hp
    refine hand_c (s := { s with heap := s.heap.update it (Obj.mapFields fun fs => fs.extract 0 3 ++ (ix'.map fun (n : Nat) => rawInt (n : Int)).toArray) }) hit1 hp1 hne hl' fun h2 t e1 e2 e3 e4 => ?_
    exact ⟨_, rfl, hQ h2 t (by rw [← sb.1]; exact e1) e2 e3 fun b o hb e => e4 b o hb ((sb.2 b hb).trans e)⟩
  · simp
    exact Nat.le_trans hl' (by decide)
/-- the end -/
theorem end_c {it pool : Addr} {last : Value} {ix : List Nat} {items : Array Value} {Q : Option Value → Shared → Prop} (hh : A.handled = none) (hit : IsC s.heap it pool 1 last ix) (hp : s.heap.get? pool = some { cls := .type "tuple", data := .seq items }) (hu : upC items.size ix = none)
    (hQ : ∀ h' : Heap, (∀ b o, b ≠ it → s.heap.get? b = some o → h'.get? b = some o) → Q none { s with heap := h' }) : wpAny (model prog w) A (pyNext (.ref it)) Q E s := by
  have hT : s.TypeIs (.ref it) "itertools.combinations" := ⟨_, hit, rfl⟩
  unfold pyNext
  refine wpAny_bind (wpAny_attempt (wpAny_callSpecial?_slot (name := Str.ofString "__next__") hT slot_c_next (wpAny_call_entry slot_c_next hT entry_c_next ?_ (args_c_next _))))
  show wpAny _ _ (field (.ref it) 0 >>= _) _ _ s
  refine wpAny_bind (wpAny_field hit rfl (x := .ref pool) rfl ?_)
  refine wpAny_bind (nums_c hit ?_)
  refine wpAny_bind ?_
  show wpAny _ _ (field (.ref it) 1 >>= _) _ _ s
  refine wpAny_bind (wpAny_field hit rfl (x := rawInt 1) rfl (wpAny_pure ?_))
  show wpAny _ _ (Builtin.Itertools.itPoolItems (.ref pool) >>= _) _ _ s
  refine wpAny_bind ?_
  show wpAny _ _ (seqItems? (.ref pool) >>= _) _ _ s
  refine wpAny_bind (wpAny_seqItems hp rfl (wpAny_pure ?_))
  have go : ∀ {o : Option (List Nat)}, (o = match (List.range ix.length).reverse.find? (fun i => ix.getD i 0 != i + items.size - ix.length) with | none => none | some i => some (ix.take i ++ (List.range (ix.length - i)).map (ix.getD i 0 + 1 + ·))) → o = upC items.size ix := fun {o} e => by
    rw [e]
    unfold upC canUp
    cases (List.range ix.length).reverse.find? (fun i => ix.getD i 0 != i + items.size - ix.length) <;> rfl
  refine none_c ((go rfl).trans hu) ?_
  show wpAny _ _ (setField (.ref it) 1 (rawInt 2) >>= _) _ _ s
  refine wpAny_bind (wpAny_setField_rec hit (by simp) fun h1 hit1 sb => ?_)
  show wpAny _ _ (newExc (.type "StopIteration") [] >>= _) _ _ _
  refine wpAny_bind ?_
  simp only [newExc, newTuple]
  refine wpAny_bind (wpAny_newObj_type ?_ (by size_fits))
  refine wpAny_bind (m := firstArgMember _ _) (wpAny_of_eq (a := Value.none) (by first | rfl | (simp only [firstArgMember]; rfl)) ?_)
  refine wpAny_newObj_type ?_ (by size_fits)
  simp only [raiseNew]
  refine wpAny_bind (wpAny_handled ?_)
  first | rw [show A.in1.handled = none from hh] | rw [hh]
  refine wpAny_bind (wpAny_pure (wpAny_throw ?_))
  refine wpAny_bind (wpAny_isInstance (T := "StopIteration") (b := true) ⟨_, Heap.get?_push_size _ rfl, rfl⟩ isSubtype_stop ?_)
  exact wpAny_pure (hQ _ fun b o hb e => Heap.get?_push_of_some _ (Heap.get?_push_of_some _ ((sb.2 b hb).trans e)))
theorem pynext_c {it : Addr} {Q : Option Value → Shared → Prop} (h : wpAny (model prog w) A (callSpecial? (.ref it) "__next__") (fun r s' => ∃ v, r = some v ∧ Q (some v) s') (fun _ _ => False) s) : wpAny (model prog w) A (pyNext (.ref it)) Q E s := by
  unfold pyNext
  refine wpAny_bind (wpAny_attempt (wpAny_mono h (fun r s' ⟨v, e, q⟩ => ?_) fun _ _ z => z.elim))
  subst e
  exact wpAny_pure q
end
end Cmk

set_option Elab.async false
set_option linter.all false
set_option maxRecDepth 100000
set_option maxHeartbeats 2000000
namespace Cmk
open PySem PySem.Spec PyProof.Rows L2
/-- the places as they come -/
def seqC (n r : Nat) : Nat → Option (List Nat)
  | 0 => some (List.range r)
  | i + 1 => (seqC n r i).bind (upC n)
structure GoodC (n r : Nat) (ix : List Nat) : Prop where
  len : ix.length = r
  le : ∀ j, j < r → ix.getD j 0 + r ≤ j + n
theorem up_good {n r : Nat} {ix ix' : List Nat} (hr : r ≤ n) (g : GoodC n r ix) (h : upC n ix = some ix') : GoodC n r ix' := by
  unfold upC at h
  obtain ⟨i, hi, rfl⟩ := Option.map_eq_some_iff.mp h
  have hc := List.find?_some hi
  have hm := List.mem_of_find?_eq_some hi
  have hlt : i < ix.length := by simpa using hm
  unfold canUp at hc
  have hne : ix.getD i 0 ≠ i + n - ix.length := by simpa using hc
  have gi := g.le i (by rw [← g.len]; exact hlt)
  have gl := g.len
  refine ⟨?_, fun j hj => ?_⟩
  · rw [List.length_append, List.length_take, List.length_map, List.length_range]
    omega
  · rw [List.getD_eq_getElem?_getD]
    by_cases c : j < i
    · rw [List.getElem?_append_left (by rw [List.length_take]; omega), List.getElem?_take_of_lt c]
      have := g.le j hj
      rw [List.getD_eq_getElem?_getD] at this
      exact this
    · rw [List.getElem?_append_right (by rw [List.length_take]; omega), List.length_take, List.getElem?_map, List.getElem?_range (by omega)]
      show ix.getD i 0 + 1 + (j - min i ix.length) + r ≤ j + n
      omega
theorem seq_good {n r : Nat} (hr : r ≤ n) : ∀ {i : Nat} {ix : List Nat}, seqC n r i = some ix → GoodC n r ix
  | 0, ix, h => by
    cases h
    refine ⟨List.length_range, fun j hj => ?_⟩
    rw [List.getD_eq_getElem?_getD, List.getElem?_range hj]
    show j + r ≤ j + n
    omega
  | i + 1, ix, h => by
    obtain ⟨jx, h1, h2⟩ := Option.bind_eq_some_iff.mp h
    exact up_good hr (seq_good hr h1) h2
theorem good_lt {n r : Nat} {ix : List Nat} (g : GoodC n r ix) : ∀ i ∈ ix, i < n := fun i hi => by
  obtain ⟨j, hj, e⟩ := List.getElem_of_mem hi
  have := g.le j (by rw [← g.len]; exact hj)
  rw [List.getD_eq_getElem?_getD, List.getElem?_eq_getElem hj, e] at this
  have gl := g.len
  have : i + r ≤ j + n := this
  omega
theorem vals_pick {xs : List V} {its : List Value} (rv : Vals xs its) : ∀ {ix : List Nat}, (∀ i ∈ ix, i < xs.length) → Vals (ix.map fun i => xs.getD i .non) (tellC its.toArray ix)
  | [], _ => .nil
  | i :: r, h => by
    have hi := h i (by simp)
    obtain ⟨u, hu, ru⟩ := rv.get (List.getElem?_eq_getElem hi)
    refine .cons ?_ (vals_pick rv fun j hj => h j (by simp [hj]))
    have e1 : xs.getD i .non = xs[i] := by rw [List.getD_eq_getElem?_getD, List.getElem?_eq_getElem hi]; rfl
    have e2 : its.toArray.getD i .none = u := by
      rw [Array.getD_eq_getD_getElem?, List.getElem?_toArray, hu]
      rfl
    show RelV (xs.getD i .non) (its.toArray.getD i .none)
    rw [e1, e2]
    exact ru
/-- all choices of r of the items xs, as they come -/
def Itc (xs : List V) (r : Nat) : It :=
  ⟨fun i _ => ∃ ix, seqC xs.length r i = some ix, fun i H v H' => ∃ T ix, v = .ref T ∧ H T = none ∧ seqC xs.length r i = some ix ∧ H' = upd H T (.tup (ix.map fun j => xs.getD j .non)), fun i _ => 0 < i ∧ seqC xs.length r i = none⟩
def tnC (its : List Value) (n r : Nat) (it pool : Addr) (i : Nat) (h : Heap) : Prop :=
  h.get? pool = some { cls := .type "tuple", data := .seq its.toArray } ∧ match i with
  | 0 => ∃ last, IsC h it pool 0 last (List.range r)
  | i + 1 => ∃ ix last, seqC n r i = some ix ∧ IsC h it pool 1 last ix
theorem tn_rec {its : List Value} {n r : Nat} {it pool : Addr} : ∀ {i : Nat} {h : Heap}, tnC its n r it pool i h → ∃ st last ix, IsC h it pool st last ix
  | 0, _, h => let ⟨_, last, q⟩ := h; ⟨_, _, _, q⟩
  | _ + 1, _, h => let ⟨_, ix, last, _, q⟩ := h; ⟨_, _, _, q⟩
theorem go_c {M : Model} {A : Around} {E : Value → Shared → Prop} {s : Shared} {tg : Expr} {it pool : Addr} {st : Int} {last : Value} {ix : List Nat} {u : Value} {Q : Unit → Shared → Prop} (hit : IsC s.heap it pool st last ix) (hQ : Q () s) : wpAny M A (letOwnedTupleGo tg (.ref it) u) Q E s :=
  go_of hit rfl rfl (by decide +kernel) hQ
theorem turn_c {P : Program} {w : World} {K : PySem.W.Frag} {tg : Expr} {xs : List V} {its : List Value} {r : Nat} {it pool : Addr} (rv : Vals xs its) (hr : r ≤ xs.length) (hr2 : r ≤ 1000) (hne : it ≠ pool) :
    Turn P w K tg (Itc xs r) [it, pool] it (tnC its xs.length r it pool) where
  mem := by simp
  obj := fun i h st b hb => by
    obtain ⟨st0, last, ix, q⟩ := tn_rec st
    have e' : b = it ∨ b = pool := by simpa using hb
    rcases e' with z | z
    · rw [z]; exact ⟨_, q, fun v q => nomatch q⟩
    · rw [z]; exact ⟨_, st.1, fun v q => nomatch q⟩
  keep := fun i h h' st k => by
    refine ⟨k pool (by simp) _ st.1, ?_⟩
    cases i with
    | zero => exact let ⟨last, q⟩ := st.2; ⟨last, k it (by simp) _ q⟩
    | succ i => exact let ⟨ix, last, e, q⟩ := st.2; ⟨ix, last, e, k it (by simp) _ q⟩
  item := by
    intro X hP hw hK hc i pins s σ H E I hf st hg
    subst hP hw hK
    obtain ⟨ix, hix⟩ := hg
    have gd := seq_good hr hix
    have l1 : ix.length ≤ 1000 := by rw [gd.len]; exact hr2
    have hlen := rv.length
    have core : ∀ (h' : Heap) (t : Addr), s.heap.objs.size ≤ t → h'.get? t = some { cls := .type "tuple", data := .seq (tellC its.toArray ix).toArray } → IsC h' it pool 1 (.ref t) ix → (∀ b o, b ≠ it → s.heap.get? b = some o → h'.get? b = some o) →
        wpAny (model X.prog X.w) X.A (letOwnedTupleGo tg (.ref it) (.ref t)) (fun _ s2 => ∃ x H', Inv X pins σ H' s2 ∧ RelV x (.ref t) ∧ (Itc xs r).yld i H x H' ∧ tnC its xs.length r it pool (i + 1) s2.heap ∧ ∀ b ∈ [it, pool], H' b = none) E { s with heap := h' } := by
      intro h' t e1 e2 e3 e4
      refine go_c e3 ?_
      have hn : H t = none := I.hok.fresh e1
      have new : ObjOk X.prog X.w (upd H t (.tup (ix.map fun j => xs.getD j .non))) h' t (.tup (ix.map fun j => xs.getD j .non)) :=
        ⟨by rw [List.length_map]; exact Nat.le_trans l1 (by decide), tellC its.toArray ix, vals_pick rv (good_lt gd), ⟨_, e2, rfl, _, rfl⟩⟩
      have I1 : Inv X pins σ (upd H t (.tup (ix.map fun j => xs.getD j .non))) { s with heap := h' } :=
        I.turnedNew (t' := s.toks) (ch := [it, pool]) (fun b ob hb q => e4 b ob (fun z => hb (by simp [z])) q) hf e1 new
      refine ⟨.ref t, _, I1, rfl, ⟨t, ix, rfl, hn, hix, rfl⟩, ⟨e4 _ _ hne.symm st.1, ix, _, hix, e3⟩, fun b hb => ?_⟩
      have hb' : b < s.heap.objs.size := by
        obtain ⟨st0, last, ix0, q⟩ := tn_rec st
        have e' : b = it ∨ b = pool := by simpa using hb
        rcases e' with z | z
        · rw [z]; exact Heap.lt_size q
        · rw [z]; exact Heap.lt_size st.1
      rw [upd_ne (Nat.ne_of_lt (Nat.lt_of_lt_of_le hb' e1))]
      exact (hf b hb).1
    cases i with
    | zero =>
      obtain ⟨hp, last, q⟩ := st
      have e0 : ix = List.range r := (Option.some.inj hix).symm
      rw [← e0] at q
      refine pynext_c (first_c q hp hne l1 fun h' t e1 e2 e3 e4 => ⟨.ref t, rfl, .ref t, rfl, core h' t e1 e2 e3 e4⟩)
    | succ i =>
      obtain ⟨hp, jx, last, e, q⟩ := st
      have hu : upC xs.length jx = some ix := by
        have : (seqC xs.length r i).bind (upC xs.length) = some ix := hix
        rw [e] at this
        exact this
      have gj := seq_good hr e
      refine pynext_c (next_c q hp hne (by rw [gj.len]; exact hr2) l1 (by rw [List.size_toArray, ← hlen]; exact hu) fun h' t e1 e2 e3 e4 => ⟨.ref t, rfl, .ref t, rfl, core h' t e1 e2 e3 e4⟩)
  done := by
    intro X hP hw hK hc i pins s σ H E I hf st hg
    subst hP hw hK
    obtain ⟨h0, hn⟩ := hg
    have hlen := rv.length
    cases i with
    | zero => exact absurd h0 (Nat.lt_irrefl _)
    | succ i =>
      obtain ⟨hp, jx, last, e, q⟩ := st
      have hu : upC xs.length jx = none := by
        have : (seqC xs.length r i).bind (upC xs.length) = none := hn
        rw [e] at this
        exact this
      obtain ⟨f0, f1, f2, f3, f4, f5⟩ := hf it (by simp)
      exact end_c (I.ok.hd hc) q hp (by rw [List.size_toArray, ← hlen]; exact hu) fun h' eb => ⟨rfl, I.turned (t' := s.toks) (fun b o hb q => eb b o hb q) f0 f1 f3 f4 f5⟩
  self := fun A i s Q E st h => by
    obtain ⟨st0, last, ix, q⟩ := tn_rec st
    exact iter_c q h
def iComb (K : PySem.W.Frag) (ta : TA) : TI := fun σ H R => ta σ H fun vs H1 => ∃ (a : Addr) (xs : List V) (r : Nat), vs = [.ref a, .int (r : Int)] ∧ SqL K H1 a xs ∧ r ≤ xs.length ∧ r ≤ 1000 ∧ R (Itc xs r) H1
/-- for x in combinations(list, r) -/
theorem pi_comb {X : Cx} {tg e1 e2 : Expr} {ta : TA} {p pos : Pos} (hg : Gl X "combinations") (hm : X.mg "combinations" = some (.type "itertools.combinations")) (ha : PA X [e1, e2] ta) (hs : starEach [e1, e2] X.env = (false, eval e1 X.env) :: starEach [e2] X.env := by rfl) (hpl : (backTo pos (starEach [e2] X.env)).any (·.1) = false := by rfl) :
    PI X tg (.Call (.Name "combinations" p) [e1, e2] [] pos) (iComb X.K ta) := by
  refine ⟨fun pins s σ H R I h => ?_⟩
  refine Call_ (ld_glob I hg hm (PyProof.Rows.callWith_type1 (thn (ha.run pos pins s σ H _ I h) fun us s1 ⟨vs, H1, I1, r1, q1⟩ => ?_) hs hpl))
  obtain ⟨a, xs, r, ex, hq, h1, h2, q⟩ := q1
  subst ex
  cases r1 with
  | cons ra rr =>
    cases rr with
    | cons rb rr =>
      cases rr
      cases ra
      obtain ⟨t, rfl⟩ := _root_.id rb
      obtain ⟨its, rv, p', hz⟩ := I1.list hq
      have hlen := rv.length
      refine call_c p'.isList (by rw [List.size_toArray]; omega) (by rw [List.size_toArray, ← hlen]; exact h1) (Nat.le_trans h2 (by decide)) fun h' it pool e1 e2 e3 e4 e5 e6 => iter_c e6 ?_
      have I2 : Inv X pins σ H1 { s1 with heap := h' } := I1.kept (t' := s1.toks) e4
      refine ⟨it, [it, pool], _, _, H1, rfl, I2, turn_c rv h1 h2 e3, ⟨e5, _, e6⟩, fun b hb => ?_, q⟩
      have hle : s1.heap.objs.size ≤ b := by
        have e' : b = it ∨ b = pool := by simpa using hb
        rcases e' with z | z
        · rw [z]; exact e1
        · rw [z]; exact e2
      exact I1.fpOk hle (I1.hok.fresh hle)
end Cmk

set_option Elab.async false
set_option linter.all false
set_option maxRecDepth 100000
set_option maxHeartbeats 2000000
namespace Cmk
open PySem PySem.Spec PyProof.Rows L2
/-! ### all choices come -/
def valB (B : Nat) (l : List Nat) : Nat := l.foldl (fun a d => a * B + d) 0
theorem val_acc {B : Nat} : ∀ (l : List Nat) (a : Nat), l.foldl (fun a d => a * B + d) a = a * B ^ l.length + valB B l
  | [], a => by simp [valB]
  | x :: r, a => by
    have e1 := val_acc (B := B) r (a * B + x)
    have e2 := val_acc (B := B) r (0 * B + x)
    show (x :: r).foldl (fun a d => a * B + d) a = a * B ^ (x :: r).length + (x :: r).foldl (fun a d => a * B + d) 0
    rw [List.foldl_cons, List.foldl_cons, e1, e2, List.length_cons, Nat.pow_succ]
    have : a * B * B ^ r.length = a * (B ^ r.length * B) := by rw [Nat.mul_assoc, Nat.mul_comm B]
    rw [Nat.add_mul, this, Nat.add_mul]
    omega
theorem val_cons {B x : Nat} {r : List Nat} : valB B (x :: r) = x * B ^ r.length + valB B r := by
  have := val_acc (B := B) r (0 * B + x)
  unfold valB at this ⊢
  rw [List.foldl_cons, this]
  simp
theorem val_app {B : Nat} {p s : List Nat} : valB B (p ++ s) = valB B p * B ^ s.length + valB B s := by
  have := val_acc (B := B) s (valB B p)
  unfold valB at this ⊢
  rw [List.foldl_append, this]
theorem val_lt {B : Nat} : ∀ {l : List Nat}, (∀ d ∈ l, d < B) → valB B l < B ^ l.length
  | [], _ => by simp [valB]
  | x :: r, h => by
    rw [val_cons, List.length_cons, Nat.pow_succ]
    have h1 := val_lt (B := B) (l := r) fun d hd => h d (by simp [hd])
    have h2 := h x (by simp)
    have h3 : (x + 1) * B ^ r.length ≤ B * B ^ r.length := Nat.mul_le_mul_right _ h2
    rw [Nat.add_mul, Nat.one_mul] at h3
    rw [Nat.mul_comm (B ^ r.length)]
    omega
theorem val_lex {B x y : Nat} {p s t : List Nat} (h : x < y) (e : s.length = t.length) (hs : ∀ d ∈ s, d < B) : valB B (p ++ x :: s) < valB B (p ++ y :: t) := by
  rw [val_app, val_app, val_cons, val_cons, List.length_cons, List.length_cons, e]
  have h1 := val_lt hs
  rw [e] at h1
  have h3 : (x + 1) * B ^ t.length ≤ y * B ^ t.length := Nat.mul_le_mul_right _ h
  rw [Nat.add_mul, Nat.one_mul] at h3
  omega
theorem val_mono {B : Nat} : ∀ {l m : List Nat}, l.length = m.length → (∀ j, j < l.length → l.getD j 0 ≤ m.getD j 0) → valB B l ≤ valB B m
  | [], [], _, _ => Nat.le_refl _
  | [], _ :: _, e, _ => by simp at e
  | _ :: _, [], e, _ => by simp at e
  | x :: l, y :: m, e, h => by
    have e' : l.length = m.length := by simpa using e
    have h0 := h 0 (by simp)
    have ih := val_mono (B := B) e' fun j hj => by
      have := h (j + 1) (by simpa using hj)
      simpa using this
    rw [val_cons, val_cons, e']
    have h0 : x ≤ y := by simpa using h0
    have := Nat.mul_le_mul_right (B ^ m.length) h0
    omega
/-- rising places below n -/
structure RisC (n r : Nat) (jx : List Nat) : Prop where
  len : jx.length = r
  up : jx.Pairwise (· < ·)
  lt : ∀ j ∈ jx, j < n
theorem ris_step {n r : Nat} {jx : List Nat} (h : RisC n r jx) {i j : Nat} (hij : i ≤ j) (hj : j < r) : jx.getD i 0 + (j - i) ≤ jx.getD j 0 := by
  induction j with
  | zero =>
    obtain rfl : i = 0 := by omega
    simp
  | succ j ih =>
    by_cases c : i = j + 1
    · subst c
      simp
    · have h1 := ih (by omega) (by omega)
      have hl := h.len
      have h2 := List.pairwise_iff_getElem.mp h.up j (j + 1) (by omega) (by omega) (by omega)
      rw [List.getD_eq_getElem?_getD, List.getD_eq_getElem?_getD] at h1 ⊢
      rw [List.getElem?_eq_getElem (show j < jx.length by omega)] at h1
      rw [List.getElem?_eq_getElem (show j + 1 < jx.length by omega)]
      have h1 : jx[i]?.getD 0 + (j - i) ≤ jx[j] := h1
      show jx[i]?.getD 0 + (j + 1 - i) ≤ jx[j + 1]
      omega
theorem ris_good {n r : Nat} {jx : List Nat} (h : RisC n r jx) : GoodC n r jx := by
  refine ⟨h.len, fun j hj => ?_⟩
  have h1 := ris_step h (show j ≤ r - 1 by omega) (by omega)
  have hl := h.len
  have h2 : jx.getD (r - 1) 0 < n := by
    rw [List.getD_eq_getElem?_getD, List.getElem?_eq_getElem (show r - 1 < jx.length by omega)]
    exact h.lt _ (List.getElem_mem _)
  omega
theorem split_at {l : List Nat} {d : Nat} (h : d < l.length) : l = l.take d ++ l.getD d 0 :: l.drop (d + 1) := by
  rw [List.getD_eq_getElem?_getD, List.getElem?_eq_getElem h]
  show l = l.take d ++ l[d] :: l.drop (d + 1)
  rw [List.getElem_cons_drop, List.take_append_drop]
theorem getD_app {p s : List Nat} {j : Nat} (h : p.length ≤ j) : (p ++ s).getD j 0 = s.getD (j - p.length) 0 := by
  rw [List.getD_eq_getElem?_getD, List.getElem?_append_right h, ← List.getD_eq_getElem?_getD]
theorem getD_appl {p s : List Nat} {j : Nat} (h : j < p.length) : (p ++ s).getD j 0 = p.getD j 0 := by
  rw [List.getD_eq_getElem?_getD, List.getElem?_append_left h, ← List.getD_eq_getElem?_getD]
theorem getD_take {l : List Nat} {i j : Nat} (h : j < i) : (l.take i).getD j 0 = l.getD j 0 := by
  rw [List.getD_eq_getElem?_getD, List.getElem?_take_of_lt h, ← List.getD_eq_getElem?_getD]
/-- what comes next is told by its place that goes up -/
theorem up_at {n : Nat} {ix ix' : List Nat} (h : upC n ix = some ix') : ∃ i, i < ix.length ∧ canUp n ix i = true ∧ (∀ k, i < k → k < ix.length → canUp n ix k = false) ∧ ix' = ix.take i ++ (List.range (ix.length - i)).map (ix.getD i 0 + 1 + ·) := by
  unfold upC at h
  obtain ⟨i, hi, rfl⟩ := Option.map_eq_some_iff.mp h
  have hm := List.mem_of_find?_eq_some hi
  refine ⟨i, by simpa using hm, List.find?_some hi, fun k h1 h2 => ?_, rfl⟩
  obtain ⟨_, as, bs, e, hb⟩ := List.find?_eq_some_iff_append.mp hi
  have hk : k ∈ (List.range ix.length).reverse := by simpa using h2
  rw [e] at hk
  rcases List.mem_append.mp hk with z | z
  · have := hb k z
    simpa using this
  · exfalso
    have hs : ((List.range ix.length).reverse).Pairwise (· > ·) := by
      rw [List.pairwise_reverse]
      exact List.pairwise_lt_range
    rw [e, List.pairwise_append] at hs
    rcases List.mem_cons.mp z with c | c
    · omega
    · have := (List.pairwise_cons.mp hs.2.1).1 k c
      omega
theorem up_lt {n r : Nat} {ix ix' : List Nat} (hr : r ≤ n) (g : GoodC n r ix) (h : upC n ix = some ix') : valB n ix < valB n ix' := by
  obtain ⟨i, hi, _, _, rfl⟩ := up_at h
  have e1 := split_at hi
  have hl : ix.length - i = (ix.length - (i + 1)) + 1 := by omega
  rw [hl, List.range_succ_eq_map, List.map_cons]
  have key := val_lex (B := n) (p := ix.take i) (x := ix.getD i 0) (y := ix.getD i 0 + 1 + 0) (s := ix.drop (i + 1)) (t := ((List.range (ix.length - (i + 1))).map Nat.succ).map (ix.getD i 0 + 1 + ·)) (by omega) (by rw [List.length_drop, List.length_map, List.length_map, List.length_range]) fun d hd => good_lt g d (List.mem_of_mem_drop hd)
  rw [← e1] at key
  exact key
/-- unlike lists of one length part somewhere -/
theorem parts {l m : List Nat} (e : l.length = m.length) (h : l ≠ m) : ∃ d, d < l.length ∧ l.take d = m.take d ∧ l.getD d 0 ≠ m.getD d 0 := by
  induction l generalizing m with
  | nil =>
    cases m with
    | nil => exact absurd rfl h
    | cons _ _ => simp at e
  | cons x l ih =>
    cases m with
    | nil => simp at e
    | cons y m =>
      by_cases c : x = y
      · subst c
        obtain ⟨d, h1, h2, h3⟩ := ih (by simpa using e) (fun z => h (by rw [z]))
        exact ⟨d + 1, by simpa using h1, by rw [List.take_succ_cons, List.take_succ_cons, h2], by simpa using h3⟩
      · exact ⟨0, by simp, rfl, by simpa using c⟩
theorem val_inj {n : Nat} {l m : List Nat} (e : l.length = m.length) (hl : ∀ d ∈ l, d < n) (hm : ∀ d ∈ m, d < n) (h : valB n l = valB n m) : l = m := by
  refine Classical.byContradiction fun c => ?_
  obtain ⟨d, h1, h2, h3⟩ := parts e c
  have e1 := split_at h1
  have e2 := split_at (l := m) (d := d) (by omega)
  rcases Nat.lt_or_gt_of_ne h3 with z | z
  · have key := val_lex (B := n) (p := l.take d) (s := l.drop (d + 1)) (t := m.drop (d + 1)) z (by rw [List.length_drop, List.length_drop, e]) fun x hx => hl x (List.mem_of_mem_drop hx)
    rw [← e1, h2, ← e2] at key
    omega
  · have key := val_lex (B := n) (p := m.take d) (s := m.drop (d + 1)) (t := l.drop (d + 1)) z (by rw [List.length_drop, List.length_drop, e]) fun x hx => hm x (List.mem_of_mem_drop hx)
    rw [← e2, ← h2, ← e1] at key
    omega
theorem up_next {n r : Nat} {ix jx : List Nat} (hr : r ≤ n) (g : GoodC n r ix) (hj : RisC n r jx) (h : valB n ix < valB n jx) : ∃ ix', upC n ix = some ix' ∧ valB n ix' ≤ valB n jx := by
  have gj := ris_good hj
  have el : ix.length = jx.length := by rw [g.len, hj.len]
  have hne : ix ≠ jx := fun e => by rw [e] at h; exact Nat.lt_irrefl _ h
  obtain ⟨d, h1, h2, h3⟩ := parts el hne
  have e1 := split_at h1
  have e2 := split_at (l := jx) (d := d) (by omega)
  have hd : ix.getD d 0 < jx.getD d 0 := by
    rcases Nat.lt_or_gt_of_ne h3 with z | z
    · exact z
    · exfalso
      have key := val_lex (B := n) (p := jx.take d) (s := jx.drop (d + 1)) (t := ix.drop (d + 1)) z (by rw [List.length_drop, List.length_drop, el]) fun x hx => hj.lt x (List.mem_of_mem_drop hx)
      rw [← e2, ← h2, ← e1] at key
      omega
  have gl := g.len
  have gd := gj.le d (by omega)
  have up : canUp n ix d = true := by
    unfold canUp
    rw [bne_iff_ne]
    omega
  cases e : upC n ix with
  | none =>
    exfalso
    unfold upC at e
    rw [Option.map_eq_none_iff] at e
    have := List.find?_eq_none.mp e d (by simpa using h1)
    exact this up
  | some ix' =>
    refine ⟨ix', rfl, ?_⟩
    obtain ⟨i, hi, ui, hk, rfl⟩ := up_at e
    rcases Nat.lt_trichotomy d i with c | c | c
    · have g' := up_good hr g e
      have tl : (ix.take i).length = i := by rw [List.length_take]; omega
      generalize hL : ix.take i ++ (List.range (ix.length - i)).map (fun x => ix.getD i 0 + 1 + x) = L at g' e ⊢
      have t1 : L.take d = jx.take d := by
        rw [← hL, List.take_append_of_le_length (by omega), List.take_take, Nat.min_eq_left (by omega), h2]
      have t2 : L.getD d 0 = ix.getD d 0 := by
        rw [← hL, getD_appl (by omega), getD_take c]
      have e3 := split_at (l := L) (d := d) (by rw [g'.len]; omega)
      have key := val_lex (B := n) (p := jx.take d) (s := L.drop (d + 1)) (t := jx.drop (d + 1)) (show L.getD d 0 < jx.getD d 0 by rw [t2]; exact hd) (by rw [List.length_drop, List.length_drop, g'.len, hj.len]) fun x hx => good_lt g' x (List.mem_of_mem_drop hx)
      rw [← t1, ← e3, t1, ← e2] at key
      exact Nat.le_of_lt key
    · subst c
      have g' := up_good hr g e
      have tl : (ix.take d).length = d := by rw [List.length_take]; omega
      refine val_mono (by rw [g'.len, hj.len]) fun j hjl => ?_
      rw [g'.len] at hjl
      by_cases c2 : j < d
      · rw [getD_appl (by omega), h2, getD_take c2]
        exact Nat.le_refl _
      · rw [getD_app (by omega), tl]
        have : ((List.range (ix.length - d)).map fun x => ix.getD d 0 + 1 + x).getD (j - d) 0 = ix.getD d 0 + 1 + (j - d) := by
          rw [List.getD_eq_getElem?_getD, List.getElem?_map, List.getElem?_range (by omega)]
          rfl
        rw [this]
        have := ris_step hj (show d ≤ j by omega) hjl
        omega
    · have := hk d c h1
      rw [up] at this
      cases this
/-- every choice comes -/
theorem seq_all {n r : Nat} {jx : List Nat} (hr : r ≤ n) (hj : RisC n r jx) : ∃ i, seqC n r i = some jx := by
  have go : ∀ (k i : Nat) (ix : List Nat), seqC n r i = some ix → valB n ix ≤ valB n jx → valB n jx - valB n ix = k → ∃ i, seqC n r i = some jx := by
    intro k
    induction k using Nat.strongRecOn with
    | ind k ih =>
      intro i ix hi hle hk
      have g := seq_good hr hi
      by_cases c : valB n ix = valB n jx
      · have := val_inj (by rw [g.len, hj.len]) (good_lt g) hj.lt c
        rw [← this]
        exact ⟨i, hi⟩
      · obtain ⟨ix', hu, hle'⟩ := up_next hr g hj (by omega)
        have hlt := up_lt hr g hu
        exact ih (valB n jx - valB n ix') (by omega) (i + 1) ix' (by show (seqC n r i).bind (upC n) = _; rw [hi]; exact hu) hle' rfl
  refine go _ 0 (List.range r) rfl (val_mono (by rw [List.length_range, hj.len]) fun j hjl => ?_) rfl
  rw [List.length_range] at hjl
  rw [List.getD_eq_getElem?_getD, List.getElem?_range hjl]
  have := ris_step hj (Nat.zero_le j) hjl
  show j ≤ _
  omega
/-- they end -/
theorem seq_le {n r : Nat} (hr : r ≤ n) : ∀ {i : Nat} {ix : List Nat}, seqC n r i = some ix → i ≤ valB n ix
  | 0, _, _ => Nat.zero_le _
  | i + 1, ix, h => by
    obtain ⟨jx, h1, h2⟩ := Option.bind_eq_some_iff.mp h
    have := seq_le hr h1
    have := up_lt hr (seq_good hr h1) h2
    omega
theorem seq_end {n r : Nat} (hr : r ≤ n) {i : Nat} {ix : List Nat} (h : seqC n r i = some ix) : i < n ^ r := by
  have g := seq_good hr h
  have := val_lt (good_lt g)
  rw [g.len] at this
  have := seq_le hr h
  omega
/-- a walk over the choices: Pv by the turn -/
theorem for_comb {xs : List V} {r : Nat} {g : TG} {tb : TS} {D : Ends} {σ : L2.St} {H : Hp} (hr : r ≤ xs.length) (Pv : Nat → L2.St → Hp → Prop) (h0 : Pv 0 σ H)
    (hs : ∀ (i : Nat) (ix : List Nat) (T : Addr) (σ : L2.St) (H : Hp), seqC xs.length r i = some ix → Pv i σ H → H T = none → g (.ref T) σ (upd H T (.tup (ix.map fun j => xs.getD j .non))) fun σ2 H2 => tb { nx := Pv (i + 1), rt := D.rt, bk := D.nx, ct := Pv (i + 1) } σ2 H2)
    (hd : ∀ (i : Nat) (σ : L2.St) (H : Hp), 0 < i → seqC xs.length r i = none → Pv i σ H → D.nx σ H) : ∃ W : Nat → Nat → L2.St → Hp → Prop, (∃ m, W 0 m σ H) ∧ ∀ (i m : Nat) (σ : L2.St) (H : Hp), W i m σ H →
      (Itc xs r).stop i H ∧ D.nx σ H ∨ (Itc xs r).go i H ∧ ∃ N : L2.St → Hp → Prop, (∀ (σ' : L2.St) (H' : Hp), N σ' H' → ∃ m', m' < m ∧ W (i + 1) m' σ' H') ∧
        ∀ (x : V) (H' : Hp), (Itc xs r).yld i H x H' → g x σ H' fun σ2 H2 => tb { nx := N, rt := D.rt, bk := D.nx, ct := N } σ2 H2 := by
  refine ⟨fun i m σ H => i + m = xs.length ^ r ∧ Pv i σ H, ⟨xs.length ^ r, by omega, h0⟩, fun i m σ H ⟨e, p⟩ => ?_⟩
  cases h : seqC xs.length r i with
  | none =>
    have hi : 0 < i := by
      cases i with
      | zero => cases h
      | succ i => exact Nat.succ_pos _
    exact .inl ⟨⟨hi, h⟩, hd i σ H hi h p⟩
  | some ix =>
    have hlt := seq_end hr h
    refine .inr ⟨⟨ix, h⟩, Pv (i + 1), fun σ' H' p' => ⟨m - 1, by omega, by omega, p'⟩, fun x H' ⟨T, jx, e1, e2, e3, e4⟩ => ?_⟩
    rw [h] at e3
    cases e3
    subst e1 e4
    exact hs i ix T σ H h p e2
end Cmk

set_option Elab.async false
set_option linter.all false
set_option maxRecDepth 100000
set_option maxHeartbeats 2000000
namespace Cmk
open PySem PySem.Spec PyProof.Rows L2
theorem up_ris {n r : Nat} {ix ix' : List Nat} (hr : r ≤ n) (h : RisC n r ix) (hu : upC n ix = some ix') : RisC n r ix' := by
  have g' := up_good hr (ris_good h) hu
  refine ⟨g'.len, ?_, good_lt g'⟩
  obtain ⟨i, hi, _, _, rfl⟩ := up_at hu
  rw [List.pairwise_append]
  refine ⟨h.up.sublist (List.take_sublist _ _), ?_, fun a ha b hb => ?_⟩
  · rw [List.pairwise_map]
    exact List.pairwise_lt_range.imp fun {a b} q => by omega
  · obtain ⟨x, hx, rfl⟩ := List.mem_map.mp hb
    obtain ⟨j, hj, e⟩ := List.getElem_of_mem ha
    rw [List.length_take] at hj
    rw [List.getElem_take] at e
    have hp := List.pairwise_iff_getElem.mp h.up j i (by omega) hi (by omega)
    rw [List.getD_eq_getElem?_getD, List.getElem?_eq_getElem hi]
    show a < ix[i] + 1 + x
    omega
theorem seq_ris {n r : Nat} (hr : r ≤ n) : ∀ {i : Nat} {ix : List Nat}, seqC n r i = some ix → RisC n r ix
  | 0, ix, h => by
    cases h
    exact ⟨List.length_range, List.pairwise_lt_range, fun j hj => by have := List.mem_range.mp hj; omega⟩
  | i + 1, ix, h => by
    obtain ⟨jx, h1, h2⟩ := Option.bind_eq_some_iff.mp h
    exact up_ris hr (seq_ris hr h1) h2
theorem seq_none {n r : Nat} {i : Nat} (h : seqC n r i = none) : ∀ j, i ≤ j → seqC n r j = none := by
  intro j hj
  induction j with
  | zero =>
    obtain rfl : i = 0 := by omega
    exact h
  | succ j ih =>
    by_cases c : i = j + 1
    · rw [← c]
      exact h
    · show (seqC n r j).bind (upC n) = none
      rw [ih (by omega)]
      rfl
/-- the items at some places -/
def pickC {α : Type} (d : α) (l : List α) (ix : List Nat) : List α := ix.map fun j => l.getD j d
theorem pick_sub {α : Type} {d : α} {l : List α} {ix : List Nat} (h : RisC l.length ix.length ix) : (pickC d l ix).Sublist l := by
  have key : ∀ ix : List Nat, (∀ j ∈ ix, j < l.length) → ix.Pairwise (· < ·) → ∃ is : List (Fin l.length), is.Pairwise (· < ·) ∧ is.map (fun x => l[x]) = pickC d l ix := by
    intro ix h1 h2
    refine ⟨ix.attach.map fun j => ⟨j.1, h1 j.1 j.2⟩, ?_, ?_⟩
    · rw [List.pairwise_map]
      have : (ix.attach.map Subtype.val).Pairwise (· < ·) := by rw [List.attach_map_subtype_val]; exact h2
      rw [List.pairwise_map] at this
      exact this
    · unfold pickC
      rw [List.map_map]
      conv => rhs; rw [← List.attach_map_subtype_val ix, List.map_map]
      refine List.map_congr_left fun j _ => ?_
      show l[j.1]'(h1 j.1 j.2) = l.getD j.1 d
      rw [List.getD_eq_getElem?_getD, List.getElem?_eq_getElem (h1 j.1 j.2)]
      rfl
  obtain ⟨is, h3, h4⟩ := key ix h.lt h.up
  rw [← h4]
  exact List.map_getElem_sublist h3
theorem sub_pick {α : Type} (d : α) {l ws : List α} (h : ws.Sublist l) : ∃ ix, RisC l.length ws.length ix ∧ ws = pickC d l ix := by
  obtain ⟨is, e, hp⟩ := List.sublist_eq_map_getElem h
  refine ⟨is.map (·.1), ⟨by rw [e, List.length_map, List.length_map], ?_, fun j hj => ?_⟩, ?_⟩
  · rw [List.pairwise_map]
    exact hp
  · obtain ⟨x, _, rfl⟩ := List.mem_map.mp hj
    exact x.2
  · unfold pickC
    rw [e, List.map_map]
    refine List.map_congr_left fun x _ => ?_
    show l[x.1] = l.getD x.1 d
    rw [List.getD_eq_getElem?_getD, List.getElem?_eq_getElem x.2]
    rfl
end Cmk

set_option Elab.async false
set_option linter.all false
set_option maxRecDepth 100000
set_option maxHeartbeats 4000000
namespace B
open PySem PySem.Spec PyProof.Rows L2
open SX (S)
/-! ### the fewest choices that exclude all -/
/-- a choice: what it excludes, a bit for each; its beginning -/
abbrev Ch := Nat × Str
def dC : Ch := (0, "")
def orF (cs : List Ch) : Nat := cs.foldl (fun b c => b ||| c.1) 0
def CZ (H : Hp) (zs : List (Addr × Ch)) : Prop := ∀ z ∈ zs, H z.1 = some (.tup [.int (z.2.1 : Int), .str z.2.2])
theorem CZ.keep {H H' : Hp} {zs : List (Addr × Ch)} (h : CZ H zs) (f : Frm [] H H') : CZ H' zs := fun z hz => f.k _ _ (h z hz) rfl (by simp)
section
variable {P : Program} {w : World} {K : PySem.W.Frag} {mg : Str → Option Value} {base : Heap}
theorem getD_ref {zs : List (Addr × Ch)} {d : Addr × Ch} {j : Nat} (h : j < zs.length) : (zs.map fun z => V.ref z.1).getD j .non = V.ref (zs.getD j d).1 := by
  rw [List.getD_eq_getElem?_getD, List.getD_eq_getElem?_getD, List.getElem?_map, List.getElem?_eq_getElem h]
  rfl
def dZ : Addr × Ch := (0, dC)
theorem pick_ref {zs : List (Addr × Ch)} {ix : List Nat} (h : ∀ j ∈ ix, j < zs.length) : (ix.map fun j => (zs.map fun z => V.ref z.1).getD j .non) = (Cmk.pickC dZ zs ix).map fun z => V.ref z.1 := by
  unfold Cmk.pickC
  rw [List.map_map]
  exact List.map_congr_left fun j hj => getD_ref (h j hj)
theorem pick_snd {zs : List (Addr × Ch)} {ix : List Nat} : (Cmk.pickC dZ zs ix).map (·.2) = Cmk.pickC dC (zs.map (·.2)) ix := by
  unfold Cmk.pickC
  rw [List.map_map]
  refine List.map_congr_left fun j _ => ?_
  show (zs.getD j dZ).2 = (zs.map (·.2)).getD j dC
  rw [List.getD_eq_getElem?_getD, List.getD_eq_getElem?_getD, List.getElem?_map]
  cases zs[j]? <;> rfl
theorem pick_mem {zs : List (Addr × Ch)} {ix : List Nat} (h : ∀ j ∈ ix, j < zs.length) : ∀ z ∈ Cmk.pickC dZ zs ix, z ∈ zs := fun z hz => by
  obtain ⟨j, hj, rfl⟩ := List.mem_map.mp hz
  rw [List.getD_eq_getElem?_getD, List.getElem?_eq_getElem (h j hj)]
  exact List.getElem_mem (h j hj)
end
end B

set_option Elab.async false
set_option linter.all false
set_option maxRecDepth 100000
set_option maxHeartbeats 4000000
namespace B
open PySem PySem.Spec PyProof.Rows L2
open SX (S)
/-! ### what a look excludes -/
def lookF (l : List Nat) (s : List Str) : Bool × Bool := (s.any (starts (l ++ [48])), s.any (starts (l ++ [49])))
def exB (l : List Nat) (hs s : List Str) : Bool := !decide (lookF l s = lookF l hs)
def maskL : List Bool → Nat
  | [] => 0
  | b :: r => (if b then 1 else 0) + 2 * maskL r
theorem maskL_snoc (b : Bool) : ∀ l : List Bool, maskL (l ++ [b]) = maskL l + (if b then 2 ^ l.length else 0)
  | [] => by cases b <;> rfl
  | c :: r => by
    show (if c then 1 else 0) + 2 * maskL (r ++ [b]) = (if c then 1 else 0) + 2 * maskL r + (if b then 2 ^ (r.length + 1) else 0)
    rw [maskL_snoc b r, Nat.pow_succ]
    cases b <;> simp <;> omega
theorem maskL_bit : ∀ (l : List Bool) (i : Nat), (maskL l).testBit i = l.getD i false
  | [], i => by show (0 : Nat).testBit i = _; simp
  | c :: r, 0 => by
    show ((if c then 1 else 0) + 2 * maskL r).testBit 0 = c
    rw [Nat.testBit_zero]
    cases c <;> simp <;> omega
  | c :: r, i + 1 => by
    show ((if c then 1 else 0) + 2 * maskL r).testBit (i + 1) = r.getD i false
    rw [Nat.testBit_succ, ← maskL_bit r i]
    congr 1
    cases c <;> simp <;> omega
/-- over enumerate(list) -/
theorem lc_enum {K : PySem.W.Frag} {a : Addr} {xs : List V} {g : TG} {tt : TT} {te : TE} {vs : List Nat} {σ : L2.St} {H1 : Hp} {D : Addr} {Qd : Hp → Prop} (Pv : Nat → Hp → Prop) (h0 : Pv 0 (upd H1 D (.lst []))) (hl : ∀ i H, i ≤ xs.length → Pv i H → SqL K H a xs)
    (hs : ∀ i x T H, xs[i]? = some x → Pv i H → H T = none → g (.ref T) (wipe σ vs) (upd H T (.tup [.int (i : Nat), x])) fun σ2 H2 => wipe σ2 vs = wipe σ vs ∧ tt σ2 H2 fun b H3 =>
      if b = true then te σ2 H3 fun y H4 => ∃ acc, H4 D = some (.lst acc) ∧ acc.length < sizeLine ∧ Pv (i + 1) (upd H4 D (.lst (acc ++ [y]))) else Pv (i + 1) H3) (hd : ∀ H, Pv xs.length H → Qd H) :
    ∃ W : Nat → Nat → Hp → Prop, (∃ m, W 0 m (upd H1 D (.lst []))) ∧ ∀ i m H, W i m H →
      ((Ite K a).stop i H ∧ Qd H) ∨ ((Ite K a).go i H ∧ ∃ Nx : Hp → Prop, (∀ H', Nx H' → ∃ m', m' < m ∧ W (i + 1) m' H') ∧ ∀ x H', (Ite K a).yld i H x H' → g x (wipe σ vs) H' fun σ2 H2 => wipe σ2 vs = wipe σ vs ∧ tt σ2 H2 fun b H3 =>
        if b = true then te σ2 H3 fun y H4 => ∃ acc, H4 D = some (.lst acc) ∧ acc.length < sizeLine ∧ Nx (upd H4 D (.lst (acc ++ [y]))) else Nx H3) := by
  refine ⟨fun i m H => m = xs.length - i ∧ i ≤ xs.length ∧ Pv i H, ⟨xs.length, by simp, Nat.zero_le _, h0⟩, ?_⟩
  rintro i m H ⟨rfl, hi, p⟩
  have q := hl i H hi p
  by_cases hlt : i < xs.length
  · refine .inr ⟨⟨xs, xs[i], q, by simp [hlt]⟩, Pv (i + 1), fun H' p' => ⟨xs.length - (i + 1), by omega, rfl, hlt, p'⟩, fun x H' ⟨T, y, e1, e2, e3, e4⟩ => ?_⟩
    subst e1 e3
    exact hs i y T H (e4 xs q) p e2
  · have e : i = xs.length := by omega
    subst e
    exact .inl ⟨⟨xs, q, Nat.le_refl _⟩, hd H p⟩
section
variable {P : Program} {w : World} {K : PySem.W.Frag} {mg : Str → Option Value} {base : Heap}
end
end B

set_option Elab.async false
set_option linter.all false
set_option maxRecDepth 100000
set_option maxHeartbeats 4000000
namespace B
open PySem PySem.Spec PyProof.Rows L2
open SX (S)
/-! ### the fewest looks that show a set of a roster -/
section
variable {X : Cx}
end
/-- these beginnings tell hs from all other sets of xs -/
def CovS (xs hs : List Str) (bs : List Str) : Prop := ∀ s : List Str, s.Sublist xs → s ≠ hs → ∃ b ∈ bs, lookF b.cps.toList s ≠ lookF b.cps.toList hs
theorem starts_is {m : List Nat} {x : Str} (h : starts m x = true) {W : Nat} (hx : Num W x) (hm : m.length = W) : x = S m := by
  obtain ⟨l, rfl, e1, _⟩ := hx
  rw [starts_S] at h
  have := of_decide_eq_true h
  rw [hm, ← e1, List.take_length] at this
  rw [this]
theorem look_tells {W : Nat} {A B : List Str} {x : Str} (hA : x ∈ A) (hB : x ∉ B) (hx : Num W x) (hBn : ∀ y ∈ B, Num W y) (w1 : 1 ≤ W) : lookF (x.cps.toList.take (W - 1)) A ≠ lookF (x.cps.toList.take (W - 1)) B := by
  obtain ⟨m, rfl, e1, b⟩ := hx
  rw [S_list]
  have hlt : W - 1 < m.length := by omega
  have em : m.take (W - 1) ++ [m[W - 1]] = m := by
    rw [List.take_append_getElem hlt, show W - 1 + 1 = m.length by omega, List.take_length]
  have hs : starts m (S m) = true := by
    rw [starts_S, List.take_length]
    exact decide_eq_true rfl
  have key : ∀ c, c = m[W - 1] → A.any (starts (m.take (W - 1) ++ [c])) = true ∧ B.any (starts (m.take (W - 1) ++ [c])) = false := by
    rintro c rfl
    rw [em]
    refine ⟨List.any_eq_true.mpr ⟨_, hA, hs⟩, List.any_eq_false.mpr fun y hy z => hB ?_⟩
    rw [← starts_is z (hBn y hy) e1]
    exact hy
  intro e
  have e := Prod.mk.inj e
  rcases b _ (List.getElem_mem hlt) with c | c
  · obtain ⟨k1, k2⟩ := key 48 c.symm
    rw [k1, k2] at e
    cases e.1
  · obtain ⟨k1, k2⟩ := key 49 c.symm
    rw [k1, k2] at e
    cases e.2
theorem rise_sub {xs hs : List Str} (h : riseB xs = true) (s : hs.Sublist xs) : riseB hs = true := by
  unfold riseB at h ⊢
  obtain ⟨h1, h2⟩ := He.ba h
  rw [pw_sorted ((sorted_pw h1).sublist s), decide_eq_true ((of_decide_eq_true h2).sublist s)]
  rfl
/-- all beginnings together tell a set from all others -/
theorem met_cov {W : Nat} {xs hs ms : List Str} (hn : ∀ x ∈ xs, Num W x) (hr : riseB xs = true) (hsub : hs.Sublist xs) (hm : MetL W xs ms) (w1 : 1 ≤ W) : CovS xs hs ms := by
  intro s h1 h2
  refine Classical.byContradiction fun no => h2 ?_
  have no : ∀ b ∈ ms, lookF b.cps.toList s = lookF b.cps.toList hs := fun b hb => Classical.byContradiction fun z => no ⟨b, hb, z⟩
  have mem : ∀ x ∈ xs, S (x.cps.toList.take (W - 1)) ∈ ms := fun x hx => (hm.mem _).mpr (.inr ⟨x, hx, W - 1, by omega, rfl⟩)
  have a1 := He.ba (show (sortedS s && decide s.Nodup) = true from rise_sub hr h1)
  have a2 := He.ba (show (sortedS hs && decide hs.Nodup) = true from rise_sub hr hsub)
  refine sorted_eq a1.1 a2.1 ((List.perm_ext_iff_of_nodup (of_decide_eq_true a1.2) (of_decide_eq_true a2.2)).mpr fun x => ⟨fun hx => ?_, fun hx => ?_⟩)
  · refine Classical.byContradiction fun c => ?_
    have q := no _ (mem x (h1.subset hx))
    rw [S_list] at q
    exact look_tells hx c (hn x (h1.subset hx)) (fun y hy => hn y (hsub.subset hy)) w1 q
  · refine Classical.byContradiction fun c => ?_
    have q := no _ (mem x (hsub.subset hx))
    rw [S_list] at q
    exact look_tells hx c (hn x (hsub.subset hx)) (fun y hy => hn y (h1.subset hy)) w1 q.symm
theorem or_bit (i : Nat) : ∀ cs : List Ch, (orF cs).testBit i = cs.any (fun c => c.1.testBit i) := by
  have go : ∀ (cs : List Ch) (a : Nat), (cs.foldl (fun b c => b ||| c.1) a).testBit i = (a.testBit i || cs.any (fun c => c.1.testBit i)) := by
    intro cs
    induction cs with
    | nil => intro a; simp
    | cons c r ih =>
      intro a
      rw [List.foldl_cons, ih, Nat.testBit_or, List.any_cons, Bool.or_assoc]
  intro cs
  unfold orF
  rw [go, Nat.zero_testBit, Bool.false_or]
/-- all bits are told -/
theorem or_all {n : Nat} {cs : List Ch} (lt : ∀ c ∈ cs, ∀ i, n ≤ i → c.1.testBit i = false) : orF cs = 2 ^ n - 1 ↔ ∀ i, i < n → ∃ c ∈ cs, c.1.testBit i = true := by
  constructor
  · intro e i hi
    have h := or_bit i cs
    rw [e, Nat.testBit_two_pow_sub_one, decide_eq_true hi] at h
    exact List.any_eq_true.mp h.symm
  · intro h
    refine Nat.eq_of_testBit_eq fun i => ?_
    rw [or_bit, Nat.testBit_two_pow_sub_one]
    by_cases c : i < n
    · rw [decide_eq_true c]
      exact List.any_eq_true.mpr (h i c)
    · rw [decide_eq_false c]
      exact List.any_eq_false.mpr fun x hx => by rw [lt x hx i (by omega)]; simp
section
variable {P : Program} {w : World} {K : PySem.W.Frag} {mg : Str → Option Value} {base : Heap}
theorem tb_updK {K : PySem.W.Frag} {H : Hp} {b : Addr} {kvs : List (Key × V)} {o : HO} (h : Tb K H) (hb : H b = some (.dK kvs)) : Tb K (upd H b o) := by
  obtain ⟨h1, h2⟩ := h
  refine ⟨fun p hp => ?_, fun p hp => ?_⟩
  · obtain ⟨ps, e, t⟩ := h1 p hp
    refine ⟨ps, ?_, t⟩
    rw [upd_ne (ne_of e hb (by intro z; cases z))]
    exact e
  · obtain ⟨qs, e1, t1, a1⟩ := h2 p hp
    refine ⟨qs, ?_, t1, fun pos cv hc => ?_⟩
    · rw [upd_ne (ne_of e1 hb (by intro z; cases z))]
      exact e1
    · obtain ⟨c, e2, e3⟩ := a1 pos cv hc
      refine ⟨c, e2, ?_⟩
      rw [upd_ne (ne_of e3 hb (by intro z; cases z))]
      exact e3
theorem FrT.putK {K : PySem.W.Frag} {H H1 : Hp} {b : Addr} {kvs : List (Key × V)} {o : HO} (a : FrT K [] H H1) (h : H b = none) (hb : H1 b = some (.dK kvs)) : FrT K [] H (upd H1 b o) :=
  ⟨fun c u e t n => by
    rw [upd_ne (ne_of_none e h)]
    exact a.k c u e t n, fun c z => a.b c (upd_back z), fun z => tb_updK (a.t z) hb⟩
theorem nodup_leA {α : Type} [DecidableEq α] {xs : List α} : ∀ {ys : List α}, xs.Nodup → (∀ x ∈ xs, x ∈ ys) → xs.length ≤ ys.length := by
  induction xs with
  | nil => intro ys _ _; exact Nat.zero_le _
  | cons x r ih =>
    intro ys hn hs
    have hx := hs x (List.mem_cons_self ..)
    have n := List.nodup_cons.mp hn
    have q := ih (ys := ys.erase x) n.2 fun z hz => by
      have ne : z ≠ x := fun e => n.1 (e ▸ hz)
      exact (List.mem_erase_of_ne ne).mpr (hs z (List.mem_cons_of_mem _ hz))
    rw [List.length_erase_of_mem hx] at q
    have := List.length_pos_of_mem hx
    rw [List.length_cons]
    omega
def kvC (cs : List Ch) : List (Key × V) := cs.map fun c => ((Sum.inl (c.1 : Int) : Key), V.str c.2)
theorem kv_some {cs : List Ch} {m : Nat} {v : V} (h : valV (kvC cs) (.inl (m : Int) : Key) = some v) : ∃ c ∈ cs, c.1 = m := by
  unfold valV kvC at h
  obtain ⟨kv, h1, _⟩ := Option.map_eq_some_iff.mp h
  have hm := List.mem_of_find?_eq_some h1
  have hp : kv.1 = (Sum.inl (m : Int) : Key) := by
    have := List.find?_some h1
    exact of_decide_eq_true this
  obtain ⟨c, hc, rfl⟩ := List.mem_map.mp hm
  exact ⟨c, hc, by have := Sum.inl.inj hp; omega⟩
theorem kv_none {cs : List Ch} {m : Nat} (h : valV (kvC cs) (.inl (m : Int) : Key) = none) : ∀ c ∈ cs, c.1 ≠ m := by
  unfold valV kvC at h
  intro c hc e
  rw [Option.map_eq_none_iff] at h
  have := List.find?_eq_none.mp h _ (List.mem_map.mpr ⟨c, hc, rfl⟩)
  exact this (decide_eq_true (by rw [e]))
def mkB (hs : List Str) (ss : List (List Str)) (b : Str) : Nat := maskL (ss.map (exB b.cps.toList hs))
theorem mk_bit {hs : List Str} {ss : List (List Str)} {b : Str} {i : Nat} : (mkB hs ss b).testBit i = (match ss[i]? with | some s => exB b.cps.toList hs s | none => false) := by
  unfold mkB
  rw [maskL_bit, List.getD_eq_getElem?_getD, List.getElem?_map]
  cases ss[i]? <;> rfl
theorem ex_iff {l : List Nat} {hs s : List Str} : exB l hs s = true ↔ lookF l s ≠ lookF l hs := by
  unfold exB
  simp
theorem cz_of {H : Hp} : ∀ {ts : List Addr} {cs : List Ch}, Paired (fun (t : Addr) (q : Key × V) => H t = some (.tup [kV q.1, q.2])) ts (kvC cs) → CZ H (ts.zip cs)
  | [], _, _ => fun z hz => by simp at hz
  | _ :: _, [], _ => fun z hz => by simp at hz
  | t :: ts, c :: cs, h => by
    cases h with
    | cons r rs =>
      intro z hz
      rcases List.mem_cons.mp (show z ∈ (t, c) :: ts.zip cs from hz) with e | e
      · rw [e]
        exact r
      · exact cz_of rs z e
end
end B

set_option Elab.async false
set_option linter.all false
set_option maxRecDepth 100000
set_option maxHeartbeats 4000000
namespace B
open PySem PySem.Spec PyProof.Rows L2
open SX (S)
/-! ### few things, a roster of few -/
section
variable {P : Program} {w : World} {K : PySem.W.Frag} {mg : Str → Option Value} {base : Heap}
def spThingsM (K : PySem.W.Frag) : Sp := fun vs H Q _ => ∃ (r a : Addr) (W : Nat) (most : Int), vs = [.ref r, .int W, .int most] ∧ RowAt r a H ∧ Scr K a H ∧ W ≤ 12 ∧ 0 ≤ most ∧ most ≤ 11 ∧
  ∀ (xs : List Str) (p : Addr) (H' : Hp), (∀ x ∈ xs, Num W x) → (xs.length : Int) ≤ most → xs.Nodup → sortedS xs = true → H' p = some (.lst (xs.map V.str)) → RowAt r a H' → Frm [r] H H' → Q (.ref p) H'
theorem c_lthingsM (T : Txt P w K mg base) : CalX CX0 P w K mg base 4 "_law_things" (spThingsM K) := by
  obtain ⟨fd, F⟩ := T.t.def_ 19 (d := d_lthings)
  refine ⟨_, fd, _, F.ok sc_lthings (fun vs H Q E h => ?_) (fun cdv A outer s H vs Q E hr h => ?_), He.glo_ok T.X T.G (T.t.fact 19), F.kp, F.bindsN fun _ _ _ _ _ _ us hl => match us, hl with | [_, _, _], _ => rfl⟩
  · obtain ⟨r, a, W, most, rfl, _⟩ := h
    rfl
  · obtain ⟨r, a, W, most, rfl, hR, hS, hW, hm0, hm1, k⟩ := h
    refine ⟨_, PSs.nox (pss_cons (ps_set (i := 3) sc_lthings.nd rfl (Or.inl rfl) (pe_lst pa_nil))
    (pss_cons (ps_if (PW.pt (pw_and (pt_cmpR op_gt (pv 2) pe_int (nomark _)) (pw_and1 (pt_cmpR op_eq (pe_cx (c_ltaken T) hr (by decide) rfl pass0 (pa_cons (pv 0) (pa_cons pe_int pa_nil))) pe_int (nomark _)))))
      (pss_cons (ps_set (i := 4) sc_lthings.nd rfl (Or.inl rfl) (pe_ix ix_list (pe_lst (pa_cons (pe_cx (c_lnumber T) hr (by decide) rfl pass0 (pa_cons (pv 0) (pa_cons (pv 1) pa_nil))) (pa_cons (pe_op op_rep_str pe_str (pv 1)) pa_nil))) (pe_cx (c_ltaken T) hr (by decide) rfl pass0 (pa_cons (pv 0) (pa_cons pe_int pa_nil))) (fun _ _ => rfl)))
      (pss_cons (ps_for PassesOwn.never rfl (pi_range1 rfl (n_range T) (pa_cons (pv 1) pa_nil)) (pg_name (i := 5) sc_lthings.nd rfl (Or.inl rfl))
        (pss_one (ps_expr (pe_bm PySem.F.plainAttrs_list PySem.F.slot_list_append PySem.F.type_list_append mt_append (pv 3) (pa_cons (pe_op op_add_str (pe_op op_add_str (pe_slice C8.sl_txt (pv 4) po_none (po_some (pv 5))) (pe_ix ix_str pe_str (pe_callTy call_int_str (by rfl) (n_int T) (by decide +kernel) (pa_cons (pe_ix ix_str (pv 4) (pv 5) (fun _ _ => rfl)) pa_nil)) (fun _ _ => rfl))) (pe_slice C8.sl_txt (pe_cx (c_lnumber T) hr (by decide) rfl pass0 (pa_cons (pv 0) (pa_cons (pv 1) pa_nil))) (po_some (pe_op op_add (pv 5) pe_int)) po_none)) pa_nil)))))
      (pss_one (ps_ret (pe_callB cr_sortedS (by rfl) (n_sorted T) (by decide +kernel) (pa_cons (pe_op op_cat (pe_slice sl_list (pv 3) po_none (po_some (pe_callB (call_max2 rfl) (by rfl) (n_max T) (by decide +kernel) (pa_cons (pe_op op_sub (pv 1) (pe_cx (c_ltaken T) hr (by decide) rfl pass0 (pa_cons (pv 0) (pa_cons pe_int pa_nil)))) (pa_cons (pe_cx (c_ltaken T) hr (by decide) rfl pass0 (pa_cons (pv 0) (pa_cons (pe_op op_add (pv 1) pe_int) pa_nil))) pa_nil))))) (pe_lst (pa_cons (pv 4) pa_nil))) pa_nil))))))
      pss_nil)
    (pss_cons (ps_for PassesOwn.never rfl (pi_range1 rfl (n_range T) (pa_cons (pe_cx (c_ltaken T) hr (by decide) rfl pass0 (pa_cons (pv 0) (pa_cons (pe_op op_add (pv 2) pe_int) pa_nil))) pa_nil)) (pg_name (i := 5) sc_lthings.nd rfl (Or.inl rfl))
      (pss_cons (ps_set (i := 6) sc_lthings.nd rfl (Or.inl rfl) (pe_cx (c_lnear T) hr (by decide) rfl pass0 (pa_cons (pv 0) (pa_cons (pv 1) (pa_cons (pv 3) pa_nil)))))
      (pss_one (ps_if (pt_cmpR op_notIn_seq (pv 6) (pv 3) rfl)
        (pss_one (ps_expr (pe_bm PySem.F.plainAttrs_list PySem.F.slot_list_append PySem.F.type_list_append mt_append (pv 3) (pa_cons (pv 6) pa_nil))))
        pss_nil))))
    (pss_one (ps_ret (pe_callB cr_sortedS (by rfl) (n_sorted T) (by decide +kernel) (pa_cons (pv 3) pa_nil))))))), ?_⟩
    refine ⟨Nat.zero_le _, fun D hD => ?_⟩
    have nrD := hR.out hD
    have f0 : Frm [r] H (upd H D (.lst [])) := Frm.of (same_upd hD)
    have hR0 : RowAt r a (upd H D (.lst [])) := hR.ne nrD
    have hD0 : (upd H D (.lst [])) D = some (.lst (([] : List Str).map V.str)) := upd_same
    have keepD : ∀ {H1 H2 : Hp} {xs : List V}, H1 D = some (.lst xs) → Frm [r] H1 H2 → H2 D = some (.lst xs) := fun h f => f.k D _ h rfl (by simpa using nrD.symm)
    -- the list, sorted
    have srt : ∀ (H1 : Hp) (xs : List Str) (z : Addr), (∀ x ∈ xs, Num W x) → (xs.length : Int) ≤ most → xs.Nodup → H1 z = some (.lst (xs.map V.str)) → RowAt r a H1 → Frm [r] H H1 → rSortedS K [.ref z] H1 Q := fun H1 xs z hx hl hnd hz hR1 f1 =>
      ⟨z, xs, rfl, SqL.of hz, by omega, fun ys p pm ss hp => k ys p _ (fun y hy => hx y (pm.mem_iff.mp hy)) (by rw [pm.length_eq]; exact hl) (pm.nodup_iff.mpr hnd) ss upd_same (hR1.ne (hR1.out hp)) (f1.trans (Frm.of (same_upd hp)))⟩
    -- the second half: drawn numbers
    have rest : ∀ H1 : Hp, RowAt r a H1 → Frm [r] H H1 → H1 D = some (.lst (([] : List Str).map V.str)) → ∀ v4 v5 v6 : Option V,
        tSeq (tFor (iRng1 (tCons (tCall (spTaken K) [] E0 (tCons (tVar 0) (tCons (tOp (rI0 fun i j => .int (i + j)) (tVar 2) (tC (.int 1))) tNil))) tNil)) (gName 5)
          (tSeq (tAsg (tCall (spNear K) [] E0 (tCons (tVar 0) (tCons (tVar 1) (tCons (tVar 3) tNil)))) (gName 6))
            (tIfS (tTest (tOp (rIn K true) (tVar 6) (tVar 3))) (tDrop (tBM K "list" rAppend (tVar 3) (tCons (tVar 6) tNil))) tNext)))
          (tRet (tCB (rSortedS K) (tCons (tVar 3) tNil))) { nx := fun _ H' => Q .non H', rt := Q } [some (.ref r), some (.int W), some (.int most), some (.ref D), v4, v5, v6] H1 := fun H1 hR1 f1 hD1 v4 v5 v6 => by
      refine ⟨_, rfl, _, rfl, most, 1, rfl, rfl, r, a, most + 1, rfl, hR1, f1.scr hR.nl hS, by omega, by omega, fun m H2 m0 m1 hR2 f2 => ?_⟩
      refine ⟨m, rfl, by omega, by omega, ?_⟩
      refine for_range (lo := 0) (n := m.toNat) (fun i σ H' => ∃ v5 v6, σ = [some (.ref r), some (.int W), some (.int most), some (.ref D), v4, v5, v6] ∧ ∃ xs : List Str, (∀ x ∈ xs, Num W x) ∧ xs.Nodup ∧ xs.length ≤ i ∧ H' D = some (.lst (xs.map V.str)) ∧ RowAt r a H' ∧ Frm [r] H H')
        ⟨v5, v6, rfl, [], fun x h => absurd h (by simp), .nil, Nat.le_refl _, keepD hD1 f2, hR2, f1.trans f2⟩ ?_ ?_
      · rintro i σ H3 hi ⟨w5, w6, rfl, xs, hx, hnd, hl, hD3, hR3, f3⟩
        refine ⟨_, rfl, _, rfl, _, rfl, r, a, D, W, xs, rfl, hR3, f3.scr hR.nl hS, hW, hD3, hx, by omega, fun x H4 hxn hR4 f4 => ?_⟩
        have hD4 := keepD hD3 f4
        refine ⟨_, rfl, _, rfl, D, _, rfl, .inl (SqL.of hD4), rfl, flat_strs xs, _, rfl, iteB (fun c => ?_) (fun c => ?_)⟩
        · refine ⟨_, rfl, .inl ⟨rfl, _, SqL.of hD4⟩, _, rfl, D, _, _, rfl, rfl, hD4, by rw [List.length_map]; exact small1000 (by omega), ?_⟩
          refine ⟨_, _, rfl, xs ++ [x], fun y hy => ?_, nodup_snoc hnd (in_strs (by simpa using c)), by rw [List.length_append]; show xs.length + 1 ≤ i + 1; omega, by rw [upd_same, List.map_append]; rfl, hR4.ne nrD, (f3.trans f4).new hD⟩
          rcases List.mem_append.mp hy with z | z
          · exact hx y z
          · rw [List.mem_singleton.mp z]
            exact hxn
        · exact ⟨_, _, rfl, xs, hx, hnd, by omega, hD4, hR4, f3.trans f4⟩
      · rintro σ H3 ⟨w5, w6, rfl, xs, hx, hnd, hl, hD3, hR3, f3⟩
        exact ⟨_, rfl, srt H3 xs D hx (by omega) hnd hD3 hR3 f3⟩
    refine ⟨_, rfl, most, 11, rfl, rfl, _, rfl, iteB (fun c => ?_) (fun c => ?_)⟩
    · exfalso
      have := of_decide_eq_true c
      omega
    · exact rest _ hR0 f0 hD0 _ _ _
def spRosterM (K : PySem.W.Frag) : Sp := fun vs H Q _ => ∃ (r a : Addr) (W : Nat) (m : Int), vs = [.ref r, .int W, .int m] ∧ RowAt r a H ∧ Scr K a H ∧ W ≤ 12 ∧ 1 ≤ m ∧ m ≤ 11 ∧
  ∀ (xs : List Str) (p : Addr) (H' : Hp), xs ≠ [] → (∀ x ∈ xs, Num W x) → (xs.length : Int) ≤ m → xs.Nodup → sortedS xs = true → H' p = some (.lst (xs.map V.str)) → RowAt r a H' → Frm [r] H H' → Q (.ref p) H'
theorem c_lrosterM (T : Txt P w K mg base) : CalX CX0 P w K mg base 5 "_law_roster" (spRosterM K) := by
  obtain ⟨fd, F⟩ := T.t.def_ 25 (d := d_lroster)
  refine ⟨_, fd, _, F.ok sc_lroster (fun vs H Q E h => ?_) (fun cdv A outer s H vs Q E hr h => ?_), He.glo_ok T.X T.G (T.t.fact 25), F.kp, F.bindsN fun _ _ _ _ _ _ us hl => match us, hl with | [_, _, _], _ => rfl⟩
  · obtain ⟨r, a, W, m, rfl, _⟩ := h
    rfl
  · obtain ⟨r, a, W, m, rfl, hR, hS, hW, m0, m1, k⟩ := h
    refine ⟨_, PSs.nox (pss_cons (ps_set (i := 3) sc_lroster.nd rfl (Or.inl rfl) (pe_cx (c_lthingsM T) hr (by decide) rfl pass0 (pa_cons (pv 0) (pa_cons (pv 1) (pa_cons (pv 2) pa_nil)))))
    (pss_one (ps_ret (pe_ifExp (pt_cmpR (op_neD hr.units) (pv 3) (pe_lst pa_nil) (nomark _)) (pv 3) (pe_lst (pa_cons (pe_cx (c_lnumber T) hr (by decide) rfl pass0 (pa_cons (pv 0) (pa_cons (pv 1) pa_nil))) pa_nil)))))), ?_⟩
    refine ⟨_, rfl, _, rfl, _, rfl, r, a, W, m, rfl, hR, hS, hW, by omega, m1, fun xs p H3 hx hl hnd hss hp hR3 f3 => ?_⟩
    have f3' := f3
    -- names if names != [] else [number]
    refine ⟨_, rfl, Nat.zero_le _, fun q hq => ?_⟩
    have nrq := hR3.out hq
    have f4' : Frm [r] H (upd H3 q (.lst [])) := f3'.trans (Frm.of (same_upd hq))
    have hp4 : (upd H3 q (.lst [])) p = some (.lst (xs.map V.str)) := same_upd hq _ _ hp
    refine ⟨_, _, .lst (SqL.of hp4) (dp_strs xs), .lst (SqL.of upd_same) .nil, shaped_strs (fun x h => strOk_num (hx x h)), by decide +kernel, _, rfl, ?_⟩
    rw [eqv_empty]
    refine iteB (fun c => ?_) (fun c => ?_)
    · refine ⟨_, rfl, k xs p _ (fun e => ?_) hx hl hnd hss hp4 (hR3.ne nrq) f4'⟩
      rw [e] at c
      cases c
    · refine ⟨_, rfl, _, rfl, r, a, W, rfl, hR3.ne nrq, f4'.scr hR.nl hS, hW, fun x H5 hxn hR5 f5 => ?_⟩
      refine ⟨by show 1 ≤ sizeLine; decide, fun z hz => k [x] z _ (by simp) (fun y hy => ?_) (by show ((1 : Nat) : Int) ≤ m; omega) (by simp) rfl upd_same (hR5.ne (hR5.out hz)) ((f4'.trans f5).trans (Frm.of (same_upd hz)))⟩
      rw [List.mem_singleton.mp hy]
      exact hxn
end
end B

set_option Elab.async false
set_option linter.all false
set_option maxRecDepth 100000
set_option maxHeartbeats 4000000
namespace B
open PySem PySem.Spec PyProof.Rows L2
open SX (S)
/-! ### the first of the fewest -/
def ltS (x y : Str) : Prop := leS x y ∧ x ≠ y
theorem ltS_asym {x y : Str} (h : ltS x y) (g : ltS y x) : False := h.2 (leS_antisymm h.1 g.1)
theorem ltS_trans {x y z : Str} (h : ltS x y) (g : ltS y z) : ltS x z := ⟨leS_trans h.1 g.1, fun e => by subst e; exact ltS_asym h g⟩
/-- lists in the order of their first unlike items -/
def LtL (a b : List Str) : Prop := ∃ (d : Nat) (x y : Str), a.take d = b.take d ∧ a[d]? = some x ∧ b[d]? = some y ∧ ltS x y
theorem take_at {a b : List Str} {d e : Nat} (h : a.take e = b.take e) (hd : d < e) : a[d]? = b[d]? := by
  have := congrArg (fun l : List Str => l[d]?) h
  simpa [List.getElem?_take_of_lt hd] using this
theorem take_le {a b : List Str} {d e : Nat} (h : a.take e = b.take e) (hd : d ≤ e) : a.take d = b.take d := by
  have := congrArg (fun l : List Str => l.take d) h
  simpa [List.take_take, Nat.min_eq_left hd] using this
theorem LtL.asym {a b : List Str} (h : LtL a b) (g : LtL b a) : False := by
  obtain ⟨d, x, y, t, hx, hy, l⟩ := h
  obtain ⟨e, x', y', t', hx', hy', l'⟩ := g
  rcases Nat.lt_trichotomy d e with c | c | c
  · have := take_at t' c
    rw [hx, hy] at this
    exact l.2 (Option.some.inj this).symm
  · subst c
    rw [hx] at hy'
    rw [hy] at hx'
    cases hy'
    cases hx'
    exact ltS_asym l l'
  · have := take_at t c
    rw [hx', hy'] at this
    exact l'.2 (Option.some.inj this).symm
theorem LtL.trans {a b c : List Str} (h : LtL a b) (g : LtL b c) : LtL a c := by
  obtain ⟨d, x, y, t, hx, hy, l⟩ := h
  obtain ⟨e, x', y', t', hx', hy', l'⟩ := g
  rcases Nat.lt_trichotomy d e with q | q | q
  · exact ⟨d, x, y, t.trans (take_le t' (Nat.le_of_lt q)), hx, by rw [← take_at t' q]; exact hy, l⟩
  · subst q
    rw [hy] at hx'
    cases hx'
    exact ⟨d, x, y', t.trans t', hx, hy', ltS_trans l l'⟩
  · exact ⟨e, x', y', (take_le t (Nat.le_of_lt q)).trans t', by rw [take_at t q]; exact hx', hy', l'⟩
/-- of the lists within L that do, ys is a shortest and of these the first -/
def FirstL (L : List Str) (C : List Str → Prop) (ys : List Str) : Prop := ys.Sublist L ∧ C ys ∧ ∀ zs : List Str, zs.Sublist L → C zs → ys.length ≤ zs.length ∧ (zs.length = ys.length → ys = zs ∨ LtL ys zs)
theorem FirstL.one {L : List Str} {C : List Str → Prop} {ys zs : List Str} (h : FirstL L C ys) (g : FirstL L C zs) : ys = zs := by
  have a := h.2.2 zs g.1 g.2.1
  have b := g.2.2 ys h.1 h.2.1
  have e : ys.length = zs.length := Nat.le_antisymm a.1 b.1
  rcases a.2 e.symm with q | q
  · exact q
  · rcases b.2 e with r | r
    · exact r.symm
    · exact (q.asym r).elim
theorem lt_filter {ms : List Str} (srt : ms.Pairwise ltS) {p q : Str → Bool} {c z : Str} (hc : c ∈ ms) (hz : z ∈ ms) (lt : ltS c z) (pc : p c = false) (pz : p z = true) (qc : q c = true) (low : ∀ b ∈ ms, ltS b c → q b = p b) : LtL (ms.filter q) (ms.filter p) := by
  obtain ⟨A, B, rfl⟩ := List.append_of_mem hc
  have h1 := List.pairwise_append.mp srt
  have hA : ∀ a ∈ A, ltS a c := fun a ha => h1.2.2 a ha c (by simp)
  have hB : ∀ b ∈ B, ltS c b := fun b hb => (List.pairwise_cons.mp h1.2.1).1 b hb
  have zB : z ∈ B := by
    rcases List.mem_append.mp hz with q | q
    · exact (ltS_asym (hA z q) lt).elim
    · rcases List.mem_cons.mp q with e | e
      · exact absurd e.symm lt.2
      · exact e
  have eA : A.filter q = A.filter p := List.filter_congr fun b hb => low b (by simp [hb]) (hA b hb)
  rw [List.filter_append, List.filter_append, List.filter_cons, List.filter_cons, if_pos qc, pc, if_neg (by simp), eA]
  cases eB : B.filter p with
  | nil =>
    have : z ∈ B.filter p := List.mem_filter.mpr ⟨zB, pz⟩
    rw [eB] at this
    cases this
  | cons y t =>
    have yB : y ∈ B := (List.mem_filter.mp (show y ∈ B.filter p by rw [eB]; simp)).1
    refine ⟨(A.filter p).length, c, y, ?_, ?_, ?_, hB y yB⟩
    · rw [List.take_left, List.take_left]
    · rw [List.getElem?_append_right (Nat.le_refl _), Nat.sub_self]
      rfl
    · rw [List.getElem?_append_right (Nat.le_refl _), Nat.sub_self]
      rfl
theorem sub_filter {ms zs : List Str} (h : zs.Sublist ms) (nd : ms.Nodup) : zs = ms.filter fun b => decide (b ∈ zs) := by
  induction h with
  | slnil => rfl
  | @cons l1 l2 a s ih =>
    have n := List.nodup_cons.mp nd
    rw [List.filter_cons, if_neg (by simp; exact fun c => n.1 (s.subset c))]
    exact ih n.2
  | @cons_cons l1 l2 a s ih =>
    have n := List.nodup_cons.mp nd
    rw [List.filter_cons, if_pos (by simp)]
    congr 1
    conv => lhs; rw [ih n.2]
    refine List.filter_congr fun b hb => ?_
    have : b ≠ a := fun e => n.1 (by rw [← e]; exact hb)
    simp [this]
section
variable {τ : Type} (O : τ → Prop) (ex : Str → τ → Prop)
def CovP (ms : List Str) (p : Str → Bool) : Prop := ∀ t, O t → ∃ b ∈ ms, p b = true ∧ ex b t
/-- L holds the first of each sort -/
def RepL (ms L : List Str) : Prop := ∀ b ∈ ms, (∀ t, O t → ¬ ex b t) ∨ ∃ c ∈ L, (∀ t, O t → (ex c t ↔ ex b t)) ∧ (c = b ∨ ltS c b)
theorem reduceL {ms L : List Str} (srt : ms.Pairwise ltS) (hL : ∀ b ∈ L, b ∈ ms) (R : RepL O ex ms L) : ∀ (n : Nat) (p : Str → Bool), (ms.filter fun b => p b && !decide (b ∈ L)).length = n → CovP O ex ms p →
    ∃ q : Str → Bool, (∀ b ∈ ms, q b = true → b ∈ L) ∧ CovP O ex ms q ∧ (ms.filter q).length ≤ (ms.filter p).length ∧ ((ms.filter q).length = (ms.filter p).length → ms.filter q = ms.filter p ∨ LtL (ms.filter q) (ms.filter p)) := by
  intro n
  induction n using Nat.strongRecOn with
  | ind n ih =>
    intro p hn cov
    have nd : ms.Nodup := List.nodup_iff_pairwise_ne.mpr (srt.imp fun h => h.2)
    by_cases c0 : ∃ z ∈ ms, p z = true ∧ z ∉ L
    · obtain ⟨z, hz, pz, zL⟩ := c0
      have zc : z ∈ ms.filter fun b => p b && !decide (b ∈ L) := List.mem_filter.mpr ⟨hz, by simp [pz, zL]⟩
      -- without z
      have less : ∀ r : Str → Bool, (∀ b ∈ ms, (r b && !decide (b ∈ L)) = ((p b && !decide (b ∈ L)) && !decide (b = z))) → (ms.filter fun b => r b && !decide (b ∈ L)).length < n := fun r hr => by
        have e : ms.filter (fun b => (p b && !decide (b ∈ L)) && !decide (b = z)) = (ms.filter fun b => p b && !decide (b ∈ L)).filter fun b => !decide (b = z) := by
          rw [List.filter_filter]
          exact List.filter_congr fun b _ => Bool.and_comm _ _
        rw [List.filter_congr hr, e, ← hn]
        exact List.length_filter_lt_length_iff_exists.mpr ⟨z, zc, by simp⟩
      have drop : (CovP O ex ms fun b => p b && !decide (b = z)) → ∃ q : Str → Bool, (∀ b ∈ ms, q b = true → b ∈ L) ∧ CovP O ex ms q ∧ (ms.filter q).length ≤ (ms.filter p).length ∧ ((ms.filter q).length = (ms.filter p).length → ms.filter q = ms.filter p ∨ LtL (ms.filter q) (ms.filter p)) := fun cv => by
        obtain ⟨q, q1, q2, q3, _⟩ := ih _ (less (fun b => p b && !decide (b = z)) fun b _ => by cases p b <;> cases decide (b = z) <;> cases decide (b ∈ L) <;> rfl) _ rfl cv
        have k : (ms.filter fun b => p b && !decide (b = z)).length < (ms.filter p).length := by
          have e1 : ms.filter (fun b => p b && !decide (b = z)) = (ms.filter p).filter fun b => !decide (b = z) := by
            rw [List.filter_filter]
            exact List.filter_congr fun b _ => Bool.and_comm _ _
          rw [e1]
          exact List.length_filter_lt_length_iff_exists.mpr ⟨z, List.mem_filter.mpr ⟨hz, pz⟩, by simp⟩
        exact ⟨q, q1, q2, by omega, fun e => by omega⟩
      rcases R z hz with no | ⟨c, hc, same, le⟩
      · refine drop fun t ht => ?_
        obtain ⟨b, hb, pb, eb⟩ := cov t ht
        refine ⟨b, hb, ?_, eb⟩
        have : b ≠ z := fun e => no t ht (by rw [← e]; exact eb)
        simp [pb, this]
      · have cz : c ≠ z := fun e => zL (by rw [← e]; exact hc)
        have lt : ltS c z := le.resolve_left cz
        have cm := hL c hc
        cases pc : p c with
        | true =>
          refine drop fun t ht => ?_
          obtain ⟨b, hb, pb, eb⟩ := cov t ht
          by_cases e : b = z
          · exact ⟨c, cm, by simp [pc, cz], (same t ht).mpr (by rw [← e]; exact eb)⟩
          · exact ⟨b, hb, by simp [pb, e], eb⟩
        | false =>
          -- c in its place
          have cv : CovP O ex ms fun b => (p b && !decide (b = z)) || decide (b = c) := fun t ht => by
            obtain ⟨b, hb, pb, eb⟩ := cov t ht
            by_cases e : b = z
            · exact ⟨c, cm, by simp, (same t ht).mpr (by rw [← e]; exact eb)⟩
            · exact ⟨b, hb, by simp [pb, e], eb⟩
          obtain ⟨q, q1, q2, q3, q4⟩ := ih _ (less (fun b => (p b && !decide (b = z)) || decide (b = c)) fun b _ => by
            by_cases e : b = c
            · subst e
              simp [hc]
            · rw [decide_eq_false e, Bool.or_false]
              cases p b <;> cases decide (b = z) <;> cases decide (b ∈ L) <;> rfl) _ rfl cv
          have ll : (ms.filter fun b => (p b && !decide (b = z)) || decide (b = c)).length ≤ (ms.filter p).length := by
            have zp : z ∈ ms.filter p := List.mem_filter.mpr ⟨hz, pz⟩
            have := nodup_leA (xs := ms.filter fun b => (p b && !decide (b = z)) || decide (b = c)) (ys := c :: (ms.filter p).erase z) (nd.filter _) fun b hb => by
              obtain ⟨h1, h2⟩ := List.mem_filter.mp hb
              by_cases e : b = c
              · rw [e]
                simp
              · rw [decide_eq_false e, Bool.or_false, Bool.and_eq_true] at h2
                have e2 : b ≠ z := by simpa using h2.2
                exact List.mem_cons_of_mem _ ((List.mem_erase_of_ne e2).mpr (List.mem_filter.mpr ⟨h1, h2.1⟩))
            rw [List.length_cons, List.length_erase_of_mem zp] at this
            have := List.length_pos_of_mem zp
            omega
          have lx : LtL (ms.filter fun b => (p b && !decide (b = z)) || decide (b = c)) (ms.filter p) := lt_filter srt cm hz lt pc pz (by simp) fun b hb lb => by
            have n1 : b ≠ c := lb.2
            have n2 : b ≠ z := fun e => ltS_asym lt (by rw [← e]; exact lb)
            simp [n1, n2]
          refine ⟨q, q1, q2, Nat.le_trans q3 ll, fun e => .inr ?_⟩
          rcases q4 (by omega) with r | r
          · rw [r]
            exact lx
          · exact r.trans lx
    · exact ⟨p, fun b hb pb => Classical.byContradiction fun z => c0 ⟨b, hb, pb, z⟩, cov, Nat.le_refl _, fun _ => .inl rfl⟩
def CovL (zs : List Str) : Prop := ∀ t, O t → ∃ b ∈ zs, ex b t
/-- first among the firsts of each sort: first among all -/
theorem first_all {ms L ys : List Str} (srt : ms.Pairwise ltS) (hL : L.Sublist ms) (R : RepL O ex ms L) (h : FirstL L (CovL O ex) ys) : FirstL ms (CovL O ex) ys := by
  have nd : ms.Nodup := List.nodup_iff_pairwise_ne.mpr (srt.imp fun h => h.2)
  refine ⟨h.1.trans hL, h.2.1, fun zs hz cz => ?_⟩
  have ez := sub_filter hz nd
  obtain ⟨q, q1, q2, q3, q4⟩ := reduceL O ex srt (fun b hb => hL.subset hb) R _ (fun b => decide (b ∈ zs)) rfl fun t ht => by
    obtain ⟨b, hb, eb⟩ := cz t ht
    exact ⟨b, hz.subset hb, by simp [hb], eb⟩
  rw [← ez] at q3 q4
  have eL := sub_filter hL nd
  have ew : ms.filter q = L.filter q := by
    conv => rhs; rw [eL, List.filter_filter]
    refine List.filter_congr fun b hb => ?_
    cases c : q b with
    | false => simp
    | true => simp [q1 b hb c]
  rw [ew] at q3 q4
  have k := h.2.2 (L.filter q) List.filter_sublist fun t ht => by
    obtain ⟨b, hb, qb, eb⟩ := q2 t ht
    exact ⟨b, List.mem_filter.mpr ⟨q1 b hb qb, qb⟩, eb⟩
  refine ⟨Nat.le_trans k.1 q3, fun e => ?_⟩
  have e1 : (L.filter q).length = ys.length := by omega
  rcases k.2 e1 with r | r
  · rw [r]
    exact q4 (by omega)
  · rcases q4 (by omega) with t | t
    · rw [← t]
      exact .inr r
    · exact .inr (r.trans t)
end
theorem met_srt {W : Nat} {xs ms : List Str} (h : MetL W xs ms) : ms.Pairwise ltS := (sorted_pw h.srt).and (List.nodup_iff_pairwise_ne.mp h.nd)
end B

set_option Elab.async false
set_option linter.all false
set_option maxRecDepth 100000
set_option maxHeartbeats 4000000
namespace B
open PySem PySem.Spec PyProof.Rows L2
open SX (S)
/-! ### so few looks are enough: one less than numbers -/
/-- where two lists part -/
def difL : List Nat → List Nat → Nat
  | x :: l, y :: m => if x = y then difL l m + 1 else 0
  | _, _ => 0
theorem dif_take : ∀ {l m : List Nat} {e : Nat}, l.length = m.length → l ≠ m → (l.take e = m.take e ↔ e ≤ difL l m)
  | [], [], _, _, h => absurd rfl h
  | [], _ :: _, _, h, _ => by simp at h
  | _ :: _, [], _, h, _ => by simp at h
  | x :: l, y :: m, 0, _, _ => by simp
  | x :: l, y :: m, e + 1, h, n => by
    unfold difL
    rw [List.take_succ_cons, List.take_succ_cons]
    by_cases c : x = y
    · subst c
      rw [if_pos rfl]
      have ih := dif_take (l := l) (m := m) (e := e) (by simpa using h) fun z => n (by rw [z])
      constructor
      · intro q
        have := ih.mp (List.cons.inj q).2
        omega
      · intro q
        rw [ih.mpr (by omega)]
    · rw [if_neg c]
      constructor
      · intro q
        exact absurd (List.cons.inj q).1 c
      · intro q
        omega
theorem dif_lt {l m : List Nat} (h : l.length = m.length) (n : l ≠ m) : difL l m < l.length := by
  refine Nat.lt_of_not_le fun z => n ?_
  have := (dif_take (e := l.length) h n).mpr z
  rw [List.take_length] at this
  rw [h, List.take_length] at this
  exact this
theorem take_snoc1 {l : List Nat} {d : Nat} (h : d < l.length) : l.take (d + 1) = l.take d ++ [l[d]] := (List.take_append_getElem h).symm
theorem max_by (f : List Nat → Nat) : ∀ ls : List (List Nat), ls ≠ [] → ∃ y ∈ ls, ∀ z ∈ ls, f z ≤ f y
  | [], h => absurd rfl h
  | [y], _ => ⟨y, by simp, by simp⟩
  | y :: z :: r, _ => by
    obtain ⟨u, hu, k⟩ := max_by f (z :: r) (by simp)
    by_cases c : f u ≤ f y
    · refine ⟨y, by simp, fun v hv => ?_⟩
      rcases List.mem_cons.mp hv with e | e
      · rw [e]; exact Nat.le_refl _
      · exact Nat.le_trans (k v e) c
    · refine ⟨u, by simp [hu], fun v hv => ?_⟩
      rcases List.mem_cons.mp hv with e | e
      · rw [e]; omega
      · exact k v e
/-- bs tells each of ls alone -/
def Alone (ls bs : List (List Nat)) : Prop := ∀ x ∈ ls, ∃ b ∈ bs, ∃ c, x.take (b.length + 1) = b ++ [c] ∧ ∀ y ∈ ls, y.take (b.length + 1) = b ++ [c] → y = x
theorem part_list {W : Nat} : ∀ ls : List (List Nat), ls.Nodup → (∀ l ∈ ls, l.length = W) → 2 ≤ ls.length → ∃ bs : List (List Nat), bs.length + 1 ≤ ls.length ∧ (∀ b ∈ bs, b.length < W ∧ ∃ l ∈ ls, b = l.take b.length) ∧ Alone ls bs
  | [], _, _, h => by simp at h
  | [x], _, _, h => by simp at h
  | [x, y], nd, hl, _ => by
    have lx := hl x (by simp)
    have ly := hl y (by simp)
    have ne : x ≠ y := by simpa using nd
    have el : x.length = y.length := by omega
    have d := dif_lt el ne
    have t := (dif_take (e := difL x y) el ne).mpr (Nat.le_refl _)
    have ndx : x.take (difL x y + 1) ≠ y.take (difL x y + 1) := fun z => by
      have := (dif_take el ne).mp z
      omega
    have bl : (x.take (difL x y)).length = difL x y := by rw [List.length_take]; omega
    refine ⟨[x.take (difL x y)], by simp, fun b hb => ?_, fun u hu => ⟨x.take (difL x y), by simp, ?_⟩⟩
    · rw [List.mem_singleton.mp hb, bl]
      exact ⟨by omega, x, by simp, rfl⟩
    · rw [bl]
      simp only [List.mem_cons, List.not_mem_nil, or_false] at hu
      rcases hu with rfl | rfl
      · refine ⟨u[difL u y], take_snoc1 d, fun v hv e => ?_⟩
        simp only [List.mem_cons, List.not_mem_nil, or_false] at hv
        rcases hv with rfl | rfl
        · rfl
        · rw [← take_snoc1 d] at e
          exact absurd e.symm ndx
      · have d2 : difL x u < u.length := by omega
        refine ⟨u[difL x u], by rw [t]; exact take_snoc1 d2, fun v hv e => ?_⟩
        simp only [List.mem_cons, List.not_mem_nil, or_false] at hv
        rcases hv with rfl | rfl
        · rw [t, ← take_snoc1 d2] at e
          exact absurd e ndx
        · rfl
  | x :: y1 :: y2 :: r, nd, hl, _ => by
    have n := List.nodup_cons.mp nd
    obtain ⟨bs, b1, b2, b3⟩ := part_list (y1 :: y2 :: r) n.2 (fun l h => hl l (by simp [h])) (by simp)
    generalize hR : y1 :: y2 :: r = R at *
    have lx := hl x (by simp)
    have lR : ∀ y ∈ R, y.length = W := fun y h => hl y (by simp [h])
    have ne : ∀ y ∈ R, x ≠ y := fun y hy e => n.1 (by rw [e]; exact hy)
    have el : ∀ y ∈ R, x.length = y.length := fun y hy => by rw [lx, lR y hy]
    obtain ⟨u, hu, mx⟩ := max_by (difL x) R (by rw [← hR]; simp)
    have d := dif_lt (el u hu) (ne u hu)
    have t := (dif_take (e := difL x u) (el u hu) (ne u hu)).mpr (Nat.le_refl _)
    have bl : (x.take (difL x u)).length = difL x u := by rw [List.length_take]; omega
    refine ⟨x.take (difL x u) :: bs, by rw [List.length_cons, List.length_cons]; omega, fun b hb => ?_, fun z hz => ?_⟩
    · rcases List.mem_cons.mp hb with rfl | hb
      · rw [bl]
        exact ⟨by omega, x, by simp, rfl⟩
      · obtain ⟨q1, l, q2, q3⟩ := b2 b hb
        exact ⟨q1, l, by simp [q2], q3⟩
    · rcases List.mem_cons.mp hz with rfl | hz
      · refine ⟨z.take (difL z u), by simp, z[difL z u], by rw [bl]; exact take_snoc1 d, fun y hy e => ?_⟩
        rw [bl, ← take_snoc1 d] at e
        rcases List.mem_cons.mp hy with q | q
        · exact q
        · have := (dif_take (el y q) (ne y q)).mp e.symm
          have := mx y q
          omega
      · obtain ⟨b, hb, c, e1, e2⟩ := b3 z hz
        by_cases cx : x.take (b.length + 1) = b ++ [c]
        · -- x goes the same way: z is the nearest to x
          have eu : u = z := by
            refine e2 u hu ?_
            have h1 := (dif_take (e := b.length + 1) (el z hz) (ne z hz)).mp (by rw [cx, e1])
            have h2 := mx z hz
            rw [← (dif_take (e := b.length + 1) (el u hu) (ne u hu)).mpr (by omega)]
            exact cx
          subst eu
          have hb1 := (dif_take (e := b.length + 1) (el u hu) (ne u hu)).mp (by rw [cx, e1])
          have d2 : difL x u < u.length := by rw [← el u hu]; exact d
          refine ⟨x.take (difL x u), by simp, u[difL x u], by rw [bl, t]; exact take_snoc1 d2, fun y hy e => ?_⟩
          rw [bl, t, ← take_snoc1 d2] at e
          rcases List.mem_cons.mp hy with q | q
          · subst q
            have := (dif_take (el u hu) (ne u hu)).mp e
            omega
          · refine e2 y q ?_
            have := congrArg (List.take (b.length + 1)) e
            rw [List.take_take, List.take_take, Nat.min_eq_left (by omega)] at this
            rw [this, e1]
        · refine ⟨b, by simp [hb], c, e1, fun y hy e => ?_⟩
          rcases List.mem_cons.mp hy with q | q
          · subst q
            exact absurd e cx
          · exact e2 y q e
theorem part_all {W : Nat} (w1 : 1 ≤ W) {ls : List (List Nat)} (nd : ls.Nodup) (hl : ∀ l ∈ ls, l.length = W) (h1 : 1 ≤ ls.length) : ∃ bs : List (List Nat), (bs.length ≤ 1 ∨ bs.length + 1 ≤ ls.length) ∧ (∀ b ∈ bs, b.length < W ∧ ∃ l ∈ ls, b = l.take b.length) ∧ Alone ls bs := by
  by_cases c : 2 ≤ ls.length
  · obtain ⟨bs, a, b, d⟩ := part_list ls nd hl c
    exact ⟨bs, .inr a, b, d⟩
  · match ls, h1, c with
    | [x], _, _ =>
      have lx := hl x (by simp)
      refine ⟨[[]], .inl (by simp), fun b hb => ?_, fun y hy => ?_⟩
      · rw [List.mem_singleton.mp hb]
        exact ⟨w1, x, by simp, rfl⟩
      · rw [List.mem_singleton.mp hy]
        refine ⟨[], by simp, x[0]'(by omega), ?_, fun z hz _ => List.mem_singleton.mp hz⟩
        cases x with
        | nil => simp at lx; omega
        | cons a r => rfl
    | x :: y :: r, _, c => exact absurd (by simp) c
theorem few5 {W : Nat} {xs ms : List Str} (w1 : 1 ≤ W) (hn : ∀ x ∈ xs, Num W x) (hri : riseB xs = true) (l1 : 1 ≤ xs.length) (l6 : xs.length ≤ 6) (hm : MetL W xs ms) : ∃ bs : List Str, (∀ b ∈ bs, b ∈ ms) ∧ bs.length ≤ 5 ∧ ∀ hs : List Str, hs.Sublist xs → CovS xs hs bs := by
  have nd : xs.Nodup := of_decide_eq_true (He.ba hri).2
  have nd2 : (xs.map fun x => x.cps.toList).Nodup := by
    rw [List.nodup_iff_pairwise_ne, List.pairwise_map]
    exact (List.nodup_iff_pairwise_ne.mp nd).imp fun {a b} h e => h (TL.ext_tl e)
  obtain ⟨bs, k1, k2, k3⟩ := part_all w1 nd2 (fun l hl => by
    obtain ⟨x, hx, rfl⟩ := List.mem_map.mp hl
    obtain ⟨m, rfl, e, _⟩ := hn x hx
    rw [S_list]
    exact e) (by rw [List.length_map]; exact l1)
  rw [List.length_map] at k1
  refine ⟨bs.map S, fun b hb => ?_, by rw [List.length_map]; omega, fun hs hsub s ssub ne => ?_⟩
  · obtain ⟨l, hl, rfl⟩ := List.mem_map.mp hb
    obtain ⟨q1, m, q2, q3⟩ := k2 l hl
    obtain ⟨x, hx, rfl⟩ := List.mem_map.mp q2
    exact (hm.mem _).mpr (.inr ⟨x, hx, l.length, q1, by rw [← q3]⟩)
  · have tell : ∀ (A B : List Str), A.Sublist xs → B.Sublist xs → ∀ x, x ∈ A → x ∉ B → ∃ b ∈ bs.map S, lookF b.cps.toList A ≠ lookF b.cps.toList B := fun A B hA hB x xA xB => by
      have hx := hA.subset xA
      obtain ⟨b, hb, c, e1, e2⟩ := k3 x.cps.toList (List.mem_map.mpr ⟨x, hx, rfl⟩)
      refine ⟨S b, List.mem_map.mpr ⟨b, hb, rfl⟩, ?_⟩
      rw [S_list]
      have bc : c = 48 ∨ c = 49 := by
        obtain ⟨m, rfl, _, bm⟩ := hn x hx
        rw [S_list] at e1
        exact bm c (List.mem_of_mem_take (show c ∈ m.take (b.length + 1) by rw [e1]; simp))
      have hA1 : A.any (starts (b ++ [c])) = true := List.any_eq_true.mpr ⟨x, xA, by unfold starts; rw [List.length_append]; exact decide_eq_true e1⟩
      have hB1 : B.any (starts (b ++ [c])) = false := List.any_eq_false.mpr fun y hy z => xB (by
        unfold starts at z
        rw [List.length_append] at z
        have := e2 y.cps.toList (List.mem_map.mpr ⟨y, hB.subset hy, rfl⟩) (of_decide_eq_true z)
        rw [← TL.ext_tl this]
        exact hy)
      intro e
      have e := Prod.mk.inj e
      rcases bc with rfl | rfl
      · rw [hA1, hB1] at e
        cases e.1
      · rw [hA1, hB1] at e
        cases e.2
    refine Classical.byContradiction fun no => ne ?_
    have a1 := He.ba (show (sortedS s && decide s.Nodup) = true from rise_sub hri ssub)
    have a2 := He.ba (show (sortedS hs && decide hs.Nodup) = true from rise_sub hri hsub)
    refine sorted_eq a1.1 a2.1 ((List.perm_ext_iff_of_nodup (of_decide_eq_true a1.2) (of_decide_eq_true a2.2)).mpr fun x => ⟨fun hx => ?_, fun hx => ?_⟩)
    · refine Classical.byContradiction fun c => no ?_
      exact tell s hs ssub hsub x hx c
    · refine Classical.byContradiction fun c => no ?_
      obtain ⟨b, hb, h⟩ := tell hs s hsub ssub x hx c
      exact ⟨b, hb, Ne.symm h⟩
end B

set_option Elab.async false
set_option linter.all false
set_option maxRecDepth 100000
set_option maxHeartbeats 4000000
namespace Cmk
open PySem PySem.Spec PyProof.Rows L2
theorem seq_lt {n r : Nat} (hr : r ≤ n) : ∀ {j i : Nat} {ix jx : List Nat}, i < j → seqC n r i = some ix → seqC n r j = some jx → valB n ix < valB n jx
  | 0, _, _, _, h, _, _ => absurd h (Nat.not_lt_zero _)
  | j + 1, i, ix, jx, h, h1, h2 => by
    obtain ⟨kx, e1, e2⟩ := Option.bind_eq_some_iff.mp h2
    have l := up_lt hr (seq_good hr e1) e2
    by_cases c : i = j
    · subst c
      rw [h1] at e1
      cases e1
      exact l
    · exact Nat.lt_trans (seq_lt hr (show i < j by omega) h1 e1) l
theorem lt_part {n r : Nat} {ix jx : List Nat} (hi : RisC n r ix) (hj : RisC n r jx) (h : valB n ix < valB n jx) : ∃ d, d < r ∧ ix.take d = jx.take d ∧ ix.getD d 0 < jx.getD d 0 := by
  have el : ix.length = jx.length := by rw [hi.len, hj.len]
  obtain ⟨d, h1, h2, h3⟩ := parts el fun e => by rw [e] at h; omega
  have e1 := split_at h1
  have e2 := split_at (l := jx) (d := d) (by omega)
  have hl := hi.len
  refine ⟨d, by omega, h2, ?_⟩
  rcases Nat.lt_or_gt_of_ne h3 with z | z
  · exact z
  · have key := val_lex (B := n) (p := jx.take d) (s := jx.drop (d + 1)) (t := ix.drop (d + 1)) z (by rw [List.length_drop, List.length_drop, el]) fun x hx => hj.lt x (List.mem_of_mem_drop hx)
    rw [← e2, ← h2, ← e1] at key
    omega
end Cmk
namespace B
open PySem PySem.Spec PyProof.Rows L2
open SX (S)
theorem pick_lt {cs : List Ch} {r : Nat} {ix jx : List Nat} (srt : (cs.map (·.2)).Pairwise ltS) (hi : Cmk.RisC cs.length r ix) (hj : Cmk.RisC cs.length r jx) (h : Cmk.valB cs.length ix < Cmk.valB cs.length jx) : LtL ((Cmk.pickC dC cs ix).map (·.2)) ((Cmk.pickC dC cs jx).map (·.2)) := by
  obtain ⟨d, h1, h2, h3⟩ := Cmk.lt_part hi hj h
  have li := hi.len
  have lj := hj.len
  have di : d < ix.length := by omega
  have dj : d < jx.length := by omega
  have gi : ix.getD d 0 = ix[d] := by rw [List.getD_eq_getElem?_getD, List.getElem?_eq_getElem di]; rfl
  have gj : jx.getD d 0 = jx[d] := by rw [List.getD_eq_getElem?_getD, List.getElem?_eq_getElem dj]; rfl
  rw [gi, gj] at h3
  have bi := hi.lt _ (List.getElem_mem di)
  have bj := hj.lt _ (List.getElem_mem dj)
  refine ⟨d, (cs[ix[d]]'bi).2, (cs[jx[d]]'bj).2, ?_, ?_, ?_, ?_⟩
  · unfold Cmk.pickC
    rw [← List.map_take, ← List.map_take, ← List.map_take, ← List.map_take, h2]
  · unfold Cmk.pickC
    rw [List.getElem?_map, List.getElem?_map, List.getElem?_eq_getElem di]
    show some (cs.getD ix[d] dC).2 = _
    rw [List.getD_eq_getElem?_getD, List.getElem?_eq_getElem bi]
    rfl
  · unfold Cmk.pickC
    rw [List.getElem?_map, List.getElem?_map, List.getElem?_eq_getElem dj]
    show some (cs.getD jx[d] dC).2 = _
    rw [List.getD_eq_getElem?_getD, List.getElem?_eq_getElem bj]
    rfl
  · have := List.pairwise_iff_getElem.mp srt ix[d] jx[d] (by rw [List.length_map]; exact bi) (by rw [List.length_map]; exact bj) h3
    rw [List.getElem_map, List.getElem_map] at this
    exact this
section
variable {P : Program} {w : World} {K : PySem.W.Frag} {mg : Str → Option Value} {base : Heap}
end
end B

set_option Elab.async false
set_option linter.all false
set_option maxRecDepth 100000
set_option maxHeartbeats 4000000
namespace B
open PySem PySem.Spec PyProof.Rows L2
open SX (S)
section
variable {P : Program} {w : World} {K : PySem.W.Frag} {mg : Str → Option Value} {base : Heap}
end
end B

set_option Elab.async false
set_option linter.all false
set_option maxRecDepth 100000
set_option maxHeartbeats 4000000
namespace B
open PySem PySem.Spec PyProof.Rows L2
open SX (S)
/-! ### within a comprehension: a method of a list, index by data, sum -/
@[elab_as_elim] theorem new_to {H : Hp} {p : Addr} {o : HO} {G : Hp → Prop} (h : H p = none) (k : ∀ H', Frm [] H H' → H' p = some o → G H') : G (upd H p o) := k _ (Frm.of (same_upd h)) upd_same
section
variable {X : Cx} {K : PySem.W.Frag}
theorem pe_bmK {T id : String} {name : Str} {r : V → List V → Hp → VK → Prop} {o e : Expr} {es : List Expr} {to : TE} {t : TA} {apos cpos : Pos} (hK : X.K = K) (pa : PlainAttrs T) (slot : Slot T name id) (hty : typeOf (.builtin id) = pure (.type "method_descriptor")) (hm : MtR X id r)
    (ho : PE X o to) (ha : PA X (e :: es) t) (hbase : attributeBase o name X.env (eval o X.env) = eval o X.env := by rfl) (hfew : ((backTo cpos (starEach (e :: es) X.env)).all (fun x => !x.1) && (backToKw cpos (keywordEach [] X.env)).all (fun x => x.1.isSome) &&
      decide ((e :: es).length + ([] : List Keyword).length + (if ([] : List Keyword).isEmpty then 0 else 1) < 30)) = true := by rfl) (hline : (apos.endLine == cpos.line) = true := by rfl)
    (hs : starEach (e :: es) X.env = (false, eval e X.env) :: starEach es X.env := by rfl) (hplain : (backTo cpos (starEach es X.env)).any (·.1) = false := by rfl) : PE X (.Call (.Attribute o name apos) (e :: es) [] cpos) (tBM K T r to t) := by
  subst hK
  exact pe_bm pa slot hty hm ho ha hbase hfew hline hs hplain
theorem mt_indexDK (hK : X.K = K) (hu : X.A.units + 65 < cLine) : MtR X "list.index" (rIndexD K) := by
  subst hK
  exact mt_indexD hu
theorem call_lenK (hK : X.K = K) : CallR X (.builtin "len") (fun xs H Q => ∃ p ys, xs = [V.ref p] ∧ (SqL K H p ys ∨ SqT K H p ys) ∧ Q (V.int ys.length) H) := by
  subst hK
  exact call_len_seq
theorem cr_sumK (hK : X.K = K) (hc : X.calm = true) : CallR X (.builtin "sum") (rSum K) := by
  subst hK
  exact cr_sum hc
end
end B

set_option Elab.async false
set_option linter.all false
set_option maxRecDepth 100000
set_option maxHeartbeats 4000000
namespace B
open PySem PySem.Spec PyProof.Rows L2
open SX (S)
/-! ### sets that tell so -/
def okS (qs : List Lk) (s : List Str) : Bool := qs.all fun q => decide (lookB s q.1 = q.2)
theorem bad_empty (s : List Str) (ls : List (Addr × Lk)) : ((ls.filter fun z => !decide (lookB s z.2.1 = z.2.2)).map (·.2)).isEmpty = okS (ls.map (·.2)) s := by
  rw [List.isEmpty_map]
  unfold okS
  induction ls with
  | nil => rfl
  | cons z r ih =>
    rw [List.filter_cons, List.map_cons, List.all_cons]
    cases c : decide (lookB s z.2.1 = z.2.2) with
    | true =>
      rw [if_neg (by decide)]
      rw [ih, Bool.true_and]
    | false =>
      rw [if_pos (by decide)]
      rfl
theorem eqv_sets (ss : List (List Str)) : PyData.eqv (.list (ss.map fun s => .list (s.map .str))) (.list []) = ss.isEmpty := by
  cases ss <;> rfl
theorem shaped_sets {ss : List (List Str)} (h : ∀ s ∈ ss, ∀ x ∈ s, PyData.strOk x = true) : SeqAt.shaped (.list (ss.map fun s => .list (s.map .str))) = true := by
  have a : ∀ s : List Str, (∀ x ∈ s, PyData.strOk x = true) → (PyData.list (s.map .str)).canLay0 = true := fun s hs => by
    have q : ((PyData.list (s.map .str)).canLay0 && decide ((PyData.list (s.map .str)).depth ≤ 64)) = true := shaped_strs hs
    rw [Bool.and_eq_true] at q
    exact q.1
  have b : ∀ ss : List (List Str), (∀ s ∈ ss, ∀ x ∈ s, PyData.strOk x = true) → PyData.canLayAll0 (ss.map fun s => .list (s.map .str)) = true ∧ PyData.depthAll (ss.map fun s => .list (s.map .str)) ≤ 2 := by
    intro ss
    induction ss with
    | nil => exact fun _ => ⟨rfl, Nat.zero_le _⟩
    | cons s r ih =>
      intro h
      have i := ih fun t ht => h t (by simp [ht])
      rw [List.map_cons]
      refine ⟨?_, ?_⟩
      · show ((PyData.list (s.map .str)).canLay0 && PyData.canLayAll0 (r.map fun s => .list (s.map .str))) = true
        rw [a s (h s (by simp)), i.1]
        rfl
      · show max (PyData.depth (.list (s.map .str))) (PyData.depthAll (r.map fun s => .list (s.map .str))) ≤ 2
        exact Nat.max_le.mpr ⟨depth_strs s, i.2⟩
  have c := b ss h
  show (PyData.canLayAll0 (ss.map fun s => .list (s.map .str)) && decide (PyData.depthAll (ss.map fun s => .list (s.map .str)) + 1 ≤ 64)) = true
  rw [c.1, decide_eq_true (by omega)]
  rfl
end B

set_option Elab.async false
set_option linter.all false
set_option maxRecDepth 100000
set_option maxHeartbeats 4000000
namespace B
open PySem PySem.Spec PyProof.Rows L2
open SX (S)
theorem op_catAK {X : Cx} {K : PySem.W.Frag} (hK : X.K = K) : OpR X (binaryOp .Add) (rCatA K) := by
  subst hK
  exact op_catA
theorem pi_tupK {X : Cx} {K : PySem.W.Frag} {tg l : Expr} {tl : TE} (hK : X.K = K) (h : PE X l tl) : PI X tg l (iTup K tl) := by
  subst hK
  exact pi_tup h
/-- the list at p of tuples of whole numbers -/
def RzI (H : Hp) (p : Addr) (zs : List (Addr × List Nat)) : Prop := H p = some (.lst (zs.map fun z => V.ref z.1)) ∧ ∀ z ∈ zs, H z.1 = some (.tup (z.2.map fun n => V.int (n : Nat)))
theorem RzI.keep {H H' : Hp} {p : Addr} {zs : List (Addr × List Nat)} (h : RzI H p zs) (f : Frm [] H H') : RzI H' p zs := ⟨f.k _ _ h.1 rfl (by simp), fun z hz => f.k _ _ (h.2 z hz) rfl (by simp)⟩
theorem at_rzI {zs : List (Addr × List Nat)} {i : Nat} {y : V} (h : (zs.map fun z => V.ref z.1)[i]? = some y) : ∃ z, zs[i]? = some z ∧ y = .ref z.1 := by
  rw [List.getElem?_map] at h
  cases c : zs[i]? with
  | none => rw [c] at h; cases h
  | some z =>
    rw [c] at h
    exact ⟨z, rfl, (Option.some.inj h).symm⟩
def begR (p : List Nat) : Nat := match p.getLast? with | none => 0 | some k => k + 1
def moreR (n : Nat) (p : List Nat) : List (List Nat) := (List.range (n - begR p)).map fun j => p ++ [begR p + j]
theorem shaped_ints (ns : List Nat) : SeqAt.shaped (.tuple (ns.map fun n => .int (n : Nat))) = true := by
  have c : PyData.canLayAll0 (ns.map fun n => .int (n : Nat)) = true ∧ PyData.depthAll (ns.map fun n => .int (n : Nat)) ≤ 1 := by
    induction ns with
    | nil => exact ⟨rfl, Nat.zero_le _⟩
    | cons n r ih =>
      rw [List.map_cons]
      refine ⟨?_, ?_⟩
      · show (true && PyData.canLayAll0 (r.map fun n => .int (n : Nat))) = true
        rw [ih.1]
        rfl
      · show max (PyData.depth (.int (n : Nat))) (PyData.depthAll (r.map fun n => .int (n : Nat))) ≤ 1
        exact Nat.max_le.mpr ⟨by simp [PyData.depth], ih.2⟩
  show (PyData.canLayAll0 (ns.map fun n => .int (n : Nat)) && decide (PyData.depthAll (ns.map fun n => .int (n : Nat)) + 1 ≤ 64)) = true
  rw [c.1, decide_eq_true (by omega)]
  rfl
theorem eqv_ints (ns : List Nat) : PyData.eqv (.tuple (ns.map fun n => .int (n : Nat))) (.tuple []) = ns.isEmpty := by
  cases ns <;> rfl
theorem dp_ints {K : PySem.W.Frag} {H : Hp} : ∀ ns : List Nat, DpAll K H (ns.map fun n => V.int (n : Nat)) (ns.map fun n => .int (n : Nat))
  | [] => .nil
  | n :: r => .cons (.int _) (dp_ints r)
theorem begR_nil : begR [] = 0 := rfl
theorem begR_snoc (p : List Nat) (k : Nat) : begR (p ++ [k]) = k + 1 := by
  unfold begR
  rw [List.getLast?_append]
  rfl
theorem begin_ok {K : PySem.W.Frag} {σ : L2.St} {H : Hp} {t : Addr} {ns : List Nat} {Q : VK} (hσ : σ[5]? = some (some (.ref t))) (ht : H t = some (.tup (ns.map fun n => V.int (n : Nat)))) (go : ∀ H', Frm [] H H' → Q (.int (begR ns : Nat)) H') :
    tIf (tTest (tOp (rNeD K) (tVar 5) (tTup tNil))) (tOp (rI0 fun i j => V.int (i + j)) (tOp (rIxT K) (tVar 5) (tUn (rU fun i => V.int (-i)) (tC (V.int 1)))) (tC (V.int 1))) (tC (V.int 0)) σ H Q := by
  refine ⟨_, hσ, Nat.zero_le _, fun t0 h0 => ?_⟩
  have g : Frm [] H (upd H t0 (.tup [])) := Frm.of (same_upd h0)
  have ht' := g.k _ _ ht rfl (by simp)
  refine ⟨_, .tuple [], .tup (SqT.of ht') (dp_ints ns), .tup (SqT.of upd_same) .nil, shaped_ints ns, by decide +kernel, _, rfl, ?_⟩
  rw [eqv_ints]
  refine iteB (fun c => ?_) (fun c => ?_)
  · have ne : ns ≠ [] := fun e => by rw [e] at c; cases c
    have e := (List.dropLast_concat_getLast ne).symm
    generalize ns.dropLast = p at e
    generalize ns.getLast ne = k at e
    subst e
    refine ⟨_, hσ, 1, rfl, t, _, _, .int (k : Nat), rfl, rfl, SqT.of ht', ?_, _, _, rfl, rfl, ?_⟩
    · rw [List.map_append]
      exact atI_last _ _
    · have := go _ g
      rw [begR_snoc] at this
      exact this
  · have e : ns = [] := by
      cases ns with
      | nil => rfl
      | cons a b => cases c
    subst e
    exact go _ g
theorem rows_l {n : Nat} : ∀ {m : Nat} {p : List Nat}, p ∈ rowsF n m → p.length = m
  | 0, p, h => by rw [List.mem_singleton.mp h]; rfl
  | m + 1, p, h => by
    obtain ⟨q, hq, z⟩ := List.mem_flatMap.mp h
    obtain ⟨j, _, rfl⟩ := List.mem_map.mp z
    rw [List.length_append, rows_l hq]
    rfl
theorem rows_b {n : Nat} : ∀ {m : Nat} {p : List Nat}, p ∈ rowsF n m → begR p ≤ n
  | 0, p, h => by rw [List.mem_singleton.mp h]; exact Nat.zero_le _
  | m + 1, p, h => by
    obtain ⟨q, hq, z⟩ := List.mem_flatMap.mp h
    obtain ⟨j, hj, rfl⟩ := List.mem_map.mp z
    have hj' : j < n - begR q := List.mem_range.mp hj
    rw [begR_snoc]
    show begR q + j + 1 ≤ n
    omega
theorem rows_few {n m : Nat} (hn : n ≤ 7) (hm : m ≤ 7) : (rowsF n m).length ≤ 35 := by
  have z : (List.range 8).all (fun n => (List.range 8).all fun m => decide ((rowsF n m).length ≤ 35)) = true := by decide +kernel
  exact of_decide_eq_true (List.all_eq_true.mp (List.all_eq_true.mp z n (List.mem_range.mpr (by omega))) m (List.mem_range.mpr (by omega)))
theorem flat_take {α β : Type} (f : α → List β) (l : List α) (j : Nat) : ((l.take j).flatMap f).length ≤ (l.flatMap f).length := by
  conv => rhs; rw [← List.take_append_drop j l, List.flatMap_append, List.length_append]
  omega
section
variable {P : Program} {w : World} {K : PySem.W.Frag} {mg : Str → Option Value} {base : Heap}
def spRows (K : PySem.W.Frag) : Sp := fun vs H Q _ => ∃ (n m : Nat), vs = [.int n, .int m] ∧ n ≤ 100 ∧ m ≤ 90 ∧ (∀ i, i ≤ m → (rowsF n i).length ≤ 16000000) ∧
  ∀ (q : Addr) (zs : List (Addr × List Nat)) (H' : Hp), H q = none → RzI H' q zs → zs.map (·.2) = rowsF n m → Frm [] H H' → Q (.ref q) H'
end
end B

set_option Elab.async false
set_option linter.all false
set_option maxRecDepth 100000
set_option maxHeartbeats 4000000
namespace B
open PySem PySem.Spec PyProof.Rows L2
open SX (S)
/-! ### beginnings that part sets unlike -/
abbrev BB := Bool × Bool
def bbD (t : BB) : PyData := .tuple [.bool t.1, .bool t.2]
theorem eqv_bbD (t u : BB) : PyData.eqv (bbD t) (bbD u) = decide (t = u) := eqv_bb t.1 t.2 u.1 u.2
theorem shaped_bbs (ts : List BB) : SeqAt.shaped (.list (ts.map bbD)) = true := by
  have c : PyData.canLayAll0 (ts.map bbD) = true ∧ PyData.depthAll (ts.map bbD) ≤ 10 := by
    induction ts with
    | nil => exact ⟨rfl, Nat.zero_le _⟩
    | cons t r ih =>
      rw [List.map_cons]
      refine ⟨?_, ?_⟩
      · show ((true && (true && true)) && PyData.canLayAll0 (r.map bbD)) = true
        rw [ih.1]
        rfl
      · show max (bbD t).depth (PyData.depthAll (r.map bbD)) ≤ 10
        exact Nat.max_le.mpr ⟨by simp [bbD, PyData.depth, PyData.depthAll], ih.2⟩
  show (PyData.canLayAll0 (ts.map bbD) && decide (PyData.depthAll (ts.map bbD) + 1 ≤ 64)) = true
  rw [c.1, decide_eq_true (by omega)]
  rfl
def intsD (ns : List Nat) : PyData := .list (ns.map fun n => .int (n : Nat))
theorem lay_ints (ns : List Nat) : (intsD ns).canLay0 = true ∧ (intsD ns).depth ≤ 2 := by
  have c : PyData.canLayAll0 (ns.map fun n => .int (n : Nat)) = true ∧ PyData.depthAll (ns.map fun n => .int (n : Nat)) ≤ 1 := by
    induction ns with
    | nil => exact ⟨rfl, Nat.zero_le _⟩
    | cons n r ih =>
      rw [List.map_cons]
      refine ⟨?_, ?_⟩
      · show (true && PyData.canLayAll0 (r.map fun n => .int (n : Nat))) = true
        rw [ih.1]
        rfl
      · show max (PyData.depth (.int (n : Nat))) (PyData.depthAll (r.map fun n => .int (n : Nat))) ≤ 1
        exact Nat.max_le.mpr ⟨by simp [PyData.depth], ih.2⟩
  exact ⟨c.1, by show PyData.depthAll (ns.map fun n => .int (n : Nat)) + 1 ≤ 2; omega⟩
theorem shaped_intsD (ns : List Nat) : SeqAt.shaped (intsD ns) = true := by
  obtain ⟨a, b⟩ := lay_ints ns
  show ((intsD ns).canLay0 && decide ((intsD ns).depth ≤ 64)) = true
  rw [a, decide_eq_true (by omega)]
  rfl
theorem shaped_intss (ks : List (List Nat)) : SeqAt.shaped (.list (ks.map intsD)) = true := by
  have c : PyData.canLayAll0 (ks.map intsD) = true ∧ PyData.depthAll (ks.map intsD) ≤ 2 := by
    induction ks with
    | nil => exact ⟨rfl, Nat.zero_le _⟩
    | cons n r ih =>
      rw [List.map_cons]
      obtain ⟨a, b⟩ := lay_ints n
      refine ⟨?_, ?_⟩
      · show ((intsD n).canLay0 && PyData.canLayAll0 (r.map intsD)) = true
        rw [ih.1, a]
        rfl
      · show max (intsD n).depth (PyData.depthAll (r.map intsD)) ≤ 2
        exact Nat.max_le.mpr ⟨b, ih.2⟩
  show (PyData.canLayAll0 (ks.map intsD) && decide (PyData.depthAll (ks.map intsD) + 1 ≤ 64)) = true
  rw [c.1, decide_eq_true (by omega)]
  rfl
theorem eqv_intsD : ∀ (a b : List Nat), PyData.eqv (intsD a) (intsD b) = decide (a = b)
  | [], [] => rfl
  | [], _ :: _ => rfl
  | _ :: _, [] => rfl
  | x :: a, y :: b => by
    have ih := eqv_intsD a b
    show ((((x : Nat) : Int) == ((y : Nat) : Int)) && PyData.eqvAll (a.map fun n => .int (n : Nat)) (b.map fun n => .int (n : Nat))) = _
    have ih' : PyData.eqvAll (a.map fun n => .int (n : Nat)) (b.map fun n => .int (n : Nat)) = decide (a = b) := ih
    rw [ih']
    by_cases h : x = y
    · by_cases g : a = b
      · rw [h, g]; simp
      · simp [h, g]
    · have : ¬ ((x : Nat) : Int) = ((y : Nat) : Int) := fun z => h (by omega)
      simp [h, this]
theorem eqv_any (k : List Nat) (ks : List (List Nat)) : ((ks.map intsD).any fun z => PyData.eqv z (intsD k)) = decide (k ∈ ks) := by
  induction ks with
  | nil => rfl
  | cons a r ih =>
    rw [List.map_cons, List.any_cons, ih, eqv_intsD]
    by_cases c : a = k
    · simp [c]
    · have : ¬ k = a := fun z => c z.symm
      simp [c, this]
/-- where t stands first -/
def firstI : List BB → BB → Nat
  | [], _ => 0
  | u :: r, t => if u = t then 0 else firstI r t + 1
theorem first_get : ∀ {ts : List BB} {t : BB}, t ∈ ts → ts[firstI ts t]? = some t
  | [], _, h => by cases h
  | u :: r, t, h => by
    unfold firstI
    by_cases c : u = t
    · rw [if_pos c, c]
      rfl
    · rw [if_neg c, List.getElem?_cons_succ]
      exact first_get ((List.mem_cons.mp h).resolve_left fun e => c e.symm)
theorem first_no : ∀ {ts : List BB} {t z : BB} {m : Nat}, m < firstI ts t → ts[m]? = some z → z ≠ t
  | [], _, _, _, h, _ => absurd h (Nat.not_lt_zero _)
  | u :: r, t, z, m, h, e => by
    unfold firstI at h
    by_cases c : u = t
    · rw [if_pos c] at h
      exact absurd h (Nat.not_lt_zero _)
    · rw [if_neg c] at h
      cases m with
      | zero =>
        have : u = z := by simpa using e
        rw [← this]
        exact c
      | succ m =>
        rw [List.getElem?_cons_succ] at e
        exact first_no (by omega) e
theorem first_inj {ts : List BB} {t u : BB} (ht : t ∈ ts) (hu : u ∈ ts) (h : firstI ts t = firstI ts u) : t = u := by
  have a := first_get ht
  have b := first_get hu
  rw [h, b] at a
  exact (Option.some.inj a).symm
def sortF (ts : List BB) : List Nat := ts.map (firstI ts)
theorem sort_same {ss : List (List Str)} {f g : List Str → BB} (h : sortF (ss.map f) = sortF (ss.map g)) {s t : List Str} (hs : s ∈ ss) (ht : t ∈ ss) : f s = f t ↔ g s = g t := by
  have key : ∀ u ∈ ss, firstI (ss.map f) (f u) = firstI (ss.map g) (g u) := fun u hu => by
    obtain ⟨i, hi⟩ := List.mem_iff_getElem?.mp hu
    have := congrArg (fun l : List Nat => l[i]?) h
    unfold sortF at this
    simp only [List.getElem?_map, hi, Option.map_some] at this
    exact Option.some.inj this
  have m : ∀ (f : List Str → BB) u, u ∈ ss → f u ∈ ss.map f := fun f u hu => List.mem_map.mpr ⟨u, hu, rfl⟩
  constructor
  · intro e
    refine first_inj (m g s hs) (m g t ht) ?_
    rw [← key s hs, ← key t ht, e]
  · intro e
    refine first_inj (m f s hs) (m f t ht) ?_
    rw [key s hs, key t ht, e]
theorem sort_zero {ss : List (List Str)} {f : List Str → BB} (h : ∀ n ∈ sortF (ss.map f), n = 0) {s t : List Str} (hs : s ∈ ss) (ht : t ∈ ss) : f s = f t := by
  have m : ∀ u, u ∈ ss → f u ∈ ss.map f := fun u hu => List.mem_map.mpr ⟨u, hu, rfl⟩
  have z : ∀ u, u ∈ ss → firstI (ss.map f) (f u) = 0 := fun u hu => h _ (List.mem_map.mpr ⟨f u, m u hu, rfl⟩)
  exact first_inj (m s hs) (m t ht) (by rw [z s hs, z t ht])
/-! ### as they lie -/
def TldA (H : Hp) (tl : Addr) (cs : List (Addr × BB)) : Prop := H tl = some (.lst (cs.map fun c => V.ref c.1)) ∧ ∀ c ∈ cs, H c.1 = some (.tup [.bl c.2.1, .bl c.2.2])
theorem TldA.keep {H H' : Hp} {tl : Addr} {cs : List (Addr × BB)} (h : TldA H tl cs) (f : Frm [] H H') : TldA H' tl cs := ⟨f.k _ _ h.1 rfl (by simp), fun c hc => f.k _ _ (h.2 c hc) rfl (by simp)⟩
theorem dp_bbs {K : PySem.W.Frag} {H : Hp} : ∀ {cs : List (Addr × BB)}, (∀ c ∈ cs, H c.1 = some (.tup [.bl c.2.1, .bl c.2.2])) → DpAll K H (cs.map fun c => V.ref c.1) ((cs.map (·.2)).map bbD)
  | [], _ => .nil
  | c :: r, h => .cons (dp_bb (h c (by simp))) (dp_bbs fun y hy => h y (by simp [hy]))
/-- a beginning, and what all sets tell there -/
abbrev Ul := Addr × Str × Addr × List (Addr × BB)
def UzA (H : Hp) (q : Addr) (us : List Ul) : Prop := H q = some (.lst (us.map fun u => V.ref u.1)) ∧ ∀ u ∈ us, H u.1 = some (.tup [.str u.2.1, .ref u.2.2.1]) ∧ TldA H u.2.2.1 u.2.2.2
theorem UzA.keep {H H' : Hp} {q : Addr} {us : List Ul} (h : UzA H q us) (f : Frm [] H H') : UzA H' q us := ⟨f.k _ _ h.1 rfl (by simp), fun u hu => ⟨f.k _ _ (h.2 u hu).1 rfl (by simp), (h.2 u hu).2.keep f⟩⟩
def KzA (H : Hp) (q : Addr) (ks : List (Addr × List Nat)) : Prop := H q = some (.lst (ks.map fun u => V.ref u.1)) ∧ ∀ u ∈ ks, H u.1 = some (.lst (u.2.map fun n => V.int (n : Nat)))
theorem KzA.keep {H H' : Hp} {q : Addr} {ks : List (Addr × List Nat)} (h : KzA H q ks) (f : Frm [] H H') : KzA H' q ks := ⟨f.k _ _ h.1 rfl (by simp), fun u hu => f.k _ _ (h.2 u hu) rfl (by simp)⟩
theorem dp_intss {K : PySem.W.Frag} {H : Hp} : ∀ {ks : List (Addr × List Nat)}, (∀ u ∈ ks, H u.1 = some (.lst (u.2.map fun n => V.int (n : Nat)))) → DpAll K H (ks.map fun u => V.ref u.1) ((ks.map (·.2)).map intsD)
  | [], _ => .nil
  | c :: r, h => .cons (.lst (SqL.of (h c (by simp))) (dp_ints c.2)) (dp_intss fun y hy => h y (by simp [hy]))
def lkS (b : Str) (s : List Str) : BB := lookF b.cps.toList s
section
variable {P : Program} {w : World} {K : PySem.W.Frag} {mg : Str → Option Value} {base : Heap}
/-- of each sort the first is there, but of the sort that tells nothing -/
def RepU (ss : List (List Str)) (ms : List Str) (us : List Ul) : Prop := ∀ b ∈ ms, (∀ s ∈ ss, ∀ t ∈ ss, lkS b s = lkS b t) ∨ ∃ u ∈ us, sortF (ss.map (lkS u.2.1)) = sortF (ss.map (lkS b)) ∧ (u.2.1 = b ∨ ltS u.2.1 b)
end
end B

set_option Elab.async false
set_option linter.all false
set_option maxRecDepth 100000
set_option maxHeartbeats 4000000
namespace B
open PySem PySem.Spec PyProof.Rows L2
/-! ### dicts whose keys are tuples of any depth -/
mutual
/-- the value v is the key k -/
inductive NK (H : Hp) : NestedKey → V → Prop
  | bl {b i} : i = (if b = true then 1 else 0) → NK H (.num i) (.bl b)
  | num (i) : NK H (.num i) (.int i)
  | text (x) : NK H (.text x) (.str x)
  | tup {a vs ks} : H a = some (.tup vs) → NKs H ks vs → NK H (.tup ks) (.ref a)
inductive NKs (H : Hp) : List NestedKey → List V → Prop
  | nil : NKs H [] []
  | cons {k v ks vs} : NK H k v → NKs H ks vs → NKs H (k :: ks) (v :: vs)
end
mutual
theorem nk_is {P : Program} {w : World} {H : Hp} {h : Heap} (ok : HOk P w H h) : ∀ (k : NestedKey) (v : V) (u : Value), NK H k v → RelV v u → NestedIs h k u
  | .none, _, _, x, _ => by cases x
  | .num i, v, u, x, r => by
    cases x with
    | bl e =>
      obtain rfl : u = _ := r
      exact .bool e
    | num =>
      obtain ⟨t, rfl⟩ := r
      exact .int i t
  | .text y, v, u, x, r => by
    cases x
    obtain ⟨t, rfl⟩ := r
    exact .text y t
  | .tup ks, v, u, x, r => by
    cases x with
    | tup e t =>
      obtain rfl : u = _ := r
      obtain ⟨_, its, rv, o, h1, h2, n, h3⟩ := (show ObjOk P w H h _ (.tup _) from ok _ _ e)
      exact .tup h1 h2 h3 (by rw [List.toList_toArray]; exact nks_is ok ks _ _ t rv)
theorem nks_is {P : Program} {w : World} {H : Hp} {h : Heap} (ok : HOk P w H h) : ∀ (ks : List NestedKey) (vs : List V) (us : List Value), NKs H ks vs → Vals vs us → NestedAll h ks us
  | [], _, _, x, r => by
    cases x
    cases r
    exact .nil
  | k :: ks, _, _, x, r => by
    cases x with
    | cons x1 x2 =>
      cases r with
      | cons r1 r2 => exact .cons (nk_is ok k _ _ x1 r1) (nks_is ok ks _ _ x2 r2)
end
mutual
theorem NK.keep {H H' : Hp} (f : ∀ b ys, H b = some (.tup ys) → H' b = some (.tup ys)) : ∀ (k : NestedKey) (v : V), NK H k v → NK H' k v
  | .none, _, x => by cases x
  | .num i, v, x => by
    cases x with
    | bl e => exact .bl e
    | num => exact .num i
  | .text y, v, x => by cases x; exact .text y
  | .tup ks, v, x => by
    cases x with
    | tup e t => exact .tup (f _ _ e) (NKs.keep f ks _ t)
theorem NKs.keep {H H' : Hp} (f : ∀ b ys, H b = some (.tup ys) → H' b = some (.tup ys)) : ∀ (ks : List NestedKey) (vs : List V), NKs H ks vs → NKs H' ks vs
  | [], _, x => by cases x; exact .nil
  | k :: ks, _, x => by
    cases x with
    | cons x1 x2 => exact .cons (NK.keep f k _ x1) (NKs.keep f ks _ x2)
end
theorem nks_ints {H : Hp} : ∀ ns : List Int, NKs H (ns.map .num) (ns.map V.int)
  | [] => .nil
  | n :: ns => .cons (.num n) (nks_ints ns)
theorem nks_strs {H : Hp} : ∀ xs : List Str, NKs H (xs.map .text) (xs.map V.str)
  | [] => .nil
  | x :: xs => .cons (.text x) (nks_strs xs)
theorem NestedKey.depth_flat {α : Type} {f : α → NestedKey} (hf : ∀ a, (f a).depth = 0) : ∀ l : List α, NestedKey.depthAll (l.map f) = 0
  | [] => by rw [List.map_nil]; rfl
  | a :: l => by
    rw [List.map_cons]
    show max (f a).depth (NestedKey.depthAll (l.map f)) = 0
    rw [hf a, NestedKey.depth_flat hf l]
    rfl
/-- an entry: key, the tuple that stands for it, value -/
abbrev NE := NestedKey × Addr × V
def nval (kvs : List NE) (k : NestedKey) : Option V := (kvs.find? fun p => decide (p.1 = k)).map (·.2.2)
def nput (kvs : List NE) (k : NestedKey) (a : Addr) (v : V) : List NE := if (nval kvs k).isSome then kvs.map fun p => if p.1 = k then (p.1, p.2.1, v) else p else kvs ++ [(k, a, v)]
abbrev NTk : List NE → List (NestedKey × Addr × Value) → Prop := Paired fun p q => p.1 = q.1 ∧ p.2.1 = q.2.1 ∧ RelV p.2.2 q.2.2
def NDφ (P : Program) (w : World) (a : Addr) (kvs : List NE) (h : Heap) : Prop := kvs.length ≤ sizeLine ∧ (a == sysModules) = false ∧ ∃ xs, NTk kvs xs ∧
  ∃ o es ep, h.get? a = some o ∧ o.ExactDict ∧ o.data = .dict es ep ∧ es.toList = xs.map (entryOfKey (nestedKind P w)) ∧ (xs.map (·.1)).Nodup
def ND (P : Program) (w : World) (a : Addr) (kvs : List NE) : HO := .ext (NDφ P w a kvs)
theorem nd_new {P : Program} {w : World} {H : Hp} {h : Heap} {a : Addr} {kvs : List NE} (R : NDφ P w a kvs h) : ObjOk P w H h a (ND P w a kvs) := by
  have ⟨_, _, _, _, o, _, _, ho, _⟩ := R
  refine ⟨R, ⟨o, ho⟩, fun h1 h2 p k => ?_⟩
  obtain ⟨z, y, xs, r, o, es, ep, ho, c⟩ := p
  exact ⟨z, y, xs, r, o, es, ep, k o ho, c⟩
/-- the dict at a holds kvs -/
structure NDt (P : Program) (w : World) (H : Hp) (a : Addr) (kvs : List NE) : Prop where
  at_ : H a = some (ND P w a kvs)
  ks : ∀ p ∈ kvs, NK H p.1 (.ref p.2.1) ∧ p.1.depth ≤ 8
theorem NDt.keep {P : Program} {w : World} {H H' : Hp} {a : Addr} {kvs : List NE} (d : NDt P w H a kvs) (e : H' a = some (ND P w a kvs)) (f : ∀ b ys, H b = some (.tup ys) → H' b = some (.tup ys)) : NDt P w H' a kvs :=
  ⟨e, fun p hp => ⟨NK.keep f _ _ (d.ks p hp).1, (d.ks p hp).2⟩⟩
theorem NDt.nil {P : Program} {w : World} {H : Hp} {a : Addr} (e : H a = some (ND P w a [])) : NDt P w H a [] := ⟨e, fun p hp => absurd hp (by simp)⟩
section
variable {P : Program} {w : World} {H : Hp} {h : Heap} {a : Addr} {kvs : List NE}
theorem NDt.rd (ok : HOk P w H h) (d : NDt P w H a kvs) : kvs.length ≤ sizeLine ∧ (a == sysModules) = false ∧ ∃ xs, NTk kvs xs ∧ h.DictOfH (nestedKind P w) a xs := by
  obtain ⟨⟨z, y, xs, r, o, es, ep, h1, h2, h3, h4, h5⟩, _⟩ := (show ObjOk P w H h a (ND P w a kvs) from ok _ _ d.at_)
  refine ⟨z, y, xs, r, o, es, ep, h1, h2, h3, h4, fun x hx => ?_, h5⟩
  have all : ∀ {l : List NE} {m : List (NestedKey × Addr × Value)}, NTk l m → (∀ p ∈ l, NK H p.1 (.ref p.2.1) ∧ p.1.depth ≤ 8) → ∀ x ∈ m, (nestedKind P w).is h x.1 x.2.1 := by
    intro l m q
    induction q with
    | nil => intro _ x hx; exact nomatch hx
    | @cons p q ps qs hq t ih =>
      intro g x hx
      rcases List.mem_cons.mp hx with e | hx
      · subst e
        obtain ⟨g1, g2⟩ := g p (List.mem_cons_self ..)
        rw [hq.1] at g1 g2
        rw [hq.2.1] at g1
        exact ⟨nk_is ok _ _ _ g1 rfl, g2⟩
      · exact ih (fun p hp => g p (List.mem_cons_of_mem _ hp)) x hx
  exact all r d.ks x hx
theorem NTk.val {kvs : List NE} {xs : List (NestedKey × Addr × Value)} (r : NTk kvs xs) (k : NestedKey) : RelO (nval kvs k) ((atKey xs k).map (·.2)) := by
  unfold nval atKey
  induction r with
  | nil => exact True.intro
  | @cons p q ps qs hq t ih =>
    rw [List.find?_cons, List.find?_cons]
    by_cases e : p.1 = k
    · have e' : q.1 = k := by rw [← hq.1]; exact e
      rw [decide_eq_true e, decide_eq_true e']
      exact hq.2.2
    · have e' : ¬ q.1 = k := by rw [← hq.1]; exact e
      rw [decide_eq_false e, decide_eq_false e']
      exact ih
theorem nt_map {kvs : List NE} {xs : List (NestedKey × Addr × Value)} (r : NTk kvs xs) (k : NestedKey) {v : V} {u : Value} (rv : RelV v u) : NTk (kvs.map fun p => if p.1 = k then (p.1, p.2.1, v) else p) (xs.map (putAt k u)) := by
  induction r with
  | nil => exact .nil
  | @cons p q ps qs hq t ih =>
    rw [List.map_cons, List.map_cons]
    refine .cons ?_ ih
    unfold putAt
    by_cases e : p.1 = k
    · have e' : q.1 = k := by rw [← hq.1]; exact e
      rw [if_pos e, if_pos e']
      exact ⟨hq.1, hq.2.1, rv⟩
    · have e' : ¬ q.1 = k := by rw [← hq.1]; exact e
      rw [if_neg e, if_neg e']
      exact hq
theorem NTk.put {kvs : List NE} {xs : List (NestedKey × Addr × Value)} (r : NTk kvs xs) (k : NestedKey) (b : Addr) {v : V} {u : Value} (rv : RelV v u) : NTk (nput kvs k b v) (storedH xs k b u) := by
  unfold nput storedH
  have q := (r.val k).isSome_eq
  rw [Option.isSome_map] at q
  rw [q]
  split
  · exact nt_map r k rv
  · exact Paired.snoc r ⟨rfl, rfl, rv⟩
theorem nput_len {kvs : List NE} {k : NestedKey} {b : Addr} {v : V} : (nput kvs k b v).length ≤ kvs.length + 1 := by
  unfold nput
  split
  · rw [List.length_map]; omega
  · rw [List.length_append]; exact Nat.le_refl _
theorem nput_new {kvs : List NE} {k : NestedKey} {b : Addr} {v : V} (h : nval kvs k = none) : nput kvs k b v = kvs ++ [(k, b, v)] := by
  unfold nput
  rw [h]
  rfl
theorem nput_ks {H : Hp} {k : NestedKey} {b : Addr} {v : V} (g : ∀ p ∈ kvs, NK H p.1 (.ref p.2.1) ∧ p.1.depth ≤ 8) (gk : NK H k (.ref b)) (gd : k.depth ≤ 8) : ∀ p ∈ nput kvs k b v, NK H p.1 (.ref p.2.1) ∧ p.1.depth ≤ 8 := by
  unfold nput
  split
  · intro p hp
    obtain ⟨q, hq, rfl⟩ := List.mem_map.mp hp
    split
    · exact g q hq
    · exact g q hq
  · intro p hp
    rcases List.mem_append.mp hp with c | c
    · exact g p c
    · rw [List.mem_singleton.mp c]
      exact ⟨gk, gd⟩
end
theorem room8 {P : Program} {w : World} {A : Around} (hu : A.units + 65 < cLine) : (nestedKind P w).room A.in1 := by
  show A.in1.units + 8 < cLine
  have e : A.in1.units = A.units + 1 := rfl
  omega
section
variable {X : Cx} {pins : List (Addr × Obj)} {σ : L2.St} {H : Hp} {s : Shared} {a b : Addr} {kvs : List NE} {k : NestedKey} {v : V} {r : Value} {A : Around} {E : Value → Shared → Prop}
theorem nd_at (I : Inv X pins σ H s) (d : NDt X.prog X.w H a kvs) : s.TypeIs (.ref a) "dict" ∧ (∀ b, Value.ref a = .ref b → ∃ ob, s.heap.get? b = some ob ∧ ob.dict = none) ∧ (a == sysModules) = false := by
  obtain ⟨_, hd, xs, _, dd⟩ := d.rd I.hok
  refine ⟨dd.typeIs, fun b q => ?_, hd⟩
  cases q
  obtain ⟨ob, _, _, h1, h2, _⟩ := dd
  exact ⟨ob, h1, h2.2.1⟩
theorem nd_key (I : Inv X pins σ H s) (x : NK H k (.ref b)) (dp : k.depth ≤ 8) : (nestedKind X.prog X.w).is s.heap k b := ⟨nk_is I.hok _ _ _ x rfl, dp⟩
theorem nd_get {Q : Value → Shared → Prop} (hu : A.units + 65 < cLine) (I : Inv X pins σ H s) (d : NDt X.prog X.w H a kvs) (x : NK H k (.ref b)) (dp : k.depth ≤ 8) (e : nval kvs k = some v) (h : ∀ w' s', Inv X pins σ H s' → RelV v w' → Q w' s') :
    wpAny (model X.prog X.w) A (getItem (.ref a) (.ref b)) Q E s := by
  obtain ⟨_, hd, xs, rel, dd⟩ := d.rd I.hok
  obtain ⟨w', hw, rw'⟩ := RelO.some_of (v := v) (o := (atKey xs k).map (·.2)) (by rw [← e]; exact rel.val k)
  obtain ⟨p, hp, hp2⟩ := Option.map_eq_some_iff.mp hw
  refine wpAny_getItem_heap (room8 hu) (nd_key I x dp) dd hp ?_
  rw [hp2]
  exact h w' _ (I.tok _) rw'
theorem nd_in {Q : Value → Shared → Prop} (hu : A.units + 65 < cLine) (I : Inv X pins σ H s) (d : NDt X.prog X.w H a kvs) (x : NK H k (.ref b)) (dp : k.depth ≤ 8) (h : ∀ s', Inv X pins σ H s' → Q (.bool (!(nval kvs k).isSome)) s') :
    wpAny (model X.prog X.w) A (compareOp .NotIn (.ref b) (.ref a)) Q E s := by
  obtain ⟨_, hd, xs, rel, dd⟩ := d.rd I.hok
  refine wpAny_notIn_heap (room8 hu) (nd_key I x dp) hd dd ?_
  have q := (rel.val k).isSome_eq
  rw [Option.isSome_map] at q
  rw [← q]
  exact h _ (I.tok _)
theorem nd_dict {h : Heap} {xs : List (NestedKey × Addr × Value)} {kvs' : List NE} (z : kvs'.length ≤ sizeLine) (hd : (a == sysModules) = false) (r : NTk kvs' xs) (dd : h.DictOfH (nestedKind X.prog X.w) a xs) : NDφ X.prog X.w a kvs' h := by
  obtain ⟨q, es, ep, hq, h2, h3, h4, _, h5⟩ := dd
  exact ⟨z, hd, _, r, q, es, ep, hq, h2, h3, h4, h5⟩
theorem nd_set {Q : Unit → Shared → Prop} (hu : A.units + 65 < cLine) (I : Inv X pins σ H s) (d : NDt X.prog X.w H a kvs) (x : NK H k (.ref b)) (dp : k.depth ≤ 8) (l : kvs.length < sizeLine) (rv : RelV v r) (h : ∀ s', Inv X pins σ (upd H a (ND X.prog X.w a (nput kvs k b v))) s' → Q () s') :
    wpAny (model X.prog X.w) A (setItem (.ref a) (.ref b) r) Q E s := by
  obtain ⟨z, hd, xs, rel, dd⟩ := d.rd I.hok
  have hz : xs.length ≤ sizeLine := by rw [← Paired.length rel]; exact z
  refine wpAny_setItem_heap (hsz := hz) (room8 hu) (nd_key I x dp) dd fun h' dd' hs => h _ ?_
  have he : ∃ q, h'.get? a = some q := let ⟨q, _, _, hq, _⟩ := dd'; ⟨q, hq⟩
  exact d_write I (by rw [d.at_]; exact True.intro) hs he (nd_new (nd_dict (Nat.le_trans nput_len (by omega)) hd (rel.put k b rv) dd'))
theorem nd_setd {Q : Value → Shared → Prop} (hu : A.units + 65 < cLine) (I : Inv X pins σ H s) (d : NDt X.prog X.w H a kvs) (x : NK H k (.ref b)) (dp : k.depth ≤ 8) (l : kvs.length < sizeLine) (rv : RelV v r)
    (h1 : ∀ y, nval kvs k = some y → ∀ (w' : Value) (s' : Shared), Inv X pins σ H s' → RelV y w' → Q w' s') (h2 : nval kvs k = none → ∀ (w' : Value) (s' : Shared), Inv X pins σ (upd H a (ND X.prog X.w a (kvs ++ [(k, b, v)]))) s' → RelV v w' → Q w' s') :
    wpAny (model X.prog X.w) A (call (.builtin "dict.setdefault") [.ref a, .ref b, r]) Q E s := by
  obtain ⟨z, hd, xs, rel, dd⟩ := d.rd I.hok
  have hz : xs.length ≤ sizeLine := by rw [← Paired.length rel]; exact z
  have q := rel.val k
  refine call_setdefault_heap (hsz := hz) (room8 hu) (nd_key I x dp) hd dd (fun p hp => ?_) fun hn h' dd' hs => ?_
  · rw [hp] at q
    cases q0 : nval kvs k with
    | none =>
      rw [q0] at q
      exact (show False from q).elim
    | some y =>
      rw [q0] at q
      exact h1 y q0 _ _ (I.tok _) q
  · rw [hn] at q
    cases q0 : nval kvs k with
    | some y =>
      rw [q0] at q
      exact (show False from q).elim
    | none =>
      have he : ∃ q, h'.get? a = some q := let ⟨q, _, _, hq, _⟩ := dd'; ⟨q, hq⟩
      refine h2 q0 _ _ (d_write I (by rw [d.at_]; exact True.intro) hs he (nd_new ?_)) rv
      rw [← nput_new q0]
      exact nd_dict (Nat.le_trans nput_len (by omega)) hd (rel.put k b rv) dd'
end
/-! readings and rules -/
def tNNew (P : Program) (w : World) : TE := fun _ H Q => ∀ p, H p = none → Q (.ref p) (upd H p (ND P w p []))
def tNGet (P : Program) (w : World) (td ty : TE) : TE := fun σ H Q => td σ H fun x H1 => ty σ H1 fun y H2 => ∃ a kvs k b v, x = .ref a ∧ y = .ref b ∧ NDt P w H2 a kvs ∧ NK H2 k (.ref b) ∧ k.depth ≤ 8 ∧ nval kvs k = some v ∧ Q v H2
def tNNotIn (P : Program) (w : World) (ty td : TE) : TE := fun σ H Q => ty σ H fun y H1 => td σ H1 fun x H2 => ∃ a kvs k b, x = .ref a ∧ y = .ref b ∧ NDt P w H2 a kvs ∧ NK H2 k (.ref b) ∧ k.depth ≤ 8 ∧ Q (.bl (!(nval kvs k).isSome)) H2
def sNPut (P : Program) (w : World) (td ty tv : TE) : TS := fun D σ H => tv σ H fun v H1 => td σ H1 fun x H2 => ty σ H2 fun y H3 => ∃ a kvs k b, x = .ref a ∧ y = .ref b ∧ NDt P w H3 a kvs ∧ NK H3 k (.ref b) ∧ k.depth ≤ 8 ∧ kvs.length < sizeLine ∧
  D.nx σ (upd H3 a (ND P w a (nput kvs k b v)))
def tNSetd (P : Program) (w : World) (td ty tx : TE) : TE := fun σ H Q => td σ H fun x H1 => ∃ a kvs0, x = .ref a ∧ NDt P w H1 a kvs0 ∧ ty σ H1 fun y H2 => tx σ H2 fun z H3 => ∃ kvs k b, NDt P w H3 a kvs ∧ y = .ref b ∧ NK H3 k (.ref b) ∧ k.depth ≤ 8 ∧ kvs.length < sizeLine ∧
  (∀ v, nval kvs k = some v → Q v H3) ∧ (nval kvs k = none → Q z (upd H3 a (ND P w a (kvs ++ [(k, b, z)]))))
section
variable {X : Cx} {o i e f value : Expr} {pos pos' apos cpos : Pos} {td ty tv tx : TE}
theorem pe_nnew : PE X (.Dict [] [] pos) (tNNew X.prog X.w) := ⟨fun pins s σ H Q I h =>
  wpAny_Dict_empty ⟨.ref s.heap.objs.size, _, I.laid (a := s.heap.objs.size) (o := ND X.prog X.w s.heap.objs.size []) (t' := s.toks) (fun _ _ q => Heap.get?_push_of_some _ q) (Nat.le_refl _)
    (nd_new ⟨Nat.zero_le _, beq_eq_false_iff_ne.mpr (Ne.symm (Nat.ne_of_lt I.big)), [], .nil, _, #[], 0, Heap.get?_push_size _ rfl, ⟨rfl, rfl, rfl⟩, rfl, rfl, List.nodup_nil⟩), rfl, h _ (I.hok.fresh (Nat.le_refl _))⟩⟩
theorem pe_nget (hu : X.A.units + 65 < cLine) (ho : PE X o td) (hi : PE X i ty) (hs : NoSl i) : PE X (.Subscript o i pos) (tNGet X.prog X.w td ty) := by
  refine ⟨fun pins s σ H Q I h => ?_⟩
  refine subD_of PySem.F.slot_dict_getitem.lookup hs (thn (ho.run pins s σ H _ I h) fun u s1 ⟨x, H1, I1, rx, q1⟩ => thn (hi.run pins s1 σ H1 _ I1 q1) fun iv s2 ⟨y, H2, I2, ry, a, kvs, k, b, v, ex, ey, d, nk, dp, g, q2⟩ => ?_)
  subst ex ey
  obtain rfl : u = Value.ref a := rx
  obtain rfl : iv = Value.ref b := ry
  exact ⟨(nd_at I2 d).1, nd_get hu I2 d nk dp g fun w' s3 I3 rw' => ⟨v, H2, I3, rw', q2⟩⟩
theorem pc_nnotin (hu : X.A.units + 65 < cLine) (hi : PE X i ty) (ho : PE X o td) : PC X .NotIn i o (tNNotIn X.prog X.w ty td) := by
  refine ⟨fun pins s σ H Q I h => ?_⟩
  refine thn (hi.run pins s σ H _ I h) fun iv s1 ⟨y, H1, I1, ry, q1⟩ => thn (ho.run pins s1 σ H1 _ I1 q1) fun u s2 ⟨x, H2, I2, rx, a, kvs, k, b, ex, ey, d, nk, dp, q2⟩ => ?_
  subst ex ey
  obtain rfl : u = Value.ref a := rx
  obtain rfl : iv = Value.ref b := ry
  exact nd_in hu I2 d nk dp fun s3 I3 => ⟨.bl (!(nval kvs k).isSome), H2, I3, rfl, q2⟩
theorem ps_nput (hu : X.A.units + 65 < cLine) (ho : PE X o td) (hi : PE X i ty) (hv : PE X value tv) (hs : swapsWith value (some (.Subscript o i pos')) pos.line X.env = pure false) :
    PS X (.Assign [.Subscript o i pos'] value pos) (sNPut X.prog X.w td ty tv) := by
  refine ⟨fun pins s σ H D I h => ?_⟩
  refine wpAny_Assign_Subscript (thn (hv.run pins s σ H _ I h) fun r s1 ⟨v, H1, I1, rv, q1⟩ => thn (ho.run pins s1 σ H1 _ I1 q1) fun u s2 ⟨x, H2, I2, rx, q2⟩ => thn (hi.run pins s2 σ H2 _ I2 q2) fun iv s3 ⟨y, H3, I3, ry, a, kvs, k, b, ex, ey, d, nk, dp, l, q3⟩ => ?_) hs
  subst ex ey
  obtain rfl : u = Value.ref a := rx
  obtain rfl : iv = Value.ref b := ry
  exact nd_set hu I3 d nk dp l rv fun s4 I4 => ⟨σ, _, I4, q3⟩
theorem pe_nsetd (hu : X.A.units + 65 < cLine) (ho : PE X o td) (he : PE X e ty) (hf : PE X f tx) (m : M2 X o "setdefault" apos e f cpos) : PE X (.Call (.Attribute o "setdefault" apos) [e, f] [] cpos) (tNSetd X.prog X.w td ty tx) := by
  refine ⟨fun pins s σ H Q I h => ?_⟩
  refine wpAny_Call_method m.base m.few m.line PySem.F.plainAttrs_dict PySem.F.slot_dict_setdefault PySem.F.type_dict_setdefault (thn (ho.run pins s σ H _ I h) fun u s1 ⟨x, H1, I1, rx, a, kvs0, ex, d, q1⟩ => ?_)
  subst ex
  obtain rfl : u = Value.ref a := rx
  obtain ⟨t1, t2, _⟩ := nd_at I1 d
  refine ⟨t1, t2, ?_⟩
  rw [m.trees]
  refine Calls.callWith_builtin rfl (Calls.evalArgs_plain (Calls.spliced_cons (thn (he.run pins s1 σ H1 _ I1 q1) fun iv s2 ⟨y, H2, I2, ry, q2⟩ =>
    Calls.spliced_cons (thn (hf.run pins s2 σ H2 _ I2 q2) fun fv s3 ⟨z, H3, I3, rz, kvs, k, b, d3, ey, nk, dp, hl, q3, q4⟩ => Calls.spliced_nil ?_))))
  subst ey
  obtain rfl : iv = Value.ref b := ry
  exact nd_setd hu I3 d3 nk dp hl rz (fun v hv w' s4 I4 rw' => ⟨v, _, I4, rw', q3 v hv⟩) fun hn w' s4 I4 rw' => ⟨z, _, I4, rw', q4 hn⟩
/-- len(d) -/
def rNLen (P : Program) (w : World) : List V → Hp → VK → Prop := fun xs H Q => ∃ p kvs, xs = [.ref p] ∧ NDt P w H p kvs ∧ Q (.int ((kvs.length : Nat) : Int)) H
theorem cr_nlen : CallR X (.builtin "len") (rNLen X.prog X.w) := by
  intro pins s σ H xs us Q I r h
  obtain ⟨p, kvs, rfl, hp, q⟩ := h
  obtain ⟨u, rfl, rx⟩ := vals1 r
  obtain rfl : u = .ref p := rx
  obtain ⟨z, hd, ys, rel, dd⟩ := hp.rd I.hok
  have hl : kvs.length = ys.length := Paired.length rel
  refine call_len_dictH hd dd (by rw [← hl]; rw [sizeLine_eq] at z; omega) ?_
  rw [← hl]
  exact ⟨.int ((kvs.length : Nat) : Int), H, I.tok _, ⟨_, rfl⟩, q⟩
end
/-! list(d.values()), sorted(d) -/
theorem wpAny_entries {X : Cx} {pins : List (Addr × Obj)} {σ : L2.St} {H : Hp} {s : Shared} {a : Addr} {kvs : List NE} (I : Inv X pins σ H s) (d : NDt X.prog X.w H a kvs) : ∃ es ep xs, s.heap.DictRaw a es ep ∧ NTk kvs xs ∧ es.toList = xs.map (entryOfKey (nestedKind X.prog X.w)) := by
  obtain ⟨_, _, xs, rel, o, es, ep, h1, h2, h3, h4, _, _⟩ := d.rd I.hok
  exact ⟨es, ep, xs, ⟨o, h1, h2, h3⟩, rel, h4⟩
theorem nt_vals {kvs : List NE} {xs : List (NestedKey × Addr × Value)} (r : NTk kvs xs) : Vals (kvs.map (·.2.2)) (xs.map (·.2.2)) := by
  induction r with
  | nil => exact .nil
  | cons h t ih => exact .cons h.2.2 ih
theorem nt_keys {kvs : List NE} {xs : List (NestedKey × Addr × Value)} (r : NTk kvs xs) : Vals (kvs.map fun p => V.ref p.2.1) (xs.map fun q => Value.ref q.2.1) := by
  induction r with
  | nil => exact .nil
  | cons h t ih => exact .cons (by show RelV (V.ref _) (Value.ref _); rw [h.2.1]; rfl) ih
def tNVals (P : Program) (w : World) (te : TE) : TE := fun σ H Q => te σ H fun x H1 => ∃ d kvs, x = .ref d ∧ NDt P w H1 d kvs ∧ ∀ q, H1 q = none → Q (.ref q) (upd H1 q (.lst (kvs.map (·.2.2))))
section
variable {X : Cx} {e : Expr} {te : TE} {p apos cpos pos : Pos}
theorem pe_nvals (hc : X.calm = true) (he : PE X e te) (hg : Gl X "list") (hm : X.mg "list" = none) (hv : bootBuiltins "list" = some (.type "list") := by rfl) (hbase : attributeBase e "values" X.env (eval e X.env) = eval e X.env := by rfl) (hline : (apos.endLine == cpos.line) = true := by rfl)
    (hs : starEach [.Call (.Attribute e "values" apos) [] [] cpos] X.env = (false, eval (.Call (.Attribute e "values" apos) [] [] cpos) X.env) :: starEach [] X.env := by rfl) :
    PE X (.Call (.Name "list" p) [.Call (.Attribute e "values" apos) [] [] cpos] [] pos) (tNVals X.prog X.w te) := by
  refine ⟨fun pins s σ H Q I hq => ?_⟩
  refine wpAny_Call_Name_kw (ld_blt I hg hm hv ?_)
  refine PyProof.Rows.callWith_type1 ?_ hs rfl
  rw [hs]
  show wpAny _ _ (spliced ((false, eval (.Call (.Attribute e "values" apos) [] [] cpos) X.env) :: backTo pos (starEach [] X.env))) _ _ s
  refine Calls.spliced_cons ?_
  refine wpAny_Call_method (T := "dict") (id := "dict.values") hbase rfl hline F.plainAttrs_dict F.slot_dict_values F.type_dict_values (thn (he.run pins s σ H _ I hq) fun u s1 ⟨x, H1, I1, rx, d, kvs, ex, hd, q⟩ => ?_)
  subst ex
  obtain rfl : u = Value.ref d := rx
  obtain ⟨t1, t2, hs0⟩ := nd_at I1 hd
  obtain ⟨es, ep, xs, raw, rel, ee⟩ := wpAny_entries I1 hd
  have I2 : Inv X pins σ H1 { s1 with heap := s1.heap.push { cls := .type "dict_values", data := .fields #[.ref d] } } := I1.kept (t' := s1.toks) fun b ob q => Heap.get?_push_of_some _ q
  refine ⟨t1, t2, ?_⟩
  show wpAny _ _ (callWith cpos (.builtin "dict.values") [.ref d] [] []) _ X.xe s1
  refine method_meetsIn F.slot_dict_values F.entry_dict_values rfl (PySem.evalArgs_none ⟨rfl, t1, F.args_dict_values_1 _, _, PySem.meets_dict_values_raw d hs0, ⟨es, ep, raw⟩, ?_⟩)
  refine Calls.spliced_nil ?_
  have lx : es.size = xs.length := by rw [← Array.length_toList, ee, List.length_map]
  have lk : kvs.length = xs.length := Paired.length rel
  obtain ⟨hz, _⟩ := hd.rd I1.hok
  refine PySem.W.kdl_call PySem.KdlSrc.rawValues (I1.ok.hd hc) ⟨⟨_, Heap.get?_push_size _ rfl, rfl, rfl⟩, raw.push _⟩ (by rw [lx, ← lk]; exact hz) fun h' tk acc' c' kp eh it => ?_
  have ea : acc'.toList = xs.map (·.2.2) := by
    apply List.ext_getElem?
    intro j
    rw [List.getElem?_map]
    cases hj : acc'.toList[j]? with
    | none =>
      have h1 := List.getElem?_eq_none_iff.mp hj
      have h2 : acc'.toList.length = xs.length := by rw [Array.length_toList, it.1]; exact lx
      rw [List.getElem?_eq_none (by omega)]
      all_goals rfl
    | some v =>
      obtain ⟨hi, hv⟩ := it.2 j v (by rw [← Array.getElem?_toList]; exact hj)
      have qe : es[j]? = (xs[j]?).map (entryOfKey (nestedKind X.prog X.w)) := by rw [← Array.getElem?_toList, ee, List.getElem?_map]
      rw [Array.getElem?_eq_getElem hi] at qe
      cases hb : xs[j]? with
      | none =>
        rw [hb] at qe
        exact nomatch (show some _ = none from qe)
      | some b =>
        rw [hb] at qe
        have e2 := Option.some.inj qe
        rw [hv, e2]
        all_goals rfl
  refine ⟨.ref _, _, I2.laid (t' := tk) (o := .lst (kvs.map (·.2.2))) kp (Nat.le_refl _) ⟨by rw [List.length_map]; exact hz, acc'.toList, c', by rw [ea]; exact nt_vals rel, by rw [Array.toArray_toList]; exact eh⟩, rfl, q _ (I2.hok.fresh (Nat.le_refl _))⟩
/-- sorted(d): some arrangement of its keys -/
def rNSorted (P : Program) (w : World) (K : PySem.W.Frag) : List V → Hp → VK → Prop := fun vs H Q => ∃ (d : Addr) (kvs : List NE) (ds : List PyData), vs = [V.ref d] ∧ NDt P w H d kvs ∧ DpAll K H (kvs.map fun p => V.ref p.2.1) ds ∧ PySem.W.AllAlike ds ∧ PySem.W.Sortable ds ∧ (∀ d ∈ ds, d.depth ≤ 60) ∧
  ∀ (ys : List V) (p : Addr), ys.Perm (kvs.map fun p => V.ref p.2.1) → H p = none → Q (.ref p) (upd H p (.lst ys))
theorem cr_nsorted (hc : X.calm = true) (hu : X.A.units + 65 < cLine) : CallR X (.builtin "sorted") (rNSorted X.prog X.w X.K) := by
  intro pins s σ H vs us Q I r h
  obtain ⟨d, kvs, ds, rfl, hd, hdp, al, so, dp, q⟩ := h
  rw [Vals.ref1 r]
  obtain ⟨es, ep, xs, raw, rel, ee⟩ := wpAny_entries I hd
  obtain ⟨hz, lo, _⟩ := hd.rd I.hok
  have lx : es.size = xs.length := by rw [← Array.length_toList, ee, List.length_map]
  have lk : kvs.length = xs.length := Paired.length rel
  refine Calls.call_function_entry PyProof.Rows.kind_sorted PyProof.Rows.plain_sorted PyProof.Rows.entry_sorted (PyProof.Rows.args_sorted1 _) ?_
  unfold Builtin.«sorted»
  refine wpAny_bind (m := checkCount "sorted" 1 1 _) (wpAny_pure ?_)
  refine wpAny_bind (PySem.W.kdu_collect (A := X.A.in1) (PySem.KdlSrc.rawDict lo) (I.ok.hd hc) raw (by rw [lx, ← lk]; exact hz) fun h' tk acc hk hacc => ?_)
  have ea : acc.toList = xs.map fun q => Value.ref q.2.1 := by
    apply List.ext_getElem?
    intro j
    rw [List.getElem?_map]
    cases hj : acc.toList[j]? with
    | none =>
      have h1 := List.getElem?_eq_none_iff.mp hj
      have h2 : acc.toList.length = xs.length := by rw [Array.length_toList, hacc.1]; exact lx
      rw [List.getElem?_eq_none (by omega)]
      all_goals rfl
    | some v =>
      obtain ⟨hi, hv⟩ := hacc.2 j v (by rw [← Array.getElem?_toList]; exact hj)
      have qe : es[j]? = (xs[j]?).map (entryOfKey (nestedKind X.prog X.w)) := by rw [← Array.getElem?_toList, ee, List.getElem?_map]
      rw [Array.getElem?_eq_getElem hi] at qe
      cases hb : xs[j]? with
      | none =>
        rw [hb] at qe
        exact nomatch (show some _ = none from qe)
      | some b =>
        rw [hb] at qe
        have e2 := Option.some.inj qe
        rw [hv, e2]
        all_goals rfl
  have rv : Vals (kvs.map fun p => V.ref p.2.1) acc.toList := by rw [ea]; exact nt_keys rel
  have hL : acc.toList.length ≤ sizeLine := by rw [Array.length_toList, hacc.1, lx, ← lk]; exact hz
  have I1 : Inv X pins σ H { s with heap := h', toks := tk } := I.kept hk
  obtain ⟨as, ra⟩ := Dp.readsAll I1 ds _ acc.toList hdp rv
  refine wpAny_bind (wpAny_newList ?_ hL)
  have hoL : (h'.push (seqObj "list" acc.toList.toArray 0)).get? h'.objs.size = some (seqObj "list" acc.toList.toArray 0) := Heap.get?_push_size _ rfl
  show wpAny _ _ _ _ _ { s with heap := h'.push (seqObj "list" acc.toList.toArray 0), toks := tk }
  refine wpAny_bind (wpAny_holding (wpAny_call_entry PyProof.Rows.slot_list_sort ⟨_, hoL, rfl⟩ PyProof.Rows.entry_list_sort
    (PySem.W.list_sort_vals (κ := PySem.W.dataKind (PySem.W.sortingHeap (h'.push (seqObj "list" acc.toList.toArray 0)) h'.objs.size acc.toList) ds) hoL
      (PySem.W.SortsAt.data (each_reads (ReadsAll.keeps (fun b o e => PySem.W.sortingHeap_old (Nat.ne_of_lt (Heap.lt_size e)) (Heap.get?_push_of_some _ e)) ra)) al so fun d hd => ?_) hL ⟨_, rfl, ?_⟩)
    (PyProof.Rows.args_list_sort _)))
  · have := dp d hd
    show X.A.in1.in1.units + d.depth < cLine
    have e : X.A.in1.in1.units = X.A.units + 1 + 1 := rfl
    omega
  · obtain ⟨c, hc2⟩ := PyProof.Rows.sortedHeap_at (vs := acc.toList) (out := (PySem.W.sortVals (PySem.W.dataKind (PySem.W.sortingHeap (h'.push (seqObj "list" acc.toList.toArray 0)) h'.objs.size acc.toList) ds) false acc.toList acc.toList).toArray) hoL
    obtain ⟨ys, p1, v1⟩ := vals_perm (sortVals_perm (κ := PySem.W.dataKind (PySem.W.sortingHeap (h'.push (seqObj "list" acc.toList.toArray 0)) h'.objs.size acc.toList) ds) (vs := acc.toList)) rv
    refine wpAny_pure ⟨_, rfl, .ref h'.objs.size, upd H h'.objs.size (.lst ys), I1.laid (t' := tk) (o := .lst ys) (fun b u e => ?_) (Nat.le_refl _) ⟨?_, _, c, v1, hc2⟩, rfl, q ys _ p1 (I1.hok.fresh (Nat.le_refl _))⟩
    · have hb : b < h'.objs.size := Heap.lt_size e
      rw [PyProof.Rows.sortedHeap_old (Nat.ne_of_lt hb) (by rw [size_push']; exact Nat.lt_succ_of_lt hb)]
      exact Heap.get?_push_of_some _ e
    · rw [p1.length_eq, List.length_map]
      exact hz
end
/-- tuple(x) within a comprehension -/
theorem pe_tupleOfK {X : Cx} {K : PySem.W.Frag} {a : Expr} {ta : TE} {p pos : Pos} (hK : X.K = K) (hg : Gl X "tuple") (hm : X.mg "tuple" = none) (ha : PE X a ta) (na : starEach [a] X.env = (false, eval a X.env) :: starEach [] X.env := by rfl) : PE X (.Call (.Name "tuple" p) [a] [] pos) (tThen ta (kTup K)) := by
  subst hK
  exact pe_tupleOf hg hm ha na
/-- d[y] within a comprehension -/
theorem pe_ngetK {X : Cx} {P : Program} {w : World} {o i : Expr} {pos : Pos} {td ty : TE} (hP : X.prog = P) (hw : X.w = w) (hu : X.A.units + 65 < cLine) (ho : PE X o td) (hi : PE X i ty) (hs : NoSl i) : PE X (.Subscript o i pos) (tNGet P w td ty) := by
  subst hP hw
  exact pe_nget hu ho hi hs
end B

set_option Elab.async false
set_option linter.all false
set_option maxRecDepth 100000
set_option maxHeartbeats 4000000
namespace B
open PySem PySem.Spec PyProof.Rows L2
open SX (S)
/-! ### how few looks do at the worst, and plans -/
abbrev SS := List (List Str)
def partL (b : Str) (c : BB) (ss : SS) : SS := ss.filter fun s => decide (lkS b s = c)
theorem mem_part {b : Str} {c : BB} {ss : SS} {s : List Str} : s ∈ partL b c ss ↔ s ∈ ss ∧ lkS b s = c := by
  unfold partL
  rw [List.mem_filter, decide_eq_true_iff]
def Can (bs : List Str) : Nat → SS → Prop
  | 0, ss => ss.length ≤ 1
  | n + 1, ss => ss.length ≤ 1 ∨ ∃ b ∈ bs, ∀ c, Can bs n (partL b c ss)
theorem Can.one {bs : List Str} {n : Nat} {ss : SS} (h : ss.length ≤ 1) : Can bs n ss := by
  cases n with
  | zero => exact h
  | succ n => exact .inl h
theorem Can.succ {bs : List Str} : ∀ {n : Nat} {ss : SS}, Can bs n ss → Can bs (n + 1) ss
  | 0, _, h => .inl h
  | _ + 1, _, .inl h => .inl h
  | _ + 1, _, .inr ⟨b, hb, h⟩ => .inr ⟨b, hb, fun c => (h c).succ⟩
theorem Can.mono {bs : List Str} {n m : Nat} {ss : SS} (h : Can bs n ss) (le : n ≤ m) : Can bs m ss := by
  induction le with
  | refl => exact h
  | step _ ih => exact ih.succ
structure Lst (bs : List Str) (ss : SS) (v : Nat) : Prop where
  can : Can bs v ss
  no : ∀ n, n < v → ¬ Can bs n ss
theorem Lst.uniq {bs : List Str} {ss : SS} {v u : Nat} (h : Lst bs ss v) (g : Lst bs ss u) : v = u := by
  rcases Nat.lt_trichotomy v u with c | c | c
  · exact absurd h.can (g.no v c)
  · exact c
  · exact absurd g.can (h.no u c)
theorem Lst.one {bs : List Str} {ss : SS} (h : ss.length ≤ 1) : Lst bs ss 0 := ⟨Can.one h, fun n c => absurd c (Nat.not_lt_zero n)⟩
/-- they are parted there -/
def Splits (b : Str) (ss : SS) : Prop := ∃ s ∈ ss, ∃ t ∈ ss, lkS b s ≠ lkS b t
theorem partL_all {b : Str} {ss : SS} (h : ¬ Splits b ss) {s : List Str} (hs : s ∈ ss) : partL b (lkS b s) ss = ss := by
  unfold partL
  refine List.filter_eq_self.mpr fun t ht => decide_eq_true (Classical.byContradiction fun z => h ⟨t, ht, s, hs, z⟩)
theorem part_lt {b : Str} {ss : SS} (h : Splits b ss) (c : BB) : (partL b c ss).length < ss.length := by
  obtain ⟨s, hs, t, ht, ne⟩ := h
  unfold partL
  refine Nat.lt_of_le_of_ne (List.length_filter_le _ _) fun e => ne ?_
  have := List.length_filter_eq_length_iff.mp e
  have a := of_decide_eq_true (this s hs)
  have b := of_decide_eq_true (this t ht)
  rw [a, b]
theorem part_ss {b : Str} {ss : SS} (h2 : ss ≠ []) : (∃ c, partL b c ss = ss) ↔ ¬ Splits b ss := by
  constructor
  · rintro ⟨c, e⟩ z
    have := part_lt z c
    rw [e] at this
    exact Nat.lt_irrefl _ this
  · intro z
    obtain ⟨s, hs⟩ := List.exists_mem_of_ne_nil _ h2
    exact ⟨_, partL_all z hs⟩
/-- what a look there leaves to do -/
def ValB (bs : List Str) (b : Str) (ss : SS) (m : Nat) : Prop := ∃ f : BB → Nat, (∀ c, Lst bs (partL b c ss) (f c)) ∧ (∀ c, f c ≤ m) ∧ ∃ c, f c = m
theorem lst_best {bs : List Str} {ss : SS} {v : Nat} (h2 : 2 ≤ ss.length) (hv : ∃ b ∈ bs, ∃ m, ValB bs b ss m ∧ v = m + 1) (hmin : ∀ b ∈ bs, Splits b ss → ∃ m, ValB bs b ss m ∧ v ≤ m + 1) : Lst bs ss v := by
  refine ⟨?_, ?_⟩
  · obtain ⟨b, hb, m, ⟨f, h1, h2, _⟩, rfl⟩ := hv
    exact .inr ⟨b, hb, fun c => (h1 c).can.mono (h2 c)⟩
  · intro n
    induction n with
    | zero => exact fun _ z => absurd (show ss.length ≤ 1 from z) (by omega)
    | succ k ih =>
      intro hk z
      rcases z with z | ⟨b, hb, z⟩
      · omega
      · by_cases c : Splits b ss
        · obtain ⟨m, ⟨f, h1, _, c, e⟩, hm⟩ := hmin b hb c
          exact (h1 c).no k (by omega) (z c)
        · obtain ⟨s, hs⟩ := List.exists_mem_of_ne_nil ss (fun e => by rw [e] at h2; exact absurd h2 (by decide))
          have := z (lkS b s)
          rw [partL_all c hs] at this
          exact ih (by omega) this
theorem can_rep {bs bs' : List Str} {all : SS} (h : ∀ b ∈ bs, ∃ b' ∈ bs', ∀ s ∈ all, ∀ t ∈ all, lkS b s = lkS b t ↔ lkS b' s = lkS b' t) : ∀ (n : Nat) (ss : SS), (∀ s ∈ ss, s ∈ all) → Can bs n ss → Can bs' n ss
  | 0, _, _, z => z
  | _ + 1, _, _, .inl z => .inl z
  | n + 1, ss, hs, .inr ⟨b, hb, z⟩ => by
    obtain ⟨b', hb', e⟩ := h b hb
    refine .inr ⟨b', hb', fun c => ?_⟩
    by_cases ne : partL b' c ss = []
    · rw [ne]
      exact Can.one (Nat.zero_le _)
    · obtain ⟨s, hm⟩ := List.exists_mem_of_ne_nil _ ne
      obtain ⟨h1, rfl⟩ := mem_part.mp hm
      have q : partL b' (lkS b' s) ss = partL b (lkS b s) ss := by
        unfold partL
        refine List.filter_congr fun t ht => ?_
        by_cases c : lkS b t = lkS b s
        · rw [decide_eq_true c, decide_eq_true ((e t (hs t ht) s (hs s h1)).mp c)]
        · rw [decide_eq_false c, decide_eq_false fun z => c ((e t (hs t ht) s (hs s h1)).mpr z)]
      rw [q]
      exact can_rep h n _ (fun t ht => hs t (mem_part.mp ht).1) (z _)
theorem Lst.rep {bs bs' : List Str} {all ss : SS} {v : Nat} (h : ∀ b ∈ bs, ∃ b' ∈ bs', ∀ s ∈ all, ∀ t ∈ all, lkS b s = lkS b t ↔ lkS b' s = lkS b' t) (hs : ∀ b ∈ bs', b ∈ bs) (ha : ∀ s ∈ ss, s ∈ all) (l : Lst bs' ss v) : Lst bs ss v :=
  ⟨can_rep (fun b hb => ⟨b, hs b hb, fun _ _ _ _ => Iff.rfl⟩) v ss ha l.can, fun n hn z => l.no n hn (can_rep h n ss ha z)⟩
/-- any two of them are told apart somewhere -/
def Sep (bs : List Str) (ss : SS) : Prop := ∀ s ∈ ss, ∀ t ∈ ss, s ≠ t → ∃ b ∈ bs, lkS b s ≠ lkS b t
theorem Sep.splits {bs : List Str} {all ss : SS} (h : Sep bs all) (hs : ∀ s ∈ ss, s ∈ all) (nd : ss.Nodup) (h2 : 2 ≤ ss.length) : ∃ b ∈ bs, Splits b ss := by
  match ss, h2 with
  | s :: t :: r, _ =>
    have ne : s ≠ t := fun e => (List.nodup_cons.mp nd).1 (by rw [e]; exact List.mem_cons_self ..)
    obtain ⟨b, hb, z⟩ := h s (hs s (by simp)) t (hs t (by simp)) ne
    exact ⟨b, hb, s, by simp, t, by simp, z⟩
/-! ### sublists -/
def subsL {α : Type} : List α → List (List α)
  | [] => [[]]
  | x :: r => subsL r ++ (subsL r).map (x :: ·)
theorem subs_len {α : Type} : ∀ l : List α, (subsL l).length = 2 ^ l.length
  | [] => rfl
  | x :: r => by
    show (subsL r ++ (subsL r).map (x :: ·)).length = 2 ^ (r.length + 1)
    rw [List.length_append, List.length_map, subs_len r, Nat.pow_succ]
    omega
theorem mem_subs {α : Type} {s l : List α} (h : s.Sublist l) : s ∈ subsL l := by
  induction h with
  | slnil => exact List.mem_singleton.mpr rfl
  | cons a _ ih => exact List.mem_append_left _ ih
  | cons_cons a _ ih => exact List.mem_append_right _ (List.mem_map.mpr ⟨_, ih, rfl⟩)
/-! ### keys -/
def keyS (ss : SS) : NestedKey := .tup (ss.map fun s => .tup (s.map .text))
theorem texts_inj : ∀ {a b : List Str}, a.map NestedKey.text = b.map NestedKey.text → a = b
  | [], [], _ => rfl
  | x :: a, y :: b, h => by
    rw [List.map_cons, List.map_cons] at h
    have h1 := List.cons.inj h
    rw [NestedKey.text.inj h1.1, texts_inj h1.2]
  | [], _ :: _, h => by cases h
  | _ :: _, [], h => by cases h
theorem keyS_inj {a b : SS} (h : keyS a = keyS b) : a = b := by
  have h : (a.map fun s => NestedKey.tup (s.map .text)) = b.map fun s => .tup (s.map .text) := NestedKey.tup.inj h
  induction a generalizing b with
  | nil =>
    cases b with
    | nil => rfl
    | cons y r => cases h
  | cons x r ih =>
    cases b with
    | nil => cases h
    | cons y r' =>
      rw [List.map_cons, List.map_cons] at h
      have h1 := List.cons.inj h
      rw [texts_inj (NestedKey.tup.inj h1.1), ih (congrArg NestedKey.tup h1.2) h1.2]
theorem depth_texts (s : List Str) : NestedKey.depthAll (s.map .text) = 0 := by
  induction s with
  | nil => rfl
  | cons a r ih =>
    rw [List.map_cons]
    show max 0 (NestedKey.depthAll (r.map .text)) = 0
    rw [ih]
    rfl
theorem keyS_depth (ss : SS) : (keyS ss).depth ≤ 8 := by
  show NestedKey.depthAll (ss.map fun s => .tup (s.map .text)) + 1 ≤ 8
  have : NestedKey.depthAll (ss.map fun s => .tup (s.map .text)) ≤ 1 := by
    induction ss with
    | nil => exact Nat.zero_le _
    | cons s r ih =>
      rw [List.map_cons]
      show max (NestedKey.depthAll (s.map .text) + 1) _ ≤ 1
      rw [depth_texts s]
      exact Nat.max_le.mpr ⟨Nat.le_refl _, ih⟩
  omega
/-! ### plans -/
def ansB (c : BB) : Nat := (if c.1 = true then 2 else 0) + (if c.2 = true then 1 else 0)
theorem ans_lt (c : BB) : ansB c < 4 := by
  obtain ⟨a, b⟩ := c
  cases a <;> cases b <;> decide
def cs4 : List BB := [(false, false), (false, true), (true, false), (true, true)]
theorem cs4_at (c : BB) : cs4[ansB c]? = some c := by
  obtain ⟨a, b⟩ := c
  cases a <;> cases b <;> rfl
theorem cs4_mem (c : BB) : c ∈ cs4 := List.mem_of_getElem? (cs4_at c)
theorem cs4_ix {i : Nat} {c : BB} (h : cs4[i]? = some c) : i = ansB c := by
  have hi := (List.getElem?_eq_some_iff.mp h).1
  have : i = 0 ∨ i = 1 ∨ i = 2 ∨ i = 3 := by
    have : cs4.length = 4 := rfl
    omega
  rcases this with rfl | rfl | rfl | rfl <;> (cases h; rfl)
/-- along a plan to a set, by so many looks -/
inductive Goes (H : Hp) (W : Nat) : V → List Str → Nat → Prop
  | hung {t q s} : H t = some (.tup [.str "hung", .ref q]) → H q = some (.tup (s.map V.str)) → Goes H W (.ref t) s 0
  | look {t q b ps v s k} : H t = some (.tup [.str "look", .str b, .ref q]) → b.cps.toList.length < W → H q = some (.tup ps) → ps.length = 4 → ps[ansB (lkS b s)]? = some v → Goes H W v s k → Goes H W (.ref t) s (k + 1)
theorem Goes.keep {H H' : Hp} {W : Nat} (f : ∀ b ys, H b = some (.tup ys) → H' b = some (.tup ys)) {v : V} {s : List Str} {k : Nat} (g : Goes H W v s k) : Goes H' W v s k := by
  induction g with
  | hung a b => exact .hung (f _ _ a) (f _ _ b)
  | look a b c d e _ ih => exact .look (f _ _ a) b (f _ _ c) d e ih
structure PlanOk (H : Hp) (W : Nat) (pl : V) (ss : SS) (n : Nat) : Prop where
  all : ∀ s ∈ ss, ∃ k, k ≤ n ∧ Goes H W pl s k
  top : ∃ s ∈ ss, Goes H W pl s n
theorem PlanOk.keep {H H' : Hp} {W : Nat} (f : ∀ b ys, H b = some (.tup ys) → H' b = some (.tup ys)) {pl : V} {ss : SS} {n : Nat} (g : PlanOk H W pl ss n) : PlanOk H' W pl ss n :=
  ⟨fun s hs => let ⟨k, h1, h2⟩ := g.all s hs; ⟨k, h1, h2.keep f⟩, let ⟨s, h1, h2⟩ := g.top; ⟨s, h1, h2.keep f⟩⟩
/-- what best_plan tells of these sets -/
def GoodR (H : Hp) (W : Nat) (bs : List Str) (ss : SS) (v : V) : Prop := ∃ (t : Addr) (pl : V) (n : Nat), v = .ref t ∧ H t = some (.tup [.int (n : Nat), pl]) ∧ Lst bs ss n ∧ n + 1 ≤ ss.length ∧ PlanOk H W pl ss n
theorem GoodR.keep {H H' : Hp} {W : Nat} {bs : List Str} (f : ∀ b ys, H b = some (.tup ys) → H' b = some (.tup ys)) {ss : SS} {v : V} (g : GoodR H W bs ss v) : GoodR H' W bs ss v := by
  obtain ⟨t, pl, n, h1, h2, h3, h4, h5⟩ := g
  exact ⟨t, pl, n, h1, f _ _ h2, h3, h4, h5.keep f⟩
/-- a look's plan from those of its parts -/
theorem plan_look {H : Hp} {W : Nat} {t q : Addr} {b : Str} {pls : List V} {ss : SS} {m : Nat} {f : BB → Nat} (h1 : H t = some (.tup [.str "look", .str b, .ref q])) (hb : b.cps.toList.length < W) (h2 : H q = some (.tup pls)) (h4 : pls.length = 4) (ne : ss ≠ [])
    (hp : ∀ c, partL b c ss ≠ [] → ∃ pl, pls[ansB c]? = some pl ∧ PlanOk H W pl (partL b c ss) (f c)) (he : ∀ c, partL b c ss = [] → f c = 0) (hm : ∀ c, f c ≤ m) (ht : ∃ c, f c = m) : PlanOk H W (.ref t) ss (m + 1) := by
  refine ⟨fun s hs => ?_, ?_⟩
  · have hin : s ∈ partL b (lkS b s) ss := mem_part.mpr ⟨hs, rfl⟩
    obtain ⟨pl, e, ok⟩ := hp (lkS b s) (fun z => by rw [z] at hin; cases hin)
    obtain ⟨k, hk, g⟩ := ok.all s hin
    exact ⟨k + 1, by have := hm (lkS b s); omega, .look h1 hb h2 h4 e g⟩
  · obtain ⟨c, ec⟩ := ht
    have go : ∀ c, partL b c ss ≠ [] → f c = m → ∃ s ∈ ss, Goes H W (.ref t) s (m + 1) := fun c nc e => by
      obtain ⟨pl, e1, ok⟩ := hp c nc
      obtain ⟨s, hs, g⟩ := ok.top
      obtain ⟨h5, rfl⟩ := mem_part.mp hs
      rw [e] at g
      exact ⟨s, h5, .look h1 hb h2 h4 e1 g⟩
    by_cases nc : partL b c ss = []
    · obtain ⟨s, hs⟩ := List.exists_mem_of_ne_nil ss ne
      have hin : s ∈ partL b (lkS b s) ss := mem_part.mpr ⟨hs, rfl⟩
      refine go (lkS b s) (fun z => by rw [z] at hin; cases hin) ?_
      have a := he c nc
      have b := hm (lkS b s)
      omega
    · exact go c nc ec
/-- what is known -/
structure KnOk (H : Hp) (W : Nat) (bs : List Str) (all : SS) (kvs : List NE) : Prop where
  nd : (kvs.map (·.1)).Nodup
  ok : ∀ p ∈ kvs, ∃ ss : SS, ss.Sublist all ∧ p.1 = keyS ss ∧ GoodR H W bs ss p.2.2
theorem KnOk.keep {H H' : Hp} {W : Nat} {bs : List Str} {all : SS} {kvs : List NE} (f : ∀ b ys, H b = some (.tup ys) → H' b = some (.tup ys)) (g : KnOk H W bs all kvs) : KnOk H' W bs all kvs :=
  ⟨g.nd, fun p hp => let ⟨ss, h1, h2, h3⟩ := g.ok p hp; ⟨ss, h1, h2, h3.keep f⟩⟩
theorem KnOk.len {H : Hp} {W : Nat} {bs : List Str} {all : SS} {kvs : List NE} (g : KnOk H W bs all kvs) (h : all.length ≤ 16) : kvs.length ≤ 65536 := by
  have := nodup_leA g.nd (ys := (subsL all).map keyS) fun k hk => by
    obtain ⟨p, hp, rfl⟩ := List.mem_map.mp hk
    obtain ⟨ss, h1, h2, _⟩ := g.ok p hp
    exact List.mem_map.mpr ⟨ss, mem_subs h1, h2.symm⟩
  rw [List.length_map, List.length_map, subs_len] at this
  exact Nat.le_trans this (Nat.le_trans (Nat.pow_le_pow_right (by decide) h) (by decide))
theorem nval_mem {kvs : List NE} {k : NestedKey} {v : V} (h : nval kvs k = some v) : ∃ p ∈ kvs, p.1 = k ∧ p.2.2 = v := by
  unfold nval at h
  obtain ⟨p, h1, h2⟩ := Option.map_eq_some_iff.mp h
  exact ⟨p, List.mem_of_find?_eq_some h1, by have := List.find?_some h1; exact of_decide_eq_true this, h2⟩
theorem nval_none {kvs : List NE} {k : NestedKey} (h : nval kvs k = none) : ∀ p ∈ kvs, p.1 ≠ k := fun p hp e => by
  unfold nval at h
  rw [Option.map_eq_none_iff] at h
  exact List.find?_eq_none.mp h p hp (decide_eq_true e)
theorem nput_keys {kvs : List NE} {k : NestedKey} {b : Addr} {v : V} (h : (kvs.map (·.1)).Nodup) : ((nput kvs k b v).map (·.1)).Nodup := by
  unfold nput
  split
  · have : ((kvs.map fun p => if p.1 = k then (p.1, p.2.1, v) else p).map (·.1)) = kvs.map (·.1) := by
      rw [List.map_map]
      refine List.map_congr_left fun p _ => ?_
      show (if p.1 = k then (p.1, p.2.1, v) else p).1 = p.1
      split <;> rfl
    rw [this]
    exact h
  · rename_i c
    have c : nval kvs k = none := by
      cases e : nval kvs k with
      | none => rfl
      | some v => rw [e] at c; exact absurd rfl c
    rw [List.map_append, List.nodup_append]
    refine ⟨h, by simp, fun x hx y hy e => ?_⟩
    obtain ⟨p, hp, rfl⟩ := List.mem_map.mp hx
    rw [List.map_cons, List.map_nil, List.mem_singleton] at hy
    exact nval_none c p hp (e.trans hy)
theorem nput_mem {kvs : List NE} {k : NestedKey} {b : Addr} {v : V} {p : NE} (h : p ∈ nput kvs k b v) : p ∈ kvs ∨ (p.1 = k ∧ p.2.2 = v) := by
  unfold nput at h
  split at h
  · obtain ⟨q, hq, rfl⟩ := List.mem_map.mp h
    by_cases c : q.1 = k
    · rw [if_pos c]
      exact .inr ⟨c, rfl⟩
    · rw [if_neg c]
      exact .inl hq
  · rcases List.mem_append.mp h with c | c
    · exact .inl c
    · rw [List.mem_singleton.mp c]
      exact .inr ⟨rfl, rfl⟩
theorem nval_put {kvs : List NE} {k : NestedKey} {b : Addr} {v : V} : nval (nput kvs k b v) k = some v := by
  unfold nput
  split
  · rename_i c
    unfold nval at c ⊢
    rw [Option.isSome_map] at c
    induction kvs with
    | nil => cases c
    | cons p r ih =>
      rw [List.map_cons, List.find?_cons]
      rw [List.find?_cons] at c
      by_cases e : p.1 = k
      · rw [if_pos e, decide_eq_true e]
        rfl
      · rw [decide_eq_false e] at c
        rw [if_neg e, decide_eq_false e]
        exact ih c
  · rename_i c
    have c : nval kvs k = none := by
      cases e : nval kvs k with
      | none => rfl
      | some v => rw [e] at c; exact absurd rfl c
    unfold nval
    rw [List.find?_append, List.find?_eq_none.mpr fun p hp => by rw [decide_eq_false (nval_none c p hp)]; simp]
    rw [Option.none_or, List.find?_cons, decide_eq_true rfl]
    rfl
theorem KnOk.put {H : Hp} {W : Nat} {bs : List Str} {all ss : SS} {kvs : List NE} {a : Addr} {v : V} (g : KnOk H W bs all kvs) (hs : ss.Sublist all) (hv : GoodR H W bs ss v) : KnOk H W bs all (nput kvs (keyS ss) a v) :=
  ⟨nput_keys g.nd, fun p hp => by
    rcases nput_mem hp with c | ⟨c1, c2⟩
    · exact g.ok p c
    · exact ⟨ss, hs, c1, by rw [c2]; exact hv⟩⟩
end B

set_option Elab.async false
set_option linter.all false
set_option maxRecDepth 100000
set_option maxHeartbeats 4000000
namespace B
open PySem PySem.Spec PyProof.Rows L2
open SX (S)
/-! ### the beginnings that part sets unlike -/
theorem nd_out {P : Program} {w : World} {H : Hp} {p q : Addr} {kvs : List NE} {xs : List V} (h : H p = some (.lst xs)) (d : H q = some (ND P w q kvs)) : p ≠ q := fun e => by
  rw [e, d] at h
  cases h
theorem nd_tup {P : Program} {w : World} {H : Hp} {p q : Addr} {kvs : List NE} {xs : List V} (h : H p = some (.tup xs)) (d : H q = some (ND P w q kvs)) : p ≠ q := fun e => by
  rw [e, d] at h
  cases h
theorem nd_cell {P : Program} {w : World} {c : Addr} {kvs : List NE} {x : Str} : HO.ext (fun h => ∃ oc vs t, h.get? c = some oc ∧ oc.data = Data.fields vs ∧ vs[1]? = some (Value.str x t)) ≠ ND P w c kvs := fun e => by
  have e := HO.ext.inj e
  have ho : (Heap.mk ((Array.replicate c ({ cls := .none, data := .plain } : Obj)).push { cls := .none, data := .fields #[.none, .str x 0] }) {}).get? c = some { cls := .none, data := .fields #[.none, .str x 0] } := by
    unfold Heap.get?
    rw [Array.getElem?_push]
    simp
  have q : NDφ P w c kvs _ := (congrFun e (Heap.mk ((Array.replicate c ({ cls := .none, data := .plain } : Obj)).push { cls := .none, data := .fields #[.none, .str x 0] }) {})).mp ⟨_, _, 0, ho, rfl, rfl⟩
  obtain ⟨_, _, _, _, o, _, _, h1, _, h3, _⟩ := q
  rw [ho] at h1
  cases h1
  cases h3
theorem tb_updN {P : Program} {w : World} {K : PySem.W.Frag} {H : Hp} {b : Addr} {kvs : List NE} {o : HO} (h : Tb K H) (hb : H b = some (ND P w b kvs)) : Tb K (upd H b o) := by
  obtain ⟨h1, h2⟩ := h
  refine ⟨fun p hp => ?_, fun p hp => ?_⟩
  · obtain ⟨ps, e, t⟩ := h1 p hp
    refine ⟨ps, ?_, t⟩
    rw [upd_ne (ne_of e hb (by intro z; cases z))]
    exact e
  · obtain ⟨qs, e1, t1, a1⟩ := h2 p hp
    refine ⟨qs, ?_, t1, fun pos cv hc => ?_⟩
    · rw [upd_ne (ne_of e1 hb (by intro z; cases z))]
      exact e1
    · obtain ⟨c, e2, e3⟩ := a1 pos cv hc
      refine ⟨c, e2, ?_⟩
      rw [upd_ne (fun z => by
        rw [z, hb] at e3
        exact nd_cell (Option.some.inj e3).symm)]
      exact e3
theorem FrT.putD {P : Program} {w : World} {K : PySem.W.Frag} {H H1 : Hp} {b : Addr} {kvs : List NE} {o : HO} (a : FrT K [] H H1) (h : H b = none) (hb : H1 b = some (ND P w b kvs)) : FrT K [] H (upd H1 b o) :=
  ⟨fun c u e t n => by
    rw [upd_ne (ne_of_none e h)]
    exact a.k c u e t n, fun c z => a.b c (upd_back z), fun z => tb_updN (a.t z) hb⟩
theorem frt_tup {K : PySem.W.Frag} {H H' : Hp} (f : FrT K [] H H') : ∀ b ys, H b = some (.tup ys) → H' b = some (.tup ys) := fun b ys h => f.k _ _ h rfl (by simp)
theorem upd_tup {P : Program} {w : World} {H : Hp} {q : Addr} {kvs : List NE} {o : HO} (d : H q = some (ND P w q kvs)) : ∀ b ys, H b = some (.tup ys) → upd H q o b = some (.tup ys) := fun b ys h => by
  rw [upd_ne (nd_tup h d)]
  exact h
/-- the pattern of what is told, as a key -/
def keyN (ns : List Nat) : NestedKey := .tup (ns.map fun n => .num (n : Nat))
theorem keyN_inj {a b : List Nat} (h : keyN a = keyN b) : a = b := by
  have h : (a.map fun n => NestedKey.num (n : Nat)) = b.map fun n => .num (n : Nat) := NestedKey.tup.inj h
  induction a generalizing b with
  | nil =>
    cases b with
    | nil => rfl
    | cons y r => cases h
  | cons x r ih =>
    cases b with
    | nil => cases h
    | cons y r' =>
      rw [List.map_cons, List.map_cons] at h
      have h1 := List.cons.inj h
      have h2 := NestedKey.num.inj h1.1
      rw [ih (congrArg NestedKey.tup h1.2) h1.2, show x = y by omega]
theorem keyN_depth (ns : List Nat) : (keyN ns).depth ≤ 8 := by
  show NestedKey.depthAll (ns.map fun n => .num (n : Nat)) + 1 ≤ 8
  have : NestedKey.depthAll (ns.map fun n => .num (n : Nat)) = 0 := by
    induction ns with
    | nil => rfl
    | cons n r ih =>
      rw [List.map_cons]
      show max 0 (NestedKey.depthAll (r.map fun n => .num (n : Nat))) = 0
      rw [ih]
      rfl
  omega
theorem nks_nats {H : Hp} : ∀ ns : List Nat, NKs H (ns.map fun n => .num (n : Nat)) (ns.map fun n => V.int (n : Nat))
  | [] => .nil
  | n :: ns => .cons (.num _) (nks_nats ns)
/-- the first of each pattern -/
structure TelK (ss : SS) (ms : List Str) (kvs : List NE) (ys : List Str) : Prop where
  vs : kvs.map (·.2.2) = ys.map V.str
  sub : ys.Sublist ms
  ks : kvs.map (·.1) = ys.map fun y => keyN (sortF (ss.map (lkS y)))
  rep : ∀ b ∈ ms, ∃ y ∈ ys, sortF (ss.map (lkS y)) = sortF (ss.map (lkS b))
section
variable {P : Program} {w : World} {K : PySem.W.Frag} {mg : Str → Option Value} {base : Heap}
def spTelling (K : PySem.W.Frag) : Sp := fun vs H Q _ => ∃ (pB pS : Addr) (zs : List (Addr × List Str)) (ms : List Str) (W : Nat), vs = [.ref pB, .ref pS] ∧ SZ H pS zs ∧ zs.length ≤ 64 ∧ H pB = some (.lst (ms.map V.str)) ∧ (∀ b ∈ ms, b.cps.toList.length < W) ∧ ms.length ≤ 100 ∧ W ≤ 12 ∧ Tb K H ∧
  ∀ (q : Addr) (ys : List Str) (H' : Hp), H q = none → H' q = some (.lst (ys.map V.str)) → ys.Sublist ms → (∀ b ∈ ms, ∃ y ∈ ys, sortF ((zs.map (·.2)).map (lkS y)) = sortF ((zs.map (·.2)).map (lkS b))) → FrT K [] H H' → Q (.ref q) H'
theorem c_telling (T : Txt P w K mg base) : CalX CX0 P w K mg base 3 "telling" (spTelling K) := by
  obtain ⟨fd, F⟩ := T.t.def_ 10 (d := d_telling)
  refine ⟨_, fd, _, F.ok sc_telling (fun vs H Q E h => ?_) (fun cdv A outer s H vs Q E hr h => ?_), He.glo_ok T.X T.G (T.t.fact 10), F.kp, F.bindsN fun _ _ _ _ _ _ us hl => match us, hl with | [_, _], _ => rfl⟩
  · obtain ⟨pB, pS, zs, ms, W, rfl, _⟩ := h
    rfl
  · obtain ⟨pB, pS, zs, ms, W, rfl, sz, z64, hB, hb, hm, hW, ht, k⟩ := h
    refine ⟨_, PSs.nox (pss_cons (ps_set (i := 2) sc_telling.nd rfl (Or.inl rfl) pe_nnew)
    (pss_cons (ps_for PassesOwn.never rfl (pi_list (pv 0)) (pg_name (i := 3) sc_telling.nd rfl (Or.inr rfl))
      (pss_cons (ps_set (i := 4) sc_telling.nd rfl (Or.inr rfl) (pe_lc (own := [("numbers", 5)]) (g := gName 5) rfl sc_telling.nd (pi_list (pv 1)) (blkOk_by (N := ["beginnings", "sets", "firsts", "beginning", "looks", "numbers", "look"]) (sc := defScope s_telling) (own := [("numbers", 5)]) (by decide +kernel)) (fun _ _ _ _ _ => pg_name (i := 5) sc_telling.nd rfl (Or.inl rfl)) (fun _ _ _ _ _ => pts_nil) (fun _ _ _ _ _ => by exact (pe_cx (c_heard T) hr (by decide) rfl pass0 (pa_cons (pv 5) (pa_cons (pv 3) pa_nil))))))
      (pss_one (ps_expr (pe_nsetd hr.u65 (pv 2) (pe_tupleOf rfl (n_tuple T) (pe_lc (own := [("look", 6)]) (g := gName 6) rfl sc_telling.nd (pi_list (pv 4)) (blkOk_by (N := ["beginnings", "sets", "firsts", "beginning", "looks", "numbers", "look"]) (sc := defScope s_telling) (own := [("look", 6)]) (by decide +kernel)) (fun _ _ _ _ _ => pg_name (i := 6) sc_telling.nd rfl (Or.inl rfl)) (fun _ _ _ _ _ => pts_nil) (fun _ _ _ _ _ => by exact (pe_bmK (K := K) rfl PySem.F.plainAttrs_list PySem.F.slot_list_index PySem.F.type_list_index (mt_indexDK (K := K) rfl hr.u65) (pv 4) (pa_cons (pv 6) pa_nil))))) (pv 3) ⟨rfl, rfl, rfl, rfl⟩)))))
    (pss_one (ps_ret (pe_nvals rfl (pv 2) rfl (n_list T)))))), ?_⟩
    intro d hd
    have gd : FrT K [] H (upd H d (ND P w d [])) := (Frm.of (same_upd hd)).toT .nil
    refine ⟨_, rfl, pB, rfl, ⟨_, SqL.of (gd.k _ _ hB rfl (by simp))⟩, for_list (K := K) (a := pB) (xs := ms.map V.str) (fun i σ H' => ∃ (v3 v4 v5 v6 : Option V) (kvs : List NE) (ys : List Str), σ = [some (.ref pB), some (.ref pS), some (.ref d), v3, v4, v5, v6] ∧ NDt P w H' d kvs ∧ TelK (zs.map (·.2)) (ms.take i) kvs ys ∧ FrT K [] H H')
      ⟨_, _, _, _, [], [], rfl, .nil upd_same, ⟨rfl, by simp, rfl, by intro b hb; simp at hb⟩, gd⟩ (fun i σ H' _ ⟨_, _, _, _, _, _, _, _, _, f⟩ => SqL.of (f.k _ _ hB rfl (by simp))) ?_ ?_⟩
    · rintro i y σ H3 hi ⟨v3, v4, v5, v6, kvs, ys, rfl, nd, tk, f3⟩
      obtain ⟨b, hbi, rfl⟩ := at_map hi
      have hbm := List.mem_of_getElem? hbi
      have s3 : SZ H3 pS zs := ⟨f3.k _ _ sz.1 rfl (by simp), fun z hz => f3.k _ _ (sz.2 z hz) rfl (by simp)⟩
      -- what is told
      refine ⟨_, rfl, pS, rfl, ⟨_, SqL.of s3.1⟩, fun D hD => ?_⟩
      refine lc_list (K := K) (a := pS) (xs := zs.map fun z => V.ref z.1) (fun j H' => ∃ cs : List (Addr × BB), TldA H' D cs ∧ cs.map (·.2) = ((zs.map (·.2)).take j).map (lkS b) ∧ (∀ c ∈ cs, c.1 ≠ D) ∧ FrT K [] H3 H')
        ⟨[], ⟨upd_same, by simp⟩, by simp, by simp, (Frm.of (same_upd hD)).toT .nil⟩ (fun j H' _ ⟨_, _, _, _, f⟩ => SqL.of (f.k _ _ s3.1 rfl (by simp))) ?_ ?_
      · rintro j y H4 hj ⟨cs, td, ec, nc, f4⟩
        obtain ⟨z, hz, rfl⟩ := at_sz hj
        have hzm := List.mem_of_getElem? hz
        have lc : cs.length ≤ 64 := by
          have := congrArg List.length ec
          rw [List.length_map, List.length_map, List.length_take, List.length_map] at this
          omega
        refine ⟨rfl, _, rfl, _, rfl, z.1, b.cps.toList, z.2, by rw [S_cps]; rfl, f4.k _ _ (s3.2 z hzm) rfl (by simp), by have := hb b hbm; omega, f4.t (f3.t ht), fun t H5 ht0 et f5 => ?_⟩
        have td5 : TldA H5 D cs := ⟨f5.k _ _ td.1 rfl (by simp), fun c hc => f5.k _ _ (td.2 c hc) rfl (by simp)⟩
        have ntD : t ≠ D := Ne.symm (ne_of_none td.1 ht0)
        refine ⟨_, td5.1, by rw [List.length_map]; exact small1000 (by omega), cs ++ [(t, lkS b z.2)], ⟨by rw [upd_same, List.map_append]; rfl, fun c hc => ?_⟩, ?_, fun c hc => ?_, (f4.trans f5).putN hD td5.1⟩
        · rcases List.mem_append.mp hc with e | e
          · rw [upd_ne (nc c e)]
            exact td5.2 c e
          · rw [List.mem_singleton.mp e, upd_ne ntD]
            exact et
        · rw [List.map_append, ec, take_snoc (x := z.2) (by rw [List.getElem?_map, hz]; rfl), List.map_append]
          rfl
        · rcases List.mem_append.mp hc with e | e
          · exact nc c e
          · rw [List.mem_singleton.mp e]
            exact ntD
      rintro H4 ⟨cs, td, ec, nc, f4⟩
      rw [List.length_map, List.take_of_length_le (by rw [List.length_map]; exact Nat.le_refl _)] at ec
      have lc : cs.length = zs.length := by
        have := congrArg List.length ec
        rwa [List.length_map, List.length_map, List.length_map] at this
      have emem : ∀ c ∈ cs, c.2 ∈ (zs.map (·.2)).map (lkS b) := fun c hc => by rw [← ec]; exact List.mem_map.mpr ⟨c, hc, rfl⟩
      have nd4 : NDt P w H4 d kvs := nd.keep (f4.k _ _ nd.at_ rfl (by simp)) (frt_tup f4)
      -- its pattern
      refine ⟨_, rfl, d, kvs, rfl, nd4, _, rfl, D, rfl, ⟨_, SqL.of td.1⟩, fun D2 hD2 => ?_⟩
      refine lc_list (K := K) (a := D) (xs := cs.map fun c => V.ref c.1) (fun j H' => H' D2 = some (.lst (((cs.map (·.2)).take j).map fun t => V.int (firstI ((zs.map (·.2)).map (lkS b)) t : Nat))) ∧ Frm [] H4 H')
        ⟨by rw [upd_same]; simp, Frm.of (same_upd hD2)⟩ (fun j H' _ ⟨_, f⟩ => SqL.of (f.k _ _ td.1 rfl (by simp))) ?_ ?_
      · rintro j y H5 hj ⟨e5, f5⟩
        obtain ⟨c, hc, rfl⟩ := at_z hj
        have hcm := List.mem_of_getElem? hc
        have td5 := td.keep f5
        have jl := (List.getElem?_eq_some_iff.mp hc).1
        refine ⟨rfl, _, rfl, .inl ⟨rfl, _, SqL.of td5.1⟩, _, rfl, D, .ref c.1, bbD c.2, (cs.map (·.2)).map bbD, firstI ((zs.map (·.2)).map (lkS b)) c.2, bbD c.2, rfl, rfl, .lst (SqL.of td5.1) (dp_bbs td5.2), dp_bb (td5.2 c hcm), shaped_bbs _, shaped_bb _ _, ?_, ?_, ?_, _, e5, ?_, ?_, f5.new hD2⟩
        · rw [List.getElem?_map, ec, first_get (emem c hcm)]
          rfl
        · rw [eqv_bbD]
          exact decide_eq_true rfl
        · intro m z' hm' hz'
          rw [List.getElem?_map, ec] at hz'
          obtain ⟨z, hz, rfl⟩ := Option.map_eq_some_iff.mp hz'
          rw [eqv_bbD]
          exact decide_eq_false (first_no hm' hz)
        · rw [List.length_map, List.length_take, List.length_map]
          exact small1000 (by omega)
        · rw [upd_same, take_snoc (x := c.2) (by rw [List.getElem?_map, hc]; rfl), List.map_append]
          rfl
      rintro H5 ⟨e5, f5⟩
      rw [List.length_map, List.take_of_length_le (by rw [List.length_map]; exact Nat.le_refl _), ec] at e5
      have es5 : H5 D2 = some (.lst ((sortF ((zs.map (·.2)).map (lkS b))).map fun n => V.int (n : Nat))) := by
        rw [e5]
        unfold sortF
        generalize (zs.map (·.2)).map (lkS b) = ts
        rw [List.map_map]
        rfl
      refine .inl ⟨D2, _, rfl, SqL.of es5, fun q2 hq2 => ?_⟩
      have g6 : Frm [] H5 (upd H5 q2 (.tup ((sortF ((zs.map (·.2)).map (lkS b))).map fun n => V.int (n : Nat)))) := Frm.of (same_upd hq2)
      have u6 : (upd H5 q2 (.tup ((sortF ((zs.map (·.2)).map (lkS b))).map fun n => V.int (n : Nat)))) q2 = _ := upd_same
      generalize (upd H5 q2 (.tup ((sortF ((zs.map (·.2)).map (lkS b))).map fun n => V.int (n : Nat)))) = H6 at g6 u6 ⊢
      have f46 : FrT K [] H4 H6 := (f5.trans g6).toT .nil
      have f06 : FrT K [] H H6 := f3.trans (f4.trans f46)
      have nd6 : NDt P w H6 d kvs := nd4.keep (f46.k _ _ nd4.at_ rfl (by simp)) (frt_tup f46)
      have nk6 : NK H6 (keyN (sortF ((zs.map (·.2)).map (lkS b)))) (.ref q2) := .tup u6 (nks_nats _)
      have kl : kvs.length = ys.length := by
        have := congrArg List.length tk.vs
        rwa [List.length_map, List.length_map] at this
      have yl : ys.length ≤ 100 := by
        have := tk.sub.length_le
        rw [List.length_take] at this
        omega
      refine ⟨_, rfl, kvs, _, q2, nd6, rfl, nk6, keyN_depth _, small1000 (by omega), fun v hv => ?_, fun hv => ?_⟩
      · obtain ⟨p, hp, ep, _⟩ := nval_mem hv
        refine ⟨_, _, _, _, kvs, ys, rfl, nd6, ⟨tk.vs, ?_, tk.ks, fun b' hb' => ?_⟩, f06⟩
        · rw [take_snoc hbi]
          exact tk.sub.trans (List.sublist_append_left _ _)
        · rw [take_snoc hbi] at hb'
          rcases List.mem_append.mp hb' with e | e
          · exact tk.rep b' e
          · rw [List.mem_singleton.mp e]
            have hm : p.1 ∈ kvs.map (·.1) := List.mem_map.mpr ⟨p, hp, rfl⟩
            rw [tk.ks, ep] at hm
            obtain ⟨y, hy, e2⟩ := List.mem_map.mp hm
            exact ⟨y, hy, keyN_inj e2⟩
      · have f07 : FrT K [] H (upd H6 d (ND P w d (kvs ++ [(keyN (sortF ((zs.map (·.2)).map (lkS b))), q2, V.str b)]))) := f06.putD hd nd6.at_
        have up := upd_tup (o := ND P w d (kvs ++ [(keyN (sortF ((zs.map (·.2)).map (lkS b))), q2, V.str b)])) nd6.at_
        refine ⟨_, _, _, _, _, ys ++ [b], rfl, ⟨upd_same, fun p hp => ?_⟩, ⟨?_, ?_, ?_, fun b' hb' => ?_⟩, f07⟩
        · rcases List.mem_append.mp hp with e | e
          · exact ⟨NK.keep up _ _ (nd6.ks p e).1, (nd6.ks p e).2⟩
          · rw [List.mem_singleton.mp e]
            exact ⟨NK.keep up _ _ nk6, keyN_depth _⟩
        · rw [List.map_append, List.map_append, tk.vs]
          rfl
        · rw [take_snoc hbi]
          exact tk.sub.append (List.Sublist.refl _)
        · rw [List.map_append, List.map_append, tk.ks]
          rfl
        · rw [take_snoc hbi] at hb'
          rcases List.mem_append.mp hb' with e | e
          · obtain ⟨y, hy, e2⟩ := tk.rep b' e
            exact ⟨y, List.mem_append_left _ hy, e2⟩
          · rw [List.mem_singleton.mp e]
            exact ⟨b, List.mem_append_right _ (List.mem_singleton.mpr rfl), rfl⟩
    · rintro σ H3 ⟨v3, v4, v5, v6, kvs, ys, rfl, nd, tk, f3⟩
      rw [List.length_map, List.take_length] at tk
      refine ⟨_, rfl, d, kvs, rfl, nd, fun q hq => ?_⟩
      rw [tk.vs]
      exact k q ys _ (f3.b _ hq) upd_same tk.sub tk.rep (f3.trans ((Frm.of (same_upd hq)).toT .nil))
end
end B

set_option Elab.async false
set_option linter.all false
set_option maxRecDepth 100000
set_option maxHeartbeats 4000000
namespace B
open PySem PySem.Spec PyProof.Rows L2
open SX (S)
/-! ### sets parted by a look -/
abbrev Pz := Addr × List (Addr × List Str)
/-- four lists of sets -/
structure PZ (H : Hp) (q : Addr) (us : List Pz) : Prop where
  at_ : H q = some (.lst (us.map fun u => V.ref u.1))
  ls : ∀ u ∈ us, H u.1 = some (.lst (u.2.map fun z => V.ref z.1))
theorem PZ.keepT {K : PySem.W.Frag} {H H' : Hp} {q : Addr} {us : List Pz} (h : PZ H q us) (f : FrT K [] H H') : PZ H' q us := ⟨f.k _ _ h.at_ rfl (by simp), fun u hu => f.k _ _ (h.ls u hu) rfl (by simp)⟩
def partZ (b : Str) (c : BB) (zs : List (Addr × List Str)) : List (Addr × List Str) := zs.filter fun z => decide (lkS b z.2 = c)
theorem partZ_snd {b : Str} {c : BB} {zs : List (Addr × List Str)} : (partZ b c zs).map (·.2) = partL b c (zs.map (·.2)) := by
  unfold partZ partL
  rw [List.filter_map]
  rfl
theorem partZ_snoc {b : Str} {c : BB} {zs : List (Addr × List Str)} {z : Addr × List Str} : partZ b c (zs ++ [z]) = partZ b c zs ++ (if lkS b z.2 = c then [z] else []) := by
  unfold partZ
  rw [List.filter_append]
  by_cases h : lkS b z.2 = c
  · rw [if_pos h, List.filter_cons, if_pos (decide_eq_true h)]
    rfl
  · rw [if_neg h, List.filter_cons, if_neg (by rw [decide_eq_false h]; simp)]
    rfl
theorem cs4_set {α : Type} {f g : BB → α} {c : BB} (hc : ∀ c', c' ≠ c → g c' = f c') : (cs4.map f).set (ansB c) (g c) = cs4.map g := by
  obtain ⟨a, b⟩ := c
  have h1 : (false, false) ≠ (a, b) → g (false, false) = f (false, false) := hc _
  have h2 : (false, true) ≠ (a, b) → g (false, true) = f (false, true) := hc _
  have h3 : (true, false) ≠ (a, b) → g (true, false) = f (true, false) := hc _
  have h4 : (true, true) ≠ (a, b) → g (true, true) = f (true, true) := hc _
  cases a <;> cases b <;> simp_all [cs4, ansB]
theorem PZ.put {H : Hp} {q : Addr} {us : List Pz} (h : PZ H q us) (nd : (us.map (·.1)).Nodup) (nq : ∀ u ∈ us, u.1 ≠ q) {n : Nat} {u : Pz} (e : us[n]? = some u) (z : Addr × List Str) :
    PZ (upd H u.1 (.lst ((u.2.map fun z => V.ref z.1) ++ [.ref z.1]))) q (us.set n (u.1, u.2 ++ [z])) ∧ ((us.set n (u.1, u.2 ++ [z])).map (·.1)) = us.map (·.1) := by
  have hn := (List.getElem?_eq_some_iff.mp e).1
  have fst : ((us.set n (u.1, u.2 ++ [z])).map (·.1)) = us.map (·.1) := by
    apply List.ext_getElem?
    intro j
    rw [List.getElem?_map, List.getElem?_map, List.getElem?_set]
    by_cases c : n = j
    · rw [if_pos c, if_pos hn, ← c, e]
      rfl
    · rw [if_neg c]
  refine ⟨⟨?_, fun x hx => ?_⟩, fst⟩
  · rw [upd_ne (Ne.symm (nq u (List.mem_of_getElem? e))), h.at_]
    have a : ∀ l : List Pz, (l.map fun u => V.ref u.1) = (l.map (·.1)).map V.ref := fun l => by rw [List.map_map]; rfl
    rw [a, a, fst]
  · obtain ⟨j, hj⟩ := List.mem_iff_getElem?.mp hx
    rw [List.getElem?_set] at hj
    by_cases c : n = j
    · rw [if_pos c, if_pos hn] at hj
      cases hj
      rw [upd_same, List.map_append]
      rfl
    · rw [if_neg c] at hj
      have ne : x.1 ≠ u.1 := fun w => c (by
        have a1 : (us.map (·.1))[n]? = some u.1 := by rw [List.getElem?_map, e]; rfl
        have a2 : (us.map (·.1))[j]? = some u.1 := by rw [List.getElem?_map, hj, ← w]; rfl
        exact (List.getElem?_inj (by rw [List.length_map]; exact hn) nd).mp (a1.trans a2.symm))
      rw [upd_ne ne]
      exact h.ls x (List.mem_of_getElem? hj)
section
variable {X : Cx}
theorem g_MANY_ANSWERS (T : Txt X.prog X.w X.K X.mg X.base) {p : Pos} (hg : Gl X "MANY_ANSWERS" := by rfl) : PE X (.Name "MANY_ANSWERS" p) (tC (.int 4)) := by
  obtain ⟨t, e⟩ := He.int_ok T.X T.G (T.t.fact 49 (f := .int "MANY_ANSWERS" 4))
  exact pe_glob hg e ⟨t, rfl⟩
theorem g_MOST_FOR_PLAN (T : Txt X.prog X.w X.K X.mg X.base) {p : Pos} (hg : Gl X "MOST_FOR_PLAN" := by rfl) : PE X (.Name "MOST_FOR_PLAN" p) (tC (.int 4)) := by
  obtain ⟨t, e⟩ := He.int_ok T.X T.G (T.t.fact 48 (f := .int "MOST_FOR_PLAN" 4))
  exact pe_glob hg e ⟨t, rfl⟩
end
section
variable {P : Program} {w : World} {K : PySem.W.Frag} {mg : Str → Option Value} {base : Heap}
def spAnsw : Sp := fun vs H Q _ => ∃ (t : Addr) (c : BB), vs = [.ref t] ∧ H t = some (.tup [.bl c.1, .bl c.2]) ∧ Q (.int (ansB c : Nat)) H
theorem c_answer_of (T : Txt P w K mg base) : CalX CX0 P w K mg base 1 "answer_of" spAnsw := by
  obtain ⟨fd, F⟩ := T.t.def_ 8 (d := d_answer_of)
  refine ⟨_, fd, _, F.ok sc_answer_of (fun vs H Q E h => ?_) (fun cdv A outer s H vs Q E hr h => ?_), He.glo_ok T.X T.G (T.t.fact 8), F.kp, F.bindsN fun _ _ _ _ _ _ us hl => match us, hl with | [_], _ => rfl⟩
  · obtain ⟨t, c, rfl, _⟩ := h
    rfl
  · obtain ⟨t, ⟨z, o⟩, rfl, ht, k⟩ := h
    refine ⟨_, PSs.nox (pss_cons (ps_asg (pv 0) (pg_tup rfl (pgs_cons (pg_name (i := 1) sc_answer_of.nd rfl (Or.inl rfl)) (pgs_cons (pg_name (i := 2) sc_answer_of.nd rfl (Or.inl rfl)) pgs_nil))))
    (pss_one (ps_ret (pe_op op_add (pe_ifExp (pt_val (pv 1)) pe_int pe_int) (pe_ifExp (pt_val (pv 2)) pe_int pe_int))))), ?_⟩
    refine ⟨_, rfl, t, _, rfl, SqT.of ht, rfl, _, _, rfl, _, _, rfl, rfl, ?_⟩
    cases z <;> cases o <;> exact ⟨_, rfl, _, rfl, _, rfl, _, rfl, _, _, rfl, rfl, k⟩
def spParted (K : PySem.W.Frag) : Sp := fun vs H Q _ => ∃ (pS : Addr) (b : Str) (zs : List (Addr × List Str)), vs = [.ref pS, .str b] ∧ SZ H pS zs ∧ zs.length ≤ 64 ∧ b.cps.toList.length ≤ 100 ∧ Tb K H ∧
  ∀ (q : Addr) (us : List Pz) (H' : Hp), H q = none → PZ H' q us → us.map (·.2) = cs4.map (fun c => partZ b c zs) → (∀ u ∈ us, H u.1 = none) → FrT K [] H H' → Q (.ref q) H'
theorem c_parted (T : Txt P w K mg base) : CalX CX0 P w K mg base 3 "parted" (spParted K) := by
  obtain ⟨fd, F⟩ := T.t.def_ 13 (d := d_parted)
  refine ⟨_, fd, _, F.ok sc_parted (fun vs H Q E h => ?_) (fun cdv A outer s H vs Q E hr h => ?_), He.glo_ok T.X T.G (T.t.fact 13), F.kp, F.bindsN fun _ _ _ _ _ _ us hl => match us, hl with | [_, _], _ => rfl⟩
  · obtain ⟨pS, b, zs, rfl, _⟩ := h
    rfl
  · obtain ⟨pS, b, zs, rfl, sz, z64, hb, ht, k⟩ := h
    refine ⟨_, PSs.nox (pss_cons (ps_setLc (i := 2) (own := [("_", 4)]) (g := gName 4) rfl sc_parted.nd rfl rfl (sw_true rfl rfl rfl (by decide +kernel)) (pi_range1 rfl (n_range T) (pa_cons (g_MANY_ANSWERS T) pa_nil)) (blkOk_by (N := ["sets", "beginning", "parts", "numbers", "_"]) (sc := defScope s_parted) (own := [("_", 4)]) (by decide +kernel)) (fun _ _ _ _ _ => pg_name (i := 4) sc_parted.nd rfl (Or.inl rfl)) (fun _ _ _ _ _ => pts_nil) (fun _ _ _ _ _ => by exact (pe_lst pa_nil)))
    (pss_cons (ps_for PassesOwn.never rfl (pi_list (pv 0)) (pg_name (i := 3) sc_parted.nd rfl (Or.inl rfl))
      (pss_one (ps_expr (pe_bm PySem.F.plainAttrs_list PySem.F.slot_list_append PySem.F.type_list_append mt_append (pe_ix ix_list (pv 2) (pe_cx (c_answer_of T) hr (by decide) rfl pass0 (pa_cons (pe_cx (c_heard T) hr (by decide) rfl pass0 (pa_cons (pv 3) (pa_cons (pv 1) pa_nil))) pa_nil)) (fun _ _ => rfl)) (pa_cons (pv 3) pa_nil)))))
    (pss_one (ps_ret (pv 2))))), ?_⟩
    refine ⟨_, rfl, by decide, by decide, fun q hq => ?_⟩
    refine lc_range (lo := 0) (n := (4 : Int).toNat) (fun i H' => ∃ ps : List Addr, ps.length = i ∧ H' q = some (.lst (ps.map V.ref)) ∧ (∀ p ∈ ps, H' p = some (.lst []) ∧ p ≠ q ∧ H p = none) ∧ ps.Nodup ∧ Frm [] H H')
      ⟨[], rfl, upd_same, by simp, List.nodup_nil, Frm.of (same_upd hq)⟩ ?_ ?_
    · rintro i H1 hi ⟨ps, hl, eq, hp, nd, f1⟩
      have i4 : i < 4 := hi
      refine ⟨rfl, Nat.zero_le _, fun p0 hp0 => ?_⟩
      have g2 : Frm [] H1 (upd H1 p0 (.lst [])) := Frm.of (same_upd hp0)
      have n0 : p0 ≠ q := Ne.symm (ne_of_none eq hp0)
      refine ⟨_, g2.k _ _ eq rfl (by simp), by rw [List.length_map]; exact small1000 (by omega), ps ++ [p0], by rw [List.length_append, hl]; rfl, by rw [upd_same, List.map_append]; rfl, fun p hm => ?_, ?_, (f1.trans g2).new hq⟩
      · rcases List.mem_append.mp hm with c | c
        · rw [upd_ne (hp p c).2.1]
          exact ⟨g2.k _ _ (hp p c).1 rfl (by simp), (hp p c).2⟩
        · rw [List.mem_singleton.mp c, upd_ne n0]
          exact ⟨upd_same, n0, f1.b _ hp0⟩
      · rw [List.nodup_append]
        refine ⟨nd, by simp, fun x hx y hy e => ?_⟩
        rw [List.mem_singleton.mp hy] at e
        exact ne_of_none (hp x hx).1 hp0 e
    rintro H1 ⟨ps, hl, eq, hp, nd, f1⟩
    have l4 : ps.length = 4 := hl
    obtain ⟨us, u1, u2, u3, u4, u5⟩ : ∃ us : List Pz, PZ H1 q us ∧ us.map (·.2) = cs4.map (fun c => partZ b c (zs.take 0)) ∧ (us.map (·.1)).Nodup ∧ (∀ u ∈ us, H u.1 = none ∧ u.1 ≠ q) ∧ us.length = 4 := by
      refine ⟨ps.map fun p => (p, []), ⟨?_, fun u hu => ?_⟩, ?_, ?_, fun u hu => ?_, by rw [List.length_map, l4]⟩
      · rw [eq, List.map_map]
        rfl
      · obtain ⟨p, hm, rfl⟩ := List.mem_map.mp hu
        exact (hp p hm).1
      · match ps, l4 with
        | [_, _, _, _], _ => rfl
      · rw [List.map_map]
        have : ((fun x : Pz => x.1) ∘ fun p : Addr => ((p, []) : Pz)) = id := rfl
        rw [this, List.map_id]
        exact nd
      · obtain ⟨p, hm, rfl⟩ := List.mem_map.mp hu
        exact ⟨(hp p hm).2.2, (hp p hm).2.1⟩
    have s1 : SZ H1 pS zs := ⟨f1.k _ _ sz.1 rfl (by simp), fun z hz => f1.k _ _ (sz.2 z hz) rfl (by simp)⟩
    refine ⟨_, rfl, pS, rfl, ⟨_, SqL.of s1.1⟩, for_list (K := K) (a := pS) (xs := zs.map fun z => V.ref z.1) (fun i σ H' => ∃ (v3 v4 : Option V) (us : List Pz), σ = [some (.ref pS), some (.str b), some (.ref q), v3, v4] ∧ PZ H' q us ∧ us.map (·.2) = cs4.map (fun c => partZ b c (zs.take i)) ∧ (us.map (·.1)).Nodup ∧ (∀ u ∈ us, H u.1 = none ∧ u.1 ≠ q) ∧ us.length = 4 ∧ FrT K [] H H')
      ⟨_, _, us, rfl, u1, u2, u3, u4, u5, f1.toT .nil⟩ (fun i σ H' _ ⟨_, _, _, _, _, _, _, _, _, f⟩ => SqL.of (f.k _ _ sz.1 rfl (by simp))) ?_ ?_⟩
    · clear u1 u2 u3 u4 u5 us
      rintro i y σ H2 hi ⟨v3, v4, us, rfl, u1, u2, u3, u4, u5, f2⟩
      obtain ⟨z, hz, rfl⟩ := at_sz hi
      have hzm := List.mem_of_getElem? hz
      have il := (List.getElem?_eq_some_iff.mp hz).1
      refine ⟨_, rfl, _, rfl, _, rfl, z.1, b.cps.toList, z.2, by rw [S_cps]; rfl, f2.k _ _ (sz.2 z hzm) rfl (by simp), hb, f2.t ht, fun t H3 ht0 et f3 => ?_⟩
      have v1 := u1.keepT f3
      have f23 := f2.trans f3
      have hn4 : ansB (lkS b z.2) < us.length := by rw [u5]; exact ans_lt _
      have eu := List.getElem?_eq_getElem hn4
      generalize us[ansB (lkS b z.2)] = u at eu
      have um := List.mem_of_getElem? eu
      have eu2 : u.2 = partZ b (lkS b z.2) (zs.take i) := by
        have a1 : (us.map (·.2))[ansB (lkS b z.2)]? = some u.2 := by rw [List.getElem?_map, eu]; rfl
        rw [u2, List.getElem?_map, cs4_at] at a1
        exact (Option.some.inj a1).symm
      refine ⟨t, lkS b z.2, rfl, et, q, _, _, .ref u.1, rfl, rfl, SqL.of v1.at_, atI_nat (by rw [List.getElem?_map, eu]; rfl), .inl ⟨rfl, _, SqL.of (v1.ls u um)⟩, _, rfl, u.1, _, _, rfl, rfl, v1.ls u um, ?_, ?_⟩
      · rw [List.length_map, eu2]
        unfold partZ
        have := List.length_filter_le (fun z_1 : Addr × List Str => decide (lkS b z_1.2 = lkS b z.2)) (zs.take i)
        rw [List.length_take] at this
        exact small1000 (by omega)
      obtain ⟨w1, w2⟩ := v1.put u3 (fun u hu => (u4 u hu).2) eu z
      refine ⟨_, _, _, rfl, w1, ?_, by rw [w2]; exact u3, fun x hx => ?_, by rw [List.length_set]; exact u5, f23.putN (u4 u um).1 (v1.ls u um)⟩
      · rw [List.map_set, u2, eu2, take_snoc hz]
        have := cs4_set (f := fun c => partZ b c (zs.take i)) (g := fun c => partZ b c (zs.take i ++ [z])) (c := lkS b z.2) fun c' hc => by
          show partZ b c' (zs.take i ++ [z]) = partZ b c' (zs.take i)
          rw [partZ_snoc, if_neg (Ne.symm hc), List.append_nil]
        rw [← this]
        show _ = List.set _ _ (partZ b (lkS b z.2) (zs.take i ++ [z]))
        rw [partZ_snoc, if_pos rfl]
      · rcases List.mem_or_eq_of_mem_set hx with c | c
        · exact u4 x c
        · rw [c]
          exact u4 u um
    · clear u1 u2 u3 u4 u5 us
      rintro σ H2 ⟨v3, v4, us, rfl, u1, u2, u3, u4, u5, f2⟩
      rw [List.length_map, List.take_length] at u2
      exact ⟨_, rfl, k q us H2 hq u1 u2 (fun u hu => (u4 u hu).1) f2⟩
end
end B

set_option Elab.async false
set_option linter.all false
set_option maxRecDepth 100000
set_option maxHeartbeats 4000000
namespace B
open PySem PySem.Spec PyProof.Rows L2
open SX (S)
/-! ### the best plan, and those sought -/
/-- what stands while plans are sought -/
structure PlB (P : Program) (w : World) (K : PySem.W.Frag) (H : Hp) (pB pS pK : Addr) (bs : List Str) (zs : List (Addr × List Str)) (kvs : List NE) (W : Nat) (all : SS) : Prop where
  bsA : H pB = some (.lst (bs.map V.str))
  sz : SZ H pS zs
  nd : NDt P w H pK kvs
  kn : KnOk H W bs all kvs
  sub : (zs.map (·.2)).Sublist all
  al : all.length ≤ 16
  an : all.Nodup
  sep : Sep bs all
  bw : ∀ b ∈ bs, b.cps.toList.length < W
  bl : bs.length ≤ 100
  wl : W ≤ 12
  tl : ∀ s ∈ all, s.length ≤ 8
  tx : ∀ s ∈ all, ∀ x ∈ s, Num W x
  ht : Tb K H
def spBest (P : Program) (w : World) (K : PySem.W.Frag) (n : Nat) : Sp := fun vs H Q _ => ∃ (pB pS pK : Addr) (bs : List Str) (zs : List (Addr × List Str)) (kvs : List NE) (W : Nat) (all : SS), vs = [.ref pB, .ref pS, .ref pK] ∧ PlB P w K H pB pS pK bs zs kvs W all ∧ 1 ≤ zs.length ∧ zs.length ≤ n ∧
  ∀ (v : V) (kvs' : List NE) (H' : Hp), GoodR H' W bs (zs.map (·.2)) v → NDt P w H' pK kvs' → KnOk H' W bs all kvs' → FrT K [pK] H H' → Q v H'
def spSought (P : Program) (w : World) (K : PySem.W.Frag) (n : Nat) : Sp := fun vs H Q _ => ∃ (pB pS pK : Addr) (bs : List Str) (zs : List (Addr × List Str)) (kvs : List NE) (W : Nat) (all : SS), vs = [.ref pB, .ref pS, .ref pK] ∧ PlB P w K H pB pS pK bs zs kvs W all ∧ 2 ≤ zs.length ∧ zs.length ≤ n ∧
  ∀ (v : V) (kvs' : List NE) (H' : Hp), GoodR H' W bs (zs.map (·.2)) v → NDt P w H' pK kvs' → KnOk H' W bs all kvs' → FrT K [pK] H H' → Q v H'
theorem frd_tup {P : Program} {w : World} {K : PySem.W.Frag} {H H' : Hp} {q : Addr} {kvs : List NE} (d : NDt P w H q kvs) (f : FrT K [q] H H') : ∀ b ys, H b = some (.tup ys) → H' b = some (.tup ys) := fun b ys h =>
  f.k _ _ h rfl (by rw [List.mem_singleton]; exact nd_tup h d.at_)
theorem frd_lst {P : Program} {w : World} {K : PySem.W.Frag} {H H' : Hp} {q b : Addr} {kvs : List NE} {ys : List V} (d : NDt P w H q kvs) (f : FrT K [q] H H') (h : H b = some (.lst ys)) : H' b = some (.lst ys) :=
  f.k _ _ h rfl (by rw [List.mem_singleton]; exact nd_out h d.at_)
theorem FrT.putM {K : PySem.W.Frag} {S : List Addr} {H H1 : Hp} {b : Addr} {xs : List V} {o : HO} (a : FrT K S H H1) (h : H b = none) (hb : H1 b = some (.lst xs)) : FrT K S H (upd H1 b o) :=
  ⟨fun c u e t n => by
    rw [upd_ne (ne_of_none e h)]
    exact a.k c u e t n, fun c z => a.b c (upd_back z), fun z => tb_upd (a.t z) hb⟩
theorem FrT.putE {P : Program} {w : World} {K : PySem.W.Frag} {S : List Addr} {H H1 : Hp} {b : Addr} {kvs : List NE} {o : HO} (a : FrT K S H H1) (h : b ∈ S) (hb : H1 b = some (ND P w b kvs)) : FrT K S H (upd H1 b o) :=
  ⟨fun c u e t n => by
    rw [upd_ne (fun z => n (by rw [z]; exact h))]
    exact a.k c u e t n, fun c z => a.b c (upd_back z), fun z => tb_updN (a.t z) hb⟩
theorem lst_tup {H : Hp} {D : Addr} {ys : List V} {o : HO} (d : H D = some (.lst ys)) : ∀ b zs, H b = some (.tup zs) → upd H D o b = some (.tup zs) := fun b zs h => by
  rw [upd_ne (fun z => by
    rw [z, d] at h
    cases h)]
  exact h
section
variable {P : Program} {w : World} {K : PySem.W.Frag} {H H' : Hp} {pB pS pK : Addr} {bs : List Str} {zs : List (Addr × List Str)} {kvs kvs' : List NE} {W : Nat} {all : SS}
theorem PlB.step (h : PlB P w K H pB pS pK bs zs kvs W all) (f : FrT K [pK] H H') (n : NDt P w H' pK kvs') (k : KnOk H' W bs all kvs') : PlB P w K H' pB pS pK bs zs kvs' W all :=
  { h with
    bsA := frd_lst h.nd f h.bsA
    sz := ⟨frd_lst h.nd f h.sz.1, fun z hz => frd_lst h.nd f (h.sz.2 z hz)⟩
    nd := n
    kn := k
    ht := f.t h.ht }
theorem PlB.lay (h : PlB P w K H pB pS pK bs zs kvs W all) (f : FrT K [] H H') : PlB P w K H' pB pS pK bs zs kvs W all :=
  h.step (f.mono (by simp)) (h.nd.keep (f.k _ _ h.nd.at_ rfl (by simp)) (frt_tup f)) (h.kn.keep (frt_tup f))
end
theorem nks_sets {H : Hp} : ∀ {cs : List (Addr × List Str)}, (∀ c ∈ cs, H c.1 = some (.tup (c.2.map V.str))) → NKs H ((cs.map (·.2)).map fun s => .tup (s.map .text)) (cs.map fun c => V.ref c.1)
  | [], _ => .nil
  | c :: r, h => .cons (.tup (h c (by simp)) (nks_strs c.2)) (nks_sets fun y hy => h y (by simp [hy]))
section
variable {P : Program} {w : World} {K : PySem.W.Frag} {mg : Str → Option Value} {base : Heap}
theorem best_of (T : Txt P w K mg base) {j n : Nat} (hS : CalX CX0 P w K mg base j "sought_plan" (spSought P w K n)) : CalX CX0 P w K mg base (j + 1) "best_plan" (spBest P w K n) := by
  obtain ⟨fd, F⟩ := T.t.def_ 11 (d := d_best_plan)
  refine ⟨_, fd, _, F.ok sc_best_plan (fun vs H Q E h => ?_) (fun cdv A outer s H vs Q E hr h => ?_), He.glo_ok T.X T.G (T.t.fact 11), F.kp, F.bindsN fun _ _ _ _ _ _ us hl => match us, hl with | [_, _, _], _ => rfl⟩
  · obtain ⟨pB, pS, pK, bs, zs, kvs, W, all, rfl, _⟩ := h
    rfl
  · obtain ⟨pB, pS, pK, bs, zs, kvs, W, all, rfl, pb, z1, zn, k⟩ := h
    refine ⟨_, PSs.nox (pss_cons (ps_if (pt_cmpR op_eq (pe_callB call_len_seq (by rfl) (n_len T) PySem.boot_len (pa_cons (pv 1) pa_nil)) pe_int (nomark _))
      (pss_one (ps_ret (pe_tup (pa_cons pe_int (pa_cons (pe_tup (pa_cons pe_str (pa_cons (pe_tupleOf rfl (n_tuple T) (pe_ix ix_list (pv 1) pe_int (fun _ _ => rfl))) pa_nil))) pa_nil)))))
      pss_nil)
    (pss_cons (ps_set (i := 3) sc_best_plan.nd rfl (Or.inl rfl) (pe_tupleOf rfl (n_tuple T) (pe_lc (own := [("numbers", 4)]) (g := gName 4) rfl sc_best_plan.nd (pi_list (pv 1)) (blkOk_by (N := ["beginnings", "sets", "known", "key", "numbers"]) (sc := defScope s_best_plan) (own := [("numbers", 4)]) (by decide +kernel)) (fun _ _ _ _ _ => pg_name (i := 4) sc_best_plan.nd rfl (Or.inl rfl)) (fun _ _ _ _ _ => pts_nil) (fun _ _ _ _ _ => by exact (pe_tupleOfK (K := K) rfl (by rfl) (n_tuple T) (pv 4))))))
    (pss_cons (ps_if (pt_cmp (pc_nnotin hr.u65 (pv 3) (pv 2)))
      (pss_one (ps_nput hr.u65 (pv 2) (pv 3) (pe_cx hS hr (by omega) rfl pass0 (pa_cons (pv 0) (pa_cons (pv 1) (pa_cons (pv 2) pa_nil)))) rfl))
      pss_nil)
    (pss_one (ps_ret (pe_nget hr.u65 (pv 2) (pv 3) (fun _ _ => rfl))))))), ?_⟩
    refine ⟨_, rfl, pS, _, rfl, .inl (SqL.of pb.sz.1), rfl, _, rfl, ?_⟩
    rw [List.length_map]
    refine iteB (fun c => ?_) (fun c => ?_)
    · -- one set alone
      have c1 : zs.length = 1 := by
        have := V.int.inj (of_decide_eq_true c)
        omega
      obtain ⟨z, rfl⟩ : ∃ z, zs = [z] := by
        match zs, c1 with
        | [z], _ => exact ⟨z, rfl⟩
      have ez := pb.sz.2 z (by simp)
      refine ⟨_, rfl, pS, _, 0, .ref z.1, rfl, rfl, SqL.of pb.sz.1, rfl, .inl ⟨z.1, _, rfl, SqL.of ez, fun q1 hq1 => ?_⟩⟩
      refine new_to hq1 fun H1 g1 u1 => ⟨by show 2 ≤ sizeLine; decide, fun q2 hq2 => ?_⟩
      refine new_to hq2 fun H2 g2 u2 => ⟨by show 2 ≤ sizeLine; decide, fun q3 hq3 => ?_⟩
      refine new_to hq3 fun H3 g3 u3 => ?_
      have f3 : FrT K [] H H3 := (g1.trans (g2.trans g3)).toT .nil
      have p3 := pb.lay f3
      have gg : Goes H3 W (.ref q2) z.2 0 := .hung (g3.k _ _ u2 rfl (by simp)) ((g2.trans g3).k _ _ u1 rfl (by simp))
      refine k _ kvs H3 ⟨q3, .ref q2, 0, rfl, u3, Lst.one (by simp), by simp, ⟨fun s hs => ?_, z.2, by simp, gg⟩⟩ p3.nd p3.kn (f3.mono (by simp))
      rw [List.map_cons, List.map_nil, List.mem_singleton] at hs
      rw [hs]
      exact ⟨0, Nat.le_refl _, gg⟩
    · -- several
      have c2 : 2 ≤ zs.length := by
        have : (zs.length : Int) ≠ 1 := fun e => of_decide_eq_false c (by rw [e])
        omega
      have zl : zs.length ≤ 16 := by
        have := pb.sub.length_le
        rw [List.length_map] at this
        exact Nat.le_trans this pb.al
      refine ⟨_, rfl, pS, rfl, ⟨_, SqL.of pb.sz.1⟩, fun D hD => ?_⟩
      refine lc_list (K := K) (a := pS) (xs := zs.map fun z => V.ref z.1) (fun j H' => ∃ cs : List (Addr × List Str), H' D = some (.lst (cs.map fun c => V.ref c.1)) ∧ cs.map (·.2) = (zs.map (·.2)).take j ∧ (∀ c ∈ cs, H' c.1 = some (.tup (c.2.map V.str))) ∧ Frm [] H H')
        ⟨[], upd_same, by simp, by simp, Frm.of (same_upd hD)⟩ (fun j H' _ ⟨_, _, _, _, f⟩ => SqL.of (f.k _ _ pb.sz.1 rfl (by simp))) ?_ ?_
      · rintro j y H1 hj ⟨cs, e1, e2, e3, f1⟩
        obtain ⟨z, hz, rfl⟩ := at_sz hj
        have hzm := List.mem_of_getElem? hz
        have lc : cs.length ≤ 16 := by
          have := congrArg List.length e2
          rw [List.length_map, List.length_take, List.length_map] at this
          omega
        refine ⟨rfl, _, rfl, .inl ⟨z.1, _, rfl, SqL.of (f1.k _ _ (pb.sz.2 z hzm) rfl (by simp)), fun t ht => ?_⟩⟩
        refine new_to ht fun H2 g2 u2 => ?_
        have e12 := g2.k _ _ e1 rfl (by simp)
        refine ⟨_, e12, by rw [List.length_map]; exact small1000 (by omega), cs ++ [(t, z.2)], by rw [upd_same, List.map_append]; rfl, ?_, fun c hc => lst_tup e12 _ _ ?_, (f1.trans g2).new hD⟩
        · rw [List.map_append, e2, take_snoc (x := z.2) (by rw [List.getElem?_map, hz]; rfl)]
          rfl
        · rcases List.mem_append.mp hc with e | e
          · exact g2.k _ _ (e3 c e) rfl (by simp)
          · rw [List.mem_singleton.mp e]
            exact u2
      rintro H1 ⟨cs, e1, e2, e3, f1⟩
      rw [List.length_map, List.take_of_length_le (by rw [List.length_map]; exact Nat.le_refl _)] at e2
      refine .inl ⟨D, _, rfl, SqL.of e1, fun pk hpk => ?_⟩
      refine new_to hpk fun H2 g2 u2 => ?_
      have f2 : FrT K [] H H2 := (f1.trans g2).toT .nil
      have p2 := pb.lay f2
      have nk : NK H2 (keyS (zs.map (·.2))) (.ref pk) := by
        refine .tup u2 ?_
        rw [← e2]
        exact nks_sets fun c hc => g2.k _ _ (e3 c hc) rfl (by simp)
      refine ⟨_, rfl, _, rfl, pK, kvs, keyS (zs.map (·.2)), pk, rfl, rfl, p2.nd, nk, keyS_depth _, _, rfl, iteB (fun c => ?_) (fun c => ?_)⟩
      · refine ⟨_, rfl, _, rfl, _, rfl, pB, pS, pK, bs, zs, kvs, W, all, rfl, p2, c2, zn, fun v kvs' H3 gd nd3 kn3 f3 => ?_⟩
        have nk3 := NK.keep (frd_tup p2.nd f3) _ _ nk
        have kl := kn3.len pb.al
        refine ⟨_, rfl, _, rfl, pK, kvs', keyS (zs.map (·.2)), pk, rfl, rfl, nd3, nk3, keyS_depth _, by rw [sizeLine_eq]; omega, ?_⟩
        have up := upd_tup (o := ND P w pK (nput kvs' (keyS (zs.map (·.2))) pk v)) nd3.at_
        have nd4 : NDt P w (upd H3 pK (ND P w pK (nput kvs' (keyS (zs.map (·.2))) pk v))) pK (nput kvs' (keyS (zs.map (·.2))) pk v) := ⟨upd_same, fun p hp => let q := nput_ks nd3.ks nk3 (keyS_depth _) p hp; ⟨NK.keep up _ _ q.1, q.2⟩⟩
        have f4 : FrT K [pK] H (upd H3 pK (ND P w pK (nput kvs' (keyS (zs.map (·.2))) pk v))) := ((f2.mono (by simp)).trans f3).putE (by simp) nd3.at_
        exact ⟨_, rfl, _, rfl, pK, _, keyS (zs.map (·.2)), pk, v, rfl, rfl, nd4, NK.keep up _ _ nk3, keyS_depth _, nval_put, k v _ _ (gd.keep up) nd4 ((kn3.put pb.sub gd).keep up) f4⟩
      · obtain ⟨v, ev⟩ : ∃ v, nval kvs (keyS (zs.map (·.2))) = some v := by
          cases e : nval kvs (keyS (zs.map (·.2))) with
          | none => rw [e] at c; cases c
          | some v => exact ⟨v, rfl⟩
        obtain ⟨p, hp, ep, epv⟩ := nval_mem ev
        obtain ⟨ss, _, e5, gd⟩ := p2.kn.ok p hp
        have : ss = zs.map (·.2) := keyS_inj (e5.symm.trans ep)
        rw [this, epv] at gd
        exact ⟨_, rfl, _, rfl, pK, kvs, keyS (zs.map (·.2)), pk, v, rfl, rfl, p2.nd, nk, keyS_depth _, ev, k v kvs H2 gd p2.nd p2.kn (f2.mono (by simp))⟩
/-! sets within lists of lists -/
def ssD (ss : SS) : PyData := .list (ss.map fun s => .list (s.map .str))
theorem eqv_ssD : ∀ (a b : SS), PyData.eqv (ssD a) (ssD b) = decide (a = b)
  | [], [] => rfl
  | [], _ :: _ => rfl
  | _ :: _, [] => rfl
  | x :: a, y :: b => by
    have ih : PyData.eqvAll (a.map fun s => .list (s.map .str)) (b.map fun s => .list (s.map .str)) = decide (a = b) := eqv_ssD a b
    show (PyData.eqv (.list (x.map .str)) (.list (y.map .str)) && PyData.eqvAll (a.map fun s => .list (s.map .str)) (b.map fun s => .list (s.map .str))) = _
    rw [ih, eqv_strsD]
    by_cases h : x = y
    · by_cases g : a = b
      · rw [h, g]; simp
      · simp [h, g]
    · simp [h]
theorem lay_ssD {ss : SS} (h : ∀ s ∈ ss, ∀ x ∈ s, PyData.strOk x = true) : (ssD ss).canLay0 = true ∧ (ssD ss).depth ≤ 3 := by
  have c : PyData.canLayAll0 (ss.map fun s => .list (s.map .str)) = true ∧ PyData.depthAll (ss.map fun s => .list (s.map .str)) ≤ 2 := by
    induction ss with
    | nil => exact ⟨rfl, Nat.zero_le _⟩
    | cons s r ih =>
      rw [List.map_cons]
      have ih := ih fun t ht => h t (List.mem_cons_of_mem _ ht)
      refine ⟨?_, ?_⟩
      · show ((PyData.list (s.map .str)).canLay0 && PyData.canLayAll0 (r.map fun s => .list (s.map .str))) = true
        rw [ih.1, (He.ba (shaped_strs (h s (by simp)))).1]
        rfl
      · show max (PyData.list (s.map .str)).depth (PyData.depthAll (r.map fun s => .list (s.map .str))) ≤ 2
        exact Nat.max_le.mpr ⟨depth_strs s, ih.2⟩
  exact ⟨c.1, by show PyData.depthAll (ss.map fun s => .list (s.map .str)) + 1 ≤ 3; omega⟩
theorem shaped_ssD {ss : SS} (h : ∀ s ∈ ss, ∀ x ∈ s, PyData.strOk x = true) : SeqAt.shaped (ssD ss) = true := by
  obtain ⟨a, b⟩ := lay_ssD h
  show ((ssD ss).canLay0 && decide ((ssD ss).depth ≤ 64)) = true
  rw [a, decide_eq_true (by omega)]
  rfl
theorem shaped_sss {ps : List SS} (h : ∀ ss ∈ ps, ∀ s ∈ ss, ∀ x ∈ s, PyData.strOk x = true) : SeqAt.shaped (.list (ps.map ssD)) = true := by
  have c : PyData.canLayAll0 (ps.map ssD) = true ∧ PyData.depthAll (ps.map ssD) ≤ 3 := by
    induction ps with
    | nil => exact ⟨rfl, Nat.zero_le _⟩
    | cons s r ih =>
      rw [List.map_cons]
      have ih := ih fun t ht => h t (List.mem_cons_of_mem _ ht)
      obtain ⟨a, b⟩ := lay_ssD (h s (by simp))
      refine ⟨?_, ?_⟩
      · show ((ssD s).canLay0 && PyData.canLayAll0 (r.map ssD)) = true
        rw [ih.1, a]
        rfl
      · show max (ssD s).depth (PyData.depthAll (r.map ssD)) ≤ 3
        exact Nat.max_le.mpr ⟨b, ih.2⟩
  show (PyData.canLayAll0 (ps.map ssD) && decide (PyData.depthAll (ps.map ssD) + 1 ≤ 64)) = true
  rw [c.1, decide_eq_true (by omega)]
  rfl
theorem any_ssD {s : SS} : ∀ ps : List SS, ((ps.map ssD).any fun z => PyData.eqv z (ssD s)) = decide (s ∈ ps)
  | [] => rfl
  | a :: r => by
    rw [List.map_cons, List.any_cons, any_ssD r, eqv_ssD]
    by_cases c : a = s
    · simp [c]
    · have : ¬ s = a := fun z => c z.symm
      simp [c, this]
theorem dp_ssD {H : Hp} {u : Pz} (h1 : H u.1 = some (.lst (u.2.map fun z => V.ref z.1))) (h2 : ∀ z ∈ u.2, H z.1 = some (.lst (z.2.map V.str))) : Dp K H (.ref u.1) (ssD (u.2.map (·.2))) := .lst (SqL.of h1) (dp_sets h2)
theorem dp_sss {H : Hp} : ∀ {us : List Pz}, (∀ u ∈ us, H u.1 = some (.lst (u.2.map fun z => V.ref z.1)) ∧ ∀ z ∈ u.2, H z.1 = some (.lst (z.2.map V.str))) → DpAll K H (us.map fun u => V.ref u.1) ((us.map fun u => u.2.map (·.2)).map ssD)
  | [], _ => .nil
  | u :: r, h => .cons (dp_ssD (h u (by simp)).1 (h u (by simp)).2) (dp_sss fun y hy => h y (by simp [hy]))
/-- the best so far -/
def BestAt (H : Hp) (W : Nat) (bs : List Str) (ss : SS) (i : Nat) (bv : V) : Prop := (bv = .non ∧ ∀ b ∈ bs.take i, ¬ Splits b ss) ∨ ∃ (t : Addr) (pl : V) (v : Nat), bv = .ref t ∧ H t = some (.tup [.int (v : Nat), pl]) ∧ (∃ b ∈ bs, ∃ m, ValB bs b ss m ∧ v = m + 1) ∧
  (∀ b ∈ bs.take i, Splits b ss → ∃ m, ValB bs b ss m ∧ v ≤ m + 1) ∧ v + 1 ≤ ss.length ∧ PlanOk H W pl ss v
theorem BestAt.keep {H H' : Hp} {W : Nat} {bs : List Str} {ss : SS} {i : Nat} {bv : V} (f : ∀ b ys, H b = some (.tup ys) → H' b = some (.tup ys)) (g : BestAt H W bs ss i bv) : BestAt H' W bs ss i bv := by
  rcases g with g | ⟨t, pl, v, h1, h2, h3, h4, h5, h6⟩
  · exact .inl g
  · exact .inr ⟨t, pl, v, h1, f _ _ h2, h3, h4, h5, h6.keep f⟩
/-- what is told of the parts -/
structure TolK (H : Hp) (W : Nat) (bs : List Str) (b : Str) (ss : SS) (j : Nat) (cs : List (Addr × Nat × V)) : Prop where
  len : cs.length = j
  at_ : ∀ (i : Nat) (c : BB) (x : Addr × Nat × V), cs4[i]? = some c → cs[i]? = some x → H x.1 = some (.tup [.int (x.2.1 : Nat), x.2.2]) ∧ Lst bs (partL b c ss) x.2.1 ∧ (partL b c ss = [] → x.2.1 = 0) ∧ (partL b c ss ≠ [] → x.2.1 + 1 ≤ (partL b c ss).length ∧ PlanOk H W x.2.2 (partL b c ss) x.2.1)
theorem TolK.keep {H H' : Hp} {W : Nat} {bs : List Str} {b : Str} {ss : SS} {j : Nat} {cs : List (Addr × Nat × V)} (f : ∀ b ys, H b = some (.tup ys) → H' b = some (.tup ys)) (g : TolK H W bs b ss j cs) : TolK H' W bs b ss j cs :=
  ⟨g.len, fun i c x h1 h2 => let ⟨a1, a2, a3, a4⟩ := g.at_ i c x h1 h2; ⟨f _ _ a1, a2, a3, fun z => ⟨(a4 z).1, (a4 z).2.keep f⟩⟩⟩
theorem TolK.snoc {H : Hp} {W : Nat} {bs : List Str} {b : Str} {ss : SS} {j : Nat} {cs : List (Addr × Nat × V)} {c : BB} {x : Addr × Nat × V} (g : TolK H W bs b ss j cs) (hj : cs4[j]? = some c)
    (h : H x.1 = some (.tup [.int (x.2.1 : Nat), x.2.2]) ∧ Lst bs (partL b c ss) x.2.1 ∧ (partL b c ss = [] → x.2.1 = 0) ∧ (partL b c ss ≠ [] → x.2.1 + 1 ≤ (partL b c ss).length ∧ PlanOk H W x.2.2 (partL b c ss) x.2.1)) : TolK H W bs b ss (j + 1) (cs ++ [x]) := by
  refine ⟨by rw [List.length_append, g.len]; rfl, fun i c' x' h1 h2 => ?_⟩
  by_cases e : i < cs.length
  · rw [List.getElem?_append_left e] at h2
    exact g.at_ i c' x' h1 h2
  · have hi := (List.getElem?_eq_some_iff.mp h2).1
    rw [List.length_append] at hi
    have e : i = cs.length := by
      have : [x].length = 1 := rfl
      omega
    subst e
    rw [List.getElem?_append_right (Nat.le_refl _), Nat.sub_self] at h2
    cases h2
    rw [g.len, hj] at h1
    cases h1
    exact h
/-- the greatest of them -/
theorem TolK.val {H : Hp} {W : Nat} {bs : List Str} {b : Str} {ss : SS} {cs : List (Addr × Nat × V)} (g : TolK H W bs b ss 4 cs) (h2 : 2 ≤ ss.length) (sp : Splits b ss) {m : Int} (hm : m ∈ cs.map fun x => (x.2.1 : Int)) (hx : ∀ y ∈ cs.map fun x => (x.2.1 : Int), y ≤ m) :
    ∃ (n : Nat) (f : BB → Nat), m = n ∧ (∀ c, Lst bs (partL b c ss) (f c)) ∧ (∀ c, f c ≤ n) ∧ (∃ c, f c = n) ∧ (∀ c, partL b c ss = [] → f c = 0) ∧ (∀ c, partL b c ss ≠ [] → ∃ pl, (cs.map (·.2.2))[ansB c]? = some pl ∧ PlanOk H W pl (partL b c ss) (f c)) ∧ n + 2 ≤ ss.length := by
  have ex : ∀ c, ∃ x, cs[ansB c]? = some x := fun c => ⟨_, List.getElem?_eq_getElem (by rw [g.len]; exact ans_lt c)⟩
  have fe : ∀ c x, cs[ansB c]? = some x → ((cs[ansB c]?).map (·.2.1)).getD 0 = x.2.1 := fun c x h => by rw [h]; rfl
  obtain ⟨x0, hx0, rfl⟩ := List.mem_map.mp hm
  obtain ⟨i, hi⟩ := List.mem_iff_getElem?.mp hx0
  have il : i < 4 := by
    have := (List.getElem?_eq_some_iff.mp hi).1
    rwa [g.len] at this
  obtain ⟨c0, hc0⟩ : ∃ c, cs4[i]? = some c := ⟨_, List.getElem?_eq_getElem il⟩
  have ei := cs4_ix hc0
  rw [ei] at hi
  refine ⟨x0.2.1, fun c => ((cs[ansB c]?).map (·.2.1)).getD 0, rfl, fun c => ?_, fun c => ?_, ⟨c0, fe c0 x0 hi⟩, fun c e => ?_, fun c ne => ?_, ?_⟩
  · obtain ⟨x, hx'⟩ := ex c
    show Lst bs (partL b c ss) (((cs[ansB c]?).map (·.2.1)).getD 0)
    rw [fe c x hx']
    exact (g.at_ _ c x (cs4_at c) hx').2.1
  · obtain ⟨x, hx'⟩ := ex c
    show ((cs[ansB c]?).map (·.2.1)).getD 0 ≤ _
    rw [fe c x hx']
    have := hx _ (List.mem_map.mpr ⟨x, List.mem_of_getElem? hx', rfl⟩)
    omega
  · obtain ⟨x, hx'⟩ := ex c
    show ((cs[ansB c]?).map (·.2.1)).getD 0 = 0
    rw [fe c x hx']
    exact (g.at_ _ c x (cs4_at c) hx').2.2.1 e
  · obtain ⟨x, hx'⟩ := ex c
    refine ⟨x.2.2, by rw [List.getElem?_map, hx']; rfl, ?_⟩
    show PlanOk H W _ _ (((cs[ansB c]?).map (·.2.1)).getD 0)
    rw [fe c x hx']
    exact ((g.at_ _ c x (cs4_at c) hx').2.2.2 ne).2
  · obtain ⟨_, _, a3, a4⟩ := g.at_ _ c0 x0 (cs4_at c0) hi
    by_cases e : partL b c0 ss = []
    · rw [a3 e]
      omega
    · have := (a4 e).1
      have := part_lt sp c0
      omega
theorem sought_of (T : Txt P w K mg base) {j n : Nat} (h3 : 3 ≤ j) (hB : CalX CX0 P w K mg base j "best_plan" (spBest P w K n)) : CalX CX0 P w K mg base (j + 1) "sought_plan" (spSought P w K (n + 1)) := by
  obtain ⟨fd, F⟩ := T.t.def_ 12 (d := d_sought_plan)
  refine ⟨_, fd, _, F.ok sc_sought_plan (fun vs H Q E h => ?_) (fun cdv A outer s H vs Q E hr h => ?_), He.glo_ok T.X T.G (T.t.fact 12), F.kp, F.bindsN fun _ _ _ _ _ _ us hl => match us, hl with | [_, _, _], _ => rfl⟩
  · obtain ⟨pB, pS, pK, bs, zs, kvs, W, all, rfl, _⟩ := h
    rfl
  · obtain ⟨pB, pS, pK, bs, zs, kvs, W, all, rfl, pb, z2, zn, k⟩ := h
    refine ⟨_, PSs.nox (pss_cons (ps_set (i := 3) sc_sought_plan.nd rfl (Or.inl rfl) pe_non)
    (pss_cons (ps_for PassesOwn.never rfl (pi_list (pv 0)) (pg_name (i := 4) sc_sought_plan.nd rfl (Or.inl rfl))
      (pss_cons (ps_set (i := 5) sc_sought_plan.nd rfl (Or.inl rfl) (pe_cx (c_parted T) hr (by omega) rfl pass0 (pa_cons (pv 1) (pa_cons (pv 4) pa_nil))))
      (pss_cons (ps_if (pt_cmpR (op_inD hr.u65) (pv 1) (pv 5) rfl)
        (pss_one ps_continue)
        pss_nil)
      (pss_cons (ps_setLc (i := 6) (own := [("part", 8)]) (g := gName 8) rfl sc_sought_plan.nd rfl rfl (sw_true rfl rfl rfl (by decide +kernel)) (pi_list (pv 5)) (blkOk_by (N := ["beginnings", "sets", "known", "best", "beginning", "parts", "told", "looks", "part", "row"]) (sc := defScope s_sought_plan) (own := [("part", 8)]) (by decide +kernel)) (fun _ _ _ _ _ => pg_name (i := 8) sc_sought_plan.nd rfl (Or.inl rfl)) (fun _ _ _ _ _ => pts_nil) (fun _ _ _ _ _ => by exact (pe_ifExp (pt_truthK (K := K) rfl (pv 8) (fun _ => rfl)) (pe_cx hB hr (by omega) rfl pass0 (pa_cons (pv 0) (pa_cons (pv 8) (pa_cons (pv 2) pa_nil)))) (pe_tup (pa_cons pe_int (pa_cons pe_non pa_nil))))))
      (pss_cons (ps_set (i := 7) sc_sought_plan.nd rfl (Or.inl rfl) (pe_op op_add pe_int (pe_callB (cr_max rfl) (by rfl) (n_max T) (by decide +kernel) (pa_cons (pe_lc (own := [("row", 9)]) (g := gName 9) rfl sc_sought_plan.nd (pi_list (pv 6)) (blkOk_by (N := ["beginnings", "sets", "known", "best", "beginning", "parts", "told", "looks", "part", "row"]) (sc := defScope s_sought_plan) (own := [("row", 9)]) (by decide +kernel)) (fun _ _ _ _ _ => pg_name (i := 9) sc_sought_plan.nd rfl (Or.inl rfl)) (fun _ _ _ _ _ => pts_nil) (fun _ _ _ _ _ => by exact (pe_ix (ix_seqK (K := K) rfl) (pv 9) pe_int (fun _ _ => rfl)))) pa_nil))))
      (pss_one (ps_if (PW.pt (pw_or (pt_cmpR op_isN (pv 3) pe_non (nomark _)) (pw_or1 (pt_cmpR op_lt (pv 7) (pe_ix ix_tup (pv 3) pe_int (fun _ _ => rfl)) (nomark _)))))
        (pss_one (ps_set (i := 3) sc_sought_plan.nd rfl (Or.inl rfl) (pe_tup (pa_cons (pv 7) (pa_cons (pe_tup (pa_cons pe_str (pa_cons (pv 4) (pa_cons (pe_tupleOf rfl (n_tuple T) (pe_lc (own := [("row", 9)]) (g := gName 9) rfl sc_sought_plan.nd (pi_list (pv 6)) (blkOk_by (N := ["beginnings", "sets", "known", "best", "beginning", "parts", "told", "looks", "part", "row"]) (sc := defScope s_sought_plan) (own := [("row", 9)]) (by decide +kernel)) (fun _ _ _ _ _ => pg_name (i := 9) sc_sought_plan.nd rfl (Or.inl rfl)) (fun _ _ _ _ _ => pts_nil) (fun _ _ _ _ _ => by exact (pe_ix (ix_seqK (K := K) rfl) (pv 9) pe_int (fun _ _ => rfl))))) pa_nil)))) pa_nil)))))
        pss_nil)))))))
    (pss_one (ps_ret (pv 3))))), ?_⟩
    have zl : zs.length ≤ 16 := by
      have := pb.sub.length_le
      rw [List.length_map] at this
      exact Nat.le_trans this pb.al
    have snd : (zs.map (·.2)).Nodup := pb.sub.nodup pb.an
    have sne : zs.map (·.2) ≠ [] := fun e => by
      have := congrArg List.length e
      rw [List.length_map] at this
      have : ([] : SS).length = 0 := rfl
      omega
    have sl2 : 2 ≤ (zs.map (·.2)).length := by rw [List.length_map]; exact z2
    refine ⟨_, rfl, pB, rfl, ⟨_, SqL.of pb.bsA⟩, for_list (K := K) (a := pB) (xs := bs.map V.str) (fun i σ H' => ∃ (bv : V) (v4 v5 v6 v7 v8 v9 : Option V) (kvs' : List NE), σ = [some (.ref pB), some (.ref pS), some (.ref pK), some bv, v4, v5, v6, v7, v8, v9] ∧ PlB P w K H' pB pS pK bs zs kvs' W all ∧ BestAt H' W bs (zs.map (·.2)) i bv ∧ FrT K [pK] H H')
      ⟨_, _, _, _, _, _, _, kvs, rfl, pb, .inl ⟨rfl, by simp⟩, FrT.refl _ _ _⟩ (fun i σ H' _ ⟨_, _, _, _, _, _, _, _, _, q, _⟩ => SqL.of q.bsA) ?_ ?_⟩
    · rintro i y σ H1 hi ⟨bv, v4, v5, v6, v7, v8, v9, kv1, rfl, p1, ba1, f1⟩
      obtain ⟨b, hbi, rfl⟩ := at_map hi
      have hbm := List.mem_of_getElem? hbi
      have hb12 : b.cps.toList.length ≤ 100 := by have := p1.bw b hbm; have := p1.wl; omega
      refine ⟨_, rfl, _, rfl, pS, b, zs, rfl, p1.sz, by omega, hb12, p1.ht, fun q us H2 hq pz eus un f2 => ?_⟩
      have p2 := p1.lay f2
      have ba2 := ba1.keep (frt_tup f2)
      have uz : ∀ u ∈ us, ∀ z ∈ u.2, z ∈ zs := fun u hu z hz => by
        have : u.2 ∈ us.map (·.2) := List.mem_map.mpr ⟨u, hu, rfl⟩
        rw [eus] at this
        obtain ⟨c, _, e⟩ := List.mem_map.mp this
        rw [← e] at hz
        exact (List.mem_filter.mp hz).1
      have oks : ∀ z ∈ zs, ∀ x ∈ z.2, PyData.strOk x = true := fun z hz x hx => strOk_num (pb.tx _ (pb.sub.subset (List.mem_map.mpr ⟨z, hz, rfl⟩)) x hx)
      refine ⟨_, rfl, _, rfl, ssD (zs.map (·.2)), (us.map fun u => u.2.map (·.2)).map ssD, dp_ssD (u := (pS, zs)) p2.sz.1 p2.sz.2, .lst (SqL.of pz.at_) (dp_sss fun u hu => ⟨pz.ls u hu, fun z hz => p2.sz.2 z (uz u hu z hz)⟩), ?_, ?_, _, rfl, ?_⟩
      · exact shaped_ssD fun s hs x hx => by
          obtain ⟨z, hz, rfl⟩ := List.mem_map.mp hs
          exact oks z hz x hx
      · exact shaped_sss fun p hp s hs x hx => by
          obtain ⟨u, hu, rfl⟩ := List.mem_map.mp hp
          obtain ⟨z, hz, rfl⟩ := List.mem_map.mp hs
          exact oks z (uz u hu z hz) x hx
      rw [any_ssD]
      have epart : (us.map fun u => u.2.map (·.2)) = cs4.map fun c => partL b c (zs.map (·.2)) := by
        have : (us.map fun u => u.2.map (·.2)) = (us.map (·.2)).map fun l => l.map (·.2) := by rw [List.map_map]; rfl
        rw [this, eus, List.map_map]
        exact List.map_congr_left fun c _ => partZ_snd
      have spl : zs.map (·.2) ∈ (us.map fun u => u.2.map (·.2)) ↔ ¬ Splits b (zs.map (·.2)) := by
        rw [epart, ← part_ss sne]
        constructor
        · intro h
          obtain ⟨c, _, e⟩ := List.mem_map.mp h
          exact ⟨c, e⟩
        · rintro ⟨c, e⟩
          exact List.mem_map.mpr ⟨c, cs4_mem c, e⟩
      refine iteB (fun c => ?_) (fun c => ?_)
      · have ns := spl.mp (of_decide_eq_true c)
        refine ⟨bv, _, _, _, _, _, _, kv1, rfl, p2, ?_, f1.trans (f2.mono (by simp))⟩
        rcases ba2 with ⟨e, g⟩ | ⟨t, pl, v, g1, g2, g3, g4, g5, g6⟩
        · refine .inl ⟨e, fun b' hb' => ?_⟩
          rw [take_snoc hbi] at hb'
          rcases List.mem_append.mp hb' with z | z
          · exact g b' z
          · rw [List.mem_singleton.mp z]
            exact ns
        · refine .inr ⟨t, pl, v, g1, g2, g3, fun b' hb' => ?_, g5, g6⟩
          rw [take_snoc hbi] at hb'
          rcases List.mem_append.mp hb' with z | z
          · exact g4 b' z
          · rw [List.mem_singleton.mp z]
            exact fun y => absurd y ns
      have sp : Splits b (zs.map (·.2)) := Classical.byContradiction fun z => of_decide_eq_false c (spl.mpr z)
      clear spl c
      -- what is told of the parts
      refine ⟨_, rfl, q, rfl, ⟨_, SqL.of pz.at_⟩, fun D hD => ?_⟩
      have nDK : D ≠ pK := Ne.symm (ne_of_none p2.nd.at_ hD)
      have keepL : ∀ {H' : Hp} {kv' : List NE} {xs ys : List V}, FrT K [pK] H2 H' → H' D = some (.lst xs) → NDt P w H' pK kv' → KnOk H' W bs all kv' → FrT K [pK] H2 (upd H' D (.lst ys)) ∧ NDt P w (upd H' D (.lst ys)) pK kv' ∧ KnOk (upd H' D (.lst ys)) W bs all kv' := fun f e n k => by
        refine ⟨f.putM hD e, n.keep ?_ (lst_tup e), k.keep (lst_tup e)⟩
        rw [upd_ne (Ne.symm nDK)]
        exact n.at_
      have g0 : FrT K [] H2 (upd H2 D (.lst [])) := (Frm.of (same_upd hD)).toT .nil
      refine lc_list (K := K) (a := q) (xs := us.map fun u => V.ref u.1) (fun j H' => ∃ (cs : List (Addr × Nat × V)) (kv' : List NE), H' D = some (.lst (cs.map fun c => V.ref c.1)) ∧ TolK H' W bs b (zs.map (·.2)) j cs ∧ FrT K [pK] H2 H' ∧ NDt P w H' pK kv' ∧ KnOk H' W bs all kv')
        ⟨[], kv1, upd_same, ⟨rfl, by simp⟩, g0.mono (by simp), p2.nd.keep (g0.k _ _ p2.nd.at_ rfl (by simp)) (frt_tup g0), p2.kn.keep (frt_tup g0)⟩ (fun j H' _ ⟨_, _, _, _, f, _, _⟩ => SqL.of (frd_lst p2.nd f pz.at_)) ?_ ?_
      · rintro j y H3 hj ⟨cs, kv3, e3, tk3, f3, n3, k3⟩
        have p3 := p2.step f3 n3 k3
        have up4 : us.length = 4 := by
          have := congrArg List.length eus
          rwa [List.length_map, List.length_map] at this
        obtain ⟨u, hu, rfl⟩ : ∃ u, us[j]? = some u ∧ y = V.ref u.1 := by
          rw [List.getElem?_map] at hj
          obtain ⟨u, a1, a2⟩ := Option.map_eq_some_iff.mp hj
          exact ⟨u, a1, a2.symm⟩
        have hum := List.mem_of_getElem? hu
        have jl := (List.getElem?_eq_some_iff.mp hu).1
        obtain ⟨c, hc⟩ : ∃ c, cs4[j]? = some c := ⟨_, List.getElem?_eq_getElem (by show j < 4; omega)⟩
        have eu2 : u.2 = partZ b c zs := by
          have a1 : (us.map (·.2))[j]? = some u.2 := by rw [List.getElem?_map, hu]; rfl
          rw [eus, List.getElem?_map, hc] at a1
          exact (Option.some.inj a1).symm
        have eps : u.2.map (·.2) = partL b c (zs.map (·.2)) := by rw [eu2, partZ_snd]
        have lc4 : cs.length < 1000 := by have := tk3.len; omega
        have eu3 := frd_lst p2.nd f3 (pz.ls u hum)
        refine ⟨rfl, _, rfl, _, .inl ⟨_, SqL.of eu3, rfl⟩, iteB (fun ne => ?_) (fun ne => ?_)⟩
        · -- some of them
          have l1 : 1 ≤ u.2.length := by
            cases e : u.2 with
            | nil => rw [e] at ne; cases ne
            | cons z r => rw [List.length_cons]; omega
          have l2 : u.2.length ≤ n := by
            have := part_lt sp c
            rw [← eps, List.length_map, List.length_map] at this
            omega
          have su : (u.2.map (·.2)).Sublist all := by
            rw [eps]
            exact (List.filter_sublist).trans pb.sub
          have p4 : PlB P w K H3 pB u.1 pK bs u.2 kv3 W all := { p3 with sz := ⟨eu3, fun z hz => p3.sz.2 z (uz u hum z hz)⟩, sub := su }
          refine ⟨_, rfl, _, rfl, _, rfl, pB, u.1, pK, bs, u.2, kv3, W, all, rfl, p4, l1, l2, fun v kv4 H4 gd nd4 kn4 f4 => ?_⟩
          rw [eps] at gd
          obtain ⟨t, pl, nn, rfl, et, lst, ln, pok⟩ := gd
          have e4 := frd_lst p3.nd f4 e3
          have f24 := f3.trans f4
          obtain ⟨q1, q2, q3⟩ := keepL (ys := (cs.map fun c => V.ref c.1) ++ [.ref t]) f24 e4 nd4 kn4
          have up := lst_tup (o := .lst ((cs.map fun c => V.ref c.1) ++ [.ref t])) e4
          refine ⟨_, e4, by rw [List.length_map]; exact small1000 (by omega), cs ++ [(t, nn, pl)], kv4, by rw [upd_same, List.map_append]; rfl, ?_, q1, q2, q3⟩
          refine ((tk3.keep (frd_tup p3.nd f4)).snoc hc ⟨et, lst, fun e => ?_, fun _ => ⟨ln, pok⟩⟩).keep up
          rw [e] at ln
          exact absurd ln (by simp)
        · -- none
          have e0 : partL b c (zs.map (·.2)) = [] := by
            rw [← eps]
            cases e : u.2 with
            | nil => rfl
            | cons z r => rw [e] at ne; cases ne
          refine ⟨by show 2 ≤ sizeLine; decide, fun t ht => ?_⟩
          refine new_to ht fun H4 g4 u4 => ?_
          have f4 : FrT K [] H3 H4 := g4.toT .nil
          have e4 := f4.k _ _ e3 rfl (by simp)
          have f24 := f3.trans (f4.mono (by simp) : FrT K [pK] H3 H4)
          obtain ⟨q1, q2, q3⟩ := keepL (ys := (cs.map fun c => V.ref c.1) ++ [.ref t]) f24 e4 (n3.keep (f4.k _ _ n3.at_ rfl (by simp)) (frt_tup f4)) (k3.keep (frt_tup f4))
          have up := lst_tup (o := .lst ((cs.map fun c => V.ref c.1) ++ [.ref t])) e4
          refine ⟨_, e4, by rw [List.length_map]; exact small1000 (by omega), cs ++ [(t, 0, V.non)], kv3, by rw [upd_same, List.map_append]; rfl, ?_, q1, q2, q3⟩
          exact ((tk3.keep (frt_tup f4)).snoc hc ⟨u4, by rw [e0]; exact Lst.one (by simp), fun _ => rfl, fun z => absurd e0 z⟩).keep up
      rintro H3 ⟨cs, kv3, e3, tk3, f3, n3, k3⟩
      have up4 : us.length = 4 := by
        have := congrArg List.length eus
        rwa [List.length_map, List.length_map] at this
      rw [List.length_map, up4] at tk3
      have p3 := p2.step f3 n3 k3
      have ba3 := ba2.keep (frd_tup p2.nd f3)
      have f03 := (f1.trans (f2.mono (by simp))).trans f3
      clear keepL g0 nDK f3 hD pz ba2 p2 ba1 p1 un
      have cl4 : cs.length = 4 := tk3.len
      -- the looks
      refine ⟨_, rfl, D, rfl, ⟨_, SqL.of e3⟩, fun D2 hD2 => ?_⟩
      have ec : ∀ x ∈ cs, H3 x.1 = some (.tup [.int (x.2.1 : Nat), x.2.2]) := fun x hx => by
        obtain ⟨i, hi⟩ := List.mem_iff_getElem?.mp hx
        obtain ⟨c, hc⟩ : ∃ c, cs4[i]? = some c := ⟨_, List.getElem?_eq_getElem (by have := (List.getElem?_eq_some_iff.mp hi).1; show i < 4; omega)⟩
        exact (tk3.at_ i c x hc hi).1
      refine lc_list (K := K) (a := D) (xs := cs.map fun c => V.ref c.1) (fun j H' => H' D2 = some (.lst ((cs.take j).map fun x => V.int (x.2.1 : Nat))) ∧ Frm [] H3 H')
        ⟨upd_same, Frm.of (same_upd hD2)⟩ (fun j H' _ ⟨_, f⟩ => SqL.of (f.k _ _ e3 rfl (by simp))) ?_ ?_
      · rintro j y H4 hj ⟨e4, f4⟩
        obtain ⟨x, hx, rfl⟩ : ∃ x, cs[j]? = some x ∧ y = V.ref x.1 := by
          rw [List.getElem?_map] at hj
          obtain ⟨u, a1, a2⟩ := Option.map_eq_some_iff.mp hj
          exact ⟨u, a1, a2.symm⟩
        refine ⟨rfl, _, rfl, .inr (.inl ⟨x.1, _, 0, _, rfl, rfl, SqT.of (f4.k _ _ (ec x (List.mem_of_getElem? hx)) rfl (by simp)), rfl, _, e4, ?_, ?_, f4.new hD2⟩)⟩
        · rw [List.length_map, List.length_take]
          exact small1000 (by omega)
        · rw [upd_same, take_snoc hx, List.map_append]
          rfl
      rintro H4 ⟨e4, f4⟩
      rw [List.length_map, List.take_length] at e4
      have e4' : H4 D2 = some (.lst ((cs.map fun x => (x.2.1 : Int)).map V.int)) := by rw [e4, List.map_map]; rfl
      refine ⟨D2, _, rfl, SqL.of e4', by rw [List.length_map]; omega, fun m hm hx => ⟨_, _, rfl, rfl, ?_⟩⟩
      obtain ⟨nn, f, rfl, v1, v2, v3, v4', v5, v6⟩ := tk3.val sl2 sp hm hx
      have ft : FrT K [] H3 H4 := f4.toT .nil
      have p4 := p3.lay ft
      have ba4 := ba3.keep (frt_tup ft)
      have f04 := f03.trans (ft.mono (by simp) : FrT K [pK] H3 H4)
      have e34 := ft.k _ _ e3 rfl (by simp)
      have ec4 : ∀ x ∈ cs, H4 x.1 = some (.tup [.int (x.2.1 : Nat), x.2.2]) := fun x hx => frt_tup ft _ _ (ec x hx)
      have tk4 := tk3.keep (frt_tup ft)
      have vb : ValB bs b (zs.map (·.2)) nn := ⟨f, v1, v2, v3⟩
      clear ba3 p3 tk3 ec e3 f03 hm hx e4 e4' f4
      rcases ba4 with ⟨rfl, g⟩ | ⟨t, pl0, v0, rfl, g2, g3, g4, g5, g6⟩
      · have hle : ∀ b' ∈ bs.take i, Splits b' (zs.map (·.2)) → ∃ m, ValB bs b' (zs.map (·.2)) m ∧ nn + 1 ≤ m + 1 := fun b' hb' s' => absurd s' (g b' hb')
        refine ⟨_, rfl, rfl, _, rfl, iteT (iteT ?_)⟩
        refine ⟨_, rfl, _, rfl, _, rfl, D, rfl, ⟨_, SqL.of e34⟩, fun D3 hD3 => ?_⟩
        refine lc_list (K := K) (a := D) (xs := cs.map fun c => V.ref c.1) (fun j H' => H' D3 = some (.lst ((cs.take j).map (·.2.2))) ∧ Frm [] H4 H')
          ⟨upd_same, Frm.of (same_upd hD3)⟩ (fun j H' _ ⟨_, f⟩ => SqL.of (f.k _ _ e34 rfl (by simp))) ?_ ?_
        · rintro j y H5 hj ⟨e5, f5⟩
          obtain ⟨x, hx, rfl⟩ : ∃ x, cs[j]? = some x ∧ y = V.ref x.1 := by
            rw [List.getElem?_map] at hj
            obtain ⟨u, a1, a2⟩ := Option.map_eq_some_iff.mp hj
            exact ⟨u, a1, a2.symm⟩
          refine ⟨rfl, _, rfl, .inr (.inl ⟨x.1, _, 1, _, rfl, rfl, SqT.of (f5.k _ _ (ec4 x (List.mem_of_getElem? hx)) rfl (by simp)), rfl, _, e5, ?_, ?_, f5.new hD3⟩)⟩
          · rw [List.length_map, List.length_take]
            exact small1000 (by omega)
          · rw [upd_same, take_snoc hx, List.map_append]
            rfl
        rintro H5 ⟨e5, f5⟩
        rw [List.length_map, List.take_length] at e5
        refine .inl ⟨D3, _, rfl, SqL.of e5, fun q3 hq3 => ?_⟩
        refine new_to hq3 fun H6 g6 u6 => ⟨by show 3 ≤ sizeLine; decide, fun q4 hq4 => ?_⟩
        refine new_to hq4 fun H7 g7 u7 => ⟨by show 2 ≤ sizeLine; decide, fun q5 hq5 => ?_⟩
        refine new_to hq5 fun H8 g8 u8 => ?_
        have f8 : FrT K [] H4 H8 := (f5.trans (g6.trans (g7.trans g8))).toT .nil
        have u8' : H8 q5 = some (.tup [.int ((nn + 1 : Nat) : Int), .ref q4]) := by
          rw [show ((nn + 1 : Nat) : Int) = 1 + (nn : Int) by omega]
          exact u8
        have pl : PlanOk H8 W (.ref q4) (zs.map (·.2)) (nn + 1) := plan_look (g8.k _ _ u7 rfl (by simp)) (p4.bw b hbm) ((g7.trans g8).k _ _ u6 rfl (by simp)) (by rw [List.length_map]; exact cl4) sne
          (fun c ne => let ⟨pl, a1, a2⟩ := v5 c ne; ⟨pl, a1, (a2.keep (frt_tup ft)).keep (frt_tup f8)⟩) v4' v2 v3
        refine ⟨.ref q5, _, _, _, _, _, _, kv3, rfl, p4.lay f8, .inr ⟨q5, .ref q4, nn + 1, rfl, u8', ⟨b, hbm, nn, vb, rfl⟩, fun b' hb' s' => ?_, by omega, pl⟩, f04.trans (f8.mono (by simp) : FrT K [pK] H4 H8)⟩
        rw [take_snoc hbi] at hb'
        rcases List.mem_append.mp hb' with z | z
        · exact hle b' z s'
        · rw [List.mem_singleton.mp z]
          exact ⟨nn, vb, Nat.le_refl _⟩
      · refine ⟨_, rfl, rfl, _, rfl, iteF ⟨_, rfl, _, rfl, t, _, 0, _, rfl, rfl, SqT.of g2, rfl, _, _, rfl, rfl, _, rfl, iteB (fun c => ?_) (fun c => ?_)⟩⟩
        have c := of_decide_eq_true c
        have hle : ∀ b' ∈ bs.take i, Splits b' (zs.map (·.2)) → ∃ m, ValB bs b' (zs.map (·.2)) m ∧ nn + 1 ≤ m + 1 := fun b' hb' s' => let ⟨m, a1, a2⟩ := g4 b' hb' s'; ⟨m, a1, by omega⟩
        refine ⟨_, rfl, _, rfl, _, rfl, D, rfl, ⟨_, SqL.of e34⟩, fun D3 hD3 => ?_⟩
        refine lc_list (K := K) (a := D) (xs := cs.map fun c => V.ref c.1) (fun j H' => H' D3 = some (.lst ((cs.take j).map (·.2.2))) ∧ Frm [] H4 H')
          ⟨upd_same, Frm.of (same_upd hD3)⟩ (fun j H' _ ⟨_, f⟩ => SqL.of (f.k _ _ e34 rfl (by simp))) ?_ ?_
        · rintro j y H5 hj ⟨e5, f5⟩
          obtain ⟨x, hx, rfl⟩ : ∃ x, cs[j]? = some x ∧ y = V.ref x.1 := by
            rw [List.getElem?_map] at hj
            obtain ⟨u, a1, a2⟩ := Option.map_eq_some_iff.mp hj
            exact ⟨u, a1, a2.symm⟩
          refine ⟨rfl, _, rfl, .inr (.inl ⟨x.1, _, 1, _, rfl, rfl, SqT.of (f5.k _ _ (ec4 x (List.mem_of_getElem? hx)) rfl (by simp)), rfl, _, e5, ?_, ?_, f5.new hD3⟩)⟩
          · rw [List.length_map, List.length_take]
            exact small1000 (by omega)
          · rw [upd_same, take_snoc hx, List.map_append]
            rfl
        rintro H5 ⟨e5, f5⟩
        rw [List.length_map, List.take_length] at e5
        refine .inl ⟨D3, _, rfl, SqL.of e5, fun q3 hq3 => ?_⟩
        refine new_to hq3 fun H6 g6 u6 => ⟨by show 3 ≤ sizeLine; decide, fun q4 hq4 => ?_⟩
        refine new_to hq4 fun H7 g7 u7 => ⟨by show 2 ≤ sizeLine; decide, fun q5 hq5 => ?_⟩
        refine new_to hq5 fun H8 g8 u8 => ?_
        have f8 : FrT K [] H4 H8 := (f5.trans (g6.trans (g7.trans g8))).toT .nil
        have u8' : H8 q5 = some (.tup [.int ((nn + 1 : Nat) : Int), .ref q4]) := by
          rw [show ((nn + 1 : Nat) : Int) = 1 + (nn : Int) by omega]
          exact u8
        have pl : PlanOk H8 W (.ref q4) (zs.map (·.2)) (nn + 1) := plan_look (g8.k _ _ u7 rfl (by simp)) (p4.bw b hbm) ((g7.trans g8).k _ _ u6 rfl (by simp)) (by rw [List.length_map]; exact cl4) sne
          (fun c ne => let ⟨pl, a1, a2⟩ := v5 c ne; ⟨pl, a1, (a2.keep (frt_tup ft)).keep (frt_tup f8)⟩) v4' v2 v3
        refine ⟨.ref q5, _, _, _, _, _, _, kv3, rfl, p4.lay f8, .inr ⟨q5, .ref q4, nn + 1, rfl, u8', ⟨b, hbm, nn, vb, rfl⟩, fun b' hb' s' => ?_, by omega, pl⟩, f04.trans (f8.mono (by simp) : FrT K [pK] H4 H8)⟩
        rw [take_snoc hbi] at hb'
        rcases List.mem_append.mp hb' with z | z
        · exact hle b' z s'
        · rw [List.mem_singleton.mp z]
          exact ⟨nn, vb, Nat.le_refl _⟩
        have c := of_decide_eq_false c
        refine ⟨.ref t, _, _, _, _, _, _, kv3, rfl, p4, .inr ⟨t, pl0, v0, rfl, g2, g3, fun b' hb' s' => ?_, g5, g6⟩, f04⟩
        rw [take_snoc hbi] at hb'
        rcases List.mem_append.mp hb' with z | z
        · exact g4 b' z s'
        · rw [List.mem_singleton.mp z]
          exact ⟨nn, vb, by omega⟩
    · rintro σ H1 ⟨bv, v4, v5, v6, v7, v8, v9, kv1, rfl, p1, ba1, f1⟩
      rw [List.length_map] at ba1
      refine ⟨_, rfl, k bv kv1 H1 ?_ p1.nd p1.kn f1⟩
      rcases ba1 with ⟨_, g⟩ | ⟨t, pl, v, g1, g2, g3, g4, g5, g6⟩
      · obtain ⟨b, hb, z⟩ := p1.sep.splits (fun s hs => p1.sub.subset hs) snd sl2
        exact absurd z (g b (by rw [List.take_length]; exact hb))
      · rw [List.take_length] at g4
        exact ⟨t, pl, v, g1, g2, lst_best sl2 g3 g4, g5, g6⟩
end
end B

set_option Elab.async false
set_option linter.all false
set_option maxRecDepth 100000
set_option maxHeartbeats 4000000
namespace B
open PySem PySem.Spec PyProof.Rows L2
open SX (S)
/-! ### least refuses -/
section
variable {X : Cx}
theorem mkf_TooMany (T : Txt X.prog X.w X.K X.mg X.base) {e : Expr} {te : TE} {p pos : Pos} (he : PE X e te) (hg : Gl X "TooMany" := by rfl) (hs : starEach [e] X.env = (false, eval e X.env) :: starEach [] X.env := by rfl) : PMk X (.Call (.Name "TooMany" p) [e] [] pos) (fun σ H Q => te σ H fun _ H1 => Q (.ref (He.ga X.K "TooMany")) none H1) := by
  obtain ⟨a, b, c, d⟩ := He.exc_ok (T.t.fact 66 (f := .exc "TooMany"))
  exact SkE.pmk_own1 PySem.F.excBase_ValueError a (g_TooMany T) b (raises_own c d) hg he hs
end
section
variable {P : Program} {w : World} {K : PySem.W.Frag} {mg : Str → Option Value} {base : Heap}
def RefE (K : PySem.W.Frag) (c : Str) (H : Hp) (E : XK) : Prop := ∀ H', FrT K [] H H' → E (.ref (He.ga K c)) none H'
def spLeastW (K : PySem.W.Frag) : Sp := fun vs H Q E => ∃ (W : Nat) (p q : Addr) (xs ys : List Str), vs = [.int W, .ref p, .ref q] ∧ H p = some (.lst (xs.map V.str)) ∧ (∀ x ∈ xs, Num W x) ∧ riseB xs = true ∧ 1 ≤ xs.length ∧ xs.length ≤ 8 ∧ H q = some (.lst (ys.map V.str)) ∧ (∀ y ∈ ys, y.length ≤ 1000000) ∧ ys.length ≤ 1000 ∧ 1 ≤ W ∧ W ≤ 12 ∧ Tb K H ∧
  (((ys.all (numB W) && riseB ys) = false ∧ RefE K "BadRoster" H E) ∨ ((ys.all (numB W) && riseB ys) = true ∧ ((∃ y ∈ ys, y ∉ xs) ∧ RefE K "BadRoster" H E ∨ (∀ y ∈ ys, y ∈ xs) ∧ 6 < xs.length ∧ RefE K "TooMany" H E)))
theorem word_TooMany (T : Txt P w K mg base) : WordC K (.ref (He.ga K "TooMany")) 11 "many" := by
  obtain ⟨a, b, c, d⟩ := He.exc_ok (T.t.fact 66 (f := .exc "TooMany"))
  exact word_of T (by decide) (by assumption) (He.exm_ok (T.t.fact 67)) (by decide) rfl rfl ⟨by decide +kernel, by decide +kernel⟩
end
end B

set_option Elab.async false
set_option linter.all false
set_option maxRecDepth 100000
set_option maxHeartbeats 4000000
namespace B
open PySem PySem.Spec PyProof.Rows L2
open SX (S)
/-! ### a roster's plan -/
theorem sets_nodupP {xs : List Str} (h : xs.Nodup) : (setsS xs).Nodup := by
  have go : ∀ (xs : List Str) (F : List (List Str)) (pre : List Str), F.Nodup → (∀ s ∈ F, ∀ x ∈ s, x ∈ pre) → (pre ++ xs).Nodup → (xs.foldl (fun F x => F ++ F.map (· ++ [x])) F).Nodup := by
    intro xs
    induction xs with
    | nil => exact fun F pre h _ _ => h
    | cons x r ih =>
      intro F pre h1 h2 h3
      rw [List.foldl_cons]
      have e : pre ++ x :: r = (pre ++ [x]) ++ r := by simp
      rw [e] at h3
      have hx : x ∉ pre := fun z => by
        have := (List.nodup_append.mp (List.nodup_append.mp h3).1).2.2 x z x (by simp)
        exact this rfl
      refine ih _ (pre ++ [x]) ?_ (fun s hs y hy => ?_) h3
      · rw [List.nodup_append]
        refine ⟨h1, ?_, fun s hs t ht e => ?_⟩
        · rw [List.nodup_iff_pairwise_ne, List.pairwise_map]
          exact (List.nodup_iff_pairwise_ne.mp h1).imp fun {a b} n e => n (List.append_cancel_right e)
        · obtain ⟨u, _, rfl⟩ := List.mem_map.mp ht
          exact hx (h2 s hs x (by rw [e]; simp))
      · rcases List.mem_append.mp hs with c | c
        · exact List.mem_append_left _ (h2 s c y hy)
        · obtain ⟨t, ht, rfl⟩ := List.mem_map.mp c
          rcases List.mem_append.mp hy with d | d
          · exact List.mem_append_left _ (h2 t ht y d)
          · exact List.mem_append_right _ d
  exact go xs [[]] [] (by simp) (fun s hs x hx => by rw [List.mem_singleton.mp hs] at hx; cases hx) (by simpa using h)
section
variable {P : Program} {w : World} {K : PySem.W.Frag} {mg : Str → Option Value} {base : Heap}
theorem best_0 (T : Txt P w K mg base) : CalX CX0 P w K mg base 3 "best_plan" (spBest P w K 0) := by
  obtain ⟨fd, F⟩ := T.t.def_ 11 (d := d_best_plan)
  refine ⟨_, fd, _, F.ok sc_best_plan (fun vs H Q E h => ?_) (fun cdv A outer s H vs Q E hr h => ?_), He.glo_ok T.X T.G (T.t.fact 11), F.kp, F.bindsN fun _ _ _ _ _ _ us hl => match us, hl with | [_, _, _], _ => rfl⟩
  · obtain ⟨pB, pS, pK, bs, zs, kvs, W, all, rfl, _, z1, zn, _⟩ := h
    omega
  · obtain ⟨pB, pS, pK, bs, zs, kvs, W, all, rfl, _, z1, zn, _⟩ := h
    omega
theorem c_best (T : Txt P w K mg base) : ∀ n : Nat, CalX CX0 P w K mg base (3 + 2 * n) "best_plan" (spBest P w K n)
  | 0 => best_0 T
  | n + 1 => best_of T (sought_of T (Nat.le_add_right 3 (2 * n)) (c_best T n))
/-- the beginnings of all pairs tell apart -/
theorem sep_met {W : Nat} {xs ms : List Str} {all : SS} (hn : ∀ x ∈ xs, Num W x) (hr : riseB xs = true) (hm : MetL W xs ms) (w1 : 1 ≤ W) (ha : ∀ s ∈ all, s.Sublist xs) : Sep ms all := fun s hs t ht ne => by
  obtain ⟨b, hb, z⟩ := met_cov hn hr (ha t ht) hm w1 s (ha s hs) ne
  exact ⟨b, hb, z⟩
theorem tell_rep {all : SS} {ms ys : List Str} (h : ∀ b ∈ ms, ∃ y ∈ ys, sortF (all.map (lkS y)) = sortF (all.map (lkS b))) : ∀ b ∈ ms, ∃ b' ∈ ys, ∀ s ∈ all, ∀ t ∈ all, lkS b s = lkS b t ↔ lkS b' s = lkS b' t := fun b hb => by
  obtain ⟨y, hy, e⟩ := h b hb
  exact ⟨y, hy, fun s hs t ht => sort_same e.symm hs ht⟩
theorem Sep.rep {all : SS} {ms ys : List Str} (h : ∀ b ∈ ms, ∃ b' ∈ ys, ∀ s ∈ all, ∀ t ∈ all, lkS b s = lkS b t ↔ lkS b' s = lkS b' t) (sp : Sep ms all) : Sep ys all := fun s hs t ht ne => by
  obtain ⟨b, hb, z⟩ := sp s hs t ht ne
  obtain ⟨y, hy, e⟩ := h b hb
  exact ⟨y, hy, fun q => z ((e s hs t ht).mpr q)⟩
noncomputable def rosS (xs : List Str) : SS := (setsS xs).mergeSort leS2
def spPlanOf (K : PySem.W.Frag) : Sp := fun vs H Q _ => ∃ (W : Nat) (p : Addr) (xs : List Str), vs = [.int W, .ref p] ∧ H p = some (.lst (xs.map V.str)) ∧ (∀ x ∈ xs, Num W x) ∧ riseB xs = true ∧ 1 ≤ xs.length ∧ xs.length ≤ 4 ∧ 1 ≤ W ∧ W ≤ 12 ∧ Tb K H ∧
  ∀ (v : V) (ms : List Str) (H' : Hp), MetL W xs ms → GoodR H' W ms (rosS xs) v → FrT K [] H H' → Q v H'
theorem c_plan_of (T : Txt P w K mg base) : CalX CX0 P w K mg base 36 "plan_of" (spPlanOf K) := by
  obtain ⟨fd, F⟩ := T.t.def_ 9 (d := d_plan_of)
  refine ⟨_, fd, _, F.ok sc_plan_of (fun vs H Q E h => ?_) (fun cdv A outer s H vs Q E hr h => ?_), He.glo_ok T.X T.G (T.t.fact 9), F.kp, F.bindsN fun _ _ _ _ _ _ us hl => match us, hl with | [_, _], _ => rfl⟩
  · obtain ⟨W, p, xs, rfl, _⟩ := h
    rfl
  · obtain ⟨W, p, xs, rfl, hp, hn, hri, l1, l4, w1, w2, ht, k⟩ := h
    refine ⟨_, PSs.nox (pss_cons (ps_expr (pe_cx (c_require_width T) hr (by decide) rfl pass0 (pa_cons (pv 0) pa_nil)))
    (pss_cons (ps_expr (pe_cx (c_require_roster T) hr (by decide) rfl pass0 (pa_cons (pv 0) (pa_cons (pv 1) pa_nil))))
    (pss_cons (ps_if (pt_cmpR op_gt (pe_callB call_len_seq (by rfl) (n_len T) PySem.boot_len (pa_cons (pv 1) pa_nil)) (g_MOST_FOR_PLAN T) (nomark _))
      (pss_one ps_never)
      pss_nil)
    (pss_cons (ps_set (i := 2) sc_plan_of.nd rfl (Or.inl rfl) (pe_cx (c_sets_ofO T) hr (by decide) rfl pass0 (pa_cons (pv 1) pa_nil)))
    (pss_one (ps_ret (pe_cx (c_best T 16) hr (by decide) rfl pass0 (pa_cons (pe_cx (c_telling T) hr (by decide) rfl pass0 (pa_cons (pe_cx (c_met T) hr (by decide) rfl pass0 (pa_cons (pv 0) (pa_cons (pv 1) pa_nil))) (pa_cons (pv 2) pa_nil))) (pa_cons (pv 2) (pa_cons pe_nnew pa_nil)))))))))), ?_⟩
    refine ⟨_, rfl, W, rfl, w1, w2, ?_⟩
    refine ⟨_, rfl, _, rfl, W, p, xs, rfl, hp, hn, hri, l1, by omega, w2, ht, fun H1 f1 => ?_⟩
    have p1 := f1.k _ _ hp rfl (by simp)
    refine ⟨_, rfl, p, _, rfl, .inl (SqL.of p1), (xs.length : Int), 4, by rw [List.length_map], rfl, _, rfl, ?_⟩
    rw [decide_eq_false (show ¬ (4 : Int) < (xs.length : Int) by omega)]
    refine ⟨_, rfl, p, xs, rfl, p1, by omega, fun pS zs H2 hpS sz ez zno f2 => ?_⟩
    have f02 := f1.trans (f2.toT (K := K) .nil)
    have p2 := f02.k _ _ hp rfl (by simp)
    have zl : zs.length = 2 ^ xs.length := by
      have := congrArg List.length ez
      rw [List.length_map, List.length_mergeSort, sets_len] at this
      exact this
    have zl1 : 1 ≤ zs.length := by rw [zl]; exact Nat.one_le_two_pow
    have zl2 : zs.length ≤ 16 := by rw [zl]; exact Nat.le_trans (Nat.pow_le_pow_right (by decide) l4) (by decide)
    have zmem : ∀ s, s ∈ rosS xs ↔ s.Sublist xs := fun s => by
      unfold rosS
      rw [List.mem_mergeSort, mem_sets]
    have xnd : xs.Nodup := by
      unfold riseB at hri
      exact of_decide_eq_true (He.ba hri).2
    have znd : (rosS xs).Nodup := (List.mergeSort_perm _ _).nodup_iff.mpr (sets_nodupP xnd)
    have ez : zs.map (·.2) = rosS xs := ez
    refine ⟨_, rfl, _, rfl, W, p, xs, rfl, p2, hn, w1, w2, by omega, f02.t ht, fun ms pB H3 hm hpB em f3 => ?_⟩
    have f03 := f02.trans f3
    have ml : ∀ b ∈ ms, b.cps.toList.length < W := fun b hb => by
      rcases (hm.mem b).mp hb with e | ⟨x, _, i, hi, e⟩
      · rw [e]
        show ("" : Str).cps.toList.length < W
        have : ("" : Str).cps.toList.length = 0 := by decide +kernel
        omega
      · rw [e, S_list, List.length_take]
        omega
    have ml2 : ms.length ≤ 100 := by
      have a2 := met_len hm
      have a3 : xs.length * W ≤ 4 * 12 := Nat.mul_le_mul l4 w2
      omega
    have sz3 : SZ H3 pS zs := ⟨f3.k _ _ sz.1 rfl (by simp), fun z hz => f3.k _ _ (sz.2 z hz) rfl (by simp)⟩
    refine ⟨_, rfl, pB, pS, zs, ms, W, rfl, sz3, by omega, em, ml, ml2, w2, f03.t ht, fun q ys H4 hq eq sub rep f4 => ?_⟩
    rw [ez] at rep
    have f04 := f03.trans f4
    have tr := tell_rep rep
    refine ⟨_, rfl, fun d hd => ?_⟩
    refine new_to hd fun H5 g5 u5 => ?_
    have f5 : FrT K [] H4 H5 := g5.toT .nil
    have f45 := f4.trans f5
    have f05 := f04.trans f5
    refine ⟨q, pS, d, ys, zs, [], W, rosS xs, rfl, { bsA := f5.k _ _ eq rfl (by simp), sz := ⟨f45.k _ _ sz3.1 rfl (by simp), fun z hz => f45.k _ _ (sz3.2 z hz) rfl (by simp)⟩, nd := .nil u5, kn := ⟨List.nodup_nil, by simp⟩, sub := by rw [ez]; exact List.Sublist.refl _, al := by rw [← ez, List.length_map]; exact zl2, an := znd, sep := Sep.rep tr (sep_met hn hri hm w1 fun s hs => (zmem s).mp hs), bw := fun b hb => ml b (sub.subset hb), bl := Nat.le_trans sub.length_le ml2, wl := w2, tl := fun s hs => Nat.le_trans ((zmem s).mp hs).length_le (by omega), tx := fun s hs x hx => hn x (((zmem s).mp hs).subset hx), ht := f05.t ht }, zl1, zl2, fun v kvs' H6 gd nd6 kn6 f6 => ?_⟩
    rw [ez] at gd
    obtain ⟨t, pl, n, e1, e2, e3, e4, e5⟩ := gd
    exact k v ms H6 hm ⟨t, pl, n, e1, e2, e3.rep tr (fun b hb => sub.subset hb) (fun s hs => hs), e4, e5⟩ (f05.fresh f6 (by simpa using f04.b _ hd))
def spPlanV (K : PySem.W.Frag) : Sp := fun vs H Q E => ∃ (W : Nat) (p : Addr) (xs : List Str), vs = [.int W, .ref p] ∧ H p = some (.lst (xs.map V.str)) ∧ (∀ x ∈ xs, Num W x) ∧ riseB xs = true ∧ 4 < xs.length ∧ xs.length ≤ 8 ∧ 1 ≤ W ∧ W ≤ 12 ∧ Tb K H ∧ RefE K "TooMany" H E
theorem c_plan_ofV (T : Txt P w K mg base) : CalX (L2.CX P w) P w K mg base 5 "plan_of" (spPlanV K) := by
  obtain ⟨fd, F⟩ := T.t.def_ 9 (d := d_plan_of)
  refine ⟨_, fd, _, F.ok sc_plan_of (fun vs H Q E h => ?_) (fun cdv A outer s H vs Q E hr h => ?_), He.glo_ok T.X T.G (T.t.fact 9), F.kp, F.bindsN fun _ _ _ _ _ _ us hl => match us, hl with | [_, _], _ => rfl⟩
  · obtain ⟨W, p, xs, rfl, _⟩ := h
    rfl
  · obtain ⟨W, p, xs, rfl, hp, hn, hri, l4, l8, w1, w2, ht, k⟩ := h
    refine ⟨_, (pss_cons (ps_expr (pe_cx (c_require_width T) hr (by decide) rfl pass0 (pa_cons (pv 0) pa_nil)))
    (pss_cons (ps_expr (pe_cx (c_require_roster T) hr (by decide) rfl pass0 (pa_cons (pv 0) (pa_cons (pv 1) pa_nil))))
    (pss_cons (ps_if (pt_cmpR op_gt (pe_callB call_len_seq (by rfl) (n_len T) PySem.boot_len (pa_cons (pv 1) pa_nil)) (g_MOST_FOR_PLAN T) (nomark _))
      (pss_one (ps_raise rfl (takes_of rfl rfl rfl rfl) (mkf_TooMany T (pe_joined (L2.PJ.cons pe_str (L2.PJ.cons (pe_fmt (g_MOST_FOR_PLAN T)) L2.PJ.nil))))))
      pss_nil)
    (pss_cons (ps_never)
    (pss_one (ps_never)))))), ?_⟩
    refine ⟨_, rfl, W, rfl, w1, w2, ?_⟩
    refine ⟨_, rfl, _, rfl, W, p, xs, rfl, hp, hn, hri, by omega, l8, w2, ht, fun H1 f1 => ?_⟩
    have p1 := f1.k _ _ hp rfl (by simp)
    refine ⟨_, rfl, p, _, rfl, .inl (SqL.of p1), (xs.length : Int), 4, by rw [List.length_map], rfl, _, rfl, ?_⟩
    rw [decide_eq_true (show (4 : Int) < (xs.length : Int) by omega)]
    refine ⟨_, rfl, by decide, .inr ⟨4, rfl, by decide, _, rfl, by decide, ?_⟩⟩
    exact k H1 f1
end
end B

set_option Elab.async false
set_option linter.all false
set_option maxRecDepth 100000
set_option maxHeartbeats 4000000
namespace B
open PySem PySem.Spec PyProof.Rows L2
open SX (S)
/-! ### the law's own reckoning of how few looks do -/
def selS (ss : SS) (ps : List Nat) : SS := ps.map fun i => ss.getD i []
/-- what all sets tell at a beginning: it, the list, what lies there -/
abbrev Tk := Str × Addr × List (Addr × BB)
structure ToldT (H : Hp) (pT : Addr) (od : Obj) (tks : List Tk) (ms : List Str) (ss : SS) : Prop where
  at_ : H pT = some (.frz od (.dK (tks.map fun t => ((Sum.inr t.1 : Key), V.ref t.2.1))))
  ms_ : tks.map (·.1) = ms
  nd : ms.Nodup
  tl : ∀ t ∈ tks, TldA H t.2.1 t.2.2 ∧ t.2.2.map (·.2) = ss.map (lkS t.1)
theorem ToldT.keep {H H' : Hp} {pT : Addr} {od : Obj} {tks : List Tk} {ms : List Str} {ss : SS} (h : ToldT H pT od tks ms ss) (f : Frm [] H H') : ToldT H' pT od tks ms ss :=
  ⟨f.k _ _ h.at_ rfl (by simp), h.ms_, h.nd, fun t ht => ⟨(h.tl t ht).1.keep f, (h.tl t ht).2⟩⟩
/-- what is known -/
structure KnW (ms : List Str) (ss : SS) (kvs : List NE) : Prop where
  nd : (kvs.map (·.1)).Nodup
  ok : ∀ p ∈ kvs, ∃ ps : List Nat, ps.Sublist (List.range ss.length) ∧ p.1 = keyN ps ∧ ∃ v : Nat, p.2.2 = .int v ∧ Lst ms (selS ss ps) v ∧ v + 1 ≤ ps.length
def spWorst (P : Program) (w : World) (n : Nat) : Sp := fun vs H Q _ => ∃ (pT pt pK : Addr) (od : Obj) (tks : List Tk) (ms : List Str) (ss : SS) (ps : List Nat) (kvs : List NE), vs = [.ref pT, .ref pt, .ref pK] ∧ ToldT H pT od tks ms ss ∧ H pt = some (.tup (ps.map fun n => V.int (n : Nat))) ∧ 1 ≤ ps.length ∧ ps.length ≤ n ∧ ps.Sublist (List.range ss.length) ∧ ss.length ≤ 16 ∧ ss.Nodup ∧ Sep ms ss ∧ ms.length ≤ 100 ∧ NDt P w H pK kvs ∧ KnW ms ss kvs ∧
  ∀ (v : Nat) (kvs' : List NE) (H' : Hp), Lst ms (selS ss ps) v → v + 1 ≤ ps.length → NDt P w H' pK kvs' → KnW ms ss kvs' → Frm [pK] H H' → Q (.int v) H'
theorem KnW.len {ms : List Str} {ss : SS} {kvs : List NE} (g : KnW ms ss kvs) (h : ss.length ≤ 16) : kvs.length ≤ 65536 := by
  have := nodup_leA g.nd (ys := (subsL (List.range ss.length)).map keyN) fun k hk => by
    obtain ⟨p, hp, rfl⟩ := List.mem_map.mp hk
    obtain ⟨ps, h1, h2, _⟩ := g.ok p hp
    exact List.mem_map.mpr ⟨ps, mem_subs h1, h2.symm⟩
  rw [List.length_map, List.length_map, subs_len, List.length_range] at this
  exact Nat.le_trans this (Nat.le_trans (Nat.pow_le_pow_right (by decide) h) (by decide))
theorem KnW.put {ms : List Str} {ss : SS} {ps : List Nat} {kvs : List NE} {a : Addr} {v : Nat} (g : KnW ms ss kvs) (hs : ps.Sublist (List.range ss.length)) (h1 : Lst ms (selS ss ps) v) (h2 : v + 1 ≤ ps.length) : KnW ms ss (nput kvs (keyN ps) a (.int v)) :=
  ⟨nput_keys g.nd, fun p hp => by
    rcases nput_mem hp with c | ⟨c1, c2⟩
    · exact g.ok p c
    · exact ⟨ps, hs, c1, v, c2, h1, h2⟩⟩
def keyB (c : BB) : NestedKey := .tup [.num (if c.1 = true then 1 else 0), .num (if c.2 = true then 1 else 0)]
theorem nk_bb {H : Hp} {t : Addr} {c : BB} (h : H t = some (.tup [.bl c.1, .bl c.2])) : NK H (keyB c) (.ref t) := .tup h (.cons (.bl rfl) (.cons (.bl rfl) .nil))
theorem keyB_inj {a b : BB} (h : keyB a = keyB b) : a = b := by
  obtain ⟨a1, a2⟩ := a
  obtain ⟨b1, b2⟩ := b
  cases a1 <;> cases a2 <;> cases b1 <;> cases b2 <;> first | rfl | (exfalso; revert h; decide)
theorem keyB_depth (c : BB) : (keyB c).depth ≤ 8 := by
  obtain ⟨a1, a2⟩ := c
  cases a1 <;> cases a2 <;> decide
theorem inj_of {α β : Type} {f : α → β} {l : List α} (h : (l.map f).Nodup) {a b : α} (ha : a ∈ l) (hb : b ∈ l) (e : f a = f b) : a = b := by
  obtain ⟨i, hi⟩ := List.mem_iff_getElem?.mp ha
  obtain ⟨j, hj⟩ := List.mem_iff_getElem?.mp hb
  have a1 : (l.map f)[i]? = some (f a) := by rw [List.getElem?_map, hi]; rfl
  have a2 : (l.map f)[j]? = some (f a) := by rw [List.getElem?_map, hj, e]; rfl
  have il := (List.getElem?_eq_some_iff.mp a1).1
  have := (List.getElem?_inj il h).mp (a1.trans a2.symm)
  rw [this, hj] at hi
  exact (Option.some.inj hi).symm
theorem valV_mem {kvs : List (Key × V)} (h : (kvs.map (·.1)).Nodup) {k : Key} {v : V} (hm : (k, v) ∈ kvs) : valV kvs k = some v := by
  induction kvs with
  | nil => cases hm
  | cons p r ih =>
    rw [List.map_cons, List.nodup_cons] at h
    rcases List.mem_cons.mp hm with e | e
    · rw [← e]
      exact valV_pos rfl
    · rw [valV_neg (fun z => h.1 (List.mem_map.mpr ⟨(k, v), e, z.symm⟩))]
      exact ih h.2 e
/-- a part: what is told, its key, its list, its places -/
abbrev Pw := BB × Addr × Addr × List Nat
structure PaW (H H0 : Hp) (g : Nat → BB) (done : List Nat) (pcs : List Pw) : Prop where
  ks : ∀ p ∈ pcs, H p.2.1 = some (.tup [.bl p.1.1, .bl p.1.2])
  ls : ∀ p ∈ pcs, H p.2.2.1 = some (.lst (p.2.2.2.map fun n => V.int (n : Nat)))
  fr : ∀ p ∈ pcs, H0 p.2.2.1 = none
  pt : ∀ p ∈ pcs, p.2.2.2 = done.filter fun i => decide (g i = p.1)
  ne : ∀ p ∈ pcs, p.2.2.2 ≠ []
  al : ∀ i ∈ done, ∃ p ∈ pcs, p.1 = g i
  nd : (pcs.map (·.1)).Nodup
  la : (pcs.map (·.2.2.1)).Nodup
def encP (pcs : List Pw) : List NE := pcs.map fun p => (keyB p.1, p.2.1, V.ref p.2.2.1)
theorem PaW.keep {H H' H0 : Hp} {g : Nat → BB} {done : List Nat} {pcs : List Pw} (h : PaW H H0 g done pcs) (f : Frm [] H H') : PaW H' H0 g done pcs :=
  { h with
    ks := fun p hp => f.k _ _ (h.ks p hp) rfl (by simp)
    ls := fun p hp => f.k _ _ (h.ls p hp) rfl (by simp) }
theorem filt_snoc {g : Nat → BB} {c : BB} {done : List Nat} {i : Nat} : (done ++ [i]).filter (fun i => decide (g i = c)) = done.filter (fun i => decide (g i = c)) ++ (if g i = c then [i] else []) := by
  rw [List.filter_append]
  by_cases h : g i = c
  · rw [if_pos h, List.filter_cons, if_pos (decide_eq_true h)]
    rfl
  · rw [if_neg h, List.filter_cons, if_neg (by rw [decide_eq_false h]; simp)]
    rfl
theorem PaW.add {H H0 : Hp} {g : Nat → BB} {done : List Nat} {pcs : List Pw} (h : PaW H H0 g done pcs) {p : Pw} {i : Nat} (hp : p ∈ pcs) (e : p.1 = g i) :
    PaW (upd H p.2.2.1 (.lst ((p.2.2.2.map fun n => V.int (n : Nat)) ++ [.int (i : Nat)]))) H0 g (done ++ [i]) (pcs.map fun q => if q.1 = g i then (q.1, q.2.1, q.2.2.1, q.2.2.2 ++ [i]) else q) ∧ encP (pcs.map fun q => if q.1 = g i then (q.1, q.2.1, q.2.2.1, q.2.2.2 ++ [i]) else q) = encP pcs := by
  have same : ∀ {q : Pw}, q ∈ pcs → q.1 = g i → q = p := fun hq z => inj_of h.nd hq hp (z.trans e.symm)
  have m1 : (pcs.map fun q => if q.1 = g i then (q.1, q.2.1, q.2.2.1, q.2.2.2 ++ [i]) else q).map (·.1) = pcs.map (·.1) := by
    rw [List.map_map]
    refine List.map_congr_left fun q _ => ?_
    show (if q.1 = g i then (q.1, q.2.1, q.2.2.1, q.2.2.2 ++ [i]) else q).1 = q.1
    split <;> rfl
  have m2 : (pcs.map fun q => if q.1 = g i then (q.1, q.2.1, q.2.2.1, q.2.2.2 ++ [i]) else q).map (·.2.2.1) = pcs.map (·.2.2.1) := by
    rw [List.map_map]
    refine List.map_congr_left fun q _ => ?_
    show (if q.1 = g i then (q.1, q.2.1, q.2.2.1, q.2.2.2 ++ [i]) else q).2.2.1 = q.2.2.1
    split <;> rfl
  refine ⟨⟨fun q' hq' => ?_, fun q' hq' => ?_, fun q' hq' => ?_, fun q' hq' => ?_, fun q' hq' => ?_, fun j hj => ?_, by rw [m1]; exact h.nd, by rw [m2]; exact h.la⟩, ?_⟩
  · obtain ⟨q, hq, rfl⟩ := List.mem_map.mp hq'
    refine lst_tup (h.ls p hp) _ _ ?_
    split
    · exact h.ks q hq
    · exact h.ks q hq
  · obtain ⟨q, hq, rfl⟩ := List.mem_map.mp hq'
    split
    · rename_i c
      obtain rfl := same hq c
      rw [upd_same, List.map_append]
      rfl
    · rename_i c
      rw [upd_ne (fun z => c (by rw [inj_of h.la hq hp z]; exact e))]
      exact h.ls q hq
  · obtain ⟨q, hq, rfl⟩ := List.mem_map.mp hq'
    split
    · exact h.fr q hq
    · exact h.fr q hq
  · obtain ⟨q, hq, rfl⟩ := List.mem_map.mp hq'
    split
    · rename_i c
      show q.2.2.2 ++ [i] = (done ++ [i]).filter fun i => decide (g i = q.1)
      rw [filt_snoc, if_pos c.symm, ← h.pt q hq]
    · rename_i c
      rw [filt_snoc, if_neg (fun z => c z.symm), List.append_nil]
      exact h.pt q hq
  · obtain ⟨q, hq, rfl⟩ := List.mem_map.mp hq'
    split
    · show q.2.2.2 ++ [i] ≠ []
      simp
    · exact h.ne q hq
  · rcases List.mem_append.mp hj with z | z
    · obtain ⟨q, hq, eq⟩ := h.al j z
      refine ⟨_, List.mem_map.mpr ⟨q, hq, rfl⟩, ?_⟩
      rw [← eq]
      split <;> rfl
    · rw [List.mem_singleton.mp z]
      refine ⟨_, List.mem_map.mpr ⟨p, hp, rfl⟩, ?_⟩
      rw [← e]
      split <;> rfl
  · unfold encP
    rw [List.map_map]
    refine List.map_congr_left fun q _ => ?_
    show (keyB (if q.1 = g i then (q.1, q.2.1, q.2.2.1, q.2.2.2 ++ [i]) else q).1, (if q.1 = g i then (q.1, q.2.1, q.2.2.1, q.2.2.2 ++ [i]) else q).2.1, V.ref (if q.1 = g i then (q.1, q.2.1, q.2.2.1, q.2.2.2 ++ [i]) else q).2.2.1) = _
    split <;> rfl
theorem PaW.new {H H0 : Hp} {g : Nat → BB} {done : List Nat} {pcs : List Pw} (h : PaW H H0 g done pcs) {ka la : Addr} {i : Nat} (no : ∀ p ∈ pcs, p.1 ≠ g i) (hk : H ka = some (.tup [.bl (g i).1, .bl (g i).2])) (hl : H la = some (.lst [])) (nl : ∀ p ∈ pcs, p.2.2.1 ≠ la) (f0 : H0 la = none) :
    PaW (upd H la (.lst [.int (i : Nat)])) H0 g (done ++ [i]) (pcs ++ [(g i, ka, la, [i])]) := by
  have up := lst_tup (o := .lst [.int (i : Nat)]) hl
  refine ⟨fun q hq => up _ _ ?_, fun q hq => ?_, fun q hq => ?_, fun q hq => ?_, fun q hq => ?_, fun j hj => ?_, ?_, ?_⟩
  · rcases List.mem_append.mp hq with z | z
    · exact h.ks q z
    · rw [List.mem_singleton.mp z]
      exact hk
  · rcases List.mem_append.mp hq with z | z
    · rw [upd_ne (nl q z)]
      exact h.ls q z
    · rw [List.mem_singleton.mp z, upd_same]
      rfl
  · rcases List.mem_append.mp hq with z | z
    · exact h.fr q z
    · rw [List.mem_singleton.mp z]
      exact f0
  · rcases List.mem_append.mp hq with z | z
    · rw [filt_snoc, if_neg (fun e => no q z e.symm), List.append_nil]
      exact h.pt q z
    · rw [List.mem_singleton.mp z]
      show [i] = (done ++ [i]).filter fun j => decide (g j = g i)
      rw [filt_snoc, if_pos rfl]
      have : done.filter (fun j => decide (g j = g i)) = [] := List.filter_eq_nil_iff.mpr fun j hj e => by
        obtain ⟨p, hp, ep⟩ := h.al j hj
        exact no p hp (ep.trans (of_decide_eq_true e))
      rw [this]
      rfl
  · rcases List.mem_append.mp hq with z | z
    · exact h.ne q z
    · rw [List.mem_singleton.mp z]
      exact List.cons_ne_nil _ _
  · rcases List.mem_append.mp hj with z | z
    · obtain ⟨p, hp, e⟩ := h.al j z
      exact ⟨p, List.mem_append_left _ hp, e⟩
    · rw [List.mem_singleton.mp z]
      exact ⟨_, List.mem_append_right _ (List.mem_singleton.mpr rfl), rfl⟩
  · rw [List.map_append, List.nodup_append]
    refine ⟨h.nd, by simp, fun x hx y hy e => ?_⟩
    obtain ⟨p, hp, rfl⟩ := List.mem_map.mp hx
    rw [List.map_cons, List.map_nil, List.mem_singleton] at hy
    exact no p hp (e.trans hy)
  · rw [List.map_append, List.nodup_append]
    refine ⟨h.la, by simp, fun x hx y hy e => ?_⟩
    obtain ⟨p, hp, rfl⟩ := List.mem_map.mp hx
    rw [List.map_cons, List.map_nil, List.mem_singleton] at hy
    exact nl p hp (e.trans hy)
theorem nval_enc {pcs : List Pw} {c : BB} {v : V} (h : nval (encP pcs) (keyB c) = some v) : ∃ p ∈ pcs, p.1 = c ∧ v = .ref p.2.2.1 := by
  obtain ⟨q, hq, e1, e2⟩ := nval_mem h
  obtain ⟨p, hp, rfl⟩ := List.mem_map.mp hq
  exact ⟨p, hp, keyB_inj e1, e2.symm⟩
theorem nval_enc_no {pcs : List Pw} {c : BB} (h : nval (encP pcs) (keyB c) = none) : ∀ p ∈ pcs, p.1 ≠ c := fun p hp e => nval_none h _ (List.mem_map.mpr ⟨p, hp, rfl⟩) (by rw [e])
theorem nval_enc_at {pcs : List Pw} (nd : (pcs.map (·.1)).Nodup) {p : Pw} (hp : p ∈ pcs) : nval (encP pcs) (keyB p.1) = some (.ref p.2.2.1) := by
  cases e : nval (encP pcs) (keyB p.1) with
  | none => exact absurd rfl (nval_enc_no e p hp)
  | some v =>
    obtain ⟨q, hq, e1, e2⟩ := nval_enc e
    rw [e2, inj_of nd hq hp e1]
theorem perm_mapW {α β : Type} {f : α → β} {ys : List β} {zs : List β} (p : ys.Perm zs) : ∀ {l : List α}, zs = l.map f → ∃ l' : List α, l'.Perm l ∧ ys = l'.map f := by
  induction p with
  | nil =>
    intro l h
    have : l = [] := by cases l with | nil => rfl | cons _ _ => cases h
    exact ⟨[], by rw [this], rfl⟩
  | cons x _ ih =>
    intro l h
    cases l with
    | nil => cases h
    | cons a r =>
      rw [List.map_cons] at h
      obtain ⟨e1, e2⟩ := List.cons.inj h
      obtain ⟨l', q, e⟩ := ih e2
      exact ⟨a :: l', q.cons a, by rw [List.map_cons, e, e1]⟩
  | swap x y l0 =>
    intro l h
    match l, h with
    | a :: b :: r, h =>
      rw [List.map_cons, List.map_cons] at h
      obtain ⟨e1, e2⟩ := List.cons.inj h
      obtain ⟨e3, e4⟩ := List.cons.inj e2
      exact ⟨b :: a :: r, .swap _ _ _, by rw [List.map_cons, List.map_cons, e1, e3, e4]⟩
  | trans _ _ i1 i2 =>
    intro l h
    obtain ⟨l2, q2, e2⟩ := i2 h
    obtain ⟨l1, q1, e1⟩ := i1 e2
    exact ⟨l1, q1.trans q2, e1⟩
theorem sort_bbs (ts : List BB) : PySem.W.AllAlike (ts.map bbD) ∧ PySem.W.Sortable (ts.map bbD) ∧ ∀ d ∈ ts.map bbD, d.depth ≤ 60 := by
  refine ⟨fun d hd d' hd' => ?_, .inl fun d hd => ?_, fun d hd => ?_⟩
  · obtain ⟨s, _, rfl⟩ := List.mem_map.mp hd
    obtain ⟨t, _, rfl⟩ := List.mem_map.mp hd'
    simp [bbD, PySem.W.alike, PySem.W.alikeAll]
  · obtain ⟨s, _, rfl⟩ := List.mem_map.mp hd
    exact ⟨_, _, rfl⟩
  · obtain ⟨s, _, rfl⟩ := List.mem_map.mp hd
    simp [bbD, PyData.depth, PyData.depthAll]
theorem part_sel {b : Str} {c : BB} {ss : SS} {ps : List Nat} : partL b c (selS ss ps) = selS ss (ps.filter fun i => decide (lkS b (ss.getD i []) = c)) := by
  unfold partL selS
  rw [List.filter_map]
  rfl
theorem sel_all (ss : SS) : selS ss (List.range ss.length) = ss := by
  unfold selS
  apply List.ext_getElem?
  intro i
  rw [List.getElem?_map]
  by_cases h : i < ss.length
  · rw [List.getElem?_range h, List.getElem?_eq_getElem h, Option.map_some, List.getD_eq_getElem?_getD, List.getElem?_eq_getElem h]
    rfl
  · rw [List.getElem?_eq_none (by rw [List.length_range]; omega), List.getElem?_eq_none (by omega)]
    rfl
theorem sel_sub {ss : SS} {ps : List Nat} (sub : ps.Sublist (List.range ss.length)) : (selS ss ps).Sublist ss := by
  have := sub.map fun i => ss.getD i []
  rw [show (List.range ss.length).map (fun i => ss.getD i []) = ss from sel_all ss] at this
  exact this
theorem sel_nodup {ss : SS} {ps : List Nat} (snd : ss.Nodup) (sub : ps.Sublist (List.range ss.length)) : (selS ss ps).Nodup := (sel_sub sub).nodup snd
theorem nd_frz {P : Program} {w : World} {H : Hp} {p q : Addr} {kvs : List NE} {od : Obj} {u : HO} (h : H p = some (.frz od u)) (d : H q = some (ND P w q kvs)) : p ≠ q := fun e => by
  rw [e, d] at h
  cases h
theorem ToldT.step {P : Program} {w : World} {H H' : Hp} {pT pK : Addr} {od : Obj} {tks : List Tk} {ms : List Str} {ss : SS} {kvs : List NE} (h : ToldT H pT od tks ms ss) (d : NDt P w H pK kvs) (f : Frm [pK] H H') : ToldT H' pT od tks ms ss :=
  ⟨f.k _ _ h.at_ rfl (by rw [List.mem_singleton]; exact nd_frz h.at_ d.at_), h.ms_, h.nd, fun t ht => ⟨⟨f.k _ _ (h.tl t ht).1.1 rfl (by rw [List.mem_singleton]; exact nd_out (h.tl t ht).1.1 d.at_), fun c hc => f.k _ _ ((h.tl t ht).1.2 c hc) rfl (by rw [List.mem_singleton]; exact nd_tup ((h.tl t ht).1.2 c hc) d.at_)⟩, (h.tl t ht).2⟩⟩
theorem frm_tup {P : Program} {w : World} {H H' : Hp} {q : Addr} {kvs : List NE} (d : NDt P w H q kvs) (f : Frm [q] H H') : ∀ b ys, H b = some (.tup ys) → H' b = some (.tup ys) := fun b ys h =>
  f.k _ _ h rfl (by rw [List.mem_singleton]; exact nd_tup h d.at_)
theorem fr0_tup {H H' : Hp} (f : Frm [] H H') : ∀ b ys, H b = some (.tup ys) → H' b = some (.tup ys) := fun b ys h => f.k _ _ h rfl (by simp)
theorem NDt.lay {P : Program} {w : World} {H H' : Hp} {q : Addr} {kvs : List NE} (d : NDt P w H q kvs) (f : Frm [] H H') : NDt P w H' q kvs := d.keep (f.k _ _ d.at_ rfl (by simp)) (fr0_tup f)
def FndAt (ms : List Str) (sl : SS) (i : Nat) (fv : Int) (l : Nat) : Prop := (fv = 99 ∧ ∀ b ∈ ms.take i, ¬ Splits b sl) ∨ ∃ v : Nat, fv = v ∧ (∃ b ∈ ms, ∃ m, ValB ms b sl m ∧ v = m + 1) ∧ (∀ b ∈ ms.take i, Splits b sl → ∃ m, ValB ms b sl m ∧ v ≤ m + 1) ∧ v + 1 ≤ l
section
variable {P : Program} {w : World} {K : PySem.W.Frag} {mg : Str → Option Value} {base : Heap}
theorem worst_of (T : Txt P w K mg base) {j n : Nat} (hW : CalX CX0 P w K mg base j "_law_worst" (spWorst P w n)) : CalX CX0 P w K mg base (j + 1) "_law_worst" (spWorst P w (n + 1)) := by
  obtain ⟨fd, F⟩ := T.t.def_ 26 (d := d_lworst)
  refine ⟨_, fd, _, F.ok sc_lworst (fun vs H Q E h => ?_) (fun cdv A outer s H vs Q E hr h => ?_), He.glo_ok T.X T.G (T.t.fact 26), F.kp, F.bindsN fun _ _ _ _ _ _ us hl => match us, hl with | [_, _, _], _ => rfl⟩
  · obtain ⟨pT, pt, pK, od, tks, ms, ss, ps, kvs, rfl, _⟩ := h
    rfl
  · obtain ⟨pT, pt, pK, od, tks, ms, ss, ps, kvs, rfl, to, et, p1, pn, sub, s16, snd, sep, m100, nd, kn, k⟩ := h
    have hu := hu_of hr
    refine ⟨_, PSs.nox (pss_cons (ps_if (pt_cmpR op_eq (pe_callB call_len_seq (by rfl) (n_len T) PySem.boot_len (pa_cons (pv 1) pa_nil)) pe_int (nomark _))
      (pss_one (ps_ret pe_int))
      pss_nil)
    (pss_cons (ps_if (pt_cmp (pc_nnotin hr.u65 (pv 1) (pv 2)))
      (pss_cons (ps_set (i := 3) sc_lworst.nd rfl (Or.inl rfl) pe_int)
      (pss_cons (ps_for PassesOwn.never rfl (pi_keys (pv 0)) (pg_name (i := 4) sc_lworst.nd rfl (Or.inl rfl))
        (pss_cons (ps_set (i := 5) sc_lworst.nd rfl (Or.inr rfl) pe_nnew)
        (pss_cons (ps_for PassesOwn.never rfl (pi_tup (pv 1)) (pg_name (i := 6) sc_lworst.nd rfl (Or.inl rfl))
          (pss_one (ps_expr (pe_bm PySem.F.plainAttrs_list PySem.F.slot_list_append PySem.F.type_list_append mt_append (pe_nsetd hr.u65 (pv 5) (pe_ix ix_list (pe_dget hu (pv 0) (pv 4) (fun _ _ => rfl)) (pv 6) (fun _ _ => rfl)) (pe_lst pa_nil) ⟨rfl, rfl, rfl, rfl⟩) (pa_cons (pv 6) pa_nil)))))
        (pss_one (ps_if (pt_cmpR op_gt (pe_callB cr_nlen (by rfl) (n_len T) PySem.boot_len (pa_cons (pv 5) pa_nil)) pe_int (nomark _))
          (pss_one (ps_set (i := 3) sc_lworst.nd rfl (Or.inl rfl) (pe_callB (call_min2 rfl) (by rfl) (n_min T) (by decide +kernel) (pa_cons (pv 3) (pa_cons (pe_op op_add pe_int (pe_callB (cr_max rfl) (by rfl) (n_max T) (by decide +kernel) (pa_cons (pe_lc (own := [("_law_key", 7)]) (g := gName 7) rfl sc_lworst.nd (pi_list (pe_callB (cr_nsorted rfl hr.u65) (by rfl) (n_sorted T) (by decide +kernel) (pa_cons (pv 5) pa_nil))) (blkOk_by (N := ["_law_told", "_law_some", "_law_known", "_law_found", "_law_beginning", "_law_parts", "_law_place", "_law_key"]) (sc := defScope s_lworst) (own := [("_law_key", 7)]) (by decide +kernel)) (fun _ _ _ _ _ => pg_name (i := 7) sc_lworst.nd rfl (Or.inl rfl)) (fun _ _ _ _ _ => pts_nil) (fun _ _ _ _ _ => by exact (pe_cx hW hr (by omega) rfl pass0 (pa_cons (pv 0) (pa_cons (pe_tupleOfK (K := K) rfl (by rfl) (n_tuple T) (pe_ngetK (P := P) (w := w) rfl rfl hr.u65 (pv 5) (pv 7) (fun _ _ => rfl))) (pa_cons (pv 2) pa_nil)))))) pa_nil))) pa_nil)))))
          pss_nil)))))
      (pss_one (ps_nput hr.u65 (pv 2) (pv 1) (pv 3) rfl))))
      pss_nil)
    (pss_one (ps_ret (pe_nget hr.u65 (pv 2) (pv 1) (fun _ _ => rfl)))))), ?_⟩
    refine ⟨_, rfl, pt, _, rfl, .inr (SqT.of et), rfl, _, rfl, ?_⟩
    rw [List.length_map]
    have sll : (selS ss ps).length = ps.length := by unfold selS; rw [List.length_map]
    refine iteB (fun c => ?_) (fun c => ?_)
    · have c1 : ps.length = 1 := by
        have := V.int.inj (of_decide_eq_true c)
        omega
      exact k 0 kvs H (Lst.one (by omega)) (by omega) nd kn (Frm.refl _ _)
    have p2 : 2 ≤ ps.length := by
      have : (ps.length : Int) ≠ 1 := fun e => of_decide_eq_false c (by rw [e])
      omega
    have pl16 : ps.length ≤ 16 := by
      have := sub.length_le
      rw [List.length_range] at this
      omega
    have plt : ∀ i ∈ ps, i < ss.length := fun i hi => List.mem_range.mp (sub.subset hi)
    have nk : NK H (keyN ps) (.ref pt) := .tup et (nks_nats _)
    clear c
    refine ⟨_, rfl, _, rfl, pK, kvs, keyN ps, pt, rfl, rfl, nd, nk, keyN_depth _, _, rfl, iteB (fun c => ?_) (fun c => ?_)⟩
    rotate_left
    · obtain ⟨v, ev⟩ : ∃ v, nval kvs (keyN ps) = some v := by
        cases e : nval kvs (keyN ps) with
        | none => rw [e] at c; cases c
        | some v => exact ⟨v, rfl⟩
      obtain ⟨p, hp, ep, epv⟩ := nval_mem ev
      obtain ⟨ps', _, e5, v', e6, e7, e8⟩ := kn.ok p hp
      have : ps' = ps := keyN_inj (e5.symm.trans ep)
      rw [this] at e7 e8
      exact ⟨_, rfl, _, rfl, pK, kvs, keyN ps, pt, v, rfl, rfl, nd, nk, keyN_depth _, ev, by rw [← epv, e6]; exact k v' kvs H e7 e8 nd kn (Frm.refl _ _)⟩
    have tml : tks.length = ms.length := by
      have := congrArg List.length to.ms_
      rwa [List.length_map] at this
    have skn := sel_nodup snd sub
    refine ⟨_, rfl, pT, od, rfl, .inl ⟨_, to.at_, for_it walk_keys (fun i σ H' => ∃ (fv : Int) (v4 v5 v6 v7 : Option V) (kv' : List NE), σ = [some (.ref pT), some (.ref pt), some (.ref pK), some (.int fv), v4, v5, v6, v7] ∧ FndAt ms (selS ss ps) i fv ps.length ∧ NDt P w H' pK kv' ∧ KnW ms ss kv' ∧ Frm [pK] H H')
      ⟨99, _, _, _, _, kvs, rfl, .inl ⟨rfl, by simp⟩, nd, kn, Frm.refl _ _⟩ (fun i σ H' _ ⟨_, _, _, _, _, _, _, _, _, _, f⟩ => f.k _ _ to.at_ rfl (by rw [List.mem_singleton]; exact nd_frz to.at_ nd.at_)) ?_ ?_⟩⟩
    · rintro i x σ H1 H1' hi ⟨fv, v4, v5, v6, v7, kv1, rfl, fa1, n1, k1, f1⟩ ⟨rfl, key, val, hkv, rfl⟩
      rw [List.getElem?_map] at hkv
      obtain ⟨⟨b, pl, cs⟩, ht, e0⟩ := Option.map_eq_some_iff.mp hkv
      cases e0
      have htm := List.mem_of_getElem? ht
      have hbi : ms[i]? = some b := by rw [← to.ms_, List.getElem?_map, ht]; rfl
      have hbm := List.mem_of_getElem? hbi
      have to1 := to.step nd f1
      have et1 := frm_tup nd f1 _ _ et
      intro d hd
      refine new_to hd fun H2 g2 u2 => ?_
      have to2 := to1.keep g2
      have et2 := fr0_tup g2 _ _ et1
      obtain ⟨td2, ec⟩ := to2.tl _ htm
      have csl : cs.length = ss.length := by
        have := congrArg List.length ec
        rwa [List.length_map, List.length_map] at this
      refine ⟨_, rfl, pt, rfl, ⟨_, SqT.of et2⟩, for_tup (K := K) (a := pt) (xs := ps.map fun n => V.int (n : Nat)) (fun i σ H' => ∃ (v6 v7 : Option V) (pcs : List Pw), σ = [some (.ref pT), some (.ref pt), some (.ref pK), some (.int fv), some (.str b), some (.ref d), v6, v7] ∧ NDt P w H' d (encP pcs) ∧ PaW H' H1' (fun i => lkS b (ss.getD i [])) (ps.take i) pcs ∧ Frm [] H1' H')
        ⟨_, _, [], rfl, .nil u2, ⟨by simp, by simp, by simp, by simp, by simp, by simp, by simp, by simp⟩, g2⟩ (fun i σ H' _ ⟨_, _, _, _, _, _, f⟩ => SqT.of (f.k _ _ et1 rfl (by simp))) ?_ ?_⟩
      · rintro m y σ H3 hm ⟨v6, v7, pcs, rfl, n3, pw3, f3⟩
        obtain ⟨pn', hpn, rfl⟩ : ∃ n, ps[m]? = some n ∧ y = V.int (n : Nat) := by
          rw [List.getElem?_map] at hm
          obtain ⟨u, a1, a2⟩ := Option.map_eq_some_iff.mp hm
          exact ⟨u, a1, a2.symm⟩
        have hlt : pn' < ss.length := plt pn' (List.mem_of_getElem? hpn)
        have to3 := to1.keep f3
        obtain ⟨td3, _⟩ := to3.tl _ htm
        obtain ⟨⟨ta, cb⟩, hc⟩ : ∃ c, cs[pn']? = some c := ⟨_, List.getElem?_eq_getElem (by rw [csl]; exact hlt)⟩
        have ecb : cb = lkS b (ss.getD pn' []) := by
          have a1 : (cs.map (·.2))[pn']? = some cb := by rw [List.getElem?_map, hc]; rfl
          rw [ec, List.getElem?_map, List.getElem?_eq_getElem hlt, Option.map_some] at a1
          rw [List.getD_eq_getElem?_getD, List.getElem?_eq_getElem hlt]
          exact (Option.some.inj a1).symm
        subst ecb
        have hta := td3.2 _ (List.mem_of_getElem? hc)
        have vk : valV (tks.map fun t => ((Sum.inr t.1 : Key), V.ref t.2.1)) (.inr b) = some (.ref pl) := by
          refine valV_mem ?_ (List.mem_map.mpr ⟨_, htm, rfl⟩)
          rw [List.map_map]
          have e : (tks.map ((fun x : Key × V => x.1) ∘ fun t : Tk => ((Sum.inr t.1 : Key), V.ref t.2.1))) = (tks.map (·.1)).map Sum.inr := by rw [List.map_map]; rfl
          rw [e, to.ms_, List.nodup_iff_pairwise_ne, List.pairwise_map]
          exact (List.nodup_iff_pairwise_ne.mp to.nd).imp fun {a b} n e => n (Sum.inr.inj e)
        have pcl : pcs.length ≤ 4 := by
          have := nodup_leA pw3.nd (ys := cs4) fun c _ => cs4_mem c
          rwa [List.length_map] at this
        refine ⟨_, rfl, d, encP pcs, rfl, n3, _, rfl, _, rfl, pT, .ref pl, rfl, .inl ⟨_, .inr b, .inr ⟨od, to3.at_⟩, rfl, vk.symm⟩, _, rfl, pl, _, (pn' : Int), .ref ta, rfl, rfl, SqL.of td3.1, atI_nat (by rw [List.getElem?_map, hc]; rfl), Nat.zero_le _, fun la hla => ?_⟩
        refine new_to hla fun H4 g4 u4 => ?_
        have n4 := n3.lay g4
        have pw4 := pw3.keep g4
        have f4 := f3.trans g4
        have hta4 := fr0_tup g4 _ _ hta
        refine ⟨encP pcs, keyB (lkS b (ss.getD pn' [])), ta, n4, rfl, nk_bb hta4, keyB_depth _, by unfold encP; rw [List.length_map]; exact small1000 (by omega), fun v hv => ?_, fun hv => ?_⟩
        · obtain ⟨p, hp, ep, rfl⟩ := nval_enc hv
          have lp := pw4.ls p hp
          obtain ⟨pcs', w1, w2⟩ : ∃ pcs', PaW (upd H4 p.2.2.1 (.lst ((p.2.2.2.map fun n => V.int (n : Nat)) ++ [.int (pn' : Nat)]))) H1' (fun i => lkS b (ss.getD i [])) (ps.take m ++ [pn']) pcs' ∧ encP pcs' = encP pcs := ⟨_, pw4.add hp ep⟩
          have nd' : p.2.2.1 ≠ d := nd_out lp n4.at_
          refine ⟨.inl ⟨rfl, _, SqL.of lp⟩, _, rfl, p.2.2.1, _, _, rfl, rfl, lp, ?_, ?_⟩
          · rw [List.length_map, pw4.pt p hp]
            have := List.length_filter_le (fun i => decide (lkS b (ss.getD i []) = p.1)) (ps.take m)
            rw [List.length_take] at this
            exact small1000 (by omega)
          refine ⟨_, _, pcs', rfl, ?_, ?_, f4.new (pw4.fr p hp)⟩
          · rw [w2]
            exact n4.keep (by rw [upd_ne (Ne.symm nd')]; exact n4.at_) (lst_tup lp)
          · rw [take_snoc hpn]
            exact w1
        · have no := nval_enc_no hv
          have nla : la ≠ d := Ne.symm (ne_of_none n3.at_ hla)
          have la5 : (upd H4 d (ND P w d (encP pcs ++ [(keyB (lkS b (ss.getD pn' [])), ta, .ref la)]))) la = some (.lst []) := by rw [upd_ne nla]; exact u4
          have up5 := upd_tup (o := ND P w d (encP pcs ++ [(keyB (lkS b (ss.getD pn' [])), ta, .ref la)])) n4.at_
          have pw5 : PaW (upd H4 d (ND P w d (encP pcs ++ [(keyB (lkS b (ss.getD pn' [])), ta, .ref la)]))) H1' (fun i => lkS b (ss.getD i [])) (ps.take m) pcs :=
            { pw4 with
              ks := fun p hp => up5 _ _ (pw4.ks p hp)
              ls := fun p hp => by rw [upd_ne (nd_out (pw4.ls p hp) n4.at_)]; exact pw4.ls p hp }
          have n5 : NDt P w (upd H4 d (ND P w d (encP pcs ++ [(keyB (lkS b (ss.getD pn' [])), ta, .ref la)]))) d (encP pcs ++ [(keyB (lkS b (ss.getD pn' [])), ta, .ref la)]) := ⟨upd_same, fun p hp => by
            rcases List.mem_append.mp hp with z | z
            · exact ⟨NK.keep up5 _ _ (n4.ks p z).1, (n4.ks p z).2⟩
            · rw [List.mem_singleton.mp z]
              exact ⟨NK.keep up5 _ _ (nk_bb hta4), keyB_depth _⟩⟩
          have f5 : Frm [] H1' (upd H4 d (ND P w d (encP pcs ++ [(keyB (lkS b (ss.getD pn' [])), ta, .ref la)]))) := f4.new hd
          have hta5 := up5 _ _ hta4
          have la0 : H1' la = none := f3.b _ hla
          refine ⟨.inl ⟨rfl, _, SqL.of la5⟩, _, rfl, la, _, _, rfl, rfl, la5, by show 0 < sizeLine; decide, ?_⟩
          have w1 := pw5.new no hta5 la5 (fun p hp => ne_of_none (pw3.ls p hp) hla) la0
          refine ⟨_, _, _, rfl, ?_, by rw [take_snoc hpn]; exact w1, f5.new la0⟩
          have : encP (pcs ++ [(lkS b (ss.getD pn' []), ta, la, [pn'])]) = encP pcs ++ [(keyB (lkS b (ss.getD pn' [])), ta, .ref la)] := by
            unfold encP
            rw [List.map_append]
            rfl
          rw [this]
          exact n5.keep (by rw [List.nil_append, upd_ne (Ne.symm nla)]; exact n5.at_) (lst_tup la5)
      · rintro σ H3 ⟨v6, v7, pcs, rfl, n3, pw3, f3⟩
        rw [List.length_map, List.take_length] at pw3
        have to3 := to1.keep f3
        have et3 := fr0_tup f3 _ _ et1
        have nK3 : NDt P w H3 pK kv1 := n1.lay f3
        have ndK : d ≠ pK := Ne.symm (ne_of_none n1.at_ hd)
        have f03 : Frm [pK] H H3 := f1.trans (f3.mono (by simp))
        have pcl : pcs.length ≤ 4 := by
          have := nodup_leA pw3.nd (ys := cs4) fun c _ => cs4_mem c
          rwa [List.length_map] at this
        clear to2 et2 td2 u2 g2
        refine ⟨_, rfl, d, encP pcs, rfl, n3, _, _, rfl, rfl, _, rfl, ?_⟩
        rw [show (encP pcs).length = pcs.length by unfold encP; rw [List.length_map]]
        refine iteB (fun c => ?_) (fun c => ?_)
        rotate_left
        · -- not parted
          have c1 : pcs.length ≤ 1 := by
            have := of_decide_eq_false c
            omega
          have ns : ¬ Splits b (selS ss ps) := by
            rintro ⟨s, hs, t, ht', ne⟩
            obtain ⟨i1, hi1, rfl⟩ := List.mem_map.mp hs
            obtain ⟨i2, hi2, rfl⟩ := List.mem_map.mp ht'
            obtain ⟨p, hp, e1⟩ := pw3.al i1 hi1
            obtain ⟨q, hq, e2⟩ := pw3.al i2 hi2
            have : p = q := by
              match pcs, c1, hp, hq with
              | [x], _, hp, hq => rw [List.mem_singleton.mp hp, List.mem_singleton.mp hq]
            rw [this] at e1
            exact ne (e1.symm.trans e2)
          refine ⟨fv, _, _, _, _, kv1, rfl, ?_, nK3, k1, f03⟩
          rcases fa1 with ⟨e, g⟩ | ⟨v, e, g2, g3, g4⟩
          · refine .inl ⟨e, fun b' hb' => ?_⟩
            rw [take_snoc hbi] at hb'
            rcases List.mem_append.mp hb' with z | z
            · exact g b' z
            · rw [List.mem_singleton.mp z]
              exact ns
          · refine .inr ⟨v, e, g2, fun b' hb' => ?_, g4⟩
            rw [take_snoc hbi] at hb'
            rcases List.mem_append.mp hb' with z | z
            · exact g3 b' z
            · rw [List.mem_singleton.mp z]
              exact fun y => absurd y ns
        -- parted
        have c2 : 2 ≤ pcs.length := by
          have := of_decide_eq_true c
          omega
        have sp : Splits b (selS ss ps) := by
          match pcs, c2, pw3 with
          | p :: q :: r, _, pw3 =>
            have hp : p ∈ p :: q :: r := by simp
            have hq : q ∈ p :: q :: r := by simp
            obtain ⟨i1, h1⟩ := List.exists_mem_of_ne_nil _ (pw3.ne p hp)
            obtain ⟨i2, h2⟩ := List.exists_mem_of_ne_nil _ (pw3.ne q hq)
            rw [pw3.pt p hp] at h1
            rw [pw3.pt q hq] at h2
            obtain ⟨m1, e1⟩ := List.mem_filter.mp h1
            obtain ⟨m2, e2⟩ := List.mem_filter.mp h2
            have e1 := of_decide_eq_true e1
            have e2 := of_decide_eq_true e2
            have ne : p.1 ≠ q.1 := by
              have := pw3.nd
              rw [List.map_cons, List.map_cons, List.nodup_cons] at this
              exact fun z => this.1 (by rw [z]; simp)
            exact ⟨_, List.mem_map.mpr ⟨i1, m1, rfl⟩, _, List.mem_map.mpr ⟨i2, m2, rfl⟩, fun z => ne (e1.symm.trans (z.trans e2))⟩
        have plen : ∀ p ∈ pcs, 1 ≤ p.2.2.2.length ∧ p.2.2.2.length < ps.length ∧ p.2.2.2.Sublist (List.range ss.length) ∧ selS ss p.2.2.2 = partL b p.1 (selS ss ps) := fun p hp => by
          have e : selS ss p.2.2.2 = partL b p.1 (selS ss ps) := by rw [part_sel, pw3.pt p hp]
          refine ⟨List.length_pos_iff.mpr (pw3.ne p hp), ?_, ?_, e⟩
          · have := part_lt sp p.1
            rw [← e] at this
            unfold selS at this
            rw [List.length_map, List.length_map] at this
            exact this
          · rw [pw3.pt p hp]
            exact List.filter_sublist.trans sub
        have sb := sort_bbs (pcs.map (·.1))
        have dps : DpAll K H3 ((encP pcs).map fun p => V.ref p.2.1) ((pcs.map (·.1)).map bbD) := by
          have go : ∀ l : List Pw, (∀ p ∈ l, H3 p.2.1 = some (.tup [.bl p.1.1, .bl p.1.2])) → DpAll K H3 ((encP l).map fun p => V.ref p.2.1) ((l.map (·.1)).map bbD) := by
            intro l
            induction l with
            | nil => exact fun _ => .nil
            | cons p r ih => exact fun h => .cons (dp_bb (h p (by simp))) (ih fun q hq => h q (by simp [hq]))
          exact go pcs pw3.ks
        refine ⟨_, rfl, _, rfl, d, encP pcs, _, rfl, n3, dps, sb.1, sb.2.1, sb.2.2, fun ys q hperm hq => ?_⟩
        obtain ⟨ord, po, rfl⟩ : ∃ ord : List Pw, ord.Perm pcs ∧ ys = ord.map fun p => V.ref p.2.1 := perm_mapW hperm (by unfold encP; rw [List.map_map]; rfl)
        refine new_to hq fun H4 g4 u4 => ?_
        have to4 := to3.keep g4
        have pw4 := pw3.keep g4
        have n4 := n3.lay g4
        have nK4 := nK3.lay g4
        have f04 : Frm [pK] H H4 := f03.trans (g4.mono (by simp))
        have om : ∀ p ∈ ord, p ∈ pcs := fun p hp => po.mem_iff.mp hp
        have ol : ord.length = pcs.length := po.length_eq
        refine ⟨q, rfl, ⟨_, SqL.of u4⟩, fun D hD => ?_⟩
        have nDK : D ≠ pK := Ne.symm (ne_of_none nK4.at_ hD)
        have g0 : Frm [] H4 (upd H4 D (.lst [])) := Frm.of (same_upd hD)
        refine lc_list (K := K) (a := q) (xs := ord.map fun p => V.ref p.2.1) (fun j H' => ∃ (vs : List Nat) (kv' : List NE), H' D = some (.lst (vs.map fun n => V.int (n : Nat))) ∧ vs.length = j ∧ (∀ (i : Nat) (p : Pw) (v : Nat), ord[i]? = some p → vs[i]? = some v → Lst ms (partL b p.1 (selS ss ps)) v ∧ v + 1 ≤ p.2.2.2.length) ∧ Frm [pK] H4 H' ∧ NDt P w H' pK kv' ∧ KnW ms ss kv')
          ⟨[], kv1, upd_same, rfl, by simp, g0.mono (by simp), nK4.lay g0, k1⟩ (fun j H' _ ⟨_, _, _, _, _, f, _, _⟩ => SqL.of (f.k _ _ u4 rfl (by rw [List.mem_singleton]; exact nd_out u4 nK4.at_))) ?_ ?_
        · rintro jj y H5 hj ⟨vs, kv5, e5, vl, hv, f5, nK5, k5⟩
          obtain ⟨p, hpo, rfl⟩ : ∃ p, ord[jj]? = some p ∧ y = V.ref p.2.1 := by
            rw [List.getElem?_map] at hj
            obtain ⟨u, a1, a2⟩ := Option.map_eq_some_iff.mp hj
            exact ⟨u, a1, a2.symm⟩
          have hpm := om p (List.mem_of_getElem? hpo)
          have jl := (List.getElem?_eq_some_iff.mp hpo).1
          have tk5 := frm_tup nK4 f5
          have n5 : NDt P w H5 d (encP pcs) := n4.keep (f5.k _ _ n4.at_ rfl (by simpa using ndK)) tk5
          have to5 := to4.step nK4 f5
          have kp5 := nk_bb (tk5 _ _ (pw4.ks p hpm))
          have lp5 : H5 p.2.2.1 = some (.lst (p.2.2.2.map fun n => V.int (n : Nat))) := f5.k _ _ (pw4.ls p hpm) rfl (by rw [List.mem_singleton]; exact nd_out (pw4.ls p hpm) nK4.at_)
          obtain ⟨q1, q2, q3, q4⟩ := plen p hpm
          refine ⟨rfl, _, rfl, _, rfl, _, rfl, d, encP pcs, keyB p.1, p.2.1, .ref p.2.2.1, rfl, rfl, n5, kp5, keyB_depth _, nval_enc_at pw3.nd hpm, .inl ⟨p.2.2.1, _, rfl, SqL.of lp5, fun t ht => ?_⟩⟩
          refine new_to ht fun H6 g6 u6 => ?_
          have nK6 := nK5.lay g6
          refine ⟨_, rfl, pT, t, pK, od, tks, ms, ss, p.2.2.2, kv5, rfl, to5.keep g6, u6, q1, by omega, q3, s16, snd, sep, m100, nK6, k5, fun v kv7 H7 lst ln nK7 k7 f7 => ?_⟩
          rw [q4] at lst
          have f46 : Frm [pK] H4 H6 := f5.trans (g6.mono (by simp))
          have e6 := g6.k _ _ e5 rfl (by simp)
          have e7 : H7 D = some (.lst (vs.map fun n => V.int (n : Nat))) := f7.k _ _ e6 rfl (by simpa using nDK)
          refine ⟨_, e7, by rw [List.length_map]; exact small1000 (by omega), vs ++ [v], kv7, by rw [upd_same, List.map_append]; rfl, by rw [List.length_append, vl]; rfl, fun i p' v' h1 h2 => ?_, (f46.trans f7).new hD, nK7.keep (by rw [upd_ne (Ne.symm nDK)]; exact nK7.at_) (lst_tup e7), k7⟩
          by_cases e : i < vs.length
          · rw [List.getElem?_append_left e] at h2
            exact hv i p' v' h1 h2
          · have hi := (List.getElem?_eq_some_iff.mp h2).1
            rw [List.length_append] at hi
            have e : i = vs.length := by
              have : [v].length = 1 := rfl
              omega
            subst e
            rw [List.getElem?_append_right (Nat.le_refl _), Nat.sub_self] at h2
            cases h2
            rw [vl, hpo] at h1
            cases h1
            exact ⟨lst, ln⟩
        rintro H5 ⟨vs, kv5, e5, vl, hv, f5, nK5, k5⟩
        rw [List.length_map] at vl
        have e5' : H5 D = some (.lst ((vs.map fun n => ((n : Nat) : Int)).map V.int)) := by rw [e5, List.map_map]; rfl
        refine ⟨D, _, rfl, SqL.of e5', by rw [List.length_map]; omega, fun mx hm hx => ⟨_, _, rfl, rfl, _, _, rfl, ?_⟩⟩
        obtain ⟨mn, hmn, rfl⟩ := List.mem_map.mp hm
        have hx : ∀ v ∈ vs, v ≤ mn := fun v hv' => by
          have := hx _ (List.mem_map.mpr ⟨v, hv', rfl⟩)
          omega
        obtain ⟨i0, hi0⟩ := List.mem_iff_getElem?.mp hmn
        obtain ⟨p0, hp0⟩ : ∃ p, ord[i0]? = some p := ⟨_, List.getElem?_eq_getElem (by have := (List.getElem?_eq_some_iff.mp hi0).1; omega)⟩
        have l0 := hv i0 p0 mn hp0 hi0
        have ln0 : mn + 2 ≤ ps.length := by
          have := (plen p0 (om p0 (List.mem_of_getElem? hp0))).2.1
          omega
        have vb : ValB ms b (selS ss ps) mn := by
          have hc : ∀ c : BB, ∃ v, Lst ms (partL b c (selS ss ps)) v ∧ v ≤ mn := fun c => by
            by_cases e : partL b c (selS ss ps) = []
            · exact ⟨0, by rw [e]; exact Lst.one (by simp), Nat.zero_le _⟩
            · obtain ⟨s, hs⟩ := List.exists_mem_of_ne_nil _ e
              obtain ⟨hs1, hs2⟩ := mem_part.mp hs
              obtain ⟨i1, hi1, rfl⟩ := List.mem_map.mp hs1
              obtain ⟨p, hp, ep⟩ := pw3.al i1 hi1
              have ec' : p.1 = c := ep.trans hs2
              obtain ⟨i2, hi2⟩ := List.mem_iff_getElem?.mp (po.mem_iff.mpr hp)
              obtain ⟨v, hv2⟩ : ∃ v, vs[i2]? = some v := ⟨_, List.getElem?_eq_getElem (by have := (List.getElem?_eq_some_iff.mp hi2).1; omega)⟩
              have := (hv i2 p v hi2 hv2).1
              rw [ec'] at this
              exact ⟨v, this, hx v (List.mem_of_getElem? hv2)⟩
          refine ⟨fun c => Classical.choose (hc c), fun c => (Classical.choose_spec (hc c)).1, fun c => (Classical.choose_spec (hc c)).2, p0.1, ?_⟩
          exact (Classical.choose_spec (hc p0.1)).1.uniq l0.1
        refine ⟨_, _, _, _, _, kv5, rfl, ?_, nK5, k5, f04.trans f5⟩
        have lastb : ∀ {v : Nat}, (∀ b' ∈ ms.take i, Splits b' (selS ss ps) → ∃ m, ValB ms b' (selS ss ps) m ∧ v ≤ m + 1) → v ≤ mn + 1 → ∀ b' ∈ ms.take (i + 1), Splits b' (selS ss ps) → ∃ m, ValB ms b' (selS ss ps) m ∧ v ≤ m + 1 := fun h1 h2 b' hb' s' => by
          rw [take_snoc hbi] at hb'
          rcases List.mem_append.mp hb' with z | z
          · exact h1 b' z s'
          · rw [List.mem_singleton.mp z]
            exact ⟨mn, vb, h2⟩
        rcases fa1 with ⟨rfl, g⟩ | ⟨v, rfl, g2, g3, g4⟩
        · rw [if_pos (by omega)]
          exact .inr ⟨mn + 1, by omega, ⟨b, hbm, mn, vb, rfl⟩, lastb (fun b' hb' s' => absurd s' (g b' hb')) (Nat.le_refl _), by omega⟩
        · by_cases c : 1 + (mn : Int) < v
          · rw [if_pos c]
            exact .inr ⟨mn + 1, by omega, ⟨b, hbm, mn, vb, rfl⟩, lastb (fun b' hb' s' => let ⟨m, a1, a2⟩ := g3 b' hb' s'; ⟨m, a1, by omega⟩) (Nat.le_refl _), by omega⟩
          · rw [if_neg c]
            exact .inr ⟨v, rfl, g2, lastb g3 (by omega), g4⟩
    · rintro σ H1 ⟨fv, v4, v5, v6, v7, kv1, rfl, fa1, n1, k1, f1⟩
      rw [List.length_map, tml] at fa1
      obtain ⟨v, rfl, lst, ln⟩ : ∃ v : Nat, fv = v ∧ Lst ms (selS ss ps) v ∧ v + 1 ≤ ps.length := by
        rcases fa1 with ⟨_, g⟩ | ⟨v, rfl, g2, g3, g4⟩
        · obtain ⟨b, hb, z⟩ := sep.splits (fun s hs => (sel_sub sub).subset hs) skn (by omega)
          exact absurd z (g b (by rw [List.take_length]; exact hb))
        · rw [List.take_length] at g3
          exact ⟨v, rfl, lst_best (by omega) g2 g3, g4⟩
      have nk1 := NK.keep (frm_tup nd f1) _ _ nk
      have kl := k1.len s16
      have up := upd_tup (o := ND P w pK (nput kv1 (keyN ps) pt (.int v))) n1.at_
      refine ⟨_, rfl, _, rfl, _, rfl, pK, kv1, keyN ps, pt, rfl, rfl, n1, nk1, keyN_depth _, by rw [sizeLine_eq]; omega, ?_⟩
      have n2 : NDt P w (upd H1 pK (ND P w pK (nput kv1 (keyN ps) pt (.int v)))) pK (nput kv1 (keyN ps) pt (.int v)) := ⟨upd_same, fun p hp => let q := nput_ks n1.ks nk1 (keyN_depth _) p hp; ⟨NK.keep up _ _ q.1, q.2⟩⟩
      exact ⟨_, rfl, _, rfl, pK, _, keyN ps, pt, .int v, rfl, rfl, n2, NK.keep up _ _ nk1, keyN_depth _, nval_put, k v _ _ lst ln n2 (k1.put sub lst ln) (f1.put (by simp))⟩
theorem worst_0 (T : Txt P w K mg base) : CalX CX0 P w K mg base 1 "_law_worst" (spWorst P w 0) := by
  obtain ⟨fd, F⟩ := T.t.def_ 26 (d := d_lworst)
  refine ⟨_, fd, _, F.ok sc_lworst (fun vs H Q E h => ?_) (fun cdv A outer s H vs Q E hr h => ?_), He.glo_ok T.X T.G (T.t.fact 26), F.kp, F.bindsN fun _ _ _ _ _ _ us hl => match us, hl with | [_, _, _], _ => rfl⟩
  · obtain ⟨pT, pt, pK, od, tks, ms, ss, ps, kvs, rfl, to, et, p1, pn, _⟩ := h
    omega
  · obtain ⟨pT, pt, pK, od, tks, ms, ss, ps, kvs, rfl, to, et, p1, pn, _⟩ := h
    omega
theorem c_lworst (T : Txt P w K mg base) : ∀ n : Nat, CalX CX0 P w K mg base (1 + n) "_law_worst" (spWorst P w n)
  | 0 => worst_0 T
  | n + 1 => worst_of T (c_lworst T n)
end
end B

set_option Elab.async false
set_option linter.all false
set_option maxRecDepth 100000
set_option maxHeartbeats 4000000
namespace B
open PySem PySem.Spec PyProof.Rows L2
open SX (S)
/-! ### the law goes along a plan -/
theorem if_ntG {A B : Prop} (h : B) : if (!true) = true then A else B := h
theorem Goes.uniq {H : Hp} {W : Nat} {v : V} {s : List Str} {k : Nat} (g : Goes H W v s k) : ∀ {j : Nat}, Goes H W v s j → k = j := by
  induction g with
  | hung a b =>
    intro j h
    cases h with
    | hung _ _ => rfl
    | look a' _ _ _ _ _ =>
      rw [a] at a'
      cases a'
  | look a b c d e _ ih =>
    intro j h
    cases h with
    | hung a' _ =>
      rw [a] at a'
      cases a'
    | look a' b' c' d' e' g' =>
      rw [a] at a'
      cases a'
      rw [c] at c'
      cases c'
      rw [e] at e'
      cases e'
      rw [ih g']
theorem Goes.ref {H : Hp} {W : Nat} {v : V} {s : List Str} {k : Nat} (g : Goes H W v s k) : ∃ t xs, v = .ref t ∧ H t = some (.tup xs) := by
  cases g with
  | hung a _ => exact ⟨_, _, rfl, a⟩
  | look a _ _ _ _ _ => exact ⟨_, _, rfl, a⟩
theorem al_hung {K : PySem.W.Frag} {H : Hp} {t t' q q' : Addr} {xs : List Str} (h1 : H t = some (.tup [.str "hung", .ref q])) (h2 : H q = some (.tup (xs.map V.str))) (h3 : H t' = some (.tup [.str "hung", .ref q'])) (h4 : H q' = some (.tup (xs.map V.str))) (hl : xs.length ≤ 100000) : AL2 K (.ref t) (.ref t') H := by
  refine .inr ⟨t, t', _, _, rfl, rfl, .inr ⟨h1, h3⟩, rfl, by show 2 ≤ 100000; decide, fun i a b ha hb => ?_⟩
  match i, ha, hb with
  | 0, ha, hb => cases ha; cases hb; exact .inl (.inr (.inl ⟨_, rfl, rfl⟩))
  | 1, ha, hb =>
    cases ha
    cases hb
    refine .inr ⟨q, q', _, _, rfl, rfl, .inr ⟨h2, h4⟩, rfl, by rw [List.length_map]; exact hl, fun i a b ha hb => ?_⟩
    rw [ha] at hb
    cases hb
    rw [List.getElem?_map] at ha
    obtain ⟨x, _, rfl⟩ := Option.map_eq_some_iff.mp ha
    exact .inl (.inr (.inl ⟨x, rfl, rfl⟩))
section
variable {P : Program} {w : World} {K : PySem.W.Frag} {mg : Str → Option Value} {base : Heap}
def spGoes (K : PySem.W.Frag) : Sp := fun vs H Q _ => ∃ (pl : V) (pS : Addr) (zs : List (Addr × List Str)) (W n : Nat), vs = [pl, .ref pS] ∧ SZ H pS zs ∧ PlanOk H W pl (zs.map (·.2)) n ∧ n ≤ 15 ∧ zs.length ≤ 64 ∧ W ≤ 12 ∧ (∀ z ∈ zs, (∀ x ∈ z.2, Num W x) ∧ z.2.length ≤ 8) ∧
  ∀ H', Frm [] H H' → Q (.int (n : Nat)) H'
theorem c_lgoes (T : Txt P w K mg base) : CalX CX0 P w K mg base 5 "_law_goes" (spGoes K) := by
  obtain ⟨fd, F⟩ := T.t.def_ 27 (d := d_lgoes)
  refine ⟨_, fd, _, F.ok sc_lgoes (fun vs H Q E h => ?_) (fun cdv A outer s H vs Q E hr h => ?_), He.glo_ok T.X T.G (T.t.fact 27), F.kp, F.bindsN fun _ _ _ _ _ _ us hl => match us, hl with | [_, _], _ => rfl⟩
  · obtain ⟨pl, pS, zs, W, n, rfl, _⟩ := h
    rfl
  · obtain ⟨pl, pS, zs, W, n, rfl, sz, pk, n15, z64, hW, hz, k⟩ := h
    refine ⟨_, PSs.nox (pss_cons (ps_set (i := 2) sc_lgoes.nd rfl (Or.inl rfl) pe_int)
    (pss_cons (ps_for PassesOwn.never rfl (pi_list (pv 1)) (pg_name (i := 3) sc_lgoes.nd rfl (Or.inl rfl))
      (pss_cons (ps_set (i := 4) sc_lgoes.nd rfl (Or.inl rfl) (pv 0))
      (pss_cons (ps_set (i := 5) sc_lgoes.nd rfl (Or.inl rfl) pe_int)
      (pss_cons (ps_while PassesOwn.never (PW.pt (pw_and (pt_val (pe_callB call_isi (by rfl) (n_isinstance T) (by decide +kernel) (pa_cons (pv 4) (pa_cons (pe_bltn (v := .ty "tuple") (u := .type "tuple") rfl (n_tuple T) (by decide +kernel) rfl) pa_nil)))) (pw_and (pt_cmpR op_eq (pe_ix ix_seq (pv 4) pe_int (fun _ _ => rfl)) pe_str (nomark _)) (pw_and1 (pt_cmpR op_lt (pv 5) pe_int (nomark _))))))
        (pss_cons (ps_asg (pe_cx (c_llook3 T) hr (by decide) rfl pass0 (pa_cons (pv 3) (pa_cons (pe_ix ix_seq (pv 4) pe_int (fun _ _ => rfl)) pa_nil))) (pg_tup rfl (pgs_cons (pg_name (i := 6) sc_lgoes.nd rfl (Or.inl rfl)) (pgs_cons (pg_name (i := 7) sc_lgoes.nd rfl (Or.inl rfl)) pgs_nil))))
        (pss_cons (ps_set (i := 4) sc_lgoes.nd rfl (Or.inl rfl) (pe_ix ix_seq (pe_ix ix_seq (pv 4) pe_int (fun _ _ => rfl)) (pe_op op_add (pe_op op_mul pe_int (pe_callTy call_int1 (by rfl) (n_int T) (by decide +kernel) (pa_cons (pv 6) pa_nil))) (pe_callTy call_int1 (by rfl) (n_int T) (by decide +kernel) (pa_cons (pv 7) pa_nil))) (fun _ _ => rfl)))
        (pss_one (ps_set (i := 5) sc_lgoes.nd rfl (Or.inl rfl) (pe_op op_add (pv 5) pe_int))))))
      (pss_cons (ps_if (pt_not (pt_val (pe_cx (c_lalike T) hr (by decide) rfl pass0 (pa_cons (pv 4) (pa_cons (pe_tup (pa_cons pe_str (pa_cons (pe_tupleOf rfl (n_tuple T) (pv 3)) pa_nil))) pa_nil)))))
        (pss_one (ps_ret pe_non))
        pss_nil)
      (pss_one (ps_set (i := 2) sc_lgoes.nd rfl (Or.inl rfl) (pe_callB (call_max2 rfl) (by rfl) (n_max T) (by decide +kernel) (pa_cons (pv 2) (pa_cons (pv 5) pa_nil))))))))))
    (pss_one (ps_ret (pv 2))))), ?_⟩
    refine ⟨_, rfl, pS, rfl, ⟨_, SqL.of sz.1⟩, for_list (K := K) (a := pS) (xs := zs.map fun z => V.ref z.1) (fun i σ H' => ∃ (mx : Nat) (v3 v4 v5 v6 v7 : Option V), σ = [some pl, some (.ref pS), some (.int (mx : Nat)), v3, v4, v5, v6, v7] ∧ mx ≤ n ∧ (∀ z ∈ zs.take i, ∀ kk, kk ≤ n → Goes H W pl z.2 kk → kk ≤ mx) ∧ Frm [] H H')
      ⟨0, _, _, _, _, _, rfl, Nat.zero_le _, by simp, Frm.refl _ _⟩ (fun i σ H' _ ⟨_, _, _, _, _, _, _, _, _, f⟩ => SqL.of (f.k _ _ sz.1 rfl (by simp))) ?_ ?_⟩
    · rintro i y σ H1 hi ⟨mx, v3, v4, v5, v6, v7, rfl, hmx, hgo, f1⟩
      obtain ⟨z, hz1, rfl⟩ := at_sz hi
      have hzm := List.mem_of_getElem? hz1
      obtain ⟨kk, hkn, hgo1⟩ := pk.all z.2 (List.mem_map.mpr ⟨z, hzm, rfl⟩)
      have hg1 := hgo1.keep (fr0_tup f1)
      obtain ⟨hnum, hl8⟩ := hz z hzm
      refine ⟨_, rfl, ?_⟩
      refine while_go (fun (x : V × Nat) m σ H' => m = x.2 ∧ ∃ v6 v7 : Option V, σ = [some pl, some (.ref pS), some (.int (mx : Nat)), some (.ref z.1), some x.1, some (.int ((kk - x.2 : Nat) : Int)), v6, v7] ∧ x.2 ≤ kk ∧ Goes H' W x.1 z.2 x.2 ∧ Frm [] H1 H') (fun x => x.2 ≠ 0)
        ⟨(pl, kk), kk, rfl, _, _, by rw [Nat.sub_self]; rfl, Nat.le_refl _, hg1, Frm.refl _ _⟩ ?_ ?_ ?_
      · rintro ⟨v, r⟩ m σ H2 ⟨rfl, v6, v7, rfl, hr2, hg, f2⟩ Kc kT kF
        cases hg with
        | hung a b =>
          refine ⟨_, rfl, _, _, _, _, true, rfl, .ty _, .base (.tup a), kit_ty (by decide +kernel), true, rfl, iteT ?_⟩
          refine ⟨_, rfl, .inr (.inl ⟨_, _, 0, _, rfl, rfl, SqT.of a, rfl, rfl, _, rfl, iteF ?_⟩)⟩
          exact kF (by simp) _ (Frm.refl _ _)
        | look a b c d e g =>
          refine ⟨_, rfl, _, _, _, _, true, rfl, .ty _, .base (.tup a), kit_ty (by decide +kernel), true, rfl, iteT ?_⟩
          refine ⟨_, rfl, .inr (.inl ⟨_, _, 0, _, rfl, rfl, SqT.of a, rfl, rfl, _, rfl, iteT ?_⟩)⟩
          refine ⟨_, rfl, _, _, rfl, rfl, _, rfl, ?_⟩
          rw [decide_eq_true (by omega)]
          exact kT (by simp) _ (Frm.refl _ _)
      · rintro ⟨v, r⟩ m σ H2 H3 ⟨rfl, v6, v7, rfl, hr2, hg, f2⟩ hr0 f3
        have hg := hg.keep (fr0_tup f3)
        cases hg with
        | hung a b => exact absurd rfl hr0
        | @look t q b ps vn _ r a bl c d e g =>
          have f13 := f2.trans f3
          have f03 := f1.trans f13
          refine ⟨_, rfl, _, rfl, .inr (.inl ⟨t, _, 1, _, rfl, rfl, SqT.of a, rfl, ?_⟩)⟩
          refine ⟨z.1, W, b.cps.toList, z.2, by rw [S_cps]; rfl, f03.k _ _ (sz.2 z hzm) rfl (by simp), hnum, bl, hW, fun tl H4 htl etl f4 => ?_⟩
          refine ⟨tl, _, rfl, SqT.of etl, rfl, _, _, rfl, _, _, rfl, rfl, ?_⟩
          have a4 := fr0_tup f4 _ _ a
          have c4 := fr0_tup f4 _ _ c
          have hat : ∀ (z o : Bool), ps[ansB (z, o)]? = some vn → atI ps (2 * (if z = true then 1 else 0) + (if o = true then 1 else 0)) = some vn := by
            intro z o h
            cases z <;> cases o
            · exact atI_nat (j := 0) h
            · exact atI_nat (j := 1) h
            · exact atI_nat (j := 2) h
            · exact atI_nat (j := 3) h
          refine ⟨_, rfl, .inr (.inl ⟨t, _, 2, .ref q, rfl, rfl, SqT.of a4, rfl, _, rfl, .inr ⟨_, rfl, _, _, rfl, rfl, .inl (by decide), _, rfl, .inr ⟨_, rfl, _, _, rfl, rfl, .inr (.inl ⟨q, ps, _, vn, rfl, rfl, SqT.of c4, hat _ _ e, ?_⟩)⟩⟩⟩)⟩
          have hk1 : r + 1 ≤ kk := hr2
          have ek : (((kk - r : Nat)) : Int) = ((kk - (r + 1) : Nat) : Int) + 1 := by omega
          refine ⟨_, rfl, _, _, rfl, rfl, r, Nat.lt_succ_self r, (vn, r), rfl, some (.bl (z.2.any (starts (b.cps.toList ++ [48])))), some (.bl (z.2.any (starts (b.cps.toList ++ [49])))), ?_, Nat.le_of_succ_le hk1, g.keep (fr0_tup f4), f13.trans f4⟩
          show _ = [some pl, some (.ref pS), some (.int (mx : Nat)), some (.ref z.1), some vn, some (.int ((kk - r : Nat) : Int)), _, _]
          rw [ek]
          rfl
      · rintro ⟨v, r⟩ m σ H2 H3 ⟨rfl, v6, v7, rfl, hr2, hg, f2⟩ hr0 f3
        have r0 : m = 0 := by simpa using hr0
        subst r0
        have hg := hg.keep (fr0_tup f3)
        cases hg with
        | @hung t q _ a b =>
          have f13 := f2.trans f3
          have f03 := f1.trans f13
          refine ⟨_, rfl, _, rfl, .inl ⟨z.1, _, rfl, SqL.of (f03.k _ _ (sz.2 z hzm) rfl (by simp)), fun q2 hq2 => ?_⟩⟩
          refine new_to hq2 fun H4 g4 u4 => ⟨by show 2 ≤ sizeLine; decide, fun t2 ht2 => ?_⟩
          refine new_to ht2 fun H5 g5 u5 => ?_
          have g35 := g4.trans g5
          refine ⟨_, _, rfl, al_hung (fr0_tup g35 _ _ a) (fr0_tup g35 _ _ b) u5 (fr0_tup g5 _ _ u4) (by omega), fun H6 f6 => ⟨true, rfl, ?_⟩⟩
          refine if_ntG ?_
          have f06 := f03.trans (g35.trans f6)
          have fin : ∀ mx' : Nat, mx ≤ mx' → kk ≤ mx' → ∀ z' ∈ zs.take (i + 1), ∀ k', k' ≤ n → Goes H W pl z'.2 k' → k' ≤ mx' := fun mx' h1 h2 z' hz' k' hk' g' => by
            rw [take_snoc hz1] at hz'
            rcases List.mem_append.mp hz' with e | e
            · exact Nat.le_trans (hgo z' e k' hk' g') h1
            · rw [List.mem_singleton.mp e] at g'
              rw [g'.uniq hgo1]
              exact h2
          by_cases c : mx < kk
          · refine ⟨_, rfl, _, rfl, _, _, rfl, kk, some (.ref z.1), some (.ref t), some (.int ((kk - 0 : Nat) : Int)), v6, v7, ?_, hkn, fin kk (by omega) (Nat.le_refl _), f06⟩
            show [some pl, some (.ref pS), some (.int (if ((kk - 0 : Nat) : Int) > (mx : Int) then ((kk - 0 : Nat) : Int) else (mx : Int))), _, _, _, _, _] = _
            rw [if_pos (show ((kk - 0 : Nat) : Int) > (mx : Int) by omega)]
            rfl
          · refine ⟨_, rfl, _, rfl, _, _, rfl, mx, some (.ref z.1), some (.ref t), some (.int ((kk - 0 : Nat) : Int)), v6, v7, ?_, hmx, fin mx (Nat.le_refl _) (by omega), f06⟩
            show [some pl, some (.ref pS), some (.int (if ((kk - 0 : Nat) : Int) > (mx : Int) then ((kk - 0 : Nat) : Int) else (mx : Int))), _, _, _, _, _] = _
            rw [if_neg (show ¬ ((kk - 0 : Nat) : Int) > (mx : Int) by omega)]
    · rintro σ H1 ⟨mx, v3, v4, v5, v6, v7, rfl, hmx, hgo, f1⟩
      rw [List.length_map, List.take_length] at hgo
      obtain ⟨s, hs, g⟩ := pk.top
      obtain ⟨z, hzm, rfl⟩ := List.mem_map.mp hs
      have := hgo z hzm n (Nat.le_refl _) g
      have e : mx = n := by omega
      subst e
      exact ⟨_, rfl, k H1 f1⟩
end
end B

set_option Elab.async false
set_option linter.all false
set_option maxRecDepth 100000
set_option maxHeartbeats 4000000
namespace B
open PySem PySem.Spec PyProof.Rows L2
open SX (S)
/-! ### what laws of rosters want beside -/
theorem row_ne {r a p : Addr} {H : Hp} {xs : List Str} (hR : RowAt r a H) (h : H p = some (.lst (xs.map V.str))) : p ≠ r := by
  rintro rfl
  obtain ⟨i, m, b, e, _⟩ := hR
  rw [h] at e
  have e := HO.lst.inj (Option.some.inj e)
  cases xs with
  | nil => cases e
  | cons x l => cases e
theorem row_refs {r a q : Addr} {H : Hp} {ws : List Addr} (hR : RowAt r a H) (h : H q = some (.lst (ws.map V.ref))) : q ≠ r := fun e => by
  obtain ⟨i, j, k, z, _⟩ := hR
  rw [e, z] at h
  have q3 := HO.lst.inj (Option.some.inj h)
  have q4 : ([V.ref a, V.int i, V.int j, V.int k] : List V)[1]? = (ws.map V.ref)[1]? := congrArg (fun l : List V => l[1]?) q3
  rw [List.getElem?_map] at q4
  cases c : ws[1]? with
  | none => rw [c] at q4; cases q4
  | some z => rw [c] at q4; cases q4
theorem refs_map {α : Type} (zs : List (Addr × α)) : (zs.map fun z => V.ref z.1) = (zs.map (·.1)).map V.ref := by
  rw [List.map_map]
  rfl
theorem SZ.taken {r a p : Addr} {H H' : Hp} {zs : List (Addr × List Str)} (h : SZ H p zs) (hR : RowAt r a H) (f : Frm [r] H H') : SZ H' p zs := by
  have e1 := h.1
  rw [refs_map] at e1
  exact ⟨f.k _ _ h.1 rfl (by simpa using row_refs hR e1), fun z hz => f.k _ _ (h.2 z hz) rfl (by simpa using row_ne hR (h.2 z hz))⟩
theorem cut_to10 (xs : List V) (n : Nat) : cutV xs none (some (n : Int)) = xs.take n := by
  show (xs.drop 0).take (min n xs.length - 0) = xs.take n
  rw [List.drop_zero, Nat.sub_zero]
  rcases Nat.le_total n xs.length with h | h
  · rw [Nat.min_eq_left h]
  · rw [Nat.min_eq_right h, List.take_of_length_le (Nat.le_refl _), List.take_of_length_le h]
def greatL (bs : List Nat) : List Str := ((everyN 3).zip bs).map fun p => S (p.1 ++ [p.2])
theorem mem_every : ∀ {n : Nat} {l : List Nat}, Bits l → l.length = n → l ∈ everyN n
  | 0, l, _, h => by
    rw [List.length_eq_zero_iff.mp h]
    exact List.mem_singleton.mpr rfl
  | n + 1, l, hb, h => by
    have ne : l ≠ [] := fun e => by rw [e] at h; cases h
    have e := (List.dropLast_concat_getLast ne).symm
    generalize hq : l.dropLast = q at e
    generalize hk : l.getLast ne = k at e
    clear hq hk ne
    subst e
    rw [List.length_append] at h
    refine List.mem_flatMap.mpr ⟨q, mem_every (fun c hc => hb c (by simp [hc])) (by simpa using h), ?_⟩
    rcases hb k (by simp) with rfl | rfl
    · simp
    · simp
theorem great_ok {bs : List Nat} (hb : Bits bs) (h : bs.length = 8) : riseB (greatL bs) = true ∧ (greatL bs).all (numB 4) = true ∧ (greatL bs).length = 8 := by
  have z : (everyN 8).all (fun bs => riseB (greatL bs) && ((greatL bs).all (numB 4) && decide ((greatL bs).length = 8))) = true := by decide +kernel
  have := List.all_eq_true.mp z bs (mem_every hb h)
  simp only [Bool.and_eq_true, decide_eq_true_eq] at this
  exact this
end B

set_option Elab.async false
set_option linter.all false
set_option maxRecDepth 100000
set_option maxHeartbeats 4000000
namespace B
open PySem PySem.Spec PyProof.Rows L2
open SX (S)
structure Bas12 (K : PySem.W.Frag) (H0 H : Hp) (r a p pS : Addr) (xs : List Str) (zs : List (Addr × List Str)) : Prop where
  row : RowAt r a H
  ros : H p = some (.lst (xs.map V.str))
  sets : SZ H pS zs
  fr : FrT K [] H0 H
section
variable {K : PySem.W.Frag} {H0 H H' : Hp} {r a p pS : Addr} {xs : List Str} {zs : List (Addr × List Str)}
theorem Bas12.layT (h : Bas12 K H0 H r a p pS xs zs) (f : FrT K [] H H') : Bas12 K H0 H' r a p pS xs zs :=
  ⟨f.row (by simp) h.row, f.k _ _ h.ros rfl (by simp), ⟨f.k _ _ h.sets.1 rfl (by simp), fun z hz => f.k _ _ (h.sets.2 z hz) rfl (by simp)⟩, h.fr.trans f⟩
theorem Bas12.lay (h : Bas12 K H0 H r a p pS xs zs) (f : Frm [] H H') : Bas12 K H0 H' r a p pS xs zs := h.layT (f.toT .nil)
/-- a thing of no roster, row or set is changed -/
theorem Bas12.step {kvs : List (Key × V)} {pT : Addr} (h : Bas12 K H0 H r a p pS xs zs) (hT : H pT = some (.dK kvs)) (h0 : H0 pT = none) (f : Frm [pT] H H') : Bas12 K H0 H' r a p pS xs zs := by
  have ne : ∀ {b : Addr} {ys : List V}, H b = some (.lst ys) → b ∉ [pT] := fun e z => by
    rw [List.mem_singleton] at z
    rw [z, hT] at e
    cases e
  obtain ⟨i, m, b, er, e0⟩ := h.row
  exact ⟨⟨i, m, b, f.k _ _ er rfl (ne er), e0⟩, f.k _ _ h.ros rfl (ne h.ros), ⟨f.k _ _ h.sets.1 rfl (ne h.sets.1), fun z hz => f.k _ _ (h.sets.2 z hz) rfl (ne (h.sets.2 z hz))⟩, h.fr.fresh (f.toT (.cons hT rfl .nil)) (by simpa using h0)⟩
end
def encT (tks : List Tk) : List (Key × V) := tks.map fun t => ((Sum.inr t.1 : Key), V.ref t.2.1)
/-- what is told is laid down, one beginning after another -/
structure ToldB (H : Hp) (pT : Addr) (tks : List Tk) (ms : List Str) (ss : SS) : Prop where
  at_ : H pT = some (.dK (encT tks))
  ms_ : tks.map (·.1) = ms
  tl : ∀ t ∈ tks, TldA H t.2.1 t.2.2 ∧ t.2.2.map (·.2) = ss.map (lkS t.1)
theorem ToldB.keep {H H' : Hp} {pT : Addr} {tks : List Tk} {ms : List Str} {ss : SS} (h : ToldB H pT tks ms ss) (f : Frm [] H H') : ToldB H' pT tks ms ss :=
  ⟨f.k _ _ h.at_ rfl (by simp), h.ms_, fun t ht => ⟨(h.tl t ht).1.keep f, (h.tl t ht).2⟩⟩
theorem tld_upd {H : Hp} {pT tl : Addr} {kvs : List (Key × V)} {cs : List (Addr × BB)} {o : HO} (d : H pT = some (.dK kvs)) (h : TldA H tl cs) : TldA (upd H pT o) tl cs :=
  ⟨by
    have e := h.1
    rw [upd_ne (fun z => by rw [z, d] at e; cases e)]
    exact e, fun c hc => by
    have e := h.2 c hc
    rw [upd_ne (fun z => by rw [z, d] at e; cases e)]
    exact e⟩
section
variable {P : Program} {w : World} {K : PySem.W.Frag} {mg : Str → Option Value} {base : Heap}
theorem lam_law : (pd_law, ("law.<locals>.<lambda>" : Str)) ∈ lams := by decide +kernel
def spLaw (K : PySem.W.Frag) : Sp := fun vs H Q _ => ∃ a : Addr, vs = [.ref a] ∧ Scr K a H ∧ Tb K H ∧ ∀ H', Q (.bl true) H'
theorem law_ok (T : Txt P w K mg base) {fd : FuncData} (F : FunD K d_law.name d_law.qual d_law.params d_law.body d_law.scope (He.DefD.dvs K d_law) (He.DefD.kws K d_law) (He.fAd K d_law.at_) fd) : FnOk P w K mg base CX0 37 (He.fAd K d_law.at_) fd ["_law_script"] (spLaw K) := by
  refine okT (p := pd_law) F sc_law (fun vs H Q E h => ?_) (fun A outer s H vs Q E hr h => ?_)
  · obtain ⟨a, rfl, _⟩ := h
    rfl
  · obtain ⟨a, rfl, hS, ht, k⟩ := h
    have hu := hu_of hr
    refine ⟨_, PSs.nox (pss_cons (ps_set (i := 1) sc_law.nd rfl (Or.inr rfl) (pe_lst (pa_cons (pv 0) (pa_cons pe_int (pa_cons pe_int (pa_cons pe_int pa_nil))))))
    (pss_cons (ps_for PassesOwn.never rfl (pi_range1 rfl (n_range T) (pa_cons pe_int pa_nil)) (pg_name (i := 2) sc_law.nd rfl (Or.inl rfl))
      (pss_cons (ps_set (i := 3) sc_law.nd rfl (Or.inl rfl) (pe_cx (c_lwidth T) hr (by decide) rfl pass0 (pa_cons (pv 1) pa_nil)))
      (pss_cons (ps_set (i := 4) sc_law.nd rfl (Or.inl rfl) (pe_cx (c_lrosterM T) hr (by decide) rfl pass0 (pa_cons (pv 1) (pa_cons (pv 3) (pa_cons (pe_ix ix_list (pe_lst (pa_cons pe_int (pa_cons pe_int (pa_cons pe_int pa_nil)))) (pe_cx (c_ltaken T) hr (by decide) rfl pass0 (pa_cons (pv 1) (pa_cons pe_int pa_nil))) (fun _ _ => rfl)) pa_nil)))))
      (pss_cons (ps_set (i := 5) sc_law.nd rfl (Or.inl rfl) (pe_cx (c_lsetsO T) hr (by decide) rfl pass0 (pa_cons (pv 4) pa_nil)))
      (pss_cons (ps_set (i := 6) sc_law.nd rfl (Or.inl rfl) pe_dnewK)
      (pss_cons (ps_for PassesOwn.never rfl (pi_list (pe_cx (c_lmet T) hr (by decide) rfl pass0 (pa_cons (pv 3) (pa_cons (pv 4) pa_nil)))) (pg_name (i := 7) sc_law.nd rfl (Or.inr rfl))
        (pss_one (ps_dput hu (pv 6) (pv 7) (pe_lc (own := [("_law_one", 13)]) (g := gName 13) rfl sc_law.nd (pi_list (pv 5)) (blkOk_by (N := ["_law_script", "_law_row", "_law_turn", "_law_width_here", "_law_roster_here", "_law_sets_here", "_law_told", "_law_beginning", "_law_due", "_law_handed", "_law_again", "_law_found", "_law_great", "_law_one", "_law_text"]) (sc := defScope s_law) (own := [("_law_one", 13)]) (by decide +kernel)) (fun _ _ _ _ _ => pg_name (i := 13) sc_law.nd rfl (Or.inl rfl)) (fun _ _ _ _ _ => pts_nil) (fun _ _ _ _ _ => by exact (pe_cx (c_llook3 T) hr (by decide) rfl pass0 (pa_cons (pv 13) (pa_cons (pv 7) pa_nil))))) rfl)))
      (pss_cons (ps_lock (ps_set (i := 8) sc_law.nd rfl (Or.inl rfl) (pe_cx (c_lworst T 16) hr (by decide) rfl pass0 (pa_cons (pv 6) (pa_cons (pe_tupRg rfl rfl (n_tuple T) (prg_1 rfl (n_range T) (pe_callB call_len_seq (by rfl) (n_len T) PySem.boot_len (pa_cons (pv 5) pa_nil)))) (pa_cons pe_nnew pa_nil))))))
      (pss_cons (ps_set (i := 9) sc_law.nd rfl (Or.inl rfl) (pe_callTy call_list_of (by rfl) (n_list T) (by decide +kernel) (pa_cons (pv 4) pa_nil)))
      (pss_one (ps_for PassesOwn.never rfl (pi_range1 rfl (n_range T) (pa_cons pe_int pa_nil)) (pg_name (i := 10) sc_law.nd rfl (Or.inl rfl))
        (pss_cons (ps_set (i := 11) sc_law.nd rfl (Or.inl rfl) (pe_cx (c_plan_of T) hr (by decide) rfl pass0 (pa_cons (pv 3) (pa_cons (pv 9) pa_nil))))
        (pss_cons (ps_if (PW.pt (pw_or (pt_not (pt_val (pe_callB call_isi (by rfl) (n_isinstance T) (by decide +kernel) (pa_cons (pv 11) (pa_cons (pe_bltn (v := .ty "tuple") (u := .type "tuple") rfl (n_tuple T) (by decide +kernel) rfl) pa_nil))))) (pw_or (pt_cmpR op_ne (pe_callB call_len_seq (by rfl) (n_len T) PySem.boot_len (pa_cons (pv 11) pa_nil)) pe_int (nomark _)) (pw_or1 (pt_cmpR (op_neD hr.units) (pv 9) (pv 4) (nomark _))))))
          (pss_one (ps_ret pe_bl))
          pss_nil)
        (pss_one (ps_if (PW.pt (pw_or (pt_not (pt_val (pe_cx (c_lalike T) hr (by decide) rfl pass0 (pa_cons (pe_ix ix_tup (pv 11) pe_int (fun _ _ => rfl)) (pa_cons (pv 8) pa_nil))))) (pw_or1 (pt_cmpR op_ne (pe_cx (c_lgoes T) hr (by decide) rfl pass0 (pa_cons (pe_ix ix_tup (pv 11) pe_int (fun _ _ => rfl)) (pa_cons (pv 5) pa_nil))) (pv 8) (nomark _)))))
          (pss_one (ps_ret pe_bl))
          pss_nil))))))))))))))
    (pss_cons (ps_set (i := 12) sc_law.nd rfl (Or.inr rfl) (pe_slice sl_list (pe_lc (own := [("_law_text", 14)]) (g := gName 14) rfl sc_law.nd (pi_list (pe_cx (c_levery T) hr (by decide) rfl pass0 (pa_cons pe_int pa_nil))) (blkOk_by (N := ["_law_script", "_law_row", "_law_turn", "_law_width_here", "_law_roster_here", "_law_sets_here", "_law_told", "_law_beginning", "_law_due", "_law_handed", "_law_again", "_law_found", "_law_great", "_law_one", "_law_text"]) (sc := defScope s_law) (own := [("_law_text", 14)]) (by decide +kernel)) (fun _ _ _ _ _ => pg_name (i := 14) sc_law.nd rfl (Or.inl rfl)) (fun _ _ _ _ _ => pts_nil) (fun _ _ _ _ _ => by exact (pe_op op_add_str (pv 14) (pe_ix ix_str pe_str (pe_cx (c_ltaken T) hr (by decide) rfl pass0 (pa_cons (pv 1) (pa_cons pe_int pa_nil))) (fun _ _ => rfl))))) po_none (po_some (pe_op op_add pe_int (pe_cx (c_ltaken T) hr (by decide) rfl pass0 (pa_cons (pv 1) (pa_cons pe_int pa_nil)))))))
    (pss_one (ps_ret (pe_cmpR op_eq (pe_word0 (k := 15) T rfl rfl (fun _ _ _ _ _ _ => rfl) (T.tb pd_law (by decide +kernel)) rfl (hr.mono (by decide)) (lamP_by (N := ["_law_script", "_law_row", "_law_turn", "_law_width_here", "_law_roster_here", "_law_sets_here", "_law_told", "_law_beginning", "_law_due", "_law_handed", "_law_again", "_law_found", "_law_great", "_law_one", "_law_text"]) (sc := defScope s_law) (by decide +kernel)) (fun _ _ _ _ _ _ _ hr => (pe_cx (c_plan_ofV T) hr (by decide) rfl (passes_call (takes_of rfl rfl rfl rfl) (fun _ _ _ _ h => h)) (pa_cons pe_int (pa_cons (pv 12) pa_nil)))) rfl) pe_str (nomark _))))))), ?_⟩
    refine ⟨_, rfl, by show 4 ≤ sizeLine; decide, fun r hr0 => ?_⟩
    refine new_to hr0 fun Ha ga ua => ?_
    have hRa : RowAt r a Ha := ⟨0, 0, 0, ua, by decide⟩
    have fa : FrT K [] H Ha := ga.toT .nil
    refine ⟨2, rfl, by decide, by decide, ?_⟩
    refine for_range (lo := 0) (n := (2 : Int).toNat) (fun i σ H' => ∃ (v2 v3 v4 v5 v6 v7 v8 v9 v10 v11 : Option V), σ = [some (.ref a), some (.ref r), v2, v3, v4, v5, v6, v7, v8, v9, v10, v11, none, none, none] ∧ RowAt r a H' ∧ FrT K [] H H')
      ⟨_, _, _, _, _, _, _, _, _, _, rfl, hRa, fa⟩ ?_ ?_
    · rintro i σ H1 hi ⟨v2, v3, v4, v5, v6, v7, v8, v9, v10, v11, rfl, hR1, f1⟩
      -- the width, the roster, its sets
      refine ⟨_, rfl, r, a, rfl, hR1, f1.scr .nil hS, fun W H2 w1 w2 hR2 f2 => ?_⟩
      have fb2 := f1.fresh (f2.toT hR1.nl) (by simpa using hr0)
      refine ⟨_, rfl, _, rfl, by show 3 ≤ sizeLine; decide, fun q3 hq3 => ?_⟩
      refine new_to hq3 fun H3 g3 u3 => ?_
      have hR3 : RowAt r a H3 := g3.row (by simp) hR2
      have nq3 : q3 ≠ r := (hR2.out hq3).symm
      have fb3 := fb2.trans (g3.toT .nil)
      refine ⟨_, rfl, r, a, 3, rfl, hR3, fb3.scr .nil hS, by decide, by decide, fun v4' H4 y0 y1 hR4 f4 => ?_⟩
      have fb4 := fb3.fresh (f4.toT hR3.nl) (by simpa using hr0)
      obtain ⟨m, hat, m1, m4⟩ : ∃ m : Int, atI [V.int 3, V.int 3, V.int 4] v4' = some (.int m) ∧ 1 ≤ m ∧ m ≤ 4 := by
        have : v4' = 0 ∨ v4' = 1 ∨ v4' = 2 := by omega
        rcases this with rfl | rfl | rfl
        · exact ⟨3, rfl, by decide, by decide⟩
        · exact ⟨3, rfl, by decide, by decide⟩
        · exact ⟨4, rfl, by decide, by decide⟩
      refine ⟨q3, _, v4', _, rfl, rfl, SqL.of (f4.k _ _ u3 rfl (by simpa using nq3)), hat, r, a, W, m, rfl, hR4, fb4.scr .nil hS, w2, m1, by omega, fun xs p H5 hne hn hlm hnd hss hp hR5 f5 => ?_⟩
      have fb5 := fb4.fresh (f5.toT hR4.nl) (by simpa using hr0)
      have hri : riseB xs = true := by
        unfold riseB
        rw [hss, decide_eq_true hnd]
        rfl
      have l1 : 1 ≤ xs.length := List.length_pos_iff.mpr hne
      have l4 : xs.length ≤ 4 := by omega
      refine ⟨_, rfl, p, xs, rfl, hp, by omega, fun pS zs H6 hpS sz ez zno f6 => ?_⟩
      have b6 : Bas12 K H H6 r a p pS xs zs := ⟨f6.row (by simp) hR5, f6.k _ _ hp rfl (by simp), sz, fb5.trans (f6.toT .nil)⟩
      have zl : zs.length = 2 ^ xs.length := by
        have := congrArg List.length ez
        rw [List.length_map, List.length_mergeSort, sets_len] at this
        exact this
      have zl1 : 1 ≤ zs.length := by rw [zl]; exact Nat.one_le_two_pow
      have zl2 : zs.length ≤ 16 := by rw [zl]; exact Nat.le_trans (Nat.pow_le_pow_right (by decide) l4) (by decide)
      have ez : zs.map (·.2) = rosS xs := ez
      have zmem : ∀ s, s ∈ rosS xs ↔ s.Sublist xs := fun s => by
        unfold rosS
        rw [List.mem_mergeSort, mem_sets]
      have znd : (rosS xs).Nodup := (List.mergeSort_perm _ _).nodup_iff.mpr (sets_nodupP hnd)
      clear fb5 hR5 hp f5 f4 hR4 fb4 u3 fb3 nq3 hR3 g3 hq3 fb2 f2 hR2 f1 hR1 f6 sz zno hpS y0 y1 hat hlm
      have scr : ∀ {H' : Hp}, Bas12 K H H' r a p pS xs zs → Scr K a H' := fun h => h.fr.scr .nil hS
      refine fun pT hpT => ?_
      have pT0 : H pT = none := b6.fr.b _ hpT
      refine new_to hpT fun H7 g7 u7 => ?_
      have b7 := b6.lay g7
      refine ⟨_, rfl, _, rfl, W, p, xs, rfl, b7.ros, hn, w1, w2, by omega, b7.fr.t ht, fun ms pB H8 hm hpB em f8 => ?_⟩
      have b8 := b7.layT f8
      have u8 := f8.k _ _ u7 rfl (by simp)
      have ml : ∀ b ∈ ms, b.cps.toList.length < W := fun b hb => by
        rcases (hm.mem b).mp hb with e | ⟨x, _, i, hi, e⟩
        · rw [e]
          show ("" : Str).cps.toList.length < W
          have : ("" : Str).cps.toList.length = 0 := by decide +kernel
          omega
        · rw [e, S_list, List.length_take]
          omega
      have ml2 : ms.length ≤ 100 := by
        have a2 := met_len hm
        have a3 : xs.length * W ≤ 4 * 12 := Nat.mul_le_mul l4 w2
        omega
      have hzn : ∀ z ∈ zs, ∀ x ∈ z.2, Num W x := fun z hz x hx => hn x (((zmem z.2).mp (by rw [← ez]; exact List.mem_map.mpr ⟨z, hz, rfl⟩)).subset hx)
      have nBT : pB ≠ pT := Ne.symm (ne_of_none u7 hpB)
      refine ⟨pB, rfl, ⟨_, SqL.of em⟩, ?_⟩
      refine for_list (K := K) (a := pB) (xs := ms.map V.str) (fun j σ H' => ∃ (v7 : Option V) (tks : List Tk), σ = [some (.ref a), some (.ref r), some (.int (0 + (i : Int))), some (.int W), some (.ref p), some (.ref pS), some (.ref pT), v7, v8, v9, v10, v11, none, none, none] ∧ ToldB H' pT tks (ms.take j) (zs.map (·.2)) ∧ H' pB = some (.lst (ms.map V.str)) ∧ Bas12 K H H' r a p pS xs zs)
        ⟨_, [], rfl, ⟨u8, by simp, by simp⟩, em, b8⟩ (fun j σ H' _ ⟨_, _, _, _, e, _⟩ => SqL.of e) ?_ ?_
      · rintro j y σ H9 hj ⟨v7, tks, rfl, tb9, em9, b9⟩
        obtain ⟨b, hbj, rfl⟩ := at_map hj
        have hbm := List.mem_of_getElem? hbj
        have jl := (List.getElem?_eq_some_iff.mp hbj).1
        refine ⟨_, rfl, pS, rfl, ⟨_, SqL.of b9.sets.1⟩, fun D hD => ?_⟩
        refine lc_list (K := K) (a := pS) (xs := zs.map fun z => V.ref z.1) (fun j H' => ∃ cs : List (Addr × BB), TldA H' D cs ∧ cs.map (·.2) = ((zs.map (·.2)).take j).map (lkS b) ∧ (∀ c ∈ cs, c.1 ≠ D) ∧ Frm [] H9 H')
          ⟨[], ⟨upd_same, by simp⟩, by simp, by simp, Frm.of (same_upd hD)⟩ (fun j H' _ ⟨_, _, _, _, f⟩ => SqL.of (f.k _ _ b9.sets.1 rfl (by simp))) ?_ ?_
        · rintro jj y H10 hjj ⟨cs, td, ec, nc, f10⟩
          obtain ⟨z, hz, rfl⟩ := at_sz hjj
          have hzm := List.mem_of_getElem? hz
          have lc : cs.length ≤ 64 := by
            have := congrArg List.length ec
            rw [List.length_map, List.length_map, List.length_take, List.length_map] at this
            omega
          refine ⟨rfl, _, rfl, _, rfl, z.1, W, b.cps.toList, z.2, by rw [S_cps]; rfl, f10.k _ _ (b9.sets.2 z hzm) rfl (by simp), hzn z hzm, ml b hbm, w2, fun t H11 htn et f11 => ?_⟩
          have td5 := td.keep f11
          have ntD : t ≠ D := Ne.symm (ne_of_none td.1 htn)
          refine ⟨_, td5.1, by rw [List.length_map]; exact small1000 (by omega), cs ++ [(t, lkS b z.2)], ⟨by rw [upd_same, List.map_append]; rfl, fun c hc => ?_⟩, ?_, fun c hc => ?_, (f10.trans f11).new hD⟩
          · rcases List.mem_append.mp hc with e | e
            · rw [upd_ne (nc c e)]
              exact td5.2 c e
            · rw [List.mem_singleton.mp e, upd_ne ntD]
              exact et
          · rw [List.map_append, ec, take_snoc (x := z.2) (by rw [List.getElem?_map, hz]; rfl), List.map_append]
            rfl
          · rcases List.mem_append.mp hc with e | e
            · exact nc c e
            · rw [List.mem_singleton.mp e]
              exact ntD
        rintro H10 ⟨cs, td, ec, nc, f10⟩
        rw [List.length_map, List.take_of_length_le (by rw [List.length_map]; exact Nat.le_refl _)] at ec
        have tb10 := tb9.keep f10
        have b10 := b9.lay f10
        have tl : tks.length ≤ 100 := by
          have := congrArg List.length tb10.ms_
          rw [List.length_map, List.length_take] at this
          omega
        have vn : valV (encT tks) (.inr b : Key) = none := by
          cases e : valV (encT tks) (.inr b : Key) with
          | none => rfl
          | some v =>
            exfalso
            unfold valV at e
            obtain ⟨kv, e1, _⟩ := Option.map_eq_some_iff.mp e
            have hmm := List.mem_of_find?_eq_some e1
            have ek : kv.1 = (.inr b : Key) := by
              have := List.find?_some e1
              exact of_decide_eq_true this
            obtain ⟨t, htm, rfl⟩ := List.mem_map.mp hmm
            have eb : t.1 = b := Sum.inr.inj ek
            have hin : b ∈ ms.take j := by
              rw [← tb10.ms_, ← eb]
              exact List.mem_map.mpr ⟨t, htm, rfl⟩
            obtain ⟨i', hi'⟩ := List.mem_iff_getElem?.mp hin
            have il := (List.getElem?_eq_some_iff.mp hi').1
            rw [List.length_take] at il
            rw [List.getElem?_take, if_pos (by omega)] at hi'
            have := (List.getElem?_inj (show i' < ms.length by omega) hm.nd).mp (hi'.trans hbj.symm)
            omega
        refine ⟨_, rfl, _, rfl, pT, _, rfl, DPut.k (k := .inr b) tb10.at_ (by unfold encT; rw [List.length_map]; exact small1000 (by omega)), ?_⟩
        rw [putK_new _ vn]
        have eT : encT tks ++ [((Sum.inr b : Key), V.ref D)] = encT (tks ++ [(b, D, cs)]) := by
          unfold encT
          rw [List.map_append]
          rfl
        rw [eT]
        refine ⟨_, tks ++ [(b, D, cs)], rfl, ⟨upd_same, ?_, fun t htm => ?_⟩, ?_, b10.step tb10.at_ pT0 ((Frm.refl _ _).put (by simp))⟩
        · rw [List.map_append, tb10.ms_, take_snoc hbj]
          rfl
        · rcases List.mem_append.mp htm with e | e
          · exact ⟨tld_upd tb10.at_ (tb10.tl t e).1, (tb10.tl t e).2⟩
          · rw [List.mem_singleton.mp e]
            exact ⟨tld_upd tb10.at_ td, ec⟩
        · rw [upd_ne nBT]
          exact f10.k _ _ em9 rfl (by simp)
      · rintro σ H9 ⟨v7, tks, rfl, tb9, em9, b9⟩
        rw [List.length_map, List.take_length] at tb9
        clear em9 u8 b8 u7 b7 g7 b6 em f8
        have ssl : (zs.map (·.2)).length ≤ 16 := by rw [List.length_map]; exact zl2
        have sepm : Sep ms (zs.map (·.2)) := by
          rw [ez]
          exact sep_met hn hri hm w1 fun s hs => (zmem s).mp hs
        -- how few looks do
        refine ⟨pT, _, tb9.at_, trivial, fun od => ?_⟩
        have g10 : Frm [pT] H9 (upd H9 pT (.frz od (.dK (encT tks)))) := (Frm.refl _ _).put (by simp)
        have e10 : (upd H9 pT (.frz od (.dK (encT tks)))) pT = some (.frz od (.dK (encT tks))) := upd_same
        have td10 : ∀ t ∈ tks, TldA (upd H9 pT (.frz od (.dK (encT tks)))) t.2.1 t.2.2 := fun t htm => tld_upd tb9.at_ (tb9.tl t htm).1
        have nST : pS ≠ pT := fun z => by
          have e := b9.sets.1
          rw [z, tb9.at_] at e
          cases e
        have s10 : (upd H9 pT (.frz od (.dK (encT tks)))) pS = some (.lst (zs.map fun z => V.ref z.1)) := by rw [upd_ne nST]; exact b9.sets.1
        generalize (upd H9 pT (.frz od (.dK (encT tks)))) = H10 at g10 e10 td10 s10 ⊢
        refine ⟨_, rfl, _, rfl, pS, _, rfl, .inl (SqL.of s10), _, rfl, RgOk.of_le (by decide) ?_ (by decide) (Int.natCast_nonneg _), fun pt hpt => ?_⟩
        · rw [List.length_map]
          omega
        have erg : rgV 0 ((zs.map fun z => V.ref z.1).length : Nat) = (List.range (zs.map (·.2)).length).map fun n => V.int (n : Nat) := by
          unfold rgV
          rw [List.length_map, List.length_map]
          have : ((zs.length : Int) - 0).toNat = zs.length := by omega
          rw [this]
          exact List.map_congr_left fun n _ => by rw [Int.zero_add]
        rw [erg]
        refine new_to hpt fun H11 g11 u11 => ?_
        intro pK hpK
        refine new_to hpK fun H12 g12 u12 => ?_
        have g1012 := g11.trans g12
        have to12 : ToldT H12 pT od tks ms (zs.map (·.2)) := ⟨g1012.k _ _ e10 rfl (by simp), tb9.ms_, hm.nd, fun t htm => ⟨(td10 t htm).keep g1012, (tb9.tl t htm).2⟩⟩
        refine ⟨pT, pt, pK, od, tks, ms, zs.map (·.2), List.range (zs.map (·.2)).length, [], rfl, to12, g12.k _ _ u11 rfl (by simp), by rw [List.length_range, List.length_map]; exact zl1, by rw [List.length_range]; exact ssl, List.Sublist.refl _, ssl, by rw [ez]; exact znd, sepm, ml2, .nil u12, ⟨List.nodup_nil, by simp⟩, fun due kv13 H13 lst ln n13 k13 f13 => ?_⟩
        rw [sel_all] at lst
        rw [List.length_range] at ln
        have n12 : NDt P w H12 pK [] := .nil u12
        have e13 := (to12.step n12 f13).at_
        refine ⟨e13, ?_⟩
        have fr : Frm [pT] H9 (upd H13 pT (.dK (encT tks))) := by
          refine ⟨fun b o e t nb => ?_, fun b e => ?_⟩
          · have nb' : b ≠ pT := by simpa using nb
            rw [upd_ne nb']
            have e1 := g1012.k _ _ (g10.k _ _ e t nb) t (by simp)
            refine f13.k _ _ e1 t ?_
            rw [List.mem_singleton]
            intro z
            rw [z] at e1
            have e2 := g11.b _ hpK
            have e3 := g10.k _ _ e t nb
            rw [z, e2] at e3
            cases e3
          · exact g10.b _ (g1012.b _ (f13.b _ (upd_back e)))
        have b14 := b9.step tb9.at_ pT0 fr
        clear fr e13 n13 k13 f13 n12 to12 u12 hpK g1012 g12 u11 g11 hpt s10 td10 e10 g10 tb9 b9 erg sepm ln
        generalize (upd H13 pT (.dK (encT tks))) = H14 at b14 ⊢
        -- handed in
        refine ⟨_, rfl, p, _, rfl, .inl (SqL.of b14.ros), fun ph hph => ?_⟩
        refine new_to hph fun H15 g15 u15 => ?_
        have b15 := b14.lay g15
        clear b14 g15 hph
        refine ⟨2, rfl, by decide, by decide, ?_⟩
        refine for_range (lo := 0) (n := (2 : Int).toNat) (fun j σ H' => ∃ (w10 w11 : Option V), σ = [some (.ref a), some (.ref r), some (.int (0 + (i : Int))), some (.int W), some (.ref p), some (.ref pS), some (.ref pT), v7, some (.int (due : Nat)), some (.ref ph), w10, w11, none, none, none] ∧ FrT K [] H15 H')
          ⟨_, _, rfl, FrT.refl _ _ _⟩ ?_ ?_
        · rintro j σ H16 hj ⟨w10, w11, rfl, f16⟩
          have b16 := b15.layT f16
          have u16 := f16.k _ _ u15 rfl (by simp)
          refine ⟨_, rfl, _, rfl, W, ph, xs, rfl, u16, hn, hri, l1, l4, w1, w2, b16.fr.t ht, fun v ms2 H17 hm2 gd f17 => ?_⟩
          have ems : ms2 = ms := hm2.one hm
          subst ems
          obtain ⟨t, pl, n, rfl, et, lst2, ln2, pok⟩ := gd
          rw [← ez] at lst2 ln2 pok
          have en : n = due := lst2.uniq lst
          subst en
          have f1517 := f16.trans f17
          have b17 := b15.layT f1517
          have u17 := f1517.k _ _ u15 rfl (by simp)
          have sh := shaped_strs (xs := xs) (fun x hx => strOk_num (hn x hx))
          refine ⟨_, rfl, _, _, _, _, true, rfl, .ty _, .base (.tup et), kit_ty (by decide +kernel), true, rfl, if_ntG ?_⟩
          refine ⟨_, rfl, t, _, rfl, .inr (SqT.of et), rfl, _, rfl, if_ntG ?_⟩
          refine ⟨_, rfl, _, rfl, .list (xs.map .str), .list (xs.map .str), .lst (SqL.of u17) (dp_strs xs), .lst (SqL.of b17.ros) (dp_strs xs), sh, sh, _, rfl, ?_⟩
          rw [eqv_strsD, decide_eq_true rfl]
          refine if_ntG ?_
          refine ⟨_, rfl, t, _, 0, _, rfl, rfl, SqT.of et, rfl, _, rfl, _, _, rfl, .inl (.inr (.inr (.inl ⟨_, rfl, rfl⟩))), fun H18 f18 => ⟨true, rfl, if_ntG ?_⟩⟩
          have b18 := b17.lay f18
          refine ⟨_, rfl, t, _, 1, _, rfl, rfl, SqT.of (fr0_tup f18 _ _ et), rfl, _, rfl, pl, pS, zs, W, n, rfl, b18.sets, pok.keep (fr0_tup f18), by omega, by omega, w2, fun z hz => ⟨hzn z hz, ?_⟩, fun H19 f19 => ⟨_, rfl, rfl, _, rfl, ?_⟩⟩
          · have := ((zmem z.2).mp (by rw [← ez]; exact List.mem_map.mpr ⟨z, hz, rfl⟩)).length_le
            omega
          rw [decide_eq_true rfl]
          refine if_ntG ?_
          exact ⟨_, _, rfl, f1517.trans ((f18.trans f19).toT .nil)⟩
        · rintro σ H16 ⟨w10, w11, rfl, f16⟩
          exact ⟨_, _, _, _, _, _, _, _, _, _, rfl, (b15.layT f16).row, (b15.layT f16).fr⟩
    · rintro σ H8 ⟨v2, v3, v4, v5, v6, v7, v8, v9, v10, v11, rfl, hR8, f8⟩
      -- five to eight
      refine ⟨3, rfl, by decide, fun pe H9 hpe ee f9 => ⟨pe, rfl, ⟨_, SqL.of ee⟩, fun D hD => ?_⟩⟩
      have hR9 : RowAt r a H9 := f9.row (by simp) hR8
      have fb9 := f8.trans (f9.toT (K := K) .nil)
      have npe : pe ≠ r := row_ne hR9 ee
      have nD : D ≠ r := (hR9.out hD).symm
      have D0 : H D = none := fb9.b _ hD
      have neD : pe ≠ D := ne_of_none ee hD
      have gD : Frm [] H9 (upd H9 D (.lst [])) := Frm.of (same_upd hD)
      have e8 : (everyS 3).length = 8 := by unfold everyS; rw [List.length_map, every_len]
      refine lc_list (K := K) (a := pe) (xs := (everyS 3).map V.str) (fun j H' => ∃ bs : List Nat, bs.length = j ∧ Bits bs ∧ H' D = some (.lst (((((everyN 3).take j).zip bs).map fun p => S (p.1 ++ [p.2])).map V.str)) ∧ H' pe = some (.lst ((everyS 3).map V.str)) ∧ RowAt r a H' ∧ FrT K [] H H')
        ⟨[], rfl, Bits.nil, by rw [upd_same]; simp, gD.k _ _ ee rfl (by simp), gD.row (by simp) hR9, fb9.trans (gD.toT .nil)⟩ (fun j H' _ ⟨_, _, _, _, e, _⟩ => SqL.of e) ?_ ?_
      · rintro j y H10 hj ⟨bs, bl, bb, eD, e10, hR10, fb10⟩
        obtain ⟨x, hx, rfl⟩ := at_map hj
        have jl := (List.getElem?_eq_some_iff.mp hx).1
        obtain ⟨l, hl, rfl⟩ : ∃ l, (everyN 3)[j]? = some l ∧ x = S l := by
          unfold everyS at hx
          rw [List.getElem?_map] at hx
          obtain ⟨l, h1, h2⟩ := Option.map_eq_some_iff.mp hx
          exact ⟨l, h1, h2.symm⟩
        have ll : l.length = 3 := every_l (List.mem_of_getElem? hl)
        refine ⟨rfl, _, rfl, _, rfl, r, a, 2, rfl, hR10, fb10.scr .nil hS, by decide, by decide, fun v H11 y0 y1 hR11 f11 => ?_⟩
        have fb11 := fb10.fresh (f11.toT hR10.nl) (by simpa using hr0)
        have e11 := f11.k _ _ e10 rfl (by simpa using npe)
        have eD11 := f11.k _ _ eD rfl (by simpa using nD)
        obtain ⟨c, hc, hat⟩ : ∃ c : Nat, (c = 48 ∨ c = 49) ∧ atI ("01" : Str).cps.toList v = some c := by
          have : v = 0 ∨ v = 1 := by omega
          rcases this with rfl | rfl
          · exact ⟨48, .inl rfl, by decide +kernel⟩
          · exact ⟨49, .inr rfl, by decide +kernel⟩
        refine ⟨"01", v, c, rfl, rfl, by decide +kernel, hat, S l, ⟨#[c]⟩, rfl, rfl, ?_, ?_⟩
        · rw [SX.S_len, ll]
          show 3 + 1 ≤ sizeLine
          decide
        rw [show S l ++ (⟨#[c]⟩ : Str) = S (l ++ [c]) by rw [show (⟨#[c]⟩ : Str) = S [c] from rfl, SX.S_cat]]
        refine ⟨_, eD11, ?_, bs ++ [c], by rw [List.length_append, bl]; rfl, bb.snoc hc, ?_, by rw [upd_ne neD]; exact e11, hR11.ne (Ne.symm nD), fb11.putN D0 eD11⟩
        · rw [List.length_map, List.length_map, List.length_zip]
          exact small1000 (by omega)
        · rw [upd_same, take_snoc hl, List.zip_append (by rw [List.length_take, bl, every_len]; have : 2 ^ 3 = 8 := rfl; omega), List.map_append, List.map_append]
          rfl
      · rintro H10 ⟨bs, bl, bb, eD, e10, hR10, fb10⟩
        rw [List.length_map, e8] at bl
        rw [show ((everyS 3).map V.str).length = 8 by rw [List.length_map, e8], List.take_of_length_le (by rw [every_len]; decide)] at eD
        obtain ⟨g1, g2, g3⟩ := great_ok bb bl
        have eG : H10 D = some (.lst ((greatL bs).map V.str)) := eD
        clear eD gD
        refine ⟨_, rfl, r, a, 4, rfl, hR10, fb10.scr .nil hS, by decide, by decide, fun v H11 y0 y1 hR11 f11 => ⟨5, v, rfl, rfl, _, rfl, D, _, rfl, SqL.of (f11.k _ _ eG rfl (by simpa using nD)), fun pg hpg => ?_⟩⟩
        have fb11 := fb10.fresh (f11.toT hR10.nl) (by simpa using hr0)
        obtain ⟨m, em, m5, m8⟩ : ∃ m : Nat, (5 : Int) + v = (m : Int) ∧ 5 ≤ m ∧ m ≤ 8 := ⟨(5 + v).toNat, by omega, by omega, by omega⟩
        rw [em, cut_to10, ← List.map_take]
        have gn : ∀ y ∈ (greatL bs).take m, Num 4 y := fun y hy => num_of (List.all_eq_true.mp g2 y (List.mem_of_mem_take hy))
        have gr : riseB ((greatL bs).take m) = true := rise_sub g1 (List.take_sublist _ _)
        have gl : ((greatL bs).take m).length = m := by rw [List.length_take]; omega
        generalize (greatL bs).take m = gs at gn gr gl
        refine new_to hpg fun H12 g12 u12 => ?_
        have fb12 := fb11.trans (g12.toT .nil)
        clear g1 g2 g3 eG g12 fb10 e10 f11 hR11 em
        have eq : ((cxOf CX0 P w K mg base ["_law_script", "_law_row", "_law_turn", "_law_width_here", "_law_roster_here", "_law_sets_here", "_law_told", "_law_beginning", "_law_due", "_law_handed", "_law_again", "_law_found", "_law_great", "_law_one", "_law_text"] d_law.qual d_law.scope (He.fAd K pd_law) (Value.ref (He.codeOf K pd_law)) A outer s H E).env.qual ++ ("<lambda>" : Str) : Str) = "law.<locals>.<lambda>" := by kernel_rfl
        have ht12 := fb12.t ht
        -- too many
        refine ⟨by rw [eq]; exact ht12.2 _ (tl_mem lam_law), fun H13 k1 k2 k3 => ?_⟩
        rw [eq] at k3
        obtain ⟨f13, ht13⟩ := tb_grow T lam_law ht12 k1 k2 k3
        have u13 := f13.k _ _ u12 rfl (by simp)
        refine ⟨_, rfl, 4, pg, gs, rfl, u13, gn, gr, by omega, by omega, by decide, by decide, ht13, fun H15 f15 => ⟨rfl, 11, "many", word_TooMany T, fun H16 f16 => ?_⟩⟩
        refine ⟨rfl, ?_⟩
        rw [str_dec, decide_eq_true rfl]
        exact k H16
end
end B

set_option Elab.async false
set_option linter.all false
set_option maxRecDepth 100000
set_option maxHeartbeats 4000000
namespace B
open PySem PySem.Spec PyProof.Rows L2
abbrev cs (K : PySem.W.Frag) : List (Addr × Addr) := tf.map (He.cT K)
theorem law_at {w : World} {mg : Str → Option Value} {fa0 : Addr} {h : Heap} {K : PySem.W.Frag} (KX : K.In h) (G : h.Ns mainGlobals mg) (hmg : mg ("law" : Str) = some (.ref fa0)) (c : He.SaysX fa fn [] tf ex w h K) :
    LamX.LawAtS PySem.Challenge.rw_busfind_k12_plans_with_the_least_looks w K CX0 37 63 "_law_script" mg fa0 h := by
  obtain ⟨fd, F⟩ := c.t.d.def_ 28 (d := d_law)
  have e := hmg.symm.trans (He.glo_ok KX G (c.t.d.fact 28))
  cases e
  have b := FunD.bindsA (ps := ["_law_script"]) F fun _ _ _ _ _ _ us hl => match us, hl with | [_], _ => rfl
  have cm : ∀ {p : Addr × Addr}, p ∈ cs K → ∃ q ∈ tf, p = He.cT K q := fun hp => by
    obtain ⟨q, hq, e⟩ := List.mem_map.mp hp
    exact ⟨q, hq, e.symm⟩
  refine ⟨fd, cs K, spLaw K, fun p hp => ?_, fun p hp => ?_, fun p hp => ?_, fun s u => b s [u] rfl, fun H a ns hl _ hT hS => ?_, fun base X2 G2 tb => ?_⟩
  · obtain ⟨q, hq, rfl⟩ := cm hp
    exact c.empty q hq
  · obtain ⟨q, hq, rfl⟩ := cm hp
    exact c.out q hq
  · obtain ⟨q, hq, rfl⟩ := cm hp
    exact PySem.W.codeHd_of_K KX (c.hd q hq)
  · exact ⟨a, rfl, ⟨ns, hS⟩, tb_empty hT, fun _ => rfl⟩
  · have T : Txt (PySem.Challenge.rw_busfind_k12_plans_with_the_least_looks).prog w K mg base := ⟨X2, G2, c.t.d, c.more, fun p hp => tb (He.cT K p) (List.mem_map.mpr ⟨p, hp, rfl⟩)⟩
    exact law_ok T F
end B

set_option Elab.async false
set_option linter.all false
set_option maxRecDepth 100000
open PySem PySem.W PySem.Calls PyProof.Rows
set_option maxHeartbeats 0 in
theorem PySem.Challenge.cw_busfind_k12_plans_with_the_least_looks_holds : PySem.Challenge.rw_busfind_k12_plans_with_the_least_looks.Holds := by
  w_on; o_law
  refine HandSHeadRun.head_any (r := B.R) (q := view B.R.prog [54]) (H := B.hk) (ob := B.ob) (M := 6000) (loose := B.names) (d := HandSHeadRun.topDef B.R.prog 54) (kwd := []) B.ob_eq (by kernel_rfl) (fun s => by kernel_rfl) B.run (by kernel_rfl) (by kernel_rfl) (by kernel_rfl) (by rfl) (by first | assumption | decide +kernel) (by decide +kernel) ⟨rfl, rfl, rfl, rfl, rfl, by decide +kernel⟩ ?hw ?hc
  case hw => w_witness2
  case hc =>
    refine LamX.walk_ofTsE (l := PySem.Challenge.rw_busfind_k12_plans_with_the_least_looks) (n := 63) (k := 37) (x := "_law_script") (CX := fun _ => L2.CX0) rfl (by decide) (by kernel_rfl) ⟨rfl, by decide, by decide⟩ ?F (fun _ _ _ _ _ z => z)
    intro w mg fa h Y G hmg0
    obtain ⟨K, KX, c⟩ := Y
    have hmg : mg ("law" : PySem.Str) = some (.ref fa) := by
      have e : (HandSHeadRun.topDef B.R.prog 54).name = ("law" : PySem.Str) := by kernel_rfl
      rw [← e]
      exact hmg0
    exact ⟨K, KX, B.law_at KX G hmg c⟩
