import PyProof.Rows.All
import Wide.All
import OpenK.AllK
import Wide.FinOn
import HandS.ForMost
import HandS.Exc
import HandS.ExcOwn
import HandS.WordsExc
import HandS.ExcIs
import HandS.IsInst
import HandS.Lambda
import HandS.AnyAll
import HandS.EndTab
import HandS.Codes
import HandS.Defaults
import HandS.Head0
import HandS.Head1
import HandS.Head2
import HandS.HeadEnd
import HandS.HeadHook1
import HandS.HeadHook2
import HandS.HeadHook3
import HandS.HeadHook4
import HandS.HeadWalk
import HandS.Walk
import HandS.More
import KE.KDflt
import HandS.SetFor
import PyProof.SetRoads
import PyProof.Rows.SetFrom
import PyProof.Rows.SortShellAny
import HandS.SetBool
import HandS.Star
import PySem.Challenge.RW_busfind_k16_whole_alarms_first_and_all_o
set_option Elab.async false
set_option linter.all false
set_option maxRecDepth 100000
set_option maxHeartbeats 4000000
namespace B
open PySem PySem.Spec PyProof.Rows L2
def topS (i : Nat) : Stmt := PySem.Challenge.pw_busfind_k16_whole_alarms_first_and_all_o.main.body.getD i (.Pass ⟨0, 0, 0, 0⟩)
abbrev s_BadLooks_init : Stmt := inClass (topS 12) 0
abbrev s_BadStep_init : Stmt := inClass (topS 16) 0
abbrev s_BadText_init : Stmt := inClass (topS 17) 0
abbrev s_require_width : Stmt := topS 21
abbrev s_require_number : Stmt := topS 22
abbrev s_is_number : Stmt := topS 23
abbrev s_require_kind : Stmt := topS 26
abbrev s_Wire_init : Stmt := inClass (topS 27) 0
abbrev s_Wire_hang : Stmt := inClass (topS 27) 1
abbrev s_Wire_off : Stmt := inClass (topS 27) 2
abbrev s_Wire_alarm : Stmt := inClass (topS 27) 3
abbrev s_Wire_calm : Stmt := inClass (topS 27) 4
abbrev s_Wire_hung : Stmt := inClass (topS 27) 5
abbrev s_Wire_alarms : Stmt := inClass (topS 27) 6
abbrev s_Wire_begin : Stmt := inClass (topS 27) 7
abbrev s_Wire_look : Stmt := inClass (topS 27) 8
abbrev s_Wire_say : Stmt := inClass (topS 27) 9
abbrev s_Wire_looks : Stmt := inClass (topS 27) 10
abbrev s_Wire__require_hanging : Stmt := inClass (topS 27) 11
abbrev s_Wire__require_round : Stmt := inClass (topS 27) 12
abbrev s_Walk_init : Stmt := inClass (topS 29) 0
abbrev s_Walk_step : Stmt := inClass (topS 29) 1
abbrev s_Walk_go_round : Stmt := inClass (topS 29) 2
abbrev s_Walk_left : Stmt := inClass (topS 29) 4
abbrev s_Walk_found : Stmt := inClass (topS 29) 5
abbrev s_Walk__begin_round : Stmt := inClass (topS 29) 8
abbrev s_Walk__say : Stmt := inClass (topS 29) 9
abbrev s_Desk_init : Stmt := inClass (topS 31) 0
abbrev s_Desk_turn : Stmt := inClass (topS 31) 1
abbrev s_ltaken : Stmt := topS 33
abbrev s_lword : Stmt := topS 34
abbrev s_lnumber : Stmt := topS 35
abbrev s_lnear : Stmt := topS 36
abbrev s_lthings : Stmt := topS 37
abbrev s_lwidth : Stmt := topS 38
abbrev s_lmodel : Stmt := topS 39
abbrev s_ldeed : Stmt := topS 40
abbrev s_lbecome : Stmt := topS 41
abbrev s_lchange : Stmt := topS 42
abbrev s_lpool : Stmt := topS 43
abbrev s_law : Stmt := topS 44
theorem sc_require_width : FnScope ["width"] ["width"] (defScope s_require_width) := ⟨rfl, rfl, rfl, by decide +kernel, rfl, by decide +kernel, by decide +kernel⟩
theorem sc_require_number : FnScope ["width", "number"] ["width", "number"] (defScope s_require_number) := ⟨rfl, rfl, rfl, by decide +kernel, rfl, by decide +kernel, by decide +kernel⟩
theorem sc_is_number : FnScope ["width", "number", "sign"] ["width", "number"] (defScope s_is_number) := ⟨rfl, rfl, rfl, by decide +kernel, rfl, by decide +kernel, by decide +kernel⟩
theorem sc_require_kind : FnScope ["kind"] ["kind"] (defScope s_require_kind) := ⟨rfl, rfl, rfl, by decide +kernel, rfl, by decide +kernel, by decide +kernel⟩
theorem sc_Wire_init : FnScope ["self", "width"] ["self", "width"] (defScope s_Wire_init) := ⟨rfl, rfl, rfl, by decide +kernel, rfl, by decide +kernel, by decide +kernel⟩
theorem sc_Wire_hang : FnScope ["self", "number"] ["self", "number"] (defScope s_Wire_hang) := ⟨rfl, rfl, rfl, by decide +kernel, rfl, by decide +kernel, by decide +kernel⟩
theorem sc_Wire_off : FnScope ["self", "number", "other"] ["self", "number"] (defScope s_Wire_off) := ⟨rfl, rfl, rfl, by decide +kernel, rfl, by decide +kernel, by decide +kernel⟩
theorem sc_Wire_alarm : FnScope ["self", "number"] ["self", "number"] (defScope s_Wire_alarm) := ⟨rfl, rfl, rfl, by decide +kernel, rfl, by decide +kernel, by decide +kernel⟩
theorem sc_Wire_calm : FnScope ["self", "number"] ["self", "number"] (defScope s_Wire_calm) := ⟨rfl, rfl, rfl, by decide +kernel, rfl, by decide +kernel, by decide +kernel⟩
theorem sc_Wire_hung : FnScope ["self"] ["self"] (defScope s_Wire_hung) := ⟨rfl, rfl, rfl, by decide +kernel, rfl, by decide +kernel, by decide +kernel⟩
theorem sc_Wire_alarms : FnScope ["self", "number"] ["self"] (defScope s_Wire_alarms) := ⟨rfl, rfl, rfl, by decide +kernel, rfl, by decide +kernel, by decide +kernel⟩
theorem sc_Wire_begin : FnScope ["self", "kind"] ["self", "kind"] (defScope s_Wire_begin) := ⟨rfl, rfl, rfl, by decide +kernel, rfl, by decide +kernel, by decide +kernel⟩
theorem sc_Wire_look : FnScope ["self", "signs", "number"] ["self"] (defScope s_Wire_look) := ⟨rfl, rfl, rfl, by decide +kernel, rfl, by decide +kernel, by decide +kernel⟩
theorem sc_Wire_say : FnScope ["self", "bit", "sign", "number"] ["self", "bit"] (defScope s_Wire_say) := ⟨rfl, rfl, rfl, by decide +kernel, rfl, by decide +kernel, by decide +kernel⟩
theorem sc_Wire_looks : FnScope ["self"] ["self"] (defScope s_Wire_looks) := ⟨rfl, rfl, rfl, by decide +kernel, rfl, by decide +kernel, by decide +kernel⟩
theorem sc_Wire__require_hanging : FnScope ["self", "number"] ["self", "number"] (defScope s_Wire__require_hanging) := ⟨rfl, rfl, rfl, by decide +kernel, rfl, by decide +kernel, by decide +kernel⟩
theorem sc_Wire__require_round : FnScope ["self"] ["self"] (defScope s_Wire__require_round) := ⟨rfl, rfl, rfl, by decide +kernel, rfl, by decide +kernel, by decide +kernel⟩
theorem sc_Walk_init : FnScope ["self", "wire", "kind"] ["self", "wire", "kind"] (defScope s_Walk_init) := ⟨rfl, rfl, rfl, by decide +kernel, rfl, by decide +kernel, by decide +kernel⟩
theorem sc_Walk_step : FnScope ["self", "zero", "one"] ["self"] (defScope s_Walk_step) := ⟨rfl, rfl, rfl, by decide +kernel, rfl, by decide +kernel, by decide +kernel⟩
theorem sc_Walk_go_round : FnScope ["self", "came"] ["self"] (defScope s_Walk_go_round) := ⟨rfl, rfl, rfl, by decide +kernel, rfl, by decide +kernel, by decide +kernel⟩
theorem sc_Walk_left : FnScope ["self"] ["self"] (defScope s_Walk_left) := ⟨rfl, rfl, rfl, by decide +kernel, rfl, by decide +kernel, by decide +kernel⟩
theorem sc_Walk_found : FnScope ["self"] ["self"] (defScope s_Walk_found) := ⟨rfl, rfl, rfl, by decide +kernel, rfl, by decide +kernel, by decide +kernel⟩
theorem sc_Walk__begin_round : FnScope ["self"] ["self"] (defScope s_Walk__begin_round) := ⟨rfl, rfl, rfl, by decide +kernel, rfl, by decide +kernel, by decide +kernel⟩
theorem sc_Walk__say : FnScope ["self", "signs", "sign", "said"] ["self", "signs"] (defScope s_Walk__say) := ⟨rfl, rfl, rfl, by decide +kernel, rfl, by decide +kernel, by decide +kernel⟩
theorem sc_Desk_init : FnScope ["self", "wire"] ["self", "wire"] (defScope s_Desk_init) := ⟨rfl, rfl, rfl, by decide +kernel, rfl, by decide +kernel, by decide +kernel⟩
theorem sc_Desk_turn : FnScope ["self", "came", "number"] ["self"] (defScope s_Desk_turn) := ⟨rfl, rfl, rfl, by decide +kernel, rfl, by decide +kernel, by decide +kernel⟩
theorem sc_ltaken : FnScope ["_law_row", "_law_many", "_law_found", "_law_cell"] ["_law_row", "_law_many"] (defScope s_ltaken) := ⟨rfl, rfl, rfl, by decide +kernel, rfl, by decide +kernel, by decide +kernel⟩
theorem sc_lword : FnScope ["_law_work", "e", "_law_kinds", "_law_words", "_law_word_here"] ["_law_work"] (defScope s_lword) := ⟨rfl, rfl, rfl, by decide +kernel, rfl, by decide +kernel, by decide +kernel⟩
theorem sc_lnumber : FnScope ["_law_row", "_law_width_here", "_law_k"] ["_law_row", "_law_width_here"] (defScope s_lnumber) := ⟨rfl, rfl, rfl, by decide +kernel, rfl, by decide +kernel, by decide +kernel⟩
theorem sc_lnear : FnScope ["_law_row", "_law_width_here", "_law_some", "_law_number_here", "_law_many"] ["_law_row", "_law_width_here", "_law_some"] (defScope s_lnear) := ⟨rfl, rfl, rfl, by decide +kernel, rfl, by decide +kernel, by decide +kernel⟩
theorem sc_lthings : FnScope ["_law_row", "_law_width_here", "_law_most", "_law_found", "_law_base", "_law_k", "_law_number_here"] ["_law_row", "_law_width_here", "_law_most"] (defScope s_lthings) := ⟨rfl, rfl, rfl, by decide +kernel, rfl, by decide +kernel, by decide +kernel⟩
theorem sc_lwidth : FnScope ["_law_row"] ["_law_row"] (defScope s_lwidth) := ⟨rfl, rfl, rfl, by decide +kernel, rfl, by decide +kernel, by decide +kernel⟩
theorem sc_lmodel : FnScope ["_law_width_here"] ["_law_width_here"] (defScope s_lmodel) := ⟨rfl, rfl, rfl, by decide +kernel, rfl, by decide +kernel, by decide +kernel⟩
theorem sc_ldeed : FnScope ["_law_m", "_law_word_here", "_law_number_here", "_law_one"] ["_law_m", "_law_word_here", "_law_number_here"] (defScope s_ldeed) := ⟨rfl, rfl, rfl, by decide +kernel, rfl, by decide +kernel, by decide +kernel⟩
theorem sc_lbecome : FnScope ["_law_wire", "_law_word_here", "_law_number_here"] ["_law_wire", "_law_word_here", "_law_number_here"] (defScope s_lbecome) := ⟨rfl, rfl, rfl, by decide +kernel, rfl, by decide +kernel, by decide +kernel⟩
theorem sc_lchange : FnScope ["_law_row", "_law_wire", "_law_m", "_law_names", "_law_word_here", "_law_number_here"] ["_law_row", "_law_wire", "_law_m", "_law_names"] (defScope s_lchange) := ⟨rfl, rfl, rfl, by decide +kernel, rfl, by decide +kernel, by decide +kernel⟩
theorem sc_lpool : FnScope ["_law_row", "_law_width_here", "_law_names"] ["_law_row", "_law_width_here"] (defScope s_lpool) := ⟨rfl, rfl, rfl, by decide +kernel, rfl, by decide +kernel, by decide +kernel⟩
theorem sc_law : FnScope ["_law_script", "_law_row", "_law_turn", "_law_width_here", "_law_names", "_law_wire", "_law_m", "_law_number_here", "_law_desk", "_law_stay", "_law_found", "_law_over", "_law_step", "_law_ringing", "_law_told"] ["_law_script"] (defScope s_law) := ⟨rfl, rfl, rfl, by decide +kernel, rfl, by decide +kernel, by decide +kernel⟩
def d_require_width : He.DefD := ⟨("require_width", none), "require_width", "require_width", defArgs s_require_width, defBody s_require_width, defScope s_require_width, [], []⟩
def d_require_number : He.DefD := ⟨("require_number", none), "require_number", "require_number", defArgs s_require_number, defBody s_require_number, defScope s_require_number, [], []⟩
def d_is_number : He.DefD := ⟨("is_number", none), "is_number", "is_number", defArgs s_is_number, defBody s_is_number, defScope s_is_number, [], []⟩
def d_require_kind : He.DefD := ⟨("require_kind", none), "require_kind", "require_kind", defArgs s_require_kind, defBody s_require_kind, defScope s_require_kind, [], []⟩
def d_Wire_init : He.DefD := ⟨("Wire", some "__init__"), "__init__", "Wire.__init__", defArgs s_Wire_init, defBody s_Wire_init, defScope s_Wire_init, [], []⟩
def d_Wire_hang : He.DefD := ⟨("Wire", some "hang"), "hang", "Wire.hang", defArgs s_Wire_hang, defBody s_Wire_hang, defScope s_Wire_hang, [], []⟩
def d_Wire_off : He.DefD := ⟨("Wire", some "off"), "off", "Wire.off", defArgs s_Wire_off, defBody s_Wire_off, defScope s_Wire_off, [], []⟩
def d_Wire_alarm : He.DefD := ⟨("Wire", some "alarm"), "alarm", "Wire.alarm", defArgs s_Wire_alarm, defBody s_Wire_alarm, defScope s_Wire_alarm, [], []⟩
def d_Wire_calm : He.DefD := ⟨("Wire", some "calm"), "calm", "Wire.calm", defArgs s_Wire_calm, defBody s_Wire_calm, defScope s_Wire_calm, [], []⟩
def d_Wire_hung : He.DefD := ⟨("Wire", some "hung"), "hung", "Wire.hung", defArgs s_Wire_hung, defBody s_Wire_hung, defScope s_Wire_hung, [], []⟩
def d_Wire_alarms : He.DefD := ⟨("Wire", some "alarms"), "alarms", "Wire.alarms", defArgs s_Wire_alarms, defBody s_Wire_alarms, defScope s_Wire_alarms, [], []⟩
def d_Wire_begin : He.DefD := ⟨("Wire", some "begin"), "begin", "Wire.begin", defArgs s_Wire_begin, defBody s_Wire_begin, defScope s_Wire_begin, [], []⟩
def d_Wire_look : He.DefD := ⟨("Wire", some "look"), "look", "Wire.look", defArgs s_Wire_look, defBody s_Wire_look, defScope s_Wire_look, [], []⟩
def d_Wire_say : He.DefD := ⟨("Wire", some "say"), "say", "Wire.say", defArgs s_Wire_say, defBody s_Wire_say, defScope s_Wire_say, [], []⟩
def d_Wire_looks : He.DefD := ⟨("Wire", some "looks"), "looks", "Wire.looks", defArgs s_Wire_looks, defBody s_Wire_looks, defScope s_Wire_looks, [], []⟩
def d_Wire__require_hanging : He.DefD := ⟨("Wire", some "_require_hanging"), "_require_hanging", "Wire._require_hanging", defArgs s_Wire__require_hanging, defBody s_Wire__require_hanging, defScope s_Wire__require_hanging, [], []⟩
def d_Wire__require_round : He.DefD := ⟨("Wire", some "_require_round"), "_require_round", "Wire._require_round", defArgs s_Wire__require_round, defBody s_Wire__require_round, defScope s_Wire__require_round, [], []⟩
def d_Walk_init : He.DefD := ⟨("Walk", some "__init__"), "__init__", "Walk.__init__", defArgs s_Walk_init, defBody s_Walk_init, defScope s_Walk_init, [], []⟩
def d_Walk_step : He.DefD := ⟨("Walk", some "step"), "step", "Walk.step", defArgs s_Walk_step, defBody s_Walk_step, defScope s_Walk_step, [], []⟩
def d_Walk_go_round : He.DefD := ⟨("Walk", some "go_round"), "go_round", "Walk.go_round", defArgs s_Walk_go_round, defBody s_Walk_go_round, defScope s_Walk_go_round, [], []⟩
def d_Walk_left : He.DefD := ⟨("Walk", some "left"), "left", "Walk.left", defArgs s_Walk_left, defBody s_Walk_left, defScope s_Walk_left, [], []⟩
def d_Walk_found : He.DefD := ⟨("Walk", some "found"), "found", "Walk.found", defArgs s_Walk_found, defBody s_Walk_found, defScope s_Walk_found, [], []⟩
def d_Walk__begin_round : He.DefD := ⟨("Walk", some "_begin_round"), "_begin_round", "Walk._begin_round", defArgs s_Walk__begin_round, defBody s_Walk__begin_round, defScope s_Walk__begin_round, [], []⟩
def d_Walk__say : He.DefD := ⟨("Walk", some "_say"), "_say", "Walk._say", defArgs s_Walk__say, defBody s_Walk__say, defScope s_Walk__say, [], []⟩
def d_Desk_init : He.DefD := ⟨("Desk", some "__init__"), "__init__", "Desk.__init__", defArgs s_Desk_init, defBody s_Desk_init, defScope s_Desk_init, [], []⟩
def d_Desk_turn : He.DefD := ⟨("Desk", some "turn"), "turn", "Desk.turn", defArgs s_Desk_turn, defBody s_Desk_turn, defScope s_Desk_turn, [], []⟩
def d_ltaken : He.DefD := ⟨("_law_taken", none), "_law_taken", "_law_taken", defArgs s_ltaken, defBody s_ltaken, defScope s_ltaken, [], []⟩
def d_lword : He.DefD := ⟨("_law_word", none), "_law_word", "_law_word", defArgs s_lword, defBody s_lword, defScope s_lword, [], []⟩
def d_lnumber : He.DefD := ⟨("_law_number", none), "_law_number", "_law_number", defArgs s_lnumber, defBody s_lnumber, defScope s_lnumber, [], []⟩
def d_lnear : He.DefD := ⟨("_law_near", none), "_law_near", "_law_near", defArgs s_lnear, defBody s_lnear, defScope s_lnear, [], []⟩
def d_lthings : He.DefD := ⟨("_law_things", none), "_law_things", "_law_things", defArgs s_lthings, defBody s_lthings, defScope s_lthings, [], []⟩
def d_lwidth : He.DefD := ⟨("_law_width", none), "_law_width", "_law_width", defArgs s_lwidth, defBody s_lwidth, defScope s_lwidth, [], []⟩
def d_lmodel : He.DefD := ⟨("_law_model", none), "_law_model", "_law_model", defArgs s_lmodel, defBody s_lmodel, defScope s_lmodel, [], []⟩
def d_ldeed : He.DefD := ⟨("_law_deed", none), "_law_deed", "_law_deed", defArgs s_ldeed, defBody s_ldeed, defScope s_ldeed, [], []⟩
def d_lbecome : He.DefD := ⟨("_law_become", none), "_law_become", "_law_become", defArgs s_lbecome, defBody s_lbecome, defScope s_lbecome, [], []⟩
def d_lchange : He.DefD := ⟨("_law_change", none), "_law_change", "_law_change", defArgs s_lchange, defBody s_lchange, defScope s_lchange, [], []⟩
def d_lpool : He.DefD := ⟨("_law_pool", none), "_law_pool", "_law_pool", defArgs s_lpool, defBody s_lpool, defScope s_lpool, [], []⟩
def d_law : He.DefD := ⟨("law", none), "law", "law", defArgs s_law, defBody s_law, defScope s_law, [], []⟩
def fa : List He.Fa := [.glo "require_width", .glo "require_number", .glo "is_number", .glo "require_kind", .glo "_law_taken", .glo "_law_word", .glo "_law_number", .glo "_law_near", .glo "_law_things", .glo "_law_width", .glo "_law_model", .glo "_law_deed", .glo "_law_become", .glo "_law_change", .glo "_law_pool", .glo "law", .glo "BusError", .glo "BadWidth", .glo "BadNumber", .glo "BadKind", .glo "BadBit", .glo "There", .glo "NotThere", .glo "NoRound", .glo "Over", .glo "Busy", .glo "BadLooks", .glo "BadRoster", .glo "TooMany", .glo "BadPlan", .glo "BadStep", .glo "BadText", .glo "Wire", .glo "Walk", .glo "Desk", .int "LEAST_WIDTH" 1, .int "GREATEST_WIDTH" 12, .glo "KINDS", .free "super", .free "isinstance", .free "bool", .free "all", .free "str", .free "len", .free "sorted", .free "list", .free "int", .free "ValueError", .free "range", .free "max", .free "set", .cls "Wire", .mkr "Wire", .noat "Wire" "width", .noat "Wire" "_hanging", .noat "Wire" "_listening", .noat "Wire" "_many_said", .noat "Wire" "_many_looks", .meth "Wire" "hang", .meth "Wire" "off", .meth "Wire" "alarm", .meth "Wire" "calm", .meth "Wire" "hung", .meth "Wire" "alarms", .meth "Wire" "begin", .meth "Wire" "look", .meth "Wire" "say", .meth "Wire" "looks", .meth "Wire" "_require_hanging", .meth "Wire" "_require_round", .cls "Walk", .mkr "Walk", .noat "Walk" "_wire", .noat "Walk" "_kind", .noat "Walk" "_row", .noat "Walk" "_found", .noat "Walk" "_paper", .noat "Walk" "_said", .meth "Walk" "step", .meth "Walk" "go_round", .meth "Walk" "left", .meth "Walk" "found", .meth "Walk" "_begin_round", .meth "Walk" "_say", .cls "Desk", .mkr "Desk", .noat "Desk" "_wire", .noat "Desk" "_walk", .meth "Desk" "turn", .exc "There", .exc "NotThere", .exc "NoRound", .exc "Over", .exm "There" "BusError" true, .exm "NotThere" "BusError" true, .exm "NoRound" "BusError" true, .exm "Over" "BusError" true]
def fn : List He.DefD := [d_require_width, d_require_number, d_is_number, d_require_kind, d_Wire_init, d_Wire_hang, d_Wire_off, d_Wire_alarm, d_Wire_calm, d_Wire_hung, d_Wire_alarms, d_Wire_begin, d_Wire_look, d_Wire_say, d_Wire_looks, d_Wire__require_hanging, d_Wire__require_round, d_Walk_init, d_Walk_step, d_Walk_go_round, d_Walk_left, d_Walk_found, d_Walk__begin_round, d_Walk__say, d_Desk_init, d_Desk_turn, d_ltaken, d_lword, d_lnumber, d_lnear, d_lthings, d_lwidth, d_lmodel, d_ldeed, d_lbecome, d_lchange, d_lpool, d_law]
def pd_is_number : He.Defn := ("is_number", none)
def pd_lchange : He.Defn := ("_law_change", none)
def gens : List He.Defn := [pd_is_number]
def lams : List (He.Defn × Str) := [(pd_lchange, "_law_change.<locals>.<lambda>")]
def tf : List He.Defn := [pd_is_number, pd_lchange]
def kitC (K : PySem.W.Frag) (c d : Str) (b : Bool) : Bool := decide (PySem.W.kitOne K (.ref (He.ga K c)) (.ref (He.ga K d)) = some b)
def excC (K : PySem.W.Frag) (c : Str) : Bool :=
  He.eqO (PySem.W.findIn K (.ref (He.ga K c)) "__getattribute__") (some (some (.builtin "BaseException.__getattribute__"))) &&
  He.eqO (PySem.W.findIn K (.ref (He.ga K c)) "__getattr__") (some none) && PySem.W.hasDictIn K (He.ga K c) &&
  He.eqO (PySem.W.findIn K (.ref (He.ga K c)) "__class__") (some (some (.builtin "object.__class__"))) &&
  decide (PySem.W.specialIn K (.builtin "object.__class__") "__get__" = some (some (.builtin "getset_descriptor.__get__"))) &&
  decide (PySem.W.takesIn K (.builtin "object.__class__") = some true) && decide (PySem.W.mroIn K (He.ga K c) (.type "object") = some true) &&
  decide (PySem.W.kitOne K (.ref (He.ga K c)) (.type "ValueError") = some true)
def tupB (K : PySem.W.Frag) (x : Str) (vs : List V) : Bool := match K.lookup (He.ga K x) with
  | some ⟨.type t, _, .seq its _, _⟩ => decide (t = "tuple") && He.relAll vs its.toList
  | _ => false
def allErr : List Str := ["BadWidth", "BadNumber", "BadKind", "BadBit", "There", "NotThere", "NoRound", "Over", "Busy", "BadLooks", "BadRoster", "TooMany", "BadPlan", "BadStep", "BadText"]
def raised : List Str := ["There", "NotThere", "NoRound", "Over"]
def exExc (K : PySem.W.Frag) : Bool := raised.all fun c => excC K c && allErr.all fun d => kitC K c d (decide (c = d))
def exTup (K : PySem.W.Frag) : Bool := tupB K "KINDS" [.str "all", .str "alarm"]
def ex (K : PySem.W.Frag) : Bool := decide ((tf.map fun p => (He.cT K p).2).Nodup) && (exTup K && exExc K)
abbrev R : PySem.W.OpenRow := PySem.W.OpenLaw.row PySem.Challenge.rw_busfind_k16_whole_alarms_first_and_all_o
abbrev hk : PySem.W.Hook := He.hookX 5 fa fn [] tf ex
def ob (s : PySem.W.SharedT) : He.AlX := He.obsX 5 fa fn [] tf ex (HandSHeadRun.getT s)
theorem ob_eq (s : PySem.W.SharedT) : ob s = hk.obs s.abs := He.obsX_eq (HandSHeadRun.getT_eq s)
def names : List Str := (["_wall", "BusError", "BadWidth", "BadNumber", "BadKind", "BadBit", "There", "NotThere", "NoRound", "Over", "Busy", "BadLooks", "BadRoster", "TooMany", "BadPlan"] : List Str) ++ (["BadStep", "BadText", "LEAST_WIDTH", "GREATEST_WIDTH", "require_width", "require_number", "is_number", "KINDS", "require_kind", "Wire", "Walk", "Desk", "_law_taken", "_law_word", "_law_number"] : List Str) ++ (["_law_near", "_law_things", "_law_width", "_law_model", "_law_deed", "_law_become", "_law_change", "_law_pool"] : List Str)
set_option maxHeartbeats 0 in
theorem run (w : World) : HandSHeadRun.RunEq R (PySem.W.view R.prog [44]) hk ob 6000 names w := by
  intro os
  kernel_rfl
end B

set_option Elab.async false
set_option linter.all false
set_option maxRecDepth 100000
set_option maxHeartbeats 4000000
namespace B
open PySem PySem.Spec PyProof.Rows L2
/-- what the defs lean on: the written part, the names, the code tables -/
structure Txt (P : Program) (w : World) (K : PySem.W.Frag) (mg : Str → Option Value) (base : Heap) : Prop where
  X : K.In base
  G : base.Ns mainGlobals mg
  t : He.SaysD fa fn K
  m : ex K = true
  tb : ∀ p ∈ tf, LamX.TabB base mg (He.cT K p).1 (He.cT K p).2
/-- a def that may be called by its name -/
structure CalX (CX : CXT) (P : Program) (w : World) (K : PySem.W.Frag) (mg : Str → Option Value) (base : Heap) (k : Nat) (x : Str) (sp : Sp) : Prop where
  ex : ∃ (f : Addr) (fd : FuncData) (ps : List Str), FnOk P w K mg base CX k f fd ps sp ∧ mg x = some (.ref f) ∧ PySem.W.keepIn K (.ref f) = true ∧ Binds K fd ps []
structure MetX (CX : CXT) (P : Program) (w : World) (K : PySem.W.Frag) (mg : Str → Option Value) (base : Heap) (k : Nat) (C : Addr) (m : Str) (sp : Sp) : Prop where
  ex : ∃ (f : Addr) (fd : FuncData) (ps : List Str), Cls K C ∧ Meth K C m f ∧ FnOk P w K mg base CX k f fd ps sp ∧ Binds K fd ps []
structure MakX (CX : CXT) (P : Program) (w : World) (K : PySem.W.Frag) (mg : Str → Option Value) (base : Heap) (k : Nat) (x : Str) (C : Addr) (sp : Sp) : Prop where
  ex : ∃ (f : Addr) (fd : FuncData) (ps : List Str), Mk K C f ∧ FnOk P w K mg base CX k f fd ps sp ∧ mg x = some (.ref C) ∧ Binds K fd ps []
section
variable {X : Cx} {CX : CXT} {k j : Nat} {C : Addr} {x m : Str} {sp : Sp} {p pos apos : Pos} {e o : Expr} {es : List Expr} {ta : TE} {t : TA} {E : XK}
theorem pe_cx (c : CalX CX X.prog X.w X.K X.mg X.base k x sp) (hr : Room j X.A) (hk : k ≤ j) (hg : Gl X x) (hx : Passes CX X E) (ha : PA X (e :: es) t)
    (hdb : (x == ("__debug__" : Str)) = false := by decide) (he : starEach (e :: es) X.env = (false, eval e X.env) :: starEach es X.env := by rfl) (hpl : (backTo pos (starEach es X.env)).any (·.1) = false := by rfl) :
    PE X (.Call (.Name x p) (e :: es) [] pos) (tCall sp [] E t) := by
  obtain ⟨f, fd, ps, F, hm, hkp, hb⟩ := c.ex
  exact pe_call F (hr.mono hk) hg hm hkp hb .nil hx ha hdb he hpl
theorem pe_mx {pl : Sem Bool} (c : MetX CX X.prog X.w X.K X.mg X.base k C m sp) (hr : Room j X.A) (hk : k ≤ j) (he : PE X o ta) (hx : Passes CX X E) (ha : PA X (e :: es) t)
    (hst : starEach (e :: es) X.env = (false, eval e X.env) :: starEach es X.env := by rfl) (hpl : (backTo pos (starEach es X.env)).any (·.1) = false := by rfl)
    (ht : eval (.Call (.Attribute o m apos) (e :: es) [] pos) X.env = (do
      let ov ← eval o X.env
      standAt apos.atName
      let (f, first) ← holding [ov] (getMethod ov m pl)
      callWith pos f first (backTo pos (starEach (e :: es) X.env)) (backToKw pos (keywordEach [] X.env))) := by rfl) :
    PE X (.Call (.Attribute o m apos) (e :: es) [] pos) (tMeth C m sp [] E ta t) := by
  obtain ⟨f, fd, ps, hc, hm, F, b⟩ := c.ex
  exact pe_meth (pl := pl) he hc hm F (hr.mono hk) b .nil hx ha hst hpl ht
theorem pe_mx0 {pl : Sem Bool} (c : MetX CX X.prog X.w X.K X.mg X.base k C m sp) (hr : Room j X.A) (hk : k ≤ j) (he : PE X o ta) (hx : Passes CX X E)
    (ht : eval (.Call (.Attribute o m apos) [] [] pos) X.env = (do
      let ov ← eval o X.env
      standAt apos.atName
      let (f, first) ← holding [ov] (getMethod ov m pl)
      callWith pos f first (backTo pos (starEach [] X.env)) (backToKw pos (keywordEach [] X.env))) := by rfl) :
    PE X (.Call (.Attribute o m apos) [] [] pos) (tMeth C m sp [] E ta tNil) := by
  obtain ⟨f, fd, ps, hc, hm, F, b⟩ := c.ex
  exact pe_meth0 (pl := pl) he hc hm F (hr.mono hk) b .nil hx ht
/-- a field, the written part by its own name (within a comprehension) -/
theorem pe_fldK {K : PySem.W.Frag} {f : Str} (hK : X.K = K) (ha : PE X e ta) (hb : attributeBase e f X.env (eval e X.env) = eval e X.env := by rfl) : PE X (.Attribute e f pos) (tFld K ta f) := by
  subst hK
  exact pe_fld ha hb
theorem pe_mkx (c : MakX CX X.prog X.w X.K X.mg X.base k x C sp) (hr : Room j X.A) (hk : k + 1 ≤ j) (hg : Gl X x) (hx : Passes CX X E) (ha : PA X (e :: es) t)
    (hdb : (x == ("__debug__" : Str)) = false := by decide) (he : starEach (e :: es) X.env = (false, eval e X.env) :: starEach es X.env := by rfl) (hpl : (backTo pos (starEach es X.env)).any (·.1) = false := by rfl) :
    PE X (.Call (.Name x p) (e :: es) [] pos) (tMake C sp [] E t) := by
  obtain ⟨f, fd, ps, M, F, hm, b⟩ := c.ex
  exact pe_make M F (hr.mono hk) hg hm b .nil hx ha hdb he hpl
end
section
variable {P : Program} {w : World} {K : PySem.W.Frag} {mg : Str → Option Value} {base : Heap}
theorem g_BusError (T : Txt P w K mg base) : mg "BusError" = some (.ref (He.ga K "BusError")) := He.glo_ok T.X T.G (T.t.fact 16)
theorem g_BadWidth (T : Txt P w K mg base) : mg "BadWidth" = some (.ref (He.ga K "BadWidth")) := He.glo_ok T.X T.G (T.t.fact 17)
theorem g_BadNumber (T : Txt P w K mg base) : mg "BadNumber" = some (.ref (He.ga K "BadNumber")) := He.glo_ok T.X T.G (T.t.fact 18)
theorem g_BadKind (T : Txt P w K mg base) : mg "BadKind" = some (.ref (He.ga K "BadKind")) := He.glo_ok T.X T.G (T.t.fact 19)
theorem g_BadBit (T : Txt P w K mg base) : mg "BadBit" = some (.ref (He.ga K "BadBit")) := He.glo_ok T.X T.G (T.t.fact 20)
theorem g_There (T : Txt P w K mg base) : mg "There" = some (.ref (He.ga K "There")) := He.glo_ok T.X T.G (T.t.fact 21)
theorem g_NotThere (T : Txt P w K mg base) : mg "NotThere" = some (.ref (He.ga K "NotThere")) := He.glo_ok T.X T.G (T.t.fact 22)
theorem g_NoRound (T : Txt P w K mg base) : mg "NoRound" = some (.ref (He.ga K "NoRound")) := He.glo_ok T.X T.G (T.t.fact 23)
theorem g_Over (T : Txt P w K mg base) : mg "Over" = some (.ref (He.ga K "Over")) := He.glo_ok T.X T.G (T.t.fact 24)
theorem g_Busy (T : Txt P w K mg base) : mg "Busy" = some (.ref (He.ga K "Busy")) := He.glo_ok T.X T.G (T.t.fact 25)
theorem g_BadLooks (T : Txt P w K mg base) : mg "BadLooks" = some (.ref (He.ga K "BadLooks")) := He.glo_ok T.X T.G (T.t.fact 26)
theorem g_BadRoster (T : Txt P w K mg base) : mg "BadRoster" = some (.ref (He.ga K "BadRoster")) := He.glo_ok T.X T.G (T.t.fact 27)
theorem g_TooMany (T : Txt P w K mg base) : mg "TooMany" = some (.ref (He.ga K "TooMany")) := He.glo_ok T.X T.G (T.t.fact 28)
theorem g_BadPlan (T : Txt P w K mg base) : mg "BadPlan" = some (.ref (He.ga K "BadPlan")) := He.glo_ok T.X T.G (T.t.fact 29)
theorem g_BadStep (T : Txt P w K mg base) : mg "BadStep" = some (.ref (He.ga K "BadStep")) := He.glo_ok T.X T.G (T.t.fact 30)
theorem g_BadText (T : Txt P w K mg base) : mg "BadText" = some (.ref (He.ga K "BadText")) := He.glo_ok T.X T.G (T.t.fact 31)
theorem g_Wire (T : Txt P w K mg base) : mg "Wire" = some (.ref (He.ga K "Wire")) := He.glo_ok T.X T.G (T.t.fact 32)
theorem g_Walk (T : Txt P w K mg base) : mg "Walk" = some (.ref (He.ga K "Walk")) := He.glo_ok T.X T.G (T.t.fact 33)
theorem g_Desk (T : Txt P w K mg base) : mg "Desk" = some (.ref (He.ga K "Desk")) := He.glo_ok T.X T.G (T.t.fact 34)
theorem n_super (T : Txt P w K mg base) : mg "super" = none := He.free_ok T.X T.G (T.t.fact 38)
theorem n_isinstance (T : Txt P w K mg base) : mg "isinstance" = none := He.free_ok T.X T.G (T.t.fact 39)
theorem n_bool (T : Txt P w K mg base) : mg "bool" = none := He.free_ok T.X T.G (T.t.fact 40)
theorem n_all (T : Txt P w K mg base) : mg "all" = none := He.free_ok T.X T.G (T.t.fact 41)
theorem n_str (T : Txt P w K mg base) : mg "str" = none := He.free_ok T.X T.G (T.t.fact 42)
theorem n_len (T : Txt P w K mg base) : mg "len" = none := He.free_ok T.X T.G (T.t.fact 43)
theorem n_sorted (T : Txt P w K mg base) : mg "sorted" = none := He.free_ok T.X T.G (T.t.fact 44)
theorem n_list (T : Txt P w K mg base) : mg "list" = none := He.free_ok T.X T.G (T.t.fact 45)
theorem n_int (T : Txt P w K mg base) : mg "int" = none := He.free_ok T.X T.G (T.t.fact 46)
theorem n_ValueError (T : Txt P w K mg base) : mg "ValueError" = none := He.free_ok T.X T.G (T.t.fact 47)
theorem n_range (T : Txt P w K mg base) : mg "range" = none := He.free_ok T.X T.G (T.t.fact 48)
theorem n_max (T : Txt P w K mg base) : mg "max" = none := He.free_ok T.X T.G (T.t.fact 49)
theorem n_set (T : Txt P w K mg base) : mg "set" = none := He.free_ok T.X T.G (T.t.fact 50)
theorem xc_KINDS (T : Txt P w K mg base) : tupB K "KINDS" [.str "all", .str "alarm"] = true := (He.ba (He.ba T.m).2).1
end
section
variable {X : Cx}
theorem g_LEAST_WIDTH (T : Txt X.prog X.w X.K X.mg X.base) {p : Pos} (hg : Gl X "LEAST_WIDTH" := by rfl) : PE X (.Name "LEAST_WIDTH" p) (tC (.int 1)) := by
  obtain ⟨t, e⟩ := He.int_ok T.X T.G (T.t.fact 35 (f := .int "LEAST_WIDTH" 1))
  exact pe_glob hg e ⟨t, rfl⟩
theorem g_GREATEST_WIDTH (T : Txt X.prog X.w X.K X.mg X.base) {p : Pos} (hg : Gl X "GREATEST_WIDTH" := by rfl) : PE X (.Name "GREATEST_WIDTH" p) (tC (.int 12)) := by
  obtain ⟨t, e⟩ := He.int_ok T.X T.G (T.t.fact 36 (f := .int "GREATEST_WIDTH" 12))
  exact pe_glob hg e ⟨t, rfl⟩
theorem g_KINDS (T : Txt X.prog X.w X.K X.mg X.base) {p : Pos} (hg : Gl X "KINDS" := by rfl) : PE X (.Name "KINDS" p) (tC (.ref (He.ga X.K "KINDS"))) :=
  pe_glob hg (He.glo_ok T.X T.G (T.t.fact 37)) rfl
end
/-- a test whose answer is open -/
theorem iteB {b : Bool} {A B : Prop} (h1 : b = true → A) (h2 : b = false → B) : if b = true then A else B := by
  cases b with
  | true => exact iteT (h1 rfl)
  | false => exact iteF (h2 rfl)
/-! ### drawing -/
/-- the row of a draw -/
abbrev rowO (a : Addr) (i m b : Int) : HO := .lst [.ref a, .int i, .int m, .int b]
/-- the row at r stands over the script at a -/
def RowAt (r a : Addr) (H : Hp) : Prop := ∃ i m b : Int, H r = some (rowO a i m b) ∧ 0 ≤ i
/-- the script stands at a -/
def Scr (K : PySem.W.Frag) (a : Addr) (H : Hp) : Prop := ∃ ns : List Int, SqL K H a (ns.map V.int)
/-- no list but of objects, no tuple -/
def nl : HO → Bool
  | .ins _ _ _ => true
  | .dK _ => true
  | .lst (.ref _ :: _) => true
  | _ => false
def NL (S : List Addr) (H : Hp) : Prop := ∀ s ∈ S, ∃ o, H s = some o ∧ nl o = true
theorem NL.nil {H : Hp} : NL [] H := fun _ h => absurd h (by simp)
theorem NL.cons {S : List Addr} {H : Hp} {s : Addr} {o : HO} (h : H s = some o) (n : nl o = true) (t : NL S H) : NL (s :: S) H := fun c hc => by
  rcases List.mem_cons.mp hc with e | e
  · rw [e]
    exact ⟨o, h, n⟩
  · exact t c e
theorem RowAt.nl {r a : Addr} {H : Hp} (h : RowAt r a H) : NL [r] H := by
  obtain ⟨i, m, b, e, _⟩ := h
  exact .cons e rfl .nil
/-- a code table: only its own rules say what becomes of it -/
def isT : HO → Bool
  | .tbl _ => true
  | _ => false
/-- what stood stands, but for the objects of S; nothing goes -/
structure Frm (S : List Addr) (H H' : Hp) : Prop where
  k : ∀ b o, H b = some o → 0 = 0 → b ∉ S → H' b = some o
  b : ∀ b, H' b = none → H b = none
theorem Frm.refl (S : List Addr) (H : Hp) : Frm S H H := ⟨fun _ _ h _ _ => h, fun _ h => h⟩
theorem Frm.trans {S : List Addr} {H H1 H2 : Hp} (a : Frm S H H1) (b : Frm S H1 H2) : Frm S H H2 := ⟨fun c o h t n => b.k c o (a.k c o h t n) t n, fun c h => a.b c (b.b c h)⟩
theorem Frm.mono {S S' : List Addr} {H H1 : Hp} (a : Frm S H H1) (h : ∀ x ∈ S, x ∈ S') : Frm S' H H1 := ⟨fun c o e t n => a.k c o e t fun z => n (h c z), a.b⟩
theorem Frm.of {S : List Addr} {H H1 : Hp} (a : Same H H1) : Frm S H H1 := ⟨fun c o e _ _ => a c o e, fun c h => a.free h⟩
theorem upd_back {H : Hp} {p b : Addr} {o : HO} (h : upd H p o b = none) : H b = none := by
  by_cases e : b = p
  · rw [e, upd_same] at h
    cases h
  · rw [upd_ne e] at h
    exact h
theorem Frm.new {S : List Addr} {H H1 : Hp} {p : Addr} {o : HO} (a : Frm S H H1) (h : H p = none) : Frm S H (upd H1 p o) := ⟨fun c u e t n => by
  rw [upd_ne (ne_of_none e h)]
  exact a.k c u e t n, fun c z => a.b c (upd_back z)⟩
theorem Frm.put {S : List Addr} {H H1 : Hp} {p : Addr} {o : HO} (a : Frm S H H1) (h : p ∈ S) : Frm S H (upd H1 p o) := ⟨fun c u e t n => by
  rw [upd_ne (fun z => n (by rw [z]; exact h))]
  exact a.k c u e t n, fun c z => a.b c (upd_back z)⟩
theorem same_upd {H : Hp} {p : Addr} {o : HO} (h : H p = none) : Same H (upd H p o) := fun b x e => by
  rw [upd_ne (ne_of_none e h)]
  exact e
/-- what is no nl stands -/
theorem Frm.at {S : List Addr} {H H' : Hp} {p : Addr} {o : HO} (f : Frm S H H') (n : NL S H) (h : H p = some o) (h1 : isT o = false) (h2 : B.nl o = false) : H' p = some o :=
  f.k p o h rfl fun z => by
    obtain ⟨u, e, q⟩ := n p z
    rw [h] at e
    cases e
    rw [h2] at q
    cases q
theorem nl_strs (xs : List Str) : B.nl (.lst (xs.map V.str)) = false := by
  cases xs <;> rfl
theorem nl_ints (xs : List Int) : B.nl (.lst (xs.map V.int)) = false := by
  cases xs <;> rfl
theorem Frm.scr {K : PySem.W.Frag} {S : List Addr} {H H' : Hp} {a : Addr} (f : Frm S H H') (n : NL S H) (h : Scr K a H) : Scr K a H' := by
  obtain ⟨ns, (h | ⟨u, h⟩) | h⟩ := h
  · exact ⟨ns, .inl (.inl (f.at n h rfl (nl_ints ns)))⟩
  · exact ⟨ns, .inl (.inr ⟨u, f.at n h rfl rfl⟩)⟩
  · exact ⟨ns, .inr h⟩
theorem Frm.row {S : List Addr} {H H' : Hp} {r a : Addr} (f : Frm S H H') (hr : r ∉ S) (h : RowAt r a H) : RowAt r a H' := by
  obtain ⟨i, m, b, e, h0⟩ := h
  exact ⟨i, m, b, f.k r _ e rfl hr, h0⟩
/-- a number below n; the row turned -/
def spTaken (K : PySem.W.Frag) : Sp := fun vs H Q _ => ∃ (r a : Addr) (n : Int), vs = [.ref r, .int n] ∧ RowAt r a H ∧ Scr K a H ∧ 0 < n ∧ n < 1073741824 ∧
  ∀ (v : Int) (H' : Hp), 0 ≤ v → v < n → RowAt r a H' → Frm [r] H H' → Q (.int v) H'
theorem fmod_in {x n : Int} (h : 0 < n) : 0 ≤ x.fmod n ∧ x.fmod n < n := by
  rw [Int.fmod_eq_emod_of_nonneg _ (by omega)]
  exact ⟨Int.emod_nonneg _ (by omega), Int.emod_lt_of_pos _ h⟩
section
variable {P : Program} {w : World} {K : PySem.W.Frag} {mg : Str → Option Value} {base : Heap}
theorem c_ltaken (T : Txt P w K mg base) : CalX CX0 P w K mg base 1 "_law_taken" (spTaken K) := by
  obtain ⟨fd, F⟩ := T.t.def_ 26 (d := d_ltaken)
  refine ⟨_, fd, _, F.ok sc_ltaken (fun vs H Q E h => ?_) (fun cdv A outer s H vs Q E hr h => ?_), He.glo_ok T.X T.G (T.t.fact 4), F.kp, F.bindsN fun _ _ _ _ _ _ us hl => match us, hl with | [_, _], _ => rfl⟩
  · obtain ⟨r, a, n, rfl, _⟩ := h
    rfl
  · obtain ⟨r, a, n, rfl, ⟨i, m, b, h1, hi⟩, ⟨ns, hS⟩, hn, hn2, k0⟩ := h
    have f1 : ∀ o', Frm [r] H (upd H r o') := fun o' => (Frm.refl _ _).put (List.mem_singleton.mpr rfl)
    have k : ∀ v i' m' b' : Int, 0 ≤ i' → 0 ≤ v → v < n → Q (.int v) (upd H r (rowO a i' m' b')) := fun v i' m' b' h2 h3 h4 =>
      k0 v _ h3 h4 ⟨i', m', b', upd_same, h2⟩ (f1 _)
    refine ⟨_, PSs.nox (pss_cons (ps_if (pt_cmpR op_gt (pe_ix ix_list (pv 0) pe_int (fun _ _ => rfl)) pe_int (nomark _))
      (pss_cons (ps_set (i := 2) sc_ltaken.nd rfl (Or.inl rfl) (pe_op op_modN (pe_ix ix_list (pv 0) pe_int (fun _ _ => rfl)) (pv 1)))
      (pss_cons (ps_asg (pe_op op_fdivN (pe_ix ix_list (pv 0) pe_int (fun _ _ => rfl)) (pv 1)) (pg_sub (pv 0) pe_int set_list))
      (pss_one (ps_ret (pv 2)))))
      pss_nil)
    (pss_cons (ps_asg (pe_op op_add (pe_ix ix_list (pv 0) pe_int (fun _ _ => rfl)) pe_int) (pg_sub (pv 0) pe_int set_list))
    (pss_cons (ps_if (pt_cmpR op_gt (pe_ix ix_list (pv 0) pe_int (fun _ _ => rfl)) (pe_callB call_len_seq (by rfl) (n_len T) PySem.boot_len (pa_cons (pe_ix ix_list (pv 0) pe_int (fun _ _ => rfl)) pa_nil)) (nomark _))
      (pss_cons (ps_asg (pe_op op_mod (pe_op op_add (pe_op op_mul (pe_ix ix_list (pv 0) pe_int (fun _ _ => rfl)) pe_int) pe_int) pe_int) (pg_sub (pv 0) pe_int set_list))
      (pss_one (ps_ret (pe_op op_modN (pe_op op_fdiv (pe_ix ix_list (pv 0) pe_int (fun _ _ => rfl)) pe_int) (pv 1)))))
      pss_nil)
    (pss_cons (ps_set (i := 3) sc_ltaken.nd rfl (Or.inl rfl) (pe_ix ix_list (pe_ix ix_list (pv 0) pe_int (fun _ _ => rfl)) (pe_op op_sub (pe_ix ix_list (pv 0) pe_int (fun _ _ => rfl)) pe_int) (fun _ _ => rfl)))
    (pss_cons (ps_asg (pe_op op_mod (pe_op op_add (pe_op op_add (pe_op op_mul (pe_ix ix_list (pv 0) pe_int (fun _ _ => rfl)) pe_int) (pv 3)) pe_int) pe_int) (pg_sub (pv 0) pe_int set_list))
    (pss_cons (ps_if (pt_cmpR op_ge (pv 3) (pe_op op_pow pe_int pe_int) (nomark _))
      (pss_one (ps_asg (pe_op op_fdivN (pv 3) (pv 1)) (pg_sub (pv 0) pe_int set_list)))
      pss_nil)
    (pss_one (ps_ret (pe_op op_modN (pv 3) (pv 1)))))))))), ?_⟩
    have hd : n ≠ 0 ∧ n.natAbs < 1073741824 := by omega
    -- if row[3] > 0
    refine ⟨_, rfl, r, _, 3, .int b, rfl, rfl, SqL.of h1, rfl, b, 0, rfl, rfl, _, rfl, iteB (fun c => ?_) (fun c => ?_)⟩
    · refine ⟨_, rfl, r, _, 3, .int b, rfl, rfl, SqL.of h1, rfl, _, rfl, b, n, rfl, rfl, (by omega), ?_⟩
      refine ⟨_, rfl, r, _, 3, .int b, rfl, rfl, SqL.of h1, rfl, _, rfl, b, n, rfl, rfl, hd, ?_⟩
      refine ⟨_, rfl, r, _, 3, 3, rfl, rfl, h1, rfl, ?_⟩
      refine ⟨_, rfl, ?_⟩
      exact k _ i m _ hi (fmod_in hn).1 (fmod_in hn).2
    · -- row[1] = row[1] + 1
      refine ⟨_, rfl, r, _, 1, .int i, rfl, rfl, SqL.of h1, rfl, i, 1, rfl, rfl, ?_⟩
      refine ⟨_, rfl, r, _, 1, 1, rfl, rfl, h1, rfl, ?_⟩
      have h2 : (upd H r (rowO a (i + 1) m b)) r = some (rowO a (i + 1) m b) := upd_same
      have S2 : SqL K (upd H r (rowO a (i + 1) m b)) a (ns.map V.int) := by
        rcases hS with (z | ⟨u, z⟩) | z
        · exact .inl (.inl ((f1 _).at (RowAt.nl ⟨i, m, b, h1, hi⟩) z rfl (nl_ints ns)))
        · exact .inl (.inr ⟨u, (f1 _).at (RowAt.nl ⟨i, m, b, h1, hi⟩) z rfl rfl⟩)
        · exact .inr z
      -- if row[1] > len(row[0])
      refine ⟨_, rfl, r, _, 1, .int (i + 1), rfl, rfl, SqL.of h2, rfl, _, rfl, r, _, 0, .ref a, rfl, rfl, SqL.of h2, rfl, a, _, rfl, .inl S2, _, _, rfl, rfl, _, rfl, iteB (fun c => ?_) (fun c => ?_)⟩
      · refine ⟨_, rfl, r, _, 2, .int m, rfl, rfl, SqL.of h2, rfl, m, 48271, rfl, rfl, .inr (by decide), _, 11, rfl, rfl, _, 2147483647, rfl, rfl, (by show (0 : Int) < 2147483647; decide), ?_⟩
        refine ⟨_, rfl, r, _, 2, 2, rfl, rfl, h2, rfl, ?_⟩
        refine ⟨_, rfl, r, _, 2, _, rfl, rfl, SqL.of upd_same, rfl, _, 7, rfl, rfl, ⟨by decide, by decide⟩, _, rfl, _, n, rfl, rfl, (by omega), ?_⟩
        rw [upd_upd]
        exact k _ (i + 1) _ b (by omega) (fmod_in hn).1 (fmod_in hn).2
      · have hlt : i.toNat < ns.length := by
          have c' := of_decide_eq_false c
          rw [List.length_map] at c'
          omega
        have hat : atI (ns.map V.int) (i + 1 - 1) = some (.int ns[i.toNat]) := by
          have e : i + 1 - 1 = ((i.toNat : Nat) : Int) := by omega
          rw [e]
          exact atI_nat (by rw [List.getElem?_map, List.getElem?_eq_getElem hlt]; rfl)
        refine ⟨_, rfl, r, _, 0, .ref a, rfl, rfl, SqL.of h2, rfl, _, rfl, r, _, 1, .int (i + 1), rfl, rfl, SqL.of h2, rfl, _, 1, rfl, rfl, a, _, _, _, rfl, rfl, S2, hat, ?_⟩
        refine ⟨_, rfl, r, _, 2, .int m, rfl, rfl, SqL.of h2, rfl, m, 48271, rfl, rfl, .inr (by decide), _, rfl, _, _, rfl, rfl, _, 11, rfl, rfl, _, 2147483647, rfl, rfl, (by show (0 : Int) < 2147483647; decide), ?_⟩
        refine ⟨_, rfl, r, _, 2, 2, rfl, rfl, h2, rfl, ?_⟩
        refine ⟨_, rfl, 10, 18, rfl, rfl, ⟨by decide, by decide, by decide⟩, _, _, rfl, rfl, _, rfl, iteB (fun c => ?_) (fun c => ?_)⟩
        · refine ⟨_, rfl, _, rfl, _, n, rfl, rfl, hd, _, rfl, r, _, 3, 3, rfl, rfl, upd_same, rfl, ?_⟩
          refine ⟨_, rfl, _, rfl, _, n, rfl, rfl, (by omega), ?_⟩
          rw [upd_upd, upd_upd]
          exact k _ (i + 1) _ _ (by omega) (fmod_in hn).1 (fmod_in hn).2
        · refine ⟨_, rfl, _, rfl, _, n, rfl, rfl, (by omega), ?_⟩
          rw [upd_upd]
          exact k _ (i + 1) _ b (by omega) (fmod_in hn).1 (fmod_in hn).2
end
end B

set_option Elab.async false
set_option linter.all false
set_option maxRecDepth 100000
set_option maxHeartbeats 4000000
namespace B
open PySem PySem.Spec PyProof.Rows L2
open SX (S)
/-! ### texts of signs 0 and 1 -/
def Bits (l : List Nat) : Prop := ∀ c ∈ l, c = 48 ∨ c = 49
/-- a number of the width W -/
def Num (W : Nat) (x : Str) : Prop := ∃ l, x = S l ∧ l.length = W ∧ Bits l
theorem Bits.nil : Bits [] := fun _ h => absurd h (by simp)
theorem Bits.snoc {l : List Nat} {c : Nat} (h : Bits l) (hc : c = 48 ∨ c = 49) : Bits (l ++ [c]) := fun d hd => by
  rcases List.mem_append.mp hd with z | z
  · exact h d z
  · rw [List.mem_singleton.mp z]
    exact hc
theorem Bits.app {l m : List Nat} (h : Bits l) (h2 : Bits m) : Bits (l ++ m) := fun d hd => by
  rcases List.mem_append.mp hd with z | z
  · exact h d z
  · exact h2 d z
theorem Bits.take {l : List Nat} (n : Nat) (h : Bits l) : Bits (l.take n) := fun d hd => h d (List.mem_of_mem_take hd)
theorem Bits.drop {l : List Nat} (n : Nat) (h : Bits l) : Bits (l.drop n) := fun d hd => h d (List.mem_of_mem_drop hd)
theorem joinL_signs : ∀ cs : List Nat, TL.joinL [] (cs.map fun c => [c]) = cs
  | [] => rfl
  | [c] => rfl
  | c :: d :: r => by
    show [c] ++ ([] ++ TL.joinL [] ((d :: r).map fun c => [c])) = c :: d :: r
    rw [joinL_signs (d :: r)]
    rfl
theorem empty_S : ("" : Str) = S [] := by decide +kernel
theorem join_signs (cs : List Nat) : Txt.join "" (cs.map fun c => S [c]) = S cs := by
  have e : cs.map (fun c => S [c]) = (cs.map fun c => [c]).map S := by rw [List.map_map]; rfl
  rw [empty_S, e, SX.join_S, joinL_signs]
theorem sum_signs (cs : List Nat) : ((cs.map fun c => S [c]).map (·.length)).sum = cs.length := by
  induction cs with
  | nil => rfl
  | cons c r ih =>
    rw [List.map_cons, List.map_cons, List.sum_cons, ih, SX.S_len, List.length_cons]
    show 1 + r.length = r.length + 1
    omega
theorem op_rep_str {X : Cx} : OpR X (binaryOp .Mult) (fun x y H Q => ∃ z k, x = .str z ∧ y = .int k ∧ PySem.MulOk z k ∧ Q (.str (Txt.mul z k)) H) := by
  intro pins s σ H x y v u Q I rx ry h
  obtain ⟨z, k, rfl, rfl, ok, q⟩ := h
  obtain ⟨t, rfl⟩ := rx
  obtain ⟨t', rfl⟩ := ry
  exact PySem.SB.mul ok fun t' tk => ⟨.str _, H, I.tok _, ⟨_, rfl⟩, q⟩
theorem zeros_ok : ∀ n : Nat, n ≤ 12 → PySem.MulOk "0" (n : Int) := fun n hn => by
  have z : (List.range 13).all (fun n => (decide (((n : Nat) : Int) < -(2 ^ 63 : Int)) || decide (((n : Nat) : Int) ≥ 2 ^ 63)) == false && (decide (((n : Nat) : Int) < 1) || (!decide ((("0" : Str).length : Int) > (2 ^ 63 - 1) / ((n : Nat) : Int)) && (Builtin.Str.tooLong (("0" : Str).length * n) == false)))) = true := by decide +kernel
  have q := List.all_eq_true.mp z n (List.mem_range.mpr (by omega))
  simp only [Bool.and_eq_true, Bool.or_eq_true, decide_eq_true_eq, beq_iff_eq, Bool.not_eq_true', decide_eq_false_iff_not] at q
  refine ⟨q.1, fun h1 _ => ?_, fun h1 _ => ?_⟩
  · rcases q.2 with a | a
    · exact absurd a h1
    · exact a.1
  · rcases q.2 with a | a
    · exact absurd a h1
    · rw [Int.toNat_natCast]
      exact a.2
theorem zeros_is : ∀ n : Nat, n ≤ 12 → Txt.mul "0" (n : Int) = S (List.replicate n 48) := fun n hn => by
  have z : (List.range 13).all (fun n => decide (Txt.mul "0" ((n : Nat) : Int) = S (List.replicate n 48))) = true := by decide +kernel
  exact of_decide_eq_true (List.all_eq_true.mp z n (List.mem_range.mpr (by omega)))
section
variable {P : Program} {w : World} {K : PySem.W.Frag} {mg : Str → Option Value} {base : Heap}
theorem RowAt.ne {r a p : Addr} {H : Hp} {o : HO} (h : RowAt r a H) (n : r ≠ p) : RowAt r a (upd H p o) := by
  obtain ⟨i, m, b, z, h0⟩ := h
  exact ⟨i, m, b, by rw [upd_ne n]; exact z, h0⟩
theorem RowAt.out {r a p : Addr} {H : Hp} (h : RowAt r a H) (n : H p = none) : r ≠ p := by
  obtain ⟨i, m, b, z, h0⟩ := h
  exact ne_of_none z n
/-- a number, each sign drawn -/
def spNumber (K : PySem.W.Frag) : Sp := fun vs H Q _ => ∃ (r a : Addr) (W : Nat), vs = [.ref r, .int W] ∧ RowAt r a H ∧ Scr K a H ∧ W ≤ 12 ∧
  ∀ (x : Str) (H' : Hp), Num W x → RowAt r a H' → Frm [r] H H' → Q (.str x) H'
theorem c_lnumber (T : Txt P w K mg base) : CalX CX0 P w K mg base 2 "_law_number" (spNumber K) := by
  obtain ⟨fd, F⟩ := T.t.def_ 28 (d := d_lnumber)
  refine ⟨_, fd, _, F.ok sc_lnumber (fun vs H Q E h => ?_) (fun cdv A outer s H vs Q E hr h => ?_), He.glo_ok T.X T.G (T.t.fact 6), F.kp, F.bindsN fun _ _ _ _ _ _ us hl => match us, hl with | [_, _], _ => rfl⟩
  · obtain ⟨r, a, W, rfl, _⟩ := h
    rfl
  · obtain ⟨r, a, W, rfl, hR, hS, hW, k⟩ := h
    refine ⟨_, PSs.nox (pss_one (ps_ret (pe_join pe_str (pe_lc (own := [("_law_k", 2)]) (g := gName 2) rfl sc_lnumber.nd (pi_range1 rfl (n_range T) (pa_cons (pv 1) pa_nil)) (blkOk_by (N := ["_law_row", "_law_width_here", "_law_k"]) (sc := defScope s_lnumber) (own := [("_law_k", 2)]) (by decide +kernel)) (fun _ _ _ _ _ => pg_name (i := 2) sc_lnumber.nd rfl (Or.inl rfl)) (fun _ _ _ _ _ => pts_nil) (fun _ _ _ _ _ => by exact (pe_ix ix_str pe_str (pe_cx (c_ltaken T) hr (by decide) rfl pass0 (pa_cons (pv 0) (pa_cons pe_int pa_nil))) (fun _ _ => rfl))))))), ?_⟩
    refine ⟨⟨_, rfl⟩, _, rfl, (W : Int), rfl, by omega, by omega, fun D hD => ?_⟩
    have nDr : r ≠ D := hR.out hD
    refine lc_range (lo := 0) (n := (W : Int).toNat) (fun i H' => ∃ cs : List Nat, cs.length = i ∧ Bits cs ∧ H' D = some (.lst ((cs.map fun c => S [c]).map V.str)) ∧ RowAt r a H' ∧ Frm [r] H H')
      ⟨[], rfl, Bits.nil, upd_same, hR.ne nDr, (Frm.refl _ _).new hD⟩ ?_ ?_
    · rintro i H1 hi ⟨cs, hl, hb, hD1, hR1, f1⟩
      refine ⟨rfl, _, rfl, r, a, 2, rfl, hR1, f1.scr hR.nl hS, by decide, by decide, fun v H2 h0 h1 hR2 f2 => ?_⟩
      have hD2 : H2 D = some (.lst ((cs.map fun c => S [c]).map V.str)) := f2.k D _ hD1 rfl (by simpa using nDr.symm)
      have hv : v = 0 ∨ v = 1 := by omega
      have fin : ∀ c : Nat, c = 48 ∨ c = 49 → ∃ acc, H2 D = some (.lst acc) ∧ acc.length < sizeLine ∧ ∃ cs : List Nat, cs.length = i + 1 ∧ Bits cs ∧ (upd H2 D (.lst (acc ++ [V.str ⟨#[c]⟩]))) D = some (.lst ((cs.map fun c => S [c]).map V.str)) ∧ RowAt r a (upd H2 D (.lst (acc ++ [V.str ⟨#[c]⟩]))) ∧ Frm [r] H (upd H2 D (.lst (acc ++ [V.str ⟨#[c]⟩]))) := fun c hc => by
        refine ⟨_, hD2, by rw [List.length_map, List.length_map]; exact small1000 (by omega), cs ++ [c], by rw [List.length_append, hl]; rfl, hb.snoc hc, ?_, ?_, (f1.trans f2).new hD⟩
        · rw [upd_same, List.map_append, List.map_append]
          rfl
        · exact hR2.ne nDr
      rcases hv with rfl | rfl
      · exact ⟨_, _, 48, rfl, rfl, by decide +kernel, by decide +kernel, fin 48 (.inl rfl)⟩
      · exact ⟨_, _, 49, rfl, rfl, by decide +kernel, by decide +kernel, fin 49 (.inr rfl)⟩
    · rintro H1 ⟨cs, hl, hb, hD1, hR1, f1⟩
      refine ⟨_, D, cs.map fun c => S [c], rfl, rfl, .inl (SqL.of hD1), ?_, ?_⟩
      · rw [sum_signs, empty_S, SX.S_len]
        show cs.length + _ * 0 ≤ 16777216
        omega
      · rw [join_signs]
        exact k _ H1 ⟨cs, rfl, by omega, hb⟩ hR1 f1
end
end B

set_option Elab.async false
set_option linter.all false
set_option maxRecDepth 100000
set_option maxHeartbeats 4000000
namespace B
open PySem PySem.Spec PyProof.Rows L2
open SX (S)
/-! ### the order of texts -/
def leS (x y : Str) : Prop := x.cps.toList ≤ y.cps.toList
theorem leS_of {x y : Str} (h : ltCps y.cps.toList x.cps.toList = false) : leS x y := by
  rw [ltCps_eq] at h
  exact of_decide_eq_false h
theorem of_leS {x y : Str} (h : leS x y) : ltCps y.cps.toList x.cps.toList = false := by
  rw [ltCps_eq]
  exact decide_eq_false h
theorem leS_trans {x y z : Str} (h1 : leS x y) (h2 : leS y z) : leS x z := List.le_trans h1 h2
theorem leS_antisymm {x y : Str} (h1 : leS x y) (h2 : leS y x) : x = y := TL.ext_tl (List.le_antisymm h1 h2)
theorem rising_pw : ∀ (r : List Str) (x : Str), risingS x r = true → (x :: r).Pairwise leS
  | [], x, _ => by simp
  | y :: r, x, h => by
    have h' : (!ltCps y.cps.toList x.cps.toList && risingS y r) = true := h
    rw [Bool.and_eq_true, Bool.not_eq_true'] at h'
    have ih := rising_pw r y h'.2
    refine List.pairwise_cons.mpr ⟨fun z hz => ?_, ih⟩
    have hxy : leS x y := leS_of h'.1
    rcases List.mem_cons.mp hz with e | e
    · rw [e]
      exact hxy
    · exact leS_trans hxy ((List.pairwise_cons.mp ih).1 z e)
theorem sorted_pw : ∀ {l : List Str}, sortedS l = true → l.Pairwise leS
  | [], _ => .nil
  | x :: r, h => rising_pw r x h
theorem pw_sorted {l : List Str} (h : l.Pairwise leS) : sortedS l = true := sortedS_of_pairwise l (h.imp of_leS)
theorem pw_perm_eq : ∀ {l m : List Str}, l.Pairwise leS → m.Pairwise leS → l.Perm m → l = m
  | [], m, _, _, p => (List.perm_nil.mp p.symm).symm
  | x :: r, [], _, _, p => absurd (List.perm_nil.mp p) (by simp)
  | x :: r, y :: t, h1, h2, p => by
    have a1 := List.pairwise_cons.mp h1
    have a2 := List.pairwise_cons.mp h2
    have e : x = y := by
      have hx : x ∈ y :: t := p.mem_iff.mp List.mem_cons_self
      have hy : y ∈ x :: r := p.mem_iff.mpr List.mem_cons_self
      rcases List.mem_cons.mp hx with e | e
      · exact e
      · rcases List.mem_cons.mp hy with e' | e'
        · exact e'.symm
        · exact leS_antisymm (a1.1 y e') (a2.1 x e)
    subst e
    rw [pw_perm_eq a1.2 a2.2 (List.Perm.cons_inv p)]
theorem sorted_eq {l m : List Str} (h1 : sortedS l = true) (h2 : sortedS m = true) (p : l.Perm m) : l = m := pw_perm_eq (sorted_pw h1) (sorted_pw h2) p
/-- a sorted list, some left out -/
theorem sorted_filter {l : List Str} (f : Str → Bool) (h : sortedS l = true) : sortedS (l.filter f) = true := pw_sorted ((sorted_pw h).filter f)
/-! ### data: lists of texts -/
theorem strOk_bits {l : List Nat} (h : Bits l) : PyData.strOk (S l) = true := by
  show (S l).cps.all (· < 0x110000) = true
  rw [Array.all_eq_true']
  intro c hc
  have z : c ∈ l := by simpa [SX.S] using hc
  rcases h c z with e | e <;> (subst e; rfl)
theorem strOk_num {W : Nat} {x : Str} (h : Num W x) : PyData.strOk x = true := by
  obtain ⟨l, rfl, _, b⟩ := h
  exact strOk_bits b
theorem shaped_strs {xs : List Str} (h : ∀ x ∈ xs, PyData.strOk x = true) : SeqAt.shaped (.list (xs.map .str)) = true := by
  have e1 : (PyData.list (xs.map .str)).canLay0 = true := by
    show PyData.canLayAll0 (xs.map .str) = true
    rw [canLayAll_strs']
    exact List.all_eq_true.mpr h
  have e2 : (PyData.list (xs.map .str)).depth ≤ 64 := by
    show PyData.depthAll (xs.map .str) + 1 ≤ 64
    rw [depthAll_strs']
    decide
  show ((PyData.list (xs.map .str)).canLay0 && decide ((PyData.list (xs.map .str)).depth ≤ 64)) = true
  rw [e1, decide_eq_true e2]
  rfl
theorem dp_strs {K : PySem.W.Frag} {H : Hp} : ∀ (xs : List Str), DpAll K H (xs.map V.str) (xs.map .str)
  | [] => .nil
  | x :: r => .cons (.str x) (dp_strs r)
theorem eqv_empty (xs : List Str) : PyData.eqv (.list (xs.map .str)) (.list []) = xs.isEmpty := by
  cases xs <;> rfl
end B

set_option Elab.async false
set_option linter.all false
set_option maxRecDepth 100000
set_option maxHeartbeats 4000000
namespace B
open PySem PySem.Spec PyProof.Rows L2
open SX (S)
/-- a part of a list is of its items -/
theorem cutV_strs (xs : List Str) (lo hi : Option Int) : ∃ ys : List Str, cutV (xs.map V.str) lo hi = ys.map V.str ∧ (∀ y ∈ ys, y ∈ xs) ∧ ys.length ≤ xs.length ∧ ys.Sublist xs := by
  refine ⟨(xs.drop (HT.sIx (xs.map V.str).length 0 lo)).take (HT.sIx (xs.map V.str).length (xs.map V.str).length hi - HT.sIx (xs.map V.str).length 0 lo), ?_, fun y h => List.mem_of_mem_drop (List.mem_of_mem_take h), ?_, (List.take_sublist _ _).trans (List.drop_sublist _ _)⟩
  · unfold cutV
    rw [List.map_take, List.map_drop]
  · rw [List.length_take, List.length_drop]
    omega
theorem num_len {W : Nat} {x : Str} (h : Num W x) : x.length = W := by
  obtain ⟨l, rfl, e, _⟩ := h
  rw [SX.S_len, e]
theorem size12 {n : Nat} (h : n ≤ 100) : n ≤ sizeLine := Nat.le_trans h (by decide)
/-- an item of a list at a place below its length -/
theorem at_strs {xs : List Str} {v : Int} (h0 : 0 ≤ v) (h1 : v < (xs.length : Int)) : ∃ x ∈ xs, atI (xs.map V.str) v = some (.str x) := by
  obtain ⟨n, rfl⟩ : ∃ n : Nat, v = (n : Int) := ⟨v.toNat, by omega⟩
  have hlt : n < xs.length := by omega
  exact ⟨xs[n], List.getElem_mem hlt, atI_nat (by rw [List.getElem?_map, List.getElem?_eq_getElem hlt]; rfl)⟩
/-- the front of one number, the rest of another -/
theorem num_mix {W : Nat} {x y : Str} (hx : Num W x) (hy : Num W y) {i : Int} (h0 : 0 ≤ i) : Num W (Txt.slice x none (some i) ++ Txt.slice y (some i) none) := by
  obtain ⟨l, rfl, e1, b1⟩ := hx
  obtain ⟨m, rfl, e2, b2⟩ := hy
  rw [SX.slice_to h0, SX.slice_from h0, SX.S_cat]
  refine ⟨_, rfl, ?_, (b1.take _).app (b2.drop _)⟩
  rw [List.length_append, List.length_take, List.length_drop]
  omega
theorem slice_len {W : Nat} {x : Str} (hx : Num W x) {i : Int} (h0 : 0 ≤ i) : (Txt.slice x none (some i)).length ≤ W ∧ (Txt.slice x (some i) none).length ≤ W := by
  obtain ⟨l, rfl, e1, b1⟩ := hx
  rw [SX.slice_to h0, SX.slice_from h0, SX.S_len, SX.S_len, List.length_take, List.length_drop]
  omega
section
variable {P : Program} {w : World} {K : PySem.W.Frag} {mg : Str → Option Value} {base : Heap}
/-- a number; some: a list of such -/
def spNear (K : PySem.W.Frag) : Sp := fun vs H Q _ => ∃ (r a p : Addr) (W : Nat) (xs : List Str), vs = [.ref r, .int W, .ref p] ∧ RowAt r a H ∧ Scr K a H ∧ W ≤ 12 ∧ H p = some (.lst (xs.map V.str)) ∧ (∀ x ∈ xs, Num W x) ∧ xs.length ≤ 100 ∧
  ∀ (x : Str) (H' : Hp), Num W x → RowAt r a H' → Frm [r] H H' → Q (.str x) H'
theorem c_lnear (T : Txt P w K mg base) : CalX CX0 P w K mg base 3 "_law_near" (spNear K) := by
  obtain ⟨fd, F⟩ := T.t.def_ 29 (d := d_lnear)
  refine ⟨_, fd, _, F.ok sc_lnear (fun vs H Q E h => ?_) (fun cdv A outer s H vs Q E hr h => ?_), He.glo_ok T.X T.G (T.t.fact 7), F.kp, F.bindsN fun _ _ _ _ _ _ us hl => match us, hl with | [_, _, _], _ => rfl⟩
  · obtain ⟨r, a, p, W, xs, rfl, _⟩ := h
    rfl
  · obtain ⟨r, a, p, W, xs, rfl, hR, hS, hW, hp, hn, hl, k⟩ := h
    refine ⟨_, PSs.nox (pss_cons (ps_set (i := 3) sc_lnear.nd rfl (Or.inl rfl) (pe_cx (c_lnumber T) hr (by decide) rfl pass0 (pa_cons (pv 0) (pa_cons (pv 1) pa_nil))))
    (pss_cons (ps_if (PW.pt (pw_or (pt_cmpR (op_eqD hr.units) (pv 2) (pe_lst pa_nil) (nomark _)) (pw_or1 (pt_cmpR op_eq (pe_cx (c_ltaken T) hr (by decide) rfl pass0 (pa_cons (pv 0) (pa_cons pe_int pa_nil))) pe_int (nomark _)))))
      (pss_one (ps_ret (pv 3)))
      pss_nil)
    (pss_cons (ps_set (i := 4) sc_lnear.nd rfl (Or.inl rfl) (pe_cx (c_ltaken T) hr (by decide) rfl pass0 (pa_cons (pv 0) (pa_cons (pe_op op_add (pv 1) pe_int) pa_nil))))
    (pss_one (ps_ret (pe_op op_add_str (pe_slice C8.sl_txt (pe_ix ix_list (pv 2) (pe_cx (c_ltaken T) hr (by decide) rfl pass0 (pa_cons (pv 0) (pa_cons (pe_callB call_len_seq (by rfl) (n_len T) PySem.boot_len (pa_cons (pv 2) pa_nil)) pa_nil))) (fun _ _ => rfl)) po_none (po_some (pv 4))) (pe_slice C8.sl_txt (pv 3) (po_some (pv 4)) po_none))))))), ?_⟩
    refine ⟨_, rfl, _, rfl, r, a, W, rfl, hR, hS, hW, fun x H1 hx hR1 f1 => ?_⟩
    have hp1 : H1 p = some (.lst (xs.map V.str)) := f1.at hR.nl hp rfl (nl_strs xs)
    have fin : ∀ H2, RowAt r a H2 → Frm [r] H H2 → Q (.str x) H2 := fun H2 a1 a2 => k x H2 hx a1 a2
    -- some == []
    refine ⟨_, rfl, Nat.zero_le _, fun D hD => ?_⟩
    have f2 : Frm [r] H (upd H1 D (.lst [])) := f1.trans (Frm.of (same_upd hD))
    have hR2 := hR1.ne (hR1.out hD) (o := .lst [])
    have hp2 : (upd H1 D (.lst [])) p = some (.lst (xs.map V.str)) := same_upd hD _ _ hp1
    refine ⟨_, _, .lst (SqL.of hp2) (dp_strs xs), .lst (SqL.of upd_same) .nil, shaped_strs (fun x h => strOk_num (hn x h)), by decide +kernel, _, rfl, ?_⟩
    rw [eqv_empty]
    refine iteB (fun c => ?_) (fun c => ?_)
    · exact ⟨_, rfl, fin _ hR2 f2⟩
    · have hne : xs ≠ [] := fun e => by
        rw [e] at c
        cases c
      refine ⟨_, rfl, r, a, 3, rfl, hR2, f2.scr hR.nl hS, by decide, by decide, fun v H3 h0 h1 hR3 f3 => ?_⟩
      refine ⟨rfl, _, rfl, iteB (fun c => ?_) (fun c => ?_)⟩
      · exact ⟨_, rfl, fin _ hR3 (f2.trans f3)⟩
      · have f3' := f2.trans f3
        refine ⟨_, rfl, _, rfl, W, 1, rfl, rfl, r, a, (W : Int) + 1, rfl, hR3, f3'.scr hR.nl hS, by omega, by omega, fun many H4 m0 m1 hR4 f4 => ?_⟩
        have f4' := f3'.trans f4
        have hp4 : H4 p = some (.lst (xs.map V.str)) := f4'.at hR.nl hp rfl (nl_strs xs)
        have hlp : 0 < xs.length := List.length_pos_iff.mpr hne
        refine ⟨_, rfl, _, rfl, _, rfl, p, _, rfl, .inl (SqL.of hp4), r, a, _, rfl, hR4, f4'.scr hR.nl hS, by rw [List.length_map]; omega, by rw [List.length_map]; omega, fun v H5 v0 v1 hR5 f5 => ?_⟩
        have f5' := f4'.trans f5
        have hp5 : H5 p = some (.lst (xs.map V.str)) := f5'.at hR.nl hp rfl (nl_strs xs)
        obtain ⟨y, hy, hat⟩ := at_strs (xs := xs) v0 (by rw [List.length_map] at v1; exact v1)
        refine ⟨p, _, _, _, rfl, rfl, SqL.of hp5, hat, _, rfl, many, rfl, y, rfl, by rw [num_len (hn y hy)]; exact size12 (by omega), ?_⟩
        refine ⟨_, rfl, _, rfl, many, rfl, x, rfl, by rw [num_len hx]; exact size12 (by omega), ?_⟩
        refine ⟨_, _, rfl, rfl, ?_, ?_⟩
        · have l1 := (slice_len (hn y hy) m0).1
          have l2 := (slice_len hx m0).2
          exact size12 (by omega)
        · exact k _ H5 (num_mix (hn y hy) hx m0) hR5 f5'
/-- a width -/
def spWidth (K : PySem.W.Frag) : Sp := fun vs H Q _ => ∃ (r a : Addr), vs = [.ref r] ∧ RowAt r a H ∧ Scr K a H ∧ ∀ (W : Nat) (H' : Hp), 1 ≤ W → W ≤ 12 → RowAt r a H' → Frm [r] H H' → Q (.int W) H'
theorem c_lwidth (T : Txt P w K mg base) : CalX CX0 P w K mg base 2 "_law_width" (spWidth K) := by
  obtain ⟨fd, F⟩ := T.t.def_ 31 (d := d_lwidth)
  refine ⟨_, fd, _, F.ok sc_lwidth (fun vs H Q E h => ?_) (fun cdv A outer s H vs Q E hr h => ?_), He.glo_ok T.X T.G (T.t.fact 9), F.kp, F.bindsN fun _ _ _ _ _ _ us hl => match us, hl with | [_], _ => rfl⟩
  · obtain ⟨r, a, rfl, _⟩ := h
    rfl
  · obtain ⟨r, a, rfl, hR, hS, k⟩ := h
    refine ⟨_, PSs.nox (pss_one (ps_ret (pe_op op_add pe_int (pe_cx (c_ltaken T) hr (by decide) rfl pass0 (pa_cons (pv 0) (pa_cons (pe_ix ix_list (pe_lst (pa_cons pe_int (pa_cons pe_int (pa_cons pe_int pa_nil)))) (pe_cx (c_ltaken T) hr (by decide) rfl pass0 (pa_cons (pv 0) (pa_cons pe_int pa_nil))) (fun _ _ => rfl)) pa_nil)))))), ?_⟩
    refine ⟨_, rfl, by decide, fun D hD => ?_⟩
    have f1 : Frm [r] H (upd H D (.lst [.int 4, .int 7, .int 12])) := Frm.of (same_upd hD)
    refine ⟨_, rfl, r, a, 3, rfl, hR.ne (hR.out hD), f1.scr hR.nl hS, by decide, by decide, fun v H2 v0 v1 hR2 f2 => ?_⟩
    have hD2 : H2 D = some (.lst [.int 4, .int 7, .int 12]) := f2.k D _ upd_same rfl (by simpa using (hR.out hD).symm)
    have f2' := f1.trans f2
    have go : ∀ m : Int, 0 < m → m ≤ 12 → atI [V.int 4, V.int 7, V.int 12] v = some (.int m) → ∃ (p : Addr) (xs : List V) (i : Int) (v' : V), V.ref D = V.ref p ∧ V.int v = V.int i ∧ SqL K H2 p xs ∧ atI xs i = some v' ∧ spTaken K ([V.ref r, v'] ++ []) H2 (fun y H => ∃ i j, V.int 1 = V.int i ∧ y = .int j ∧ Q (.int (i + j)) H) E0 := fun m m0 m1 hat => by
      refine ⟨D, _, v, _, rfl, rfl, SqL.of hD2, hat, r, a, m, rfl, hR2, f2'.scr hR.nl hS, m0, by omega, fun u H3 u0 u1 hR3 f3 => ⟨1, u, rfl, rfl, ?_⟩⟩
      have e : (1 : Int) + u = ((1 + u.toNat : Nat) : Int) := by omega
      rw [e]
      exact k _ H3 (by omega) (by omega) hR3 (f2'.trans f3)
    have hv : v = 0 ∨ v = 1 ∨ v = 2 := by omega
    rcases hv with rfl | rfl | rfl
    · exact go 4 (by decide) (by decide) rfl
    · exact go 7 (by decide) (by decide) rfl
    · exact go 12 (by decide) (by decide) rfl
end
end B

set_option Elab.async false
set_option linter.all false
set_option maxRecDepth 100000
set_option maxHeartbeats 4000000
namespace B
open PySem PySem.Spec PyProof.Rows L2
open SX (S)
theorem ix_seqK {X : Cx} {K : PySem.W.Frag} (hK : X.K = K) : IxR X (rIx K) := by
  subst hK
  exact ix_seq
theorem in_seqK {X : Cx} {K : PySem.W.Frag} (hK : X.K = K) : OpR X (compareOp .In) (rIn K false) := by
  subst hK
  exact op_in_seq
theorem notIn_seqK {X : Cx} {K : PySem.W.Frag} (hK : X.K = K) : OpR X (compareOp .NotIn) (rIn K true) := by
  subst hK
  exact op_notIn_seq
theorem flat_strs (xs : List Str) : (xs.map V.str).all flatV = true := by
  induction xs with
  | nil => rfl
  | cons x r ih => rw [List.map_cons, List.all_cons, ih]; rfl
/-- one sign of a number turned, the signs behind it of another -/
theorem num_flip {W i c : Nat} {x y : Str} (hx : Num W x) (hy : Num W y) (hi : i < W) (hc : c = 48 ∨ c = 49) : Num W (Txt.slice x none (some (0 + (i : Int))) ++ S [c] ++ Txt.slice y (some (0 + (i : Int) + 1)) none) := by
  obtain ⟨l, rfl, e1, b1⟩ := hx
  obtain ⟨m, rfl, e2, b2⟩ := hy
  rw [SX.slice_to (by omega), SX.slice_from (by omega), SX.S_cat, SX.S_cat]
  refine ⟨_, rfl, ?_, ((b1.take _).snoc hc).app (b2.drop _)⟩
  rw [List.length_append, List.length_append, List.length_take, List.length_drop]
  show min _ _ + 1 + _ = W
  omega
theorem num_sign {W i : Nat} {x : Str} (hx : Num W x) (hi : i < W) : ∃ c, (c = 48 ∨ c = 49) ∧ atI x.cps.toList (0 + (i : Int)) = some c := by
  obtain ⟨l, rfl, e1, b1⟩ := hx
  have hl : i < l.length := by omega
  refine ⟨l[i], b1 _ (List.getElem_mem hl), ?_⟩
  have e : (0 : Int) + (i : Int) = ((i : Nat) : Int) := by omega
  rw [e]
  exact atI_nat (List.getElem?_eq_getElem hl)
theorem in_strs {x : Str} {xs : List Str} (h : inV (V.str x) (xs.map V.str) = false) : x ∉ xs := fun hx => by
  have : inV (V.str x) (xs.map V.str) = true := by
    unfold inV
    rw [List.any_map, List.any_eq_true]
    exact ⟨x, hx, by show eqV (V.str x) (V.str x) = true; simp [eqV]⟩
  rw [this] at h
  cases h
theorem nodup_snoc {xs : List Str} {x : Str} (h : xs.Nodup) (hx : x ∉ xs) : (xs ++ [x]).Nodup := by
  rw [List.nodup_append]
  refine ⟨h, by simp, fun a ha c hc => ?_⟩
  rw [List.mem_singleton] at hc
  rw [hc]
  intro e
  exact hx (e ▸ ha)
/-- parts from b at the place i, not before -/
def Parts (b z : Str) (i : Nat) : Prop := z.cps.toList[i]? ≠ b.cps.toList[i]? ∧ ∀ m, m < i → z.cps.toList[m]? = b.cps.toList[m]?
theorem flip_parts {W i c d : Nat} {x y : Str} (hx : Num W x) (hy : Num W y) (hi : i < W) (hc : atI x.cps.toList (0 + (i : Int)) = some c) (hd : d ≠ c) : Parts x (Txt.slice x none (some (0 + (i : Int))) ++ S [d] ++ Txt.slice y (some (0 + (i : Int) + 1)) none) i := by
  obtain ⟨l, rfl, e1, b1⟩ := hx
  obtain ⟨m, rfl, e2, b2⟩ := hy
  have hil : i < l.length := by omega
  have e0 : (0 : Int) + (i : Int) = ((i : Nat) : Int) := by omega
  rw [SX.slice_to (by omega), SX.slice_from (by omega), SX.S_cat, SX.S_cat]
  have el : ∀ q : List Nat, (S q).cps.toList = q := fun q => by simp [SX.S]
  have et : (0 + (i : Int)).toNat = i := by omega
  rw [et]
  unfold Parts
  rw [el, el]
  rw [el, e0, atI_nat (List.getElem?_eq_getElem hil)] at hc
  have tl : (l.take i).length = i := by rw [List.length_take]; omega
  refine ⟨?_, fun q hq => ?_⟩
  · rw [List.append_assoc, List.getElem?_append_right (by omega), tl, Nat.sub_self, List.getElem?_eq_getElem hil, hc]
    intro z
    exact hd (Option.some.inj z)
  · rw [List.append_assoc, List.getElem?_append_left (by omega), List.getElem?_take_of_lt hq]
theorem parts_ne {b z : Str} {xs : List Str} (h : ∀ j y, xs[j]? = some y → Parts b y j) (hz : Parts b z xs.length) : z ∉ xs ∧ b ∉ xs := by
  refine ⟨fun e => ?_, fun e => ?_⟩
  · obtain ⟨j, hj⟩ := List.getElem?_of_mem e
    have hl := (List.getElem?_eq_some_iff.mp hj).1
    exact (h j z hj).1 (hz.2 j hl)
  · obtain ⟨j, hj⟩ := List.getElem?_of_mem e
    exact (h j b hj).1 rfl
section
variable {P : Program} {w : World} {K : PySem.W.Frag} {mg : Str → Option Value} {base : Heap}
def spThings (K : PySem.W.Frag) : Sp := fun vs H Q _ => ∃ (r a : Addr) (W : Nat) (most : Int), vs = [.ref r, .int W, .int most] ∧ RowAt r a H ∧ Scr K a H ∧ W ≤ 12 ∧ 0 ≤ most ∧ most ≤ 40 ∧
  ∀ (xs : List Str) (p : Addr) (H' : Hp), (∀ x ∈ xs, Num W x) → xs.length ≤ 41 → xs.Nodup → sortedS xs = true → H' p = some (.lst (xs.map V.str)) → RowAt r a H' → Frm [r] H H' → Q (.ref p) H'
theorem c_lthings (T : Txt P w K mg base) : CalX CX0 P w K mg base 4 "_law_things" (spThings K) := by
  obtain ⟨fd, F⟩ := T.t.def_ 30 (d := d_lthings)
  refine ⟨_, fd, _, F.ok sc_lthings (fun vs H Q E h => ?_) (fun cdv A outer s H vs Q E hr h => ?_), He.glo_ok T.X T.G (T.t.fact 8), F.kp, F.bindsN fun _ _ _ _ _ _ us hl => match us, hl with | [_, _, _], _ => rfl⟩
  · obtain ⟨r, a, W, most, rfl, _⟩ := h
    rfl
  · obtain ⟨r, a, W, most, rfl, hR, hS, hW, hm0, hm1, k⟩ := h
    refine ⟨_, PSs.nox (pss_cons (ps_set (i := 3) sc_lthings.nd rfl (Or.inl rfl) (pe_lst pa_nil))
    (pss_cons (ps_if (PW.pt (pw_and (pt_cmpR op_gt (pv 2) pe_int (nomark _)) (pw_and1 (pt_cmpR op_eq (pe_cx (c_ltaken T) hr (by decide) rfl pass0 (pa_cons (pv 0) (pa_cons pe_int pa_nil))) pe_int (nomark _)))))
      (pss_cons (ps_set (i := 4) sc_lthings.nd rfl (Or.inl rfl) (pe_ix ix_list (pe_lst (pa_cons (pe_cx (c_lnumber T) hr (by decide) rfl pass0 (pa_cons (pv 0) (pa_cons (pv 1) pa_nil))) (pa_cons (pe_op op_rep_str pe_str (pv 1)) pa_nil))) (pe_cx (c_ltaken T) hr (by decide) rfl pass0 (pa_cons (pv 0) (pa_cons pe_int pa_nil))) (fun _ _ => rfl)))
      (pss_cons (ps_for PassesOwn.never rfl (pi_range1 rfl (n_range T) (pa_cons (pv 1) pa_nil)) (pg_name (i := 5) sc_lthings.nd rfl (Or.inl rfl))
        (pss_one (ps_expr (pe_bm PySem.F.plainAttrs_list PySem.F.slot_list_append PySem.F.type_list_append mt_append (pv 3) (pa_cons (pe_op op_add_str (pe_op op_add_str (pe_slice C8.sl_txt (pv 4) po_none (po_some (pv 5))) (pe_ix ix_str pe_str (pe_callTy call_int_str (by rfl) (n_int T) (by decide +kernel) (pa_cons (pe_ix ix_str (pv 4) (pv 5) (fun _ _ => rfl)) pa_nil)) (fun _ _ => rfl))) (pe_slice C8.sl_txt (pe_cx (c_lnumber T) hr (by decide) rfl pass0 (pa_cons (pv 0) (pa_cons (pv 1) pa_nil))) (po_some (pe_op op_add (pv 5) pe_int)) po_none)) pa_nil)))))
      (pss_one (ps_ret (pe_callB cr_sortedS (by rfl) (n_sorted T) (by decide +kernel) (pa_cons (pe_op op_cat (pe_slice sl_list (pv 3) po_none (po_some (pe_callB (call_max2 rfl) (by rfl) (n_max T) (by decide +kernel) (pa_cons (pe_op op_sub (pv 1) (pe_cx (c_ltaken T) hr (by decide) rfl pass0 (pa_cons (pv 0) (pa_cons pe_int pa_nil)))) (pa_cons (pe_cx (c_ltaken T) hr (by decide) rfl pass0 (pa_cons (pv 0) (pa_cons (pe_op op_add (pv 1) pe_int) pa_nil))) pa_nil))))) (pe_lst (pa_cons (pv 4) pa_nil))) pa_nil))))))
      pss_nil)
    (pss_cons (ps_for PassesOwn.never rfl (pi_range1 rfl (n_range T) (pa_cons (pe_cx (c_ltaken T) hr (by decide) rfl pass0 (pa_cons (pv 0) (pa_cons (pe_op op_add (pv 2) pe_int) pa_nil))) pa_nil)) (pg_name (i := 5) sc_lthings.nd rfl (Or.inl rfl))
      (pss_cons (ps_set (i := 6) sc_lthings.nd rfl (Or.inl rfl) (pe_cx (c_lnear T) hr (by decide) rfl pass0 (pa_cons (pv 0) (pa_cons (pv 1) (pa_cons (pv 3) pa_nil)))))
      (pss_one (ps_if (pt_cmpR op_notIn_seq (pv 6) (pv 3) rfl)
        (pss_one (ps_expr (pe_bm PySem.F.plainAttrs_list PySem.F.slot_list_append PySem.F.type_list_append mt_append (pv 3) (pa_cons (pv 6) pa_nil))))
        pss_nil))))
    (pss_one (ps_ret (pe_callB cr_sortedS (by rfl) (n_sorted T) (by decide +kernel) (pa_cons (pv 3) pa_nil))))))), ?_⟩
    refine ⟨Nat.zero_le _, fun D hD => ?_⟩
    have nrD := hR.out hD
    have f0 : Frm [r] H (upd H D (.lst [])) := Frm.of (same_upd hD)
    have hR0 : RowAt r a (upd H D (.lst [])) := hR.ne nrD
    have hD0 : (upd H D (.lst [])) D = some (.lst (([] : List Str).map V.str)) := upd_same
    have keepD : ∀ {H1 H2 : Hp} {xs : List V}, H1 D = some (.lst xs) → Frm [r] H1 H2 → H2 D = some (.lst xs) := fun h f => f.k D _ h rfl (by simpa using nrD.symm)
    -- the list, sorted
    have srt : ∀ (H1 : Hp) (xs : List Str) (z : Addr), (∀ x ∈ xs, Num W x) → xs.length ≤ 41 → xs.Nodup → H1 z = some (.lst (xs.map V.str)) → RowAt r a H1 → Frm [r] H H1 → rSortedS K [.ref z] H1 Q := fun H1 xs z hx hl hnd hz hR1 f1 =>
      ⟨z, xs, rfl, SqL.of hz, by omega, fun ys p pm ss hp => k ys p _ (fun y hy => hx y (pm.mem_iff.mp hy)) (by rw [pm.length_eq]; exact hl) (pm.nodup_iff.mpr hnd) ss upd_same (hR1.ne (hR1.out hp)) (f1.trans (Frm.of (same_upd hp)))⟩
    -- the second half: drawn numbers
    have rest : ∀ H1 : Hp, RowAt r a H1 → Frm [r] H H1 → H1 D = some (.lst (([] : List Str).map V.str)) → ∀ v4 v5 v6 : Option V,
        tSeq (tFor (iRng1 (tCons (tCall (spTaken K) [] E0 (tCons (tVar 0) (tCons (tOp (rI0 fun i j => .int (i + j)) (tVar 2) (tC (.int 1))) tNil))) tNil)) (gName 5)
          (tSeq (tAsg (tCall (spNear K) [] E0 (tCons (tVar 0) (tCons (tVar 1) (tCons (tVar 3) tNil)))) (gName 6))
            (tIfS (tTest (tOp (rIn K true) (tVar 6) (tVar 3))) (tDrop (tBM K "list" rAppend (tVar 3) (tCons (tVar 6) tNil))) tNext)))
          (tRet (tCB (rSortedS K) (tCons (tVar 3) tNil))) { nx := fun _ H' => Q .non H', rt := Q } [some (.ref r), some (.int W), some (.int most), some (.ref D), v4, v5, v6] H1 := fun H1 hR1 f1 hD1 v4 v5 v6 => by
      refine ⟨_, rfl, _, rfl, most, 1, rfl, rfl, r, a, most + 1, rfl, hR1, f1.scr hR.nl hS, by omega, by omega, fun m H2 m0 m1 hR2 f2 => ?_⟩
      refine ⟨m, rfl, by omega, by omega, ?_⟩
      refine for_range (lo := 0) (n := m.toNat) (fun i σ H' => ∃ v5 v6, σ = [some (.ref r), some (.int W), some (.int most), some (.ref D), v4, v5, v6] ∧ ∃ xs : List Str, (∀ x ∈ xs, Num W x) ∧ xs.Nodup ∧ xs.length ≤ i ∧ H' D = some (.lst (xs.map V.str)) ∧ RowAt r a H' ∧ Frm [r] H H')
        ⟨v5, v6, rfl, [], fun x h => absurd h (by simp), .nil, Nat.le_refl _, keepD hD1 f2, hR2, f1.trans f2⟩ ?_ ?_
      · rintro i σ H3 hi ⟨w5, w6, rfl, xs, hx, hnd, hl, hD3, hR3, f3⟩
        refine ⟨_, rfl, _, rfl, _, rfl, r, a, D, W, xs, rfl, hR3, f3.scr hR.nl hS, hW, hD3, hx, by omega, fun x H4 hxn hR4 f4 => ?_⟩
        have hD4 := keepD hD3 f4
        refine ⟨_, rfl, _, rfl, D, _, rfl, .inl (SqL.of hD4), rfl, flat_strs xs, _, rfl, iteB (fun c => ?_) (fun c => ?_)⟩
        · refine ⟨_, rfl, .inl ⟨rfl, _, SqL.of hD4⟩, _, rfl, D, _, _, rfl, rfl, hD4, by rw [List.length_map]; exact small1000 (by omega), ?_⟩
          refine ⟨_, _, rfl, xs ++ [x], fun y hy => ?_, nodup_snoc hnd (in_strs (by simpa using c)), by rw [List.length_append]; show xs.length + 1 ≤ i + 1; omega, by rw [upd_same, List.map_append]; rfl, hR4.ne nrD, (f3.trans f4).new hD⟩
          rcases List.mem_append.mp hy with z | z
          · exact hx y z
          · rw [List.mem_singleton.mp z]
            exact hxn
        · exact ⟨_, _, rfl, xs, hx, hnd, by omega, hD4, hR4, f3.trans f4⟩
      · rintro σ H3 ⟨w5, w6, rfl, xs, hx, hnd, hl, hD3, hR3, f3⟩
        exact ⟨_, rfl, srt H3 xs D hx (by omega) hnd hD3 hR3 f3⟩
    -- if most > 11 and taken(row, 5) == 4
    refine ⟨_, rfl, most, 11, rfl, rfl, _, rfl, iteB (fun c => ?_) (fun c => ?_)⟩
    · refine ⟨_, rfl, r, a, 5, rfl, hR0, f0.scr hR.nl hS, by decide, by decide, fun v H1 v0 v1 hR1 f1 => ?_⟩
      have f1' := f0.trans f1
      refine ⟨rfl, _, rfl, iteB (fun c => ?_) (fun c => ?_)⟩
      · -- base
        refine ⟨_, rfl, _, rfl, r, a, W, rfl, hR1, f1'.scr hR.nl hS, hW, fun x H2 hx hR2 f2 => ?_⟩
        have f2' := f1'.trans f2
        refine ⟨_, rfl, _, W, rfl, rfl, zeros_ok W hW, by show 2 ≤ sizeLine; decide, fun L hL => ?_⟩
        have nrL := hR2.out hL
        have f3' : Frm [r] H (upd H2 L (.lst [.str x, .str (Txt.mul "0" W)])) := f2'.trans (Frm.of (same_upd hL))
        refine ⟨_, rfl, r, a, 2, rfl, hR2.ne nrL, f3'.scr hR.nl hS, by decide, by decide, fun v H4 v0 v1 hR4 f4 => ?_⟩
        have hL4 : H4 L = some (.lst [.str x, .str (Txt.mul "0" W)]) := f4.k L _ upd_same rfl (by simpa using nrL.symm)
        have f4' := f3'.trans f4
        have hD4 : H4 D = some (.lst (([] : List Str).map V.str)) := keepD (keepD (keepD (keepD hD0 f1) f2) (Frm.of (same_upd hL))) f4
        have zer : Num W (Txt.mul "0" W) := by
          rw [zeros_is W hW]
          exact ⟨_, rfl, List.length_replicate, fun c hc => .inl (List.eq_of_mem_replicate hc)⟩
        obtain ⟨b, hb, hat⟩ : ∃ b, Num W b ∧ atI [V.str x, V.str (Txt.mul "0" W)] v = some (.str b) := by
          have hv : v = 0 ∨ v = 1 := by omega
          rcases hv with rfl | rfl
          · exact ⟨x, hx, rfl⟩
          · exact ⟨_, zer, rfl⟩
        refine ⟨L, _, v, _, rfl, rfl, SqL.of hL4, hat, ?_⟩
        have sz : ∀ {n : Nat}, n ≤ 100 → n ≤ sizeLine := fun h => size12 h
        -- the loop
        refine ⟨_, rfl, (W : Int), rfl, by omega, by omega, ?_⟩
        refine for_range (lo := 0) (n := (W : Int).toNat) (fun i σ H' => ∃ v5, σ = [some (.ref r), some (.int W), some (.int most), some (.ref D), some (.str b), v5, none] ∧ ∃ xs : List Str, (∀ x ∈ xs, Num W x) ∧ (∀ j z, xs[j]? = some z → Parts b z j) ∧ xs.Nodup ∧ xs.length = i ∧ H' D = some (.lst (xs.map V.str)) ∧ RowAt r a H' ∧ Frm [r] H H')
          ⟨none, rfl, [], fun x h => absurd h (by simp), fun j z h => by simp at h, .nil, rfl, hD4, hR4, f4'⟩ ?_ ?_
        · rintro i σ H5 hi ⟨w5, rfl, xs, hx, hpt, hnd, hl, hD5, hR5, f5⟩
          have hi' : i < W := by omega
          obtain ⟨c, hc, hcat⟩ := num_sign hb hi'
          refine ⟨_, rfl, .inl ⟨rfl, _, SqL.of hD5⟩, ?_⟩
          refine ⟨_, rfl, _, rfl, _, rfl, b, rfl, sz (by rw [num_len hb]; omega), ?_⟩
          refine ⟨_, rfl, _, rfl, b, _, c, rfl, rfl, sz (by rw [num_len hb]; omega), hcat, ?_⟩
          have go : ∀ (n : Int) (d : Nat), PySem.intText? (S [c]) = some n → atI ("10" : Str).cps.toList n = some d → (d = 48 ∨ d = 49) → ∃ (a' : Str) (n' : Int), [V.str ⟨#[c]⟩] = [V.str a'] ∧ PySem.intText? a' = some n' ∧ a'.length ≤ 640 ∧
              ∃ (z : Str) (i' : Int) (c' : Nat), V.str "10" = V.str z ∧ V.int n' = V.int i' ∧ z.length ≤ sizeLine ∧ atI z.cps.toList i' = some c' ∧ (c' = 48 ∨ c' = 49) ∧ c' = d := fun n d h1 h2 h3 =>
            ⟨S [c], n, rfl, h1, by rw [SX.S_len]; show 1 ≤ 640; decide, "10", n, d, rfl, rfl, by decide +kernel, h2, h3, rfl⟩
          have two : ∃ (n : Int) (d : Nat), PySem.intText? (S [c]) = some n ∧ atI ("10" : Str).cps.toList n = some d ∧ (d = 48 ∨ d = 49) ∧ d ≠ c := by
            rcases hc with rfl | rfl
            · exact ⟨0, 49, by decide +kernel, by decide +kernel, .inr rfl, by decide⟩
            · exact ⟨1, 48, by decide +kernel, by decide +kernel, .inl rfl, by decide⟩
          obtain ⟨n, d, t1, t2, t3, t4⟩ := two
          refine ⟨S [c], n, rfl, t1, by rw [SX.S_len]; show 1 ≤ 640; decide, "10", n, d, rfl, rfl, by decide +kernel, t2, ?_⟩
          have l1 : (Txt.slice b none (some (0 + (i : Int)))).length ≤ W := (slice_len hb (by omega)).1
          refine ⟨_, S [d], rfl, rfl, sz (by have e1 := SX.S_len [d]; have e2 : [d].length = 1 := rfl; omega), ?_⟩
          refine ⟨_, rfl, _, rfl, r, a, W, rfl, hR5, f5.scr hR.nl hS, hW, fun y H6 hy hR6 f6 => ?_⟩
          have hD6 := keepD hD5 f6
          have l2 : (Txt.slice y (some (0 + (i : Int) + 1)) none).length ≤ W := (slice_len hy (by omega)).2
          have nf := num_flip hb hy hi' t3
          have np := flip_parts hb hy hi' hcat t4
          refine ⟨_, rfl, _, 1, rfl, rfl, _, rfl, y, rfl, sz (by rw [num_len hy]; omega), ?_⟩
          refine ⟨_, _, rfl, rfl, ?_, ?_⟩
          · have l3 : (Txt.slice b none (some (0 + (i : Int))) ++ S [d]).length = (Txt.slice b none (some (0 + (i : Int)))).length + 1 := by
              obtain ⟨l, rfl, _, _⟩ := hb
              rw [SX.slice_to (by omega), SX.S_cat, SX.S_len, SX.S_len, List.length_append]
              rfl
            rw [l3]
            exact sz (by omega)
          · refine ⟨D, _, _, rfl, rfl, hD6, by rw [List.length_map]; exact small1000 (by omega), ?_⟩
            refine ⟨_, rfl, xs ++ [_], fun z hz => ?_, fun j z hz => ?_, nodup_snoc hnd (parts_ne hpt (by rw [hl]; exact np)).1, by rw [List.length_append, hl]; rfl, by rw [upd_same, List.map_append]; rfl, hR6.ne nrD, (f5.trans f6).new hD⟩
            · rcases List.mem_append.mp hz with q | q
              · exact hx z q
              · rw [List.mem_singleton.mp q]
                exact nf
            · by_cases hj : j < xs.length
              · rw [List.getElem?_append_left hj] at hz
                exact hpt j z hz
              · have ej : j = xs.length := by
                  have := (List.getElem?_eq_some_iff.mp hz).1
                  rw [List.length_append, List.length_singleton] at this
                  omega
                subst ej
                rw [List.getElem?_append_right (Nat.le_refl _), Nat.sub_self] at hz
                rw [← Option.some.inj hz, hl]
                exact np
        · rintro σ H5 ⟨w5, rfl, xs, hx, hpt, hnd, hl, hD5, hR5, f5⟩
          -- return sorted(found[:max(..)] + [base])
          refine ⟨_, rfl, _, rfl, _, rfl, r, a, 4, rfl, hR5, f5.scr hR.nl hS, by decide, by decide, fun u H6 u0 u1 hR6 f6 => ?_⟩
          have f6' := f5.trans f6
          refine ⟨_, _, rfl, rfl, _, rfl, _, rfl, _, 1, rfl, rfl, r, a, _, rfl, hR6, f6'.scr hR.nl hS, by omega, by omega, fun u2 H7 _ _ hR7 f7 => ?_⟩
          have f7' := f6'.trans f7
          have hD7 := keepD (keepD hD5 f6) f7
          refine ⟨_, _, rfl, _, rfl, D, _, rfl, SqL.of hD7, fun p hp => ?_⟩
          obtain ⟨ys, ey, hy, ly, hsl⟩ := cutV_strs xs none (some (if u2 > (W : Int) - u then u2 else (W : Int) - u))
          refine ⟨_, rfl, by show 1 ≤ sizeLine; decide, fun q hq => ?_⟩
          have npq : p ≠ q := ne_of_none upd_same hq
          refine ⟨p, q, _, _, rfl, rfl, by rw [upd_ne npq]; exact upd_same, upd_same, ?_, fun z hz => ?_⟩
          · rw [ey, List.length_map]
            exact sz (by show _ + 1 ≤ 100; omega)
          · refine srt _ (ys ++ [b]) z (fun x hx' => ?_) ?_ (nodup_snoc (hnd.sublist hsl) fun z => ?_) ?_ (((hR7.ne (hR7.out hp)).ne ((hR7.ne (hR7.out hp)).out hq)).ne (((hR7.ne (hR7.out hp)).ne ((hR7.ne (hR7.out hp)).out hq)).out hz)) (((f7'.trans (Frm.of (same_upd hp))).trans (Frm.of (same_upd hq))).trans (Frm.of (same_upd hz)))
            · rcases List.mem_append.mp hx' with e | e
              · exact hx x (hy x e)
              · rw [List.mem_singleton.mp e]
                exact hb
            · rw [List.length_append]
              show ys.length + 1 ≤ 41
              omega
            · obtain ⟨j, hj⟩ := List.getElem?_of_mem (hy b z)
              exact (hpt j b hj).1 rfl
            · rw [upd_same, ey, List.map_append]
              rfl
      · exact rest H1 hR1 f1' (keepD hD0 f1) none none none
    · exact rest _ hR0 f0 hD0 none none none
/-- numbers that may be hung -/
def spPool (K : PySem.W.Frag) : Sp := fun vs H Q _ => ∃ (r a : Addr) (W : Nat), vs = [.ref r, .int W] ∧ RowAt r a H ∧ Scr K a H ∧ W ≤ 12 ∧
  ∀ (xs : List Str) (p : Addr) (H' : Hp), xs ≠ [] → (∀ x ∈ xs, Num W x) → xs.length ≤ 41 → xs.Nodup → sortedS xs = true → H' p = some (.lst (xs.map V.str)) → RowAt r a H' → Frm [r] H H' → Q (.ref p) H'
theorem c_lpool (T : Txt P w K mg base) : CalX CX0 P w K mg base 5 "_law_pool" (spPool K) := by
  obtain ⟨fd, F⟩ := T.t.def_ 36 (d := d_lpool)
  refine ⟨_, fd, _, F.ok sc_lpool (fun vs H Q E h => ?_) (fun cdv A outer s H vs Q E hr h => ?_), He.glo_ok T.X T.G (T.t.fact 14), F.kp, F.bindsN fun _ _ _ _ _ _ us hl => match us, hl with | [_, _], _ => rfl⟩
  · obtain ⟨r, a, W, rfl, _⟩ := h
    rfl
  · obtain ⟨r, a, W, rfl, hR, hS, hW, k⟩ := h
    refine ⟨_, PSs.nox (pss_cons (ps_set (i := 2) sc_lpool.nd rfl (Or.inl rfl) (pe_cx (c_lthings T) hr (by decide) rfl pass0 (pa_cons (pv 0) (pa_cons (pv 1) (pa_cons (pe_ix ix_list (pe_lst (pa_cons pe_int (pa_cons pe_int (pa_cons pe_int pa_nil)))) (pe_cx (c_ltaken T) hr (by decide) rfl pass0 (pa_cons (pv 0) (pa_cons pe_int pa_nil))) (fun _ _ => rfl)) pa_nil)))))
    (pss_one (ps_ret (pe_ifExp (pt_cmpR (op_neD hr.units) (pv 2) (pe_lst pa_nil) (nomark _)) (pv 2) (pe_lst (pa_cons (pe_cx (c_lnumber T) hr (by decide) rfl pass0 (pa_cons (pv 0) (pa_cons (pv 1) pa_nil))) pa_nil)))))), ?_⟩
    refine ⟨_, rfl, _, rfl, by decide, fun D hD => ?_⟩
    have nrD := hR.out hD
    have f1 : Frm [r] H (upd H D (.lst [.int 6, .int 12, .int 40])) := Frm.of (same_upd hD)
    refine ⟨_, rfl, r, a, 3, rfl, hR.ne nrD, f1.scr hR.nl hS, by decide, by decide, fun v H2 v0 v1 hR2 f2 => ?_⟩
    have hD2 : H2 D = some (.lst [.int 6, .int 12, .int 40]) := f2.k D _ upd_same rfl (by simpa using nrD.symm)
    have f2' := f1.trans f2
    obtain ⟨m, m0, m1, hat⟩ : ∃ m : Int, 0 ≤ m ∧ m ≤ 40 ∧ atI [V.int 6, V.int 12, V.int 40] v = some (.int m) := by
      have hv : v = 0 ∨ v = 1 ∨ v = 2 := by omega
      rcases hv with rfl | rfl | rfl
      · exact ⟨6, by decide, by decide, rfl⟩
      · exact ⟨12, by decide, by decide, rfl⟩
      · exact ⟨40, by decide, by decide, rfl⟩
    refine ⟨D, _, v, _, rfl, rfl, SqL.of hD2, hat, r, a, W, m, rfl, hR2, f2'.scr hR.nl hS, hW, m0, m1, fun xs p H3 hx hl hnd hss hp hR3 f3 => ?_⟩
    have f3' := f2'.trans f3
    -- names if names != [] else [number]
    refine ⟨_, rfl, Nat.zero_le _, fun q hq => ?_⟩
    have nrq := hR3.out hq
    have f4' : Frm [r] H (upd H3 q (.lst [])) := f3'.trans (Frm.of (same_upd hq))
    have hp4 : (upd H3 q (.lst [])) p = some (.lst (xs.map V.str)) := same_upd hq _ _ hp
    refine ⟨_, _, .lst (SqL.of hp4) (dp_strs xs), .lst (SqL.of upd_same) .nil, shaped_strs (fun x h => strOk_num (hx x h)), by decide +kernel, _, rfl, ?_⟩
    rw [eqv_empty]
    refine iteB (fun c => ?_) (fun c => ?_)
    · refine ⟨_, rfl, k xs p _ (fun e => ?_) hx hl hnd hss hp4 (hR3.ne nrq) f4'⟩
      rw [e] at c
      cases c
    · refine ⟨_, rfl, _, rfl, r, a, W, rfl, hR3.ne nrq, f4'.scr hR.nl hS, hW, fun x H5 hxn hR5 f5 => ?_⟩
      refine ⟨by show 1 ≤ sizeLine; decide, fun z hz => k [x] z _ (by simp) (fun y hy => ?_) (by show 1 ≤ 41; decide) (by simp) rfl upd_same (hR5.ne (hR5.out hz)) ((f4'.trans f5).trans (Frm.of (same_upd hz)))⟩
      rw [List.mem_singleton.mp hy]
      exact hxn
end
end B

set_option Elab.async false
set_option linter.all false
set_option maxRecDepth 100000
set_option maxHeartbeats 4000000
namespace B
open PySem PySem.Spec PyProof.Rows L2
open SX (S)
/-! ### dicts of things: texts to truths -/
def kv (kvs : List (Str × Bool)) : List (Key × V) := kvs.map fun p => (Sum.inr p.1, V.bl p.2)
def hasK (kvs : List (Str × Bool)) (x : Str) : Bool := kvs.any fun p => decide (p.1 = x)
def getB (kvs : List (Str × Bool)) (x : Str) : Option Bool := (kvs.find? fun p => decide (p.1 = x)).map (·.2)
def putB (kvs : List (Str × Bool)) (x : Str) (b : Bool) : List (Str × Bool) := if hasK kvs x = true then kvs.map (fun p => if p.1 = x then (p.1, b) else p) else kvs ++ [(x, b)]
def dropB (kvs : List (Str × Bool)) (x : Str) : List (Str × Bool) := kvs.filter fun p => decide (p.1 ≠ x)
theorem inr_dec (a b : Str) : decide ((Sum.inr a : Key) = Sum.inr b) = decide (a = b) := by
  by_cases h : a = b
  · rw [decide_eq_true h, decide_eq_true (by rw [h])]
  · rw [decide_eq_false h, decide_eq_false (fun q => h (Sum.inr.inj q))]
theorem val_kv (kvs : List (Str × Bool)) (x : Str) : valV (kv kvs) (.inr x : Key) = (getB kvs x).map V.bl := by
  induction kvs with
  | nil => rfl
  | cons p r ih =>
    by_cases h : p.1 = x
    · have e1 : valV (kv (p :: r)) (.inr x : Key) = some (.bl p.2) := valV_pos (p := ((Sum.inr p.1 : Key), V.bl p.2)) (r := kv r) (by rw [h])
      rw [e1]
      unfold getB
      rw [List.find?_cons, decide_eq_true h]
      rfl
    · have e1 : valV (kv (p :: r)) (.inr x : Key) = valV (kv r) (.inr x : Key) := valV_neg (p := ((Sum.inr p.1 : Key), V.bl p.2)) (r := kv r) (fun q => h (Sum.inr.inj q))
      rw [e1, ih]
      unfold getB
      rw [List.find?_cons, decide_eq_false h]
theorem any_kv (kvs : List (Str × Bool)) (x : Str) : ((kv kvs).any fun q => decide (q.1 = (Sum.inr x : Key))) = hasK kvs x := by
  induction kvs with
  | nil => rfl
  | cons p r ih =>
    show (decide ((Sum.inr p.1 : Key) = Sum.inr x) || _) = (decide (p.1 = x) || hasK r x)
    rw [inr_dec, ← ih]
    rfl
theorem put_kv (kvs : List (Str × Bool)) (x : Str) (b : Bool) : putK (kv kvs) (.inr x : Key) (.bl b) = kv (putB kvs x b) := by
  unfold putK putB
  rw [any_kv]
  by_cases h : hasK kvs x = true
  · rw [if_pos h, if_pos h]
    unfold kv
    rw [List.map_map, List.map_map]
    refine List.map_congr_left fun p _ => ?_
    by_cases e : p.1 = x
    · show (if (Sum.inr p.1 : Key) = Sum.inr x then _ else _) = ((Sum.inr (if p.1 = x then (p.1, b) else p).1 : Key), V.bl (if p.1 = x then (p.1, b) else p).2)
      rw [if_pos e, if_pos (by rw [e])]
    · show (if (Sum.inr p.1 : Key) = Sum.inr x then _ else _) = ((Sum.inr (if p.1 = x then (p.1, b) else p).1 : Key), V.bl (if p.1 = x then (p.1, b) else p).2)
      rw [if_neg e, if_neg (fun q => e (Sum.inr.inj q))]
  · rw [if_neg h, if_neg h]
    unfold kv
    rw [List.map_append]
    rfl
theorem drop_kv (kvs : List (Str × Bool)) (x : Str) : dropK (kv kvs) (.inr x : Key) = kv (dropB kvs x) := by
  unfold dropK dropB kv
  rw [List.filter_map]
  congr 1
  refine List.filter_congr fun p _ => ?_
  show decide (¬ (Sum.inr p.1 : Key) = Sum.inr x) = decide (¬ p.1 = x)
  by_cases h : p.1 = x
  · simp [h]
  · simp [h]
theorem get_has (kvs : List (Str × Bool)) (x : Str) : (getB kvs x).isSome = hasK kvs x := by
  induction kvs with
  | nil => rfl
  | cons p r ih =>
    unfold getB hasK
    rw [List.find?_cons, List.any_cons]
    by_cases h : p.1 = x
    · rw [decide_eq_true h]
      rfl
    · rw [decide_eq_false h]
      exact ih
theorem some_map_bl (o : Option Bool) : (o.map V.bl).isSome = o.isSome := by cases o <;> rfl
/-- x in the dict at d (it may be locked) -/
theorem dg_has {H : Hp} {d : Addr} {kvs : List (Str × Bool)} (h : Rd H d (.dK (kv kvs))) (x : Str) : DGet H d (.str x) ((getB kvs x).map V.bl) := .inl ⟨kv kvs, .inr x, h, rfl, (val_kv kvs x).symm⟩
theorem dg_get {H : Hp} {d : Addr} {kvs : List (Str × Bool)} {x : Str} {b : Bool} (h : Rd H d (.dK (kv kvs))) (e : getB kvs x = some b) : DGet H d (.str x) (some (.bl b)) := by
  have := dg_has h x
  rw [e] at this
  exact this
theorem dp_put {H : Hp} {d : Addr} {kvs : List (Str × Bool)} (h : H d = some (.dK (kv kvs))) (hl : kvs.length ≤ 1000) (x : Str) (b : Bool) : DPut H d (.str x) (.bl b) (upd H d (.dK (kv (putB kvs x b)))) := by
  have := DPut.k (k := Sum.inr x) (v := V.bl b) h (by unfold kv; rw [List.length_map]; exact small1000 hl)
  rw [put_kv] at this
  exact this
theorem keys_kv (kvs : List (Str × Bool)) : (kv kvs).map (·.1) = (kvs.map (·.1)).map Sum.inr := by
  unfold kv
  rw [List.map_map, List.map_map]
  rfl
/-- a thing of the list is found by its number -/
theorem get_at {kvs : List (Str × Bool)} (hn : (kvs.map (·.1)).Nodup) {i : Nat} {x : Str} {b : Bool} (h : kvs[i]? = some (x, b)) : getB kvs x = some b := by
  induction kvs generalizing i with
  | nil => simp at h
  | cons p r ih =>
    rw [List.map_cons, List.nodup_cons] at hn
    cases i with
    | zero =>
      have e : p = (x, b) := by simpa using h
      subst e
      unfold getB
      rw [List.find?_cons, decide_eq_true rfl]
      rfl
    | succ i =>
      have h' : r[i]? = some (x, b) := by simpa using h
      have hm : x ∈ r.map (·.1) := List.mem_map.mpr ⟨(x, b), List.mem_of_getElem? h', rfl⟩
      have ne : ¬ p.1 = x := fun e => hn.1 (by rw [e]; exact hm)
      unfold getB
      rw [List.find?_cons, decide_eq_false ne]
      exact ih hn.2 h'
theorem kv_at {kvs : List (Str × Bool)} {i : Nat} {k : Key} {v : V} (h : (kv kvs)[i]? = some (k, v)) : ∃ x b, kvs[i]? = some (x, b) ∧ k = Sum.inr x ∧ v = .bl b := by
  unfold kv at h
  rw [List.getElem?_map] at h
  cases e : kvs[i]? with
  | none => rw [e] at h; cases h
  | some p =>
    rw [e] at h
    have := Option.some.inj h
    cases this
    exact ⟨p.1, p.2, rfl, rfl, rfl⟩
theorem take_snoc {α : Type} {l : List α} {i : Nat} {x : α} (h : l[i]? = some x) : l.take (i + 1) = l.take i ++ [x] := by
  rw [List.take_add_one, h]
  rfl
/-- a dict locked, a list made within, the dict free again -/
theorem upd_lock {H : Hp} {d D : Addr} {u f o : HO} (h : H d = some u) (n : d ≠ D) : upd (upd (upd H d f) D o) d u = upd H D o := by
  funext b
  by_cases e1 : b = d
  · rw [e1, upd_same, upd_ne n, h]
  · rw [upd_ne e1]
    by_cases e2 : b = D
    · rw [e2, upd_same, upd_same]
    · rw [upd_ne e2, upd_ne e2, upd_ne e1]
/-! ### the own wire -/
def mkv (W : Nat) (dt ml : Addr) (sd : V) (lk : Int) : List (Key × V) := [(.inr "width", .int W), (.inr "things", .ref dt), (.inr "listening", .ref ml), (.inr "said", sd), (.inr "looks", .int lk)]
def sdV : Option (List Nat) → V
  | none => .non
  | some l => .str (S l)
structure MdAt (H : Hp) (pm dt ml : Addr) (W : Nat) (kvs : List (Str × Bool)) (lm : List Str) (sd : Option (List Nat)) (lk : Int) : Prop where
  ob : H pm = some (.dK (mkv W dt ml (sdV sd) lk))
  li : H ml = some (.lst (lm.map V.str))
  dc : H dt = some (.dK (kv kvs))
section
variable {H : Hp} {pm dt ml : Addr} {W : Nat} {sd : V} {lk : Int}
theorem mv_width : valV (mkv W dt ml sd lk) (.inr "width" : Key) = some (.int W) := by kernel_rfl
theorem mv_things : valV (mkv W dt ml sd lk) (.inr "things" : Key) = some (.ref dt) := by kernel_rfl
theorem mv_listening : valV (mkv W dt ml sd lk) (.inr "listening" : Key) = some (.ref ml) := by kernel_rfl
theorem mv_said : valV (mkv W dt ml sd lk) (.inr "said" : Key) = some sd := by kernel_rfl
theorem mv_looks : valV (mkv W dt ml sd lk) (.inr "looks" : Key) = some (.int lk) := by kernel_rfl
theorem mp_listening {q : Addr} : putK (mkv W dt ml sd lk) (.inr "listening" : Key) (.ref q) = mkv W dt q sd lk := by kernel_rfl
theorem mp_said {v : V} : putK (mkv W dt ml sd lk) (.inr "said" : Key) v = mkv W dt ml v lk := by kernel_rfl
theorem mp_looks {z : Int} : putK (mkv W dt ml sd lk) (.inr "looks" : Key) (.int z) = mkv W dt ml sd z := by kernel_rfl
theorem md_width (h : H pm = some (.dK (mkv W dt ml sd lk))) : DGet H pm (.str "width") (some (.int W)) := by rw [← mv_width (dt := dt) (ml := ml) (sd := sd) (lk := lk)]; exact DGet.k (k := Sum.inr "width") h
theorem md_things (h : H pm = some (.dK (mkv W dt ml sd lk))) : DGet H pm (.str "things") (some (.ref dt)) := by rw [← mv_things (W := W) (dt := dt) (ml := ml) (sd := sd) (lk := lk)]; exact DGet.k (k := Sum.inr "things") h
theorem md_listening (h : H pm = some (.dK (mkv W dt ml sd lk))) : DGet H pm (.str "listening") (some (.ref ml)) := by rw [← mv_listening (W := W) (dt := dt) (ml := ml) (sd := sd) (lk := lk)]; exact DGet.k (k := Sum.inr "listening") h
theorem md_said (h : H pm = some (.dK (mkv W dt ml sd lk))) : DGet H pm (.str "said") (some sd) := by rw [← mv_said (W := W) (dt := dt) (ml := ml) (sd := sd) (lk := lk)]; exact DGet.k (k := Sum.inr "said") h
theorem md_looks (h : H pm = some (.dK (mkv W dt ml sd lk))) : DGet H pm (.str "looks") (some (.int lk)) := by rw [← mv_looks (W := W) (dt := dt) (ml := ml) (sd := sd) (lk := lk)]; exact DGet.k (k := Sum.inr "looks") h
theorem mdp_listening {q : Addr} (h : H pm = some (.dK (mkv W dt ml sd lk))) : DPut H pm (.str "listening") (.ref q) (upd H pm (.dK (mkv W dt q sd lk))) := by rw [← mp_listening (ml := ml)]; exact DPut.k (k := Sum.inr "listening") h (by show 5 < sizeLine; decide)
theorem mdp_said {v : V} (h : H pm = some (.dK (mkv W dt ml sd lk))) : DPut H pm (.str "said") v (upd H pm (.dK (mkv W dt ml v lk))) := by rw [← mp_said (sd := sd)]; exact DPut.k (k := Sum.inr "said") h (by show 5 < sizeLine; decide)
theorem mdp_looks {z : Int} (h : H pm = some (.dK (mkv W dt ml sd lk))) : DPut H pm (.str "looks") (.int z) (upd H pm (.dK (mkv W dt ml sd z))) := by rw [← mp_looks (lk := lk)]; exact DPut.k (k := Sum.inr "looks") h (by show 5 < sizeLine; decide)
theorem mk_merge {u q : Addr} : mergeK [] ([(.inr "width", .int W), (.inr "things", .ref u), (.inr "listening", .ref q), (.inr "said", .non), (.inr "looks", .int 0)] : List (Key × V)) = mkv W u q .non 0 := by kernel_rfl
end
end B

set_option Elab.async false
set_option linter.all false
set_option maxRecDepth 100000
set_option maxHeartbeats 4000000
namespace B
open PySem PySem.Spec PyProof.Rows L2
open SX (S)
/-- the sign at the place n is c -/
def sg (n c : Nat) (x : Str) : Bool := decide (x.cps.toList[n]? = some c)
theorem str_dec (a b : Str) : decide (V.str a = V.str b) = decide (a = b) := by
  by_cases h : a = b
  · rw [decide_eq_true h, decide_eq_true (by rw [h])]
  · rw [decide_eq_false h, decide_eq_false (fun q => h (V.str.inj q))]
theorem sign_dec (c d : Nat) : decide (V.str ⟨#[c]⟩ = V.str (S [d])) = decide (c = d) := by
  rw [str_dec]
  by_cases h : c = d
  · rw [decide_eq_true h, decide_eq_true (by rw [h])]
  · rw [decide_eq_false h, decide_eq_false (fun q => h (by
      have := SX.S_inj (a := [c]) (b := [d]) q
      exact (List.cons.inj this).1))]
theorem zero_S : ("0" : Str) = S [48] := by decide +kernel
theorem one_S : ("1" : Str) = S [49] := by decide +kernel
theorem sg_at {n c : Nat} {x : Str} (h : x.cps.toList[n]? = some c) (d : Nat) : sg n d x = decide (c = d) := by
  unfold sg
  rw [h]
  by_cases e : c = d
  · rw [decide_eq_true e, decide_eq_true (by rw [e])]
  · rw [decide_eq_false e, decide_eq_false (fun q => e (Option.some.inj q))]
theorem any_step {α : Type} {l : List α} {i : Nat} {x : α} (f : α → Bool) (h : l[i]? = some x) : (l.take (i + 1)).any f = ((l.take i).any f || f x) := by
  rw [take_snoc h, List.any_append]
  simp
theorem at_map {xs : List Str} {i : Nat} {y : V} (h : (xs.map V.str)[i]? = some y) : ∃ x, xs[i]? = some x ∧ y = .str x := by
  rw [List.getElem?_map] at h
  cases e : xs[i]? with
  | none => rw [e] at h; cases h
  | some x =>
    rw [e] at h
    exact ⟨x, rfl, (Option.some.inj h).symm⟩
/-- a number that begins as l does -/
def Beg (W : Nat) (l : List Nat) (x : Str) : Prop := ∃ m, x = S m ∧ m.length = W ∧ Bits m ∧ m.take l.length = l
theorem Beg.num {W : Nat} {l : List Nat} {x : Str} (h : Beg W l x) : Num W x := by
  obtain ⟨m, e, h1, h2, _⟩ := h
  exact ⟨m, e, h1, h2⟩
theorem num_at {W n : Nat} {x : Str} (h : Num W x) (hn : n < W) : ∃ c, (c = 48 ∨ c = 49) ∧ x.cps.toList[n]? = some c ∧ atI x.cps.toList ((n : Nat) : Int) = some c := by
  obtain ⟨l, rfl, e1, b1⟩ := h
  have hl : n < l.length := by omega
  exact ⟨l[n], b1 _ (List.getElem_mem hl), List.getElem?_eq_getElem hl, atI_nat (List.getElem?_eq_getElem hl)⟩
section
variable {P : Program} {w : World} {K : PySem.W.Frag} {mg : Str → Option Value} {base : Heap}
/-- whether some go on with a 0, with a 1 -/
def spLooked (K : PySem.W.Frag) : Sp := fun vs H Q _ => ∃ (ml : Addr) (W : Nat) (l : List Nat) (xs : List Str), vs = [.ref ml, .str (S l)] ∧ H ml = some (.lst (xs.map V.str)) ∧ (∀ x ∈ xs, Beg W l x) ∧ l.length < W ∧ W ≤ 12 ∧
  ∀ (p : Addr) (H' : Hp), H' p = some (.tup [.bl (xs.any (sg l.length 48)), .bl (xs.any (sg l.length 49))]) → Frm [] H H' → Q (.ref p) H'
/-- an own wire -/
def spModel : Sp := fun vs H Q _ => ∃ W : Nat, vs = [.int W] ∧ ∀ (pm dt ml : Addr) (H' : Hp), H pm = none → H dt = none → H ml = none → pm ≠ dt → H' pm = some (.dK (mkv W dt ml .non 0)) → H' ml = some (.lst []) → H' dt = some (.dK []) → Frm [] H H' → Q (.ref pm) H'
theorem c_lmodel (T : Txt P w K mg base) : CalX CX0 P w K mg base 1 "_law_model" spModel := by
  obtain ⟨fd, F⟩ := T.t.def_ 32 (d := d_lmodel)
  refine ⟨_, fd, _, F.ok sc_lmodel (fun vs H Q E h => ?_) (fun cdv A outer s H vs Q E hr h => ?_), He.glo_ok T.X T.G (T.t.fact 10), F.kp, F.bindsN fun _ _ _ _ _ _ us hl => match us, hl with | [_], _ => rfl⟩
  · obtain ⟨W, rfl, _⟩ := h
    rfl
  · obtain ⟨W, rfl, k⟩ := h
    refine ⟨_, PSs.nox (pss_one (ps_ret (pe_disp (pps_cons pe_str (pv 0) (pps_cons pe_str pe_dnewK (pps_cons pe_str (pe_lst pa_nil) (pps_cons pe_str pe_non (pps_cons pe_str pe_int pps_nil))))) (by rfl) (by rfl) (fun z => by cases z) (by decide)))), ?_⟩
    intro p hp
    refine ⟨_, rfl, fun d hd => ⟨Nat.zero_le _, fun q hq => ?_⟩⟩
    have npd : p ≠ d := ne_of_none upd_same hd
    have npq : p ≠ q := ne_of_none (show (upd (upd H p (.dK [])) d (.dK [])) p = some (.dK []) by rw [upd_ne npd, upd_same]) hq
    have ndq : d ≠ q := ne_of_none upd_same hq
    refine ⟨by rw [upd_ne npq, upd_ne npd, upd_same], [(.inr "width", .int W), (.inr "things", .ref d), (.inr "listening", .ref q), (.inr "said", .non), (.inr "looks", .int 0)], rfl, by show 5 ≤ 15; decide, ?_⟩
    rw [mk_merge]
    have hd' : H d = none := upd_back hd
    have hq' : H q = none := upd_back (upd_back hq)
    refine k p d q _ hp hd' hq' npd upd_same (by rw [upd_ne npq.symm, upd_same]) (by rw [upd_ne npd.symm, upd_ne ndq, upd_same]) ?_
    exact (((((Frm.refl _ _).new hp).new hd').new hq')).new hp
end
end B

set_option Elab.async false
set_option linter.all false
set_option maxRecDepth 100000
set_option maxHeartbeats 4000000
namespace B
open PySem PySem.Spec PyProof.Rows L2
open SX (S)
/-- who listens in a new round -/
def lisB (kvs : List (Str × Bool)) (all : Bool) : List Str := (kvs.filter fun p => all || p.2).map (·.1)
def wordsB : List Str := ["hang", "off", "alarm", "calm"]
/-- what becomes of a thing: the word of a refusal, the things -/
def deedW (kvs : List (Str × Bool)) (wd x : Str) : Str := if wd = "hang" then (if hasK kvs x = true then "there" else "") else (if hasK kvs x = true then "" else "not")
def deedK (kvs : List (Str × Bool)) (wd x : Str) : List (Str × Bool) :=
  if wd = "hang" then (if hasK kvs x = true then kvs else putB kvs x false) else (if hasK kvs x = true then (if wd = "off" then dropB kvs x else putB kvs x (decide (wd = "alarm"))) else kvs)
def deedL (kvs : List (Str × Bool)) (lm : List Str) (wd x : Str) : List Str := if wd = "off" ∧ hasK kvs x = true then lm.filter (fun y => decide (y ≠ x)) else lm
theorem dig_S (bit : Int) (h : bit = 0 ∨ bit = 1) : Str.ofString (toString bit) = S [48 + bit.toNat] := by
  rcases h with rfl | rfl <;> decide +kernel
theorem filter_step {α : Type} {l : List α} {i : Nat} {x : α} (f : α → Bool) (h : l[i]? = some x) : (l.take (i + 1)).filter f = (l.take i).filter f ++ (if f x = true then [x] else []) := by
  rw [take_snoc h, List.filter_append, List.filter_cons, List.filter_nil]
theorem has_get {kvs : List (Str × Bool)} {x : Str} (h : hasK kvs x = true) : ∃ b, getB kvs x = some b := by
  rw [← get_has] at h
  exact Option.isSome_iff_exists.mp h
section
variable {P : Program} {w : World} {K : PySem.W.Frag} {mg : Str → Option Value} {base : Heap}
/-- a round begun on an own wire -/
def spBegun : Sp := fun vs H Q _ => ∃ (pm dt ml : Addr) (kind : Str) (W : Nat) (kvs : List (Str × Bool)) (lm : List Str) (sd : Option (List Nat)) (lk : Int), vs = [.ref pm, .str kind] ∧ MdAt H pm dt ml W kvs lm sd lk ∧ pm ≠ dt ∧ (kvs.map (·.1)).Nodup ∧ kvs.length ≤ 100 ∧
  ∀ (ml' : Addr) (H' : Hp), H ml' = none → MdAt H' pm dt ml' W kvs (lisB kvs (decide (kind = "all"))) (some []) lk → Frm [pm] H H' → Q .non H'
/-- a bit said on an own wire -/
def spSaid : Sp := fun vs H Q _ => ∃ (pm dt ml : Addr) (bit : Int) (W : Nat) (kvs : List (Str × Bool)) (lm : List Str) (l : List Nat) (lk : Int), vs = [.ref pm, .int bit] ∧ (bit = 0 ∨ bit = 1) ∧ MdAt H pm dt ml W kvs lm (some l) lk ∧ pm ≠ dt ∧ (∀ x ∈ lm, Num W x) ∧ lm.length ≤ 100 ∧ l.length < W ∧ W ≤ 12 ∧
  ∀ (ml' : Addr) (H' : Hp), H ml' = none → MdAt H' pm dt ml' W kvs (lm.filter (sg l.length (48 + bit.toNat))) (some (l ++ [48 + bit.toNat])) lk → Frm [pm] H H' → Q .non H'
end
end B

set_option Elab.async false
set_option linter.all false
set_option maxRecDepth 100000
set_option maxHeartbeats 4000000
namespace B
open PySem PySem.Spec PyProof.Rows L2
open SX (S)
section
variable {P : Program} {w : World} {K : PySem.W.Frag} {mg : Str → Option Value} {base : Heap}
/-- something becomes of a thing of an own wire -/
def spDeed : Sp := fun vs H Q _ => ∃ (pm dt ml : Addr) (wd x : Str) (W : Nat) (kvs : List (Str × Bool)) (lm : List Str) (sd : Option (List Nat)) (lk : Int), vs = [.ref pm, .str wd, .str x] ∧ MdAt H pm dt ml W kvs lm sd lk ∧ pm ≠ dt ∧ kvs.length ≤ 100 ∧ lm.length ≤ 100 ∧
  ∀ (ml' : Addr) (H' : Hp), (ml' = ml ∨ H ml' = none) → MdAt H' pm dt ml' W (deedK kvs wd x) (deedL kvs lm wd x) sd lk → Frm [pm, dt] H H' → Q (.str (deedW kvs wd x)) H'
theorem c_ldeed (T : Txt P w K mg base) : CalX CX0 P w K mg base 1 "_law_deed" spDeed := by
  obtain ⟨fd, F⟩ := T.t.def_ 33 (d := d_ldeed)
  refine ⟨_, fd, _, F.ok sc_ldeed (fun vs H Q E h => ?_) (fun cdv A outer s H vs Q E hr h => ?_), He.glo_ok T.X T.G (T.t.fact 11), F.kp, F.bindsN fun _ _ _ _ _ _ us hl => match us, hl with | [_, _, _], _ => rfl⟩
  · obtain ⟨pm, dt, ml, wd, x, W, kvs, lm, sd, lk, rfl, _⟩ := h
    rfl
  · obtain ⟨pm, dt, ml, wd, x, W, kvs, lm, sd, lk, rfl, ⟨h1, h2, h3⟩, npd, hlen, hll, k⟩ := h
    have hu := hu_of hr
    have nmd : ml ≠ dt := ne_of h2 h3 (by intro z; cases z)
    have nmp : ml ≠ pm := ne_of h2 h1 (by intro z; cases z)
    refine ⟨_, PSs.nox (pss_cons (ps_if (pt_cmpR op_eq (pv 1) pe_str (nomark _))
      (pss_cons (ps_if (pt_cmp (pc_din hu (pv 2) (pe_dget hu (pv 0) pe_str (fun _ _ => rfl))))
        (pss_one (ps_ret pe_str))
        pss_nil)
      (pss_cons (ps_dput hu (pe_dget hu (pv 0) pe_str (fun _ _ => rfl)) (pv 2) pe_bl rfl)
      (pss_one (ps_ret pe_str))))
      pss_nil)
    (pss_cons (ps_if (pt_cmp (pc_dnotin hu (pv 2) (pe_dget hu (pv 0) pe_str (fun _ _ => rfl))))
      (pss_one (ps_ret pe_str))
      pss_nil)
    (pss_cons (ps_if (pt_cmpR op_eq (pv 1) pe_str (nomark _))
      (pss_cons (ps_expr (pe_dpop1 (pe_dget hu (pv 0) pe_str (fun _ _ => rfl)) (pv 2) ⟨rfl, rfl, rfl, rfl⟩))
      (pss_one (ps_dput hu (pv 0) pe_str (pe_lc (own := [("_law_one", 3)]) (g := gName 3) rfl sc_ldeed.nd (pi_list (pe_dget hu (pv 0) pe_str (fun _ _ => rfl))) (blkOk_by (N := ["_law_m", "_law_word_here", "_law_number_here", "_law_one"]) (sc := defScope s_ldeed) (own := [("_law_one", 3)]) (by decide +kernel)) (fun _ _ _ _ _ => pg_name (i := 3) sc_ldeed.nd rfl (Or.inl rfl)) (fun _ _ _ _ _ => pts_one (by exact (pt_cmpR op_ne (pv 3) (pv 2) (nomark _)))) (fun _ _ _ _ _ => by exact (pv 3))) rfl)))
      (pss_one (ps_dput hu (pe_dget hu (pv 0) pe_str (fun _ _ => rfl)) (pv 2) (pe_cmpR op_eq (pv 1) pe_str (nomark _)) rfl)))
    (pss_one (ps_ret pe_str))))), ?_⟩
    have dh : DGet H dt (.str x) ((getB kvs x).map V.bl) := dg_has (.inl h3) x
    have stay : MdAt H pm dt ml W kvs lm sd lk := ⟨h1, h2, h3⟩
    have upt : ∀ b, MdAt (upd H dt (.dK (kv (putB kvs x b)))) pm dt ml W (putB kvs x b) lm sd lk := fun b => ⟨by rw [upd_ne npd]; exact h1, by rw [upd_ne nmd]; exact h2, upd_same⟩
    have fput : ∀ o, Frm [pm, dt] H (upd H dt o) := fun o => (Frm.refl _ _).put (by simp)
    -- if word == "hang"
    refine ⟨_, rfl, rfl, _, rfl, ?_⟩
    rw [str_dec]
    refine iteB (fun c => ?_) (fun c => ?_)
    · have ew : wd = "hang" := of_decide_eq_true c
      refine ⟨_, rfl, _, rfl, pm, _, rfl, md_things h1, dt, _, rfl, dh, _, rfl, ?_⟩
      rw [some_map_bl, get_has]
      refine iteB (fun ch => ?_) (fun ch => ?_)
      · have := k ml H (.inl rfl) (by unfold deedK deedL; rw [if_pos ew, if_pos ch, if_neg (fun z => absurd (ew.symm.trans z.1) (by decide +kernel))]; exact stay) (Frm.refl _ _)
        unfold deedW at this
        rw [if_pos ew, if_pos ch] at this
        exact this
      · have nh : ¬ hasK kvs x = true := by rw [ch]; exact Bool.false_ne_true
        refine ⟨_, rfl, pm, _, rfl, md_things h1, _, rfl, dt, _, rfl, dp_put h3 (by omega) x false, ?_⟩
        have := k ml _ (.inl rfl) (by unfold deedK deedL; rw [if_pos ew, if_neg nh, if_neg (fun z => absurd (ew.symm.trans z.1) (by decide +kernel))]; exact upt false) (fput _)
        unfold deedW at this
        rw [if_pos ew, if_neg nh] at this
        exact this
    · have ew : ¬ wd = "hang" := of_decide_eq_false c
      refine ⟨_, rfl, _, rfl, pm, _, rfl, md_things h1, dt, _, rfl, dh, _, rfl, ?_⟩
      rw [some_map_bl, get_has]
      refine iteB (fun ch => ?_) (fun ch => ?_)
      · have nh : ¬ hasK kvs x = true := fun z => by rw [z] at ch; cases ch
        have := k ml H (.inl rfl) (by unfold deedK deedL; rw [if_neg ew, if_neg nh, if_neg (fun z => nh z.2)]; exact stay) (Frm.refl _ _)
        unfold deedW at this
        rw [if_neg ew, if_neg nh] at this
        exact this
      · have hh : hasK kvs x = true := by
          cases e : hasK kvs x with
          | true => rfl
          | false => rw [e] at ch; cases ch
        obtain ⟨b, hb⟩ := has_get hh
        refine ⟨_, rfl, rfl, _, rfl, ?_⟩
        rw [str_dec]
        refine iteB (fun co => ?_) (fun co => ?_)
        · have eo : wd = "off" := of_decide_eq_true co
          have ev : valV (kv kvs) (.inr x : Key) = some (.bl b) := by rw [val_kv, hb]; rfl
          refine ⟨_, rfl, pm, _, rfl, md_things h1, dt, rfl, .inl ⟨_, .inl h3⟩, _, rfl, kv kvs, .inr x, .bl b, h3, rfl, ev, ?_⟩
          rw [drop_kv]
          have h1' : (upd H dt (.dK (kv (dropB kvs x)))) pm = some (.dK (mkv W dt ml (sdV sd) lk)) := by rw [upd_ne npd]; exact h1
          have h2' : (upd H dt (.dK (kv (dropB kvs x)))) ml = some (.lst (lm.map V.str)) := by rw [upd_ne nmd]; exact h2
          refine ⟨_, rfl, pm, _, rfl, md_listening h1', ml, rfl, ⟨_, SqL.of h2'⟩, fun D hD => ?_⟩
          have npD : pm ≠ D := ne_of_none h1' hD
          have nmD : ml ≠ D := ne_of_none h2' hD
          have ndD : dt ≠ D := ne_of_none upd_same hD
          refine lc_list (K := K) (a := ml) (xs := lm.map V.str) (fun i H' => H' = upd (upd H dt (.dK (kv (dropB kvs x)))) D (.lst (((lm.take i).filter (fun y => decide (y ≠ x))).map V.str))) rfl (fun i H' _ e => by rw [e]; exact SqL.of (by rw [upd_ne nmD]; exact h2')) ?_ ?_
          · rintro i y H1 hi e
            subst e
            obtain ⟨z, hz, rfl⟩ := at_map hi
            refine ⟨rfl, _, rfl, _, rfl, rfl, _, rfl, ?_⟩
            rw [str_dec]
            have e1 : (!decide (z = x)) = decide (z ≠ x) := by
              by_cases q : z = x
              · rw [decide_eq_true q, decide_eq_false (fun n => n q)]; rfl
              · rw [decide_eq_false q, decide_eq_true q]; rfl
            rw [e1]
            refine iteB (fun cb => ?_) (fun cb => ?_)
            · refine ⟨_, rfl, _, upd_same, ?_, ?_⟩
              · rw [List.length_map]
                have := List.length_filter_le (fun y => decide (y ≠ x)) (lm.take i)
                rw [List.length_take] at this
                exact small1000 (by omega)
              · show _ = _
                rw [upd_upd, filter_step _ hz, if_pos cb, List.map_append]
                rfl
            · show _ = _
              rw [filter_step _ hz, if_neg (by rw [cb]; exact Bool.false_ne_true), List.append_nil]
          · rintro H1 rfl
            rw [List.length_map, List.take_length]
            have h1'' : (upd (upd H dt (.dK (kv (dropB kvs x)))) D (.lst ((lm.filter (fun y => decide (y ≠ x))).map V.str))) pm = some (.dK (mkv W dt ml (sdV sd) lk)) := by rw [upd_ne npD]; exact h1'
            refine ⟨_, rfl, pm, _, rfl, mdp_listening h1'', ?_⟩
            have hD' : H D = none := upd_back hD
            have := k D (upd (upd (upd H dt (.dK (kv (dropB kvs x)))) D (.lst ((lm.filter (fun y => decide (y ≠ x))).map V.str))) pm (.dK (mkv W dt D (sdV sd) lk))) (.inr hD')
              (by
                unfold deedK deedL
                rw [if_neg ew, if_pos hh, if_pos eo, if_pos ⟨eo, hh⟩]
                exact ⟨upd_same, by rw [upd_ne npD.symm, upd_same], by rw [upd_ne npd.symm, upd_ne ndD, upd_same]⟩)
              ((((fput _).new hD')).put (by simp))
            unfold deedW at this
            rw [if_neg ew, if_pos hh] at this
            exact this
        · have eo : ¬ wd = "off" := of_decide_eq_false co
          refine ⟨_, rfl, rfl, _, rfl, pm, _, rfl, md_things h1, _, rfl, dt, upd H dt (.dK (kv (putB kvs x (decide (wd = "alarm"))))), rfl, ?_, ?_⟩
          · rw [str_dec]
            exact dp_put h3 (by omega) x _
          · have := k ml _ (.inl rfl) (by unfold deedK deedL; rw [if_neg ew, if_pos hh, if_neg eo, if_neg (fun z => eo z.1)]; exact upt _) (fput _)
            unfold deedW at this
            rw [if_neg ew, if_pos hh] at this
            exact this
end
end B

set_option Elab.async false
set_option linter.all false
set_option maxRecDepth 100000
set_option maxHeartbeats 4000000
namespace B
open PySem PySem.Spec PyProof.Rows L2
open SX (S)
/-! ### code tables -/
def tabA (K : PySem.W.Frag) (p : He.Defn) : Addr := (He.cT K p).2
def TL (K : PySem.W.Frag) : List (Addr × Str) := lams.map fun z => (tabA K z.1, z.2)
/-- the tables stand well -/
def Tb (K : PySem.W.Frag) (H : Hp) : Prop := (∀ p ∈ gens, GxR.TabG H (tabA K p)) ∧ LamX.Tabs (TL K) H
/-- as Frm, but code tables may grow -/
structure FrT (K : PySem.W.Frag) (S : List Addr) (H H' : Hp) : Prop where
  k : ∀ b o, H b = some o → isT o = false → b ∉ S → H' b = some o
  b : ∀ b, H' b = none → H b = none
  t : Tb K H → Tb K H'
theorem FrT.refl (K : PySem.W.Frag) (S : List Addr) (H : Hp) : FrT K S H H := ⟨fun _ _ h _ _ => h, fun _ h => h, fun h => h⟩
theorem FrT.trans {K : PySem.W.Frag} {S : List Addr} {H H1 H2 : Hp} (a : FrT K S H H1) (b : FrT K S H1 H2) : FrT K S H H2 := ⟨fun c o h t n => b.k c o (a.k c o h t n) t n, fun c h => a.b c (b.b c h), fun h => b.t (a.t h)⟩
theorem FrT.mono {K : PySem.W.Frag} {S S' : List Addr} {H H1 : Hp} (a : FrT K S H H1) (h : ∀ x ∈ S, x ∈ S') : FrT K S' H H1 := ⟨fun c o e t n => a.k c o e t fun z => n (h c z), a.b, a.t⟩
theorem nl_codeO {c : Addr} {q : Str} : B.nl (LamX.CodeO c q) = false := rfl
theorem Frm.toT {K : PySem.W.Frag} {S : List Addr} {H H' : Hp} (f : Frm S H H') (n : NL S H) : FrT K S H H' := by
  have out : ∀ {p : Addr} {o : HO}, H p = some o → B.nl o = false → p ∉ S := fun {p o} e h z => by
    obtain ⟨u, e2, q⟩ := n p z
    rw [e] at e2
    cases e2
    rw [h] at q
    cases q
  have kp : ∀ {p : Addr} {o : HO}, H p = some o → B.nl o = false → H' p = some o := fun {p o} e h => f.k p o e rfl (out e h)
  refine ⟨fun b o e _ hb => f.k b o e rfl hb, f.b, fun ⟨h1, h2⟩ => ⟨fun p hp => ?_, fun p hp => ?_⟩⟩
  · obtain ⟨ps, e, t⟩ := h1 p hp
    exact ⟨ps, kp e rfl, t⟩
  obtain ⟨qs, e1, t1, a1⟩ := h2 p hp
  refine ⟨qs, kp e1 rfl, t1, fun pos cv hc => ?_⟩
  obtain ⟨c, e2, e3⟩ := a1 pos cv hc
  exact ⟨c, e2, kp e3 nl_codeO⟩
theorem FrT.at {K : PySem.W.Frag} {S : List Addr} {H H' : Hp} {p : Addr} {o : HO} (f : FrT K S H H') (n : NL S H) (h : H p = some o) (h1 : isT o = false) (h2 : B.nl o = false) : H' p = some o :=
  f.k p o h h1 fun z => by
    obtain ⟨u, e, q⟩ := n p z
    rw [h] at e
    cases e
    rw [h2] at q
    cases q
theorem FrT.scr {K : PySem.W.Frag} {S : List Addr} {H H' : Hp} {a : Addr} (f : FrT K S H H') (n : NL S H) (h : Scr K a H) : Scr K a H' := by
  obtain ⟨ns, (h | ⟨u, h⟩) | h⟩ := h
  · exact ⟨ns, .inl (.inl (f.at n h rfl (nl_ints ns)))⟩
  · exact ⟨ns, .inl (.inr ⟨u, f.at n h rfl rfl⟩)⟩
  · exact ⟨ns, .inr h⟩
theorem FrT.row {K : PySem.W.Frag} {S : List Addr} {H H' : Hp} {r a : Addr} (f : FrT K S H H') (hr : r ∉ S) (h : RowAt r a H) : RowAt r a H' := by
  obtain ⟨i, m, b, e, h0⟩ := h
  exact ⟨i, m, b, f.k r _ e rfl hr, h0⟩
section
theorem map_inj {α β : Type} {f : α → β} : ∀ {l : List α}, (l.map f).Nodup → ∀ a ∈ l, ∀ b ∈ l, f a = f b → a = b
  | [], _, a, ha, _, _, _ => absurd ha (by simp)
  | x :: r, h, a, ha, b, hb, e => by
    have n := List.nodup_cons.mp (show (f x :: r.map f).Nodup from h)
    rcases List.mem_cons.mp ha with rfl | ha2 <;> rcases List.mem_cons.mp hb with rfl | hb2
    · rfl
    · exact absurd (List.mem_map.mpr ⟨b, hb2, e.symm⟩) n.1
    · exact absurd (List.mem_map.mpr ⟨a, ha2, e⟩) n.1
    · exact map_inj n.2 a ha2 b hb2 e
theorem gens_tf : ∀ p ∈ gens, p ∈ tf := by decide +kernel
theorem lams_tf : ∀ z ∈ lams, z.1 ∈ tf := by decide +kernel
theorem gl_ne : ∀ p ∈ gens, ∀ z ∈ lams, p ≠ z.1 := by decide +kernel
theorem lams_fun : ∀ a ∈ lams, ∀ b ∈ lams, a.1 = b.1 → a.2 = b.2 := by decide +kernel
theorem tl_mem {K : PySem.W.Frag} {p : He.Defn} {q : Str} (h : (p, q) ∈ lams) : (tabA K p, q) ∈ TL K := List.mem_map.mpr ⟨(p, q), h, rfl⟩
theorem tb_empty {K : PySem.W.Frag} {H : Hp} (h : ∀ p ∈ tf.map (He.cT K), H p.2 = some (.tbl #[])) : Tb K H := by
  have z : ∀ p ∈ tf, H (tabA K p) = some (.tbl #[]) := fun p hp => h (He.cT K p) (List.mem_map.mpr ⟨p, hp, rfl⟩)
  refine ⟨fun p hp => ⟨#[], z p (gens_tf p hp), True.intro⟩, fun p hp => ?_⟩
  obtain ⟨y, hy, rfl⟩ := List.mem_map.mp hp
  exact .nil (z y.1 (lams_tf y hy))
variable {P : Program} {w : World} {K : PySem.W.Frag} {mg : Str → Option Value} {base : Heap}
theorem ex_nd (T : Txt P w K mg base) : (tf.map fun p => (He.cT K p).2).Nodup := of_decide_eq_true (He.ba T.m).1
theorem ex_tup (T : Txt P w K mg base) : exTup K = true := (He.ba (He.ba T.m).2).1
theorem ex_exc (T : Txt P w K mg base) : exExc K = true := (He.ba (He.ba T.m).2).2
theorem tab_inj (T : Txt P w K mg base) {p q : He.Defn} (hp : p ∈ tf) (hq : q ∈ tf) (e : tabA K p = tabA K q) : p = q := map_inj (f := fun p => (He.cT K p).2) (ex_nd T) p hp q hq e
theorem tb_g (T : Txt P w K mg base) {p : He.Defn} (hp : p ∈ tf) : GxR.TabB base mg (He.codeOf K p) (tabA K p) := by
  have h := T.tb p hp
  exact ⟨h.code, h.bm, h.gP⟩
/-- a generator's table grows -/
theorem tb_gen (T : Txt P w K mg base) {p : He.Defn} (hp : p ∈ gens) {H H1 : Hp} (ht : Tb K H) (hT : GxR.Tabbed (tabA K p) H H1) : FrT K [] H H1 ∧ Tb K H1 := by
  have off : ∀ {b : Addr}, b ≠ tabA K p → H1 b = H b := fun h => hT.2 _ h
  obtain ⟨ps0, e0, t0⟩ := ht.1 p hp
  have tb : Tb K H1 := by
    refine ⟨fun q hq => ?_, fun z hz => ?_⟩
    · by_cases c : tabA K q = tabA K p
      · rw [c]
        exact hT.1
      · obtain ⟨ps, e, t⟩ := ht.1 q hq
        exact ⟨ps, by rw [off c]; exact e, t⟩
    · obtain ⟨y, hy, rfl⟩ := List.mem_map.mp hz
      have ne : tabA K y.1 ≠ tabA K p := fun c => gl_ne p hp y hy (tab_inj T (gens_tf p hp) (lams_tf y hy) c.symm)
      obtain ⟨qs, e1, t1, a1⟩ := ht.2 _ hz
      refine ⟨qs, by rw [off ne]; exact e1, t1, fun pos cv hc => ?_⟩
      obtain ⟨c, e2, e3⟩ := a1 pos cv hc
      refine ⟨c, e2, ?_⟩
      rw [off (fun z => ?_)]
      · exact e3
      · rw [z, e0] at e3
        exact LamX.codeO_ne ps0 (Option.some.inj e3).symm
  refine ⟨⟨fun b o hb hto _ => ?_, fun b hb => ?_, fun _ => tb⟩, tb⟩
  · by_cases q : b = tabA K p
    · rw [q, e0] at hb
      cases hb
      cases hto
    · rw [off q]
      exact hb
  · by_cases q : b = tabA K p
    · obtain ⟨ps, z, _⟩ := hT.1
      rw [q, z] at hb
      cases hb
    · rw [off q] at hb
      exact hb
/-- a lambda's table grows -/
theorem tb_grow (T : Txt P w K mg base) {p : He.Defn} {q : Str} (hp : (p, q) ∈ lams) {H H1 : Hp} (ht : Tb K H) (f1 : ∀ b o, H b = some o → b ≠ tabA K p → H1 b = some o) (f2 : ∀ b, H1 b = none → H b = none) (t : LamX.TabS H1 (tabA K p) q) : FrT K [] H H1 ∧ Tb K H1 := by
  obtain ⟨qs0, e0, t0, a0⟩ := ht.2 _ (tl_mem hp)
  have tb : Tb K H1 := by
    refine ⟨fun g hg => ?_, fun z hz => ?_⟩
    · have ne : tabA K g ≠ tabA K p := fun c => gl_ne g hg (p, q) hp (tab_inj T (gens_tf g hg) (lams_tf _ hp) c)
      obtain ⟨ps, e, tr⟩ := ht.1 g hg
      exact ⟨ps, f1 _ _ e ne, tr⟩
    · obtain ⟨y, hy, rfl⟩ := List.mem_map.mp hz
      by_cases c : tabA K y.1 = tabA K p
      · have e := tab_inj T (lams_tf y hy) (lams_tf _ hp) c
        have e2 := lams_fun y hy (p, q) hp e
        show LamX.TabS H1 (tabA K y.1) y.2
        rw [c, e2]
        exact t
      · obtain ⟨qs, e1, t1, a1⟩ := ht.2 _ hz
        refine ⟨qs, f1 _ _ e1 c, t1, fun pos cv hc => ?_⟩
        obtain ⟨c', e2, e3⟩ := a1 pos cv hc
        refine ⟨c', e2, f1 _ _ e3 fun y => ?_⟩
        rw [y, e0] at e3
        exact LamX.codeO_ne qs0 (Option.some.inj e3).symm
  refine ⟨⟨fun b o e hb _ => f1 b o e fun y => ?_, f2, fun _ => tb⟩, tb⟩
  rw [y, e0] at e
  cases e
  cases hb
/-- a def whose code object is known -/
theorem okT {x qual : Str} {params : Arguments} {body : List Stmt} {scope : Scope} {dvs : List V} {kws : List (Str × V)} {p : He.Defn} {fd : FuncData} {CX : CXT} {N ps : List Str} {k : Nat} {sp : Sp} (F : FunD K x qual params body scope dvs kws (He.fAd K p) fd) (S : FnScope N ps scope)
    (len : ∀ vs H Q E, sp vs H Q E → vs.length = ps.length)
    (hbody : ∀ (A : Around) (outer : List Env) (s : Shared) (H : Hp) (vs : List V) (Q : VK) (E : XK), Room k (A.deeper (envOfC qual scope s.heap.objs.size (He.fAd K p) (.ref (He.codeOf K p)))) → sp vs H Q E →
      ∃ t, PSs (cxOf CX P w K mg base N qual scope (He.fAd K p) (.ref (He.codeOf K p)) A outer s H E) body t ∧ t { nx := fun _ H' => Q .non H', rt := Q } (L2.start N vs) H) : FnOk P w K mg base CX (k + 1) (He.fAd K p) fd ps sp := by
  obtain ⟨oc, od, dV, kV, doc, pm, an, cdv, ct, osl, rfl, lk, hcd, _, _⟩ := F.ex
  obtain ⟨c, rfl⟩ := He.codeIn_ref hcd
  have e : He.codeOf K p = c := He.codeOf_eq lk rfl
  subst e
  exact fn_of lk hcd S len hbody
def genB (scope : Scope) (x : Str) : Bool := (match scope.kind with | .function => true | _ => false) && (!scope.isCoroutine && (scope.names.all (fun y => match y.2 with | .cell => false | .free => false | _ => true) && (decide (scope.names.lookup (".0" : Str) = some NameKind.local) && decide (scope.names.lookup x = some NameKind.local))))
theorem gens_by {env : Env} {scope : Scope} {x : Str} (h : genB scope x = true) : GxR.GenS env scope x := by
  obtain ⟨h1, h⟩ := He.ba h
  obtain ⟨h2, h⟩ := He.ba h
  obtain ⟨h3, h⟩ := He.ba h
  obtain ⟨h4, h5⟩ := He.ba h
  have q := List.all_eq_true.mp h3
  refine ⟨?_, ?_, fun y hy e => ?_, of_decide_eq_true h4, of_decide_eq_true h5, fun y hy e => ?_⟩
  · split at h1
    · assumption
    · cases h1
  · simpa using h2
  · have := q y hy
    rw [e] at this
    cases this
  · have := q y hy
    rw [e] at this
    cases this
theorem elt_in {prog : Program} {w : World} {scope : Scope} {x k : Str} {j : Nat} {p1 p2 p3 : Pos} (hk : scope.kind = .function) (hl : scope.names.lookup x = some .local) (hd : (x == ("__debug__" : Str)) = false := by decide) :
    GxR.EltP prog w scope x (.Compare (.Name x p1) [.In] [.Constant (.str k) j p2] p3) (fun c => decide (c ∈ k.cps.toList)) := by
  intro cenv A' E' c t s2 m2 hs hn hm
  refine wpAny_Compare1 ?_
  refine wpAny_Name (wpAny_loadName_local (by rw [hs]; exact hk) (show cenv.scope.names.lookup x = some .local by rw [hs]; exact hl) hn hm ?_) hd
  refine Calls.Constant_str (PyProof.Rows.in_str ⟨?_, GxR.keeps_tok _ _⟩)
  exact congrArg Value.bool (PySem.StrLaws.found_one k c)
end
theorem FrT.fresh {K : PySem.W.Frag} {T : List Addr} {H H1 H2 : Hp} (a : FrT K [] H H1) (b : FrT K T H1 H2) (h : ∀ x ∈ T, H x = none) : FrT K [] H H2 :=
  ⟨fun c o e t _ => b.k c o (a.k c o e t (by simp)) t fun z => (by rw [h c z] at e; cases e), fun c z => a.b c (b.b c z), fun z => b.t (a.t z)⟩
theorem Frm.fresh {T : List Addr} {H H1 H2 : Hp} (a : Frm [] H H1) (b : Frm T H1 H2) (h : ∀ x ∈ T, H x = none) : Frm [] H H2 :=
  ⟨fun c o e t _ => b.k c o (a.k c o e t (by simp)) t fun z => (by rw [h c z] at e; cases e), fun c z => a.b c (b.b c z)⟩
theorem tb_upd {K : PySem.W.Frag} {H : Hp} {b : Addr} {xs : List V} {o : HO} (h : Tb K H) (hb : H b = some (.lst xs)) : Tb K (upd H b o) := by
  obtain ⟨h1, h2⟩ := h
  refine ⟨fun p hp => ?_, fun p hp => ?_⟩
  · obtain ⟨ps, e, t⟩ := h1 p hp
    refine ⟨ps, ?_, t⟩
    rw [upd_ne (ne_of e hb (by intro z; cases z))]
    exact e
  · obtain ⟨qs, e1, t1, a1⟩ := h2 p hp
    refine ⟨qs, ?_, t1, fun pos cv hc => ?_⟩
    · rw [upd_ne (ne_of e1 hb (by intro z; cases z))]
      exact e1
    · obtain ⟨c, e2, e3⟩ := a1 pos cv hc
      refine ⟨c, e2, ?_⟩
      rw [upd_ne (ne_of e3 hb (by intro z; cases z))]
      exact e3
theorem FrT.putN {K : PySem.W.Frag} {H H1 : Hp} {b : Addr} {xs : List V} {o : HO} (a : FrT K [] H H1) (h : H b = none) (hb : H1 b = some (.lst xs)) : FrT K [] H (upd H1 b o) :=
  ⟨fun c u e t n => by
    rw [upd_ne (ne_of_none e h)]
    exact a.k c u e t n, fun c z => a.b c (upd_back z), fun z => tb_upd (a.t z) hb⟩
end B

set_option Elab.async false
set_option linter.all false
set_option maxRecDepth 100000
set_option maxHeartbeats 4000000
namespace B
open PySem PySem.Spec PyProof.Rows L2
open SX (S)
section
variable {P : Program} {w : World} {K : PySem.W.Frag} {mg : Str → Option Value} {base : Heap}
theorem num_gen : pd_is_number ∈ gens := by decide +kernel
/-- a text of so many signs 0 and 1 is a number -/
def spIsNum (K : PySem.W.Frag) : Sp := fun vs H Q _ => ∃ (W : Nat) (x : Str), vs = [.int W, .str x] ∧ Num W x ∧ W ≤ 12 ∧ Tb K H ∧ ∀ H', FrT K [] H H' → Q (.bl true) H'
theorem c_is_number (T : Txt P w K mg base) : CalX CX0 P w K mg base 1 "is_number" (spIsNum K) := by
  obtain ⟨fd, F⟩ := T.t.def_ 2 (d := d_is_number)
  refine ⟨_, fd, _, okT (p := pd_is_number) F sc_is_number (fun vs H Q E h => ?_) (fun A outer s H vs Q E hr h => ?_), He.glo_ok T.X T.G (T.t.fact 2), F.kp, F.bindsN fun _ _ _ _ _ _ us hl => match us, hl with | [_, _], _ => rfl⟩
  · obtain ⟨W, x, rfl, _⟩ := h
    rfl
  · obtain ⟨W, x, rfl, hx, hW, ht, k⟩ := h
    refine ⟨_, PSs.nox (pss_cons (ps_if (PW.pt (pw_or (pt_not (pt_val (pe_callB call_isi (by rfl) (n_isinstance T) (by decide +kernel) (pa_cons (pv 1) (pa_cons (pe_bltn (v := .ty "str") (u := .type "str") rfl (n_str T) (by decide +kernel) rfl) pa_nil))))) (pw_or1 (pt_cmpR op_ne (pe_callB call_len_str (by rfl) (n_len T) PySem.boot_len (pa_cons (pv 1) pa_nil)) (pv 0) (nomark _)))))
      (pss_one (ps_ret pe_bl))
      pss_nil)
    (pss_one (ps_ret (GxR.pe_allS hr rfl (n_all T) (by decide +kernel) (tb_g T (p := pd_is_number) (by decide +kernel)) rfl (gens_by (by decide +kernel)) (pv 1) (elt_in rfl rfl) (fun _ => rfl))))), ?_⟩
    refine ⟨_, rfl, .str x, .ty "str", .type "str", .type "str", true, rfl, .ty "str", .base (.str x), kit_ty (by decide +kernel), true, rfl, ?_⟩
    refine ⟨_, rfl, x, rfl, by rw [num_len hx]; exact size12 (by omega), _, rfl, rfl, _, rfl, ?_⟩
    rw [num_len hx, decide_eq_true rfl]
    refine ⟨_, rfl, x, rfl, ht.1 _ num_gen, fun H2 hT => ?_⟩
    have e : x.cps.toList.all (fun c => decide (c ∈ ("01" : Str).cps.toList)) = true := by
      obtain ⟨l, rfl, _, b⟩ := hx
      refine List.all_eq_true.mpr fun c hc => ?_
      rcases b c hc with rfl | rfl <;> decide +kernel
    rw [e]
    exact k H2 (tb_gen T num_gen ht hT).1
end
end B

set_option Elab.async false
set_option linter.all false
set_option maxRecDepth 100000
set_option maxHeartbeats 4000000
namespace B
open PySem PySem.Spec PyProof.Rows L2
open SX (S)
/-! ### the wire's object -/
def wfl (W : Nat) (dh dl : Addr) (ms lk : Int) : List (Str × V) := [("width", .int W), ("_hanging", .ref dh), ("_listening", .ref dl), ("_many_said", .int ms), ("_many_looks", .int lk)]
abbrev WC (K : PySem.W.Frag) : Addr := He.ga K "Wire"
structure WiAt (K : PySem.W.Frag) (H : Hp) (pw dh dl : Addr) (W : Nat) (kvs : List (Str × Bool)) (lw : List Str) (ms lk : Int) : Prop where
  ob : ∃ dx, H pw = some (.ins (WC K) dx (wfl W dh dl ms lk))
  li : H dl = some (.lst (lw.map V.str))
  dc : H dh = some (.dK (kv kvs))
section
variable {W : Nat} {dh dl q : Addr} {ms lk z : Int}
theorem wl_width : (wfl W dh dl ms lk).lookup ("width" : Str) = some (.int W) := by kernel_rfl
theorem wl_hanging : (wfl W dh dl ms lk).lookup ("_hanging" : Str) = some (.ref dh) := by kernel_rfl
theorem wl_listening : (wfl W dh dl ms lk).lookup ("_listening" : Str) = some (.ref dl) := by kernel_rfl
theorem wl_said : (wfl W dh dl ms lk).lookup ("_many_said" : Str) = some (.int ms) := by kernel_rfl
theorem wl_looks : (wfl W dh dl ms lk).lookup ("_many_looks" : Str) = some (.int lk) := by kernel_rfl
theorem wp_listening : putF "_listening" (.ref q) (wfl W dh dl ms lk) = wfl W dh q ms lk := by kernel_rfl
theorem wp_said : putF "_many_said" (.int z) (wfl W dh dl ms lk) = wfl W dh dl z lk := by kernel_rfl
theorem wp_looks : putF "_many_looks" (.int z) (wfl W dh dl ms lk) = wfl W dh dl ms z := by kernel_rfl
theorem wp_new : putF "_many_looks" (.int 0) (putF "_many_said" (.int W) (putF "_listening" (.ref dl) (putF "_hanging" (.ref dh) (putF "width" (.int W) [])))) = wfl W dh dl W 0 := by kernel_rfl
theorem wl_len : (wfl W dh dl ms lk).length < 1000 := by show 5 < 1000; decide
end
section
variable {P : Program} {w : World} {K : PySem.W.Frag} {mg : Str → Option Value} {base : Heap}
theorem wcl (T : Txt P w K mg base) : Cls K (WC K) := He.cls_ok (T.t.fact 51 (f := .cls "Wire"))
theorem wn_width (T : Txt P w K mg base) : NoAttr K (WC K) "width" := He.noat_ok (T.t.fact 53 (f := .noat "Wire" "width"))
theorem wn_hanging (T : Txt P w K mg base) : NoAttr K (WC K) "_hanging" := He.noat_ok (T.t.fact 54 (f := .noat "Wire" "_hanging"))
theorem wn_listening (T : Txt P w K mg base) : NoAttr K (WC K) "_listening" := He.noat_ok (T.t.fact 55 (f := .noat "Wire" "_listening"))
theorem wn_said (T : Txt P w K mg base) : NoAttr K (WC K) "_many_said" := He.noat_ok (T.t.fact 56 (f := .noat "Wire" "_many_said"))
theorem wn_looks (T : Txt P w K mg base) : NoAttr K (WC K) "_many_looks" := He.noat_ok (T.t.fact 57 (f := .noat "Wire" "_many_looks"))
end
section
variable {X : Cx}
theorem mk_There (T : Txt X.prog X.w X.K X.mg X.base) {m : Str} {j : Nat} {p p2 pos : Pos} (hg : Gl X "There" := by rfl) : PMk X (.Call (.Name "There" p) [.Constant (.str m) j p2] [] pos) (fun _ H Q => Q (.ref (He.ga X.K "There")) none H) := by
  obtain ⟨a, b, c, d⟩ := He.exc_ok (T.t.fact 89 (f := .exc "There"))
  exact pmk_own PySem.F.excBase_ValueError a (g_There T) b (raises_own c d) hg
theorem mk_NotThere (T : Txt X.prog X.w X.K X.mg X.base) {m : Str} {j : Nat} {p p2 pos : Pos} (hg : Gl X "NotThere" := by rfl) : PMk X (.Call (.Name "NotThere" p) [.Constant (.str m) j p2] [] pos) (fun _ H Q => Q (.ref (He.ga X.K "NotThere")) none H) := by
  obtain ⟨a, b, c, d⟩ := He.exc_ok (T.t.fact 90 (f := .exc "NotThere"))
  exact pmk_own PySem.F.excBase_ValueError a (g_NotThere T) b (raises_own c d) hg
theorem mk_NoRound (T : Txt X.prog X.w X.K X.mg X.base) {m : Str} {j : Nat} {p p2 pos : Pos} (hg : Gl X "NoRound" := by rfl) : PMk X (.Call (.Name "NoRound" p) [.Constant (.str m) j p2] [] pos) (fun _ H Q => Q (.ref (He.ga X.K "NoRound")) none H) := by
  obtain ⟨a, b, c, d⟩ := He.exc_ok (T.t.fact 91 (f := .exc "NoRound"))
  exact pmk_own PySem.F.excBase_ValueError a (g_NoRound T) b (raises_own c d) hg
end
/-- what stands of a wire stands behind what changes other things -/
theorem WiAt.stay {K : PySem.W.Frag} {S : List Addr} {H H' : Hp} {pw dh dl : Addr} {W : Nat} {kvs : List (Str × Bool)} {lw : List Str} {ms lk : Int} (h : WiAt K H pw dh dl W kvs lw ms lk) (f : FrT K S H H') (n : NL S H) (h1 : pw ∉ S) (h2 : dh ∉ S) : WiAt K H' pw dh dl W kvs lw ms lk := by
  obtain ⟨⟨dx, a⟩, b, c⟩ := h
  exact ⟨⟨dx, f.k _ _ a rfl h1⟩, f.at n b rfl (nl_strs lw), f.k _ _ c rfl h2⟩
theorem WiAt.keep {K : PySem.W.Frag} {S : List Addr} {H H' : Hp} {pw dh dl : Addr} {W : Nat} {kvs : List (Str × Bool)} {lw : List Str} {ms lk : Int} (h : WiAt K H pw dh dl W kvs lw ms lk) (f : FrT K S H H') (h1 : pw ∉ S) (h2 : dh ∉ S) (h3 : dl ∉ S) : WiAt K H' pw dh dl W kvs lw ms lk := by
  obtain ⟨⟨dx, a⟩, b, c⟩ := h
  exact ⟨⟨dx, f.k _ _ a rfl h1⟩, f.k _ _ b rfl h3, f.k _ _ c rfl h2⟩
theorem MdAt.stay {K : PySem.W.Frag} {S : List Addr} {H H' : Hp} {pm dt ml : Addr} {W : Nat} {kvs : List (Str × Bool)} {lm : List Str} {sd : Option (List Nat)} {lk : Int} (h : MdAt H pm dt ml W kvs lm sd lk) (f : FrT K S H H') (n : NL S H) (h1 : pm ∉ S) (h2 : dt ∉ S) : MdAt H' pm dt ml W kvs lm sd lk := by
  obtain ⟨a, b, c⟩ := h
  exact ⟨f.k _ _ a rfl h1, f.at n b rfl (nl_strs lm), f.k _ _ c rfl h2⟩
theorem MdAt.keep {K : PySem.W.Frag} {S : List Addr} {H H' : Hp} {pm dt ml : Addr} {W : Nat} {kvs : List (Str × Bool)} {lm : List Str} {sd : Option (List Nat)} {lk : Int} (h : MdAt H pm dt ml W kvs lm sd lk) (f : FrT K S H H') (h1 : pm ∉ S) (h2 : dt ∉ S) (h3 : ml ∉ S) : MdAt H' pm dt ml W kvs lm sd lk := by
  obtain ⟨a, b, c⟩ := h
  exact ⟨f.k _ _ a rfl h1, f.k _ _ b rfl h3, f.k _ _ c rfl h2⟩
theorem WiAt.ne {K : PySem.W.Frag} {H : Hp} {pw dh dl : Addr} {W : Nat} {kvs : List (Str × Bool)} {lw : List Str} {ms lk : Int} (h : WiAt K H pw dh dl W kvs lw ms lk) : pw ≠ dh := by
  obtain ⟨⟨dx, a⟩, b, c⟩ := h
  exact ne_of a c (by intro z; cases z)
theorem WiAt.nl {K : PySem.W.Frag} {H : Hp} {pw dh dl : Addr} {W : Nat} {kvs : List (Str × Bool)} {lw : List Str} {ms lk : Int} (h : WiAt K H pw dh dl W kvs lw ms lk) : NL [pw, dh] H := by
  obtain ⟨⟨dx, a⟩, b, c⟩ := h
  exact .cons a rfl (.cons c rfl .nil)
theorem WiAt.nl1 {K : PySem.W.Frag} {H : Hp} {pw dh dl : Addr} {W : Nat} {kvs : List (Str × Bool)} {lw : List Str} {ms lk : Int} (h : WiAt K H pw dh dl W kvs lw ms lk) : NL [pw] H := by
  obtain ⟨⟨dx, a⟩, b, c⟩ := h
  exact .cons a rfl .nil
section
variable {P : Program} {w : World} {K : PySem.W.Frag} {mg : Str → Option Value} {base : Heap}
def spReqWidth : Sp := fun vs H Q _ => ∃ W : Nat, vs = [.int W] ∧ 1 ≤ W ∧ W ≤ 12 ∧ Q .non H
theorem c_require_width (T : Txt P w K mg base) : CalX CX0 P w K mg base 1 "require_width" spReqWidth := by
  obtain ⟨fd, F⟩ := T.t.def_ 0 (d := d_require_width)
  refine ⟨_, fd, _, F.ok sc_require_width (fun vs H Q E h => ?_) (fun cdv A outer s H vs Q E hr h => ?_), He.glo_ok T.X T.G (T.t.fact 0), F.kp, F.bindsN fun _ _ _ _ _ _ us hl => match us, hl with | [_], _ => rfl⟩
  · obtain ⟨W, rfl, _⟩ := h
    rfl
  · obtain ⟨W, rfl, h1, h2, k⟩ := h
    refine ⟨_, PSs.nox (pss_one (ps_if (PW.pt (pw_or (pt_val (pe_callB call_isi (by rfl) (n_isinstance T) (by decide +kernel) (pa_cons (pv 0) (pa_cons (pe_bltn (v := .ty "bool") (u := .type "bool") rfl (n_bool T) (by decide +kernel) rfl) pa_nil)))) (pw_or1 (pt_not (pt_chain op_le op_le (g_LEAST_WIDTH T) (pv 0) (g_GREATEST_WIDTH T))))))
      (pss_one ps_never)
      pss_nil)), ?_⟩
    refine ⟨_, rfl, .int W, .ty "bool", .type "int", .type "bool", false, rfl, .ty "bool", .base (.int W), kit_ty (by decide +kernel), false, rfl, ?_⟩
    refine ⟨_, rfl, 1, W, rfl, rfl, _, rfl, ?_⟩
    rw [decide_eq_true (show (1 : Int) ≤ (W : Int) by omega)]
    refine ⟨W, 12, rfl, rfl, _, rfl, ?_⟩
    rw [decide_eq_true (show (W : Int) ≤ 12 by omega)]
    exact k
def spReqNum (K : PySem.W.Frag) : Sp := fun vs H Q _ => ∃ (W : Nat) (x : Str), vs = [.int W, .str x] ∧ Num W x ∧ W ≤ 12 ∧ Tb K H ∧ ∀ H', FrT K [] H H' → Q .non H'
theorem c_require_number (T : Txt P w K mg base) : CalX CX0 P w K mg base 2 "require_number" (spReqNum K) := by
  obtain ⟨fd, F⟩ := T.t.def_ 1 (d := d_require_number)
  refine ⟨_, fd, _, F.ok sc_require_number (fun vs H Q E h => ?_) (fun cdv A outer s H vs Q E hr h => ?_), He.glo_ok T.X T.G (T.t.fact 1), F.kp, F.bindsN fun _ _ _ _ _ _ us hl => match us, hl with | [_, _], _ => rfl⟩
  · obtain ⟨W, x, rfl, _⟩ := h
    rfl
  · obtain ⟨W, x, rfl, hx, hW, ht, k⟩ := h
    refine ⟨_, PSs.nox (pss_one (ps_if (pt_not (pt_val (pe_cx (c_is_number T) hr (by decide) rfl pass0 (pa_cons (pv 0) (pa_cons (pv 1) pa_nil)))))
      (pss_one ps_never)
      pss_nil)), ?_⟩
    exact ⟨_, rfl, _, rfl, W, x, rfl, hx, hW, ht, fun H' f => ⟨true, rfl, k H' f⟩⟩
theorem tup_K {x : Str} {vs : List V} (h : tupB K x vs = true) (hl : vs.length ≤ sizeLine) (H : Hp) : SqT K H (He.ga K x) vs := by
  unfold tupB at h
  split at h
  · rename_i t dd its n sl e
    obtain ⟨h1, h2⟩ := He.ba h
    have e1 : t = "tuple" := of_decide_eq_true h1
    subst e1
    have rl := He.relAll_ok h2
    refine .inr ⟨_, its, n, e, rfl, rfl, ?_, rl⟩
    have z : vs.length = its.toList.length := Paired.length rl
    have y : its.toList.length = its.size := by simp
    omega
  · cases h
def spReqKind : Sp := fun vs H Q _ => ∃ k : Str, vs = [.str k] ∧ (k = "all" ∨ k = "alarm") ∧ Q .non H
theorem c_require_kind (T : Txt P w K mg base) : CalX CX0 P w K mg base 1 "require_kind" spReqKind := by
  obtain ⟨fd, F⟩ := T.t.def_ 3 (d := d_require_kind)
  refine ⟨_, fd, _, F.ok sc_require_kind (fun vs H Q E h => ?_) (fun cdv A outer s H vs Q E hr h => ?_), He.glo_ok T.X T.G (T.t.fact 3), F.kp, F.bindsN fun _ _ _ _ _ _ us hl => match us, hl with | [_], _ => rfl⟩
  · obtain ⟨x, rfl, _⟩ := h
    rfl
  · obtain ⟨x, rfl, hk, k⟩ := h
    refine ⟨_, PSs.nox (pss_one (ps_if (pt_cmpR op_notIn_seq (pv 0) (g_KINDS T) rfl)
      (pss_one ps_never)
      pss_nil)), ?_⟩
    refine ⟨_, rfl, _, _, rfl, .inr (tup_K (xc_KINDS T) (by show 2 ≤ sizeLine; decide) H), rfl, rfl, _, rfl, ?_⟩
    have e : inV (.str x) [V.str "all", V.str "alarm"] = true := by rcases hk with rfl | rfl <;> decide +kernel
    rw [e]
    exact k
/-! ### a wire made -/
def spInit (K : PySem.W.Frag) : Sp := fun vs H Q _ => ∃ (pw dx : Addr) (W : Nat), vs = [.ref pw, .int W] ∧ H pw = some (.ins (WC K) dx []) ∧ 1 ≤ W ∧ W ≤ 12 ∧ ∀ (dh dl : Addr) (H' : Hp), H dh = none → H dl = none → H' pw = some (.ins (WC K) dx (wfl W dh dl W 0)) → H' dl = some (.lst []) → H' dh = some (.dK []) → Frm [pw] H H' → Q .non H'
theorem c_init (T : Txt P w K mg base) : MakX CX0 P w K mg base 2 "Wire" (WC K) (spInit K) := by
  obtain ⟨fd, F⟩ := T.t.def_ 4 (d := d_Wire_init)
  refine ⟨_, fd, _, He.mkr_ok (T.t.fact 52 (f := .mkr "Wire")), F.ok sc_Wire_init (fun vs H Q E h => ?_) (fun cdv A outer s H vs Q E hr h => ?_), g_Wire T, F.bindsN fun _ _ _ _ _ _ us hl => match us, hl with | [_, _], _ => rfl⟩
  · obtain ⟨pw, dx, W, rfl, _⟩ := h
    rfl
  · obtain ⟨pw, dx, W, rfl, h1, hW1, hW, k⟩ := h
    refine ⟨_, PSs.nox (pss_cons (ps_expr (pe_cx (c_require_width T) hr (by decide) rfl pass0 (pa_cons (pv 1) pa_nil)))
    (pss_cons (ps_fld (pv 0) (pv 1) rfl)
    (pss_cons (ps_fld (pv 0) pe_dnewK rfl)
    (pss_cons (ps_fld (pv 0) (pe_lst pa_nil) rfl)
    (pss_cons (ps_fld (pv 0) (pv 1) rfl)
    (pss_one (ps_fld (pv 0) pe_int rfl))))))), ?_⟩
    refine ⟨_, rfl, W, rfl, hW1, hW, ?_⟩
    refine ⟨_, rfl, _, rfl, pw, _, dx, _, rfl, h1, wcl T, wn_width T, by show 0 < 1000; decide, fun dh hdh => ?_⟩
    have n1 : pw ≠ dh := ne_of_none upd_same hdh
    refine ⟨_, rfl, pw, _, dx, _, rfl, by rw [upd_ne n1]; exact upd_same, wcl T, wn_hanging T, by show 1 < 1000; decide, Nat.zero_le _, fun dl hdl => ?_⟩
    have n2 : pw ≠ dl := ne_of_none upd_same hdl
    have n3 : dh ≠ dl := ne_of_none (by rw [upd_ne n1.symm]; exact upd_same) hdl
    refine ⟨_, rfl, pw, _, dx, _, rfl, by rw [upd_ne n2]; exact upd_same, wcl T, wn_listening T, by show 2 < 1000; decide, ?_⟩
    refine ⟨_, rfl, _, rfl, pw, _, dx, _, rfl, upd_same, wcl T, wn_said T, by show 3 < 1000; decide, ?_⟩
    refine ⟨_, rfl, pw, _, dx, _, rfl, upd_same, wcl T, wn_looks T, by show 4 < 1000; decide, ?_⟩
    rw [wp_new]
    have hdh' : H dh = none := upd_back hdh
    have hdl' : H dl = none := upd_back (upd_back (upd_back hdl))
    refine k dh dl _ hdh' hdl' upd_same ?_ ?_ (((((((Frm.refl _ _).put (by simp)).new hdh').put (by simp)).new hdl').put (by simp)).put (by simp) |>.put (by simp))
    · rw [upd_ne n2.symm, upd_ne n2.symm, upd_ne n2.symm, upd_same]
    · rw [upd_ne n1.symm, upd_ne n1.symm, upd_ne n1.symm, upd_ne n3, upd_ne n1.symm, upd_same]
theorem k_Wire (T : Txt P w K mg base) : MakX CX0 P w K mg base 2 "Wire" (WC K) (spInit K) := c_init T
end
end B

set_option Elab.async false
set_option linter.all false
set_option maxRecDepth 100000
set_option maxHeartbeats 4000000
namespace B
open PySem PySem.Spec PyProof.Rows L2
open SX (S)
theorem int_dec (a b : Int) : decide (V.int a = V.int b) = decide (a = b) := by
  by_cases h : a = b
  · rw [decide_eq_true h, decide_eq_true (by rw [h])]
  · rw [decide_eq_false h, decide_eq_false (fun q => h (V.int.inj q))]
section
variable {W : Nat} {dh dl : Addr} {ms lk : Int}
theorem wx_hung : (wfl W dh dl ms lk).lookup ("hung" : Str) = none := by kernel_rfl
theorem wx_alarms : (wfl W dh dl ms lk).lookup ("alarms" : Str) = none := by kernel_rfl
theorem wx_reqh : (wfl W dh dl ms lk).lookup ("_require_hanging" : Str) = none := by kernel_rfl
theorem wx_reqr : (wfl W dh dl ms lk).lookup ("_require_round" : Str) = none := by kernel_rfl
theorem wx_hang : (wfl W dh dl ms lk).lookup ("hang" : Str) = none := by kernel_rfl
theorem wx_off : (wfl W dh dl ms lk).lookup ("off" : Str) = none := by kernel_rfl
theorem wx_alarm : (wfl W dh dl ms lk).lookup ("alarm" : Str) = none := by kernel_rfl
theorem wx_calm : (wfl W dh dl ms lk).lookup ("calm" : Str) = none := by kernel_rfl
theorem wx_begin : (wfl W dh dl ms lk).lookup ("begin" : Str) = none := by kernel_rfl
theorem wx_look : (wfl W dh dl ms lk).lookup ("look" : Str) = none := by kernel_rfl
theorem wx_say : (wfl W dh dl ms lk).lookup ("say" : Str) = none := by kernel_rfl
theorem wx_looks : (wfl W dh dl ms lk).lookup ("looks" : Str) = none := by kernel_rfl
end
theorem lisB_all (kvs : List (Str × Bool)) : lisB kvs true = kvs.map (·.1) := by
  unfold lisB
  have : kvs.filter (fun p => true || p.2) = kvs := List.filter_eq_self.mpr fun p _ => rfl
  rw [this]
theorem lisB_len (kvs : List (Str × Bool)) (b : Bool) : (lisB kvs b).length ≤ kvs.length := by
  unfold lisB
  rw [List.length_map]
  exact List.length_filter_le _ _
section
variable {P : Program} {w : World} {K : PySem.W.Frag} {mg : Str → Option Value} {base : Heap}
def spLooks (K : PySem.W.Frag) : Sp := fun vs H Q _ => ∃ (pw dh dl : Addr) (W : Nat) (kvs : List (Str × Bool)) (lw : List Str) (ms lk : Int), vs = [.ref pw] ∧ WiAt K H pw dh dl W kvs lw ms lk ∧ Q (.int lk) H
theorem m_Wire_looks (T : Txt P w K mg base) : MetX CX0 P w K mg base 1 (WC K) "looks" (spLooks K) := by
  obtain ⟨fd, F⟩ := T.t.def_ 14 (d := d_Wire_looks)
  refine ⟨_, fd, _, wcl T, He.meth_ok (T.t.fact 67 (f := .meth "Wire" "looks")), F.ok sc_Wire_looks (fun vs H Q E h => ?_) (fun cdv A outer s H vs Q E hr h => ?_), F.bindsN fun _ _ _ _ _ _ us hl => match us, hl with | [_], _ => rfl⟩
  · obtain ⟨pw, dh, dl, W, kvs, lw, ms, lk, rfl, _⟩ := h
    rfl
  · obtain ⟨pw, dh, dl, W, kvs, lw, ms, lk, rfl, ⟨⟨dx, h1⟩, h2, h3⟩, k⟩ := h
    refine ⟨_, PSs.nox (pss_one (ps_ret (pe_fld (pv 0) (by rfl)))), ?_⟩
    exact ⟨_, rfl, pw, _, dx, _, _, rfl, h1, wcl T, wn_looks T, wl_looks, k⟩
def spRound (K : PySem.W.Frag) : Sp := fun vs H Q E => ∃ (pw dh dl : Addr) (W : Nat) (kvs : List (Str × Bool)) (lw : List Str) (ms lk : Int), vs = [.ref pw] ∧ WiAt K H pw dh dl W kvs lw ms lk ∧ (ms = W → E (.ref (He.ga K "NoRound")) none H) ∧ (ms ≠ W → Q .non H)
theorem m_Wire__require_round (T : Txt P w K mg base) : MetX (L2.CX P w) P w K mg base 1 (WC K) "_require_round" (spRound K) := by
  obtain ⟨fd, F⟩ := T.t.def_ 16 (d := d_Wire__require_round)
  refine ⟨_, fd, _, wcl T, He.meth_ok (T.t.fact 69 (f := .meth "Wire" "_require_round")), F.ok sc_Wire__require_round (fun vs H Q E h => ?_) (fun cdv A outer s H vs Q E hr h => ?_), F.bindsN fun _ _ _ _ _ _ us hl => match us, hl with | [_], _ => rfl⟩
  · obtain ⟨pw, dh, dl, W, kvs, lw, ms, lk, rfl, _⟩ := h
    rfl
  · obtain ⟨pw, dh, dl, W, kvs, lw, ms, lk, rfl, ⟨⟨dx, h1⟩, h2, h3⟩, k1, k2⟩ := h
    refine ⟨_, (pss_one (ps_if (pt_cmpR op_eq (pe_fld (pv 0) (by rfl)) (pe_fld (pv 0) (by rfl)) (nomark _))
      (pss_one (ps_raise rfl (takes_of rfl rfl rfl rfl) (mk_NoRound T)))
      pss_nil)), ?_⟩
    refine ⟨_, rfl, pw, _, dx, _, _, rfl, h1, wcl T, wn_said T, wl_said, _, rfl, pw, _, dx, _, _, rfl, h1, wcl T, wn_width T, wl_width, rfl, _, rfl, ?_⟩
    rw [int_dec]
    exact iteB (fun c => k1 (of_decide_eq_true c)) (fun c => k2 (of_decide_eq_false c))
/-- all that hang, rising -/
def spHung (K : PySem.W.Frag) : Sp := fun vs H Q _ => ∃ (pw dh dl : Addr) (W : Nat) (kvs : List (Str × Bool)) (lw : List Str) (ms lk : Int), vs = [.ref pw] ∧ WiAt K H pw dh dl W kvs lw ms lk ∧ kvs.length < 64 ∧
  ∀ (ys : List Str) (p : Addr) (H' : Hp), ys.Perm (kvs.map (·.1)) → sortedS ys = true → H p = none → H' p = some (.lst (ys.map V.str)) → Frm [] H H' → Q (.ref p) H'
theorem m_Wire_hung (T : Txt P w K mg base) : MetX CX0 P w K mg base 1 (WC K) "hung" (spHung K) := by
  obtain ⟨fd, F⟩ := T.t.def_ 9 (d := d_Wire_hung)
  refine ⟨_, fd, _, wcl T, He.meth_ok (T.t.fact 62 (f := .meth "Wire" "hung")), F.ok sc_Wire_hung (fun vs H Q E h => ?_) (fun cdv A outer s H vs Q E hr h => ?_), F.bindsN fun _ _ _ _ _ _ us hl => match us, hl with | [_], _ => rfl⟩
  · obtain ⟨pw, dh, dl, W, kvs, lw, ms, lk, rfl, _⟩ := h
    rfl
  · obtain ⟨pw, dh, dl, W, kvs, lw, ms, lk, rfl, ⟨⟨dx, h1⟩, h2, h3⟩, hl, k⟩ := h
    refine ⟨_, PSs.nox (pss_one (ps_ret (pe_callB (call_sortedD rfl) (by rfl) (n_sorted T) (by decide +kernel) (pa_cons (pe_fld (pv 0) (by rfl)) pa_nil)))), ?_⟩
    exact ⟨_, rfl, pw, _, dx, _, _, rfl, h1, wcl T, wn_hanging T, wl_hanging, dh, kv kvs, kvs.map (·.1), rfl, .inl h3, keys_kv kvs, by rw [List.length_map]; exact hl, fun ys p pm srt hp => k ys p _ pm srt hp upd_same (Frm.of (same_upd hp))⟩
/-- all that have an alarm, rising -/
def spAlarms (K : PySem.W.Frag) : Sp := fun vs H Q _ => ∃ (pw dh dl : Addr) (W : Nat) (kvs : List (Str × Bool)) (lw : List Str) (ms lk : Int), vs = [.ref pw] ∧ WiAt K H pw dh dl W kvs lw ms lk ∧ kvs.length < 64 ∧ (kvs.map (·.1)).Nodup ∧
  ∀ (ys : List Str) (p : Addr) (H' : Hp), ys.Perm (lisB kvs false) → sortedS ys = true → H p = none → H' p = some (.lst (ys.map V.str)) → Frm [] H H' → Q (.ref p) H'
theorem m_Wire_alarms (T : Txt P w K mg base) : MetX CX0 P w K mg base 1 (WC K) "alarms" (spAlarms K) := by
  obtain ⟨fd, F⟩ := T.t.def_ 10 (d := d_Wire_alarms)
  refine ⟨_, fd, _, wcl T, He.meth_ok (T.t.fact 63 (f := .meth "Wire" "alarms")), F.ok sc_Wire_alarms (fun vs H Q E h => ?_) (fun cdv A outer s H vs Q E hr h => ?_), F.bindsN fun _ _ _ _ _ _ us hl => match us, hl with | [_], _ => rfl⟩
  · obtain ⟨pw, dh, dl, W, kvs, lw, ms, lk, rfl, _⟩ := h
    rfl
  · obtain ⟨pw, dh, dl, W, kvs, lw, ms, lk, rfl, wa, hl, hnd, k⟩ := h
    have npd := wa.ne
    obtain ⟨⟨dx, h1⟩, h2, h3⟩ := wa
    have hu := hu_of hr
    refine ⟨_, PSs.nox (pss_one (ps_ret (pe_callB cr_sortedS (by rfl) (n_sorted T) (by decide +kernel) (pa_cons (pe_lock (pe_lc (own := [("number", 1)]) (g := gName 1) rfl sc_Wire_alarms.nd (pi_keys (pe_fld (pv 0) (by rfl))) (blkOk_by (N := ["self", "number"]) (sc := defScope s_Wire_alarms) (own := [("number", 1)]) (by decide +kernel)) (fun _ _ _ _ _ => pg_name (i := 1) sc_Wire_alarms.nd rfl (Or.inl rfl)) (fun _ _ _ _ _ => pts_one (by exact (pt_val (pe_dget hu (pe_fldK (K := K) rfl (pv 0) (by rfl)) (pv 1) (fun _ _ => rfl))))) (fun _ _ _ _ _ => by exact (pv 1)))) pa_nil)))), ?_⟩
    refine ⟨dh, _, h3, trivial, fun od => ?_⟩
    have h1' : (upd H dh (.frz od (.dK (kv kvs)))) pw = some (.ins (WC K) dx (wfl W dh dl ms lk)) := by rw [upd_ne npd]; exact h1
    refine ⟨_, rfl, pw, _, dx, _, _, rfl, h1', wcl T, wn_hanging T, wl_hanging, dh, od, rfl, .inl ⟨_, upd_same, fun D hD => ?_⟩⟩
    have ndD : dh ≠ D := ne_of_none upd_same hD
    have npD : pw ≠ D := ne_of_none h1' hD
    refine lc_it walk_keys (fun i H' => H' = upd (upd H dh (.frz od (.dK (kv kvs)))) D (.lst ((lisB (kvs.take i) false).map V.str))) rfl (fun i H' _ e => by rw [e, upd_ne ndD, upd_same]) ?_ ?_
    · rintro i y H1 H2 hi e ⟨rfl, kk, v, hk, rfl⟩
      subst H2
      obtain ⟨x, b, hxb, rfl, rfl⟩ := kv_at hk
      have hg := get_at hnd hxb
      have hl' := lisB_len (kvs.take i) false
      rw [List.length_take] at hl'
      refine ⟨rfl, _, rfl, pw, _, dx, _, _, rfl, by rw [upd_ne npD]; exact h1', wcl T, wn_hanging T, wl_hanging, _, rfl, dh, _, rfl, dg_get (.inr ⟨od, by rw [upd_ne ndD, upd_same]⟩) hg, b, rfl, iteB (fun cb => ?_) (fun cb => ?_)⟩
      · refine ⟨_, rfl, _, upd_same, by rw [List.length_map]; exact small1000 (by omega), ?_⟩
        show _ = _
        rw [upd_upd]
        unfold lisB
        rw [filter_step _ hxb, if_pos (show (false || b) = true by rw [cb]; rfl), List.map_append, List.map_append]
        rfl
      · show _ = _
        unfold lisB
        rw [filter_step _ hxb, if_neg (show ¬ (false || b) = true by rw [cb]; exact Bool.false_ne_true), List.append_nil]
    · rintro H1 rfl
      have e : (kv kvs).length = kvs.length := by unfold kv; rw [List.length_map]
      rw [e, List.take_length]
      refine ⟨by rw [upd_ne ndD, upd_same], ?_⟩
      rw [upd_lock h3 ndD]
      have hD' : H D = none := upd_back hD
      have hl' := lisB_len kvs false
      exact ⟨D, lisB kvs false, rfl, SqL.of upd_same, by omega, fun ys p pm srt hp => k ys p _ pm srt (upd_back hp) upd_same ((Frm.of (same_upd hD')).trans (Frm.of (same_upd hp)))⟩
/-- a round begun -/
def spBegin (K : PySem.W.Frag) : Sp := fun vs H Q _ => ∃ (pw dh dl : Addr) (kind : Str) (W : Nat) (kvs : List (Str × Bool)) (lw : List Str) (ms lk : Int), vs = [.ref pw, .str kind] ∧ (kind = "all" ∨ kind = "alarm") ∧ WiAt K H pw dh dl W kvs lw ms lk ∧ kvs.length < 64 ∧ (kvs.map (·.1)).Nodup ∧
  ∀ (ys : List Str) (dl' : Addr) (H' : Hp), ys.Perm (lisB kvs (decide (kind = "all"))) → H dl' = none → WiAt K H' pw dh dl' W kvs ys 0 lk → Frm [pw] H H' → Q .non H'
theorem m_Wire_begin (T : Txt P w K mg base) : MetX CX0 P w K mg base 2 (WC K) "begin" (spBegin K) := by
  obtain ⟨fd, F⟩ := T.t.def_ 11 (d := d_Wire_begin)
  refine ⟨_, fd, _, wcl T, He.meth_ok (T.t.fact 64 (f := .meth "Wire" "begin")), F.ok sc_Wire_begin (fun vs H Q E h => ?_) (fun cdv A outer s H vs Q E hr h => ?_), F.bindsN fun _ _ _ _ _ _ us hl => match us, hl with | [_, _], _ => rfl⟩
  · obtain ⟨pw, dh, dl, kind, W, kvs, lw, ms, lk, rfl, _⟩ := h
    rfl
  · obtain ⟨pw, dh, dl, kind, W, kvs, lw, ms, lk, rfl, hk, wa, hl, hnd, k⟩ := h
    have npd := wa.ne
    have wa' := wa
    obtain ⟨⟨dx, h1⟩, h2, h3⟩ := wa
    refine ⟨_, PSs.nox (pss_cons (ps_expr (pe_cx (c_require_kind T) hr (by decide) rfl pass0 (pa_cons (pv 1) pa_nil)))
    (pss_cons (ps_fld (pv 0) (pe_ifExp (pt_cmpR op_eq (pv 1) pe_str (nomark _)) (pe_mx0 (m_Wire_hung T) hr (by decide) (pv 0) pass0) (pe_mx0 (m_Wire_alarms T) hr (by decide) (pv 0) pass0)) rfl)
    (pss_one (ps_fld (pv 0) pe_int rfl)))), ?_⟩
    refine ⟨_, rfl, kind, rfl, hk, ?_⟩
    have go : ∀ (ys : List Str) (p : Addr) (H' : Hp), ys.Perm (lisB kvs (decide (kind = "all"))) → sortedS ys = true → H p = none → H' p = some (.lst (ys.map V.str)) → Frm [] H H' →
        ∃ v, [some (V.ref pw), some (V.str kind)][0]? = some (some v) ∧ ∃ a C dx fs, v = .ref a ∧ H' a = some (.ins C dx fs) ∧ Cls K C ∧ NoAttr K C "_listening" ∧ fs.length < 1000 ∧
          tSeq (sFld K (tVar 0) (tC (.int 0)) "_many_said") tNext { nx := fun _ H' => Q .non H', rt := Q } [some (V.ref pw), some (V.str kind)] (upd H' a (.ins C dx (putF "_listening" (.ref p) fs))) := fun ys p H' pm _ hp hl' f => by
      have g1 : H' pw = some (.ins (WC K) dx (wfl W dh dl ms lk)) := f.k _ _ h1 rfl (by simp)
      have g3 : H' dh = some (.dK (kv kvs)) := f.k _ _ h3 rfl (by simp)
      have npp : pw ≠ p := ne_of_none h1 hp
      refine ⟨_, rfl, pw, _, dx, _, rfl, g1, wcl T, wn_listening T, wl_len, ?_⟩
      rw [wp_listening]
      refine ⟨_, rfl, pw, _, dx, _, rfl, upd_same, wcl T, wn_said T, wl_len, ?_⟩
      rw [wp_said]
      refine k ys p _ pm hp ⟨⟨dx, upd_same⟩, ?_, ?_⟩ (((f.mono (by simp)).put (by simp)).put (by simp))
      · rw [upd_ne npp.symm, upd_ne npp.symm]
        exact hl'
      · rw [upd_ne npd.symm, upd_ne npd.symm]
        exact g3
    refine ⟨_, rfl, rfl, _, rfl, ?_⟩
    rw [str_dec]
    refine iteB (fun c => ?_) (fun c => ?_)
    · refine ⟨_, rfl, pw, dx, _, rfl, h1, wx_hung, pw, dh, dl, W, kvs, lw, ms, lk, rfl, wa', hl, fun ys p H' pm srt hp hl' f => go ys p H' ?_ srt hp hl' f⟩
      rw [c, lisB_all]
      exact pm
    · refine ⟨_, rfl, pw, dx, _, rfl, h1, wx_alarms, pw, dh, dl, W, kvs, lw, ms, lk, rfl, wa', hl, hnd, fun ys p H' pm srt hp hl' f => go ys p H' ?_ srt hp hl' f⟩
      rw [c]
      exact pm
end
end B

set_option Elab.async false
set_option linter.all false
set_option maxRecDepth 100000
set_option maxHeartbeats 4000000
namespace B
open PySem PySem.Spec PyProof.Rows L2
open SX (S)
/-- the sign at a place -/
def sgn (n : Nat) (x : Str) : Nat := x.cps.toList.getD n 0
theorem sgn_at {n c : Nat} {x : Str} (h : x.cps.toList[n]? = some c) : sgn n x = c := by
  unfold sgn
  rw [List.getD_eq_getElem?_getD, h]
  rfl
theorem flat_sgn (n : Nat) (xs : List Str) : (xs.map fun x => V.str (S [sgn n x])).all flatV = true := by
  induction xs with
  | nil => rfl
  | cons x r ih => rw [List.map_cons, List.all_cons, ih]; rfl
theorem inV_sgn {W n d : Nat} (hn : n < W) : ∀ xs : List Str, (∀ x ∈ xs, Num W x) → inV (.str (S [d])) (xs.map fun x => V.str (S [sgn n x])) = xs.any (sg n d)
  | [], _ => rfl
  | x :: r, h => by
    have ih := inV_sgn (d := d) hn r fun y hy => h y (List.mem_cons_of_mem _ hy)
    obtain ⟨c, _, g1, _⟩ := num_at (h x List.mem_cons_self) hn
    show (eqV (.str (S [sgn n x])) (.str (S [d])) || inV (.str (S [d])) (r.map fun x => V.str (S [sgn n x]))) = (sg n d x || r.any (sg n d))
    rw [ih, sgn_at g1, sg_at g1]
    congr 1
    show (S [c] == S [d]) = decide (c = d)
    rw [SX.S_beq_eq]
    by_cases e : c = d
    · rw [decide_eq_true e, decide_eq_true (by rw [e])]
    · rw [decide_eq_false e, decide_eq_false (fun q => e (List.cons.inj q).1)]
section
variable {P : Program} {w : World} {K : PySem.W.Frag} {mg : Str → Option Value} {base : Heap}
/-- a look -/
def spLook (K : PySem.W.Frag) : Sp := fun vs H Q E => ∃ (pw dh dl : Addr) (W : Nat) (kvs : List (Str × Bool)) (lw : List Str) (ms lk : Int), vs = [.ref pw] ∧ WiAt K H pw dh dl W kvs lw ms lk ∧ W ≤ 12 ∧ 0 ≤ ms ∧ ms ≤ W ∧ (∀ x ∈ lw, Num W x) ∧ lw.length ≤ 100 ∧
  (ms = W → E (.ref (He.ga K "NoRound")) none H) ∧ (ms ≠ W → ∀ (p : Addr) (H' : Hp), H' p = some (.tup [.bl (lw.any (sg ms.toNat 48)), .bl (lw.any (sg ms.toNat 49))]) → WiAt K H' pw dh dl W kvs lw ms (lk + 1) → Frm [pw] H H' → Q (.ref p) H')
theorem m_Wire_look (T : Txt P w K mg base) : MetX (L2.CX P w) P w K mg base 2 (WC K) "look" (spLook K) := by
  obtain ⟨fd, F⟩ := T.t.def_ 12 (d := d_Wire_look)
  refine ⟨_, fd, _, wcl T, He.meth_ok (T.t.fact 65 (f := .meth "Wire" "look")), F.ok sc_Wire_look (fun vs H Q E h => ?_) (fun cdv A outer s H vs Q E hr h => ?_), F.bindsN fun _ _ _ _ _ _ us hl => match us, hl with | [_], _ => rfl⟩
  · obtain ⟨pw, dh, dl, W, kvs, lw, ms, lk, rfl, _⟩ := h
    rfl
  · obtain ⟨pw, dh, dl, W, kvs, lw, ms, lk, rfl, wa, hW, hm0, hm1, hn, hl, k1, k2⟩ := h
    have npd := wa.ne
    have wa' := wa
    obtain ⟨⟨dx, h1⟩, h2, h3⟩ := wa
    refine ⟨_, (pss_cons (ps_expr (pe_mx0 (m_Wire__require_round T) hr (by decide) (pv 0) (passes_call (takes_of rfl rfl rfl rfl) (fun _ _ _ _ h => h))))
    (pss_cons (ps_fldaug (pv 0) pe_int in_add)
    (pss_cons (ps_setLc (i := 1) (own := [("number", 2)]) (g := gName 2) rfl sc_Wire_look.nd rfl rfl (sw_true rfl rfl rfl (by decide +kernel)) (pi_list (pe_fld (pv 0) (by rfl))) (blkOk_by (N := ["self", "signs", "number"]) (sc := defScope s_Wire_look) (own := [("number", 2)]) (by decide +kernel)) (fun _ _ _ _ _ => pg_name (i := 2) sc_Wire_look.nd rfl (Or.inl rfl)) (fun _ _ _ _ _ => pts_nil) (fun _ _ _ _ _ => by exact (pe_ix ix_str (pv 2) (pe_fldK (K := K) rfl (pv 0) (by rfl)) (fun _ _ => rfl))))
    (pss_one (ps_ret (pe_tup (pa_cons (pe_cmpR op_in_seq pe_str (pv 1) rfl) (pa_cons (pe_cmpR op_in_seq pe_str (pv 1) rfl) pa_nil)))))))), ?_⟩
    refine ⟨_, rfl, pw, dx, _, rfl, h1, wx_reqr, pw, dh, dl, W, kvs, lw, ms, lk, rfl, wa', k1, fun hne => ?_⟩
    have k := k2 hne
    have hlt : ms.toNat < W := by omega
    refine ⟨_, rfl, pw, _, dx, _, _, rfl, h1, wcl T, wn_looks T, wl_looks, lk, 1, rfl, rfl, dx, _, h1, wl_len, ?_⟩
    rw [wp_looks]
    have ndl : dl ≠ pw := ne_of h2 h1 (by intro z; cases z)
    have h2' : (upd H pw (.ins (WC K) dx (wfl W dh dl ms (lk + 1)))) dl = some (.lst (lw.map V.str)) := by rw [upd_ne ndl]; exact h2
    refine ⟨_, rfl, pw, _, dx, _, _, rfl, upd_same, wcl T, wn_listening T, wl_listening, dl, rfl, ⟨_, SqL.of h2'⟩, fun D hD => ?_⟩
    have npD : pw ≠ D := ne_of_none upd_same hD
    have nlD : dl ≠ D := ne_of_none h2' hD
    refine lc_list (K := K) (a := dl) (xs := lw.map V.str) (fun i H' => H' = upd (upd H pw (.ins (WC K) dx (wfl W dh dl ms (lk + 1)))) D (.lst ((lw.take i).map fun x => V.str (S [sgn ms.toNat x])))) rfl (fun i H' _ e => by rw [e]; exact SqL.of (by rw [upd_ne nlD]; exact h2')) ?_ ?_
    · rintro i y H1 hi e
      subst e
      obtain ⟨x, hx, rfl⟩ := at_map hi
      obtain ⟨c, hc, g1, g2⟩ := num_at (hn x (List.mem_of_getElem? hx)) hlt
      rw [show ((ms.toNat : Nat) : Int) = ms by omega] at g2
      refine ⟨rfl, _, rfl, _, rfl, pw, _, dx, _, _, rfl, by rw [upd_ne npD]; exact upd_same, wcl T, wn_said T, wl_said, x, ms, c, rfl, rfl, by rw [num_len (hn x (List.mem_of_getElem? hx))]; exact size12 (by omega), g2, ?_⟩
      refine ⟨_, upd_same, by rw [List.length_map, List.length_take]; exact small1000 (by omega), ?_⟩
      show _ = _
      rw [upd_upd, take_snoc hx, List.map_append]
      have e : V.str (S [sgn ms.toNat x]) = V.str ⟨#[c]⟩ := by rw [sgn_at g1]
      rw [List.map_cons, List.map_nil, e]
    · rintro H1 rfl
      rw [List.length_map, List.take_length]
      refine ⟨_, rfl, D, _, rfl, .inl (SqL.of upd_same), rfl, flat_sgn _ _, _, rfl, D, _, rfl, .inl (SqL.of upd_same), rfl, flat_sgn _ _, by show 2 ≤ sizeLine; decide, fun p hp => ?_⟩
      have e0 := inV_sgn (d := 48) hlt lw hn
      have e1 := inV_sgn (d := 49) hlt lw hn
      rw [← zero_S] at e0
      rw [← one_S] at e1
      have hp1 : H p = none := upd_back (upd_back hp)
      have hD' : H D = none := upd_back hD
      have npp : pw ≠ p := ne_of_none h1 hp1
      have ndp : dh ≠ p := ne_of_none h3 hp1
      have nlp : dl ≠ p := ne_of_none h2 hp1
      have ndD : dh ≠ D := ne_of_none h3 hD'
      refine k p _ ?_ ⟨⟨dx, ?_⟩, ?_, ?_⟩ (((((Frm.refl _ _).put (by simp)).new hD')).new hp1)
      · rw [upd_same]
        show some (HO.tup [V.bl (if false = true then _ else inV (.str "0") _), V.bl (if false = true then _ else inV (.str "1") _)]) = _
        rw [if_neg Bool.false_ne_true, if_neg Bool.false_ne_true, e0, e1]
      · rw [upd_ne npp, upd_ne npD, upd_same]
      · rw [upd_ne nlp, upd_ne nlD]
        exact h2'
      · rw [upd_ne ndp, upd_ne ndD, upd_ne npd.symm]
        exact h3
/-- a bit said -/
def spSay (K : PySem.W.Frag) : Sp := fun vs H Q E => ∃ (pw dh dl : Addr) (bit : Int) (W : Nat) (kvs : List (Str × Bool)) (lw : List Str) (ms lk : Int), vs = [.ref pw, .int bit] ∧ (bit = 0 ∨ bit = 1) ∧ WiAt K H pw dh dl W kvs lw ms lk ∧ W ≤ 12 ∧ 0 ≤ ms ∧ ms ≤ W ∧ (∀ x ∈ lw, Num W x) ∧ lw.length ≤ 100 ∧
  (ms = W → E (.ref (He.ga K "NoRound")) none H) ∧ (ms ≠ W → ∀ (dl' : Addr) (H' : Hp), H dl' = none → WiAt K H' pw dh dl' W kvs (lw.filter (sg ms.toNat (48 + bit.toNat))) (ms + 1) lk → Frm [pw] H H' → Q .non H')
theorem m_Wire_say (T : Txt P w K mg base) : MetX (L2.CX P w) P w K mg base 2 (WC K) "say" (spSay K) := by
  obtain ⟨fd, F⟩ := T.t.def_ 13 (d := d_Wire_say)
  refine ⟨_, fd, _, wcl T, He.meth_ok (T.t.fact 66 (f := .meth "Wire" "say")), F.ok sc_Wire_say (fun vs H Q E h => ?_) (fun cdv A outer s H vs Q E hr h => ?_), F.bindsN fun _ _ _ _ _ _ us hl => match us, hl with | [_, _], _ => rfl⟩
  · obtain ⟨pw, dh, dl, bit, W, kvs, lw, ms, lk, rfl, _⟩ := h
    rfl
  · obtain ⟨pw, dh, dl, bit, W, kvs, lw, ms, lk, rfl, hbit, wa, hW, hm0, hm1, hn, hl, k1, k2⟩ := h
    have npd := wa.ne
    have wa' := wa
    obtain ⟨⟨dx, h1⟩, h2, h3⟩ := wa
    have lg : bit.natAbs.log2 < 1920 := by rcases hbit with rfl | rfl <;> decide
    refine ⟨_, (pss_cons (ps_expr (pe_mx0 (m_Wire__require_round T) hr (by decide) (pv 0) (passes_call (takes_of rfl rfl rfl rfl) (fun _ _ _ _ h => h))))
    (pss_cons (ps_if (PW.pt (pw_or (pt_val (pe_callB call_isi (by rfl) (n_isinstance T) (by decide +kernel) (pa_cons (pv 1) (pa_cons (pe_bltn (v := .ty "bool") (u := .type "bool") rfl (n_bool T) (by decide +kernel) rfl) pa_nil)))) (pw_or1 (pt_cmpR op_notIn_seq (pv 1) (pe_tup (pa_cons pe_int (pa_cons pe_int pa_nil))) rfl))))
      (pss_one ps_never)
      pss_nil)
    (pss_cons (ps_set (i := 2) sc_Wire_say.nd rfl (Or.inr rfl) (pe_callTy call_str_int (by rfl) (n_str T) (by decide +kernel) (pa_cons (pv 1) pa_nil)))
    (pss_cons (ps_fld (pv 0) (pe_lc (own := [("number", 3)]) (g := gName 3) rfl sc_Wire_say.nd (pi_list (pe_fld (pv 0) (by rfl))) (blkOk_by (N := ["self", "bit", "sign", "number"]) (sc := defScope s_Wire_say) (own := [("number", 3)]) (by decide +kernel)) (fun _ _ _ _ _ => pg_name (i := 3) sc_Wire_say.nd rfl (Or.inl rfl)) (fun _ _ _ _ _ => pts_one (by exact (pt_cmpR op_eq (pe_ix ix_str (pv 3) (pe_fldK (K := K) rfl (pv 0) (by rfl)) (fun _ _ => rfl)) (pv 2) (nomark _)))) (fun _ _ _ _ _ => by exact (pv 3))) rfl)
    (pss_one (ps_fldaug (pv 0) pe_int in_add)))))), ?_⟩
    refine ⟨_, rfl, pw, dx, _, rfl, h1, wx_reqr, pw, dh, dl, W, kvs, lw, ms, lk, rfl, wa', k1, fun hne => ?_⟩
    have k := k2 hne
    have hlt : ms.toNat < W := by omega
    refine ⟨_, rfl, .int bit, .ty "bool", .type "int", .type "bool", false, rfl, .ty "bool", .base (.int bit), kit_ty (by decide +kernel), false, rfl, ?_⟩
    refine ⟨_, rfl, by show 2 ≤ sizeLine; decide, fun t ht => ?_⟩
    have i1 : inV (.int bit) [V.int 0, V.int 1] = true := by rcases hbit with rfl | rfl <;> decide +kernel
    refine ⟨t, _, rfl, .inr (SqT.of upd_same), rfl, rfl, _, rfl, ?_⟩
    rw [i1]
    -- sign = str(bit)
    refine ⟨_, rfl, bit, rfl, lg, ?_⟩
    have npt : pw ≠ t := ne_of_none h1 ht
    have nlt : dl ≠ t := ne_of_none h2 ht
    have ndt : dh ≠ t := ne_of_none h3 ht
    have h1' : (upd H t (.tup [.int 0, .int 1])) pw = some (.ins (WC K) dx (wfl W dh dl ms lk)) := by rw [upd_ne npt]; exact h1
    have h2' : (upd H t (.tup [.int 0, .int 1])) dl = some (.lst (lw.map V.str)) := by rw [upd_ne nlt]; exact h2
    refine ⟨_, rfl, pw, _, dx, _, _, rfl, h1', wcl T, wn_listening T, wl_listening, dl, rfl, ⟨_, SqL.of h2'⟩, fun D hD => ?_⟩
    have npD : pw ≠ D := ne_of_none h1' hD
    have nlD : dl ≠ D := ne_of_none h2' hD
    have hD' : H D = none := upd_back hD
    have ndD : dh ≠ D := ne_of_none h3 hD'
    refine lc_list (K := K) (a := dl) (xs := lw.map V.str) (fun i H' => H' = upd (upd H t (.tup [.int 0, .int 1])) D (.lst (((lw.take i).filter (sg ms.toNat (48 + bit.toNat))).map V.str))) rfl (fun i H' _ e => by rw [e]; exact SqL.of (by rw [upd_ne nlD]; exact h2')) ?_ ?_
    · rintro i y H1 hi e
      subst e
      obtain ⟨x, hx, rfl⟩ := at_map hi
      have hnx := hn x (List.mem_of_getElem? hx)
      obtain ⟨c, hc, g1, g2⟩ := num_at hnx hlt
      rw [show ((ms.toNat : Nat) : Int) = ms by omega] at g2
      refine ⟨rfl, _, rfl, _, rfl, pw, _, dx, _, _, rfl, by rw [upd_ne npD]; exact h1', wcl T, wn_said T, wl_said, x, ms, c, rfl, rfl, by rw [num_len hnx]; exact size12 (by omega), g2, _, rfl, rfl, _, rfl, ?_⟩
      rw [dig_S bit hbit, sign_dec, ← sg_at g1]
      refine iteB (fun cb => ?_) (fun cb => ?_)
      · refine ⟨_, rfl, _, upd_same, ?_, ?_⟩
        · rw [List.length_map]
          have := List.length_filter_le (sg ms.toNat (48 + bit.toNat)) (lw.take i)
          rw [List.length_take] at this
          exact small1000 (by omega)
        · show _ = _
          rw [upd_upd, filter_step _ hx, if_pos cb, List.map_append]
          rfl
      · show _ = _
        rw [filter_step _ hx, if_neg (by rw [cb]; exact Bool.false_ne_true), List.append_nil]
    · rintro H1 rfl
      rw [List.length_map, List.take_length]
      have h1'' : (upd (upd H t (.tup [.int 0, .int 1])) D (.lst ((lw.filter (sg ms.toNat (48 + bit.toNat))).map V.str))) pw = some (.ins (WC K) dx (wfl W dh dl ms lk)) := by rw [upd_ne npD]; exact h1'
      refine ⟨_, rfl, pw, _, dx, _, rfl, h1'', wcl T, wn_listening T, wl_len, ?_⟩
      rw [wp_listening]
      refine ⟨_, rfl, pw, _, dx, _, _, rfl, upd_same, wcl T, wn_said T, wl_said, ms, 1, rfl, rfl, dx, _, upd_same, wl_len, ?_⟩
      rw [wp_said]
      refine k D _ hD' ⟨⟨dx, upd_same⟩, ?_, ?_⟩ ((((((Frm.refl _ _).new ht).new hD').put (by simp)).put (by simp)))
      · rw [upd_ne npD.symm, upd_ne npD.symm, upd_same]
      · rw [upd_ne npd.symm, upd_ne npd.symm, upd_ne ndD, upd_ne ndt]
        exact h3
end
end B

set_option Elab.async false
set_option linter.all false
set_option maxRecDepth 100000
set_option maxHeartbeats 4000000
namespace B
open PySem PySem.Spec PyProof.Rows L2
open SX (S)
/-- who refuses -/
def errOf (K : PySem.W.Frag) (wd : Str) : Addr := if wd = "hang" then He.ga K "There" else He.ga K "NotThere"
section
variable {P : Program} {w : World} {K : PySem.W.Frag} {mg : Str → Option Value} {base : Heap}
def spReqHang (K : PySem.W.Frag) : Sp := fun vs H Q E => ∃ (pw dh dl : Addr) (x : Str) (W : Nat) (kvs : List (Str × Bool)) (lw : List Str) (ms lk : Int), vs = [.ref pw, .str x] ∧ WiAt K H pw dh dl W kvs lw ms lk ∧ Num W x ∧ W ≤ 12 ∧ Tb K H ∧
  (hasK kvs x = false → ∀ H', FrT K [] H H' → E (.ref (He.ga K "NotThere")) none H') ∧ (hasK kvs x = true → ∀ H', FrT K [] H H' → Q .non H')
theorem m_Wire__require_hanging (T : Txt P w K mg base) : MetX (L2.CX P w) P w K mg base 3 (WC K) "_require_hanging" (spReqHang K) := by
  obtain ⟨fd, F⟩ := T.t.def_ 15 (d := d_Wire__require_hanging)
  refine ⟨_, fd, _, wcl T, He.meth_ok (T.t.fact 68 (f := .meth "Wire" "_require_hanging")), F.ok sc_Wire__require_hanging (fun vs H Q E h => ?_) (fun cdv A outer s H vs Q E hr h => ?_), F.bindsN fun _ _ _ _ _ _ us hl => match us, hl with | [_, _], _ => rfl⟩
  · obtain ⟨pw, dh, dl, x, W, kvs, lw, ms, lk, rfl, _⟩ := h
    rfl
  · obtain ⟨pw, dh, dl, x, W, kvs, lw, ms, lk, rfl, ⟨⟨dx, h1⟩, h2, h3⟩, hx, hW, ht, k1, k2⟩ := h
    have hu := hu_of hr
    refine ⟨_, (pss_cons (ps_expr (pe_cx (c_require_number T) hr (by decide) rfl pass0 (pa_cons (pe_fld (pv 0) (by rfl)) (pa_cons (pv 1) pa_nil))))
    (pss_one (ps_if (pt_cmp (pc_dnotin hu (pv 1) (pe_fld (pv 0) (by rfl))))
      (pss_one (ps_raise rfl (takes_of rfl rfl rfl rfl) (mk_NotThere T)))
      pss_nil))), ?_⟩
    refine ⟨_, rfl, pw, _, dx, _, _, rfl, h1, wcl T, wn_width T, wl_width, _, rfl, W, x, rfl, hx, hW, ht, fun H1 f => ?_⟩
    have g1 := f.k _ _ h1 rfl (by simp)
    have g3 := f.k _ _ h3 rfl (by simp)
    refine ⟨_, rfl, _, rfl, pw, _, dx, _, _, rfl, g1, wcl T, wn_hanging T, wl_hanging, dh, _, rfl, dg_has (.inl g3) x, _, rfl, ?_⟩
    rw [some_map_bl, get_has]
    refine iteB (fun c => ?_) (fun c => ?_)
    · refine k1 ?_ H1 f
      cases e : hasK kvs x with
      | false => rfl
      | true => rw [e] at c; cases c
    · refine k2 ?_ H1 f
      cases e : hasK kvs x with
      | true => rfl
      | false => rw [e] at c; cases c
/-- something becomes of a thing of a wire -/
def spWd (K : PySem.W.Frag) (wd : Str) : Sp := fun vs H Q E => ∃ (pw dh dl : Addr) (x : Str) (W : Nat) (kvs : List (Str × Bool)) (lw : List Str) (ms lk : Int), vs = [.ref pw, .str x] ∧ WiAt K H pw dh dl W kvs lw ms lk ∧ Num W x ∧ W ≤ 12 ∧ kvs.length ≤ 100 ∧ lw.length ≤ 100 ∧ Tb K H ∧
  (¬ deedW kvs wd x = "" → ∀ H', FrT K [] H H' → E (.ref (errOf K wd)) none H') ∧
  (deedW kvs wd x = "" → ∀ (dl' : Addr) (H' : Hp), (dl' = dl ∨ H dl' = none) → WiAt K H' pw dh dl' W (deedK kvs wd x) (deedL kvs lw wd x) ms lk → FrT K [pw, dh] H H' → Q .non H')
theorem m_Wire_hang (T : Txt P w K mg base) : MetX (L2.CX P w) P w K mg base 3 (WC K) "hang" (spWd K "hang") := by
  obtain ⟨fd, F⟩ := T.t.def_ 5 (d := d_Wire_hang)
  refine ⟨_, fd, _, wcl T, He.meth_ok (T.t.fact 58 (f := .meth "Wire" "hang")), F.ok sc_Wire_hang (fun vs H Q E h => ?_) (fun cdv A outer s H vs Q E hr h => ?_), F.bindsN fun _ _ _ _ _ _ us hl => match us, hl with | [_, _], _ => rfl⟩
  · obtain ⟨pw, dh, dl, x, W, kvs, lw, ms, lk, rfl, _⟩ := h
    rfl
  · obtain ⟨pw, dh, dl, x, W, kvs, lw, ms, lk, rfl, wa, hx, hW, hkl, hll, ht, k1, k2⟩ := h
    have npd := wa.ne
    obtain ⟨⟨dx, h1⟩, h2, h3⟩ := wa
    have hu := hu_of hr
    refine ⟨_, (pss_cons (ps_expr (pe_cx (c_require_number T) hr (by decide) rfl pass0 (pa_cons (pe_fld (pv 0) (by rfl)) (pa_cons (pv 1) pa_nil))))
    (pss_cons (ps_if (pt_cmp (pc_din hu (pv 1) (pe_fld (pv 0) (by rfl))))
      (pss_one (ps_raise rfl (takes_of rfl rfl rfl rfl) (mk_There T)))
      pss_nil)
    (pss_one (ps_dput hu (pe_fld (pv 0) (by rfl)) (pv 1) pe_bl rfl)))), ?_⟩
    refine ⟨_, rfl, pw, _, dx, _, _, rfl, h1, wcl T, wn_width T, wl_width, _, rfl, W, x, rfl, hx, hW, ht, fun H1 f => ?_⟩
    have g1 := f.k _ _ h1 rfl (by simp)
    have g2 := f.k _ _ h2 rfl (by simp)
    have g3 := f.k _ _ h3 rfl (by simp)
    refine ⟨_, rfl, _, rfl, pw, _, dx, _, _, rfl, g1, wcl T, wn_hanging T, wl_hanging, dh, _, rfl, dg_has (.inl g3) x, _, rfl, ?_⟩
    rw [some_map_bl, get_has]
    refine iteB (fun c => ?_) (fun c => ?_)
    · have := k1 (by unfold deedW; rw [if_pos rfl, if_pos c]; decide +kernel) H1 f
      unfold errOf at this
      rw [if_pos rfl] at this
      exact this
    · have nh : ¬ hasK kvs x = true := by rw [c]; exact Bool.false_ne_true
      refine ⟨_, rfl, pw, _, dx, _, _, rfl, g1, wcl T, wn_hanging T, wl_hanging, _, rfl, dh, _, rfl, dp_put g3 (by omega) x false, ?_⟩
      refine k2 (by unfold deedW; rw [if_pos rfl, if_neg nh]) dl _ (.inl rfl) ?_ ((f.mono (by simp)).trans (((Frm.refl [pw, dh] H1).put (by simp)).toT (.cons g1 rfl (.cons g3 rfl .nil))))
      unfold deedK deedL
      rw [if_pos rfl, if_neg nh, if_neg (fun z => absurd z.1 (by decide +kernel))]
      refine ⟨⟨dx, by rw [upd_ne npd]; exact g1⟩, by rw [upd_ne (ne_of g2 g3 (by intro z; cases z))]; exact g2, upd_same⟩
theorem m_Wire_alarm (T : Txt P w K mg base) : MetX (L2.CX P w) P w K mg base 4 (WC K) "alarm" (spWd K "alarm") := by
  obtain ⟨fd, F⟩ := T.t.def_ 7 (d := d_Wire_alarm)
  refine ⟨_, fd, _, wcl T, He.meth_ok (T.t.fact 60 (f := .meth "Wire" "alarm")), F.ok sc_Wire_alarm (fun vs H Q E h => ?_) (fun cdv A outer s H vs Q E hr h => ?_), F.bindsN fun _ _ _ _ _ _ us hl => match us, hl with | [_, _], _ => rfl⟩
  · obtain ⟨pw, dh, dl, x, W, kvs, lw, ms, lk, rfl, _⟩ := h
    rfl
  · obtain ⟨pw, dh, dl, x, W, kvs, lw, ms, lk, rfl, wa, hx, hW, hkl, hll, ht, k1, k2⟩ := h
    have npd := wa.ne
    have wa' := wa
    obtain ⟨⟨dx, h1⟩, h2, h3⟩ := wa
    have hu := hu_of hr
    have nw : ¬ ("alarm" : Str) = "hang" := by decide +kernel
    have no : ¬ ("alarm" : Str) = "off" := by decide +kernel
    refine ⟨_, (pss_cons (ps_expr (pe_mx (m_Wire__require_hanging T) hr (by decide) (pv 0) (passes_call (takes_of rfl rfl rfl rfl) (fun _ _ _ _ h => h)) (pa_cons (pv 1) pa_nil)))
    (pss_one (ps_dput hu (pe_fld (pv 0) (by rfl)) (pv 1) pe_bl rfl))), ?_⟩
    refine ⟨_, rfl, pw, dx, _, rfl, h1, wx_reqh, _, rfl, pw, dh, dl, x, W, kvs, lw, ms, lk, rfl, wa', hx, hW, ht, fun c H1 f => ?_, fun c H1 f => ?_⟩
    · have nh : ¬ hasK kvs x = true := by rw [c]; exact Bool.false_ne_true
      have := k1 (by unfold deedW; rw [if_neg nw, if_neg nh]; decide +kernel) H1 f
      unfold errOf at this
      rw [if_neg nw] at this
      exact this
    · have g1 := f.k _ _ h1 rfl (by simp)
      have g2 := f.k _ _ h2 rfl (by simp)
      have g3 := f.k _ _ h3 rfl (by simp)
      refine ⟨_, rfl, pw, _, dx, _, _, rfl, g1, wcl T, wn_hanging T, wl_hanging, _, rfl, dh, _, rfl, dp_put g3 (by omega) x true, ?_⟩
      refine k2 (by unfold deedW; rw [if_neg nw, if_pos c]) dl _ (.inl rfl) ?_ ((f.mono (by simp)).trans (((Frm.refl [pw, dh] H1).put (by simp)).toT (.cons g1 rfl (.cons g3 rfl .nil))))
      unfold deedK deedL
      rw [if_neg nw, if_pos c, if_neg no, if_neg (fun z => no z.1), decide_eq_true rfl]
      exact ⟨⟨dx, by rw [upd_ne npd]; exact g1⟩, by rw [upd_ne (ne_of g2 g3 (by intro z; cases z))]; exact g2, upd_same⟩
theorem m_Wire_calm (T : Txt P w K mg base) : MetX (L2.CX P w) P w K mg base 4 (WC K) "calm" (spWd K "calm") := by
  obtain ⟨fd, F⟩ := T.t.def_ 8 (d := d_Wire_calm)
  refine ⟨_, fd, _, wcl T, He.meth_ok (T.t.fact 61 (f := .meth "Wire" "calm")), F.ok sc_Wire_calm (fun vs H Q E h => ?_) (fun cdv A outer s H vs Q E hr h => ?_), F.bindsN fun _ _ _ _ _ _ us hl => match us, hl with | [_, _], _ => rfl⟩
  · obtain ⟨pw, dh, dl, x, W, kvs, lw, ms, lk, rfl, _⟩ := h
    rfl
  · obtain ⟨pw, dh, dl, x, W, kvs, lw, ms, lk, rfl, wa, hx, hW, hkl, hll, ht, k1, k2⟩ := h
    have npd := wa.ne
    have wa' := wa
    obtain ⟨⟨dx, h1⟩, h2, h3⟩ := wa
    have hu := hu_of hr
    have nw : ¬ ("calm" : Str) = "hang" := by decide +kernel
    have no : ¬ ("calm" : Str) = "off" := by decide +kernel
    have na : ¬ ("calm" : Str) = "alarm" := by decide +kernel
    refine ⟨_, (pss_cons (ps_expr (pe_mx (m_Wire__require_hanging T) hr (by decide) (pv 0) (passes_call (takes_of rfl rfl rfl rfl) (fun _ _ _ _ h => h)) (pa_cons (pv 1) pa_nil)))
    (pss_one (ps_dput hu (pe_fld (pv 0) (by rfl)) (pv 1) pe_bl rfl))), ?_⟩
    refine ⟨_, rfl, pw, dx, _, rfl, h1, wx_reqh, _, rfl, pw, dh, dl, x, W, kvs, lw, ms, lk, rfl, wa', hx, hW, ht, fun c H1 f => ?_, fun c H1 f => ?_⟩
    · have nh : ¬ hasK kvs x = true := by rw [c]; exact Bool.false_ne_true
      have := k1 (by unfold deedW; rw [if_neg nw, if_neg nh]; decide +kernel) H1 f
      unfold errOf at this
      rw [if_neg nw] at this
      exact this
    · have g1 := f.k _ _ h1 rfl (by simp)
      have g2 := f.k _ _ h2 rfl (by simp)
      have g3 := f.k _ _ h3 rfl (by simp)
      refine ⟨_, rfl, pw, _, dx, _, _, rfl, g1, wcl T, wn_hanging T, wl_hanging, _, rfl, dh, _, rfl, dp_put g3 (by omega) x false, ?_⟩
      refine k2 (by unfold deedW; rw [if_neg nw, if_pos c]) dl _ (.inl rfl) ?_ ((f.mono (by simp)).trans (((Frm.refl [pw, dh] H1).put (by simp)).toT (.cons g1 rfl (.cons g3 rfl .nil))))
      unfold deedK deedL
      rw [if_neg nw, if_pos c, if_neg no, if_neg (fun z => no z.1), decide_eq_false na]
      exact ⟨⟨dx, by rw [upd_ne npd]; exact g1⟩, by rw [upd_ne (ne_of g2 g3 (by intro z; cases z))]; exact g2, upd_same⟩
theorem m_Wire_off (T : Txt P w K mg base) : MetX (L2.CX P w) P w K mg base 4 (WC K) "off" (spWd K "off") := by
  obtain ⟨fd, F⟩ := T.t.def_ 6 (d := d_Wire_off)
  refine ⟨_, fd, _, wcl T, He.meth_ok (T.t.fact 59 (f := .meth "Wire" "off")), F.ok sc_Wire_off (fun vs H Q E h => ?_) (fun cdv A outer s H vs Q E hr h => ?_), F.bindsN fun _ _ _ _ _ _ us hl => match us, hl with | [_, _], _ => rfl⟩
  · obtain ⟨pw, dh, dl, x, W, kvs, lw, ms, lk, rfl, _⟩ := h
    rfl
  · obtain ⟨pw, dh, dl, x, W, kvs, lw, ms, lk, rfl, wa, hx, hW, hkl, hll, ht, k1, k2⟩ := h
    have npd := wa.ne
    have wa' := wa
    obtain ⟨⟨dx, h1⟩, h2, h3⟩ := wa
    have hu := hu_of hr
    have nw : ¬ ("off" : Str) = "hang" := by decide +kernel
    refine ⟨_, (pss_cons (ps_expr (pe_mx (m_Wire__require_hanging T) hr (by decide) (pv 0) (passes_call (takes_of rfl rfl rfl rfl) (fun _ _ _ _ h => h)) (pa_cons (pv 1) pa_nil)))
    (pss_cons (ps_ddel (pe_fld (pv 0) (by rfl)) (pv 1))
    (pss_one (ps_fld (pv 0) (pe_lc (own := [("other", 2)]) (g := gName 2) rfl sc_Wire_off.nd (pi_list (pe_fld (pv 0) (by rfl))) (blkOk_by (N := ["self", "number", "other"]) (sc := defScope s_Wire_off) (own := [("other", 2)]) (by decide +kernel)) (fun _ _ _ _ _ => pg_name (i := 2) sc_Wire_off.nd rfl (Or.inl rfl)) (fun _ _ _ _ _ => pts_one (by exact (pt_cmpR op_ne (pv 2) (pv 1) (nomark _)))) (fun _ _ _ _ _ => by exact (pv 2))) rfl)))), ?_⟩
    refine ⟨_, rfl, pw, dx, _, rfl, h1, wx_reqh, _, rfl, pw, dh, dl, x, W, kvs, lw, ms, lk, rfl, wa', hx, hW, ht, fun c H1 f => ?_, fun c H1 f => ?_⟩
    · have nh : ¬ hasK kvs x = true := by rw [c]; exact Bool.false_ne_true
      have := k1 (by unfold deedW; rw [if_neg nw, if_neg nh]; decide +kernel) H1 f
      unfold errOf at this
      rw [if_neg nw] at this
      exact this
    · have g1 := f.k _ _ h1 rfl (by simp)
      have g2 := f.k _ _ h2 rfl (by simp)
      have g3 := f.k _ _ h3 rfl (by simp)
      obtain ⟨b, hb⟩ := has_get c
      have ev : (valV (kv kvs) (.inr x : Key)).isSome = true := by rw [val_kv, hb]; rfl
      refine ⟨_, rfl, pw, _, dx, _, _, rfl, g1, wcl T, wn_hanging T, wl_hanging, _, rfl, dh, kv kvs, .inr x, rfl, g3, rfl, ev, ?_⟩
      rw [drop_kv]
      have nld : dl ≠ dh := ne_of g2 g3 (by intro z; cases z)
      have g1' : (upd H1 dh (.dK (kv (dropB kvs x)))) pw = some (.ins (WC K) dx (wfl W dh dl ms lk)) := by rw [upd_ne npd]; exact g1
      have g2' : (upd H1 dh (.dK (kv (dropB kvs x)))) dl = some (.lst (lw.map V.str)) := by rw [upd_ne nld]; exact g2
      refine ⟨_, rfl, pw, _, dx, _, _, rfl, g1', wcl T, wn_listening T, wl_listening, dl, rfl, ⟨_, SqL.of g2'⟩, fun D hD => ?_⟩
      have npD : pw ≠ D := ne_of_none g1' hD
      have nlD : dl ≠ D := ne_of_none g2' hD
      have ndD : dh ≠ D := ne_of_none upd_same hD
      refine lc_list (K := K) (a := dl) (xs := lw.map V.str) (fun i H' => H' = upd (upd H1 dh (.dK (kv (dropB kvs x)))) D (.lst (((lw.take i).filter (fun y => decide (y ≠ x))).map V.str))) rfl (fun i H' _ e => by rw [e]; exact SqL.of (by rw [upd_ne nlD]; exact g2')) ?_ ?_
      · rintro i y H3 hi e
        subst e
        obtain ⟨z, hz, rfl⟩ := at_map hi
        refine ⟨rfl, _, rfl, _, rfl, rfl, _, rfl, ?_⟩
        rw [str_dec]
        have e1 : (!decide (z = x)) = decide (z ≠ x) := by
          by_cases q : z = x
          · rw [decide_eq_true q, decide_eq_false (fun n => n q)]; rfl
          · rw [decide_eq_false q, decide_eq_true q]; rfl
        rw [e1]
        refine iteB (fun cb => ?_) (fun cb => ?_)
        · refine ⟨_, rfl, _, upd_same, ?_, ?_⟩
          · rw [List.length_map]
            have := List.length_filter_le (fun y => decide (y ≠ x)) (lw.take i)
            rw [List.length_take] at this
            exact small1000 (by omega)
          · show _ = _
            rw [upd_upd, filter_step _ hz, if_pos cb, List.map_append]
            rfl
        · show _ = _
          rw [filter_step _ hz, if_neg (by rw [cb]; exact Bool.false_ne_true), List.append_nil]
      · rintro H3 rfl
        rw [List.length_map, List.take_length]
        refine ⟨_, rfl, pw, _, dx, _, rfl, by rw [upd_ne npD]; exact g1', wcl T, wn_listening T, wl_len, ?_⟩
        rw [wp_listening]
        have hD' : H1 D = none := upd_back hD
        refine k2 (by unfold deedW; rw [if_neg nw, if_pos c]) D _ (.inr (f.b _ hD')) ?_ ((f.mono (by simp)).trans (((((Frm.refl [pw, dh] H1).put (by simp)).new hD').put (by simp)).toT (.cons g1 rfl (.cons g3 rfl .nil))))
        unfold deedK deedL
        rw [if_neg nw, if_pos c, if_pos rfl, if_pos ⟨rfl, c⟩]
        exact ⟨⟨dx, upd_same⟩, by rw [upd_ne npD.symm, upd_same], by rw [upd_ne npd.symm, upd_ne ndD, upd_same]⟩
end
end B

set_option Elab.async false
set_option linter.all false
set_option maxRecDepth 100000
set_option maxHeartbeats 4000000
namespace B
open PySem PySem.Spec PyProof.Rows L2
open PySem.W (kdv_obj kdv_fn kdv_tup)
/-! ### a lambda, all of whose parameters have written defaults, handed to a def -/
/-- what a lambda's making leaves: fr: all but the maker's table stands; ob: its function object; ext: the tuple of defaults -/
structure Made (X : Cx) (P : Addr) (q : Str) (params : Arguments) (body : Expr) (scope : Scope) (dV : Value) (ext : List (Addr × Obj)) (H H1 : Hp) (s1 : Shared) (f c1 : Addr) : Prop where
  fr : ∀ b o, H b = some o → b ≠ P → H1 b = some o
  bk : ∀ b, H1 b = none → H b = none
  tb : LamX.TabS H1 P q
  ob : ∃ doc pm ctv, s1.heap.get? f = some (kdv_obj "<lambda>" q params (.expr body) scope (cloFrom X.env.cells scope.names []) dV doc pm c1 ctv)
  fn : H1 f = none
  ff : f ∉ frs X.stack
  co : H1 c1 = some (LamX.CodeO c1 q)
  ex : ∀ p ∈ ext, s1.heap.get? p.1 = some p.2 ∧ H1 p.1 = none ∧ p.1 ∉ frs X.stack
section
variable {X : Cx} {pins : List (Addr × Obj)} {σ : L2.St} {H : Hp} {s : Shared}
theorem no_frame (I : Inv X pins σ H s) {b : Addr} (hb : s.heap.objs.size ≤ b) : b ∉ frs X.stack := fun z => by
  rcases List.mem_cons.mp (I.stkSub b z) with e | e
  · subst e
    exact absurd I.lt (Nat.not_lt.mpr hb)
  · exact I.nofs hb e
theorem made_tail {q : Str} {params : Arguments} {body : Expr} {scope : Scope} {pos : Pos} {c P : Addr} {dV : Value} {ext : List (Addr × Obj)} {E : Value → Shared → Prop} {Q : Value → Shared → Prop} (I : Inv X pins σ H s) (TB : LamX.TabB X.base X.mg c P) (hcode : X.env.code = .ref c)
    (hT : LamX.TabS H P q) (hfree : ∀ y ∈ scope.names, y.2 = .free → ∃ c, X.env.cells.lookup y.1 = some c) (hext : ∀ p ∈ ext, s.heap.get? p.1 = some p.2 ∧ H p.1 = none ∧ p.1 ∉ frs X.stack)
    (h : ∀ f c1 H1 s1, Inv X pins σ H1 s1 → Made X P q params body scope dV ext H H1 s1 f c1 → Q (.ref f) s1) :
    wpAny (model X.prog X.w) X.A (PySem.makeTail "<lambda>" q params (.expr body) scope X.env dV .none none pos pos.line) Q E s := by
  obtain ⟨ps, hP, trip, among⟩ := hT
  have heapP : s.heap.get? P = some { cls := .none, data := .fields ps } := I.hok P _ hP
  have glob : s.heap.Ns mainGlobals X.mg := I.mod.glob.keeps I.bk
  have bat : s.heap.BuiltinsAt X.mg P := TB.bm.keeps I.bk
  have hd : PySem.W.CodeHd s.heap c P := TB.code.keeps I.bk
  cases found : codeAmong pos ps.toList with
  | none =>
    refine PySem.W.kdv_makeTail (closure_ok hfree) I.ok.glob glob hcode hd heapP trip found TB.gP bat ?_
    intro c1 ctv doc h1 tk but ge lt rec_ tab
    obtain ⟨c2, oc, vs, t, eq2, got, dat, nth⟩ := rec_
    injection eq2 with eq2
    subst eq2
    have grow : s.heap.objs.size ≤ h1.objs.size := Nat.le_trans ge (Nat.le_of_lt lt)
    have freeC : H c1 = none := I.hok.fresh ge
    have neP : P ≠ c1 := ne_of_none hP freeC
    have old : ∀ b o, b ≠ P → s.heap.get? b = some o → (h1.push (kdv_obj "<lambda>" q params (.expr body) scope (cloFrom X.env.cells scope.names []) dV doc ((X.mg "__name__").getD .none) c1 ctv)).get? b = some o :=
      fun b o nb e => Heap.get?_push_of_some _ (but b o nb e)
    have I1 := LamX.inv_table (t' := tk) (more := #[rawInt pos.line, rawInt pos.col, .ref c1]) (q := q) I hP old (Heap.get?_push_of_some _ tab) ge ⟨oc, vs, t, Heap.get?_push_of_some _ got, dat, nth⟩
    have extP : ∀ p ∈ ext, p.1 ≠ P := fun p hp e => by
      have := (hext p hp).2.1
      rw [e, hP] at this
      cases this
    refine h h1.objs.size c1 _ _ I1 ⟨fun b o e nb => ?_, fun b e => upd_back (upd_back e), ⟨ps ++ #[rawInt pos.line, rawInt pos.col, .ref c1], ?_, ?_, fun pos2 cv hcv => ?_⟩, ⟨doc, _, ctv, Heap.get?_push_size _ rfl⟩, ?_, no_frame I grow, upd_same, fun p hp => ⟨old _ _ (extP p hp) (hext p hp).1, ?_, (hext p hp).2.2⟩⟩
    · rw [upd_ne (ne_of_none e freeC), upd_ne nb]
      exact e
    · rw [upd_ne neP, upd_same]
    · have e : (ps ++ #[rawInt pos.line, rawInt pos.col, .ref c1]).toList = ps.toList ++ [rawInt pos.line, rawInt pos.col, .ref c1] := by simp
      rw [e]
      exact PySem.TriplesOk_snoc _ _ _ _ trip
    · have e : (ps ++ #[rawInt pos.line, rawInt pos.col, .ref c1]).toList = ps.toList ++ [rawInt pos.line, rawInt pos.col, .ref c1] := by simp
      rw [e] at hcv
      rcases LamX.among_app _ trip hcv with z | z
      · obtain ⟨c0, e0, w0⟩ := among pos2 cv z
        refine ⟨c0, e0, ?_⟩
        rw [upd_ne (ne_of_none w0 freeC), upd_ne (fun y => ?_)]
        · exact w0
        · rw [y, hP] at w0
          exact LamX.codeO_ne ps (Option.some.inj w0).symm
      · exact ⟨c1, z, upd_same⟩
    · have n1 : h1.objs.size ≠ c1 := Nat.ne_of_gt lt
      have n2 : h1.objs.size ≠ P := Nat.ne_of_gt (Nat.lt_of_lt_of_le (Heap.lt_size heapP) grow)
      rw [upd_ne n1, upd_ne n2]
      exact I.hok.fresh grow
    · have n1 : p.1 ≠ c1 := Nat.ne_of_lt (Nat.lt_of_lt_of_le (Heap.lt_size (hext p hp).1) ge)
      rw [upd_ne n1, upd_ne (extP p hp)]
      exact (hext p hp).2.1
  | some cv =>
    obtain ⟨c1, e1, w1⟩ := among pos cv found
    subst e1
    refine PySem.W.kdv_makeTailHit (closure_ok hfree) I.ok.glob glob hcode hd heapP trip found bat ?_
    intro ctv doc h1 tk keep grow
    have I1 : Inv X pins σ H { s with heap := h1.push (kdv_obj "<lambda>" q params (.expr body) scope (cloFrom X.env.cells scope.names []) dV doc ((X.mg "__name__").getD .none) c1 ctv), toks := tk } :=
      I.kept fun b o e => Heap.get?_push_of_some _ (keep b o e)
    exact h h1.objs.size c1 H _ I1 ⟨fun b o e _ => e, fun b e => e, ⟨ps, hP, trip, among⟩, ⟨doc, _, ctv, Heap.get?_push_size _ rfl⟩, I.hok.fresh grow, no_frame I grow, w1,
      fun p hp => ⟨Heap.get?_push_of_some _ (keep _ _ (hext p hp).1), (hext p hp).2⟩⟩
/-- lambda: .. -/
theorem made0 {params : Arguments} {body : Expr} {scope : Scope} {pos : Pos} {c P : Addr} {E : Value → Shared → Prop} {Q : Value → Shared → Prop} (I : Inv X pins σ H s) (TB : LamX.TabB X.base X.mg c P) (hcode : X.env.code = .ref c)
    (hT : LamX.TabS H P (X.env.qual ++ "<lambda>")) (hfree : ∀ y ∈ scope.names, y.2 = .free → ∃ c, X.env.cells.lookup y.1 = some c) (h0 : params.defaults = []) (h1 : params.kw_defaults = [])
    (h : ∀ f c1 H1 s1, Inv X pins σ H1 s1 → Made X P (X.env.qual ++ "<lambda>") params body scope .none [] H H1 s1 f c1 → Q (.ref f) s1) :
    wpAny (model X.prog X.w) X.A (eval (.Lambda params body scope pos) X.env) Q E s := by
  have e : defaultsOf params X.env = ([], []) := by
    rw [defaultsOf_eq, h0, h1]
    rfl
  refine PySem.W.kla_eval e ?_
  rw [makeFunction_eq]
  simp only [List.zip_nil_right, List.filterMap_nil, List.isEmpty_nil, if_true, pure_bind]
  exact made_tail I TB hcode hT hfree (fun _ hp => absurd hp (by simp)) h
/-- lambda x=i: .. -/
theorem made1 {params : Arguments} {body : Expr} {scope : Scope} {pos dp : Pos} {i : Int} {j : Nat} {c P : Addr} {E : Value → Shared → Prop} {Q : Value → Shared → Prop} (I : Inv X pins σ H s) (TB : LamX.TabB X.base X.mg c P) (hcode : X.env.code = .ref c)
    (hT : LamX.TabS H P (X.env.qual ++ "<lambda>")) (hfree : ∀ y ∈ scope.names, y.2 = .free → ∃ c, X.env.cells.lookup y.1 = some c) (h0 : params.defaults = [.Constant (.int i) j dp]) (h1 : params.kw_defaults = [])
    (h : ∀ f c1 t0 tk H1 s1, Inv X pins σ H1 s1 → Made X P (X.env.qual ++ "<lambda>") params body scope (.ref t0) [(t0, kdv_tup [.int i tk])] H H1 s1 f c1 → Q (.ref f) s1) :
    wpAny (model X.prog X.w) X.A (eval (.Lambda params body scope pos) X.env) Q E s := by
  refine PySem.W.kdv_lam (by rw [h0]; rfl) h1 ?_
  rw [h0]
  refine PySem.W.kdv_all1 (wpAny_Constant_int (PySem.W.kdv_all0 ?_))
  rw [makeFunction_eq]
  simp only [List.zip_nil_right, List.filterMap_nil, List.isEmpty_nil, List.isEmpty_cons, if_true, pure_bind, Bool.false_eq_true, if_false]
  refine wpAny_bind (wpAny_newTextTuple ?_)
  have I1 := I.tok (s.toks + 1)
  have big : s.heap.objs.size ≤ s.heap.objs.size := Nat.le_refl _
  have I2 : Inv X pins σ H { s with heap := s.heap.push (kdv_tup [.int i s.toks]), toks := s.toks + 1 } := I.kept fun b o e => Heap.get?_push_of_some _ e
  refine made_tail I2 TB hcode hT hfree (ext := [(s.heap.objs.size, kdv_tup [.int i s.toks])]) (fun p hp => ?_) fun f c1 H1 s1 J M => h f c1 _ _ H1 s1 J M
  rw [List.mem_singleton.mp hp]
  exact ⟨Heap.get?_push_size _ rfl, I.hok.fresh big, no_frame I big⟩
end
end B

set_option Elab.async false
set_option linter.all false
set_option maxRecDepth 100000
set_option maxHeartbeats 4000000
namespace B
open PySem PySem.Spec PyProof.Rows L2
open PySem.W (kdv_obj kdv_fn kdv_tup)
/-- the lambda's names: none a cell; its own ones are none of the maker's -/
structure LamP (N : List Str) (sc scope : Scope) : Prop where
  kind : scope.kind = .function
  co : scope.isCoroutine = false
  gen : scope.isGenerator = false
  cell : ∀ y ∈ scope.names, y.2 ≠ .cell
  own : ∀ y ∈ scope.names, y.2 = .local → y.1 ∉ N
  free : ∀ y ∈ scope.names, y.2 = .free → sc.names.lookup y.1 = some .cell ∨ sc.names.lookup y.1 = some .free
def lamPB (N : List Str) (sc scope : Scope) : Bool :=
  (match scope.kind with | .function => true | _ => false) && (!scope.isCoroutine && (!scope.isGenerator && scope.names.all fun y => match y.2 with
    | .cell => false
    | .local => decide (y.1 ∉ N)
    | .free => (match sc.names.lookup y.1 with | some .cell => true | some .free => true | _ => false)
    | _ => true))
theorem lamP_by {N : List Str} {sc scope : Scope} (h : lamPB N sc scope = true) : LamP N sc scope := by
  obtain ⟨h1, h⟩ := He.ba h
  obtain ⟨h2, h⟩ := He.ba h
  obtain ⟨h3, h4⟩ := He.ba h
  have q := List.all_eq_true.mp h4
  refine ⟨?_, by simpa using h2, by simpa using h3, fun y hy e => ?_, fun y hy e => ?_, fun y hy e => ?_⟩
  · split at h1
    · assumption
    · cases h1
  · have := q y hy
    rw [e] at this
    cases this
  · have := q y hy
    rw [e] at this
    exact of_decide_eq_true this
  · have := q y hy
    rw [e] at this
    dsimp only at this
    split at this
    · exact .inl (by assumption)
    · exact .inr (by assumption)
    · cases this
section
variable {X : Cx} {pins : List (Addr × Obj)} {σ : L2.St} {H HZ : Hp} {s s2 : Shared}
theorem LamP.has {scope : Scope} (L : LamP X.N X.env.scope scope) (ok : X.Ok) : ∀ y ∈ scope.names, y.2 = .free → ∃ c, X.env.cells.lookup y.1 = some c := fun y hy e =>
  (L.free y hy e).elim (fun z => ok.has _ (.inl z)) (fun z => ok.has _ (.inr z))
theorem lam_enter {A : Around} {outer : List Env} {E : XK} {scope : Scope} {f c1 : Addr} {h2 : Heap} {tk : Nat} {m : Str → Option Value} (I : Inv X pins σ H s) (L : LamP X.N X.env.scope scope) (e0 : Env0 X.prog X.w X.K X.mg X.base A outer s2 HZ) (calm : A.handled = none)
    (un : Un (frs X.stack) [] H HZ s.heap s2.heap) (ns : h2.Ns s2.heap.objs.size m) (kp : ∀ b o, s2.heap.get? b = some o → h2.get? b = some o) :
    Inv (LamX.lamCx X A outer s2 HZ E scope f c1) [] σ HZ { s2 with heap := h2, toks := tk } := by
  have hfree := L.has I.ok
  -- a cell of the lambda is the maker's
  have up : ∀ {y : Str} {c : Addr}, (cloFrom X.env.cells scope.names []).lookup y = some c → X.env.cells.lookup y = some c := by
    intro y c e
    rcases cloFrom_mem (PySem.mem_of_lookup e) with z | ⟨z1, z2⟩
    · exact absurd z (by simp)
    · obtain ⟨d, hd⟩ := hfree _ z1 rfl
      have hd' : X.env.cells.lookup y = some d := hd
      rw [hd'] at z2
      have z3 : c = d := z2
      rw [z3]
      exact hd'
  have down : ∀ {y : Str}, scope.names.lookup y = some .free → ∃ c, (cloFrom X.env.cells scope.names []).lookup y = some c := by
    intro y e
    have mem : (y, NameKind.free) ∈ scope.names := PySem.mem_of_lookup e
    exact mem_lookup (cloFrom_has (cells := X.env.cells) (acc := []) mem)
  have noEx : ∀ b : Addr, b ∉ (LamX.lamCx X A outer s2 HZ E scope f c1).ex := fun b z => absurd (show b ∈ ([] : List Addr) from z) (by simp)
  have cellUp : ∀ {c : Addr} {v : Option Value}, H c = none → s.heap.IsCell c v → h2.IsCell c v := by
    rintro c v n ⟨o, ho, hd⟩
    obtain ⟨sl, e⟩ := un.any ho n (by simp)
    exact ⟨_, kp _ _ e, hd⟩
  have okI : (LamX.lamCx X A outer s2 HZ E scope f c1).Ok := by
    refine ⟨e0.mod, L.kind, rfl, rfl, Nat.le_refl _, fun y z c e1 e2 => I.ok.inj y z c (up e1) (up e2), ?_, ?_, fun _ => calm, Around.frames_deeper e0.frames, .inr ⟨rfl, rfl⟩, fun b z => absurd z (noEx b), e0.bs, e0.bsz, fun b _ _ => noEx b, fun b z => absurd z (noEx b), e0.funs, e0.frf⟩
    · intro y hy
      have hy2 : scope.names.lookup y = some .cell ∨ scope.names.lookup y = some .free := hy
      rcases hy2 with z | z
      · exact absurd rfl (L.cell _ (PySem.mem_of_lookup z))
      · exact down z
    · intro y c z
      exact absurd (show false = true from z) Bool.false_ne_true
  refine ⟨okI, rfl, e0.bare, Un.kept kp, ⟨m, ns, ?_⟩, ?_, e0.hok.fresh (Nat.le_refl _), ?_, fun p hp => absurd (show p ∈ ([] : List (Addr × Obj)) ++ [] from hp) (by simp), e0.hok.kept kp, I.len⟩
  · intro i y v hN hσ hV
    have hV2 : Vis scope y := hV
    rcases hV2 with z | z | z
    · exact absurd (List.mem_of_getElem? hN) (L.own _ (PySem.mem_of_lookup z) rfl)
    · exact absurd rfl (L.cell _ (PySem.mem_of_lookup z))
    · obtain ⟨m0, _, look⟩ := I.loc
      have fr := L.free _ (PySem.mem_of_lookup z) rfl
      have vis : Vis X.env.scope y := fr.elim (fun q => .inr (.inl q)) (fun q => .inr (.inr q))
      obtain ⟨u, ru, lk⟩ := look i y v hN hσ vis
      obtain ⟨c2, hc2⟩ := down z
      refine ⟨u, ru, .inr ⟨.inr z, c2, hc2, ?_⟩⟩
      have hc3 := up hc2
      rcases lk with ⟨q, _⟩ | ⟨_, c3, hc4, isC⟩
      · have q2 : X.env.scope.names.lookup y = some .local := q
        rcases fr with q3 | q3
        · have q3' : X.env.scope.names.lookup y = some .cell := q3
          rw [q3'] at q2
          cases q2
        · have q3' : X.env.scope.names.lookup y = some .free := q3
          rw [q3'] at q2
          cases q2
      · rw [hc3] at hc4
        cases hc4
        exact cellUp (I.freeC y _ hc3) isC
  · intro y c e
    obtain ⟨v, isC⟩ := I.cell y c (up e)
    exact ⟨v, cellUp (I.freeC y c (up e)) isC⟩
  · intro y c e
    obtain ⟨v, o, ho, _⟩ := I.cell y c (up e)
    exact un.free c o ho (I.freeC y c (up e)) (by simp)
/-- a(), a the parameter of the def at g that got the lambda -/
theorem pe_turn {CXg : CXT} {Eg : XK} {Ng : List Str} {qg : Str} {sg : Scope} {g f c1 P : Addr} {cdg dV : Value} {params : Arguments} {body : Expr} {scope : Scope} {k i : Nat} {a : Str} {pn : List (Addr × Obj)} {xe : Value → Shared → Prop} {W : WX} {tb : XK → TE} {p1 p2 : Pos} {ext : List (Addr × Obj)} {binds : List (Str × Value)} {H0 : Hp}
    (I : Inv X pins σ H s) (L : LamP X.N X.env.scope scope) (M : Made X P (X.env.qual ++ "<lambda>") params body scope dV ext H0 H s f c1)
    (bnd : ∀ (s' : Shared) (cl : List (Str × Addr)) (doc pm cv ctv : Value), (∀ p ∈ ext, s'.heap.get? p.1 = some p.2) → BindsTo s' (kdv_fn "<lambda>" (X.env.qual ++ "<lambda>") params (.expr body) scope cl dV doc pm cv ctv) ⟨[], []⟩ binds)
    (loc : ∀ y ∈ binds, scope.names.lookup y.1 = some .local)
    (tk : Takes ((cxOf CXg X.prog X.w X.K X.mg X.base Ng qg sg g cdg X.A X.stack s H Eg).tr pn xe) W) (hr : Room (k + 1) (X.A.deeper (envOfC qg sg s.heap.objs.size g cdg)))
    (hbody : ∀ (A : Around) (outer : List Env) (s : Shared) (H : Hp) (E : XK), Room k (A.deeper (LamX.lamEnv X scope s.heap.objs.size f c1)) → PE (LamX.lamCx X A outer s H E scope f c1) body (tb E))
    (hN : Ng[i]? = some a) (hv : Vis sg a) (hd : (a == ("__debug__" : Str)) = false := by decide) (hcd : (a == ("__classdict__" : Str)) = false := by decide) :
    PE ((cxOf CXg X.prog X.w X.K X.mg X.base Ng qg sg g cdg X.A X.stack s H Eg).tr pn xe) (.Call (.Name a p1) [] [] p2)
      (fun σZ HZ Q => σZ[i]? = some (some (.ref f)) ∧ HZ c1 = some (LamX.CodeO c1 (X.env.qual ++ "<lambda>")) ∧ ∃ E : XK, (∀ cls d H', E cls d H' → W cls d σZ H') ∧ tb E σ HZ Q) := by
  refine ⟨fun pinsZ sZ σZ HZ Q IZ h => ?_⟩
  obtain ⟨at_, code, E, hW, rd⟩ := h
  have name := (pe_var (X := (cxOf CXg X.prog X.w X.K X.mg X.base Ng qg sg g cdg X.A X.stack s H Eg).tr pn xe) (pos := p1) (i := i) hN hv hd hcd).run pinsZ sZ σZ HZ (fun v H1 => v = .ref f ∧ H1 = HZ) IZ ⟨.ref f, at_, rfl, rfl⟩
  refine wpAny_Call_Name_kw (thn name fun u s1 hu => ?_)
  obtain ⟨v, H1, I1, r1, ev, eH⟩ := hu
  subst ev
  rw [eH] at I1
  have eu : u = Value.ref f := r1
  subst eu
  obtain ⟨doc, pm, ctv, ob⟩ := M.ob
  have un : Un (frs X.stack) [] H HZ s.heap s1.heap := I1.base
  have ob1 := un.keep f _ ob M.fn M.ff (by simp)
  refine PySem.W.callWith_F0 ⟨_, _, _, _, ob1⟩ ?_
  obtain ⟨⟨oc, vs, t, got, dat, nth⟩, _, _⟩ := I1.hok c1 _ code
  have inner : codeAny (model X.prog X.w) (X.A.deeper (envOfC qg sg s.heap.objs.size g cdg)) (.call (.ref f) ⟨[], []⟩) (CR (L2.CX X.prog X.w) (envOfC qg sg s.heap.objs.size g cdg :: X.stack) X.prog X.w HZ s1 Q E) s1 := by
    refine PySem.W.kla_callFunE hr.depth ob1 rfl L.co L.gen rfl ⟨c1, oc, vs, t, rfl, got, dat, nth⟩ ?_
    refine bnd s1 _ doc pm _ ctv (fun p hp => un.keep p.1 p.2 (M.ex p hp).1 (M.ex p hp).2.1 (M.ex p hp).2.2 (by simp)) _ _ _ _ ?_
    refine wpAny_newFunctionEnv L.cell loc ?_ L.kind
    intro h2 ns but
    refine ⟨I1.nolimit.fresh _ but, ?_⟩
    have kp : ∀ b o, s1.heap.get? b = some o → h2.get? b = some o := fun b o e => but.extBut b o (Nat.ne_of_lt (Heap.lt_size e)) (Heap.get?_push_of_some _ e)
    have J := lam_enter (E := E) (f := f) (c1 := c1) (tk := s1.toks + binds.length) I L I1.env0 hr.hd un ns kp
    show codeAny _ _ (.expr body (LamX.lamEnv X scope s1.heap.objs.size f c1)) _ _
    refine PySem.W.kla_codeExpr (wpAny_mono ((hbody _ _ s1 HZ E (hr.deeper _)).run [] _ _ HZ Q J rd) ?_ fun e s' z => z)
    rintro v s' ⟨w', H', J', rv, q⟩
    exact ⟨w', H', J'.os, J'.bare, J'.base, J'.hok, rv, q⟩
  refine wpAny_call (codeAny_mono inner ?_)
  intro r s' hq
  match r, hq with
  | .error e, hq => exact tk e s' (XE.of_call I1 (fun cls d H' z => hW cls d H' z) hq)
  | .ok (.ret u), hq => exact I1.after hq
  | .ok .next, hq => exact False.elim hq
  | .ok .brk, hq => exact False.elim hq
  | .ok .cont, hq => exact False.elim hq
end
end B

set_option Elab.async false
set_option linter.all false
set_option maxRecDepth 100000
set_option maxHeartbeats 4000000
namespace B
open PySem PySem.Spec PyProof.Rows L2
open PySem.W (kdv_obj kdv_fn kdv_tup)
/-! ### the word of a refusal -/
theorem pe_never {X : Cx} {e : Expr} : PE X e (fun _ _ _ => False) := ⟨fun _ _ _ _ _ _ h => h.elim⟩
/-- how many of a list's flat items are alike -/
def rCntV (K : PySem.W.Frag) : V → List V → Hp → VK → Prop := fun x xs H Q => ∃ (p : Addr) (ys : List V) (y : V), x = .ref p ∧ xs = [y] ∧ SqL K H p ys ∧ flatV y = true ∧ ys.all flatV = true ∧ Q (.int (ys.countP (fun z => eqV z y) : Nat)) H
theorem count_U {y : V} : ∀ {ys : List V} {us : List Value}, Vals ys us → ys.all flatV = true → us.countP (eqU y) = ys.countP (fun z => eqV z y)
  | _, _, .nil, _ => rfl
  | z :: r, u :: t, .cons ru rt, h => by
    rw [List.all_cons, Bool.and_eq_true] at h
    rw [List.countP_cons, List.countP_cons, count_U rt h.2, eqU_of ru h.1]
theorem mt_cntV {X : Cx} : MtR X "list.count" (rCntV X.K) := by
  intro pins s σ H x xs v us Q I rx rxs h
  obtain ⟨p, ys, y, rfl, rfl, hs, fy, fys, q⟩ := h
  cases rx
  obtain ⟨u, rfl, ru⟩ := rxs.one
  obtain ⟨its, rv, ⟨⟨cls, dd, data, sl⟩, n, ho, hc, hdn, hd⟩, hlen⟩ := I.list hs
  simp only at hc hd
  subst hc hd
  refine call_meets PySem.F.slot_list_count ⟨_, ho, rfl⟩ PySem.F.entry_list_count (PySem.F.args_list_count_2 _ _)
    (SeqAt.list_countAt p its.toArray n dd sl u (eqU y)) ⟨ho, fun z hz => mem_eqAt ru fy rv fys z (by simpa using hz), ?_⟩
  have ec : its.toArray.toList.countP (eqU y) = ys.countP (fun z => eqV z y) := count_U rv fys
  refine ⟨.int (ys.countP (fun z => eqV z y) : Nat), H, I.tok _, ⟨s.toks, ?_⟩, q⟩
  show Value.int ((its.toArray.toList.countP (eqU y) : Nat) : Int) s.toks = _
  rw [ec]
/-- isinstance(e, c), e the exception that the suite holds: whatever its class -/
def rIsX (K : PySem.W.Frag) (cls : Value) (d : Option Addr) (a : Addr) : List V → Hp → VK → Prop := fun xs H Q =>
  ∃ (D : Addr) (c : V) (cv : Value) (b : Bool), cls = .ref D ∧ d = none ∧ ExcC K D ∧ xs = [.ref a, c] ∧ (∀ u, RelV c u → u = cv) ∧ PySem.W.kitOne K (.ref D) cv = some b ∧ Q (.bl b) H
theorem call_isX {X : Cx} {a : Addr} {cls : Value} {d : Option Addr} {oe : Obj} {pn : List (Addr × Obj)} (hz : Zc cls d oe) (hf : ∃ vs, oe.data = .fields vs) : CallR (X.suite a ((a, oe) :: pn)) (.builtin "isinstance") (rIsX X.K cls d a) := by
  intro pins s σ H xs us Q I r h
  obtain ⟨D, c, cv, b, rfl, rfl, C, ex, h1, h2, q⟩ := h
  exact call_isE C hz hf pins s σ H xs us Q I r ⟨c, cv, b, ex, h1, h2, q⟩
/-- the fifteen answers, the n-th yes -/
def kindsV (n : Nat) : List V := (List.range 15).map fun i => V.bl (decide (i = n))
def wordsV : List Str := ["width", "number", "kind", "bit", "there", "not", "round", "over", "busy", "looks", "roster", "many", "plan", "step", "text"]
theorem kinds_count (n : Nat) (h : n < 15) : (kindsV n).countP (fun z => eqV z (.bl true)) = 1 := by
  have z : (List.range 15).all (fun n => (kindsV n).countP (fun z => eqV z (.bl true)) == 1) = true := by decide +kernel
  exact beq_iff_eq.mp (List.all_eq_true.mp z n (List.mem_range.mpr h))
theorem kinds_flat (n : Nat) : (kindsV n).all flatV = true := by
  unfold kindsV
  rw [List.all_map]
  exact List.all_eq_true.mpr fun _ _ => rfl
theorem kinds_at (n i : Nat) (h : i < 15) : (kindsV n)[i]? = some (.bl (decide (i = n))) := by
  unfold kindsV
  rw [List.getElem?_map, List.getElem?_range h]
  rfl
theorem kinds_none {n m : Nat} {z : V} (hn : n < 15) (hm : m < n) (h : (kindsV n)[m]? = some z) : eqV z (.bl true) = false := by
  rw [kinds_at n m (by omega)] at h
  have e := Option.some.inj h
  rw [← e, decide_eq_false (show ¬ m = n by omega)]
  rfl
/-- the class's word: the n-th of allErr, with no field -/
structure WordC (K : PySem.W.Frag) (cls : Value) (n : Nat) (wd : Str) : Prop where
  D : ∃ D, cls = .ref D ∧ ExcC K D ∧ (∀ i d, allErr[i]? = some d → PySem.W.kitOne K (.ref D) (.ref (He.ga K d)) = some (decide (i = n))) ∧ PySem.W.kitOne K (.ref D) (.type "ValueError") = some true ∧ PySem.W.exmOne K (.ref D) (.ref (He.ga K "BusError")) = some true
  lt : n < 15
  at_ : wordsV[n]? = some wd
  ne : inV (.str wd) [V.str "looks", V.str "step"] = false ∧ decide (V.str wd = V.str "text") = false
theorem PSs.imp {X : Cx} {st : List Stmt} {t t' : TS} (h : PSs X st t) (f : ∀ D σ H, t' D σ H → t D σ H) : PSs X st t' := ⟨fun pins s σ H D I q => h.run pins s σ H D I (f D σ H q)⟩
/-- what the except suite asks -/
def tSuite (K : PySem.W.Frag) (a : Addr) (cls : Value) (d : Option Addr) : TS := fun D σ H => d = none ∧ ∃ (n : Nat) (wd : Str) (v0 v2 v3 v4 : Option V), WordC K cls n wd ∧ σ = [v0, some (.ref a), v2, v3, v4] ∧ ∀ H3, Frm [] H H3 → D.rt (.str wd) H3
abbrev NW : List Str := ["_law_work", "e", "_law_kinds", "_law_words", "_law_word_here"]
/-- what the def makes of the lambda that it got -/
def TWord (K : PySem.W.Frag) : (XK → Hp → VK → Prop) → Hp → VK → Prop := fun tl H Q =>
  tl (fun cls d H2 => d = none ∧ ∃ n wd, WordC K cls n wd ∧ ∀ H3, Frm [] H2 H3 → Q (.str wd) H3) H (fun _ H2 => Q (.str "") H2)
section
variable {X : Cx} {cdg : Value} {s : Shared} {H0 : Hp}
abbrev WX0 (X : Cx) (cdg : Value) (s : Shared) (H0 : Hp) : Cx := (cxOf CX0 X.prog X.w X.K X.mg X.base NW "_law_word" (defScope s_lword) (He.ga X.K "_law_word") cdg X.A X.stack s H0 E0)
/-- the suite's statements -/
def suiteOf : List Stmt → List Stmt
  | .Try _ (.ExceptHandler _ _ b _ :: _) _ _ _ :: _ => b
  | _ => []
@[elab_as_elim] theorem gen_top {H0 H : Hp} {p : Addr} {o : HO} {P : Hp → Prop} (fr : Frm [] H0 (upd H p o)) (k : ∀ H7, Frm [] H0 H7 → H7 p = some o → P H7) : P (upd H p o) := k _ fr upd_same
theorem word_suite (T : Txt X.prog X.w X.K X.mg X.base) (a : Addr) (oe : Obj) (cls : Value) (d : Option Addr) (pn : List (Addr × Obj)) (hz : Zc cls d oe) (hf : ∃ vs, oe.data = .fields vs) :
    PSs ((WX0 X cdg s H0).suite a ((a, oe) :: pn)) (suiteOf (defBody s_lword)) (tSuite X.K a cls d) := by
  refine PSs.imp (pss_cons (ps_set (i := 2) sc_lword.nd rfl (Or.inl rfl) (pe_lst (pa_cons (pe_callB (call_isX hz hf) (by rfl) (n_isinstance T) (by decide +kernel) (pa_cons (pv 1) (pa_cons (pe_glob (v := .ref _) rfl (g_BadWidth T) rfl) pa_nil))) (pa_cons (pe_callB (call_isX hz hf) (by rfl) (n_isinstance T) (by decide +kernel) (pa_cons (pv 1) (pa_cons (pe_glob (v := .ref _) rfl (g_BadNumber T) rfl) pa_nil))) (pa_cons (pe_callB (call_isX hz hf) (by rfl) (n_isinstance T) (by decide +kernel) (pa_cons (pv 1) (pa_cons (pe_glob (v := .ref _) rfl (g_BadKind T) rfl) pa_nil))) (pa_cons (pe_callB (call_isX hz hf) (by rfl) (n_isinstance T) (by decide +kernel) (pa_cons (pv 1) (pa_cons (pe_glob (v := .ref _) rfl (g_BadBit T) rfl) pa_nil))) pa_nil))))))
    (pss_cons (ps_set (i := 2) sc_lword.nd rfl (Or.inl rfl) (pe_op op_cat (pv 2) (pe_lst (pa_cons (pe_callB (call_isX hz hf) (by rfl) (n_isinstance T) (by decide +kernel) (pa_cons (pv 1) (pa_cons (pe_glob (v := .ref _) rfl (g_There T) rfl) pa_nil))) (pa_cons (pe_callB (call_isX hz hf) (by rfl) (n_isinstance T) (by decide +kernel) (pa_cons (pv 1) (pa_cons (pe_glob (v := .ref _) rfl (g_NotThere T) rfl) pa_nil))) (pa_cons (pe_callB (call_isX hz hf) (by rfl) (n_isinstance T) (by decide +kernel) (pa_cons (pv 1) (pa_cons (pe_glob (v := .ref _) rfl (g_NoRound T) rfl) pa_nil))) (pa_cons (pe_callB (call_isX hz hf) (by rfl) (n_isinstance T) (by decide +kernel) (pa_cons (pv 1) (pa_cons (pe_glob (v := .ref _) rfl (g_Over T) rfl) pa_nil))) pa_nil)))))))
    (pss_cons (ps_set (i := 2) sc_lword.nd rfl (Or.inl rfl) (pe_op op_cat (pv 2) (pe_lst (pa_cons (pe_callB (call_isX hz hf) (by rfl) (n_isinstance T) (by decide +kernel) (pa_cons (pv 1) (pa_cons (pe_glob (v := .ref _) rfl (g_Busy T) rfl) pa_nil))) (pa_cons (pe_callB (call_isX hz hf) (by rfl) (n_isinstance T) (by decide +kernel) (pa_cons (pv 1) (pa_cons (pe_glob (v := .ref _) rfl (g_BadLooks T) rfl) pa_nil))) (pa_cons (pe_callB (call_isX hz hf) (by rfl) (n_isinstance T) (by decide +kernel) (pa_cons (pv 1) (pa_cons (pe_glob (v := .ref _) rfl (g_BadRoster T) rfl) pa_nil))) pa_nil))))))
    (pss_cons (ps_set (i := 2) sc_lword.nd rfl (Or.inl rfl) (pe_op op_cat (pv 2) (pe_lst (pa_cons (pe_callB (call_isX hz hf) (by rfl) (n_isinstance T) (by decide +kernel) (pa_cons (pv 1) (pa_cons (pe_glob (v := .ref _) rfl (g_TooMany T) rfl) pa_nil))) (pa_cons (pe_callB (call_isX hz hf) (by rfl) (n_isinstance T) (by decide +kernel) (pa_cons (pv 1) (pa_cons (pe_glob (v := .ref _) rfl (g_BadPlan T) rfl) pa_nil))) (pa_cons (pe_callB (call_isX hz hf) (by rfl) (n_isinstance T) (by decide +kernel) (pa_cons (pv 1) (pa_cons (pe_glob (v := .ref _) rfl (g_BadStep T) rfl) pa_nil))) (pa_cons (pe_callB (call_isX hz hf) (by rfl) (n_isinstance T) (by decide +kernel) (pa_cons (pv 1) (pa_cons (pe_glob (v := .ref _) rfl (g_BadText T) rfl) pa_nil))) pa_nil)))))))
    (pss_cons (ps_if (PW.pt (pw_or (pt_cmpR op_ne (pe_bm PySem.F.plainAttrs_list PySem.F.slot_list_count PySem.F.type_list_count mt_cntV (pv 2) (pa_cons pe_bl pa_nil)) pe_int (nomark _)) (pw_or1 (pt_not (pt_val (pe_callB (call_isX hz hf) (by rfl) (n_isinstance T) (by decide +kernel) (pa_cons (pv 1) (pa_cons (pe_bltn (v := .ty "ValueError") (u := .type "ValueError") rfl (n_ValueError T) (by decide +kernel) rfl) pa_nil))))))))
      (pss_one (ps_ret pe_str))
      pss_nil)
    (pss_cons (ps_set (i := 3) sc_lword.nd rfl (Or.inl rfl) (pe_lst (pa_cons pe_str (pa_cons pe_str (pa_cons pe_str (pa_cons pe_str (pa_cons pe_str (pa_cons pe_str (pa_cons pe_str (pa_cons pe_str (pa_cons pe_str (pa_cons pe_str (pa_cons pe_str (pa_cons pe_str pa_nil))))))))))))))
    (pss_cons (ps_set (i := 4) sc_lword.nd rfl (Or.inl rfl) (pe_ix ix_list (pe_op op_cat (pv 3) (pe_lst (pa_cons pe_str (pa_cons pe_str (pa_cons pe_str pa_nil))))) (pe_bm PySem.F.plainAttrs_list PySem.F.slot_list_index PySem.F.type_list_index mt_index (pv 2) (pa_cons pe_bl pa_nil)) (fun _ _ => rfl)))
    (pss_cons (ps_if (pt_cmpR op_in_seq (pv 4) (pe_tup (pa_cons pe_str (pa_cons pe_str pa_nil))) rfl)
      (pss_one (ps_ret (pe_never)))
      pss_nil)
    (pss_one (ps_ret (pe_ifExp (pt_cmpR op_eq (pv 4) pe_str (nomark _)) (pe_never) (pv 4)))))))))))) ?_
  rintro D σ H ⟨rfl, n, wd, v0, v2, v3, v4, ⟨⟨C, rfl, hC, hk, hv, _⟩, hn, hat, hne1, hne2⟩, rfl, k⟩
  refine ⟨_, rfl, C, _, _, _, rfl, rfl, hC, rfl, fun u h => h, hk 0 _ rfl, ?_⟩
  refine ⟨_, rfl, C, _, _, _, rfl, rfl, hC, rfl, fun u h => h, hk 1 _ rfl, ?_⟩
  refine ⟨_, rfl, C, _, _, _, rfl, rfl, hC, rfl, fun u h => h, hk 2 _ rfl, ?_⟩
  refine ⟨_, rfl, C, _, _, _, rfl, rfl, hC, rfl, fun u h => h, hk 3 _ rfl, ?_⟩
  refine ⟨by show 4 ≤ sizeLine; decide, fun p1 h1 => ?_⟩
  refine ⟨_, rfl, ?_⟩
  refine ⟨_, rfl, C, _, _, _, rfl, rfl, hC, rfl, fun u h => h, hk 4 _ rfl, ?_⟩
  refine ⟨_, rfl, C, _, _, _, rfl, rfl, hC, rfl, fun u h => h, hk 5 _ rfl, ?_⟩
  refine ⟨_, rfl, C, _, _, _, rfl, rfl, hC, rfl, fun u h => h, hk 6 _ rfl, ?_⟩
  refine ⟨_, rfl, C, _, _, _, rfl, rfl, hC, rfl, fun u h => h, hk 7 _ rfl, ?_⟩
  refine ⟨by show 4 ≤ sizeLine; decide, fun p2 h2 => ?_⟩
  have n12 : p1 ≠ p2 := ne_of_none upd_same h2
  refine ⟨p1, p2, _, _, rfl, rfl, by rw [upd_ne n12]; exact upd_same, upd_same, by show 8 ≤ sizeLine; decide, fun p3 h3 => ?_⟩
  refine ⟨_, rfl, ?_⟩
  refine ⟨_, rfl, C, _, _, _, rfl, rfl, hC, rfl, fun u h => h, hk 8 _ rfl, ?_⟩
  refine ⟨_, rfl, C, _, _, _, rfl, rfl, hC, rfl, fun u h => h, hk 9 _ rfl, ?_⟩
  refine ⟨_, rfl, C, _, _, _, rfl, rfl, hC, rfl, fun u h => h, hk 10 _ rfl, ?_⟩
  refine ⟨by show 3 ≤ sizeLine; decide, fun p4 h4 => ?_⟩
  have n34 : p3 ≠ p4 := ne_of_none upd_same h4
  refine ⟨p3, p4, _, _, rfl, rfl, by rw [upd_ne n34]; exact upd_same, upd_same, by show 11 ≤ sizeLine; decide, fun p5 h5 => ?_⟩
  refine ⟨_, rfl, ?_⟩
  refine ⟨_, rfl, C, _, _, _, rfl, rfl, hC, rfl, fun u h => h, hk 11 _ rfl, ?_⟩
  refine ⟨_, rfl, C, _, _, _, rfl, rfl, hC, rfl, fun u h => h, hk 12 _ rfl, ?_⟩
  refine ⟨_, rfl, C, _, _, _, rfl, rfl, hC, rfl, fun u h => h, hk 13 _ rfl, ?_⟩
  refine ⟨_, rfl, C, _, _, _, rfl, rfl, hC, rfl, fun u h => h, hk 14 _ rfl, ?_⟩
  refine ⟨by show 4 ≤ sizeLine; decide, fun p6 h6 => ?_⟩
  have n56 : p5 ≠ p6 := ne_of_none upd_same h6
  refine ⟨p5, p6, _, _, rfl, rfl, by rw [upd_ne n56]; exact upd_same, upd_same, by show 15 ≤ sizeLine; decide, fun p7 h7 => ?_⟩
  -- what stood stands
  show tSeq _ _ D _ (upd _ p7 (.lst (kindsV n)))
  refine gen_top (((((((Frm.of (same_upd h1)).trans (Frm.of (same_upd h2))).trans (Frm.of (same_upd h3))).trans (Frm.of (same_upd h4))).trans (Frm.of (same_upd h5))).trans (Frm.of (same_upd h6))).trans (Frm.of (same_upd (o := .lst (kindsV n)) h7))) ?_
  clear h7 n56 h6 h5 n34 h4 h3 n12 h2 h1
  intro H7 fr at7
  refine ⟨_, rfl, .inl ⟨rfl, _, SqL.of at7⟩, p7, _, _, rfl, rfl, SqL.of at7, rfl, kinds_flat n, rfl, _, rfl, ?_⟩
  rw [kinds_count n hn]
  refine ⟨_, rfl, C, _, _, _, rfl, rfl, hC, rfl, fun u h => h, hv, true, rfl, ?_⟩
  refine ⟨by show 12 ≤ sizeLine; decide, fun p8 h8 => ?_⟩
  refine ⟨_, rfl, by show 3 ≤ sizeLine; decide, fun p9 h9 => ?_⟩
  have n89 : p8 ≠ p9 := ne_of_none upd_same h9
  refine ⟨p8, p9, _, _, rfl, rfl, by rw [upd_ne n89]; exact upd_same, upd_same, by show 15 ≤ sizeLine; decide, fun p10 h10 => ?_⟩
  have f10 : Frm [] H7 (upd (upd (upd H7 p8 (.lst [.str "width", .str "number", .str "kind", .str "bit", .str "there", .str "not", .str "round", .str "over", .str "busy", .str "looks", .str "roster", .str "many"])) p9 (.lst [.str "plan", .str "step", .str "text"])) p10 (.lst (wordsV.map V.str))) :=
    ((Frm.of (same_upd h8)).trans (Frm.of (same_upd h9))).trans (Frm.of (same_upd h10))
  have at7' := f10.k _ _ at7 rfl (by simp)
  refine ⟨_, rfl, .inl ⟨rfl, _, SqL.of at7'⟩, p7, _, _, n, _, rfl, rfl, SqL.of at7', rfl, kinds_flat n, kinds_at n n hn, by rw [decide_eq_true rfl]; rfl, fun m z hm hz => kinds_none hn hm hz, ?_⟩
  refine ⟨p10, wordsV.map V.str, _, .str wd, rfl, rfl, SqL.of upd_same, atI_nat (by rw [List.getElem?_map, hat]; rfl), ?_⟩
  refine ⟨_, rfl, by show 2 ≤ sizeLine; decide, fun p11 h11 => ?_⟩
  refine ⟨p11, _, rfl, .inr (SqT.of upd_same), rfl, rfl, _, rfl, ?_⟩
  rw [hne1]
  refine ⟨_, rfl, rfl, _, rfl, ?_⟩
  rw [hne2]
  exact ⟨_, rfl, k _ ((fr.trans f10).trans (Frm.of (same_upd h11)))⟩
theorem word_ok (T : Txt X.prog X.w X.K X.mg X.base) {f c1 : Addr} {q : Str} {tl : XK → Hp → VK → Prop} {Q : VK}
    (turn : ∀ (W : WX) (pn : List (Addr × Obj)) (xe : Value → Shared → Prop) (p1 p2 : Pos), Takes ((WX0 X cdg s H0).tr pn xe) W →
      PE ((WX0 X cdg s H0).tr pn xe) (.Call (.Name "_law_work" p1) [] [] p2) (fun σZ HZ Q => σZ[0]? = some (some (.ref f)) ∧ HZ c1 = some (LamX.CodeO c1 q) ∧ ∃ E : XK, (∀ cls d H', E cls d H' → W cls d σZ H') ∧ tl E HZ Q))
    (hc : H0 c1 = some (LamX.CodeO c1 q)) (h : TWord X.K tl H0 Q) :
    ∃ t, PSs (WX0 X cdg s H0) (defBody s_lword) t ∧ t { nx := fun _ H' => Q .non H', rt := Q } (L2.start NW [.ref f]) H0 := by
  refine ⟨_, pss_cons (ps_try_as (i := 1) (n := "e") (ts := tSuite X.K) (Wout := fun _ _ _ _ => False) (tb := fun W D σ H => σ[0]? = some (some (.ref f)) ∧ H c1 = some (LamX.CodeO c1 q) ∧ ∃ E : XK, (∀ cls d H', E cls d H' → W cls d σ H') ∧ tl E H (fun _ H' => D.nx σ H')) rfl rfl sc_lword.nd rfl rfl ⟨rfl, by decide, .inl (g_BusError T)⟩ L2.takes0
    (fun W pn xe tk _ => pss_one (ps_expr (turn W pn xe _ _ tk))) (fun a oe cls d pn hz hf => word_suite T a oe cls d pn hz hf)) (pss_one (ps_ret pe_str)), ?_⟩
  refine ⟨rfl, hc, _, fun cls d H' z => ?_, h⟩
  obtain ⟨rfl, n, wd, C, k⟩ := z
  obtain ⟨D, rfl, _, _, _, hb⟩ := id C.D
  exact ⟨true, hb, fun _ a ha => ⟨rfl, n, wd, _, _, _, _, C, rfl, k⟩, fun z => nomatch z⟩
end
end B

set_option Elab.async false
set_option linter.all false
set_option maxRecDepth 100000
set_option maxHeartbeats 4000000
namespace B
open PySem PySem.Spec PyProof.Rows L2
open PySem.W (kdv_obj kdv_fn kdv_tup)
/-! ### word(lambda: ..) -/
section
variable {X : Cx} {pins : List (Addr × Obj)} {σ : L2.St} {H H1 : Hp} {s s1 : Shared}
theorem word_go (T : Txt X.prog X.w X.K X.mg X.base) {params : Arguments} {body : Expr} {scope : Scope} {f c1 P : Addr} {dV : Value} {k : Nat} {ext : List (Addr × Obj)} {binds : List (Str × Value)} {t : XK → TE} {Q : VK} (I : Inv X pins σ H1 s1) (L : LamP X.N X.env.scope scope)
    (M : Made X P (X.env.qual ++ "<lambda>") params body scope dV ext H H1 s1 f c1)
    (bnd : ∀ (s' : Shared) (cl : List (Str × Addr)) (doc pm cv ctv : Value), (∀ p ∈ ext, s'.heap.get? p.1 = some p.2) → BindsTo s' (kdv_fn "<lambda>" (X.env.qual ++ "<lambda>") params (.expr body) scope cl dV doc pm cv ctv) ⟨[], []⟩ binds)
    (loc : ∀ y ∈ binds, scope.names.lookup y.1 = some .local) (hr : Room (k + 2) X.A)
    (hbody : ∀ (A : Around) (outer : List Env) (s : Shared) (H : Hp) (E : XK) (f c1 : Addr), Room k (A.deeper (LamX.lamEnv X scope s.heap.objs.size f c1)) → PE (LamX.lamCx X A outer s H E scope f c1) body (t E))
    (h : TWord X.K (fun E H' Q' => t E σ H' Q') H1 Q) : codeAny (model X.prog X.w) X.A (.call (.ref (He.ga X.K "_law_word")) ⟨[.ref f], []⟩) (CR CX0 X.stack X.prog X.w H1 s1 Q E0) s1 := by
  obtain ⟨fd, F⟩ := T.t.def_ 27 (d := d_lword)
  have b : L2.Binds X.K fd ["_law_work"] [] := F.bindsN fun _ _ _ _ _ _ us hl => match us, hl with | [_], _ => rfl
  obtain ⟨oc, od, dV', kV, doc, pm, an, cdv, ct, osl, rfl, lk, hcd, _, _⟩ := F.ex
  refine LamX.run_ofS (N := NW) (ps := ["_law_work"]) (us := [.ref f]) (vs := [.ref f]) lk hcd sc_lword hr I.env0 (b s1 [.ref f] I.kIn rfl) (.cons rfl .nil) rfl fun hr' => ?_
  exact word_ok (X := X) (cdg := cdv) (s := s1) (H0 := H1) T (fun W pn xe p1 p2 tk => pe_turn (i := 0) (tb := t) I L M bnd loc tk hr' (fun A outer s H E hr2 => hbody A outer s H E f c1 hr2) rfl (.inl rfl)) M.co h
def tWordL (K : PySem.W.Frag) (P : Addr) (q : Str) (t : XK → TE) : TE := fun σ H Q => LamX.TabS H P q ∧ ∀ H1, (∀ b o, H b = some o → b ≠ P → H1 b = some o) → (∀ b, H1 b = none → H b = none) → LamX.TabS H1 P q → TWord K (fun E H' Q' => t E σ H' Q') H1 Q
theorem pe_word0 (T : Txt X.prog X.w X.K X.mg X.base) {params : Arguments} {body : Expr} {scope : Scope} {c P : Addr} {k : Nat} {t : XK → TE} {p lpos pos : Pos} (h0 : params.defaults = []) (h1 : params.kw_defaults = []) (hbind : ∀ (q : Str) (cl : List (Str × Addr)) (doc pm cv ctv : Value), bindArgs (kdv_fn "<lambda>" q params (.expr body) scope cl .none doc pm cv ctv) ⟨[], []⟩ = pure []) (TB : LamX.TabB X.base X.mg c P) (hcode : X.env.code = .ref c) (hr : Room (k + 2) X.A) (L : LamP X.N X.env.scope scope)
    (hbody : ∀ (A : Around) (outer : List Env) (s : Shared) (H : Hp) (E : XK) (f c1 : Addr), Room k (A.deeper (LamX.lamEnv X scope s.heap.objs.size f c1)) → PE (LamX.lamCx X A outer s H E scope f c1) body (t E)) (hg : Gl X "_law_word")
    (hst : starEach [.Lambda params body scope lpos] X.env = (false, eval (.Lambda params body scope lpos) X.env) :: starEach [] X.env := by rfl) (hpl : (backTo pos (starEach [] X.env)).any (·.1) = false := by rfl) :
    PE X (.Call (.Name "_law_word" p) [.Lambda params body scope lpos] [] pos) (tWordL X.K P (X.env.qual ++ "<lambda>") t) := by
  refine ⟨fun pins s σ H Q I h => ?_⟩
  obtain ⟨hT, h⟩ := h
  obtain ⟨fd, F⟩ := T.t.def_ 27 (d := d_lword)
  have hm : X.mg "_law_word" = some (.ref (He.ga X.K "_law_word")) := He.glo_ok T.X T.G (T.t.fact 5)
  have hk : PySem.W.keepIn X.K (.ref (He.ga X.K "_law_word")) = true := F.kp
  refine wpAny_Call_Name_kw (ld_glob I hg hm ?_)
  refine PySem.W.callWith_K (h₀ := X.base) I.ok.mod.kin hk ?_ (by rfl) (by rfl)
  show wpAny _ _ (spliced ((false, eval (.Lambda params body scope lpos) X.env) :: backTo pos (starEach [] X.env))) _ _ s
  refine Calls.spliced_cons (made0 I TB hcode hT (L.has I.ok) h0 h1 fun f c1 H1 s1 I1 M => ?_)
  refine Calls.spliced_nil ⟨I1.kIn, ?_⟩
  refine wpAny_call (codeAny_mono (word_go T I1 L M (binds := []) (fun s2 cl doc pm cv ctv _ => .of_eq (hbind _ _ _ _ _ _)) (fun _ hy => absurd hy (by simp)) hr hbody (h _ M.fr M.bk M.tb)) fun r s2 hq => ?_)
  match r, hq with
  | .error e, hq => exact (show False from hq).elim
  | .ok (.ret u), hq => exact I1.after hq
  | .ok .next, hq => exact False.elim hq
  | .ok .brk, hq => exact False.elim hq
  | .ok .cont, hq => exact False.elim hq
theorem pe_word1 (T : Txt X.prog X.w X.K X.mg X.base) {params : Arguments} {body : Expr} {scope : Scope} {c P : Addr} {k : Nat} {t : XK → TE} {p lpos pos : Pos} {i : Int} {j : Nat} {dp : Pos} {a : Str} (h0 : params.defaults = [.Constant (.int i) j dp]) (h1 : params.kw_defaults = []) (hloc : scope.names.lookup a = some .local) (hbind : ∀ (s : Shared) (q : Str) (cl : List (Str × Addr)) (t0 : Addr) (tk : Nat) (doc pm cv ctv : Value), s.heap.get? t0 = some (kdv_tup [.int i tk]) → BindsTo s (kdv_fn "<lambda>" q params (.expr body) scope cl (.ref t0) doc pm cv ctv) ⟨[], []⟩ [(a, .int i tk)]) (TB : LamX.TabB X.base X.mg c P) (hcode : X.env.code = .ref c) (hr : Room (k + 2) X.A) (L : LamP X.N X.env.scope scope)
    (hbody : ∀ (A : Around) (outer : List Env) (s : Shared) (H : Hp) (E : XK) (f c1 : Addr), Room k (A.deeper (LamX.lamEnv X scope s.heap.objs.size f c1)) → PE (LamX.lamCx X A outer s H E scope f c1) body (t E)) (hg : Gl X "_law_word")
    (hst : starEach [.Lambda params body scope lpos] X.env = (false, eval (.Lambda params body scope lpos) X.env) :: starEach [] X.env := by rfl) (hpl : (backTo pos (starEach [] X.env)).any (·.1) = false := by rfl) :
    PE X (.Call (.Name "_law_word" p) [.Lambda params body scope lpos] [] pos) (tWordL X.K P (X.env.qual ++ "<lambda>") t) := by
  refine ⟨fun pins s σ H Q I h => ?_⟩
  obtain ⟨hT, h⟩ := h
  obtain ⟨fd, F⟩ := T.t.def_ 27 (d := d_lword)
  have hm : X.mg "_law_word" = some (.ref (He.ga X.K "_law_word")) := He.glo_ok T.X T.G (T.t.fact 5)
  have hk : PySem.W.keepIn X.K (.ref (He.ga X.K "_law_word")) = true := F.kp
  refine wpAny_Call_Name_kw (ld_glob I hg hm ?_)
  refine PySem.W.callWith_K (h₀ := X.base) I.ok.mod.kin hk ?_ (by rfl) (by rfl)
  show wpAny _ _ (spliced ((false, eval (.Lambda params body scope lpos) X.env) :: backTo pos (starEach [] X.env))) _ _ s
  refine Calls.spliced_cons (made1 I TB hcode hT (L.has I.ok) h0 h1 fun f c1 t0 tk H1 s1 I1 M => ?_)
  refine Calls.spliced_nil ⟨I1.kIn, ?_⟩
  refine wpAny_call (codeAny_mono (word_go T I1 L M (binds := [(a, .int i tk)]) (fun s2 cl doc pm cv ctv e => hbind _ _ _ _ _ _ _ _ _ (e _ (List.mem_singleton.mpr rfl))) (fun y hy => by rw [List.mem_singleton.mp hy]; exact hloc) hr hbody (h _ M.fr M.bk M.tb)) fun r s2 hq => ?_)
  match r, hq with
  | .error e, hq => exact (show False from hq).elim
  | .ok (.ret u), hq => exact I1.after hq
  | .ok .next, hq => exact False.elim hq
  | .ok .brk, hq => exact False.elim hq
  | .ok .cont, hq => exact False.elim hq
end
end B

set_option Elab.async false
set_option linter.all false
set_option maxRecDepth 100000
set_option maxHeartbeats 4000000
namespace B
open PySem PySem.Spec PyProof.Rows L2
open SX (S)
section
variable {P : Program} {w : World} {K : PySem.W.Frag} {mg : Str → Option Value} {base : Heap}
/-- something becomes of a thing of a wire, the deed by its name -/
def spBec (K : PySem.W.Frag) : Sp := fun vs H Q E => ∃ (pw dh dl : Addr) (wd x : Str) (W : Nat) (kvs : List (Str × Bool)) (lw : List Str) (ms lk : Int), vs = [.ref pw, .str wd, .str x] ∧ wd ∈ wordsB ∧ WiAt K H pw dh dl W kvs lw ms lk ∧ Num W x ∧ W ≤ 12 ∧ kvs.length ≤ 100 ∧ lw.length ≤ 100 ∧ Tb K H ∧
  (¬ deedW kvs wd x = "" → ∀ H', FrT K [] H H' → E (.ref (errOf K wd)) none H') ∧
  (deedW kvs wd x = "" → ∀ (dl' : Addr) (H' : Hp), (dl' = dl ∨ H dl' = none) → WiAt K H' pw dh dl' W (deedK kvs wd x) (deedL kvs lw wd x) ms lk → FrT K [pw, dh] H H' → Q .non H')
theorem c_lbecome (T : Txt P w K mg base) : CalX (L2.CX P w) P w K mg base 5 "_law_become" (spBec K) := by
  obtain ⟨fd, F⟩ := T.t.def_ 34 (d := d_lbecome)
  refine ⟨_, fd, _, F.ok sc_lbecome (fun vs H Q E h => ?_) (fun cdv A outer s H vs Q E hr h => ?_), He.glo_ok T.X T.G (T.t.fact 12), F.kp, F.bindsN fun _ _ _ _ _ _ us hl => match us, hl with | [_, _, _], _ => rfl⟩
  · obtain ⟨pw, dh, dl, wd, x, W, kvs, lw, ms, lk, rfl, _⟩ := h
    rfl
  · obtain ⟨pw, dh, dl, wd, x, W, kvs, lw, ms, lk, rfl, hwd, wa, hx, hW, hkl, hll, ht, k1, k2⟩ := h
    obtain ⟨⟨dx, h1⟩, h2, h3⟩ := id wa
    refine ⟨_, (pss_cons (ps_if (pt_cmpR op_eq (pv 1) pe_str (nomark _))
      (pss_one (ps_ret (pe_mx (m_Wire_hang T) hr (by decide) (pv 0) (passes_call (takes_of rfl rfl rfl rfl) (fun _ _ _ _ h => h)) (pa_cons (pv 2) pa_nil))))
      pss_nil)
    (pss_cons (ps_if (pt_cmpR op_eq (pv 1) pe_str (nomark _))
      (pss_one (ps_ret (pe_mx (m_Wire_off T) hr (by decide) (pv 0) (passes_call (takes_of rfl rfl rfl rfl) (fun _ _ _ _ h => h)) (pa_cons (pv 2) pa_nil))))
      pss_nil)
    (pss_one (ps_ret (pe_ifExp (pt_cmpR op_eq (pv 1) pe_str (nomark _)) (pe_mx (m_Wire_alarm T) hr (by decide) (pv 0) (passes_call (takes_of rfl rfl rfl rfl) (fun _ _ _ _ h => h)) (pa_cons (pv 2) pa_nil)) (pe_mx (m_Wire_calm T) hr (by decide) (pv 0) (passes_call (takes_of rfl rfl rfl rfl) (fun _ _ _ _ h => h)) (pa_cons (pv 2) pa_nil))))))), ?_⟩
    refine ⟨_, rfl, rfl, _, rfl, ?_⟩
    rw [str_dec]
    refine iteB (fun c => ?_) (fun c => ?_)
    · obtain rfl : wd = "hang" := of_decide_eq_true c
      exact ⟨_, rfl, pw, dx, _, rfl, h1, wx_hang, _, rfl, pw, dh, dl, x, W, kvs, lw, ms, lk, rfl, wa, hx, hW, hkl, hll, ht, k1, k2⟩
    · refine ⟨_, rfl, rfl, _, rfl, ?_⟩
      rw [str_dec]
      refine iteB (fun c2 => ?_) (fun c2 => ?_)
      · obtain rfl : wd = "off" := of_decide_eq_true c2
        exact ⟨_, rfl, pw, dx, _, rfl, h1, wx_off, _, rfl, pw, dh, dl, x, W, kvs, lw, ms, lk, rfl, wa, hx, hW, hkl, hll, ht, k1, k2⟩
      · refine ⟨_, rfl, rfl, _, rfl, ?_⟩
        rw [str_dec]
        refine iteB (fun c3 => ?_) (fun c3 => ?_)
        · obtain rfl : wd = "alarm" := of_decide_eq_true c3
          exact ⟨_, rfl, pw, dx, _, rfl, h1, wx_alarm, _, rfl, pw, dh, dl, x, W, kvs, lw, ms, lk, rfl, wa, hx, hW, hkl, hll, ht, k1, k2⟩
        · have e : wd = "calm" := by
            have n1 := of_decide_eq_false c
            have n2 := of_decide_eq_false c2
            have n3 := of_decide_eq_false c3
            unfold wordsB at hwd
            simp only [List.mem_cons, List.not_mem_nil, or_false] at hwd
            rcases hwd with z | z | z | z <;> first | exact z | exact absurd z n1 | exact absurd z n2 | exact absurd z n3
          subst e
          exact ⟨_, rfl, pw, dx, _, rfl, h1, wx_calm, _, rfl, pw, dh, dl, x, W, kvs, lw, ms, lk, rfl, wa, hx, hW, hkl, hll, ht, k1, k2⟩
end
end B

set_option Elab.async false
set_option linter.all false
set_option maxRecDepth 100000
set_option maxHeartbeats 4000000
namespace B
open PySem PySem.Spec PyProof.Rows L2
open SX (S)
/-! ### alike -/
theorem atI_nat' {xs : List V} {i : Nat} {v : V} (h : xs[i]? = some v) : atI xs (0 + (i : Int)) = some v := by
  rw [Int.zero_add]
  exact atI_nat h
/-- asked of two things that A calls alike -/
def spAl (A : V → V → Hp → Prop) : Sp := fun vs H Q _ => ∃ x y, vs = [x, y] ∧ A x y H ∧ ∀ H', Frm [] H H' → Q (.bl true) H'
def Atom (x y : V) : Prop := (∃ b, x = .bl b ∧ y = .bl b) ∨ (∃ s, x = .str s ∧ y = .str s) ∨ (∃ i, x = .int i ∧ y = .int i) ∨ (x = .non ∧ y = .non)
def AlStep (K : PySem.W.Frag) (A : V → V → Hp → Prop) (x y : V) (H : Hp) : Prop := Atom x y ∨ ∃ (p q : Addr) (xs ys : List V), x = .ref p ∧ y = .ref q ∧ ((H p = some (.lst xs) ∧ H q = some (.lst ys)) ∨ (H p = some (.tup xs) ∧ H q = some (.tup ys))) ∧ xs.length = ys.length ∧ ys.length ≤ 100000 ∧
  ∀ (i : Nat) a b, xs[i]? = some a → ys[i]? = some b → A a b H
def Steady (A : V → V → Hp → Prop) : Prop := ∀ x y H H', A x y H → Frm [] H H' → A x y H'
theorem steady0 : Steady (fun _ _ _ => False) := fun _ _ _ _ h _ => h
theorem steady_step {K : PySem.W.Frag} {A : V → V → Hp → Prop} (h : Steady A) : Steady (AlStep K A) := by
  rintro x y H H' (z | ⟨p, q, xs, ys, e1, e2, hs, hl, hn, hA⟩) f
  · exact .inl z
  · refine .inr ⟨p, q, xs, ys, e1, e2, ?_, hl, hn, fun i a b ha hb => h _ _ _ _ (hA i a b ha hb) f⟩
    rcases hs with ⟨h1, h2⟩ | ⟨h1, h2⟩
    · exact .inl ⟨f.k _ _ h1 rfl (by simp), f.k _ _ h2 rfl (by simp)⟩
    · exact .inr ⟨f.k _ _ h1 rfl (by simp), f.k _ _ h2 rfl (by simp)⟩
theorem al_strs {K : PySem.W.Frag} {A : V → V → Hp → Prop} {H : Hp} {p q : Addr} {xs : List Str} (hp : H p = some (.lst (xs.map V.str))) (hq : H q = some (.lst (xs.map V.str))) (hl : xs.length ≤ 100000) : AlStep K (AlStep K A) (.ref p) (.ref q) H := by
  refine .inr ⟨p, q, _, _, rfl, rfl, .inl ⟨hp, hq⟩, rfl, by rw [List.length_map]; exact hl, fun i a b ha hb => .inl ?_⟩
  rw [hb] at ha
  obtain rfl := Option.some.inj ha
  obtain ⟨z, hz, e⟩ := at_map hb
  exact .inr (.inl ⟨z, e, e⟩)
section
variable {P : Program} {w : World} {K : PySem.W.Frag} {mg : Str → Option Value} {base : Heap}
end
end B

set_option Elab.async false
set_option linter.all false
set_option maxRecDepth 100000
set_option maxHeartbeats 4000000
namespace B
open PySem PySem.Spec PyProof.Rows L2
open SX (S)
/-! ### the classes' words -/
section
variable {P : Program} {w : World} {K : PySem.W.Frag} {mg : Str → Option Value} {base : Heap}
theorem exc_all {c : Str} (h : excC K c = true) (hs : PySem.W.subIn K (.ref (He.ga K c)) (.type "BaseException") = some true) : ExcC K (He.ga K c) ∧ PySem.W.kitOne K (.ref (He.ga K c)) (.type "ValueError") = some true := by
  unfold excC at h
  obtain ⟨h, h8⟩ := He.ba h
  obtain ⟨h, h7⟩ := He.ba h
  obtain ⟨h, h6⟩ := He.ba h
  obtain ⟨h, h5⟩ := He.ba h
  obtain ⟨h, h4⟩ := He.ba h
  obtain ⟨h, h3⟩ := He.ba h
  obtain ⟨h1, h2⟩ := He.ba h
  exact ⟨⟨He.eqO_ok h1, He.eqO_ok h2, hs, h3, He.eqO_ok h4, of_decide_eq_true h5, of_decide_eq_true h6, of_decide_eq_true h7⟩, of_decide_eq_true h8⟩
theorem kit_all {c : Str} {n : Nat} (hc : allErr[n]? = some c) (h : (allErr.all fun d => kitC K c d (decide (c = d))) = true) (i : Nat) (d : Str) (hd : allErr[i]? = some d) : PySem.W.kitOne K (.ref (He.ga K c)) (.ref (He.ga K d)) = some (decide (i = n)) := by
  have q := of_decide_eq_true (List.all_eq_true.mp h d (List.mem_of_getElem? hd))
  rw [q]
  have hn := (List.getElem?_eq_some_iff.mp hc).1
  have hi := (List.getElem?_eq_some_iff.mp hd).1
  have z : (List.range 15).all (fun i => (List.range 15).all fun n => decide (allErr[n]? = allErr[i]?) == decide (i = n)) = true := by decide +kernel
  have z1 := beq_iff_eq.mp (List.all_eq_true.mp (List.all_eq_true.mp z i (List.mem_range.mpr hi)) n (List.mem_range.mpr hn))
  rw [hc, hd] at z1
  have e : decide (c = d) = decide (some c = some d) := by
    by_cases q : c = d
    · rw [decide_eq_true q, decide_eq_true (by rw [q])]
    · rw [decide_eq_false q, decide_eq_false (fun z => q (Option.some.inj z))]
  rw [e, z1]
theorem word_of (T : Txt P w K mg base) {c wd : Str} {n : Nat} (hr : c ∈ raised) (hs : PySem.W.subIn K (.ref (He.ga K c)) (.type "BaseException") = some true) (hm : PySem.W.exmOne K (.ref (He.ga K c)) (.ref (He.ga K "BusError")) = some true) (hn : n < 15) (hc : allErr[n]? = some c) (hw : wordsV[n]? = some wd)
    (ne : inV (.str wd) [V.str "looks", V.str "step"] = false ∧ decide (V.str wd = V.str "text") = false) : WordC K (.ref (He.ga K c)) n wd := by
  obtain ⟨h1, h2⟩ := He.ba (List.all_eq_true.mp (ex_exc T) c hr)
  obtain ⟨e1, e2⟩ := exc_all h1 hs
  exact ⟨⟨_, rfl, e1, kit_all hc h2, e2, hm⟩, hn, hw, ne⟩
theorem word_There (T : Txt P w K mg base) : WordC K (.ref (He.ga K "There")) 4 "there" := by
  obtain ⟨a, b, c, d⟩ := He.exc_ok (T.t.fact 89 (f := .exc "There"))
  exact word_of T (by decide) (by assumption) (He.exm_ok (T.t.fact 93)) (by decide) rfl rfl ⟨by decide +kernel, by decide +kernel⟩
theorem word_NotThere (T : Txt P w K mg base) : WordC K (.ref (He.ga K "NotThere")) 5 "not" := by
  obtain ⟨a, b, c, d⟩ := He.exc_ok (T.t.fact 90 (f := .exc "NotThere"))
  exact word_of T (by decide) (by assumption) (He.exm_ok (T.t.fact 94)) (by decide) rfl rfl ⟨by decide +kernel, by decide +kernel⟩
theorem word_NoRound (T : Txt P w K mg base) : WordC K (.ref (He.ga K "NoRound")) 6 "round" := by
  obtain ⟨a, b, c, d⟩ := He.exc_ok (T.t.fact 91 (f := .exc "NoRound"))
  exact word_of T (by decide) (by assumption) (He.exm_ok (T.t.fact 95)) (by decide) rfl rfl ⟨by decide +kernel, by decide +kernel⟩
end
end B

set_option Elab.async false
set_option linter.all false
set_option maxRecDepth 100000
set_option maxHeartbeats 4000000
namespace B
open PySem PySem.Spec PyProof.Rows L2
open SX (S)
theorem nodup_le {xs : List Str} : ∀ {ys : List Str}, xs.Nodup → (∀ x ∈ xs, x ∈ ys) → xs.length ≤ ys.length := by
  induction xs with
  | nil => intro ys _ _; exact Nat.zero_le _
  | cons x r ih =>
    intro ys hn hs
    have hx := hs x (List.mem_cons_self ..)
    have n := List.nodup_cons.mp hn
    have q := ih (ys := ys.erase x) n.2 fun z hz => by
      have ne : z ≠ x := fun e => n.1 (e ▸ hz)
      exact (List.mem_erase_of_ne ne).mpr (hs z (List.mem_cons_of_mem _ hz))
    rw [List.length_erase_of_mem hx] at q
    have := List.length_pos_of_mem hx
    rw [List.length_cons]
    omega
/-- what the wire counts of a round -/
def msOf (W : Nat) : Option (List Nat) → Int
  | none => W
  | some l => l.length
/-- a wire and an own one agree -/
structure SideX (K : PySem.W.Frag) (H : Hp) (pw dh dl pm dt ml : Addr) (W : Nat) (names : List Str) (kvs : List (Str × Bool)) (lw lm : List Str) (sd : Option (List Nat)) (lk : Int) : Prop where
  wa : WiAt K H pw dh dl W kvs lw (msOf W sd) lk
  ma : MdAt H pm dt ml W kvs lm sd lk
  perm : lw.Perm lm
  nd : (kvs.map (·.1)).Nodup
  sub : ∀ x ∈ kvs.map (·.1), x ∈ names
  len : lm.length ≤ 41
  num : ∀ x ∈ lm, Num W x
  beg : ∀ l, sd = some l → l.length ≤ W ∧ ∀ x ∈ lm, Beg W l x
  ne : pm ≠ dt ∧ dh ≠ pm ∧ dh ≠ dt
/-- the numbers that a side draws from -/
structure Pool (H : Hp) (pn : Addr) (W : Nat) (names : List Str) : Prop where
  at_ : H pn = some (.lst (names.map V.str))
  ne : names ≠ []
  len : names.length ≤ 41
  num : ∀ x ∈ names, Num W x
  w : 1 ≤ W ∧ W ≤ 12
theorem has_key {kvs : List (Str × Bool)} {x : Str} : hasK kvs x = true ↔ x ∈ kvs.map (·.1) := by
  unfold hasK
  rw [List.any_eq_true]
  constructor
  · rintro ⟨p, hp, e⟩
    exact List.mem_map.mpr ⟨p, hp, of_decide_eq_true e⟩
  · intro h
    obtain ⟨p, hp, e⟩ := List.mem_map.mp h
    exact ⟨p, hp, decide_eq_true e⟩
theorem keys_put {kvs : List (Str × Bool)} {x : Str} {b : Bool} : (putB kvs x b).map (·.1) = if hasK kvs x = true then kvs.map (·.1) else kvs.map (·.1) ++ [x] := by
  unfold putB
  split
  · rw [List.map_map]
    apply List.map_congr_left
    intro p _
    show (if p.1 = x then (p.1, b) else p).1 = p.1
    split <;> rfl
  · rw [List.map_append]
    rfl
theorem put_nodup {kvs : List (Str × Bool)} {x : Str} {b : Bool} (h : (kvs.map (·.1)).Nodup) : ((putB kvs x b).map (·.1)).Nodup := by
  rw [keys_put]
  split
  · exact h
  · rename_i nh
    rw [List.nodup_append]
    refine ⟨h, by simp, fun a ha c hc => ?_⟩
    rw [List.mem_singleton] at hc
    rw [hc]
    intro e
    exact nh (has_key.mpr (e ▸ ha))
theorem put_sub {kvs : List (Str × Bool)} {x : Str} {b : Bool} {names : List Str} (h : ∀ y ∈ kvs.map (·.1), y ∈ names) (hx : x ∈ names) : ∀ y ∈ (putB kvs x b).map (·.1), y ∈ names := by
  rw [keys_put]
  split
  · exact h
  · intro y hy
    rw [List.mem_append, List.mem_singleton] at hy
    rcases hy with z | rfl
    · exact h y z
    · exact hx
theorem drop_keys {kvs : List (Str × Bool)} {x : Str} : (dropB kvs x).map (·.1) = (kvs.map (·.1)).filter (fun y => decide (y ≠ x)) := by
  unfold dropB
  rw [List.filter_map]
  rfl
theorem deed_nodup {kvs : List (Str × Bool)} {wd x : Str} (h : (kvs.map (·.1)).Nodup) : ((deedK kvs wd x).map (·.1)).Nodup := by
  unfold deedK
  split
  · split
    · exact h
    · exact put_nodup h
  · split
    · split
      · rw [drop_keys]
        exact h.filter _
      · exact put_nodup h
    · exact h
theorem deed_sub {kvs : List (Str × Bool)} {wd x : Str} {names : List Str} (h : ∀ y ∈ kvs.map (·.1), y ∈ names) (hx : x ∈ names) : ∀ y ∈ (deedK kvs wd x).map (·.1), y ∈ names := by
  unfold deedK
  split
  · split
    · exact h
    · exact put_sub h hx
  · split
    · split
      · rw [drop_keys]
        intro y hy
        exact h y (List.mem_filter.mp hy).1
      · exact put_sub h hx
    · exact h
theorem deed_len {kvs : List (Str × Bool)} {lm : List Str} {wd x : Str} : (deedL kvs lm wd x).length ≤ lm.length ∧ ∀ y ∈ deedL kvs lm wd x, y ∈ lm := by
  unfold deedL
  split
  · exact ⟨List.length_filter_le _ _, fun y hy => (List.mem_filter.mp hy).1⟩
  · exact ⟨Nat.le_refl _, fun y hy => hy⟩
theorem deed_perm {kvs : List (Str × Bool)} {lw lm : List Str} {wd x : Str} (h : lw.Perm lm) : (deedL kvs lw wd x).Perm (deedL kvs lm wd x) := by
  unfold deedL
  split
  · exact h.filter _
  · exact h
theorem deed_no {kvs : List (Str × Bool)} {lm : List Str} {wd x : Str} (h : ¬ deedW kvs wd x = "") : deedK kvs wd x = kvs ∧ deedL kvs lm wd x = lm := by
  unfold deedW at h
  unfold deedK deedL
  split at h
  · rename_i e
    rw [if_pos e]
    split at h
    · rename_i k
      rw [if_pos k, if_neg (fun z => absurd (e.symm.trans z.1) (by decide +kernel))]
      exact ⟨rfl, rfl⟩
    · exact absurd rfl h
  · rename_i e
    rw [if_neg e]
    split at h
    · exact absurd rfl h
    · rename_i k
      rw [if_neg k, if_neg (fun z => k z.2)]
      exact ⟨rfl, rfl⟩
end B

set_option Elab.async false
set_option linter.all false
set_option maxRecDepth 100000
set_option maxHeartbeats 4000000
namespace B
open PySem PySem.Spec PyProof.Rows L2
open SX (S)
/-! ### an own walk -/
def wkv (kd : Str) (pr : Addr) (sd : V) (pf pp : Addr) : List (Key × V) := [(.inr "kind", .str kd), (.inr "rest", .ref pr), (.inr "said", sd), (.inr "found", .ref pf), (.inr "paper", .ref pp)]
section
variable {H : Hp} {pk pr pf pp : Addr} {kd : Str} {sd : V}
theorem kv_kind : valV (wkv kd pr sd pf pp) (.inr "kind" : Key) = some (.str kd) := by kernel_rfl
theorem kv_rest : valV (wkv kd pr sd pf pp) (.inr "rest" : Key) = some (.ref pr) := by kernel_rfl
theorem kv_said : valV (wkv kd pr sd pf pp) (.inr "said" : Key) = some sd := by kernel_rfl
theorem kv_found : valV (wkv kd pr sd pf pp) (.inr "found" : Key) = some (.ref pf) := by kernel_rfl
theorem kv_paper : valV (wkv kd pr sd pf pp) (.inr "paper" : Key) = some (.ref pp) := by kernel_rfl
theorem kp_said {v : V} : putK (wkv kd pr sd pf pp) (.inr "said" : Key) v = wkv kd pr v pf pp := by kernel_rfl
theorem wk_kind (h : H pk = some (.dK (wkv kd pr sd pf pp))) : DGet H pk (.str "kind") (some (.str kd)) := by rw [← kv_kind (kd := kd) (pr := pr) (sd := sd) (pf := pf) (pp := pp)]; exact DGet.k (k := Sum.inr "kind") h
theorem wk_rest (h : H pk = some (.dK (wkv kd pr sd pf pp))) : DGet H pk (.str "rest") (some (.ref pr)) := by rw [← kv_rest (kd := kd) (pr := pr) (sd := sd) (pf := pf) (pp := pp)]; exact DGet.k (k := Sum.inr "rest") h
theorem wk_said (h : H pk = some (.dK (wkv kd pr sd pf pp))) : DGet H pk (.str "said") (some sd) := by rw [← kv_said (kd := kd) (pr := pr) (sd := sd) (pf := pf) (pp := pp)]; exact DGet.k (k := Sum.inr "said") h
theorem wk_found (h : H pk = some (.dK (wkv kd pr sd pf pp))) : DGet H pk (.str "found") (some (.ref pf)) := by rw [← kv_found (kd := kd) (pr := pr) (sd := sd) (pf := pf) (pp := pp)]; exact DGet.k (k := Sum.inr "found") h
theorem wk_paper (h : H pk = some (.dK (wkv kd pr sd pf pp))) : DGet H pk (.str "paper") (some (.ref pp)) := by rw [← kv_paper (kd := kd) (pr := pr) (sd := sd) (pf := pf) (pp := pp)]; exact DGet.k (k := Sum.inr "paper") h
theorem wkp_said {v : V} (h : H pk = some (.dK (wkv kd pr sd pf pp))) : DPut H pk (.str "said") v (upd H pk (.dK (wkv kd pr v pf pp))) := by rw [← kp_said (sd := sd)]; exact DPut.k (k := Sum.inr "said") h (by show 5 < sizeLine; decide)
end
/-- a walk's state -/
structure WkS where
  kd : Str
  rest : List (List Nat)
  sd : Option (List Nat)
  found : List (List Nat)
  paper : List (List Nat × Bool × Bool)
def txV (l : List Nat) : V := .str (S l)
structure WkAt (H : Hp) (pk pr pf pp : Addr) (st : WkS) : Prop where
  ob : H pk = some (.dK (wkv st.kd pr (sdV st.sd) pf pp))
  rs : H pr = some (.lst (st.rest.map txV))
  fd : H pf = some (.lst (st.found.map txV))
  pa : ∃ ts : List Addr, H pp = some (.lst (ts.map V.ref)) ∧ ts.length = st.paper.length ∧ ∀ (i : Nat) (t : Addr) (q : List Nat × Bool × Bool), ts[i]? = some t → st.paper[i]? = some q → H t = some (.tup [txV q.1, .bl q.2.1, .bl q.2.2])
  ne : pr ≠ pf ∧ pr ≠ pp ∧ pf ≠ pp
section
variable {P : Program} {w : World} {K : PySem.W.Frag} {mg : Str → Option Value} {base : Heap}
/-- an own walk, new -/
def spPath : Sp := fun vs H Q _ => ∃ kd : Str, vs = [.str kd] ∧ ∀ (pk pr pf pp : Addr) (H' : Hp), H pk = none → H pr = none → H pf = none → H pp = none → WkAt H' pk pr pf pp ⟨kd, [[]], none, [], []⟩ → Frm [] H H' → Q (.ref pk) H'
theorem big6 {n : Nat} (h : n < 1000000) : n < sizeLine := Nat.lt_of_lt_of_le h (by decide)
/-- what an own round comes to -/
inductive Tld where
  | no | lost | found (l : List Nat)
def TldAt (H : Hp) : Tld → V → Prop
  | .no, v => v = .non
  | .lost, v => ∃ t, v = .ref t ∧ H t = some (.tup [.str "lost"])
  | .found l, v => ∃ t, v = .ref t ∧ H t = some (.tup [.str "found", txV l])
/-- the round's end, if all bits are said -/
def overF (W : Nat) (st : WkS) (l : List Nat) : WkS × Tld := if l.length < W then ({ st with sd := some l }, .no) else ({ st with sd := none, found := st.found ++ [l] }, .found l)
def spOver : Sp := fun vs H Q _ => ∃ (pk pr pf pp pm dt ml : Addr) (W : Nat) (kvs : List (Str × Bool)) (lm : List Str) (sdm : Option (List Nat)) (lk : Int) (st : WkS) (l : List Nat), vs = [.ref pk, .ref pm] ∧ WkAt H pk pr pf pp st ∧ MdAt H pm dt ml W kvs lm sdm lk ∧ st.sd = some l ∧ l.length ≤ 100 ∧ st.found.length < 1000000 ∧
  ∀ (v : V) (H' : Hp), WkAt H' pk pr pf pp (overF W st l).1 → TldAt H' (overF W st l).2 v → Frm [pk, pf] H H' → Q v H'
end
end B

set_option Elab.async false
set_option linter.all false
set_option maxRecDepth 100000
set_option maxHeartbeats 4000000
namespace B
open PySem PySem.Spec PyProof.Rows L2
open SX (S)
/-- begins so -/
def starts (l : List Nat) (x : Str) : Bool := decide (x.cps.toList.take l.length = l)
/-- who listens behind a beginning -/
def begF (kvs : List (Str × Bool)) (kd : Str) (l : List Nat) : List Str := (lisB kvs (decide (kd = "all"))).filter (starts l)
theorem begF_nil {kvs : List (Str × Bool)} {kd : Str} : begF kvs kd [] = lisB kvs (decide (kd = "all")) := by
  unfold begF
  refine List.filter_eq_self.mpr fun x _ => ?_
  exact decide_eq_true rfl
theorem starts_snoc {l : List Nat} {c : Nat} {x : Str} : starts (l ++ [c]) x = (sg l.length c x && starts l x) := by
  unfold starts sg
  rw [Bool.eq_iff_iff, Bool.and_eq_true, decide_eq_true_eq, decide_eq_true_eq, decide_eq_true_eq]
  generalize x.cps.toList = m
  rw [List.length_append, List.length_singleton, List.take_succ]
  constructor
  · intro h
    have hl : (m.take l.length ++ m[l.length]?.toList).length = l.length + 1 := by rw [h]; simp
    cases q : m[l.length]? with
    | none =>
      rw [q] at hl
      simp only [Option.toList, List.append_nil, List.length_take] at hl
      omega
    | some d =>
      rw [q] at h
      have e := List.append_inj' h rfl
      exact ⟨congrArg some (List.singleton_inj.mp e.2), e.1⟩
  · rintro ⟨h1, h2⟩
    rw [h1, h2]
    rfl
theorem begF_snoc {kvs : List (Str × Bool)} {kd : Str} {l : List Nat} {c : Nat} : begF kvs kd (l ++ [c]) = (begF kvs kd l).filter (sg l.length c) := by
  unfold begF
  rw [List.filter_filter]
  apply List.filter_congr
  intro x _
  exact starts_snoc
theorem lisB_sub (kvs : List (Str × Bool)) (all : Bool) : (lisB kvs all).length ≤ kvs.length ∧ ∀ x ∈ lisB kvs all, x ∈ kvs.map (·.1) := by
  unfold lisB
  refine ⟨?_, fun x hx => ?_⟩
  · rw [List.length_map]
    exact List.length_filter_le _ _
  · obtain ⟨p, hp, e⟩ := List.mem_map.mp hx
    exact List.mem_map.mpr ⟨p, (List.mem_filter.mp hp).1, e⟩
theorem begF_sub {kvs : List (Str × Bool)} {kd : Str} {l : List Nat} : (begF kvs kd l).length ≤ kvs.length ∧ ∀ x ∈ begF kvs kd l, x ∈ kvs.map (·.1) ∧ starts l x = true := by
  have h := lisB_sub kvs (decide (kd = "all"))
  refine ⟨Nat.le_trans (List.length_filter_le _ _) h.1, fun x hx => ?_⟩
  obtain ⟨h1, h2⟩ := List.mem_filter.mp hx
  exact ⟨h.2 x h1, h2⟩
/-- a step told: the walk, what comes of its round, who listens, what is said on the wire, the looks -/
def stepF (W : Nat) (kvs : List (Str × Bool)) (lm : List Str) (lk : Int) (st : WkS) : (WkS × Tld) × List Str × Option (List Nat) × Int :=
  match st.sd with
  | none => (overF W { st with rest := st.rest.dropLast } (st.rest.getLast?.getD []), begF kvs st.kd (st.rest.getLast?.getD []), some (st.rest.getLast?.getD []), lk)
  | some l =>
    let z := lm.any (sg l.length 48)
    let o := lm.any (sg l.length 49)
    let st1 : WkS := { st with paper := st.paper ++ [(l, z, o)] }
    if z = false ∧ o = false then (({ st1 with sd := none }, .lost), lm, some l, lk + 1)
    else
      let b := if z = true then 48 else 49
      let st2 : WkS := if z = true ∧ o = true then { st1 with rest := st1.rest ++ [l ++ [49]] } else st1
      (overF W st2 (l ++ [b]), lm.filter (sg l.length b), some (l ++ [b]), lk + 1)
theorem WkAt.stay {T : List Addr} {H H' : Hp} {pk pr pf pp : Addr} {st : WkS} (h : WkAt H pk pr pf pp st) (f : Frm T H H') (n : NL T H) (h1 : pk ∉ T) (h2 : pr ∉ T) (h3 : pf ∉ T) (h4 : pp ∉ T) : WkAt H' pk pr pf pp st := by
  obtain ⟨o1, o2, o3, ⟨ts, o4, o5, o6⟩, n⟩ := h
  exact ⟨f.k _ _ o1 rfl h1, f.k _ _ o2 rfl h2, f.k _ _ o3 rfl h3, ⟨ts, f.k _ _ o4 rfl h4, o5, fun i t q a b => f.at ‹NL T H› (o6 i t q a b) rfl rfl⟩, n⟩
section
variable {P : Program} {w : World} {K : PySem.W.Frag} {mg : Str → Option Value} {base : Heap}
def spStep : Sp := fun vs H Q _ => ∃ (pk pr pf pp pm dt ml : Addr) (W : Nat) (kvs : List (Str × Bool)) (lm : List Str) (sdm : Option (List Nat)) (lk : Int) (st : WkS), vs = [.ref pk, .ref pm] ∧ WkAt H pk pr pf pp st ∧ MdAt H pm dt ml W kvs lm sdm lk ∧ pm ≠ dt ∧ pk ≠ pm ∧ pk ≠ dt ∧ (ml ≠ pr ∧ ml ≠ pf ∧ ml ≠ pp) ∧
  (kvs.map (·.1)).Nodup ∧ kvs.length ≤ 100 ∧ (∀ x ∈ kvs.map (·.1), Num W x) ∧ lm.length ≤ 100 ∧ W ≤ 12 ∧ st.rest.length < 999999 ∧ st.found.length < 999999 ∧ st.paper.length < 999999 ∧
  (st.sd = none → ∃ r g, st.rest = r ++ [g] ∧ g.length ≤ W ∧ Bits g) ∧ (∀ l, st.sd = some l → sdm = some l ∧ l.length < W ∧ Bits l ∧ ∀ x ∈ lm, Beg W l x) ∧
  ∀ (v : V) (ml' : Addr) (H' : Hp), (ml' = ml ∨ H ml' = none) → WkAt H' pk pr pf pp (stepF W kvs lm lk st).1.1 → TldAt H' (stepF W kvs lm lk st).1.2 v → MdAt H' pm dt ml' W kvs (stepF W kvs lm lk st).2.1 (stepF W kvs lm lk st).2.2.1 (stepF W kvs lm lk st).2.2.2 → Frm [pk, pr, pf, pp, pm] H H' → Q v H'
end
end B

set_option Elab.async false
set_option linter.all false
set_option maxRecDepth 100000
set_option maxHeartbeats 4000000
namespace B
open PySem PySem.Spec PyProof.Rows L2
open SX (S)
/-! ### a step keeps a walk well -/
theorem S_list (m : List Nat) : (S m).cps.toList = m := by simp [SX.S]
theorem beg_starts {W : Nat} {l : List Nat} {x : Str} (h : Num W x) (hs : starts l x = true) : Beg W l x := by
  obtain ⟨m, rfl, e, b⟩ := h
  have z := of_decide_eq_true hs
  rw [S_list] at z
  exact ⟨m, rfl, e, b, z⟩
theorem beg_next' {W : Nat} {l : List Nat} {x : Str} {c : Nat} (h : Beg W l x) (hc : sg l.length c x = true) : Beg W (l ++ [c]) x := by
  refine beg_starts h.num ?_
  rw [starts_snoc, hc]
  obtain ⟨m, rfl, e, b, t⟩ := h
  unfold starts
  rw [S_list, t, decide_eq_true rfl]
  rfl
structure WkOk (W : Nat) (lm : List Str) (sdm : Option (List Nat)) (st : WkS) (n : Nat) : Prop where
  rest : ∀ g ∈ st.rest, g.length ≤ W ∧ Bits g
  said : ∀ l, st.sd = some l → sdm = some l ∧ l.length < W ∧ Bits l ∧ ∀ x ∈ lm, Beg W l x
  len : st.rest.length ≤ n ∧ st.found.length ≤ n ∧ st.paper.length ≤ n
  lm : lm.length ≤ 100
theorem WkOk.none_ {W n : Nat} {lm : List Str} {sdm : Option (List Nat)} {st : WkS} (h : WkOk W lm sdm st n) (hr : st.rest ≠ []) : ∃ r g, st.rest = r ++ [g] ∧ g.length ≤ W ∧ Bits g := by
  refine ⟨st.rest.dropLast, st.rest.getLast hr, (List.dropLast_concat_getLast hr).symm, ?_⟩
  exact h.rest _ (List.getLast_mem hr)
theorem over_ok {W n : Nat} {lm : List Str} {st : WkS} {l : List Nat} (hr : ∀ g ∈ st.rest, g.length ≤ W ∧ Bits g) (hl : st.rest.length ≤ n ∧ st.found.length ≤ n - 1 ∧ st.paper.length ≤ n) (hn : 1 ≤ n) (hm : lm.length ≤ 100) (hb : Bits l) (hbeg : ∀ x ∈ lm, Beg W l x) : WkOk W lm (some l) (overF W st l).1 n := by
  unfold overF
  split
  · rename_i h
    exact ⟨hr, fun l' e => by cases e; exact ⟨rfl, h, hb, hbeg⟩, ⟨hl.1, by show st.found.length ≤ n; omega, hl.2.2⟩, hm⟩
  · refine ⟨hr, fun l' e => (by cases e), ⟨hl.1, ?_, hl.2.2⟩, hm⟩
    show (st.found ++ [l]).length ≤ n
    rw [List.length_append, List.length_singleton]
    omega
theorem step_ok {W n : Nat} {kvs : List (Str × Bool)} {lm : List Str} {sdm : Option (List Nat)} {lk : Int} {st : WkS} (h : WkOk W lm sdm st n) (hr : st.sd = none → st.rest ≠ []) (hk : kvs.length ≤ 100) (hkn : ∀ x ∈ kvs.map (·.1), Num W x) :
    WkOk W (stepF W kvs lm lk st).2.1 (stepF W kvs lm lk st).2.2.1 (stepF W kvs lm lk st).1.1 (n + 1) := by
  obtain ⟨kd, rest, sd, found, paper⟩ := st
  obtain ⟨h1, h2, ⟨h3, h4, h5⟩, h6⟩ := id h
  dsimp only at h1 h2 h3 h4 h5
  cases sd with
  | none =>
    obtain ⟨r, g, e, hg, hb⟩ := h.none_ (hr rfl)
    dsimp only at e
    subst e
    have e0 : stepF W kvs lm lk ⟨kd, r ++ [g], none, found, paper⟩ = (overF W ⟨kd, r, none, found, paper⟩ g, begF kvs kd g, some g, lk) := by
      unfold stepF
      simp
    rw [e0]
    have bs := begF_sub (kvs := kvs) (kd := kd) (l := g)
    rw [List.length_append, List.length_singleton] at h3
    refine over_ok (fun q hq => h1 q (List.mem_append_left _ hq)) ⟨?_, ?_, ?_⟩ (by omega) (by show (begF kvs kd g).length ≤ 100; omega) hb fun x hx => beg_starts (hkn x (bs.2 x hx).1) (bs.2 x hx).2
    · show r.length ≤ n + 1
      omega
    · show found.length ≤ n + 1 - 1
      omega
    · show paper.length ≤ n + 1
      omega
  | some l =>
    obtain ⟨e, hlt, hlb, hbeg⟩ := h2 l rfl
    subst e
    have hp : ∀ q : List Nat × Bool × Bool, (paper ++ [q]).length ≤ n + 1 := fun q => by
      rw [List.length_append, List.length_singleton]
      omega
    unfold stepF
    dsimp only
    split
    · exact ⟨h1, fun l' e => (by cases e), ⟨by show rest.length ≤ n + 1; omega, by show found.length ≤ n + 1; omega, hp _⟩, h6⟩
    · have hbit : ∀ z : Bool, (if z = true then 48 else 49) = 48 ∨ (if z = true then 48 else 49) = 49 := fun z => by cases z <;> simp
      have bb : ∀ c : Nat, c = 48 ∨ c = 49 → Bits (l ++ [c]) := fun c hc => hlb.snoc hc
      refine over_ok ?_ ⟨?_, ?_, ?_⟩ (by omega) ?_ (bb _ (hbit _)) ?_
      · split
        · intro g hg
          rcases List.mem_append.mp hg with z | z
          · exact h1 g z
          · rw [List.mem_singleton.mp z, List.length_append, List.length_singleton]
            exact ⟨by omega, bb 49 (.inr rfl)⟩
        · exact h1
      · split
        · show (rest ++ [l ++ [49]]).length ≤ n + 1
          rw [List.length_append, List.length_singleton]
          omega
        · show rest.length ≤ n + 1
          omega
      · split
        · show found.length ≤ n + 1 - 1
          omega
        · show found.length ≤ n + 1 - 1
          omega
      · split
        · exact hp _
        · exact hp _
      · exact Nat.le_trans (List.length_filter_le _ _) h6
      · intro x hx
        obtain ⟨x1, x2⟩ := List.mem_filter.mp hx
        exact beg_next' (hbeg x x1) x2
theorem over_no {W : Nat} {st : WkS} {l : List Nat} (h : (overF W st l).2 = .no) : (overF W st l).1.sd = some l ∧ l.length < W := by
  unfold overF at h ⊢
  split
  · rename_i c
    exact ⟨rfl, c⟩
  · rename_i c
    rw [if_neg c] at h
    cases h
theorem step_no {W : Nat} {kvs : List (Str × Bool)} {lm : List Str} {lk : Int} {st : WkS} (h : (stepF W kvs lm lk st).1.2 = .no) : ∃ l', (stepF W kvs lm lk st).1.1.sd = some l' ∧ l'.length < W ∧ ∀ l, st.sd = some l → l'.length = l.length + 1 := by
  obtain ⟨kd, rest, sd, found, paper⟩ := st
  cases sd with
  | none =>
    have q := over_no (W := W) (st := ⟨kd, rest.dropLast, none, found, paper⟩) (l := rest.getLast?.getD []) h
    exact ⟨_, q.1, q.2, fun l e => by cases e⟩
  | some l =>
    unfold stepF at h ⊢
    dsimp only at h ⊢
    split
    · rename_i c
      rw [if_pos c] at h
      cases h
    · rename_i c
      rw [if_neg c] at h
      have q := over_no h
      exact ⟨_, q.1, q.2, fun l' e => by cases e; rw [List.length_append, List.length_singleton]⟩
/-- steps till a round is over -/
def roundF (W : Nat) (kvs : List (Str × Bool)) : Nat → List Str → Int → WkS → (WkS × Tld) × List Str × Option (List Nat) × Int
  | 0, lm, lk, st => stepF W kvs lm lk st
  | n + 1, lm, lk, st => match (stepF W kvs lm lk st).1.2 with
    | .no => roundF W kvs n (stepF W kvs lm lk st).2.1 (stepF W kvs lm lk st).2.2.2 (stepF W kvs lm lk st).1.1
    | _ => stepF W kvs lm lk st
theorem round_no {W n : Nat} {kvs : List (Str × Bool)} {lm : List Str} {lk : Int} {st : WkS} (h : (stepF W kvs lm lk st).1.2 = .no) : roundF W kvs (n + 1) lm lk st = roundF W kvs n (stepF W kvs lm lk st).2.1 (stepF W kvs lm lk st).2.2.2 (stepF W kvs lm lk st).1.1 := by
  show (match (stepF W kvs lm lk st).1.2 with | .no => _ | _ => _) = _
  rw [h]
theorem round_yes {W n : Nat} {kvs : List (Str × Bool)} {lm : List Str} {lk : Int} {st : WkS} (h : (stepF W kvs lm lk st).1.2 ≠ .no) : roundF W kvs n lm lk st = stepF W kvs lm lk st := by
  cases n with
  | zero => rfl
  | succ n =>
    show (match (stepF W kvs lm lk st).1.2 with | .no => _ | _ => _) = _
    cases q : (stepF W kvs lm lk st).1.2 with
    | no => exact absurd q h
    | lost => rfl
    | found l => rfl
section
variable {P : Program} {w : World} {K : PySem.W.Frag} {mg : Str → Option Value} {base : Heap}
def spRound_ : Sp := fun vs H Q _ => ∃ (pk pr pf pp pm dt ml : Addr) (W n : Nat) (kvs : List (Str × Bool)) (lm : List Str) (sdm : Option (List Nat)) (lk : Int) (st : WkS), vs = [.ref pk, .ref pm] ∧ WkAt H pk pr pf pp st ∧ MdAt H pm dt ml W kvs lm sdm lk ∧ pm ≠ dt ∧ pk ≠ pm ∧ pk ≠ dt ∧ (ml ≠ pr ∧ ml ≠ pf ∧ ml ≠ pp) ∧
  (kvs.map (·.1)).Nodup ∧ kvs.length ≤ 100 ∧ (∀ x ∈ kvs.map (·.1), Num W x) ∧ W ≤ 12 ∧ WkOk W lm sdm st n ∧ n ≤ 900000 ∧ (st.sd = none → st.rest ≠ []) ∧
  ∀ (v : V) (ml' : Addr) (H' : Hp), (ml' = ml ∨ H ml' = none) → WkAt H' pk pr pf pp (roundF W kvs W lm lk st).1.1 → TldAt H' (roundF W kvs W lm lk st).1.2 v → MdAt H' pm dt ml' W kvs (roundF W kvs W lm lk st).2.1 (roundF W kvs W lm lk st).2.2.1 (roundF W kvs W lm lk st).2.2.2 → Frm [pk, pr, pf, pp, pm] H H' → Q v H'
end
end B

set_option Elab.async false
set_option linter.all false
set_option maxRecDepth 100000
set_option maxHeartbeats 4000000
namespace B
open PySem PySem.Spec PyProof.Rows L2
open SX (S)
/-! ### a walk ends -/
/-- of a beginning to go to; of what is said -/
def wR (W : Nat) (g : List Nat) : Nat := 2 ^ (W - g.length + 2) - 1
def wS (W : Nat) (l : List Nat) : Nat := 2 ^ (W - l.length + 2) - 2
def sumR (W : Nat) : List (List Nat) → Nat
  | [] => 0
  | g :: r => wR W g + sumR W r
theorem sumR_app {W : Nat} : ∀ {a b : List (List Nat)}, sumR W (a ++ b) = sumR W a + sumR W b
  | [], b => by show sumR W b = 0 + sumR W b; omega
  | g :: a, b => by
    have := sumR_app (W := W) (a := a) (b := b)
    show wR W g + sumR W (a ++ b) = wR W g + sumR W a + sumR W b
    omega
def meas (W : Nat) (st : WkS) : Nat := sumR W st.rest + (match st.sd with | none => 0 | some l => wS W l)
theorem two_pow {n : Nat} : 4 ≤ 2 ^ (n + 2) := by
  have := Nat.one_le_two_pow (n := n)
  rw [Nat.pow_add]
  omega
theorem over_meas {W : Nat} {st : WkS} {l : List Nat} : meas W (overF W st l).1 ≤ sumR W st.rest + wS W l := by
  unfold overF meas
  split
  · exact Nat.le_refl _
  · show sumR W st.rest + 0 ≤ _
    omega
theorem step_meas {W n : Nat} {kvs : List (Str × Bool)} {lm : List Str} {sdm : Option (List Nat)} {lk : Int} {st : WkS} (h : WkOk W lm sdm st n) (hr : st.sd = none → st.rest ≠ []) : meas W (stepF W kvs lm lk st).1.1 < meas W st := by
  obtain ⟨kd, rest, sd, found, paper⟩ := st
  cases sd with
  | none =>
    obtain ⟨r, g, e, hg, hb⟩ := h.none_ (hr rfl)
    dsimp only at e
    subst e
    have e0 : stepF W kvs lm lk ⟨kd, r ++ [g], none, found, paper⟩ = (overF W ⟨kd, r, none, found, paper⟩ g, begF kvs kd g, some g, lk) := by
      unfold stepF
      simp
    rw [e0]
    have q := over_meas (W := W) (st := ⟨kd, r, none, found, paper⟩) (l := g)
    refine Nat.lt_of_le_of_lt q ?_
    show sumR W r + wS W g < sumR W (r ++ [g]) + 0
    rw [sumR_app]
    show sumR W r + wS W g < sumR W r + (wR W g + 0) + 0
    have := two_pow (n := W - g.length)
    unfold wS wR
    omega
  | some l =>
    obtain ⟨_, hlt, _, _⟩ := h.said l rfl
    unfold stepF
    dsimp only
    have p1 := two_pow (n := W - l.length)
    split
    · show sumR W rest + 0 < sumR W rest + wS W l
      unfold wS
      omega
    · refine Nat.lt_of_le_of_lt over_meas ?_
      have en : W - l.length = (W - (l.length + 1)) + 1 := by omega
      have lc : ∀ c : Nat, (l ++ [c]).length = l.length + 1 := fun c => by rw [List.length_append, List.length_singleton]
      have p2 := two_pow (n := W - (l.length + 1))
      have ep : 2 ^ (W - l.length + 2) = 2 * 2 ^ (W - (l.length + 1) + 2) := by
        rw [en, show W - (l.length + 1) + 1 + 2 = (W - (l.length + 1) + 2) + 1 from by omega, Nat.pow_succ]
        omega
      show sumR W _ + wS W _ < sumR W rest + wS W l
      split
      · show sumR W (rest ++ [l ++ [49]]) + wS W _ < _
        rw [sumR_app]
        show sumR W rest + (wR W (l ++ [49]) + 0) + wS W _ < sumR W rest + wS W l
        unfold wS wR
        rw [lc, lc, ep]
        omega
      · show sumR W rest + wS W _ < sumR W rest + wS W l
        unfold wS
        rw [lc, ep]
        omega
end B

set_option Elab.async false
set_option linter.all false
set_option maxRecDepth 100000
set_option maxHeartbeats 4000000
namespace B
open PySem PySem.Spec PyProof.Rows L2
open SX (S)
/-! ### the program's walk -/
abbrev VC (K : PySem.W.Frag) : Addr := He.ga K "Walk"
def vfl (pw : Addr) (kd : Str) (qr qf qp : Addr) (sd : V) : List (Str × V) := [("_wire", .ref pw), ("_kind", .str kd), ("_row", .ref qr), ("_found", .ref qf), ("_paper", .ref qp), ("_said", sd)]
structure VkAt (K : PySem.W.Frag) (H : Hp) (qk pw qr qf qp : Addr) (st : WkS) : Prop where
  ob : ∃ dx, H qk = some (.ins (VC K) dx (vfl pw st.kd qr qf qp (sdV st.sd)))
  rs : H qr = some (.lst (st.rest.map txV))
  fd : H qf = some (.lst (st.found.map txV))
  pa : ∃ ts : List Addr, H qp = some (.lst (ts.map V.ref)) ∧ ts.length = st.paper.length ∧ ∀ (i : Nat) (t : Addr) (q : List Nat × Bool × Bool), ts[i]? = some t → st.paper[i]? = some q → H t = some (.tup [txV q.1, .bl q.2.1, .bl q.2.2])
  ne : qr ≠ qf ∧ qr ≠ qp ∧ qf ≠ qp
section
variable {pw qr qf qp : Addr} {kd : Str} {sd v : V}
theorem vl_wire : (vfl pw kd qr qf qp sd).lookup ("_wire" : Str) = some (.ref pw) := by kernel_rfl
theorem vl_kind : (vfl pw kd qr qf qp sd).lookup ("_kind" : Str) = some (.str kd) := by kernel_rfl
theorem vl_row : (vfl pw kd qr qf qp sd).lookup ("_row" : Str) = some (.ref qr) := by kernel_rfl
theorem vl_found : (vfl pw kd qr qf qp sd).lookup ("_found" : Str) = some (.ref qf) := by kernel_rfl
theorem vl_paper : (vfl pw kd qr qf qp sd).lookup ("_paper" : Str) = some (.ref qp) := by kernel_rfl
theorem vl_said : (vfl pw kd qr qf qp sd).lookup ("_said" : Str) = some sd := by kernel_rfl
theorem vp_said : putF "_said" v (vfl pw kd qr qf qp sd) = vfl pw kd qr qf qp v := by kernel_rfl
theorem vp_new : putF "_said" .non (putF "_paper" (.ref qp) (putF "_found" (.ref qf) (putF "_row" (.ref qr) (putF "_kind" (.str kd) (putF "_wire" (.ref pw) []))))) = vfl pw kd qr qf qp .non := by kernel_rfl
theorem vl_len : (vfl pw kd qr qf qp sd).length < 1000 := by show 6 < 1000; decide
theorem vx_step : (vfl pw kd qr qf qp sd).lookup ("step" : Str) = none := by kernel_rfl
theorem vx_round : (vfl pw kd qr qf qp sd).lookup ("go_round" : Str) = none := by kernel_rfl
theorem vx_all : (vfl pw kd qr qf qp sd).lookup ("go_all" : Str) = none := by kernel_rfl
theorem vx_left : (vfl pw kd qr qf qp sd).lookup ("left" : Str) = none := by kernel_rfl
theorem vx_found : (vfl pw kd qr qf qp sd).lookup ("found" : Str) = none := by kernel_rfl
theorem vx_paper : (vfl pw kd qr qf qp sd).lookup ("paper" : Str) = none := by kernel_rfl
theorem vx_under : (vfl pw kd qr qf qp sd).lookup ("is_under_way" : Str) = none := by kernel_rfl
theorem vx_begin : (vfl pw kd qr qf qp sd).lookup ("_begin_round" : Str) = none := by kernel_rfl
theorem vx_say : (vfl pw kd qr qf qp sd).lookup ("_say" : Str) = none := by kernel_rfl
end
section
variable {P : Program} {w : World} {K : PySem.W.Frag} {mg : Str → Option Value} {base : Heap}
theorem vcl (T : Txt P w K mg base) : Cls K (VC K) := He.cls_ok (T.t.fact 70 (f := .cls "Walk"))
theorem vn_wire (T : Txt P w K mg base) : NoAttr K (VC K) "_wire" := He.noat_ok (T.t.fact 72 (f := .noat "Walk" "_wire"))
theorem vn_kind (T : Txt P w K mg base) : NoAttr K (VC K) "_kind" := He.noat_ok (T.t.fact 73 (f := .noat "Walk" "_kind"))
theorem vn_row (T : Txt P w K mg base) : NoAttr K (VC K) "_row" := He.noat_ok (T.t.fact 74 (f := .noat "Walk" "_row"))
theorem vn_found (T : Txt P w K mg base) : NoAttr K (VC K) "_found" := He.noat_ok (T.t.fact 75 (f := .noat "Walk" "_found"))
theorem vn_paper (T : Txt P w K mg base) : NoAttr K (VC K) "_paper" := He.noat_ok (T.t.fact 76 (f := .noat "Walk" "_paper"))
theorem vn_said (T : Txt P w K mg base) : NoAttr K (VC K) "_said" := He.noat_ok (T.t.fact 77 (f := .noat "Walk" "_said"))
end
section
variable {X : Cx}
theorem mk_Over (T : Txt X.prog X.w X.K X.mg X.base) {m : Str} {j : Nat} {p p2 pos : Pos} (hg : Gl X "Over" := by rfl) : PMk X (.Call (.Name "Over" p) [.Constant (.str m) j p2] [] pos) (fun _ H Q => Q (.ref (He.ga X.K "Over")) none H) := by
  obtain ⟨a, b, c, d⟩ := He.exc_ok (T.t.fact 92 (f := .exc "Over"))
  exact pmk_own PySem.F.excBase_ValueError a (g_Over T) b (raises_own c d) hg
end
theorem VkAt.keep {K : PySem.W.Frag} {S : List Addr} {H H' : Hp} {qk pw qr qf qp : Addr} {st : WkS} (h : VkAt K H qk pw qr qf qp st) (f : FrT K S H H') (n : NL S H) (h1 : qk ∉ S) (h2 : qr ∉ S) (h3 : qf ∉ S) (h4 : qp ∉ S) : VkAt K H' qk pw qr qf qp st := by
  obtain ⟨⟨dx, o1⟩, o2, o3, ⟨ts, o4, o5, o6⟩, ne⟩ := h
  exact ⟨⟨dx, f.k _ _ o1 rfl h1⟩, f.k _ _ o2 rfl h2, f.k _ _ o3 rfl h3, ⟨ts, f.k _ _ o4 rfl h4, o5, fun i t q a b => f.at n (o6 i t q a b) rfl rfl⟩, ne⟩
section
variable {P : Program} {w : World} {K : PySem.W.Frag} {mg : Str → Option Value} {base : Heap}
/-! ### a walk made -/
def spVNew (K : PySem.W.Frag) : Sp := fun vs H Q _ => ∃ (qk dx pw : Addr) (kd : Str), vs = [.ref qk, .ref pw, .str kd] ∧ (kd = "all" ∨ kd = "alarm") ∧ H qk = some (.ins (VC K) dx []) ∧ ∀ (qr qf qp : Addr) (H' : Hp), H qr = none → H qf = none → H qp = none → VkAt K H' qk pw qr qf qp ⟨kd, [[]], none, [], []⟩ → Frm [qk] H H' → Q .non H'
theorem k_Walk (T : Txt P w K mg base) : MakX CX0 P w K mg base 2 "Walk" (VC K) (spVNew K) := by
  obtain ⟨fd, F⟩ := T.t.def_ 17 (d := d_Walk_init)
  refine ⟨_, fd, _, He.mkr_ok (T.t.fact 71 (f := .mkr "Walk")), F.ok sc_Walk_init (fun vs H Q E h => ?_) (fun cdv A outer s H vs Q E hr h => ?_), g_Walk T, F.bindsN fun _ _ _ _ _ _ us hl => match us, hl with | [_, _, _], _ => rfl⟩
  · obtain ⟨qk, dx, pw, kd, rfl, _⟩ := h
    rfl
  · obtain ⟨qk, dx, pw, kd, rfl, hk, h1, k⟩ := h
    refine ⟨_, PSs.nox (pss_cons (ps_expr (pe_cx (c_require_kind T) hr (by decide) rfl pass0 (pa_cons (pv 2) pa_nil)))
    (pss_cons (ps_fld (pv 0) (pv 1) rfl)
    (pss_cons (ps_fld (pv 0) (pv 2) rfl)
    (pss_cons (ps_fld (pv 0) (pe_lst (pa_cons pe_str pa_nil)) rfl)
    (pss_cons (ps_fld (pv 0) (pe_lst pa_nil) rfl)
    (pss_cons (ps_fld (pv 0) (pe_lst pa_nil) rfl)
    (pss_one (ps_fld (pv 0) pe_non rfl)))))))), ?_⟩
    refine ⟨_, rfl, kd, rfl, hk, ?_⟩
    refine ⟨_, rfl, _, rfl, qk, _, dx, _, rfl, h1, vcl T, vn_wire T, by show 0 < 1000; decide, ?_⟩
    refine ⟨_, rfl, _, rfl, qk, _, dx, _, rfl, upd_same, vcl T, vn_kind T, by show 1 < 1000; decide, ?_⟩
    rw [upd_upd]
    refine ⟨by show 1 ≤ sizeLine; decide, fun qr hqr => ?_⟩
    have n1 : qk ≠ qr := ne_of_none upd_same hqr
    refine ⟨_, rfl, qk, _, dx, _, rfl, by rw [upd_ne n1]; exact upd_same, vcl T, vn_row T, by show 2 < 1000; decide, Nat.zero_le _, fun qf hqf => ?_⟩
    have n2 : qk ≠ qf := ne_of_none upd_same hqf
    have n3 : qr ≠ qf := ne_of_none (by rw [upd_ne n1.symm]; exact upd_same) hqf
    refine ⟨_, rfl, qk, _, dx, _, rfl, by rw [upd_ne n2]; exact upd_same, vcl T, vn_found T, by show 3 < 1000; decide, Nat.zero_le _, fun qp hqp => ?_⟩
    have n4 : qk ≠ qp := ne_of_none upd_same hqp
    have n5 : qf ≠ qp := ne_of_none (by rw [upd_ne n2.symm]; exact upd_same) hqp
    have n6 : qr ≠ qp := ne_of_none (by rw [upd_ne n1.symm, upd_ne n3, upd_ne n1.symm]; exact upd_same) hqp
    refine ⟨_, rfl, qk, _, dx, _, rfl, by rw [upd_ne n4]; exact upd_same, vcl T, vn_paper T, by show 4 < 1000; decide, ?_⟩
    refine ⟨_, rfl, qk, _, dx, _, rfl, upd_same, vcl T, vn_said T, by show 5 < 1000; decide, ?_⟩
    rw [vp_new]
    have r1 : H qr = none := upd_back hqr
    have r2 : H qf = none := upd_back (upd_back (upd_back hqf))
    have r3 : H qp = none := upd_back (upd_back (upd_back (upd_back (upd_back hqp))))
    have es : txV [] = V.str "" := congrArg V.str empty_S.symm
    refine k qr qf qp _ r1 r2 r3 ⟨⟨dx, upd_same⟩, ?_, ?_, ⟨[], ?_, rfl, fun i t q ht => by simp at ht⟩, n3, n6, n5⟩ (((((((((Frm.refl _ _).put (by simp)).new r1).put (by simp)).new r2).put (by simp)).new r3).put (by simp)).put (by simp))
    · rw [upd_ne n1.symm, upd_ne n1.symm, upd_ne n6, upd_ne n1.symm, upd_ne n3, upd_ne n1.symm, upd_same]
      show _ = some (HO.lst [txV []])
      rw [es]
    · rw [upd_ne n2.symm, upd_ne n2.symm, upd_ne n5, upd_ne n2.symm, upd_same]
      rfl
    · rw [upd_ne n4.symm, upd_ne n4.symm, upd_same]
      rfl
/-! ### what is told -/
def spVList (K : PySem.W.Frag) (f : WkS → List (List Nat)) : Sp := fun vs H Q _ => ∃ (qk pw qr qf qp : Addr) (st : WkS), vs = [.ref qk] ∧ VkAt K H qk pw qr qf qp st ∧ ∀ (p : Addr) (H' : Hp), H p = none → H' p = some (.lst ((f st).map txV)) → Frm [] H H' → Q (.ref p) H'
theorem m_Walk_left (T : Txt P w K mg base) : MetX CX0 P w K mg base 1 (VC K) "left" (spVList K WkS.rest) := by
  obtain ⟨fd, F⟩ := T.t.def_ 20 (d := d_Walk_left)
  refine ⟨_, fd, _, vcl T, He.meth_ok (T.t.fact 80 (f := .meth "Walk" "left")), F.ok sc_Walk_left (fun vs H Q E h => ?_) (fun cdv A outer s H vs Q E hr h => ?_), F.bindsN fun _ _ _ _ _ _ us hl => match us, hl with | [_], _ => rfl⟩
  · obtain ⟨qk, pw, qr, qf, qp, st, rfl, _⟩ := h
    rfl
  · obtain ⟨qk, pw, qr, qf, qp, st, rfl, ⟨⟨dx, o1⟩, o2, o3, o4, ne⟩, k⟩ := h
    refine ⟨_, PSs.nox (pss_one (ps_ret (pe_callTy call_list_of (by rfl) (n_list T) (by decide +kernel) (pa_cons (pe_fld (pv 0) (by rfl)) pa_nil)))), ?_⟩
    exact ⟨_, rfl, qk, _, dx, _, _, rfl, o1, vcl T, vn_row T, vl_row, qr, _, rfl, .inl (SqL.of o2), fun p hp => k p _ hp upd_same (Frm.of (same_upd hp))⟩
theorem m_Walk_found (T : Txt P w K mg base) : MetX CX0 P w K mg base 1 (VC K) "found" (spVList K WkS.found) := by
  obtain ⟨fd, F⟩ := T.t.def_ 21 (d := d_Walk_found)
  refine ⟨_, fd, _, vcl T, He.meth_ok (T.t.fact 81 (f := .meth "Walk" "found")), F.ok sc_Walk_found (fun vs H Q E h => ?_) (fun cdv A outer s H vs Q E hr h => ?_), F.bindsN fun _ _ _ _ _ _ us hl => match us, hl with | [_], _ => rfl⟩
  · obtain ⟨qk, pw, qr, qf, qp, st, rfl, _⟩ := h
    rfl
  · obtain ⟨qk, pw, qr, qf, qp, st, rfl, ⟨⟨dx, o1⟩, o2, o3, o4, ne⟩, k⟩ := h
    refine ⟨_, PSs.nox (pss_one (ps_ret (pe_callTy call_list_of (by rfl) (n_list T) (by decide +kernel) (pa_cons (pe_fld (pv 0) (by rfl)) pa_nil)))), ?_⟩
    exact ⟨_, rfl, qk, _, dx, _, _, rfl, o1, vcl T, vn_found T, vl_found, qf, _, rfl, .inl (SqL.of o3), fun p hp => k p _ hp upd_same (Frm.of (same_upd hp))⟩
/-- the paper, as a list of rows -/
def PapAt (H : Hp) (p : Addr) (pa : List (List Nat × Bool × Bool)) : Prop := ∃ ts : List Addr, H p = some (.lst (ts.map V.ref)) ∧ ts.length = pa.length ∧ ∀ (i : Nat) (t : Addr) (q : List Nat × Bool × Bool), ts[i]? = some t → pa[i]? = some q → H t = some (.tup [txV q.1, .bl q.2.1, .bl q.2.2])
def spVPaper (K : PySem.W.Frag) : Sp := fun vs H Q _ => ∃ (qk pw qr qf qp : Addr) (st : WkS), vs = [.ref qk] ∧ VkAt K H qk pw qr qf qp st ∧ ∀ (p : Addr) (H' : Hp), H p = none → PapAt H' p st.paper → Frm [] H H' → Q (.ref p) H'
def spVUnder (K : PySem.W.Frag) : Sp := fun vs H Q _ => ∃ (qk pw qr qf qp : Addr) (st : WkS), vs = [.ref qk] ∧ VkAt K H qk pw qr qf qp st ∧ Q (.bl st.sd.isSome) H
end
end B

set_option Elab.async false
set_option linter.all false
set_option maxRecDepth 100000
set_option maxHeartbeats 4000000
namespace B
open PySem PySem.Spec PyProof.Rows L2
open SX (S)
/-- has these signs from a place on -/
def behind (n : Nat) (g : List Nat) (x : Str) : Bool := decide ((x.cps.toList.drop n).take g.length = g)
theorem behind_nil {n : Nat} {x : Str} : behind n [] x = true := decide_eq_true rfl
theorem behind_snoc {n : Nat} {l : List Nat} {c : Nat} {x : Str} : behind n (l ++ [c]) x = (sg (n + l.length) c x && behind n l x) := by
  unfold behind sg
  rw [Bool.eq_iff_iff, Bool.and_eq_true, decide_eq_true_eq, decide_eq_true_eq, decide_eq_true_eq, ← List.getElem?_drop]
  generalize x.cps.toList.drop n = m
  rw [List.length_append, List.length_singleton, List.take_succ]
  constructor
  · intro h
    have hl : (m.take l.length ++ m[l.length]?.toList).length = l.length + 1 := by rw [h]; simp
    cases q : m[l.length]? with
    | none =>
      rw [q] at hl
      simp only [Option.toList, List.append_nil, List.length_take] at hl
      omega
    | some d =>
      rw [q] at h
      have e := List.append_inj' h rfl
      exact ⟨congrArg some (List.singleton_inj.mp e.2), e.1⟩
  · rintro ⟨h1, h2⟩
    rw [h1, h2]
    rfl
theorem behind_step {n : Nat} {l : List Nat} {c : Nat} {lw : List Str} : lw.filter (behind n (l ++ [c])) = (lw.filter (behind n l)).filter (sg (n + l.length) c) := by
  rw [List.filter_filter]
  exact List.filter_congr fun x _ => behind_snoc
theorem behind_all {n : Nat} {lw : List Str} : lw.filter (behind n []) = lw := List.filter_eq_self.mpr fun x _ => behind_nil
theorem behind_zero {g : List Nat} {x : Str} : behind 0 g x = starts g x := by
  unfold behind starts
  rw [List.drop_zero]
theorem behind_one {n c : Nat} {x : Str} : behind n [c] x = sg n c x := by
  have := behind_snoc (n := n) (l := []) (c := c) (x := x)
  rw [behind_nil, Bool.and_true] at this
  exact this
theorem vk_ne {K : PySem.W.Frag} {H : Hp} {qk pw qr qf qp dh dl : Addr} {st : WkS} {W : Nat} {kvs : List (Str × Bool)} {lw : List Str} {ms lk : Int} (h : VkAt K H qk pw qr qf qp st) (g : WiAt K H pw dh dl W kvs lw ms lk) : qk ≠ pw := by
  intro e
  obtain ⟨⟨dx, o1⟩, _⟩ := h
  obtain ⟨⟨dw, w1⟩, _⟩ := g
  subst e
  rw [o1] at w1
  have z := HO.ins.inj (Option.some.inj w1)
  have y := congrArg List.length z.2.2
  cases y
/-- tuples stay -/
def TupK (H H' : Hp) : Prop := ∀ t vs, H t = some (.tup vs) → H' t = some (.tup vs)
theorem TupK.put {H : Hp} {p : Addr} {o o' : HO} (h : H p = some o) (n : ∀ vs, o ≠ .tup vs) : TupK H (upd H p o') := fun t vs e => by
  rw [upd_ne (fun z => by rw [z, h] at e; exact n vs (Option.some.inj e))]
  exact e
theorem TupK.new {H : Hp} {p : Addr} {o' : HO} (h : H p = none) : TupK H (upd H p o') := fun t vs e => same_upd h _ _ e
theorem TupK.trans {H H1 H2 : Hp} (a : TupK H H1) (b : TupK H1 H2) : TupK H H2 := fun t vs e => b t vs (a t vs e)
theorem VkAt.set {K : PySem.W.Frag} {H H' : Hp} {qk pw qr qf qp : Addr} {st : WkS} (st' : WkS) (h : VkAt K H qk pw qr qf qp st) (h1 : ∃ dx, H' qk = some (.ins (VC K) dx (vfl pw st'.kd qr qf qp (sdV st'.sd)))) (h2 : H' qr = some (.lst (st'.rest.map txV))) (h3 : H' qf = some (.lst (st'.found.map txV))) (h4 : H' qp = H qp) (h5 : st'.paper = st.paper) (h6 : TupK H H') : VkAt K H' qk pw qr qf qp st' := by
  obtain ⟨_, _, _, ⟨ts, o4, o5, o6⟩, ne⟩ := h
  refine ⟨h1, h2, h3, ⟨ts, by rw [h4]; exact o4, by rw [h5]; exact o5, fun i t q a b => ?_⟩, ne⟩
  rw [h5] at b
  exact h6 _ _ (o6 i t q a b)
theorem VkAt.nek {K : PySem.W.Frag} {H : Hp} {qk pw qr qf qp : Addr} {st : WkS} (h : VkAt K H qk pw qr qf qp st) : qk ≠ qr ∧ qk ≠ qf ∧ qk ≠ qp := by
  obtain ⟨⟨dx, o1⟩, o2, o3, ⟨ts, o4, _⟩, _⟩ := h
  exact ⟨ne_of o1 o2 (by intro z; cases z), ne_of o1 o3 (by intro z; cases z), ne_of o1 o4 (by intro z; cases z)⟩
theorem VkAt.old {K : PySem.W.Frag} {H : Hp} {qk pw qr qf qp b : Addr} {st : WkS} (h : VkAt K H qk pw qr qf qp st) (hb : H b = none) : b ≠ qk ∧ b ≠ qr ∧ b ≠ qf ∧ b ≠ qp := by
  obtain ⟨⟨dx, o1⟩, o2, o3, ⟨ts, o4, _⟩, _⟩ := h
  exact ⟨(ne_of_none o1 hb).symm, (ne_of_none o2 hb).symm, (ne_of_none o3 hb).symm, (ne_of_none o4 hb).symm⟩
/-- what is said changed -/
theorem VkAt.say {K : PySem.W.Frag} {H : Hp} {qk pw qr qf qp dx : Addr} {st : WkS} {sd : Option (List Nat)} (h : VkAt K H qk pw qr qf qp st) : VkAt K (upd H qk (.ins (VC K) dx (vfl pw st.kd qr qf qp (sdV sd)))) qk pw qr qf qp { st with sd := sd } := by
  obtain ⟨n1, n2, n3⟩ := h.nek
  obtain ⟨⟨dx', o1⟩, o2, o3, _⟩ := id h
  exact h.set _ ⟨dx, upd_same⟩ (by rw [upd_ne n1.symm]; exact o2) (by rw [upd_ne n2.symm]; exact o3) (by rw [upd_ne n3.symm]) rfl (TupK.put o1 (by intro vs z; cases z))
theorem VkAt.row {K : PySem.W.Frag} {H : Hp} {qk pw qr qf qp : Addr} {st : WkS} {r : List (List Nat)} (h : VkAt K H qk pw qr qf qp st) : VkAt K (upd H qr (.lst (r.map txV))) qk pw qr qf qp { st with rest := r } := by
  obtain ⟨n1, n2, n3⟩ := h.nek
  obtain ⟨⟨dx', o1⟩, o2, o3, _, m1, m2, m3⟩ := id h
  exact h.set _ ⟨dx', by rw [upd_ne n1]; exact o1⟩ upd_same (by rw [upd_ne m1.symm]; exact o3) (by rw [upd_ne m2.symm]) rfl (TupK.put o2 (by intro vs z; cases z))
theorem VkAt.fnd {K : PySem.W.Frag} {H : Hp} {qk pw qr qf qp : Addr} {st : WkS} {r : List (List Nat)} (h : VkAt K H qk pw qr qf qp st) : VkAt K (upd H qf (.lst (r.map txV))) qk pw qr qf qp { st with found := r } := by
  obtain ⟨n1, n2, n3⟩ := h.nek
  obtain ⟨⟨dx', o1⟩, o2, o3, _, m1, m2, m3⟩ := id h
  exact h.set _ ⟨dx', by rw [upd_ne n2]; exact o1⟩ (by rw [upd_ne m1]; exact o2) upd_same (by rw [upd_ne m3.symm]) rfl (TupK.put o3 (by intro vs z; cases z))
theorem VkAt.new {K : PySem.W.Frag} {H : Hp} {qk pw qr qf qp p : Addr} {o : HO} {st : WkS} (h : VkAt K H qk pw qr qf qp st) (hp : H p = none) : VkAt K (upd H p o) qk pw qr qf qp st := by
  obtain ⟨⟨dx', o1⟩, o2, o3, ⟨ts, o4, _⟩, _⟩ := id h
  exact h.set _ ⟨dx', same_upd hp _ _ o1⟩ (same_upd hp _ _ o2) (same_upd hp _ _ o3) (by rw [same_upd hp _ _ o4, o4]) rfl (TupK.new hp)
/-- a look written down -/
theorem VkAt.pap {K : PySem.W.Frag} {H : Hp} {qk pw qr qf qp t : Addr} {st : WkS} {ts : List Addr} {q : List Nat × Bool × Bool} (h : VkAt K H qk pw qr qf qp st) (hts : H qp = some (.lst (ts.map V.ref))) (ht : H t = none) : VkAt K (upd (upd H t (.tup [txV q.1, .bl q.2.1, .bl q.2.2])) qp (.lst (ts.map V.ref ++ [.ref t]))) qk pw qr qf qp { st with paper := st.paper ++ [q] } := by
  obtain ⟨n1, n2, n3⟩ := h.nek
  obtain ⟨⟨dx', o1⟩, o2, o3, ⟨ts', o4, o5, o6⟩, m1, m2, m3⟩ := id h
  obtain ⟨_, _, _, ntp⟩ := h.old ht
  have e : ts' = ts := by
    rw [hts] at o4
    have z := HO.lst.inj (Option.some.inj o4)
    exact (List.map_inj_right (fun a b y => V.ref.inj y)).mp z.symm
  subst e
  refine ⟨⟨dx', by rw [upd_ne n3]; exact same_upd ht _ _ o1⟩, by rw [upd_ne m2]; exact same_upd ht _ _ o2, by rw [upd_ne m3]; exact same_upd ht _ _ o3, ⟨ts' ++ [t], by rw [upd_same, List.map_append]; rfl, by rw [List.length_append, List.length_append, o5]; rfl, fun i t' q' a b => ?_⟩, m1, m2, m3⟩
  by_cases hi : i < ts'.length
  · rw [List.getElem?_append_left hi] at a
    rw [List.getElem?_append_left (by rw [← o5]; exact hi)] at b
    have z := o6 i t' q' a b
    rw [upd_ne (ne_of z o4 (by intro z; cases z))]
    exact same_upd ht _ _ z
  · have e : i = ts'.length := by
      have := (List.getElem?_eq_some_iff.mp a).1
      rw [List.length_append, List.length_singleton] at this
      omega
    subst e
    rw [List.getElem?_append_right (Nat.le_refl _), Nat.sub_self] at a
    rw [o5, List.getElem?_append_right (Nat.le_refl _), Nat.sub_self] at b
    obtain rfl := Option.some.inj a
    obtain rfl := Option.some.inj b
    rw [upd_ne ntp, upd_same]
theorem VkAt.nl5 {K : PySem.W.Frag} {H : Hp} {qk pw qr qf qp dh dl : Addr} {st : WkS} {W : Nat} {kvs : List (Str × Bool)} {lw : List Str} {ms lk : Int} (h : VkAt K H qk pw qr qf qp st) (g : WiAt K H pw dh dl W kvs lw ms lk) : dh ≠ qk ∧ dh ≠ qr ∧ dh ≠ qf ∧ dh ≠ qp ∧ pw ≠ qr ∧ pw ≠ qf ∧ pw ≠ qp ∧ dl ≠ qk ∧ pw ≠ dl := by
  obtain ⟨⟨dx, o1⟩, o2, o3, ⟨ts, o4, _⟩, _⟩ := h
  obtain ⟨⟨dw, w1⟩, w2, w3⟩ := g
  exact ⟨ne_of w3 o1 (by intro z; cases z), ne_of w3 o2 (by intro z; cases z), ne_of w3 o3 (by intro z; cases z), ne_of w3 o4 (by intro z; cases z), ne_of w1 o2 (by intro z; cases z), ne_of w1 o3 (by intro z; cases z), ne_of w1 o4 (by intro z; cases z), ne_of w2 o1 (by intro z; cases z), ne_of w1 w2 (by intro z; cases z)⟩
section
variable {P : Program} {w : World} {K : PySem.W.Frag} {mg : Str → Option Value} {base : Heap}
/-- signs said -/
def spVSay (K : PySem.W.Frag) : Sp := fun vs H Q _ => ∃ (qk pw qr qf qp dh dl : Addr) (W : Nat) (kvs : List (Str × Bool)) (lw : List Str) (lk : Int) (st : WkS) (l g : List Nat), vs = [.ref qk, .str (S g)] ∧ VkAt K H qk pw qr qf qp st ∧ WiAt K H pw dh dl W kvs lw (l.length : Nat) lk ∧ st.sd = some l ∧ l.length + g.length ≤ W ∧ W ≤ 12 ∧ Bits g ∧ (∀ x ∈ lw, Num W x) ∧ lw.length ≤ 100 ∧ st.found.length < 1000000 ∧ (dl ≠ qr ∧ dl ≠ qf ∧ dl ≠ qp) ∧
  ∀ (v : V) (dl' : Addr) (H' : Hp), (dl' = dl ∨ H dl' = none) → VkAt K H' qk pw qr qf qp (overF W st (l ++ g)).1 → TldAt H' (overF W st (l ++ g)).2 v → WiAt K H' pw dh dl' W kvs (lw.filter (behind l.length g)) ((l ++ g).length : Nat) lk → Frm [qk, qf, pw] H H' → Q v H'
theorem m_Walk__say (T : Txt P w K mg base) : MetX CX0 P w K mg base 3 (VC K) "_say" (spVSay K) := by
  obtain ⟨fd, F⟩ := T.t.def_ 23 (d := d_Walk__say)
  refine ⟨_, fd, _, vcl T, He.meth_ok (T.t.fact 83 (f := .meth "Walk" "_say")), F.ok sc_Walk__say (fun vs H Q E h => ?_) (fun cdv A outer s H vs Q E hr h => ?_), F.bindsN fun _ _ _ _ _ _ us hl => match us, hl with | [_, _], _ => rfl⟩
  · obtain ⟨qk, pw, qr, qf, qp, dh, dl, W, kvs, lw, lk, st, l, g, rfl, _⟩ := h
    rfl
  · obtain ⟨qk, pw, qr, qf, qp, dh, dl, W, kvs, lw, lk, st, l, g, rfl, wk, wa, hsd, hlen, hW, hb, hnum, hll, hfl, ⟨nr, nf, np⟩, k⟩ := h
    have nkw := vk_ne wk wa
    obtain ⟨d1, d2, d3, d4, p2, p3, p4, d5, p5⟩ := wk.nl5 wa
    obtain ⟨⟨dx, o1⟩, o2, o3, _⟩ := id wk
    rw [hsd] at o1
    refine ⟨_, PSs.nox (pss_cons (ps_for PassesOwn.never rfl (pi_str (pv 1)) (pg_name (i := 2) sc_Walk__say.nd rfl (Or.inl rfl))
      (pss_one (ps_expr (pe_mx (m_Wire_say T) hr (by decide) (pe_fld (pv 0) (by rfl)) (passes_call (E := fun _ _ _ => False) L2.takes0 (fun _ _ _ _ h => h)) (pa_cons (pe_callTy call_int_str (by rfl) (n_int T) (by decide +kernel) (pa_cons (pv 2) pa_nil)) pa_nil)))))
    (pss_cons (ps_set (i := 3) sc_Walk__say.nd rfl (Or.inl rfl) (pe_op op_add_str (pe_fld (pv 0) (by rfl)) (pv 1)))
    (pss_cons (ps_if (pt_cmpR op_lt (pe_callB call_len_str (by rfl) (n_len T) PySem.boot_len (pa_cons (pv 3) pa_nil)) (pe_fld (pe_fld (pv 0) (by rfl)) (by rfl)) (nomark _))
      (pss_cons (ps_fld (pv 0) (pv 3) rfl)
      (pss_one (ps_ret pe_non)))
      pss_nil)
    (pss_cons (ps_fld (pv 0) pe_non rfl)
    (pss_cons (ps_expr (pe_bm PySem.F.plainAttrs_list PySem.F.slot_list_append PySem.F.type_list_append mt_append (pe_fld (pv 0) (by rfl)) (pa_cons (pv 3) pa_nil)))
    (pss_one (ps_ret (pe_tup (pa_cons pe_str (pa_cons (pv 3) pa_nil)))))))))), ?_⟩
    have esz : (S g).cps.size = g.length := by rw [← SX.S_len]; rfl
    refine ⟨_, rfl, S g, rfl, for_it walk_str (fun i σ H' => ∃ (v2 : Option V) (dl' : Addr), σ = [some (.ref qk), some (.str (S g)), v2, none] ∧ WiAt K H' pw dh dl' W kvs (lw.filter (behind l.length (g.take i))) ((l.length + i : Nat) : Int) lk ∧ Frm [pw] H H' ∧ (dl' = dl ∨ H dl' = none))
      ⟨none, dl, rfl, by rw [List.take_zero, behind_all]; exact wa, Frm.refl _ _, .inl rfl⟩ (fun _ _ _ _ _ => trivial) ?_ ?_⟩
    · rintro i x σ H3 H4 hi ⟨v2, dl', rfl, wa3, f3, hm3⟩ ⟨rfl, c, hc, rfl⟩
      rw [esz] at hi
      have hc' : g[i]? = some c := by
        have z : (S g).cps.toList[i]? = some c := by rw [Array.getElem?_toList]; exact hc
        have e2 : (S g).cps.toList = g := by simp [SX.S]
        rw [e2] at z
        exact z
      have two : ∃ bit : Int, (bit = 0 ∨ bit = 1) ∧ PySem.intText? (S [c]) = some bit ∧ 48 + bit.toNat = c := by
        rcases hb c (List.mem_of_getElem? hc') with rfl | rfl
        · exact ⟨0, .inl rfl, by decide +kernel, rfl⟩
        · exact ⟨1, .inr rfl, by decide +kernel, rfl⟩
      obtain ⟨bit, hbit, t1, t2⟩ := two
      have g1 := f3.k _ _ o1 rfl (by simpa using nkw)
      obtain ⟨⟨dw3, u1⟩, u2, u3⟩ := id wa3
      have htl : (g.take i).length = i := by rw [List.length_take]; omega
      have hfl := List.length_filter_le (behind l.length (g.take i)) lw
      refine ⟨_, rfl, qk, _, dx, _, _, rfl, g1, vcl T, vn_wire T, vl_wire, pw, dw3, _, rfl, u1, wx_say, _, rfl, S [c], bit, rfl, t1, by rw [SX.S_len]; show 1 ≤ 640; decide, pw, dh, dl', bit, W, kvs, _, _, lk, rfl, hbit, wa3, hW, by omega, by omega, fun x hx => hnum x (List.mem_filter.mp hx).1, by omega, fun z => absurd z (by omega), fun _ dl4 H5 h4 wa4 f4 => ?_⟩
      refine ⟨_, dl4, rfl, ?_, f3.trans f4, .inr (f3.b _ h4)⟩
      rw [Int.toNat_natCast, t2] at wa4
      rw [take_snoc hc', behind_step, htl]
      exact wa4
    · rintro σ H3 ⟨v2, dl', rfl, wa3, f3, hm3⟩
      rw [esz, List.take_length] at wa3
      have nl1 := wa.nl1
      have wk3 := wk.keep (f3.toT nl1 (K := K)) nl1 (by simpa using nkw) (by simpa using p2.symm) (by simpa using p3.symm) (by simpa using p4.symm)
      obtain ⟨⟨dx3, g1⟩, g2, g3, _⟩ := id wk3
      have g1 : H3 qk = some (.ins (VC K) dx3 (vfl pw st.kd qr qf qp (.str (S l)))) := by rw [hsd] at g1; exact g1
      obtain ⟨⟨dw3, u1⟩, u2, u3⟩ := id wa3
      have sl1 := SX.S_len l
      have sl2 := SX.S_len g
      refine ⟨_, rfl, qk, _, dx3, _, _, rfl, g1, vcl T, vn_said T, vl_said, _, rfl, S l, S g, rfl, rfl, size12 (by omega), ?_⟩
      rw [SX.S_cat]
      have sl3 := SX.S_len (l ++ g)
      have sl4 : (l ++ g).length = l.length + g.length := List.length_append
      refine ⟨_, rfl, S (l ++ g), rfl, size12 (by omega), _, rfl, qk, _, dx3, _, _, rfl, g1, vcl T, vn_wire T, vl_wire, pw, _, dw3, _, _, rfl, u1, wcl T, wn_width T, wl_width, _, _, rfl, rfl, _, rfl, ?_⟩
      rw [sl3]
      have nm3 : dl' ≠ qk ∧ dl' ≠ qf := hm3.elim (fun e => by rw [e]; exact ⟨d5, nf⟩) fun z => ⟨(wk.old z).1, (wk.old z).2.2.1⟩
      refine iteB (fun c => ?_) (fun c => ?_)
      · have c' : (l ++ g).length < W := by
          have := of_decide_eq_true c
          omega
        refine ⟨_, rfl, _, rfl, qk, _, dx3, _, rfl, g1, vcl T, vn_said T, vl_len, ?_⟩
        rw [vp_said]
        have kk := k .non dl' (upd H3 qk (.ins (VC K) dx3 (vfl pw st.kd qr qf qp (.str (S (l ++ g)))))) hm3
        unfold overF at kk
        rw [if_pos c'] at kk
        exact kk (wk3.say (sd := some (l ++ g))) rfl (by
          rw [sl4]
          exact ⟨⟨dw3, by rw [upd_ne nkw.symm]; exact u1⟩, by rw [upd_ne nm3.1]; exact u2, by rw [upd_ne d1]; exact u3⟩) ((f3.mono (by simp)).put (by simp))
      · have c' : ¬ (l ++ g).length < W := by
          have := of_decide_eq_false c
          omega
        refine ⟨_, rfl, qk, _, dx3, _, rfl, g1, vcl T, vn_said T, vl_len, ?_⟩
        rw [vp_said]
        have wk4 := wk3.say (dx := dx3) (sd := none)
        have f4 : Frm [qk, qf, pw] H (upd H3 qk (.ins (VC K) dx3 (vfl pw st.kd qr qf qp .non))) := (f3.mono (by simp)).put (by simp)
        have wa4 : WiAt K (upd H3 qk (.ins (VC K) dx3 (vfl pw st.kd qr qf qp .non))) pw dh dl' W kvs (lw.filter (behind l.length g)) ((l.length + g.length : Nat) : Int) lk := ⟨⟨dw3, by rw [upd_ne nkw.symm]; exact u1⟩, by rw [upd_ne nm3.1]; exact u2, by rw [upd_ne d1]; exact u3⟩
        revert wk4 f4 wa4
        generalize hH4 : (upd H3 qk (.ins (VC K) dx3 (vfl pw st.kd qr qf qp .non))) = H4
        have e4 : upd H3 qk (.ins (VC K) dx3 (vfl pw st.kd qr qf qp (sdV none))) = H4 := hH4
        rw [e4]
        intro wk4 f4 wa4
        obtain ⟨⟨dx4, i1⟩, i2, i3, _⟩ := id wk4
        obtain ⟨⟨dw4, j1⟩, j2, j3⟩ := id wa4
        refine ⟨_, rfl, qk, _, dx4, _, _, rfl, i1, vcl T, vn_found T, vl_found, .inl ⟨rfl, _, SqL.of i3⟩, _, rfl, qf, _, _, rfl, rfl, i3, by rw [List.length_map]; exact big6 hfl, ?_⟩
        have ef : (st.found.map txV ++ [V.str (S (l ++ g))]) = (st.found ++ [l ++ g]).map txV := by rw [List.map_append]; rfl
        refine ⟨_, rfl, by show 2 ≤ sizeLine; decide, fun t ht => ?_⟩
        have ef' : (({ st with sd := none } : WkS).found.map txV ++ [V.str (S (l ++ g))]) = (st.found ++ [l ++ g]).map txV := ef
        rw [ef'] at ht ⊢
        have wk5 := (wk4.fnd (r := st.found ++ [l ++ g])).new (o := .tup [.str "found", .str (S (l ++ g))]) ht
        have f5 := (f4.put (p := qf) (o := .lst ((st.found ++ [l ++ g]).map txV)) (by simp)).trans (Frm.of (same_upd (o := .tup [.str "found", .str (S (l ++ g))]) ht))
        have kk := k (.ref t) dl' _ hm3 (by
          unfold overF
          rw [if_neg c']
          exact wk5) (by
          unfold overF
          rw [if_neg c']
          exact ⟨t, rfl, upd_same⟩) (by
          rw [sl4]
          exact ⟨⟨dw4, same_upd ht _ _ (by rw [upd_ne p3]; exact j1)⟩, same_upd ht _ _ (by rw [upd_ne nm3.2]; exact j2), same_upd ht _ _ (by rw [upd_ne d3]; exact j3)⟩) f5
        exact kk
end
end B

set_option Elab.async false
set_option linter.all false
set_option maxRecDepth 100000
set_option maxHeartbeats 4000000
namespace B
open PySem PySem.Spec PyProof.Rows L2
open SX (S)
section
variable {P : Program} {w : World} {K : PySem.W.Frag} {mg : Str → Option Value} {base : Heap}
/-- a round begun -/
def spVBegin (K : PySem.W.Frag) : Sp := fun vs H Q E => ∃ (qk pw qr qf qp dh dl : Addr) (W : Nat) (kvs : List (Str × Bool)) (lw : List Str) (ms lk : Int) (st : WkS), vs = [.ref qk] ∧ VkAt K H qk pw qr qf qp st ∧ WiAt K H pw dh dl W kvs lw ms lk ∧ st.sd = none ∧ (st.kd = "all" ∨ st.kd = "alarm") ∧ W ≤ 12 ∧ kvs.length < 64 ∧ (kvs.map (·.1)).Nodup ∧ (∀ x ∈ kvs.map (·.1), Num W x) ∧ st.found.length < 1000000 ∧ (∀ g ∈ st.rest, g.length ≤ W ∧ Bits g) ∧
  (st.rest = [] → E (.ref (He.ga K "Over")) none H) ∧ (st.rest ≠ [] → ∀ (v : V) (ys : List Str) (dl' : Addr) (H' : Hp), H dl' = none → ys.Perm (begF kvs st.kd (st.rest.getLast?.getD [])) → VkAt K H' qk pw qr qf qp (overF W { st with rest := st.rest.dropLast } (st.rest.getLast?.getD [])).1 → TldAt H' (overF W { st with rest := st.rest.dropLast } (st.rest.getLast?.getD [])).2 v → WiAt K H' pw dh dl' W kvs ys ((st.rest.getLast?.getD []).length : Nat) lk → Frm [qk, qr, qf, pw] H H' → Q v H')
theorem m_Walk__begin_round (T : Txt P w K mg base) : MetX (L2.CX P w) P w K mg base 4 (VC K) "_begin_round" (spVBegin K) := by
  obtain ⟨fd, F⟩ := T.t.def_ 22 (d := d_Walk__begin_round)
  refine ⟨_, fd, _, vcl T, He.meth_ok (T.t.fact 82 (f := .meth "Walk" "_begin_round")), F.ok sc_Walk__begin_round (fun vs H Q E h => ?_) (fun cdv A outer s H vs Q E hr h => ?_), F.bindsN fun _ _ _ _ _ _ us hl => match us, hl with | [_], _ => rfl⟩
  · obtain ⟨qk, pw, qr, qf, qp, dh, dl, W, kvs, lw, ms, lk, st, rfl, _⟩ := h
    rfl
  · obtain ⟨qk, pw, qr, qf, qp, dh, dl, W, kvs, lw, ms, lk, ⟨kd, rest, sd, found, paper⟩, rfl, wk, wa, hsd, hkd, hW, hkl, hnd, hnum, hfl, hrest, k1, k2⟩ := h
    dsimp only at hsd hkd hfl hrest k1 k2
    subst hsd
    have nkw := vk_ne wk wa
    obtain ⟨d1, d2, d3, d4, p2, p3, p4, d5, p5⟩ := wk.nl5 wa
    obtain ⟨⟨dx, o1⟩, o2, o3, _⟩ := id wk
    obtain ⟨⟨dw, w1⟩, w2, w3⟩ := id wa
    obtain ⟨nkr, nkf, nkp⟩ := wk.nek
    refine ⟨_, (pss_cons (ps_if (pt_not (pt_truth (pe_fld (pv 0) (by rfl)) (by intro _; rfl)))
      (pss_one (ps_raise rfl (takes_of rfl rfl rfl rfl) (mk_Over T)))
      pss_nil)
    (pss_cons (ps_expr (pe_mx (m_Wire_begin T) hr (by decide) (pe_fld (pv 0) (by rfl)) pass0 (pa_cons (pe_fld (pv 0) (by rfl)) pa_nil)))
    (pss_cons (ps_fld (pv 0) pe_str rfl)
    (pss_one (ps_ret (pe_mx (m_Walk__say T) hr (by decide) (pv 0) pass0 (pa_cons (pe_bm0 PySem.F.plainAttrs_list PySem.F.slot_list_pop PySem.F.type_list_pop mt_pop (pe_fld (pv 0) (by rfl))) pa_nil))))))), ?_⟩
    refine ⟨_, rfl, qk, _, dx, _, _, rfl, o1, vcl T, vn_row T, vl_row, _, .inl ⟨_, SqL.of o2, rfl⟩, ?_⟩
    refine iteB (fun c => ?_) (fun c => ?_)
    · refine k1 ?_
      cases rest with
      | nil => rfl
      | cons g r => cases c
    · have hne : rest ≠ [] := fun e => by
        subst e
        cases c
      have k := k2 hne
      have e0 : rest = rest.dropLast ++ [rest.getLast hne] := (List.dropLast_concat_getLast hne).symm
      have eL : rest.getLast?.getD [] = rest.getLast hne := by rw [List.getLast?_eq_some_getLast hne]; rfl
      rw [eL] at k
      obtain ⟨hgl, hgb⟩ := hrest _ (List.getLast_mem hne)
      revert k hgl hgb e0
      generalize rest.getLast hne = g
      generalize rest.dropLast = r0
      intro k e0 hgl hgb
      subst e0
      refine ⟨_, rfl, qk, _, dx, _, _, rfl, o1, vcl T, vn_wire T, vl_wire, pw, dw, _, rfl, w1, wx_begin, _, rfl, qk, _, dx, _, _, rfl, o1, vcl T, vn_kind T, vl_kind, pw, dh, dl, kd, W, kvs, lw, ms, lk, rfl, hkd, wa, hkl, hnd, fun ys dl2 H2 pm hdl wa2 f2 => ?_⟩
      have nl1 := wa.nl1
      have wk2 := wk.keep (f2.toT nl1 (K := K)) nl1 (by simpa using nkw) (by simpa using p2.symm) (by simpa using p3.symm) (by simpa using p4.symm)
      obtain ⟨⟨dx2, g1⟩, g2, g3, _⟩ := id wk2
      refine ⟨_, rfl, qk, _, dx2, _, rfl, g1, vcl T, vn_said T, vl_len, ?_⟩
      rw [vp_said]
      have wk3 := wk2.say (dx := dx2) (sd := some [])
      have es : V.str "" = sdV (some []) := congrArg V.str empty_S
      rw [es]
      obtain ⟨⟨dw2, u1⟩, u2, u3⟩ := id wa2
      obtain ⟨m1, m2, m3, m4⟩ := wk.old hdl
      have wa3 : WiAt K (upd H2 qk (.ins (VC K) dx2 (vfl pw kd qr qf qp (sdV (some []))))) pw dh dl2 W kvs ys 0 lk := ⟨⟨dw2, by rw [upd_ne nkw.symm]; exact u1⟩, by rw [upd_ne m1]; exact u2, by rw [upd_ne d1]; exact u3⟩
      have f3 : Frm [qk, qr, qf, pw] H (upd H2 qk (.ins (VC K) dx2 (vfl pw kd qr qf qp (sdV (some []))))) := (f2.mono (by simp)).put (by simp)
      have wk3 : VkAt K (upd H2 qk (.ins (VC K) dx2 (vfl pw kd qr qf qp (sdV (some []))))) qk pw qr qf qp ⟨kd, r0 ++ [g], some [], found, paper⟩ := wk3
      revert wk3 wa3 f3
      generalize (upd H2 qk (.ins (VC K) dx2 (vfl pw kd qr qf qp (sdV (some []))))) = H3
      intro wa3 f3 wk3
      obtain ⟨⟨dx3, i1⟩, i2, i3, _⟩ := id wk3
      have hlast : ((r0 ++ [g]).map txV)[((r0 ++ [g]).map txV).length - 1]? = some (txV g) := by simp
      have hdrop : ((r0 ++ [g]).map txV).dropLast = r0.map txV := by simp
      refine ⟨_, rfl, qk, dx3, _, rfl, i1, vx_say, _, rfl, qk, _, dx3, _, _, rfl, i1, vcl T, vn_row T, vl_row, .inl ⟨rfl, _, SqL.of i2⟩, qr, _, txV g, rfl, rfl, i2, hlast, ?_⟩
      rw [hdrop]
      have wk4 := wk3.row (r := r0)
      obtain ⟨⟨dw3, j1⟩, j2, j3⟩ := id wa3
      have wa4 : WiAt K (upd H3 qr (.lst (r0.map txV))) pw dh dl2 W kvs ys 0 lk := ⟨⟨dw3, by rw [upd_ne p2]; exact j1⟩, by rw [upd_ne m2]; exact j2, by rw [upd_ne d2]; exact j3⟩
      have f4 : Frm [qk, qr, qf, pw] H (upd H3 qr (.lst (r0.map txV))) := f3.put (by simp)
      have hlis := lisB_sub kvs (decide (kd = "all"))
      have hys : ys.length ≤ 100 := by
        rw [pm.length_eq]
        omega
      refine ⟨qk, pw, qr, qf, qp, dh, dl2, W, kvs, ys, lk, _, [], g, rfl, wk4, wa4, rfl, by show 0 + g.length ≤ W; omega, hW, hgb, fun x hx => hnum x (hlis.2 x (pm.mem_iff.mp hx)), hys, hfl, ⟨m2, m3, m4⟩, fun v dl' H5 hd5 wk5 tl5 wa5 f5 => ?_⟩
      have eo : overF W ⟨kd, r0, some [], found, paper⟩ g = overF W ⟨kd, r0, none, found, paper⟩ g := by
        unfold overF
        split <;> rfl
      rw [List.nil_append] at wk5 tl5 wa5
      have wk5 : VkAt K H5 qk pw qr qf qp (overF W ⟨kd, r0, some [], found, paper⟩ g).1 := wk5
      have tl5 : TldAt H5 (overF W ⟨kd, r0, some [], found, paper⟩ g).2 v := tl5
      rw [eo] at wk5 tl5
      refine k v (ys.filter (behind 0 g)) dl' H5 (hd5.elim (fun e => by rw [e]; exact hdl) (fun z => f4.b _ z)) ?_ wk5 tl5 wa5 (f4.trans (f5.mono (by simp)))
      unfold begF
      have e1 : ys.filter (behind 0 g) = ys.filter (starts g) := List.filter_congr fun x _ => behind_zero
      rw [e1]
      exact pm.filter _
/-- a step -/
def spVStep (K : PySem.W.Frag) : Sp := fun vs H Q E => ∃ (qk pw qr qf qp dh dl : Addr) (W : Nat) (kvs : List (Str × Bool)) (lw : List Str) (ms lk : Int) (st : WkS), vs = [.ref qk] ∧ VkAt K H qk pw qr qf qp st ∧ WiAt K H pw dh dl W kvs lw ms lk ∧ (dl ≠ qr ∧ dl ≠ qf ∧ dl ≠ qp) ∧ (st.kd = "all" ∨ st.kd = "alarm") ∧ W ≤ 12 ∧ kvs.length < 64 ∧ (kvs.map (·.1)).Nodup ∧ (∀ x ∈ kvs.map (·.1), Num W x) ∧ lw.length ≤ 100 ∧ st.rest.length < 999999 ∧ st.found.length < 999999 ∧ st.paper.length < 999999 ∧ (∀ g ∈ st.rest, g.length ≤ W ∧ Bits g) ∧ (∀ l, st.sd = some l → ms = (l.length : Nat) ∧ l.length < W ∧ Bits l ∧ ∀ x ∈ lw, Num W x) ∧
  (st.sd = none → st.rest = [] → E (.ref (He.ga K "Over")) none H) ∧ ((st.sd = none → st.rest ≠ []) → ∀ (v : V) (lw' : List Str) (dl' : Addr) (H' : Hp), (dl' = dl ∨ H dl' = none) → lw'.Perm (stepF W kvs lw lk st).2.1 → VkAt K H' qk pw qr qf qp (stepF W kvs lw lk st).1.1 → TldAt H' (stepF W kvs lw lk st).1.2 v → WiAt K H' pw dh dl' W kvs lw' (msOf W (stepF W kvs lw lk st).2.2.1) (stepF W kvs lw lk st).2.2.2 → Frm [qk, qr, qf, qp, pw] H H' → Q v H')
theorem m_Walk_step (T : Txt P w K mg base) : MetX (L2.CX P w) P w K mg base 5 (VC K) "step" (spVStep K) := by
  obtain ⟨fd, F⟩ := T.t.def_ 18 (d := d_Walk_step)
  refine ⟨_, fd, _, vcl T, He.meth_ok (T.t.fact 78 (f := .meth "Walk" "step")), F.ok sc_Walk_step (fun vs H Q E h => ?_) (fun cdv A outer s H vs Q E hr h => ?_), F.bindsN fun _ _ _ _ _ _ us hl => match us, hl with | [_], _ => rfl⟩
  · obtain ⟨qk, pw, qr, qf, qp, dh, dl, W, kvs, lw, ms, lk, st, rfl, _⟩ := h
    rfl
  · obtain ⟨qk, pw, qr, qf, qp, dh, dl, W, kvs, lw, ms, lk, ⟨kd, rest, sd, found, paper⟩, rfl, wk, wa, ⟨nr, nf, np⟩, hkd, hW, hkl, hnd, hnum, hll, hrl, hfl, hpl, hrest, hsome, k1, k2⟩ := h
    dsimp only at hkd hrl hfl hpl hrest hsome k1
    have nkw := vk_ne wk wa
    obtain ⟨d1, d2, d3, d4, p2, p3, p4, d5, p5⟩ := wk.nl5 wa
    obtain ⟨⟨dx, o1⟩, o2, o3, ⟨ts, o4, o5, o6⟩, m1, m2, m3⟩ := id wk
    obtain ⟨⟨dw, w1⟩, w2, w3⟩ := id wa
    obtain ⟨nkr, nkf, nkp⟩ := wk.nek
    dsimp only at o1 o2 o3 o4 o5 o6
    refine ⟨_, (pss_cons (ps_if (pt_cmpR op_isN (pe_fld (pv 0) (by rfl)) pe_non (nomark _))
      (pss_one (ps_ret (pe_mx0 (m_Walk__begin_round T) hr (by decide) (pv 0) (passes_call (takes_of rfl rfl rfl rfl) (fun _ _ _ _ h => h)))))
      pss_nil)
    (pss_cons (ps_asg (pe_mx0 (m_Wire_look T) hr (by decide) (pe_fld (pv 0) (by rfl)) (passes_call (takes_of rfl rfl rfl rfl) (fun _ _ _ _ h => h))) (pg_tup rfl (pgs_cons (pg_name (i := 1) sc_Walk_step.nd rfl (Or.inl rfl)) (pgs_cons (pg_name (i := 2) sc_Walk_step.nd rfl (Or.inl rfl)) pgs_nil))))
    (pss_cons (ps_expr (pe_bm PySem.F.plainAttrs_list PySem.F.slot_list_append PySem.F.type_list_append mt_append (pe_fld (pv 0) (by rfl)) (pa_cons (pe_tup (pa_cons (pe_fld (pv 0) (by rfl)) (pa_cons (pv 1) (pa_cons (pv 2) pa_nil)))) pa_nil)))
    (pss_cons (ps_if (PW.pt (pw_and (pt_not (pt_val (pv 1))) (pw_and1 (pt_not (pt_val (pv 2))))))
      (pss_cons (ps_fld (pv 0) pe_non rfl)
      (pss_one (ps_ret (pe_tup (pa_cons pe_str pa_nil)))))
      pss_nil)
    (pss_cons (ps_if (PW.pt (pw_and (pt_val (pv 1)) (pw_and1 (pt_val (pv 2)))))
      (pss_one (ps_expr (pe_bm PySem.F.plainAttrs_list PySem.F.slot_list_append PySem.F.type_list_append mt_append (pe_fld (pv 0) (by rfl)) (pa_cons (pe_op op_add_str (pe_fld (pv 0) (by rfl)) pe_str) pa_nil))))
      pss_nil)
    (pss_one (ps_ret (pe_mx (m_Walk__say T) hr (by decide) (pv 0) pass0 (pa_cons (pe_ifExp (pt_val (pv 1)) pe_str pe_str) pa_nil))))))))), ?_⟩
    cases sd with
    | none =>
      refine ⟨_, rfl, qk, _, dx, _, _, rfl, o1, vcl T, vn_said T, vl_said, rfl, _, rfl, ?_⟩
      refine ⟨_, rfl, qk, dx, _, rfl, o1, vx_begin, qk, pw, qr, qf, qp, dh, dl, W, kvs, lw, ms, lk, _, rfl, wk, wa, rfl, hkd, hW, hkl, hnd, hnum, Nat.lt_succ_of_lt hfl, hrest, k1 rfl, fun hne v ys dl' H' hd pm wk' tl' wa' f' => ?_⟩
      have k := k2 (fun _ => hne) v ys dl' H' (.inr hd)
      have e0 : stepF W kvs lw lk ⟨kd, rest, none, found, paper⟩ = (overF W ⟨kd, rest.dropLast, none, found, paper⟩ (rest.getLast?.getD []), begF kvs kd (rest.getLast?.getD []), some (rest.getLast?.getD []), lk) := rfl
      rw [e0] at k
      exact k pm wk' tl' wa' (f'.mono (by simp))
    | some l =>
      obtain ⟨rfl, hlt, hlb, hnl⟩ := hsome l rfl
      have k := k2 (fun z => by cases z)
      clear k1 k2
      have o1 : H qk = some (.ins (VC K) dx (vfl pw kd qr qf qp (.str (S l)))) := o1
      refine ⟨_, rfl, qk, _, dx, _, _, rfl, o1, vcl T, vn_said T, vl_said, rfl, _, rfl, ?_⟩
      refine ⟨_, rfl, qk, _, dx, _, _, rfl, o1, vcl T, vn_wire T, vl_wire, pw, dw, _, rfl, w1, wx_look, pw, dh, dl, W, kvs, lw, _, lk, rfl, wa, hW, by omega, by omega, hnl, hll, fun z => absurd z (by omega), fun _ p H1 hp wa1 f1 => ?_⟩
      rw [Int.toNat_natCast] at hp
      refine ⟨p, _, rfl, SqT.of hp, rfl, _, _, rfl, _, _, rfl, rfl, ?_⟩
      have nl1 := wa.nl1
      have wk1 := wk.keep (f1.toT nl1 (K := K)) nl1 (by simpa using nkw) (by simpa using p2.symm) (by simpa using p3.symm) (by simpa using p4.symm)
      obtain ⟨⟨dx1, c1⟩, c2, c3, ⟨ts1, c4, c5, c6⟩, _⟩ := id wk1
      have c1 : H1 qk = some (.ins (VC K) dx1 (vfl pw kd qr qf qp (.str (S l)))) := c1
      have c5 : ts1.length = paper.length := c5
      refine ⟨_, rfl, qk, _, dx1, _, _, rfl, c1, vcl T, vn_paper T, vl_paper, .inl ⟨rfl, _, SqL.of c4⟩, _, rfl, qk, _, dx1, _, _, rfl, c1, vcl T, vn_said T, vl_said, _, rfl, _, rfl, by show 3 ≤ sizeLine; decide, fun t ht => ⟨qp, _, _, rfl, rfl, same_upd ht _ _ c4, by rw [List.length_map, c5]; exact big6 (Nat.lt_succ_of_lt hpl), ?_⟩⟩
      obtain ⟨t1, t2, t3, t4⟩ := wk1.old ht
      have wk2 := wk1.pap (q := (l, lw.any (sg l.length 48), lw.any (sg l.length 49))) c4 ht
      obtain ⟨⟨dw1, v1⟩, v2, v3⟩ := id wa1
      have wa2 : WiAt K (upd (upd H1 t (.tup [txV l, .bl (lw.any (sg l.length 48)), .bl (lw.any (sg l.length 49))])) qp (.lst (ts1.map V.ref ++ [.ref t]))) pw dh dl W kvs lw (l.length : Nat) (lk + 1) := ⟨⟨dw1, by rw [upd_ne p4]; exact same_upd ht _ _ v1⟩, by rw [upd_ne np]; exact same_upd ht _ _ v2, by rw [upd_ne d4]; exact same_upd ht _ _ v3⟩
      have F2 : Frm [qk, qr, qf, qp, pw] H (upd (upd H1 t (.tup [txV l, .bl (lw.any (sg l.length 48)), .bl (lw.any (sg l.length 49))])) qp (.lst (ts1.map V.ref ++ [.ref t]))) := ((f1.mono (by simp)).trans (Frm.of (same_upd ht))).put (by simp)
      have wk2 : VkAt K (upd (upd H1 t (.tup [txV l, .bl (lw.any (sg l.length 48)), .bl (lw.any (sg l.length 49))])) qp (.lst (ts1.map V.ref ++ [.ref t]))) qk pw qr qf qp ⟨kd, rest, some l, found, paper ++ [(l, lw.any (sg l.length 48), lw.any (sg l.length 49))]⟩ := wk2
      revert wk2 wa2 F2
      generalize hH2 : (upd (upd H1 t (.tup [txV l, .bl (lw.any (sg l.length 48)), .bl (lw.any (sg l.length 49))])) qp (.lst (ts1.map V.ref ++ [.ref t]))) = H2
      have hH2' : (upd (upd H1 t (.tup [.str (S l), .bl (lw.any (sg l.length 48)), .bl (lw.any (sg l.length 49))])) qp (.lst (ts1.map V.ref ++ [.ref t]))) = H2 := hH2
      rw [hH2']
      intro wa2 F2 wk2
      unfold stepF at k
      dsimp only at k
      -- the signs said
      have fin : ∀ (c : Nat) (r2 : List (List Nat)) (H4 : Hp), (c = 48 ∨ c = 49) → VkAt K H4 qk pw qr qf qp ⟨kd, r2, some l, found, paper ++ [(l, lw.any (sg l.length 48), lw.any (sg l.length 49))]⟩ → WiAt K H4 pw dh dl W kvs lw (l.length : Nat) (lk + 1) → Frm [qk, qr, qf, qp, pw] H H4 →
          (∀ (v : V) (lw' : List Str) (dl' : Addr) (H' : Hp), (dl' = dl ∨ H dl' = none) → lw'.Perm (lw.filter (sg l.length c)) → VkAt K H' qk pw qr qf qp (overF W ⟨kd, r2, some l, found, paper ++ [(l, lw.any (sg l.length 48), lw.any (sg l.length 49))]⟩ (l ++ [c])).1 → TldAt H' (overF W ⟨kd, r2, some l, found, paper ++ [(l, lw.any (sg l.length 48), lw.any (sg l.length 49))]⟩ (l ++ [c])).2 v → WiAt K H' pw dh dl' W kvs lw' ((l ++ [c]).length : Nat) (lk + 1) → Frm [qk, qr, qf, qp, pw] H H' → Q v H') →
          spVSay K ([V.ref qk, .str (S [c])] ++ []) H4 Q E0 := fun c r2 H4 hc a1 a2 a3 kk =>
        ⟨qk, pw, qr, qf, qp, dh, dl, W, kvs, lw, lk + 1, _, l, [c], rfl, a1, a2, rfl, by show l.length + 1 ≤ W; omega, hW, fun d hd => by rw [List.mem_singleton.mp hd]; exact hc, hnl, hll, Nat.lt_succ_of_lt hfl, ⟨nr, nf, np⟩, fun v dl' H' hd a4 a5 a6 a7 =>
          kk v _ dl' H' (hd.imp_right (a3.b _)) (by rw [List.filter_congr fun x _ => behind_one (n := l.length) (c := c) (x := x)]) a4 a5 a6 (a3.trans (a7.mono (by simp)))⟩
      obtain ⟨⟨dx2, e1⟩, e2, e3, _⟩ := id wk2
      obtain ⟨⟨dw2, y1⟩, y2, y3⟩ := id wa2
      revert k fin wk2
      generalize lw.any (sg l.length 48) = z
      generalize lw.any (sg l.length 49) = o
      intro k wk2 fin
      cases z <;> cases o
      · refine ⟨_, rfl, false, rfl, _, rfl, false, rfl, ?_⟩
        refine ⟨_, rfl, qk, _, dx2, _, rfl, e1, vcl T, vn_said T, vl_len, ?_⟩
        rw [vp_said]
        refine ⟨by show 1 ≤ sizeLine; decide, fun u hu => ?_⟩
        have wk3 := (wk2.say (dx := dx2) (sd := none)).new (o := .tup [.str "lost"]) hu
        refine k (.ref u) lw dl _ (.inl rfl) (List.Perm.refl _) wk3 ⟨u, rfl, upd_same⟩ ⟨⟨dw2, same_upd hu _ _ (by rw [upd_ne nkw.symm]; exact y1)⟩, same_upd hu _ _ (by rw [upd_ne d5]; exact y2), same_upd hu _ _ (by rw [upd_ne d1]; exact y3)⟩ ((F2.put (by simp)).trans (Frm.of (same_upd hu)))
      · refine ⟨_, rfl, false, rfl, _, rfl, true, rfl, ?_⟩
        refine ⟨_, rfl, false, rfl, ?_⟩
        refine ⟨_, rfl, qk, dx2, _, rfl, e1, vx_say, _, rfl, false, rfl, ?_⟩
        have s1 : V.str "1" = V.str (S [49]) := congrArg V.str one_S
        rw [s1]
        exact fin 49 rest H2 (.inr rfl) wk2 wa2 F2 k
      · refine ⟨_, rfl, true, rfl, ?_⟩
        refine ⟨_, rfl, true, rfl, _, rfl, false, rfl, ?_⟩
        refine ⟨_, rfl, qk, dx2, _, rfl, e1, vx_say, _, rfl, true, rfl, ?_⟩
        have s1 : V.str "0" = V.str (S [48]) := congrArg V.str zero_S
        rw [s1]
        exact fin 48 rest H2 (.inl rfl) wk2 wa2 F2 k
      · refine ⟨_, rfl, true, rfl, ?_⟩
        refine ⟨_, rfl, true, rfl, _, rfl, true, rfl, ?_⟩
        have q1 : ("1" : Str).length = 1 := by decide +kernel
        have q2 := SX.S_len l
        have q0 : S l ++ ("1" : Str) = S (l ++ [49]) := by
          rw [← SX.S_cat]
          rfl
        refine ⟨_, rfl, qk, _, dx2, _, _, rfl, e1, vcl T, vn_row T, vl_row, .inl ⟨rfl, _, SqL.of e2⟩, _, rfl, qk, _, dx2, _, _, rfl, e1, vcl T, vn_said T, vl_said, S l, "1", rfl, rfl, size12 (by omega), qr, _, _, rfl, rfl, e2, by rw [List.length_map]; exact big6 (Nat.lt_succ_of_lt hrl), ?_⟩
        rw [q0]
        have er : (({ kd := kd, rest := rest, sd := some l, found := found, paper := paper ++ [(l, true, true)] } : WkS).rest.map txV ++ [V.str (S (l ++ [49]))]) = (rest ++ [l ++ [49]]).map txV := by rw [List.map_append]; rfl
        rw [er]
        have wk3 := wk2.row (r := rest ++ [l ++ [49]])
        obtain ⟨⟨dx3, i1⟩, _⟩ := id wk3
        refine ⟨_, rfl, qk, dx3, _, rfl, i1, vx_say, _, rfl, true, rfl, ?_⟩
        have s1 : V.str "0" = V.str (S [48]) := congrArg V.str zero_S
        rw [s1]
        exact fin 48 _ _ (.inl rfl) wk3 ⟨⟨dw2, by rw [upd_ne p2]; exact y1⟩, by rw [upd_ne nr]; exact y2, by rw [upd_ne d2]; exact y3⟩ (F2.put (by simp)) k
end
end B

set_option Elab.async false
set_option linter.all false
set_option maxRecDepth 100000
set_option maxHeartbeats 4000000
namespace B
open PySem PySem.Spec PyProof.Rows L2
open SX (S)
theorem nil_of {σ : L2.St} {H : Hp} {Q : List V → Hp → Prop} (h : Q [] H) : tNil σ H Q := h
/-! ### a step of lists with the same things -/
theorem any_perm {a b : List Str} {f : Str → Bool} (h : a.Perm b) : a.any f = b.any f := by
  rw [Bool.eq_iff_iff, List.any_eq_true, List.any_eq_true]
  constructor
  · rintro ⟨x, hx, e⟩
    exact ⟨x, h.mem_iff.mp hx, e⟩
  · rintro ⟨x, hx, e⟩
    exact ⟨x, h.mem_iff.mpr hx, e⟩
theorem step_perm {W : Nat} {kvs : List (Str × Bool)} {lw lm : List Str} {lk : Int} {st : WkS} (h : lw.Perm lm) : (stepF W kvs lw lk st).1 = (stepF W kvs lm lk st).1 ∧ (stepF W kvs lw lk st).2.1.Perm (stepF W kvs lm lk st).2.1 ∧ (stepF W kvs lw lk st).2.2 = (stepF W kvs lm lk st).2.2 := by
  obtain ⟨kd, rest, sd, found, paper⟩ := st
  cases sd with
  | none => exact ⟨rfl, List.Perm.refl _, rfl⟩
  | some l =>
    unfold stepF
    dsimp only
    rw [any_perm h (f := sg l.length 48), any_perm h (f := sg l.length 49)]
    split
    · exact ⟨rfl, h, rfl⟩
    · exact ⟨rfl, h.filter _, rfl⟩
/-- steps till there is nowhere to go -/
def allF (W : Nat) (kvs : List (Str × Bool)) : Nat → WkS × List Str × Option (List Nat) × Int → WkS × List Str × Option (List Nat) × Int
  | 0, q => q
  | n + 1, q => if q.1.sd = none ∧ q.1.rest = [] then q else allF W kvs n ((stepF W kvs q.2.1 q.2.2.2 q.1).1.1, (stepF W kvs q.2.1 q.2.2.2 q.1).2)
theorem all_stop {W n : Nat} {kvs : List (Str × Bool)} {q : WkS × List Str × Option (List Nat) × Int} (h : q.1.sd = none ∧ q.1.rest = []) : allF W kvs n q = q := by
  cases n with
  | zero => rfl
  | succ n =>
    show (if _ then _ else _) = _
    rw [if_pos h]
theorem all_go {W n : Nat} {kvs : List (Str × Bool)} {q : WkS × List Str × Option (List Nat) × Int} (h : ¬ (q.1.sd = none ∧ q.1.rest = [])) : allF W kvs (n + 1) q = allF W kvs n ((stepF W kvs q.2.1 q.2.2.2 q.1).1.1, (stepF W kvs q.2.1 q.2.2.2 q.1).2) := by
  show (if _ then _ else _) = _
  rw [if_neg h]
theorem over_kd {W : Nat} {st : WkS} {l : List Nat} : (overF W st l).1.kd = st.kd := by
  unfold overF
  split <;> rfl
theorem step_kd {W : Nat} {kvs : List (Str × Bool)} {lm : List Str} {lk : Int} {st : WkS} : (stepF W kvs lm lk st).1.1.kd = st.kd := by
  obtain ⟨kd, rest, sd, found, paper⟩ := st
  cases sd with
  | none => exact over_kd
  | some l =>
    unfold stepF
    dsimp only
    split
    · rfl
    · refine over_kd.trans ?_
      split <;> rfl
section
variable {P : Program} {w : World} {K : PySem.W.Frag} {mg : Str → Option Value} {base : Heap}
/-- where a step may be done: a walk and its wire, the wire's list told up to its order -/
structure VkOk (K : PySem.W.Frag) (H : Hp) (qk pw qr qf qp dh dl : Addr) (W : Nat) (kvs : List (Str × Bool)) (lm : List Str) (sdm : Option (List Nat)) (lk : Int) (st : WkS) (n : Nat) : Prop where
  wk : VkAt K H qk pw qr qf qp st
  wa : ∃ lw, WiAt K H pw dh dl W kvs lw (msOf W sdm) lk ∧ lw.Perm lm
  nl : dl ≠ qr ∧ dl ≠ qf ∧ dl ≠ qp
  kd : st.kd = "all" ∨ st.kd = "alarm"
  w : W ≤ 12
  kl : kvs.length < 64
  nd : (kvs.map (·.1)).Nodup
  num : ∀ x ∈ kvs.map (·.1), Num W x
  ok : WkOk W lm sdm st n
theorem VkOk.stay {H H' : Hp} {S : List Addr} {qk pw qr qf qp dh dl : Addr} {W : Nat} {kvs : List (Str × Bool)} {lm : List Str} {sdm : Option (List Nat)} {lk : Int} {st : WkS} {n : Nat} (h : VkOk K H qk pw qr qf qp dh dl W kvs lm sdm lk st n) (f : FrT K S H H') (z : NL S H) (h1 : qk ∉ S) (h2 : qr ∉ S) (h3 : qf ∉ S) (h4 : qp ∉ S) (h5 : pw ∉ S) (h6 : dh ∉ S) : VkOk K H' qk pw qr qf qp dh dl W kvs lm sdm lk st n := by
  obtain ⟨a, ⟨lw, b1, b2⟩, c, d, e, g, i, j, o⟩ := h
  exact ⟨a.keep f z h1 h2 h3 h4, ⟨lw, b1.stay f z h5 h6, b2⟩, c, d, e, g, i, j, o⟩
/-- a step, the list up to its order -/
theorem VkOk.step {H : Hp} {qk pw qr qf qp dh dl : Addr} {W : Nat} {kvs : List (Str × Bool)} {lm : List Str} {sdm : Option (List Nat)} {lk : Int} {st : WkS} {n : Nat} (h : VkOk K H qk pw qr qf qp dh dl W kvs lm sdm lk st n) (hn : n < 999999) {Q : VK} {E : XK} (hO : st.sd = none → st.rest = [] → E (.ref (He.ga K "Over")) none H)
    (k : (st.sd = none → st.rest ≠ []) → ∀ (v : V) (dl' : Addr) (H' : Hp), (dl' = dl ∨ H dl' = none) → VkOk K H' qk pw qr qf qp dh dl' W kvs (stepF W kvs lm lk st).2.1 (stepF W kvs lm lk st).2.2.1 (stepF W kvs lm lk st).2.2.2 (stepF W kvs lm lk st).1.1 (n + 1) → TldAt H' (stepF W kvs lm lk st).1.2 v → Frm [qk, qr, qf, qp, pw] H H' → Q v H') : spVStep K [.ref qk] H Q E := by
  obtain ⟨wk, ⟨lw, wa, pm⟩, nl, kd, hw, hkl, hnd, hnum, ok⟩ := h
  obtain ⟨z1, z2, z3⟩ := ok.len
  have hb : ∀ l, st.sd = some l → msOf W sdm = (l.length : Nat) ∧ l.length < W ∧ Bits l ∧ ∀ x ∈ lw, Num W x := fun l e => by
    obtain ⟨a, b, c, d⟩ := ok.said l e
    exact ⟨by rw [a]; rfl, b, c, fun x hx => (d x (pm.mem_iff.mp hx)).num⟩
  refine ⟨qk, pw, qr, qf, qp, dh, dl, W, kvs, lw, _, lk, st, rfl, wk, wa, nl, kd, hw, hkl, hnd, hnum, by rw [pm.length_eq]; exact ok.lm, by omega, by omega, by omega, ok.rest, hb, hO, fun hne v lw' dl' H' hd pm' wk' tl' wa' f' => ?_⟩
  obtain ⟨s1, s2, s3⟩ := step_perm (W := W) (kvs := kvs) (lk := lk) (st := st) pm
  rw [s1] at wk' tl'
  rw [s3] at wa'
  refine k hne v dl' H' hd ⟨wk', ⟨lw', wa', pm'.trans s2⟩, ?_, by rw [step_kd]; exact kd, hw, hkl, hnd, hnum, step_ok ok hne (by omega) hnum⟩ tl' f'
  exact hd.elim (fun e => by rw [e]; exact nl) fun z => ⟨(wk.old z).2.1, (wk.old z).2.2.1, (wk.old z).2.2.2⟩
/-- a round -/
def spVRound (K : PySem.W.Frag) : Sp := fun vs H Q _ => ∃ (qk pw qr qf qp dh dl : Addr) (W : Nat) (kvs : List (Str × Bool)) (lm : List Str) (sdm : Option (List Nat)) (lk : Int) (st : WkS) (n : Nat), vs = [.ref qk] ∧ VkOk K H qk pw qr qf qp dh dl W kvs lm sdm lk st n ∧ n ≤ 900000 ∧ (st.sd = none → st.rest ≠ []) ∧
  ∀ (v : V) (dl' : Addr) (H' : Hp), (dl' = dl ∨ H dl' = none) → VkOk K H' qk pw qr qf qp dh dl' W kvs (roundF W kvs W lm lk st).2.1 (roundF W kvs W lm lk st).2.2.1 (roundF W kvs W lm lk st).2.2.2 (roundF W kvs W lm lk st).1.1 (n + 1 + W) → TldAt H' (roundF W kvs W lm lk st).1.2 v → Frm [qk, qr, qf, qp, pw] H H' → Q v H'
theorem WkOk.le {W n m : Nat} {lm : List Str} {sdm : Option (List Nat)} {st : WkS} (h : WkOk W lm sdm st n) (hm : n ≤ m) : WkOk W lm sdm st m := by
  obtain ⟨a, b, ⟨c, d, e⟩, f⟩ := h
  exact ⟨a, b, ⟨by omega, by omega, by omega⟩, f⟩
theorem VkOk.le {H : Hp} {qk pw qr qf qp dh dl : Addr} {W : Nat} {kvs : List (Str × Bool)} {lm : List Str} {sdm : Option (List Nat)} {lk : Int} {st : WkS} {n m : Nat} (h : VkOk K H qk pw qr qf qp dh dl W kvs lm sdm lk st n) (hm : n ≤ m) : VkOk K H qk pw qr qf qp dh dl W kvs lm sdm lk st m := by
  obtain ⟨a, b, c, d, e, g, i, j, o⟩ := h
  exact ⟨a, b, c, d, e, g, i, j, o.le hm⟩
theorem tld_ref {H : Hp} {r : Tld} {v : V} (h : TldAt H r v) (n : r ≠ .no) : ∃ t, v = .ref t := by
  cases r with
  | no => exact absurd rfl n
  | lost =>
    obtain ⟨t, e, _⟩ := h
    exact ⟨t, e⟩
  | found l =>
    obtain ⟨t, e, _⟩ := h
    exact ⟨t, e⟩
theorem m_Walk_go_round (T : Txt P w K mg base) : MetX CX0 P w K mg base 6 (VC K) "go_round" (spVRound K) := by
  obtain ⟨fd, F⟩ := T.t.def_ 19 (d := d_Walk_go_round)
  refine ⟨_, fd, _, vcl T, He.meth_ok (T.t.fact 79 (f := .meth "Walk" "go_round")), F.ok sc_Walk_go_round (fun vs H Q E h => ?_) (fun cdv A outer s H vs Q E hr h => ?_), F.bindsN fun _ _ _ _ _ _ us hl => match us, hl with | [_], _ => rfl⟩
  · obtain ⟨qk, pw, qr, qf, qp, dh, dl, W, kvs, lm, sdm, lk, st, n, rfl, _⟩ := h
    rfl
  · obtain ⟨qk, pw, qr, qf, qp, dh, dl, W, kvs, lm, sdm, lk, st, n, rfl, vk, hn, hne, k⟩ := h
    refine ⟨_, PSs.nox (pss_cons (ps_set (i := 1) sc_Walk_go_round.nd rfl (Or.inl rfl) (pe_mx0 (m_Walk_step T) hr (by decide) (pv 0) (passes_call (E := fun _ _ _ => False) L2.takes0 (fun _ _ _ _ h => h))))
    (pss_cons (ps_while PassesOwn.never (pt_cmpR op_isN (pv 1) pe_non (nomark _))
      (pss_one (ps_set (i := 1) sc_Walk_go_round.nd rfl (Or.inl rfl) (pe_mx0 (m_Walk_step T) hr (by decide) (pv 0) (passes_call (E := fun _ _ _ => False) L2.takes0 (fun _ _ _ _ h => h))))))
    (pss_one (ps_ret (pv 1))))), ?_⟩
    have old : ∀ {b : Addr}, H b = none → b ≠ qr ∧ b ≠ qf ∧ b ≠ qp := fun hb => (vk.wk.old hb).2
    obtain ⟨⟨dx, o1⟩, _⟩ := id vk.wk
    refine ⟨_, rfl, qk, dx, _, rfl, o1, vx_step, nil_of (vk.step (by omega) (fun a b => absurd b (hne a)) fun _ v dl1 H1 hdl1 vk1 tl1 f1 => ?_)⟩
    generalize hR : roundF W kvs W lm lk st = R at k
    let Wd : Nat → L2.St → Hp → Prop := fun m σ H' => ∃ (v : V) (dl' : Addr) (r : (WkS × Tld) × List Str × Option (List Nat) × Int) (b : Nat), σ = [some (.ref qk), some v] ∧ VkOk K H' qk pw qr qf qp dh dl' W kvs r.2.1 r.2.2.1 r.2.2.2 r.1.1 b ∧ TldAt H' r.1.2 v ∧ (dl' = dl ∨ H dl' = none) ∧ Frm [qk, qr, qf, qp, pw] H H' ∧
      ((r.1.2 ≠ .no ∧ r = R ∧ b ≤ n + 1 + W) ∨ (r.1.2 = .no ∧ ∃ (l' : List Nat) (j : Nat), r.1.1.sd = some l' ∧ b + j ≤ n + W ∧ m = j + 1 ∧ W ≤ l'.length + j + 1 ∧ roundF W kvs j r.2.1 r.2.2.2 r.1.1 = R))
    refine ⟨Wd, ?_, ?_⟩
    · by_cases hno : (stepF W kvs lm lk st).1.2 = .no
      · obtain ⟨l', e1, e2, _⟩ := step_no hno
        obtain ⟨w', rfl⟩ : ∃ w', W = w' + 1 := ⟨W - 1, by omega⟩
        exact ⟨w' + 1, v, dl1, stepF (w' + 1) kvs lm lk st, n + 1, rfl, vk1, tl1, hdl1, f1, .inr ⟨hno, l', w', e1, by omega, rfl, by omega, by rw [← hR, round_no hno]⟩⟩
      · exact ⟨0, v, dl1, stepF W kvs lm lk st, n + 1, rfl, vk1, tl1, hdl1, f1, .inl ⟨hno, by rw [← hR, round_yes hno], by omega⟩⟩
    · rintro m σ H2 ⟨v2, dl2, r, b, rfl, vk2, tl2, hd2, f2, hc⟩
      refine ⟨_, rfl, rfl, _, rfl, ?_⟩
      rcases hc with ⟨hno, rfl, hb⟩ | ⟨hno, l', j, e1, hb, rfl, hj, hroundR⟩
      · obtain ⟨t, rfl⟩ := tld_ref tl2 hno
        exact ⟨_, rfl, k _ dl2 H2 hd2 (vk2.le hb) tl2 f2⟩
      · rw [hno] at tl2
        obtain rfl : v2 = .non := tl2
        refine ⟨fun σ' H' => ∃ m', m' < j + 1 ∧ Wd m' σ' H', fun _ _ h => h, ?_⟩
        have hsd : r.1.1.sd = none → r.1.1.rest ≠ [] := fun z => by rw [e1] at z; cases z
        obtain ⟨⟨dx2, g1⟩, _⟩ := id vk2.wk
        refine ⟨_, rfl, qk, dx2, _, rfl, g1, vx_step, nil_of (vk2.step (by have := vk.w; omega) (fun a _ => by rw [e1] at a; cases a) fun _ v3 dl3 H3 hdl3 vk3 tl3 f3 => ?_)⟩
        have hd3 : dl3 = dl ∨ H dl3 = none := hdl3.elim (fun e => by rw [e]; exact hd2) fun z => .inr (f2.b _ z)
        by_cases hno3 : (stepF W kvs r.2.1 r.2.2.2 r.1.1).1.2 = .no
        · obtain ⟨l3, g1, g2, g3⟩ := step_no hno3
          have g4 := g3 l' e1
          obtain ⟨j', rfl⟩ : ∃ j', j = j' + 1 := ⟨j - 1, by omega⟩
          exact ⟨j' + 1, by omega, v3, dl3, _, b + 1, rfl, vk3, tl3, hd3, f2.trans f3, .inr ⟨hno3, l3, j', g1, by omega, rfl, by omega, by rw [← hroundR, round_no hno3]⟩⟩
        · exact ⟨0, by omega, v3, dl3, _, b + 1, rfl, vk3, tl3, hd3, f2.trans f3, .inl ⟨hno3, by rw [← hroundR, round_yes hno3], by omega⟩⟩
/-- all -/
def spVAll (K : PySem.W.Frag) : Sp := fun vs H Q _ => ∃ (qk pw qr qf qp dh dl : Addr) (W : Nat) (kvs : List (Str × Bool)) (lm : List Str) (sdm : Option (List Nat)) (lk : Int) (st : WkS) (n : Nat), vs = [.ref qk] ∧ VkOk K H qk pw qr qf qp dh dl W kvs lm sdm lk st n ∧ n + meas W st ≤ 900000 ∧
  ∀ (p dl' : Addr) (H' : Hp), (dl' = dl ∨ H dl' = none) → H p = none → VkOk K H' qk pw qr qf qp dh dl' W kvs (allF W kvs (meas W st) (st, lm, sdm, lk)).2.1 (allF W kvs (meas W st) (st, lm, sdm, lk)).2.2.1 (allF W kvs (meas W st) (st, lm, sdm, lk)).2.2.2 (allF W kvs (meas W st) (st, lm, sdm, lk)).1 (n + meas W st) → (allF W kvs (meas W st) (st, lm, sdm, lk)).1.sd = none → (allF W kvs (meas W st) (st, lm, sdm, lk)).1.rest = [] →
    H' p = some (.lst ((allF W kvs (meas W st) (st, lm, sdm, lk)).1.found.map txV)) → Frm [qk, qr, qf, qp, pw] H H' → Q (.ref p) H'
theorem meas_pos {W : Nat} {st : WkS} (h : ¬ (st.sd = none ∧ st.rest = [])) : 0 < meas W st := by
  obtain ⟨kd, rest, sd, found, paper⟩ := st
  unfold meas
  cases sd with
  | some l =>
    have := two_pow (n := W - l.length)
    show 0 < sumR W rest + wS W l
    unfold wS
    omega
  | none =>
    cases rest with
    | nil => exact absurd ⟨rfl, rfl⟩ h
    | cons g r =>
      have := two_pow (n := W - g.length)
      show 0 < (wR W g + sumR W r) + 0
      unfold wR
      omega
end
end B

set_option Elab.async false
set_option linter.all false
set_option maxRecDepth 100000
set_option maxHeartbeats 4000000
namespace B
open PySem PySem.Spec PyProof.Rows L2
open SX (S)
/-! ### a walk over a pool ends soon -/
def cnt (names : List Str) (l : List Nat) : Nat := (names.filter (starts l)).length
theorem sg_one {n : Nat} {x : Str} (a : sg n 48 x = true) (b : sg n 49 x = true) : False := by
  have a' := of_decide_eq_true a
  have b' := of_decide_eq_true b
  rw [a'] at b'
  cases b'
theorem cnt_two {names : List Str} {l : List Nat} : cnt names (l ++ [48]) + cnt names (l ++ [49]) ≤ cnt names l := by
  unfold cnt
  induction names with
  | nil => exact Nat.le_refl _
  | cons x r ih =>
    rw [List.filter_cons, List.filter_cons, List.filter_cons, starts_snoc, starts_snoc]
    cases e : starts l x with
    | false =>
      rw [Bool.and_false, Bool.and_false]
      exact ih
    | true =>
      rw [Bool.and_true, Bool.and_true]
      cases a : sg l.length 48 x with
      | false =>
        cases b : sg l.length 49 x with
        | false =>
          rw [if_neg Bool.false_ne_true, if_neg Bool.false_ne_true, if_pos rfl, List.length_cons]
          omega
        | true =>
          rw [if_neg Bool.false_ne_true, if_pos rfl, if_pos rfl, List.length_cons, List.length_cons]
          omega
      | true =>
        cases b : sg l.length 49 x with
        | false =>
          rw [if_pos rfl, if_neg Bool.false_ne_true, if_pos rfl, List.length_cons, List.length_cons]
          omega
        | true => exact (sg_one a b).elim
theorem cnt_pos {names : List Str} {l : List Nat} {x : Str} (hx : x ∈ names) (h : starts l x = true) : 1 ≤ cnt names l := List.length_pos_of_mem (List.mem_filter.mpr ⟨hx, h⟩)
def vR (W : Nat) (names : List Str) (g : List Nat) : Nat := cnt names g * (W - g.length + 1)
def sumV (W : Nat) (names : List Str) : List (List Nat) → Nat
  | [] => 0
  | g :: r => vR W names g + sumV W names r
theorem sumV_app {W : Nat} {names : List Str} : ∀ {a b : List (List Nat)}, sumV W names (a ++ b) = sumV W names a + sumV W names b
  | [], b => by show sumV W names b = 0 + sumV W names b; omega
  | g :: a, b => by
    have := sumV_app (W := W) (names := names) (a := a) (b := b)
    show vR W names g + sumV W names (a ++ b) = vR W names g + sumV W names a + sumV W names b
    omega
def mv (W : Nat) (names : List Str) (st : WkS) : Nat := sumV W names st.rest + (match st.sd with | none => 0 | some l => vR W names l - 1)
structure Cnts (names : List Str) (st : WkS) : Prop where
  rest : ∀ g ∈ st.rest, 1 ≤ cnt names g
  said : ∀ l, st.sd = some l → 1 ≤ cnt names l
theorem over_mv {W : Nat} {names : List Str} {st : WkS} {l : List Nat} : mv W names (overF W st l).1 ≤ sumV W names st.rest + (vR W names l - 1) := by
  unfold overF mv
  split
  · exact Nat.le_refl _
  · show sumV W names st.rest + 0 ≤ _
    omega
theorem over_cnts {W : Nat} {names : List Str} {st : WkS} {l : List Nat} (h : ∀ g ∈ st.rest, 1 ≤ cnt names g) (hl : 1 ≤ cnt names l) : Cnts names (overF W st l).1 := by
  unfold overF
  split
  · exact ⟨h, fun l' e => by cases e; exact hl⟩
  · exact ⟨h, fun l' e => by cases e⟩
theorem beg_st {W : Nat} {l : List Nat} {x : Str} (h : Beg W l x) : starts l x = true := by
  obtain ⟨m, rfl, e, b, t⟩ := h
  unfold starts
  rw [S_list]
  exact decide_eq_true t
theorem heard_cnt {W c : Nat} {names lm : List Str} {l : List Nat} (h : lm.any (sg l.length c) = true) (hb : ∀ x ∈ lm, Beg W l x) (hs : ∀ x ∈ lm, x ∈ names) : 1 ≤ cnt names (l ++ [c]) := by
  obtain ⟨x, hx, e⟩ := List.any_eq_true.mp h
  refine cnt_pos (hs x hx) ?_
  rw [starts_snoc, e, beg_st (hb x hx)]
  rfl
theorem vR_snoc {W c : Nat} {names : List Str} {l : List Nat} (h : l.length < W) : vR W names (l ++ [c]) = cnt names (l ++ [c]) * (W - l.length) := by
  unfold vR
  rw [List.length_append, List.length_singleton, show W - (l.length + 1) + 1 = W - l.length by omega]
theorem step_mv {W n : Nat} {names : List Str} {kvs : List (Str × Bool)} {lm : List Str} {sdm : Option (List Nat)} {lk : Int} {st : WkS} (h : WkOk W lm sdm st n) (c : Cnts names st) (hs : ∀ x ∈ lm, x ∈ names) (hr : st.sd = none → st.rest ≠ []) : mv W names (stepF W kvs lm lk st).1.1 < mv W names st ∧ Cnts names (stepF W kvs lm lk st).1.1 := by
  obtain ⟨kd, rest, sd, found, paper⟩ := st
  obtain ⟨c1, c2⟩ := c
  dsimp only at c1 c2
  cases sd with
  | none =>
    obtain ⟨r, g, e, hg, hb⟩ := h.none_ (hr rfl)
    dsimp only at e
    subst e
    have e0 : stepF W kvs lm lk ⟨kd, r ++ [g], none, found, paper⟩ = (overF W ⟨kd, r, none, found, paper⟩ g, begF kvs kd g, some g, lk) := by
      unfold stepF
      simp
    rw [e0]
    have hg1 := c1 g (by simp)
    refine ⟨Nat.lt_of_le_of_lt over_mv ?_, over_cnts (fun q hq => c1 q (List.mem_append_left _ hq)) hg1⟩
    show sumV W names r + (vR W names g - 1) < sumV W names (r ++ [g]) + 0
    rw [sumV_app]
    show sumV W names r + (vR W names g - 1) < sumV W names r + (vR W names g + 0) + 0
    have : 1 * 1 ≤ vR W names g := Nat.mul_le_mul hg1 (by omega)
    omega
  | some l =>
    obtain ⟨_, hlt, _, hbeg⟩ := h.said l rfl
    have hl1 := c2 l rfl
    have hk : 1 ≤ W - l.length := by omega
    have v0 : vR W names l = cnt names l * (W - l.length) + cnt names l := Nat.mul_succ _ _
    have v1 : 1 * 1 ≤ cnt names l * (W - l.length) := Nat.mul_le_mul hl1 hk
    have v2 := vR_snoc (c := 48) (names := names) hlt
    have v3 := vR_snoc (c := 49) (names := names) hlt
    have v4 : (cnt names (l ++ [48]) + cnt names (l ++ [49])) * (W - l.length) ≤ cnt names l * (W - l.length) := Nat.mul_le_mul_right _ cnt_two
    rw [Nat.add_mul] at v4
    have q48 := fun z => heard_cnt (c := 48) z hbeg hs
    have q49 := fun z => heard_cnt (c := 49) z hbeg hs
    unfold stepF
    dsimp only
    revert q48 q49
    generalize lm.any (sg l.length 48) = z
    generalize lm.any (sg l.length 49) = o
    intro q48 q49
    cases z <;> cases o
    · rw [if_pos ⟨rfl, rfl⟩]
      refine ⟨?_, ⟨c1, fun l' e => by cases e⟩⟩
      show sumV W names rest + 0 < sumV W names rest + (vR W names l - 1)
      omega
    · rw [if_neg (fun z => Bool.noConfusion z.2), if_neg Bool.false_ne_true, if_neg (fun z => Bool.noConfusion z.1)]
      refine ⟨Nat.lt_of_le_of_lt over_mv ?_, over_cnts c1 (q49 rfl)⟩
      have := Nat.mul_le_mul (q49 rfl) hk
      show sumV W names rest + (vR W names (l ++ [49]) - 1) < sumV W names rest + (vR W names l - 1)
      omega
    · rw [if_neg (fun z => Bool.noConfusion z.1), if_pos rfl, if_neg (fun z => Bool.noConfusion z.2)]
      refine ⟨Nat.lt_of_le_of_lt over_mv ?_, over_cnts c1 (q48 rfl)⟩
      have := Nat.mul_le_mul (q48 rfl) hk
      show sumV W names rest + (vR W names (l ++ [48]) - 1) < sumV W names rest + (vR W names l - 1)
      omega
    · rw [if_neg (fun z => Bool.noConfusion z.1), if_pos rfl, if_pos ⟨rfl, rfl⟩]
      refine ⟨Nat.lt_of_le_of_lt over_mv ?_, over_cnts (fun g hg => ?_) (q48 rfl)⟩
      · have := Nat.mul_le_mul (q48 rfl) hk
        have := Nat.mul_le_mul (q49 rfl) hk
        show sumV W names (rest ++ [l ++ [49]]) + (vR W names (l ++ [48]) - 1) < sumV W names rest + (vR W names l - 1)
        rw [sumV_app]
        show sumV W names rest + (vR W names (l ++ [49]) + 0) + (vR W names (l ++ [48]) - 1) < sumV W names rest + (vR W names l - 1)
        omega
      · rcases List.mem_append.mp hg with z | z
        · exact c1 g z
        · rw [List.mem_singleton.mp z]
          exact q49 rfl
/-- what is said on a wire is what those that listen begin with -/
theorem step_beg {W n : Nat} {kvs : List (Str × Bool)} {lm : List Str} {sdm : Option (List Nat)} {lk : Int} {st : WkS} (h : WkOk W lm sdm st n) (hr : st.sd = none → st.rest ≠ []) (hkn : ∀ x ∈ kvs.map (·.1), Num W x) : ∀ l, (stepF W kvs lm lk st).2.2.1 = some l → l.length ≤ W ∧ ∀ x ∈ (stepF W kvs lm lk st).2.1, Beg W l x := by
  obtain ⟨kd, rest, sd, found, paper⟩ := st
  cases sd with
  | none =>
    obtain ⟨r, g, e, hg, hb⟩ := h.none_ (hr rfl)
    dsimp only at e
    subst e
    have e0 : stepF W kvs lm lk ⟨kd, r ++ [g], none, found, paper⟩ = (overF W ⟨kd, r, none, found, paper⟩ g, begF kvs kd g, some g, lk) := by
      unfold stepF
      simp
    rw [e0]
    intro l e
    cases e
    have bs := begF_sub (kvs := kvs) (kd := kd) (l := g)
    exact ⟨hg, fun x hx => beg_starts (hkn x (bs.2 x hx).1) (bs.2 x hx).2⟩
  | some l =>
    obtain ⟨_, hlt, _, hbeg⟩ := h.said l rfl
    unfold stepF
    dsimp only
    split
    · intro l' e
      cases e
      exact ⟨Nat.le_of_lt hlt, hbeg⟩
    · intro l' e
      cases e
      refine ⟨by rw [List.length_append, List.length_singleton]; omega, fun x hx => ?_⟩
      obtain ⟨x1, x2⟩ := List.mem_filter.mp hx
      exact beg_next' (hbeg x x1) x2
theorem step_sub {W : Nat} {kvs : List (Str × Bool)} {lm : List Str} {lk : Int} {st : WkS} {names : List Str} (hs : ∀ x ∈ lm, x ∈ names) (hk : ∀ x ∈ kvs.map (·.1), x ∈ names) : ∀ x ∈ (stepF W kvs lm lk st).2.1, x ∈ names := by
  obtain ⟨kd, rest, sd, found, paper⟩ := st
  cases sd with
  | none => exact fun x hx => hk x (begF_sub.2 x hx).1
  | some l =>
    unfold stepF
    dsimp only
    split
    · exact hs
    · exact fun x hx => hs x (List.mem_filter.mp hx).1
theorem step_len {W m : Nat} {kvs : List (Str × Bool)} {lm : List Str} {lk : Int} {st : WkS} (hs : lm.length ≤ m) (hk : kvs.length ≤ m) : (stepF W kvs lm lk st).2.1.length ≤ m := by
  obtain ⟨kd, rest, sd, found, paper⟩ := st
  cases sd with
  | none => exact Nat.le_trans begF_sub.1 hk
  | some l =>
    unfold stepF
    dsimp only
    split
    · exact hs
    · exact Nat.le_trans (List.length_filter_le _ _) hs
/-- a walk's state, who listens, what is said on the wire, the looks -/
abbrev Q4 := WkS × List Str × Option (List Nat) × Int
def stepQ (W : Nat) (kvs : List (Str × Bool)) (q : Q4) : Q4 := ((stepF W kvs q.2.1 q.2.2.2 q.1).1.1, (stepF W kvs q.2.1 q.2.2.2 q.1).2)
structure InvQ (names : List Str) (W : Nat) (q : Q4) (b : Nat) : Prop where
  ok : WkOk W q.2.1 q.2.2.1 q.1 b
  cn : Cnts names q.1
  sub : ∀ x ∈ q.2.1, x ∈ names
  beg : ∀ l, q.2.2.1 = some l → l.length ≤ W ∧ ∀ x ∈ q.2.1, Beg W l x
  len : q.2.1.length ≤ 41
  mz : b + meas W q.1 ≤ 20000
theorem inv_step {names : List Str} {W b : Nat} {kvs : List (Str × Bool)} {q : Q4} (h : InvQ names W q b) (hr : q.1.sd = none → q.1.rest ≠ []) (hk : kvs.length ≤ 41) (hkn : ∀ x ∈ kvs.map (·.1), x ∈ names) (hnn : ∀ x ∈ names, Num W x) : InvQ names W (stepQ W kvs q) (b + 1) ∧ mv W names (stepQ W kvs q).1 < mv W names q.1 := by
  obtain ⟨a1, a2, a3, a4, a5, a6⟩ := h
  have kn : ∀ x ∈ kvs.map (·.1), Num W x := fun x hx => hnn x (hkn x hx)
  have s1 := step_mv (kvs := kvs) (lk := q.2.2.2) a1 a2 a3 hr
  have s2 := step_meas (kvs := kvs) (lk := q.2.2.2) a1 hr
  refine ⟨⟨step_ok a1 hr (by omega) kn, s1.2, step_sub a3 hkn, step_beg a1 hr kn, step_len a5 hk, ?_⟩, s1.1⟩
  show b + 1 + meas W (stepF W kvs q.2.1 q.2.2.2 q.1).1.1 ≤ 20000
  omega
/-- some steps -/
inductive Stp (W : Nat) (kvs : List (Str × Bool)) : Q4 → Q4 → Prop where
  | refl (q : Q4) : Stp W kvs q q
  | step (q q' : Q4) : (q.1.sd = none → q.1.rest ≠ []) → Stp W kvs (stepQ W kvs q) q' → Stp W kvs q q'
theorem inv_stp {names : List Str} {W : Nat} {kvs : List (Str × Bool)} (hk : kvs.length ≤ 41) (hkn : ∀ x ∈ kvs.map (·.1), x ∈ names) (hnn : ∀ x ∈ names, Num W x) {q q' : Q4} (s : Stp W kvs q q') : ∀ {b : Nat}, InvQ names W q b → (∃ b', InvQ names W q' b') ∧ mv W names q'.1 ≤ mv W names q.1 := by
  induction s with
  | refl q => exact fun h => ⟨⟨_, h⟩, Nat.le_refl _⟩
  | step q q' hr _ ih =>
    intro b h
    have s1 := inv_step h hr hk hkn hnn
    have s2 := ih s1.1
    exact ⟨s2.1, by omega⟩
theorem round_stp {W : Nat} {kvs : List (Str × Bool)} : ∀ {n : Nat} {st : WkS} {lm : List Str} {sdm : Option (List Nat)} {lk : Int}, (st.sd = none → st.rest ≠ []) → Stp W kvs (stepQ W kvs (st, lm, sdm, lk)) ((roundF W kvs n lm lk st).1.1, (roundF W kvs n lm lk st).2)
  | 0, st, lm, sdm, lk, h => .refl _
  | n + 1, st, lm, sdm, lk, h => by
    by_cases hno : (stepF W kvs lm lk st).1.2 = .no
    · rw [round_no hno]
      obtain ⟨l', e, _⟩ := step_no hno
      have hc : (stepF W kvs lm lk st).1.1.sd = none → (stepF W kvs lm lk st).1.1.rest ≠ [] := fun z => by rw [e] at z; cases z
      exact .step _ _ hc (round_stp (sdm := (stepF W kvs lm lk st).2.2.1) hc)
    · rw [round_yes hno]
      exact .refl _
theorem all_stp {W : Nat} {kvs : List (Str × Bool)} : ∀ {n : Nat} {q : Q4}, Stp W kvs q (allF W kvs n q)
  | 0, q => .refl _
  | n + 1, q => by
    by_cases h : q.1.sd = none ∧ q.1.rest = []
    · rw [all_stop h]
      exact .refl _
    · rw [all_go h]
      exact .step _ _ (fun a b => h ⟨a, b⟩) all_stp
theorem cnt_nil {names : List Str} : cnt names [] = names.length := by
  have e : names.filter (starts []) = names := List.filter_eq_self.mpr fun x _ => decide_eq_true rfl
  unfold cnt
  rw [e]
/-- a walk begun -/
theorem inv_new {names : List Str} {W : Nat} {kd : Str} (hn : names ≠ []) (hW : W ≤ 12) (hl : names.length ≤ 41) : InvQ names W (⟨kd, [[]], none, [], []⟩, [], none, 0) 1 ∧ mv W names ⟨kd, [[]], none, [], []⟩ ≤ 533 := by
  have hp : 1 ≤ names.length := List.length_pos_iff.mpr hn
  refine ⟨⟨⟨fun g hg => ?_, fun l e => (by cases e), ⟨Nat.le_refl _, Nat.zero_le _, Nat.zero_le _⟩, Nat.zero_le _⟩, ⟨fun g hg => ?_, fun l e => (by cases e)⟩, fun x hx => absurd hx (by simp), fun l e => (by cases e), Nat.zero_le _, ?_⟩, ?_⟩
  · rw [List.mem_singleton.mp hg]
    exact ⟨Nat.zero_le _, Bits.nil⟩
  · rw [List.mem_singleton.mp hg, cnt_nil]
    exact hp
  · show 1 + (wR W [] + 0 + 0) ≤ 20000
    have : 2 ^ (W + 2) ≤ 2 ^ 14 := Nat.pow_le_pow_right (by decide) (by omega)
    have e : wR W [] = 2 ^ (W + 2) - 1 := rfl
    omega
  · show vR W names [] + 0 + 0 ≤ 533
    have e : vR W names [] = names.length * (W + 1) := by
      unfold vR
      rw [cnt_nil]
      rfl
    have := Nat.mul_le_mul hl (show W + 1 ≤ 13 by omega)
    omega
end B

set_option Elab.async false
set_option linter.all false
set_option maxRecDepth 100000
set_option maxHeartbeats 4000000
namespace B
open PySem PySem.Spec PyProof.Rows L2
open SX (S)
theorem deed_hang {kvs : List (Str × Bool)} {x : Str} {lw : List Str} (h : ¬ hasK kvs x = true) : deedW kvs "hang" x = "" ∧ deedK kvs "hang" x = putB kvs x false ∧ deedL kvs lw "hang" x = lw := by
  unfold deedW deedK deedL
  rw [if_pos rfl, if_pos rfl, if_neg h, if_neg h, if_neg (fun z => absurd z.1 (by decide +kernel))]
  exact ⟨rfl, rfl, rfl⟩
theorem deed_alarm {kvs : List (Str × Bool)} {x : Str} {lw : List Str} (h : hasK kvs x = true) : deedW kvs "alarm" x = "" ∧ deedK kvs "alarm" x = putB kvs x true ∧ deedL kvs lw "alarm" x = lw := by
  have nw : ¬ ("alarm" : Str) = "hang" := by decide +kernel
  have no : ¬ ("alarm" : Str) = "off" := by decide +kernel
  unfold deedW deedK deedL
  rw [if_neg nw, if_neg nw, if_pos h, if_pos h, if_neg no, if_neg (fun z => no z.1), decide_eq_true rfl]
  exact ⟨rfl, rfl, rfl⟩
theorem has_put {kvs : List (Str × Bool)} {x : Str} {b : Bool} : hasK (putB kvs x b) x = true := by
  rw [has_key, keys_put]
  split
  · rename_i h
    exact has_key.mp h
  · exact List.mem_append_right _ (by simp)
theorem nod_app {L G : List Addr} {H : Hp} (hL : L.Nodup) (hG : G.Nodup) (al : ∀ x ∈ L, H x ≠ none) (nn : ∀ x ∈ G, H x = none) : (L ++ G).Nodup := by
  rw [List.nodup_append]
  exact ⟨hL, hG, fun a ha c hc e => al a ha (by rw [e]; exact nn c hc)⟩
/-- a statement whose ways all lead to the same -/
theorem seq_merge {a b : TS} {D : Ends} {σ : L2.St} {H : Hp} (P : L2.St → Hp → Prop) (h1 : ∀ K : L2.St → Hp → Prop, (∀ σ' H', P σ' H' → K σ' H') → a { D with nx := K } σ H) (h2 : ∀ σ' H', P σ' H' → b D σ' H') : tSeq a b D σ H := h1 _ h2
theorem seq_merge2 {a b c : TS} {D : Ends} {σ : L2.St} {H : Hp} (P : L2.St → Hp → Prop) (h1 : ∀ K : L2.St → Hp → Prop, (∀ σ' H', P σ' H' → K σ' H') → tSeq a b { D with nx := K } σ H) (h2 : ∀ σ' H', P σ' H' → c D σ' H') : tSeq a (tSeq b c) D σ H := h1 _ h2
/-- a while whose test makes but new things: G tells whether it goes on -/
theorem while_go {α : Type} {c : TT} {tb : TS} {D : Ends} {σ : L2.St} {H : Hp} (Wd : α → Nat → L2.St → Hp → Prop) (G : α → Prop) (h0 : ∃ x m, Wd x m σ H)
    (hc : ∀ x m σ H, Wd x m σ H → ∀ K : Bool → Hp → Prop, (G x → ∀ H', Frm [] H H' → K true H') → (¬ G x → ∀ H', Frm [] H H' → K false H') → c σ H K)
    (hb : ∀ x m σ H H', Wd x m σ H → G x → Frm [] H H' → tb { D with nx := fun σ' H'' => ∃ m', m' < m ∧ ∃ x', Wd x' m' σ' H'', ct := fun σ' H'' => ∃ m', m' < m ∧ ∃ x', Wd x' m' σ' H'', bk := D.nx } σ H')
    (hd : ∀ x m σ H H', Wd x m σ H → ¬ G x → Frm [] H H' → D.nx σ H') : tWhile c tb D σ H := by
  obtain ⟨x0, m0, w0⟩ := h0
  refine ⟨fun m σ H => ∃ x, Wd x m σ H, ⟨m0, x0, w0⟩, ?_⟩
  rintro m σ H ⟨x, w⟩
  refine hc x m σ H w _ (fun g H' f => ?_) (fun g H' f => ?_)
  · rw [if_pos rfl]
    exact ⟨fun σ' H'' => ∃ m', m' < m ∧ ∃ x', Wd x' m' σ' H'', fun _ _ h => h, hb x m σ H H' w g f⟩
  · rw [if_neg Bool.false_ne_true]
    exact hd x m σ H H' w g f
theorem deed_off {kvs : List (Str × Bool)} {x : Str} {lw : List Str} (h : hasK kvs x = true) : deedW kvs "off" x = "" ∧ deedK kvs "off" x = dropB kvs x ∧ deedL kvs lw "off" x = lw.filter (fun y => decide (y ≠ x)) := by
  have nw : ¬ ("off" : Str) = "hang" := by decide +kernel
  unfold deedW deedK deedL
  rw [if_neg nw, if_neg nw, if_pos h, if_pos h, if_pos rfl, if_pos ⟨rfl, h⟩]
  exact ⟨rfl, rfl, rfl⟩
theorem inV_strs (x : Str) (xs : List Str) : inV (V.str x) (xs.map V.str) = decide (x ∈ xs) := by
  by_cases h : x ∈ xs
  · rw [decide_eq_true h]
    unfold inV
    rw [List.any_map, List.any_eq_true]
    exact ⟨x, h, by show eqV (V.str x) (V.str x) = true; simp [eqV]⟩
  · rw [decide_eq_false h]
    cases e : inV (V.str x) (xs.map V.str) with
    | false => rfl
    | true =>
      exfalso
      unfold inV at e
      rw [List.any_map, List.any_eq_true] at e
      obtain ⟨y, hy, q⟩ := e
      have q' : (y == x) = true := q
      exact h (eq_of_beq q' ▸ hy)
theorem keys_new {kvs : List (Str × Bool)} {x : Str} {b : Bool} (h : ¬ hasK kvs x = true) : (putB kvs x b).map (·.1) = kvs.map (·.1) ++ [x] := by rw [keys_put, if_neg h]
theorem keys_in {kvs : List (Str × Bool)} {x y : Str} {b : Bool} : y ∈ (putB kvs x b).map (·.1) ↔ y ∈ kvs.map (·.1) ∨ y = x := by
  rw [keys_put]
  split
  · rename_i h
    exact ⟨.inl, fun q => q.elim id fun e => by rw [e]; exact has_key.mp h⟩
  · rw [List.mem_append, List.mem_singleton]
theorem tld_dec {H : Hp} {r : Tld} {v : V} (h : TldAt H r v) : (v = V.non ↔ r = .no) := by
  cases r with
  | no => exact ⟨fun _ => rfl, fun _ => h⟩
  | lost =>
    obtain ⟨t, e, _⟩ := h
    exact ⟨fun z => (by rw [e] at z; cases z), fun z => (by cases z)⟩
  | found l =>
    obtain ⟨t, e, _⟩ := h
    exact ⟨fun z => (by rw [e] at z; cases z), fun z => (by cases z)⟩
end B

set_option Elab.async false
set_option linter.all false
set_option maxRecDepth 100000
set_option maxHeartbeats 4000000
namespace B
open PySem PySem.Spec PyProof.Rows L2
open SX (S)
/-! ### what changes is no tuple -/
def nt : HO → Bool
  | .ins _ _ _ => true
  | .dK _ => true
  | .lst _ => true
  | _ => false
def NT (T : List Addr) (H : Hp) : Prop := ∀ s ∈ T, ∃ o, H s = some o ∧ nt o = true
theorem NT.nil {H : Hp} : NT [] H := fun _ h => absurd h (by simp)
theorem NT.cons {T : List Addr} {H : Hp} {s : Addr} {o : HO} (h : H s = some o) (n : nt o = true) (t : NT T H) : NT (s :: T) H := fun c hc => by
  rcases List.mem_cons.mp hc with e | e
  · rw [e]
    exact ⟨o, h, n⟩
  · exact t c e
theorem NT.of {T : List Addr} {H : Hp} (h : NL T H) : NT T H := fun s hs => by
  obtain ⟨o, e, n⟩ := h s hs
  refine ⟨o, e, ?_⟩
  cases o <;> first | rfl | cases n
theorem NT.out {T : List Addr} {H : Hp} {p : Addr} {o : HO} (n : NT T H) (h : H p = some o) (h2 : nt o = false) : p ∉ T := fun z => by
  obtain ⟨u, e, q⟩ := n p z
  rw [h] at e
  cases e
  rw [h2] at q
  cases q
theorem nt_codeO {c : Addr} {q : Str} : nt (LamX.CodeO c q) = false := rfl
theorem Frm.toN {K : PySem.W.Frag} {T : List Addr} {H H' : Hp} (f : Frm T H H') (n : NT T H) : FrT K T H H' := by
  have kp : ∀ {p : Addr} {o : HO}, H p = some o → nt o = false → H' p = some o := fun {p o} e h => f.k p o e rfl (n.out e h)
  refine ⟨fun b o e _ hb => f.k b o e rfl hb, f.b, fun ⟨h1, h2⟩ => ⟨fun p hp => ?_, fun p hp => ?_⟩⟩
  · obtain ⟨ps, e, t⟩ := h1 p hp
    exact ⟨ps, kp e rfl, t⟩
  obtain ⟨qs, e1, t1, a1⟩ := h2 p hp
  refine ⟨qs, kp e1 rfl, t1, fun pos cv hc => ?_⟩
  obtain ⟨c, e2, e3⟩ := a1 pos cv hc
  exact ⟨c, e2, kp e3 nt_codeO⟩
theorem VkAt.keepT {K : PySem.W.Frag} {T : List Addr} {H H' : Hp} {qk pw qr qf qp : Addr} {st : WkS} (h : VkAt K H qk pw qr qf qp st) (f : FrT K T H H') (n : NT T H) (h1 : qk ∉ T) (h2 : qr ∉ T) (h3 : qf ∉ T) (h4 : qp ∉ T) : VkAt K H' qk pw qr qf qp st := by
  obtain ⟨⟨dx, o1⟩, o2, o3, ⟨ts, o4, o5, o6⟩, ne⟩ := h
  exact ⟨⟨dx, f.k _ _ o1 rfl h1⟩, f.k _ _ o2 rfl h2, f.k _ _ o3 rfl h3, ⟨ts, f.k _ _ o4 rfl h4, o5, fun i t q a b => f.k _ _ (o6 i t q a b) rfl (n.out (o6 i t q a b) rfl)⟩, ne⟩
theorem WkAt.keepT {K : PySem.W.Frag} {T : List Addr} {H H' : Hp} {pk pr pf pp : Addr} {st : WkS} (h : WkAt H pk pr pf pp st) (f : FrT K T H H') (n : NT T H) (h1 : pk ∉ T) (h2 : pr ∉ T) (h3 : pf ∉ T) (h4 : pp ∉ T) : WkAt H' pk pr pf pp st := by
  obtain ⟨o1, o2, o3, ⟨ts, o4, o5, o6⟩, ne⟩ := h
  exact ⟨f.k _ _ o1 rfl h1, f.k _ _ o2 rfl h2, f.k _ _ o3 rfl h3, ⟨ts, f.k _ _ o4 rfl h4, o5, fun i t q a b => f.k _ _ (o6 i t q a b) rfl (n.out (o6 i t q a b) rfl)⟩, ne⟩
theorem TldAt.keepT {K : PySem.W.Frag} {T : List Addr} {H H' : Hp} {r : Tld} {v : V} (h : TldAt H r v) (f : FrT K T H H') (n : NT T H) : TldAt H' r v := by
  cases r with
  | no => exact h
  | lost =>
    obtain ⟨t, e, z⟩ := h
    exact ⟨t, e, f.k _ _ z rfl (n.out z rfl)⟩
  | found l =>
    obtain ⟨t, e, z⟩ := h
    exact ⟨t, e, f.k _ _ z rfl (n.out z rfl)⟩
theorem VkOk.keepT {K : PySem.W.Frag} {H H' : Hp} {T : List Addr} {qk pw qr qf qp dh dl : Addr} {W : Nat} {kvs : List (Str × Bool)} {lm : List Str} {sdm : Option (List Nat)} {lk : Int} {st : WkS} {n : Nat} (h : VkOk K H qk pw qr qf qp dh dl W kvs lm sdm lk st n) (f : FrT K T H H') (z : NT T H) (h1 : qk ∉ T) (h2 : qr ∉ T) (h3 : qf ∉ T) (h4 : qp ∉ T) (h5 : pw ∉ T) (h6 : dh ∉ T) (h7 : dl ∉ T) : VkOk K H' qk pw qr qf qp dh dl W kvs lm sdm lk st n := by
  obtain ⟨a, ⟨lw, b1, b2⟩, c, d, e, g, i, j, o⟩ := h
  exact ⟨a.keepT f z h1 h2 h3 h4, ⟨lw, b1.keep f h5 h6 h7, b2⟩, c, d, e, g, i, j, o⟩
theorem Pool.keep {K : PySem.W.Frag} {T : List Addr} {H H' : Hp} {pn : Addr} {W : Nat} {names : List Str} (h : Pool H pn W names) (f : FrT K T H H') (n : pn ∉ T) : Pool H' pn W names :=
  ⟨f.k _ _ h.at_ rfl n, h.ne, h.len, h.num, h.w⟩
theorem txs (l : List (List Nat)) : l.map txV = (l.map S).map V.str := by
  rw [List.map_map]
  rfl
theorem eqv_txs (l : List (List Nat)) : PyData.eqv (.list ((l.map S).map .str)) (.list []) = l.isEmpty := by
  rw [eqv_empty]
  cases l <;> rfl
end B

set_option Elab.async false
set_option linter.all false
set_option maxRecDepth 100000
set_option maxHeartbeats 4000000
namespace B
open PySem PySem.Spec PyProof.Rows L2
/-! ### sets of texts that can be walked: made of a list, sorted, counted -/
/-- a table's row that holds a text -/
def TxRow (w : World) (e : Int × Value) : Prop := ∃ z t, e.2 = Value.str z t ∧ e.1 = hashStr w z
def txOf (e : Int × Value) : Str := match e.2 with
  | .str z _ => z
  | _ => Str.empty
structure STr (w : World) (h : Heap) (a : Addr) (T : Str → Bool) (n : Nat) (o : Obj) (es : Array (Int × Value)) (ep : Nat) (t : SetTable) : Prop where
  at_ : h.get? a = some o
  ex : o.ExactSet
  dt : o.data = .set es ep t
  row : ∀ e ∈ es.toList, TxRow w e
  nd : (es.toList.map txOf).Nodup
  mem : ∀ x, T x = true ↔ x ∈ es.toList.map txOf
  few : es.size < scanBound
  fit : t.fits es.size = true
  cnt : es.size = n
  ris : Ris t.place.toList
  led : w.params.followText "set-order" = true ∨ t.led = true
/-- the set of texts at a: its members, how many they are -/
def STx (w : World) (h : Heap) (a : Addr) (T : Str → Bool) (n : Nat) : Prop := ∃ o es ep t, STr w h a T n o es ep t
section
variable {P : Program} {w : World} {A : Around} {E : Value → Shared → Prop} {s : Shared} {h h' : Heap} {a : Addr} {T : Str → Bool} {n : Nat}
theorem STx.keep (R : STx w h a T n) (k : ∀ o, h.get? a = some o → h'.get? a = some o) : STx w h' a T n := by
  obtain ⟨o, es, ep, t, r⟩ := R
  exact ⟨o, es, ep, t, { r with at_ := k o r.at_ }⟩
theorem STx.like {T' : Str → Bool} {m : Nat} (R : STx w h a T n) (e : ∀ x, T' x = T x) (hm : m = n) : STx w h a T' m := by
  have q : T' = T := funext e
  rw [q, hm]
  exact R
theorem tx_elems {l : List (Int × Value)} (g : ∀ e ∈ l, TxRow w e) : ElemsOf (PySem.strKind P w) l := by
  intro e he
  obtain ⟨z, t, h1, h2⟩ := g e he
  refine ⟨⟨z, ?_, h2⟩, ?_⟩
  · rw [h1]
    exact strKind_is _ _ _ _
  · rw [h1] <;> rfl
theorem tx_is {e : Int × Value} (g : TxRow w e) (x : Str) : (PySem.strKind P w).is x e.2 = true ↔ txOf e = x := by
  obtain ⟨z, t, h1, _⟩ := g
  unfold txOf
  rw [h1]
  constructor
  · intro q
    have q' : Value.isStrOf x (.str z t) = true := q
    obtain ⟨t', q2⟩ := Value.isStrOf_shape q'
    injection q2
  · intro q
    have q' : z = x := q
    rw [q']
    exact strKind_is _ _ _ _
theorem tx_mem {l : List (Int × Value)} (g : ∀ e ∈ l, TxRow w e) (x : Str) : x ∈ l.map txOf ↔ ∃ e ∈ l, (PySem.strKind P w).is x e.2 = true := by
  rw [List.mem_map]
  exact ⟨fun ⟨e, he, q⟩ => ⟨e, he, (tx_is (g e he) x).mpr q⟩, fun ⟨e, he, q⟩ => ⟨e, he, (tx_is (g e he) x).mp q⟩⟩
theorem tx_put {h0 : Heap} {o : Obj} {es es' : Array (Int × Value)} {ep : Nat} {t t' : SetTable} (ho : h0.get? a = some o) (hd : o.data = .set es ep t) : (h0.update a (Obj.putSet es' t')).get? a = some { o with data := .set es' (ep + 1) t' } := L2.store_at ho hd
/-- the end of an add: the rows stored, the table laid anew if it is full -/
theorem stx_tail {g : Bool → Sem Unit} (hg : ∀ (b : Bool) (z : Shared) (Z : Unit → Shared → Prop), Z () z → wpAny (model P w) A (g b) Z E z) {o : Obj} {es ys : Array (Int × Value)} {ep : Nat} {t u : SetTable} {U : Str → Bool} (ho : s.heap.get? a = some o) (ex : o.ExactSet) (hd : o.data = .set es ep t)
    (g1 : ∀ e ∈ ys.toList, TxRow w e) (g2 : (ys.toList.map txOf).Nodup) (g3 : ∀ x, U x = true ↔ x ∈ ys.toList.map txOf) (g4 : ys.size < scanBound) (g5 : u.fits ys.size = true) (g6 : Ris u.place.toList) (g7 : w.params.followText "set-order" = true ∨ u.led = true) {wd : Bool} {Z : Option Bool → Shared → Prop}
    (k : ∀ h', Heap.SameBut a s.heap h' → STx w h' a U ys.size → Z (some true) { s with heap := h' }) :
    wpAny (model P w) A (do
      storeSet a ys u
      if (!wd && u.tooFull) = true then do
          g (relayAll u ys (SetTable.grown ys.size)).2.2
          storeSet a (relayAll u ys (SetTable.grown ys.size)).1 (relayAll u ys (SetTable.grown ys.size)).2.1
          pure (some true)
        else pure (some true)) Z E s := by
  have b1 := Heap.SameBut.update s.heap a (Obj.putSet ys u)
  have ho1 := tx_put (es' := ys) (t' := u) ho hd
  refine wpAny_bind (wpAny_storeSet_of ho hd ?_ (fits_of_scanBound g4))
  split
  · have y1 := relayAll_perm u ys (SetTable.grown ys.size)
    have y2 := relayAll_fits u ys (SetTable.grown ys.size)
    have y3 := L2.relayAll_ris u ys (SetTable.grown ys.size)
    have y4 := L2.relayAll_led u ys (SetTable.grown ys.size)
    generalize relayAll u ys (SetTable.grown ys.size) = N at y1 y2 y3 y4 ⊢
    obtain ⟨zs, v, gave⟩ := N
    dsimp only at y1 y2 y3 y4 ⊢
    have es2 : zs.size = ys.size := by
      have q := y1.length_eq
      rw [Array.length_toList, Array.length_toList] at q
      exact q
    have few2 : zs.size < scanBound := by omega
    refine wpAny_bind (hg _ _ _ (wpAny_bind (wpAny_storeSet_of ho1 rfl ?_ (fits_of_scanBound few2))))
    refine wpAny_pure (k _ (b1.trans (Heap.SameBut.update _ a _)) ⟨_, zs, _, v, tx_put (es' := zs) (t' := v) ho1 rfl, ex, rfl, fun e he => g1 e (y1.mem_iff.mp he), (y1.map txOf).nodup_iff.mpr g2, fun x => (g3 x).trans (y1.map txOf).mem_iff.symm, few2, y2, es2, y3, ?_⟩)
    exact g7.imp id fun q => y4.trans q
  · exact wpAny_pure (k _ b1 ⟨_, ys, _, u, ho1, ex, rfl, g1, g2, g3, g4, g5, rfl, g6, g7⟩)
theorem stx_add {x : Str} {tk : Tok} {Q : Bool → Shared → Prop} (R : STx w s.heap a T n) (room : n + 1 < scanBound) (k : ∀ h', Heap.SameBut a s.heap h' → STx w h' a (fun y => T y || decide (y = x)) (if T x = true then n else n + 1) → Q (!T x) { s with heap := h' }) :
    wpAny (model P w) A (setAddHashed a (.str x tk) ((PySem.strKind P w).hash x)) Q E s := by
  obtain ⟨o, es, ep, t, r⟩ := R
  have ix : (PySem.strKind P w).is x (.str x tk) = true := strKind_is _ _ _ _
  have sc : (Value.str x tk).scannable = true := rfl
  have el : ElemsOf (PySem.strKind P w) es.toList := tx_elems r.row
  unfold setAddHashed setAddHashedIn
  refine wpAny_holding (wpAny_bind (wpAny_setState_of r.at_ r.dt r.fit ?_))
  dsimp only
  rw [byScan_of sc r.few el]
  simp only [↓reduceIte]
  unfold setAddByScan
  refine wpAny_bind (wpAny_bind (wpAny_rule (wpAny_bind (wpAny_setScan_of ix r.at_ r.dt r.fit el ?_))))
  cases q : List.findIdx? (fun e => (PySem.strKind P w).is x e.2) es.toList with
  | some j =>
    dsimp only
    obtain ⟨hj, pj, _⟩ := List.findIdx?_eq_some_iff_getElem.mp q
    have hx : T x = true := (r.mem x).mpr ((tx_mem (P := P) r.row x).mpr ⟨_, List.getElem_mem hj, pj⟩)
    have z := k s.heap (Heap.SameBut.refl a s.heap) ⟨o, es, ep, t, { r with
      mem := fun y => by
        rw [Bool.or_eq_true, decide_eq_true_eq, ← r.mem y]
        constructor
        · rintro (c | rfl)
          · exact c
          · exact hx
        · exact Or.inl
      cnt := by rw [if_pos hx]; exact r.cnt }⟩
    rw [hx] at z
    exact wpAny_pure (wpAny_pure z)
  | none =>
    dsimp only
    have nx : x ∉ es.toList.map txOf := fun c => by
      obtain ⟨e, he, c1⟩ := (tx_mem (P := P) r.row x).mp c
      have c2 := List.findIdx?_eq_none_iff.mp q e he
      rw [c1] at c2
      cases c2
    have hx : T x = false := by
      cases c : T x with
      | false => rfl
      | true => exact absurd ((r.mem x).mp c) nx
    have gw : ∀ (b : Bool) {z : Shared} {Z : Unit → Shared → Prop}, Z () z → wpAny (model P w) A (match b with | true => rule "set.scan.the-table-gave-way" | false => pure ()) Z E z := by
      intro b z Z c
      cases b <;> first | exact wpAny_pure c | exact wpAny_rule c
    have y1 := layNew_perm t es ((PySem.strKind P w).hash x) (.str x tk)
    have y2 := layNew_fits t es ((PySem.strKind P w).hash x) (.str x tk)
    have y3 := L2.layNew_ris t es ((PySem.strKind P w).hash x) (.str x tk) r.ris
    have y4 := L2.layNew_led t es ((PySem.strKind P w).hash x) (.str x tk)
    generalize layNew t es ((PySem.strKind P w).hash x) (.str x tk) = N at y1 y2 y3 y4 ⊢
    obtain ⟨ys, u, wd, gave⟩ := N
    dsimp only at y1 y2 y3 y4 ⊢
    rw [Array.toList_push] at y1
    have pc : ys.toList.Perm (((PySem.strKind P w).hash x, Value.str x tk) :: es.toList) := y1.trans (List.perm_append_singleton _ _)
    have pk : (ys.toList.map txOf).Perm (x :: es.toList.map txOf) := pc.map txOf
    have sz : ys.size = n + 1 := by
      have c := pc.length_eq
      rw [List.length_cons, Array.length_toList, Array.length_toList, r.cnt] at c
      exact c
    have few : ys.size < scanBound := by omega
    have row : ∀ e ∈ ys.toList, TxRow w e := fun e he => by
      rcases List.mem_cons.mp (pc.mem_iff.mp he) with c | c
      · exact ⟨x, tk, by rw [c], by rw [c]; rfl⟩
      · exact r.row e c
    have nd : (ys.toList.map txOf).Nodup := pk.nodup_iff.mpr (List.nodup_cons.mpr ⟨nx, r.nd⟩)
    have mem : ∀ y, (T y || decide (y = x)) = true ↔ y ∈ ys.toList.map txOf := fun y => by
      rw [pk.mem_iff, List.mem_cons, Bool.or_eq_true, decide_eq_true_eq, r.mem y]
      exact Or.comm
    have led : w.params.followText "set-order" = true ∨ u.led = true := r.led.imp id fun c => y4.trans c
    have fin : ∀ h', Heap.SameBut a s.heap h' → STx w h' a (fun y => T y || decide (y = x)) ys.size → Q true { s with heap := h' } := fun h' sb c => by
      have z := k h' sb
      rw [hx] at z
      rw [sz] at c
      exact z c
    refine wpAny_bind (gw _ ?_)
    split
    · rw [hashByValue_scannable 8 sc]
      refine wpAny_bind (wpAny_pure ?_)
      refine stx_tail ?_ r.at_ r.ex r.dt row nd mem few ?_ ?_ ?_ ?_
      · intro b z Z c; cases b <;> first | exact wpAny_pure c | exact wpAny_rule c
      · first | (split <;> first | exact y2 | exact SetTable.fits_plain_off y2) | exact y2
      · first | (split <;> exact y3) | exact y3
      · first | (split <;> exact led) | exact led
      · intro h' sb c; dsimp only; exact wpAny_pure (fin h' sb c)
    · refine wpAny_bind (wpAny_pure ?_)
      simp only [↓reduceIte]
      refine stx_tail ?_ r.at_ r.ex r.dt row nd mem few y2 y3 led ?_
      · intro b z Z c; cases b <;> first | exact wpAny_pure c | exact wpAny_rule c
      · intro h' sb c; dsimp only; exact wpAny_pure (fin h' sb c)
theorem stx_none {o : Addr} (e : h.get? o = some { cls := .type "set", dict := none, data := .set #[] 0 (.fresh 0 0 (!w.params.followText "set-order")) }) : STx w h o (fun _ => false) 0 := by
  refine ⟨_, #[], 0, _, e, ⟨rfl, rfl, rfl⟩, rfl, fun e he => (by simp at he), (by simp), fun x => (by simp), (by decide), (by rfl), rfl, List.Pairwise.nil, ?_⟩
  show _ ∨ (!w.params.followText "set-order") = true
  cases w.params.followText "set-order" <;> simp
theorem snoc_ind {α : Type} {motive : List α → Prop} (h0 : motive []) (h1 : ∀ r x, motive r → motive (r ++ [x])) (l : List α) : motive l := by
  rw [← List.reverse_reverse l]
  induction l.reverse with
  | nil => exact h0
  | cons x r ih =>
    rw [List.reverse_cons]
    exact h1 _ _ ih
/-- the unlike ones of a list of texts, in turn -/
def dedT (xs : List Str) : List Str := xs.foldl (fun acc x => if x ∈ acc then acc else acc ++ [x]) []
theorem ded_snoc {xs : List Str} {x : Str} : dedT (xs ++ [x]) = if x ∈ dedT xs then dedT xs else dedT xs ++ [x] := by
  unfold dedT
  rw [List.foldl_append]
  rfl
theorem ded_mem (xs : List Str) (y : Str) : y ∈ dedT xs ↔ y ∈ xs := by
  induction xs using snoc_ind with
  | h0 => exact Iff.rfl
  | h1 r x ih =>
    rw [ded_snoc, List.mem_append, List.mem_singleton]
    split
    · rename_i hx
      constructor
      · exact fun q => .inl (ih.mp q)
      · rintro (q | rfl)
        · exact ih.mpr q
        · exact hx
    · rw [List.mem_append, List.mem_singleton, ih]
theorem ded_nodup (xs : List Str) : (dedT xs).Nodup := by
  induction xs using snoc_ind with
  | h0 => exact List.nodup_nil
  | h1 r x ih =>
    rw [ded_snoc]
    split
    · exact ih
    · rename_i hx
      exact nodup_snoc ih hx
theorem ded_len (xs : List Str) : (dedT xs).length ≤ xs.length := by
  induction xs using snoc_ind with
  | h0 => exact Nat.le_refl _
  | h1 r x ih =>
    rw [ded_snoc, List.length_append, List.length_singleton]
    split
    · omega
    · rw [List.length_append, List.length_singleton]
      omega
theorem ded_self {xs : List Str} (h : xs.Nodup) : dedT xs = xs := by
  induction xs using snoc_ind with
  | h0 => rfl
  | h1 r x ih =>
    rw [List.nodup_append] at h
    have hx : x ∉ r := fun z => h.2.2 x z x (by simp) rfl
    rw [ded_snoc, ih h.1, if_neg hx]
/-- all of a list put in -/
theorem stx_loop {I : Addr} {fp wr : List Addr} {G : Array GenState → Array GenState → Prop} {m : Nat} {Pv : Nat → Value → Prop} {St : Nat → Shared → Prop} {Z : Result → Shared → Prop} (W : WalksS P w A.in1 I fp wr G m Pv St) (D : Addr) (hD : D ∉ fp) (xs : List Str) (hm : m = xs.length) (few : xs.length + 1 < scanBound) (val : ∀ i v, Pv i v → ∃ z t, xs[i]? = some z ∧ v = .str z t) :
    ∀ (j i : Nat) (s : Shared), m - i = j → i ≤ m → St i s → STx w s.heap D (fun y => decide (y ∈ xs.take i)) (dedT (xs.take i)).length → (∀ s', Moved (D :: wr) G s s' → STx w s'.heap D (fun y => decide (y ∈ xs)) (dedT xs).length → Z (.ok (.ret .none)) s') →
      codeAny (model P w) A (.builtin "set.update.loop" ⟨[.ref D, .ref I], []⟩) Z s := by
  have out : D ∉ wr := fun q => hD (W.sub _ q)
  have more : ∀ b ∈ wr, b ∈ D :: wr := fun b q => List.mem_cons_of_mem _ q
  intro j
  induction j with
  | zero =>
    intro i s hj hi hst hS k
    obtain rfl : i = m := by omega
    refine codeAny_builtin PyProof.Rows.F.entry_set_update_loop ?_
    rw [Around.under_plainId PyProof.Rows.F.plain_set_update_loop _]
    show wpAny _ A.in1 (pyNext (.ref I) >>= _) _ _ s
    refine wpAny_bind (W.done s _ _ hst fun s' mv => ?_)
    show wpAny _ A.in1 (ret Value.none) _ _ s'
    rw [List.take_of_length_le (by omega)] at hS
    exact wpAny_pure (k s' (mv.mono more) (hS.keep fun o e => mv.heap D o out e))
  | succ j ih =>
    intro i s hj hi hst hS k
    refine codeAny_builtin PyProof.Rows.F.entry_set_update_loop ?_
    rw [Around.under_plainId PyProof.Rows.F.plain_set_update_loop _]
    show wpAny _ A.in1 (pyNext (.ref I) >>= _) _ _ s
    refine wpAny_bind (W.item i s _ _ (by omega) hst fun v s' hP hst' mv => ?_)
    obtain ⟨z, t, hz, rfl⟩ := val i v hP
    have hS' := hS.keep fun o e => mv.heap D o out e
    show wpAny _ A.in1 (holding [Value.str z t] (setAdd D (.str z t)) >>= _) _ _ s'
    refine wpAny_bind (wpAny_holding ?_)
    unfold setAdd
    refine wpAny_holding (wpAny_bind ((PySem.strKind P w).pyHash (k := z) (strKind_is _ _ _ _) ?_))
    have cnt := ded_len (xs.take i)
    rw [List.length_take] at cnt
    refine stx_add (s := { s' with toks := s'.toks + 1 }) hS' (by omega) fun h' sb hS2 => ?_
    have hS3 : STx w h' D (fun y => decide (y ∈ xs.take (i + 1))) (dedT (xs.take (i + 1))).length := hS2.like (fun y => by
      rw [take_snoc hz]
      simp [List.mem_append]) (by
      rw [take_snoc hz, ded_snoc]
      by_cases c : z ∈ xs.take i
      · rw [if_pos ((ded_mem _ _).mpr c), if_pos (decide_eq_true c)]
      · rw [if_neg (fun q => c ((ded_mem _ _).mp q)), if_neg (by rw [decide_eq_false c]; exact Bool.false_ne_true), List.length_append]
        rfl)
    refine wpAny_pure ⟨plainId_quiet PyProof.Rows.F.plain_set_update_loop _, ih (i + 1) _ (by omega) (by omega) (W.frame _ s' _ _ hst' (Nat.le_succ _) fun b hb o e => ?_) hS3 fun s'' mv2 hS4 => ?_⟩
    · rw [sb.2 b (fun q : b = D => hD (q ▸ hb))]
      exact e
    · refine k s'' (Moved.trans W.gtrans ((mv.mono more).then_heap (Nat.le_succ _) fun b o hb e => ?_) mv2) hS4
      rw [sb.2 b (fun q : b = D => hb (by rw [q]; exact List.mem_cons_self))]
      exact e
end
end B

set_option Elab.async false
set_option linter.all false
set_option maxRecDepth 100000
set_option maxHeartbeats 4000000
namespace B
open PySem PySem.Spec PyProof.Rows L2
section
variable {P : Program} {w : World} {A : Around} {E : Value → Shared → Prop} {s : Shared}
abbrev noneSet (w : World) : Obj := { cls := .type "set", dict := none, data := .set #[] 0 (.fresh 0 0 (!w.params.followText "set-order")) }
theorem txt_at : ∀ {us : List Value} {xs : List Str}, StrsAre us xs → ∀ (i : Nat) (v : Value), us[i]? = some v → ∃ z t, xs[i]? = some z ∧ v = .str z t
  | _, _, .nil, i, v, h => by simp at h
  | _, _, .cons z t r, 0, v, h => by
    rw [List.getElem?_cons_zero] at h
    exact ⟨z, t, rfl, (Option.some.inj h).symm⟩
  | _, _, .cons z t r, i + 1, v, h => by
    rw [List.getElem?_cons_succ] at h
    obtain ⟨y, u, h1, h2⟩ := txt_at r i v h
    exact ⟨y, u, by rw [List.getElem?_cons_succ]; exact h1, h2⟩
/-- set(list of texts) -/
theorem stx_of {l : Addr} {items : Array Value} (xs : List Str) {Q : Value → Shared → Prop} (hh : A.handled = none) (hl : s.heap.IsList l items) (hit : StrsAre items.toList xs) (few : xs.length + 1 < scanBound)
    (k : ∀ (h' : Heap) (tk : Nat), STx w h' s.heap.objs.size (fun y => decide (y ∈ xs)) (dedT xs).length → (∀ b o, s.heap.get? b = some o → h'.get? b = some o) → Q (.ref s.heap.objs.size) { s with heap := h', toks := tk }) :
    wpAny (model P w) A (call (.type "set") [.ref l]) Q E s := by
  have sz : items.size = xs.length := by
    have q := StrsAre.len_eq hit
    rw [Array.length_toList] at q
    exact q
  have made := PySem.F.called_set.made
  have sub := PySem.F.called_set.sub
  obtain ⟨c, tl, mro⟩ := PySem.F.called_set.mro
  refine wpAny_call (codeAny_of_tree ?_)
  show wpAny _ _ (callAny (.type "set") _) _ _ _
  refine wpAny_pure ⟨Code.quiet_builtin _ (by decide +kernel), codeAny_builtin PySem.F.entry_type_call ?_⟩
  rw [Around.under_plain (weight_type_call_type "set" [.ref l] []) rfl]
  have y1 := PySem.F.called_set.notType
  have y2 := PySem.F.called_set.canCreate
  have y3 := PySem.F.typeCall_set_1 (.ref l)
  repeat (any_goals (first | assumption | wp_step))
  refine codeAny_mono (L2.code_set_led1 (.ref l) (E := E) (Q₁ := fun v z => v = .ref s.heap.objs.size ∧ z = { s with heap := s.heap.push (noneSet w) }) ⟨rfl, rfl⟩) fun r z hr => ?_
  cases r with
  | error e => exact hr
  | ok fl =>
    cases fl with
    | ret v =>
      obtain ⟨rfl, rfl⟩ := hr
      have g0 : (s.heap.push (noneSet w)).get? s.heap.objs.size = some (noneSet w) := Heap.get?_push_size _ rfl
      have ty : Shared.TypeIs { s with heap := s.heap.push (noneSet w) } (.ref s.heap.objs.size) "set" := ⟨_, g0, rfl⟩
      have y4 := PySem.F.called_set.init.lookup
      have y5 := PySem.F.called_set.init.bind (.ref s.heap.objs.size)
      repeat (any_goals (first | assumption | wp_step))
      refine codeAny_mono (codeAny_call_builtin (R := wants (fun r u => r = .none ∧ ∃ h' tk, u = { s with heap := h', toks := tk } ∧ STx w h' s.heap.objs.size (fun y => decide (y ∈ xs)) (dedT xs).length ∧ ∀ b o, s.heap.get? b = some o → h'.get? b = some o) E) PySem.F.called_set.init.plain PySem.F.entry_set_init (check_set_init_1 ty ?_)) fun r2 u hr2 => ?_
      · obtain ⟨⟨ocls, odict, odata, oslots⟩, ol, hcl, nl, hdl⟩ := hl
        simp only at hcl hdl
        subst hcl hdl
        have ol2 : (s.heap.push (noneSet w)).get? l = some { cls := .type "list", dict := odict, data := .seq items nl, slots := oslots } := Heap.get?_push_of_some _ ol
        have y6 := PySem.F.sub_list_set
        have y7 := PySem.F.sub_list_frozenset
        have y8 : (Value.type "list" == Value.type "dict") = false := by decide
        have li : (s.heap.push (noneSet w)).IsList l items := ⟨_, ol2, rfl, nl, rfl⟩
        unfold Builtin.«set.__init__» noKeywords Builtin.Frozenset.updateFrom
        generalize hI : pyIter = itr
        wp_walk
        subst hI
        refine wpAny_pyIter_list li (wpAny_bind (wpAny_runValue ?_))
        have lt : l < s.heap.objs.size := Heap.lt_size ol
        have nI : l ≠ (s.heap.push (noneSet w)).objs.size := by
          rw [Heap.size_push]
          exact Nat.ne_of_lt (Nat.lt_succ_of_lt lt)
        have nS : s.heap.objs.size ∉ [(s.heap.push (noneSet w)).objs.size, l] := by
          rw [Heap.size_push, List.mem_cons, List.mem_singleton, not_or]
          exact ⟨Nat.ne_of_lt (Nat.lt_succ_self _), Nat.ne_of_gt lt⟩
        have val : ∀ (i : Nat) (v : Value), items[i]? = some v → ∃ z t, xs[i]? = some z ∧ v = .str z t := fun i v hv => by
          exact txt_at hit i v (by rw [Array.getElem?_toList]; exact hv)
        refine stx_loop ((Walks.list (show A.in1.in1.in1.handled = none by simp [hh]) _ l nI items).toS) s.heap.objs.size nS xs sz few val (items.size - 0) 0 _ (by omega) (Nat.zero_le _) ⟨⟨_, Heap.get?_push_size _ rfl, rfl, rfl⟩, (li.push _)⟩ ?first ?after
        case first => exact (stx_none (Heap.get?_push_of_some _ g0)).like (fun y => by simp) rfl
        case after =>
          intro z mv hS
          obtain ⟨h', g2, d', tk', os'⟩ := z
          obtain rfl : g2 = s.gens := mv.gens
          obtain rfl : d' = s.drawn := mv.drawn
          obtain rfl : os' = s.os := mv.os
          show wpAny _ _ _ _ _ _
          refine wpAny_pure ?_
          show wpAny _ _ (ret Value.none) _ _ _
          refine wpAny_pure ⟨rfl, h', tk', rfl, hS, fun b o e => ?_⟩
          have b0 : b < s.heap.objs.size := Heap.lt_size e
          refine mv.heap b o (fun q => ?_) (Heap.get?_push_of_some _ (Heap.get?_push_of_some _ e))
          rcases List.mem_cons.mp q with q | q
          · exact absurd b0 (by rw [q]; exact Nat.lt_irrefl _)
          · rw [List.mem_singleton, Heap.size_push] at q
            exact absurd b0 (by rw [q]; exact Nat.not_lt_of_le (Nat.le_succ _))
      · cases r2 with
        | error e => exact hr2
        | ok fl2 =>
          cases fl2 with
          | ret r =>
            obtain ⟨rfl, h', tk, rfl, hS, hk⟩ := hr2
            repeat (any_goals (first | assumption | wp_step))
            exact k _ _ hS hk
          | _ => exact hr2.elim
    | _ => exact hr.elim
theorem tx_strs : ∀ (l : List (Int × Value)), (∀ e ∈ l, TxRow w e) → StrsAre (l.map (·.2)) (l.map txOf)
  | [], _ => .nil
  | e :: r, h => by
    obtain ⟨z, t, h1, _⟩ := h e List.mem_cons_self
    have q := tx_strs r fun d hd => h d (List.mem_cons_of_mem _ hd)
    rw [List.map_cons, List.map_cons]
    have e1 : txOf e = z := by unfold txOf; rw [h1]
    rw [e1, h1]
    exact .cons z t q
def txtOf (v : Value) : Str := match v with
  | .str z _ => z
  | _ => Str.empty
theorem strs_txt : ∀ {us : List Value} {xs : List Str}, StrsAre us xs → us.map txtOf = xs
  | _, _, .nil => rfl
  | _, _, .cons z t h => by rw [List.map_cons, strs_txt h]; rfl
theorem strs_all : ∀ (us : List Value), (∀ v ∈ us, ∃ z t, v = Value.str z t) → StrsAre us (us.map txtOf)
  | [], _ => .nil
  | v :: r, h => by
    obtain ⟨z, t, rfl⟩ := h v List.mem_cons_self
    exact .cons z t (strs_all r fun u hu => h u (List.mem_cons_of_mem _ hu))
/-- sorted(set of texts) -/
theorem stx_sorted {a : Addr} {T : Str → Bool} {n : Nat} {Q : Value → Shared → Prop} (R : STx w s.heap a T n) (hh : A.handled = none)
    (k : ∀ s' p (out : Array Value) (c : Nat) (ys : List Str), (∀ b o, s.heap.get? b = some o → s'.heap.get? b = some o) → s'.gens = s.gens → s'.os = s.os → s.heap.objs.size ≤ p → s'.heap.get? p = some (seqObj "list" out c) → StrsAre out.toList ys → sortedS ys = true → ys.Nodup → (∀ y, y ∈ ys ↔ T y = true) → ys.length = n → Q (.ref p) s') :
    wpAny (model P w) A (call (.builtin "sorted") [.ref a]) Q E s := by
  obtain ⟨o, es, ep, t, r⟩ := R
  have fw := fits_of_scanBound r.few
  refine Calls.call_function_entry kind_sorted plain_sorted entry_sorted (args_sorted1 _) ?_
  unfold Builtin.«sorted»
  refine wpAny_bind (m := checkCount "sorted" 1 1 _) (wpAny_pure (wpAny_bind (L2.collect_set (A := A.in1) hh ⟨o, r.at_, r.ex.1, r.dt⟩ r.fit r.few r.ris r.led fun s1 vs k1 hz g1 o1 pm => ?_)))
  have vl : vs.length = es.size := by rw [pm.length_eq, List.length_map, Array.length_toList]
  have st := tx_strs es.toList r.row
  have sv : StrsAre vs (vs.map txtOf) := strs_all vs fun v hv => by
    obtain ⟨e, he, q⟩ := List.mem_map.mp (pm.mem_iff.mp hv)
    obtain ⟨z, t, h1, _⟩ := r.row e he
    exact ⟨z, t, by rw [← q]; exact h1⟩
  have pk : (vs.map txtOf).Perm (es.toList.map txOf) := by
    have q := pm.map txtOf
    rw [strs_txt st] at q
    exact q
  refine wpAny_bind (wpAny_newList ?_ (by rw [vl]; exact fw))
  have oL : (s1.heap.push (seqObj "list" vs.toArray 0)).get? s1.heap.objs.size = some (seqObj "list" vs.toArray 0) := Heap.get?_push_size _ rfl
  refine wpAny_bind (wpAny_holding (wpAny_call_entry slot_list_sort ⟨_, oL, rfl⟩ entry_list_sort (list_sort_treeKAny strKind_oneLt oL sv.keysOf (fun v₁ v₂ rest e => keyKind_strs (by rw [← e]; exact sv)) (by rw [vl]; exact fw) fun st' hp hs => ⟨_, rfl, ?_⟩) (args_list_sort _)))
  obtain ⟨ys, h1, h2, h3⟩ := sorted_out_str sv hp hs
  obtain ⟨c, hc⟩ := sortedHeap_at (vs := vs) (out := (arrOf st').map (·.2)) oL
  have py := h2.trans pk
  refine wpAny_pure ⟨_, rfl, k _ s1.heap.objs.size _ c ys (fun b u e => ?_) g1 o1 hz hc h1 h3 (py.nodup_iff.mpr r.nd) (fun y => by rw [py.mem_iff, ← r.mem y]) ?_⟩
  · have q := k1 b u e
    have lt := Heap.lt_size q
    show (sortedHeap (s1.heap.push (seqObj "list" vs.toArray 0)) s1.heap.objs.size vs _).get? b = some u
    rw [sortedHeap_old (Nat.ne_of_lt lt) (by rw [size_push']; exact Nat.lt_succ_of_lt lt)]
    exact Heap.get?_push_of_some _ q
  · rw [py.length_eq, List.length_map, Array.length_toList]
    exact r.cnt
end
/-! ### over the layer -/
def StxO (w : World) (a : Addr) (T : Str → Bool) (n : Nat) : HO := .ext fun h => STx w h a T n
theorem stxO_ok {w : World} {P : Program} {H : Hp} {h : Heap} {a : Addr} {T : Str → Bool} {n : Nat} (R : STx w h a T n) : ObjOk P w H h a (StxO w a T n) := by
  have ⟨o, _, _, _, r⟩ := R
  exact ⟨R, ⟨o, r.at_⟩, fun h1 h2 p k => STx.keep p k⟩
section
variable {X : Cx}
def rSetTx (K : PySem.W.Frag) (w : World) : List V → Hp → VK → Prop := fun xs H Q => ∃ (l : Addr) (zs : List Str), xs = [V.ref l] ∧ SqL K H l (zs.map V.str) ∧ zs.length + 1 < scanBound ∧ ∀ a, H a = none → Q (.ref a) (upd H a (StxO w a (fun y => decide (y ∈ zs)) (dedT zs).length))
theorem cr_setTx (hc : X.calm = true) : CallR X (.type "set") (rSetTx X.K X.w) := by
  intro pins s σ H xs us Q I r h
  obtain ⟨l, zs, rfl, hl, hf, q⟩ := h
  rw [Vals.ref1 r]
  obtain ⟨its, rv, pl, hz⟩ := I.list hl
  have hn : H s.heap.objs.size = none := I.hok.fresh (Nat.le_refl _)
  refine stx_of (P := X.prog) (w := X.w) zs (I.ok.hd hc) pl.isList (by simpa using rv.strs) hf fun h' tk R k => ?_
  exact ⟨.ref s.heap.objs.size, upd H s.heap.objs.size (StxO X.w s.heap.objs.size (fun y => decide (y ∈ zs)) (dedT zs).length), I.laid (t' := tk) k (Nat.le_refl _) (stxO_ok R), rfl, q _ hn⟩
def rSortedTx (w : World) : List V → Hp → VK → Prop := fun vs H Q => ∃ (a : Addr) (T : Str → Bool) (n : Nat), vs = [V.ref a] ∧ H a = some (StxO w a T n) ∧
  ∀ (ys : List Str) (p : Addr), sortedS ys = true → ys.Nodup → (∀ y, y ∈ ys ↔ T y = true) → ys.length = n → H p = none → Q (.ref p) (upd H p (.lst (ys.map V.str)))
theorem cr_sortedTx (hc : X.calm = true) : CallR X (.builtin "sorted") (rSortedTx X.w) := by
  intro pins s σ H vs us Q I r h
  obtain ⟨a, T, n, rfl, ha, q⟩ := h
  have R : STx X.w s.heap a T n := (I.hok a _ ha).1
  rw [Vals.ref1 r]
  obtain ⟨o0, es0, ep0, t0, r0⟩ := id R
  have fw := fits_of_scanBound r0.few
  refine stx_sorted R (I.ok.hd hc) fun s' p out c ys k g o hp hg hi hs hn hm hl => ?_
  have len : (ys.map V.str).length ≤ sizeLine := by
    rw [List.length_map, hl, ← r0.cnt]
    exact fw
  have fresh : H p = none := I.hok.fresh hp
  have J : Inv X pins σ (upd H p (.lst (ys.map V.str))) { s with heap := s'.heap, gens := s'.gens, drawn := s'.drawn, toks := s'.toks } :=
    I.call (ch := []) (Un.laid k hp fresh) (I.hok.laid k hp ⟨len, out.toList, c, vals_of_strs hi, hg⟩) (by rw [g]; exact I.bare) (fun _ z => nomatch z)
  have e : s' = { s with heap := s'.heap, gens := s'.gens, drawn := s'.drawn, toks := s'.toks } := by
    cases s'
    cases s
    cases o
    rfl
  rw [e]
  exact ⟨.ref p, _, J, rfl, q ys p hs hn hm hl fresh⟩
def rLenTx (w : World) : List V → Hp → VK → Prop := fun vs H Q => ∃ (a : Addr) (T : Str → Bool) (n : Nat), vs = [V.ref a] ∧ H a = some (StxO w a T n) ∧ Q (.int (n : Nat)) H
theorem call_lenTx : CallR X (.builtin "len") (rLenTx X.w) := by
  intro pins s σ H vs us Q I r h
  obtain ⟨a, T, n, rfl, ha, q⟩ := h
  obtain ⟨o, es, ep, t, r0⟩ := (show STx X.w s.heap a T n from (I.hok a _ ha).1)
  rw [Vals.ref1 r]
  have fw := fits_of_scanBound r0.few
  rw [sizeLine_eq] at fw
  refine PySem.call_len_set r0.at_ r0.ex r0.dt r0.fit (by omega) ?_
  rw [r0.cnt]
  exact ⟨.int ((n : Nat) : Int), H, I.tok _, ⟨_, rfl⟩, q⟩
end
end B

set_option Elab.async false
set_option linter.all false
set_option maxRecDepth 100000
set_option maxHeartbeats 4000000
namespace B
open PySem PySem.Spec PyProof.Rows L2
/-! ### a set of texts of two clauses without tests -/
abbrev SC2 (e t0 i0 t1 i1 : Expr) (sc : Scope) (po : Pos) : Expr := .SetComp e [⟨t0, i0, [], 0⟩, ⟨t1, i1, [], 0⟩] sc po
section
variable {P : Program} {w : World} {A : Around} {E : Value → Shared → Prop} {s : Shared} {a : Addr} {T : Str → Bool} {n : Nat}
theorem stx_call {x : Str} {tk : Tok} {Q : Value → Shared → Prop} (R : STx w s.heap a T n) (room : n + 1 < scanBound) (k : ∀ h', Heap.SameBut a s.heap h' → STx w h' a (fun y => T y || decide (y = x)) (if T x = true then n else n + 1) → Q .none { s with heap := h', toks := s.toks + 1 }) :
    wpAny (model P w) A (call (.builtin "set.add") [.ref a, .str x tk]) Q E s := by
  obtain ⟨o, es, ep, t, r⟩ := id R
  refine wpAny_call_entry PySem.F.slot_set_add ⟨o, r.at_, r.ex.1⟩ PySem.F.entry_set_add ?_ (PySem.F.args_set_add_2 _ _)
  unfold Builtin.«set.add» Builtin.Frozenset.oneOther Builtin.Frozenset.addrOf setAdd
  simp only [List.isEmpty_nil, bind_assoc]
  refine wpAny_bind (wpAny_pure ?_)
  refine wpAny_bind (wpAny_pure (wpAny_bind (wpAny_holding (wpAny_bind ((PySem.strKind P w).pyHash (k := x) (strKind_is _ _ _ _) ?_)))))
  exact stx_add (s := { s with toks := s.toks + 1 }) R room fun h' sb z => wpAny_pure ⟨_, rfl, k h' sb z⟩
theorem turn_first (e t0 i0 t1 i1 : Expr) (sc : Scope) (po : Pos) (I D : Value) (en : Env) :
    compTurn (SC2 e t0 i0 t1 i1 sc po) 0 I D en = (do
      standAt i0.pos
      match ← pyNext I with
      | none => pure (.done .next)
      | some v => do
        letOwnedTupleGo t0 I v
        assign t0 en v
        let x ← eval i1 en
        standAt i1.pos
        let y ← foldedSetIterable i1 en x
        let _ ← runOwn (.compStart (SC2 e t0 i0 t1 i1 sc po) 1 (← holding [y] (pyIter y)) D en) en
        again (.compLoop (SC2 e t0 i0 t1 i1 sc po) 0 I D en)) := by rfl
theorem turn_second (e t0 i0 t1 i1 : Expr) (sc : Scope) (po : Pos) (I D : Value) (en : Env) :
    compTurn (SC2 e t0 i0 t1 i1 sc po) 1 I D en = (do
      standAt i1.pos
      match ← pyNext I with
      | none => pure (.done .next)
      | some v => do
        letOwnedTupleGo t1 I v
        assign t1 en v
        (do let y ← eval e en; standAt e.pos; let _ ← call (.builtin "set.add") [D, y])
        again (.compLoop (SC2 e t0 i0 t1 i1 sc po) 1 I D en)) := by rfl
end
theorem st2_start {e t0 i0 t1 i1 : Expr} {sc : Scope} {po : Pos} {I D : Value} {en : Env} {P : Program} {w : World} {A : Around} {R : Result → Shared → Prop} {s : Shared} (go : codeAny (model P w) A (.compLoop (SC2 e t0 i0 t1 i1 sc po) 1 I D en) R s)
    (it : wpAny (model P w) A (pyIter I) (fun J s' => codeAny (model P w) A (.compLoop (SC2 e t0 i0 t1 i1 sc po) 1 J D en) R s') (notedBy (model P w) A en fun x s' => R (.error x) s') s) :
    codeAny (model P w) A (.compStart (SC2 e t0 i0 t1 i1 sc po) 1 I D en) R s := by
  refine codeAny_of_tree ?_
  show wpAny _ _ ((compStart (SC2 e t0 i0 t1 i1 sc po) 1 I D en).onRaise (fun x => do noteFrame x en; standAt theWindowsPlace)) _ _ s
  refine wpAny_notedAt ?_
  unfold compStart; show wpAny _ _ (ask >>= _) _ _ s
  refine wpAny_bind (wpAny_askSetting (wpAny_ite ?_))
  split
  · first | exact wpAny_bind (wpAny_pure (wpAny_pure (And.intro rfl go))) | exact wpAny_pure (And.intro rfl go)
  · refine wpAny_bind (wpAny_rule ?_)
    show wpAny _ _ (standAt i1.pos >>= _) _ _ s
    exact wpAny_bind (wpAny_standAt (wpAny_bind (wpAny_mono it (fun J s' h' => wpAny_pure (And.intro rfl h')) fun _ _ x => x)))
/-- what it comes to: D the new set, Nx the first loop's next turn, Ny the second's -/
def tSt2 (w : World) (wa : TI) (ga : TG) (wb : TI) (gb : TG) (te : TE) (va vb : List Nat) : TE := fun σ H Q => wa σ H fun J H1 => ∀ D, H1 D = none → ∃ W : Nat → Nat → Hp → Prop, (∃ m, W 0 m (upd H1 D (StxO w D (fun _ => false) 0))) ∧ ∀ i m H, W i m H →
  (J.stop i H ∧ Q (.ref D) H) ∨ (J.go i H ∧ ∃ Nx : Hp → Prop, (∀ H', Nx H' → ∃ m', m' < m ∧ W (i + 1) m' H') ∧ ∀ x H', J.yld i H x H' → ga x (wipe σ va) H' fun τ H2 => wipe τ va = wipe σ va ∧ wb τ H2 fun L H4 => ∃ U : Nat → Nat → Hp → Prop, (∃ m, U 0 m H4) ∧ ∀ j k H, U j k H →
    (L.stop j H ∧ Nx H) ∨ (L.go j H ∧ ∃ Ny : Hp → Prop, (∀ H', Ny H' → ∃ k', k' < k ∧ U (j + 1) k' H') ∧ ∀ x H', L.yld j H x H' → gb x (wipe τ vb) H' fun υ H5 => wipe υ vb = wipe τ vb ∧ te υ H5 fun y H7 =>
      ∃ (z : Str) (T : Str → Bool) (n : Nat), y = .str z ∧ H7 D = some (StxO w D T n) ∧ n + 1 < scanBound ∧ Ny (upd H7 D (StxO w D (fun y => T y || decide (y = z)) (if T z = true then n else n + 1)))))
section
variable {X : Cx}
/-- one text more, over the layer -/
theorem stx_put {pins : List (Addr × Obj)} {σ : L2.St} {H : Hp} {s : Shared} {E : Value → Shared → Prop} {D : Addr} {T : Str → Bool} {n : Nat} {x : Str} {v : Value} {Q : Value → Shared → Prop} (I : Inv X pins σ H s) (e : H D = some (StxO X.w D T n)) (room : n + 1 < scanBound) (rv : RelV (.str x) v)
    (k : ∀ s', Inv X pins σ (upd H D (StxO X.w D (fun y => T y || decide (y = x)) (if T x = true then n else n + 1))) s' → Q .none s') : wpAny (model X.prog X.w) X.A (call (.builtin "set.add") [.ref D, v]) Q E s := by
  obtain ⟨tk, rfl⟩ := rv
  refine stx_call (I.hok D _ e).1 room fun h' sb z => k _ ?_
  have ⟨o, _, _, _, r⟩ := id z
  exact I.write (e := D) (t' := s.toks + 1) (by rw [e]; trivial) (.inl rfl) (fun b u hb hu => (sb.2 b hb).trans hu) ⟨o, r.at_⟩ (stxO_ok z)
abbrev InBlk (X : Cx) (sc : Scope) (own : List (Str × Nat)) (p : Cx → Prop) : Prop := ∀ (s : Shared) (H : Hp) (C : Addr) (cl : List (Str × Addr)) (fp : List Addr), p (X.blk s H sc (compEnvC sc cl C X.env) fp)
theorem pe_st2 {e t0 i0 t1 i1 : Expr} {sc : Scope} {own : List (Str × Nat)} {vb : List Nat} {po : Pos} {wa wb : TI} {ga gb : TG} {te : TE} (calm : X.calm = true) (nn : X.N.Nodup) (p0 : PI X t0 i0 wa) (ok : BlkOk X.N X.env.scope sc own) (sub : ∀ i ∈ vb, i ∈ own.map (·.2))
    (q0 : InBlk X sc own fun Y => PG Y t0 ga) (p1 : InBlk X sc own fun Y => PI Y t1 i1 wb) (q1 : InBlk X sc own fun Y => PG Y t1 gb) (pv : InBlk X sc own fun Y => PE Y e te) (f0 : ∀ x, foldedSetIterable i0 X.env x = pure x := by intro _; rfl) (f1 : ∀ en x, foldedSetIterable i1 en x = pure x := by intro _ _; rfl) :
    PE X (SC2 e t0 i0 t1 i1 sc po) (tSt2 X.w wa ga wb gb te (own.map (·.2)) vb) := by
  refine ⟨fun pins s σ H Q I h => ?_⟩
  rw [show eval (SC2 e t0 i0 t1 i1 sc po) X.env = _ from PpSet.eval_SetComp _ _ _ _]
  have fr : ∀ y ∈ sc.names, y.2 = .free → ∃ c, X.env.cells.lookup y.1 = some c := fun y hy z => (ok.free y hy z).elim (fun k => I.ok.has _ (.inl k)) fun k => I.ok.has _ (.inr k)
  refine wpAny_comprehension_free (use := none) rfl f0 (closure_ok fr) ok.kind (fun y hy z => by rw [ok.uniq y hy, z]) (thn (p0.run pins s σ H _ I h) fun x1 s1 h1 => thn h1 fun x2 s2 h2 => ?_)
  obtain ⟨it, fp, tn, J, H2, rfl, I2, TR, st2, fo, q⟩ := h2
  refine PpSet.newSet_ok (newEnv_comp ?_)
  generalize hD : s2.heap.objs.size = D
  have dn : H2 D = none := I2.hok.fresh (Nat.le_of_eq hD)
  obtain ⟨W, ⟨m0, w0⟩, turn⟩ := q D dn
  generalize hs3 : ({ s2 with heap := s2.heap.push (noneSet X.w) } : Shared) = s3
  have e3 : s3.heap = s2.heap.push (noneSet X.w) := by rw [← hs3]
  generalize hH3 : upd H2 D (StxO X.w D (fun _ => false) 0) = H3 at w0
  have I3 : Inv X pins σ H3 s3 := by
    rw [← hs3, ← hH3]
    refine I2.laid (t' := s2.toks) (fun b o z => Heap.get?_push_of_some _ z) (Nat.le_of_eq hD) (stxO_ok (stx_none ?_))
    exact hD ▸ Heap.get?_push_size _ rfl
  have lt : ∀ b ∈ fp, b < s2.heap.objs.size := fun b hb => let ⟨o, z, _⟩ := TR.obj _ _ st2 b hb; Heap.lt_size z
  have f3 : ∀ b ∈ fp, FpOk X pins H3 b ∧ b < s3.heap.objs.size := fun b hb => ⟨⟨by rw [← hH3, upd_ne (by rw [← hD]; exact Nat.ne_of_lt (lt b hb))]; exact (fo b hb).1, (fo b hb).2⟩, by rw [e3, Heap.size_push]; exact Nat.lt_succ_of_lt (lt b hb)⟩
  have st3 : tn 0 s3.heap := TR.keep _ _ _ st2 fun b _ o z => by rw [e3, Heap.get?_push_of_some _ z]
  have I4 := block_start I3 ok nn f3
  have b0 := q0 s3 H3 s3.heap.objs.size (cellsFrom (s3.heap.objs.size + 1) sc.names (cloFrom X.env.cells sc.names [])) fp
  have b1 := p1 s3 H3 s3.heap.objs.size (cellsFrom (s3.heap.objs.size + 1) sc.names (cloFrom X.env.cells sc.names [])) fp
  have b2 := q1 s3 H3 s3.heap.objs.size (cellsFrom (s3.heap.objs.size + 1) sc.names (cloFrom X.env.cells sc.names [])) fp
  have b3 := pv s3 H3 s3.heap.objs.size (cellsFrom (s3.heap.objs.size + 1) sc.names (cloFrom X.env.cells sc.names [])) fp
  show codeAny _ _ (.compStart (SC2 e t0 i0 t1 i1 sc po) 0 (.ref it) (.ref D) (compEnvC sc (cellsFrom (s3.heap.objs.size + 1) sc.names (cloFrom X.env.cells sc.names [])) s3.heap.objs.size X.env)) (compPost (model X.prog X.w) X.A X.xe none _ (.ref D) s3.heap.objs.size) { s3 with heap := pushCells (s3.heap.push { cls := .type "dict", data := .dict #[] }) sc.names }
  have nf : ∀ b ∈ fp, H3 b = none := fun b hb => (f3 b hb).1.1
  generalize hce : compEnvC sc (cellsFrom (s3.heap.objs.size + 1) sc.names (cloFrom X.env.cells sc.names [])) s3.heap.objs.size X.env = ce at I4 b0 b1 b2 b3 ⊢
  have ec : ce.locals = s3.heap.objs.size := by rw [← hce]; rfl
  generalize hs4 : ({ s3 with heap := pushCells (s3.heap.push { cls := .type "dict", data := .dict #[] }) sc.names } : Shared) = s4 at I4 ⊢
  have st4 : tn 0 s4.heap := TR.keep _ _ _ st3 fun b _ o z => by rw [← hs4]; exact pushCells_keeps _ _ _ _ (Heap.get?_push_of_some _ z)
  have own0 : ∀ {τ : L2.St} {H' : Hp} {s' : Shared}, Inv (X.blk s3 H3 sc ce fp) [] τ H' s' → (∀ b ∈ fp, H' b = none) → ∀ b ∈ fp, FpOk (X.blk s3 H3 sc ce fp) [] H' b := fun {τ H' s'} I' hn b hb =>
    ⟨hn b hb, (I'.ok.exf b hb).1, I'.ok.exfs b hb, .inl hb, fun x c z => (I'.ok.exf b hb).2 x c z, fun p hp => absurd (show p ∈ ([] : List (Addr × Obj)) ++ [] from hp) (by simp)⟩
  generalize hR : compPost (model X.prog X.w) X.A X.xe none _ (.ref D) s3.heap.objs.size = R
  have loop : codeAny (model X.prog X.w) X.A (.compLoop (SC2 e t0 i0 t1 i1 sc po) 0 (.ref it) (.ref D) ce) R s4 := by
    refine codeAny_loop rfl (fun n s' => ∃ i H', Inv (X.blk s3 H3 sc ce fp) [] (wipe σ (own.map (·.2))) H' s' ∧ tn i s'.heap ∧ (∀ b ∈ fp, H' b = none) ∧ W i n H') ?_ m0 ⟨0, H3, I4, st4, nf, w0⟩
    rintro n s5 ⟨i, H5, I5, st5, n5, w5⟩
    show wpAny _ X.A ((compTurn (SC2 e t0 i0 t1 i1 sc po) 0 (.ref it) (.ref D) ce).onRaise (fun x => do noteFrame x ce; theTreesLotGoes x)) _ _ s5
    rw [turn_first]
    refine wpAny_noted (wpAny_bind (wpAny_standAt (wpAny_bind ?_)))
    rcases turn i n H5 w5 with ⟨stop, qq⟩ | ⟨go, Nx, hNx, step⟩
    · refine thnF (TR.done (X.blk s3 H3 sc ce fp) rfl rfl rfl calm i [] s5 _ H5 (fun _ _ => False) I5 (own0 I5 n5) st5 stop) fun r s6 ⟨hr, I6⟩ => ?_
      subst hr
      rw [← hR]
      have I7 : Inv X pins σ H5 s6 := I3.call' (ch := fp) I6.os I6.base I6.hok I6.bare fun b hb => let z := (f3 b hb).1; ⟨z.2.2.2.1, z.2.1, z.2.2.2.2.1, z.2.2.2.2.2⟩
      have fr0 : H5 ce.locals = none := I6.free
      rw [ec] at fr0
      obtain ⟨m, hm, _⟩ := I6.loc
      have hm : s6.heap.Ns ce.locals m := hm
      rw [ec] at hm
      obtain ⟨c0, c1, c2, c3, c4, c5⟩ := I3.fpOk (Nat.le_refl _) fr0
      refine wpAny_pure ⟨m, hm, fun h'' sb => ?_⟩
      exact ⟨.ref D, H5, I7.turned (t' := s6.toks) (fun b o hb z => (sb.2 b hb).trans z) c0 c1 c3 c4 c5, rfl, qq⟩
    · refine thnF (TR.item (X.blk s3 H3 sc ce fp) rfl rfl rfl calm i [] s5 _ H5 (fun _ _ => False) I5 (own0 I5 n5) st5 go) fun r s6 ⟨u, hr, h6⟩ => ?_
      subst hr
      refine wpAny_bind (thnF h6 fun _ s7 ⟨x, H7, I7, r7, y7, st7, n7⟩ => ?_)
      have I8 := I7.pinned (own0 I7 n7) (TR.obj _ _ st7)
      refine wpAny_bind (thnF (b0.run _ s7 _ H7 x u _ I8 r7 (step x H7 y7)) fun _ s8 ⟨τ, H8, I9, hw, g8⟩ => ?_)
      have len8 : (wipe σ (own.map (·.2))).length = τ.length := by rw [← hw, wipe_length]
      refine wpAny_bind (thnF (b1.run _ s8 τ H8 _ I9 g8) fun xv s10 hx => ?_)
      refine wpAny_bind (wpAny_standAt (wpAny_bind (wpAny_of_eq (f1 ce xv) (wpAny_bind (wpAny_holding (thnF hx fun itv s11 h11 => ?_))))))
      refine wpAny_bind (wpAny_runOwn ?_)
      rw [Around.mark_none]
      obtain ⟨jt, fq, tm, L, H11, rfl, I11, TL, st11, fo1, U, ⟨k0, u0⟩, turn1⟩ := h11
      have keep9 : ∀ (j : Nat) v, (wipe σ (own.map (·.2)))[j]? = some (some v) → (wipe τ vb)[j]? = some (some v) := fun j v z => by
        rw [← hw] at z
        obtain ⟨z1, z2⟩ := wipe_some z
        rw [wipe_out fun y => z2 (sub j y)]
        exact z1
      have own1 : ∀ {H' : Hp}, (∀ b ∈ fq, H' b = none) → ∀ b ∈ fq, FpOk (X.blk s3 H3 sc ce fp) ([] ++ pinsAt fp s7.heap) H' b := fun hn b hb => ⟨hn b hb, (fo1 b hb).2⟩
      have mid : codeAny (model X.prog X.w) X.A (.compLoop (SC2 e t0 i0 t1 i1 sc po) 1 (.ref jt) (.ref D) ce) (fun r s' => match r with
          | .ok _ => ∃ m, m < n ∧ ∃ i H', Inv (X.blk s3 H3 sc ce fp) [] (wipe σ (own.map (·.2))) H' s' ∧ tn i s'.heap ∧ (∀ b ∈ fp, H' b = none) ∧ W i m H'
          | .error _ => False) s11 := by
        refine codeAny_loop rfl (fun k s' => ∃ j H', Inv (X.blk s3 H3 sc ce fp) ([] ++ pinsAt fp s7.heap) (wipe τ vb) H' s' ∧ tm j s'.heap ∧ (∀ b ∈ fq, H' b = none) ∧ U j k H') ?_ k0 ⟨0, H11, I11.weak (wipe_length _ _) (fun j v z => (wipe_some z).1), st11, fun b hb => (fo1 b hb).1, u0⟩
        rintro k s12 ⟨j, H12, I12, st12, n12, u12⟩
        show wpAny _ X.A ((compTurn (SC2 e t0 i0 t1 i1 sc po) 1 (.ref jt) (.ref D) ce).onRaise (fun x => do noteFrame x ce; theTreesLotGoes x)) _ _ s12
        rw [turn_second]
        refine wpAny_noted (wpAny_bind (wpAny_standAt (wpAny_bind ?_)))
        rcases turn1 j k H12 u12 with ⟨stop1, nx⟩ | ⟨go1, Ny, hNy, step1⟩
        · refine thnF (TL.done (X.blk s3 H3 sc ce fp) rfl rfl rfl calm j _ s12 (wipe τ vb) H12 (fun _ _ => False) I12 (own1 n12) st12 stop1) fun r s13 ⟨hr, I13⟩ => ?_
          subst hr
          obtain ⟨m', lm, w'⟩ := hNx _ nx
          have pins' : ∀ b ∈ fp, ∀ o, s7.heap.get? b = some o → s13.heap.get? b = some o ∧ H12 b = none := fun b hb o z => let y := I13.pin (b, o) (List.mem_append_right _ (List.mem_append_right _ (mem_pinsAt hb z))); ⟨y.1, y.2.1⟩
          refine wpAny_pure ⟨m', lm, i + 1, H12, (I13.unpinned (pins := [])).weak (len8.trans (wipe_length τ vb).symm) keep9, TR.keep _ _ _ st7 fun b hb o z => (pins' b hb o z).1, fun b hb => ?_, w'⟩
          exact let ⟨o, z, _⟩ := TR.obj _ _ st7 b hb; (pins' b hb o z).2
        · refine thnF (TL.item (X.blk s3 H3 sc ce fp) rfl rfl rfl calm j _ s12 (wipe τ vb) H12 (fun _ _ => False) I12 (own1 n12) st12 go1) fun r s13 ⟨u1, hr, h13⟩ => ?_
          subst hr
          refine wpAny_bind (thnF h13 fun _ s14 ⟨x1, H14, I14, r14, y14, st14, n14⟩ => ?_)
          have I15 := I14.pinned (own1 n14) (TL.obj _ _ st14)
          refine wpAny_bind (thnF (b2.run _ s14 (wipe τ vb) H14 x1 u1 _ I15 r14 (step1 x1 H14 y14)) fun _ s15 ⟨υ, H15, I16, hw1, g15⟩ => ?_)
          refine wpAny_bind (wpAny_bind (thnF (b3.run _ s15 υ H15 _ I16 g15) fun z s17 ⟨yv, H17, I17, r17, zx, T, nT, ey, d17, room, nx⟩ => ?_))
          subst ey
          refine wpAny_bind (wpAny_standAt (wpAny_bind (stx_put (X := X.blk s3 H3 sc ce fp) I17 d17 room r17 fun s18 I18 => ?_)))
          obtain ⟨k', lk, u'⟩ := hNy _ nx
          have pins' : ∀ b ∈ fq, ∀ o, s14.heap.get? b = some o → s18.heap.get? b = some o ∧ _ := fun b hb o z => let y := I18.pin (b, o) (List.mem_append_right _ (List.mem_append_right _ (mem_pinsAt hb z))); ⟨y.1, y.2.1⟩
          refine wpAny_pure (wpAny_pure ⟨rfl, k', lk, j + 1, _, I18.unpinned.weak (by rw [← hw1, wipe_length]) (fun j v z => (wipe_some (hw1.symm ▸ z)).1), TL.keep _ _ _ st14 fun b hb o z => (pins' b hb o z).1, fun b hb => ?_, u'⟩)
          exact let ⟨o, z, _⟩ := TL.obj _ _ st14 b hb; (pins' b hb o z).2
      refine codeAny_mono (st2_start mid (TL.self X.A 0 _ _ _ st11 mid)) fun r s' hr => ?_
      cases r with
      | ok f => exact wpAny_bind (wpAny_pure (wpAny_pure ⟨rfl, hr⟩))
      | error z => exact hr.elim
  exact PpSet.codeAny_compStart_set loop (TR.self X.A 0 _ _ _ st4 loop)
end
/-- a walk over a list told by what holds at its turns; B: what a turn comes to -/
theorem walk_lst {K : PySem.W.Frag} {a : Addr} {xs : List V} {H0 : Hp} {Qd : Hp → Prop} {B : V → Hp → (Hp → Prop) → Prop} (Pv : Nat → Hp → Prop) (h0 : Pv 0 H0) (hl : ∀ i H, i ≤ xs.length → Pv i H → SqL K H a xs) (hs : ∀ i x H, xs[i]? = some x → Pv i H → B x H (Pv (i + 1))) (hd : ∀ H, Pv xs.length H → Qd H) :
    ∃ W : Nat → Nat → Hp → Prop, (∃ m, W 0 m H0) ∧ ∀ i m H, W i m H → ((Itl K a).stop i H ∧ Qd H) ∨ ((Itl K a).go i H ∧ ∃ Nx : Hp → Prop, (∀ H', Nx H' → ∃ m', m' < m ∧ W (i + 1) m' H') ∧ ∀ x H', (Itl K a).yld i H x H' → B x H' Nx) := by
  refine ⟨fun i m H => i + m = xs.length ∧ Pv i H, ⟨xs.length, by omega, h0⟩, fun i m H h => ?_⟩
  obtain ⟨e, p⟩ := h
  cases hx : xs[i]? with
  | none => exact .inl ⟨⟨xs, hl i H (by omega) p, List.getElem?_eq_none_iff.mp hx⟩, hd H (by rw [show xs.length = i by have := List.getElem?_eq_none_iff.mp hx; omega]; exact p)⟩
  | some x =>
    have lt := (List.getElem?_eq_some_iff.mp hx).1
    refine .inr ⟨⟨xs, x, hl i H (by omega) p, hx⟩, Pv (i + 1), fun H' p' => ⟨m - 1, by omega, by omega, p'⟩, fun y H' z => ?_⟩
    obtain ⟨rfl, z⟩ := z
    exact hs i y _ (z xs (hl i _ (by omega) p)) p
theorem walk_rng {lo : Int} {n : Nat} {H0 : Hp} {Qd : Hp → Prop} {B : V → Hp → (Hp → Prop) → Prop} (Pv : Nat → Hp → Prop) (h0 : Pv 0 H0) (hs : ∀ i H, i < n → Pv i H → B (.int (lo + i)) H (Pv (i + 1))) (hd : ∀ H, Pv n H → Qd H) :
    ∃ W : Nat → Nat → Hp → Prop, (∃ m, W 0 m H0) ∧ ∀ i m H, W i m H → ((Itr lo n).stop i H ∧ Qd H) ∨ ((Itr lo n).go i H ∧ ∃ Nx : Hp → Prop, (∀ H', Nx H' → ∃ m', m' < m ∧ W (i + 1) m' H') ∧ ∀ x H', (Itr lo n).yld i H x H' → B x H' Nx) := by
  refine ⟨fun i m H => i + m = n ∧ Pv i H, ⟨n, by omega, h0⟩, fun i m H h => ?_⟩
  obtain ⟨e, p⟩ := h
  by_cases lt : i < n
  · refine .inr ⟨lt, Pv (i + 1), fun H' p' => ⟨m - 1, by omega, by omega, p'⟩, fun y H' z => ?_⟩
    obtain ⟨rfl, rfl⟩ := z
    exact hs i _ lt p
  · exact .inl ⟨Nat.le_of_not_lt lt, hd H (by rw [show n = i by omega]; exact p)⟩
end B

set_option Elab.async false
set_option linter.all false
set_option maxRecDepth 100000
set_option maxHeartbeats 4000000
namespace B
open PySem PySem.Spec PyProof.Rows L2
open SX (S)
/-! ### what a walk has still to go to, and what it has behind it -/
/-- all with the one beginning stand ahead of all with the other -/
def LtP (p q : List Nat) : Prop := ∃ c u v, p = c ++ 48 :: u ∧ q = c ++ 49 :: v
theorem LtP.extL {p q a : List Nat} (h : LtP p q) : LtP (p ++ a) q := by
  obtain ⟨c, u, v, rfl, rfl⟩ := h
  exact ⟨c, u ++ a, v, by simp, rfl⟩
theorem LtP.extR {p q a : List Nat} (h : LtP p q) : LtP p (q ++ a) := by
  obtain ⟨c, u, v, rfl, rfl⟩ := h
  exact ⟨c, u, v ++ a, rfl, by simp⟩
theorem LtP.nilL {q : List Nat} : ¬ LtP [] q := by
  rintro ⟨c, u, v, h, _⟩
  cases c <;> cases h
theorem LtP.nilR {p : List Nat} : ¬ LtP p [] := by
  rintro ⟨c, u, v, _, h⟩
  cases c <;> cases h
theorem LtP.ne {p q : List Nat} (h : LtP p q) : p ≠ q := by
  obtain ⟨c, u, v, rfl, rfl⟩ := h
  intro e
  have := List.append_cancel_left e
  cases this
theorem LtP.split (l : List Nat) : LtP (l ++ [48]) (l ++ [49]) := ⟨l, [], [], rfl, rfl⟩
theorem starts_at {p : List Nat} {x : Str} (h : starts p x = true) {i : Nat} (hi : i < p.length) : x.cps.toList[i]? = p[i]? := by
  have e := of_decide_eq_true h
  have := congrArg (fun z : List Nat => z[i]?) e
  rw [List.getElem?_take_of_lt hi] at this
  exact this
theorem LtP.no {p q : List Nat} {x : Str} (h : LtP p q) (h1 : starts p x = true) (h2 : starts q x = true) : False := by
  obtain ⟨c, u, v, rfl, rfl⟩ := h
  have e1 := starts_at h1 (i := c.length) (by simp)
  have e2 := starts_at h2 (i := c.length) (by simp)
  rw [e1] at e2
  simp at e2
theorem starts_ext {l a : List Nat} {x : Str} (h : starts (l ++ a) x = true) : starts l x = true := by
  have e := of_decide_eq_true h
  refine decide_eq_true ?_
  have := congrArg (List.take l.length) e
  rw [List.take_take, List.take_left, List.length_append, Nat.min_eq_left (by omega)] at this
  exact this
theorem starts_num {W : Nat} {l : List Nat} {x : Str} (h : starts l x = true) (hx : Num W x) : ∃ a, x = S (l ++ a) ∧ (l ++ a).length = W ∧ Bits (l ++ a) := by
  obtain ⟨m, rfl, e, b⟩ := hx
  have z := of_decide_eq_true h
  rw [S_list] at z
  have em : l ++ m.drop l.length = m := by
    have := List.take_append_drop l.length m
    rw [z] at this
    exact this
  exact ⟨m.drop l.length, by rw [em], by rw [em]; exact e, by rw [em]; exact b⟩
theorem starts_full {W : Nat} {l : List Nat} {x : Str} (h : starts l x = true) (hx : Num W x) (hl : l.length = W) : x = S l := by
  obtain ⟨a, rfl, e, _⟩ := starts_num h hx
  rw [List.length_append] at e
  have : a = [] := List.length_eq_zero_iff.mp (by omega)
  rw [this, List.append_nil]
theorem starts_self {l : List Nat} : starts l (S l) = true := by
  refine decide_eq_true ?_
  rw [S_list, List.take_length]
theorem lt_app : ∀ (c : List Nat) {u v : List Nat}, c ++ 48 :: u ≤ c ++ 49 :: v
  | [], u, v => by
    rw [List.nil_append, List.nil_append, List.cons_le_cons_iff]
    exact .inl (by decide)
  | a :: c, u, v => by
    rw [List.cons_append, List.cons_append, List.cons_le_cons_iff]
    exact .inr ⟨rfl, lt_app c⟩
theorem LtP.le {p q : List Nat} (h : LtP p q) : leS (S p) (S q) := by
  obtain ⟨c, u, v, rfl, rfl⟩ := h
  unfold leS
  rw [S_list, S_list]
  exact lt_app c
/-- looked at ahead of -/
def Bef (l p : List Nat) : Prop := (∃ u, u ≠ [] ∧ p = l ++ u) ∨ LtP l p
theorem Bef.ext {l p a : List Nat} (h : Bef l p) : Bef l (p ++ a) := by
  rcases h with ⟨u, hu, rfl⟩ | h
  · exact .inl ⟨u ++ a, by simp [hu], by rw [List.append_assoc]⟩
  · exact .inr h.extR
theorem Bef.ne {l p : List Nat} (h : Bef l p) : l ≠ p := by
  rcases h with ⟨u, hu, rfl⟩ | h
  · intro e
    exact hu (List.self_eq_append_right.mp e)
  · exact h.ne
/-- where a walk goes still, the next one last -/
def pend (st : WkS) : List (List Nat) := match st.sd with
  | none => st.rest
  | some l => st.rest ++ [l]
/-- ever: all that may have been found; stay: all that must be found; cl: of each round that is over one of ever, that no other has -/
structure Wlk (ever stay : List Str) (st : WkS) (lm : List Str) (cl : List (List Nat)) : Prop where
  po : (pend st).Pairwise (fun a b => LtP b a)
  ff : st.found.Pairwise LtP
  fp : ∀ y ∈ st.found, ∀ p ∈ pend st, LtP y p
  fe : ∀ y ∈ st.found, S y ∈ ever
  pe : ∀ p ∈ pend st, p = [] ∨ ∃ x ∈ ever, starts p x = true
  pp : (st.paper.map (·.1)).Nodup
  pb : ∀ z ∈ st.paper, ∀ p ∈ pend st, Bef z.1 p
  cc : cl.Pairwise LtP
  ce : ∀ c ∈ cl, S c ∈ ever
  cp : ∀ c ∈ cl, ∀ p ∈ pend st, LtP c p
  ty : ∀ x ∈ stay, (∃ y ∈ st.found, S y = x) ∨ ∃ p ∈ pend st, starts p x = true
  tl : ∀ l, st.sd = some l → ∀ x ∈ stay, starts l x = true → x ∈ lm
  le : ∀ x ∈ lm, x ∈ ever
theorem Wlk.mono {ever stay ever' stay' : List Str} {st : WkS} {lm lm' : List Str} {cl : List (List Nat)} (h : Wlk ever stay st lm cl) (he : ∀ x ∈ ever, x ∈ ever') (hs : ∀ x ∈ stay', x ∈ stay) (hl : ∀ x ∈ lm', x ∈ lm) (ht : ∀ x ∈ stay', x ∈ lm → x ∈ lm') : Wlk ever' stay' st lm' cl := by
  obtain ⟨a1, a2, a3, a4, a5, a6, a7, a8, a9, b1, b2, b3, b4⟩ := h
  exact ⟨a1, a2, a3, fun y hy => he _ (a4 y hy), fun p hp => (a5 p hp).imp id fun ⟨x, hx, e⟩ => ⟨x, he x hx, e⟩, a6, a7, a8, fun c hc => he _ (a9 c hc), b1, fun x hx => b2 x (hs x hx), fun l e x hx hst => ht x hx (b3 l e x (hs x hx) hst), fun x hx => he x (b4 x (hl x hx))⟩
theorem wlk_new {ever stay : List Str} {kd : Str} : Wlk ever stay ⟨kd, [[]], none, [], []⟩ [] [] := by
  refine ⟨List.pairwise_singleton _ _, .nil, fun y hy => absurd hy (by simp), fun y hy => absurd hy (by simp), fun p hp => .inl (List.mem_singleton.mp hp), .nil, fun z hz => absurd hz (by simp), .nil, fun c hc => absurd hc (by simp), fun c hc => absurd hc (by simp), fun x hx => .inr ⟨[], List.mem_singleton.mpr rfl, decide_eq_true rfl⟩, fun l e => (by cases e), fun x hx => absurd hx (by simp)⟩
/-- how the claims stand to one another where something came of a round -/
def Clm (cl cl' : List (List Nat)) (st' : WkS) : Prop := cl'.length = cl.length + 1 ∨ (cl = [] ∧ cl' = [] ∧ st'.sd = none ∧ st'.rest = [] ∧ st'.found = [])
/-- what is said, complete or not -/
theorem wlk_over {W : Nat} {ever stay : List Str} {st : WkS} {l : List Nat} {lm : List Str} {cl : List (List Nat)} (h : Wlk ever stay { st with sd := some l } lm cl) (hW : 1 ≤ W) (hl : l.length ≤ W) (hev : ∀ x ∈ ever, Num W x) (hst : ∀ x ∈ stay, Num W x) :
    ∃ cl', Wlk ever stay (overF W st l).1 lm cl' ∧ ((overF W st l).2 = .no → cl' = cl) ∧ ((overF W st l).2 ≠ .no → Clm cl cl' (overF W st l).1) := by
  unfold overF
  split
  · exact ⟨cl, h, fun _ => rfl, fun z => absurd rfl z⟩
  · rename_i c
    have eW : l.length = W := by omega
    obtain ⟨a1, a2, a3, a4, a5, a6, a7, a8, a9, b1, b2, b3, b4⟩ := h
    have ep : pend { st with sd := some l } = st.rest ++ [l] := rfl
    rw [ep] at a1 a3 a5 a7 b1 b2
    have hin : l ∈ st.rest ++ [l] := by simp
    have hr : ∀ g ∈ st.rest, g ∈ st.rest ++ [l] := fun g hg => List.mem_append_left _ hg
    obtain ⟨p1, p2, p3⟩ := List.pairwise_append.mp a1
    have lne : l ≠ [] := fun e => by rw [e] at eW; simp at eW; omega
    have le : S l ∈ ever := by
      rcases a5 l hin with e | ⟨x, hx, e⟩
      · exact absurd e lne
      · rw [← starts_full e (hev x hx) eW]
        exact hx
    have lr : ∀ g ∈ st.rest, LtP l g := fun g hg => p3 g hg l (List.mem_singleton.mpr rfl)
    refine ⟨cl ++ [l], ⟨p1, List.pairwise_append.mpr ⟨a2, List.pairwise_singleton _ _, fun y hy z hz => by rw [List.mem_singleton.mp hz]; exact a3 y hy l hin⟩, fun y hy g hg => ?_, fun y hy => ?_, fun g hg => a5 g (hr g hg), a6, fun z hz g hg => a7 z hz g (hr g hg), List.pairwise_append.mpr ⟨a8, List.pairwise_singleton _ _, fun y hy z hz => by rw [List.mem_singleton.mp hz]; exact b1 y hy l hin⟩, fun c hc => ?_, fun c hc g hg => ?_, fun x hx => ?_, fun l' e => (by cases e), b4⟩, fun z => (by cases z), fun _ => .inl (by rw [List.length_append]; rfl)⟩
    · rcases List.mem_append.mp hy with z | z
      · exact a3 y z g (hr g hg)
      · rw [List.mem_singleton.mp z]
        exact lr g hg
    · rcases List.mem_append.mp hy with z | z
      · exact a4 y z
      · rw [List.mem_singleton.mp z]
        exact le
    · rcases List.mem_append.mp hc with z | z
      · exact a9 c z
      · rw [List.mem_singleton.mp z]
        exact le
    · rcases List.mem_append.mp hc with z | z
      · exact b1 c z g (hr g hg)
      · rw [List.mem_singleton.mp z]
        exact lr g hg
    · rcases b2 x hx with ⟨y, hy, e⟩ | ⟨p, hp, e⟩
      · exact .inl ⟨y, List.mem_append_left _ hy, e⟩
      · rcases List.mem_append.mp hp with z | z
        · exact .inr ⟨p, z, e⟩
        · rw [List.mem_singleton.mp z] at e
          exact .inl ⟨l, List.mem_append_right _ (by simp), (starts_full e (hst x hx) eW).symm⟩
/-- a look written down, a bit said -/
theorem wlk_bit {ever stay lm : List Str} {kd : Str} {rest found : List (List Nat)} {paper : List (List Nat × Bool × Bool)} {l : List Nat} {z o : Bool} {b : Nat} {W : Nat} {cl : List (List Nat)} (h : Wlk ever stay ⟨kd, rest, some l, found, paper⟩ lm cl) (hb : ∀ x ∈ lm, Beg W l x) (hl : l.length < W) (hst : ∀ x ∈ stay, Num W x)
    (hx : ∃ x ∈ lm, sg l.length b x = true) (hb2 : b = 48 ∨ b = 49) (only : ∀ x ∈ lm, sg l.length b x = true) : Wlk ever stay ⟨kd, rest, some (l ++ [b]), found, paper ++ [(l, z, o)]⟩ (lm.filter (sg l.length b)) cl := by
  obtain ⟨a1, a2, a3, a4, a5, a6, a7, a8, a9, b1, b2, b3, b4⟩ := h
  have ep : pend ⟨kd, rest, some l, found, paper⟩ = rest ++ [l] := rfl
  rw [ep] at a1 a3 a5 a7 b1 b2
  obtain ⟨p1, p2, p3⟩ := List.pairwise_append.mp a1
  have hin : l ∈ rest ++ [l] := by simp
  have lr : ∀ g ∈ rest, LtP l g := fun g hg => p3 g hg l (by simp)
  have to : ∀ {R : List Nat → Prop}, (∀ p ∈ rest ++ [l], R p) → (R l → R (l ++ [b])) → ∀ p ∈ rest ++ [l ++ [b]], R p := fun hR he p hp => by
    rcases List.mem_append.mp hp with q | q
    · exact hR p (List.mem_append_left _ q)
    · rw [List.mem_singleton.mp q]
      exact he (hR l hin)
  refine ⟨?_, a2, fun y hy => to (a3 y hy) fun q => q.extR, a4, to (R := fun p => p = [] ∨ ∃ x ∈ ever, starts p x = true) a5 fun _ => ?_, ?_, fun w hw => ?_, a8, a9, fun c hc => to (b1 c hc) fun q => q.extR, fun x hx => ?_, fun l' e x hx hs => ?_, fun x hx => b4 x (List.mem_filter.mp hx).1⟩
  · exact List.pairwise_append.mpr ⟨p1, List.pairwise_singleton _ _, fun g hg y hy => by rw [List.mem_singleton.mp hy]; exact (lr g hg).extL⟩
  · obtain ⟨x, hx1, hx2⟩ := hx
    refine .inr ⟨x, b4 x hx1, ?_⟩
    rw [starts_snoc, hx2, beg_st (hb x hx1)]
    rfl
  · rw [List.map_append]
    refine List.nodup_append.mpr ⟨a6, by simp, fun u hu v hv => ?_⟩
    obtain ⟨w, hw, rfl⟩ := List.mem_map.mp hu
    have hv' : v = l := by simpa using hv
    rw [hv']
    exact (a7 w hw l hin).ne
  · rcases List.mem_append.mp hw with q | q
    · exact to (a7 w q) fun z => z.ext
    · rw [List.mem_singleton.mp q]
      intro p hp
      rcases List.mem_append.mp hp with r | r
      · exact .inr (lr p r)
      · rw [List.mem_singleton.mp r]
        exact .inl ⟨[b], by simp, rfl⟩
  · rcases b2 x hx with q | ⟨p, hp, e⟩
    · exact .inl q
    · rcases List.mem_append.mp hp with r | r
      · exact .inr ⟨p, List.mem_append_left _ r, e⟩
      · rw [List.mem_singleton.mp r] at e
        refine .inr ⟨l ++ [b], List.mem_append_right _ (by simp), ?_⟩
        rw [starts_snoc, only x (b3 l rfl x hx e), e]
        rfl
  · cases e
    have := b3 l rfl x hx (starts_ext hs)
    exact List.mem_filter.mpr ⟨this, only x this⟩
/-- a look at which both are heard -/
theorem wlk_two {ever stay lm : List Str} {kd : Str} {rest found : List (List Nat)} {paper : List (List Nat × Bool × Bool)} {l : List Nat} {z o : Bool} {W : Nat} {cl : List (List Nat)} (h : Wlk ever stay ⟨kd, rest, some l, found, paper⟩ lm cl) (hb : ∀ x ∈ lm, Beg W l x) (hl : l.length < W) (hst : ∀ x ∈ stay, Num W x)
    (h0 : ∃ x ∈ lm, sg l.length 48 x = true) (h1 : ∃ x ∈ lm, sg l.length 49 x = true) : Wlk ever stay ⟨kd, rest ++ [l ++ [49]], some (l ++ [48]), found, paper ++ [(l, z, o)]⟩ (lm.filter (sg l.length 48)) cl := by
  obtain ⟨a1, a2, a3, a4, a5, a6, a7, a8, a9, b1, b2, b3, b4⟩ := h
  have ep : pend ⟨kd, rest, some l, found, paper⟩ = rest ++ [l] := rfl
  have ep' : pend ⟨kd, rest ++ [l ++ [49]], some (l ++ [48]), found, paper ++ [(l, z, o)]⟩ = rest ++ [l ++ [49]] ++ [l ++ [48]] := rfl
  rw [ep] at a1 a3 a5 a7 b1 b2
  obtain ⟨p1, p2, p3⟩ := List.pairwise_append.mp a1
  have hin : l ∈ rest ++ [l] := by simp
  have lr : ∀ g ∈ rest, LtP l g := fun g hg => p3 g hg l (by simp)
  have to : ∀ {R : List Nat → Prop}, (∀ p ∈ rest ++ [l], R p) → (R l → R (l ++ [49])) → (R l → R (l ++ [48])) → ∀ p ∈ rest ++ [l ++ [49]] ++ [l ++ [48]], R p := fun hR he he2 p hp => by
    rcases List.mem_append.mp hp with q | q
    · rcases List.mem_append.mp q with q | q
      · exact hR p (List.mem_append_left _ q)
      · rw [List.mem_singleton.mp q]
        exact he (hR l hin)
    · rw [List.mem_singleton.mp q]
      exact he2 (hR l hin)
  have ev : ∀ c, (∃ x ∈ lm, sg l.length c x = true) → ∃ x ∈ ever, starts (l ++ [c]) x = true := fun c ⟨x, hx1, hx2⟩ => ⟨x, b4 x hx1, by rw [starts_snoc, hx2, beg_st (hb x hx1)]; rfl⟩
  have bit : ∀ x ∈ stay, starts l x = true → sg l.length 48 x = true ∨ sg l.length 49 x = true := fun x hx _ => by
    obtain ⟨c, hc, g1, _⟩ := num_at (hst x hx) hl
    rcases hc with rfl | rfl
    · exact .inl (decide_eq_true g1)
    · exact .inr (decide_eq_true g1)
  refine ⟨?_, a2, fun y hy => ?_, a4, ?_, ?_, fun w hw => ?_, a8, a9, fun c hc => ?_, fun x hx => ?_, fun l' e x hx hs => ?_, fun x hx => b4 x (List.mem_filter.mp hx).1⟩
  · rw [ep']
    refine List.pairwise_append.mpr ⟨List.pairwise_append.mpr ⟨p1, List.pairwise_singleton _ _, fun g hg y hy => by rw [List.mem_singleton.mp hy]; exact (lr g hg).extL⟩, List.pairwise_singleton _ _, fun g hg y hy => ?_⟩
    rw [List.mem_singleton.mp hy]
    rcases List.mem_append.mp hg with q | q
    · exact (lr g q).extL
    · rw [List.mem_singleton.mp q]
      exact LtP.split l
  · exact to (a3 y hy) (fun q => q.extR) fun q => q.extR
  · exact to (R := fun p => p = [] ∨ ∃ x ∈ ever, starts p x = true) a5 (fun _ => .inr (ev 49 h1)) fun _ => .inr (ev 48 h0)
  · rw [List.map_append]
    refine List.nodup_append.mpr ⟨a6, by simp, fun u hu v hv => ?_⟩
    obtain ⟨w, hw, rfl⟩ := List.mem_map.mp hu
    have hv' : v = l := by simpa using hv
    rw [hv']
    exact (a7 w hw l hin).ne
  · rcases List.mem_append.mp hw with q | q
    · exact to (a7 w q) (fun z => z.ext) fun z => z.ext
    · rw [List.mem_singleton.mp q]
      intro p hp
      rw [ep'] at hp
      rcases List.mem_append.mp hp with r | r
      · rcases List.mem_append.mp r with r | r
        · exact .inr (lr p r)
        · rw [List.mem_singleton.mp r]
          exact .inl ⟨[49], by simp, rfl⟩
      · rw [List.mem_singleton.mp r]
        exact .inl ⟨[48], by simp, rfl⟩
  · exact to (b1 c hc) (fun q => q.extR) fun q => q.extR
  · rcases b2 x hx with q | ⟨p, hp, e⟩
    · exact .inl q
    · rcases List.mem_append.mp hp with r | r
      · exact .inr ⟨p, by rw [ep']; simp [r], e⟩
      · rw [List.mem_singleton.mp r] at e
        rcases bit x hx e with c | c
        · exact .inr ⟨l ++ [48], by rw [ep']; simp, by rw [starts_snoc, c, e]; rfl⟩
        · exact .inr ⟨l ++ [49], by rw [ep']; simp, by rw [starts_snoc, c, e]; rfl⟩
  · cases e
    have h2 := b3 l rfl x hx (starts_ext hs)
    rw [starts_snoc, Bool.and_eq_true] at hs
    exact List.mem_filter.mpr ⟨h2, hs.1⟩
/-- nobody answers -/
theorem wlk_lost {ever stay lm : List Str} {kd : Str} {rest found : List (List Nat)} {paper : List (List Nat × Bool × Bool)} {l : List Nat} {z o : Bool} {W : Nat} {cl : List (List Nat)} (h : Wlk ever stay ⟨kd, rest, some l, found, paper⟩ lm cl) (hl : l.length < W) (hst : ∀ x ∈ stay, Num W x) (hev : ∀ x ∈ ever, Num W x)
    (h0 : lm.any (sg l.length 48) = false) (h1 : lm.any (sg l.length 49) = false) : ∃ cl', Wlk ever stay ⟨kd, rest, none, found, paper ++ [(l, z, o)]⟩ lm cl' ∧ Clm cl cl' ⟨kd, rest, none, found, paper ++ [(l, z, o)]⟩ := by
  obtain ⟨a1, a2, a3, a4, a5, a6, a7, a8, a9, b1, b2, b3, b4⟩ := h
  have ep : pend ⟨kd, rest, some l, found, paper⟩ = rest ++ [l] := rfl
  rw [ep] at a1 a3 a5 a7 b1 b2
  obtain ⟨p1, p2, p3⟩ := List.pairwise_append.mp a1
  have hin : l ∈ rest ++ [l] := by simp
  have hr : ∀ g ∈ rest, g ∈ rest ++ [l] := fun g hg => List.mem_append_left _ hg
  have lr : ∀ g ∈ rest, LtP l g := fun g hg => p3 g hg l (by simp)
  have none_ : ∀ x ∈ stay, starts l x = true → False := fun x hx e => by
    have hm := b3 l rfl x hx e
    obtain ⟨c, hc, g1, _⟩ := num_at (hst x hx) hl
    have n0 := List.any_eq_false.mp h0 x hm
    have n1 := List.any_eq_false.mp h1 x hm
    rcases hc with rfl | rfl
    · exact n0 (decide_eq_true g1)
    · exact n1 (decide_eq_true g1)
  have base : ∀ cl', cl'.Pairwise LtP → (∀ c ∈ cl', S c ∈ ever) → (∀ c ∈ cl', ∀ g ∈ rest, LtP c g) → Wlk ever stay ⟨kd, rest, none, found, paper ++ [(l, z, o)]⟩ lm cl' := fun cl' q1 q2 q3 => by
    refine ⟨p1, a2, fun y hy g hg => a3 y hy g (hr g hg), a4, fun g hg => a5 g (hr g hg), ?_, fun w hw g hg => ?_, q1, q2, q3, fun x hx => ?_, fun l' e => (by cases e), b4⟩
    · rw [List.map_append]
      refine List.nodup_append.mpr ⟨a6, by simp, fun u hu v hv => ?_⟩
      obtain ⟨w, hw, rfl⟩ := List.mem_map.mp hu
      have hv' : v = l := by simpa using hv
      rw [hv']
      exact (a7 w hw l hin).ne
    · rcases List.mem_append.mp hw with q | q
      · exact a7 w q g (hr g hg)
      · rw [List.mem_singleton.mp q]
        exact .inr (lr g hg)
    · rcases b2 x hx with q | ⟨p, hp, e⟩
      · exact .inl q
      · rcases List.mem_append.mp hp with r | r
        · exact .inr ⟨p, r, e⟩
        · rw [List.mem_singleton.mp r] at e
          exact (none_ x hx e).elim
  rcases a5 l hin with e | ⟨x, hx, e⟩
  · have e1 : rest = [] := by
      cases rest with
      | nil => rfl
      | cons g r => exact (LtP.nilL (by rw [← e]; exact lr g (by simp))).elim
    have e2 : found = [] := by
      cases found with
      | nil => rfl
      | cons y r => exact (LtP.nilR (by rw [← e]; exact a3 y (by simp) l hin)).elim
    have e3 : cl = [] := by
      cases cl with
      | nil => rfl
      | cons y r => exact (LtP.nilR (by rw [← e]; exact b1 y (by simp) l hin)).elim
    exact ⟨[], base [] .nil (fun c hc => absurd hc (by simp)) (fun c hc => absurd hc (by simp)), .inr ⟨e3, rfl, rfl, e1, e2⟩⟩
  · obtain ⟨a, rfl, e1, e2⟩ := starts_num e (hev x hx)
    refine ⟨cl ++ [l ++ a], base _ (List.pairwise_append.mpr ⟨a8, List.pairwise_singleton _ _, fun c hc y hy => by rw [List.mem_singleton.mp hy]; exact (b1 c hc l hin).extR⟩) (fun c hc => ?_) (fun c hc g hg => ?_), .inl (by rw [List.length_append]; rfl)⟩
    · rcases List.mem_append.mp hc with q | q
      · exact a9 c q
      · rw [List.mem_singleton.mp q]
        exact hx
    · rcases List.mem_append.mp hc with q | q
      · exact b1 c q g (hr g hg)
      · rw [List.mem_singleton.mp q]
        exact (lr g hg).extL
/-- a step -/
theorem wlk_step {W n : Nat} {kvs : List (Str × Bool)} {lm : List Str} {sdm : Option (List Nat)} {lk : Int} {st : WkS} {ever stay : List Str} {cl : List (List Nat)} (h : Wlk ever stay st lm cl) (ok : WkOk W lm sdm st n) (hr : st.sd = none → st.rest ≠ []) (hW : 1 ≤ W) (hev : ∀ x ∈ ever, Num W x) (hst : ∀ x ∈ stay, Num W x) (he : ∀ x ∈ lisB kvs (decide (st.kd = "all")), x ∈ ever) (hs : ∀ x ∈ stay, x ∈ lisB kvs (decide (st.kd = "all"))) :
    ∃ cl', Wlk ever stay (stepF W kvs lm lk st).1.1 (stepF W kvs lm lk st).2.1 cl' ∧ ((stepF W kvs lm lk st).1.2 = .no → cl' = cl) ∧ ((stepF W kvs lm lk st).1.2 ≠ .no → Clm cl cl' (stepF W kvs lm lk st).1.1) := by
  obtain ⟨kd, rest, sd, found, paper⟩ := st
  cases sd with
  | none =>
    obtain ⟨r, g, e, hg, hb⟩ := ok.none_ (hr rfl)
    dsimp only at e he hs
    subst e
    have e0 : stepF W kvs lm lk ⟨kd, r ++ [g], none, found, paper⟩ = (overF W ⟨kd, r, none, found, paper⟩ g, begF kvs kd g, some g, lk) := by
      unfold stepF
      simp
    rw [e0]
    obtain ⟨a1, a2, a3, a4, a5, a6, a7, a8, a9, b1, b2, b3, b4⟩ := h
    refine wlk_over (st := ⟨kd, r, none, found, paper⟩) (l := g) ⟨a1, a2, a3, a4, a5, a6, a7, a8, a9, b1, b2, fun l e x hx hq => ?_, fun x hx => he x (List.mem_filter.mp hx).1⟩ hW hg hev hst
    cases e
    exact List.mem_filter.mpr ⟨hs x hx, hq⟩
  | some l =>
    obtain ⟨_, hlt, hlb, hbeg⟩ := ok.said l rfl
    have lc : ∀ c : Nat, (l ++ [c]).length ≤ W := fun c => by rw [List.length_append, List.length_singleton]; omega
    have bits : ∀ x ∈ lm, sg l.length 48 x = true ∨ sg l.length 49 x = true := fun x hx => by
      obtain ⟨c, hc, g1, _⟩ := num_at (hbeg x hx).num hlt
      rcases hc with rfl | rfl
      · exact .inl (decide_eq_true g1)
      · exact .inr (decide_eq_true g1)
    have wl := fun z o => wlk_lost (z := z) (o := o) h hlt hst hev
    have w2 := fun z o => wlk_two (z := z) (o := o) h hbeg hlt hst
    have w1 := fun z o b => wlk_bit (z := z) (o := o) (b := b) h hbeg hlt hst
    unfold stepF
    dsimp only
    cases hz : lm.any (sg l.length 48) <;> cases ho : lm.any (sg l.length 49)
    · rw [if_pos ⟨rfl, rfl⟩]
      obtain ⟨cl', q1, q2⟩ := wl false false hz ho
      exact ⟨cl', q1, fun z => (by cases z), fun _ => q2⟩
    · rw [if_neg (fun z => Bool.noConfusion z.2), if_neg Bool.false_ne_true, if_neg (fun z => Bool.noConfusion z.1)]
      refine wlk_over (w1 false true 49 (List.any_eq_true.mp ho) (.inr rfl) fun x hx => (bits x hx).resolve_left fun q => ?_) hW (lc _) hev hst
      exact absurd (List.any_eq_true.mpr ⟨x, hx, q⟩) (by rw [hz]; exact Bool.false_ne_true)
    · rw [if_neg (fun z => Bool.noConfusion z.1), if_pos rfl, if_neg (fun z => Bool.noConfusion z.2)]
      refine wlk_over (w1 true false 48 (List.any_eq_true.mp hz) (.inl rfl) fun x hx => (bits x hx).resolve_right fun q => ?_) hW (lc _) hev hst
      exact absurd (List.any_eq_true.mpr ⟨x, hx, q⟩) (by rw [ho]; exact Bool.false_ne_true)
    · rw [if_neg (fun z => Bool.noConfusion z.1), if_pos rfl, if_pos ⟨rfl, rfl⟩]
      exact wlk_over (w2 true true (List.any_eq_true.mp hz) (List.any_eq_true.mp ho)) hW (lc _) hev hst
end B

set_option Elab.async false
set_option linter.all false
set_option maxRecDepth 100000
set_option maxHeartbeats 4000000
namespace B
open PySem PySem.Spec PyProof.Rows L2
open SX (S)
/-- a wire and an own one, the same things on both -/
structure Pair (K : PySem.W.Frag) (H : Hp) (pw dh dl pm dt ml : Addr) (W : Nat) (names : List Str) (kvs : List (Str × Bool)) (lw lm : List Str) (ms : Int) (sd : Option (List Nat)) (lk lk2 : Int) : Prop where
  wa : WiAt K H pw dh dl W kvs lw ms lk
  ma : MdAt H pm dt ml W kvs lm sd lk2
  nd : (kvs.map (·.1)).Nodup
  sub : ∀ x ∈ kvs.map (·.1), x ∈ names
  l1 : lw.length ≤ 41
  l2 : lm.length ≤ 41
  ne : pm ≠ dt ∧ dh ≠ pm ∧ dh ≠ dt
section
variable {K : PySem.W.Frag} {H : Hp} {pw dh dl pm dt ml : Addr} {W : Nat} {names : List Str} {kvs : List (Str × Bool)} {lw lm : List Str} {ms : Int} {sd : Option (List Nat)} {lk lk2 : Int}
theorem Pair.stay (h : Pair K H pw dh dl pm dt ml W names kvs lw lm ms sd lk lk2) {T : List Addr} {H' : Hp} (f : FrT K T H H') (n : NL T H) (h1 : pw ∉ T) (h2 : dh ∉ T) (h3 : pm ∉ T) (h4 : dt ∉ T) : Pair K H' pw dh dl pm dt ml W names kvs lw lm ms sd lk lk2 :=
  ⟨h.wa.stay f n h1 h2, h.ma.stay f n h3 h4, h.nd, h.sub, h.l1, h.l2, h.ne⟩
theorem Pair.off_row (h : Pair K H pw dh dl pm dt ml W names kvs lw lm ms sd lk lk2) {r a : Addr} (hR : RowAt r a H) : pw ≠ r ∧ dh ≠ r ∧ pm ≠ r ∧ dt ≠ r := by
  obtain ⟨⟨⟨dx, w1⟩, w2, w3⟩, ⟨m1, m2, m3⟩, _⟩ := h
  obtain ⟨i, m, b, e, _⟩ := hR
  exact ⟨ne_of w1 e (by intro z; cases z), ne_of w3 e (by intro z; cases z), ne_of m1 e (by intro z; cases z), ne_of m3 e (by intro z; cases z)⟩
theorem Pair.w_ne (h : Pair K H pw dh dl pm dt ml W names kvs lw lm ms sd lk lk2) : pw ≠ dh ∧ pw ≠ pm ∧ pw ≠ dt := by
  obtain ⟨⟨⟨dx, w1⟩, w2, w3⟩, ⟨m1, m2, m3⟩, _⟩ := h
  exact ⟨ne_of w1 w3 (by intro z; cases z), ne_of w1 m1 (by intro z; cases z), ne_of w1 m3 (by intro z; cases z)⟩
theorem Pair.kl (h : Pair K H pw dh dl pm dt ml W names kvs lw lm ms sd lk lk2) (hl : names.length ≤ 41) : kvs.length ≤ 41 := by
  have := nodup_le h.nd h.sub
  rw [List.length_map] at this
  omega
end
section
variable {P : Program} {w : World} {K : PySem.W.Frag} {mg : Str → Option Value} {base : Heap}
/-- a deed that may be done, on both -/
def spPut (K : PySem.W.Frag) : Sp := fun vs H Q _ => ∃ (pw dh dl pm dt ml : Addr) (wd x : Str) (W : Nat) (names : List Str) (kvs : List (Str × Bool)) (lw lm : List Str) (ms : Int) (sd : Option (List Nat)) (lk lk2 : Int), vs = [.ref pw, .ref pm, .str wd, .str x] ∧ Tb K H ∧ Pair K H pw dh dl pm dt ml W names kvs lw lm ms sd lk lk2 ∧ names.length ≤ 41 ∧ x ∈ names ∧ Num W x ∧ W ≤ 12 ∧ wd ∈ wordsB ∧ deedW kvs wd x = "" ∧
  ∀ (dl' ml' : Addr) (H' : Hp), (dl' = dl ∨ H dl' = none) → (ml' = ml ∨ H ml' = none) → Pair K H' pw dh dl' pm dt ml' W names (deedK kvs wd x) (deedL kvs lw wd x) (deedL kvs lm wd x) ms sd lk lk2 → FrT K [pw, dh, pm, dt] H H' → Q (.bl true) H'
/-- a deed, drawn and done on both -/
def spChange (K : PySem.W.Frag) : Sp := fun vs H Q _ => ∃ (r a pw dh dl pm dt ml pn : Addr) (W : Nat) (names : List Str) (kvs : List (Str × Bool)) (lw lm : List Str) (ms : Int) (sd : Option (List Nat)) (lk lk2 : Int), vs = [.ref r, .ref pw, .ref pm, .ref pn] ∧ RowAt r a H ∧ Scr K a H ∧ Tb K H ∧ Pair K H pw dh dl pm dt ml W names kvs lw lm ms sd lk lk2 ∧ Pool H pn W names ∧
  ∀ (wd x : Str) (dl' ml' : Addr) (H' : Hp), wd ∈ wordsB → x ∈ names → (dl' = dl ∨ H dl' = none) → (ml' = ml ∨ H ml' = none) → Pair K H' pw dh dl' pm dt ml' W names (deedK kvs wd x) (deedL kvs lw wd x) (deedL kvs lm wd x) ms sd lk lk2 → RowAt r a H' → FrT K [r, pw, dh, pm, dt] H H' → Q (.bl true) H'
theorem lam_change : (pd_lchange, ("_law_change.<locals>.<lambda>" : Str)) ∈ lams := by decide +kernel
theorem Pool.stayL {K : PySem.W.Frag} {T : List Addr} {H H' : Hp} {pn : Addr} {W : Nat} {names : List Str} (h : Pool H pn W names) (f : FrT K T H H') (n : NL T H) : Pool H' pn W names :=
  ⟨f.at n h.at_ rfl (nl_strs names), h.ne, h.len, h.num, h.w⟩
theorem c_lchange (T : Txt P w K mg base) : CalX CX0 P w K mg base 8 "_law_change" (spChange K) := by
  obtain ⟨fd, F⟩ := T.t.def_ 35 (d := d_lchange)
  refine ⟨_, fd, _, okT (p := pd_lchange) F sc_lchange (fun vs H Q E h => ?_) (fun A outer s H vs Q E hr h => ?_), He.glo_ok T.X T.G (T.t.fact 13), F.kp, F.bindsN fun _ _ _ _ _ _ us hl => match us, hl with | [_, _, _, _], _ => rfl⟩
  · obtain ⟨r, a, pw, dh, dl, pm, dt, ml, pn, W, names, kvs, lw, lm, ms, sd, lk, lk2, rfl, _⟩ := h
    rfl
  · obtain ⟨r, a, pw, dh, dl, pm, dt, ml, pn, W, names, kvs, lw, lm, ms, sd, lk, lk2, rfl, hR, hS, ht, hsd, hp, k⟩ := h
    refine ⟨_, PSs.nox (pss_cons (ps_set (i := 4) sc_lchange.nd rfl (Or.inr rfl) (pe_ix ix_list (pe_lst (pa_cons pe_str (pa_cons pe_str (pa_cons pe_str (pa_cons pe_str (pa_cons pe_str (pa_cons pe_str pa_nil))))))) (pe_cx (c_ltaken T) hr (by decide) rfl pass0 (pa_cons (pv 0) (pa_cons pe_int pa_nil))) (fun _ _ => rfl)))
    (pss_cons (ps_set (i := 5) sc_lchange.nd rfl (Or.inr rfl) (pe_ix ix_list (pv 3) (pe_cx (c_ltaken T) hr (by decide) rfl pass0 (pa_cons (pv 0) (pa_cons (pe_callB call_len_seq (by rfl) (n_len T) PySem.boot_len (pa_cons (pv 3) pa_nil)) pa_nil))) (fun _ _ => rfl)))
    (pss_one (ps_ret (pe_cmpR op_eq (pe_word0 (k := 5) T rfl rfl (fun _ _ _ _ _ _ => rfl) (T.tb pd_lchange (by decide +kernel)) rfl (hr.mono (by decide)) (lamP_by (N := ["_law_row", "_law_wire", "_law_m", "_law_names", "_law_word_here", "_law_number_here"]) (sc := defScope s_lchange) (by decide +kernel)) (fun _ _ _ _ _ _ _ hr => (pe_cx (c_lbecome T) hr (by decide) rfl (passes_call (takes_of rfl rfl rfl rfl) (fun _ _ _ _ h => h)) (pa_cons (pv 1) (pa_cons (pv 4) (pa_cons (pv 5) pa_nil))))) rfl) (pe_cx (c_ldeed T) hr (by decide) rfl pass0 (pa_cons (pv 2) (pa_cons (pv 4) (pa_cons (pv 5) pa_nil)))) (nomark _)))))), ?_⟩
    refine ⟨by show 6 ≤ sizeLine; decide, fun D hD => ?_⟩
    have f1 : Frm [r] H (upd H D (.lst [.str "hang", .str "hang", .str "off", .str "off", .str "alarm", .str "calm"])) := Frm.of (same_upd hD)
    refine ⟨_, rfl, r, a, 6, rfl, hR.ne (hR.out hD), f1.scr hR.nl hS, by decide, by decide, fun v H2 v0 v1 hR2 f2 => ?_⟩
    have hD2 : H2 D = some (.lst [.str "hang", .str "hang", .str "off", .str "off", .str "alarm", .str "calm"]) := f2.k D _ upd_same rfl (by simpa using (hR.out hD).symm)
    have f2' := f1.trans f2
    obtain ⟨wd, hwd, hat⟩ : ∃ wd ∈ wordsB, atI [V.str "hang", .str "hang", .str "off", .str "off", .str "alarm", .str "calm"] v = some (.str wd) := by
      have hv : v = 0 ∨ v = 1 ∨ v = 2 ∨ v = 3 ∨ v = 4 ∨ v = 5 := by omega
      rcases hv with rfl | rfl | rfl | rfl | rfl | rfl
      · exact ⟨"hang", by simp [wordsB], rfl⟩
      · exact ⟨"hang", by simp [wordsB], rfl⟩
      · exact ⟨"off", by simp [wordsB], rfl⟩
      · exact ⟨"off", by simp [wordsB], rfl⟩
      · exact ⟨"alarm", by simp [wordsB], rfl⟩
      · exact ⟨"calm", by simp [wordsB], rfl⟩
    refine ⟨D, _, v, _, rfl, rfl, SqL.of hD2, hat, ?_⟩
    have hp2 : H2 pn = some (.lst (names.map V.str)) := f2'.at hR.nl hp.at_ rfl (nl_strs names)
    refine ⟨_, rfl, _, rfl, _, rfl, pn, _, rfl, .inl (SqL.of hp2), ?_⟩
    have hlp : 0 < names.length := List.length_pos_iff.mpr hp.ne
    have hll := hp.len
    refine ⟨r, a, _, rfl, hR2, f2'.scr hR.nl hS, by rw [List.length_map]; omega, by rw [List.length_map]; omega, fun v2 H3 w0 w1 hR3 f3 => ?_⟩
    have f3' := f2'.trans f3
    have hp3 : H3 pn = some (.lst (names.map V.str)) := f3'.at hR.nl hp.at_ rfl (nl_strs names)
    rw [List.length_map] at w1
    obtain ⟨x, hx, hat2⟩ := at_strs w0 w1
    refine ⟨pn, _, v2, _, rfl, rfl, SqL.of hp3, hat2, ?_⟩
    have fT3 := f3'.toT hR.nl (K := K)
    have ht3 : Tb K H3 := fT3.t ht
    obtain ⟨sr1, sr2, sr3, sr4⟩ := hsd.off_row hR
    have eq : ((cxOf CX0 P w K mg base ["_law_row", "_law_wire", "_law_m", "_law_names", "_law_word_here", "_law_number_here"] d_lchange.qual d_lchange.scope (He.fAd K pd_lchange) (Value.ref (He.codeOf K pd_lchange)) A outer s H E).env.qual ++ ("<lambda>" : Str) : Str) = "_law_change.<locals>.<lambda>" := by kernel_rfl
    refine ⟨by rw [eq]; exact ht3.2 _ (tl_mem lam_change), fun H4 g1 g2 g3 => ?_⟩
    rw [eq] at g3
    obtain ⟨f4, ht4⟩ := tb_grow T lam_change ht3 g1 g2 g3
    have p4 := (hsd.stay fT3 hR.nl (by simpa using sr1) (by simpa using sr2) (by simpa using sr3) (by simpa using sr4)).stay f4 .nil (by simp) (by simp) (by simp) (by simp)
    obtain ⟨wn1, wn2, wn3⟩ := p4.w_ne
    have hkl := p4.kl hp.len
    obtain ⟨wa, ma, nd, sub, l1, l2, ne1, ne2, ne3⟩ := p4
    have fH4 := fT3.trans (f4.mono (by simp))
    have fin : ∀ dl' H6, (dl' = dl ∨ H4 dl' = none) → WiAt K H6 pw dh dl' W (deedK kvs wd x) (deedL kvs lw wd x) ms lk → FrT K [pw, dh] H4 H6 →
        spDeed [.ref pm, .str wd, .str x] H6 (fun y H2 => rEq (.str (deedW kvs wd x)) y H2 Q) E0 := fun dl' H6 hdl wa6 f6 => by
      have nwd : NL [pw, dh] H4 := wa.nl
      have ma6 : MdAt H6 pm dt ml W kvs lm sd lk2 := ma.stay f6 nwd (by simp [wn2.symm, ne2.symm]) (by simp [wn3.symm, ne3.symm])
      refine ⟨pm, dt, ml, wd, x, W, kvs, lm, sd, lk2, rfl, ma6, ne1, by omega, by omega, fun ml' H7 hml ma7 f7 => ⟨rfl, ?_⟩⟩
      rw [decide_eq_true rfl]
      have n6 : NL [pm, dt] H6 := by
        obtain ⟨m1, m2, m3⟩ := ma6
        exact .cons m1 rfl (.cons m3 rfl .nil)
      have f7T := f7.toT n6 (K := K)
      have wa7 := wa6.stay f7T n6 (by simp [wn2, wn3]) (by simp [ne2, ne3])
      obtain ⟨d1, _⟩ := deed_len (kvs := kvs) (lm := lm) (wd := wd) (x := x)
      obtain ⟨d2, _⟩ := deed_len (kvs := kvs) (lm := lw) (wd := wd) (x := x)
      have fH7 : FrT K [r, pw, dh, pm, dt] H H7 := (fH4.mono (by simp)).trans ((f6.mono (by simp)).trans (f7T.mono (by simp)))
      have bH : ∀ {b : Addr}, H4 b = none → H b = none := fun z => fH4.b _ z
      refine k wd x dl' ml' H7 hwd hx (hdl.imp_right bH) (hml.imp_right fun z => bH (f6.b _ z)) ⟨wa7, ma7, deed_nodup nd, deed_sub sub hx, by omega, by omega, ne1, ne2, ne3⟩ ?_ fH7
      have f47 : FrT K [pw, dh, pm, dt] H4 H7 := (f6.mono (by simp)).trans (f7T.mono (by simp))
      exact f47.row (by simp [Ne.symm sr1, Ne.symm sr2, Ne.symm sr3, Ne.symm sr4]) (f4.row (by simp) hR3)
    refine ⟨_, rfl, _, rfl, _, rfl, pw, dh, dl, wd, x, W, kvs, lw, _, lk, rfl, hwd, wa, hp.num x hx, hp.w.2, by omega, by omega, ht4, fun hd H5 f5 => ?_, fun hd dl' H5 hdl wa5 f5 => ?_⟩
    · obtain ⟨_, d2⟩ := deed_no (lm := lw) hd
      obtain ⟨d1, _⟩ := deed_no (lm := lm) hd
      have wo : ∃ n, WordC K (.ref (errOf K wd)) n (deedW kvs wd x) := by
        unfold errOf deedW
        unfold deedW at hd
        split at hd
        · rename_i e
          rw [if_pos e, if_pos e]
          split at hd
          · rename_i e2
            rw [if_pos e2]
            exact ⟨_, word_There T⟩
          · exact absurd rfl hd
        · rename_i e
          rw [if_neg e, if_neg e]
          split at hd
          · exact absurd rfl hd
          · rename_i e2
            rw [if_neg e2]
            exact ⟨_, word_NotThere T⟩
      obtain ⟨n, wo⟩ := wo
      refine ⟨rfl, n, _, wo, fun H6 f6 => ?_⟩
      have f6T := f5.trans (f6.toT .nil (K := K))
      exact ⟨_, rfl, _, rfl, _, rfl, fin dl H6 (.inl rfl) (by rw [d1, d2]; exact wa.stay f6T .nil (by simp) (by simp)) (f6T.mono (by simp))⟩
    · refine ⟨_, rfl, _, rfl, _, rfl, ?_⟩
      rw [← hd]
      exact fin dl' H5 hdl wa5 f5
end
end B

set_option Elab.async false
set_option linter.all false
set_option maxRecDepth 100000
set_option maxHeartbeats 4000000
namespace B
open PySem PySem.Spec PyProof.Rows L2
open SX (S)
/-! ### the beginnings that some numbers have -/
/-- y is one of the beginnings, fewer signs than W, of some of xs, or the empty one -/
def MetS (W : Nat) (xs : List Str) (y : Str) : Prop := y = "" ∨ ∃ x ∈ xs, ∃ i, i < W ∧ y = S (x.cps.toList.take i)
/-- told: each once, rising -/
structure MetL (W : Nat) (xs ys : List Str) : Prop where
  srt : sortedS ys = true
  nd : ys.Nodup
  mem : ∀ y, y ∈ ys ↔ MetS W xs y
theorem MetL.one {W : Nat} {xs ys zs : List Str} (h : MetL W xs ys) (g : MetL W xs zs) : ys = zs :=
  sorted_eq h.srt g.srt ((List.perm_ext_iff_of_nodup h.nd g.nd).mpr fun y => (h.mem y).trans (g.mem y).symm)
theorem S_cps (x : Str) : S x.cps.toList = x := by
  cases x
  simp [SX.S]
def MetP (W : Nat) (ts : List Str) (y : Str) : Prop := ∃ x ∈ ts, ∃ i, i < W ∧ y = S (x.cps.toList.take i)
theorem metP_all {W : Nat} {xs : List Str} {y : Str} (hW : 1 ≤ W) : MetP W (xs ++ [("" : Str)]) y ↔ MetS W xs y := by
  unfold MetP MetS
  constructor
  · rintro ⟨x, hx, i, hi, e⟩
    rcases List.mem_append.mp hx with q | q
    · exact .inr ⟨x, q, i, hi, e⟩
    · rw [List.mem_singleton.mp q] at e
      refine .inl (e.trans ?_)
      rw [show ("" : Str).cps.toList = [] by decide +kernel, List.take_nil]
      exact empty_S.symm
  · rintro (e | ⟨x, hx, i, hi, e⟩)
    · refine ⟨"", by simp, 0, by omega, ?_⟩
      rw [e, List.take_zero]
      exact empty_S
    · exact ⟨x, List.mem_append_left _ hx, i, hi, e⟩
section
variable {P : Program} {w : World} {K : PySem.W.Frag} {mg : Str → Option Value} {base : Heap}
def spMet (K : PySem.W.Frag) : Sp := fun vs H Q _ => ∃ (W : Nat) (p : Addr) (xs : List Str), vs = [.int W, .ref p] ∧ H p = some (.lst (xs.map V.str)) ∧ (∀ x ∈ xs, Num W x) ∧ 1 ≤ W ∧ W ≤ 12 ∧ xs.length ≤ 41 ∧ Tb K H ∧
  ∀ (ys : List Str) (q : Addr) (H' : Hp), MetL W xs ys → H q = none → H' q = some (.lst (ys.map V.str)) → FrT K [] H H' → Q (.ref q) H'
end
end B

set_option Elab.async false
set_option linter.all false
set_option maxRecDepth 100000
set_option maxHeartbeats 4000000
namespace B
open PySem PySem.Spec PyProof.Rows L2
open SX (S)
/-! ### a walk while nothing changes -/
/-- what stands on its paper -/
structure Pap (W : Nat) (due : List Str) (st : WkS) : Prop where
  pa : ∀ z ∈ st.paper, z.1.length < W ∧ (z.1 = [] ∨ ∃ x ∈ due, starts z.1 x = true)
  fb : ∀ y ∈ st.found, ∀ i, i < W → y.take i ∈ st.paper.map (·.1)
  pb : ∀ p ∈ pend st, ∀ i, i < p.length → p.take i ∈ st.paper.map (·.1)
  nl : [] ∈ pend st ∨ [] ∈ st.paper.map (·.1)
theorem pap_new {W : Nat} {due : List Str} {kd : Str} : Pap W due ⟨kd, [[]], none, [], []⟩ := by
  refine ⟨fun z hz => absurd hz (by simp), fun y hy => absurd hy (by simp), fun p hp i hi => ?_, .inl (List.mem_singleton.mpr rfl)⟩
  rw [List.mem_singleton.mp hp] at hi
  exact absurd hi (Nat.not_lt_zero _)
theorem pap_over {W : Nat} {due : List Str} {st : WkS} {l : List Nat} (h : Pap W due { st with sd := some l }) (hW : 1 ≤ W) (hl : l.length ≤ W) : Pap W due (overF W st l).1 := by
  unfold overF
  split
  · exact h
  · rename_i c
    have eW : l.length = W := by omega
    obtain ⟨a, b, c, d⟩ := h
    have ep : pend { st with sd := some l } = st.rest ++ [l] := rfl
    rw [ep] at c d
    refine ⟨a, fun y hy i hi => ?_, fun p hp => c p (List.mem_append_left _ hp), ?_⟩
    · rcases List.mem_append.mp hy with q | q
      · exact b y q i hi
      · rw [List.mem_singleton.mp q]
        exact c l (by simp) i (by omega)
    · rcases d with q | q
      · rcases List.mem_append.mp q with q | q
        · exact .inl q
        · have e0 : l.length = 0 := by rw [← List.mem_singleton.mp q]; rfl
          omega
      · exact .inr q
theorem pap_look {W : Nat} {due : List Str} {kd : Str} {rest rest' found : List (List Nat)} {l : List Nat} {paper : List (List Nat × Bool × Bool)} {z o : Bool} {sd : Option (List Nat)} (h : Pap W due ⟨kd, rest, some l, found, paper⟩) (hl : l.length < W) (ev : l = [] ∨ ∃ x ∈ due, starts l x = true)
    (hp : ∀ p ∈ pend ⟨kd, rest', sd, found, paper ++ [(l, z, o)]⟩, p ∈ rest ∨ ∃ b, p = l ++ [b]) (hr : ∀ p ∈ rest, p ∈ pend ⟨kd, rest', sd, found, paper ++ [(l, z, o)]⟩) : Pap W due ⟨kd, rest', sd, found, paper ++ [(l, z, o)]⟩ := by
  obtain ⟨a, b, c, d⟩ := h
  have ep : pend ⟨kd, rest, some l, found, paper⟩ = rest ++ [l] := rfl
  rw [ep] at c d
  have old : ∀ {y : List Nat}, y ∈ paper.map (·.1) → y ∈ (paper ++ [(l, z, o)]).map (·.1) := fun q => by
    rw [List.map_append]
    exact List.mem_append_left _ q
  have new : l ∈ (paper ++ [(l, z, o)]).map (·.1) := by
    rw [List.map_append]
    exact List.mem_append_right _ (by simp)
  refine ⟨fun y hy => ?_, fun y hy i hi => old (b y hy i hi), fun p q i hi => ?_, ?_⟩
  · rcases List.mem_append.mp hy with q | q
    · exact a y q
    · rw [List.mem_singleton.mp q]
      exact ⟨hl, ev⟩
  · rcases hp p q with q | ⟨b', rfl⟩
    · exact old (c p (List.mem_append_left _ q) i hi)
    · rw [List.length_append, List.length_singleton] at hi
      rw [List.take_append_of_le_length (by omega)]
      by_cases e : i = l.length
      · rw [e, List.take_length]
        exact new
      · exact old (c l (by simp) i (by omega))
  · rcases d with q | q
    · rcases List.mem_append.mp q with q | q
      · exact .inl (hr _ q)
      · refine .inr ?_
        rw [List.mem_singleton.mp q]
        exact new
    · exact .inr (old q)
theorem over_tld {W : Nat} {st : WkS} {l : List Nat} : (overF W st l).2 ≠ .lost ∧ (∀ l', (overF W st l).2 = .found l' → (overF W st l).1.found = st.found ++ [l'] ∧ (overF W st l).1.sd = none) ∧ ((overF W st l).2 = .no → (overF W st l).1.found = st.found) ∧ (overF W st l).1.paper = st.paper := by
  unfold overF
  split
  · exact ⟨fun z => (by cases z), fun l' z => (by cases z), fun _ => rfl, rfl⟩
  · refine ⟨fun z => (by cases z), fun l' z => ?_, fun z => (by cases z), rfl⟩
    cases z
    exact ⟨rfl, rfl⟩
/-- what a step on a still wire comes to -/
structure Stll (W : Nat) (due : List Str) (st : WkS) (lk : Int) (r : (WkS × Tld) × List Str × Option (List Nat) × Int) : Prop where
  pp : Pap W due r.1.1
  lost : r.1.2 = .lost → due = [] ∧ r.1.1.rest = [] ∧ r.1.1.sd = none
  fnd : ∀ l, r.1.2 = .found l → r.1.1.found = st.found ++ [l] ∧ r.1.1.sd = none
  no : r.1.2 = .no → r.1.1.found = st.found
  lk : r.2.2.2 = lk + (r.1.1.paper.length : Int) - (st.paper.length : Int)
theorem step_still {W n : Nat} {kvs : List (Str × Bool)} {lm : List Str} {sdm : Option (List Nat)} {lk : Int} {st : WkS} {due : List Str} {cl : List (List Nat)} (h : Wlk due due st lm cl) (p : Pap W due st) (ok : WkOk W lm sdm st n) (hr : st.sd = none → st.rest ≠ []) (hW : 1 ≤ W) (hd : ∀ x ∈ due, Num W x) : Stll W due st lk (stepF W kvs lm lk st) := by
  obtain ⟨kd, rest, sd, found, paper⟩ := st
  cases sd with
  | none =>
    obtain ⟨r, g, e, hg, hb⟩ := ok.none_ (hr rfl)
    dsimp only at e
    subst e
    have e0 : stepF W kvs lm lk ⟨kd, r ++ [g], none, found, paper⟩ = (overF W ⟨kd, r, none, found, paper⟩ g, begF kvs kd g, some g, lk) := by
      unfold stepF
      simp
    rw [e0]
    obtain ⟨t1, t2, t3, t4⟩ := over_tld (W := W) (st := ⟨kd, r, none, found, paper⟩) (l := g)
    exact ⟨pap_over (st := ⟨kd, r, none, found, paper⟩) (l := g) ⟨p.pa, p.fb, p.pb, p.nl⟩ hW hg, fun z => absurd z t1, t2, t3, by rw [show (overF W ⟨kd, r, none, found, paper⟩ g).1.paper = paper from t4]; show lk = lk + (paper.length : Int) - (paper.length : Int); omega⟩
  | some l =>
    obtain ⟨_, hlt, hlb, hbeg⟩ := ok.said l rfl
    have lc : ∀ c : Nat, (l ++ [c]).length ≤ W := fun c => by rw [List.length_append, List.length_singleton]; omega
    have hin : l ∈ rest ++ [l] := by simp
    have ev : l = [] ∨ ∃ x ∈ due, starts l x = true := h.pe l hin
    have plen : ∀ (z o : Bool), lk + 1 = lk + ((paper ++ [(l, z, o)]).length : Int) - (paper.length : Int) := fun z o => by
      rw [List.length_append]
      show lk + 1 = lk + ((paper.length + 1 : Nat) : Int) - (paper.length : Int)
      omega
    have fin : ∀ (rest' : List (List Nat)) (z o : Bool) (b : Nat) (lm' : List Str), (∀ q ∈ rest, q ∈ rest') → (∀ q ∈ rest', q ∈ rest ∨ ∃ b, q = l ++ [b]) → Stll W due ⟨kd, rest, some l, found, paper⟩ lk (overF W ⟨kd, rest', some l, found, paper ++ [(l, z, o)]⟩ (l ++ [b]), lm', some (l ++ [b]), lk + 1) := fun rest' z o b lm' h1 h2 => by
      obtain ⟨t1, t2, t3, t4⟩ := over_tld (W := W) (st := ⟨kd, rest', some l, found, paper ++ [(l, z, o)]⟩) (l := l ++ [b])
      refine ⟨pap_over (st := ⟨kd, rest', some l, found, paper ++ [(l, z, o)]⟩) (pap_look (sd := some (l ++ [b])) p hlt ev (fun q hq => ?_) fun q hq => List.mem_append_left _ (h1 q hq)) hW (lc b), fun y => absurd y t1, t2, t3, ?_⟩
      · rcases List.mem_append.mp hq with y | y
        · exact h2 q y
        · exact .inr ⟨b, List.mem_singleton.mp y⟩
      · show lk + 1 = lk + ((overF W ⟨kd, rest', some l, found, paper ++ [(l, z, o)]⟩ (l ++ [b])).1.paper.length : Int) - (paper.length : Int)
        rw [t4]
        exact plen z o
    unfold stepF
    dsimp only
    cases hz : lm.any (sg l.length 48) <;> cases ho : lm.any (sg l.length 49)
    · rw [if_pos ⟨rfl, rfl⟩]
      have none_ : ∀ x ∈ due, starts l x = true → False := fun x hx e => by
        have hm := h.tl l rfl x hx e
        obtain ⟨c, hc, g1, _⟩ := num_at (hd x hx) hlt
        rcases hc with rfl | rfl
        · exact List.any_eq_false.mp hz x hm (decide_eq_true g1)
        · exact List.any_eq_false.mp ho x hm (decide_eq_true g1)
      have e0 : l = [] := ev.resolve_right fun ⟨x, hx, e⟩ => none_ x hx e
      have ed : due = [] := by
        cases hdue : due with
        | nil => rfl
        | cons x r => exact (none_ x (by rw [hdue]; simp) (by rw [e0]; exact decide_eq_true rfl)).elim
      have er : rest = [] := by
        cases hrest : rest with
        | nil => rfl
        | cons g r =>
          have po := h.po
          have ep : pend ⟨kd, rest, some l, found, paper⟩ = rest ++ [l] := rfl
          rw [ep] at po
          have := (List.pairwise_append.mp po).2.2 g (by rw [hrest]; simp) l (by simp)
          rw [e0] at this
          exact (LtP.nilL this).elim
      refine ⟨pap_look (sd := none) p hlt ev (fun q hq => .inl hq) fun q hq => hq, fun _ => ⟨ed, er, rfl⟩, fun l' y => (by cases y), fun y => (by cases y), plen _ _⟩
    · rw [if_neg (fun z => Bool.noConfusion z.2), if_neg Bool.false_ne_true, if_neg (fun z => Bool.noConfusion z.1)]
      exact fin rest false true 49 _ (fun q hq => hq) fun q hq => .inl hq
    · rw [if_neg (fun z => Bool.noConfusion z.1), if_pos rfl, if_neg (fun z => Bool.noConfusion z.2)]
      exact fin rest true false 48 _ (fun q hq => hq) fun q hq => .inl hq
    · rw [if_neg (fun z => Bool.noConfusion z.1), if_pos rfl, if_pos ⟨rfl, rfl⟩]
      exact fin (rest ++ [l ++ [49]]) true true 48 _ (fun q hq => List.mem_append_left _ hq) fun q hq => (List.mem_append.mp hq).imp id fun y => ⟨49, List.mem_singleton.mp y⟩
/-- a round -/
structure Rnd (names : List Str) (W : Nat) (due : List Str) (st : WkS) (lk : Int) (r : (WkS × Tld) × List Str × Option (List Nat) × Int) : Prop where
  wl : ∃ cl, Wlk due due r.1.1 r.2.1 cl
  sl : Stll W due st lk r
  iv : ∃ b, InvQ names W (r.1.1, r.2) b
  ms : mv W names r.1.1 < mv W names st
  kd : r.1.1.kd = st.kd
theorem round_still {W : Nat} {kvs : List (Str × Bool)} {names due : List Str} (hW : 1 ≤ W) (hd : ∀ x ∈ due, Num W x) (hk : kvs.length ≤ 41) (hkn : ∀ x ∈ kvs.map (·.1), x ∈ names) (hnn : ∀ x ∈ names, Num W x) :
    ∀ {n : Nat} {lm : List Str} {sdm : Option (List Nat)} {lk : Int} {st : WkS} {b : Nat} {cl : List (List Nat)}, Wlk due due st lm cl → Pap W due st → InvQ names W (st, lm, sdm, lk) b → (st.sd = none → st.rest ≠ []) → (∀ x, x ∈ lisB kvs (decide (st.kd = "all")) ↔ x ∈ due) →
      Rnd names W due st lk (roundF W kvs n lm lk st) ∧ ((∀ l, st.sd = some l → W ≤ l.length + n + 1) → (st.sd = none → W ≤ n) → (roundF W kvs n lm lk st).1.2 ≠ .no) := by
  intro n
  induction n with
  | zero =>
    intro lm sdm lk st b cl h p iv hr he
    obtain ⟨cl', w1, _⟩ := wlk_step (kvs := kvs) (lk := lk) h iv.ok hr hW hd hd (fun x hx => (he x).mp hx) fun x hx => (he x).mpr hx
    have s1 := step_still (kvs := kvs) (lk := lk) h p iv.ok hr hW hd
    have i1 := inv_step (kvs := kvs) iv hr hk hkn hnn
    refine ⟨⟨⟨cl', w1⟩, s1, ⟨_, i1.1⟩, i1.2, step_kd⟩, fun q1 q2 z => ?_⟩
    obtain ⟨l', e1, e2, e3⟩ := step_no z
    cases hs : st.sd with
    | none => have := q2 hs; omega
    | some l =>
      have := q1 l hs
      have := e3 l hs
      omega
  | succ n ih =>
    intro lm sdm lk st b cl h p iv hr he
    obtain ⟨cl', w1, _⟩ := wlk_step (kvs := kvs) (lk := lk) h iv.ok hr hW hd hd (fun x hx => (he x).mp hx) fun x hx => (he x).mpr hx
    have s1 := step_still (kvs := kvs) (lk := lk) h p iv.ok hr hW hd
    have i1 := inv_step (kvs := kvs) iv hr hk hkn hnn
    by_cases hno : (stepF W kvs lm lk st).1.2 = .no
    · rw [round_no hno]
      obtain ⟨l', e1, e2, e3⟩ := step_no hno
      have hc : (stepF W kvs lm lk st).1.1.sd = none → (stepF W kvs lm lk st).1.1.rest ≠ [] := fun z => by rw [e1] at z; cases z
      have i2 : InvQ names W ((stepF W kvs lm lk st).1.1, (stepF W kvs lm lk st).2.1, (stepF W kvs lm lk st).2.2.1, (stepF W kvs lm lk st).2.2.2) (b + 1) := i1.1
      have i3 : mv W names (stepF W kvs lm lk st).1.1 < mv W names st := i1.2
      obtain ⟨⟨r1, r2, r3, r4, r5⟩, r6⟩ := ih (sdm := (stepF W kvs lm lk st).2.2.1) w1 s1.pp i2 hc (fun x => by rw [step_kd]; exact he x)
      have fs := s1.no hno
      have lk1 := s1.lk
      have lk2 := r2.lk
      refine ⟨⟨r1, ⟨r2.pp, r2.lost, fun l z => by rw [← fs]; exact r2.fnd l z, fun z => (r2.no z).trans fs, by omega⟩, r3, Nat.lt_trans r4 i3, r5.trans step_kd⟩, fun q1 q2 => r6 (fun l e => ?_) fun e => by rw [e1] at e; cases e⟩
      rw [e1] at e
      cases e
      cases hs : st.sd with
      | none =>
        have := q2 hs
        omega
      | some l =>
        have := q1 l hs
        have := e3 l hs
        omega
    · rw [round_yes hno]
      exact ⟨⟨⟨cl', w1⟩, s1, ⟨_, i1.1⟩, i1.2, step_kd⟩, fun _ _ => hno⟩
/-- what is found is due, in its order -/
theorem due_split {W : Nat} {due : List Str} {st : WkS} {lm : List Str} {cl : List (List Nat)} (h : Wlk due due st lm cl) (hd : ∀ x ∈ due, Num W x) (srt : sortedS due = true) (nd : due.Nodup) : due = st.found.map S ++ due.filter (fun x => decide (x ∉ st.found.map S)) := by
  have finj : ∀ {a b : List Nat}, S a = S b → a = b := fun e => by
    have := congrArg (fun z : Str => z.cps.toList) e
    simpa [S_list] using this
  have fnd : (st.found.map S).Nodup := List.Pairwise.map S (fun a b h e => h.ne (finj e)) h.ff
  have sub : ∀ x ∈ st.found.map S, x ∈ due := fun x hx => by
    obtain ⟨y, hy, rfl⟩ := List.mem_map.mp hx
    exact h.fe y hy
  refine sorted_eq srt (pw_sorted (List.pairwise_append.mpr ⟨List.Pairwise.map S (fun a b h => h.le) h.ff, (sorted_pw srt).filter _, fun y hy x hx => ?_⟩)) ?_
  · obtain ⟨l, hl, rfl⟩ := List.mem_map.mp hy
    obtain ⟨hx1, hx2⟩ := List.mem_filter.mp hx
    rcases h.ty x hx1 with ⟨z, hz, e⟩ | ⟨p, hp, e⟩
    · exact absurd (List.mem_map.mpr ⟨z, hz, e⟩) (of_decide_eq_true hx2)
    · obtain ⟨a, rfl, _⟩ := starts_num e (hd x hx1)
      exact (h.fp l hl p hp).extR.le
  · refine (List.perm_ext_iff_of_nodup nd (List.nodup_append.mpr ⟨fnd, nd.filter _, fun a ha b hb e => absurd (e ▸ ha) (of_decide_eq_true (List.mem_filter.mp hb).2)⟩)).mpr fun x => ?_
    rw [List.mem_append, List.mem_filter, decide_eq_true_eq]
    constructor
    · intro hx
      by_cases q : x ∈ st.found.map S
      · exact .inl q
      · exact .inr ⟨hx, q⟩
    · rintro (q | q)
      · exact sub x q
      · exact q.1
theorem due_end {W : Nat} {due : List Str} {st : WkS} {lm : List Str} {cl : List (List Nat)} (h : Wlk due due st lm cl) (hd : ∀ x ∈ due, Num W x) (srt : sortedS due = true) (nd : due.Nodup) (he : pend st = []) : due = st.found.map S := by
  have e := due_split h hd srt nd
  have : due.filter (fun x => decide (x ∉ st.found.map S)) = [] := List.filter_eq_nil_iff.mpr fun x hx z => by
    rcases h.ty x hx with ⟨y, hy, e⟩ | ⟨p, hp, _⟩
    · exact of_decide_eq_true z (List.mem_map.mpr ⟨y, hy, e⟩)
    · rw [he] at hp
      cases hp
  rw [this, List.append_nil] at e
  exact e
/-- the paper at the end -/
theorem pap_end {W : Nat} {due : List Str} {st : WkS} {lm : List Str} {cl : List (List Nat)} (h : Wlk due due st lm cl) (p : Pap W due st) (hd : ∀ x ∈ due, Num W x) (srt : sortedS due = true) (nd : due.Nodup) (he : pend st = []) : ((st.paper.map (·.1)).map S).Nodup ∧ ∀ y, y ∈ (st.paper.map (·.1)).map S ↔ MetS W due y := by
  have finj : ∀ {a b : List Nat}, S a = S b → a = b := fun e => by
    have := congrArg (fun z : Str => z.cps.toList) e
    simpa [S_list] using this
  refine ⟨List.Pairwise.map S (fun a b h e => h (finj e)) h.pp, fun y => ?_⟩
  have de := due_end h hd srt nd he
  constructor
  · intro hy
    obtain ⟨l, hl, rfl⟩ := List.mem_map.mp hy
    obtain ⟨z, hz, rfl⟩ := List.mem_map.mp hl
    obtain ⟨a, b⟩ := p.pa z hz
    rcases b with b | ⟨x, hx, b⟩
    · exact .inl (by rw [b]; exact empty_S.symm)
    · exact .inr ⟨x, hx, z.1.length, a, by rw [of_decide_eq_true b]⟩
  · rintro (e | ⟨x, hx, i, hi, e⟩)
    · rcases p.nl with q | q
      · rw [he] at q
        cases q
      · exact List.mem_map.mpr ⟨_, q, by rw [e]; exact empty_S.symm⟩
    · rw [de] at hx
      obtain ⟨l, hl, rfl⟩ := List.mem_map.mp hx
      rw [S_list] at e
      exact List.mem_map.mpr ⟨_, p.fb l hl i hi, e.symm⟩
end B

set_option Elab.async false
set_option linter.all false
set_option maxRecDepth 100000
set_option maxHeartbeats 4000000
namespace B
open PySem PySem.Spec PyProof.Rows L2
open SX (S)
theorem FrT.drop {K : PySem.W.Frag} {U T : List Addr} {H H' : Hp} (f : FrT K U H H') (h : ∀ x ∈ U, x ∈ T ∨ H x = none) : FrT K T H H' := ⟨fun b o e t n => f.k b o e t fun z => (h b z).elim n (fun q => absurd (q.symm.trans e) (by simp)), f.b, f.t⟩
theorem eqv_strs {xs : List Str} (h : ∀ x ∈ xs, PyData.strOk x = true) : PyData.eqv (.list (xs.map .str)) (.list (xs.map .str)) = true := by
  have q := shaped_strs h
  have q' : ((PyData.list (xs.map .str)).canLay0 && decide ((PyData.list (xs.map .str)).depth ≤ 64)) = true := q
  rw [Bool.and_eq_true] at q'
  exact SeqAt.eqv_refl _ q'.1
section
variable {X : Cx}
def rSortedAny (K : PySem.W.Frag) : List V → Hp → VK → Prop := fun vs H Q => ∃ (a : Addr) (xs : List Str), vs = [V.ref a] ∧ SqL K H a (xs.map V.str) ∧ xs.length ≤ sizeLine ∧ ∀ (ys : List Str) (p : Addr), ys.Perm xs → sortedS ys = true → H p = none → Q (.ref p) (upd H p (.lst (ys.map V.str)))
theorem cr_sortedAny : CallR X (.builtin "sorted") (rSortedAny X.K) := by
  intro pins s σ H vs us Q I r h
  obtain ⟨a, xs, rfl, hs, big, q⟩ := h
  rw [Vals.ref1 r]
  obtain ⟨its, rv, hl, _⟩ := I.list hs
  have il := rv.length
  rw [List.length_map] at il
  refine sorted_strsAny hl.isList rv.strs (by rw [← il]; exact big) fun out ys h1 h2 h3 => ?_
  obtain ⟨c, hc⟩ := sortedAll_at s.heap its out
  refine ⟨.ref _, upd H (s.heap.objs.size + 1) (.lst (ys.map V.str)), I.laid (t' := s.toks) (fun _ _ => sortedAll_old) (Nat.le_succ _) ⟨?_, out.toList, c, vals_of_strs h1, hc⟩, rfl, q ys _ h2 h3 (I.hok.fresh (Nat.le_succ _))⟩
  rw [List.length_map, h2.length_eq]
  exact big
end
section
variable {P : Program} {w : World} {K : PySem.W.Frag} {mg : Str → Option Value} {base : Heap}
abbrev AL2 (K : PySem.W.Frag) : V → V → Hp → Prop := AlStep K (AlStep K (AlStep K fun _ _ _ => False))
end
/-- all steps on a still wire -/
structure Als (names : List Str) (W : Nat) (due : List Str) (q r : Q4) : Prop where
  wl : ∃ cl, Wlk due due r.1 r.2.1 cl
  pp : Pap W due r.1
  iv : ∃ b, InvQ names W r b
  lk : r.2.2.2 = q.2.2.2 + (r.1.paper.length : Int) - (q.1.paper.length : Int)
theorem all_still {W : Nat} {kvs : List (Str × Bool)} {names due : List Str} (hW : 1 ≤ W) (hd : ∀ x ∈ due, Num W x) (hk : kvs.length ≤ 41) (hkn : ∀ x ∈ kvs.map (·.1), x ∈ names) (hnn : ∀ x ∈ names, Num W x) :
    ∀ {n : Nat} {q : Q4} {b : Nat} {cl : List (List Nat)}, Wlk due due q.1 q.2.1 cl → Pap W due q.1 → InvQ names W q b → (∀ x, x ∈ lisB kvs (decide (q.1.kd = "all")) ↔ x ∈ due) → Als names W due q (allF W kvs n q) := by
  intro n
  induction n with
  | zero => exact fun {q b cl} h p iv he => ⟨⟨cl, h⟩, p, ⟨b, iv⟩, by show q.2.2.2 = q.2.2.2 + (q.1.paper.length : Int) - (q.1.paper.length : Int); omega⟩
  | succ n ih =>
    intro q b cl h p iv he
    by_cases hst : q.1.sd = none ∧ q.1.rest = []
    · rw [all_stop hst]
      exact ⟨⟨cl, h⟩, p, ⟨b, iv⟩, by omega⟩
    · rw [all_go hst]
      have hr : q.1.sd = none → q.1.rest ≠ [] := fun a b => hst ⟨a, b⟩
      obtain ⟨cl', w1, _⟩ := wlk_step (kvs := kvs) (lk := q.2.2.2) h iv.ok hr hW hd hd (fun x hx => (he x).mp hx) fun x hx => (he x).mpr hx
      have s1 := step_still (kvs := kvs) (lk := q.2.2.2) h p iv.ok hr hW hd
      have i1 := inv_step (kvs := kvs) iv hr hk hkn hnn
      have r := ih (q := stepQ W kvs q) w1 s1.pp i1.1 (fun x => by
        show x ∈ lisB kvs (decide ((stepF W kvs q.2.1 q.2.2.2 q.1).1.1.kd = "all")) ↔ _
        rw [step_kd]
        exact he x)
      have l1 := r.lk
      have l2 := s1.lk
      refine ⟨r.wl, r.pp, r.iv, ?_⟩
      show (allF W kvs n (stepQ W kvs q)).2.2.2 = q.2.2.2 + ((allF W kvs n (stepQ W kvs q)).1.paper.length : Int) - (q.1.paper.length : Int)
      have e1 : (stepQ W kvs q).2.2.2 = (stepF W kvs q.2.1 q.2.2.2 q.1).2.2.2 := rfl
      have e2 : (stepQ W kvs q).1 = (stepF W kvs q.2.1 q.2.2.2 q.1).1.1 := rfl
      rw [e1, e2] at l1
      omega
theorem all_lm {W n : Nat} {kvs : List (Str × Bool)} {lm : List Str} {sdm : Option (List Nat)} {lk : Int} {st : WkS} (h : st.sd = none) (hr : st.rest ≠ []) : allF W kvs (n + 1) (st, lm, sdm, lk) = allF W kvs (n + 1) (st, [], none, lk) := by
  have e : stepF W kvs lm lk st = stepF W kvs [] lk st := by
    obtain ⟨kd, rest, sd, found, paper⟩ := st
    dsimp only at h
    subst h
    rfl
  rw [all_go (q := (st, lm, sdm, lk)) (fun z => hr z.2), all_go (q := (st, [], none, lk)) (fun z => hr z.2)]
  dsimp only
  rw [e]
/-- what a new walk finds -/
theorem all_new {W : Nat} {kvs : List (Str × Bool)} {names due : List Str} {kd : Str} {lm : List Str} {sdm : Option (List Nat)} {lk : Int} (hW : 1 ≤ W) (hW2 : W ≤ 12) (hn : names ≠ []) (hl : names.length ≤ 41) (hd : ∀ x ∈ due, Num W x) (srt : sortedS due = true) (nd : due.Nodup) (hk : kvs.length ≤ 41) (hkn : ∀ x ∈ kvs.map (·.1), x ∈ names) (hnn : ∀ x ∈ names, Num W x)
    (he : ∀ x, x ∈ lisB kvs (decide (kd = "all")) ↔ x ∈ due) {R : Q4} (eR : R = allF W kvs (meas W ⟨kd, [[]], none, [], []⟩) (⟨kd, [[]], none, [], []⟩, lm, sdm, lk)) (h1 : R.1.sd = none) (h2 : R.1.rest = []) :
    R.1.found.map S = due ∧ R.2.1.length ≤ 41 ∧ ∃ m : Nat, R.2.2.2 = lk + (m : Int) ∧ ∀ ys, MetL W due ys → ys.length = m := by
  have hp : 0 < meas W ⟨kd, [[]], none, [], []⟩ := meas_pos (fun z => by cases z.2)
  obtain ⟨m0, hm0⟩ : ∃ m0, meas W ⟨kd, [[]], none, [], []⟩ = m0 + 1 := ⟨meas W ⟨kd, [[]], none, [], []⟩ - 1, by omega⟩
  rw [hm0, all_lm rfl (by simp)] at eR
  have i0 := (inv_new (kd := kd) hn hW2 hl).1
  have iv : InvQ names W (⟨kd, [[]], none, [], []⟩, [], none, lk) 1 := ⟨i0.ok, i0.cn, i0.sub, i0.beg, i0.len, i0.mz⟩
  have A := all_still (n := m0 + 1) (kvs := kvs) hW hd hk hkn hnn (q := (⟨kd, [[]], none, [], []⟩, [], none, lk)) wlk_new pap_new iv he
  rw [← eR] at A
  obtain ⟨⟨cl, wl⟩, pp, ⟨b, iv2⟩, l⟩ := A
  have ep : pend R.1 = [] := by
    obtain ⟨⟨k1, rest, sd, fo, pa⟩, R2⟩ := R
    dsimp only at h1 h2
    subst h1
    exact h2
  have df := due_end wl hd srt nd ep
  obtain ⟨q1, q2⟩ := pap_end wl pp hd srt nd ep
  refine ⟨df.symm, iv2.len, R.1.paper.length, ?_, fun ys hy => ?_⟩
  · have e : R.2.2.2 = lk + (R.1.paper.length : Int) - ((0 : Nat) : Int) := l
    omega
  · have pm := (List.perm_ext_iff_of_nodup q1 hy.nd).mpr fun y => (q2 y).trans (hy.mem y).symm
    have := pm.length_eq
    rw [List.length_map, List.length_map] at this
    exact this.symm
end B

set_option Elab.async false
set_option linter.all false
set_option maxRecDepth 100000
set_option maxHeartbeats 4000000
namespace B
open PySem PySem.Spec PyProof.Rows L2
open SX (S)
/-! ### rounds -/
structure D4 where
  dl : Addr
  lm : List Str
  sdm : Option (List Nat)
  lk : Int
  st : WkS
  b : Nat
  rd : Nat
/-- between two rounds -/
structure Bt (names : List Str) (W : Nat) (due : List Str) (l0 : Int) (d : D4) : Prop where
  wl : ∃ cl, Wlk due due d.st [] cl
  pp : Pap W due d.st
  iv : ∃ b, InvQ names W (d.st, [], none, d.lk) b
  sd : d.st.sd = none
  lm : d.lm.length ≤ 41
  lk : d.lk = l0 + (d.st.paper.length : Int)
  rd : (due ≠ [] ∧ d.rd = d.st.found.length) ∨ (due = [] ∧ ((d.rd = 0 ∧ d.st.rest ≠ []) ∨ (d.rd = 1 ∧ d.st.rest = [])))
theorem round_lm {W n : Nat} {kvs : List (Str × Bool)} {lm : List Str} {lk : Int} {st : WkS} (h : st.sd = none) : roundF W kvs n lm lk st = roundF W kvs n [] lk st := by
  have e : stepF W kvs lm lk st = stepF W kvs [] lk st := by
    obtain ⟨kd, rest, sd, found, paper⟩ := st
    dsimp only at h
    subst h
    rfl
  cases n with
  | zero => exact e
  | succ n =>
    show (match (stepF W kvs lm lk st).1.2 with | .no => _ | _ => _) = (match (stepF W kvs [] lk st).1.2 with | .no => _ | _ => _)
    rw [e]
theorem bt_new {names due : List Str} {W : Nat} {kd : Str} {l0 : Int} {dl : Addr} {lm : List Str} {sdm : Option (List Nat)} {b : Nat} (hn : names ≠ []) (hW : W ≤ 12) (hl : names.length ≤ 41) (hm : lm.length ≤ 41) : Bt names W due l0 ⟨dl, lm, sdm, l0, ⟨kd, [[]], none, [], []⟩, b, 0⟩ := by
  have i0 := (inv_new (kd := kd) hn hW hl).1
  refine ⟨⟨[], wlk_new⟩, pap_new, ⟨1, i0.ok, i0.cn, i0.sub, i0.beg, i0.len, i0.mz⟩, rfl, hm, by show l0 = l0 + ((0 : Nat) : Int); omega, ?_⟩
  by_cases e : due = []
  · exact .inr ⟨e, .inl ⟨rfl, by simp⟩⟩
  · exact .inl ⟨e, rfl⟩
/-- behind a round -/
theorem bt_round {names due : List Str} {W : Nat} {l0 : Int} {d : D4} {kvs : List (Str × Bool)} (h : Bt names W due l0 d) (hr : d.st.rest ≠ []) (hW : 1 ≤ W) (hd : ∀ x ∈ due, Num W x) (srt : sortedS due = true) (nd : due.Nodup) (hk : kvs.length ≤ 41) (hkn : ∀ x ∈ kvs.map (·.1), x ∈ names) (hnn : ∀ x ∈ names, Num W x) (he : ∀ x, x ∈ lisB kvs (decide (d.st.kd = "all")) ↔ x ∈ due) {R : (WkS × Tld) × List Str × Option (List Nat) × Int} (eR : R = roundF W kvs W [] d.lk d.st) :
    ∃ b, b ≤ 20000 ∧ WkOk W R.2.1 R.2.2.1 R.1.1 b ∧ mv W names R.1.1 < mv W names d.st ∧ R.1.1.kd = d.st.kd ∧ (∀ dl, Bt names W due l0 ⟨dl, R.2.1, R.2.2.1, R.2.2.2, R.1.1, b, d.rd + 1⟩) ∧ ((R.1.2 = .lost ∧ due = [] ∧ d.rd = 0) ∨ ∃ l, R.1.2 = .found l ∧ due ≠ [] ∧ due[d.rd]? = some (S l) ∧ d.rd < due.length) := by
  obtain ⟨⟨cl, wl⟩, pp, ⟨b0, iv⟩, sd, lm, lk, rd⟩ := h
  obtain ⟨⟨⟨cl', r1⟩, r2, ⟨b, r3⟩, r4, r5⟩, r6⟩ := round_still (n := W) (kvs := kvs) hW hd hk hkn hnn wl pp iv (fun _ => hr) he
  rw [← eR] at r1 r2 r3 r4 r5 r6
  have told := r6 (fun l e => by rw [sd] at e; cases e) (fun _ => Nat.le_refl _)
  have mz := r3.mz
  have lk2 := r2.lk
  have sdn : R.1.1.sd = none := by
    cases q : R.1.2 with
    | no => exact absurd q told
    | lost => exact (r2.lost q).2.2
    | found l => exact (r2.fnd l q).2
  have wl2 : Wlk due due R.1.1 [] cl' := by
    obtain ⟨a1, a2, a3, a4, a5, a6, a7, a8, a9, b1, b2, b3, b4⟩ := r1
    exact ⟨a1, a2, a3, a4, a5, a6, a7, a8, a9, b1, b2, fun l e => (by rw [sdn] at e; cases e), fun x hx => absurd hx (by simp)⟩
  have iv2 : InvQ names W (R.1.1, [], none, R.2.2.2) b := by
    obtain ⟨⟨c1, c2, c3, c4⟩, e2, e3, e4, e5, e6⟩ := r3
    exact ⟨⟨c1, fun l e => (by rw [show (R.1.1, ([] : List Str), (none : Option (List Nat)), R.2.2.2).1 = R.1.1 from rfl, sdn] at e; cases e), c3, Nat.zero_le _⟩, e2, fun x hx => absurd hx (by simp), fun l e => (by cases e), Nat.zero_le _, e6⟩
  have mk : ((due ≠ [] ∧ d.rd + 1 = R.1.1.found.length) ∨ (due = [] ∧ ((d.rd + 1 = 0 ∧ R.1.1.rest ≠ []) ∨ (d.rd + 1 = 1 ∧ R.1.1.rest = [])))) → ∀ dl, Bt names W due l0 ⟨dl, R.2.1, R.2.2.1, R.2.2.2, R.1.1, b, d.rd + 1⟩ := fun z dl => ⟨⟨cl', wl2⟩, r2.pp, ⟨b, iv2⟩, sdn, r3.len, by show R.2.2.2 = l0 + (R.1.1.paper.length : Int); omega, z⟩
  refine ⟨b, Nat.le_trans (Nat.le_add_right _ _) mz, r3.ok, r4, r5, ?_⟩
  cases q : R.1.2 with
  | no => exact absurd q told
  | lost =>
    obtain ⟨e1, e2, e3⟩ := r2.lost q
    have z0 : d.rd = 0 := by
      rcases rd with ⟨z, _⟩ | ⟨_, ⟨z, _⟩ | ⟨_, z⟩⟩
      · exact absurd e1 z
      · exact z
      · exact absurd z hr
    exact ⟨mk (.inr ⟨e1, .inr ⟨by omega, e2⟩⟩), .inl ⟨rfl, e1, z0⟩⟩
  | found l =>
    obtain ⟨e1, e2⟩ := r2.fnd l q
    have hin : S l ∈ due := wl2.fe l (by rw [e1]; simp)
    have ne : due ≠ [] := fun z => by rw [z] at hin; cases hin
    have z0 : d.rd = d.st.found.length := by
      rcases rd with ⟨_, z⟩ | ⟨z, _⟩
      · exact z
      · exact absurd z ne
    have at_ : due[d.rd]? = some (S l) := by
      rw [due_split wl2 hd srt nd, e1, z0, List.map_append, List.append_assoc, List.getElem?_append_right (by rw [List.length_map]; exact Nat.le_refl _), List.length_map, Nat.sub_self]
      rfl
    exact ⟨mk (.inl ⟨ne, by rw [e1, List.length_append, z0]; rfl⟩), .inr ⟨l, rfl, ne, at_, (List.getElem?_eq_some_iff.mp at_).1⟩⟩
/-- a round ends -/
theorem round_done {W : Nat} {kvs : List (Str × Bool)} : ∀ {n : Nat} {lm : List Str} {lk : Int} {st : WkS}, (∀ l, st.sd = some l → W ≤ l.length + n + 1) → (st.sd = none → W ≤ n) → (roundF W kvs n lm lk st).1.2 ≠ .no := by
  intro n
  induction n with
  | zero =>
    intro lm lk st q1 q2 z
    obtain ⟨l', e1, e2, e3⟩ := step_no (show (stepF W kvs lm lk st).1.2 = .no from z)
    cases hs : st.sd with
    | none => have := q2 hs; omega
    | some l =>
      have := q1 l hs
      have := e3 l hs
      omega
  | succ n ih =>
    intro lm lk st q1 q2
    by_cases hno : (stepF W kvs lm lk st).1.2 = .no
    · rw [round_no hno]
      obtain ⟨l', e1, e2, e3⟩ := step_no hno
      refine ih (fun l e => ?_) fun e => by rw [e1] at e; cases e
      rw [e1] at e
      cases e
      cases hs : st.sd with
      | none =>
        have := q2 hs
        omega
      | some l =>
        have := q1 l hs
        have := e3 l hs
        omega
    · rw [round_yes hno]
      exact hno
theorem step_sdn {W : Nat} {kvs : List (Str × Bool)} {lm : List Str} {lk : Int} {st : WkS} (h : (stepF W kvs lm lk st).1.2 ≠ .no) : (stepF W kvs lm lk st).1.1.sd = none := by
  have ov : ∀ {s : WkS} {l : List Nat}, (overF W s l).2 ≠ .no → (overF W s l).1.sd = none := fun {s l} z => by
    unfold overF at z ⊢
    split
    · rename_i c
      rw [if_pos c] at z
      exact absurd rfl z
    · rfl
  obtain ⟨kd, rest, sd, found, paper⟩ := st
  cases sd with
  | none => exact ov h
  | some l =>
    unfold stepF at h ⊢
    dsimp only at h ⊢
    split
    · rfl
    · rename_i c
      rw [if_neg c] at h
      exact ov h
theorem round_sdn {W : Nat} {kvs : List (Str × Bool)} : ∀ {n : Nat} {lm : List Str} {lk : Int} {st : WkS}, (roundF W kvs n lm lk st).1.2 ≠ .no → (roundF W kvs n lm lk st).1.1.sd = none := by
  intro n
  induction n with
  | zero => exact fun h => step_sdn h
  | succ n ih =>
    intro lm lk st h
    by_cases hno : (stepF W kvs lm lk st).1.2 = .no
    · rw [round_no hno] at h ⊢
      exact ih h
    · rw [round_yes hno]
      exact step_sdn hno
theorem round_kd {W : Nat} {kvs : List (Str × Bool)} : ∀ {n : Nat} {lm : List Str} {lk : Int} {st : WkS}, (roundF W kvs n lm lk st).1.1.kd = st.kd := by
  intro n
  induction n with
  | zero => exact step_kd
  | succ n ih =>
    intro lm lk st
    by_cases hno : (stepF W kvs lm lk st).1.2 = .no
    · rw [round_no hno]
      exact ih.trans step_kd
    · rw [round_yes hno]
      exact step_kd
theorem round_len {W m : Nat} {kvs : List (Str × Bool)} (hk : kvs.length ≤ m) : ∀ {n : Nat} {lm : List Str} {lk : Int} {st : WkS}, lm.length ≤ m → (roundF W kvs n lm lk st).2.1.length ≤ m := by
  intro n
  induction n with
  | zero => exact fun h => step_len h hk
  | succ n ih =>
    intro lm lk st h
    by_cases hno : (stepF W kvs lm lk st).1.2 = .no
    · rw [round_no hno]
      exact ih (step_len h hk)
    · rw [round_yes hno]
      exact step_len h hk
theorem step_lk {W : Nat} {kvs : List (Str × Bool)} {lm : List Str} {lk : Int} {st : WkS} {l : List Nat} (h : st.sd = some l) : (stepF W kvs lm lk st).2.2.2 = lk + 1 := by
  obtain ⟨kd, rest, sd, found, paper⟩ := st
  dsimp only at h
  subst h
  unfold stepF
  dsimp only
  split <;> rfl
theorem step_fnd {W : Nat} {kvs : List (Str × Bool)} {lm : List Str} {lk : Int} {st : WkS} {l l' : List Nat} (h : st.sd = some l) (hl : l.length < W) (q : (stepF W kvs lm lk st).1.2 = .found l') : l.length + 1 = W := by
  obtain ⟨kd, rest, sd, found, paper⟩ := st
  dsimp only at h
  subst h
  have ov : ∀ {s : WkS} {m : List Nat}, (overF W s m).2 = .found l' → W ≤ m.length := fun {s m} z => by
    unfold overF at z
    split at z
    · cases z
    · rename_i c
      omega
  unfold stepF at q
  dsimp only at q
  by_cases c : lm.any (sg l.length 48) = false ∧ lm.any (sg l.length 49) = false
  · rw [if_pos c] at q
    cases q
  · rw [if_neg c] at q
    have := ov q
    rw [List.length_append, List.length_singleton] at this
    omega
theorem round_lk {W : Nat} {kvs : List (Str × Bool)} : ∀ {n : Nat} {lm : List Str} {lk : Int} {st : WkS} {l l' : List Nat}, st.sd = some l → l.length < W → (roundF W kvs n lm lk st).1.2 = .found l' → (roundF W kvs n lm lk st).2.2.2 = lk + (W : Int) - (l.length : Int) := by
  intro n
  induction n with
  | zero =>
    intro lm lk st l l' h hl q
    have e1 := step_lk (W := W) (kvs := kvs) (lm := lm) (lk := lk) h
    have e2 := step_fnd (kvs := kvs) (lm := lm) (lk := lk) h hl q
    show (stepF W kvs lm lk st).2.2.2 = _
    omega
  | succ n ih =>
    intro lm lk st l l' h hl q
    have e1 := step_lk (W := W) (kvs := kvs) (lm := lm) (lk := lk) h
    by_cases hno : (stepF W kvs lm lk st).1.2 = .no
    · rw [round_no hno] at q ⊢
      obtain ⟨l2, g1, g2, g3⟩ := step_no hno
      have := g3 l h
      rw [ih g1 g2 q]
      omega
    · rw [round_yes hno] at q ⊢
      have e2 := step_fnd (kvs := kvs) (lm := lm) (lk := lk) h hl q
      omega
theorem first_no {W : Nat} {kvs : List (Str × Bool)} {lm : List Str} {lk : Int} {kd : Str} (hW : 1 ≤ W) : stepF W kvs lm lk ⟨kd, [[]], none, [], []⟩ = ((⟨kd, [], some [], [], []⟩, .no), begF kvs kd [], some [], lk) := by
  show (overF W ⟨kd, [], none, [], []⟩ [], begF kvs kd [], some [], lk) = _
  unfold overF
  rw [if_pos (show ([] : List Nat).length < W from hW)]
/-- a round of a new walk for alarms: the least of them, by a look for each bit; else a look -/
theorem alarm_round {names due : List Str} {W : Nat} {lk : Int} {kvs : List (Str × Bool)} {R : (WkS × Tld) × List Str × Option (List Nat) × Int} (hn : names ≠ []) (hW : 1 ≤ W) (hW2 : W ≤ 12) (hl : names.length ≤ 41) (hd : ∀ x ∈ due, Num W x) (srt : sortedS due = true) (nd : due.Nodup) (hk : kvs.length ≤ 41) (hkn : ∀ x ∈ kvs.map (·.1), x ∈ names) (hnn : ∀ x ∈ names, Num W x) (he : ∀ x, x ∈ lisB kvs false ↔ x ∈ due) (eR : R = roundF W kvs W [] lk ⟨"alarm", [[]], none, [], []⟩) :
    R.2.1.length ≤ 41 ∧ ((due = [] ∧ R.1.2 = .lost ∧ R.2.2.2 = lk + 1) ∨ ∃ (l : List Nat) (r : List Str), due = S l :: r ∧ R.1.2 = .found l ∧ R.2.2.2 = lk + (W : Int)) := by
  have he' : ∀ x, x ∈ lisB kvs (decide (("alarm" : Str) = "all")) ↔ x ∈ due := fun x => by rw [decide_eq_false (by decide +kernel)]; exact he x
  have bt0 : Bt names W due lk ⟨0, [], none, lk, ⟨"alarm", [[]], none, [], []⟩, 1, 0⟩ := bt_new hn hW2 hl (Nat.zero_le _)
  obtain ⟨b, hb, ok, mvR, kdR, btR, told⟩ := bt_round bt0 (by simp) hW hd srt nd hk hkn hnn he' eR
  refine ⟨(btR 0).lm, ?_⟩
  obtain ⟨w, rfl⟩ : ∃ w, W = w + 1 := ⟨W - 1, by omega⟩
  rw [round_no (by rw [first_no hW]), first_no hW] at eR
  rcases told with ⟨q1, q2, _⟩ | ⟨l, q1, q2, q3, _⟩
  · refine .inl ⟨q2, q1, ?_⟩
    have el : begF kvs "alarm" [] = [] := by
      rw [begF_nil, decide_eq_false (by decide +kernel)]
      exact List.eq_nil_iff_forall_not_mem.mpr fun x hx => by
        have := (he x).mp hx
        rw [q2] at this
        cases this
    rw [el] at eR
    have e1 : stepF (w + 1) kvs [] lk ⟨"alarm", [], some [], [], []⟩ = ((⟨"alarm", [], none, [], [([], false, false)]⟩, .lost), [], some [], lk + 1) := rfl
    rw [round_yes (by rw [e1]; intro z; cases z), e1] at eR
    rw [eR]
  · cases hdue : due with
    | nil => exact absurd hdue q2
    | cons x r =>
      rw [hdue] at q3
      obtain rfl : x = S l := Option.some.inj q3
      refine .inr ⟨l, r, rfl, q1, ?_⟩
      rw [eR] at q1 ⊢
      have := round_lk (l := []) rfl hW q1
      rw [this]
      show lk + ((w + 1 : Nat) : Int) - ((0 : Nat) : Int) = _
      omega
end B

set_option Elab.async false
set_option linter.all false
set_option maxRecDepth 100000
set_option maxHeartbeats 4000000
namespace B
open PySem PySem.Spec PyProof.Rows L2
open SX (S)
/-! ### a desk -/
abbrev DC (K : PySem.W.Frag) : Addr := He.ga K "Desk"
def dfl (pw pz : Addr) : List (Str × V) := [("_wire", .ref pw), ("_walk", .ref pz)]
def DkAt (K : PySem.W.Frag) (H : Hp) (pd pw pz : Addr) : Prop := ∃ dx, H pd = some (.ins (DC K) dx (dfl pw pz))
section
variable {pw pz q : Addr}
theorem dl_wire : (dfl pw pz).lookup ("_wire" : Str) = some (.ref pw) := by kernel_rfl
theorem dl_walk : (dfl pw pz).lookup ("_walk" : Str) = some (.ref pz) := by kernel_rfl
theorem dp_new : putF "_walk" (.ref pz) (putF "_wire" (.ref pw) []) = dfl pw pz := by kernel_rfl
theorem dx_turn : (dfl pw pz).lookup ("turn" : Str) = none := by kernel_rfl
end
section
variable {P : Program} {w : World} {K : PySem.W.Frag} {mg : Str → Option Value} {base : Heap}
theorem dcl (T : Txt P w K mg base) : Cls K (DC K) := He.cls_ok (T.t.fact 84 (f := .cls "Desk"))
theorem dn_wire (T : Txt P w K mg base) : NoAttr K (DC K) "_wire" := He.noat_ok (T.t.fact 86 (f := .noat "Desk" "_wire"))
theorem dn_walk (T : Txt P w K mg base) : NoAttr K (DC K) "_walk" := He.noat_ok (T.t.fact 87 (f := .noat "Desk" "_walk"))
theorem DkAt.keep {H H' : Hp} {T : List Addr} {pd pw pz : Addr} (h : DkAt K H pd pw pz) (f : FrT K T H H') (h1 : pd ∉ T) : DkAt K H' pd pw pz := by
  obtain ⟨dx, o1⟩ := h
  exact ⟨dx, f.k _ _ o1 rfl h1⟩
theorem deed_calm {kvs : List (Str × Bool)} {x : Str} {lw : List Str} (h : hasK kvs x = true) : deedW kvs "calm" x = "" ∧ deedK kvs "calm" x = putB kvs x false ∧ deedL kvs lw "calm" x = lw := by
  have nw : ¬ ("calm" : Str) = "hang" := by decide +kernel
  have no : ¬ ("calm" : Str) = "off" := by decide +kernel
  have na : ¬ ("calm" : Str) = "alarm" := by decide +kernel
  unfold deedW deedK deedL
  rw [if_neg nw, if_neg nw, if_pos h, if_pos h, if_neg no, if_neg (fun z => no z.1), decide_eq_false na]
  exact ⟨rfl, rfl, rfl⟩
def spDNew (K : PySem.W.Frag) : Sp := fun vs H Q _ => ∃ (pd dx pw : Addr), vs = [.ref pd, .ref pw] ∧ H pd = some (.ins (DC K) dx []) ∧ ∀ (pz qr qf qp : Addr) (H' : Hp), H pz = none → H qr = none → H qf = none → H qp = none → DkAt K H' pd pw pz → VkAt K H' pz pw qr qf qp ⟨"all", [[]], none, [], []⟩ → Frm [pd] H H' → Q .non H'
theorem k_Desk (T : Txt P w K mg base) : MakX CX0 P w K mg base 4 "Desk" (DC K) (spDNew K) := by
  obtain ⟨fd, F⟩ := T.t.def_ 24 (d := d_Desk_init)
  refine ⟨_, fd, _, He.mkr_ok (T.t.fact 85 (f := .mkr "Desk")), F.ok sc_Desk_init (fun vs H Q E h => ?_) (fun cdv A outer s H vs Q E hr h => ?_), g_Desk T, F.bindsN fun _ _ _ _ _ _ us hl => match us, hl with | [_, _], _ => rfl⟩
  · obtain ⟨pd, dx, pw, rfl, _⟩ := h
    rfl
  · obtain ⟨pd, dx, pw, rfl, h1, k⟩ := h
    refine ⟨_, PSs.nox (pss_cons (ps_fld (pv 0) (pv 1) rfl)
    (pss_one (ps_fld (pv 0) (pe_mkx (k_Walk T) hr (by decide) rfl pass0 (pa_cons (pv 1) (pa_cons pe_str pa_nil))) rfl))), ?_⟩
    refine ⟨_, rfl, _, rfl, pd, _, dx, _, rfl, h1, dcl T, dn_wire T, by show 0 < 1000; decide, ?_⟩
    have f1 : Frm [pd] H (upd H pd (.ins (DC K) dx (putF "_wire" (.ref pw) []))) := (Frm.refl _ _).put (by simp)
    have e1 : (upd H pd (.ins (DC K) dx (putF "_wire" (.ref pw) []))) pd = some (.ins (DC K) dx (putF "_wire" (.ref pw) [])) := upd_same
    revert f1 e1
    generalize (upd H pd _) = H1
    intro f1 e1
    refine ⟨_, rfl, fun pz dxv hpv hdxv hnv => ⟨pz, dxv, pw, "all", rfl, .inl rfl, upd_same, fun qr qf qp H2 hqr hqf hqp vk2 f2 => ⟨rfl, ?_⟩⟩⟩
    have f12 : Frm [] H1 H2 := Frm.fresh (((Frm.refl _ _).new hdxv).new hpv) f2 (by simpa using hpv)
    have e2 := f12.k _ _ e1 rfl (by simp)
    refine ⟨_, rfl, pd, _, dx, _, rfl, e2, dcl T, dn_walk T, by show 1 < 1000; decide, ?_⟩
    rw [dp_new]
    have b : ∀ {x : Addr}, H1 x = none → H x = none := fun z => f1.b _ z
    have u : ∀ {x : Addr}, upd (upd H1 dxv (.own pz)) pz (.ins (VC K) dxv []) x = none → H1 x = none := fun z => upd_back (upd_back z)
    have npd : pd ≠ pz := ne_of_none e1 hpv
    have f3 : FrT K [pd] H2 (upd H2 pd (.ins (DC K) dx (dfl pw pz))) := ((Frm.refl [pd] H2).put (by simp)).toT (.cons e2 rfl .nil)
    obtain ⟨⟨dxq, o1⟩, o2, o3, ⟨ts, o4, _⟩, _⟩ := id vk2
    refine k pz qr qf qp _ (b hpv) (b (u hqr)) (b (u hqf)) (b (u hqp)) ⟨dx, upd_same⟩ (vk2.keepT f3 (.cons e2 rfl .nil) (by simpa using npd.symm) ?_ ?_ ?_) ((f1.trans (f12.mono (by simp))).trans ((Frm.refl [pd] H2).put (by simp)))
    · simpa using ne_of o2 e2 (by intro z; cases z)
    · simpa using ne_of o3 e2 (by intro z; cases z)
    · simpa using ne_of o4 e2 (by intro z; cases z)
/-- what a turn comes to -/
def spDTurn (K : PySem.W.Frag) : Sp := fun vs H Q _ => ∃ (pd pz pw qr qf qp dh dl : Addr) (W : Nat) (names : List Str) (kvs : List (Str × Bool)) (lw : List Str) (sdm : Option (List Nat)) (lk : Int) (st : WkS) (b : Nat) (ring : List Str), vs = [.ref pd] ∧ DkAt K H pd pw pz ∧ VkAt K H pz pw qr qf qp st ∧ WiAt K H pw dh dl W kvs lw (msOf W sdm) lk ∧ Tb K H ∧ st.sd = none ∧ st.kd = "all" ∧ WkOk W [] none st b ∧ b ≤ 800000 ∧ lw.length ≤ 41 ∧ 1 ≤ W ∧ W ≤ 12 ∧ names ≠ [] ∧ names.length ≤ 41 ∧ (∀ x ∈ names, Num W x) ∧ (kvs.map (·.1)).Nodup ∧ (∀ x ∈ kvs.map (·.1), x ∈ names) ∧ ring.Perm (lisB kvs false) ∧ sortedS ring = true ∧ (dl ≠ qr ∧ dl ≠ qf ∧ dl ≠ qp) ∧ pd ≠ pw ∧ pd ≠ dh ∧ pz ≠ pw ∧ pz ≠ dh ∧
  (∀ (x : Str) (r : List Str), ring = x :: r → ∀ (t dl' : Addr) (lw' : List Str) (sdm' : Option (List Nat)) (H' : Hp), H t = none → (dl' = dl ∨ H dl' = none) → lw'.length ≤ 41 → H' t = some (.tup [.str "alarm", .str x]) → WiAt K H' pw dh dl' W (putB kvs x false) lw' (msOf W sdm') (lk + W) → FrT K [pw, dh] H H' → Q (.ref t) H') ∧
  (ring = [] → st.rest = [] → ∀ (t dl' : Addr) (lw' : List Str) (sdm' : Option (List Nat)) (H' : Hp), H t = none → (dl' = dl ∨ H dl' = none) → lw'.length ≤ 41 → H' t = some (.tup [.str "done"]) → WiAt K H' pw dh dl' W kvs lw' (msOf W sdm') (lk + 1) → FrT K [pw] H H' → Q (.ref t) H') ∧
  (ring = [] → st.rest ≠ [] → ∀ (R : (WkS × Tld) × List Str × Option (List Nat) × Int) (v : V) (dl' : Addr) (lw' : List Str) (H' : Hp), R = roundF W kvs W [] (lk + 1) st → (dl' = dl ∨ H dl' = none) → lw'.length ≤ 41 → TldAt H' R.1.2 v → VkAt K H' pz pw qr qf qp R.1.1 → R.1.1.sd = none → R.1.2 ≠ .no → R.1.1.kd = "all" → WkOk W [] none R.1.1 (b + 1 + W) → WiAt K H' pw dh dl' W kvs lw' (msOf W R.2.2.1) R.2.2.2 → FrT K [pz, qr, qf, qp, pw] H H' → Q v H')
theorem m_Desk_turn (T : Txt P w K mg base) : MetX CX0 P w K mg base 7 (DC K) "turn" (spDTurn K) := by
  obtain ⟨fd, F⟩ := T.t.def_ 25 (d := d_Desk_turn)
  refine ⟨_, fd, _, dcl T, He.meth_ok (T.t.fact 88 (f := .meth "Desk" "turn")), F.ok sc_Desk_turn (fun vs H Q E h => ?_) (fun cdv A outer s H vs Q E hr h => ?_), F.bindsN fun _ _ _ _ _ _ us hl => match us, hl with | [_], _ => rfl⟩
  · obtain ⟨pd, pz, pw, qr, qf, qp, dh, dl, W, names, kvs, lw, sdm, lk, st, b, ring, rfl, _⟩ := h
    rfl
  · obtain ⟨pd, pz, pw, qr, qf, qp, dh, dl, W, names, kvs, lw, sdm, lk, st, b, ring, rfl, dk, vk, wa, ht, sdn, kd, ok, hb, hlw, w1, w2, nne, nlen, nnum, knd, ksub, rpm, rsrt, nlq, npw, npd, nvw, nvd, k1, k2, k3⟩ := h
    refine ⟨_, PSs.nox (pss_cons (ps_set (i := 1) sc_Desk_turn.nd rfl (Or.inl rfl) (pe_mx0 (m_Walk_go_round T) hr (by decide) (pe_mkx (k_Walk T) hr (by decide) rfl pass0 (pa_cons (pe_fld (pv 0) (by rfl)) (pa_cons pe_str pa_nil))) pass0))
    (pss_cons (ps_if (pt_cmpR op_eq (pe_ix ix_tup (pv 1) pe_int (fun _ _ => rfl)) pe_str (nomark _))
      (pss_cons (ps_set (i := 2) sc_Desk_turn.nd rfl (Or.inl rfl) (pe_ix ix_tup (pv 1) pe_int (fun _ _ => rfl)))
      (pss_cons (ps_expr (pe_mx (m_Wire_calm T) hr (by decide) (pe_fld (pv 0) (by rfl)) (passes_call (E := fun _ _ _ => False) L2.takes0 (fun _ _ _ _ h => h)) (pa_cons (pv 2) pa_nil)))
      (pss_one (ps_ret (pe_tup (pa_cons pe_str (pa_cons (pv 2) pa_nil)))))))
      pss_nil)
    (pss_cons (ps_if (pt_not (pt_truth (pe_mx0 (m_Walk_left T) hr (by decide) (pe_fld (pv 0) (by rfl)) pass0) (by intro _; rfl)))
      (pss_one (ps_ret (pe_tup (pa_cons pe_str pa_nil))))
      pss_nil)
    (pss_one (ps_ret (pe_mx0 (m_Walk_go_round T) hr (by decide) (pe_fld (pv 0) (by rfl)) pass0)))))), ?_⟩
    obtain ⟨dx, o1⟩ := id dk
    refine ⟨_, rfl, pd, _, dx, _, _, rfl, o1, dcl T, dn_wire T, dl_wire, ?_⟩
    refine fun ak dxa hak hdxa hna => ⟨ak, dxa, pw, "alarm", rfl, .inr rfl, upd_same, fun ar af ap H1 har haf hap ak1 f1 => ⟨rfl, ?_⟩⟩
    have f01 : Frm [] H H1 := Frm.fresh (((Frm.refl _ _).new hdxa).new hak) f1 (by simpa using hak)
    have har0 : H ar = none := upd_back (upd_back har)
    have haf0 : H af = none := upd_back (upd_back haf)
    have hap0 : H ap = none := upd_back (upd_back hap)
    have wa1 := wa.stay (f01.toT .nil (K := K)) .nil (by simp) (by simp)
    have nla : dl ≠ ar ∧ dl ≠ af ∧ dl ≠ ap := ⟨ne_of_none wa.li har0, ne_of_none wa.li haf0, ne_of_none wa.li hap0⟩
    have hkl : kvs.length ≤ 41 := by
      have := nodup_le knd ksub
      rw [List.length_map] at this
      omega
    have knum : ∀ x ∈ kvs.map (·.1), Num W x := fun x hx => nnum x (ksub x hx)
    have ok0 : WkOk W lw sdm ⟨"alarm", [[]], none, [], []⟩ 1 := by
      have i0 := (inv_new (kd := "alarm") nne w2 nlen).1
      exact ⟨i0.ok.rest, fun l e => (by cases e), ⟨Nat.le_refl _, Nat.zero_le _, Nat.zero_le _⟩, by omega⟩
    have vk1 : VkOk K H1 ak pw ar af ap dh dl W kvs lw sdm lk ⟨"alarm", [[]], none, [], []⟩ 1 := ⟨ak1, ⟨lw, wa1, List.Perm.refl _⟩, nla, .inr rfl, w2, by omega, knd, knum, ok0⟩
    obtain ⟨⟨dxa1, p1⟩, p2, p3, ⟨ts, p4, _⟩, _⟩ := id ak1
    obtain ⟨⟨dww, w11⟩, w12, w13⟩ := id wa1
    refine ⟨ak, dxa1, _, rfl, p1, vx_round, ?_⟩
    refine ⟨ak, pw, ar, af, ap, dh, dl, W, kvs, lw, sdm, lk, _, 1, rfl, vk1, by omega, fun _ => by simp, fun v dl2 H2 hdl2 vk2 tl2 f2 => ?_⟩
    rw [round_lm rfl] at vk2 tl2
    generalize hR : roundF W kvs W [] lk ⟨"alarm", [[]], none, [], []⟩ = R at vk2 tl2
    have rsub : ∀ x, x ∈ lisB kvs false ↔ x ∈ ring := fun x => rpm.mem_iff.symm
    have lsub : ∀ x ∈ lisB kvs false, x ∈ kvs.map (·.1) := fun x hx => by
      unfold lisB at hx
      obtain ⟨z, hz, e⟩ := List.mem_map.mp hx
      exact List.mem_map.mpr ⟨z, (List.mem_filter.mp hz).1, e⟩
    have rnum : ∀ x ∈ ring, Num W x := fun x hx => knum x (lsub x ((rsub x).mpr hx))
    have rnd : ring.Nodup := by
      refine rpm.nodup_iff.mpr ?_
      unfold lisB
      exact knd.sublist (List.Sublist.map _ List.filter_sublist)
    obtain ⟨a1, told⟩ := alarm_round nne w1 w2 nlen rnum rsrt rnd hkl ksub nnum rsub hR.symm
    have nT : NT [ak, ar, af, ap, pw] H1 := .cons p1 rfl (.cons p2 rfl (.cons p3 rfl (.cons p4 rfl (.cons w11 rfl .nil))))
    have fH2 : FrT K [pw] H H2 := (((f01.toT .nil (K := K)).mono (by simp)).trans (f2.toN nT)).drop fun x hx => by
      simp only [List.mem_cons, List.not_mem_nil, or_false] at hx
      rcases hx with rfl | rfl | rfl | rfl | rfl
      · exact .inr hak
      · exact .inr har0
      · exact .inr haf0
      · exact .inr hap0
      · exact .inl (List.mem_singleton.mpr rfl)
    obtain ⟨lw2, wa2, pm2⟩ := id vk2.wa
    have hlw2 : lw2.length ≤ 41 := by
      rw [pm2.length_eq]
      exact a1
    have hdl0 : dl2 = dl ∨ H dl2 = none := hdl2.imp_right fun y => f01.b _ y
    have dk2 := dk.keep fH2 (by simpa using npw)
    obtain ⟨dx2, q1⟩ := id dk2
    have nTw : NT [pw] H := .cons wa.ob.choose_spec rfl .nil
    obtain ⟨⟨dxz, z1⟩, z2, z3, ⟨zs, z4, _⟩, _⟩ := id vk
    obtain ⟨dw0, w01⟩ := id wa.ob
    have vkz := vk.keepT fH2 nTw (by simpa using nvw) (by simpa using ne_of z2 w01 (by intro y; cases y)) (by simpa using ne_of z3 w01 (by intro y; cases y)) (by simpa using ne_of z4 w01 (by intro y; cases y))
    obtain ⟨⟨dxz2, y1⟩, y2, y3, ⟨zs2, y4, _⟩, _⟩ := id vkz
    obtain ⟨⟨dw2, w21⟩, w22, w23⟩ := id wa2
    rcases told with ⟨e1, e2, e3⟩ | ⟨l, r, e1, e2, e3⟩
    · rw [e2] at tl2
      obtain ⟨t0, rfl, et0⟩ := tl2
      refine ⟨_, rfl, t0, _, 0, _, rfl, rfl, SqT.of et0, rfl, rfl, _, rfl, ?_⟩
      rw [str_dec, decide_eq_false (by decide +kernel)]
      refine ⟨_, rfl, pd, _, dx2, _, _, rfl, q1, dcl T, dn_walk T, dl_walk, pz, dxz2, _, rfl, y1, vx_left, pz, pw, qr, qf, qp, st, rfl, vkz, fun p H3 hp hp3 f3 => ?_⟩
      have h23 := f3.toT .nil (K := K)
      have wa3 := wa2.stay h23 .nil (by simp) (by simp)
      rw [e3] at wa3
      refine ⟨_, .inl ⟨_, SqL.of hp3, rfl⟩, ?_⟩
      cases hr2 : st.rest with
      | nil =>
        refine ⟨by show 1 ≤ sizeLine; decide, fun t htt => ?_⟩
        have g4 : Frm [] H3 (upd H3 t (.tup [.str "done"])) := Frm.of (same_upd htt)
        exact k2 e1 hr2 t dl2 lw2 R.2.2.1 _ (fH2.b _ (f3.b _ htt)) hdl0 hlw2 upd_same (wa3.stay (g4.toT .nil (K := K)) .nil (by simp) (by simp)) (fH2.trans (((f3.trans g4).toT .nil (K := K)).mono (by simp)))
      | cons g gr =>
        have hne : st.rest ≠ [] := fun z => by rw [z] at hr2; cases hr2
        have vk3 := vkz.keepT h23 .nil (by simp) (by simp) (by simp) (by simp)
        have dk3 := dk2.keep h23 (by simp)
        obtain ⟨dx3, q3⟩ := id dk3
        obtain ⟨⟨dxz3, x1⟩, x2, x3, ⟨zs3, x4, _⟩, _⟩ := id vk3
        obtain ⟨⟨dw3, w31⟩, w32, w33⟩ := id wa3
        have nl2 : dl2 ≠ qr ∧ dl2 ≠ qf ∧ dl2 ≠ qp := hdl0.elim (fun e => by rw [e]; exact nlq) fun e => ⟨(ne_of_none z2 e).symm, (ne_of_none z3 e).symm, (ne_of_none z4 e).symm⟩
        have ok3 : WkOk W lw2 R.2.2.1 st b := ⟨ok.rest, fun l e => (by rw [sdn] at e; cases e), ok.len, by omega⟩
        have vko : VkOk K H3 pz pw qr qf qp dh dl2 W kvs lw2 R.2.2.1 (lk + 1) st b := ⟨vk3, ⟨lw2, wa3, List.Perm.refl _⟩, nl2, .inl kd, w2, by omega, knd, knum, ok3⟩
        refine ⟨_, rfl, pd, _, dx3, _, _, rfl, q3, dcl T, dn_walk T, dl_walk, pz, dxz3, _, rfl, x1, vx_round, pz, pw, qr, qf, qp, dh, dl2, W, kvs, lw2, _, _, st, b, rfl, vko, by omega, fun _ => hne, fun v dl4 H4 hdl4 vk4 tl4 f4 => ?_⟩
        rw [round_lm sdn] at vk4 tl4
        have done := round_done (W := W) (kvs := kvs) (n := W) (lm := []) (lk := lk + 1) (st := st) (fun l e => by rw [sdn] at e; cases e) (fun _ => Nat.le_refl _)
        have len4 := round_len (W := W) (m := 41) hkl (n := W) (lm := []) (lk := lk + 1) (st := st) (Nat.zero_le _)
        have kd4 := round_kd (W := W) (kvs := kvs) (n := W) (lm := []) (lk := lk + 1) (st := st)
        have sd4 := round_sdn done
        generalize hR2 : roundF W kvs W [] (lk + 1) st = R2 at vk4 tl4 done len4 kd4 sd4
        obtain ⟨lw4, wa4, pm4⟩ := id vk4.wa
        have nT4 : NT [pz, qr, qf, qp, pw] H3 := .cons x1 rfl (.cons x2 rfl (.cons x3 rfl (.cons x4 rfl (.cons w31 rfl .nil))))
        exact k3 e1 hne R2 v dl4 lw4 H4 hR2.symm (hdl4.elim (fun e => by rw [e]; exact hdl0) fun e => .inr (fH2.b _ (f3.b _ e))) (by rw [pm4.length_eq]; exact len4) tl4 vk4.wk sd4 done (kd4.trans kd) ⟨vk4.ok.rest, fun l e => (by rw [sd4] at e; cases e), vk4.ok.len, Nat.zero_le _⟩ wa4 ((fH2.mono (by simp)).trans ((h23.mono (by simp)).trans (f4.toN nT4)))
    · rw [e2] at tl2
      obtain ⟨t0, rfl, et0⟩ := tl2
      refine ⟨_, rfl, t0, _, 0, _, rfl, rfl, SqT.of et0, rfl, rfl, _, rfl, ?_⟩
      rw [str_dec, decide_eq_true rfl]
      refine ⟨_, rfl, t0, _, 1, .str (S l), rfl, rfl, SqT.of et0, rfl, ?_⟩
      have hx : S l ∈ ring := by rw [e1]; simp
      have hk : hasK kvs (S l) = true := has_key.mpr (lsub _ ((rsub _).mpr hx))
      obtain ⟨d1, d2, d3⟩ := deed_calm (lw := lw2) hk
      refine ⟨_, rfl, pd, _, dx2, _, _, rfl, q1, dcl T, dn_wire T, dl_wire, pw, dw2, _, rfl, w21, wx_calm, _, rfl, pw, dh, dl2, S l, W, kvs, lw2, _, _, rfl, wa2, rnum _ hx, w2, by omega, by omega, fH2.t ht, fun z => absurd d1 z, fun _ dl3 H3 hdl3 wa3 f3 => ?_⟩
      rw [d2, d3, e3] at wa3
      refine ⟨_, rfl, by show 2 ≤ sizeLine; decide, fun t htt => ?_⟩
      have g4 : Frm [] H3 (upd H3 t (.tup [.str "alarm", .str (S l)])) := Frm.of (same_upd htt)
      exact k1 (S l) r e1 t dl3 lw2 R.2.2.1 _ (fH2.b _ (f3.b _ htt)) (hdl3.elim (fun e => by rw [e]; exact hdl0) fun e => .inr (fH2.b _ e)) hlw2 upd_same (wa3.stay (g4.toT .nil (K := K)) .nil (by simp) (by simp)) ((fH2.mono (by simp)).trans (f3.trans ((g4.toT .nil (K := K)).mono (by simp))))
end
end B

set_option Elab.async false
set_option linter.all false
set_option maxRecDepth 100000
set_option maxHeartbeats 4000000
namespace B
open PySem PySem.Spec PyProof.Rows L2
open SX (S)
/-! ### whole rounds while others come and go between -/
def rg (kvs : List (Str × Bool)) (x : Str) : Bool := (getB kvs x).getD false
theorem rg_lis {kvs : List (Str × Bool)} (hn : (kvs.map (·.1)).Nodup) : lisB kvs false = (kvs.map (·.1)).filter (rg kvs) := by
  unfold lisB
  rw [List.filter_map]
  congr 1
  refine List.filter_congr fun p hp => ?_
  obtain ⟨i, hi⟩ := List.getElem?_of_mem hp
  show (false || p.2) = (getB kvs p.1).getD false
  rw [get_at hn (i := i) (x := p.1) (b := p.2) hi]
  rfl
theorem getB_cons {p : Str × Bool} {r : List (Str × Bool)} {y : Str} : getB (p :: r) y = if p.1 = y then some p.2 else getB r y := by
  unfold getB
  rw [List.find?_cons]
  by_cases h : p.1 = y <;> simp [h]
theorem get_map {x y : Str} {b : Bool} : ∀ {kvs : List (Str × Bool)}, getB (kvs.map (fun p => if p.1 = x then (p.1, b) else p)) y = if y = x then (if hasK kvs x = true then some b else none) else getB kvs y
  | [] => by
    by_cases h : y = x
    · rw [if_pos h]
      rfl
    · rw [if_neg h]
      rfl
  | p :: r => by
    have ih := get_map (x := x) (y := y) (b := b) (kvs := r)
    rw [List.map_cons, getB_cons, getB_cons, ih]
    have e1 : (if p.1 = x then (p.1, b) else p).1 = p.1 := by split <;> rfl
    have e2 : hasK (p :: r) x = (decide (p.1 = x) || hasK r x) := rfl
    rw [e1, e2]
    by_cases h1 : p.1 = y <;> by_cases h2 : y = x
    · subst h2
      simp [h1]
    · have h3 : ¬ p.1 = x := fun e => h2 (h1.symm.trans e)
      simp [h1, h2, h3]
    · have h3 : ¬ p.1 = x := fun e => h1 (e.trans h2.symm)
      simp [h1, h2, h3]
    · simp [h1, h2]
theorem get_put {kvs : List (Str × Bool)} {x y : Str} {b : Bool} : getB (putB kvs x b) y = if y = x then some b else getB kvs y := by
  unfold putB
  by_cases h : hasK kvs x = true
  · rw [if_pos h, get_map, if_pos h]
  · rw [if_neg h]
    unfold getB
    rw [List.find?_append]
    by_cases h2 : y = x
    · subst h2
      rw [if_pos rfl]
      have : kvs.find? (fun p => decide (p.1 = y)) = none := by
        rw [List.find?_eq_none]
        intro p hp e
        exact h (List.any_eq_true.mpr ⟨p, hp, e⟩)
      rw [this]
      simp
    · rw [if_neg h2]
      have : [(x, b)].find? (fun p => decide (p.1 = y)) = none := by
        rw [List.find?_eq_none]
        intro p hp e
        rw [List.mem_singleton.mp hp] at e
        exact h2 (of_decide_eq_true e).symm
      rw [this, Option.or_none]
theorem rg_put {kvs : List (Str × Bool)} {x y : Str} {b : Bool} : rg (putB kvs x b) y = if y = x then b else rg kvs y := by
  unfold rg
  rw [get_put]
  split <;> rfl
theorem flt_mono {l : List Str} {p q : Str → Bool} (h : ∀ y ∈ l, p y = true → q y = true) : (l.filter p).length ≤ (l.filter q).length := by
  induction l with
  | nil => exact Nat.le_refl _
  | cons x r ih =>
    have i := ih fun y hy => h y (List.mem_cons_of_mem _ hy)
    rw [List.filter_cons, List.filter_cons]
    by_cases c : p x = true
    · rw [if_pos c, if_pos (h x (by simp) c)]
      exact Nat.succ_le_succ i
    · rw [if_neg c]
      split
      · exact Nat.le_succ_of_le i
      · exact i
theorem flt_one {l : List Str} {p q : Str → Bool} {x : Str} (nd : l.Nodup) (h : ∀ y ∈ l, y ≠ x → p y = true → q y = true) : (l.filter p).length ≤ (l.filter q).length + 1 := by
  induction l with
  | nil => exact Nat.zero_le _
  | cons z r ih =>
    obtain ⟨n1, n2⟩ := List.nodup_cons.mp nd
    rw [List.filter_cons, List.filter_cons]
    by_cases e : z = x
    · have i := flt_mono (l := r) (p := p) (q := q) fun y hy => h y (List.mem_cons_of_mem _ hy) fun e2 => n1 (by rw [e, ← e2]; exact hy)
      split <;> split <;> (try simp only [List.length_cons]) <;> omega
    · have i := ih n2 fun y hy => h y (List.mem_cons_of_mem _ hy)
      have hz := h z (by simp) e
      split
      · rename_i c
        rw [if_pos (hz c)]
        simp only [List.length_cons]
        omega
      · split <;> (try simp only [List.length_cons]) <;> omega
theorem flt_less {l : List Str} {p q : Str → Bool} {x : Str} (hx : x ∈ l) (c1 : p x = false) (c2 : q x = true) (h : ∀ y ∈ l, p y = true → q y = true) : (l.filter p).length + 1 ≤ (l.filter q).length := by
  induction l with
  | nil => cases hx
  | cons z r ih =>
    rw [List.filter_cons, List.filter_cons]
    have i := flt_mono (l := r) (p := p) (q := q) fun y hy => h y (List.mem_cons_of_mem _ hy)
    rcases List.mem_cons.mp hx with e | e
    · subst e
      rw [if_neg (by rw [c1]; exact Bool.false_ne_true), if_pos c2, List.length_cons]
      omega
    · have j := ih e fun y hy => h y (List.mem_cons_of_mem _ hy)
      have hz := h z (by simp)
      split
      · rename_i c
        rw [if_pos (hz c)]
        simp only [List.length_cons]
        omega
      · split <;> (try simp only [List.length_cons]) <;> omega
/-- how many have an alarm -/
def rc (kvs : List (Str × Bool)) : Nat := (lisB kvs false).length
theorem rc_new {kvs : List (Str × Bool)} {x : Str} : rc (kvs ++ [(x, false)]) = rc kvs := by
  unfold rc lisB
  rw [List.filter_append]
  simp
theorem rc_put {kvs : List (Str × Bool)} {x : Str} {b : Bool} (nd : (kvs.map (·.1)).Nodup) (h : hasK kvs x = true) : rc (putB kvs x b) ≤ rc kvs + 1 := by
  unfold rc
  rw [rg_lis nd, rg_lis (put_nodup nd), keys_put, if_pos h]
  refine flt_one (x := x) nd fun y _ hy c => ?_
  rw [rg_put, if_neg hy] at c
  exact c
theorem rc_clear {kvs : List (Str × Bool)} {x : Str} (nd : (kvs.map (·.1)).Nodup) (h : x ∈ lisB kvs false) : rc (putB kvs x false) + 1 ≤ rc kvs := by
  rw [rg_lis nd] at h
  obtain ⟨h1, h2⟩ := List.mem_filter.mp h
  unfold rc
  rw [rg_lis nd, rg_lis (put_nodup nd), keys_put, if_pos (has_key.mpr h1)]
  refine flt_less h1 (by rw [rg_put, if_pos rfl]) h2 fun y _ c => ?_
  rw [rg_put] at c
  split at c
  · cases c
  · exact c
theorem rc_deed {kvs : List (Str × Bool)} {wd x : Str} (nd : (kvs.map (·.1)).Nodup) : rc (deedK kvs wd x) ≤ rc kvs + 1 := by
  unfold deedK
  split
  · split
    · exact Nat.le_succ _
    · rename_i c
      unfold putB
      rw [if_neg c, rc_new]
      exact Nat.le_succ _
  · split
    · rename_i c
      split
      · refine Nat.le_succ_of_le ?_
        unfold rc lisB dropB
        rw [List.length_map, List.length_map]
        exact List.Sublist.length_le (List.Sublist.filter _ List.filter_sublist)
      · exact rc_put nd c
    · exact Nat.le_succ _
/-- the rest of the alarms, one calmed -/
theorem lis_clear {kvs : List (Str × Bool)} {x : Str} {r zs : List Str} (nd : (kvs.map (·.1)).Nodup) (h : (x :: r).Perm (lisB kvs false)) (srt : sortedS (x :: r) = true) (h2 : zs.Perm (lisB (putB kvs x false) false)) (srt2 : sortedS zs = true) : zs = r := by
  have hx : x ∈ lisB kvs false := h.mem_iff.mp (by simp)
  have hx2 := hx
  rw [rg_lis nd] at hx2
  obtain ⟨h3, h4⟩ := List.mem_filter.mp hx2
  have ndl : (lisB kvs false).Nodup := by
    rw [rg_lis nd]
    exact nd.filter _
  have ndx : (x :: r).Nodup := h.nodup_iff.mpr ndl
  obtain ⟨n1, n2⟩ := List.nodup_cons.mp ndx
  refine sorted_eq srt2 (pw_sorted (List.pairwise_cons.mp (sorted_pw srt)).2) (h2.trans ?_)
  have ndp : (lisB (putB kvs x false) false).Nodup := by
    rw [rg_lis (put_nodup nd)]
    exact (put_nodup nd).filter _
  refine (List.perm_ext_iff_of_nodup ndp n2).mpr fun y => ?_
  rw [rg_lis (put_nodup nd), keys_put, if_pos (has_key.mpr h3), List.mem_filter, rg_put]
  constructor
  · rintro ⟨a, b⟩
    split at b
    · cases b
    · rename_i e
      have : y ∈ x :: r := h.mem_iff.mpr (by rw [rg_lis nd]; exact List.mem_filter.mpr ⟨a, b⟩)
      exact (List.mem_cons.mp this).resolve_left e
  · intro hy
    have e : ¬ y = x := fun e => n1 (e ▸ hy)
    have : y ∈ lisB kvs false := h.mem_iff.mp (List.mem_cons_of_mem _ hy)
    rw [rg_lis nd] at this
    rw [if_neg e]
    exact List.mem_filter.mp this
theorem step_fd {W : Nat} {kvs : List (Str × Bool)} {lm : List Str} {lk : Int} {st : WkS} : (∀ l, (stepF W kvs lm lk st).1.2 = .found l → (stepF W kvs lm lk st).1.1.found = st.found ++ [l]) ∧ (((stepF W kvs lm lk st).1.2 = .no ∨ (stepF W kvs lm lk st).1.2 = .lost) → (stepF W kvs lm lk st).1.1.found = st.found) := by
  have ov : ∀ {s : WkS} {m : List Nat}, (∀ l, (overF W s m).2 = .found l → (overF W s m).1.found = s.found ++ [l]) ∧ (((overF W s m).2 = .no ∨ (overF W s m).2 = .lost) → (overF W s m).1.found = s.found) := fun {s m} => by
    obtain ⟨t1, t2, t3, t4⟩ := over_tld (W := W) (st := s) (l := m)
    exact ⟨fun l e => (t2 l e).1, fun e => e.elim t3 fun e => absurd e t1⟩
  obtain ⟨kd, rest, sd, found, paper⟩ := st
  cases sd with
  | none => exact ov
  | some l =>
    unfold stepF
    dsimp only
    by_cases c : lm.any (sg l.length 48) = false ∧ lm.any (sg l.length 49) = false
    · rw [if_pos c]
      exact ⟨fun l e => (by cases e), fun _ => rfl⟩
    · rw [if_neg c]
      by_cases c2 : lm.any (sg l.length 48) = true ∧ lm.any (sg l.length 49) = true
      · rw [if_pos c2]
        exact ov
      · rw [if_neg c2]
        exact ov
/-- a round, whatever hangs -/
structure Rnw (names ever stay : List Str) (W : Nat) (st : WkS) (cl : List (List Nat)) (R : (WkS × Tld) × List Str × Option (List Nat) × Int) : Prop where
  wl : ∃ cl', Wlk ever stay R.1.1 R.2.1 cl' ∧ (R.1.2 = .no → cl' = cl) ∧ (R.1.2 ≠ .no → Clm cl cl' R.1.1)
  iv : ∃ b, InvQ names W (R.1.1, R.2) b
  fd : ∀ l, R.1.2 = .found l → R.1.1.found = st.found ++ [l]
  nf : (R.1.2 = .no ∨ R.1.2 = .lost) → R.1.1.found = st.found
theorem round_wlk {W : Nat} {kvs : List (Str × Bool)} {names ever stay : List Str} (hW : 1 ≤ W) (hev : ∀ x ∈ ever, Num W x) (hst : ∀ x ∈ stay, Num W x) (hk : kvs.length ≤ 41) (hkn : ∀ x ∈ kvs.map (·.1), x ∈ names) (hnn : ∀ x ∈ names, Num W x) :
    ∀ {n : Nat} {lm : List Str} {sdm : Option (List Nat)} {lk : Int} {st : WkS} {b : Nat} {cl : List (List Nat)}, Wlk ever stay st lm cl → InvQ names W (st, lm, sdm, lk) b → (st.sd = none → st.rest ≠ []) → (∀ x ∈ lisB kvs (decide (st.kd = "all")), x ∈ ever) → (∀ x ∈ stay, x ∈ lisB kvs (decide (st.kd = "all"))) →
      Rnw names ever stay W st cl (roundF W kvs n lm lk st) := by
  intro n
  induction n with
  | zero =>
    intro lm sdm lk st b cl h iv hr he hs
    have s := step_fd (W := W) (kvs := kvs) (lm := lm) (lk := lk) (st := st)
    exact ⟨wlk_step (kvs := kvs) (lk := lk) h iv.ok hr hW hev hst he hs, ⟨_, (inv_step (kvs := kvs) iv hr hk hkn hnn).1⟩, s.1, s.2⟩
  | succ n ih =>
    intro lm sdm lk st b cl h iv hr he hs
    have s := step_fd (W := W) (kvs := kvs) (lm := lm) (lk := lk) (st := st)
    obtain ⟨cl', w1, w2, w3⟩ := wlk_step (kvs := kvs) (lk := lk) h iv.ok hr hW hev hst he hs
    have i1 := inv_step (kvs := kvs) iv hr hk hkn hnn
    by_cases hno : (stepF W kvs lm lk st).1.2 = .no
    · rw [round_no hno]
      obtain ⟨l', e1, e2, e3⟩ := step_no hno
      have hc : (stepF W kvs lm lk st).1.1.sd = none → (stepF W kvs lm lk st).1.1.rest ≠ [] := fun z => by rw [e1] at z; cases z
      have i2 : InvQ names W ((stepF W kvs lm lk st).1.1, (stepF W kvs lm lk st).2.1, (stepF W kvs lm lk st).2.2.1, (stepF W kvs lm lk st).2.2.2) (b + 1) := i1.1
      have fs := s.2 (.inl hno)
      rw [w2 hno] at w1
      obtain ⟨r1, r2, r3, r4⟩ := ih (sdm := (stepF W kvs lm lk st).2.2.1) w1 i2 hc (fun x hx => by rw [step_kd] at hx; exact he x hx) (fun x hx => by rw [step_kd]; exact hs x hx)
      exact ⟨r1, r2, fun l e => by rw [← fs]; exact r3 l e, fun e => (r4 e).trans fs⟩
    · rw [round_yes hno]
      exact ⟨⟨cl', w1, w2, w3⟩, ⟨_, i1.1⟩, s.1, s.2⟩
theorem Wlk.calm {ever stay : List Str} {st : WkS} {lm : List Str} {cl : List (List Nat)} (h : Wlk ever stay st lm cl) (e : st.sd = none) : Wlk ever stay st [] cl := by
  obtain ⟨a1, a2, a3, a4, a5, a6, a7, a8, a9, b1, b2, b3, b4⟩ := h
  exact ⟨a1, a2, a3, a4, a5, a6, a7, a8, a9, b1, b2, fun l z => (by rw [e] at z; cases z), fun x hx => absurd hx (by simp)⟩
theorem InvQ.calm {names : List Str} {W b : Nat} {q : Q4} (h : InvQ names W q b) (e : q.1.sd = none) : ∀ lk, InvQ names W (q.1, [], none, lk) b := by
  obtain ⟨⟨c1, c2, c3, c4⟩, e2, e3, e4, e5, e6⟩ := h
  exact fun lk => ⟨⟨c1, fun l z => (by rw [e] at z; cases z), c3, Nat.zero_le _⟩, e2, fun x hx => absurd hx (by simp), fun l z => (by cases z), Nat.zero_le _, e6⟩
/-- between two turns -/
structure Wt (names : List Str) (W : Nat) (stay : List Str) (st : WkS) (rd : Nat) : Prop where
  wl : ∃ cl, Wlk names stay st [] cl ∧ (rd = cl.length ∨ (rd ≤ 1 ∧ st.rest = []))
  iv : ∃ b, b ≤ 20000 ∧ ∀ lk, InvQ names W (st, [], none, lk) b
  sd : st.sd = none
  kd : st.kd = "all"
theorem Wt.rd41 {names stay : List Str} {W rd : Nat} {st : WkS} (h : Wt names W stay st rd) (hl : names.length ≤ 41) : rd ≤ 41 := by
  obtain ⟨cl, wl, e | ⟨e, _⟩⟩ := h.wl
  · have finj : ∀ {a b : List Nat}, S a = S b → a = b := fun e => by
      have := congrArg (fun z : Str => z.cps.toList) e
      simpa [S_list] using this
    have nd : (cl.map S).Nodup := List.Pairwise.map S (fun a b h e => h.ne (finj e)) wl.cc
    have := nodup_le nd (fun x hx => by
      obtain ⟨c, hc, rfl⟩ := List.mem_map.mp hx
      exact wl.ce c hc)
    rw [List.length_map] at this
    omega
  · omega
theorem wt_new {names stay : List Str} {W : Nat} (hn : names ≠ []) (hW : W ≤ 12) (hl : names.length ≤ 41) : Wt names W stay ⟨"all", [[]], none, [], []⟩ 0 := by
  have i0 := (inv_new (kd := "all") hn hW hl).1
  exact ⟨⟨[], wlk_new, .inl rfl⟩, ⟨1, by omega, fun lk => ⟨i0.ok, i0.cn, i0.sub, i0.beg, i0.len, i0.mz⟩⟩, rfl, rfl⟩
theorem Wt.less {names stay stay' : List Str} {W rd : Nat} {st : WkS} (h : Wt names W stay st rd) (hs : ∀ x ∈ stay', x ∈ stay) : Wt names W stay' st rd := by
  obtain ⟨⟨cl, wl, e⟩, iv, sd, kd⟩ := h
  exact ⟨⟨cl, wl.mono (fun x h => h) hs (fun x h => h) (fun x _ h => h), e⟩, iv, sd, kd⟩
theorem Wt.round {names stay : List Str} {W rd : Nat} {st : WkS} {kvs : List (Str × Bool)} {lk : Int} {R : (WkS × Tld) × List Str × Option (List Nat) × Int} (h : Wt names W stay st rd) (hr : st.rest ≠ []) (eR : R = roundF W kvs W [] lk st) (hW : 1 ≤ W) (hnn : ∀ x ∈ names, Num W x) (hk : kvs.length ≤ 41) (hkn : ∀ x ∈ kvs.map (·.1), x ∈ names) (hs : ∀ x ∈ stay, x ∈ kvs.map (·.1)) :
    Wt names W stay R.1.1 (rd + 1) ∧ ((R.1.2 = .lost ∧ R.1.1.found = st.found) ∨ ∃ l, R.1.2 = .found l ∧ R.1.1.found = st.found ++ [l] ∧ S l ∈ names) := by
  obtain ⟨⟨cl, wl, e⟩, ⟨b, hb, iv⟩, sd, kd⟩ := h
  have ea : lisB kvs (decide (st.kd = "all")) = kvs.map (·.1) := by rw [kd, decide_eq_true rfl, lisB_all]
  have rw1 := round_wlk (n := W) hW hnn (fun x hx => hnn x (hkn x (hs x hx))) hk hkn hnn wl (iv lk) (fun _ => hr) (fun x hx => hkn x (by rw [ea] at hx; exact hx)) (fun x hx => by rw [ea]; exact hs x hx)
  rw [← eR] at rw1
  have no : R.1.2 ≠ .no := by
    rw [eR]
    exact round_done (fun l e => by rw [sd] at e; cases e) (fun _ => Nat.le_refl _)
  have sdn : R.1.1.sd = none := by
    rw [eR] at no ⊢
    exact round_sdn no
  have kd2 : R.1.1.kd = "all" := by
    rw [eR]
    exact round_kd.trans kd
  obtain ⟨⟨cl', w1, w2, w3⟩, ⟨b2, iv2⟩, fd, nf⟩ := rw1
  have w1c := w1.calm sdn
  refine ⟨⟨⟨cl', w1c, ?_⟩, ⟨b2, Nat.le_trans (Nat.le_add_right _ _) iv2.mz, iv2.calm sdn⟩, sdn, kd2⟩, ?_⟩
  · have e' : rd = cl.length := e.resolve_right fun z => hr z.2
    rcases w3 no with z | ⟨z1, z2, z3, z4, z5⟩
    · exact .inl (by omega)
    · refine .inr ⟨?_, z4⟩
      rw [z1] at e'
      show rd + 1 ≤ 1
      rw [e']
      exact Nat.le_refl _
  · cases q : R.1.2 with
    | no => exact absurd q no
    | lost => exact .inl ⟨rfl, nf (.inr q)⟩
    | found l => exact .inr ⟨l, rfl, fd l q, w1.fe l (by rw [fd l q]; simp)⟩
end B

set_option Elab.async false
set_option linter.all false
set_option maxRecDepth 100000
set_option maxHeartbeats 4000000
namespace B
open PySem PySem.Spec PyProof.Rows L2
open SX (S)
structure Ads where
  (r a pn pw dh pm dt pd pz qr qf qp pF : Addr)
def Ads.all (A : Ads) : List Addr := [A.r, A.pn, A.pw, A.dh, A.pm, A.dt, A.pd, A.pz, A.qr, A.qf, A.qp, A.pF]
def Ads.mut (A : Ads) : List Addr := [A.r, A.pw, A.dh, A.pm, A.dt, A.pz, A.qr, A.qf, A.qp, A.pF]
def Ads.lst (A : Ads) : List Addr := [A.r, A.qr, A.qf, A.qp, A.pF]
structure Dd (K : PySem.W.Frag) (H : Hp) (A : Ads) (dl ml pS : Addr) (W : Nat) (names : List Str) (kvs kvm : List (Str × Bool)) (lw : List Str) (sdw : Option (List Nat)) (lk : Int) (st : WkS) (fl : List (List Nat)) (stay : List Str) : Prop where
  wa : WiAt K H A.pw A.dh dl W kvs lw (msOf W sdw) lk
  ma : MdAt H A.pm A.dt ml W kvm [] none 0
  dk : DkAt K H A.pd A.pw A.pz
  vk : VkAt K H A.pz A.pw A.qr A.qf A.qp st
  pool : Pool H A.pn W names
  row : RowAt A.r A.a H
  fd : H A.pF = some (.lst (fl.map txV))
  sS : H pS = some (.lst (stay.map V.str))
  nd : A.all.Nodup
  ndl : dl ∉ A.lst
  nml : ml ∉ A.lst
  nps : pS ∉ A.lst
  kn : (kvs.map (·.1)).Nodup
  sub : ∀ x ∈ kvs.map (·.1), x ∈ names
  km : kvm.map (·.1) = kvs.map (·.1)
  l1 : lw.length ≤ 41
section
variable {P : Program} {w : World} {K : PySem.W.Frag} {mg : Str → Option Value} {base : Heap}
variable {H H' : Hp} {A : Ads} {dl ml pS : Addr} {W : Nat} {names : List Str} {kvs kvm : List (Str × Bool)} {lw : List Str} {sdw : Option (List Nat)} {lk : Int} {st : WkS} {fl : List (List Nat)} {stay : List Str}
theorem Dd.kl (h : Dd K H A dl ml pS W names kvs kvm lw sdw lk st fl stay) : kvs.length ≤ 41 := by
  have := nodup_le h.kn h.sub
  rw [List.length_map] at this
  have := h.pool.len
  omega
theorem Dd.keep {T : List Addr} (h : Dd K H A dl ml pS W names kvs kvm lw sdw lk st fl stay) (f : FrT K T H H') (n : NT T H) (hT : ∀ x ∈ T, x = A.r) (hdl : dl ∉ T) (hml : ml ∉ T) (hps : pS ∉ T) (hR : RowAt A.r A.a H') : Dd K H' A dl ml pS W names kvs kvm lw sdw lk st fl stay := by
  have nd := h.nd
  have o : ∀ {x : Addr}, x ≠ A.r → x ∉ T := fun hx z => hx (hT _ z)
  simp only [Ads.all, List.nodup_cons, List.mem_cons, List.not_mem_nil, or_false, not_or] at nd
  refine ⟨h.wa.keep f (o ?_) (o ?_) hdl, h.ma.keep f (o ?_) (o ?_) hml, h.dk.keep f (o ?_), h.vk.keepT f n (o ?_) (o ?_) (o ?_) (o ?_), h.pool.keep f (o ?_), hR, f.k _ _ h.fd rfl (o ?_), f.k _ _ h.sS rfl hps, h.nd, h.ndl, h.nml, h.nps, h.kn, h.sub, h.km, h.l1⟩ <;> grind
theorem Dd.stay0 (h : Dd K H A dl ml pS W names kvs kvm lw sdw lk st fl stay) (f : FrT K [] H H') : Dd K H' A dl ml pS W names kvs kvm lw sdw lk st fl stay :=
  h.keep f .nil (fun x hx => absurd hx (by simp)) (by simp) (by simp) (by simp) (f.row (by simp) h.row)
theorem Dd.draw (h : Dd K H A dl ml pS W names kvs kvm lw sdw lk st fl stay) (f : Frm [A.r] H H') (hR : RowAt A.r A.a H') : Dd K H' A dl ml pS W names kvs kvm lw sdw lk st fl stay := by
  have n1 := h.ndl
  have n2 := h.nml
  have n3 := h.nps
  simp only [Ads.lst, List.mem_cons, List.not_mem_nil, or_false, not_or] at n1 n2 n3
  exact h.keep (f.toT h.row.nl) (NT.of h.row.nl) (fun x hx => List.mem_singleton.mp hx) (by simpa using n1.1) (by simpa using n2.1) (by simpa using n3.1) hR
theorem Dd.new (h : Dd K H A dl ml pS W names kvs kvm lw sdw lk st fl stay) {p : Addr} (hp : H p = none) : p ∉ A.lst := by
  have o1 := h.vk.old hp
  have o2 := ne_of_none h.fd hp
  have o6 := h.row.out hp
  simp only [Ads.lst, List.mem_cons, List.not_mem_nil, or_false, not_or]
  exact ⟨o6.symm, o1.2.1, o1.2.2.1, o1.2.2.2, o2.symm⟩
theorem Dd.pair (h : Dd K H A dl ml pS W names kvs kvs lw sdw lk st fl stay) : Pair K H A.pw A.dh dl A.pm A.dt ml W names kvs lw [] (msOf W sdw) none lk 0 := by
  have nd := h.nd
  simp only [Ads.all, List.nodup_cons, List.mem_cons, List.not_mem_nil, or_false, not_or] at nd
  refine ⟨h.wa, h.ma, h.kn, h.sub, h.l1, Nat.zero_le _, ?_, ?_, ?_⟩ <;> grind
theorem Dd.nlc (h : Dd K H A dl ml pS W names kvs kvm lw sdw lk st fl stay) : NL [A.r, A.pw, A.dh, A.pm, A.dt] H := by
  obtain ⟨ii, mm, cc, q7, _⟩ := id h.row
  obtain ⟨⟨dw, q1⟩, q2, q3⟩ := id h.wa
  obtain ⟨q4, q5, q6⟩ := id h.ma
  exact .cons q7 rfl (.cons q1 rfl (.cons q3 rfl (.cons q4 rfl (.cons q6 rfl .nil))))
theorem Dd.chg (h : Dd K H A dl ml pS W names kvs kvs lw sdw lk st fl stay) {dl1 ml1 : Addr} {lw1 : List Str} {kvs1 : List (Str × Bool)} (hdl : dl1 = dl ∨ H dl1 = none) (hml : ml1 = ml ∨ H ml1 = none) (s : Pair K H' A.pw A.dh dl1 A.pm A.dt ml1 W names kvs1 lw1 [] (msOf W sdw) none lk 0) (hR : RowAt A.r A.a H') (f : FrT K [A.r, A.pw, A.dh, A.pm, A.dt] H H') : Dd K H' A dl1 ml1 pS W names kvs1 kvs1 lw1 sdw lk st fl stay := by
  have nd := h.nd
  have nl := h.nlc
  simp only [Ads.all, List.nodup_cons, List.mem_cons, List.not_mem_nil, or_false, not_or] at nd
  refine ⟨s.wa, s.ma, h.dk.keep f ?_, h.vk.keepT f (NT.of nl) ?_ ?_ ?_ ?_, h.pool.stayL f nl, hR, f.k _ _ h.fd rfl ?_, f.at nl h.sS rfl (nl_strs stay), h.nd, hdl.elim (fun e => by rw [e]; exact h.ndl) h.new, hml.elim (fun e => by rw [e]; exact h.nml) h.new, h.nps, s.nd, s.sub, rfl, s.l1⟩ <;> (simp only [List.mem_cons, List.not_mem_nil, or_false, not_or]; grind)
/-- the own one told what the wire has -/
theorem Dd.sync (h : Dd K H A dl ml pS W names kvs kvm lw sdw lk st fl stay) : Dd K (upd H A.dt (.dK (kv kvs))) A dl ml pS W names kvs kvs lw sdw lk st fl stay ∧ FrT K [A.dt] H (upd H A.dt (.dK (kv kvs))) := by
  have nd := h.nd
  have nl : NL [A.dt] H := .cons h.ma.dc rfl .nil
  have f : FrT K [A.dt] H (upd H A.dt (.dK (kv kvs))) := ((Frm.refl [A.dt] H).put (by simp)).toT nl
  simp only [Ads.all, List.nodup_cons, List.mem_cons, List.not_mem_nil, or_false, not_or] at nd
  refine ⟨⟨h.wa.stay f nl ?_ ?_, ⟨?_, ?_, upd_same⟩, h.dk.keep f ?_, h.vk.keepT f (NT.of nl) ?_ ?_ ?_ ?_, h.pool.stayL f nl, f.row ?_ h.row, f.k _ _ h.fd rfl ?_, f.at nl h.sS rfl (nl_strs stay), h.nd, h.ndl, h.nml, h.nps, h.kn, h.sub, rfl, h.l1⟩, f⟩
  any_goals (simp only [List.mem_singleton]; grind)
  · rw [upd_ne (by grind)]
    exact h.ma.ob
  · rw [upd_ne (ne_of h.ma.li h.ma.dc (by intro y; cases y))]
    exact h.ma.li
/-- one more found -/
theorem Dd.push (h : Dd K H A dl ml pS W names kvs kvm lw sdw lk st fl stay) {l : List Nat} : Dd K (upd H A.pF (.lst (fl.map txV ++ [txV l]))) A dl ml pS W names kvs kvm lw sdw lk st (fl ++ [l]) stay ∧ FrT K [A.pF] H (upd H A.pF (.lst (fl.map txV ++ [txV l]))) := by
  have nd := h.nd
  have n1 := h.ndl
  have n2 := h.nml
  have n3 := h.nps
  have n : NT [A.pF] H := .cons h.fd rfl .nil
  have f : FrT K [A.pF] H (upd H A.pF (.lst (fl.map txV ++ [txV l]))) := ((Frm.refl [A.pF] H).put (by simp)).toN n
  simp only [Ads.all, Ads.lst, List.nodup_cons, List.mem_cons, List.not_mem_nil, or_false, not_or] at nd n1 n2 n3
  refine ⟨⟨h.wa.keep f ?_ ?_ ?_, h.ma.keep f ?_ ?_ ?_, h.dk.keep f ?_, h.vk.keepT f n ?_ ?_ ?_ ?_, h.pool.keep f ?_, f.row ?_ h.row, by rw [upd_same, List.map_append]; rfl, f.k _ _ h.sS rfl ?_, h.nd, h.ndl, h.nml, h.nps, h.kn, h.sub, h.km, h.l1⟩, f⟩
  all_goals (simp only [List.mem_singleton]; grind)
/-- a turn -/
theorem Dd.turn (h : Dd K H A dl ml pS W names kvs kvs lw sdw lk st fl stay) (ht : Tb K H) {rd : Nat} (wt : Wt names W stay st rd) {ring : List Str} (rpm : ring.Perm (lisB kvs false)) (rsrt : sortedS ring = true) {F : V → Hp → Prop} {E1 : XK}
    (hA : ∀ (x : Str) (r : List Str), ring = x :: r → ∀ (t dl' : Addr) (lw' : List Str) (sdw' : Option (List Nat)) (lk' : Int) (H' : Hp), H t = none → H' t = some (.tup [.str "alarm", .str x]) → Dd K H' A dl' ml pS W names (putB kvs x false) kvs lw' sdw' lk' st fl stay → FrT K A.mut H H' → F (.ref t) H')
    (hB : ring = [] → st.rest = [] → ∀ (t dl' : Addr) (lw' : List Str) (sdw' : Option (List Nat)) (lk' : Int) (H' : Hp), H t = none → H' t = some (.tup [.str "done"]) → Dd K H' A dl' ml pS W names kvs kvs lw' sdw' lk' st fl stay → FrT K A.mut H H' → F (.ref t) H')
    (hC : ring = [] → st.rest ≠ [] → ∀ (R : (WkS × Tld) × List Str × Option (List Nat) × Int) (v : V) (dl' : Addr) (lw' : List Str) (H' : Hp), R = roundF W kvs W [] (lk + 1) st → TldAt H' R.1.2 v → Dd K H' A dl' ml pS W names kvs kvs lw' R.2.2.1 R.2.2.2 R.1.1 fl stay → FrT K A.mut H H' → F v H') : spDTurn K [.ref A.pd] H F E1 := by
  have kl := h.kl
  have hW := h.pool.w
  have nd := h.nd
  have n1 := h.ndl
  have n2 := h.nml
  have n3 := h.nps
  have knum : ∀ x ∈ kvs.map (·.1), Num W x := fun x hx => h.pool.num x (h.sub x hx)
  simp only [Ads.all, Ads.lst, List.nodup_cons, List.mem_cons, List.not_mem_nil, or_false, not_or] at nd n1 n2 n3
  obtain ⟨⟨dw, w1⟩, w2, w3⟩ := id h.wa
  obtain ⟨b, hb, iv⟩ := wt.iv
  refine ⟨A.pd, A.pz, A.pw, A.qr, A.qf, A.qp, A.dh, dl, W, names, kvs, lw, sdw, lk, st, b, ring, rfl, h.dk, h.vk, h.wa, ht, wt.sd, wt.kd, (iv 0).ok, by omega, h.l1, hW.1, hW.2, h.pool.ne, h.pool.len, h.pool.num, h.kn, h.sub, rpm, rsrt, ⟨?_, ?_, ?_⟩, ?_, ?_, ?_, ?_, ?_, ?_, ?_⟩
  · grind
  · grind
  · grind
  · grind
  · grind
  · grind
  · grind
  · intro x r er t dl1 lw1 sd1 H1 ht1 hd1 hl1 et wa1 f1
    have nl1 : NL [A.pw, A.dh] H := .cons w1 rfl (.cons w3 rfl .nil)
    have hx : x ∈ kvs.map (·.1) := by
      have : x ∈ lisB kvs false := rpm.mem_iff.mp (by rw [er]; simp)
      rw [rg_lis h.kn] at this
      exact (List.mem_filter.mp this).1
    have ek : (putB kvs x false).map (·.1) = kvs.map (·.1) := by rw [keys_put, if_pos (has_key.mpr hx)]
    refine hA x r er t dl1 lw1 sd1 _ H1 ht1 et ⟨wa1, h.ma.stay f1 nl1 ?_ ?_, h.dk.keep f1 ?_, h.vk.keepT f1 (NT.of nl1) ?_ ?_ ?_ ?_, h.pool.stayL f1 nl1, f1.row ?_ h.row, f1.k _ _ h.fd rfl ?_, f1.at nl1 h.sS rfl (nl_strs stay), h.nd, hd1.elim (fun e => by rw [e]; exact h.ndl) h.new, h.nml, h.nps, put_nodup h.kn, put_sub h.sub (h.sub x hx), ek.symm, hl1⟩ (f1.mono ?_)
    any_goals (simp only [List.mem_cons, List.not_mem_nil, or_false, not_or]; grind)
    all_goals (simp only [Ads.mut, List.mem_cons, List.not_mem_nil, or_false]; grind)
  · intro er hr2 t dl1 lw1 sd1 H1 ht1 hd1 hl1 et wa1 f1
    have nl1 : NL [A.pw] H := .cons w1 rfl .nil
    refine hB er hr2 t dl1 lw1 sd1 _ H1 ht1 et ⟨wa1, h.ma.stay f1 nl1 ?_ ?_, h.dk.keep f1 ?_, h.vk.keepT f1 (NT.of nl1) ?_ ?_ ?_ ?_, h.pool.stayL f1 nl1, f1.row ?_ h.row, f1.k _ _ h.fd rfl ?_, f1.at nl1 h.sS rfl (nl_strs stay), h.nd, hd1.elim (fun e => by rw [e]; exact h.ndl) h.new, h.nml, h.nps, h.kn, h.sub, rfl, hl1⟩ (f1.mono ?_)
    any_goals (simp only [List.mem_cons, List.not_mem_nil, or_false, not_or]; grind)
    all_goals (simp only [Ads.mut, List.mem_cons, List.not_mem_nil, or_false]; grind)
  · intro er hr2 R v dl1 lw1 H1 eR hd1 hl1 tl1 vk1 sd1 no1 kd1 ok1 wa1 f1
    obtain ⟨⟨dxz, z1⟩, z2, z3, ⟨zs, z4, _⟩, _⟩ := id h.vk
    have nt1 : NT [A.pz, A.qr, A.qf, A.qp, A.pw] H := .cons z1 rfl (.cons z2 rfl (.cons z3 rfl (.cons z4 rfl (.cons w1 rfl .nil))))
    have nml1 : ml ≠ A.pz ∧ ml ≠ A.pw := ⟨ne_of h.ma.li z1 (by intro y; cases y), ne_of h.ma.li w1 (by intro y; cases y)⟩
    have nps1 : pS ≠ A.pz ∧ pS ≠ A.pw := ⟨ne_of h.sS z1 (by intro y; cases y), ne_of h.sS w1 (by intro y; cases y)⟩
    refine hC er hr2 R v dl1 lw1 H1 eR tl1 ⟨wa1, h.ma.keep f1 ?_ ?_ ?_, h.dk.keep f1 ?_, vk1, h.pool.keep f1 ?_, f1.row ?_ h.row, f1.k _ _ h.fd rfl ?_, f1.k _ _ h.sS rfl ?_, h.nd, hd1.elim (fun e => by rw [e]; exact h.ndl) h.new, h.nml, h.nps, h.kn, h.sub, rfl, hl1⟩ (f1.mono ?_)
    any_goals (simp only [List.mem_cons, List.not_mem_nil, or_false, not_or]; grind)
    all_goals (simp only [Ads.mut, List.mem_cons, List.not_mem_nil, or_false]; grind)
end
end B

set_option Elab.async false
set_option linter.all false
set_option maxRecDepth 100000
set_option maxHeartbeats 4000000
namespace B
open PySem PySem.Spec PyProof.Rows L2
open SX (S)
theorem flt_go {H : Hp} {D : Addr} {xs : List Str} {f : Str → Bool} {i : Nat} {x : Str} (hx : xs[i]? = some x) (hl : xs.length ≤ 100000) (c : f x = true) : ∃ acc, (upd H D (.lst (((xs.take i).filter f).map V.str))) D = some (.lst acc) ∧ acc.length < sizeLine ∧ upd (upd H D (.lst (((xs.take i).filter f).map V.str))) D (.lst (acc ++ [V.str x])) = upd H D (.lst (((xs.take (i + 1)).filter f).map V.str)) := by
  refine ⟨_, upd_same, ?_, ?_⟩
  · rw [List.length_map]
    have h1 := List.length_filter_le f (xs.take i)
    rw [List.length_take] at h1
    exact Nat.lt_of_le_of_lt (show _ ≤ 100000 by omega) (by decide)
  · rw [upd_upd, filter_step _ hx, if_pos c, List.map_append]
    rfl
theorem flt_no {H : Hp} {D : Addr} {xs : List Str} {f : Str → Bool} {i : Nat} {x : Str} (hx : xs[i]? = some x) (c : f x = false) : upd H D (.lst (((xs.take i).filter f).map V.str)) = upd H D (.lst (((xs.take (i + 1)).filter f).map V.str)) := by
  rw [filter_step _ hx, if_neg (by rw [c]; exact Bool.false_ne_true), List.append_nil]
theorem seq_merge3 {a b c d : TS} {D : Ends} {σ : L2.St} {H : Hp} (P : L2.St → Hp → Prop) (h1 : ∀ K : L2.St → Hp → Prop, (∀ σ' H', P σ' H' → K σ' H') → tSeq a (tSeq b c) { D with nx := K } σ H) (h2 : ∀ σ' H', P σ' H' → d D σ' H') : tSeq a (tSeq b (tSeq c d)) D σ H := h1 _ h2
theorem deedL_nil {kvs : List (Str × Bool)} {wd x : Str} : deedL kvs [] wd x = [] := by
  unfold deedL
  split <;> rfl
theorem bl_dec (a b : Bool) : decide (V.bl a = V.bl b) = (a == b) := by cases a <;> cases b <;> rfl
theorem row_ne {r a p : Addr} {H : Hp} {xs : List Str} (h : RowAt r a H) (e : H p = some (.lst (xs.map V.str))) : p ≠ r := fun z => by
  obtain ⟨_, _, _, e1, _⟩ := h
  rw [← z, e] at e1
  match xs, e1 with
  | [], e1 => cases e1
  | x :: xr, e1 => cases e1
section
variable {P : Program} {w : World} {K : PySem.W.Frag} {mg : Str → Option Value} {base : Heap}
def spLaw (K : PySem.W.Frag) : Sp := fun vs H Q _ => ∃ a : Addr, vs = [.ref a] ∧ Scr K a H ∧ Tb K H ∧ ∀ H', Q (.bl true) H'
theorem law_ok (T : Txt P w K mg base) {fd : FuncData} (F : FunD K d_law.name d_law.qual d_law.params d_law.body d_law.scope (He.DefD.dvs K d_law) (He.DefD.kws K d_law) (He.fAd K d_law.at_) fd) : FnOk P w K mg base CX0 9 (He.fAd K d_law.at_) fd ["_law_script"] (spLaw K) := by
  refine F.ok sc_law (fun vs H Q E h => ?_) (fun cdv A outer s H vs Q E hr h => ?_)
  · obtain ⟨a, rfl, _⟩ := h
    rfl
  · obtain ⟨a, rfl, hS, ht, k⟩ := h
    have hu := hu_of hr
    refine ⟨_, PSs.nox (pss_cons (ps_set (i := 1) sc_law.nd rfl (Or.inl rfl) (pe_lst (pa_cons (pv 0) (pa_cons pe_int (pa_cons pe_int (pa_cons pe_int pa_nil))))))
    (pss_cons (ps_for PassesOwn.never rfl (pi_range1 rfl (n_range T) (pa_cons pe_int pa_nil)) (pg_name (i := 2) sc_law.nd rfl (Or.inl rfl))
      (pss_cons (ps_set (i := 3) sc_law.nd rfl (Or.inl rfl) (pe_cx (c_lwidth T) hr (by decide) rfl pass0 (pa_cons (pv 1) pa_nil)))
      (pss_cons (ps_set (i := 4) sc_law.nd rfl (Or.inl rfl) (pe_cx (c_lpool T) hr (by decide) rfl pass0 (pa_cons (pv 1) (pa_cons (pv 3) pa_nil))))
      (pss_cons (ps_asg (pe_tup (pa_cons (pe_mkx (k_Wire T) hr (by decide) rfl pass0 (pa_cons (pv 3) pa_nil)) (pa_cons (pe_cx (c_lmodel T) hr (by decide) rfl pass0 (pa_cons (pv 3) pa_nil)) pa_nil))) (pg_tup rfl (pgs_cons (pg_name (i := 5) sc_law.nd rfl (Or.inl rfl)) (pgs_cons (pg_name (i := 6) sc_law.nd rfl (Or.inr rfl)) pgs_nil))))
      (pss_cons (ps_for PassesOwn.never rfl (pi_list (pv 4)) (pg_name (i := 7) sc_law.nd rfl (Or.inl rfl))
        (pss_one (ps_if (pt_cmpR op_gt (pe_cx (c_ltaken T) hr (by decide) rfl pass0 (pa_cons (pv 1) (pa_cons pe_int pa_nil))) pe_int (nomark _))
          (pss_cons (ps_expr (pe_mx (m_Wire_hang T) hr (by decide) (pv 5) (passes_call (E := fun _ _ _ => False) L2.takes0 (fun _ _ _ _ h => h)) (pa_cons (pv 7) pa_nil)))
          (pss_one (ps_dput hu (pe_dget hu (pv 6) pe_str (fun _ _ => rfl)) (pv 7) pe_bl rfl)))
          pss_nil)))
      (pss_cons (ps_set (i := 8) sc_law.nd rfl (Or.inl rfl) (pe_mkx (k_Desk T) hr (by decide) rfl pass0 (pa_cons (pv 5) pa_nil)))
      (pss_cons (ps_set (i := 9) sc_law.nd rfl (Or.inl rfl) (pe_callB (call_sortedD rfl) (by rfl) (n_sorted T) (by decide +kernel) (pa_cons (pe_dget hu (pv 6) pe_str (fun _ _ => rfl)) pa_nil)))
      (pss_cons (ps_set (i := 10) sc_law.nd rfl (Or.inr rfl) (pe_lst pa_nil))
      (pss_cons (ps_set (i := 11) sc_law.nd rfl (Or.inl rfl) pe_int)
      (pss_cons (ps_for PassesOwn.never rfl (pi_range1 rfl (n_range T) (pa_cons pe_int pa_nil)) (pg_name (i := 12) sc_law.nd rfl (Or.inl rfl))
        (pss_cons (ps_if (pt_cmpR op_gt (pv 11) pe_int (nomark _))
          (pss_one ps_break)
          pss_nil)
        (pss_cons (ps_if (PW.pt (pw_and (pt_cmpR op_eq (pe_cx (c_ltaken T) hr (by decide) rfl pass0 (pa_cons (pv 1) (pa_cons (pe_ix ix_list (pe_lst (pa_cons pe_int (pa_cons pe_int pa_nil))) (pv 2) (fun _ _ => rfl)) pa_nil))) pe_int (nomark _)) (pw_and1 (pt_cmpR op_lt (pv 12) pe_int (nomark _)))))
          (pss_cons (ps_if (pt_not (pt_val (pe_cx (c_lchange T) hr (by decide) rfl pass0 (pa_cons (pv 1) (pa_cons (pv 5) (pa_cons (pv 6) (pa_cons (pv 4) pa_nil)))))))
            (pss_one (ps_ret pe_bl))
            pss_nil)
          (pss_one (ps_setLc (i := 9) (own := [("_law_number_here", 7)]) (g := gName 7) rfl sc_law.nd rfl rfl (sw_true rfl rfl rfl (by decide +kernel)) (pi_list (pv 9)) (blkOk_by (N := ["_law_script", "_law_row", "_law_turn", "_law_width_here", "_law_names", "_law_wire", "_law_m", "_law_number_here", "_law_desk", "_law_stay", "_law_found", "_law_over", "_law_step", "_law_ringing", "_law_told"]) (sc := defScope s_law) (own := [("_law_number_here", 7)]) (by decide +kernel)) (fun _ _ _ _ _ => pg_name (i := 7) sc_law.nd rfl (Or.inl rfl)) (fun _ _ _ _ _ => pts_one (by exact (pt_cmp (pc_din hu (pv 7) (pe_dget hu (pv 6) pe_str (fun _ _ => rfl)))))) (fun _ _ _ _ _ => by exact (pv 7)))))
          pss_nil)
        (pss_cons (ps_set (i := 13) sc_law.nd rfl (Or.inl rfl) (pe_mx0 (m_Wire_alarms T) hr (by decide) (pv 5) pass0))
        (pss_cons (ps_set (i := 14) sc_law.nd rfl (Or.inl rfl) (pe_mx0 (m_Desk_turn T) hr (by decide) (pv 8) pass0))
        (pss_cons (ps_if (pt_cmpR op_ne (pe_cmpR op_eq (pe_ix ix_tup (pv 14) pe_int (fun _ _ => rfl)) pe_str (nomark _)) (pe_cmpR (op_neD hr.units) (pv 13) (pe_lst pa_nil) (nomark _)) (nomark _))
          (pss_one (ps_ret pe_bl))
          pss_nil)
        (pss_cons (ps_if (pt_cmpR (op_neD hr.units) (pv 13) (pe_lst pa_nil) (nomark _))
          (pss_cons (ps_if (PW.pt (pw_or (pt_cmpR op_ne (pe_ix ix_tup (pv 14) pe_int (fun _ _ => rfl)) (pe_ix ix_list (pv 13) pe_int (fun _ _ => rfl)) (nomark _)) (pw_or1 (pt_cmpR (op_neD hr.units) (pe_mx0 (m_Wire_alarms T) hr (by decide) (pv 5) pass0) (pe_slice sl_list (pv 13) (po_some pe_int) po_none) (nomark _)))))
            (pss_one (ps_ret pe_bl))
            pss_nil)
          (pss_one (ps_dput hu (pe_dget hu (pv 6) pe_str (fun _ _ => rfl)) (pe_ix ix_list (pv 13) pe_int (fun _ _ => rfl)) pe_bl rfl)))
          (pss_one (ps_if (pt_cmpR op_eq (pe_ix ix_tup (pv 14) pe_int (fun _ _ => rfl)) pe_str (nomark _))
            (pss_one (ps_expr (pe_bm PySem.F.plainAttrs_list PySem.F.slot_list_append PySem.F.type_list_append mt_append (pv 10) (pa_cons (pe_ix ix_tup (pv 14) pe_int (fun _ _ => rfl)) pa_nil))))
            pss_nil)))
        (pss_one (ps_set (i := 11) sc_law.nd rfl (Or.inl rfl) (pe_op op_add (pv 11) (pe_callTy call_int1 (by rfl) (n_int T) (by decide +kernel) (pa_cons (pe_cmpR (op_eqD hr.units) (pv 14) (pe_tup (pa_cons pe_str pa_nil)) (nomark _)) pa_nil))))))))))))
      (pss_cons (ps_if (PW.pt (pw_or (pt_cmpR op_lt (pv 11) pe_int (nomark _)) (pw_or1 (pt_cmpR (op_neD hr.units) (pv 10) (pe_callB (cr_sortedTx rfl) (by rfl) (n_sorted T) (by decide +kernel) (pa_cons (pe_callTy (cr_setTx rfl) (by rfl) (n_set T) (by decide +kernel) (pa_cons (pv 10) pa_nil)) pa_nil)) (nomark _)))))
        (pss_one (ps_ret pe_bl))
        pss_nil)
      (pss_one (ps_if (pt_cmpR (op_neD hr.units) (pe_lc (own := [("_law_number_here", 7)]) (g := gName 7) rfl sc_law.nd (pi_list (pv 9)) (blkOk_by (N := ["_law_script", "_law_row", "_law_turn", "_law_width_here", "_law_names", "_law_wire", "_law_m", "_law_number_here", "_law_desk", "_law_stay", "_law_found", "_law_over", "_law_step", "_law_ringing", "_law_told"]) (sc := defScope s_law) (own := [("_law_number_here", 7)]) (by decide +kernel)) (fun _ _ _ _ _ => pg_name (i := 7) sc_law.nd rfl (Or.inl rfl)) (fun _ _ _ _ _ => pts_one (by exact (pt_cmpR (notIn_seqK (K := K) rfl) (pv 7) (pv 10) rfl))) (fun _ _ _ _ _ => by exact (pv 7))) (pe_lst pa_nil) (nomark _))
        (pss_one (ps_ret pe_bl))
        pss_nil)))))))))))))
    (pss_one (ps_ret pe_bl)))), ?_⟩
    refine ⟨_, rfl, by show 4 ≤ sizeLine; decide, fun r hr0 => ?_⟩
    have hR0 : RowAt r a (upd H r (.lst [.ref a, .int 0, .int 0, .int 0])) := ⟨0, 0, 0, upd_same, by decide⟩
    have f0 : Frm [] H (upd H r (.lst [.ref a, .int 0, .int 0, .int 0])) := Frm.of (same_upd hr0)
    refine ⟨2, rfl, by decide, by decide, ?_⟩
    refine for_range (lo := 0) (n := (2 : Int).toNat) (fun i σ H' => ∃ (v2 v3 v4 v5 v6 v7 v8 v9 v10 v11 v12 v13 v14 : Option V), σ = [some (.ref a), some (.ref r), v2, v3, v4, v5, v6, v7, v8, v9, v10, v11, v12, v13, v14] ∧ RowAt r a H' ∧ FrT K [] H H')
      ⟨none, none, none, none, none, none, none, none, none, none, none, none, none, rfl, hR0, f0.toT .nil⟩ ?_ ?_
    · rintro i σ H1 hi ⟨v2, v3, v4, v5, v6, v7, v8, v9, v10, v11, v12, v13, v14, rfl, hR1, fb⟩
      refine ⟨_, rfl, r, a, rfl, hR1, fb.scr .nil hS, fun W H2 w1 w2 hR2 f2 => ?_⟩
      have fb2 := fb.fresh (f2.toT hR1.nl) (by simpa using hr0)
      refine ⟨_, rfl, _, rfl, r, a, W, rfl, hR2, fb2.scr .nil hS, w2, fun xs pn H3 hne hnum hlen hnd _ hpn hR3 f3 => ?_⟩
      have fb3 := fb2.fresh (f3.toT hR2.nl) (by simpa using hr0)
      have nrp : r ≠ pn := (row_ne hR3 hpn).symm
      -- the wire, the own one
      refine ⟨_, rfl, fun pw dx hpw hdx hnx => ⟨pw, dx, W, rfl, upd_same, w1, w2, fun dh dl H4 hdh hdl k1 k2 k3 f4 => ⟨rfl, ?_⟩⟩⟩
      refine ⟨_, rfl, W, rfl, fun pm dt ml H5' hpm hdt hml npd m1 m2 m3 f45' => ?_⟩
      have f34 : Frm [] H3 H4 := Frm.fresh (((Frm.refl _ _).new hdx).new hpw) f4 (by simpa using hpw)
      have hdh3 : H3 dh = none := upd_back (upd_back hdh)
      refine ⟨by show 2 ≤ sizeLine; decide, fun tp htp => ?_⟩
      have g5 : Frm [] H5' (upd H5' tp (.tup [.ref pw, .ref pm])) := Frm.of (same_upd htp)
      have dT5 : (upd H5' tp (.tup [.ref pw, .ref pm])) tp = some (.tup [.ref pw, .ref pm]) := upd_same
      revert g5 dT5
      generalize (upd H5' tp (.tup [.ref pw, .ref pm])) = H5
      intro g5 dT5
      have f45 : Frm [] H4 H5 := f45'.trans g5
      refine ⟨tp, _, rfl, SqT.of dT5, rfl, _, _, rfl, _, _, rfl, rfl, ?_⟩
      have f35 := f34.trans f45
      have wa4 : WiAt K H4 pw dh dl W [] [] W 0 := ⟨⟨dx, k1⟩, k2, k3⟩
      have wa5 := wa4.stay (f45.toT .nil (K := K)) .nil (by simp) (by simp)
      have ma5' : MdAt H5' pm dt ml W [] [] none 0 := ⟨m1, m2, m3⟩
      have ma5 := ma5'.stay (g5.toT .nil (K := K)) .nil (by simp) (by simp)
      have hR5 : RowAt r a H5 := (f35.toT .nil (K := K)).row (by simp) hR3
      have hp5 := f35.k _ _ hpn rfl (by simp)
      have hpm3 : H3 pm = none := f34.b _ hpm
      have hdt3 : H3 dt = none := f34.b _ hdt
      have nwh : pw ≠ dh := wa4.ne
      have nD1 : ([r, pn] : List Addr).Nodup := by simp [nrp]
      have rowN : ∀ {H' : Hp}, RowAt r a H' → H' r ≠ none := fun ⟨_, _, _, z, _⟩ e => by rw [e] at z; cases z
      have nD2 : (([r, pn] : List Addr) ++ [pw, dh]).Nodup := nod_app nD1 (by simp [nwh]) (H := H3) (fun x hx e => by
        simp only [List.mem_cons, List.not_mem_nil, or_false] at hx
        rcases hx with rfl | rfl
        · exact rowN hR3 e
        · rw [hpn] at e; cases e) (fun x hx => by
        simp only [List.mem_cons, List.not_mem_nil, or_false] at hx
        rcases hx with rfl | rfl
        · exact hpw
        · exact hdh3)
      have nD3 : ((([r, pn] : List Addr) ++ [pw, dh]) ++ [pm, dt]).Nodup := nod_app nD2 (by simp [npd]) (H := H4) (fun x hx e => by
        have e3 := f34.b _ e
        simp only [List.mem_append, List.mem_cons, List.not_mem_nil, or_false] at hx
        rcases hx with (rfl | rfl) | (rfl | rfl)
        · exact rowN hR3 e3
        · rw [hpn] at e3; cases e3
        · rw [k1] at e; cases e
        · rw [k3] at e; cases e) (fun x hx => by
        simp only [List.mem_cons, List.not_mem_nil, or_false] at hx
        rcases hx with rfl | rfl
        · exact hpm
        · exact hdt)
      have H0n : ∀ {x : Addr}, H3 x = none → H x = none := fun z => fb3.b _ z
      have n1 := nD3
      simp only [List.cons_append, List.nil_append, List.nodup_cons, List.mem_cons, List.not_mem_nil, or_false, not_or] at n1
      obtain ⟨⟨_, rw1, rw2, rw3, rw4⟩, ⟨pn1, pn2, pn3, pn4⟩, ⟨_, wm, wt⟩, ⟨hm, htt⟩, mt, _⟩ := n1
      have mut5 : ∀ b ∈ [r, pw, dh, pm, dt], H b = none := fun b hb => by
        simp only [List.mem_cons, List.not_mem_nil, or_false] at hb
        rcases hb with rfl | rfl | rfl | rfl | rfl
        · exact hr0
        · exact H0n hpw
        · exact H0n hdh3
        · exact H0n hpm3
        · exact H0n hdt3
      have fb5 : FrT K [] H H5 := fb3.trans (f35.toT .nil)
      -- some hang at first
      refine ⟨_, rfl, pn, rfl, ⟨_, SqL.of hp5⟩, for_list (K := K) (a := pn) (xs := xs.map V.str) (fun j σ H' => ∃ (v7' : Option V) (dl' : Addr) (kvs : List (Str × Bool)), σ = [some (.ref a), some (.ref r), some (.int (0 + (i : Int))), some (.int W), some (.ref pn), some (.ref pw), some (.ref pm), v7', v8, v9, v10, v11, v12, v13, v14] ∧ WiAt K H' pw dh dl' W kvs [] W 0 ∧ MdAt H' pm dt ml W kvs [] none 0 ∧ (kvs.map (·.1)).Nodup ∧ (∀ y ∈ kvs.map (·.1), y ∈ xs.take j) ∧ rc kvs = 0 ∧ H' pn = some (.lst (xs.map V.str)) ∧ RowAt r a H' ∧ FrT K [] H H')
        ⟨_, dl, [], rfl, wa5, ma5, by simp, fun y hy => absurd hy (by simp), rfl, hp5, hR5, fb5⟩ (fun j σ H' _ ⟨_, _, _, _, _, _, _, _, _, e, _⟩ => SqL.of e) ?_ ?_⟩
      · rintro j y σ H6 hj ⟨v7', dl6, kvs, rfl, wa6, ma6, nd6, sub6, rc6, hp6, hR6, fb6⟩
        obtain ⟨x, hx, rfl⟩ := at_map hj
        have hxm : x ∈ xs := List.mem_of_getElem? hx
        have hxn : ¬ hasK kvs x = true := fun z => by
          have z1 := sub6 x (has_key.mp z)
          obtain ⟨m, hm⟩ := List.getElem?_of_mem z1
          have hmj : m < j := by
            have := (List.getElem?_eq_some_iff.mp hm).1
            rw [List.length_take] at this
            omega
          rw [List.getElem?_take_of_lt hmj] at hm
          have := (List.getElem?_inj (by exact (List.getElem?_eq_some_iff.mp hm).1) hnd).mp (hm.trans hx.symm)
          omega
        have hsub : ∀ {z : Str}, z ∈ xs.take j → z ∈ xs.take (j + 1) := fun z => List.take_subset_take_left xs (Nat.le_succ j) z
        have hxt : x ∈ xs.take (j + 1) := by rw [take_snoc hx]; exact List.mem_append_right _ (by simp)
        have kl : kvs.length ≤ 41 := by
          have := nodup_le nd6 sub6
          rw [List.length_map, List.length_take] at this
          omega
        refine ⟨_, rfl, r, a, 3, rfl, hR6, fb6.scr .nil hS, by decide, by decide, fun v H7 v0 v1 hR7 f7 => ⟨_, _, rfl, rfl, _, rfl, ?_⟩⟩
        have f7T := f7.toT hR6.nl (K := K)
        have wa7 := wa6.stay f7T hR6.nl (by simpa using Ne.symm rw1) (by simpa using Ne.symm rw2)
        have ma7 := ma6.stay f7T hR6.nl (by simpa using Ne.symm rw3) (by simpa using Ne.symm rw4)
        have hp7 := f7.k _ _ hp6 rfl (by simpa using Ne.symm nrp)
        have fb7 := fb6.fresh f7T (by simpa using hr0)
        refine iteB (fun c => ?_) (fun c => ⟨_, dl6, kvs, rfl, wa7, ma7, nd6, fun y hy => hsub (sub6 y hy), rc6, hp7, hR7, fb7⟩)
        obtain ⟨⟨dw7, w71⟩, w72, w73⟩ := id wa7
        obtain ⟨q1, q2, q3⟩ := deed_hang (lw := []) hxn
        refine ⟨_, rfl, pw, dw7, _, rfl, w71, wx_hang, _, rfl, pw, dh, dl6, x, W, kvs, [], W, 0, rfl, wa7, hnum x hxm, w2, by omega, by show 0 ≤ 100; decide, fb7.t ht, fun z => absurd q1 z, fun _ dl8 H8 hd8 wa8 f8 => ?_⟩
        rw [q2, q3] at wa8
        have ma8 := ma7.stay f8 wa7.nl (by simp [Ne.symm wm, Ne.symm hm]) (by simp [Ne.symm wt, Ne.symm htt])
        have hp8 := f8.k _ _ hp7 rfl (by simp [pn1, pn2])
        have hR8 : RowAt r a H8 := f8.row (by simp [rw1, rw2]) hR7
        have fb8 := fb7.fresh f8 fun b hb => mut5 b (by
          simp only [List.mem_cons, List.not_mem_nil, or_false] at hb ⊢
          rcases hb with rfl | rfl <;> simp)
        refine ⟨_, rfl, pm, _, rfl, md_things ma8.ob, _, rfl, dt, _, rfl, dp_put ma8.dc (by omega) x false, ?_⟩
        have nl8 : NL [dt] H8 := .cons ma8.dc rfl .nil
        have f9 : FrT K [dt] H8 (upd H8 dt (.dK (kv (putB kvs x false)))) := ((Frm.refl [dt] H8).put (by simp)).toT nl8
        have wa9 := wa8.stay f9 nl8 (by simpa using wt) (by simpa using htt)
        have ma9 : MdAt (upd H8 dt (.dK (kv (putB kvs x false)))) pm dt ml W (putB kvs x false) [] none 0 := ⟨by rw [upd_ne mt]; exact ma8.ob, by rw [upd_ne (ne_of ma8.li ma8.dc (by intro y; cases y))]; exact ma8.li, upd_same⟩
        exact ⟨_, dl8, putB kvs x false, rfl, wa9, ma9, put_nodup nd6, put_sub (fun y hy => hsub (sub6 y hy)) hxt, by unfold putB; rw [if_neg hxn, rc_new]; exact rc6, f9.k _ _ hp8 rfl (by simpa using pn4), f9.row (by simpa using rw4) hR8, fb8.fresh f9 (by simpa using mut5 dt (by simp))⟩
      rintro σ H6 ⟨v7', dl6, kvs6, rfl, wa6, ma6, nd6, sub6, rc6, hp6, hR6, fb6⟩
      rw [List.length_map, List.take_length] at sub6
      have ml0 : ml ≠ r := row_ne hR6 (xs := []) ma6.li
      have dl0 : dl6 ≠ r := row_ne hR6 (xs := []) wa6.li
      have kl6 : kvs6.length ≤ 41 := by
        have := nodup_le nd6 sub6
        rw [List.length_map] at this
        omega
      -- the desk
      refine ⟨_, rfl, fun pd dxd hpd hdxd hnd' => ⟨pd, dxd, pw, rfl, upd_same, fun pz qr qf qp H7 hpz hqr hqf hqp dk7 vk7 f7 => ⟨rfl, ?_⟩⟩⟩
      have f67 : Frm [] H6 H7 := Frm.fresh (((Frm.refl _ _).new hdxd).new hpd) f7 (by simpa using hpd)
      have u : ∀ {x : Addr}, upd (upd H6 dxd (.own pd)) pd (.ins (DC K) dxd []) x = none → H6 x = none := fun z => upd_back (upd_back z)
      have hpz6 := u hpz
      have hqr6 := u hqr
      have hqf6 := u hqf
      have hqp6 := u hqp
      have ndz : pd ≠ pz := ne_of_none upd_same hpz
      have f67T := f67.toT .nil (K := K)
      have ma7 := ma6.stay f67T .nil (by simp) (by simp)
      have wa7 := wa6.stay f67T .nil (by simp) (by simp)
      have hp7 := f67.k _ _ hp6 rfl (by simp)
      have hR7 : RowAt r a H7 := f67T.row (by simp) hR6
      -- who hangs
      refine ⟨_, rfl, pm, _, rfl, md_things ma7.ob, dt, kv kvs6, kvs6.map (·.1), rfl, .inl ma7.dc, keys_kv kvs6, by rw [List.length_map]; omega, fun stay0 pS0 pstay sstay hpS => ?_⟩
      have g8 : Frm [] H7 (upd H7 pS0 (.lst (stay0.map V.str))) := Frm.of (same_upd hpS)
      have dS8 : (upd H7 pS0 (.lst (stay0.map V.str))) pS0 = some (.lst (stay0.map V.str)) := upd_same
      revert g8 dS8
      generalize (upd H7 pS0 (.lst (stay0.map V.str))) = H8'
      intro g8 dS8
      refine ⟨Nat.zero_le _, fun pF hpF => ?_⟩
      have g9 : Frm [] H8' (upd H8' pF (.lst [])) := Frm.of (same_upd hpF)
      have dF9 : (upd H8' pF (.lst [])) pF = some (.lst []) := upd_same
      revert g9 dF9
      generalize (upd H8' pF (.lst [])) = H8
      intro g9 dF9
      have f78 := g8.trans g9
      have f68 := f67.trans f78
      have f78T := f78.toT .nil (K := K)
      have vk8 := vk7.keepT f78T .nil (by simp) (by simp) (by simp) (by simp)
      have dk8 := dk7.keep f78T (by simp)
      obtain ⟨dxd7, d71⟩ := id dk7
      obtain ⟨⟨dxz, z1⟩, z2, z3, ⟨zs, z4, _⟩, z5, z6, z7⟩ := id vk7
      have some6 : ∀ x ∈ ((([r, pn] : List Addr) ++ [pw, dh]) ++ [pm, dt]), H6 x ≠ none := fun x hx e => by
        simp only [List.mem_append, List.mem_cons, List.not_mem_nil, or_false] at hx
        rcases hx with ((rfl | rfl) | (rfl | rfl)) | (rfl | rfl)
        · exact rowN hR6 e
        · rw [hp6] at e; cases e
        · obtain ⟨dw, q⟩ := wa6.ob; rw [q] at e; cases e
        · have q := wa6.dc; rw [e] at q; cases q
        · have q := ma6.ob; rw [e] at q; cases q
        · have q := ma6.dc; rw [e] at q; cases q
      have nD4 : (((([r, pn] : List Addr) ++ [pw, dh]) ++ [pm, dt]) ++ [pd, pz, qr, qf, qp]).Nodup := nod_app nD3 (by
        have a1 : pd ≠ qr := ne_of d71 z2 (by intro y; cases y)
        have a2 : pd ≠ qf := ne_of d71 z3 (by intro y; cases y)
        have a3 : pd ≠ qp := ne_of d71 z4 (by intro y; cases y)
        have a4 : pz ≠ qr := ne_of z1 z2 (by intro y; cases y)
        have a5 : pz ≠ qf := ne_of z1 z3 (by intro y; cases y)
        have a6 : pz ≠ qp := ne_of z1 z4 (by intro y; cases y)
        simp [ndz, a1, a2, a3, a4, a5, a6, z5, z6, z7]) some6 (fun x hx => by
        simp only [List.mem_cons, List.not_mem_nil, or_false] at hx
        rcases hx with rfl | rfl | rfl | rfl | rfl
        · exact hpd
        · exact hpz6
        · exact hqr6
        · exact hqf6
        · exact hqp6)
      have hpF7 := g8.b _ hpF
      have nD5 : ((((([r, pn] : List Addr) ++ [pw, dh]) ++ [pm, dt]) ++ [pd, pz, qr, qf, qp]) ++ [pF]).Nodup := nod_app nD4 (by simp) (H := H7) (fun x hx e => by
        rcases List.mem_append.mp hx with hx | hx
        · exact some6 x hx (f67.b _ e)
        · simp only [List.mem_cons, List.not_mem_nil, or_false] at hx
          rcases hx with rfl | rfl | rfl | rfl | rfl
          · rw [d71] at e; cases e
          · rw [z1] at e; cases e
          · rw [z2] at e; cases e
          · rw [z3] at e; cases e
          · rw [z4] at e; cases e) (fun x hx => by
        rw [List.mem_singleton.mp hx]
        exact hpF7)
      have slen : stay0.length ≤ 41 := by
        rw [pstay.length_eq, List.length_map]
        exact kl6
      have dd8 : Dd K H8 ⟨r, a, pn, pw, dh, pm, dt, pd, pz, qr, qf, qp, pF⟩ dl6 ml pS0 W xs kvs6 kvs6 [] none 0 ⟨"all", [[]], none, [], []⟩ [] stay0 := by
        have f68T := f68.toT .nil (K := K)
        refine ⟨wa6.stay f68T .nil (by simp) (by simp), ma6.stay f68T .nil (by simp) (by simp), dk8, vk8, ⟨f68.k _ _ hp6 rfl (by simp), hne, hlen, hnum, w1, w2⟩, f68T.row (by simp) hR6, dF9, g9.k _ _ dS8 rfl (by simp), by simpa [Ads.all] using nD5, ?_, ?_, ?_, nd6, sub6, rfl, Nat.zero_le _⟩
        · simp only [Ads.lst, List.mem_cons, List.not_mem_nil, or_false, not_or]
          exact ⟨dl0, ne_of_none wa6.li hqr6, ne_of_none wa6.li hqf6, ne_of_none wa6.li hqp6, ne_of_none wa6.li (f67.b _ hpF7)⟩
        · simp only [Ads.lst, List.mem_cons, List.not_mem_nil, or_false, not_or]
          exact ⟨ml0, ne_of_none ma6.li hqr6, ne_of_none ma6.li hqf6, ne_of_none ma6.li hqp6, ne_of_none ma6.li (f67.b _ hpF7)⟩
        · simp only [Ads.lst, List.mem_cons, List.not_mem_nil, or_false, not_or]
          have rowS : r ≠ pS0 := hR7.out hpS
          exact ⟨rowS.symm, (ne_of_none z2 hpS).symm, (ne_of_none z3 hpS).symm, (ne_of_none z4 hpS).symm, ne_of_none dS8 hpF⟩
      have fb8 := fb6.trans (f68.toT .nil)
      have b6 : ∀ {x : Addr}, H6 x = none → H x = none := fun z => fb6.b _ z
      have muts : ∀ b ∈ (⟨r, a, pn, pw, dh, pm, dt, pd, pz, qr, qf, qp, pF⟩ : Ads).mut, H b = none := fun b hb => by
        simp only [Ads.mut, List.mem_cons, List.not_mem_nil, or_false] at hb
        rcases hb with rfl | rfl | rfl | rfl | rfl | rfl | rfl | rfl | rfl | rfl
        · exact hr0
        · exact H0n hpw
        · exact H0n hdh3
        · exact H0n hpm3
        · exact H0n hdt3
        · exact b6 hpz6
        · exact b6 hqr6
        · exact b6 hqf6
        · exact b6 hqp6
        · exact b6 (f67.b _ hpF7)
      have wt8 : Wt xs W stay0 ⟨"all", [[]], none, [], []⟩ 0 := wt_new hne w2 hlen
      clear f78 f78T vk8 dk8 some6 nD4 nD5 nD1 nD2 nD3
      -- turns
      refine seq_merge3 (P := fun σ' H' => ∃ (v7' v12' v13' v14' : Option V) (dl ml pS : Addr) (kvs : List (Str × Bool)) (lw : List Str) (sdw : Option (List Nat)) (lk : Int) (st : WkS) (stay : List Str) (ov rd : Nat), σ' = [some (.ref a), some (.ref r), some (.int (0 + (i : Int))), some (.int W), some (.ref pn), some (.ref pw), some (.ref pm), v7', some (.ref pd), some (.ref pS), some (.ref pF), some (.int (ov : Nat)), v12', v13', v14'] ∧ Dd K H' ⟨r, a, pn, pw, dh, pm, dt, pd, pz, qr, qf, qp, pF⟩ dl ml pS W xs kvs kvs lw sdw lk st st.found stay ∧ Wt xs W stay st rd ∧ stay.length ≤ 41 ∧ 4 ≤ ov ∧ st.rest = [] ∧ FrT K [] H H') (fun K9 main => ?_) ?_
      · refine ⟨300, rfl, by decide, by decide, ?_⟩
        refine for_range (lo := 0) (n := (300 : Int).toNat) (fun j σ H' => ∃ (v7' v12' v13' v14' : Option V) (dl ml pS : Addr) (kvs : List (Str × Bool)) (lw : List Str) (sdw : Option (List Nat)) (lk : Int) (st : WkS) (stay : List Str) (ov rd al : Nat), σ = [some (.ref a), some (.ref r), some (.int (0 + (i : Int))), some (.int W), some (.ref pn), some (.ref pw), some (.ref pm), v7', some (.ref pd), some (.ref pS), some (.ref pF), some (.int (ov : Nat)), v12', v13', v14'] ∧ Dd K H' ⟨r, a, pn, pw, dh, pm, dt, pd, pz, qr, qf, qp, pF⟩ dl ml pS W xs kvs kvs lw sdw lk st st.found stay ∧ Wt xs W stay st rd ∧ stay.length ≤ 41 ∧ (∀ x ∈ stay, x ∈ kvs.map (·.1)) ∧ j = al + rd + ov ∧ al + rc kvs ≤ j ∧ al + rc kvs ≤ 100 ∧ (0 < ov → st.rest = []) ∧ FrT K [] H H')
          ⟨_, _, _, _, dl6, ml, pS0, kvs6, [], none, 0, _, stay0, 0, 0, 0, rfl, dd8, wt8, slen, fun x hx => pstay.mem_iff.mp hx, rfl, by omega, by omega, fun z => absurd z (by decide), fb8⟩ ?_ ?_
        · rintro j σ H9 hj ⟨v7', v12', v13', v14', dl9, ml9, pS9, kvs9, lw9, sdw9, lk9, st9, stay9, ov, rd, al, rfl, dd9, wt9, sl9, sk9, ej, c1, c2, c3, fb9⟩
          refine ⟨_, rfl, _, _, rfl, rfl, _, rfl, ?_⟩
          refine iteB (fun c => ?_) (fun c => ?_)
          · have h4 : 4 ≤ ov := by
              have := of_decide_eq_true c
              omega
            exact main _ _ ⟨_, _, _, _, dl9, ml9, pS9, kvs9, lw9, sdw9, lk9, st9, stay9, ov, rd, rfl, dd9, wt9, sl9, h4, c3 (by omega), fb9⟩
          have ho3 : ov ≤ 3 := by
            have := of_decide_eq_false c
            omega
          refine seq_merge2 (P := fun σ' H' => ∃ (v7' : Option V) (dl ml pS : Addr) (kvs : List (Str × Bool)) (lw : List Str) (stay : List Str), σ' = [some (.ref a), some (.ref r), some (.int (0 + (i : Int))), some (.int W), some (.ref pn), some (.ref pw), some (.ref pm), v7', some (.ref pd), some (.ref pS), some (.ref pF), some (.int (ov : Nat)), some (.int (0 + (j : Int))), v13', v14'] ∧ Dd K H' ⟨r, a, pn, pw, dh, pm, dt, pd, pz, qr, qf, qp, pF⟩ dl ml pS W xs kvs kvs lw sdw9 lk9 st9 st9.found stay ∧ Wt xs W stay st9 rd ∧ stay.length ≤ 41 ∧ (∀ x ∈ stay, x ∈ kvs.map (·.1)) ∧ al + rc kvs ≤ j + 1 ∧ al + rc kvs ≤ 100 ∧ FrT K [] H H') (fun K9 main => ?_) ?_
          · refine ⟨_, rfl, by show 2 ≤ sizeLine; decide, fun D hD => ?_⟩
            have g10 : Frm [] H9 (upd H9 D (.lst [.int 2, .int 6])) := Frm.of (same_upd hD)
            have d10 : (upd H9 D (.lst [.int 2, .int 6])) D = some (.lst [.int 2, .int 6]) := upd_same
            revert g10 d10
            generalize (upd H9 D (.lst [.int 2, .int 6])) = H10
            intro g10 d10
            have dd10 := dd9.stay0 (g10.toT .nil)
            have fb10 := fb9.trans (g10.toT .nil)
            obtain ⟨many, ho, ho2, hat⟩ : ∃ many : Int, 0 < many ∧ many < 100 ∧ atI [V.int 2, .int 6] (0 + (i : Int)) = some (.int many) := by
              have hv : i = 0 ∨ i = 1 := by
                have : (2 : Int).toNat = 2 := rfl
                omega
              rcases hv with rfl | rfl
              · exact ⟨2, by decide, by decide, rfl⟩
              · exact ⟨6, by decide, by decide, rfl⟩
            refine ⟨_, rfl, D, _, _, _, rfl, rfl, SqL.of d10, hat, r, a, many, rfl, dd10.row, fb10.scr .nil hS, ho, by omega, fun v2 H11 x0 x1 hR11 f11 => ⟨rfl, _, rfl, ?_⟩⟩
            have dd11 := dd10.draw f11 hR11
            have fb11 := fb10.fresh (f11.toT dd10.row.nl) (by simpa using hr0)
            refine iteB (fun cc => ?_) (fun cc => main _ _ ⟨_, _, _, _, _, _, _, rfl, dd11, wt9, sl9, sk9, by omega, c2, fb11⟩)
            refine ⟨_, rfl, _, _, rfl, rfl, _, rfl, ?_⟩
            refine iteB (fun cj => ?_) (fun cj => main _ _ ⟨_, _, _, _, _, _, _, rfl, dd11, wt9, sl9, sk9, by omega, c2, fb11⟩)
            have hj100 : j < 100 := by
              have := of_decide_eq_true cj
              omega
            refine ⟨_, rfl, _, rfl, _, rfl, _, rfl, r, a, pw, dh, dl9, pm, dt, ml9, pn, W, xs, kvs9, lw9, [], _, none, _, 0, rfl, dd11.row, fb11.scr .nil hS, fb11.t ht, dd11.pair, dd11.pool, fun wd x dl' ml' H12 hwd hx hdl' hml' pr12 hR12 f12 => ⟨true, rfl, ?_⟩⟩
            rw [deedL_nil] at pr12
            have dd12 := dd11.chg hdl' hml' pr12 hR12 f12
            have fb12 := fb11.fresh f12 fun b hb => muts b (by
              simp only [Ads.mut, List.mem_cons, List.not_mem_nil, or_false] at hb ⊢
              rcases hb with rfl | rfl | rfl | rfl | rfl <;> simp)
            have rcd := rc_deed (kvs := kvs9) (wd := wd) (x := x) dd9.kn
            -- who stays
            refine ⟨_, rfl, pS9, rfl, ⟨_, SqL.of dd12.sS⟩, fun D2 hD2 => ?_⟩
            have n1 : pS9 ≠ D2 := ne_of_none dd12.sS hD2
            have n2 : pm ≠ D2 := ne_of_none dd12.ma.ob hD2
            have n3 : dt ≠ D2 := ne_of_none dd12.ma.dc hD2
            refine lc_list (K := K) (a := pS9) (xs := stay9.map V.str) (fun i H' => H' = upd H12 D2 (.lst (((stay9.take i).filter (hasK (deedK kvs9 wd x))).map V.str))) rfl (fun i H' _ e => by rw [e]; exact SqL.of (by rw [upd_ne n1]; exact dd12.sS)) ?_ ?_
            · rintro i2 y H13 hi2 e
              subst e
              obtain ⟨z, hz, rfl⟩ := at_map hi2
              refine ⟨rfl, _, rfl, _, rfl, pm, _, rfl, md_things (by rw [upd_ne n2]; exact dd12.ma.ob), dt, _, rfl, dg_has (.inl (by rw [upd_ne n3]; exact dd12.ma.dc)) z, _, rfl, ?_⟩
              rw [some_map_bl, get_has]
              exact iteB (fun cb => ⟨_, rfl, flt_go hz (by omega) cb⟩) (fun cb => flt_no hz cb)
            rintro H13 e13
            rw [List.length_map, List.take_length] at e13
            have g13 : Frm [] H12 H13 := by
              rw [e13]
              exact Frm.of (same_upd hD2)
            have d13 : H13 D2 = some (.lst ((stay9.filter (hasK (deedK kvs9 wd x))).map V.str)) := by
              rw [e13]
              exact upd_same
            clear e13
            have dd13 := dd12.stay0 (g13.toT .nil)
            obtain ⟨a1, a2, a3, a4, a5, a6, a7, a8, a9, b1, b2, b3, b4, b5, b6, b7⟩ := dd13
            exact main _ _ ⟨_, _, _, D2, _, _, stay9.filter (hasK (deedK kvs9 wd x)), rfl, ⟨a1, a2, a3, a4, a5, a6, a7, d13, a9, b1, b2, dd12.new hD2, b4, b5, b6, b7⟩, wt9.less (fun x hx => (List.mem_filter.mp hx).1), Nat.le_trans (List.length_filter_le _ _) sl9, fun x hx => has_key.mp (List.mem_filter.mp hx).2, by omega, by omega, fb12.trans (g13.toT .nil)⟩
          rintro σ' H10 ⟨v7'', dl10, ml10, pS10, kvs10, lw10, stay10, rfl, dd10, wt10, sl10, sk10, c1', c2', fb10⟩
          have kl10 := dd10.kl
          obtain ⟨dw10, w101⟩ := id dd10.wa.ob
          -- who has an alarm, what is told
          refine ⟨_, rfl, pw, dw10, _, rfl, w101, wx_alarms, pw, dh, dl10, W, _, lw10, _, lk9, rfl, dd10.wa, by omega, dd10.kn, fun zs2 q1 H11 pzs szs hq1 h11 f11 => ?_⟩
          have dd11 := dd10.stay0 (f11.toT .nil)
          have fb11 := fb10.trans (f11.toT .nil)
          obtain ⟨dxd11, d111⟩ := id dd11.dk
          have nq1 : q1 ∉ (⟨r, a, pn, pw, dh, pm, dt, pd, pz, qr, qf, qp, pF⟩ : Ads).lst := dd10.new hq1
          have nq : ∀ {dl ml pS : Addr} {kvs kvm : List (Str × Bool)} {lw stay : List Str} {sdw : Option (List Nat)} {lk : Int} {st : WkS} {fl : List (List Nat)}, Dd K H11 ⟨r, a, pn, pw, dh, pm, dt, pd, pz, qr, qf, qp, pF⟩ dl ml pS W xs kvs kvm lw sdw lk st fl stay → q1 ∉ (⟨r, a, pn, pw, dh, pm, dt, pd, pz, qr, qf, qp, pF⟩ : Ads).mut := fun d => by
            obtain ⟨dw, o1⟩ := d.wa.ob
            obtain ⟨⟨dz, o2⟩, _⟩ := d.vk
            simp only [Ads.lst, List.mem_cons, List.not_mem_nil, or_false, not_or] at nq1
            simp only [Ads.mut, List.mem_cons, List.not_mem_nil, or_false, not_or]
            exact ⟨nq1.1, ne_of h11 o1 (by intro y; cases y), ne_of h11 d.wa.dc (by intro y; cases y), ne_of h11 d.ma.ob (by intro y; cases y), ne_of h11 d.ma.dc (by intro y; cases y), ne_of h11 o2 (by intro y; cases y), nq1.2.1, nq1.2.2.1, nq1.2.2.2.1, nq1.2.2.2.2⟩
          have ringN : ∀ {dl ml pS : Addr} {kvm : List (Str × Bool)} {lw stay : List Str} {sdw : Option (List Nat)} {lk : Int} {st : WkS} {fl : List (List Nat)}, Dd K H11 ⟨r, a, pn, pw, dh, pm, dt, pd, pz, qr, qf, qp, pF⟩ dl ml pS W xs kvs10 kvm lw sdw lk st fl stay → ∀ y ∈ zs2, Num W y := fun d y hy => by
            have := pzs.mem_iff.mp hy
            rw [rg_lis d.kn] at this
            exact hnum y (d.sub y (List.mem_filter.mp this).1)
          refine ⟨_, rfl, pd, dxd11, _, rfl, d111, dx_turn, nil_of ?_⟩
          refine dd11.turn (fb11.t ht) wt10 pzs szs (fun x rr er t dl12 lw12 sd12 lk12 H12 ht12 et dd12 f12 => ?_) (fun er hr2 t dl12 lw12 sd12 lk12 H12 ht12 et dd12 f12 => ?_) (fun er hr2 R v dl12 lw12 H12 eR tl dd12 f12 => ?_)
          · have h12 := f12.k q1 _ h11 rfl (nq dd11)
            have zok : ∀ y ∈ zs2, PyData.strOk y = true := fun y hy => strOk_num (ringN dd11 y hy)
            refine ⟨_, rfl, t, _, 0, .str "alarm", rfl, rfl, SqT.of et, rfl, rfl, _, rfl, Nat.zero_le _, fun E1 hE1 => ?_⟩
            refine ⟨_, _, .lst (SqL.of (same_upd hE1 _ _ h12)) (dp_strs zs2), .lst (SqL.of upd_same) .nil, shaped_strs zok, by decide +kernel, rfl, _, rfl, ?_⟩
            have hxk : x ∈ kvs10.map (·.1) := by
              have : x ∈ lisB kvs10 false := pzs.mem_iff.mp (by rw [er]; simp)
              rw [rg_lis dd11.kn] at this
              exact (List.mem_filter.mp this).1
            obtain rfl := er
            rw [eqv_empty, bl_dec, str_dec, decide_eq_true rfl]
            have g13 : Frm [] H12 (upd H12 E1 (.lst [])) := Frm.of (same_upd hE1)
            have dd13 := dd12.stay0 (g13.toT .nil)
            have et13 := g13.k _ _ et rfl (by simp)
            have h13 := g13.k _ _ h12 rfl (by simp)
            revert g13 dd13 et13 h13
            generalize (upd H12 E1 (.lst [])) = H13
            intro g13 dd13 et13 h13
            -- some ring
            refine ⟨_, rfl, Nat.zero_le _, fun E2 hE2 => ?_⟩
            refine ⟨_, _, .lst (SqL.of (same_upd hE2 _ _ h13)) (dp_strs (x :: rr)), .lst (SqL.of upd_same) .nil, shaped_strs zok, by decide +kernel, _, rfl, ?_⟩
            rw [eqv_empty]
            have g14 : Frm [] H13 (upd H13 E2 (.lst [])) := Frm.of (same_upd hE2)
            have dd14 := dd13.stay0 (g14.toT .nil)
            have et14 := g14.k _ _ et13 rfl (by simp)
            have h14 := g14.k _ _ h13 rfl (by simp)
            revert g14 dd14 et14 h14
            generalize (upd H13 E2 (.lst [])) = H14
            intro g14 dd14 et14 h14
            have hat : atI ((x :: rr).map V.str) 0 = some (.str x) := atI_nat (j := 0) rfl
            refine ⟨_, rfl, t, _, 1, .str x, rfl, rfl, SqT.of et14, rfl, _, rfl, q1, _, 0, .str x, rfl, rfl, SqL.of h14, hat, rfl, _, rfl, ?_⟩
            rw [decide_eq_true rfl]
            obtain ⟨dw14, w141⟩ := id dd14.wa.ob
            refine ⟨_, rfl, pw, dw14, _, rfl, w141, wx_alarms, pw, dh, dl12, W, _, lw12, _, lk12, rfl, dd14.wa, by have := dd14.kl; omega, dd14.kn, fun ws q2 H15 pws sws hq2 h15 f15 => ?_⟩
            have dd15 := dd14.stay0 (f15.toT .nil)
            have h15' := f15.k _ _ h14 rfl (by simp)
            obtain rfl : ws = rr := lis_clear dd11.kn pzs szs pws sws
            refine ⟨_, rfl, 1, rfl, q1, _, rfl, SqL.of h15', fun q4 hq4 => ?_⟩
            have wok : ∀ y ∈ ws, PyData.strOk y = true := fun y hy => zok y (List.mem_cons_of_mem _ hy)
            have ec : cutV ((x :: ws).map V.str) (some 1) none = ws.map V.str := by
              simp [cutV, HT.sIx]
              exact List.take_of_length_le (by rw [List.length_map]; exact Nat.le_refl _)
            have g16 : Frm [] H15 (upd H15 q4 (.lst (cutV ((x :: ws).map V.str) (some 1) none))) := Frm.of (same_upd hq4)
            refine ⟨_, _, .lst (SqL.of (same_upd hq4 _ _ h15)) (dp_strs ws), .lst (SqL.of (by rw [upd_same, ec])) (dp_strs ws), shaped_strs wok, shaped_strs wok, _, rfl, ?_⟩
            rw [eqv_strs wok]
            have dd16 := dd15.stay0 (g16.toT .nil)
            have h16 := g16.k _ _ h15' rfl (by simp)
            have et16 := g16.k _ _ (f15.k _ _ et14 rfl (by simp)) rfl (by simp)
            have f1216 : FrT K [] H12 (upd H15 q4 (.lst (cutV ((x :: ws).map V.str) (some 1) none))) := (((g13.trans g14).trans f15).trans g16).toT .nil
            revert dd16 h16 et16 f1216
            generalize (upd H15 q4 _) = H16
            intro dd16 h16 et16 f1216
            refine ⟨_, rfl, pm, _, rfl, md_things dd16.ma.ob, _, rfl, q1, _, 0, .str x, rfl, rfl, SqL.of h16, hat, dt, _, rfl, dp_put dd16.ma.dc (by omega) x false, ?_⟩
            obtain ⟨dd17, f17⟩ := dd16.sync
            have et17 := f17.k _ _ et16 rfl (by simpa using ne_of et16 dd16.ma.dc (by intro y; cases y))
            have sh1 : SeqAt.shaped (.tuple [.str "alarm", .str x]) = true := shaped_strs (xs := ["alarm", x]) (fun y hy => by
              simp only [List.mem_cons, List.not_mem_nil, or_false] at hy
              rcases hy with rfl | rfl
              · decide +kernel
              · exact zok _ (by simp))
            refine ⟨_, rfl, _, rfl, by show 1 ≤ sizeLine; decide, fun t2 ht2 => ?_⟩
            have g18 : Frm [] (upd H16 dt (.dK (kv (putB kvs10 x false)))) (upd (upd H16 dt (.dK (kv (putB kvs10 x false)))) t2 (.tup [.str "done"])) := Frm.of (same_upd ht2)
            refine ⟨.tuple [.str "alarm", .str x], .tuple [.str "done"], .tup (SqT.of (same_upd ht2 _ _ et17)) (.cons (.str _) (.cons (.str _) .nil)), .tup (SqT.of upd_same) (.cons (.str _) .nil), sh1, by decide +kernel, ?_⟩
            rw [show PyData.eqv (.tuple [.str "alarm", .str x]) (.tuple [.str "done"]) = false from rfl]
            refine .inr ⟨_, rfl, _, _, rfl, rfl, ?_⟩
            have hxl : x ∈ lisB kvs10 false := pzs.mem_iff.mp (by simp)
            have rcl := rc_clear dd11.kn hxl
            have ek : (putB kvs10 x false).map (·.1) = kvs10.map (·.1) := by rw [keys_put, if_pos (has_key.mpr hxk)]
            exact ⟨_, _, _, _, dl12, ml10, pS10, putB kvs10 x false, lw12, sd12, lk12, st9, stay10, ov, rd, al + 1, rfl, dd17.stay0 (g18.toT .nil), wt10, sl10, fun y hy => by rw [ek]; exact sk10 y hy, by omega, by omega, by omega, c3, (((fb11.fresh f12 muts).trans f1216).fresh f17 (by simpa using H0n hdt3)).trans (g18.toT .nil)⟩
          · have h12 := f12.k q1 _ h11 rfl (nq dd11)
            have fb12 := fb11.fresh f12 muts
            obtain rfl := er
            refine ⟨_, rfl, t, _, 0, .str "done", rfl, rfl, SqT.of et, rfl, rfl, _, rfl, Nat.zero_le _, fun E1 hE1 => ?_⟩
            refine ⟨_, _, .lst (SqL.of (same_upd hE1 _ _ h12)) (dp_strs []), .lst (SqL.of upd_same) .nil, by decide +kernel, by decide +kernel, rfl, _, rfl, ?_⟩
            rw [eqv_empty, bl_dec, str_dec, decide_eq_false (by decide +kernel)]
            have g13 : Frm [] H12 (upd H12 E1 (.lst [])) := Frm.of (same_upd hE1)
            have dd13 := dd12.stay0 (g13.toT .nil)
            have et13 := g13.k _ _ et rfl (by simp)
            have h13 := g13.k _ _ h12 rfl (by simp)
            revert g13 dd13 et13 h13
            generalize (upd H12 E1 (.lst [])) = H13
            intro g13 dd13 et13 h13
            refine ⟨_, rfl, Nat.zero_le _, fun E2 hE2 => ?_⟩
            refine ⟨_, _, .lst (SqL.of (same_upd hE2 _ _ h13)) (dp_strs []), .lst (SqL.of upd_same) .nil, by decide +kernel, by decide +kernel, _, rfl, ?_⟩
            rw [eqv_empty]
            have g14 : Frm [] H13 (upd H13 E2 (.lst [])) := Frm.of (same_upd hE2)
            have dd14 := dd13.stay0 (g14.toT .nil)
            have et14 := g14.k _ _ et13 rfl (by simp)
            revert g14 dd14 et14
            generalize (upd H13 E2 (.lst [])) = H14
            intro g14 dd14 et14
            refine ⟨_, rfl, t, _, 0, .str "done", rfl, rfl, SqT.of et14, rfl, rfl, _, rfl, ?_⟩
            rw [str_dec, decide_eq_false (by decide +kernel)]
            refine ⟨_, rfl, _, rfl, by show 1 ≤ sizeLine; decide, fun t2 ht2 => ?_⟩
            have g18 : Frm [] H14 (upd H14 t2 (.tup [.str "done"])) := Frm.of (same_upd ht2)
            refine ⟨.tuple [.str "done"], .tuple [.str "done"], .tup (SqT.of (same_upd ht2 _ _ et14)) (.cons (.str _) .nil), .tup (SqT.of upd_same) (.cons (.str _) .nil), by decide +kernel, by decide +kernel, ?_⟩
            rw [show PyData.eqv (.tuple [.str "done"]) (.tuple [.str "done"]) = true by decide +kernel]
            refine .inr ⟨_, rfl, _, _, rfl, rfl, ?_⟩
            exact ⟨_, _, _, _, dl12, ml10, pS10, kvs10, lw12, sd12, lk12, st9, stay10, ov + 1, rd, al, rfl, dd14.stay0 (g18.toT .nil), wt10, sl10, sk10, by omega, c1', c2', fun _ => hr2, fb12.trans (((g13.trans g14).trans g18).toT .nil)⟩
          · have h12 := f12.k q1 _ h11 rfl (nq dd11)
            have fb12 := fb11.fresh f12 muts
            obtain rfl := er
            obtain ⟨wt12, told⟩ := wt10.round hr2 eR w1 hnum kl10 dd10.sub sk10
            have ov0 : ov = 0 := by
              by_cases z : 0 < ov
              · exact absurd (c3 z) hr2
              · omega
            have flen : st9.found.length ≤ 20000 := by
              obtain ⟨b, hb, iv⟩ := wt10.iv
              exact Nat.le_trans (iv 0).ok.len.2.1 hb
            have sok : ∀ {l : List Nat}, S l ∈ xs → PyData.strOk (S l) = true := fun hl => strOk_num (hnum _ hl)
            obtain ⟨t, tv, rfl, et, hw, htv⟩ : ∃ (t : Addr) (tv : List Str), v = .ref t ∧ H12 t = some (.tup (tv.map V.str)) ∧ ((tv = [("lost" : Str)] ∧ R.1.1.found = st9.found) ∨ ∃ l, tv = [("found" : Str), S l] ∧ R.1.1.found = st9.found ++ [l] ∧ S l ∈ xs) ∧ tv ≠ [] := by
              rcases told with ⟨e1, e2⟩ | ⟨l, e1, e2, e3⟩
              · rw [e1] at tl
                obtain ⟨t, e, z⟩ := tl
                exact ⟨t, ["lost"], e, z, .inl ⟨rfl, e2⟩, by simp⟩
              · rw [e1] at tl
                obtain ⟨t, e, z⟩ := tl
                exact ⟨t, ["found", S l], e, z, .inr ⟨l, rfl, e2, e3⟩, by simp⟩
            obtain ⟨w0, hw0, nal⟩ : ∃ w0 : Str, (tv.map V.str)[0]? = some (.str w0) ∧ w0 ≠ "alarm" := by
              rcases hw with ⟨rfl, _⟩ | ⟨l, rfl, _⟩
              · exact ⟨"lost", rfl, by decide +kernel⟩
              · exact ⟨"found", rfl, by decide +kernel⟩
            refine ⟨_, rfl, t, _, 0, .str w0, rfl, rfl, SqT.of et, atI_nat (j := 0) hw0, rfl, _, rfl, Nat.zero_le _, fun E1 hE1 => ?_⟩
            refine ⟨_, _, .lst (SqL.of (same_upd hE1 _ _ h12)) (dp_strs []), .lst (SqL.of upd_same) .nil, by decide +kernel, by decide +kernel, rfl, _, rfl, ?_⟩
            rw [eqv_empty, bl_dec, str_dec, decide_eq_false nal]
            have g13 : Frm [] H12 (upd H12 E1 (.lst [])) := Frm.of (same_upd hE1)
            have dd13 := dd12.stay0 (g13.toT .nil)
            have et13 := g13.k _ _ et rfl (by simp)
            have h13 := g13.k _ _ h12 rfl (by simp)
            revert g13 dd13 et13 h13
            generalize (upd H12 E1 (.lst [])) = H13
            intro g13 dd13 et13 h13
            refine ⟨_, rfl, Nat.zero_le _, fun E2 hE2 => ?_⟩
            refine ⟨_, _, .lst (SqL.of (same_upd hE2 _ _ h13)) (dp_strs []), .lst (SqL.of upd_same) .nil, by decide +kernel, by decide +kernel, _, rfl, ?_⟩
            rw [eqv_empty]
            have g14 : Frm [] H13 (upd H13 E2 (.lst [])) := Frm.of (same_upd hE2)
            have dd14 := dd13.stay0 (g14.toT .nil)
            have et14 := g14.k _ _ et13 rfl (by simp)
            revert g14 dd14 et14
            generalize (upd H13 E2 (.lst [])) = H14
            intro g14 dd14 et14
            have f1214 : FrT K [] H12 H14 := (g13.trans g14).toT .nil
            refine ⟨_, rfl, t, _, 0, .str w0, rfl, rfl, SqT.of et14, atI_nat (j := 0) hw0, rfl, _, rfl, ?_⟩
            rw [str_dec]
            rcases hw with ⟨rfl, e2⟩ | ⟨l, rfl, e2, e3⟩
            · obtain rfl : ("lost" : Str) = w0 := V.str.inj (Option.some.inj hw0)
              rw [decide_eq_false (by decide +kernel)]
              refine ⟨_, rfl, _, rfl, by show 1 ≤ sizeLine; decide, fun t2 ht2 => ?_⟩
              have g18 : Frm [] H14 (upd H14 t2 (.tup [.str "done"])) := Frm.of (same_upd ht2)
              refine ⟨.tuple [.str "lost"], .tuple [.str "done"], .tup (SqT.of (same_upd ht2 _ _ et14)) (.cons (.str _) .nil), .tup (SqT.of upd_same) (.cons (.str _) .nil), by decide +kernel, by decide +kernel, ?_⟩
              rw [show PyData.eqv (.tuple [.str "lost"]) (.tuple [.str "done"]) = false by decide +kernel]
              refine .inr ⟨_, rfl, _, _, rfl, rfl, ?_⟩
              have dd15 := dd14.stay0 (g18.toT .nil)
              rw [← e2] at dd15
              exact ⟨_, _, _, _, dl12, ml10, pS10, kvs10, lw12, _, _, R.1.1, stay10, ov, rd + 1, al, rfl, dd15, wt12, sl10, sk10, by omega, c1', c2', fun z => absurd z (by omega), (fb12.trans f1214).trans (g18.toT .nil)⟩
            · obtain rfl : ("found" : Str) = w0 := V.str.inj (Option.some.inj hw0)
              rw [decide_eq_true rfl]
              refine ⟨_, rfl, .inl ⟨rfl, _, SqL.of dd14.fd⟩, _, rfl, t, _, 1, .str (S l), rfl, rfl, SqT.of et14, atI_nat (j := 1) rfl, pF, _, _, rfl, rfl, dd14.fd, by rw [List.length_map]; exact big6 (by omega), ?_⟩
              obtain ⟨dd15, f15⟩ := dd14.push (l := l)
              rw [← e2] at dd15
              have et15 := f15.k _ _ et14 rfl (by simpa using ne_of et14 dd14.fd (by intro y; cases y))
              refine ⟨_, rfl, _, rfl, by show 1 ≤ sizeLine; decide, fun t2 ht2 => ?_⟩
              have sh1 : SeqAt.shaped (.tuple [.str "found", .str (S l)]) = true := shaped_strs (xs := ["found", S l]) (fun y hy => by
                simp only [List.mem_cons, List.not_mem_nil, or_false] at hy
                rcases hy with rfl | rfl
                · decide +kernel
                · exact sok e3)
              refine ⟨.tuple [.str "found", .str (S l)], .tuple [.str "done"], .tup (SqT.of (same_upd ht2 _ _ et15)) (.cons (.str _) (.cons (.str _) .nil)), .tup (SqT.of upd_same) (.cons (.str _) .nil), sh1, by decide +kernel, ?_⟩
              rw [show PyData.eqv (.tuple [.str "found", .str (S l)]) (.tuple [.str "done"]) = false from rfl]
              refine .inr ⟨_, rfl, _, _, rfl, rfl, ?_⟩
              have g18 := (same_upd (o := .tup [.str "done"]) ht2)
              exact ⟨_, _, _, _, dl12, ml10, pS10, kvs10, lw12, _, _, R.1.1, stay10, ov, rd + 1, al, rfl, dd15.stay0 ((Frm.of g18).toT .nil), wt12, sl10, sk10, by omega, c1', c2', fun z => absurd z (by omega), ((fb12.trans f1214).fresh f15 (by simpa using muts pF (by simp [Ads.mut]))).trans ((Frm.of g18).toT .nil)⟩
        · rintro σ H9 ⟨v7', v12', v13', v14', dl9, ml9, pS9, kvs9, lw9, sdw9, lk9, st9, stay9, ov, rd, al, rfl, dd9, wt9, sl9, sk9, ej, c1, c2, c3, fb9⟩
          have := wt9.rd41 hlen
          have e300 : (300 : Int).toNat = 300 := rfl
          rw [e300] at ej
          exact main _ _ ⟨_, _, _, _, dl9, ml9, pS9, kvs9, lw9, sdw9, lk9, st9, stay9, ov, rd, rfl, dd9, wt9, sl9, by omega, c3 (by omega), fb9⟩
      · rintro σ' H9 ⟨v7', v12', v13', v14', dl9, ml9, pS9, kvs9, lw9, sdw9, lk9, st9, stay9, ov, rd, rfl, dd9, wt9, sl9, h4, hr9, fb9⟩
        obtain ⟨cl, wl, _⟩ := wt9.wl
        have finj : ∀ {a b : List Nat}, S a = S b → a = b := fun e => by
          have := congrArg (fun z : Str => z.cps.toList) e
          simpa [S_list] using this
        have fnd : (st9.found.map S).Nodup := List.Pairwise.map S (fun a b h e => h.ne (finj e)) wl.ff
        have fsrt : sortedS (st9.found.map S) = true := pw_sorted (List.Pairwise.map S (fun a b h => h.le) wl.ff)
        have fsub : ∀ x ∈ st9.found.map S, x ∈ xs := fun x hx => by
          obtain ⟨y, hy, rfl⟩ := List.mem_map.mp hx
          exact wl.fe y hy
        have flen : st9.found.length ≤ 41 := by
          have := nodup_le fnd fsub
          rw [List.length_map] at this
          omega
        have fok : ∀ x ∈ st9.found.map S, PyData.strOk x = true := fun x hx => strOk_num (hnum x (fsub x hx))
        have sb : (4096 : Nat) = scanBound := rfl
        have hF := dd9.fd
        rw [txs] at hF
        refine ⟨_, rfl, _, _, rfl, rfl, _, rfl, ?_⟩
        rw [decide_eq_false (show ¬ ((ov : Int) < 4) by omega)]
        refine ⟨_, rfl, _, rfl, pF, st9.found.map S, rfl, SqL.of hF, by rw [List.length_map, ← sb]; omega, fun s1 hs1 => ⟨s1, _, _, rfl, upd_same, fun ys p srt ysnd ysm ysl hp => ?_⟩⟩
        have eys : ys = st9.found.map S := sorted_eq srt fsrt ((List.perm_ext_iff_of_nodup ysnd fnd).mpr fun y => by rw [ysm y, decide_eq_true_eq])
        subst eys
        generalize h10 : (upd (upd H9 s1 _) p _) = H10
        have f10 : Frm [] H9 H10 := by
          rw [← h10]
          exact (Frm.of (same_upd hs1)).trans (Frm.of (same_upd hp))
        have hF2 := f10.k _ _ hF rfl (by simp)
        have hY2 : H10 p = some (.lst ((st9.found.map S).map V.str)) := by
          rw [← h10]
          exact upd_same
        refine ⟨_, _, .lst (SqL.of hF2) (dp_strs (st9.found.map S)), .lst (SqL.of hY2) (dp_strs (st9.found.map S)), shaped_strs fok, shaped_strs fok, _, rfl, ?_⟩
        rw [eqv_strs fok]
        have dd10 := dd9.stay0 (f10.toT .nil)
        refine ⟨_, rfl, pS9, rfl, ⟨_, SqL.of dd10.sS⟩, fun D hD => ?_⟩
        have n1 : pS9 ≠ D := ne_of_none dd10.sS hD
        have n2 : pF ≠ D := ne_of_none hF2 hD
        refine lc_list (K := K) (a := pS9) (xs := stay9.map V.str) (fun i H' => H' = upd H10 D (.lst [])) rfl (fun i H' _ e => by rw [e]; exact SqL.of (by rw [upd_ne n1]; exact dd10.sS)) ?_ ?_
        · rintro i2 y H11 hi2 e
          subst e
          obtain ⟨x, hx, rfl⟩ := at_map hi2
          refine ⟨rfl, _, rfl, _, rfl, pF, _, rfl, .inl (SqL.of (by rw [upd_ne n2]; exact hF2)), rfl, flat_strs _, _, rfl, ?_⟩
          show if (if true = true then !inV (V.str x) ((st9.found.map S).map V.str) else _) = true then _ else _
          have hin : x ∈ st9.found.map S := by
            rcases wl.ty x (List.mem_of_getElem? hx) with ⟨y, hy, e⟩ | ⟨q, hq, _⟩
            · exact List.mem_map.mpr ⟨y, hy, e⟩
            · have ep : pend st9 = st9.rest := by
                unfold pend
                rw [wt9.sd]
              rw [ep, hr9] at hq
              cases hq
          rw [if_pos rfl, inV_strs, decide_eq_true hin, if_neg (by simp)]
        rintro H11 rfl
        refine ⟨Nat.zero_le _, fun D2 hD2 => ?_⟩
        refine ⟨_, _, .lst (SqL.of (same_upd hD2 _ _ upd_same)) .nil, .lst (SqL.of upd_same) .nil, by decide +kernel, by decide +kernel, _, rfl, ?_⟩
        rw [show PyData.eqv (.list []) (.list []) = true by decide +kernel]
        have g12 : Frm [] H10 (upd (upd H10 D (.lst [])) D2 (.lst [])) := (Frm.of (same_upd hD)).trans (Frm.of (same_upd hD2))
        exact ⟨_, _, _, _, _, _, _, _, _, _, _, _, _, rfl, (dd10.stay0 (g12.toT .nil)).row, (fb9.trans (f10.toT .nil)).trans (g12.toT .nil)⟩
    · rintro σ H1 ⟨v2, v3, v4, v5, v6, v7, v8, v9, v10, v11, v12, v13, v14, rfl, hR1, fb⟩
      exact k _
end
end B

set_option Elab.async false
set_option linter.all false
set_option maxRecDepth 100000
set_option maxHeartbeats 4000000
namespace B
open PySem PySem.Spec PyProof.Rows L2
abbrev cs (K : PySem.W.Frag) : List (Addr × Addr) := tf.map (He.cT K)
theorem law_at {w : World} {mg : Str → Option Value} {fa0 : Addr} {h : Heap} {K : PySem.W.Frag} (KX : K.In h) (G : h.Ns mainGlobals mg) (hmg : mg ("law" : Str) = some (.ref fa0)) (c : He.SaysX fa fn [] tf ex w h K) :
    LamX.LawAtS PySem.Challenge.rw_busfind_k16_whole_alarms_first_and_all_o w K CX0 9 63 "_law_script" mg fa0 h := by
  obtain ⟨fd, F⟩ := c.t.d.def_ 37 (d := d_law)
  have e := hmg.symm.trans (He.glo_ok KX G (c.t.d.fact 15))
  cases e
  have b := FunD.bindsA (ps := ["_law_script"]) F fun _ _ _ _ _ _ us hl => match us, hl with | [_], _ => rfl
  have cm : ∀ {p : Addr × Addr}, p ∈ cs K → ∃ q ∈ tf, p = He.cT K q := fun hp => by
    obtain ⟨q, hq, e⟩ := List.mem_map.mp hp
    exact ⟨q, hq, e.symm⟩
  refine ⟨fd, cs K, spLaw K, fun p hp => ?_, fun p hp => ?_, fun p hp => ?_, fun s u => b s [u] rfl, fun H a ns hl _ hT hS => ?_, fun base X2 G2 tb => ?_⟩
  · obtain ⟨q, hq, rfl⟩ := cm hp
    exact c.empty q hq
  · obtain ⟨q, hq, rfl⟩ := cm hp
    exact c.out q hq
  · obtain ⟨q, hq, rfl⟩ := cm hp
    exact PySem.W.codeHd_of_K KX (c.hd q hq)
  · exact ⟨a, rfl, ⟨ns, hS⟩, tb_empty hT, fun _ => rfl⟩
  · have T : Txt (PySem.Challenge.rw_busfind_k16_whole_alarms_first_and_all_o).prog w K mg base := ⟨X2, G2, c.t.d, c.more, fun p hp => tb (He.cT K p) (List.mem_map.mpr ⟨p, hp, rfl⟩)⟩
    exact law_ok T F
end B

set_option Elab.async false
set_option linter.all false
set_option maxRecDepth 100000
open PySem PySem.W PySem.Calls PyProof.Rows
set_option maxHeartbeats 0 in
theorem PySem.Challenge.cw_busfind_k16_whole_alarms_first_and_all_o_holds : PySem.Challenge.rw_busfind_k16_whole_alarms_first_and_all_o.Holds := by
  w_on; o_law
  refine HandSHeadRun.head_any (r := B.R) (q := view B.R.prog [44]) (H := B.hk) (ob := B.ob) (M := 6000) (loose := B.names) (d := HandSHeadRun.topDef B.R.prog 44) (kwd := []) B.ob_eq (by kernel_rfl) (fun s => by kernel_rfl) B.run (by kernel_rfl) (by kernel_rfl) (by kernel_rfl) (by rfl) (by first | assumption | decide +kernel) (by decide +kernel) ⟨rfl, rfl, rfl, rfl, rfl, by decide +kernel⟩ ?hw ?hc
  case hw => w_witness2
  case hc =>
    refine LamX.walk_ofTsE (l := PySem.Challenge.rw_busfind_k16_whole_alarms_first_and_all_o) (n := 63) (k := 9) (x := "_law_script") (CX := fun _ => L2.CX0) rfl (by decide) (by kernel_rfl) ⟨rfl, by decide, by decide⟩ ?F (fun _ _ _ _ _ z => z)
    intro w mg fa h Y G hmg0
    obtain ⟨K, KX, c⟩ := Y
    have hmg : mg ("law" : PySem.Str) = some (.ref fa) := by
      have e : (HandSHeadRun.topDef B.R.prog 44).name = ("law" : PySem.Str) := by kernel_rfl
      rw [← e]
      exact hmg0
    exact ⟨K, KX, B.law_at KX G hmg c⟩
