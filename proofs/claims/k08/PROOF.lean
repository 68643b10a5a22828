import PyProof.Rows.All
import Wide.All
import OpenK.AllK
import Wide.FinOn
import HandS.ForMost
import HandS.Exc
import HandS.ExcOwn
import HandS.WordsExc
import HandS.ExcIs
import HandS.IsInst
import HandS.Lambda
import HandS.AnyAll
import HandS.EndTab
import HandS.Codes
import HandS.Defaults
import HandS.Head0
import HandS.Head1
import HandS.Head2
import HandS.HeadEnd
import HandS.HeadHook1
import HandS.HeadHook2
import HandS.HeadHook3
import HandS.HeadHook4
import HandS.HeadWalk
import HandS.Walk
import HandS.More
import HandS.SetFor
import PyProof.SetRoads
import PyProof.Rows.SetFrom
import PyProof.Rows.SortShellAny
import HandS.SetBool
import HandS.DictComp
import HandS.Star
import HandS.Flow
import HandS.SetKeys
import PySem.Challenge.RW_busfind_k08_whole_papers_of_walks_show
set_option Elab.async false
set_option linter.all false
set_option maxRecDepth 100000
set_option maxHeartbeats 4000000
namespace B
open PySem PySem.Spec PyProof.Rows L2
def topS (i : Nat) : Stmt := PySem.Challenge.pw_busfind_k08_whole_papers_of_walks_show.main.body.getD i (.Pass ⟨0, 0, 0, 0⟩)
abbrev s_BadLooks_init : Stmt := inClass (topS 11) 0
abbrev s_require_width : Stmt := topS 15
abbrev s_require_number : Stmt := topS 16
abbrev s_is_number : Stmt := topS 17
abbrev s_is_beginning : Stmt := topS 18
abbrev s_met : Stmt := topS 19
abbrev s_require_looks : Stmt := topS 23
abbrev s_is_look : Stmt := topS 24
abbrev s_shown : Stmt := topS 25
abbrev s_opened_by : Stmt := topS 26
abbrev s_told_by : Stmt := topS 27
abbrev s_sets_behind : Stmt := topS 28
abbrev s_unlooked : Stmt := topS 29
abbrev s_fewest : Stmt := topS 30
abbrev s_is_needed : Stmt := topS 31
abbrev s_require_kind : Stmt := topS 34
abbrev s_Wire_init : Stmt := inClass (topS 35) 0
abbrev s_Wire_hang : Stmt := inClass (topS 35) 1
abbrev s_Wire_alarm : Stmt := inClass (topS 35) 3
abbrev s_Wire_hung : Stmt := inClass (topS 35) 5
abbrev s_Wire_alarms : Stmt := inClass (topS 35) 6
abbrev s_Wire_begin : Stmt := inClass (topS 35) 7
abbrev s_Wire_look : Stmt := inClass (topS 35) 8
abbrev s_Wire_say : Stmt := inClass (topS 35) 9
abbrev s_Wire_looks : Stmt := inClass (topS 35) 10
abbrev s_Wire__require_hanging : Stmt := inClass (topS 35) 11
abbrev s_Wire__require_round : Stmt := inClass (topS 35) 12
abbrev s_Walk_init : Stmt := inClass (topS 37) 0
abbrev s_Walk_step : Stmt := inClass (topS 37) 1
abbrev s_Walk_go_all : Stmt := inClass (topS 37) 3
abbrev s_Walk_left : Stmt := inClass (topS 37) 4
abbrev s_Walk_found : Stmt := inClass (topS 37) 5
abbrev s_Walk_paper : Stmt := inClass (topS 37) 6
abbrev s_Walk__begin_round : Stmt := inClass (topS 37) 8
abbrev s_Walk__say : Stmt := inClass (topS 37) 9
abbrev s_ltaken : Stmt := topS 39
abbrev s_lnumber : Stmt := topS 40
abbrev s_lnear : Stmt := topS 41
abbrev s_lthings : Stmt := topS 42
abbrev s_lwidth : Stmt := topS 43
abbrev s_llooked : Stmt := topS 44
abbrev s_lmet : Stmt := topS 45
abbrev s_lmade : Stmt := topS 46
abbrev s_lfew : Stmt := topS 47
abbrev s_law : Stmt := topS 48
theorem sc_require_width : FnScope ["width"] ["width"] (defScope s_require_width) := ⟨rfl, rfl, rfl, by decide +kernel, rfl, by decide +kernel, by decide +kernel⟩
theorem sc_require_number : FnScope ["width", "number"] ["width", "number"] (defScope s_require_number) := ⟨rfl, rfl, rfl, by decide +kernel, rfl, by decide +kernel, by decide +kernel⟩
theorem sc_is_number : FnScope ["width", "number", "sign"] ["width", "number"] (defScope s_is_number) := ⟨rfl, rfl, rfl, by decide +kernel, rfl, by decide +kernel, by decide +kernel⟩
theorem sc_is_beginning : FnScope ["width", "text"] ["width", "text"] (defScope s_is_beginning) := ⟨rfl, rfl, rfl, by decide +kernel, rfl, by decide +kernel, by decide +kernel⟩
theorem sc_met : FnScope ["width", "numbers", "number", "texts", "text", "length"] ["width", "numbers"] (defScope s_met) := ⟨rfl, rfl, rfl, by decide +kernel, rfl, by decide +kernel, by decide +kernel⟩
theorem sc_require_looks : FnScope ["width", "looks", "number", "look"] ["width", "looks"] (defScope s_require_looks) := ⟨rfl, rfl, rfl, by decide +kernel, rfl, by decide +kernel, by decide +kernel⟩
theorem sc_is_look : FnScope ["width", "look", "beginning", "zero", "one"] ["width", "look"] (defScope s_is_look) := ⟨rfl, rfl, rfl, by decide +kernel, rfl, by decide +kernel, by decide +kernel⟩
theorem sc_shown : FnScope ["width", "looks", "sets"] ["width", "looks"] (defScope s_shown) := ⟨rfl, rfl, rfl, by decide +kernel, rfl, by decide +kernel, by decide +kernel⟩
theorem sc_opened_by : FnScope ["looks", "look", "length"] ["looks"] (defScope s_opened_by) := ⟨rfl, rfl, rfl, by decide +kernel, rfl, by decide +kernel, by decide +kernel⟩
theorem sc_told_by : FnScope ["looks", "told", "beginning", "zero", "one"] ["looks"] (defScope s_told_by) := ⟨rfl, rfl, rfl, by decide +kernel, rfl, by decide +kernel, by decide +kernel⟩
theorem sc_sets_behind : FnScope ["width", "opened", "told", "text", "lower", "upper", "sets", "truths", "empty", "some", "others", "numbers"] ["width", "opened", "told", "text"] (defScope s_sets_behind) := ⟨rfl, rfl, rfl, by decide +kernel, rfl, by decide +kernel, by decide +kernel⟩
theorem sc_unlooked : FnScope ["width", "text", "rest"] ["width", "text"] (defScope s_unlooked) := ⟨rfl, rfl, rfl, by decide +kernel, rfl, by decide +kernel, by decide +kernel⟩
theorem sc_fewest : FnScope ["width", "numbers", "beginnings", "reached", "number", "length", "beginning"] ["width", "numbers"] (defScope s_fewest) := ⟨rfl, rfl, rfl, by decide +kernel, rfl, by decide +kernel, by decide +kernel⟩
theorem sc_is_needed : FnScope ["width", "reached", "beginning", "both"] ["width", "reached", "beginning"] (defScope s_is_needed) := ⟨rfl, rfl, rfl, by decide +kernel, rfl, by decide +kernel, by decide +kernel⟩
theorem sc_require_kind : FnScope ["kind"] ["kind"] (defScope s_require_kind) := ⟨rfl, rfl, rfl, by decide +kernel, rfl, by decide +kernel, by decide +kernel⟩
theorem sc_Wire_init : FnScope ["self", "width"] ["self", "width"] (defScope s_Wire_init) := ⟨rfl, rfl, rfl, by decide +kernel, rfl, by decide +kernel, by decide +kernel⟩
theorem sc_Wire_hang : FnScope ["self", "number"] ["self", "number"] (defScope s_Wire_hang) := ⟨rfl, rfl, rfl, by decide +kernel, rfl, by decide +kernel, by decide +kernel⟩
theorem sc_Wire_alarm : FnScope ["self", "number"] ["self", "number"] (defScope s_Wire_alarm) := ⟨rfl, rfl, rfl, by decide +kernel, rfl, by decide +kernel, by decide +kernel⟩
theorem sc_Wire_hung : FnScope ["self"] ["self"] (defScope s_Wire_hung) := ⟨rfl, rfl, rfl, by decide +kernel, rfl, by decide +kernel, by decide +kernel⟩
theorem sc_Wire_alarms : FnScope ["self", "number"] ["self"] (defScope s_Wire_alarms) := ⟨rfl, rfl, rfl, by decide +kernel, rfl, by decide +kernel, by decide +kernel⟩
theorem sc_Wire_begin : FnScope ["self", "kind"] ["self", "kind"] (defScope s_Wire_begin) := ⟨rfl, rfl, rfl, by decide +kernel, rfl, by decide +kernel, by decide +kernel⟩
theorem sc_Wire_look : FnScope ["self", "signs", "number"] ["self"] (defScope s_Wire_look) := ⟨rfl, rfl, rfl, by decide +kernel, rfl, by decide +kernel, by decide +kernel⟩
theorem sc_Wire_say : FnScope ["self", "bit", "sign", "number"] ["self", "bit"] (defScope s_Wire_say) := ⟨rfl, rfl, rfl, by decide +kernel, rfl, by decide +kernel, by decide +kernel⟩
theorem sc_Wire_looks : FnScope ["self"] ["self"] (defScope s_Wire_looks) := ⟨rfl, rfl, rfl, by decide +kernel, rfl, by decide +kernel, by decide +kernel⟩
theorem sc_Wire__require_hanging : FnScope ["self", "number"] ["self", "number"] (defScope s_Wire__require_hanging) := ⟨rfl, rfl, rfl, by decide +kernel, rfl, by decide +kernel, by decide +kernel⟩
theorem sc_Wire__require_round : FnScope ["self"] ["self"] (defScope s_Wire__require_round) := ⟨rfl, rfl, rfl, by decide +kernel, rfl, by decide +kernel, by decide +kernel⟩
theorem sc_Walk_init : FnScope ["self", "wire", "kind"] ["self", "wire", "kind"] (defScope s_Walk_init) := ⟨rfl, rfl, rfl, by decide +kernel, rfl, by decide +kernel, by decide +kernel⟩
theorem sc_Walk_step : FnScope ["self", "zero", "one"] ["self"] (defScope s_Walk_step) := ⟨rfl, rfl, rfl, by decide +kernel, rfl, by decide +kernel, by decide +kernel⟩
theorem sc_Walk_go_all : FnScope ["self"] ["self"] (defScope s_Walk_go_all) := ⟨rfl, rfl, rfl, by decide +kernel, rfl, by decide +kernel, by decide +kernel⟩
theorem sc_Walk_left : FnScope ["self"] ["self"] (defScope s_Walk_left) := ⟨rfl, rfl, rfl, by decide +kernel, rfl, by decide +kernel, by decide +kernel⟩
theorem sc_Walk_found : FnScope ["self"] ["self"] (defScope s_Walk_found) := ⟨rfl, rfl, rfl, by decide +kernel, rfl, by decide +kernel, by decide +kernel⟩
theorem sc_Walk_paper : FnScope ["self"] ["self"] (defScope s_Walk_paper) := ⟨rfl, rfl, rfl, by decide +kernel, rfl, by decide +kernel, by decide +kernel⟩
theorem sc_Walk__begin_round : FnScope ["self"] ["self"] (defScope s_Walk__begin_round) := ⟨rfl, rfl, rfl, by decide +kernel, rfl, by decide +kernel, by decide +kernel⟩
theorem sc_Walk__say : FnScope ["self", "signs", "sign", "said"] ["self", "signs"] (defScope s_Walk__say) := ⟨rfl, rfl, rfl, by decide +kernel, rfl, by decide +kernel, by decide +kernel⟩
theorem sc_ltaken : FnScope ["_law_row", "_law_many", "_law_found", "_law_cell"] ["_law_row", "_law_many"] (defScope s_ltaken) := ⟨rfl, rfl, rfl, by decide +kernel, rfl, by decide +kernel, by decide +kernel⟩
theorem sc_lnumber : FnScope ["_law_row", "_law_width_here", "_law_k"] ["_law_row", "_law_width_here"] (defScope s_lnumber) := ⟨rfl, rfl, rfl, by decide +kernel, rfl, by decide +kernel, by decide +kernel⟩
theorem sc_lnear : FnScope ["_law_row", "_law_width_here", "_law_some", "_law_number_here", "_law_many"] ["_law_row", "_law_width_here", "_law_some"] (defScope s_lnear) := ⟨rfl, rfl, rfl, by decide +kernel, rfl, by decide +kernel, by decide +kernel⟩
theorem sc_lthings : FnScope ["_law_row", "_law_width_here", "_law_most", "_law_found", "_law_base", "_law_k", "_law_number_here"] ["_law_row", "_law_width_here", "_law_most"] (defScope s_lthings) := ⟨rfl, rfl, rfl, by decide +kernel, rfl, by decide +kernel, by decide +kernel⟩
theorem sc_lwidth : FnScope ["_law_row"] ["_law_row"] (defScope s_lwidth) := ⟨rfl, rfl, rfl, by decide +kernel, rfl, by decide +kernel, by decide +kernel⟩
theorem sc_llooked : FnScope ["_law_numbers", "_law_beginning", "_law_zero", "_law_one", "_law_number_here"] ["_law_numbers", "_law_beginning"] (defScope s_llooked) := ⟨rfl, rfl, rfl, by decide +kernel, rfl, by decide +kernel, by decide +kernel⟩
theorem sc_lmet : FnScope ["_law_width_here", "_law_numbers", "_law_found", "_law_number_here", "_law_many"] ["_law_width_here", "_law_numbers"] (defScope s_lmet) := ⟨rfl, rfl, rfl, by decide +kernel, rfl, by decide +kernel, by decide +kernel⟩
theorem sc_lmade : FnScope ["_law_width_here", "_law_numbers", "_law_wire", "_law_number_here"] ["_law_width_here", "_law_numbers"] (defScope s_lmade) := ⟨rfl, rfl, rfl, by decide +kernel, rfl, by decide +kernel, by decide +kernel⟩
theorem sc_lfew : FnScope ["_law_width_here", "_law_names", "_law_found", "_law_beginning"] ["_law_width_here", "_law_names"] (defScope s_lfew) := ⟨rfl, rfl, rfl, by decide +kernel, rfl, by decide +kernel, by decide +kernel⟩
theorem sc_law : FnScope ["_law_script", "_law_row", "_law_turn", "_law_width_here", "_law_names", "_law_walk", "_law_few_here", "_law_looks", "_law_k", "_law_beginning", "_law_zero", "_law_one", "_law_other", "_law_look"] ["_law_script"] (defScope s_law) := ⟨rfl, rfl, rfl, by decide +kernel, rfl, by decide +kernel, by decide +kernel⟩
def d_require_width : He.DefD := ⟨("require_width", none), "require_width", "require_width", defArgs s_require_width, defBody s_require_width, defScope s_require_width, [], []⟩
def d_require_number : He.DefD := ⟨("require_number", none), "require_number", "require_number", defArgs s_require_number, defBody s_require_number, defScope s_require_number, [], []⟩
def d_is_number : He.DefD := ⟨("is_number", none), "is_number", "is_number", defArgs s_is_number, defBody s_is_number, defScope s_is_number, [], []⟩
def d_is_beginning : He.DefD := ⟨("is_beginning", none), "is_beginning", "is_beginning", defArgs s_is_beginning, defBody s_is_beginning, defScope s_is_beginning, [], []⟩
def d_met : He.DefD := ⟨("met", none), "met", "met", defArgs s_met, defBody s_met, defScope s_met, [], []⟩
def d_require_looks : He.DefD := ⟨("require_looks", none), "require_looks", "require_looks", defArgs s_require_looks, defBody s_require_looks, defScope s_require_looks, [], []⟩
def d_is_look : He.DefD := ⟨("is_look", none), "is_look", "is_look", defArgs s_is_look, defBody s_is_look, defScope s_is_look, [], []⟩
def d_shown : He.DefD := ⟨("shown", none), "shown", "shown", defArgs s_shown, defBody s_shown, defScope s_shown, [], []⟩
def d_opened_by : He.DefD := ⟨("opened_by", none), "opened_by", "opened_by", defArgs s_opened_by, defBody s_opened_by, defScope s_opened_by, [], []⟩
def d_told_by : He.DefD := ⟨("told_by", none), "told_by", "told_by", defArgs s_told_by, defBody s_told_by, defScope s_told_by, [], []⟩
def d_sets_behind : He.DefD := ⟨("sets_behind", none), "sets_behind", "sets_behind", defArgs s_sets_behind, defBody s_sets_behind, defScope s_sets_behind, [], []⟩
def d_unlooked : He.DefD := ⟨("unlooked", none), "unlooked", "unlooked", defArgs s_unlooked, defBody s_unlooked, defScope s_unlooked, [], []⟩
def d_fewest : He.DefD := ⟨("fewest", none), "fewest", "fewest", defArgs s_fewest, defBody s_fewest, defScope s_fewest, [], []⟩
def d_is_needed : He.DefD := ⟨("is_needed", none), "is_needed", "is_needed", defArgs s_is_needed, defBody s_is_needed, defScope s_is_needed, [], []⟩
def d_require_kind : He.DefD := ⟨("require_kind", none), "require_kind", "require_kind", defArgs s_require_kind, defBody s_require_kind, defScope s_require_kind, [], []⟩
def d_Wire_init : He.DefD := ⟨("Wire", some "__init__"), "__init__", "Wire.__init__", defArgs s_Wire_init, defBody s_Wire_init, defScope s_Wire_init, [], []⟩
def d_Wire_hang : He.DefD := ⟨("Wire", some "hang"), "hang", "Wire.hang", defArgs s_Wire_hang, defBody s_Wire_hang, defScope s_Wire_hang, [], []⟩
def d_Wire_alarm : He.DefD := ⟨("Wire", some "alarm"), "alarm", "Wire.alarm", defArgs s_Wire_alarm, defBody s_Wire_alarm, defScope s_Wire_alarm, [], []⟩
def d_Wire_hung : He.DefD := ⟨("Wire", some "hung"), "hung", "Wire.hung", defArgs s_Wire_hung, defBody s_Wire_hung, defScope s_Wire_hung, [], []⟩
def d_Wire_alarms : He.DefD := ⟨("Wire", some "alarms"), "alarms", "Wire.alarms", defArgs s_Wire_alarms, defBody s_Wire_alarms, defScope s_Wire_alarms, [], []⟩
def d_Wire_begin : He.DefD := ⟨("Wire", some "begin"), "begin", "Wire.begin", defArgs s_Wire_begin, defBody s_Wire_begin, defScope s_Wire_begin, [], []⟩
def d_Wire_look : He.DefD := ⟨("Wire", some "look"), "look", "Wire.look", defArgs s_Wire_look, defBody s_Wire_look, defScope s_Wire_look, [], []⟩
def d_Wire_say : He.DefD := ⟨("Wire", some "say"), "say", "Wire.say", defArgs s_Wire_say, defBody s_Wire_say, defScope s_Wire_say, [], []⟩
def d_Wire_looks : He.DefD := ⟨("Wire", some "looks"), "looks", "Wire.looks", defArgs s_Wire_looks, defBody s_Wire_looks, defScope s_Wire_looks, [], []⟩
def d_Wire__require_hanging : He.DefD := ⟨("Wire", some "_require_hanging"), "_require_hanging", "Wire._require_hanging", defArgs s_Wire__require_hanging, defBody s_Wire__require_hanging, defScope s_Wire__require_hanging, [], []⟩
def d_Wire__require_round : He.DefD := ⟨("Wire", some "_require_round"), "_require_round", "Wire._require_round", defArgs s_Wire__require_round, defBody s_Wire__require_round, defScope s_Wire__require_round, [], []⟩
def d_Walk_init : He.DefD := ⟨("Walk", some "__init__"), "__init__", "Walk.__init__", defArgs s_Walk_init, defBody s_Walk_init, defScope s_Walk_init, [], []⟩
def d_Walk_step : He.DefD := ⟨("Walk", some "step"), "step", "Walk.step", defArgs s_Walk_step, defBody s_Walk_step, defScope s_Walk_step, [], []⟩
def d_Walk_go_all : He.DefD := ⟨("Walk", some "go_all"), "go_all", "Walk.go_all", defArgs s_Walk_go_all, defBody s_Walk_go_all, defScope s_Walk_go_all, [], []⟩
def d_Walk_left : He.DefD := ⟨("Walk", some "left"), "left", "Walk.left", defArgs s_Walk_left, defBody s_Walk_left, defScope s_Walk_left, [], []⟩
def d_Walk_found : He.DefD := ⟨("Walk", some "found"), "found", "Walk.found", defArgs s_Walk_found, defBody s_Walk_found, defScope s_Walk_found, [], []⟩
def d_Walk_paper : He.DefD := ⟨("Walk", some "paper"), "paper", "Walk.paper", defArgs s_Walk_paper, defBody s_Walk_paper, defScope s_Walk_paper, [], []⟩
def d_Walk__begin_round : He.DefD := ⟨("Walk", some "_begin_round"), "_begin_round", "Walk._begin_round", defArgs s_Walk__begin_round, defBody s_Walk__begin_round, defScope s_Walk__begin_round, [], []⟩
def d_Walk__say : He.DefD := ⟨("Walk", some "_say"), "_say", "Walk._say", defArgs s_Walk__say, defBody s_Walk__say, defScope s_Walk__say, [], []⟩
def d_ltaken : He.DefD := ⟨("_law_taken", none), "_law_taken", "_law_taken", defArgs s_ltaken, defBody s_ltaken, defScope s_ltaken, [], []⟩
def d_lnumber : He.DefD := ⟨("_law_number", none), "_law_number", "_law_number", defArgs s_lnumber, defBody s_lnumber, defScope s_lnumber, [], []⟩
def d_lnear : He.DefD := ⟨("_law_near", none), "_law_near", "_law_near", defArgs s_lnear, defBody s_lnear, defScope s_lnear, [], []⟩
def d_lthings : He.DefD := ⟨("_law_things", none), "_law_things", "_law_things", defArgs s_lthings, defBody s_lthings, defScope s_lthings, [], []⟩
def d_lwidth : He.DefD := ⟨("_law_width", none), "_law_width", "_law_width", defArgs s_lwidth, defBody s_lwidth, defScope s_lwidth, [], []⟩
def d_llooked : He.DefD := ⟨("_law_looked", none), "_law_looked", "_law_looked", defArgs s_llooked, defBody s_llooked, defScope s_llooked, [], []⟩
def d_lmet : He.DefD := ⟨("_law_met", none), "_law_met", "_law_met", defArgs s_lmet, defBody s_lmet, defScope s_lmet, [], []⟩
def d_lmade : He.DefD := ⟨("_law_made", none), "_law_made", "_law_made", defArgs s_lmade, defBody s_lmade, defScope s_lmade, [], []⟩
def d_lfew : He.DefD := ⟨("_law_few", none), "_law_few", "_law_few", defArgs s_lfew, defBody s_lfew, defScope s_lfew, [], []⟩
def d_law : He.DefD := ⟨("law", none), "law", "law", defArgs s_law, defBody s_law, defScope s_law, [], []⟩
def fa : List He.Fa := [.glo "require_width", .glo "require_number", .glo "is_number", .glo "is_beginning", .glo "met", .glo "require_looks", .glo "is_look", .glo "shown", .glo "opened_by", .glo "told_by", .glo "sets_behind", .glo "unlooked", .glo "fewest", .glo "is_needed", .glo "require_kind", .glo "_law_taken", .glo "_law_number", .glo "_law_near", .glo "_law_things", .glo "_law_width", .glo "_law_looked", .glo "_law_met", .glo "_law_made", .glo "_law_few", .glo "law", .glo "BusError", .glo "BadWidth", .glo "BadNumber", .glo "BadKind", .glo "BadBit", .glo "There", .glo "NotThere", .glo "NoRound", .glo "Over", .glo "BadLooks", .glo "Wire", .glo "Walk", .int "LEAST_WIDTH" 1, .int "GREATEST_WIDTH" 12, .int "MOST_LOOKS" 100, .int "ENOUGH" 2, .glo "KINDS", .free "super", .free "isinstance", .free "bool", .free "all", .free "str", .free "len", .free "sorted", .free "range", .free "enumerate", .free "list", .free "int", .free "max", .free "set", .free "ValueError", .cls "Wire", .mkr "Wire", .noat "Wire" "width", .noat "Wire" "_hanging", .noat "Wire" "_listening", .noat "Wire" "_many_said", .noat "Wire" "_many_looks", .meth "Wire" "hang", .meth "Wire" "alarm", .meth "Wire" "hung", .meth "Wire" "alarms", .meth "Wire" "begin", .meth "Wire" "look", .meth "Wire" "say", .meth "Wire" "looks", .meth "Wire" "_require_hanging", .meth "Wire" "_require_round", .cls "Walk", .mkr "Walk", .noat "Walk" "_wire", .noat "Walk" "_kind", .noat "Walk" "_row", .noat "Walk" "_found", .noat "Walk" "_paper", .noat "Walk" "_said", .meth "Walk" "step", .meth "Walk" "go_all", .meth "Walk" "left", .meth "Walk" "found", .meth "Walk" "paper", .meth "Walk" "_begin_round", .meth "Walk" "_say", .exc "There", .exc "NotThere", .exc "NoRound", .exc "Over"]
def fn : List He.DefD := [d_require_width, d_require_number, d_is_number, d_is_beginning, d_met, d_require_looks, d_is_look, d_shown, d_opened_by, d_told_by, d_sets_behind, d_unlooked, d_fewest, d_is_needed, d_require_kind, d_Wire_init, d_Wire_hang, d_Wire_alarm, d_Wire_hung, d_Wire_alarms, d_Wire_begin, d_Wire_look, d_Wire_say, d_Wire_looks, d_Wire__require_hanging, d_Wire__require_round, d_Walk_init, d_Walk_step, d_Walk_go_all, d_Walk_left, d_Walk_found, d_Walk_paper, d_Walk__begin_round, d_Walk__say, d_ltaken, d_lnumber, d_lnear, d_lthings, d_lwidth, d_llooked, d_lmet, d_lmade, d_lfew, d_law]
def pd_is_number : He.Defn := ("is_number", none)
def gens : List He.Defn := [pd_is_number]
def lams : List (He.Defn × Str) := []
def tf : List He.Defn := [pd_is_number]
def kitC (K : PySem.W.Frag) (c d : Str) (b : Bool) : Bool := decide (PySem.W.kitOne K (.ref (He.ga K c)) (.ref (He.ga K d)) = some b)
def excC (K : PySem.W.Frag) (c : Str) : Bool :=
  He.eqO (PySem.W.findIn K (.ref (He.ga K c)) "__getattribute__") (some (some (.builtin "BaseException.__getattribute__"))) &&
  He.eqO (PySem.W.findIn K (.ref (He.ga K c)) "__getattr__") (some none) && PySem.W.hasDictIn K (He.ga K c) &&
  He.eqO (PySem.W.findIn K (.ref (He.ga K c)) "__class__") (some (some (.builtin "object.__class__"))) &&
  decide (PySem.W.specialIn K (.builtin "object.__class__") "__get__" = some (some (.builtin "getset_descriptor.__get__"))) &&
  decide (PySem.W.takesIn K (.builtin "object.__class__") = some true) && decide (PySem.W.mroIn K (He.ga K c) (.type "object") = some true) &&
  decide (PySem.W.kitOne K (.ref (He.ga K c)) (.type "ValueError") = some true)
def tupB (K : PySem.W.Frag) (x : Str) (vs : List V) : Bool := match K.lookup (He.ga K x) with
  | some ⟨.type t, _, .seq its _, _⟩ => decide (t = "tuple") && He.relAll vs its.toList
  | _ => false
def allErr : List Str := ["BadWidth", "BadNumber", "BadKind", "BadBit", "There", "NotThere", "NoRound", "Over", "BadLooks"]
def raised : List Str := ["There", "NotThere", "NoRound", "Over"]
def exExc (K : PySem.W.Frag) : Bool := raised.all fun c => excC K c && allErr.all fun d => kitC K c d (decide (c = d))
def exTup (K : PySem.W.Frag) : Bool := tupB K "KINDS" [.str "all", .str "alarm"]
def ex (K : PySem.W.Frag) : Bool := decide ((tf.map fun p => (He.cT K p).2).Nodup) && (exTup K && exExc K)
abbrev R : PySem.W.OpenRow := PySem.W.OpenLaw.row PySem.Challenge.rw_busfind_k08_whole_papers_of_walks_show
abbrev hk : PySem.W.Hook := He.hookX 5 fa fn [] tf ex
def ob (s : PySem.W.SharedT) : He.AlX := He.obsX 5 fa fn [] tf ex (HandSHeadRun.getT s)
theorem ob_eq (s : PySem.W.SharedT) : ob s = hk.obs s.abs := He.obsX_eq (HandSHeadRun.getT_eq s)
def names : List Str := (["_wall", "BusError", "BadWidth", "BadNumber", "BadKind", "BadBit", "There", "NotThere", "NoRound", "Over", "BadLooks", "LEAST_WIDTH", "GREATEST_WIDTH", "require_width", "require_number"] : List Str) ++ (["is_number", "is_beginning", "met", "MOST_LOOKS", "ENOUGH", "require_looks", "is_look", "shown", "opened_by", "told_by", "sets_behind", "unlooked", "fewest", "is_needed", "KINDS"] : List Str) ++ (["require_kind", "Wire", "Walk", "_law_taken", "_law_number", "_law_near", "_law_things", "_law_width", "_law_looked", "_law_met", "_law_made", "_law_few"] : List Str)
set_option maxHeartbeats 0 in
theorem run (w : World) : HandSHeadRun.RunEq R (PySem.W.view R.prog [48]) hk ob 6000 names w := by
  intro os
  kernel_rfl
end B

set_option Elab.async false
set_option linter.all false
set_option maxRecDepth 100000
set_option maxHeartbeats 4000000
namespace B
open PySem PySem.Spec PyProof.Rows L2
/-- what the defs lean on: the written part, the names, the code tables -/
structure Txt (P : Program) (w : World) (K : PySem.W.Frag) (mg : Str → Option Value) (base : Heap) : Prop where
  X : K.In base
  G : base.Ns mainGlobals mg
  t : He.SaysD fa fn K
  m : ex K = true
  tb : ∀ p ∈ tf, LamX.TabB base mg (He.cT K p).1 (He.cT K p).2
/-- a def that may be called by its name -/
structure CalX (CX : CXT) (P : Program) (w : World) (K : PySem.W.Frag) (mg : Str → Option Value) (base : Heap) (k : Nat) (x : Str) (sp : Sp) : Prop where
  ex : ∃ (f : Addr) (fd : FuncData) (ps : List Str), FnOk P w K mg base CX k f fd ps sp ∧ mg x = some (.ref f) ∧ PySem.W.keepIn K (.ref f) = true ∧ Binds K fd ps []
structure MetX (CX : CXT) (P : Program) (w : World) (K : PySem.W.Frag) (mg : Str → Option Value) (base : Heap) (k : Nat) (C : Addr) (m : Str) (sp : Sp) : Prop where
  ex : ∃ (f : Addr) (fd : FuncData) (ps : List Str), Cls K C ∧ Meth K C m f ∧ FnOk P w K mg base CX k f fd ps sp ∧ Binds K fd ps []
structure MakX (CX : CXT) (P : Program) (w : World) (K : PySem.W.Frag) (mg : Str → Option Value) (base : Heap) (k : Nat) (x : Str) (C : Addr) (sp : Sp) : Prop where
  ex : ∃ (f : Addr) (fd : FuncData) (ps : List Str), Mk K C f ∧ FnOk P w K mg base CX k f fd ps sp ∧ mg x = some (.ref C) ∧ Binds K fd ps []
section
variable {X : Cx} {CX : CXT} {k j : Nat} {C : Addr} {x m : Str} {sp : Sp} {p pos apos : Pos} {e o : Expr} {es : List Expr} {ta : TE} {t : TA} {E : XK}
theorem pe_cx (c : CalX CX X.prog X.w X.K X.mg X.base k x sp) (hr : Room j X.A) (hk : k ≤ j) (hg : Gl X x) (hx : Passes CX X E) (ha : PA X (e :: es) t)
    (hdb : (x == ("__debug__" : Str)) = false := by decide) (he : starEach (e :: es) X.env = (false, eval e X.env) :: starEach es X.env := by rfl) (hpl : (backTo pos (starEach es X.env)).any (·.1) = false := by rfl) :
    PE X (.Call (.Name x p) (e :: es) [] pos) (tCall sp [] E t) := by
  obtain ⟨f, fd, ps, F, hm, hkp, hb⟩ := c.ex
  exact pe_call F (hr.mono hk) hg hm hkp hb .nil hx ha hdb he hpl
theorem pe_mx {pl : Sem Bool} (c : MetX CX X.prog X.w X.K X.mg X.base k C m sp) (hr : Room j X.A) (hk : k ≤ j) (he : PE X o ta) (hx : Passes CX X E) (ha : PA X (e :: es) t)
    (hst : starEach (e :: es) X.env = (false, eval e X.env) :: starEach es X.env := by rfl) (hpl : (backTo pos (starEach es X.env)).any (·.1) = false := by rfl)
    (ht : eval (.Call (.Attribute o m apos) (e :: es) [] pos) X.env = (do
      let ov ← eval o X.env
      standAt apos.atName
      let (f, first) ← holding [ov] (getMethod ov m pl)
      callWith pos f first (backTo pos (starEach (e :: es) X.env)) (backToKw pos (keywordEach [] X.env))) := by rfl) :
    PE X (.Call (.Attribute o m apos) (e :: es) [] pos) (tMeth C m sp [] E ta t) := by
  obtain ⟨f, fd, ps, hc, hm, F, b⟩ := c.ex
  exact pe_meth (pl := pl) he hc hm F (hr.mono hk) b .nil hx ha hst hpl ht
theorem pe_mx0 {pl : Sem Bool} (c : MetX CX X.prog X.w X.K X.mg X.base k C m sp) (hr : Room j X.A) (hk : k ≤ j) (he : PE X o ta) (hx : Passes CX X E)
    (ht : eval (.Call (.Attribute o m apos) [] [] pos) X.env = (do
      let ov ← eval o X.env
      standAt apos.atName
      let (f, first) ← holding [ov] (getMethod ov m pl)
      callWith pos f first (backTo pos (starEach [] X.env)) (backToKw pos (keywordEach [] X.env))) := by rfl) :
    PE X (.Call (.Attribute o m apos) [] [] pos) (tMeth C m sp [] E ta tNil) := by
  obtain ⟨f, fd, ps, hc, hm, F, b⟩ := c.ex
  exact pe_meth0 (pl := pl) he hc hm F (hr.mono hk) b .nil hx ht
/-- a field, the written part by its own name (within a comprehension) -/
theorem pe_fldK {K : PySem.W.Frag} {f : Str} (hK : X.K = K) (ha : PE X e ta) (hb : attributeBase e f X.env (eval e X.env) = eval e X.env := by rfl) : PE X (.Attribute e f pos) (tFld K ta f) := by
  subst hK
  exact pe_fld ha hb
theorem pe_mkx (c : MakX CX X.prog X.w X.K X.mg X.base k x C sp) (hr : Room j X.A) (hk : k + 1 ≤ j) (hg : Gl X x) (hx : Passes CX X E) (ha : PA X (e :: es) t)
    (hdb : (x == ("__debug__" : Str)) = false := by decide) (he : starEach (e :: es) X.env = (false, eval e X.env) :: starEach es X.env := by rfl) (hpl : (backTo pos (starEach es X.env)).any (·.1) = false := by rfl) :
    PE X (.Call (.Name x p) (e :: es) [] pos) (tMake C sp [] E t) := by
  obtain ⟨f, fd, ps, M, F, hm, b⟩ := c.ex
  exact pe_make M F (hr.mono hk) hg hm b .nil hx ha hdb he hpl
end
section
variable {P : Program} {w : World} {K : PySem.W.Frag} {mg : Str → Option Value} {base : Heap}
theorem g_BusError (T : Txt P w K mg base) : mg "BusError" = some (.ref (He.ga K "BusError")) := He.glo_ok T.X T.G (T.t.fact 25)
theorem g_BadWidth (T : Txt P w K mg base) : mg "BadWidth" = some (.ref (He.ga K "BadWidth")) := He.glo_ok T.X T.G (T.t.fact 26)
theorem g_BadNumber (T : Txt P w K mg base) : mg "BadNumber" = some (.ref (He.ga K "BadNumber")) := He.glo_ok T.X T.G (T.t.fact 27)
theorem g_BadKind (T : Txt P w K mg base) : mg "BadKind" = some (.ref (He.ga K "BadKind")) := He.glo_ok T.X T.G (T.t.fact 28)
theorem g_BadBit (T : Txt P w K mg base) : mg "BadBit" = some (.ref (He.ga K "BadBit")) := He.glo_ok T.X T.G (T.t.fact 29)
theorem g_There (T : Txt P w K mg base) : mg "There" = some (.ref (He.ga K "There")) := He.glo_ok T.X T.G (T.t.fact 30)
theorem g_NotThere (T : Txt P w K mg base) : mg "NotThere" = some (.ref (He.ga K "NotThere")) := He.glo_ok T.X T.G (T.t.fact 31)
theorem g_NoRound (T : Txt P w K mg base) : mg "NoRound" = some (.ref (He.ga K "NoRound")) := He.glo_ok T.X T.G (T.t.fact 32)
theorem g_Over (T : Txt P w K mg base) : mg "Over" = some (.ref (He.ga K "Over")) := He.glo_ok T.X T.G (T.t.fact 33)
theorem g_BadLooks (T : Txt P w K mg base) : mg "BadLooks" = some (.ref (He.ga K "BadLooks")) := He.glo_ok T.X T.G (T.t.fact 34)
theorem g_Wire (T : Txt P w K mg base) : mg "Wire" = some (.ref (He.ga K "Wire")) := He.glo_ok T.X T.G (T.t.fact 35)
theorem g_Walk (T : Txt P w K mg base) : mg "Walk" = some (.ref (He.ga K "Walk")) := He.glo_ok T.X T.G (T.t.fact 36)
theorem n_super (T : Txt P w K mg base) : mg "super" = none := He.free_ok T.X T.G (T.t.fact 42)
theorem n_isinstance (T : Txt P w K mg base) : mg "isinstance" = none := He.free_ok T.X T.G (T.t.fact 43)
theorem n_bool (T : Txt P w K mg base) : mg "bool" = none := He.free_ok T.X T.G (T.t.fact 44)
theorem n_all (T : Txt P w K mg base) : mg "all" = none := He.free_ok T.X T.G (T.t.fact 45)
theorem n_str (T : Txt P w K mg base) : mg "str" = none := He.free_ok T.X T.G (T.t.fact 46)
theorem n_len (T : Txt P w K mg base) : mg "len" = none := He.free_ok T.X T.G (T.t.fact 47)
theorem n_sorted (T : Txt P w K mg base) : mg "sorted" = none := He.free_ok T.X T.G (T.t.fact 48)
theorem n_range (T : Txt P w K mg base) : mg "range" = none := He.free_ok T.X T.G (T.t.fact 49)
theorem n_enumerate (T : Txt P w K mg base) : mg "enumerate" = none := He.free_ok T.X T.G (T.t.fact 50)
theorem n_list (T : Txt P w K mg base) : mg "list" = none := He.free_ok T.X T.G (T.t.fact 51)
theorem n_int (T : Txt P w K mg base) : mg "int" = none := He.free_ok T.X T.G (T.t.fact 52)
theorem n_max (T : Txt P w K mg base) : mg "max" = none := He.free_ok T.X T.G (T.t.fact 53)
theorem n_set (T : Txt P w K mg base) : mg "set" = none := He.free_ok T.X T.G (T.t.fact 54)
theorem n_ValueError (T : Txt P w K mg base) : mg "ValueError" = none := He.free_ok T.X T.G (T.t.fact 55)
theorem xc_KINDS (T : Txt P w K mg base) : tupB K "KINDS" [.str "all", .str "alarm"] = true := (He.ba (He.ba T.m).2).1
end
section
variable {X : Cx}
theorem g_LEAST_WIDTH (T : Txt X.prog X.w X.K X.mg X.base) {p : Pos} (hg : Gl X "LEAST_WIDTH" := by rfl) : PE X (.Name "LEAST_WIDTH" p) (tC (.int 1)) := by
  obtain ⟨t, e⟩ := He.int_ok T.X T.G (T.t.fact 37 (f := .int "LEAST_WIDTH" 1))
  exact pe_glob hg e ⟨t, rfl⟩
theorem g_GREATEST_WIDTH (T : Txt X.prog X.w X.K X.mg X.base) {p : Pos} (hg : Gl X "GREATEST_WIDTH" := by rfl) : PE X (.Name "GREATEST_WIDTH" p) (tC (.int 12)) := by
  obtain ⟨t, e⟩ := He.int_ok T.X T.G (T.t.fact 38 (f := .int "GREATEST_WIDTH" 12))
  exact pe_glob hg e ⟨t, rfl⟩
theorem g_KINDS (T : Txt X.prog X.w X.K X.mg X.base) {p : Pos} (hg : Gl X "KINDS" := by rfl) : PE X (.Name "KINDS" p) (tC (.ref (He.ga X.K "KINDS"))) :=
  pe_glob hg (He.glo_ok T.X T.G (T.t.fact 41)) rfl
end
/-- a test whose answer is open -/
theorem iteB {b : Bool} {A B : Prop} (h1 : b = true → A) (h2 : b = false → B) : if b = true then A else B := by
  cases b with
  | true => exact iteT (h1 rfl)
  | false => exact iteF (h2 rfl)
/-! ### drawing -/
/-- the row of a draw -/
abbrev rowO (a : Addr) (i m b : Int) : HO := .lst [.ref a, .int i, .int m, .int b]
/-- the row at r stands over the script at a -/
def RowAt (r a : Addr) (H : Hp) : Prop := ∃ i m b : Int, H r = some (rowO a i m b) ∧ 0 ≤ i
/-- the script stands at a -/
def Scr (K : PySem.W.Frag) (a : Addr) (H : Hp) : Prop := ∃ ns : List Int, SqL K H a (ns.map V.int)
/-- no list but of objects, no tuple -/
def nl : HO → Bool
  | .ins _ _ _ => true
  | .dK _ => true
  | .lst (.ref _ :: _) => true
  | _ => false
def NL (S : List Addr) (H : Hp) : Prop := ∀ s ∈ S, ∃ o, H s = some o ∧ nl o = true
theorem NL.nil {H : Hp} : NL [] H := fun _ h => absurd h (by simp)
theorem NL.cons {S : List Addr} {H : Hp} {s : Addr} {o : HO} (h : H s = some o) (n : nl o = true) (t : NL S H) : NL (s :: S) H := fun c hc => by
  rcases List.mem_cons.mp hc with e | e
  · rw [e]
    exact ⟨o, h, n⟩
  · exact t c e
theorem RowAt.nl {r a : Addr} {H : Hp} (h : RowAt r a H) : NL [r] H := by
  obtain ⟨i, m, b, e, _⟩ := h
  exact .cons e rfl .nil
/-- a code table: only its own rules say what becomes of it -/
def isT : HO → Bool
  | .tbl _ => true
  | _ => false
/-- what stood stands, but for the objects of S; nothing goes -/
structure Frm (S : List Addr) (H H' : Hp) : Prop where
  k : ∀ b o, H b = some o → 0 = 0 → b ∉ S → H' b = some o
  b : ∀ b, H' b = none → H b = none
theorem Frm.refl (S : List Addr) (H : Hp) : Frm S H H := ⟨fun _ _ h _ _ => h, fun _ h => h⟩
theorem Frm.trans {S : List Addr} {H H1 H2 : Hp} (a : Frm S H H1) (b : Frm S H1 H2) : Frm S H H2 := ⟨fun c o h t n => b.k c o (a.k c o h t n) t n, fun c h => a.b c (b.b c h)⟩
theorem Frm.mono {S S' : List Addr} {H H1 : Hp} (a : Frm S H H1) (h : ∀ x ∈ S, x ∈ S') : Frm S' H H1 := ⟨fun c o e t n => a.k c o e t fun z => n (h c z), a.b⟩
theorem Frm.of {S : List Addr} {H H1 : Hp} (a : Same H H1) : Frm S H H1 := ⟨fun c o e _ _ => a c o e, fun c h => a.free h⟩
theorem upd_back {H : Hp} {p b : Addr} {o : HO} (h : upd H p o b = none) : H b = none := by
  by_cases e : b = p
  · rw [e, upd_same] at h
    cases h
  · rw [upd_ne e] at h
    exact h
theorem Frm.new {S : List Addr} {H H1 : Hp} {p : Addr} {o : HO} (a : Frm S H H1) (h : H p = none) : Frm S H (upd H1 p o) := ⟨fun c u e t n => by
  rw [upd_ne (ne_of_none e h)]
  exact a.k c u e t n, fun c z => a.b c (upd_back z)⟩
theorem Frm.put {S : List Addr} {H H1 : Hp} {p : Addr} {o : HO} (a : Frm S H H1) (h : p ∈ S) : Frm S H (upd H1 p o) := ⟨fun c u e t n => by
  rw [upd_ne (fun z => n (by rw [z]; exact h))]
  exact a.k c u e t n, fun c z => a.b c (upd_back z)⟩
theorem same_upd {H : Hp} {p : Addr} {o : HO} (h : H p = none) : Same H (upd H p o) := fun b x e => by
  rw [upd_ne (ne_of_none e h)]
  exact e
/-- what is no nl stands -/
theorem Frm.at {S : List Addr} {H H' : Hp} {p : Addr} {o : HO} (f : Frm S H H') (n : NL S H) (h : H p = some o) (h1 : isT o = false) (h2 : B.nl o = false) : H' p = some o :=
  f.k p o h rfl fun z => by
    obtain ⟨u, e, q⟩ := n p z
    rw [h] at e
    cases e
    rw [h2] at q
    cases q
theorem nl_strs (xs : List Str) : B.nl (.lst (xs.map V.str)) = false := by
  cases xs <;> rfl
theorem nl_ints (xs : List Int) : B.nl (.lst (xs.map V.int)) = false := by
  cases xs <;> rfl
theorem Frm.scr {K : PySem.W.Frag} {S : List Addr} {H H' : Hp} {a : Addr} (f : Frm S H H') (n : NL S H) (h : Scr K a H) : Scr K a H' := by
  obtain ⟨ns, (h | ⟨u, h⟩) | h⟩ := h
  · exact ⟨ns, .inl (.inl (f.at n h rfl (nl_ints ns)))⟩
  · exact ⟨ns, .inl (.inr ⟨u, f.at n h rfl rfl⟩)⟩
  · exact ⟨ns, .inr h⟩
theorem Frm.row {S : List Addr} {H H' : Hp} {r a : Addr} (f : Frm S H H') (hr : r ∉ S) (h : RowAt r a H) : RowAt r a H' := by
  obtain ⟨i, m, b, e, h0⟩ := h
  exact ⟨i, m, b, f.k r _ e rfl hr, h0⟩
/-- a number below n; the row turned -/
def spTaken (K : PySem.W.Frag) : Sp := fun vs H Q _ => ∃ (r a : Addr) (n : Int), vs = [.ref r, .int n] ∧ RowAt r a H ∧ Scr K a H ∧ 0 < n ∧ n < 1073741824 ∧
  ∀ (v : Int) (H' : Hp), 0 ≤ v → v < n → RowAt r a H' → Frm [r] H H' → Q (.int v) H'
theorem fmod_in {x n : Int} (h : 0 < n) : 0 ≤ x.fmod n ∧ x.fmod n < n := by
  rw [Int.fmod_eq_emod_of_nonneg _ (by omega)]
  exact ⟨Int.emod_nonneg _ (by omega), Int.emod_lt_of_pos _ h⟩
section
variable {P : Program} {w : World} {K : PySem.W.Frag} {mg : Str → Option Value} {base : Heap}
theorem c_ltaken (T : Txt P w K mg base) : CalX CX0 P w K mg base 1 "_law_taken" (spTaken K) := by
  obtain ⟨fd, F⟩ := T.t.def_ 34 (d := d_ltaken)
  refine ⟨_, fd, _, F.ok sc_ltaken (fun vs H Q E h => ?_) (fun cdv A outer s H vs Q E hr h => ?_), He.glo_ok T.X T.G (T.t.fact 15), F.kp, F.bindsN fun _ _ _ _ _ _ us hl => match us, hl with | [_, _], _ => rfl⟩
  · obtain ⟨r, a, n, rfl, _⟩ := h
    rfl
  · obtain ⟨r, a, n, rfl, ⟨i, m, b, h1, hi⟩, ⟨ns, hS⟩, hn, hn2, k0⟩ := h
    have f1 : ∀ o', Frm [r] H (upd H r o') := fun o' => (Frm.refl _ _).put (List.mem_singleton.mpr rfl)
    have k : ∀ v i' m' b' : Int, 0 ≤ i' → 0 ≤ v → v < n → Q (.int v) (upd H r (rowO a i' m' b')) := fun v i' m' b' h2 h3 h4 =>
      k0 v _ h3 h4 ⟨i', m', b', upd_same, h2⟩ (f1 _)
    refine ⟨_, PSs.nox (pss_cons (ps_if (pt_cmpR op_gt (pe_ix ix_list (pv 0) pe_int (fun _ _ => rfl)) pe_int (nomark _))
      (pss_cons (ps_set (i := 2) sc_ltaken.nd rfl (Or.inl rfl) (pe_op op_modN (pe_ix ix_list (pv 0) pe_int (fun _ _ => rfl)) (pv 1)))
      (pss_cons (ps_asg (pe_op op_fdivN (pe_ix ix_list (pv 0) pe_int (fun _ _ => rfl)) (pv 1)) (pg_sub (pv 0) pe_int set_list))
      (pss_one (ps_ret (pv 2)))))
      pss_nil)
    (pss_cons (ps_asg (pe_op op_add (pe_ix ix_list (pv 0) pe_int (fun _ _ => rfl)) pe_int) (pg_sub (pv 0) pe_int set_list))
    (pss_cons (ps_if (pt_cmpR op_gt (pe_ix ix_list (pv 0) pe_int (fun _ _ => rfl)) (pe_callB call_len_seq (by rfl) (n_len T) PySem.boot_len (pa_cons (pe_ix ix_list (pv 0) pe_int (fun _ _ => rfl)) pa_nil)) (nomark _))
      (pss_cons (ps_asg (pe_op op_mod (pe_op op_add (pe_op op_mul (pe_ix ix_list (pv 0) pe_int (fun _ _ => rfl)) pe_int) pe_int) pe_int) (pg_sub (pv 0) pe_int set_list))
      (pss_one (ps_ret (pe_op op_modN (pe_op op_fdiv (pe_ix ix_list (pv 0) pe_int (fun _ _ => rfl)) pe_int) (pv 1)))))
      pss_nil)
    (pss_cons (ps_set (i := 3) sc_ltaken.nd rfl (Or.inl rfl) (pe_ix ix_list (pe_ix ix_list (pv 0) pe_int (fun _ _ => rfl)) (pe_op op_sub (pe_ix ix_list (pv 0) pe_int (fun _ _ => rfl)) pe_int) (fun _ _ => rfl)))
    (pss_cons (ps_asg (pe_op op_mod (pe_op op_add (pe_op op_add (pe_op op_mul (pe_ix ix_list (pv 0) pe_int (fun _ _ => rfl)) pe_int) (pv 3)) pe_int) pe_int) (pg_sub (pv 0) pe_int set_list))
    (pss_cons (ps_if (pt_cmpR op_ge (pv 3) (pe_op op_pow pe_int pe_int) (nomark _))
      (pss_one (ps_asg (pe_op op_fdivN (pv 3) (pv 1)) (pg_sub (pv 0) pe_int set_list)))
      pss_nil)
    (pss_one (ps_ret (pe_op op_modN (pv 3) (pv 1)))))))))), ?_⟩
    have hd : n ≠ 0 ∧ n.natAbs < 1073741824 := by omega
    -- if row[3] > 0
    refine ⟨_, rfl, r, _, 3, .int b, rfl, rfl, SqL.of h1, rfl, b, 0, rfl, rfl, _, rfl, iteB (fun c => ?_) (fun c => ?_)⟩
    · refine ⟨_, rfl, r, _, 3, .int b, rfl, rfl, SqL.of h1, rfl, _, rfl, b, n, rfl, rfl, (by omega), ?_⟩
      refine ⟨_, rfl, r, _, 3, .int b, rfl, rfl, SqL.of h1, rfl, _, rfl, b, n, rfl, rfl, hd, ?_⟩
      refine ⟨_, rfl, r, _, 3, 3, rfl, rfl, h1, rfl, ?_⟩
      refine ⟨_, rfl, ?_⟩
      exact k _ i m _ hi (fmod_in hn).1 (fmod_in hn).2
    · -- row[1] = row[1] + 1
      refine ⟨_, rfl, r, _, 1, .int i, rfl, rfl, SqL.of h1, rfl, i, 1, rfl, rfl, ?_⟩
      refine ⟨_, rfl, r, _, 1, 1, rfl, rfl, h1, rfl, ?_⟩
      have h2 : (upd H r (rowO a (i + 1) m b)) r = some (rowO a (i + 1) m b) := upd_same
      have S2 : SqL K (upd H r (rowO a (i + 1) m b)) a (ns.map V.int) := by
        rcases hS with (z | ⟨u, z⟩) | z
        · exact .inl (.inl ((f1 _).at (RowAt.nl ⟨i, m, b, h1, hi⟩) z rfl (nl_ints ns)))
        · exact .inl (.inr ⟨u, (f1 _).at (RowAt.nl ⟨i, m, b, h1, hi⟩) z rfl rfl⟩)
        · exact .inr z
      -- if row[1] > len(row[0])
      refine ⟨_, rfl, r, _, 1, .int (i + 1), rfl, rfl, SqL.of h2, rfl, _, rfl, r, _, 0, .ref a, rfl, rfl, SqL.of h2, rfl, a, _, rfl, .inl S2, _, _, rfl, rfl, _, rfl, iteB (fun c => ?_) (fun c => ?_)⟩
      · refine ⟨_, rfl, r, _, 2, .int m, rfl, rfl, SqL.of h2, rfl, m, 48271, rfl, rfl, .inr (by decide), _, 11, rfl, rfl, _, 2147483647, rfl, rfl, (by show (0 : Int) < 2147483647; decide), ?_⟩
        refine ⟨_, rfl, r, _, 2, 2, rfl, rfl, h2, rfl, ?_⟩
        refine ⟨_, rfl, r, _, 2, _, rfl, rfl, SqL.of upd_same, rfl, _, 7, rfl, rfl, ⟨by decide, by decide⟩, _, rfl, _, n, rfl, rfl, (by omega), ?_⟩
        rw [upd_upd]
        exact k _ (i + 1) _ b (by omega) (fmod_in hn).1 (fmod_in hn).2
      · have hlt : i.toNat < ns.length := by
          have c' := of_decide_eq_false c
          rw [List.length_map] at c'
          omega
        have hat : atI (ns.map V.int) (i + 1 - 1) = some (.int ns[i.toNat]) := by
          have e : i + 1 - 1 = ((i.toNat : Nat) : Int) := by omega
          rw [e]
          exact atI_nat (by rw [List.getElem?_map, List.getElem?_eq_getElem hlt]; rfl)
        refine ⟨_, rfl, r, _, 0, .ref a, rfl, rfl, SqL.of h2, rfl, _, rfl, r, _, 1, .int (i + 1), rfl, rfl, SqL.of h2, rfl, _, 1, rfl, rfl, a, _, _, _, rfl, rfl, S2, hat, ?_⟩
        refine ⟨_, rfl, r, _, 2, .int m, rfl, rfl, SqL.of h2, rfl, m, 48271, rfl, rfl, .inr (by decide), _, rfl, _, _, rfl, rfl, _, 11, rfl, rfl, _, 2147483647, rfl, rfl, (by show (0 : Int) < 2147483647; decide), ?_⟩
        refine ⟨_, rfl, r, _, 2, 2, rfl, rfl, h2, rfl, ?_⟩
        refine ⟨_, rfl, 10, 18, rfl, rfl, ⟨by decide, by decide, by decide⟩, _, _, rfl, rfl, _, rfl, iteB (fun c => ?_) (fun c => ?_)⟩
        · refine ⟨_, rfl, _, rfl, _, n, rfl, rfl, hd, _, rfl, r, _, 3, 3, rfl, rfl, upd_same, rfl, ?_⟩
          refine ⟨_, rfl, _, rfl, _, n, rfl, rfl, (by omega), ?_⟩
          rw [upd_upd, upd_upd]
          exact k _ (i + 1) _ _ (by omega) (fmod_in hn).1 (fmod_in hn).2
        · refine ⟨_, rfl, _, rfl, _, n, rfl, rfl, (by omega), ?_⟩
          rw [upd_upd]
          exact k _ (i + 1) _ b (by omega) (fmod_in hn).1 (fmod_in hn).2
end
end B

set_option Elab.async false
set_option linter.all false
set_option maxRecDepth 100000
set_option maxHeartbeats 4000000
namespace B
open PySem PySem.Spec PyProof.Rows L2
open SX (S)
/-! ### texts of signs 0 and 1 -/
def Bits (l : List Nat) : Prop := ∀ c ∈ l, c = 48 ∨ c = 49
/-- a number of the width W -/
def Num (W : Nat) (x : Str) : Prop := ∃ l, x = S l ∧ l.length = W ∧ Bits l
theorem Bits.nil : Bits [] := fun _ h => absurd h (by simp)
theorem Bits.snoc {l : List Nat} {c : Nat} (h : Bits l) (hc : c = 48 ∨ c = 49) : Bits (l ++ [c]) := fun d hd => by
  rcases List.mem_append.mp hd with z | z
  · exact h d z
  · rw [List.mem_singleton.mp z]
    exact hc
theorem Bits.app {l m : List Nat} (h : Bits l) (h2 : Bits m) : Bits (l ++ m) := fun d hd => by
  rcases List.mem_append.mp hd with z | z
  · exact h d z
  · exact h2 d z
theorem Bits.take {l : List Nat} (n : Nat) (h : Bits l) : Bits (l.take n) := fun d hd => h d (List.mem_of_mem_take hd)
theorem Bits.drop {l : List Nat} (n : Nat) (h : Bits l) : Bits (l.drop n) := fun d hd => h d (List.mem_of_mem_drop hd)
theorem joinL_signs : ∀ cs : List Nat, TL.joinL [] (cs.map fun c => [c]) = cs
  | [] => rfl
  | [c] => rfl
  | c :: d :: r => by
    show [c] ++ ([] ++ TL.joinL [] ((d :: r).map fun c => [c])) = c :: d :: r
    rw [joinL_signs (d :: r)]
    rfl
theorem empty_S : ("" : Str) = S [] := by decide +kernel
theorem join_signs (cs : List Nat) : Txt.join "" (cs.map fun c => S [c]) = S cs := by
  have e : cs.map (fun c => S [c]) = (cs.map fun c => [c]).map S := by rw [List.map_map]; rfl
  rw [empty_S, e, SX.join_S, joinL_signs]
theorem sum_signs (cs : List Nat) : ((cs.map fun c => S [c]).map (·.length)).sum = cs.length := by
  induction cs with
  | nil => rfl
  | cons c r ih =>
    rw [List.map_cons, List.map_cons, List.sum_cons, ih, SX.S_len, List.length_cons]
    show 1 + r.length = r.length + 1
    omega
theorem op_rep_str {X : Cx} : OpR X (binaryOp .Mult) (fun x y H Q => ∃ z k, x = .str z ∧ y = .int k ∧ PySem.MulOk z k ∧ Q (.str (Txt.mul z k)) H) := by
  intro pins s σ H x y v u Q I rx ry h
  obtain ⟨z, k, rfl, rfl, ok, q⟩ := h
  obtain ⟨t, rfl⟩ := rx
  obtain ⟨t', rfl⟩ := ry
  exact PySem.SB.mul ok fun t' tk => ⟨.str _, H, I.tok _, ⟨_, rfl⟩, q⟩
theorem zeros_ok : ∀ n : Nat, n ≤ 12 → PySem.MulOk "0" (n : Int) := fun n hn => by
  have z : (List.range 13).all (fun n => (decide (((n : Nat) : Int) < -(2 ^ 63 : Int)) || decide (((n : Nat) : Int) ≥ 2 ^ 63)) == false && (decide (((n : Nat) : Int) < 1) || (!decide ((("0" : Str).length : Int) > (2 ^ 63 - 1) / ((n : Nat) : Int)) && (Builtin.Str.tooLong (("0" : Str).length * n) == false)))) = true := by decide +kernel
  have q := List.all_eq_true.mp z n (List.mem_range.mpr (by omega))
  simp only [Bool.and_eq_true, Bool.or_eq_true, decide_eq_true_eq, beq_iff_eq, Bool.not_eq_true', decide_eq_false_iff_not] at q
  refine ⟨q.1, fun h1 _ => ?_, fun h1 _ => ?_⟩
  · rcases q.2 with a | a
    · exact absurd a h1
    · exact a.1
  · rcases q.2 with a | a
    · exact absurd a h1
    · rw [Int.toNat_natCast]
      exact a.2
theorem zeros_is : ∀ n : Nat, n ≤ 12 → Txt.mul "0" (n : Int) = S (List.replicate n 48) := fun n hn => by
  have z : (List.range 13).all (fun n => decide (Txt.mul "0" ((n : Nat) : Int) = S (List.replicate n 48))) = true := by decide +kernel
  exact of_decide_eq_true (List.all_eq_true.mp z n (List.mem_range.mpr (by omega)))
section
variable {P : Program} {w : World} {K : PySem.W.Frag} {mg : Str → Option Value} {base : Heap}
theorem RowAt.ne {r a p : Addr} {H : Hp} {o : HO} (h : RowAt r a H) (n : r ≠ p) : RowAt r a (upd H p o) := by
  obtain ⟨i, m, b, z, h0⟩ := h
  exact ⟨i, m, b, by rw [upd_ne n]; exact z, h0⟩
theorem RowAt.out {r a p : Addr} {H : Hp} (h : RowAt r a H) (n : H p = none) : r ≠ p := by
  obtain ⟨i, m, b, z, h0⟩ := h
  exact ne_of_none z n
/-- a number, each sign drawn -/
def spNumber (K : PySem.W.Frag) : Sp := fun vs H Q _ => ∃ (r a : Addr) (W : Nat), vs = [.ref r, .int W] ∧ RowAt r a H ∧ Scr K a H ∧ W ≤ 12 ∧
  ∀ (x : Str) (H' : Hp), Num W x → RowAt r a H' → Frm [r] H H' → Q (.str x) H'
theorem c_lnumber (T : Txt P w K mg base) : CalX CX0 P w K mg base 2 "_law_number" (spNumber K) := by
  obtain ⟨fd, F⟩ := T.t.def_ 35 (d := d_lnumber)
  refine ⟨_, fd, _, F.ok sc_lnumber (fun vs H Q E h => ?_) (fun cdv A outer s H vs Q E hr h => ?_), He.glo_ok T.X T.G (T.t.fact 16), F.kp, F.bindsN fun _ _ _ _ _ _ us hl => match us, hl with | [_, _], _ => rfl⟩
  · obtain ⟨r, a, W, rfl, _⟩ := h
    rfl
  · obtain ⟨r, a, W, rfl, hR, hS, hW, k⟩ := h
    refine ⟨_, PSs.nox (pss_one (ps_ret (pe_join pe_str (pe_lc (own := [("_law_k", 2)]) (g := gName 2) rfl sc_lnumber.nd (pi_range1 rfl (n_range T) (pa_cons (pv 1) pa_nil)) (blkOk_by (N := ["_law_row", "_law_width_here", "_law_k"]) (sc := defScope s_lnumber) (own := [("_law_k", 2)]) (by decide +kernel)) (fun _ _ _ _ _ => pg_name (i := 2) sc_lnumber.nd rfl (Or.inl rfl)) (fun _ _ _ _ _ => pts_nil) (fun _ _ _ _ _ => by exact (pe_ix ix_str pe_str (pe_cx (c_ltaken T) hr (by decide) rfl pass0 (pa_cons (pv 0) (pa_cons pe_int pa_nil))) (fun _ _ => rfl))))))), ?_⟩
    refine ⟨⟨_, rfl⟩, _, rfl, (W : Int), rfl, by omega, by omega, fun D hD => ?_⟩
    have nDr : r ≠ D := hR.out hD
    refine lc_range (lo := 0) (n := (W : Int).toNat) (fun i H' => ∃ cs : List Nat, cs.length = i ∧ Bits cs ∧ H' D = some (.lst ((cs.map fun c => S [c]).map V.str)) ∧ RowAt r a H' ∧ Frm [r] H H')
      ⟨[], rfl, Bits.nil, upd_same, hR.ne nDr, (Frm.refl _ _).new hD⟩ ?_ ?_
    · rintro i H1 hi ⟨cs, hl, hb, hD1, hR1, f1⟩
      refine ⟨rfl, _, rfl, r, a, 2, rfl, hR1, f1.scr hR.nl hS, by decide, by decide, fun v H2 h0 h1 hR2 f2 => ?_⟩
      have hD2 : H2 D = some (.lst ((cs.map fun c => S [c]).map V.str)) := f2.k D _ hD1 rfl (by simpa using nDr.symm)
      have hv : v = 0 ∨ v = 1 := by omega
      have fin : ∀ c : Nat, c = 48 ∨ c = 49 → ∃ acc, H2 D = some (.lst acc) ∧ acc.length < sizeLine ∧ ∃ cs : List Nat, cs.length = i + 1 ∧ Bits cs ∧ (upd H2 D (.lst (acc ++ [V.str ⟨#[c]⟩]))) D = some (.lst ((cs.map fun c => S [c]).map V.str)) ∧ RowAt r a (upd H2 D (.lst (acc ++ [V.str ⟨#[c]⟩]))) ∧ Frm [r] H (upd H2 D (.lst (acc ++ [V.str ⟨#[c]⟩]))) := fun c hc => by
        refine ⟨_, hD2, by rw [List.length_map, List.length_map]; exact small1000 (by omega), cs ++ [c], by rw [List.length_append, hl]; rfl, hb.snoc hc, ?_, ?_, (f1.trans f2).new hD⟩
        · rw [upd_same, List.map_append, List.map_append]
          rfl
        · exact hR2.ne nDr
      rcases hv with rfl | rfl
      · exact ⟨_, _, 48, rfl, rfl, by decide +kernel, by decide +kernel, fin 48 (.inl rfl)⟩
      · exact ⟨_, _, 49, rfl, rfl, by decide +kernel, by decide +kernel, fin 49 (.inr rfl)⟩
    · rintro H1 ⟨cs, hl, hb, hD1, hR1, f1⟩
      refine ⟨_, D, cs.map fun c => S [c], rfl, rfl, .inl (SqL.of hD1), ?_, ?_⟩
      · rw [sum_signs, empty_S, SX.S_len]
        show cs.length + _ * 0 ≤ 16777216
        omega
      · rw [join_signs]
        exact k _ H1 ⟨cs, rfl, by omega, hb⟩ hR1 f1
end
end B

set_option Elab.async false
set_option linter.all false
set_option maxRecDepth 100000
set_option maxHeartbeats 4000000
namespace B
open PySem PySem.Spec PyProof.Rows L2
open SX (S)
/-! ### the order of texts -/
def leS (x y : Str) : Prop := x.cps.toList ≤ y.cps.toList
theorem leS_of {x y : Str} (h : ltCps y.cps.toList x.cps.toList = false) : leS x y := by
  rw [ltCps_eq] at h
  exact of_decide_eq_false h
theorem of_leS {x y : Str} (h : leS x y) : ltCps y.cps.toList x.cps.toList = false := by
  rw [ltCps_eq]
  exact decide_eq_false h
theorem leS_trans {x y z : Str} (h1 : leS x y) (h2 : leS y z) : leS x z := List.le_trans h1 h2
theorem leS_antisymm {x y : Str} (h1 : leS x y) (h2 : leS y x) : x = y := TL.ext_tl (List.le_antisymm h1 h2)
theorem rising_pw : ∀ (r : List Str) (x : Str), risingS x r = true → (x :: r).Pairwise leS
  | [], x, _ => by simp
  | y :: r, x, h => by
    have h' : (!ltCps y.cps.toList x.cps.toList && risingS y r) = true := h
    rw [Bool.and_eq_true, Bool.not_eq_true'] at h'
    have ih := rising_pw r y h'.2
    refine List.pairwise_cons.mpr ⟨fun z hz => ?_, ih⟩
    have hxy : leS x y := leS_of h'.1
    rcases List.mem_cons.mp hz with e | e
    · rw [e]
      exact hxy
    · exact leS_trans hxy ((List.pairwise_cons.mp ih).1 z e)
theorem sorted_pw : ∀ {l : List Str}, sortedS l = true → l.Pairwise leS
  | [], _ => .nil
  | x :: r, h => rising_pw r x h
theorem pw_sorted {l : List Str} (h : l.Pairwise leS) : sortedS l = true := sortedS_of_pairwise l (h.imp of_leS)
theorem pw_perm_eq : ∀ {l m : List Str}, l.Pairwise leS → m.Pairwise leS → l.Perm m → l = m
  | [], m, _, _, p => (List.perm_nil.mp p.symm).symm
  | x :: r, [], _, _, p => absurd (List.perm_nil.mp p) (by simp)
  | x :: r, y :: t, h1, h2, p => by
    have a1 := List.pairwise_cons.mp h1
    have a2 := List.pairwise_cons.mp h2
    have e : x = y := by
      have hx : x ∈ y :: t := p.mem_iff.mp List.mem_cons_self
      have hy : y ∈ x :: r := p.mem_iff.mpr List.mem_cons_self
      rcases List.mem_cons.mp hx with e | e
      · exact e
      · rcases List.mem_cons.mp hy with e' | e'
        · exact e'.symm
        · exact leS_antisymm (a1.1 y e') (a2.1 x e)
    subst e
    rw [pw_perm_eq a1.2 a2.2 (List.Perm.cons_inv p)]
theorem sorted_eq {l m : List Str} (h1 : sortedS l = true) (h2 : sortedS m = true) (p : l.Perm m) : l = m := pw_perm_eq (sorted_pw h1) (sorted_pw h2) p
/-- a sorted list, some left out -/
theorem sorted_filter {l : List Str} (f : Str → Bool) (h : sortedS l = true) : sortedS (l.filter f) = true := pw_sorted ((sorted_pw h).filter f)
/-! ### data: lists of texts -/
theorem strOk_bits {l : List Nat} (h : Bits l) : PyData.strOk (S l) = true := by
  show (S l).cps.all (· < 0x110000) = true
  rw [Array.all_eq_true']
  intro c hc
  have z : c ∈ l := by simpa [SX.S] using hc
  rcases h c z with e | e <;> (subst e; rfl)
theorem strOk_num {W : Nat} {x : Str} (h : Num W x) : PyData.strOk x = true := by
  obtain ⟨l, rfl, _, b⟩ := h
  exact strOk_bits b
theorem shaped_strs {xs : List Str} (h : ∀ x ∈ xs, PyData.strOk x = true) : SeqAt.shaped (.list (xs.map .str)) = true := by
  have e1 : (PyData.list (xs.map .str)).canLay0 = true := by
    show PyData.canLayAll0 (xs.map .str) = true
    rw [canLayAll_strs']
    exact List.all_eq_true.mpr h
  have e2 : (PyData.list (xs.map .str)).depth ≤ 64 := by
    show PyData.depthAll (xs.map .str) + 1 ≤ 64
    rw [depthAll_strs']
    decide
  show ((PyData.list (xs.map .str)).canLay0 && decide ((PyData.list (xs.map .str)).depth ≤ 64)) = true
  rw [e1, decide_eq_true e2]
  rfl
theorem dp_strs {K : PySem.W.Frag} {H : Hp} : ∀ (xs : List Str), DpAll K H (xs.map V.str) (xs.map .str)
  | [] => .nil
  | x :: r => .cons (.str x) (dp_strs r)
theorem eqv_empty (xs : List Str) : PyData.eqv (.list (xs.map .str)) (.list []) = xs.isEmpty := by
  cases xs <;> rfl
end B

set_option Elab.async false
set_option linter.all false
set_option maxRecDepth 100000
set_option maxHeartbeats 4000000
namespace B
open PySem PySem.Spec PyProof.Rows L2
open SX (S)
/-- a part of a list is of its items -/
theorem cutV_strs (xs : List Str) (lo hi : Option Int) : ∃ ys : List Str, cutV (xs.map V.str) lo hi = ys.map V.str ∧ (∀ y ∈ ys, y ∈ xs) ∧ ys.length ≤ xs.length ∧ ys.Sublist xs := by
  refine ⟨(xs.drop (HT.sIx (xs.map V.str).length 0 lo)).take (HT.sIx (xs.map V.str).length (xs.map V.str).length hi - HT.sIx (xs.map V.str).length 0 lo), ?_, fun y h => List.mem_of_mem_drop (List.mem_of_mem_take h), ?_, (List.take_sublist _ _).trans (List.drop_sublist _ _)⟩
  · unfold cutV
    rw [List.map_take, List.map_drop]
  · rw [List.length_take, List.length_drop]
    omega
theorem num_len {W : Nat} {x : Str} (h : Num W x) : x.length = W := by
  obtain ⟨l, rfl, e, _⟩ := h
  rw [SX.S_len, e]
theorem size12 {n : Nat} (h : n ≤ 100) : n ≤ sizeLine := Nat.le_trans h (by decide)
/-- an item of a list at a place below its length -/
theorem at_strs {xs : List Str} {v : Int} (h0 : 0 ≤ v) (h1 : v < (xs.length : Int)) : ∃ x ∈ xs, atI (xs.map V.str) v = some (.str x) := by
  obtain ⟨n, rfl⟩ : ∃ n : Nat, v = (n : Int) := ⟨v.toNat, by omega⟩
  have hlt : n < xs.length := by omega
  exact ⟨xs[n], List.getElem_mem hlt, atI_nat (by rw [List.getElem?_map, List.getElem?_eq_getElem hlt]; rfl)⟩
/-- the front of one number, the rest of another -/
theorem num_mix {W : Nat} {x y : Str} (hx : Num W x) (hy : Num W y) {i : Int} (h0 : 0 ≤ i) : Num W (Txt.slice x none (some i) ++ Txt.slice y (some i) none) := by
  obtain ⟨l, rfl, e1, b1⟩ := hx
  obtain ⟨m, rfl, e2, b2⟩ := hy
  rw [SX.slice_to h0, SX.slice_from h0, SX.S_cat]
  refine ⟨_, rfl, ?_, (b1.take _).app (b2.drop _)⟩
  rw [List.length_append, List.length_take, List.length_drop]
  omega
theorem slice_len {W : Nat} {x : Str} (hx : Num W x) {i : Int} (h0 : 0 ≤ i) : (Txt.slice x none (some i)).length ≤ W ∧ (Txt.slice x (some i) none).length ≤ W := by
  obtain ⟨l, rfl, e1, b1⟩ := hx
  rw [SX.slice_to h0, SX.slice_from h0, SX.S_len, SX.S_len, List.length_take, List.length_drop]
  omega
section
variable {P : Program} {w : World} {K : PySem.W.Frag} {mg : Str → Option Value} {base : Heap}
/-- a number; some: a list of such -/
def spNear (K : PySem.W.Frag) : Sp := fun vs H Q _ => ∃ (r a p : Addr) (W : Nat) (xs : List Str), vs = [.ref r, .int W, .ref p] ∧ RowAt r a H ∧ Scr K a H ∧ W ≤ 12 ∧ H p = some (.lst (xs.map V.str)) ∧ (∀ x ∈ xs, Num W x) ∧ xs.length ≤ 100 ∧
  ∀ (x : Str) (H' : Hp), Num W x → RowAt r a H' → Frm [r] H H' → Q (.str x) H'
theorem c_lnear (T : Txt P w K mg base) : CalX CX0 P w K mg base 3 "_law_near" (spNear K) := by
  obtain ⟨fd, F⟩ := T.t.def_ 36 (d := d_lnear)
  refine ⟨_, fd, _, F.ok sc_lnear (fun vs H Q E h => ?_) (fun cdv A outer s H vs Q E hr h => ?_), He.glo_ok T.X T.G (T.t.fact 17), F.kp, F.bindsN fun _ _ _ _ _ _ us hl => match us, hl with | [_, _, _], _ => rfl⟩
  · obtain ⟨r, a, p, W, xs, rfl, _⟩ := h
    rfl
  · obtain ⟨r, a, p, W, xs, rfl, hR, hS, hW, hp, hn, hl, k⟩ := h
    refine ⟨_, PSs.nox (pss_cons (ps_set (i := 3) sc_lnear.nd rfl (Or.inl rfl) (pe_cx (c_lnumber T) hr (by decide) rfl pass0 (pa_cons (pv 0) (pa_cons (pv 1) pa_nil))))
    (pss_cons (ps_if (PW.pt (pw_or (pt_cmpR (op_eqD hr.units) (pv 2) (pe_lst pa_nil) (nomark _)) (pw_or1 (pt_cmpR op_eq (pe_cx (c_ltaken T) hr (by decide) rfl pass0 (pa_cons (pv 0) (pa_cons pe_int pa_nil))) pe_int (nomark _)))))
      (pss_one (ps_ret (pv 3)))
      pss_nil)
    (pss_cons (ps_set (i := 4) sc_lnear.nd rfl (Or.inl rfl) (pe_cx (c_ltaken T) hr (by decide) rfl pass0 (pa_cons (pv 0) (pa_cons (pe_op op_add (pv 1) pe_int) pa_nil))))
    (pss_one (ps_ret (pe_op op_add_str (pe_slice C8.sl_txt (pe_ix ix_list (pv 2) (pe_cx (c_ltaken T) hr (by decide) rfl pass0 (pa_cons (pv 0) (pa_cons (pe_callB call_len_seq (by rfl) (n_len T) PySem.boot_len (pa_cons (pv 2) pa_nil)) pa_nil))) (fun _ _ => rfl)) po_none (po_some (pv 4))) (pe_slice C8.sl_txt (pv 3) (po_some (pv 4)) po_none))))))), ?_⟩
    refine ⟨_, rfl, _, rfl, r, a, W, rfl, hR, hS, hW, fun x H1 hx hR1 f1 => ?_⟩
    have hp1 : H1 p = some (.lst (xs.map V.str)) := f1.at hR.nl hp rfl (nl_strs xs)
    have fin : ∀ H2, RowAt r a H2 → Frm [r] H H2 → Q (.str x) H2 := fun H2 a1 a2 => k x H2 hx a1 a2
    -- some == []
    refine ⟨_, rfl, Nat.zero_le _, fun D hD => ?_⟩
    have f2 : Frm [r] H (upd H1 D (.lst [])) := f1.trans (Frm.of (same_upd hD))
    have hR2 := hR1.ne (hR1.out hD) (o := .lst [])
    have hp2 : (upd H1 D (.lst [])) p = some (.lst (xs.map V.str)) := same_upd hD _ _ hp1
    refine ⟨_, _, .lst (SqL.of hp2) (dp_strs xs), .lst (SqL.of upd_same) .nil, shaped_strs (fun x h => strOk_num (hn x h)), by decide +kernel, _, rfl, ?_⟩
    rw [eqv_empty]
    refine iteB (fun c => ?_) (fun c => ?_)
    · exact ⟨_, rfl, fin _ hR2 f2⟩
    · have hne : xs ≠ [] := fun e => by
        rw [e] at c
        cases c
      refine ⟨_, rfl, r, a, 3, rfl, hR2, f2.scr hR.nl hS, by decide, by decide, fun v H3 h0 h1 hR3 f3 => ?_⟩
      refine ⟨rfl, _, rfl, iteB (fun c => ?_) (fun c => ?_)⟩
      · exact ⟨_, rfl, fin _ hR3 (f2.trans f3)⟩
      · have f3' := f2.trans f3
        refine ⟨_, rfl, _, rfl, W, 1, rfl, rfl, r, a, (W : Int) + 1, rfl, hR3, f3'.scr hR.nl hS, by omega, by omega, fun many H4 m0 m1 hR4 f4 => ?_⟩
        have f4' := f3'.trans f4
        have hp4 : H4 p = some (.lst (xs.map V.str)) := f4'.at hR.nl hp rfl (nl_strs xs)
        have hlp : 0 < xs.length := List.length_pos_iff.mpr hne
        refine ⟨_, rfl, _, rfl, _, rfl, p, _, rfl, .inl (SqL.of hp4), r, a, _, rfl, hR4, f4'.scr hR.nl hS, by rw [List.length_map]; omega, by rw [List.length_map]; omega, fun v H5 v0 v1 hR5 f5 => ?_⟩
        have f5' := f4'.trans f5
        have hp5 : H5 p = some (.lst (xs.map V.str)) := f5'.at hR.nl hp rfl (nl_strs xs)
        obtain ⟨y, hy, hat⟩ := at_strs (xs := xs) v0 (by rw [List.length_map] at v1; exact v1)
        refine ⟨p, _, _, _, rfl, rfl, SqL.of hp5, hat, _, rfl, many, rfl, y, rfl, by rw [num_len (hn y hy)]; exact size12 (by omega), ?_⟩
        refine ⟨_, rfl, _, rfl, many, rfl, x, rfl, by rw [num_len hx]; exact size12 (by omega), ?_⟩
        refine ⟨_, _, rfl, rfl, ?_, ?_⟩
        · have l1 := (slice_len (hn y hy) m0).1
          have l2 := (slice_len hx m0).2
          exact size12 (by omega)
        · exact k _ H5 (num_mix (hn y hy) hx m0) hR5 f5'
/-- a width -/
def spWidth (K : PySem.W.Frag) : Sp := fun vs H Q _ => ∃ (r a : Addr), vs = [.ref r] ∧ RowAt r a H ∧ Scr K a H ∧ ∀ (W : Nat) (H' : Hp), 1 ≤ W → W ≤ 12 → RowAt r a H' → Frm [r] H H' → Q (.int W) H'
theorem c_lwidth (T : Txt P w K mg base) : CalX CX0 P w K mg base 2 "_law_width" (spWidth K) := by
  obtain ⟨fd, F⟩ := T.t.def_ 38 (d := d_lwidth)
  refine ⟨_, fd, _, F.ok sc_lwidth (fun vs H Q E h => ?_) (fun cdv A outer s H vs Q E hr h => ?_), He.glo_ok T.X T.G (T.t.fact 19), F.kp, F.bindsN fun _ _ _ _ _ _ us hl => match us, hl with | [_], _ => rfl⟩
  · obtain ⟨r, a, rfl, _⟩ := h
    rfl
  · obtain ⟨r, a, rfl, hR, hS, k⟩ := h
    refine ⟨_, PSs.nox (pss_one (ps_ret (pe_op op_add pe_int (pe_cx (c_ltaken T) hr (by decide) rfl pass0 (pa_cons (pv 0) (pa_cons (pe_ix ix_list (pe_lst (pa_cons pe_int (pa_cons pe_int (pa_cons pe_int pa_nil)))) (pe_cx (c_ltaken T) hr (by decide) rfl pass0 (pa_cons (pv 0) (pa_cons pe_int pa_nil))) (fun _ _ => rfl)) pa_nil)))))), ?_⟩
    refine ⟨_, rfl, by decide, fun D hD => ?_⟩
    have f1 : Frm [r] H (upd H D (.lst [.int 4, .int 7, .int 12])) := Frm.of (same_upd hD)
    refine ⟨_, rfl, r, a, 3, rfl, hR.ne (hR.out hD), f1.scr hR.nl hS, by decide, by decide, fun v H2 v0 v1 hR2 f2 => ?_⟩
    have hD2 : H2 D = some (.lst [.int 4, .int 7, .int 12]) := f2.k D _ upd_same rfl (by simpa using (hR.out hD).symm)
    have f2' := f1.trans f2
    have go : ∀ m : Int, 0 < m → m ≤ 12 → atI [V.int 4, V.int 7, V.int 12] v = some (.int m) → ∃ (p : Addr) (xs : List V) (i : Int) (v' : V), V.ref D = V.ref p ∧ V.int v = V.int i ∧ SqL K H2 p xs ∧ atI xs i = some v' ∧ spTaken K ([V.ref r, v'] ++ []) H2 (fun y H => ∃ i j, V.int 1 = V.int i ∧ y = .int j ∧ Q (.int (i + j)) H) E0 := fun m m0 m1 hat => by
      refine ⟨D, _, v, _, rfl, rfl, SqL.of hD2, hat, r, a, m, rfl, hR2, f2'.scr hR.nl hS, m0, by omega, fun u H3 u0 u1 hR3 f3 => ⟨1, u, rfl, rfl, ?_⟩⟩
      have e : (1 : Int) + u = ((1 + u.toNat : Nat) : Int) := by omega
      rw [e]
      exact k _ H3 (by omega) (by omega) hR3 (f2'.trans f3)
    have hv : v = 0 ∨ v = 1 ∨ v = 2 := by omega
    rcases hv with rfl | rfl | rfl
    · exact go 4 (by decide) (by decide) rfl
    · exact go 7 (by decide) (by decide) rfl
    · exact go 12 (by decide) (by decide) rfl
end
end B

set_option Elab.async false
set_option linter.all false
set_option maxRecDepth 100000
set_option maxHeartbeats 4000000
namespace B
open PySem PySem.Spec PyProof.Rows L2
open SX (S)
theorem ix_seqK {X : Cx} {K : PySem.W.Frag} (hK : X.K = K) : IxR X (rIx K) := by
  subst hK
  exact ix_seq
theorem in_seqK {X : Cx} {K : PySem.W.Frag} (hK : X.K = K) : OpR X (compareOp .In) (rIn K false) := by
  subst hK
  exact op_in_seq
theorem notIn_seqK {X : Cx} {K : PySem.W.Frag} (hK : X.K = K) : OpR X (compareOp .NotIn) (rIn K true) := by
  subst hK
  exact op_notIn_seq
theorem flat_strs (xs : List Str) : (xs.map V.str).all flatV = true := by
  induction xs with
  | nil => rfl
  | cons x r ih => rw [List.map_cons, List.all_cons, ih]; rfl
/-- one sign of a number turned, the signs behind it of another -/
theorem num_flip {W i c : Nat} {x y : Str} (hx : Num W x) (hy : Num W y) (hi : i < W) (hc : c = 48 ∨ c = 49) : Num W (Txt.slice x none (some (0 + (i : Int))) ++ S [c] ++ Txt.slice y (some (0 + (i : Int) + 1)) none) := by
  obtain ⟨l, rfl, e1, b1⟩ := hx
  obtain ⟨m, rfl, e2, b2⟩ := hy
  rw [SX.slice_to (by omega), SX.slice_from (by omega), SX.S_cat, SX.S_cat]
  refine ⟨_, rfl, ?_, ((b1.take _).snoc hc).app (b2.drop _)⟩
  rw [List.length_append, List.length_append, List.length_take, List.length_drop]
  show min _ _ + 1 + _ = W
  omega
theorem num_sign {W i : Nat} {x : Str} (hx : Num W x) (hi : i < W) : ∃ c, (c = 48 ∨ c = 49) ∧ atI x.cps.toList (0 + (i : Int)) = some c := by
  obtain ⟨l, rfl, e1, b1⟩ := hx
  have hl : i < l.length := by omega
  refine ⟨l[i], b1 _ (List.getElem_mem hl), ?_⟩
  have e : (0 : Int) + (i : Int) = ((i : Nat) : Int) := by omega
  rw [e]
  exact atI_nat (List.getElem?_eq_getElem hl)
theorem in_strs {x : Str} {xs : List Str} (h : inV (V.str x) (xs.map V.str) = false) : x ∉ xs := fun hx => by
  have : inV (V.str x) (xs.map V.str) = true := by
    unfold inV
    rw [List.any_map, List.any_eq_true]
    exact ⟨x, hx, by show eqV (V.str x) (V.str x) = true; simp [eqV]⟩
  rw [this] at h
  cases h
theorem nodup_snoc {xs : List Str} {x : Str} (h : xs.Nodup) (hx : x ∉ xs) : (xs ++ [x]).Nodup := by
  rw [List.nodup_append]
  refine ⟨h, by simp, fun a ha c hc => ?_⟩
  rw [List.mem_singleton] at hc
  rw [hc]
  intro e
  exact hx (e ▸ ha)
/-- parts from b at the place i, not before -/
def Parts (b z : Str) (i : Nat) : Prop := z.cps.toList[i]? ≠ b.cps.toList[i]? ∧ ∀ m, m < i → z.cps.toList[m]? = b.cps.toList[m]?
theorem flip_parts {W i c d : Nat} {x y : Str} (hx : Num W x) (hy : Num W y) (hi : i < W) (hc : atI x.cps.toList (0 + (i : Int)) = some c) (hd : d ≠ c) : Parts x (Txt.slice x none (some (0 + (i : Int))) ++ S [d] ++ Txt.slice y (some (0 + (i : Int) + 1)) none) i := by
  obtain ⟨l, rfl, e1, b1⟩ := hx
  obtain ⟨m, rfl, e2, b2⟩ := hy
  have hil : i < l.length := by omega
  have e0 : (0 : Int) + (i : Int) = ((i : Nat) : Int) := by omega
  rw [SX.slice_to (by omega), SX.slice_from (by omega), SX.S_cat, SX.S_cat]
  have el : ∀ q : List Nat, (S q).cps.toList = q := fun q => by simp [SX.S]
  have et : (0 + (i : Int)).toNat = i := by omega
  rw [et]
  unfold Parts
  rw [el, el]
  rw [el, e0, atI_nat (List.getElem?_eq_getElem hil)] at hc
  have tl : (l.take i).length = i := by rw [List.length_take]; omega
  refine ⟨?_, fun q hq => ?_⟩
  · rw [List.append_assoc, List.getElem?_append_right (by omega), tl, Nat.sub_self, List.getElem?_eq_getElem hil, hc]
    intro z
    exact hd (Option.some.inj z)
  · rw [List.append_assoc, List.getElem?_append_left (by omega), List.getElem?_take_of_lt hq]
theorem parts_ne {b z : Str} {xs : List Str} (h : ∀ j y, xs[j]? = some y → Parts b y j) (hz : Parts b z xs.length) : z ∉ xs ∧ b ∉ xs := by
  refine ⟨fun e => ?_, fun e => ?_⟩
  · obtain ⟨j, hj⟩ := List.getElem?_of_mem e
    have hl := (List.getElem?_eq_some_iff.mp hj).1
    exact (h j z hj).1 (hz.2 j hl)
  · obtain ⟨j, hj⟩ := List.getElem?_of_mem e
    exact (h j b hj).1 rfl
section
variable {P : Program} {w : World} {K : PySem.W.Frag} {mg : Str → Option Value} {base : Heap}
def spThings (K : PySem.W.Frag) : Sp := fun vs H Q _ => ∃ (r a : Addr) (W : Nat) (most : Int), vs = [.ref r, .int W, .int most] ∧ RowAt r a H ∧ Scr K a H ∧ W ≤ 12 ∧ 0 ≤ most ∧ most ≤ 40 ∧
  ∀ (xs : List Str) (p : Addr) (H' : Hp), (∀ x ∈ xs, Num W x) → xs.length ≤ 41 → xs.Nodup → sortedS xs = true → H' p = some (.lst (xs.map V.str)) → RowAt r a H' → Frm [r] H H' → Q (.ref p) H'
theorem c_lthings (T : Txt P w K mg base) : CalX CX0 P w K mg base 4 "_law_things" (spThings K) := by
  obtain ⟨fd, F⟩ := T.t.def_ 37 (d := d_lthings)
  refine ⟨_, fd, _, F.ok sc_lthings (fun vs H Q E h => ?_) (fun cdv A outer s H vs Q E hr h => ?_), He.glo_ok T.X T.G (T.t.fact 18), F.kp, F.bindsN fun _ _ _ _ _ _ us hl => match us, hl with | [_, _, _], _ => rfl⟩
  · obtain ⟨r, a, W, most, rfl, _⟩ := h
    rfl
  · obtain ⟨r, a, W, most, rfl, hR, hS, hW, hm0, hm1, k⟩ := h
    refine ⟨_, PSs.nox (pss_cons (ps_set (i := 3) sc_lthings.nd rfl (Or.inl rfl) (pe_lst pa_nil))
    (pss_cons (ps_if (PW.pt (pw_and (pt_cmpR op_gt (pv 2) pe_int (nomark _)) (pw_and1 (pt_cmpR op_eq (pe_cx (c_ltaken T) hr (by decide) rfl pass0 (pa_cons (pv 0) (pa_cons pe_int pa_nil))) pe_int (nomark _)))))
      (pss_cons (ps_set (i := 4) sc_lthings.nd rfl (Or.inl rfl) (pe_ix ix_list (pe_lst (pa_cons (pe_cx (c_lnumber T) hr (by decide) rfl pass0 (pa_cons (pv 0) (pa_cons (pv 1) pa_nil))) (pa_cons (pe_op op_rep_str pe_str (pv 1)) pa_nil))) (pe_cx (c_ltaken T) hr (by decide) rfl pass0 (pa_cons (pv 0) (pa_cons pe_int pa_nil))) (fun _ _ => rfl)))
      (pss_cons (ps_for PassesOwn.never rfl (pi_range1 rfl (n_range T) (pa_cons (pv 1) pa_nil)) (pg_name (i := 5) sc_lthings.nd rfl (Or.inl rfl))
        (pss_one (ps_expr (pe_bm PySem.F.plainAttrs_list PySem.F.slot_list_append PySem.F.type_list_append mt_append (pv 3) (pa_cons (pe_op op_add_str (pe_op op_add_str (pe_slice C8.sl_txt (pv 4) po_none (po_some (pv 5))) (pe_ix ix_str pe_str (pe_callTy call_int_str (by rfl) (n_int T) (by decide +kernel) (pa_cons (pe_ix ix_str (pv 4) (pv 5) (fun _ _ => rfl)) pa_nil)) (fun _ _ => rfl))) (pe_slice C8.sl_txt (pe_cx (c_lnumber T) hr (by decide) rfl pass0 (pa_cons (pv 0) (pa_cons (pv 1) pa_nil))) (po_some (pe_op op_add (pv 5) pe_int)) po_none)) pa_nil)))))
      (pss_one (ps_ret (pe_callB cr_sortedS (by rfl) (n_sorted T) (by decide +kernel) (pa_cons (pe_op op_cat (pe_slice sl_list (pv 3) po_none (po_some (pe_callB (call_max2 rfl) (by rfl) (n_max T) (by decide +kernel) (pa_cons (pe_op op_sub (pv 1) (pe_cx (c_ltaken T) hr (by decide) rfl pass0 (pa_cons (pv 0) (pa_cons pe_int pa_nil)))) (pa_cons (pe_cx (c_ltaken T) hr (by decide) rfl pass0 (pa_cons (pv 0) (pa_cons (pe_op op_add (pv 1) pe_int) pa_nil))) pa_nil))))) (pe_lst (pa_cons (pv 4) pa_nil))) pa_nil))))))
      pss_nil)
    (pss_cons (ps_for PassesOwn.never rfl (pi_range1 rfl (n_range T) (pa_cons (pe_cx (c_ltaken T) hr (by decide) rfl pass0 (pa_cons (pv 0) (pa_cons (pe_op op_add (pv 2) pe_int) pa_nil))) pa_nil)) (pg_name (i := 5) sc_lthings.nd rfl (Or.inl rfl))
      (pss_cons (ps_set (i := 6) sc_lthings.nd rfl (Or.inl rfl) (pe_cx (c_lnear T) hr (by decide) rfl pass0 (pa_cons (pv 0) (pa_cons (pv 1) (pa_cons (pv 3) pa_nil)))))
      (pss_one (ps_if (pt_cmpR op_notIn_seq (pv 6) (pv 3) rfl)
        (pss_one (ps_expr (pe_bm PySem.F.plainAttrs_list PySem.F.slot_list_append PySem.F.type_list_append mt_append (pv 3) (pa_cons (pv 6) pa_nil))))
        pss_nil))))
    (pss_one (ps_ret (pe_callB cr_sortedS (by rfl) (n_sorted T) (by decide +kernel) (pa_cons (pv 3) pa_nil))))))), ?_⟩
    refine ⟨Nat.zero_le _, fun D hD => ?_⟩
    have nrD := hR.out hD
    have f0 : Frm [r] H (upd H D (.lst [])) := Frm.of (same_upd hD)
    have hR0 : RowAt r a (upd H D (.lst [])) := hR.ne nrD
    have hD0 : (upd H D (.lst [])) D = some (.lst (([] : List Str).map V.str)) := upd_same
    have keepD : ∀ {H1 H2 : Hp} {xs : List V}, H1 D = some (.lst xs) → Frm [r] H1 H2 → H2 D = some (.lst xs) := fun h f => f.k D _ h rfl (by simpa using nrD.symm)
    -- the list, sorted
    have srt : ∀ (H1 : Hp) (xs : List Str) (z : Addr), (∀ x ∈ xs, Num W x) → xs.length ≤ 41 → xs.Nodup → H1 z = some (.lst (xs.map V.str)) → RowAt r a H1 → Frm [r] H H1 → rSortedS K [.ref z] H1 Q := fun H1 xs z hx hl hnd hz hR1 f1 =>
      ⟨z, xs, rfl, SqL.of hz, by omega, fun ys p pm ss hp => k ys p _ (fun y hy => hx y (pm.mem_iff.mp hy)) (by rw [pm.length_eq]; exact hl) (pm.nodup_iff.mpr hnd) ss upd_same (hR1.ne (hR1.out hp)) (f1.trans (Frm.of (same_upd hp)))⟩
    -- the second half: drawn numbers
    have rest : ∀ H1 : Hp, RowAt r a H1 → Frm [r] H H1 → H1 D = some (.lst (([] : List Str).map V.str)) → ∀ v4 v5 v6 : Option V,
        tSeq (tFor (iRng1 (tCons (tCall (spTaken K) [] E0 (tCons (tVar 0) (tCons (tOp (rI0 fun i j => .int (i + j)) (tVar 2) (tC (.int 1))) tNil))) tNil)) (gName 5)
          (tSeq (tAsg (tCall (spNear K) [] E0 (tCons (tVar 0) (tCons (tVar 1) (tCons (tVar 3) tNil)))) (gName 6))
            (tIfS (tTest (tOp (rIn K true) (tVar 6) (tVar 3))) (tDrop (tBM K "list" rAppend (tVar 3) (tCons (tVar 6) tNil))) tNext)))
          (tRet (tCB (rSortedS K) (tCons (tVar 3) tNil))) { nx := fun _ H' => Q .non H', rt := Q } [some (.ref r), some (.int W), some (.int most), some (.ref D), v4, v5, v6] H1 := fun H1 hR1 f1 hD1 v4 v5 v6 => by
      refine ⟨_, rfl, _, rfl, most, 1, rfl, rfl, r, a, most + 1, rfl, hR1, f1.scr hR.nl hS, by omega, by omega, fun m H2 m0 m1 hR2 f2 => ?_⟩
      refine ⟨m, rfl, by omega, by omega, ?_⟩
      refine for_range (lo := 0) (n := m.toNat) (fun i σ H' => ∃ v5 v6, σ = [some (.ref r), some (.int W), some (.int most), some (.ref D), v4, v5, v6] ∧ ∃ xs : List Str, (∀ x ∈ xs, Num W x) ∧ xs.Nodup ∧ xs.length ≤ i ∧ H' D = some (.lst (xs.map V.str)) ∧ RowAt r a H' ∧ Frm [r] H H')
        ⟨v5, v6, rfl, [], fun x h => absurd h (by simp), .nil, Nat.le_refl _, keepD hD1 f2, hR2, f1.trans f2⟩ ?_ ?_
      · rintro i σ H3 hi ⟨w5, w6, rfl, xs, hx, hnd, hl, hD3, hR3, f3⟩
        refine ⟨_, rfl, _, rfl, _, rfl, r, a, D, W, xs, rfl, hR3, f3.scr hR.nl hS, hW, hD3, hx, by omega, fun x H4 hxn hR4 f4 => ?_⟩
        have hD4 := keepD hD3 f4
        refine ⟨_, rfl, _, rfl, D, _, rfl, .inl (SqL.of hD4), rfl, flat_strs xs, _, rfl, iteB (fun c => ?_) (fun c => ?_)⟩
        · refine ⟨_, rfl, .inl ⟨rfl, _, SqL.of hD4⟩, _, rfl, D, _, _, rfl, rfl, hD4, by rw [List.length_map]; exact small1000 (by omega), ?_⟩
          refine ⟨_, _, rfl, xs ++ [x], fun y hy => ?_, nodup_snoc hnd (in_strs (by simpa using c)), by rw [List.length_append]; show xs.length + 1 ≤ i + 1; omega, by rw [upd_same, List.map_append]; rfl, hR4.ne nrD, (f3.trans f4).new hD⟩
          rcases List.mem_append.mp hy with z | z
          · exact hx y z
          · rw [List.mem_singleton.mp z]
            exact hxn
        · exact ⟨_, _, rfl, xs, hx, hnd, by omega, hD4, hR4, f3.trans f4⟩
      · rintro σ H3 ⟨w5, w6, rfl, xs, hx, hnd, hl, hD3, hR3, f3⟩
        exact ⟨_, rfl, srt H3 xs D hx (by omega) hnd hD3 hR3 f3⟩
    -- if most > 11 and taken(row, 5) == 4
    refine ⟨_, rfl, most, 11, rfl, rfl, _, rfl, iteB (fun c => ?_) (fun c => ?_)⟩
    · refine ⟨_, rfl, r, a, 5, rfl, hR0, f0.scr hR.nl hS, by decide, by decide, fun v H1 v0 v1 hR1 f1 => ?_⟩
      have f1' := f0.trans f1
      refine ⟨rfl, _, rfl, iteB (fun c => ?_) (fun c => ?_)⟩
      · -- base
        refine ⟨_, rfl, _, rfl, r, a, W, rfl, hR1, f1'.scr hR.nl hS, hW, fun x H2 hx hR2 f2 => ?_⟩
        have f2' := f1'.trans f2
        refine ⟨_, rfl, _, W, rfl, rfl, zeros_ok W hW, by show 2 ≤ sizeLine; decide, fun L hL => ?_⟩
        have nrL := hR2.out hL
        have f3' : Frm [r] H (upd H2 L (.lst [.str x, .str (Txt.mul "0" W)])) := f2'.trans (Frm.of (same_upd hL))
        refine ⟨_, rfl, r, a, 2, rfl, hR2.ne nrL, f3'.scr hR.nl hS, by decide, by decide, fun v H4 v0 v1 hR4 f4 => ?_⟩
        have hL4 : H4 L = some (.lst [.str x, .str (Txt.mul "0" W)]) := f4.k L _ upd_same rfl (by simpa using nrL.symm)
        have f4' := f3'.trans f4
        have hD4 : H4 D = some (.lst (([] : List Str).map V.str)) := keepD (keepD (keepD (keepD hD0 f1) f2) (Frm.of (same_upd hL))) f4
        have zer : Num W (Txt.mul "0" W) := by
          rw [zeros_is W hW]
          exact ⟨_, rfl, List.length_replicate, fun c hc => .inl (List.eq_of_mem_replicate hc)⟩
        obtain ⟨b, hb, hat⟩ : ∃ b, Num W b ∧ atI [V.str x, V.str (Txt.mul "0" W)] v = some (.str b) := by
          have hv : v = 0 ∨ v = 1 := by omega
          rcases hv with rfl | rfl
          · exact ⟨x, hx, rfl⟩
          · exact ⟨_, zer, rfl⟩
        refine ⟨L, _, v, _, rfl, rfl, SqL.of hL4, hat, ?_⟩
        have sz : ∀ {n : Nat}, n ≤ 100 → n ≤ sizeLine := fun h => size12 h
        -- the loop
        refine ⟨_, rfl, (W : Int), rfl, by omega, by omega, ?_⟩
        refine for_range (lo := 0) (n := (W : Int).toNat) (fun i σ H' => ∃ v5, σ = [some (.ref r), some (.int W), some (.int most), some (.ref D), some (.str b), v5, none] ∧ ∃ xs : List Str, (∀ x ∈ xs, Num W x) ∧ (∀ j z, xs[j]? = some z → Parts b z j) ∧ xs.Nodup ∧ xs.length = i ∧ H' D = some (.lst (xs.map V.str)) ∧ RowAt r a H' ∧ Frm [r] H H')
          ⟨none, rfl, [], fun x h => absurd h (by simp), fun j z h => by simp at h, .nil, rfl, hD4, hR4, f4'⟩ ?_ ?_
        · rintro i σ H5 hi ⟨w5, rfl, xs, hx, hpt, hnd, hl, hD5, hR5, f5⟩
          have hi' : i < W := by omega
          obtain ⟨c, hc, hcat⟩ := num_sign hb hi'
          refine ⟨_, rfl, .inl ⟨rfl, _, SqL.of hD5⟩, ?_⟩
          refine ⟨_, rfl, _, rfl, _, rfl, b, rfl, sz (by rw [num_len hb]; omega), ?_⟩
          refine ⟨_, rfl, _, rfl, b, _, c, rfl, rfl, sz (by rw [num_len hb]; omega), hcat, ?_⟩
          have go : ∀ (n : Int) (d : Nat), PySem.intText? (S [c]) = some n → atI ("10" : Str).cps.toList n = some d → (d = 48 ∨ d = 49) → ∃ (a' : Str) (n' : Int), [V.str ⟨#[c]⟩] = [V.str a'] ∧ PySem.intText? a' = some n' ∧ a'.length ≤ 640 ∧
              ∃ (z : Str) (i' : Int) (c' : Nat), V.str "10" = V.str z ∧ V.int n' = V.int i' ∧ z.length ≤ sizeLine ∧ atI z.cps.toList i' = some c' ∧ (c' = 48 ∨ c' = 49) ∧ c' = d := fun n d h1 h2 h3 =>
            ⟨S [c], n, rfl, h1, by rw [SX.S_len]; show 1 ≤ 640; decide, "10", n, d, rfl, rfl, by decide +kernel, h2, h3, rfl⟩
          have two : ∃ (n : Int) (d : Nat), PySem.intText? (S [c]) = some n ∧ atI ("10" : Str).cps.toList n = some d ∧ (d = 48 ∨ d = 49) ∧ d ≠ c := by
            rcases hc with rfl | rfl
            · exact ⟨0, 49, by decide +kernel, by decide +kernel, .inr rfl, by decide⟩
            · exact ⟨1, 48, by decide +kernel, by decide +kernel, .inl rfl, by decide⟩
          obtain ⟨n, d, t1, t2, t3, t4⟩ := two
          refine ⟨S [c], n, rfl, t1, by rw [SX.S_len]; show 1 ≤ 640; decide, "10", n, d, rfl, rfl, by decide +kernel, t2, ?_⟩
          have l1 : (Txt.slice b none (some (0 + (i : Int)))).length ≤ W := (slice_len hb (by omega)).1
          refine ⟨_, S [d], rfl, rfl, sz (by have e1 := SX.S_len [d]; have e2 : [d].length = 1 := rfl; omega), ?_⟩
          refine ⟨_, rfl, _, rfl, r, a, W, rfl, hR5, f5.scr hR.nl hS, hW, fun y H6 hy hR6 f6 => ?_⟩
          have hD6 := keepD hD5 f6
          have l2 : (Txt.slice y (some (0 + (i : Int) + 1)) none).length ≤ W := (slice_len hy (by omega)).2
          have nf := num_flip hb hy hi' t3
          have np := flip_parts hb hy hi' hcat t4
          refine ⟨_, rfl, _, 1, rfl, rfl, _, rfl, y, rfl, sz (by rw [num_len hy]; omega), ?_⟩
          refine ⟨_, _, rfl, rfl, ?_, ?_⟩
          · have l3 : (Txt.slice b none (some (0 + (i : Int))) ++ S [d]).length = (Txt.slice b none (some (0 + (i : Int)))).length + 1 := by
              obtain ⟨l, rfl, _, _⟩ := hb
              rw [SX.slice_to (by omega), SX.S_cat, SX.S_len, SX.S_len, List.length_append]
              rfl
            rw [l3]
            exact sz (by omega)
          · refine ⟨D, _, _, rfl, rfl, hD6, by rw [List.length_map]; exact small1000 (by omega), ?_⟩
            refine ⟨_, rfl, xs ++ [_], fun z hz => ?_, fun j z hz => ?_, nodup_snoc hnd (parts_ne hpt (by rw [hl]; exact np)).1, by rw [List.length_append, hl]; rfl, by rw [upd_same, List.map_append]; rfl, hR6.ne nrD, (f5.trans f6).new hD⟩
            · rcases List.mem_append.mp hz with q | q
              · exact hx z q
              · rw [List.mem_singleton.mp q]
                exact nf
            · by_cases hj : j < xs.length
              · rw [List.getElem?_append_left hj] at hz
                exact hpt j z hz
              · have ej : j = xs.length := by
                  have := (List.getElem?_eq_some_iff.mp hz).1
                  rw [List.length_append, List.length_singleton] at this
                  omega
                subst ej
                rw [List.getElem?_append_right (Nat.le_refl _), Nat.sub_self] at hz
                rw [← Option.some.inj hz, hl]
                exact np
        · rintro σ H5 ⟨w5, rfl, xs, hx, hpt, hnd, hl, hD5, hR5, f5⟩
          -- return sorted(found[:max(..)] + [base])
          refine ⟨_, rfl, _, rfl, _, rfl, r, a, 4, rfl, hR5, f5.scr hR.nl hS, by decide, by decide, fun u H6 u0 u1 hR6 f6 => ?_⟩
          have f6' := f5.trans f6
          refine ⟨_, _, rfl, rfl, _, rfl, _, rfl, _, 1, rfl, rfl, r, a, _, rfl, hR6, f6'.scr hR.nl hS, by omega, by omega, fun u2 H7 _ _ hR7 f7 => ?_⟩
          have f7' := f6'.trans f7
          have hD7 := keepD (keepD hD5 f6) f7
          refine ⟨_, _, rfl, _, rfl, D, _, rfl, SqL.of hD7, fun p hp => ?_⟩
          obtain ⟨ys, ey, hy, ly, hsl⟩ := cutV_strs xs none (some (if u2 > (W : Int) - u then u2 else (W : Int) - u))
          refine ⟨_, rfl, by show 1 ≤ sizeLine; decide, fun q hq => ?_⟩
          have npq : p ≠ q := ne_of_none upd_same hq
          refine ⟨p, q, _, _, rfl, rfl, by rw [upd_ne npq]; exact upd_same, upd_same, ?_, fun z hz => ?_⟩
          · rw [ey, List.length_map]
            exact sz (by show _ + 1 ≤ 100; omega)
          · refine srt _ (ys ++ [b]) z (fun x hx' => ?_) ?_ (nodup_snoc (hnd.sublist hsl) fun z => ?_) ?_ (((hR7.ne (hR7.out hp)).ne ((hR7.ne (hR7.out hp)).out hq)).ne (((hR7.ne (hR7.out hp)).ne ((hR7.ne (hR7.out hp)).out hq)).out hz)) (((f7'.trans (Frm.of (same_upd hp))).trans (Frm.of (same_upd hq))).trans (Frm.of (same_upd hz)))
            · rcases List.mem_append.mp hx' with e | e
              · exact hx x (hy x e)
              · rw [List.mem_singleton.mp e]
                exact hb
            · rw [List.length_append]
              show ys.length + 1 ≤ 41
              omega
            · obtain ⟨j, hj⟩ := List.getElem?_of_mem (hy b z)
              exact (hpt j b hj).1 rfl
            · rw [upd_same, ey, List.map_append]
              rfl
      · exact rest H1 hR1 f1' (keepD hD0 f1) none none none
    · exact rest _ hR0 f0 hD0 none none none
/-- numbers that may be hung -/
def spPool (K : PySem.W.Frag) : Sp := fun vs H Q _ => ∃ (r a : Addr) (W : Nat), vs = [.ref r, .int W] ∧ RowAt r a H ∧ Scr K a H ∧ W ≤ 12 ∧
  ∀ (xs : List Str) (p : Addr) (H' : Hp), xs ≠ [] → (∀ x ∈ xs, Num W x) → xs.length ≤ 41 → xs.Nodup → sortedS xs = true → H' p = some (.lst (xs.map V.str)) → RowAt r a H' → Frm [r] H H' → Q (.ref p) H'
end
end B

set_option Elab.async false
set_option linter.all false
set_option maxRecDepth 100000
set_option maxHeartbeats 4000000
namespace B
open PySem PySem.Spec PyProof.Rows L2
open SX (S)
/-! ### dicts of things: texts to truths -/
def kv (kvs : List (Str × Bool)) : List (Key × V) := kvs.map fun p => (Sum.inr p.1, V.bl p.2)
def hasK (kvs : List (Str × Bool)) (x : Str) : Bool := kvs.any fun p => decide (p.1 = x)
def getB (kvs : List (Str × Bool)) (x : Str) : Option Bool := (kvs.find? fun p => decide (p.1 = x)).map (·.2)
def putB (kvs : List (Str × Bool)) (x : Str) (b : Bool) : List (Str × Bool) := if hasK kvs x = true then kvs.map (fun p => if p.1 = x then (p.1, b) else p) else kvs ++ [(x, b)]
def dropB (kvs : List (Str × Bool)) (x : Str) : List (Str × Bool) := kvs.filter fun p => decide (p.1 ≠ x)
theorem inr_dec (a b : Str) : decide ((Sum.inr a : Key) = Sum.inr b) = decide (a = b) := by
  by_cases h : a = b
  · rw [decide_eq_true h, decide_eq_true (by rw [h])]
  · rw [decide_eq_false h, decide_eq_false (fun q => h (Sum.inr.inj q))]
theorem val_kv (kvs : List (Str × Bool)) (x : Str) : valV (kv kvs) (.inr x : Key) = (getB kvs x).map V.bl := by
  induction kvs with
  | nil => rfl
  | cons p r ih =>
    by_cases h : p.1 = x
    · have e1 : valV (kv (p :: r)) (.inr x : Key) = some (.bl p.2) := valV_pos (p := ((Sum.inr p.1 : Key), V.bl p.2)) (r := kv r) (by rw [h])
      rw [e1]
      unfold getB
      rw [List.find?_cons, decide_eq_true h]
      rfl
    · have e1 : valV (kv (p :: r)) (.inr x : Key) = valV (kv r) (.inr x : Key) := valV_neg (p := ((Sum.inr p.1 : Key), V.bl p.2)) (r := kv r) (fun q => h (Sum.inr.inj q))
      rw [e1, ih]
      unfold getB
      rw [List.find?_cons, decide_eq_false h]
theorem any_kv (kvs : List (Str × Bool)) (x : Str) : ((kv kvs).any fun q => decide (q.1 = (Sum.inr x : Key))) = hasK kvs x := by
  induction kvs with
  | nil => rfl
  | cons p r ih =>
    show (decide ((Sum.inr p.1 : Key) = Sum.inr x) || _) = (decide (p.1 = x) || hasK r x)
    rw [inr_dec, ← ih]
    rfl
theorem put_kv (kvs : List (Str × Bool)) (x : Str) (b : Bool) : putK (kv kvs) (.inr x : Key) (.bl b) = kv (putB kvs x b) := by
  unfold putK putB
  rw [any_kv]
  by_cases h : hasK kvs x = true
  · rw [if_pos h, if_pos h]
    unfold kv
    rw [List.map_map, List.map_map]
    refine List.map_congr_left fun p _ => ?_
    by_cases e : p.1 = x
    · show (if (Sum.inr p.1 : Key) = Sum.inr x then _ else _) = ((Sum.inr (if p.1 = x then (p.1, b) else p).1 : Key), V.bl (if p.1 = x then (p.1, b) else p).2)
      rw [if_pos e, if_pos (by rw [e])]
    · show (if (Sum.inr p.1 : Key) = Sum.inr x then _ else _) = ((Sum.inr (if p.1 = x then (p.1, b) else p).1 : Key), V.bl (if p.1 = x then (p.1, b) else p).2)
      rw [if_neg e, if_neg (fun q => e (Sum.inr.inj q))]
  · rw [if_neg h, if_neg h]
    unfold kv
    rw [List.map_append]
    rfl
theorem drop_kv (kvs : List (Str × Bool)) (x : Str) : dropK (kv kvs) (.inr x : Key) = kv (dropB kvs x) := by
  unfold dropK dropB kv
  rw [List.filter_map]
  congr 1
  refine List.filter_congr fun p _ => ?_
  show decide (¬ (Sum.inr p.1 : Key) = Sum.inr x) = decide (¬ p.1 = x)
  by_cases h : p.1 = x
  · simp [h]
  · simp [h]
theorem get_has (kvs : List (Str × Bool)) (x : Str) : (getB kvs x).isSome = hasK kvs x := by
  induction kvs with
  | nil => rfl
  | cons p r ih =>
    unfold getB hasK
    rw [List.find?_cons, List.any_cons]
    by_cases h : p.1 = x
    · rw [decide_eq_true h]
      rfl
    · rw [decide_eq_false h]
      exact ih
theorem some_map_bl (o : Option Bool) : (o.map V.bl).isSome = o.isSome := by cases o <;> rfl
/-- x in the dict at d (it may be locked) -/
theorem dg_has {H : Hp} {d : Addr} {kvs : List (Str × Bool)} (h : Rd H d (.dK (kv kvs))) (x : Str) : DGet H d (.str x) ((getB kvs x).map V.bl) := .inl ⟨kv kvs, .inr x, h, rfl, (val_kv kvs x).symm⟩
theorem dg_get {H : Hp} {d : Addr} {kvs : List (Str × Bool)} {x : Str} {b : Bool} (h : Rd H d (.dK (kv kvs))) (e : getB kvs x = some b) : DGet H d (.str x) (some (.bl b)) := by
  have := dg_has h x
  rw [e] at this
  exact this
theorem dp_put {H : Hp} {d : Addr} {kvs : List (Str × Bool)} (h : H d = some (.dK (kv kvs))) (hl : kvs.length ≤ 1000) (x : Str) (b : Bool) : DPut H d (.str x) (.bl b) (upd H d (.dK (kv (putB kvs x b)))) := by
  have := DPut.k (k := Sum.inr x) (v := V.bl b) h (by unfold kv; rw [List.length_map]; exact small1000 hl)
  rw [put_kv] at this
  exact this
theorem keys_kv (kvs : List (Str × Bool)) : (kv kvs).map (·.1) = (kvs.map (·.1)).map Sum.inr := by
  unfold kv
  rw [List.map_map, List.map_map]
  rfl
/-- a thing of the list is found by its number -/
theorem get_at {kvs : List (Str × Bool)} (hn : (kvs.map (·.1)).Nodup) {i : Nat} {x : Str} {b : Bool} (h : kvs[i]? = some (x, b)) : getB kvs x = some b := by
  induction kvs generalizing i with
  | nil => simp at h
  | cons p r ih =>
    rw [List.map_cons, List.nodup_cons] at hn
    cases i with
    | zero =>
      have e : p = (x, b) := by simpa using h
      subst e
      unfold getB
      rw [List.find?_cons, decide_eq_true rfl]
      rfl
    | succ i =>
      have h' : r[i]? = some (x, b) := by simpa using h
      have hm : x ∈ r.map (·.1) := List.mem_map.mpr ⟨(x, b), List.mem_of_getElem? h', rfl⟩
      have ne : ¬ p.1 = x := fun e => hn.1 (by rw [e]; exact hm)
      unfold getB
      rw [List.find?_cons, decide_eq_false ne]
      exact ih hn.2 h'
theorem kv_at {kvs : List (Str × Bool)} {i : Nat} {k : Key} {v : V} (h : (kv kvs)[i]? = some (k, v)) : ∃ x b, kvs[i]? = some (x, b) ∧ k = Sum.inr x ∧ v = .bl b := by
  unfold kv at h
  rw [List.getElem?_map] at h
  cases e : kvs[i]? with
  | none => rw [e] at h; cases h
  | some p =>
    rw [e] at h
    have := Option.some.inj h
    cases this
    exact ⟨p.1, p.2, rfl, rfl, rfl⟩
theorem take_snoc {α : Type} {l : List α} {i : Nat} {x : α} (h : l[i]? = some x) : l.take (i + 1) = l.take i ++ [x] := by
  rw [List.take_add_one, h]
  rfl
/-- a dict locked, a list made within, the dict free again -/
theorem upd_lock {H : Hp} {d D : Addr} {u f o : HO} (h : H d = some u) (n : d ≠ D) : upd (upd (upd H d f) D o) d u = upd H D o := by
  funext b
  by_cases e1 : b = d
  · rw [e1, upd_same, upd_ne n, h]
  · rw [upd_ne e1]
    by_cases e2 : b = D
    · rw [e2, upd_same, upd_same]
    · rw [upd_ne e2, upd_ne e2, upd_ne e1]
/-! ### the own wire -/
def mkv (W : Nat) (dt ml : Addr) (sd : V) (lk : Int) : List (Key × V) := [(.inr "width", .int W), (.inr "things", .ref dt), (.inr "listening", .ref ml), (.inr "said", sd), (.inr "looks", .int lk)]
def sdV : Option (List Nat) → V
  | none => .non
  | some l => .str (S l)
structure MdAt (H : Hp) (pm dt ml : Addr) (W : Nat) (kvs : List (Str × Bool)) (lm : List Str) (sd : Option (List Nat)) (lk : Int) : Prop where
  ob : H pm = some (.dK (mkv W dt ml (sdV sd) lk))
  li : H ml = some (.lst (lm.map V.str))
  dc : H dt = some (.dK (kv kvs))
section
variable {H : Hp} {pm dt ml : Addr} {W : Nat} {sd : V} {lk : Int}
theorem mv_width : valV (mkv W dt ml sd lk) (.inr "width" : Key) = some (.int W) := by kernel_rfl
theorem mv_things : valV (mkv W dt ml sd lk) (.inr "things" : Key) = some (.ref dt) := by kernel_rfl
theorem mv_listening : valV (mkv W dt ml sd lk) (.inr "listening" : Key) = some (.ref ml) := by kernel_rfl
theorem mv_said : valV (mkv W dt ml sd lk) (.inr "said" : Key) = some sd := by kernel_rfl
theorem mv_looks : valV (mkv W dt ml sd lk) (.inr "looks" : Key) = some (.int lk) := by kernel_rfl
theorem mp_listening {q : Addr} : putK (mkv W dt ml sd lk) (.inr "listening" : Key) (.ref q) = mkv W dt q sd lk := by kernel_rfl
theorem mp_said {v : V} : putK (mkv W dt ml sd lk) (.inr "said" : Key) v = mkv W dt ml v lk := by kernel_rfl
theorem mp_looks {z : Int} : putK (mkv W dt ml sd lk) (.inr "looks" : Key) (.int z) = mkv W dt ml sd z := by kernel_rfl
theorem md_width (h : H pm = some (.dK (mkv W dt ml sd lk))) : DGet H pm (.str "width") (some (.int W)) := by rw [← mv_width (dt := dt) (ml := ml) (sd := sd) (lk := lk)]; exact DGet.k (k := Sum.inr "width") h
theorem md_things (h : H pm = some (.dK (mkv W dt ml sd lk))) : DGet H pm (.str "things") (some (.ref dt)) := by rw [← mv_things (W := W) (dt := dt) (ml := ml) (sd := sd) (lk := lk)]; exact DGet.k (k := Sum.inr "things") h
theorem md_listening (h : H pm = some (.dK (mkv W dt ml sd lk))) : DGet H pm (.str "listening") (some (.ref ml)) := by rw [← mv_listening (W := W) (dt := dt) (ml := ml) (sd := sd) (lk := lk)]; exact DGet.k (k := Sum.inr "listening") h
theorem md_said (h : H pm = some (.dK (mkv W dt ml sd lk))) : DGet H pm (.str "said") (some sd) := by rw [← mv_said (W := W) (dt := dt) (ml := ml) (sd := sd) (lk := lk)]; exact DGet.k (k := Sum.inr "said") h
theorem md_looks (h : H pm = some (.dK (mkv W dt ml sd lk))) : DGet H pm (.str "looks") (some (.int lk)) := by rw [← mv_looks (W := W) (dt := dt) (ml := ml) (sd := sd) (lk := lk)]; exact DGet.k (k := Sum.inr "looks") h
theorem mdp_listening {q : Addr} (h : H pm = some (.dK (mkv W dt ml sd lk))) : DPut H pm (.str "listening") (.ref q) (upd H pm (.dK (mkv W dt q sd lk))) := by rw [← mp_listening (ml := ml)]; exact DPut.k (k := Sum.inr "listening") h (by show 5 < sizeLine; decide)
theorem mdp_said {v : V} (h : H pm = some (.dK (mkv W dt ml sd lk))) : DPut H pm (.str "said") v (upd H pm (.dK (mkv W dt ml v lk))) := by rw [← mp_said (sd := sd)]; exact DPut.k (k := Sum.inr "said") h (by show 5 < sizeLine; decide)
theorem mdp_looks {z : Int} (h : H pm = some (.dK (mkv W dt ml sd lk))) : DPut H pm (.str "looks") (.int z) (upd H pm (.dK (mkv W dt ml sd z))) := by rw [← mp_looks (lk := lk)]; exact DPut.k (k := Sum.inr "looks") h (by show 5 < sizeLine; decide)
theorem mk_merge {u q : Addr} : mergeK [] ([(.inr "width", .int W), (.inr "things", .ref u), (.inr "listening", .ref q), (.inr "said", .non), (.inr "looks", .int 0)] : List (Key × V)) = mkv W u q .non 0 := by kernel_rfl
end
end B

set_option Elab.async false
set_option linter.all false
set_option maxRecDepth 100000
set_option maxHeartbeats 4000000
namespace B
open PySem PySem.Spec PyProof.Rows L2
open SX (S)
/-- the sign at the place n is c -/
def sg (n c : Nat) (x : Str) : Bool := decide (x.cps.toList[n]? = some c)
theorem str_dec (a b : Str) : decide (V.str a = V.str b) = decide (a = b) := by
  by_cases h : a = b
  · rw [decide_eq_true h, decide_eq_true (by rw [h])]
  · rw [decide_eq_false h, decide_eq_false (fun q => h (V.str.inj q))]
theorem sign_dec (c d : Nat) : decide (V.str ⟨#[c]⟩ = V.str (S [d])) = decide (c = d) := by
  rw [str_dec]
  by_cases h : c = d
  · rw [decide_eq_true h, decide_eq_true (by rw [h])]
  · rw [decide_eq_false h, decide_eq_false (fun q => h (by
      have := SX.S_inj (a := [c]) (b := [d]) q
      exact (List.cons.inj this).1))]
theorem zero_S : ("0" : Str) = S [48] := by decide +kernel
theorem one_S : ("1" : Str) = S [49] := by decide +kernel
theorem sg_at {n c : Nat} {x : Str} (h : x.cps.toList[n]? = some c) (d : Nat) : sg n d x = decide (c = d) := by
  unfold sg
  rw [h]
  by_cases e : c = d
  · rw [decide_eq_true e, decide_eq_true (by rw [e])]
  · rw [decide_eq_false e, decide_eq_false (fun q => e (Option.some.inj q))]
theorem any_step {α : Type} {l : List α} {i : Nat} {x : α} (f : α → Bool) (h : l[i]? = some x) : (l.take (i + 1)).any f = ((l.take i).any f || f x) := by
  rw [take_snoc h, List.any_append]
  simp
theorem at_map {xs : List Str} {i : Nat} {y : V} (h : (xs.map V.str)[i]? = some y) : ∃ x, xs[i]? = some x ∧ y = .str x := by
  rw [List.getElem?_map] at h
  cases e : xs[i]? with
  | none => rw [e] at h; cases h
  | some x =>
    rw [e] at h
    exact ⟨x, rfl, (Option.some.inj h).symm⟩
/-- a number that begins as l does -/
def Beg (W : Nat) (l : List Nat) (x : Str) : Prop := ∃ m, x = S m ∧ m.length = W ∧ Bits m ∧ m.take l.length = l
theorem Beg.num {W : Nat} {l : List Nat} {x : Str} (h : Beg W l x) : Num W x := by
  obtain ⟨m, e, h1, h2, _⟩ := h
  exact ⟨m, e, h1, h2⟩
theorem num_at {W n : Nat} {x : Str} (h : Num W x) (hn : n < W) : ∃ c, (c = 48 ∨ c = 49) ∧ x.cps.toList[n]? = some c ∧ atI x.cps.toList ((n : Nat) : Int) = some c := by
  obtain ⟨l, rfl, e1, b1⟩ := h
  have hl : n < l.length := by omega
  exact ⟨l[n], b1 _ (List.getElem_mem hl), List.getElem?_eq_getElem hl, atI_nat (List.getElem?_eq_getElem hl)⟩
section
variable {P : Program} {w : World} {K : PySem.W.Frag} {mg : Str → Option Value} {base : Heap}
/-- whether some go on with a 0, with a 1 -/
def spLooked (K : PySem.W.Frag) : Sp := fun vs H Q _ => ∃ (ml : Addr) (W : Nat) (l : List Nat) (xs : List Str), vs = [.ref ml, .str (S l)] ∧ H ml = some (.lst (xs.map V.str)) ∧ (∀ x ∈ xs, Beg W l x) ∧ l.length < W ∧ W ≤ 12 ∧
  ∀ (p : Addr) (H' : Hp), H' p = some (.tup [.bl (xs.any (sg l.length 48)), .bl (xs.any (sg l.length 49))]) → Frm [] H H' → Q (.ref p) H'
theorem c_llooked (T : Txt P w K mg base) : CalX CX0 P w K mg base 1 "_law_looked" (spLooked K) := by
  obtain ⟨fd, F⟩ := T.t.def_ 39 (d := d_llooked)
  refine ⟨_, fd, _, F.ok sc_llooked (fun vs H Q E h => ?_) (fun cdv A outer s H vs Q E hr h => ?_), He.glo_ok T.X T.G (T.t.fact 20), F.kp, F.bindsN fun _ _ _ _ _ _ us hl => match us, hl with | [_, _], _ => rfl⟩
  · obtain ⟨ml, W, l, xs, rfl, _⟩ := h
    rfl
  · obtain ⟨ml, W, l, xs, rfl, hm0, hb, hl, hW, k0⟩ := h
    refine ⟨_, PSs.nox (pss_cons (ps_asg (pe_tup (pa_cons pe_bl (pa_cons pe_bl pa_nil))) (pg_tup rfl (pgs_cons (pg_name (i := 2) sc_llooked.nd rfl (Or.inl rfl)) (pgs_cons (pg_name (i := 3) sc_llooked.nd rfl (Or.inl rfl)) pgs_nil))))
    (pss_cons (ps_for PassesOwn.never rfl (pi_list (pv 0)) (pg_name (i := 4) sc_llooked.nd rfl (Or.inl rfl))
      (pss_one (ps_if (pt_cmpR op_eq (pe_slice C8.sl_txt (pv 4) po_none (po_some (pe_callB call_len_str (by rfl) (n_len T) PySem.boot_len (pa_cons (pv 1) pa_nil)))) (pv 1) (nomark _))
        (pss_cons (ps_set (i := 2) sc_llooked.nd rfl (Or.inl rfl) (pe_or (pv 2) (pe_one (pe_cmpR op_eq (pe_ix ix_str (pv 4) (pe_callB call_len_str (by rfl) (n_len T) PySem.boot_len (pa_cons (pv 1) pa_nil)) (fun _ _ => rfl)) pe_str (nomark _)))))
        (pss_one (ps_set (i := 3) sc_llooked.nd rfl (Or.inl rfl) (pe_or (pv 3) (pe_one (pe_cmpR op_eq (pe_ix ix_str (pv 4) (pe_callB call_len_str (by rfl) (n_len T) PySem.boot_len (pa_cons (pv 1) pa_nil)) (fun _ _ => rfl)) pe_str (nomark _)))))))
        pss_nil)))
    (pss_one (ps_ret (pe_tup (pa_cons (pv 2) (pa_cons (pv 3) pa_nil))))))), ?_⟩
    refine ⟨by show 2 ≤ sizeLine; decide, fun t ht => ⟨t, _, rfl, SqT.of upd_same, rfl, _, _, rfl, _, _, rfl, rfl, ?_⟩⟩
    have hm : (upd H t (.tup [.bl false, .bl false])) ml = some (.lst (xs.map V.str)) := same_upd ht _ _ hm0
    have k : ∀ p, (upd H t (.tup [.bl false, .bl false])) p = none → Q (.ref p) (upd (upd H t (.tup [.bl false, .bl false])) p (.tup [.bl (xs.any (sg l.length 48)), .bl (xs.any (sg l.length 49))])) := fun p hp =>
      k0 p _ upd_same (((Frm.refl _ _).new ht).new (upd_back hp))
    generalize (upd H t (.tup [.bl false, .bl false])) = H at hm k ⊢
    refine ⟨_, rfl, ml, rfl, ⟨_, SqL.of hm⟩, for_list (K := K) (a := ml) (xs := xs.map V.str) (fun i σ H' => ∃ v4, σ = [some (.ref ml), some (.str (S l)), some (.bl ((xs.take i).any (sg l.length 48))), some (.bl ((xs.take i).any (sg l.length 49))), v4] ∧ H' = H)
      ⟨none, rfl, rfl⟩ (fun i σ H' _ ⟨_, _, e⟩ => by rw [e]; exact SqL.of hm) ?_ ?_⟩
    · rintro i y σ H' hi ⟨v4, rfl, eH⟩
      subst H'
      obtain ⟨x, hx, rfl⟩ := at_map hi
      have hxb := hb x (List.mem_of_getElem? hx)
      obtain ⟨c, hc, g1, g2⟩ := num_at hxb.num hl
      have ls : ((S l).length : Int) = (l.length : Int) := by rw [SX.S_len]
      have sl : (S l).length ≤ sizeLine := by rw [SX.S_len]; exact size12 (by omega)
      have sx : x.length ≤ sizeLine := by rw [num_len hxb.num]; exact size12 (by omega)
      refine ⟨_, rfl, _, rfl, S l, rfl, sl, _, rfl, x, rfl, sx, _, rfl, rfl, _, rfl, ?_⟩
      have e1 : decide (V.str (Txt.slice x none (some ((S l).length : Int))) = V.str (S l)) = true := by
        obtain ⟨m, rfl, m1, m2, m3⟩ := hxb
        rw [ls, SX.slice_to (by omega), Int.toNat_natCast, m3]
        exact decide_eq_true rfl
      rw [e1]
      rw [← ls] at g2
      have step : ∀ d, (if ((xs.take i).any (sg l.length d)) = true then V.bl true else V.bl (decide (V.str ⟨#[c]⟩ = V.str (S [d])))) = V.bl ((xs.take (i + 1)).any (sg l.length d)) := fun d => by
        rw [any_step _ hx, sg_at g1, sign_dec]
        cases (xs.take i).any (sg l.length d) <;> rfl
      have fin : ∀ v4, (fun (σ : L2.St) (H' : Hp) => ∃ v4, σ = [some (.ref ml), some (.str (S l)), some (.bl ((xs.take (i + 1)).any (sg l.length 48))), some (.bl ((xs.take (i + 1)).any (sg l.length 49))), v4] ∧ H' = H) [some (.ref ml), some (.str (S l)), some (.bl ((xs.take (i + 1)).any (sg l.length 48))), some (.bl ((xs.take (i + 1)).any (sg l.length 49))), v4] H := fun v4 => ⟨v4, rfl, rfl⟩
      have s0 := step 48
      have s1 := step 49
      -- zero = zero or ..
      have two : ∀ z : V, z = V.bl ((xs.take (i + 1)).any (sg l.length 48)) → tAsg (tOrV (tVar 3) (tOp rEq (tOp rIxS (tVar 4) (tCB (fun xs H Q => ∃ a, xs = [.str a] ∧ a.length ≤ sizeLine ∧ Q (.int a.length) H) (tCons (tVar 1) tNil))) (tC (.str "1")))) (gName 3)
          { nx := fun σ H' => ∃ v4, σ = [some (.ref ml), some (.str (S l)), some (.bl ((xs.take (i + 1)).any (sg l.length 48))), some (.bl ((xs.take (i + 1)).any (sg l.length 49))), v4] ∧ H' = H, rt := Q } [some (.ref ml), some (.str (S l)), some z, some (.bl ((xs.take i).any (sg l.length 49))), some (.str x)] H := fun z ez => by
        subst ez
        refine ⟨_, rfl, _, rfl, iteB (fun b => ?_) (fun b => ?_)⟩
        · rw [b] at s1
          refine ⟨some (.str x), ?_, rfl⟩
          rw [← s1]
          rfl
        · rw [b, ← one_S] at s1
          refine ⟨_, rfl, _, rfl, S l, rfl, sl, x, _, c, rfl, rfl, sx, g2, rfl, ?_⟩
          refine ⟨some (.str x), ?_, rfl⟩
          rw [← s1]
          rfl
      refine ⟨_, rfl, _, rfl, iteB (fun b => ?_) (fun b => ?_)⟩
      · rw [b] at s0
        exact two _ s0
      · rw [b, ← zero_S] at s0
        refine ⟨_, rfl, _, rfl, S l, rfl, sl, x, _, c, rfl, rfl, sx, g2, rfl, ?_⟩
        exact two _ s0
    · rintro σ H' ⟨v4, rfl, eH⟩
      subst H'
      rw [List.length_map, List.take_length]
      exact ⟨_, rfl, _, rfl, by show 2 ≤ sizeLine; decide, fun p hp => k p hp⟩
/-- an own wire -/
def spModel : Sp := fun vs H Q _ => ∃ W : Nat, vs = [.int W] ∧ ∀ (pm dt ml : Addr) (H' : Hp), H pm = none → H dt = none → H ml = none → pm ≠ dt → H' pm = some (.dK (mkv W dt ml .non 0)) → H' ml = some (.lst []) → H' dt = some (.dK []) → Frm [] H H' → Q (.ref pm) H'
end
end B

set_option Elab.async false
set_option linter.all false
set_option maxRecDepth 100000
set_option maxHeartbeats 4000000
namespace B
open PySem PySem.Spec PyProof.Rows L2
open SX (S)
/-- who listens in a new round -/
def lisB (kvs : List (Str × Bool)) (all : Bool) : List Str := (kvs.filter fun p => all || p.2).map (·.1)
def wordsB : List Str := ["hang", "off", "alarm", "calm"]
/-- what becomes of a thing: the word of a refusal, the things -/
def deedW (kvs : List (Str × Bool)) (wd x : Str) : Str := if wd = "hang" then (if hasK kvs x = true then "there" else "") else (if hasK kvs x = true then "" else "not")
def deedK (kvs : List (Str × Bool)) (wd x : Str) : List (Str × Bool) :=
  if wd = "hang" then (if hasK kvs x = true then kvs else putB kvs x false) else (if hasK kvs x = true then (if wd = "off" then dropB kvs x else putB kvs x (decide (wd = "alarm"))) else kvs)
def deedL (kvs : List (Str × Bool)) (lm : List Str) (wd x : Str) : List Str := if wd = "off" ∧ hasK kvs x = true then lm.filter (fun y => decide (y ≠ x)) else lm
theorem dig_S (bit : Int) (h : bit = 0 ∨ bit = 1) : Str.ofString (toString bit) = S [48 + bit.toNat] := by
  rcases h with rfl | rfl <;> decide +kernel
theorem filter_step {α : Type} {l : List α} {i : Nat} {x : α} (f : α → Bool) (h : l[i]? = some x) : (l.take (i + 1)).filter f = (l.take i).filter f ++ (if f x = true then [x] else []) := by
  rw [take_snoc h, List.filter_append, List.filter_cons, List.filter_nil]
theorem has_get {kvs : List (Str × Bool)} {x : Str} (h : hasK kvs x = true) : ∃ b, getB kvs x = some b := by
  rw [← get_has] at h
  exact Option.isSome_iff_exists.mp h
section
variable {P : Program} {w : World} {K : PySem.W.Frag} {mg : Str → Option Value} {base : Heap}
/-- a round begun on an own wire -/
def spBegun : Sp := fun vs H Q _ => ∃ (pm dt ml : Addr) (kind : Str) (W : Nat) (kvs : List (Str × Bool)) (lm : List Str) (sd : Option (List Nat)) (lk : Int), vs = [.ref pm, .str kind] ∧ MdAt H pm dt ml W kvs lm sd lk ∧ pm ≠ dt ∧ (kvs.map (·.1)).Nodup ∧ kvs.length ≤ 100 ∧
  ∀ (ml' : Addr) (H' : Hp), H ml' = none → MdAt H' pm dt ml' W kvs (lisB kvs (decide (kind = "all"))) (some []) lk → Frm [pm] H H' → Q .non H'
/-- a bit said on an own wire -/
def spSaid : Sp := fun vs H Q _ => ∃ (pm dt ml : Addr) (bit : Int) (W : Nat) (kvs : List (Str × Bool)) (lm : List Str) (l : List Nat) (lk : Int), vs = [.ref pm, .int bit] ∧ (bit = 0 ∨ bit = 1) ∧ MdAt H pm dt ml W kvs lm (some l) lk ∧ pm ≠ dt ∧ (∀ x ∈ lm, Num W x) ∧ lm.length ≤ 100 ∧ l.length < W ∧ W ≤ 12 ∧
  ∀ (ml' : Addr) (H' : Hp), H ml' = none → MdAt H' pm dt ml' W kvs (lm.filter (sg l.length (48 + bit.toNat))) (some (l ++ [48 + bit.toNat])) lk → Frm [pm] H H' → Q .non H'
end
end B

set_option Elab.async false
set_option linter.all false
set_option maxRecDepth 100000
set_option maxHeartbeats 4000000
namespace B
open PySem PySem.Spec PyProof.Rows L2
open SX (S)
section
variable {P : Program} {w : World} {K : PySem.W.Frag} {mg : Str → Option Value} {base : Heap}
/-- something becomes of a thing of an own wire -/
def spDeed : Sp := fun vs H Q _ => ∃ (pm dt ml : Addr) (wd x : Str) (W : Nat) (kvs : List (Str × Bool)) (lm : List Str) (sd : Option (List Nat)) (lk : Int), vs = [.ref pm, .str wd, .str x] ∧ MdAt H pm dt ml W kvs lm sd lk ∧ pm ≠ dt ∧ kvs.length ≤ 100 ∧ lm.length ≤ 100 ∧
  ∀ (ml' : Addr) (H' : Hp), (ml' = ml ∨ H ml' = none) → MdAt H' pm dt ml' W (deedK kvs wd x) (deedL kvs lm wd x) sd lk → Frm [pm, dt] H H' → Q (.str (deedW kvs wd x)) H'
end
end B

set_option Elab.async false
set_option linter.all false
set_option maxRecDepth 100000
set_option maxHeartbeats 4000000
namespace B
open PySem PySem.Spec PyProof.Rows L2
open SX (S)
/-! ### code tables -/
def tabA (K : PySem.W.Frag) (p : He.Defn) : Addr := (He.cT K p).2
def TL (K : PySem.W.Frag) : List (Addr × Str) := lams.map fun z => (tabA K z.1, z.2)
/-- the tables stand well -/
def Tb (K : PySem.W.Frag) (H : Hp) : Prop := (∀ p ∈ gens, GxR.TabG H (tabA K p)) ∧ LamX.Tabs (TL K) H
/-- as Frm, but code tables may grow -/
structure FrT (K : PySem.W.Frag) (S : List Addr) (H H' : Hp) : Prop where
  k : ∀ b o, H b = some o → isT o = false → b ∉ S → H' b = some o
  b : ∀ b, H' b = none → H b = none
  t : Tb K H → Tb K H'
theorem FrT.refl (K : PySem.W.Frag) (S : List Addr) (H : Hp) : FrT K S H H := ⟨fun _ _ h _ _ => h, fun _ h => h, fun h => h⟩
theorem FrT.trans {K : PySem.W.Frag} {S : List Addr} {H H1 H2 : Hp} (a : FrT K S H H1) (b : FrT K S H1 H2) : FrT K S H H2 := ⟨fun c o h t n => b.k c o (a.k c o h t n) t n, fun c h => a.b c (b.b c h), fun h => b.t (a.t h)⟩
theorem FrT.mono {K : PySem.W.Frag} {S S' : List Addr} {H H1 : Hp} (a : FrT K S H H1) (h : ∀ x ∈ S, x ∈ S') : FrT K S' H H1 := ⟨fun c o e t n => a.k c o e t fun z => n (h c z), a.b, a.t⟩
theorem nl_codeO {c : Addr} {q : Str} : B.nl (LamX.CodeO c q) = false := rfl
theorem Frm.toT {K : PySem.W.Frag} {S : List Addr} {H H' : Hp} (f : Frm S H H') (n : NL S H) : FrT K S H H' := by
  have out : ∀ {p : Addr} {o : HO}, H p = some o → B.nl o = false → p ∉ S := fun {p o} e h z => by
    obtain ⟨u, e2, q⟩ := n p z
    rw [e] at e2
    cases e2
    rw [h] at q
    cases q
  have kp : ∀ {p : Addr} {o : HO}, H p = some o → B.nl o = false → H' p = some o := fun {p o} e h => f.k p o e rfl (out e h)
  refine ⟨fun b o e _ hb => f.k b o e rfl hb, f.b, fun ⟨h1, h2⟩ => ⟨fun p hp => ?_, fun p hp => ?_⟩⟩
  · obtain ⟨ps, e, t⟩ := h1 p hp
    exact ⟨ps, kp e rfl, t⟩
  obtain ⟨qs, e1, t1, a1⟩ := h2 p hp
  refine ⟨qs, kp e1 rfl, t1, fun pos cv hc => ?_⟩
  obtain ⟨c, e2, e3⟩ := a1 pos cv hc
  exact ⟨c, e2, kp e3 nl_codeO⟩
theorem FrT.at {K : PySem.W.Frag} {S : List Addr} {H H' : Hp} {p : Addr} {o : HO} (f : FrT K S H H') (n : NL S H) (h : H p = some o) (h1 : isT o = false) (h2 : B.nl o = false) : H' p = some o :=
  f.k p o h h1 fun z => by
    obtain ⟨u, e, q⟩ := n p z
    rw [h] at e
    cases e
    rw [h2] at q
    cases q
theorem FrT.scr {K : PySem.W.Frag} {S : List Addr} {H H' : Hp} {a : Addr} (f : FrT K S H H') (n : NL S H) (h : Scr K a H) : Scr K a H' := by
  obtain ⟨ns, (h | ⟨u, h⟩) | h⟩ := h
  · exact ⟨ns, .inl (.inl (f.at n h rfl (nl_ints ns)))⟩
  · exact ⟨ns, .inl (.inr ⟨u, f.at n h rfl rfl⟩)⟩
  · exact ⟨ns, .inr h⟩
theorem FrT.row {K : PySem.W.Frag} {S : List Addr} {H H' : Hp} {r a : Addr} (f : FrT K S H H') (hr : r ∉ S) (h : RowAt r a H) : RowAt r a H' := by
  obtain ⟨i, m, b, e, h0⟩ := h
  exact ⟨i, m, b, f.k r _ e rfl hr, h0⟩
section
theorem map_inj {α β : Type} {f : α → β} : ∀ {l : List α}, (l.map f).Nodup → ∀ a ∈ l, ∀ b ∈ l, f a = f b → a = b
  | [], _, a, ha, _, _, _ => absurd ha (by simp)
  | x :: r, h, a, ha, b, hb, e => by
    have n := List.nodup_cons.mp (show (f x :: r.map f).Nodup from h)
    rcases List.mem_cons.mp ha with rfl | ha2 <;> rcases List.mem_cons.mp hb with rfl | hb2
    · rfl
    · exact absurd (List.mem_map.mpr ⟨b, hb2, e.symm⟩) n.1
    · exact absurd (List.mem_map.mpr ⟨a, ha2, e⟩) n.1
    · exact map_inj n.2 a ha2 b hb2 e
theorem gens_tf : ∀ p ∈ gens, p ∈ tf := by decide +kernel
theorem lams_tf : ∀ z ∈ lams, z.1 ∈ tf := by decide +kernel
theorem gl_ne : ∀ p ∈ gens, ∀ z ∈ lams, p ≠ z.1 := by decide +kernel
theorem lams_fun : ∀ a ∈ lams, ∀ b ∈ lams, a.1 = b.1 → a.2 = b.2 := by decide +kernel
theorem tl_mem {K : PySem.W.Frag} {p : He.Defn} {q : Str} (h : (p, q) ∈ lams) : (tabA K p, q) ∈ TL K := List.mem_map.mpr ⟨(p, q), h, rfl⟩
theorem tb_empty {K : PySem.W.Frag} {H : Hp} (h : ∀ p ∈ tf.map (He.cT K), H p.2 = some (.tbl #[])) : Tb K H := by
  have z : ∀ p ∈ tf, H (tabA K p) = some (.tbl #[]) := fun p hp => h (He.cT K p) (List.mem_map.mpr ⟨p, hp, rfl⟩)
  refine ⟨fun p hp => ⟨#[], z p (gens_tf p hp), True.intro⟩, fun p hp => ?_⟩
  obtain ⟨y, hy, rfl⟩ := List.mem_map.mp hp
  exact .nil (z y.1 (lams_tf y hy))
variable {P : Program} {w : World} {K : PySem.W.Frag} {mg : Str → Option Value} {base : Heap}
theorem ex_nd (T : Txt P w K mg base) : (tf.map fun p => (He.cT K p).2).Nodup := of_decide_eq_true (He.ba T.m).1
theorem ex_tup (T : Txt P w K mg base) : exTup K = true := (He.ba (He.ba T.m).2).1
theorem ex_exc (T : Txt P w K mg base) : exExc K = true := (He.ba (He.ba T.m).2).2
theorem tab_inj (T : Txt P w K mg base) {p q : He.Defn} (hp : p ∈ tf) (hq : q ∈ tf) (e : tabA K p = tabA K q) : p = q := map_inj (f := fun p => (He.cT K p).2) (ex_nd T) p hp q hq e
theorem tb_g (T : Txt P w K mg base) {p : He.Defn} (hp : p ∈ tf) : GxR.TabB base mg (He.codeOf K p) (tabA K p) := by
  have h := T.tb p hp
  exact ⟨h.code, h.bm, h.gP⟩
/-- a generator's table grows -/
theorem tb_gen (T : Txt P w K mg base) {p : He.Defn} (hp : p ∈ gens) {H H1 : Hp} (ht : Tb K H) (hT : GxR.Tabbed (tabA K p) H H1) : FrT K [] H H1 ∧ Tb K H1 := by
  have off : ∀ {b : Addr}, b ≠ tabA K p → H1 b = H b := fun h => hT.2 _ h
  obtain ⟨ps0, e0, t0⟩ := ht.1 p hp
  have tb : Tb K H1 := by
    refine ⟨fun q hq => ?_, fun z hz => ?_⟩
    · by_cases c : tabA K q = tabA K p
      · rw [c]
        exact hT.1
      · obtain ⟨ps, e, t⟩ := ht.1 q hq
        exact ⟨ps, by rw [off c]; exact e, t⟩
    · obtain ⟨y, hy, rfl⟩ := List.mem_map.mp hz
      have ne : tabA K y.1 ≠ tabA K p := fun c => gl_ne p hp y hy (tab_inj T (gens_tf p hp) (lams_tf y hy) c.symm)
      obtain ⟨qs, e1, t1, a1⟩ := ht.2 _ hz
      refine ⟨qs, by rw [off ne]; exact e1, t1, fun pos cv hc => ?_⟩
      obtain ⟨c, e2, e3⟩ := a1 pos cv hc
      refine ⟨c, e2, ?_⟩
      rw [off (fun z => ?_)]
      · exact e3
      · rw [z, e0] at e3
        exact LamX.codeO_ne ps0 (Option.some.inj e3).symm
  refine ⟨⟨fun b o hb hto _ => ?_, fun b hb => ?_, fun _ => tb⟩, tb⟩
  · by_cases q : b = tabA K p
    · rw [q, e0] at hb
      cases hb
      cases hto
    · rw [off q]
      exact hb
  · by_cases q : b = tabA K p
    · obtain ⟨ps, z, _⟩ := hT.1
      rw [q, z] at hb
      cases hb
    · rw [off q] at hb
      exact hb
/-- a lambda's table grows -/
theorem tb_grow (T : Txt P w K mg base) {p : He.Defn} {q : Str} (hp : (p, q) ∈ lams) {H H1 : Hp} (ht : Tb K H) (f1 : ∀ b o, H b = some o → b ≠ tabA K p → H1 b = some o) (f2 : ∀ b, H1 b = none → H b = none) (t : LamX.TabS H1 (tabA K p) q) : FrT K [] H H1 ∧ Tb K H1 := by
  obtain ⟨qs0, e0, t0, a0⟩ := ht.2 _ (tl_mem hp)
  have tb : Tb K H1 := by
    refine ⟨fun g hg => ?_, fun z hz => ?_⟩
    · have ne : tabA K g ≠ tabA K p := fun c => gl_ne g hg (p, q) hp (tab_inj T (gens_tf g hg) (lams_tf _ hp) c)
      obtain ⟨ps, e, tr⟩ := ht.1 g hg
      exact ⟨ps, f1 _ _ e ne, tr⟩
    · obtain ⟨y, hy, rfl⟩ := List.mem_map.mp hz
      by_cases c : tabA K y.1 = tabA K p
      · have e := tab_inj T (lams_tf y hy) (lams_tf _ hp) c
        have e2 := lams_fun y hy (p, q) hp e
        show LamX.TabS H1 (tabA K y.1) y.2
        rw [c, e2]
        exact t
      · obtain ⟨qs, e1, t1, a1⟩ := ht.2 _ hz
        refine ⟨qs, f1 _ _ e1 c, t1, fun pos cv hc => ?_⟩
        obtain ⟨c', e2, e3⟩ := a1 pos cv hc
        refine ⟨c', e2, f1 _ _ e3 fun y => ?_⟩
        rw [y, e0] at e3
        exact LamX.codeO_ne qs0 (Option.some.inj e3).symm
  refine ⟨⟨fun b o e hb _ => f1 b o e fun y => ?_, f2, fun _ => tb⟩, tb⟩
  rw [y, e0] at e
  cases e
  cases hb
/-- a def whose code object is known -/
theorem okT {x qual : Str} {params : Arguments} {body : List Stmt} {scope : Scope} {dvs : List V} {kws : List (Str × V)} {p : He.Defn} {fd : FuncData} {CX : CXT} {N ps : List Str} {k : Nat} {sp : Sp} (F : FunD K x qual params body scope dvs kws (He.fAd K p) fd) (S : FnScope N ps scope)
    (len : ∀ vs H Q E, sp vs H Q E → vs.length = ps.length)
    (hbody : ∀ (A : Around) (outer : List Env) (s : Shared) (H : Hp) (vs : List V) (Q : VK) (E : XK), Room k (A.deeper (envOfC qual scope s.heap.objs.size (He.fAd K p) (.ref (He.codeOf K p)))) → sp vs H Q E →
      ∃ t, PSs (cxOf CX P w K mg base N qual scope (He.fAd K p) (.ref (He.codeOf K p)) A outer s H E) body t ∧ t { nx := fun _ H' => Q .non H', rt := Q } (L2.start N vs) H) : FnOk P w K mg base CX (k + 1) (He.fAd K p) fd ps sp := by
  obtain ⟨oc, od, dV, kV, doc, pm, an, cdv, ct, osl, rfl, lk, hcd, _, _⟩ := F.ex
  obtain ⟨c, rfl⟩ := He.codeIn_ref hcd
  have e : He.codeOf K p = c := He.codeOf_eq lk rfl
  subst e
  exact fn_of lk hcd S len hbody
def genB (scope : Scope) (x : Str) : Bool := (match scope.kind with | .function => true | _ => false) && (!scope.isCoroutine && (scope.names.all (fun y => match y.2 with | .cell => false | .free => false | _ => true) && (decide (scope.names.lookup (".0" : Str) = some NameKind.local) && decide (scope.names.lookup x = some NameKind.local))))
theorem gens_by {env : Env} {scope : Scope} {x : Str} (h : genB scope x = true) : GxR.GenS env scope x := by
  obtain ⟨h1, h⟩ := He.ba h
  obtain ⟨h2, h⟩ := He.ba h
  obtain ⟨h3, h⟩ := He.ba h
  obtain ⟨h4, h5⟩ := He.ba h
  have q := List.all_eq_true.mp h3
  refine ⟨?_, ?_, fun y hy e => ?_, of_decide_eq_true h4, of_decide_eq_true h5, fun y hy e => ?_⟩
  · split at h1
    · assumption
    · cases h1
  · simpa using h2
  · have := q y hy
    rw [e] at this
    cases this
  · have := q y hy
    rw [e] at this
    cases this
theorem elt_in {prog : Program} {w : World} {scope : Scope} {x k : Str} {j : Nat} {p1 p2 p3 : Pos} (hk : scope.kind = .function) (hl : scope.names.lookup x = some .local) (hd : (x == ("__debug__" : Str)) = false := by decide) :
    GxR.EltP prog w scope x (.Compare (.Name x p1) [.In] [.Constant (.str k) j p2] p3) (fun c => decide (c ∈ k.cps.toList)) := by
  intro cenv A' E' c t s2 m2 hs hn hm
  refine wpAny_Compare1 ?_
  refine wpAny_Name (wpAny_loadName_local (by rw [hs]; exact hk) (show cenv.scope.names.lookup x = some .local by rw [hs]; exact hl) hn hm ?_) hd
  refine Calls.Constant_str (PyProof.Rows.in_str ⟨?_, GxR.keeps_tok _ _⟩)
  exact congrArg Value.bool (PySem.StrLaws.found_one k c)
end
theorem FrT.fresh {K : PySem.W.Frag} {T : List Addr} {H H1 H2 : Hp} (a : FrT K [] H H1) (b : FrT K T H1 H2) (h : ∀ x ∈ T, H x = none) : FrT K [] H H2 :=
  ⟨fun c o e t _ => b.k c o (a.k c o e t (by simp)) t fun z => (by rw [h c z] at e; cases e), fun c z => a.b c (b.b c z), fun z => b.t (a.t z)⟩
theorem Frm.fresh {T : List Addr} {H H1 H2 : Hp} (a : Frm [] H H1) (b : Frm T H1 H2) (h : ∀ x ∈ T, H x = none) : Frm [] H H2 :=
  ⟨fun c o e t _ => b.k c o (a.k c o e t (by simp)) t fun z => (by rw [h c z] at e; cases e), fun c z => a.b c (b.b c z)⟩
theorem tb_upd {K : PySem.W.Frag} {H : Hp} {b : Addr} {xs : List V} {o : HO} (h : Tb K H) (hb : H b = some (.lst xs)) : Tb K (upd H b o) := by
  obtain ⟨h1, h2⟩ := h
  refine ⟨fun p hp => ?_, fun p hp => ?_⟩
  · obtain ⟨ps, e, t⟩ := h1 p hp
    refine ⟨ps, ?_, t⟩
    rw [upd_ne (ne_of e hb (by intro z; cases z))]
    exact e
  · obtain ⟨qs, e1, t1, a1⟩ := h2 p hp
    refine ⟨qs, ?_, t1, fun pos cv hc => ?_⟩
    · rw [upd_ne (ne_of e1 hb (by intro z; cases z))]
      exact e1
    · obtain ⟨c, e2, e3⟩ := a1 pos cv hc
      refine ⟨c, e2, ?_⟩
      rw [upd_ne (ne_of e3 hb (by intro z; cases z))]
      exact e3
theorem FrT.putN {K : PySem.W.Frag} {H H1 : Hp} {b : Addr} {xs : List V} {o : HO} (a : FrT K [] H H1) (h : H b = none) (hb : H1 b = some (.lst xs)) : FrT K [] H (upd H1 b o) :=
  ⟨fun c u e t n => by
    rw [upd_ne (ne_of_none e h)]
    exact a.k c u e t n, fun c z => a.b c (upd_back z), fun z => tb_upd (a.t z) hb⟩
end B

set_option Elab.async false
set_option linter.all false
set_option maxRecDepth 100000
set_option maxHeartbeats 4000000
namespace B
open PySem PySem.Spec PyProof.Rows L2
open SX (S)
section
variable {P : Program} {w : World} {K : PySem.W.Frag} {mg : Str → Option Value} {base : Heap}
theorem num_gen : pd_is_number ∈ gens := by decide +kernel
/-- a text of so many signs 0 and 1 is a number -/
def spIsNum (K : PySem.W.Frag) : Sp := fun vs H Q _ => ∃ (W : Nat) (x : Str), vs = [.int W, .str x] ∧ Num W x ∧ W ≤ 12 ∧ Tb K H ∧ ∀ H', FrT K [] H H' → Q (.bl true) H'
theorem c_is_number (T : Txt P w K mg base) : CalX CX0 P w K mg base 1 "is_number" (spIsNum K) := by
  obtain ⟨fd, F⟩ := T.t.def_ 2 (d := d_is_number)
  refine ⟨_, fd, _, okT (p := pd_is_number) F sc_is_number (fun vs H Q E h => ?_) (fun A outer s H vs Q E hr h => ?_), He.glo_ok T.X T.G (T.t.fact 2), F.kp, F.bindsN fun _ _ _ _ _ _ us hl => match us, hl with | [_, _], _ => rfl⟩
  · obtain ⟨W, x, rfl, _⟩ := h
    rfl
  · obtain ⟨W, x, rfl, hx, hW, ht, k⟩ := h
    refine ⟨_, PSs.nox (pss_cons (ps_if (PW.pt (pw_or (pt_not (pt_val (pe_callB call_isi (by rfl) (n_isinstance T) (by decide +kernel) (pa_cons (pv 1) (pa_cons (pe_bltn (v := .ty "str") (u := .type "str") rfl (n_str T) (by decide +kernel) rfl) pa_nil))))) (pw_or1 (pt_cmpR op_ne (pe_callB call_len_str (by rfl) (n_len T) PySem.boot_len (pa_cons (pv 1) pa_nil)) (pv 0) (nomark _)))))
      (pss_one (ps_ret pe_bl))
      pss_nil)
    (pss_one (ps_ret (GxR.pe_allS hr rfl (n_all T) (by decide +kernel) (tb_g T (p := pd_is_number) (by decide +kernel)) rfl (gens_by (by decide +kernel)) (pv 1) (elt_in rfl rfl) (fun _ => rfl))))), ?_⟩
    refine ⟨_, rfl, .str x, .ty "str", .type "str", .type "str", true, rfl, .ty "str", .base (.str x), kit_ty (by decide +kernel), true, rfl, ?_⟩
    refine ⟨_, rfl, x, rfl, by rw [num_len hx]; exact size12 (by omega), _, rfl, rfl, _, rfl, ?_⟩
    rw [num_len hx, decide_eq_true rfl]
    refine ⟨_, rfl, x, rfl, ht.1 _ num_gen, fun H2 hT => ?_⟩
    have e : x.cps.toList.all (fun c => decide (c ∈ ("01" : Str).cps.toList)) = true := by
      obtain ⟨l, rfl, _, b⟩ := hx
      refine List.all_eq_true.mpr fun c hc => ?_
      rcases b c hc with rfl | rfl <;> decide +kernel
    rw [e]
    exact k H2 (tb_gen T num_gen ht hT).1
end
end B

set_option Elab.async false
set_option linter.all false
set_option maxRecDepth 100000
set_option maxHeartbeats 4000000
namespace B
open PySem PySem.Spec PyProof.Rows L2
open SX (S)
/-! ### the wire's object -/
def wfl (W : Nat) (dh dl : Addr) (ms lk : Int) : List (Str × V) := [("width", .int W), ("_hanging", .ref dh), ("_listening", .ref dl), ("_many_said", .int ms), ("_many_looks", .int lk)]
abbrev WC (K : PySem.W.Frag) : Addr := He.ga K "Wire"
structure WiAt (K : PySem.W.Frag) (H : Hp) (pw dh dl : Addr) (W : Nat) (kvs : List (Str × Bool)) (lw : List Str) (ms lk : Int) : Prop where
  ob : ∃ dx, H pw = some (.ins (WC K) dx (wfl W dh dl ms lk))
  li : H dl = some (.lst (lw.map V.str))
  dc : H dh = some (.dK (kv kvs))
section
variable {W : Nat} {dh dl q : Addr} {ms lk z : Int}
theorem wl_width : (wfl W dh dl ms lk).lookup ("width" : Str) = some (.int W) := by kernel_rfl
theorem wl_hanging : (wfl W dh dl ms lk).lookup ("_hanging" : Str) = some (.ref dh) := by kernel_rfl
theorem wl_listening : (wfl W dh dl ms lk).lookup ("_listening" : Str) = some (.ref dl) := by kernel_rfl
theorem wl_said : (wfl W dh dl ms lk).lookup ("_many_said" : Str) = some (.int ms) := by kernel_rfl
theorem wl_looks : (wfl W dh dl ms lk).lookup ("_many_looks" : Str) = some (.int lk) := by kernel_rfl
theorem wp_listening : putF "_listening" (.ref q) (wfl W dh dl ms lk) = wfl W dh q ms lk := by kernel_rfl
theorem wp_said : putF "_many_said" (.int z) (wfl W dh dl ms lk) = wfl W dh dl z lk := by kernel_rfl
theorem wp_looks : putF "_many_looks" (.int z) (wfl W dh dl ms lk) = wfl W dh dl ms z := by kernel_rfl
theorem wp_new : putF "_many_looks" (.int 0) (putF "_many_said" (.int W) (putF "_listening" (.ref dl) (putF "_hanging" (.ref dh) (putF "width" (.int W) [])))) = wfl W dh dl W 0 := by kernel_rfl
theorem wl_len : (wfl W dh dl ms lk).length < 1000 := by show 5 < 1000; decide
end
section
variable {P : Program} {w : World} {K : PySem.W.Frag} {mg : Str → Option Value} {base : Heap}
theorem wcl (T : Txt P w K mg base) : Cls K (WC K) := He.cls_ok (T.t.fact 56 (f := .cls "Wire"))
theorem wn_width (T : Txt P w K mg base) : NoAttr K (WC K) "width" := He.noat_ok (T.t.fact 58 (f := .noat "Wire" "width"))
theorem wn_hanging (T : Txt P w K mg base) : NoAttr K (WC K) "_hanging" := He.noat_ok (T.t.fact 59 (f := .noat "Wire" "_hanging"))
theorem wn_listening (T : Txt P w K mg base) : NoAttr K (WC K) "_listening" := He.noat_ok (T.t.fact 60 (f := .noat "Wire" "_listening"))
theorem wn_said (T : Txt P w K mg base) : NoAttr K (WC K) "_many_said" := He.noat_ok (T.t.fact 61 (f := .noat "Wire" "_many_said"))
theorem wn_looks (T : Txt P w K mg base) : NoAttr K (WC K) "_many_looks" := He.noat_ok (T.t.fact 62 (f := .noat "Wire" "_many_looks"))
end
section
variable {X : Cx}
theorem mk_There (T : Txt X.prog X.w X.K X.mg X.base) {m : Str} {j : Nat} {p p2 pos : Pos} (hg : Gl X "There" := by rfl) : PMk X (.Call (.Name "There" p) [.Constant (.str m) j p2] [] pos) (fun _ H Q => Q (.ref (He.ga X.K "There")) none H) := by
  obtain ⟨a, b, c, d⟩ := He.exc_ok (T.t.fact 88 (f := .exc "There"))
  exact pmk_own PySem.F.excBase_ValueError a (g_There T) b (raises_own c d) hg
theorem mk_NotThere (T : Txt X.prog X.w X.K X.mg X.base) {m : Str} {j : Nat} {p p2 pos : Pos} (hg : Gl X "NotThere" := by rfl) : PMk X (.Call (.Name "NotThere" p) [.Constant (.str m) j p2] [] pos) (fun _ H Q => Q (.ref (He.ga X.K "NotThere")) none H) := by
  obtain ⟨a, b, c, d⟩ := He.exc_ok (T.t.fact 89 (f := .exc "NotThere"))
  exact pmk_own PySem.F.excBase_ValueError a (g_NotThere T) b (raises_own c d) hg
theorem mk_NoRound (T : Txt X.prog X.w X.K X.mg X.base) {m : Str} {j : Nat} {p p2 pos : Pos} (hg : Gl X "NoRound" := by rfl) : PMk X (.Call (.Name "NoRound" p) [.Constant (.str m) j p2] [] pos) (fun _ H Q => Q (.ref (He.ga X.K "NoRound")) none H) := by
  obtain ⟨a, b, c, d⟩ := He.exc_ok (T.t.fact 90 (f := .exc "NoRound"))
  exact pmk_own PySem.F.excBase_ValueError a (g_NoRound T) b (raises_own c d) hg
end
/-- what stands of a wire stands behind what changes other things -/
theorem WiAt.stay {K : PySem.W.Frag} {S : List Addr} {H H' : Hp} {pw dh dl : Addr} {W : Nat} {kvs : List (Str × Bool)} {lw : List Str} {ms lk : Int} (h : WiAt K H pw dh dl W kvs lw ms lk) (f : FrT K S H H') (n : NL S H) (h1 : pw ∉ S) (h2 : dh ∉ S) : WiAt K H' pw dh dl W kvs lw ms lk := by
  obtain ⟨⟨dx, a⟩, b, c⟩ := h
  exact ⟨⟨dx, f.k _ _ a rfl h1⟩, f.at n b rfl (nl_strs lw), f.k _ _ c rfl h2⟩
theorem WiAt.keep {K : PySem.W.Frag} {S : List Addr} {H H' : Hp} {pw dh dl : Addr} {W : Nat} {kvs : List (Str × Bool)} {lw : List Str} {ms lk : Int} (h : WiAt K H pw dh dl W kvs lw ms lk) (f : FrT K S H H') (h1 : pw ∉ S) (h2 : dh ∉ S) (h3 : dl ∉ S) : WiAt K H' pw dh dl W kvs lw ms lk := by
  obtain ⟨⟨dx, a⟩, b, c⟩ := h
  exact ⟨⟨dx, f.k _ _ a rfl h1⟩, f.k _ _ b rfl h3, f.k _ _ c rfl h2⟩
theorem MdAt.stay {K : PySem.W.Frag} {S : List Addr} {H H' : Hp} {pm dt ml : Addr} {W : Nat} {kvs : List (Str × Bool)} {lm : List Str} {sd : Option (List Nat)} {lk : Int} (h : MdAt H pm dt ml W kvs lm sd lk) (f : FrT K S H H') (n : NL S H) (h1 : pm ∉ S) (h2 : dt ∉ S) : MdAt H' pm dt ml W kvs lm sd lk := by
  obtain ⟨a, b, c⟩ := h
  exact ⟨f.k _ _ a rfl h1, f.at n b rfl (nl_strs lm), f.k _ _ c rfl h2⟩
theorem MdAt.keep {K : PySem.W.Frag} {S : List Addr} {H H' : Hp} {pm dt ml : Addr} {W : Nat} {kvs : List (Str × Bool)} {lm : List Str} {sd : Option (List Nat)} {lk : Int} (h : MdAt H pm dt ml W kvs lm sd lk) (f : FrT K S H H') (h1 : pm ∉ S) (h2 : dt ∉ S) (h3 : ml ∉ S) : MdAt H' pm dt ml W kvs lm sd lk := by
  obtain ⟨a, b, c⟩ := h
  exact ⟨f.k _ _ a rfl h1, f.k _ _ b rfl h3, f.k _ _ c rfl h2⟩
theorem WiAt.ne {K : PySem.W.Frag} {H : Hp} {pw dh dl : Addr} {W : Nat} {kvs : List (Str × Bool)} {lw : List Str} {ms lk : Int} (h : WiAt K H pw dh dl W kvs lw ms lk) : pw ≠ dh := by
  obtain ⟨⟨dx, a⟩, b, c⟩ := h
  exact ne_of a c (by intro z; cases z)
theorem WiAt.nl {K : PySem.W.Frag} {H : Hp} {pw dh dl : Addr} {W : Nat} {kvs : List (Str × Bool)} {lw : List Str} {ms lk : Int} (h : WiAt K H pw dh dl W kvs lw ms lk) : NL [pw, dh] H := by
  obtain ⟨⟨dx, a⟩, b, c⟩ := h
  exact .cons a rfl (.cons c rfl .nil)
theorem WiAt.nl1 {K : PySem.W.Frag} {H : Hp} {pw dh dl : Addr} {W : Nat} {kvs : List (Str × Bool)} {lw : List Str} {ms lk : Int} (h : WiAt K H pw dh dl W kvs lw ms lk) : NL [pw] H := by
  obtain ⟨⟨dx, a⟩, b, c⟩ := h
  exact .cons a rfl .nil
section
variable {P : Program} {w : World} {K : PySem.W.Frag} {mg : Str → Option Value} {base : Heap}
def spReqWidth : Sp := fun vs H Q _ => ∃ W : Nat, vs = [.int W] ∧ 1 ≤ W ∧ W ≤ 12 ∧ Q .non H
theorem c_require_width (T : Txt P w K mg base) : CalX CX0 P w K mg base 1 "require_width" spReqWidth := by
  obtain ⟨fd, F⟩ := T.t.def_ 0 (d := d_require_width)
  refine ⟨_, fd, _, F.ok sc_require_width (fun vs H Q E h => ?_) (fun cdv A outer s H vs Q E hr h => ?_), He.glo_ok T.X T.G (T.t.fact 0), F.kp, F.bindsN fun _ _ _ _ _ _ us hl => match us, hl with | [_], _ => rfl⟩
  · obtain ⟨W, rfl, _⟩ := h
    rfl
  · obtain ⟨W, rfl, h1, h2, k⟩ := h
    refine ⟨_, PSs.nox (pss_one (ps_if (PW.pt (pw_or (pt_val (pe_callB call_isi (by rfl) (n_isinstance T) (by decide +kernel) (pa_cons (pv 0) (pa_cons (pe_bltn (v := .ty "bool") (u := .type "bool") rfl (n_bool T) (by decide +kernel) rfl) pa_nil)))) (pw_or1 (pt_not (pt_chain op_le op_le (g_LEAST_WIDTH T) (pv 0) (g_GREATEST_WIDTH T))))))
      (pss_one ps_never)
      pss_nil)), ?_⟩
    refine ⟨_, rfl, .int W, .ty "bool", .type "int", .type "bool", false, rfl, .ty "bool", .base (.int W), kit_ty (by decide +kernel), false, rfl, ?_⟩
    refine ⟨_, rfl, 1, W, rfl, rfl, _, rfl, ?_⟩
    rw [decide_eq_true (show (1 : Int) ≤ (W : Int) by omega)]
    refine ⟨W, 12, rfl, rfl, _, rfl, ?_⟩
    rw [decide_eq_true (show (W : Int) ≤ 12 by omega)]
    exact k
def spReqNum (K : PySem.W.Frag) : Sp := fun vs H Q _ => ∃ (W : Nat) (x : Str), vs = [.int W, .str x] ∧ Num W x ∧ W ≤ 12 ∧ Tb K H ∧ ∀ H', FrT K [] H H' → Q .non H'
theorem c_require_number (T : Txt P w K mg base) : CalX CX0 P w K mg base 2 "require_number" (spReqNum K) := by
  obtain ⟨fd, F⟩ := T.t.def_ 1 (d := d_require_number)
  refine ⟨_, fd, _, F.ok sc_require_number (fun vs H Q E h => ?_) (fun cdv A outer s H vs Q E hr h => ?_), He.glo_ok T.X T.G (T.t.fact 1), F.kp, F.bindsN fun _ _ _ _ _ _ us hl => match us, hl with | [_, _], _ => rfl⟩
  · obtain ⟨W, x, rfl, _⟩ := h
    rfl
  · obtain ⟨W, x, rfl, hx, hW, ht, k⟩ := h
    refine ⟨_, PSs.nox (pss_one (ps_if (pt_not (pt_val (pe_cx (c_is_number T) hr (by decide) rfl pass0 (pa_cons (pv 0) (pa_cons (pv 1) pa_nil)))))
      (pss_one ps_never)
      pss_nil)), ?_⟩
    exact ⟨_, rfl, _, rfl, W, x, rfl, hx, hW, ht, fun H' f => ⟨true, rfl, k H' f⟩⟩
theorem tup_K {x : Str} {vs : List V} (h : tupB K x vs = true) (hl : vs.length ≤ sizeLine) (H : Hp) : SqT K H (He.ga K x) vs := by
  unfold tupB at h
  split at h
  · rename_i t dd its n sl e
    obtain ⟨h1, h2⟩ := He.ba h
    have e1 : t = "tuple" := of_decide_eq_true h1
    subst e1
    have rl := He.relAll_ok h2
    refine .inr ⟨_, its, n, e, rfl, rfl, ?_, rl⟩
    have z : vs.length = its.toList.length := Paired.length rl
    have y : its.toList.length = its.size := by simp
    omega
  · cases h
def spReqKind : Sp := fun vs H Q _ => ∃ k : Str, vs = [.str k] ∧ (k = "all" ∨ k = "alarm") ∧ Q .non H
theorem c_require_kind (T : Txt P w K mg base) : CalX CX0 P w K mg base 1 "require_kind" spReqKind := by
  obtain ⟨fd, F⟩ := T.t.def_ 14 (d := d_require_kind)
  refine ⟨_, fd, _, F.ok sc_require_kind (fun vs H Q E h => ?_) (fun cdv A outer s H vs Q E hr h => ?_), He.glo_ok T.X T.G (T.t.fact 14), F.kp, F.bindsN fun _ _ _ _ _ _ us hl => match us, hl with | [_], _ => rfl⟩
  · obtain ⟨x, rfl, _⟩ := h
    rfl
  · obtain ⟨x, rfl, hk, k⟩ := h
    refine ⟨_, PSs.nox (pss_one (ps_if (pt_cmpR op_notIn_seq (pv 0) (g_KINDS T) rfl)
      (pss_one ps_never)
      pss_nil)), ?_⟩
    refine ⟨_, rfl, _, _, rfl, .inr (tup_K (xc_KINDS T) (by show 2 ≤ sizeLine; decide) H), rfl, rfl, _, rfl, ?_⟩
    have e : inV (.str x) [V.str "all", V.str "alarm"] = true := by rcases hk with rfl | rfl <;> decide +kernel
    rw [e]
    exact k
/-! ### a wire made -/
def spInit (K : PySem.W.Frag) : Sp := fun vs H Q _ => ∃ (pw dx : Addr) (W : Nat), vs = [.ref pw, .int W] ∧ H pw = some (.ins (WC K) dx []) ∧ 1 ≤ W ∧ W ≤ 12 ∧ ∀ (dh dl : Addr) (H' : Hp), H dh = none → H dl = none → H' pw = some (.ins (WC K) dx (wfl W dh dl W 0)) → H' dl = some (.lst []) → H' dh = some (.dK []) → Frm [pw] H H' → Q .non H'
theorem c_init (T : Txt P w K mg base) : MakX CX0 P w K mg base 2 "Wire" (WC K) (spInit K) := by
  obtain ⟨fd, F⟩ := T.t.def_ 15 (d := d_Wire_init)
  refine ⟨_, fd, _, He.mkr_ok (T.t.fact 57 (f := .mkr "Wire")), F.ok sc_Wire_init (fun vs H Q E h => ?_) (fun cdv A outer s H vs Q E hr h => ?_), g_Wire T, F.bindsN fun _ _ _ _ _ _ us hl => match us, hl with | [_, _], _ => rfl⟩
  · obtain ⟨pw, dx, W, rfl, _⟩ := h
    rfl
  · obtain ⟨pw, dx, W, rfl, h1, hW1, hW, k⟩ := h
    refine ⟨_, PSs.nox (pss_cons (ps_expr (pe_cx (c_require_width T) hr (by decide) rfl pass0 (pa_cons (pv 1) pa_nil)))
    (pss_cons (ps_fld (pv 0) (pv 1) rfl)
    (pss_cons (ps_fld (pv 0) pe_dnewK rfl)
    (pss_cons (ps_fld (pv 0) (pe_lst pa_nil) rfl)
    (pss_cons (ps_fld (pv 0) (pv 1) rfl)
    (pss_one (ps_fld (pv 0) pe_int rfl))))))), ?_⟩
    refine ⟨_, rfl, W, rfl, hW1, hW, ?_⟩
    refine ⟨_, rfl, _, rfl, pw, _, dx, _, rfl, h1, wcl T, wn_width T, by show 0 < 1000; decide, fun dh hdh => ?_⟩
    have n1 : pw ≠ dh := ne_of_none upd_same hdh
    refine ⟨_, rfl, pw, _, dx, _, rfl, by rw [upd_ne n1]; exact upd_same, wcl T, wn_hanging T, by show 1 < 1000; decide, Nat.zero_le _, fun dl hdl => ?_⟩
    have n2 : pw ≠ dl := ne_of_none upd_same hdl
    have n3 : dh ≠ dl := ne_of_none (by rw [upd_ne n1.symm]; exact upd_same) hdl
    refine ⟨_, rfl, pw, _, dx, _, rfl, by rw [upd_ne n2]; exact upd_same, wcl T, wn_listening T, by show 2 < 1000; decide, ?_⟩
    refine ⟨_, rfl, _, rfl, pw, _, dx, _, rfl, upd_same, wcl T, wn_said T, by show 3 < 1000; decide, ?_⟩
    refine ⟨_, rfl, pw, _, dx, _, rfl, upd_same, wcl T, wn_looks T, by show 4 < 1000; decide, ?_⟩
    rw [wp_new]
    have hdh' : H dh = none := upd_back hdh
    have hdl' : H dl = none := upd_back (upd_back (upd_back hdl))
    refine k dh dl _ hdh' hdl' upd_same ?_ ?_ (((((((Frm.refl _ _).put (by simp)).new hdh').put (by simp)).new hdl').put (by simp)).put (by simp) |>.put (by simp))
    · rw [upd_ne n2.symm, upd_ne n2.symm, upd_ne n2.symm, upd_same]
    · rw [upd_ne n1.symm, upd_ne n1.symm, upd_ne n1.symm, upd_ne n3, upd_ne n1.symm, upd_same]
theorem k_Wire (T : Txt P w K mg base) : MakX CX0 P w K mg base 2 "Wire" (WC K) (spInit K) := c_init T
end
end B

set_option Elab.async false
set_option linter.all false
set_option maxRecDepth 100000
set_option maxHeartbeats 4000000
namespace B
open PySem PySem.Spec PyProof.Rows L2
open SX (S)
theorem int_dec (a b : Int) : decide (V.int a = V.int b) = decide (a = b) := by
  by_cases h : a = b
  · rw [decide_eq_true h, decide_eq_true (by rw [h])]
  · rw [decide_eq_false h, decide_eq_false (fun q => h (V.int.inj q))]
section
variable {W : Nat} {dh dl : Addr} {ms lk : Int}
theorem wx_hung : (wfl W dh dl ms lk).lookup ("hung" : Str) = none := by kernel_rfl
theorem wx_alarms : (wfl W dh dl ms lk).lookup ("alarms" : Str) = none := by kernel_rfl
theorem wx_reqh : (wfl W dh dl ms lk).lookup ("_require_hanging" : Str) = none := by kernel_rfl
theorem wx_reqr : (wfl W dh dl ms lk).lookup ("_require_round" : Str) = none := by kernel_rfl
theorem wx_hang : (wfl W dh dl ms lk).lookup ("hang" : Str) = none := by kernel_rfl
theorem wx_off : (wfl W dh dl ms lk).lookup ("off" : Str) = none := by kernel_rfl
theorem wx_alarm : (wfl W dh dl ms lk).lookup ("alarm" : Str) = none := by kernel_rfl
theorem wx_calm : (wfl W dh dl ms lk).lookup ("calm" : Str) = none := by kernel_rfl
theorem wx_begin : (wfl W dh dl ms lk).lookup ("begin" : Str) = none := by kernel_rfl
theorem wx_look : (wfl W dh dl ms lk).lookup ("look" : Str) = none := by kernel_rfl
theorem wx_say : (wfl W dh dl ms lk).lookup ("say" : Str) = none := by kernel_rfl
theorem wx_looks : (wfl W dh dl ms lk).lookup ("looks" : Str) = none := by kernel_rfl
end
theorem lisB_all (kvs : List (Str × Bool)) : lisB kvs true = kvs.map (·.1) := by
  unfold lisB
  have : kvs.filter (fun p => true || p.2) = kvs := List.filter_eq_self.mpr fun p _ => rfl
  rw [this]
theorem lisB_len (kvs : List (Str × Bool)) (b : Bool) : (lisB kvs b).length ≤ kvs.length := by
  unfold lisB
  rw [List.length_map]
  exact List.length_filter_le _ _
section
variable {P : Program} {w : World} {K : PySem.W.Frag} {mg : Str → Option Value} {base : Heap}
def spLooks (K : PySem.W.Frag) : Sp := fun vs H Q _ => ∃ (pw dh dl : Addr) (W : Nat) (kvs : List (Str × Bool)) (lw : List Str) (ms lk : Int), vs = [.ref pw] ∧ WiAt K H pw dh dl W kvs lw ms lk ∧ Q (.int lk) H
theorem m_Wire_looks (T : Txt P w K mg base) : MetX CX0 P w K mg base 1 (WC K) "looks" (spLooks K) := by
  obtain ⟨fd, F⟩ := T.t.def_ 23 (d := d_Wire_looks)
  refine ⟨_, fd, _, wcl T, He.meth_ok (T.t.fact 70 (f := .meth "Wire" "looks")), F.ok sc_Wire_looks (fun vs H Q E h => ?_) (fun cdv A outer s H vs Q E hr h => ?_), F.bindsN fun _ _ _ _ _ _ us hl => match us, hl with | [_], _ => rfl⟩
  · obtain ⟨pw, dh, dl, W, kvs, lw, ms, lk, rfl, _⟩ := h
    rfl
  · obtain ⟨pw, dh, dl, W, kvs, lw, ms, lk, rfl, ⟨⟨dx, h1⟩, h2, h3⟩, k⟩ := h
    refine ⟨_, PSs.nox (pss_one (ps_ret (pe_fld (pv 0) (by rfl)))), ?_⟩
    exact ⟨_, rfl, pw, _, dx, _, _, rfl, h1, wcl T, wn_looks T, wl_looks, k⟩
def spRound (K : PySem.W.Frag) : Sp := fun vs H Q E => ∃ (pw dh dl : Addr) (W : Nat) (kvs : List (Str × Bool)) (lw : List Str) (ms lk : Int), vs = [.ref pw] ∧ WiAt K H pw dh dl W kvs lw ms lk ∧ (ms = W → E (.ref (He.ga K "NoRound")) none H) ∧ (ms ≠ W → Q .non H)
theorem m_Wire__require_round (T : Txt P w K mg base) : MetX (L2.CX P w) P w K mg base 1 (WC K) "_require_round" (spRound K) := by
  obtain ⟨fd, F⟩ := T.t.def_ 25 (d := d_Wire__require_round)
  refine ⟨_, fd, _, wcl T, He.meth_ok (T.t.fact 72 (f := .meth "Wire" "_require_round")), F.ok sc_Wire__require_round (fun vs H Q E h => ?_) (fun cdv A outer s H vs Q E hr h => ?_), F.bindsN fun _ _ _ _ _ _ us hl => match us, hl with | [_], _ => rfl⟩
  · obtain ⟨pw, dh, dl, W, kvs, lw, ms, lk, rfl, _⟩ := h
    rfl
  · obtain ⟨pw, dh, dl, W, kvs, lw, ms, lk, rfl, ⟨⟨dx, h1⟩, h2, h3⟩, k1, k2⟩ := h
    refine ⟨_, (pss_one (ps_if (pt_cmpR op_eq (pe_fld (pv 0) (by rfl)) (pe_fld (pv 0) (by rfl)) (nomark _))
      (pss_one (ps_raise rfl (takes_of rfl rfl rfl rfl) (mk_NoRound T)))
      pss_nil)), ?_⟩
    refine ⟨_, rfl, pw, _, dx, _, _, rfl, h1, wcl T, wn_said T, wl_said, _, rfl, pw, _, dx, _, _, rfl, h1, wcl T, wn_width T, wl_width, rfl, _, rfl, ?_⟩
    rw [int_dec]
    exact iteB (fun c => k1 (of_decide_eq_true c)) (fun c => k2 (of_decide_eq_false c))
/-- all that hang, rising -/
def spHung (K : PySem.W.Frag) : Sp := fun vs H Q _ => ∃ (pw dh dl : Addr) (W : Nat) (kvs : List (Str × Bool)) (lw : List Str) (ms lk : Int), vs = [.ref pw] ∧ WiAt K H pw dh dl W kvs lw ms lk ∧ kvs.length < 64 ∧
  ∀ (ys : List Str) (p : Addr) (H' : Hp), ys.Perm (kvs.map (·.1)) → sortedS ys = true → H p = none → H' p = some (.lst (ys.map V.str)) → Frm [] H H' → Q (.ref p) H'
theorem m_Wire_hung (T : Txt P w K mg base) : MetX CX0 P w K mg base 1 (WC K) "hung" (spHung K) := by
  obtain ⟨fd, F⟩ := T.t.def_ 18 (d := d_Wire_hung)
  refine ⟨_, fd, _, wcl T, He.meth_ok (T.t.fact 65 (f := .meth "Wire" "hung")), F.ok sc_Wire_hung (fun vs H Q E h => ?_) (fun cdv A outer s H vs Q E hr h => ?_), F.bindsN fun _ _ _ _ _ _ us hl => match us, hl with | [_], _ => rfl⟩
  · obtain ⟨pw, dh, dl, W, kvs, lw, ms, lk, rfl, _⟩ := h
    rfl
  · obtain ⟨pw, dh, dl, W, kvs, lw, ms, lk, rfl, ⟨⟨dx, h1⟩, h2, h3⟩, hl, k⟩ := h
    refine ⟨_, PSs.nox (pss_one (ps_ret (pe_callB (call_sortedD rfl) (by rfl) (n_sorted T) (by decide +kernel) (pa_cons (pe_fld (pv 0) (by rfl)) pa_nil)))), ?_⟩
    exact ⟨_, rfl, pw, _, dx, _, _, rfl, h1, wcl T, wn_hanging T, wl_hanging, dh, kv kvs, kvs.map (·.1), rfl, .inl h3, keys_kv kvs, by rw [List.length_map]; exact hl, fun ys p pm srt hp => k ys p _ pm srt hp upd_same (Frm.of (same_upd hp))⟩
/-- all that have an alarm, rising -/
def spAlarms (K : PySem.W.Frag) : Sp := fun vs H Q _ => ∃ (pw dh dl : Addr) (W : Nat) (kvs : List (Str × Bool)) (lw : List Str) (ms lk : Int), vs = [.ref pw] ∧ WiAt K H pw dh dl W kvs lw ms lk ∧ kvs.length < 64 ∧ (kvs.map (·.1)).Nodup ∧
  ∀ (ys : List Str) (p : Addr) (H' : Hp), ys.Perm (lisB kvs false) → sortedS ys = true → H p = none → H' p = some (.lst (ys.map V.str)) → Frm [] H H' → Q (.ref p) H'
theorem m_Wire_alarms (T : Txt P w K mg base) : MetX CX0 P w K mg base 1 (WC K) "alarms" (spAlarms K) := by
  obtain ⟨fd, F⟩ := T.t.def_ 19 (d := d_Wire_alarms)
  refine ⟨_, fd, _, wcl T, He.meth_ok (T.t.fact 66 (f := .meth "Wire" "alarms")), F.ok sc_Wire_alarms (fun vs H Q E h => ?_) (fun cdv A outer s H vs Q E hr h => ?_), F.bindsN fun _ _ _ _ _ _ us hl => match us, hl with | [_], _ => rfl⟩
  · obtain ⟨pw, dh, dl, W, kvs, lw, ms, lk, rfl, _⟩ := h
    rfl
  · obtain ⟨pw, dh, dl, W, kvs, lw, ms, lk, rfl, wa, hl, hnd, k⟩ := h
    have npd := wa.ne
    obtain ⟨⟨dx, h1⟩, h2, h3⟩ := wa
    have hu := hu_of hr
    refine ⟨_, PSs.nox (pss_one (ps_ret (pe_callB cr_sortedS (by rfl) (n_sorted T) (by decide +kernel) (pa_cons (pe_lock (pe_lc (own := [("number", 1)]) (g := gName 1) rfl sc_Wire_alarms.nd (pi_keys (pe_fld (pv 0) (by rfl))) (blkOk_by (N := ["self", "number"]) (sc := defScope s_Wire_alarms) (own := [("number", 1)]) (by decide +kernel)) (fun _ _ _ _ _ => pg_name (i := 1) sc_Wire_alarms.nd rfl (Or.inl rfl)) (fun _ _ _ _ _ => pts_one (by exact (pt_val (pe_dget hu (pe_fldK (K := K) rfl (pv 0) (by rfl)) (pv 1) (fun _ _ => rfl))))) (fun _ _ _ _ _ => by exact (pv 1)))) pa_nil)))), ?_⟩
    refine ⟨dh, _, h3, trivial, fun od => ?_⟩
    have h1' : (upd H dh (.frz od (.dK (kv kvs)))) pw = some (.ins (WC K) dx (wfl W dh dl ms lk)) := by rw [upd_ne npd]; exact h1
    refine ⟨_, rfl, pw, _, dx, _, _, rfl, h1', wcl T, wn_hanging T, wl_hanging, dh, od, rfl, .inl ⟨_, upd_same, fun D hD => ?_⟩⟩
    have ndD : dh ≠ D := ne_of_none upd_same hD
    have npD : pw ≠ D := ne_of_none h1' hD
    refine lc_it walk_keys (fun i H' => H' = upd (upd H dh (.frz od (.dK (kv kvs)))) D (.lst ((lisB (kvs.take i) false).map V.str))) rfl (fun i H' _ e => by rw [e, upd_ne ndD, upd_same]) ?_ ?_
    · rintro i y H1 H2 hi e ⟨rfl, kk, v, hk, rfl⟩
      subst H2
      obtain ⟨x, b, hxb, rfl, rfl⟩ := kv_at hk
      have hg := get_at hnd hxb
      have hl' := lisB_len (kvs.take i) false
      rw [List.length_take] at hl'
      refine ⟨rfl, _, rfl, pw, _, dx, _, _, rfl, by rw [upd_ne npD]; exact h1', wcl T, wn_hanging T, wl_hanging, _, rfl, dh, _, rfl, dg_get (.inr ⟨od, by rw [upd_ne ndD, upd_same]⟩) hg, b, rfl, iteB (fun cb => ?_) (fun cb => ?_)⟩
      · refine ⟨_, rfl, _, upd_same, by rw [List.length_map]; exact small1000 (by omega), ?_⟩
        show _ = _
        rw [upd_upd]
        unfold lisB
        rw [filter_step _ hxb, if_pos (show (false || b) = true by rw [cb]; rfl), List.map_append, List.map_append]
        rfl
      · show _ = _
        unfold lisB
        rw [filter_step _ hxb, if_neg (show ¬ (false || b) = true by rw [cb]; exact Bool.false_ne_true), List.append_nil]
    · rintro H1 rfl
      have e : (kv kvs).length = kvs.length := by unfold kv; rw [List.length_map]
      rw [e, List.take_length]
      refine ⟨by rw [upd_ne ndD, upd_same], ?_⟩
      rw [upd_lock h3 ndD]
      have hD' : H D = none := upd_back hD
      have hl' := lisB_len kvs false
      exact ⟨D, lisB kvs false, rfl, SqL.of upd_same, by omega, fun ys p pm srt hp => k ys p _ pm srt (upd_back hp) upd_same ((Frm.of (same_upd hD')).trans (Frm.of (same_upd hp)))⟩
/-- a round begun -/
def spBegin (K : PySem.W.Frag) : Sp := fun vs H Q _ => ∃ (pw dh dl : Addr) (kind : Str) (W : Nat) (kvs : List (Str × Bool)) (lw : List Str) (ms lk : Int), vs = [.ref pw, .str kind] ∧ (kind = "all" ∨ kind = "alarm") ∧ WiAt K H pw dh dl W kvs lw ms lk ∧ kvs.length < 64 ∧ (kvs.map (·.1)).Nodup ∧
  ∀ (ys : List Str) (dl' : Addr) (H' : Hp), ys.Perm (lisB kvs (decide (kind = "all"))) → H dl' = none → WiAt K H' pw dh dl' W kvs ys 0 lk → Frm [pw] H H' → Q .non H'
theorem m_Wire_begin (T : Txt P w K mg base) : MetX CX0 P w K mg base 2 (WC K) "begin" (spBegin K) := by
  obtain ⟨fd, F⟩ := T.t.def_ 20 (d := d_Wire_begin)
  refine ⟨_, fd, _, wcl T, He.meth_ok (T.t.fact 67 (f := .meth "Wire" "begin")), F.ok sc_Wire_begin (fun vs H Q E h => ?_) (fun cdv A outer s H vs Q E hr h => ?_), F.bindsN fun _ _ _ _ _ _ us hl => match us, hl with | [_, _], _ => rfl⟩
  · obtain ⟨pw, dh, dl, kind, W, kvs, lw, ms, lk, rfl, _⟩ := h
    rfl
  · obtain ⟨pw, dh, dl, kind, W, kvs, lw, ms, lk, rfl, hk, wa, hl, hnd, k⟩ := h
    have npd := wa.ne
    have wa' := wa
    obtain ⟨⟨dx, h1⟩, h2, h3⟩ := wa
    refine ⟨_, PSs.nox (pss_cons (ps_expr (pe_cx (c_require_kind T) hr (by decide) rfl pass0 (pa_cons (pv 1) pa_nil)))
    (pss_cons (ps_fld (pv 0) (pe_ifExp (pt_cmpR op_eq (pv 1) pe_str (nomark _)) (pe_mx0 (m_Wire_hung T) hr (by decide) (pv 0) pass0) (pe_mx0 (m_Wire_alarms T) hr (by decide) (pv 0) pass0)) rfl)
    (pss_one (ps_fld (pv 0) pe_int rfl)))), ?_⟩
    refine ⟨_, rfl, kind, rfl, hk, ?_⟩
    have go : ∀ (ys : List Str) (p : Addr) (H' : Hp), ys.Perm (lisB kvs (decide (kind = "all"))) → sortedS ys = true → H p = none → H' p = some (.lst (ys.map V.str)) → Frm [] H H' →
        ∃ v, [some (V.ref pw), some (V.str kind)][0]? = some (some v) ∧ ∃ a C dx fs, v = .ref a ∧ H' a = some (.ins C dx fs) ∧ Cls K C ∧ NoAttr K C "_listening" ∧ fs.length < 1000 ∧
          tSeq (sFld K (tVar 0) (tC (.int 0)) "_many_said") tNext { nx := fun _ H' => Q .non H', rt := Q } [some (V.ref pw), some (V.str kind)] (upd H' a (.ins C dx (putF "_listening" (.ref p) fs))) := fun ys p H' pm _ hp hl' f => by
      have g1 : H' pw = some (.ins (WC K) dx (wfl W dh dl ms lk)) := f.k _ _ h1 rfl (by simp)
      have g3 : H' dh = some (.dK (kv kvs)) := f.k _ _ h3 rfl (by simp)
      have npp : pw ≠ p := ne_of_none h1 hp
      refine ⟨_, rfl, pw, _, dx, _, rfl, g1, wcl T, wn_listening T, wl_len, ?_⟩
      rw [wp_listening]
      refine ⟨_, rfl, pw, _, dx, _, rfl, upd_same, wcl T, wn_said T, wl_len, ?_⟩
      rw [wp_said]
      refine k ys p _ pm hp ⟨⟨dx, upd_same⟩, ?_, ?_⟩ (((f.mono (by simp)).put (by simp)).put (by simp))
      · rw [upd_ne npp.symm, upd_ne npp.symm]
        exact hl'
      · rw [upd_ne npd.symm, upd_ne npd.symm]
        exact g3
    refine ⟨_, rfl, rfl, _, rfl, ?_⟩
    rw [str_dec]
    refine iteB (fun c => ?_) (fun c => ?_)
    · refine ⟨_, rfl, pw, dx, _, rfl, h1, wx_hung, pw, dh, dl, W, kvs, lw, ms, lk, rfl, wa', hl, fun ys p H' pm srt hp hl' f => go ys p H' ?_ srt hp hl' f⟩
      rw [c, lisB_all]
      exact pm
    · refine ⟨_, rfl, pw, dx, _, rfl, h1, wx_alarms, pw, dh, dl, W, kvs, lw, ms, lk, rfl, wa', hl, hnd, fun ys p H' pm srt hp hl' f => go ys p H' ?_ srt hp hl' f⟩
      rw [c]
      exact pm
end
end B

set_option Elab.async false
set_option linter.all false
set_option maxRecDepth 100000
set_option maxHeartbeats 4000000
namespace B
open PySem PySem.Spec PyProof.Rows L2
open SX (S)
/-- the sign at a place -/
def sgn (n : Nat) (x : Str) : Nat := x.cps.toList.getD n 0
theorem sgn_at {n c : Nat} {x : Str} (h : x.cps.toList[n]? = some c) : sgn n x = c := by
  unfold sgn
  rw [List.getD_eq_getElem?_getD, h]
  rfl
theorem flat_sgn (n : Nat) (xs : List Str) : (xs.map fun x => V.str (S [sgn n x])).all flatV = true := by
  induction xs with
  | nil => rfl
  | cons x r ih => rw [List.map_cons, List.all_cons, ih]; rfl
theorem inV_sgn {W n d : Nat} (hn : n < W) : ∀ xs : List Str, (∀ x ∈ xs, Num W x) → inV (.str (S [d])) (xs.map fun x => V.str (S [sgn n x])) = xs.any (sg n d)
  | [], _ => rfl
  | x :: r, h => by
    have ih := inV_sgn (d := d) hn r fun y hy => h y (List.mem_cons_of_mem _ hy)
    obtain ⟨c, _, g1, _⟩ := num_at (h x List.mem_cons_self) hn
    show (eqV (.str (S [sgn n x])) (.str (S [d])) || inV (.str (S [d])) (r.map fun x => V.str (S [sgn n x]))) = (sg n d x || r.any (sg n d))
    rw [ih, sgn_at g1, sg_at g1]
    congr 1
    show (S [c] == S [d]) = decide (c = d)
    rw [SX.S_beq_eq]
    by_cases e : c = d
    · rw [decide_eq_true e, decide_eq_true (by rw [e])]
    · rw [decide_eq_false e, decide_eq_false (fun q => e (List.cons.inj q).1)]
section
variable {P : Program} {w : World} {K : PySem.W.Frag} {mg : Str → Option Value} {base : Heap}
/-- a look -/
def spLook (K : PySem.W.Frag) : Sp := fun vs H Q E => ∃ (pw dh dl : Addr) (W : Nat) (kvs : List (Str × Bool)) (lw : List Str) (ms lk : Int), vs = [.ref pw] ∧ WiAt K H pw dh dl W kvs lw ms lk ∧ W ≤ 12 ∧ 0 ≤ ms ∧ ms ≤ W ∧ (∀ x ∈ lw, Num W x) ∧ lw.length ≤ 100 ∧
  (ms = W → E (.ref (He.ga K "NoRound")) none H) ∧ (ms ≠ W → ∀ (p : Addr) (H' : Hp), H' p = some (.tup [.bl (lw.any (sg ms.toNat 48)), .bl (lw.any (sg ms.toNat 49))]) → WiAt K H' pw dh dl W kvs lw ms (lk + 1) → Frm [pw] H H' → Q (.ref p) H')
theorem m_Wire_look (T : Txt P w K mg base) : MetX (L2.CX P w) P w K mg base 2 (WC K) "look" (spLook K) := by
  obtain ⟨fd, F⟩ := T.t.def_ 21 (d := d_Wire_look)
  refine ⟨_, fd, _, wcl T, He.meth_ok (T.t.fact 68 (f := .meth "Wire" "look")), F.ok sc_Wire_look (fun vs H Q E h => ?_) (fun cdv A outer s H vs Q E hr h => ?_), F.bindsN fun _ _ _ _ _ _ us hl => match us, hl with | [_], _ => rfl⟩
  · obtain ⟨pw, dh, dl, W, kvs, lw, ms, lk, rfl, _⟩ := h
    rfl
  · obtain ⟨pw, dh, dl, W, kvs, lw, ms, lk, rfl, wa, hW, hm0, hm1, hn, hl, k1, k2⟩ := h
    have npd := wa.ne
    have wa' := wa
    obtain ⟨⟨dx, h1⟩, h2, h3⟩ := wa
    refine ⟨_, (pss_cons (ps_expr (pe_mx0 (m_Wire__require_round T) hr (by decide) (pv 0) (passes_call (takes_of rfl rfl rfl rfl) (fun _ _ _ _ h => h))))
    (pss_cons (ps_fldaug (pv 0) pe_int in_add)
    (pss_cons (ps_setLc (i := 1) (own := [("number", 2)]) (g := gName 2) rfl sc_Wire_look.nd rfl rfl (sw_true rfl rfl rfl (by decide +kernel)) (pi_list (pe_fld (pv 0) (by rfl))) (blkOk_by (N := ["self", "signs", "number"]) (sc := defScope s_Wire_look) (own := [("number", 2)]) (by decide +kernel)) (fun _ _ _ _ _ => pg_name (i := 2) sc_Wire_look.nd rfl (Or.inl rfl)) (fun _ _ _ _ _ => pts_nil) (fun _ _ _ _ _ => by exact (pe_ix ix_str (pv 2) (pe_fldK (K := K) rfl (pv 0) (by rfl)) (fun _ _ => rfl))))
    (pss_one (ps_ret (pe_tup (pa_cons (pe_cmpR op_in_seq pe_str (pv 1) rfl) (pa_cons (pe_cmpR op_in_seq pe_str (pv 1) rfl) pa_nil)))))))), ?_⟩
    refine ⟨_, rfl, pw, dx, _, rfl, h1, wx_reqr, pw, dh, dl, W, kvs, lw, ms, lk, rfl, wa', k1, fun hne => ?_⟩
    have k := k2 hne
    have hlt : ms.toNat < W := by omega
    refine ⟨_, rfl, pw, _, dx, _, _, rfl, h1, wcl T, wn_looks T, wl_looks, lk, 1, rfl, rfl, dx, _, h1, wl_len, ?_⟩
    rw [wp_looks]
    have ndl : dl ≠ pw := ne_of h2 h1 (by intro z; cases z)
    have h2' : (upd H pw (.ins (WC K) dx (wfl W dh dl ms (lk + 1)))) dl = some (.lst (lw.map V.str)) := by rw [upd_ne ndl]; exact h2
    refine ⟨_, rfl, pw, _, dx, _, _, rfl, upd_same, wcl T, wn_listening T, wl_listening, dl, rfl, ⟨_, SqL.of h2'⟩, fun D hD => ?_⟩
    have npD : pw ≠ D := ne_of_none upd_same hD
    have nlD : dl ≠ D := ne_of_none h2' hD
    refine lc_list (K := K) (a := dl) (xs := lw.map V.str) (fun i H' => H' = upd (upd H pw (.ins (WC K) dx (wfl W dh dl ms (lk + 1)))) D (.lst ((lw.take i).map fun x => V.str (S [sgn ms.toNat x])))) rfl (fun i H' _ e => by rw [e]; exact SqL.of (by rw [upd_ne nlD]; exact h2')) ?_ ?_
    · rintro i y H1 hi e
      subst e
      obtain ⟨x, hx, rfl⟩ := at_map hi
      obtain ⟨c, hc, g1, g2⟩ := num_at (hn x (List.mem_of_getElem? hx)) hlt
      rw [show ((ms.toNat : Nat) : Int) = ms by omega] at g2
      refine ⟨rfl, _, rfl, _, rfl, pw, _, dx, _, _, rfl, by rw [upd_ne npD]; exact upd_same, wcl T, wn_said T, wl_said, x, ms, c, rfl, rfl, by rw [num_len (hn x (List.mem_of_getElem? hx))]; exact size12 (by omega), g2, ?_⟩
      refine ⟨_, upd_same, by rw [List.length_map, List.length_take]; exact small1000 (by omega), ?_⟩
      show _ = _
      rw [upd_upd, take_snoc hx, List.map_append]
      have e : V.str (S [sgn ms.toNat x]) = V.str ⟨#[c]⟩ := by rw [sgn_at g1]
      rw [List.map_cons, List.map_nil, e]
    · rintro H1 rfl
      rw [List.length_map, List.take_length]
      refine ⟨_, rfl, D, _, rfl, .inl (SqL.of upd_same), rfl, flat_sgn _ _, _, rfl, D, _, rfl, .inl (SqL.of upd_same), rfl, flat_sgn _ _, by show 2 ≤ sizeLine; decide, fun p hp => ?_⟩
      have e0 := inV_sgn (d := 48) hlt lw hn
      have e1 := inV_sgn (d := 49) hlt lw hn
      rw [← zero_S] at e0
      rw [← one_S] at e1
      have hp1 : H p = none := upd_back (upd_back hp)
      have hD' : H D = none := upd_back hD
      have npp : pw ≠ p := ne_of_none h1 hp1
      have ndp : dh ≠ p := ne_of_none h3 hp1
      have nlp : dl ≠ p := ne_of_none h2 hp1
      have ndD : dh ≠ D := ne_of_none h3 hD'
      refine k p _ ?_ ⟨⟨dx, ?_⟩, ?_, ?_⟩ (((((Frm.refl _ _).put (by simp)).new hD')).new hp1)
      · rw [upd_same]
        show some (HO.tup [V.bl (if false = true then _ else inV (.str "0") _), V.bl (if false = true then _ else inV (.str "1") _)]) = _
        rw [if_neg Bool.false_ne_true, if_neg Bool.false_ne_true, e0, e1]
      · rw [upd_ne npp, upd_ne npD, upd_same]
      · rw [upd_ne nlp, upd_ne nlD]
        exact h2'
      · rw [upd_ne ndp, upd_ne ndD, upd_ne npd.symm]
        exact h3
/-- a bit said -/
def spSay (K : PySem.W.Frag) : Sp := fun vs H Q E => ∃ (pw dh dl : Addr) (bit : Int) (W : Nat) (kvs : List (Str × Bool)) (lw : List Str) (ms lk : Int), vs = [.ref pw, .int bit] ∧ (bit = 0 ∨ bit = 1) ∧ WiAt K H pw dh dl W kvs lw ms lk ∧ W ≤ 12 ∧ 0 ≤ ms ∧ ms ≤ W ∧ (∀ x ∈ lw, Num W x) ∧ lw.length ≤ 100 ∧
  (ms = W → E (.ref (He.ga K "NoRound")) none H) ∧ (ms ≠ W → ∀ (dl' : Addr) (H' : Hp), H dl' = none → WiAt K H' pw dh dl' W kvs (lw.filter (sg ms.toNat (48 + bit.toNat))) (ms + 1) lk → Frm [pw] H H' → Q .non H')
theorem m_Wire_say (T : Txt P w K mg base) : MetX (L2.CX P w) P w K mg base 2 (WC K) "say" (spSay K) := by
  obtain ⟨fd, F⟩ := T.t.def_ 22 (d := d_Wire_say)
  refine ⟨_, fd, _, wcl T, He.meth_ok (T.t.fact 69 (f := .meth "Wire" "say")), F.ok sc_Wire_say (fun vs H Q E h => ?_) (fun cdv A outer s H vs Q E hr h => ?_), F.bindsN fun _ _ _ _ _ _ us hl => match us, hl with | [_, _], _ => rfl⟩
  · obtain ⟨pw, dh, dl, bit, W, kvs, lw, ms, lk, rfl, _⟩ := h
    rfl
  · obtain ⟨pw, dh, dl, bit, W, kvs, lw, ms, lk, rfl, hbit, wa, hW, hm0, hm1, hn, hl, k1, k2⟩ := h
    have npd := wa.ne
    have wa' := wa
    obtain ⟨⟨dx, h1⟩, h2, h3⟩ := wa
    have lg : bit.natAbs.log2 < 1920 := by rcases hbit with rfl | rfl <;> decide
    refine ⟨_, (pss_cons (ps_expr (pe_mx0 (m_Wire__require_round T) hr (by decide) (pv 0) (passes_call (takes_of rfl rfl rfl rfl) (fun _ _ _ _ h => h))))
    (pss_cons (ps_if (PW.pt (pw_or (pt_val (pe_callB call_isi (by rfl) (n_isinstance T) (by decide +kernel) (pa_cons (pv 1) (pa_cons (pe_bltn (v := .ty "bool") (u := .type "bool") rfl (n_bool T) (by decide +kernel) rfl) pa_nil)))) (pw_or1 (pt_cmpR op_notIn_seq (pv 1) (pe_tup (pa_cons pe_int (pa_cons pe_int pa_nil))) rfl))))
      (pss_one ps_never)
      pss_nil)
    (pss_cons (ps_set (i := 2) sc_Wire_say.nd rfl (Or.inr rfl) (pe_callTy call_str_int (by rfl) (n_str T) (by decide +kernel) (pa_cons (pv 1) pa_nil)))
    (pss_cons (ps_fld (pv 0) (pe_lc (own := [("number", 3)]) (g := gName 3) rfl sc_Wire_say.nd (pi_list (pe_fld (pv 0) (by rfl))) (blkOk_by (N := ["self", "bit", "sign", "number"]) (sc := defScope s_Wire_say) (own := [("number", 3)]) (by decide +kernel)) (fun _ _ _ _ _ => pg_name (i := 3) sc_Wire_say.nd rfl (Or.inl rfl)) (fun _ _ _ _ _ => pts_one (by exact (pt_cmpR op_eq (pe_ix ix_str (pv 3) (pe_fldK (K := K) rfl (pv 0) (by rfl)) (fun _ _ => rfl)) (pv 2) (nomark _)))) (fun _ _ _ _ _ => by exact (pv 3))) rfl)
    (pss_one (ps_fldaug (pv 0) pe_int in_add)))))), ?_⟩
    refine ⟨_, rfl, pw, dx, _, rfl, h1, wx_reqr, pw, dh, dl, W, kvs, lw, ms, lk, rfl, wa', k1, fun hne => ?_⟩
    have k := k2 hne
    have hlt : ms.toNat < W := by omega
    refine ⟨_, rfl, .int bit, .ty "bool", .type "int", .type "bool", false, rfl, .ty "bool", .base (.int bit), kit_ty (by decide +kernel), false, rfl, ?_⟩
    refine ⟨_, rfl, by show 2 ≤ sizeLine; decide, fun t ht => ?_⟩
    have i1 : inV (.int bit) [V.int 0, V.int 1] = true := by rcases hbit with rfl | rfl <;> decide +kernel
    refine ⟨t, _, rfl, .inr (SqT.of upd_same), rfl, rfl, _, rfl, ?_⟩
    rw [i1]
    -- sign = str(bit)
    refine ⟨_, rfl, bit, rfl, lg, ?_⟩
    have npt : pw ≠ t := ne_of_none h1 ht
    have nlt : dl ≠ t := ne_of_none h2 ht
    have ndt : dh ≠ t := ne_of_none h3 ht
    have h1' : (upd H t (.tup [.int 0, .int 1])) pw = some (.ins (WC K) dx (wfl W dh dl ms lk)) := by rw [upd_ne npt]; exact h1
    have h2' : (upd H t (.tup [.int 0, .int 1])) dl = some (.lst (lw.map V.str)) := by rw [upd_ne nlt]; exact h2
    refine ⟨_, rfl, pw, _, dx, _, _, rfl, h1', wcl T, wn_listening T, wl_listening, dl, rfl, ⟨_, SqL.of h2'⟩, fun D hD => ?_⟩
    have npD : pw ≠ D := ne_of_none h1' hD
    have nlD : dl ≠ D := ne_of_none h2' hD
    have hD' : H D = none := upd_back hD
    have ndD : dh ≠ D := ne_of_none h3 hD'
    refine lc_list (K := K) (a := dl) (xs := lw.map V.str) (fun i H' => H' = upd (upd H t (.tup [.int 0, .int 1])) D (.lst (((lw.take i).filter (sg ms.toNat (48 + bit.toNat))).map V.str))) rfl (fun i H' _ e => by rw [e]; exact SqL.of (by rw [upd_ne nlD]; exact h2')) ?_ ?_
    · rintro i y H1 hi e
      subst e
      obtain ⟨x, hx, rfl⟩ := at_map hi
      have hnx := hn x (List.mem_of_getElem? hx)
      obtain ⟨c, hc, g1, g2⟩ := num_at hnx hlt
      rw [show ((ms.toNat : Nat) : Int) = ms by omega] at g2
      refine ⟨rfl, _, rfl, _, rfl, pw, _, dx, _, _, rfl, by rw [upd_ne npD]; exact h1', wcl T, wn_said T, wl_said, x, ms, c, rfl, rfl, by rw [num_len hnx]; exact size12 (by omega), g2, _, rfl, rfl, _, rfl, ?_⟩
      rw [dig_S bit hbit, sign_dec, ← sg_at g1]
      refine iteB (fun cb => ?_) (fun cb => ?_)
      · refine ⟨_, rfl, _, upd_same, ?_, ?_⟩
        · rw [List.length_map]
          have := List.length_filter_le (sg ms.toNat (48 + bit.toNat)) (lw.take i)
          rw [List.length_take] at this
          exact small1000 (by omega)
        · show _ = _
          rw [upd_upd, filter_step _ hx, if_pos cb, List.map_append]
          rfl
      · show _ = _
        rw [filter_step _ hx, if_neg (by rw [cb]; exact Bool.false_ne_true), List.append_nil]
    · rintro H1 rfl
      rw [List.length_map, List.take_length]
      have h1'' : (upd (upd H t (.tup [.int 0, .int 1])) D (.lst ((lw.filter (sg ms.toNat (48 + bit.toNat))).map V.str))) pw = some (.ins (WC K) dx (wfl W dh dl ms lk)) := by rw [upd_ne npD]; exact h1'
      refine ⟨_, rfl, pw, _, dx, _, rfl, h1'', wcl T, wn_listening T, wl_len, ?_⟩
      rw [wp_listening]
      refine ⟨_, rfl, pw, _, dx, _, _, rfl, upd_same, wcl T, wn_said T, wl_said, ms, 1, rfl, rfl, dx, _, upd_same, wl_len, ?_⟩
      rw [wp_said]
      refine k D _ hD' ⟨⟨dx, upd_same⟩, ?_, ?_⟩ ((((((Frm.refl _ _).new ht).new hD').put (by simp)).put (by simp)))
      · rw [upd_ne npD.symm, upd_ne npD.symm, upd_same]
      · rw [upd_ne npd.symm, upd_ne npd.symm, upd_ne ndD, upd_ne ndt]
        exact h3
end
end B

set_option Elab.async false
set_option linter.all false
set_option maxRecDepth 100000
set_option maxHeartbeats 4000000
namespace B
open PySem PySem.Spec PyProof.Rows L2
open SX (S)
/-- who refuses -/
def errOf (K : PySem.W.Frag) (wd : Str) : Addr := if wd = "hang" then He.ga K "There" else He.ga K "NotThere"
section
variable {P : Program} {w : World} {K : PySem.W.Frag} {mg : Str → Option Value} {base : Heap}
def spReqHang (K : PySem.W.Frag) : Sp := fun vs H Q E => ∃ (pw dh dl : Addr) (x : Str) (W : Nat) (kvs : List (Str × Bool)) (lw : List Str) (ms lk : Int), vs = [.ref pw, .str x] ∧ WiAt K H pw dh dl W kvs lw ms lk ∧ Num W x ∧ W ≤ 12 ∧ Tb K H ∧
  (hasK kvs x = false → ∀ H', FrT K [] H H' → E (.ref (He.ga K "NotThere")) none H') ∧ (hasK kvs x = true → ∀ H', FrT K [] H H' → Q .non H')
theorem m_Wire__require_hanging (T : Txt P w K mg base) : MetX (L2.CX P w) P w K mg base 3 (WC K) "_require_hanging" (spReqHang K) := by
  obtain ⟨fd, F⟩ := T.t.def_ 24 (d := d_Wire__require_hanging)
  refine ⟨_, fd, _, wcl T, He.meth_ok (T.t.fact 71 (f := .meth "Wire" "_require_hanging")), F.ok sc_Wire__require_hanging (fun vs H Q E h => ?_) (fun cdv A outer s H vs Q E hr h => ?_), F.bindsN fun _ _ _ _ _ _ us hl => match us, hl with | [_, _], _ => rfl⟩
  · obtain ⟨pw, dh, dl, x, W, kvs, lw, ms, lk, rfl, _⟩ := h
    rfl
  · obtain ⟨pw, dh, dl, x, W, kvs, lw, ms, lk, rfl, ⟨⟨dx, h1⟩, h2, h3⟩, hx, hW, ht, k1, k2⟩ := h
    have hu := hu_of hr
    refine ⟨_, (pss_cons (ps_expr (pe_cx (c_require_number T) hr (by decide) rfl pass0 (pa_cons (pe_fld (pv 0) (by rfl)) (pa_cons (pv 1) pa_nil))))
    (pss_one (ps_if (pt_cmp (pc_dnotin hu (pv 1) (pe_fld (pv 0) (by rfl))))
      (pss_one (ps_raise rfl (takes_of rfl rfl rfl rfl) (mk_NotThere T)))
      pss_nil))), ?_⟩
    refine ⟨_, rfl, pw, _, dx, _, _, rfl, h1, wcl T, wn_width T, wl_width, _, rfl, W, x, rfl, hx, hW, ht, fun H1 f => ?_⟩
    have g1 := f.k _ _ h1 rfl (by simp)
    have g3 := f.k _ _ h3 rfl (by simp)
    refine ⟨_, rfl, _, rfl, pw, _, dx, _, _, rfl, g1, wcl T, wn_hanging T, wl_hanging, dh, _, rfl, dg_has (.inl g3) x, _, rfl, ?_⟩
    rw [some_map_bl, get_has]
    refine iteB (fun c => ?_) (fun c => ?_)
    · refine k1 ?_ H1 f
      cases e : hasK kvs x with
      | false => rfl
      | true => rw [e] at c; cases c
    · refine k2 ?_ H1 f
      cases e : hasK kvs x with
      | true => rfl
      | false => rw [e] at c; cases c
/-- something becomes of a thing of a wire -/
def spWd (K : PySem.W.Frag) (wd : Str) : Sp := fun vs H Q E => ∃ (pw dh dl : Addr) (x : Str) (W : Nat) (kvs : List (Str × Bool)) (lw : List Str) (ms lk : Int), vs = [.ref pw, .str x] ∧ WiAt K H pw dh dl W kvs lw ms lk ∧ Num W x ∧ W ≤ 12 ∧ kvs.length ≤ 100 ∧ lw.length ≤ 100 ∧ Tb K H ∧
  (¬ deedW kvs wd x = "" → ∀ H', FrT K [] H H' → E (.ref (errOf K wd)) none H') ∧
  (deedW kvs wd x = "" → ∀ (dl' : Addr) (H' : Hp), (dl' = dl ∨ H dl' = none) → WiAt K H' pw dh dl' W (deedK kvs wd x) (deedL kvs lw wd x) ms lk → FrT K [pw, dh] H H' → Q .non H')
theorem m_Wire_hang (T : Txt P w K mg base) : MetX (L2.CX P w) P w K mg base 3 (WC K) "hang" (spWd K "hang") := by
  obtain ⟨fd, F⟩ := T.t.def_ 16 (d := d_Wire_hang)
  refine ⟨_, fd, _, wcl T, He.meth_ok (T.t.fact 63 (f := .meth "Wire" "hang")), F.ok sc_Wire_hang (fun vs H Q E h => ?_) (fun cdv A outer s H vs Q E hr h => ?_), F.bindsN fun _ _ _ _ _ _ us hl => match us, hl with | [_, _], _ => rfl⟩
  · obtain ⟨pw, dh, dl, x, W, kvs, lw, ms, lk, rfl, _⟩ := h
    rfl
  · obtain ⟨pw, dh, dl, x, W, kvs, lw, ms, lk, rfl, wa, hx, hW, hkl, hll, ht, k1, k2⟩ := h
    have npd := wa.ne
    obtain ⟨⟨dx, h1⟩, h2, h3⟩ := wa
    have hu := hu_of hr
    refine ⟨_, (pss_cons (ps_expr (pe_cx (c_require_number T) hr (by decide) rfl pass0 (pa_cons (pe_fld (pv 0) (by rfl)) (pa_cons (pv 1) pa_nil))))
    (pss_cons (ps_if (pt_cmp (pc_din hu (pv 1) (pe_fld (pv 0) (by rfl))))
      (pss_one (ps_raise rfl (takes_of rfl rfl rfl rfl) (mk_There T)))
      pss_nil)
    (pss_one (ps_dput hu (pe_fld (pv 0) (by rfl)) (pv 1) pe_bl rfl)))), ?_⟩
    refine ⟨_, rfl, pw, _, dx, _, _, rfl, h1, wcl T, wn_width T, wl_width, _, rfl, W, x, rfl, hx, hW, ht, fun H1 f => ?_⟩
    have g1 := f.k _ _ h1 rfl (by simp)
    have g2 := f.k _ _ h2 rfl (by simp)
    have g3 := f.k _ _ h3 rfl (by simp)
    refine ⟨_, rfl, _, rfl, pw, _, dx, _, _, rfl, g1, wcl T, wn_hanging T, wl_hanging, dh, _, rfl, dg_has (.inl g3) x, _, rfl, ?_⟩
    rw [some_map_bl, get_has]
    refine iteB (fun c => ?_) (fun c => ?_)
    · have := k1 (by unfold deedW; rw [if_pos rfl, if_pos c]; decide +kernel) H1 f
      unfold errOf at this
      rw [if_pos rfl] at this
      exact this
    · have nh : ¬ hasK kvs x = true := by rw [c]; exact Bool.false_ne_true
      refine ⟨_, rfl, pw, _, dx, _, _, rfl, g1, wcl T, wn_hanging T, wl_hanging, _, rfl, dh, _, rfl, dp_put g3 (by omega) x false, ?_⟩
      refine k2 (by unfold deedW; rw [if_pos rfl, if_neg nh]) dl _ (.inl rfl) ?_ ((f.mono (by simp)).trans (((Frm.refl [pw, dh] H1).put (by simp)).toT (.cons g1 rfl (.cons g3 rfl .nil))))
      unfold deedK deedL
      rw [if_pos rfl, if_neg nh, if_neg (fun z => absurd z.1 (by decide +kernel))]
      refine ⟨⟨dx, by rw [upd_ne npd]; exact g1⟩, by rw [upd_ne (ne_of g2 g3 (by intro z; cases z))]; exact g2, upd_same⟩
theorem m_Wire_alarm (T : Txt P w K mg base) : MetX (L2.CX P w) P w K mg base 4 (WC K) "alarm" (spWd K "alarm") := by
  obtain ⟨fd, F⟩ := T.t.def_ 17 (d := d_Wire_alarm)
  refine ⟨_, fd, _, wcl T, He.meth_ok (T.t.fact 64 (f := .meth "Wire" "alarm")), F.ok sc_Wire_alarm (fun vs H Q E h => ?_) (fun cdv A outer s H vs Q E hr h => ?_), F.bindsN fun _ _ _ _ _ _ us hl => match us, hl with | [_, _], _ => rfl⟩
  · obtain ⟨pw, dh, dl, x, W, kvs, lw, ms, lk, rfl, _⟩ := h
    rfl
  · obtain ⟨pw, dh, dl, x, W, kvs, lw, ms, lk, rfl, wa, hx, hW, hkl, hll, ht, k1, k2⟩ := h
    have npd := wa.ne
    have wa' := wa
    obtain ⟨⟨dx, h1⟩, h2, h3⟩ := wa
    have hu := hu_of hr
    have nw : ¬ ("alarm" : Str) = "hang" := by decide +kernel
    have no : ¬ ("alarm" : Str) = "off" := by decide +kernel
    refine ⟨_, (pss_cons (ps_expr (pe_mx (m_Wire__require_hanging T) hr (by decide) (pv 0) (passes_call (takes_of rfl rfl rfl rfl) (fun _ _ _ _ h => h)) (pa_cons (pv 1) pa_nil)))
    (pss_one (ps_dput hu (pe_fld (pv 0) (by rfl)) (pv 1) pe_bl rfl))), ?_⟩
    refine ⟨_, rfl, pw, dx, _, rfl, h1, wx_reqh, _, rfl, pw, dh, dl, x, W, kvs, lw, ms, lk, rfl, wa', hx, hW, ht, fun c H1 f => ?_, fun c H1 f => ?_⟩
    · have nh : ¬ hasK kvs x = true := by rw [c]; exact Bool.false_ne_true
      have := k1 (by unfold deedW; rw [if_neg nw, if_neg nh]; decide +kernel) H1 f
      unfold errOf at this
      rw [if_neg nw] at this
      exact this
    · have g1 := f.k _ _ h1 rfl (by simp)
      have g2 := f.k _ _ h2 rfl (by simp)
      have g3 := f.k _ _ h3 rfl (by simp)
      refine ⟨_, rfl, pw, _, dx, _, _, rfl, g1, wcl T, wn_hanging T, wl_hanging, _, rfl, dh, _, rfl, dp_put g3 (by omega) x true, ?_⟩
      refine k2 (by unfold deedW; rw [if_neg nw, if_pos c]) dl _ (.inl rfl) ?_ ((f.mono (by simp)).trans (((Frm.refl [pw, dh] H1).put (by simp)).toT (.cons g1 rfl (.cons g3 rfl .nil))))
      unfold deedK deedL
      rw [if_neg nw, if_pos c, if_neg no, if_neg (fun z => no z.1), decide_eq_true rfl]
      exact ⟨⟨dx, by rw [upd_ne npd]; exact g1⟩, by rw [upd_ne (ne_of g2 g3 (by intro z; cases z))]; exact g2, upd_same⟩
end
end B

set_option Elab.async false
set_option linter.all false
set_option maxRecDepth 100000
set_option maxHeartbeats 4000000
namespace B
open PySem PySem.Spec PyProof.Rows L2
open SX (S)
/-! ### alike -/
theorem atI_nat' {xs : List V} {i : Nat} {v : V} (h : xs[i]? = some v) : atI xs (0 + (i : Int)) = some v := by
  rw [Int.zero_add]
  exact atI_nat h
/-- asked of two things that A calls alike -/
def spAl (A : V → V → Hp → Prop) : Sp := fun vs H Q _ => ∃ x y, vs = [x, y] ∧ A x y H ∧ ∀ H', Frm [] H H' → Q (.bl true) H'
def Atom (x y : V) : Prop := (∃ b, x = .bl b ∧ y = .bl b) ∨ (∃ s, x = .str s ∧ y = .str s) ∨ (∃ i, x = .int i ∧ y = .int i) ∨ (x = .non ∧ y = .non)
def AlStep (K : PySem.W.Frag) (A : V → V → Hp → Prop) (x y : V) (H : Hp) : Prop := Atom x y ∨ ∃ (p q : Addr) (xs ys : List V), x = .ref p ∧ y = .ref q ∧ ((H p = some (.lst xs) ∧ H q = some (.lst ys)) ∨ (H p = some (.tup xs) ∧ H q = some (.tup ys))) ∧ xs.length = ys.length ∧ ys.length ≤ 100000 ∧
  ∀ (i : Nat) a b, xs[i]? = some a → ys[i]? = some b → A a b H
def Steady (A : V → V → Hp → Prop) : Prop := ∀ x y H H', A x y H → Frm [] H H' → A x y H'
theorem steady0 : Steady (fun _ _ _ => False) := fun _ _ _ _ h _ => h
theorem steady_step {K : PySem.W.Frag} {A : V → V → Hp → Prop} (h : Steady A) : Steady (AlStep K A) := by
  rintro x y H H' (z | ⟨p, q, xs, ys, e1, e2, hs, hl, hn, hA⟩) f
  · exact .inl z
  · refine .inr ⟨p, q, xs, ys, e1, e2, ?_, hl, hn, fun i a b ha hb => h _ _ _ _ (hA i a b ha hb) f⟩
    rcases hs with ⟨h1, h2⟩ | ⟨h1, h2⟩
    · exact .inl ⟨f.k _ _ h1 rfl (by simp), f.k _ _ h2 rfl (by simp)⟩
    · exact .inr ⟨f.k _ _ h1 rfl (by simp), f.k _ _ h2 rfl (by simp)⟩
theorem al_strs {K : PySem.W.Frag} {A : V → V → Hp → Prop} {H : Hp} {p q : Addr} {xs : List Str} (hp : H p = some (.lst (xs.map V.str))) (hq : H q = some (.lst (xs.map V.str))) (hl : xs.length ≤ 100000) : AlStep K (AlStep K A) (.ref p) (.ref q) H := by
  refine .inr ⟨p, q, _, _, rfl, rfl, .inl ⟨hp, hq⟩, rfl, by rw [List.length_map]; exact hl, fun i a b ha hb => .inl ?_⟩
  rw [hb] at ha
  obtain rfl := Option.some.inj ha
  obtain ⟨z, hz, e⟩ := at_map hb
  exact .inr (.inl ⟨z, e, e⟩)
section
variable {P : Program} {w : World} {K : PySem.W.Frag} {mg : Str → Option Value} {base : Heap}
end
end B

set_option Elab.async false
set_option linter.all false
set_option maxRecDepth 100000
set_option maxHeartbeats 4000000
namespace B
open PySem PySem.Spec PyProof.Rows L2
open SX (S)
theorem nodup_le {xs : List Str} : ∀ {ys : List Str}, xs.Nodup → (∀ x ∈ xs, x ∈ ys) → xs.length ≤ ys.length := by
  induction xs with
  | nil => intro ys _ _; exact Nat.zero_le _
  | cons x r ih =>
    intro ys hn hs
    have hx := hs x (List.mem_cons_self ..)
    have n := List.nodup_cons.mp hn
    have q := ih (ys := ys.erase x) n.2 fun z hz => by
      have ne : z ≠ x := fun e => n.1 (e ▸ hz)
      exact (List.mem_erase_of_ne ne).mpr (hs z (List.mem_cons_of_mem _ hz))
    rw [List.length_erase_of_mem hx] at q
    have := List.length_pos_of_mem hx
    rw [List.length_cons]
    omega
/-- what the wire counts of a round -/
def msOf (W : Nat) : Option (List Nat) → Int
  | none => W
  | some l => l.length
/-- a wire and an own one agree -/
structure SideX (K : PySem.W.Frag) (H : Hp) (pw dh dl pm dt ml : Addr) (W : Nat) (names : List Str) (kvs : List (Str × Bool)) (lw lm : List Str) (sd : Option (List Nat)) (lk : Int) : Prop where
  wa : WiAt K H pw dh dl W kvs lw (msOf W sd) lk
  ma : MdAt H pm dt ml W kvs lm sd lk
  perm : lw.Perm lm
  nd : (kvs.map (·.1)).Nodup
  sub : ∀ x ∈ kvs.map (·.1), x ∈ names
  len : lm.length ≤ 41
  num : ∀ x ∈ lm, Num W x
  beg : ∀ l, sd = some l → l.length ≤ W ∧ ∀ x ∈ lm, Beg W l x
  ne : pm ≠ dt ∧ dh ≠ pm ∧ dh ≠ dt
/-- the numbers that a side draws from -/
structure Pool (H : Hp) (pn : Addr) (W : Nat) (names : List Str) : Prop where
  at_ : H pn = some (.lst (names.map V.str))
  ne : names ≠ []
  len : names.length ≤ 41
  num : ∀ x ∈ names, Num W x
  w : 1 ≤ W ∧ W ≤ 12
theorem has_key {kvs : List (Str × Bool)} {x : Str} : hasK kvs x = true ↔ x ∈ kvs.map (·.1) := by
  unfold hasK
  rw [List.any_eq_true]
  constructor
  · rintro ⟨p, hp, e⟩
    exact List.mem_map.mpr ⟨p, hp, of_decide_eq_true e⟩
  · intro h
    obtain ⟨p, hp, e⟩ := List.mem_map.mp h
    exact ⟨p, hp, decide_eq_true e⟩
theorem keys_put {kvs : List (Str × Bool)} {x : Str} {b : Bool} : (putB kvs x b).map (·.1) = if hasK kvs x = true then kvs.map (·.1) else kvs.map (·.1) ++ [x] := by
  unfold putB
  split
  · rw [List.map_map]
    apply List.map_congr_left
    intro p _
    show (if p.1 = x then (p.1, b) else p).1 = p.1
    split <;> rfl
  · rw [List.map_append]
    rfl
theorem put_nodup {kvs : List (Str × Bool)} {x : Str} {b : Bool} (h : (kvs.map (·.1)).Nodup) : ((putB kvs x b).map (·.1)).Nodup := by
  rw [keys_put]
  split
  · exact h
  · rename_i nh
    rw [List.nodup_append]
    refine ⟨h, by simp, fun a ha c hc => ?_⟩
    rw [List.mem_singleton] at hc
    rw [hc]
    intro e
    exact nh (has_key.mpr (e ▸ ha))
theorem put_sub {kvs : List (Str × Bool)} {x : Str} {b : Bool} {names : List Str} (h : ∀ y ∈ kvs.map (·.1), y ∈ names) (hx : x ∈ names) : ∀ y ∈ (putB kvs x b).map (·.1), y ∈ names := by
  rw [keys_put]
  split
  · exact h
  · intro y hy
    rw [List.mem_append, List.mem_singleton] at hy
    rcases hy with z | rfl
    · exact h y z
    · exact hx
theorem drop_keys {kvs : List (Str × Bool)} {x : Str} : (dropB kvs x).map (·.1) = (kvs.map (·.1)).filter (fun y => decide (y ≠ x)) := by
  unfold dropB
  rw [List.filter_map]
  rfl
theorem deed_nodup {kvs : List (Str × Bool)} {wd x : Str} (h : (kvs.map (·.1)).Nodup) : ((deedK kvs wd x).map (·.1)).Nodup := by
  unfold deedK
  split
  · split
    · exact h
    · exact put_nodup h
  · split
    · split
      · rw [drop_keys]
        exact h.filter _
      · exact put_nodup h
    · exact h
theorem deed_sub {kvs : List (Str × Bool)} {wd x : Str} {names : List Str} (h : ∀ y ∈ kvs.map (·.1), y ∈ names) (hx : x ∈ names) : ∀ y ∈ (deedK kvs wd x).map (·.1), y ∈ names := by
  unfold deedK
  split
  · split
    · exact h
    · exact put_sub h hx
  · split
    · split
      · rw [drop_keys]
        intro y hy
        exact h y (List.mem_filter.mp hy).1
      · exact put_sub h hx
    · exact h
theorem deed_len {kvs : List (Str × Bool)} {lm : List Str} {wd x : Str} : (deedL kvs lm wd x).length ≤ lm.length ∧ ∀ y ∈ deedL kvs lm wd x, y ∈ lm := by
  unfold deedL
  split
  · exact ⟨List.length_filter_le _ _, fun y hy => (List.mem_filter.mp hy).1⟩
  · exact ⟨Nat.le_refl _, fun y hy => hy⟩
theorem deed_perm {kvs : List (Str × Bool)} {lw lm : List Str} {wd x : Str} (h : lw.Perm lm) : (deedL kvs lw wd x).Perm (deedL kvs lm wd x) := by
  unfold deedL
  split
  · exact h.filter _
  · exact h
theorem deed_no {kvs : List (Str × Bool)} {lm : List Str} {wd x : Str} (h : ¬ deedW kvs wd x = "") : deedK kvs wd x = kvs ∧ deedL kvs lm wd x = lm := by
  unfold deedW at h
  unfold deedK deedL
  split at h
  · rename_i e
    rw [if_pos e]
    split at h
    · rename_i k
      rw [if_pos k, if_neg (fun z => absurd (e.symm.trans z.1) (by decide +kernel))]
      exact ⟨rfl, rfl⟩
    · exact absurd rfl h
  · rename_i e
    rw [if_neg e]
    split at h
    · exact absurd rfl h
    · rename_i k
      rw [if_neg k, if_neg (fun z => k z.2)]
      exact ⟨rfl, rfl⟩
end B

set_option Elab.async false
set_option linter.all false
set_option maxRecDepth 100000
set_option maxHeartbeats 4000000
namespace B
open PySem PySem.Spec PyProof.Rows L2
open SX (S)
section
variable {P : Program} {w : World} {K : PySem.W.Frag} {mg : Str → Option Value} {base : Heap}
def calmK (xs : List Str) : List (Str × Bool) := xs.map fun x => (x, false)
theorem calm_keys (xs : List Str) : (calmK xs).map (·.1) = xs := by
  unfold calmK
  rw [List.map_map]
  exact List.map_id' xs
theorem calm_new {xs : List Str} {x : Str} (h : x ∉ xs) : deedW (calmK xs) "hang" x = "" ∧ deedK (calmK xs) "hang" x = calmK (xs ++ [x]) := by
  have nh : ¬ hasK (calmK xs) x = true := fun z => h (by rw [has_key, calm_keys] at z; exact z)
  unfold deedW deedK
  rw [if_pos rfl, if_neg nh, if_pos rfl, if_neg nh]
  refine ⟨rfl, ?_⟩
  unfold putB
  rw [if_neg nh]
  unfold calmK
  rw [List.map_append]
  rfl
/-- a wire on which some hang -/
def spMade (K : PySem.W.Frag) : Sp := fun vs H Q _ => ∃ (pn : Addr) (W : Nat) (names : List Str), vs = [.int W, .ref pn] ∧ H pn = some (.lst (names.map V.str)) ∧ names.Nodup ∧ names.length ≤ 100 ∧ (∀ x ∈ names, Num W x) ∧ 1 ≤ W ∧ W ≤ 12 ∧ Tb K H ∧
  ∀ (pw dh dl : Addr) (H' : Hp), H pw = none → H dh = none → H dl = none → WiAt K H' pw dh dl W (calmK names) [] W 0 → FrT K [] H H' → Q (.ref pw) H'
theorem c_lmade (T : Txt P w K mg base) : CalX CX0 P w K mg base 4 "_law_made" (spMade K) := by
  obtain ⟨fd, F⟩ := T.t.def_ 41 (d := d_lmade)
  refine ⟨_, fd, _, F.ok sc_lmade (fun vs H Q E h => ?_) (fun cdv A outer s H vs Q E hr h => ?_), He.glo_ok T.X T.G (T.t.fact 22), F.kp, F.bindsN fun _ _ _ _ _ _ us hl => match us, hl with | [_, _], _ => rfl⟩
  · obtain ⟨pn, W, names, rfl, _⟩ := h
    rfl
  · obtain ⟨pn, W, names, rfl, hp, hnd, hlen, hnum, hW1, hW2, ht, k⟩ := h
    have hu := hu_of hr
    refine ⟨_, PSs.nox (pss_cons (ps_set (i := 2) sc_lmade.nd rfl (Or.inl rfl) (pe_mkx (k_Wire T) hr (by decide) rfl pass0 (pa_cons (pv 0) pa_nil)))
    (pss_cons (ps_for PassesOwn.never rfl (pi_list (pv 1)) (pg_name (i := 3) sc_lmade.nd rfl (Or.inl rfl))
      (pss_one (ps_expr (pe_mx (m_Wire_hang T) hr (by decide) (pv 2) (passes_call (E := fun _ _ _ => False) L2.takes0 (fun _ _ _ _ h => h)) (pa_cons (pv 3) pa_nil)))))
    (pss_one (ps_ret (pv 2))))), ?_⟩
    refine ⟨_, rfl, fun pw dx hpw hdx hnx => ⟨pw, dx, W, rfl, upd_same, hW1, hW2, fun dh dl H1 hdh hdl k1 k2 k3 f1 => ⟨rfl, ?_⟩⟩⟩
    have f01 : Frm [] H H1 := Frm.fresh (((Frm.refl _ _).new hdx).new hpw) f1 (by simpa using hpw)
    have hdh0 : H dh = none := upd_back (upd_back hdh)
    have hdl0 : H dl = none := upd_back (upd_back hdl)
    have hp1 := f01.k _ _ hp rfl (by simp)
    refine ⟨_, rfl, pn, rfl, ⟨_, SqL.of hp1⟩, for_list (K := K) (a := pn) (xs := names.map V.str) (fun i σ H' => ∃ (v3 : Option V) (dl' : Addr), σ = [some (.int W), some (.ref pn), some (.ref pw), v3] ∧ WiAt K H' pw dh dl' W (calmK (names.take i)) [] W 0 ∧ H dl' = none ∧ FrT K [] H H')
      ⟨none, dl, rfl, ⟨⟨dx, k1⟩, k2, k3⟩, hdl0, f01.toT .nil⟩ (fun i σ H' _ ⟨_, _, _, _, _, f⟩ => SqL.of (f.k _ _ hp rfl (by simp))) ?_ ?_⟩
    · rintro i y σ H2 hi ⟨v3, dl2, rfl, wa2, hdl2, f2⟩
      obtain ⟨x, hx, rfl⟩ := at_map hi
      have hxn : x ∉ names.take i := fun z => by
        obtain ⟨j, hj⟩ := List.getElem?_of_mem z
        have hji : j < i := by
          have := (List.getElem?_eq_some_iff.mp hj).1
          rw [List.length_take] at this
          omega
        rw [List.getElem?_take_of_lt hji] at hj
        have := (List.getElem?_inj (by exact (List.getElem?_eq_some_iff.mp hj).1) hnd).mp (hj.trans hx.symm)
        omega
      obtain ⟨q1, q2⟩ := calm_new hxn
      obtain ⟨⟨dx2, w1⟩, w2, w3⟩ := id wa2
      refine ⟨_, rfl, pw, dx2, _, rfl, w1, wx_hang, _, rfl, pw, dh, dl2, x, W, calmK (names.take i), [], W, 0, rfl, wa2, hnum x (List.mem_of_getElem? hx), hW2, ?_, by show 0 ≤ 100; decide, f2.t ht, fun z => absurd q1 z, fun _ dl3 H3 hdl3 wa3 f3 => ?_⟩
      · unfold calmK
        rw [List.length_map, List.length_take]
        omega
      · refine ⟨_, dl3, rfl, ?_, hdl3.elim (fun e => by rw [e]; exact hdl2) (fun z => f2.b _ z), f2.fresh f3 ?_⟩
        · rw [take_snoc hx, ← q2]
          exact wa3
        · intro b hb
          simp only [List.mem_cons, List.not_mem_nil, or_false] at hb
          rcases hb with rfl | rfl
          · exact hpw
          · exact hdh0
    · rintro σ H2 ⟨v3, dl2, rfl, wa2, hdl2, f2⟩
      rw [List.length_map, List.take_length] at wa2
      exact ⟨_, rfl, k pw dh dl2 H2 hpw hdh0 hdl2 wa2 f2⟩
end
end B

set_option Elab.async false
set_option linter.all false
set_option maxRecDepth 100000
set_option maxHeartbeats 4000000
namespace B
open PySem PySem.Spec PyProof.Rows L2
open SX (S)
/-! ### an own walk -/
def wkv (kd : Str) (pr : Addr) (sd : V) (pf pp : Addr) : List (Key × V) := [(.inr "kind", .str kd), (.inr "rest", .ref pr), (.inr "said", sd), (.inr "found", .ref pf), (.inr "paper", .ref pp)]
section
variable {H : Hp} {pk pr pf pp : Addr} {kd : Str} {sd : V}
theorem kv_kind : valV (wkv kd pr sd pf pp) (.inr "kind" : Key) = some (.str kd) := by kernel_rfl
theorem kv_rest : valV (wkv kd pr sd pf pp) (.inr "rest" : Key) = some (.ref pr) := by kernel_rfl
theorem kv_said : valV (wkv kd pr sd pf pp) (.inr "said" : Key) = some sd := by kernel_rfl
theorem kv_found : valV (wkv kd pr sd pf pp) (.inr "found" : Key) = some (.ref pf) := by kernel_rfl
theorem kv_paper : valV (wkv kd pr sd pf pp) (.inr "paper" : Key) = some (.ref pp) := by kernel_rfl
theorem kp_said {v : V} : putK (wkv kd pr sd pf pp) (.inr "said" : Key) v = wkv kd pr v pf pp := by kernel_rfl
theorem wk_kind (h : H pk = some (.dK (wkv kd pr sd pf pp))) : DGet H pk (.str "kind") (some (.str kd)) := by rw [← kv_kind (kd := kd) (pr := pr) (sd := sd) (pf := pf) (pp := pp)]; exact DGet.k (k := Sum.inr "kind") h
theorem wk_rest (h : H pk = some (.dK (wkv kd pr sd pf pp))) : DGet H pk (.str "rest") (some (.ref pr)) := by rw [← kv_rest (kd := kd) (pr := pr) (sd := sd) (pf := pf) (pp := pp)]; exact DGet.k (k := Sum.inr "rest") h
theorem wk_said (h : H pk = some (.dK (wkv kd pr sd pf pp))) : DGet H pk (.str "said") (some sd) := by rw [← kv_said (kd := kd) (pr := pr) (sd := sd) (pf := pf) (pp := pp)]; exact DGet.k (k := Sum.inr "said") h
theorem wk_found (h : H pk = some (.dK (wkv kd pr sd pf pp))) : DGet H pk (.str "found") (some (.ref pf)) := by rw [← kv_found (kd := kd) (pr := pr) (sd := sd) (pf := pf) (pp := pp)]; exact DGet.k (k := Sum.inr "found") h
theorem wk_paper (h : H pk = some (.dK (wkv kd pr sd pf pp))) : DGet H pk (.str "paper") (some (.ref pp)) := by rw [← kv_paper (kd := kd) (pr := pr) (sd := sd) (pf := pf) (pp := pp)]; exact DGet.k (k := Sum.inr "paper") h
theorem wkp_said {v : V} (h : H pk = some (.dK (wkv kd pr sd pf pp))) : DPut H pk (.str "said") v (upd H pk (.dK (wkv kd pr v pf pp))) := by rw [← kp_said (sd := sd)]; exact DPut.k (k := Sum.inr "said") h (by show 5 < sizeLine; decide)
end
/-- a walk's state -/
structure WkS where
  kd : Str
  rest : List (List Nat)
  sd : Option (List Nat)
  found : List (List Nat)
  paper : List (List Nat × Bool × Bool)
def txV (l : List Nat) : V := .str (S l)
structure WkAt (H : Hp) (pk pr pf pp : Addr) (st : WkS) : Prop where
  ob : H pk = some (.dK (wkv st.kd pr (sdV st.sd) pf pp))
  rs : H pr = some (.lst (st.rest.map txV))
  fd : H pf = some (.lst (st.found.map txV))
  pa : ∃ ts : List Addr, H pp = some (.lst (ts.map V.ref)) ∧ ts.length = st.paper.length ∧ ∀ (i : Nat) (t : Addr) (q : List Nat × Bool × Bool), ts[i]? = some t → st.paper[i]? = some q → H t = some (.tup [txV q.1, .bl q.2.1, .bl q.2.2])
  ne : pr ≠ pf ∧ pr ≠ pp ∧ pf ≠ pp
section
variable {P : Program} {w : World} {K : PySem.W.Frag} {mg : Str → Option Value} {base : Heap}
/-- an own walk, new -/
def spPath : Sp := fun vs H Q _ => ∃ kd : Str, vs = [.str kd] ∧ ∀ (pk pr pf pp : Addr) (H' : Hp), H pk = none → H pr = none → H pf = none → H pp = none → WkAt H' pk pr pf pp ⟨kd, [[]], none, [], []⟩ → Frm [] H H' → Q (.ref pk) H'
theorem big6 {n : Nat} (h : n < 1000000) : n < sizeLine := Nat.lt_of_lt_of_le h (by decide)
/-- what an own round comes to -/
inductive Tld where
  | no | lost | found (l : List Nat)
def TldAt (H : Hp) : Tld → V → Prop
  | .no, v => v = .non
  | .lost, v => ∃ t, v = .ref t ∧ H t = some (.tup [.str "lost"])
  | .found l, v => ∃ t, v = .ref t ∧ H t = some (.tup [.str "found", txV l])
/-- the round's end, if all bits are said -/
def overF (W : Nat) (st : WkS) (l : List Nat) : WkS × Tld := if l.length < W then ({ st with sd := some l }, .no) else ({ st with sd := none, found := st.found ++ [l] }, .found l)
def spOver : Sp := fun vs H Q _ => ∃ (pk pr pf pp pm dt ml : Addr) (W : Nat) (kvs : List (Str × Bool)) (lm : List Str) (sdm : Option (List Nat)) (lk : Int) (st : WkS) (l : List Nat), vs = [.ref pk, .ref pm] ∧ WkAt H pk pr pf pp st ∧ MdAt H pm dt ml W kvs lm sdm lk ∧ st.sd = some l ∧ l.length ≤ 100 ∧ st.found.length < 1000000 ∧
  ∀ (v : V) (H' : Hp), WkAt H' pk pr pf pp (overF W st l).1 → TldAt H' (overF W st l).2 v → Frm [pk, pf] H H' → Q v H'
end
end B

set_option Elab.async false
set_option linter.all false
set_option maxRecDepth 100000
set_option maxHeartbeats 4000000
namespace B
open PySem PySem.Spec PyProof.Rows L2
open SX (S)
/-- begins so -/
def starts (l : List Nat) (x : Str) : Bool := decide (x.cps.toList.take l.length = l)
/-- who listens behind a beginning -/
def begF (kvs : List (Str × Bool)) (kd : Str) (l : List Nat) : List Str := (lisB kvs (decide (kd = "all"))).filter (starts l)
theorem begF_nil {kvs : List (Str × Bool)} {kd : Str} : begF kvs kd [] = lisB kvs (decide (kd = "all")) := by
  unfold begF
  refine List.filter_eq_self.mpr fun x _ => ?_
  exact decide_eq_true rfl
theorem starts_snoc {l : List Nat} {c : Nat} {x : Str} : starts (l ++ [c]) x = (sg l.length c x && starts l x) := by
  unfold starts sg
  rw [Bool.eq_iff_iff, Bool.and_eq_true, decide_eq_true_eq, decide_eq_true_eq, decide_eq_true_eq]
  generalize x.cps.toList = m
  rw [List.length_append, List.length_singleton, List.take_succ]
  constructor
  · intro h
    have hl : (m.take l.length ++ m[l.length]?.toList).length = l.length + 1 := by rw [h]; simp
    cases q : m[l.length]? with
    | none =>
      rw [q] at hl
      simp only [Option.toList, List.append_nil, List.length_take] at hl
      omega
    | some d =>
      rw [q] at h
      have e := List.append_inj' h rfl
      exact ⟨congrArg some (List.singleton_inj.mp e.2), e.1⟩
  · rintro ⟨h1, h2⟩
    rw [h1, h2]
    rfl
theorem begF_snoc {kvs : List (Str × Bool)} {kd : Str} {l : List Nat} {c : Nat} : begF kvs kd (l ++ [c]) = (begF kvs kd l).filter (sg l.length c) := by
  unfold begF
  rw [List.filter_filter]
  apply List.filter_congr
  intro x _
  exact starts_snoc
theorem lisB_sub (kvs : List (Str × Bool)) (all : Bool) : (lisB kvs all).length ≤ kvs.length ∧ ∀ x ∈ lisB kvs all, x ∈ kvs.map (·.1) := by
  unfold lisB
  refine ⟨?_, fun x hx => ?_⟩
  · rw [List.length_map]
    exact List.length_filter_le _ _
  · obtain ⟨p, hp, e⟩ := List.mem_map.mp hx
    exact List.mem_map.mpr ⟨p, (List.mem_filter.mp hp).1, e⟩
theorem begF_sub {kvs : List (Str × Bool)} {kd : Str} {l : List Nat} : (begF kvs kd l).length ≤ kvs.length ∧ ∀ x ∈ begF kvs kd l, x ∈ kvs.map (·.1) ∧ starts l x = true := by
  have h := lisB_sub kvs (decide (kd = "all"))
  refine ⟨Nat.le_trans (List.length_filter_le _ _) h.1, fun x hx => ?_⟩
  obtain ⟨h1, h2⟩ := List.mem_filter.mp hx
  exact ⟨h.2 x h1, h2⟩
/-- a step told: the walk, what comes of its round, who listens, what is said on the wire, the looks -/
def stepF (W : Nat) (kvs : List (Str × Bool)) (lm : List Str) (lk : Int) (st : WkS) : (WkS × Tld) × List Str × Option (List Nat) × Int :=
  match st.sd with
  | none => (overF W { st with rest := st.rest.dropLast } (st.rest.getLast?.getD []), begF kvs st.kd (st.rest.getLast?.getD []), some (st.rest.getLast?.getD []), lk)
  | some l =>
    let z := lm.any (sg l.length 48)
    let o := lm.any (sg l.length 49)
    let st1 : WkS := { st with paper := st.paper ++ [(l, z, o)] }
    if z = false ∧ o = false then (({ st1 with sd := none }, .lost), lm, some l, lk + 1)
    else
      let b := if z = true then 48 else 49
      let st2 : WkS := if z = true ∧ o = true then { st1 with rest := st1.rest ++ [l ++ [49]] } else st1
      (overF W st2 (l ++ [b]), lm.filter (sg l.length b), some (l ++ [b]), lk + 1)
theorem WkAt.stay {T : List Addr} {H H' : Hp} {pk pr pf pp : Addr} {st : WkS} (h : WkAt H pk pr pf pp st) (f : Frm T H H') (n : NL T H) (h1 : pk ∉ T) (h2 : pr ∉ T) (h3 : pf ∉ T) (h4 : pp ∉ T) : WkAt H' pk pr pf pp st := by
  obtain ⟨o1, o2, o3, ⟨ts, o4, o5, o6⟩, n⟩ := h
  exact ⟨f.k _ _ o1 rfl h1, f.k _ _ o2 rfl h2, f.k _ _ o3 rfl h3, ⟨ts, f.k _ _ o4 rfl h4, o5, fun i t q a b => f.at ‹NL T H› (o6 i t q a b) rfl rfl⟩, n⟩
section
variable {P : Program} {w : World} {K : PySem.W.Frag} {mg : Str → Option Value} {base : Heap}
def spStep : Sp := fun vs H Q _ => ∃ (pk pr pf pp pm dt ml : Addr) (W : Nat) (kvs : List (Str × Bool)) (lm : List Str) (sdm : Option (List Nat)) (lk : Int) (st : WkS), vs = [.ref pk, .ref pm] ∧ WkAt H pk pr pf pp st ∧ MdAt H pm dt ml W kvs lm sdm lk ∧ pm ≠ dt ∧ pk ≠ pm ∧ pk ≠ dt ∧ (ml ≠ pr ∧ ml ≠ pf ∧ ml ≠ pp) ∧
  (kvs.map (·.1)).Nodup ∧ kvs.length ≤ 100 ∧ (∀ x ∈ kvs.map (·.1), Num W x) ∧ lm.length ≤ 100 ∧ W ≤ 12 ∧ st.rest.length < 999999 ∧ st.found.length < 999999 ∧ st.paper.length < 999999 ∧
  (st.sd = none → ∃ r g, st.rest = r ++ [g] ∧ g.length ≤ W ∧ Bits g) ∧ (∀ l, st.sd = some l → sdm = some l ∧ l.length < W ∧ Bits l ∧ ∀ x ∈ lm, Beg W l x) ∧
  ∀ (v : V) (ml' : Addr) (H' : Hp), (ml' = ml ∨ H ml' = none) → WkAt H' pk pr pf pp (stepF W kvs lm lk st).1.1 → TldAt H' (stepF W kvs lm lk st).1.2 v → MdAt H' pm dt ml' W kvs (stepF W kvs lm lk st).2.1 (stepF W kvs lm lk st).2.2.1 (stepF W kvs lm lk st).2.2.2 → Frm [pk, pr, pf, pp, pm] H H' → Q v H'
end
end B

set_option Elab.async false
set_option linter.all false
set_option maxRecDepth 100000
set_option maxHeartbeats 4000000
namespace B
open PySem PySem.Spec PyProof.Rows L2
open SX (S)
/-! ### a step keeps a walk well -/
theorem S_list (m : List Nat) : (S m).cps.toList = m := by simp [SX.S]
theorem beg_starts {W : Nat} {l : List Nat} {x : Str} (h : Num W x) (hs : starts l x = true) : Beg W l x := by
  obtain ⟨m, rfl, e, b⟩ := h
  have z := of_decide_eq_true hs
  rw [S_list] at z
  exact ⟨m, rfl, e, b, z⟩
theorem beg_next' {W : Nat} {l : List Nat} {x : Str} {c : Nat} (h : Beg W l x) (hc : sg l.length c x = true) : Beg W (l ++ [c]) x := by
  refine beg_starts h.num ?_
  rw [starts_snoc, hc]
  obtain ⟨m, rfl, e, b, t⟩ := h
  unfold starts
  rw [S_list, t, decide_eq_true rfl]
  rfl
structure WkOk (W : Nat) (lm : List Str) (sdm : Option (List Nat)) (st : WkS) (n : Nat) : Prop where
  rest : ∀ g ∈ st.rest, g.length ≤ W ∧ Bits g
  said : ∀ l, st.sd = some l → sdm = some l ∧ l.length < W ∧ Bits l ∧ ∀ x ∈ lm, Beg W l x
  len : st.rest.length ≤ n ∧ st.found.length ≤ n ∧ st.paper.length ≤ n
  lm : lm.length ≤ 100
theorem WkOk.none_ {W n : Nat} {lm : List Str} {sdm : Option (List Nat)} {st : WkS} (h : WkOk W lm sdm st n) (hr : st.rest ≠ []) : ∃ r g, st.rest = r ++ [g] ∧ g.length ≤ W ∧ Bits g := by
  refine ⟨st.rest.dropLast, st.rest.getLast hr, (List.dropLast_concat_getLast hr).symm, ?_⟩
  exact h.rest _ (List.getLast_mem hr)
theorem over_ok {W n : Nat} {lm : List Str} {st : WkS} {l : List Nat} (hr : ∀ g ∈ st.rest, g.length ≤ W ∧ Bits g) (hl : st.rest.length ≤ n ∧ st.found.length ≤ n - 1 ∧ st.paper.length ≤ n) (hn : 1 ≤ n) (hm : lm.length ≤ 100) (hb : Bits l) (hbeg : ∀ x ∈ lm, Beg W l x) : WkOk W lm (some l) (overF W st l).1 n := by
  unfold overF
  split
  · rename_i h
    exact ⟨hr, fun l' e => by cases e; exact ⟨rfl, h, hb, hbeg⟩, ⟨hl.1, by show st.found.length ≤ n; omega, hl.2.2⟩, hm⟩
  · refine ⟨hr, fun l' e => (by cases e), ⟨hl.1, ?_, hl.2.2⟩, hm⟩
    show (st.found ++ [l]).length ≤ n
    rw [List.length_append, List.length_singleton]
    omega
theorem step_ok {W n : Nat} {kvs : List (Str × Bool)} {lm : List Str} {sdm : Option (List Nat)} {lk : Int} {st : WkS} (h : WkOk W lm sdm st n) (hr : st.sd = none → st.rest ≠ []) (hk : kvs.length ≤ 100) (hkn : ∀ x ∈ kvs.map (·.1), Num W x) :
    WkOk W (stepF W kvs lm lk st).2.1 (stepF W kvs lm lk st).2.2.1 (stepF W kvs lm lk st).1.1 (n + 1) := by
  obtain ⟨kd, rest, sd, found, paper⟩ := st
  obtain ⟨h1, h2, ⟨h3, h4, h5⟩, h6⟩ := id h
  dsimp only at h1 h2 h3 h4 h5
  cases sd with
  | none =>
    obtain ⟨r, g, e, hg, hb⟩ := h.none_ (hr rfl)
    dsimp only at e
    subst e
    have e0 : stepF W kvs lm lk ⟨kd, r ++ [g], none, found, paper⟩ = (overF W ⟨kd, r, none, found, paper⟩ g, begF kvs kd g, some g, lk) := by
      unfold stepF
      simp
    rw [e0]
    have bs := begF_sub (kvs := kvs) (kd := kd) (l := g)
    rw [List.length_append, List.length_singleton] at h3
    refine over_ok (fun q hq => h1 q (List.mem_append_left _ hq)) ⟨?_, ?_, ?_⟩ (by omega) (by show (begF kvs kd g).length ≤ 100; omega) hb fun x hx => beg_starts (hkn x (bs.2 x hx).1) (bs.2 x hx).2
    · show r.length ≤ n + 1
      omega
    · show found.length ≤ n + 1 - 1
      omega
    · show paper.length ≤ n + 1
      omega
  | some l =>
    obtain ⟨e, hlt, hlb, hbeg⟩ := h2 l rfl
    subst e
    have hp : ∀ q : List Nat × Bool × Bool, (paper ++ [q]).length ≤ n + 1 := fun q => by
      rw [List.length_append, List.length_singleton]
      omega
    unfold stepF
    dsimp only
    split
    · exact ⟨h1, fun l' e => (by cases e), ⟨by show rest.length ≤ n + 1; omega, by show found.length ≤ n + 1; omega, hp _⟩, h6⟩
    · have hbit : ∀ z : Bool, (if z = true then 48 else 49) = 48 ∨ (if z = true then 48 else 49) = 49 := fun z => by cases z <;> simp
      have bb : ∀ c : Nat, c = 48 ∨ c = 49 → Bits (l ++ [c]) := fun c hc => hlb.snoc hc
      refine over_ok ?_ ⟨?_, ?_, ?_⟩ (by omega) ?_ (bb _ (hbit _)) ?_
      · split
        · intro g hg
          rcases List.mem_append.mp hg with z | z
          · exact h1 g z
          · rw [List.mem_singleton.mp z, List.length_append, List.length_singleton]
            exact ⟨by omega, bb 49 (.inr rfl)⟩
        · exact h1
      · split
        · show (rest ++ [l ++ [49]]).length ≤ n + 1
          rw [List.length_append, List.length_singleton]
          omega
        · show rest.length ≤ n + 1
          omega
      · split
        · show found.length ≤ n + 1 - 1
          omega
        · show found.length ≤ n + 1 - 1
          omega
      · split
        · exact hp _
        · exact hp _
      · exact Nat.le_trans (List.length_filter_le _ _) h6
      · intro x hx
        obtain ⟨x1, x2⟩ := List.mem_filter.mp hx
        exact beg_next' (hbeg x x1) x2
theorem over_no {W : Nat} {st : WkS} {l : List Nat} (h : (overF W st l).2 = .no) : (overF W st l).1.sd = some l ∧ l.length < W := by
  unfold overF at h ⊢
  split
  · rename_i c
    exact ⟨rfl, c⟩
  · rename_i c
    rw [if_neg c] at h
    cases h
theorem step_no {W : Nat} {kvs : List (Str × Bool)} {lm : List Str} {lk : Int} {st : WkS} (h : (stepF W kvs lm lk st).1.2 = .no) : ∃ l', (stepF W kvs lm lk st).1.1.sd = some l' ∧ l'.length < W ∧ ∀ l, st.sd = some l → l'.length = l.length + 1 := by
  obtain ⟨kd, rest, sd, found, paper⟩ := st
  cases sd with
  | none =>
    have q := over_no (W := W) (st := ⟨kd, rest.dropLast, none, found, paper⟩) (l := rest.getLast?.getD []) h
    exact ⟨_, q.1, q.2, fun l e => by cases e⟩
  | some l =>
    unfold stepF at h ⊢
    dsimp only at h ⊢
    split
    · rename_i c
      rw [if_pos c] at h
      cases h
    · rename_i c
      rw [if_neg c] at h
      have q := over_no h
      exact ⟨_, q.1, q.2, fun l' e => by cases e; rw [List.length_append, List.length_singleton]⟩
/-- steps till a round is over -/
def roundF (W : Nat) (kvs : List (Str × Bool)) : Nat → List Str → Int → WkS → (WkS × Tld) × List Str × Option (List Nat) × Int
  | 0, lm, lk, st => stepF W kvs lm lk st
  | n + 1, lm, lk, st => match (stepF W kvs lm lk st).1.2 with
    | .no => roundF W kvs n (stepF W kvs lm lk st).2.1 (stepF W kvs lm lk st).2.2.2 (stepF W kvs lm lk st).1.1
    | _ => stepF W kvs lm lk st
theorem round_no {W n : Nat} {kvs : List (Str × Bool)} {lm : List Str} {lk : Int} {st : WkS} (h : (stepF W kvs lm lk st).1.2 = .no) : roundF W kvs (n + 1) lm lk st = roundF W kvs n (stepF W kvs lm lk st).2.1 (stepF W kvs lm lk st).2.2.2 (stepF W kvs lm lk st).1.1 := by
  show (match (stepF W kvs lm lk st).1.2 with | .no => _ | _ => _) = _
  rw [h]
theorem round_yes {W n : Nat} {kvs : List (Str × Bool)} {lm : List Str} {lk : Int} {st : WkS} (h : (stepF W kvs lm lk st).1.2 ≠ .no) : roundF W kvs n lm lk st = stepF W kvs lm lk st := by
  cases n with
  | zero => rfl
  | succ n =>
    show (match (stepF W kvs lm lk st).1.2 with | .no => _ | _ => _) = _
    cases q : (stepF W kvs lm lk st).1.2 with
    | no => exact absurd q h
    | lost => rfl
    | found l => rfl
section
variable {P : Program} {w : World} {K : PySem.W.Frag} {mg : Str → Option Value} {base : Heap}
def spRound_ : Sp := fun vs H Q _ => ∃ (pk pr pf pp pm dt ml : Addr) (W n : Nat) (kvs : List (Str × Bool)) (lm : List Str) (sdm : Option (List Nat)) (lk : Int) (st : WkS), vs = [.ref pk, .ref pm] ∧ WkAt H pk pr pf pp st ∧ MdAt H pm dt ml W kvs lm sdm lk ∧ pm ≠ dt ∧ pk ≠ pm ∧ pk ≠ dt ∧ (ml ≠ pr ∧ ml ≠ pf ∧ ml ≠ pp) ∧
  (kvs.map (·.1)).Nodup ∧ kvs.length ≤ 100 ∧ (∀ x ∈ kvs.map (·.1), Num W x) ∧ W ≤ 12 ∧ WkOk W lm sdm st n ∧ n ≤ 900000 ∧ (st.sd = none → st.rest ≠ []) ∧
  ∀ (v : V) (ml' : Addr) (H' : Hp), (ml' = ml ∨ H ml' = none) → WkAt H' pk pr pf pp (roundF W kvs W lm lk st).1.1 → TldAt H' (roundF W kvs W lm lk st).1.2 v → MdAt H' pm dt ml' W kvs (roundF W kvs W lm lk st).2.1 (roundF W kvs W lm lk st).2.2.1 (roundF W kvs W lm lk st).2.2.2 → Frm [pk, pr, pf, pp, pm] H H' → Q v H'
end
end B

set_option Elab.async false
set_option linter.all false
set_option maxRecDepth 100000
set_option maxHeartbeats 4000000
namespace B
open PySem PySem.Spec PyProof.Rows L2
open SX (S)
/-! ### a walk ends -/
/-- of a beginning to go to; of what is said -/
def wR (W : Nat) (g : List Nat) : Nat := 2 ^ (W - g.length + 2) - 1
def wS (W : Nat) (l : List Nat) : Nat := 2 ^ (W - l.length + 2) - 2
def sumR (W : Nat) : List (List Nat) → Nat
  | [] => 0
  | g :: r => wR W g + sumR W r
theorem sumR_app {W : Nat} : ∀ {a b : List (List Nat)}, sumR W (a ++ b) = sumR W a + sumR W b
  | [], b => by show sumR W b = 0 + sumR W b; omega
  | g :: a, b => by
    have := sumR_app (W := W) (a := a) (b := b)
    show wR W g + sumR W (a ++ b) = wR W g + sumR W a + sumR W b
    omega
def meas (W : Nat) (st : WkS) : Nat := sumR W st.rest + (match st.sd with | none => 0 | some l => wS W l)
theorem two_pow {n : Nat} : 4 ≤ 2 ^ (n + 2) := by
  have := Nat.one_le_two_pow (n := n)
  rw [Nat.pow_add]
  omega
theorem over_meas {W : Nat} {st : WkS} {l : List Nat} : meas W (overF W st l).1 ≤ sumR W st.rest + wS W l := by
  unfold overF meas
  split
  · exact Nat.le_refl _
  · show sumR W st.rest + 0 ≤ _
    omega
theorem step_meas {W n : Nat} {kvs : List (Str × Bool)} {lm : List Str} {sdm : Option (List Nat)} {lk : Int} {st : WkS} (h : WkOk W lm sdm st n) (hr : st.sd = none → st.rest ≠ []) : meas W (stepF W kvs lm lk st).1.1 < meas W st := by
  obtain ⟨kd, rest, sd, found, paper⟩ := st
  cases sd with
  | none =>
    obtain ⟨r, g, e, hg, hb⟩ := h.none_ (hr rfl)
    dsimp only at e
    subst e
    have e0 : stepF W kvs lm lk ⟨kd, r ++ [g], none, found, paper⟩ = (overF W ⟨kd, r, none, found, paper⟩ g, begF kvs kd g, some g, lk) := by
      unfold stepF
      simp
    rw [e0]
    have q := over_meas (W := W) (st := ⟨kd, r, none, found, paper⟩) (l := g)
    refine Nat.lt_of_le_of_lt q ?_
    show sumR W r + wS W g < sumR W (r ++ [g]) + 0
    rw [sumR_app]
    show sumR W r + wS W g < sumR W r + (wR W g + 0) + 0
    have := two_pow (n := W - g.length)
    unfold wS wR
    omega
  | some l =>
    obtain ⟨_, hlt, _, _⟩ := h.said l rfl
    unfold stepF
    dsimp only
    have p1 := two_pow (n := W - l.length)
    split
    · show sumR W rest + 0 < sumR W rest + wS W l
      unfold wS
      omega
    · refine Nat.lt_of_le_of_lt over_meas ?_
      have en : W - l.length = (W - (l.length + 1)) + 1 := by omega
      have lc : ∀ c : Nat, (l ++ [c]).length = l.length + 1 := fun c => by rw [List.length_append, List.length_singleton]
      have p2 := two_pow (n := W - (l.length + 1))
      have ep : 2 ^ (W - l.length + 2) = 2 * 2 ^ (W - (l.length + 1) + 2) := by
        rw [en, show W - (l.length + 1) + 1 + 2 = (W - (l.length + 1) + 2) + 1 from by omega, Nat.pow_succ]
        omega
      show sumR W _ + wS W _ < sumR W rest + wS W l
      split
      · show sumR W (rest ++ [l ++ [49]]) + wS W _ < _
        rw [sumR_app]
        show sumR W rest + (wR W (l ++ [49]) + 0) + wS W _ < sumR W rest + wS W l
        unfold wS wR
        rw [lc, lc, ep]
        omega
      · show sumR W rest + wS W _ < sumR W rest + wS W l
        unfold wS
        rw [lc, ep]
        omega
end B

set_option Elab.async false
set_option linter.all false
set_option maxRecDepth 100000
set_option maxHeartbeats 4000000
namespace B
open PySem PySem.Spec PyProof.Rows L2
open SX (S)
/-! ### the program's walk -/
abbrev VC (K : PySem.W.Frag) : Addr := He.ga K "Walk"
def vfl (pw : Addr) (kd : Str) (qr qf qp : Addr) (sd : V) : List (Str × V) := [("_wire", .ref pw), ("_kind", .str kd), ("_row", .ref qr), ("_found", .ref qf), ("_paper", .ref qp), ("_said", sd)]
structure VkAt (K : PySem.W.Frag) (H : Hp) (qk pw qr qf qp : Addr) (st : WkS) : Prop where
  ob : ∃ dx, H qk = some (.ins (VC K) dx (vfl pw st.kd qr qf qp (sdV st.sd)))
  rs : H qr = some (.lst (st.rest.map txV))
  fd : H qf = some (.lst (st.found.map txV))
  pa : ∃ ts : List Addr, H qp = some (.lst (ts.map V.ref)) ∧ ts.length = st.paper.length ∧ ∀ (i : Nat) (t : Addr) (q : List Nat × Bool × Bool), ts[i]? = some t → st.paper[i]? = some q → H t = some (.tup [txV q.1, .bl q.2.1, .bl q.2.2])
  ne : qr ≠ qf ∧ qr ≠ qp ∧ qf ≠ qp
section
variable {pw qr qf qp : Addr} {kd : Str} {sd v : V}
theorem vl_wire : (vfl pw kd qr qf qp sd).lookup ("_wire" : Str) = some (.ref pw) := by kernel_rfl
theorem vl_kind : (vfl pw kd qr qf qp sd).lookup ("_kind" : Str) = some (.str kd) := by kernel_rfl
theorem vl_row : (vfl pw kd qr qf qp sd).lookup ("_row" : Str) = some (.ref qr) := by kernel_rfl
theorem vl_found : (vfl pw kd qr qf qp sd).lookup ("_found" : Str) = some (.ref qf) := by kernel_rfl
theorem vl_paper : (vfl pw kd qr qf qp sd).lookup ("_paper" : Str) = some (.ref qp) := by kernel_rfl
theorem vl_said : (vfl pw kd qr qf qp sd).lookup ("_said" : Str) = some sd := by kernel_rfl
theorem vp_said : putF "_said" v (vfl pw kd qr qf qp sd) = vfl pw kd qr qf qp v := by kernel_rfl
theorem vp_new : putF "_said" .non (putF "_paper" (.ref qp) (putF "_found" (.ref qf) (putF "_row" (.ref qr) (putF "_kind" (.str kd) (putF "_wire" (.ref pw) []))))) = vfl pw kd qr qf qp .non := by kernel_rfl
theorem vl_len : (vfl pw kd qr qf qp sd).length < 1000 := by show 6 < 1000; decide
theorem vx_step : (vfl pw kd qr qf qp sd).lookup ("step" : Str) = none := by kernel_rfl
theorem vx_round : (vfl pw kd qr qf qp sd).lookup ("go_round" : Str) = none := by kernel_rfl
theorem vx_all : (vfl pw kd qr qf qp sd).lookup ("go_all" : Str) = none := by kernel_rfl
theorem vx_left : (vfl pw kd qr qf qp sd).lookup ("left" : Str) = none := by kernel_rfl
theorem vx_found : (vfl pw kd qr qf qp sd).lookup ("found" : Str) = none := by kernel_rfl
theorem vx_paper : (vfl pw kd qr qf qp sd).lookup ("paper" : Str) = none := by kernel_rfl
theorem vx_under : (vfl pw kd qr qf qp sd).lookup ("is_under_way" : Str) = none := by kernel_rfl
theorem vx_begin : (vfl pw kd qr qf qp sd).lookup ("_begin_round" : Str) = none := by kernel_rfl
theorem vx_say : (vfl pw kd qr qf qp sd).lookup ("_say" : Str) = none := by kernel_rfl
end
section
variable {P : Program} {w : World} {K : PySem.W.Frag} {mg : Str → Option Value} {base : Heap}
theorem vcl (T : Txt P w K mg base) : Cls K (VC K) := He.cls_ok (T.t.fact 73 (f := .cls "Walk"))
theorem vn_wire (T : Txt P w K mg base) : NoAttr K (VC K) "_wire" := He.noat_ok (T.t.fact 75 (f := .noat "Walk" "_wire"))
theorem vn_kind (T : Txt P w K mg base) : NoAttr K (VC K) "_kind" := He.noat_ok (T.t.fact 76 (f := .noat "Walk" "_kind"))
theorem vn_row (T : Txt P w K mg base) : NoAttr K (VC K) "_row" := He.noat_ok (T.t.fact 77 (f := .noat "Walk" "_row"))
theorem vn_found (T : Txt P w K mg base) : NoAttr K (VC K) "_found" := He.noat_ok (T.t.fact 78 (f := .noat "Walk" "_found"))
theorem vn_paper (T : Txt P w K mg base) : NoAttr K (VC K) "_paper" := He.noat_ok (T.t.fact 79 (f := .noat "Walk" "_paper"))
theorem vn_said (T : Txt P w K mg base) : NoAttr K (VC K) "_said" := He.noat_ok (T.t.fact 80 (f := .noat "Walk" "_said"))
end
section
variable {X : Cx}
theorem mk_Over (T : Txt X.prog X.w X.K X.mg X.base) {m : Str} {j : Nat} {p p2 pos : Pos} (hg : Gl X "Over" := by rfl) : PMk X (.Call (.Name "Over" p) [.Constant (.str m) j p2] [] pos) (fun _ H Q => Q (.ref (He.ga X.K "Over")) none H) := by
  obtain ⟨a, b, c, d⟩ := He.exc_ok (T.t.fact 91 (f := .exc "Over"))
  exact pmk_own PySem.F.excBase_ValueError a (g_Over T) b (raises_own c d) hg
end
theorem VkAt.keep {K : PySem.W.Frag} {S : List Addr} {H H' : Hp} {qk pw qr qf qp : Addr} {st : WkS} (h : VkAt K H qk pw qr qf qp st) (f : FrT K S H H') (n : NL S H) (h1 : qk ∉ S) (h2 : qr ∉ S) (h3 : qf ∉ S) (h4 : qp ∉ S) : VkAt K H' qk pw qr qf qp st := by
  obtain ⟨⟨dx, o1⟩, o2, o3, ⟨ts, o4, o5, o6⟩, ne⟩ := h
  exact ⟨⟨dx, f.k _ _ o1 rfl h1⟩, f.k _ _ o2 rfl h2, f.k _ _ o3 rfl h3, ⟨ts, f.k _ _ o4 rfl h4, o5, fun i t q a b => f.at n (o6 i t q a b) rfl rfl⟩, ne⟩
section
variable {P : Program} {w : World} {K : PySem.W.Frag} {mg : Str → Option Value} {base : Heap}
/-! ### a walk made -/
def spVNew (K : PySem.W.Frag) : Sp := fun vs H Q _ => ∃ (qk dx pw : Addr) (kd : Str), vs = [.ref qk, .ref pw, .str kd] ∧ (kd = "all" ∨ kd = "alarm") ∧ H qk = some (.ins (VC K) dx []) ∧ ∀ (qr qf qp : Addr) (H' : Hp), H qr = none → H qf = none → H qp = none → VkAt K H' qk pw qr qf qp ⟨kd, [[]], none, [], []⟩ → Frm [qk] H H' → Q .non H'
theorem k_Walk (T : Txt P w K mg base) : MakX CX0 P w K mg base 2 "Walk" (VC K) (spVNew K) := by
  obtain ⟨fd, F⟩ := T.t.def_ 26 (d := d_Walk_init)
  refine ⟨_, fd, _, He.mkr_ok (T.t.fact 74 (f := .mkr "Walk")), F.ok sc_Walk_init (fun vs H Q E h => ?_) (fun cdv A outer s H vs Q E hr h => ?_), g_Walk T, F.bindsN fun _ _ _ _ _ _ us hl => match us, hl with | [_, _, _], _ => rfl⟩
  · obtain ⟨qk, dx, pw, kd, rfl, _⟩ := h
    rfl
  · obtain ⟨qk, dx, pw, kd, rfl, hk, h1, k⟩ := h
    refine ⟨_, PSs.nox (pss_cons (ps_expr (pe_cx (c_require_kind T) hr (by decide) rfl pass0 (pa_cons (pv 2) pa_nil)))
    (pss_cons (ps_fld (pv 0) (pv 1) rfl)
    (pss_cons (ps_fld (pv 0) (pv 2) rfl)
    (pss_cons (ps_fld (pv 0) (pe_lst (pa_cons pe_str pa_nil)) rfl)
    (pss_cons (ps_fld (pv 0) (pe_lst pa_nil) rfl)
    (pss_cons (ps_fld (pv 0) (pe_lst pa_nil) rfl)
    (pss_one (ps_fld (pv 0) pe_non rfl)))))))), ?_⟩
    refine ⟨_, rfl, kd, rfl, hk, ?_⟩
    refine ⟨_, rfl, _, rfl, qk, _, dx, _, rfl, h1, vcl T, vn_wire T, by show 0 < 1000; decide, ?_⟩
    refine ⟨_, rfl, _, rfl, qk, _, dx, _, rfl, upd_same, vcl T, vn_kind T, by show 1 < 1000; decide, ?_⟩
    rw [upd_upd]
    refine ⟨by show 1 ≤ sizeLine; decide, fun qr hqr => ?_⟩
    have n1 : qk ≠ qr := ne_of_none upd_same hqr
    refine ⟨_, rfl, qk, _, dx, _, rfl, by rw [upd_ne n1]; exact upd_same, vcl T, vn_row T, by show 2 < 1000; decide, Nat.zero_le _, fun qf hqf => ?_⟩
    have n2 : qk ≠ qf := ne_of_none upd_same hqf
    have n3 : qr ≠ qf := ne_of_none (by rw [upd_ne n1.symm]; exact upd_same) hqf
    refine ⟨_, rfl, qk, _, dx, _, rfl, by rw [upd_ne n2]; exact upd_same, vcl T, vn_found T, by show 3 < 1000; decide, Nat.zero_le _, fun qp hqp => ?_⟩
    have n4 : qk ≠ qp := ne_of_none upd_same hqp
    have n5 : qf ≠ qp := ne_of_none (by rw [upd_ne n2.symm]; exact upd_same) hqp
    have n6 : qr ≠ qp := ne_of_none (by rw [upd_ne n1.symm, upd_ne n3, upd_ne n1.symm]; exact upd_same) hqp
    refine ⟨_, rfl, qk, _, dx, _, rfl, by rw [upd_ne n4]; exact upd_same, vcl T, vn_paper T, by show 4 < 1000; decide, ?_⟩
    refine ⟨_, rfl, qk, _, dx, _, rfl, upd_same, vcl T, vn_said T, by show 5 < 1000; decide, ?_⟩
    rw [vp_new]
    have r1 : H qr = none := upd_back hqr
    have r2 : H qf = none := upd_back (upd_back (upd_back hqf))
    have r3 : H qp = none := upd_back (upd_back (upd_back (upd_back (upd_back hqp))))
    have es : txV [] = V.str "" := congrArg V.str empty_S.symm
    refine k qr qf qp _ r1 r2 r3 ⟨⟨dx, upd_same⟩, ?_, ?_, ⟨[], ?_, rfl, fun i t q ht => by simp at ht⟩, n3, n6, n5⟩ (((((((((Frm.refl _ _).put (by simp)).new r1).put (by simp)).new r2).put (by simp)).new r3).put (by simp)).put (by simp))
    · rw [upd_ne n1.symm, upd_ne n1.symm, upd_ne n6, upd_ne n1.symm, upd_ne n3, upd_ne n1.symm, upd_same]
      show _ = some (HO.lst [txV []])
      rw [es]
    · rw [upd_ne n2.symm, upd_ne n2.symm, upd_ne n5, upd_ne n2.symm, upd_same]
      rfl
    · rw [upd_ne n4.symm, upd_ne n4.symm, upd_same]
      rfl
/-! ### what is told -/
def spVList (K : PySem.W.Frag) (f : WkS → List (List Nat)) : Sp := fun vs H Q _ => ∃ (qk pw qr qf qp : Addr) (st : WkS), vs = [.ref qk] ∧ VkAt K H qk pw qr qf qp st ∧ ∀ (p : Addr) (H' : Hp), H p = none → H' p = some (.lst ((f st).map txV)) → Frm [] H H' → Q (.ref p) H'
theorem m_Walk_left (T : Txt P w K mg base) : MetX CX0 P w K mg base 1 (VC K) "left" (spVList K WkS.rest) := by
  obtain ⟨fd, F⟩ := T.t.def_ 29 (d := d_Walk_left)
  refine ⟨_, fd, _, vcl T, He.meth_ok (T.t.fact 83 (f := .meth "Walk" "left")), F.ok sc_Walk_left (fun vs H Q E h => ?_) (fun cdv A outer s H vs Q E hr h => ?_), F.bindsN fun _ _ _ _ _ _ us hl => match us, hl with | [_], _ => rfl⟩
  · obtain ⟨qk, pw, qr, qf, qp, st, rfl, _⟩ := h
    rfl
  · obtain ⟨qk, pw, qr, qf, qp, st, rfl, ⟨⟨dx, o1⟩, o2, o3, o4, ne⟩, k⟩ := h
    refine ⟨_, PSs.nox (pss_one (ps_ret (pe_callTy call_list_of (by rfl) (n_list T) (by decide +kernel) (pa_cons (pe_fld (pv 0) (by rfl)) pa_nil)))), ?_⟩
    exact ⟨_, rfl, qk, _, dx, _, _, rfl, o1, vcl T, vn_row T, vl_row, qr, _, rfl, .inl (SqL.of o2), fun p hp => k p _ hp upd_same (Frm.of (same_upd hp))⟩
theorem m_Walk_found (T : Txt P w K mg base) : MetX CX0 P w K mg base 1 (VC K) "found" (spVList K WkS.found) := by
  obtain ⟨fd, F⟩ := T.t.def_ 30 (d := d_Walk_found)
  refine ⟨_, fd, _, vcl T, He.meth_ok (T.t.fact 84 (f := .meth "Walk" "found")), F.ok sc_Walk_found (fun vs H Q E h => ?_) (fun cdv A outer s H vs Q E hr h => ?_), F.bindsN fun _ _ _ _ _ _ us hl => match us, hl with | [_], _ => rfl⟩
  · obtain ⟨qk, pw, qr, qf, qp, st, rfl, _⟩ := h
    rfl
  · obtain ⟨qk, pw, qr, qf, qp, st, rfl, ⟨⟨dx, o1⟩, o2, o3, o4, ne⟩, k⟩ := h
    refine ⟨_, PSs.nox (pss_one (ps_ret (pe_callTy call_list_of (by rfl) (n_list T) (by decide +kernel) (pa_cons (pe_fld (pv 0) (by rfl)) pa_nil)))), ?_⟩
    exact ⟨_, rfl, qk, _, dx, _, _, rfl, o1, vcl T, vn_found T, vl_found, qf, _, rfl, .inl (SqL.of o3), fun p hp => k p _ hp upd_same (Frm.of (same_upd hp))⟩
/-- the paper, as a list of rows -/
def PapAt (H : Hp) (p : Addr) (pa : List (List Nat × Bool × Bool)) : Prop := ∃ ts : List Addr, H p = some (.lst (ts.map V.ref)) ∧ ts.length = pa.length ∧ ∀ (i : Nat) (t : Addr) (q : List Nat × Bool × Bool), ts[i]? = some t → pa[i]? = some q → H t = some (.tup [txV q.1, .bl q.2.1, .bl q.2.2])
def spVPaper (K : PySem.W.Frag) : Sp := fun vs H Q _ => ∃ (qk pw qr qf qp : Addr) (st : WkS), vs = [.ref qk] ∧ VkAt K H qk pw qr qf qp st ∧ ∀ (p : Addr) (H' : Hp), H p = none → PapAt H' p st.paper → Frm [] H H' → Q (.ref p) H'
theorem m_Walk_paper (T : Txt P w K mg base) : MetX CX0 P w K mg base 1 (VC K) "paper" (spVPaper K) := by
  obtain ⟨fd, F⟩ := T.t.def_ 31 (d := d_Walk_paper)
  refine ⟨_, fd, _, vcl T, He.meth_ok (T.t.fact 85 (f := .meth "Walk" "paper")), F.ok sc_Walk_paper (fun vs H Q E h => ?_) (fun cdv A outer s H vs Q E hr h => ?_), F.bindsN fun _ _ _ _ _ _ us hl => match us, hl with | [_], _ => rfl⟩
  · obtain ⟨qk, pw, qr, qf, qp, st, rfl, _⟩ := h
    rfl
  · obtain ⟨qk, pw, qr, qf, qp, st, rfl, ⟨⟨dx, o1⟩, o2, o3, ⟨ts, o4, o5, o6⟩, ne⟩, k⟩ := h
    refine ⟨_, PSs.nox (pss_one (ps_ret (pe_callTy call_list_of (by rfl) (n_list T) (by decide +kernel) (pa_cons (pe_fld (pv 0) (by rfl)) pa_nil)))), ?_⟩
    exact ⟨_, rfl, qk, _, dx, _, _, rfl, o1, vcl T, vn_paper T, vl_paper, qp, _, rfl, .inl (SqL.of o4), fun p hp => k p _ hp ⟨ts, upd_same, o5, fun i t q a b => same_upd hp _ _ (o6 i t q a b)⟩ (Frm.of (same_upd hp))⟩
def spVUnder (K : PySem.W.Frag) : Sp := fun vs H Q _ => ∃ (qk pw qr qf qp : Addr) (st : WkS), vs = [.ref qk] ∧ VkAt K H qk pw qr qf qp st ∧ Q (.bl st.sd.isSome) H
end
end B

set_option Elab.async false
set_option linter.all false
set_option maxRecDepth 100000
set_option maxHeartbeats 4000000
namespace B
open PySem PySem.Spec PyProof.Rows L2
open SX (S)
/-- has these signs from a place on -/
def behind (n : Nat) (g : List Nat) (x : Str) : Bool := decide ((x.cps.toList.drop n).take g.length = g)
theorem behind_nil {n : Nat} {x : Str} : behind n [] x = true := decide_eq_true rfl
theorem behind_snoc {n : Nat} {l : List Nat} {c : Nat} {x : Str} : behind n (l ++ [c]) x = (sg (n + l.length) c x && behind n l x) := by
  unfold behind sg
  rw [Bool.eq_iff_iff, Bool.and_eq_true, decide_eq_true_eq, decide_eq_true_eq, decide_eq_true_eq, ← List.getElem?_drop]
  generalize x.cps.toList.drop n = m
  rw [List.length_append, List.length_singleton, List.take_succ]
  constructor
  · intro h
    have hl : (m.take l.length ++ m[l.length]?.toList).length = l.length + 1 := by rw [h]; simp
    cases q : m[l.length]? with
    | none =>
      rw [q] at hl
      simp only [Option.toList, List.append_nil, List.length_take] at hl
      omega
    | some d =>
      rw [q] at h
      have e := List.append_inj' h rfl
      exact ⟨congrArg some (List.singleton_inj.mp e.2), e.1⟩
  · rintro ⟨h1, h2⟩
    rw [h1, h2]
    rfl
theorem behind_step {n : Nat} {l : List Nat} {c : Nat} {lw : List Str} : lw.filter (behind n (l ++ [c])) = (lw.filter (behind n l)).filter (sg (n + l.length) c) := by
  rw [List.filter_filter]
  exact List.filter_congr fun x _ => behind_snoc
theorem behind_all {n : Nat} {lw : List Str} : lw.filter (behind n []) = lw := List.filter_eq_self.mpr fun x _ => behind_nil
theorem behind_zero {g : List Nat} {x : Str} : behind 0 g x = starts g x := by
  unfold behind starts
  rw [List.drop_zero]
theorem behind_one {n c : Nat} {x : Str} : behind n [c] x = sg n c x := by
  have := behind_snoc (n := n) (l := []) (c := c) (x := x)
  rw [behind_nil, Bool.and_true] at this
  exact this
theorem vk_ne {K : PySem.W.Frag} {H : Hp} {qk pw qr qf qp dh dl : Addr} {st : WkS} {W : Nat} {kvs : List (Str × Bool)} {lw : List Str} {ms lk : Int} (h : VkAt K H qk pw qr qf qp st) (g : WiAt K H pw dh dl W kvs lw ms lk) : qk ≠ pw := by
  intro e
  obtain ⟨⟨dx, o1⟩, _⟩ := h
  obtain ⟨⟨dw, w1⟩, _⟩ := g
  subst e
  rw [o1] at w1
  have z := HO.ins.inj (Option.some.inj w1)
  have y := congrArg List.length z.2.2
  cases y
/-- tuples stay -/
def TupK (H H' : Hp) : Prop := ∀ t vs, H t = some (.tup vs) → H' t = some (.tup vs)
theorem TupK.put {H : Hp} {p : Addr} {o o' : HO} (h : H p = some o) (n : ∀ vs, o ≠ .tup vs) : TupK H (upd H p o') := fun t vs e => by
  rw [upd_ne (fun z => by rw [z, h] at e; exact n vs (Option.some.inj e))]
  exact e
theorem TupK.new {H : Hp} {p : Addr} {o' : HO} (h : H p = none) : TupK H (upd H p o') := fun t vs e => same_upd h _ _ e
theorem TupK.trans {H H1 H2 : Hp} (a : TupK H H1) (b : TupK H1 H2) : TupK H H2 := fun t vs e => b t vs (a t vs e)
theorem VkAt.set {K : PySem.W.Frag} {H H' : Hp} {qk pw qr qf qp : Addr} {st : WkS} (st' : WkS) (h : VkAt K H qk pw qr qf qp st) (h1 : ∃ dx, H' qk = some (.ins (VC K) dx (vfl pw st'.kd qr qf qp (sdV st'.sd)))) (h2 : H' qr = some (.lst (st'.rest.map txV))) (h3 : H' qf = some (.lst (st'.found.map txV))) (h4 : H' qp = H qp) (h5 : st'.paper = st.paper) (h6 : TupK H H') : VkAt K H' qk pw qr qf qp st' := by
  obtain ⟨_, _, _, ⟨ts, o4, o5, o6⟩, ne⟩ := h
  refine ⟨h1, h2, h3, ⟨ts, by rw [h4]; exact o4, by rw [h5]; exact o5, fun i t q a b => ?_⟩, ne⟩
  rw [h5] at b
  exact h6 _ _ (o6 i t q a b)
theorem VkAt.nek {K : PySem.W.Frag} {H : Hp} {qk pw qr qf qp : Addr} {st : WkS} (h : VkAt K H qk pw qr qf qp st) : qk ≠ qr ∧ qk ≠ qf ∧ qk ≠ qp := by
  obtain ⟨⟨dx, o1⟩, o2, o3, ⟨ts, o4, _⟩, _⟩ := h
  exact ⟨ne_of o1 o2 (by intro z; cases z), ne_of o1 o3 (by intro z; cases z), ne_of o1 o4 (by intro z; cases z)⟩
theorem VkAt.old {K : PySem.W.Frag} {H : Hp} {qk pw qr qf qp b : Addr} {st : WkS} (h : VkAt K H qk pw qr qf qp st) (hb : H b = none) : b ≠ qk ∧ b ≠ qr ∧ b ≠ qf ∧ b ≠ qp := by
  obtain ⟨⟨dx, o1⟩, o2, o3, ⟨ts, o4, _⟩, _⟩ := h
  exact ⟨(ne_of_none o1 hb).symm, (ne_of_none o2 hb).symm, (ne_of_none o3 hb).symm, (ne_of_none o4 hb).symm⟩
/-- what is said changed -/
theorem VkAt.say {K : PySem.W.Frag} {H : Hp} {qk pw qr qf qp dx : Addr} {st : WkS} {sd : Option (List Nat)} (h : VkAt K H qk pw qr qf qp st) : VkAt K (upd H qk (.ins (VC K) dx (vfl pw st.kd qr qf qp (sdV sd)))) qk pw qr qf qp { st with sd := sd } := by
  obtain ⟨n1, n2, n3⟩ := h.nek
  obtain ⟨⟨dx', o1⟩, o2, o3, _⟩ := id h
  exact h.set _ ⟨dx, upd_same⟩ (by rw [upd_ne n1.symm]; exact o2) (by rw [upd_ne n2.symm]; exact o3) (by rw [upd_ne n3.symm]) rfl (TupK.put o1 (by intro vs z; cases z))
theorem VkAt.row {K : PySem.W.Frag} {H : Hp} {qk pw qr qf qp : Addr} {st : WkS} {r : List (List Nat)} (h : VkAt K H qk pw qr qf qp st) : VkAt K (upd H qr (.lst (r.map txV))) qk pw qr qf qp { st with rest := r } := by
  obtain ⟨n1, n2, n3⟩ := h.nek
  obtain ⟨⟨dx', o1⟩, o2, o3, _, m1, m2, m3⟩ := id h
  exact h.set _ ⟨dx', by rw [upd_ne n1]; exact o1⟩ upd_same (by rw [upd_ne m1.symm]; exact o3) (by rw [upd_ne m2.symm]) rfl (TupK.put o2 (by intro vs z; cases z))
theorem VkAt.fnd {K : PySem.W.Frag} {H : Hp} {qk pw qr qf qp : Addr} {st : WkS} {r : List (List Nat)} (h : VkAt K H qk pw qr qf qp st) : VkAt K (upd H qf (.lst (r.map txV))) qk pw qr qf qp { st with found := r } := by
  obtain ⟨n1, n2, n3⟩ := h.nek
  obtain ⟨⟨dx', o1⟩, o2, o3, _, m1, m2, m3⟩ := id h
  exact h.set _ ⟨dx', by rw [upd_ne n2]; exact o1⟩ (by rw [upd_ne m1]; exact o2) upd_same (by rw [upd_ne m3.symm]) rfl (TupK.put o3 (by intro vs z; cases z))
theorem VkAt.new {K : PySem.W.Frag} {H : Hp} {qk pw qr qf qp p : Addr} {o : HO} {st : WkS} (h : VkAt K H qk pw qr qf qp st) (hp : H p = none) : VkAt K (upd H p o) qk pw qr qf qp st := by
  obtain ⟨⟨dx', o1⟩, o2, o3, ⟨ts, o4, _⟩, _⟩ := id h
  exact h.set _ ⟨dx', same_upd hp _ _ o1⟩ (same_upd hp _ _ o2) (same_upd hp _ _ o3) (by rw [same_upd hp _ _ o4, o4]) rfl (TupK.new hp)
/-- a look written down -/
theorem VkAt.pap {K : PySem.W.Frag} {H : Hp} {qk pw qr qf qp t : Addr} {st : WkS} {ts : List Addr} {q : List Nat × Bool × Bool} (h : VkAt K H qk pw qr qf qp st) (hts : H qp = some (.lst (ts.map V.ref))) (ht : H t = none) : VkAt K (upd (upd H t (.tup [txV q.1, .bl q.2.1, .bl q.2.2])) qp (.lst (ts.map V.ref ++ [.ref t]))) qk pw qr qf qp { st with paper := st.paper ++ [q] } := by
  obtain ⟨n1, n2, n3⟩ := h.nek
  obtain ⟨⟨dx', o1⟩, o2, o3, ⟨ts', o4, o5, o6⟩, m1, m2, m3⟩ := id h
  obtain ⟨_, _, _, ntp⟩ := h.old ht
  have e : ts' = ts := by
    rw [hts] at o4
    have z := HO.lst.inj (Option.some.inj o4)
    exact (List.map_inj_right (fun a b y => V.ref.inj y)).mp z.symm
  subst e
  refine ⟨⟨dx', by rw [upd_ne n3]; exact same_upd ht _ _ o1⟩, by rw [upd_ne m2]; exact same_upd ht _ _ o2, by rw [upd_ne m3]; exact same_upd ht _ _ o3, ⟨ts' ++ [t], by rw [upd_same, List.map_append]; rfl, by rw [List.length_append, List.length_append, o5]; rfl, fun i t' q' a b => ?_⟩, m1, m2, m3⟩
  by_cases hi : i < ts'.length
  · rw [List.getElem?_append_left hi] at a
    rw [List.getElem?_append_left (by rw [← o5]; exact hi)] at b
    have z := o6 i t' q' a b
    rw [upd_ne (ne_of z o4 (by intro z; cases z))]
    exact same_upd ht _ _ z
  · have e : i = ts'.length := by
      have := (List.getElem?_eq_some_iff.mp a).1
      rw [List.length_append, List.length_singleton] at this
      omega
    subst e
    rw [List.getElem?_append_right (Nat.le_refl _), Nat.sub_self] at a
    rw [o5, List.getElem?_append_right (Nat.le_refl _), Nat.sub_self] at b
    obtain rfl := Option.some.inj a
    obtain rfl := Option.some.inj b
    rw [upd_ne ntp, upd_same]
theorem VkAt.nl5 {K : PySem.W.Frag} {H : Hp} {qk pw qr qf qp dh dl : Addr} {st : WkS} {W : Nat} {kvs : List (Str × Bool)} {lw : List Str} {ms lk : Int} (h : VkAt K H qk pw qr qf qp st) (g : WiAt K H pw dh dl W kvs lw ms lk) : dh ≠ qk ∧ dh ≠ qr ∧ dh ≠ qf ∧ dh ≠ qp ∧ pw ≠ qr ∧ pw ≠ qf ∧ pw ≠ qp ∧ dl ≠ qk ∧ pw ≠ dl := by
  obtain ⟨⟨dx, o1⟩, o2, o3, ⟨ts, o4, _⟩, _⟩ := h
  obtain ⟨⟨dw, w1⟩, w2, w3⟩ := g
  exact ⟨ne_of w3 o1 (by intro z; cases z), ne_of w3 o2 (by intro z; cases z), ne_of w3 o3 (by intro z; cases z), ne_of w3 o4 (by intro z; cases z), ne_of w1 o2 (by intro z; cases z), ne_of w1 o3 (by intro z; cases z), ne_of w1 o4 (by intro z; cases z), ne_of w2 o1 (by intro z; cases z), ne_of w1 w2 (by intro z; cases z)⟩
section
variable {P : Program} {w : World} {K : PySem.W.Frag} {mg : Str → Option Value} {base : Heap}
/-- signs said -/
def spVSay (K : PySem.W.Frag) : Sp := fun vs H Q _ => ∃ (qk pw qr qf qp dh dl : Addr) (W : Nat) (kvs : List (Str × Bool)) (lw : List Str) (lk : Int) (st : WkS) (l g : List Nat), vs = [.ref qk, .str (S g)] ∧ VkAt K H qk pw qr qf qp st ∧ WiAt K H pw dh dl W kvs lw (l.length : Nat) lk ∧ st.sd = some l ∧ l.length + g.length ≤ W ∧ W ≤ 12 ∧ Bits g ∧ (∀ x ∈ lw, Num W x) ∧ lw.length ≤ 100 ∧ st.found.length < 1000000 ∧ (dl ≠ qr ∧ dl ≠ qf ∧ dl ≠ qp) ∧
  ∀ (v : V) (dl' : Addr) (H' : Hp), (dl' = dl ∨ H dl' = none) → VkAt K H' qk pw qr qf qp (overF W st (l ++ g)).1 → TldAt H' (overF W st (l ++ g)).2 v → WiAt K H' pw dh dl' W kvs (lw.filter (behind l.length g)) ((l ++ g).length : Nat) lk → Frm [qk, qf, pw] H H' → Q v H'
theorem m_Walk__say (T : Txt P w K mg base) : MetX CX0 P w K mg base 3 (VC K) "_say" (spVSay K) := by
  obtain ⟨fd, F⟩ := T.t.def_ 33 (d := d_Walk__say)
  refine ⟨_, fd, _, vcl T, He.meth_ok (T.t.fact 87 (f := .meth "Walk" "_say")), F.ok sc_Walk__say (fun vs H Q E h => ?_) (fun cdv A outer s H vs Q E hr h => ?_), F.bindsN fun _ _ _ _ _ _ us hl => match us, hl with | [_, _], _ => rfl⟩
  · obtain ⟨qk, pw, qr, qf, qp, dh, dl, W, kvs, lw, lk, st, l, g, rfl, _⟩ := h
    rfl
  · obtain ⟨qk, pw, qr, qf, qp, dh, dl, W, kvs, lw, lk, st, l, g, rfl, wk, wa, hsd, hlen, hW, hb, hnum, hll, hfl, ⟨nr, nf, np⟩, k⟩ := h
    have nkw := vk_ne wk wa
    obtain ⟨d1, d2, d3, d4, p2, p3, p4, d5, p5⟩ := wk.nl5 wa
    obtain ⟨⟨dx, o1⟩, o2, o3, _⟩ := id wk
    rw [hsd] at o1
    refine ⟨_, PSs.nox (pss_cons (ps_for PassesOwn.never rfl (pi_str (pv 1)) (pg_name (i := 2) sc_Walk__say.nd rfl (Or.inl rfl))
      (pss_one (ps_expr (pe_mx (m_Wire_say T) hr (by decide) (pe_fld (pv 0) (by rfl)) (passes_call (E := fun _ _ _ => False) L2.takes0 (fun _ _ _ _ h => h)) (pa_cons (pe_callTy call_int_str (by rfl) (n_int T) (by decide +kernel) (pa_cons (pv 2) pa_nil)) pa_nil)))))
    (pss_cons (ps_set (i := 3) sc_Walk__say.nd rfl (Or.inl rfl) (pe_op op_add_str (pe_fld (pv 0) (by rfl)) (pv 1)))
    (pss_cons (ps_if (pt_cmpR op_lt (pe_callB call_len_str (by rfl) (n_len T) PySem.boot_len (pa_cons (pv 3) pa_nil)) (pe_fld (pe_fld (pv 0) (by rfl)) (by rfl)) (nomark _))
      (pss_cons (ps_fld (pv 0) (pv 3) rfl)
      (pss_one (ps_ret pe_non)))
      pss_nil)
    (pss_cons (ps_fld (pv 0) pe_non rfl)
    (pss_cons (ps_expr (pe_bm PySem.F.plainAttrs_list PySem.F.slot_list_append PySem.F.type_list_append mt_append (pe_fld (pv 0) (by rfl)) (pa_cons (pv 3) pa_nil)))
    (pss_one (ps_ret (pe_tup (pa_cons pe_str (pa_cons (pv 3) pa_nil)))))))))), ?_⟩
    have esz : (S g).cps.size = g.length := by rw [← SX.S_len]; rfl
    refine ⟨_, rfl, S g, rfl, for_it walk_str (fun i σ H' => ∃ (v2 : Option V) (dl' : Addr), σ = [some (.ref qk), some (.str (S g)), v2, none] ∧ WiAt K H' pw dh dl' W kvs (lw.filter (behind l.length (g.take i))) ((l.length + i : Nat) : Int) lk ∧ Frm [pw] H H' ∧ (dl' = dl ∨ H dl' = none))
      ⟨none, dl, rfl, by rw [List.take_zero, behind_all]; exact wa, Frm.refl _ _, .inl rfl⟩ (fun _ _ _ _ _ => trivial) ?_ ?_⟩
    · rintro i x σ H3 H4 hi ⟨v2, dl', rfl, wa3, f3, hm3⟩ ⟨rfl, c, hc, rfl⟩
      rw [esz] at hi
      have hc' : g[i]? = some c := by
        have z : (S g).cps.toList[i]? = some c := by rw [Array.getElem?_toList]; exact hc
        have e2 : (S g).cps.toList = g := by simp [SX.S]
        rw [e2] at z
        exact z
      have two : ∃ bit : Int, (bit = 0 ∨ bit = 1) ∧ PySem.intText? (S [c]) = some bit ∧ 48 + bit.toNat = c := by
        rcases hb c (List.mem_of_getElem? hc') with rfl | rfl
        · exact ⟨0, .inl rfl, by decide +kernel, rfl⟩
        · exact ⟨1, .inr rfl, by decide +kernel, rfl⟩
      obtain ⟨bit, hbit, t1, t2⟩ := two
      have g1 := f3.k _ _ o1 rfl (by simpa using nkw)
      obtain ⟨⟨dw3, u1⟩, u2, u3⟩ := id wa3
      have htl : (g.take i).length = i := by rw [List.length_take]; omega
      have hfl := List.length_filter_le (behind l.length (g.take i)) lw
      refine ⟨_, rfl, qk, _, dx, _, _, rfl, g1, vcl T, vn_wire T, vl_wire, pw, dw3, _, rfl, u1, wx_say, _, rfl, S [c], bit, rfl, t1, by rw [SX.S_len]; show 1 ≤ 640; decide, pw, dh, dl', bit, W, kvs, _, _, lk, rfl, hbit, wa3, hW, by omega, by omega, fun x hx => hnum x (List.mem_filter.mp hx).1, by omega, fun z => absurd z (by omega), fun _ dl4 H5 h4 wa4 f4 => ?_⟩
      refine ⟨_, dl4, rfl, ?_, f3.trans f4, .inr (f3.b _ h4)⟩
      rw [Int.toNat_natCast, t2] at wa4
      rw [take_snoc hc', behind_step, htl]
      exact wa4
    · rintro σ H3 ⟨v2, dl', rfl, wa3, f3, hm3⟩
      rw [esz, List.take_length] at wa3
      have nl1 := wa.nl1
      have wk3 := wk.keep (f3.toT nl1 (K := K)) nl1 (by simpa using nkw) (by simpa using p2.symm) (by simpa using p3.symm) (by simpa using p4.symm)
      obtain ⟨⟨dx3, g1⟩, g2, g3, _⟩ := id wk3
      have g1 : H3 qk = some (.ins (VC K) dx3 (vfl pw st.kd qr qf qp (.str (S l)))) := by rw [hsd] at g1; exact g1
      obtain ⟨⟨dw3, u1⟩, u2, u3⟩ := id wa3
      have sl1 := SX.S_len l
      have sl2 := SX.S_len g
      refine ⟨_, rfl, qk, _, dx3, _, _, rfl, g1, vcl T, vn_said T, vl_said, _, rfl, S l, S g, rfl, rfl, size12 (by omega), ?_⟩
      rw [SX.S_cat]
      have sl3 := SX.S_len (l ++ g)
      have sl4 : (l ++ g).length = l.length + g.length := List.length_append
      refine ⟨_, rfl, S (l ++ g), rfl, size12 (by omega), _, rfl, qk, _, dx3, _, _, rfl, g1, vcl T, vn_wire T, vl_wire, pw, _, dw3, _, _, rfl, u1, wcl T, wn_width T, wl_width, _, _, rfl, rfl, _, rfl, ?_⟩
      rw [sl3]
      have nm3 : dl' ≠ qk ∧ dl' ≠ qf := hm3.elim (fun e => by rw [e]; exact ⟨d5, nf⟩) fun z => ⟨(wk.old z).1, (wk.old z).2.2.1⟩
      refine iteB (fun c => ?_) (fun c => ?_)
      · have c' : (l ++ g).length < W := by
          have := of_decide_eq_true c
          omega
        refine ⟨_, rfl, _, rfl, qk, _, dx3, _, rfl, g1, vcl T, vn_said T, vl_len, ?_⟩
        rw [vp_said]
        have kk := k .non dl' (upd H3 qk (.ins (VC K) dx3 (vfl pw st.kd qr qf qp (.str (S (l ++ g)))))) hm3
        unfold overF at kk
        rw [if_pos c'] at kk
        exact kk (wk3.say (sd := some (l ++ g))) rfl (by
          rw [sl4]
          exact ⟨⟨dw3, by rw [upd_ne nkw.symm]; exact u1⟩, by rw [upd_ne nm3.1]; exact u2, by rw [upd_ne d1]; exact u3⟩) ((f3.mono (by simp)).put (by simp))
      · have c' : ¬ (l ++ g).length < W := by
          have := of_decide_eq_false c
          omega
        refine ⟨_, rfl, qk, _, dx3, _, rfl, g1, vcl T, vn_said T, vl_len, ?_⟩
        rw [vp_said]
        have wk4 := wk3.say (dx := dx3) (sd := none)
        have f4 : Frm [qk, qf, pw] H (upd H3 qk (.ins (VC K) dx3 (vfl pw st.kd qr qf qp .non))) := (f3.mono (by simp)).put (by simp)
        have wa4 : WiAt K (upd H3 qk (.ins (VC K) dx3 (vfl pw st.kd qr qf qp .non))) pw dh dl' W kvs (lw.filter (behind l.length g)) ((l.length + g.length : Nat) : Int) lk := ⟨⟨dw3, by rw [upd_ne nkw.symm]; exact u1⟩, by rw [upd_ne nm3.1]; exact u2, by rw [upd_ne d1]; exact u3⟩
        revert wk4 f4 wa4
        generalize hH4 : (upd H3 qk (.ins (VC K) dx3 (vfl pw st.kd qr qf qp .non))) = H4
        have e4 : upd H3 qk (.ins (VC K) dx3 (vfl pw st.kd qr qf qp (sdV none))) = H4 := hH4
        rw [e4]
        intro wk4 f4 wa4
        obtain ⟨⟨dx4, i1⟩, i2, i3, _⟩ := id wk4
        obtain ⟨⟨dw4, j1⟩, j2, j3⟩ := id wa4
        refine ⟨_, rfl, qk, _, dx4, _, _, rfl, i1, vcl T, vn_found T, vl_found, .inl ⟨rfl, _, SqL.of i3⟩, _, rfl, qf, _, _, rfl, rfl, i3, by rw [List.length_map]; exact big6 hfl, ?_⟩
        have ef : (st.found.map txV ++ [V.str (S (l ++ g))]) = (st.found ++ [l ++ g]).map txV := by rw [List.map_append]; rfl
        refine ⟨_, rfl, by show 2 ≤ sizeLine; decide, fun t ht => ?_⟩
        have ef' : (({ st with sd := none } : WkS).found.map txV ++ [V.str (S (l ++ g))]) = (st.found ++ [l ++ g]).map txV := ef
        rw [ef'] at ht ⊢
        have wk5 := (wk4.fnd (r := st.found ++ [l ++ g])).new (o := .tup [.str "found", .str (S (l ++ g))]) ht
        have f5 := (f4.put (p := qf) (o := .lst ((st.found ++ [l ++ g]).map txV)) (by simp)).trans (Frm.of (same_upd (o := .tup [.str "found", .str (S (l ++ g))]) ht))
        have kk := k (.ref t) dl' _ hm3 (by
          unfold overF
          rw [if_neg c']
          exact wk5) (by
          unfold overF
          rw [if_neg c']
          exact ⟨t, rfl, upd_same⟩) (by
          rw [sl4]
          exact ⟨⟨dw4, same_upd ht _ _ (by rw [upd_ne p3]; exact j1)⟩, same_upd ht _ _ (by rw [upd_ne nm3.2]; exact j2), same_upd ht _ _ (by rw [upd_ne d3]; exact j3)⟩) f5
        exact kk
end
end B

set_option Elab.async false
set_option linter.all false
set_option maxRecDepth 100000
set_option maxHeartbeats 4000000
namespace B
open PySem PySem.Spec PyProof.Rows L2
open SX (S)
section
variable {P : Program} {w : World} {K : PySem.W.Frag} {mg : Str → Option Value} {base : Heap}
/-- a round begun -/
def spVBegin (K : PySem.W.Frag) : Sp := fun vs H Q E => ∃ (qk pw qr qf qp dh dl : Addr) (W : Nat) (kvs : List (Str × Bool)) (lw : List Str) (ms lk : Int) (st : WkS), vs = [.ref qk] ∧ VkAt K H qk pw qr qf qp st ∧ WiAt K H pw dh dl W kvs lw ms lk ∧ st.sd = none ∧ (st.kd = "all" ∨ st.kd = "alarm") ∧ W ≤ 12 ∧ kvs.length < 64 ∧ (kvs.map (·.1)).Nodup ∧ (∀ x ∈ kvs.map (·.1), Num W x) ∧ st.found.length < 1000000 ∧ (∀ g ∈ st.rest, g.length ≤ W ∧ Bits g) ∧
  (st.rest = [] → E (.ref (He.ga K "Over")) none H) ∧ (st.rest ≠ [] → ∀ (v : V) (ys : List Str) (dl' : Addr) (H' : Hp), H dl' = none → ys.Perm (begF kvs st.kd (st.rest.getLast?.getD [])) → VkAt K H' qk pw qr qf qp (overF W { st with rest := st.rest.dropLast } (st.rest.getLast?.getD [])).1 → TldAt H' (overF W { st with rest := st.rest.dropLast } (st.rest.getLast?.getD [])).2 v → WiAt K H' pw dh dl' W kvs ys ((st.rest.getLast?.getD []).length : Nat) lk → Frm [qk, qr, qf, pw] H H' → Q v H')
theorem m_Walk__begin_round (T : Txt P w K mg base) : MetX (L2.CX P w) P w K mg base 4 (VC K) "_begin_round" (spVBegin K) := by
  obtain ⟨fd, F⟩ := T.t.def_ 32 (d := d_Walk__begin_round)
  refine ⟨_, fd, _, vcl T, He.meth_ok (T.t.fact 86 (f := .meth "Walk" "_begin_round")), F.ok sc_Walk__begin_round (fun vs H Q E h => ?_) (fun cdv A outer s H vs Q E hr h => ?_), F.bindsN fun _ _ _ _ _ _ us hl => match us, hl with | [_], _ => rfl⟩
  · obtain ⟨qk, pw, qr, qf, qp, dh, dl, W, kvs, lw, ms, lk, st, rfl, _⟩ := h
    rfl
  · obtain ⟨qk, pw, qr, qf, qp, dh, dl, W, kvs, lw, ms, lk, ⟨kd, rest, sd, found, paper⟩, rfl, wk, wa, hsd, hkd, hW, hkl, hnd, hnum, hfl, hrest, k1, k2⟩ := h
    dsimp only at hsd hkd hfl hrest k1 k2
    subst hsd
    have nkw := vk_ne wk wa
    obtain ⟨d1, d2, d3, d4, p2, p3, p4, d5, p5⟩ := wk.nl5 wa
    obtain ⟨⟨dx, o1⟩, o2, o3, _⟩ := id wk
    obtain ⟨⟨dw, w1⟩, w2, w3⟩ := id wa
    obtain ⟨nkr, nkf, nkp⟩ := wk.nek
    refine ⟨_, (pss_cons (ps_if (pt_not (pt_truth (pe_fld (pv 0) (by rfl)) (by intro _; rfl)))
      (pss_one (ps_raise rfl (takes_of rfl rfl rfl rfl) (mk_Over T)))
      pss_nil)
    (pss_cons (ps_expr (pe_mx (m_Wire_begin T) hr (by decide) (pe_fld (pv 0) (by rfl)) pass0 (pa_cons (pe_fld (pv 0) (by rfl)) pa_nil)))
    (pss_cons (ps_fld (pv 0) pe_str rfl)
    (pss_one (ps_ret (pe_mx (m_Walk__say T) hr (by decide) (pv 0) pass0 (pa_cons (pe_bm0 PySem.F.plainAttrs_list PySem.F.slot_list_pop PySem.F.type_list_pop mt_pop (pe_fld (pv 0) (by rfl))) pa_nil))))))), ?_⟩
    refine ⟨_, rfl, qk, _, dx, _, _, rfl, o1, vcl T, vn_row T, vl_row, _, .inl ⟨_, SqL.of o2, rfl⟩, ?_⟩
    refine iteB (fun c => ?_) (fun c => ?_)
    · refine k1 ?_
      cases rest with
      | nil => rfl
      | cons g r => cases c
    · have hne : rest ≠ [] := fun e => by
        subst e
        cases c
      have k := k2 hne
      have e0 : rest = rest.dropLast ++ [rest.getLast hne] := (List.dropLast_concat_getLast hne).symm
      have eL : rest.getLast?.getD [] = rest.getLast hne := by rw [List.getLast?_eq_some_getLast hne]; rfl
      rw [eL] at k
      obtain ⟨hgl, hgb⟩ := hrest _ (List.getLast_mem hne)
      revert k hgl hgb e0
      generalize rest.getLast hne = g
      generalize rest.dropLast = r0
      intro k e0 hgl hgb
      subst e0
      refine ⟨_, rfl, qk, _, dx, _, _, rfl, o1, vcl T, vn_wire T, vl_wire, pw, dw, _, rfl, w1, wx_begin, _, rfl, qk, _, dx, _, _, rfl, o1, vcl T, vn_kind T, vl_kind, pw, dh, dl, kd, W, kvs, lw, ms, lk, rfl, hkd, wa, hkl, hnd, fun ys dl2 H2 pm hdl wa2 f2 => ?_⟩
      have nl1 := wa.nl1
      have wk2 := wk.keep (f2.toT nl1 (K := K)) nl1 (by simpa using nkw) (by simpa using p2.symm) (by simpa using p3.symm) (by simpa using p4.symm)
      obtain ⟨⟨dx2, g1⟩, g2, g3, _⟩ := id wk2
      refine ⟨_, rfl, qk, _, dx2, _, rfl, g1, vcl T, vn_said T, vl_len, ?_⟩
      rw [vp_said]
      have wk3 := wk2.say (dx := dx2) (sd := some [])
      have es : V.str "" = sdV (some []) := congrArg V.str empty_S
      rw [es]
      obtain ⟨⟨dw2, u1⟩, u2, u3⟩ := id wa2
      obtain ⟨m1, m2, m3, m4⟩ := wk.old hdl
      have wa3 : WiAt K (upd H2 qk (.ins (VC K) dx2 (vfl pw kd qr qf qp (sdV (some []))))) pw dh dl2 W kvs ys 0 lk := ⟨⟨dw2, by rw [upd_ne nkw.symm]; exact u1⟩, by rw [upd_ne m1]; exact u2, by rw [upd_ne d1]; exact u3⟩
      have f3 : Frm [qk, qr, qf, pw] H (upd H2 qk (.ins (VC K) dx2 (vfl pw kd qr qf qp (sdV (some []))))) := (f2.mono (by simp)).put (by simp)
      have wk3 : VkAt K (upd H2 qk (.ins (VC K) dx2 (vfl pw kd qr qf qp (sdV (some []))))) qk pw qr qf qp ⟨kd, r0 ++ [g], some [], found, paper⟩ := wk3
      revert wk3 wa3 f3
      generalize (upd H2 qk (.ins (VC K) dx2 (vfl pw kd qr qf qp (sdV (some []))))) = H3
      intro wa3 f3 wk3
      obtain ⟨⟨dx3, i1⟩, i2, i3, _⟩ := id wk3
      have hlast : ((r0 ++ [g]).map txV)[((r0 ++ [g]).map txV).length - 1]? = some (txV g) := by simp
      have hdrop : ((r0 ++ [g]).map txV).dropLast = r0.map txV := by simp
      refine ⟨_, rfl, qk, dx3, _, rfl, i1, vx_say, _, rfl, qk, _, dx3, _, _, rfl, i1, vcl T, vn_row T, vl_row, .inl ⟨rfl, _, SqL.of i2⟩, qr, _, txV g, rfl, rfl, i2, hlast, ?_⟩
      rw [hdrop]
      have wk4 := wk3.row (r := r0)
      obtain ⟨⟨dw3, j1⟩, j2, j3⟩ := id wa3
      have wa4 : WiAt K (upd H3 qr (.lst (r0.map txV))) pw dh dl2 W kvs ys 0 lk := ⟨⟨dw3, by rw [upd_ne p2]; exact j1⟩, by rw [upd_ne m2]; exact j2, by rw [upd_ne d2]; exact j3⟩
      have f4 : Frm [qk, qr, qf, pw] H (upd H3 qr (.lst (r0.map txV))) := f3.put (by simp)
      have hlis := lisB_sub kvs (decide (kd = "all"))
      have hys : ys.length ≤ 100 := by
        rw [pm.length_eq]
        omega
      refine ⟨qk, pw, qr, qf, qp, dh, dl2, W, kvs, ys, lk, _, [], g, rfl, wk4, wa4, rfl, by show 0 + g.length ≤ W; omega, hW, hgb, fun x hx => hnum x (hlis.2 x (pm.mem_iff.mp hx)), hys, hfl, ⟨m2, m3, m4⟩, fun v dl' H5 hd5 wk5 tl5 wa5 f5 => ?_⟩
      have eo : overF W ⟨kd, r0, some [], found, paper⟩ g = overF W ⟨kd, r0, none, found, paper⟩ g := by
        unfold overF
        split <;> rfl
      rw [List.nil_append] at wk5 tl5 wa5
      have wk5 : VkAt K H5 qk pw qr qf qp (overF W ⟨kd, r0, some [], found, paper⟩ g).1 := wk5
      have tl5 : TldAt H5 (overF W ⟨kd, r0, some [], found, paper⟩ g).2 v := tl5
      rw [eo] at wk5 tl5
      refine k v (ys.filter (behind 0 g)) dl' H5 (hd5.elim (fun e => by rw [e]; exact hdl) (fun z => f4.b _ z)) ?_ wk5 tl5 wa5 (f4.trans (f5.mono (by simp)))
      unfold begF
      have e1 : ys.filter (behind 0 g) = ys.filter (starts g) := List.filter_congr fun x _ => behind_zero
      rw [e1]
      exact pm.filter _
/-- a step -/
def spVStep (K : PySem.W.Frag) : Sp := fun vs H Q E => ∃ (qk pw qr qf qp dh dl : Addr) (W : Nat) (kvs : List (Str × Bool)) (lw : List Str) (ms lk : Int) (st : WkS), vs = [.ref qk] ∧ VkAt K H qk pw qr qf qp st ∧ WiAt K H pw dh dl W kvs lw ms lk ∧ (dl ≠ qr ∧ dl ≠ qf ∧ dl ≠ qp) ∧ (st.kd = "all" ∨ st.kd = "alarm") ∧ W ≤ 12 ∧ kvs.length < 64 ∧ (kvs.map (·.1)).Nodup ∧ (∀ x ∈ kvs.map (·.1), Num W x) ∧ lw.length ≤ 100 ∧ st.rest.length < 999999 ∧ st.found.length < 999999 ∧ st.paper.length < 999999 ∧ (∀ g ∈ st.rest, g.length ≤ W ∧ Bits g) ∧ (∀ l, st.sd = some l → ms = (l.length : Nat) ∧ l.length < W ∧ Bits l ∧ ∀ x ∈ lw, Num W x) ∧
  (st.sd = none → st.rest = [] → E (.ref (He.ga K "Over")) none H) ∧ ((st.sd = none → st.rest ≠ []) → ∀ (v : V) (lw' : List Str) (dl' : Addr) (H' : Hp), (dl' = dl ∨ H dl' = none) → lw'.Perm (stepF W kvs lw lk st).2.1 → VkAt K H' qk pw qr qf qp (stepF W kvs lw lk st).1.1 → TldAt H' (stepF W kvs lw lk st).1.2 v → WiAt K H' pw dh dl' W kvs lw' (msOf W (stepF W kvs lw lk st).2.2.1) (stepF W kvs lw lk st).2.2.2 → Frm [qk, qr, qf, qp, pw] H H' → Q v H')
theorem m_Walk_step (T : Txt P w K mg base) : MetX (L2.CX P w) P w K mg base 5 (VC K) "step" (spVStep K) := by
  obtain ⟨fd, F⟩ := T.t.def_ 27 (d := d_Walk_step)
  refine ⟨_, fd, _, vcl T, He.meth_ok (T.t.fact 81 (f := .meth "Walk" "step")), F.ok sc_Walk_step (fun vs H Q E h => ?_) (fun cdv A outer s H vs Q E hr h => ?_), F.bindsN fun _ _ _ _ _ _ us hl => match us, hl with | [_], _ => rfl⟩
  · obtain ⟨qk, pw, qr, qf, qp, dh, dl, W, kvs, lw, ms, lk, st, rfl, _⟩ := h
    rfl
  · obtain ⟨qk, pw, qr, qf, qp, dh, dl, W, kvs, lw, ms, lk, ⟨kd, rest, sd, found, paper⟩, rfl, wk, wa, ⟨nr, nf, np⟩, hkd, hW, hkl, hnd, hnum, hll, hrl, hfl, hpl, hrest, hsome, k1, k2⟩ := h
    dsimp only at hkd hrl hfl hpl hrest hsome k1
    have nkw := vk_ne wk wa
    obtain ⟨d1, d2, d3, d4, p2, p3, p4, d5, p5⟩ := wk.nl5 wa
    obtain ⟨⟨dx, o1⟩, o2, o3, ⟨ts, o4, o5, o6⟩, m1, m2, m3⟩ := id wk
    obtain ⟨⟨dw, w1⟩, w2, w3⟩ := id wa
    obtain ⟨nkr, nkf, nkp⟩ := wk.nek
    dsimp only at o1 o2 o3 o4 o5 o6
    refine ⟨_, (pss_cons (ps_if (pt_cmpR op_isN (pe_fld (pv 0) (by rfl)) pe_non (nomark _))
      (pss_one (ps_ret (pe_mx0 (m_Walk__begin_round T) hr (by decide) (pv 0) (passes_call (takes_of rfl rfl rfl rfl) (fun _ _ _ _ h => h)))))
      pss_nil)
    (pss_cons (ps_asg (pe_mx0 (m_Wire_look T) hr (by decide) (pe_fld (pv 0) (by rfl)) (passes_call (takes_of rfl rfl rfl rfl) (fun _ _ _ _ h => h))) (pg_tup rfl (pgs_cons (pg_name (i := 1) sc_Walk_step.nd rfl (Or.inl rfl)) (pgs_cons (pg_name (i := 2) sc_Walk_step.nd rfl (Or.inl rfl)) pgs_nil))))
    (pss_cons (ps_expr (pe_bm PySem.F.plainAttrs_list PySem.F.slot_list_append PySem.F.type_list_append mt_append (pe_fld (pv 0) (by rfl)) (pa_cons (pe_tup (pa_cons (pe_fld (pv 0) (by rfl)) (pa_cons (pv 1) (pa_cons (pv 2) pa_nil)))) pa_nil)))
    (pss_cons (ps_if (PW.pt (pw_and (pt_not (pt_val (pv 1))) (pw_and1 (pt_not (pt_val (pv 2))))))
      (pss_cons (ps_fld (pv 0) pe_non rfl)
      (pss_one (ps_ret (pe_tup (pa_cons pe_str pa_nil)))))
      pss_nil)
    (pss_cons (ps_if (PW.pt (pw_and (pt_val (pv 1)) (pw_and1 (pt_val (pv 2)))))
      (pss_one (ps_expr (pe_bm PySem.F.plainAttrs_list PySem.F.slot_list_append PySem.F.type_list_append mt_append (pe_fld (pv 0) (by rfl)) (pa_cons (pe_op op_add_str (pe_fld (pv 0) (by rfl)) pe_str) pa_nil))))
      pss_nil)
    (pss_one (ps_ret (pe_mx (m_Walk__say T) hr (by decide) (pv 0) pass0 (pa_cons (pe_ifExp (pt_val (pv 1)) pe_str pe_str) pa_nil))))))))), ?_⟩
    cases sd with
    | none =>
      refine ⟨_, rfl, qk, _, dx, _, _, rfl, o1, vcl T, vn_said T, vl_said, rfl, _, rfl, ?_⟩
      refine ⟨_, rfl, qk, dx, _, rfl, o1, vx_begin, qk, pw, qr, qf, qp, dh, dl, W, kvs, lw, ms, lk, _, rfl, wk, wa, rfl, hkd, hW, hkl, hnd, hnum, Nat.lt_succ_of_lt hfl, hrest, k1 rfl, fun hne v ys dl' H' hd pm wk' tl' wa' f' => ?_⟩
      have k := k2 (fun _ => hne) v ys dl' H' (.inr hd)
      have e0 : stepF W kvs lw lk ⟨kd, rest, none, found, paper⟩ = (overF W ⟨kd, rest.dropLast, none, found, paper⟩ (rest.getLast?.getD []), begF kvs kd (rest.getLast?.getD []), some (rest.getLast?.getD []), lk) := rfl
      rw [e0] at k
      exact k pm wk' tl' wa' (f'.mono (by simp))
    | some l =>
      obtain ⟨rfl, hlt, hlb, hnl⟩ := hsome l rfl
      have k := k2 (fun z => by cases z)
      clear k1 k2
      have o1 : H qk = some (.ins (VC K) dx (vfl pw kd qr qf qp (.str (S l)))) := o1
      refine ⟨_, rfl, qk, _, dx, _, _, rfl, o1, vcl T, vn_said T, vl_said, rfl, _, rfl, ?_⟩
      refine ⟨_, rfl, qk, _, dx, _, _, rfl, o1, vcl T, vn_wire T, vl_wire, pw, dw, _, rfl, w1, wx_look, pw, dh, dl, W, kvs, lw, _, lk, rfl, wa, hW, by omega, by omega, hnl, hll, fun z => absurd z (by omega), fun _ p H1 hp wa1 f1 => ?_⟩
      rw [Int.toNat_natCast] at hp
      refine ⟨p, _, rfl, SqT.of hp, rfl, _, _, rfl, _, _, rfl, rfl, ?_⟩
      have nl1 := wa.nl1
      have wk1 := wk.keep (f1.toT nl1 (K := K)) nl1 (by simpa using nkw) (by simpa using p2.symm) (by simpa using p3.symm) (by simpa using p4.symm)
      obtain ⟨⟨dx1, c1⟩, c2, c3, ⟨ts1, c4, c5, c6⟩, _⟩ := id wk1
      have c1 : H1 qk = some (.ins (VC K) dx1 (vfl pw kd qr qf qp (.str (S l)))) := c1
      have c5 : ts1.length = paper.length := c5
      refine ⟨_, rfl, qk, _, dx1, _, _, rfl, c1, vcl T, vn_paper T, vl_paper, .inl ⟨rfl, _, SqL.of c4⟩, _, rfl, qk, _, dx1, _, _, rfl, c1, vcl T, vn_said T, vl_said, _, rfl, _, rfl, by show 3 ≤ sizeLine; decide, fun t ht => ⟨qp, _, _, rfl, rfl, same_upd ht _ _ c4, by rw [List.length_map, c5]; exact big6 (Nat.lt_succ_of_lt hpl), ?_⟩⟩
      obtain ⟨t1, t2, t3, t4⟩ := wk1.old ht
      have wk2 := wk1.pap (q := (l, lw.any (sg l.length 48), lw.any (sg l.length 49))) c4 ht
      obtain ⟨⟨dw1, v1⟩, v2, v3⟩ := id wa1
      have wa2 : WiAt K (upd (upd H1 t (.tup [txV l, .bl (lw.any (sg l.length 48)), .bl (lw.any (sg l.length 49))])) qp (.lst (ts1.map V.ref ++ [.ref t]))) pw dh dl W kvs lw (l.length : Nat) (lk + 1) := ⟨⟨dw1, by rw [upd_ne p4]; exact same_upd ht _ _ v1⟩, by rw [upd_ne np]; exact same_upd ht _ _ v2, by rw [upd_ne d4]; exact same_upd ht _ _ v3⟩
      have F2 : Frm [qk, qr, qf, qp, pw] H (upd (upd H1 t (.tup [txV l, .bl (lw.any (sg l.length 48)), .bl (lw.any (sg l.length 49))])) qp (.lst (ts1.map V.ref ++ [.ref t]))) := ((f1.mono (by simp)).trans (Frm.of (same_upd ht))).put (by simp)
      have wk2 : VkAt K (upd (upd H1 t (.tup [txV l, .bl (lw.any (sg l.length 48)), .bl (lw.any (sg l.length 49))])) qp (.lst (ts1.map V.ref ++ [.ref t]))) qk pw qr qf qp ⟨kd, rest, some l, found, paper ++ [(l, lw.any (sg l.length 48), lw.any (sg l.length 49))]⟩ := wk2
      revert wk2 wa2 F2
      generalize hH2 : (upd (upd H1 t (.tup [txV l, .bl (lw.any (sg l.length 48)), .bl (lw.any (sg l.length 49))])) qp (.lst (ts1.map V.ref ++ [.ref t]))) = H2
      have hH2' : (upd (upd H1 t (.tup [.str (S l), .bl (lw.any (sg l.length 48)), .bl (lw.any (sg l.length 49))])) qp (.lst (ts1.map V.ref ++ [.ref t]))) = H2 := hH2
      rw [hH2']
      intro wa2 F2 wk2
      unfold stepF at k
      dsimp only at k
      -- the signs said
      have fin : ∀ (c : Nat) (r2 : List (List Nat)) (H4 : Hp), (c = 48 ∨ c = 49) → VkAt K H4 qk pw qr qf qp ⟨kd, r2, some l, found, paper ++ [(l, lw.any (sg l.length 48), lw.any (sg l.length 49))]⟩ → WiAt K H4 pw dh dl W kvs lw (l.length : Nat) (lk + 1) → Frm [qk, qr, qf, qp, pw] H H4 →
          (∀ (v : V) (lw' : List Str) (dl' : Addr) (H' : Hp), (dl' = dl ∨ H dl' = none) → lw'.Perm (lw.filter (sg l.length c)) → VkAt K H' qk pw qr qf qp (overF W ⟨kd, r2, some l, found, paper ++ [(l, lw.any (sg l.length 48), lw.any (sg l.length 49))]⟩ (l ++ [c])).1 → TldAt H' (overF W ⟨kd, r2, some l, found, paper ++ [(l, lw.any (sg l.length 48), lw.any (sg l.length 49))]⟩ (l ++ [c])).2 v → WiAt K H' pw dh dl' W kvs lw' ((l ++ [c]).length : Nat) (lk + 1) → Frm [qk, qr, qf, qp, pw] H H' → Q v H') →
          spVSay K ([V.ref qk, .str (S [c])] ++ []) H4 Q E0 := fun c r2 H4 hc a1 a2 a3 kk =>
        ⟨qk, pw, qr, qf, qp, dh, dl, W, kvs, lw, lk + 1, _, l, [c], rfl, a1, a2, rfl, by show l.length + 1 ≤ W; omega, hW, fun d hd => by rw [List.mem_singleton.mp hd]; exact hc, hnl, hll, Nat.lt_succ_of_lt hfl, ⟨nr, nf, np⟩, fun v dl' H' hd a4 a5 a6 a7 =>
          kk v _ dl' H' (hd.imp_right (a3.b _)) (by rw [List.filter_congr fun x _ => behind_one (n := l.length) (c := c) (x := x)]) a4 a5 a6 (a3.trans (a7.mono (by simp)))⟩
      obtain ⟨⟨dx2, e1⟩, e2, e3, _⟩ := id wk2
      obtain ⟨⟨dw2, y1⟩, y2, y3⟩ := id wa2
      revert k fin wk2
      generalize lw.any (sg l.length 48) = z
      generalize lw.any (sg l.length 49) = o
      intro k wk2 fin
      cases z <;> cases o
      · refine ⟨_, rfl, false, rfl, _, rfl, false, rfl, ?_⟩
        refine ⟨_, rfl, qk, _, dx2, _, rfl, e1, vcl T, vn_said T, vl_len, ?_⟩
        rw [vp_said]
        refine ⟨by show 1 ≤ sizeLine; decide, fun u hu => ?_⟩
        have wk3 := (wk2.say (dx := dx2) (sd := none)).new (o := .tup [.str "lost"]) hu
        refine k (.ref u) lw dl _ (.inl rfl) (List.Perm.refl _) wk3 ⟨u, rfl, upd_same⟩ ⟨⟨dw2, same_upd hu _ _ (by rw [upd_ne nkw.symm]; exact y1)⟩, same_upd hu _ _ (by rw [upd_ne d5]; exact y2), same_upd hu _ _ (by rw [upd_ne d1]; exact y3)⟩ ((F2.put (by simp)).trans (Frm.of (same_upd hu)))
      · refine ⟨_, rfl, false, rfl, _, rfl, true, rfl, ?_⟩
        refine ⟨_, rfl, false, rfl, ?_⟩
        refine ⟨_, rfl, qk, dx2, _, rfl, e1, vx_say, _, rfl, false, rfl, ?_⟩
        have s1 : V.str "1" = V.str (S [49]) := congrArg V.str one_S
        rw [s1]
        exact fin 49 rest H2 (.inr rfl) wk2 wa2 F2 k
      · refine ⟨_, rfl, true, rfl, ?_⟩
        refine ⟨_, rfl, true, rfl, _, rfl, false, rfl, ?_⟩
        refine ⟨_, rfl, qk, dx2, _, rfl, e1, vx_say, _, rfl, true, rfl, ?_⟩
        have s1 : V.str "0" = V.str (S [48]) := congrArg V.str zero_S
        rw [s1]
        exact fin 48 rest H2 (.inl rfl) wk2 wa2 F2 k
      · refine ⟨_, rfl, true, rfl, ?_⟩
        refine ⟨_, rfl, true, rfl, _, rfl, true, rfl, ?_⟩
        have q1 : ("1" : Str).length = 1 := by decide +kernel
        have q2 := SX.S_len l
        have q0 : S l ++ ("1" : Str) = S (l ++ [49]) := by
          rw [← SX.S_cat]
          rfl
        refine ⟨_, rfl, qk, _, dx2, _, _, rfl, e1, vcl T, vn_row T, vl_row, .inl ⟨rfl, _, SqL.of e2⟩, _, rfl, qk, _, dx2, _, _, rfl, e1, vcl T, vn_said T, vl_said, S l, "1", rfl, rfl, size12 (by omega), qr, _, _, rfl, rfl, e2, by rw [List.length_map]; exact big6 (Nat.lt_succ_of_lt hrl), ?_⟩
        rw [q0]
        have er : (({ kd := kd, rest := rest, sd := some l, found := found, paper := paper ++ [(l, true, true)] } : WkS).rest.map txV ++ [V.str (S (l ++ [49]))]) = (rest ++ [l ++ [49]]).map txV := by rw [List.map_append]; rfl
        rw [er]
        have wk3 := wk2.row (r := rest ++ [l ++ [49]])
        obtain ⟨⟨dx3, i1⟩, _⟩ := id wk3
        refine ⟨_, rfl, qk, dx3, _, rfl, i1, vx_say, _, rfl, true, rfl, ?_⟩
        have s1 : V.str "0" = V.str (S [48]) := congrArg V.str zero_S
        rw [s1]
        exact fin 48 _ _ (.inl rfl) wk3 ⟨⟨dw2, by rw [upd_ne p2]; exact y1⟩, by rw [upd_ne nr]; exact y2, by rw [upd_ne d2]; exact y3⟩ (F2.put (by simp)) k
end
end B

set_option Elab.async false
set_option linter.all false
set_option maxRecDepth 100000
set_option maxHeartbeats 4000000
namespace B
open PySem PySem.Spec PyProof.Rows L2
open SX (S)
theorem nil_of {σ : L2.St} {H : Hp} {Q : List V → Hp → Prop} (h : Q [] H) : tNil σ H Q := h
/-! ### a step of lists with the same things -/
theorem any_perm {a b : List Str} {f : Str → Bool} (h : a.Perm b) : a.any f = b.any f := by
  rw [Bool.eq_iff_iff, List.any_eq_true, List.any_eq_true]
  constructor
  · rintro ⟨x, hx, e⟩
    exact ⟨x, h.mem_iff.mp hx, e⟩
  · rintro ⟨x, hx, e⟩
    exact ⟨x, h.mem_iff.mpr hx, e⟩
theorem step_perm {W : Nat} {kvs : List (Str × Bool)} {lw lm : List Str} {lk : Int} {st : WkS} (h : lw.Perm lm) : (stepF W kvs lw lk st).1 = (stepF W kvs lm lk st).1 ∧ (stepF W kvs lw lk st).2.1.Perm (stepF W kvs lm lk st).2.1 ∧ (stepF W kvs lw lk st).2.2 = (stepF W kvs lm lk st).2.2 := by
  obtain ⟨kd, rest, sd, found, paper⟩ := st
  cases sd with
  | none => exact ⟨rfl, List.Perm.refl _, rfl⟩
  | some l =>
    unfold stepF
    dsimp only
    rw [any_perm h (f := sg l.length 48), any_perm h (f := sg l.length 49)]
    split
    · exact ⟨rfl, h, rfl⟩
    · exact ⟨rfl, h.filter _, rfl⟩
/-- steps till there is nowhere to go -/
def allF (W : Nat) (kvs : List (Str × Bool)) : Nat → WkS × List Str × Option (List Nat) × Int → WkS × List Str × Option (List Nat) × Int
  | 0, q => q
  | n + 1, q => if q.1.sd = none ∧ q.1.rest = [] then q else allF W kvs n ((stepF W kvs q.2.1 q.2.2.2 q.1).1.1, (stepF W kvs q.2.1 q.2.2.2 q.1).2)
theorem all_stop {W n : Nat} {kvs : List (Str × Bool)} {q : WkS × List Str × Option (List Nat) × Int} (h : q.1.sd = none ∧ q.1.rest = []) : allF W kvs n q = q := by
  cases n with
  | zero => rfl
  | succ n =>
    show (if _ then _ else _) = _
    rw [if_pos h]
theorem all_go {W n : Nat} {kvs : List (Str × Bool)} {q : WkS × List Str × Option (List Nat) × Int} (h : ¬ (q.1.sd = none ∧ q.1.rest = [])) : allF W kvs (n + 1) q = allF W kvs n ((stepF W kvs q.2.1 q.2.2.2 q.1).1.1, (stepF W kvs q.2.1 q.2.2.2 q.1).2) := by
  show (if _ then _ else _) = _
  rw [if_neg h]
theorem over_kd {W : Nat} {st : WkS} {l : List Nat} : (overF W st l).1.kd = st.kd := by
  unfold overF
  split <;> rfl
theorem step_kd {W : Nat} {kvs : List (Str × Bool)} {lm : List Str} {lk : Int} {st : WkS} : (stepF W kvs lm lk st).1.1.kd = st.kd := by
  obtain ⟨kd, rest, sd, found, paper⟩ := st
  cases sd with
  | none => exact over_kd
  | some l =>
    unfold stepF
    dsimp only
    split
    · rfl
    · refine over_kd.trans ?_
      split <;> rfl
section
variable {P : Program} {w : World} {K : PySem.W.Frag} {mg : Str → Option Value} {base : Heap}
/-- where a step may be done: a walk and its wire, the wire's list told up to its order -/
structure VkOk (K : PySem.W.Frag) (H : Hp) (qk pw qr qf qp dh dl : Addr) (W : Nat) (kvs : List (Str × Bool)) (lm : List Str) (sdm : Option (List Nat)) (lk : Int) (st : WkS) (n : Nat) : Prop where
  wk : VkAt K H qk pw qr qf qp st
  wa : ∃ lw, WiAt K H pw dh dl W kvs lw (msOf W sdm) lk ∧ lw.Perm lm
  nl : dl ≠ qr ∧ dl ≠ qf ∧ dl ≠ qp
  kd : st.kd = "all" ∨ st.kd = "alarm"
  w : W ≤ 12
  kl : kvs.length < 64
  nd : (kvs.map (·.1)).Nodup
  num : ∀ x ∈ kvs.map (·.1), Num W x
  ok : WkOk W lm sdm st n
theorem VkOk.stay {H H' : Hp} {S : List Addr} {qk pw qr qf qp dh dl : Addr} {W : Nat} {kvs : List (Str × Bool)} {lm : List Str} {sdm : Option (List Nat)} {lk : Int} {st : WkS} {n : Nat} (h : VkOk K H qk pw qr qf qp dh dl W kvs lm sdm lk st n) (f : FrT K S H H') (z : NL S H) (h1 : qk ∉ S) (h2 : qr ∉ S) (h3 : qf ∉ S) (h4 : qp ∉ S) (h5 : pw ∉ S) (h6 : dh ∉ S) : VkOk K H' qk pw qr qf qp dh dl W kvs lm sdm lk st n := by
  obtain ⟨a, ⟨lw, b1, b2⟩, c, d, e, g, i, j, o⟩ := h
  exact ⟨a.keep f z h1 h2 h3 h4, ⟨lw, b1.stay f z h5 h6, b2⟩, c, d, e, g, i, j, o⟩
/-- a step, the list up to its order -/
theorem VkOk.step {H : Hp} {qk pw qr qf qp dh dl : Addr} {W : Nat} {kvs : List (Str × Bool)} {lm : List Str} {sdm : Option (List Nat)} {lk : Int} {st : WkS} {n : Nat} (h : VkOk K H qk pw qr qf qp dh dl W kvs lm sdm lk st n) (hn : n < 999999) {Q : VK} {E : XK} (hO : st.sd = none → st.rest = [] → E (.ref (He.ga K "Over")) none H)
    (k : (st.sd = none → st.rest ≠ []) → ∀ (v : V) (dl' : Addr) (H' : Hp), (dl' = dl ∨ H dl' = none) → VkOk K H' qk pw qr qf qp dh dl' W kvs (stepF W kvs lm lk st).2.1 (stepF W kvs lm lk st).2.2.1 (stepF W kvs lm lk st).2.2.2 (stepF W kvs lm lk st).1.1 (n + 1) → TldAt H' (stepF W kvs lm lk st).1.2 v → Frm [qk, qr, qf, qp, pw] H H' → Q v H') : spVStep K [.ref qk] H Q E := by
  obtain ⟨wk, ⟨lw, wa, pm⟩, nl, kd, hw, hkl, hnd, hnum, ok⟩ := h
  obtain ⟨z1, z2, z3⟩ := ok.len
  have hb : ∀ l, st.sd = some l → msOf W sdm = (l.length : Nat) ∧ l.length < W ∧ Bits l ∧ ∀ x ∈ lw, Num W x := fun l e => by
    obtain ⟨a, b, c, d⟩ := ok.said l e
    exact ⟨by rw [a]; rfl, b, c, fun x hx => (d x (pm.mem_iff.mp hx)).num⟩
  refine ⟨qk, pw, qr, qf, qp, dh, dl, W, kvs, lw, _, lk, st, rfl, wk, wa, nl, kd, hw, hkl, hnd, hnum, by rw [pm.length_eq]; exact ok.lm, by omega, by omega, by omega, ok.rest, hb, hO, fun hne v lw' dl' H' hd pm' wk' tl' wa' f' => ?_⟩
  obtain ⟨s1, s2, s3⟩ := step_perm (W := W) (kvs := kvs) (lk := lk) (st := st) pm
  rw [s1] at wk' tl'
  rw [s3] at wa'
  refine k hne v dl' H' hd ⟨wk', ⟨lw', wa', pm'.trans s2⟩, ?_, by rw [step_kd]; exact kd, hw, hkl, hnd, hnum, step_ok ok hne (by omega) hnum⟩ tl' f'
  exact hd.elim (fun e => by rw [e]; exact nl) fun z => ⟨(wk.old z).2.1, (wk.old z).2.2.1, (wk.old z).2.2.2⟩
/-- a round -/
def spVRound (K : PySem.W.Frag) : Sp := fun vs H Q _ => ∃ (qk pw qr qf qp dh dl : Addr) (W : Nat) (kvs : List (Str × Bool)) (lm : List Str) (sdm : Option (List Nat)) (lk : Int) (st : WkS) (n : Nat), vs = [.ref qk] ∧ VkOk K H qk pw qr qf qp dh dl W kvs lm sdm lk st n ∧ n ≤ 900000 ∧ (st.sd = none → st.rest ≠ []) ∧
  ∀ (v : V) (dl' : Addr) (H' : Hp), (dl' = dl ∨ H dl' = none) → VkOk K H' qk pw qr qf qp dh dl' W kvs (roundF W kvs W lm lk st).2.1 (roundF W kvs W lm lk st).2.2.1 (roundF W kvs W lm lk st).2.2.2 (roundF W kvs W lm lk st).1.1 (n + 1 + W) → TldAt H' (roundF W kvs W lm lk st).1.2 v → Frm [qk, qr, qf, qp, pw] H H' → Q v H'
theorem WkOk.le {W n m : Nat} {lm : List Str} {sdm : Option (List Nat)} {st : WkS} (h : WkOk W lm sdm st n) (hm : n ≤ m) : WkOk W lm sdm st m := by
  obtain ⟨a, b, ⟨c, d, e⟩, f⟩ := h
  exact ⟨a, b, ⟨by omega, by omega, by omega⟩, f⟩
theorem VkOk.le {H : Hp} {qk pw qr qf qp dh dl : Addr} {W : Nat} {kvs : List (Str × Bool)} {lm : List Str} {sdm : Option (List Nat)} {lk : Int} {st : WkS} {n m : Nat} (h : VkOk K H qk pw qr qf qp dh dl W kvs lm sdm lk st n) (hm : n ≤ m) : VkOk K H qk pw qr qf qp dh dl W kvs lm sdm lk st m := by
  obtain ⟨a, b, c, d, e, g, i, j, o⟩ := h
  exact ⟨a, b, c, d, e, g, i, j, o.le hm⟩
theorem tld_ref {H : Hp} {r : Tld} {v : V} (h : TldAt H r v) (n : r ≠ .no) : ∃ t, v = .ref t := by
  cases r with
  | no => exact absurd rfl n
  | lost =>
    obtain ⟨t, e, _⟩ := h
    exact ⟨t, e⟩
  | found l =>
    obtain ⟨t, e, _⟩ := h
    exact ⟨t, e⟩
/-- all -/
def spVAll (K : PySem.W.Frag) : Sp := fun vs H Q _ => ∃ (qk pw qr qf qp dh dl : Addr) (W : Nat) (kvs : List (Str × Bool)) (lm : List Str) (sdm : Option (List Nat)) (lk : Int) (st : WkS) (n : Nat), vs = [.ref qk] ∧ VkOk K H qk pw qr qf qp dh dl W kvs lm sdm lk st n ∧ n + meas W st ≤ 900000 ∧
  ∀ (p dl' : Addr) (H' : Hp), (dl' = dl ∨ H dl' = none) → H p = none → VkOk K H' qk pw qr qf qp dh dl' W kvs (allF W kvs (meas W st) (st, lm, sdm, lk)).2.1 (allF W kvs (meas W st) (st, lm, sdm, lk)).2.2.1 (allF W kvs (meas W st) (st, lm, sdm, lk)).2.2.2 (allF W kvs (meas W st) (st, lm, sdm, lk)).1 (n + meas W st) → (allF W kvs (meas W st) (st, lm, sdm, lk)).1.sd = none → (allF W kvs (meas W st) (st, lm, sdm, lk)).1.rest = [] →
    H' p = some (.lst ((allF W kvs (meas W st) (st, lm, sdm, lk)).1.found.map txV)) → Frm [qk, qr, qf, qp, pw] H H' → Q (.ref p) H'
theorem meas_pos {W : Nat} {st : WkS} (h : ¬ (st.sd = none ∧ st.rest = [])) : 0 < meas W st := by
  obtain ⟨kd, rest, sd, found, paper⟩ := st
  unfold meas
  cases sd with
  | some l =>
    have := two_pow (n := W - l.length)
    show 0 < sumR W rest + wS W l
    unfold wS
    omega
  | none =>
    cases rest with
    | nil => exact absurd ⟨rfl, rfl⟩ h
    | cons g r =>
      have := two_pow (n := W - g.length)
      show 0 < (wR W g + sumR W r) + 0
      unfold wR
      omega
theorem m_Walk_go_all (T : Txt P w K mg base) : MetX CX0 P w K mg base 6 (VC K) "go_all" (spVAll K) := by
  obtain ⟨fd, F⟩ := T.t.def_ 28 (d := d_Walk_go_all)
  refine ⟨_, fd, _, vcl T, He.meth_ok (T.t.fact 82 (f := .meth "Walk" "go_all")), F.ok sc_Walk_go_all (fun vs H Q E h => ?_) (fun cdv A outer s H vs Q E hr h => ?_), F.bindsN fun _ _ _ _ _ _ us hl => match us, hl with | [_], _ => rfl⟩
  · obtain ⟨qk, pw, qr, qf, qp, dh, dl, W, kvs, lm, sdm, lk, st, n, rfl, _⟩ := h
    rfl
  · obtain ⟨qk, pw, qr, qf, qp, dh, dl, W, kvs, lm, sdm, lk, st, n, rfl, vk, hn, k⟩ := h
    refine ⟨_, PSs.nox (pss_cons (ps_while PassesOwn.never (PW.pt (pw_or (pt_cmpR op_notN (pe_fld (pv 0) (by rfl)) pe_non (nomark _)) (pw_or1 (pt_truth (pe_fld (pv 0) (by rfl)) (by intro _; rfl)))))
      (pss_one (ps_expr (pe_mx0 (m_Walk_step T) hr (by decide) (pv 0) (passes_call (E := fun _ _ _ => False) L2.takes0 (fun _ _ _ _ h => h))))))
    (pss_one (ps_ret (pe_mx0 (m_Walk_found T) hr (by decide) (pv 0) pass0)))), ?_⟩
    generalize hR : allF W kvs (meas W st) (st, lm, sdm, lk) = R at k
    let Wd : Nat → L2.St → Hp → Prop := fun m σ H' => ∃ (dl' : Addr) (q : WkS × List Str × Option (List Nat) × Int) (b : Nat), σ = [some (.ref qk)] ∧ VkOk K H' qk pw qr qf qp dh dl' W kvs q.2.1 q.2.2.1 q.2.2.2 q.1 b ∧ (dl' = dl ∨ H dl' = none) ∧ Frm [qk, qr, qf, qp, pw] H H' ∧ meas W q.1 ≤ m ∧ b + m ≤ n + meas W st ∧ allF W kvs m q = R
    refine ⟨Wd, ⟨meas W st, dl, (st, lm, sdm, lk), n, rfl, vk, .inl rfl, Frm.refl _ _, Nat.le_refl _, Nat.le_refl _, hR⟩, ?_⟩
    rintro m σ H2 ⟨dl2, ⟨st2, lm2, sd2, lk2⟩, b, rfl, vk2, hd2, f2, hm, hb, hq⟩
    dsimp only at vk2 hm
    obtain ⟨⟨dx2, g1⟩, g2, _⟩ := id vk2.wk
    have body : ¬ (st2.sd = none ∧ st2.rest = []) → ∃ (N : L2.St → Hp → Prop), (∀ σ' H', N σ' H' → ∃ m', m' < m ∧ Wd m' σ' H') ∧ spVStep K [.ref qk] H2 (fun _ H' => N [some (.ref qk)] H') (fun _ _ _ => False) := fun hst => by
      refine ⟨fun σ' H' => ∃ m', m' < m ∧ Wd m' σ' H', fun _ _ h => h, vk2.step (by omega) (fun a b => absurd ⟨a, b⟩ hst) fun hne v dl3 H3 hdl3 vk3 tl3 f3 => ?_⟩
      have hlt := step_meas (kvs := kvs) (lk := lk2) vk2.ok hne
      obtain ⟨m', rfl⟩ : ∃ m', m = m' + 1 := ⟨m - 1, by have := meas_pos (W := W) hst; omega⟩
      have hd3 : dl3 = dl ∨ H dl3 = none := hdl3.elim (fun e => by rw [e]; exact hd2) fun z => .inr (f2.b _ z)
      exact ⟨m', by omega, dl3, ((stepF W kvs lm2 lk2 st2).1.1, (stepF W kvs lm2 lk2 st2).2), b + 1, rfl, vk3, hd3, f2.trans f3, by show meas W (stepF W kvs lm2 lk2 st2).1.1 ≤ m'; omega, by omega, by rw [← hq, all_go hst]⟩
    have sdn : ∀ o : Option (List Nat), (decide (sdV o = V.non)) = o.isNone := fun o => by
      cases o with
      | none => rfl
      | some l => rfl
    refine ⟨_, rfl, qk, _, dx2, _, _, rfl, g1, vcl T, vn_said T, vl_said, rfl, _, rfl, ?_⟩
    rw [sdn]
    cases hs : st2.sd with
    | some l =>
      obtain ⟨N, n1, n2⟩ := body (fun z => by rw [hs] at z; cases z.1)
      refine ⟨N, n1, _, rfl, qk, dx2, _, rfl, g1, vx_step, n2⟩
    | none =>
      refine ⟨_, rfl, qk, _, dx2, _, _, rfl, g1, vcl T, vn_row T, vl_row, _, .inl ⟨_, SqL.of g2, rfl⟩, ?_⟩
      cases hr2 : st2.rest with
      | cons g r =>
        obtain ⟨N, n1, n2⟩ := body (fun z => by rw [hr2] at z; cases z.2)
        refine ⟨N, n1, _, rfl, qk, dx2, _, rfl, g1, vx_step, n2⟩
      | nil =>
        have e : (st2, lm2, sd2, lk2) = R := by rw [← hq, all_stop ⟨hs, hr2⟩]
        subst e
        refine ⟨_, rfl, qk, dx2, _, rfl, g1, vx_found, qk, pw, qr, qf, qp, st2, rfl, vk2.wk, fun p H3 hp hp3 f3 => ?_⟩
        exact k p dl2 H3 hd2 (f2.b _ hp) ((vk2.stay (f3.toT .nil (K := K)) .nil (by simp) (by simp) (by simp) (by simp) (by simp) (by simp)).le (by omega)) hs hr2 hp3 (f2.trans (f3.mono (by simp)))
end
end B

set_option Elab.async false
set_option linter.all false
set_option maxRecDepth 100000
set_option maxHeartbeats 4000000
namespace B
open PySem PySem.Spec PyProof.Rows L2
open SX (S)
/-! ### a walk over a pool ends soon -/
def cnt (names : List Str) (l : List Nat) : Nat := (names.filter (starts l)).length
theorem sg_one {n : Nat} {x : Str} (a : sg n 48 x = true) (b : sg n 49 x = true) : False := by
  have a' := of_decide_eq_true a
  have b' := of_decide_eq_true b
  rw [a'] at b'
  cases b'
theorem cnt_two {names : List Str} {l : List Nat} : cnt names (l ++ [48]) + cnt names (l ++ [49]) ≤ cnt names l := by
  unfold cnt
  induction names with
  | nil => exact Nat.le_refl _
  | cons x r ih =>
    rw [List.filter_cons, List.filter_cons, List.filter_cons, starts_snoc, starts_snoc]
    cases e : starts l x with
    | false =>
      rw [Bool.and_false, Bool.and_false]
      exact ih
    | true =>
      rw [Bool.and_true, Bool.and_true]
      cases a : sg l.length 48 x with
      | false =>
        cases b : sg l.length 49 x with
        | false =>
          rw [if_neg Bool.false_ne_true, if_neg Bool.false_ne_true, if_pos rfl, List.length_cons]
          omega
        | true =>
          rw [if_neg Bool.false_ne_true, if_pos rfl, if_pos rfl, List.length_cons, List.length_cons]
          omega
      | true =>
        cases b : sg l.length 49 x with
        | false =>
          rw [if_pos rfl, if_neg Bool.false_ne_true, if_pos rfl, List.length_cons, List.length_cons]
          omega
        | true => exact (sg_one a b).elim
theorem cnt_pos {names : List Str} {l : List Nat} {x : Str} (hx : x ∈ names) (h : starts l x = true) : 1 ≤ cnt names l := List.length_pos_of_mem (List.mem_filter.mpr ⟨hx, h⟩)
def vR (W : Nat) (names : List Str) (g : List Nat) : Nat := cnt names g * (W - g.length + 1)
def sumV (W : Nat) (names : List Str) : List (List Nat) → Nat
  | [] => 0
  | g :: r => vR W names g + sumV W names r
theorem sumV_app {W : Nat} {names : List Str} : ∀ {a b : List (List Nat)}, sumV W names (a ++ b) = sumV W names a + sumV W names b
  | [], b => by show sumV W names b = 0 + sumV W names b; omega
  | g :: a, b => by
    have := sumV_app (W := W) (names := names) (a := a) (b := b)
    show vR W names g + sumV W names (a ++ b) = vR W names g + sumV W names a + sumV W names b
    omega
def mv (W : Nat) (names : List Str) (st : WkS) : Nat := sumV W names st.rest + (match st.sd with | none => 0 | some l => vR W names l - 1)
structure Cnts (names : List Str) (st : WkS) : Prop where
  rest : ∀ g ∈ st.rest, 1 ≤ cnt names g
  said : ∀ l, st.sd = some l → 1 ≤ cnt names l
theorem over_mv {W : Nat} {names : List Str} {st : WkS} {l : List Nat} : mv W names (overF W st l).1 ≤ sumV W names st.rest + (vR W names l - 1) := by
  unfold overF mv
  split
  · exact Nat.le_refl _
  · show sumV W names st.rest + 0 ≤ _
    omega
theorem over_cnts {W : Nat} {names : List Str} {st : WkS} {l : List Nat} (h : ∀ g ∈ st.rest, 1 ≤ cnt names g) (hl : 1 ≤ cnt names l) : Cnts names (overF W st l).1 := by
  unfold overF
  split
  · exact ⟨h, fun l' e => by cases e; exact hl⟩
  · exact ⟨h, fun l' e => by cases e⟩
theorem beg_st {W : Nat} {l : List Nat} {x : Str} (h : Beg W l x) : starts l x = true := by
  obtain ⟨m, rfl, e, b, t⟩ := h
  unfold starts
  rw [S_list]
  exact decide_eq_true t
theorem heard_cnt {W c : Nat} {names lm : List Str} {l : List Nat} (h : lm.any (sg l.length c) = true) (hb : ∀ x ∈ lm, Beg W l x) (hs : ∀ x ∈ lm, x ∈ names) : 1 ≤ cnt names (l ++ [c]) := by
  obtain ⟨x, hx, e⟩ := List.any_eq_true.mp h
  refine cnt_pos (hs x hx) ?_
  rw [starts_snoc, e, beg_st (hb x hx)]
  rfl
theorem vR_snoc {W c : Nat} {names : List Str} {l : List Nat} (h : l.length < W) : vR W names (l ++ [c]) = cnt names (l ++ [c]) * (W - l.length) := by
  unfold vR
  rw [List.length_append, List.length_singleton, show W - (l.length + 1) + 1 = W - l.length by omega]
theorem step_mv {W n : Nat} {names : List Str} {kvs : List (Str × Bool)} {lm : List Str} {sdm : Option (List Nat)} {lk : Int} {st : WkS} (h : WkOk W lm sdm st n) (c : Cnts names st) (hs : ∀ x ∈ lm, x ∈ names) (hr : st.sd = none → st.rest ≠ []) : mv W names (stepF W kvs lm lk st).1.1 < mv W names st ∧ Cnts names (stepF W kvs lm lk st).1.1 := by
  obtain ⟨kd, rest, sd, found, paper⟩ := st
  obtain ⟨c1, c2⟩ := c
  dsimp only at c1 c2
  cases sd with
  | none =>
    obtain ⟨r, g, e, hg, hb⟩ := h.none_ (hr rfl)
    dsimp only at e
    subst e
    have e0 : stepF W kvs lm lk ⟨kd, r ++ [g], none, found, paper⟩ = (overF W ⟨kd, r, none, found, paper⟩ g, begF kvs kd g, some g, lk) := by
      unfold stepF
      simp
    rw [e0]
    have hg1 := c1 g (by simp)
    refine ⟨Nat.lt_of_le_of_lt over_mv ?_, over_cnts (fun q hq => c1 q (List.mem_append_left _ hq)) hg1⟩
    show sumV W names r + (vR W names g - 1) < sumV W names (r ++ [g]) + 0
    rw [sumV_app]
    show sumV W names r + (vR W names g - 1) < sumV W names r + (vR W names g + 0) + 0
    have : 1 * 1 ≤ vR W names g := Nat.mul_le_mul hg1 (by omega)
    omega
  | some l =>
    obtain ⟨_, hlt, _, hbeg⟩ := h.said l rfl
    have hl1 := c2 l rfl
    have hk : 1 ≤ W - l.length := by omega
    have v0 : vR W names l = cnt names l * (W - l.length) + cnt names l := Nat.mul_succ _ _
    have v1 : 1 * 1 ≤ cnt names l * (W - l.length) := Nat.mul_le_mul hl1 hk
    have v2 := vR_snoc (c := 48) (names := names) hlt
    have v3 := vR_snoc (c := 49) (names := names) hlt
    have v4 : (cnt names (l ++ [48]) + cnt names (l ++ [49])) * (W - l.length) ≤ cnt names l * (W - l.length) := Nat.mul_le_mul_right _ cnt_two
    rw [Nat.add_mul] at v4
    have q48 := fun z => heard_cnt (c := 48) z hbeg hs
    have q49 := fun z => heard_cnt (c := 49) z hbeg hs
    unfold stepF
    dsimp only
    revert q48 q49
    generalize lm.any (sg l.length 48) = z
    generalize lm.any (sg l.length 49) = o
    intro q48 q49
    cases z <;> cases o
    · rw [if_pos ⟨rfl, rfl⟩]
      refine ⟨?_, ⟨c1, fun l' e => by cases e⟩⟩
      show sumV W names rest + 0 < sumV W names rest + (vR W names l - 1)
      omega
    · rw [if_neg (fun z => Bool.noConfusion z.2), if_neg Bool.false_ne_true, if_neg (fun z => Bool.noConfusion z.1)]
      refine ⟨Nat.lt_of_le_of_lt over_mv ?_, over_cnts c1 (q49 rfl)⟩
      have := Nat.mul_le_mul (q49 rfl) hk
      show sumV W names rest + (vR W names (l ++ [49]) - 1) < sumV W names rest + (vR W names l - 1)
      omega
    · rw [if_neg (fun z => Bool.noConfusion z.1), if_pos rfl, if_neg (fun z => Bool.noConfusion z.2)]
      refine ⟨Nat.lt_of_le_of_lt over_mv ?_, over_cnts c1 (q48 rfl)⟩
      have := Nat.mul_le_mul (q48 rfl) hk
      show sumV W names rest + (vR W names (l ++ [48]) - 1) < sumV W names rest + (vR W names l - 1)
      omega
    · rw [if_neg (fun z => Bool.noConfusion z.1), if_pos rfl, if_pos ⟨rfl, rfl⟩]
      refine ⟨Nat.lt_of_le_of_lt over_mv ?_, over_cnts (fun g hg => ?_) (q48 rfl)⟩
      · have := Nat.mul_le_mul (q48 rfl) hk
        have := Nat.mul_le_mul (q49 rfl) hk
        show sumV W names (rest ++ [l ++ [49]]) + (vR W names (l ++ [48]) - 1) < sumV W names rest + (vR W names l - 1)
        rw [sumV_app]
        show sumV W names rest + (vR W names (l ++ [49]) + 0) + (vR W names (l ++ [48]) - 1) < sumV W names rest + (vR W names l - 1)
        omega
      · rcases List.mem_append.mp hg with z | z
        · exact c1 g z
        · rw [List.mem_singleton.mp z]
          exact q49 rfl
/-- what is said on a wire is what those that listen begin with -/
theorem step_beg {W n : Nat} {kvs : List (Str × Bool)} {lm : List Str} {sdm : Option (List Nat)} {lk : Int} {st : WkS} (h : WkOk W lm sdm st n) (hr : st.sd = none → st.rest ≠ []) (hkn : ∀ x ∈ kvs.map (·.1), Num W x) : ∀ l, (stepF W kvs lm lk st).2.2.1 = some l → l.length ≤ W ∧ ∀ x ∈ (stepF W kvs lm lk st).2.1, Beg W l x := by
  obtain ⟨kd, rest, sd, found, paper⟩ := st
  cases sd with
  | none =>
    obtain ⟨r, g, e, hg, hb⟩ := h.none_ (hr rfl)
    dsimp only at e
    subst e
    have e0 : stepF W kvs lm lk ⟨kd, r ++ [g], none, found, paper⟩ = (overF W ⟨kd, r, none, found, paper⟩ g, begF kvs kd g, some g, lk) := by
      unfold stepF
      simp
    rw [e0]
    intro l e
    cases e
    have bs := begF_sub (kvs := kvs) (kd := kd) (l := g)
    exact ⟨hg, fun x hx => beg_starts (hkn x (bs.2 x hx).1) (bs.2 x hx).2⟩
  | some l =>
    obtain ⟨_, hlt, _, hbeg⟩ := h.said l rfl
    unfold stepF
    dsimp only
    split
    · intro l' e
      cases e
      exact ⟨Nat.le_of_lt hlt, hbeg⟩
    · intro l' e
      cases e
      refine ⟨by rw [List.length_append, List.length_singleton]; omega, fun x hx => ?_⟩
      obtain ⟨x1, x2⟩ := List.mem_filter.mp hx
      exact beg_next' (hbeg x x1) x2
theorem step_sub {W : Nat} {kvs : List (Str × Bool)} {lm : List Str} {lk : Int} {st : WkS} {names : List Str} (hs : ∀ x ∈ lm, x ∈ names) (hk : ∀ x ∈ kvs.map (·.1), x ∈ names) : ∀ x ∈ (stepF W kvs lm lk st).2.1, x ∈ names := by
  obtain ⟨kd, rest, sd, found, paper⟩ := st
  cases sd with
  | none => exact fun x hx => hk x (begF_sub.2 x hx).1
  | some l =>
    unfold stepF
    dsimp only
    split
    · exact hs
    · exact fun x hx => hs x (List.mem_filter.mp hx).1
theorem step_len {W m : Nat} {kvs : List (Str × Bool)} {lm : List Str} {lk : Int} {st : WkS} (hs : lm.length ≤ m) (hk : kvs.length ≤ m) : (stepF W kvs lm lk st).2.1.length ≤ m := by
  obtain ⟨kd, rest, sd, found, paper⟩ := st
  cases sd with
  | none => exact Nat.le_trans begF_sub.1 hk
  | some l =>
    unfold stepF
    dsimp only
    split
    · exact hs
    · exact Nat.le_trans (List.length_filter_le _ _) hs
/-- a walk's state, who listens, what is said on the wire, the looks -/
abbrev Q4 := WkS × List Str × Option (List Nat) × Int
def stepQ (W : Nat) (kvs : List (Str × Bool)) (q : Q4) : Q4 := ((stepF W kvs q.2.1 q.2.2.2 q.1).1.1, (stepF W kvs q.2.1 q.2.2.2 q.1).2)
structure InvQ (names : List Str) (W : Nat) (q : Q4) (b : Nat) : Prop where
  ok : WkOk W q.2.1 q.2.2.1 q.1 b
  cn : Cnts names q.1
  sub : ∀ x ∈ q.2.1, x ∈ names
  beg : ∀ l, q.2.2.1 = some l → l.length ≤ W ∧ ∀ x ∈ q.2.1, Beg W l x
  len : q.2.1.length ≤ 41
  mz : b + meas W q.1 ≤ 20000
theorem inv_step {names : List Str} {W b : Nat} {kvs : List (Str × Bool)} {q : Q4} (h : InvQ names W q b) (hr : q.1.sd = none → q.1.rest ≠ []) (hk : kvs.length ≤ 41) (hkn : ∀ x ∈ kvs.map (·.1), x ∈ names) (hnn : ∀ x ∈ names, Num W x) : InvQ names W (stepQ W kvs q) (b + 1) ∧ mv W names (stepQ W kvs q).1 < mv W names q.1 := by
  obtain ⟨a1, a2, a3, a4, a5, a6⟩ := h
  have kn : ∀ x ∈ kvs.map (·.1), Num W x := fun x hx => hnn x (hkn x hx)
  have s1 := step_mv (kvs := kvs) (lk := q.2.2.2) a1 a2 a3 hr
  have s2 := step_meas (kvs := kvs) (lk := q.2.2.2) a1 hr
  refine ⟨⟨step_ok a1 hr (by omega) kn, s1.2, step_sub a3 hkn, step_beg a1 hr kn, step_len a5 hk, ?_⟩, s1.1⟩
  show b + 1 + meas W (stepF W kvs q.2.1 q.2.2.2 q.1).1.1 ≤ 20000
  omega
/-- some steps -/
inductive Stp (W : Nat) (kvs : List (Str × Bool)) : Q4 → Q4 → Prop where
  | refl (q : Q4) : Stp W kvs q q
  | step (q q' : Q4) : (q.1.sd = none → q.1.rest ≠ []) → Stp W kvs (stepQ W kvs q) q' → Stp W kvs q q'
theorem inv_stp {names : List Str} {W : Nat} {kvs : List (Str × Bool)} (hk : kvs.length ≤ 41) (hkn : ∀ x ∈ kvs.map (·.1), x ∈ names) (hnn : ∀ x ∈ names, Num W x) {q q' : Q4} (s : Stp W kvs q q') : ∀ {b : Nat}, InvQ names W q b → (∃ b', InvQ names W q' b') ∧ mv W names q'.1 ≤ mv W names q.1 := by
  induction s with
  | refl q => exact fun h => ⟨⟨_, h⟩, Nat.le_refl _⟩
  | step q q' hr _ ih =>
    intro b h
    have s1 := inv_step h hr hk hkn hnn
    have s2 := ih s1.1
    exact ⟨s2.1, by omega⟩
theorem round_stp {W : Nat} {kvs : List (Str × Bool)} : ∀ {n : Nat} {st : WkS} {lm : List Str} {sdm : Option (List Nat)} {lk : Int}, (st.sd = none → st.rest ≠ []) → Stp W kvs (stepQ W kvs (st, lm, sdm, lk)) ((roundF W kvs n lm lk st).1.1, (roundF W kvs n lm lk st).2)
  | 0, st, lm, sdm, lk, h => .refl _
  | n + 1, st, lm, sdm, lk, h => by
    by_cases hno : (stepF W kvs lm lk st).1.2 = .no
    · rw [round_no hno]
      obtain ⟨l', e, _⟩ := step_no hno
      have hc : (stepF W kvs lm lk st).1.1.sd = none → (stepF W kvs lm lk st).1.1.rest ≠ [] := fun z => by rw [e] at z; cases z
      exact .step _ _ hc (round_stp (sdm := (stepF W kvs lm lk st).2.2.1) hc)
    · rw [round_yes hno]
      exact .refl _
theorem all_stp {W : Nat} {kvs : List (Str × Bool)} : ∀ {n : Nat} {q : Q4}, Stp W kvs q (allF W kvs n q)
  | 0, q => .refl _
  | n + 1, q => by
    by_cases h : q.1.sd = none ∧ q.1.rest = []
    · rw [all_stop h]
      exact .refl _
    · rw [all_go h]
      exact .step _ _ (fun a b => h ⟨a, b⟩) all_stp
theorem cnt_nil {names : List Str} : cnt names [] = names.length := by
  have e : names.filter (starts []) = names := List.filter_eq_self.mpr fun x _ => decide_eq_true rfl
  unfold cnt
  rw [e]
/-- a walk begun -/
theorem inv_new {names : List Str} {W : Nat} {kd : Str} (hn : names ≠ []) (hW : W ≤ 12) (hl : names.length ≤ 41) : InvQ names W (⟨kd, [[]], none, [], []⟩, [], none, 0) 1 ∧ mv W names ⟨kd, [[]], none, [], []⟩ ≤ 533 := by
  have hp : 1 ≤ names.length := List.length_pos_iff.mpr hn
  refine ⟨⟨⟨fun g hg => ?_, fun l e => (by cases e), ⟨Nat.le_refl _, Nat.zero_le _, Nat.zero_le _⟩, Nat.zero_le _⟩, ⟨fun g hg => ?_, fun l e => (by cases e)⟩, fun x hx => absurd hx (by simp), fun l e => (by cases e), Nat.zero_le _, ?_⟩, ?_⟩
  · rw [List.mem_singleton.mp hg]
    exact ⟨Nat.zero_le _, Bits.nil⟩
  · rw [List.mem_singleton.mp hg, cnt_nil]
    exact hp
  · show 1 + (wR W [] + 0 + 0) ≤ 20000
    have : 2 ^ (W + 2) ≤ 2 ^ 14 := Nat.pow_le_pow_right (by decide) (by omega)
    have e : wR W [] = 2 ^ (W + 2) - 1 := rfl
    omega
  · show vR W names [] + 0 + 0 ≤ 533
    have e : vR W names [] = names.length * (W + 1) := by
      unfold vR
      rw [cnt_nil]
      rfl
    have := Nat.mul_le_mul hl (show W + 1 ≤ 13 by omega)
    omega
end B

set_option Elab.async false
set_option linter.all false
set_option maxRecDepth 100000
set_option maxHeartbeats 4000000
namespace B
open PySem PySem.Spec PyProof.Rows L2
open SX (S)
theorem deed_hang {kvs : List (Str × Bool)} {x : Str} {lw : List Str} (h : ¬ hasK kvs x = true) : deedW kvs "hang" x = "" ∧ deedK kvs "hang" x = putB kvs x false ∧ deedL kvs lw "hang" x = lw := by
  unfold deedW deedK deedL
  rw [if_pos rfl, if_pos rfl, if_neg h, if_neg h, if_neg (fun z => absurd z.1 (by decide +kernel))]
  exact ⟨rfl, rfl, rfl⟩
theorem deed_alarm {kvs : List (Str × Bool)} {x : Str} {lw : List Str} (h : hasK kvs x = true) : deedW kvs "alarm" x = "" ∧ deedK kvs "alarm" x = putB kvs x true ∧ deedL kvs lw "alarm" x = lw := by
  have nw : ¬ ("alarm" : Str) = "hang" := by decide +kernel
  have no : ¬ ("alarm" : Str) = "off" := by decide +kernel
  unfold deedW deedK deedL
  rw [if_neg nw, if_neg nw, if_pos h, if_pos h, if_neg no, if_neg (fun z => no z.1), decide_eq_true rfl]
  exact ⟨rfl, rfl, rfl⟩
theorem has_put {kvs : List (Str × Bool)} {x : Str} {b : Bool} : hasK (putB kvs x b) x = true := by
  rw [has_key, keys_put]
  split
  · rename_i h
    exact has_key.mp h
  · exact List.mem_append_right _ (by simp)
theorem nod_app {L G : List Addr} {H : Hp} (hL : L.Nodup) (hG : G.Nodup) (al : ∀ x ∈ L, H x ≠ none) (nn : ∀ x ∈ G, H x = none) : (L ++ G).Nodup := by
  rw [List.nodup_append]
  exact ⟨hL, hG, fun a ha c hc e => al a ha (by rw [e]; exact nn c hc)⟩
/-- a statement whose ways all lead to the same -/
theorem seq_merge {a b : TS} {D : Ends} {σ : L2.St} {H : Hp} (P : L2.St → Hp → Prop) (h1 : ∀ K : L2.St → Hp → Prop, (∀ σ' H', P σ' H' → K σ' H') → a { D with nx := K } σ H) (h2 : ∀ σ' H', P σ' H' → b D σ' H') : tSeq a b D σ H := h1 _ h2
theorem seq_merge2 {a b c : TS} {D : Ends} {σ : L2.St} {H : Hp} (P : L2.St → Hp → Prop) (h1 : ∀ K : L2.St → Hp → Prop, (∀ σ' H', P σ' H' → K σ' H') → tSeq a b { D with nx := K } σ H) (h2 : ∀ σ' H', P σ' H' → c D σ' H') : tSeq a (tSeq b c) D σ H := h1 _ h2
/-- a while whose test makes but new things: G tells whether it goes on -/
theorem while_go {α : Type} {c : TT} {tb : TS} {D : Ends} {σ : L2.St} {H : Hp} (Wd : α → Nat → L2.St → Hp → Prop) (G : α → Prop) (h0 : ∃ x m, Wd x m σ H)
    (hc : ∀ x m σ H, Wd x m σ H → ∀ K : Bool → Hp → Prop, (G x → ∀ H', Frm [] H H' → K true H') → (¬ G x → ∀ H', Frm [] H H' → K false H') → c σ H K)
    (hb : ∀ x m σ H H', Wd x m σ H → G x → Frm [] H H' → tb { D with nx := fun σ' H'' => ∃ m', m' < m ∧ ∃ x', Wd x' m' σ' H'', ct := fun σ' H'' => ∃ m', m' < m ∧ ∃ x', Wd x' m' σ' H'', bk := D.nx } σ H')
    (hd : ∀ x m σ H H', Wd x m σ H → ¬ G x → Frm [] H H' → D.nx σ H') : tWhile c tb D σ H := by
  obtain ⟨x0, m0, w0⟩ := h0
  refine ⟨fun m σ H => ∃ x, Wd x m σ H, ⟨m0, x0, w0⟩, ?_⟩
  rintro m σ H ⟨x, w⟩
  refine hc x m σ H w _ (fun g H' f => ?_) (fun g H' f => ?_)
  · rw [if_pos rfl]
    exact ⟨fun σ' H'' => ∃ m', m' < m ∧ ∃ x', Wd x' m' σ' H'', fun _ _ h => h, hb x m σ H H' w g f⟩
  · rw [if_neg Bool.false_ne_true]
    exact hd x m σ H H' w g f
theorem deed_off {kvs : List (Str × Bool)} {x : Str} {lw : List Str} (h : hasK kvs x = true) : deedW kvs "off" x = "" ∧ deedK kvs "off" x = dropB kvs x ∧ deedL kvs lw "off" x = lw.filter (fun y => decide (y ≠ x)) := by
  have nw : ¬ ("off" : Str) = "hang" := by decide +kernel
  unfold deedW deedK deedL
  rw [if_neg nw, if_neg nw, if_pos h, if_pos h, if_pos rfl, if_pos ⟨rfl, h⟩]
  exact ⟨rfl, rfl, rfl⟩
theorem inV_strs (x : Str) (xs : List Str) : inV (V.str x) (xs.map V.str) = decide (x ∈ xs) := by
  by_cases h : x ∈ xs
  · rw [decide_eq_true h]
    unfold inV
    rw [List.any_map, List.any_eq_true]
    exact ⟨x, h, by show eqV (V.str x) (V.str x) = true; simp [eqV]⟩
  · rw [decide_eq_false h]
    cases e : inV (V.str x) (xs.map V.str) with
    | false => rfl
    | true =>
      exfalso
      unfold inV at e
      rw [List.any_map, List.any_eq_true] at e
      obtain ⟨y, hy, q⟩ := e
      have q' : (y == x) = true := q
      exact h (eq_of_beq q' ▸ hy)
theorem keys_new {kvs : List (Str × Bool)} {x : Str} {b : Bool} (h : ¬ hasK kvs x = true) : (putB kvs x b).map (·.1) = kvs.map (·.1) ++ [x] := by rw [keys_put, if_neg h]
theorem keys_in {kvs : List (Str × Bool)} {x y : Str} {b : Bool} : y ∈ (putB kvs x b).map (·.1) ↔ y ∈ kvs.map (·.1) ∨ y = x := by
  rw [keys_put]
  split
  · rename_i h
    exact ⟨.inl, fun q => q.elim id fun e => by rw [e]; exact has_key.mp h⟩
  · rw [List.mem_append, List.mem_singleton]
theorem tld_dec {H : Hp} {r : Tld} {v : V} (h : TldAt H r v) : (v = V.non ↔ r = .no) := by
  cases r with
  | no => exact ⟨fun _ => rfl, fun _ => h⟩
  | lost =>
    obtain ⟨t, e, _⟩ := h
    exact ⟨fun z => (by rw [e] at z; cases z), fun z => (by cases z)⟩
  | found l =>
    obtain ⟨t, e, _⟩ := h
    exact ⟨fun z => (by rw [e] at z; cases z), fun z => (by cases z)⟩
end B

set_option Elab.async false
set_option linter.all false
set_option maxRecDepth 100000
set_option maxHeartbeats 4000000
namespace B
open PySem PySem.Spec PyProof.Rows L2
open SX (S)
/-! ### what changes is no tuple -/
def nt : HO → Bool
  | .ins _ _ _ => true
  | .dK _ => true
  | .lst _ => true
  | _ => false
def NT (T : List Addr) (H : Hp) : Prop := ∀ s ∈ T, ∃ o, H s = some o ∧ nt o = true
theorem NT.nil {H : Hp} : NT [] H := fun _ h => absurd h (by simp)
theorem NT.cons {T : List Addr} {H : Hp} {s : Addr} {o : HO} (h : H s = some o) (n : nt o = true) (t : NT T H) : NT (s :: T) H := fun c hc => by
  rcases List.mem_cons.mp hc with e | e
  · rw [e]
    exact ⟨o, h, n⟩
  · exact t c e
theorem NT.of {T : List Addr} {H : Hp} (h : NL T H) : NT T H := fun s hs => by
  obtain ⟨o, e, n⟩ := h s hs
  refine ⟨o, e, ?_⟩
  cases o <;> first | rfl | cases n
theorem NT.out {T : List Addr} {H : Hp} {p : Addr} {o : HO} (n : NT T H) (h : H p = some o) (h2 : nt o = false) : p ∉ T := fun z => by
  obtain ⟨u, e, q⟩ := n p z
  rw [h] at e
  cases e
  rw [h2] at q
  cases q
theorem nt_codeO {c : Addr} {q : Str} : nt (LamX.CodeO c q) = false := rfl
theorem Frm.toN {K : PySem.W.Frag} {T : List Addr} {H H' : Hp} (f : Frm T H H') (n : NT T H) : FrT K T H H' := by
  have kp : ∀ {p : Addr} {o : HO}, H p = some o → nt o = false → H' p = some o := fun {p o} e h => f.k p o e rfl (n.out e h)
  refine ⟨fun b o e _ hb => f.k b o e rfl hb, f.b, fun ⟨h1, h2⟩ => ⟨fun p hp => ?_, fun p hp => ?_⟩⟩
  · obtain ⟨ps, e, t⟩ := h1 p hp
    exact ⟨ps, kp e rfl, t⟩
  obtain ⟨qs, e1, t1, a1⟩ := h2 p hp
  refine ⟨qs, kp e1 rfl, t1, fun pos cv hc => ?_⟩
  obtain ⟨c, e2, e3⟩ := a1 pos cv hc
  exact ⟨c, e2, kp e3 nt_codeO⟩
theorem VkAt.keepT {K : PySem.W.Frag} {T : List Addr} {H H' : Hp} {qk pw qr qf qp : Addr} {st : WkS} (h : VkAt K H qk pw qr qf qp st) (f : FrT K T H H') (n : NT T H) (h1 : qk ∉ T) (h2 : qr ∉ T) (h3 : qf ∉ T) (h4 : qp ∉ T) : VkAt K H' qk pw qr qf qp st := by
  obtain ⟨⟨dx, o1⟩, o2, o3, ⟨ts, o4, o5, o6⟩, ne⟩ := h
  exact ⟨⟨dx, f.k _ _ o1 rfl h1⟩, f.k _ _ o2 rfl h2, f.k _ _ o3 rfl h3, ⟨ts, f.k _ _ o4 rfl h4, o5, fun i t q a b => f.k _ _ (o6 i t q a b) rfl (n.out (o6 i t q a b) rfl)⟩, ne⟩
theorem WkAt.keepT {K : PySem.W.Frag} {T : List Addr} {H H' : Hp} {pk pr pf pp : Addr} {st : WkS} (h : WkAt H pk pr pf pp st) (f : FrT K T H H') (n : NT T H) (h1 : pk ∉ T) (h2 : pr ∉ T) (h3 : pf ∉ T) (h4 : pp ∉ T) : WkAt H' pk pr pf pp st := by
  obtain ⟨o1, o2, o3, ⟨ts, o4, o5, o6⟩, ne⟩ := h
  exact ⟨f.k _ _ o1 rfl h1, f.k _ _ o2 rfl h2, f.k _ _ o3 rfl h3, ⟨ts, f.k _ _ o4 rfl h4, o5, fun i t q a b => f.k _ _ (o6 i t q a b) rfl (n.out (o6 i t q a b) rfl)⟩, ne⟩
theorem TldAt.keepT {K : PySem.W.Frag} {T : List Addr} {H H' : Hp} {r : Tld} {v : V} (h : TldAt H r v) (f : FrT K T H H') (n : NT T H) : TldAt H' r v := by
  cases r with
  | no => exact h
  | lost =>
    obtain ⟨t, e, z⟩ := h
    exact ⟨t, e, f.k _ _ z rfl (n.out z rfl)⟩
  | found l =>
    obtain ⟨t, e, z⟩ := h
    exact ⟨t, e, f.k _ _ z rfl (n.out z rfl)⟩
theorem VkOk.keepT {K : PySem.W.Frag} {H H' : Hp} {T : List Addr} {qk pw qr qf qp dh dl : Addr} {W : Nat} {kvs : List (Str × Bool)} {lm : List Str} {sdm : Option (List Nat)} {lk : Int} {st : WkS} {n : Nat} (h : VkOk K H qk pw qr qf qp dh dl W kvs lm sdm lk st n) (f : FrT K T H H') (z : NT T H) (h1 : qk ∉ T) (h2 : qr ∉ T) (h3 : qf ∉ T) (h4 : qp ∉ T) (h5 : pw ∉ T) (h6 : dh ∉ T) (h7 : dl ∉ T) : VkOk K H' qk pw qr qf qp dh dl W kvs lm sdm lk st n := by
  obtain ⟨a, ⟨lw, b1, b2⟩, c, d, e, g, i, j, o⟩ := h
  exact ⟨a.keepT f z h1 h2 h3 h4, ⟨lw, b1.keep f h5 h6 h7, b2⟩, c, d, e, g, i, j, o⟩
theorem Pool.keep {K : PySem.W.Frag} {T : List Addr} {H H' : Hp} {pn : Addr} {W : Nat} {names : List Str} (h : Pool H pn W names) (f : FrT K T H H') (n : pn ∉ T) : Pool H' pn W names :=
  ⟨f.k _ _ h.at_ rfl n, h.ne, h.len, h.num, h.w⟩
theorem txs (l : List (List Nat)) : l.map txV = (l.map S).map V.str := by
  rw [List.map_map]
  rfl
theorem eqv_txs (l : List (List Nat)) : PyData.eqv (.list ((l.map S).map .str)) (.list []) = l.isEmpty := by
  rw [eqv_empty]
  cases l <;> rfl
end B

set_option Elab.async false
set_option linter.all false
set_option maxRecDepth 100000
set_option maxHeartbeats 4000000
namespace B
open PySem PySem.Spec PyProof.Rows L2
/-! ### sets of texts that can be walked: made of a list, sorted, counted -/
/-- a table's row that holds a text -/
def TxRow (w : World) (e : Int × Value) : Prop := ∃ z t, e.2 = Value.str z t ∧ e.1 = hashStr w z
def txOf (e : Int × Value) : Str := match e.2 with
  | .str z _ => z
  | _ => Str.empty
structure STr (w : World) (h : Heap) (a : Addr) (T : Str → Bool) (n : Nat) (o : Obj) (es : Array (Int × Value)) (ep : Nat) (t : SetTable) : Prop where
  at_ : h.get? a = some o
  ex : o.ExactSet
  dt : o.data = .set es ep t
  row : ∀ e ∈ es.toList, TxRow w e
  nd : (es.toList.map txOf).Nodup
  mem : ∀ x, T x = true ↔ x ∈ es.toList.map txOf
  few : es.size < scanBound
  fit : t.fits es.size = true
  cnt : es.size = n
  ris : Ris t.place.toList
  led : w.params.followText "set-order" = true ∨ t.led = true
/-- the set of texts at a: its members, how many they are -/
def STx (w : World) (h : Heap) (a : Addr) (T : Str → Bool) (n : Nat) : Prop := ∃ o es ep t, STr w h a T n o es ep t
section
variable {P : Program} {w : World} {A : Around} {E : Value → Shared → Prop} {s : Shared} {h h' : Heap} {a : Addr} {T : Str → Bool} {n : Nat}
theorem STx.keep (R : STx w h a T n) (k : ∀ o, h.get? a = some o → h'.get? a = some o) : STx w h' a T n := by
  obtain ⟨o, es, ep, t, r⟩ := R
  exact ⟨o, es, ep, t, { r with at_ := k o r.at_ }⟩
theorem STx.like {T' : Str → Bool} {m : Nat} (R : STx w h a T n) (e : ∀ x, T' x = T x) (hm : m = n) : STx w h a T' m := by
  have q : T' = T := funext e
  rw [q, hm]
  exact R
theorem tx_elems {l : List (Int × Value)} (g : ∀ e ∈ l, TxRow w e) : ElemsOf (PySem.strKind P w) l := by
  intro e he
  obtain ⟨z, t, h1, h2⟩ := g e he
  refine ⟨⟨z, ?_, h2⟩, ?_⟩
  · rw [h1]
    exact strKind_is _ _ _ _
  · rw [h1] <;> rfl
theorem tx_is {e : Int × Value} (g : TxRow w e) (x : Str) : (PySem.strKind P w).is x e.2 = true ↔ txOf e = x := by
  obtain ⟨z, t, h1, _⟩ := g
  unfold txOf
  rw [h1]
  constructor
  · intro q
    have q' : Value.isStrOf x (.str z t) = true := q
    obtain ⟨t', q2⟩ := Value.isStrOf_shape q'
    injection q2
  · intro q
    have q' : z = x := q
    rw [q']
    exact strKind_is _ _ _ _
theorem tx_mem {l : List (Int × Value)} (g : ∀ e ∈ l, TxRow w e) (x : Str) : x ∈ l.map txOf ↔ ∃ e ∈ l, (PySem.strKind P w).is x e.2 = true := by
  rw [List.mem_map]
  exact ⟨fun ⟨e, he, q⟩ => ⟨e, he, (tx_is (g e he) x).mpr q⟩, fun ⟨e, he, q⟩ => ⟨e, he, (tx_is (g e he) x).mp q⟩⟩
theorem tx_put {h0 : Heap} {o : Obj} {es es' : Array (Int × Value)} {ep : Nat} {t t' : SetTable} (ho : h0.get? a = some o) (hd : o.data = .set es ep t) : (h0.update a (Obj.putSet es' t')).get? a = some { o with data := .set es' (ep + 1) t' } := L2.store_at ho hd
/-- the end of an add: the rows stored, the table laid anew if it is full -/
theorem stx_tail {g : Bool → Sem Unit} (hg : ∀ (b : Bool) (z : Shared) (Z : Unit → Shared → Prop), Z () z → wpAny (model P w) A (g b) Z E z) {o : Obj} {es ys : Array (Int × Value)} {ep : Nat} {t u : SetTable} {U : Str → Bool} (ho : s.heap.get? a = some o) (ex : o.ExactSet) (hd : o.data = .set es ep t)
    (g1 : ∀ e ∈ ys.toList, TxRow w e) (g2 : (ys.toList.map txOf).Nodup) (g3 : ∀ x, U x = true ↔ x ∈ ys.toList.map txOf) (g4 : ys.size < scanBound) (g5 : u.fits ys.size = true) (g6 : Ris u.place.toList) (g7 : w.params.followText "set-order" = true ∨ u.led = true) {wd : Bool} {Z : Option Bool → Shared → Prop}
    (k : ∀ h', Heap.SameBut a s.heap h' → STx w h' a U ys.size → Z (some true) { s with heap := h' }) :
    wpAny (model P w) A (do
      storeSet a ys u
      if (!wd && u.tooFull) = true then do
          g (relayAll u ys (SetTable.grown ys.size)).2.2
          storeSet a (relayAll u ys (SetTable.grown ys.size)).1 (relayAll u ys (SetTable.grown ys.size)).2.1
          pure (some true)
        else pure (some true)) Z E s := by
  have b1 := Heap.SameBut.update s.heap a (Obj.putSet ys u)
  have ho1 := tx_put (es' := ys) (t' := u) ho hd
  refine wpAny_bind (wpAny_storeSet_of ho hd ?_ (fits_of_scanBound g4))
  split
  · have y1 := relayAll_perm u ys (SetTable.grown ys.size)
    have y2 := relayAll_fits u ys (SetTable.grown ys.size)
    have y3 := L2.relayAll_ris u ys (SetTable.grown ys.size)
    have y4 := L2.relayAll_led u ys (SetTable.grown ys.size)
    generalize relayAll u ys (SetTable.grown ys.size) = N at y1 y2 y3 y4 ⊢
    obtain ⟨zs, v, gave⟩ := N
    dsimp only at y1 y2 y3 y4 ⊢
    have es2 : zs.size = ys.size := by
      have q := y1.length_eq
      rw [Array.length_toList, Array.length_toList] at q
      exact q
    have few2 : zs.size < scanBound := by omega
    refine wpAny_bind (hg _ _ _ (wpAny_bind (wpAny_storeSet_of ho1 rfl ?_ (fits_of_scanBound few2))))
    refine wpAny_pure (k _ (b1.trans (Heap.SameBut.update _ a _)) ⟨_, zs, _, v, tx_put (es' := zs) (t' := v) ho1 rfl, ex, rfl, fun e he => g1 e (y1.mem_iff.mp he), (y1.map txOf).nodup_iff.mpr g2, fun x => (g3 x).trans (y1.map txOf).mem_iff.symm, few2, y2, es2, y3, ?_⟩)
    exact g7.imp id fun q => y4.trans q
  · exact wpAny_pure (k _ b1 ⟨_, ys, _, u, ho1, ex, rfl, g1, g2, g3, g4, g5, rfl, g6, g7⟩)
theorem stx_add {x : Str} {tk : Tok} {Q : Bool → Shared → Prop} (R : STx w s.heap a T n) (room : n + 1 < scanBound) (k : ∀ h', Heap.SameBut a s.heap h' → STx w h' a (fun y => T y || decide (y = x)) (if T x = true then n else n + 1) → Q (!T x) { s with heap := h' }) :
    wpAny (model P w) A (setAddHashed a (.str x tk) ((PySem.strKind P w).hash x)) Q E s := by
  obtain ⟨o, es, ep, t, r⟩ := R
  have ix : (PySem.strKind P w).is x (.str x tk) = true := strKind_is _ _ _ _
  have sc : (Value.str x tk).scannable = true := rfl
  have el : ElemsOf (PySem.strKind P w) es.toList := tx_elems r.row
  unfold setAddHashed setAddHashedIn
  refine wpAny_holding (wpAny_bind (wpAny_setState_of r.at_ r.dt r.fit ?_))
  dsimp only
  rw [byScan_of sc r.few el]
  simp only [↓reduceIte]
  unfold setAddByScan
  refine wpAny_bind (wpAny_bind (wpAny_rule (wpAny_bind (wpAny_setScan_of ix r.at_ r.dt r.fit el ?_))))
  cases q : List.findIdx? (fun e => (PySem.strKind P w).is x e.2) es.toList with
  | some j =>
    dsimp only
    obtain ⟨hj, pj, _⟩ := List.findIdx?_eq_some_iff_getElem.mp q
    have hx : T x = true := (r.mem x).mpr ((tx_mem (P := P) r.row x).mpr ⟨_, List.getElem_mem hj, pj⟩)
    have z := k s.heap (Heap.SameBut.refl a s.heap) ⟨o, es, ep, t, { r with
      mem := fun y => by
        rw [Bool.or_eq_true, decide_eq_true_eq, ← r.mem y]
        constructor
        · rintro (c | rfl)
          · exact c
          · exact hx
        · exact Or.inl
      cnt := by rw [if_pos hx]; exact r.cnt }⟩
    rw [hx] at z
    exact wpAny_pure (wpAny_pure z)
  | none =>
    dsimp only
    have nx : x ∉ es.toList.map txOf := fun c => by
      obtain ⟨e, he, c1⟩ := (tx_mem (P := P) r.row x).mp c
      have c2 := List.findIdx?_eq_none_iff.mp q e he
      rw [c1] at c2
      cases c2
    have hx : T x = false := by
      cases c : T x with
      | false => rfl
      | true => exact absurd ((r.mem x).mp c) nx
    have gw : ∀ (b : Bool) {z : Shared} {Z : Unit → Shared → Prop}, Z () z → wpAny (model P w) A (match b with | true => rule "set.scan.the-table-gave-way" | false => pure ()) Z E z := by
      intro b z Z c
      cases b <;> first | exact wpAny_pure c | exact wpAny_rule c
    have y1 := layNew_perm t es ((PySem.strKind P w).hash x) (.str x tk)
    have y2 := layNew_fits t es ((PySem.strKind P w).hash x) (.str x tk)
    have y3 := L2.layNew_ris t es ((PySem.strKind P w).hash x) (.str x tk) r.ris
    have y4 := L2.layNew_led t es ((PySem.strKind P w).hash x) (.str x tk)
    generalize layNew t es ((PySem.strKind P w).hash x) (.str x tk) = N at y1 y2 y3 y4 ⊢
    obtain ⟨ys, u, wd, gave⟩ := N
    dsimp only at y1 y2 y3 y4 ⊢
    rw [Array.toList_push] at y1
    have pc : ys.toList.Perm (((PySem.strKind P w).hash x, Value.str x tk) :: es.toList) := y1.trans (List.perm_append_singleton _ _)
    have pk : (ys.toList.map txOf).Perm (x :: es.toList.map txOf) := pc.map txOf
    have sz : ys.size = n + 1 := by
      have c := pc.length_eq
      rw [List.length_cons, Array.length_toList, Array.length_toList, r.cnt] at c
      exact c
    have few : ys.size < scanBound := by omega
    have row : ∀ e ∈ ys.toList, TxRow w e := fun e he => by
      rcases List.mem_cons.mp (pc.mem_iff.mp he) with c | c
      · exact ⟨x, tk, by rw [c], by rw [c]; rfl⟩
      · exact r.row e c
    have nd : (ys.toList.map txOf).Nodup := pk.nodup_iff.mpr (List.nodup_cons.mpr ⟨nx, r.nd⟩)
    have mem : ∀ y, (T y || decide (y = x)) = true ↔ y ∈ ys.toList.map txOf := fun y => by
      rw [pk.mem_iff, List.mem_cons, Bool.or_eq_true, decide_eq_true_eq, r.mem y]
      exact Or.comm
    have led : w.params.followText "set-order" = true ∨ u.led = true := r.led.imp id fun c => y4.trans c
    have fin : ∀ h', Heap.SameBut a s.heap h' → STx w h' a (fun y => T y || decide (y = x)) ys.size → Q true { s with heap := h' } := fun h' sb c => by
      have z := k h' sb
      rw [hx] at z
      rw [sz] at c
      exact z c
    refine wpAny_bind (gw _ ?_)
    split
    · rw [hashByValue_scannable 8 sc]
      refine wpAny_bind (wpAny_pure ?_)
      refine stx_tail ?_ r.at_ r.ex r.dt row nd mem few ?_ ?_ ?_ ?_
      · intro b z Z c; cases b <;> first | exact wpAny_pure c | exact wpAny_rule c
      · first | (split <;> first | exact y2 | exact SetTable.fits_plain_off y2) | exact y2
      · first | (split <;> exact y3) | exact y3
      · first | (split <;> exact led) | exact led
      · intro h' sb c; dsimp only; exact wpAny_pure (fin h' sb c)
    · refine wpAny_bind (wpAny_pure ?_)
      simp only [↓reduceIte]
      refine stx_tail ?_ r.at_ r.ex r.dt row nd mem few y2 y3 led ?_
      · intro b z Z c; cases b <;> first | exact wpAny_pure c | exact wpAny_rule c
      · intro h' sb c; dsimp only; exact wpAny_pure (fin h' sb c)
theorem stx_none {o : Addr} (e : h.get? o = some { cls := .type "set", dict := none, data := .set #[] 0 (.fresh 0 0 (!w.params.followText "set-order")) }) : STx w h o (fun _ => false) 0 := by
  refine ⟨_, #[], 0, _, e, ⟨rfl, rfl, rfl⟩, rfl, fun e he => (by simp at he), (by simp), fun x => (by simp), (by decide), (by rfl), rfl, List.Pairwise.nil, ?_⟩
  show _ ∨ (!w.params.followText "set-order") = true
  cases w.params.followText "set-order" <;> simp
theorem snoc_ind {α : Type} {motive : List α → Prop} (h0 : motive []) (h1 : ∀ r x, motive r → motive (r ++ [x])) (l : List α) : motive l := by
  rw [← List.reverse_reverse l]
  induction l.reverse with
  | nil => exact h0
  | cons x r ih =>
    rw [List.reverse_cons]
    exact h1 _ _ ih
/-- the unlike ones of a list of texts, in turn -/
def dedT (xs : List Str) : List Str := xs.foldl (fun acc x => if x ∈ acc then acc else acc ++ [x]) []
theorem ded_snoc {xs : List Str} {x : Str} : dedT (xs ++ [x]) = if x ∈ dedT xs then dedT xs else dedT xs ++ [x] := by
  unfold dedT
  rw [List.foldl_append]
  rfl
theorem ded_mem (xs : List Str) (y : Str) : y ∈ dedT xs ↔ y ∈ xs := by
  induction xs using snoc_ind with
  | h0 => exact Iff.rfl
  | h1 r x ih =>
    rw [ded_snoc, List.mem_append, List.mem_singleton]
    split
    · rename_i hx
      constructor
      · exact fun q => .inl (ih.mp q)
      · rintro (q | rfl)
        · exact ih.mpr q
        · exact hx
    · rw [List.mem_append, List.mem_singleton, ih]
theorem ded_nodup (xs : List Str) : (dedT xs).Nodup := by
  induction xs using snoc_ind with
  | h0 => exact List.nodup_nil
  | h1 r x ih =>
    rw [ded_snoc]
    split
    · exact ih
    · rename_i hx
      exact nodup_snoc ih hx
theorem ded_len (xs : List Str) : (dedT xs).length ≤ xs.length := by
  induction xs using snoc_ind with
  | h0 => exact Nat.le_refl _
  | h1 r x ih =>
    rw [ded_snoc, List.length_append, List.length_singleton]
    split
    · omega
    · rw [List.length_append, List.length_singleton]
      omega
theorem ded_self {xs : List Str} (h : xs.Nodup) : dedT xs = xs := by
  induction xs using snoc_ind with
  | h0 => rfl
  | h1 r x ih =>
    rw [List.nodup_append] at h
    have hx : x ∉ r := fun z => h.2.2 x z x (by simp) rfl
    rw [ded_snoc, ih h.1, if_neg hx]
/-- all of a list put in -/
theorem stx_loop {I : Addr} {fp wr : List Addr} {G : Array GenState → Array GenState → Prop} {m : Nat} {Pv : Nat → Value → Prop} {St : Nat → Shared → Prop} {Z : Result → Shared → Prop} (W : WalksS P w A.in1 I fp wr G m Pv St) (D : Addr) (hD : D ∉ fp) (xs : List Str) (hm : m = xs.length) (few : xs.length + 1 < scanBound) (val : ∀ i v, Pv i v → ∃ z t, xs[i]? = some z ∧ v = .str z t) :
    ∀ (j i : Nat) (s : Shared), m - i = j → i ≤ m → St i s → STx w s.heap D (fun y => decide (y ∈ xs.take i)) (dedT (xs.take i)).length → (∀ s', Moved (D :: wr) G s s' → STx w s'.heap D (fun y => decide (y ∈ xs)) (dedT xs).length → Z (.ok (.ret .none)) s') →
      codeAny (model P w) A (.builtin "set.update.loop" ⟨[.ref D, .ref I], []⟩) Z s := by
  have out : D ∉ wr := fun q => hD (W.sub _ q)
  have more : ∀ b ∈ wr, b ∈ D :: wr := fun b q => List.mem_cons_of_mem _ q
  intro j
  induction j with
  | zero =>
    intro i s hj hi hst hS k
    obtain rfl : i = m := by omega
    refine codeAny_builtin PyProof.Rows.F.entry_set_update_loop ?_
    rw [Around.under_plainId PyProof.Rows.F.plain_set_update_loop _]
    show wpAny _ A.in1 (pyNext (.ref I) >>= _) _ _ s
    refine wpAny_bind (W.done s _ _ hst fun s' mv => ?_)
    show wpAny _ A.in1 (ret Value.none) _ _ s'
    rw [List.take_of_length_le (by omega)] at hS
    exact wpAny_pure (k s' (mv.mono more) (hS.keep fun o e => mv.heap D o out e))
  | succ j ih =>
    intro i s hj hi hst hS k
    refine codeAny_builtin PyProof.Rows.F.entry_set_update_loop ?_
    rw [Around.under_plainId PyProof.Rows.F.plain_set_update_loop _]
    show wpAny _ A.in1 (pyNext (.ref I) >>= _) _ _ s
    refine wpAny_bind (W.item i s _ _ (by omega) hst fun v s' hP hst' mv => ?_)
    obtain ⟨z, t, hz, rfl⟩ := val i v hP
    have hS' := hS.keep fun o e => mv.heap D o out e
    show wpAny _ A.in1 (holding [Value.str z t] (setAdd D (.str z t)) >>= _) _ _ s'
    refine wpAny_bind (wpAny_holding ?_)
    unfold setAdd
    refine wpAny_holding (wpAny_bind ((PySem.strKind P w).pyHash (k := z) (strKind_is _ _ _ _) ?_))
    have cnt := ded_len (xs.take i)
    rw [List.length_take] at cnt
    refine stx_add (s := { s' with toks := s'.toks + 1 }) hS' (by omega) fun h' sb hS2 => ?_
    have hS3 : STx w h' D (fun y => decide (y ∈ xs.take (i + 1))) (dedT (xs.take (i + 1))).length := hS2.like (fun y => by
      rw [take_snoc hz]
      simp [List.mem_append]) (by
      rw [take_snoc hz, ded_snoc]
      by_cases c : z ∈ xs.take i
      · rw [if_pos ((ded_mem _ _).mpr c), if_pos (decide_eq_true c)]
      · rw [if_neg (fun q => c ((ded_mem _ _).mp q)), if_neg (by rw [decide_eq_false c]; exact Bool.false_ne_true), List.length_append]
        rfl)
    refine wpAny_pure ⟨plainId_quiet PyProof.Rows.F.plain_set_update_loop _, ih (i + 1) _ (by omega) (by omega) (W.frame _ s' _ _ hst' (Nat.le_succ _) fun b hb o e => ?_) hS3 fun s'' mv2 hS4 => ?_⟩
    · rw [sb.2 b (fun q : b = D => hD (q ▸ hb))]
      exact e
    · refine k s'' (Moved.trans W.gtrans ((mv.mono more).then_heap (Nat.le_succ _) fun b o hb e => ?_) mv2) hS4
      rw [sb.2 b (fun q : b = D => hb (by rw [q]; exact List.mem_cons_self))]
      exact e
end
end B

set_option Elab.async false
set_option linter.all false
set_option maxRecDepth 100000
set_option maxHeartbeats 4000000
namespace B
open PySem PySem.Spec PyProof.Rows L2
section
variable {P : Program} {w : World} {A : Around} {E : Value → Shared → Prop} {s : Shared}
abbrev noneSet (w : World) : Obj := { cls := .type "set", dict := none, data := .set #[] 0 (.fresh 0 0 (!w.params.followText "set-order")) }
theorem txt_at : ∀ {us : List Value} {xs : List Str}, StrsAre us xs → ∀ (i : Nat) (v : Value), us[i]? = some v → ∃ z t, xs[i]? = some z ∧ v = .str z t
  | _, _, .nil, i, v, h => by simp at h
  | _, _, .cons z t r, 0, v, h => by
    rw [List.getElem?_cons_zero] at h
    exact ⟨z, t, rfl, (Option.some.inj h).symm⟩
  | _, _, .cons z t r, i + 1, v, h => by
    rw [List.getElem?_cons_succ] at h
    obtain ⟨y, u, h1, h2⟩ := txt_at r i v h
    exact ⟨y, u, by rw [List.getElem?_cons_succ]; exact h1, h2⟩
/-- set(list of texts) -/
theorem stx_of {l : Addr} {items : Array Value} (xs : List Str) {Q : Value → Shared → Prop} (hh : A.handled = none) (hl : s.heap.IsList l items) (hit : StrsAre items.toList xs) (few : xs.length + 1 < scanBound)
    (k : ∀ (h' : Heap) (tk : Nat), STx w h' s.heap.objs.size (fun y => decide (y ∈ xs)) (dedT xs).length → (∀ b o, s.heap.get? b = some o → h'.get? b = some o) → Q (.ref s.heap.objs.size) { s with heap := h', toks := tk }) :
    wpAny (model P w) A (call (.type "set") [.ref l]) Q E s := by
  have sz : items.size = xs.length := by
    have q := StrsAre.len_eq hit
    rw [Array.length_toList] at q
    exact q
  have made := PySem.F.called_set.made
  have sub := PySem.F.called_set.sub
  obtain ⟨c, tl, mro⟩ := PySem.F.called_set.mro
  refine wpAny_call (codeAny_of_tree ?_)
  show wpAny _ _ (callAny (.type "set") _) _ _ _
  refine wpAny_pure ⟨Code.quiet_builtin _ (by decide +kernel), codeAny_builtin PySem.F.entry_type_call ?_⟩
  rw [Around.under_plain (weight_type_call_type "set" [.ref l] []) rfl]
  have y1 := PySem.F.called_set.notType
  have y2 := PySem.F.called_set.canCreate
  have y3 := PySem.F.typeCall_set_1 (.ref l)
  repeat (any_goals (first | assumption | wp_step))
  refine codeAny_mono (L2.code_set_led1 (.ref l) (E := E) (Q₁ := fun v z => v = .ref s.heap.objs.size ∧ z = { s with heap := s.heap.push (noneSet w) }) ⟨rfl, rfl⟩) fun r z hr => ?_
  cases r with
  | error e => exact hr
  | ok fl =>
    cases fl with
    | ret v =>
      obtain ⟨rfl, rfl⟩ := hr
      have g0 : (s.heap.push (noneSet w)).get? s.heap.objs.size = some (noneSet w) := Heap.get?_push_size _ rfl
      have ty : Shared.TypeIs { s with heap := s.heap.push (noneSet w) } (.ref s.heap.objs.size) "set" := ⟨_, g0, rfl⟩
      have y4 := PySem.F.called_set.init.lookup
      have y5 := PySem.F.called_set.init.bind (.ref s.heap.objs.size)
      repeat (any_goals (first | assumption | wp_step))
      refine codeAny_mono (codeAny_call_builtin (R := wants (fun r u => r = .none ∧ ∃ h' tk, u = { s with heap := h', toks := tk } ∧ STx w h' s.heap.objs.size (fun y => decide (y ∈ xs)) (dedT xs).length ∧ ∀ b o, s.heap.get? b = some o → h'.get? b = some o) E) PySem.F.called_set.init.plain PySem.F.entry_set_init (check_set_init_1 ty ?_)) fun r2 u hr2 => ?_
      · obtain ⟨⟨ocls, odict, odata, oslots⟩, ol, hcl, nl, hdl⟩ := hl
        simp only at hcl hdl
        subst hcl hdl
        have ol2 : (s.heap.push (noneSet w)).get? l = some { cls := .type "list", dict := odict, data := .seq items nl, slots := oslots } := Heap.get?_push_of_some _ ol
        have y6 := PySem.F.sub_list_set
        have y7 := PySem.F.sub_list_frozenset
        have y8 : (Value.type "list" == Value.type "dict") = false := by decide
        have li : (s.heap.push (noneSet w)).IsList l items := ⟨_, ol2, rfl, nl, rfl⟩
        unfold Builtin.«set.__init__» noKeywords Builtin.Frozenset.updateFrom
        generalize hI : pyIter = itr
        wp_walk
        subst hI
        refine wpAny_pyIter_list li (wpAny_bind (wpAny_runValue ?_))
        have lt : l < s.heap.objs.size := Heap.lt_size ol
        have nI : l ≠ (s.heap.push (noneSet w)).objs.size := by
          rw [Heap.size_push]
          exact Nat.ne_of_lt (Nat.lt_succ_of_lt lt)
        have nS : s.heap.objs.size ∉ [(s.heap.push (noneSet w)).objs.size, l] := by
          rw [Heap.size_push, List.mem_cons, List.mem_singleton, not_or]
          exact ⟨Nat.ne_of_lt (Nat.lt_succ_self _), Nat.ne_of_gt lt⟩
        have val : ∀ (i : Nat) (v : Value), items[i]? = some v → ∃ z t, xs[i]? = some z ∧ v = .str z t := fun i v hv => by
          exact txt_at hit i v (by rw [Array.getElem?_toList]; exact hv)
        refine stx_loop ((Walks.list (show A.in1.in1.in1.handled = none by simp [hh]) _ l nI items).toS) s.heap.objs.size nS xs sz few val (items.size - 0) 0 _ (by omega) (Nat.zero_le _) ⟨⟨_, Heap.get?_push_size _ rfl, rfl, rfl⟩, (li.push _)⟩ ?first ?after
        case first => exact (stx_none (Heap.get?_push_of_some _ g0)).like (fun y => by simp) rfl
        case after =>
          intro z mv hS
          obtain ⟨h', g2, d', tk', os'⟩ := z
          obtain rfl : g2 = s.gens := mv.gens
          obtain rfl : d' = s.drawn := mv.drawn
          obtain rfl : os' = s.os := mv.os
          show wpAny _ _ _ _ _ _
          refine wpAny_pure ?_
          show wpAny _ _ (ret Value.none) _ _ _
          refine wpAny_pure ⟨rfl, h', tk', rfl, hS, fun b o e => ?_⟩
          have b0 : b < s.heap.objs.size := Heap.lt_size e
          refine mv.heap b o (fun q => ?_) (Heap.get?_push_of_some _ (Heap.get?_push_of_some _ e))
          rcases List.mem_cons.mp q with q | q
          · exact absurd b0 (by rw [q]; exact Nat.lt_irrefl _)
          · rw [List.mem_singleton, Heap.size_push] at q
            exact absurd b0 (by rw [q]; exact Nat.not_lt_of_le (Nat.le_succ _))
      · cases r2 with
        | error e => exact hr2
        | ok fl2 =>
          cases fl2 with
          | ret r =>
            obtain ⟨rfl, h', tk, rfl, hS, hk⟩ := hr2
            repeat (any_goals (first | assumption | wp_step))
            exact k _ _ hS hk
          | _ => exact hr2.elim
    | _ => exact hr.elim
theorem tx_strs : ∀ (l : List (Int × Value)), (∀ e ∈ l, TxRow w e) → StrsAre (l.map (·.2)) (l.map txOf)
  | [], _ => .nil
  | e :: r, h => by
    obtain ⟨z, t, h1, _⟩ := h e List.mem_cons_self
    have q := tx_strs r fun d hd => h d (List.mem_cons_of_mem _ hd)
    rw [List.map_cons, List.map_cons]
    have e1 : txOf e = z := by unfold txOf; rw [h1]
    rw [e1, h1]
    exact .cons z t q
def txtOf (v : Value) : Str := match v with
  | .str z _ => z
  | _ => Str.empty
theorem strs_txt : ∀ {us : List Value} {xs : List Str}, StrsAre us xs → us.map txtOf = xs
  | _, _, .nil => rfl
  | _, _, .cons z t h => by rw [List.map_cons, strs_txt h]; rfl
theorem strs_all : ∀ (us : List Value), (∀ v ∈ us, ∃ z t, v = Value.str z t) → StrsAre us (us.map txtOf)
  | [], _ => .nil
  | v :: r, h => by
    obtain ⟨z, t, rfl⟩ := h v List.mem_cons_self
    exact .cons z t (strs_all r fun u hu => h u (List.mem_cons_of_mem _ hu))
/-- sorted(set of texts) -/
theorem stx_sorted {a : Addr} {T : Str → Bool} {n : Nat} {Q : Value → Shared → Prop} (R : STx w s.heap a T n) (hh : A.handled = none)
    (k : ∀ s' p (out : Array Value) (c : Nat) (ys : List Str), (∀ b o, s.heap.get? b = some o → s'.heap.get? b = some o) → s'.gens = s.gens → s'.os = s.os → s.heap.objs.size ≤ p → s'.heap.get? p = some (seqObj "list" out c) → StrsAre out.toList ys → sortedS ys = true → ys.Nodup → (∀ y, y ∈ ys ↔ T y = true) → ys.length = n → Q (.ref p) s') :
    wpAny (model P w) A (call (.builtin "sorted") [.ref a]) Q E s := by
  obtain ⟨o, es, ep, t, r⟩ := R
  have fw := fits_of_scanBound r.few
  refine Calls.call_function_entry kind_sorted plain_sorted entry_sorted (args_sorted1 _) ?_
  unfold Builtin.«sorted»
  refine wpAny_bind (m := checkCount "sorted" 1 1 _) (wpAny_pure (wpAny_bind (L2.collect_set (A := A.in1) hh ⟨o, r.at_, r.ex.1, r.dt⟩ r.fit r.few r.ris r.led fun s1 vs k1 hz g1 o1 pm => ?_)))
  have vl : vs.length = es.size := by rw [pm.length_eq, List.length_map, Array.length_toList]
  have st := tx_strs es.toList r.row
  have sv : StrsAre vs (vs.map txtOf) := strs_all vs fun v hv => by
    obtain ⟨e, he, q⟩ := List.mem_map.mp (pm.mem_iff.mp hv)
    obtain ⟨z, t, h1, _⟩ := r.row e he
    exact ⟨z, t, by rw [← q]; exact h1⟩
  have pk : (vs.map txtOf).Perm (es.toList.map txOf) := by
    have q := pm.map txtOf
    rw [strs_txt st] at q
    exact q
  refine wpAny_bind (wpAny_newList ?_ (by rw [vl]; exact fw))
  have oL : (s1.heap.push (seqObj "list" vs.toArray 0)).get? s1.heap.objs.size = some (seqObj "list" vs.toArray 0) := Heap.get?_push_size _ rfl
  refine wpAny_bind (wpAny_holding (wpAny_call_entry slot_list_sort ⟨_, oL, rfl⟩ entry_list_sort (list_sort_treeKAny strKind_oneLt oL sv.keysOf (fun v₁ v₂ rest e => keyKind_strs (by rw [← e]; exact sv)) (by rw [vl]; exact fw) fun st' hp hs => ⟨_, rfl, ?_⟩) (args_list_sort _)))
  obtain ⟨ys, h1, h2, h3⟩ := sorted_out_str sv hp hs
  obtain ⟨c, hc⟩ := sortedHeap_at (vs := vs) (out := (arrOf st').map (·.2)) oL
  have py := h2.trans pk
  refine wpAny_pure ⟨_, rfl, k _ s1.heap.objs.size _ c ys (fun b u e => ?_) g1 o1 hz hc h1 h3 (py.nodup_iff.mpr r.nd) (fun y => by rw [py.mem_iff, ← r.mem y]) ?_⟩
  · have q := k1 b u e
    have lt := Heap.lt_size q
    show (sortedHeap (s1.heap.push (seqObj "list" vs.toArray 0)) s1.heap.objs.size vs _).get? b = some u
    rw [sortedHeap_old (Nat.ne_of_lt lt) (by rw [size_push']; exact Nat.lt_succ_of_lt lt)]
    exact Heap.get?_push_of_some _ q
  · rw [py.length_eq, List.length_map, Array.length_toList]
    exact r.cnt
end
/-! ### over the layer -/
def StxO (w : World) (a : Addr) (T : Str → Bool) (n : Nat) : HO := .ext fun h => STx w h a T n
theorem stxO_ok {w : World} {P : Program} {H : Hp} {h : Heap} {a : Addr} {T : Str → Bool} {n : Nat} (R : STx w h a T n) : ObjOk P w H h a (StxO w a T n) := by
  have ⟨o, _, _, _, r⟩ := R
  exact ⟨R, ⟨o, r.at_⟩, fun h1 h2 p k => STx.keep p k⟩
section
variable {X : Cx}
def rSetTx (K : PySem.W.Frag) (w : World) : List V → Hp → VK → Prop := fun xs H Q => ∃ (l : Addr) (zs : List Str), xs = [V.ref l] ∧ SqL K H l (zs.map V.str) ∧ zs.length + 1 < scanBound ∧ ∀ a, H a = none → Q (.ref a) (upd H a (StxO w a (fun y => decide (y ∈ zs)) (dedT zs).length))
theorem cr_setTx (hc : X.calm = true) : CallR X (.type "set") (rSetTx X.K X.w) := by
  intro pins s σ H xs us Q I r h
  obtain ⟨l, zs, rfl, hl, hf, q⟩ := h
  rw [Vals.ref1 r]
  obtain ⟨its, rv, pl, hz⟩ := I.list hl
  have hn : H s.heap.objs.size = none := I.hok.fresh (Nat.le_refl _)
  refine stx_of (P := X.prog) (w := X.w) zs (I.ok.hd hc) pl.isList (by simpa using rv.strs) hf fun h' tk R k => ?_
  exact ⟨.ref s.heap.objs.size, upd H s.heap.objs.size (StxO X.w s.heap.objs.size (fun y => decide (y ∈ zs)) (dedT zs).length), I.laid (t' := tk) k (Nat.le_refl _) (stxO_ok R), rfl, q _ hn⟩
def rSortedTx (w : World) : List V → Hp → VK → Prop := fun vs H Q => ∃ (a : Addr) (T : Str → Bool) (n : Nat), vs = [V.ref a] ∧ H a = some (StxO w a T n) ∧
  ∀ (ys : List Str) (p : Addr), sortedS ys = true → ys.Nodup → (∀ y, y ∈ ys ↔ T y = true) → ys.length = n → H p = none → Q (.ref p) (upd H p (.lst (ys.map V.str)))
theorem cr_sortedTx (hc : X.calm = true) : CallR X (.builtin "sorted") (rSortedTx X.w) := by
  intro pins s σ H vs us Q I r h
  obtain ⟨a, T, n, rfl, ha, q⟩ := h
  have R : STx X.w s.heap a T n := (I.hok a _ ha).1
  rw [Vals.ref1 r]
  obtain ⟨o0, es0, ep0, t0, r0⟩ := id R
  have fw := fits_of_scanBound r0.few
  refine stx_sorted R (I.ok.hd hc) fun s' p out c ys k g o hp hg hi hs hn hm hl => ?_
  have len : (ys.map V.str).length ≤ sizeLine := by
    rw [List.length_map, hl, ← r0.cnt]
    exact fw
  have fresh : H p = none := I.hok.fresh hp
  have J : Inv X pins σ (upd H p (.lst (ys.map V.str))) { s with heap := s'.heap, gens := s'.gens, drawn := s'.drawn, toks := s'.toks } :=
    I.call (ch := []) (Un.laid k hp fresh) (I.hok.laid k hp ⟨len, out.toList, c, vals_of_strs hi, hg⟩) (by rw [g]; exact I.bare) (fun _ z => nomatch z)
  have e : s' = { s with heap := s'.heap, gens := s'.gens, drawn := s'.drawn, toks := s'.toks } := by
    cases s'
    cases s
    cases o
    rfl
  rw [e]
  exact ⟨.ref p, _, J, rfl, q ys p hs hn hm hl fresh⟩
def rLenTx (w : World) : List V → Hp → VK → Prop := fun vs H Q => ∃ (a : Addr) (T : Str → Bool) (n : Nat), vs = [V.ref a] ∧ H a = some (StxO w a T n) ∧ Q (.int (n : Nat)) H
theorem call_lenTx : CallR X (.builtin "len") (rLenTx X.w) := by
  intro pins s σ H vs us Q I r h
  obtain ⟨a, T, n, rfl, ha, q⟩ := h
  obtain ⟨o, es, ep, t, r0⟩ := (show STx X.w s.heap a T n from (I.hok a _ ha).1)
  rw [Vals.ref1 r]
  have fw := fits_of_scanBound r0.few
  rw [sizeLine_eq] at fw
  refine PySem.call_len_set r0.at_ r0.ex r0.dt r0.fit (by omega) ?_
  rw [r0.cnt]
  exact ⟨.int ((n : Nat) : Int), H, I.tok _, ⟨_, rfl⟩, q⟩
end
end B

set_option Elab.async false
set_option linter.all false
set_option maxRecDepth 100000
set_option maxHeartbeats 4000000
namespace B
open PySem PySem.Spec PyProof.Rows L2
/-! ### a set of texts of two clauses without tests -/
abbrev SC2 (e t0 i0 t1 i1 : Expr) (sc : Scope) (po : Pos) : Expr := .SetComp e [⟨t0, i0, [], 0⟩, ⟨t1, i1, [], 0⟩] sc po
section
variable {P : Program} {w : World} {A : Around} {E : Value → Shared → Prop} {s : Shared} {a : Addr} {T : Str → Bool} {n : Nat}
theorem stx_call {x : Str} {tk : Tok} {Q : Value → Shared → Prop} (R : STx w s.heap a T n) (room : n + 1 < scanBound) (k : ∀ h', Heap.SameBut a s.heap h' → STx w h' a (fun y => T y || decide (y = x)) (if T x = true then n else n + 1) → Q .none { s with heap := h', toks := s.toks + 1 }) :
    wpAny (model P w) A (call (.builtin "set.add") [.ref a, .str x tk]) Q E s := by
  obtain ⟨o, es, ep, t, r⟩ := id R
  refine wpAny_call_entry PySem.F.slot_set_add ⟨o, r.at_, r.ex.1⟩ PySem.F.entry_set_add ?_ (PySem.F.args_set_add_2 _ _)
  unfold Builtin.«set.add» Builtin.Frozenset.oneOther Builtin.Frozenset.addrOf setAdd
  simp only [List.isEmpty_nil, bind_assoc]
  refine wpAny_bind (wpAny_pure ?_)
  refine wpAny_bind (wpAny_pure (wpAny_bind (wpAny_holding (wpAny_bind ((PySem.strKind P w).pyHash (k := x) (strKind_is _ _ _ _) ?_)))))
  exact stx_add (s := { s with toks := s.toks + 1 }) R room fun h' sb z => wpAny_pure ⟨_, rfl, k h' sb z⟩
theorem turn_first (e t0 i0 t1 i1 : Expr) (sc : Scope) (po : Pos) (I D : Value) (en : Env) :
    compTurn (SC2 e t0 i0 t1 i1 sc po) 0 I D en = (do
      standAt i0.pos
      match ← pyNext I with
      | none => pure (.done .next)
      | some v => do
        letOwnedTupleGo t0 I v
        assign t0 en v
        let x ← eval i1 en
        standAt i1.pos
        let y ← foldedSetIterable i1 en x
        let _ ← runOwn (.compStart (SC2 e t0 i0 t1 i1 sc po) 1 (← holding [y] (pyIter y)) D en) en
        again (.compLoop (SC2 e t0 i0 t1 i1 sc po) 0 I D en)) := by rfl
theorem turn_second (e t0 i0 t1 i1 : Expr) (sc : Scope) (po : Pos) (I D : Value) (en : Env) :
    compTurn (SC2 e t0 i0 t1 i1 sc po) 1 I D en = (do
      standAt i1.pos
      match ← pyNext I with
      | none => pure (.done .next)
      | some v => do
        letOwnedTupleGo t1 I v
        assign t1 en v
        (do let y ← eval e en; standAt e.pos; let _ ← call (.builtin "set.add") [D, y])
        again (.compLoop (SC2 e t0 i0 t1 i1 sc po) 1 I D en)) := by rfl
end
theorem st2_start {e t0 i0 t1 i1 : Expr} {sc : Scope} {po : Pos} {I D : Value} {en : Env} {P : Program} {w : World} {A : Around} {R : Result → Shared → Prop} {s : Shared} (go : codeAny (model P w) A (.compLoop (SC2 e t0 i0 t1 i1 sc po) 1 I D en) R s)
    (it : wpAny (model P w) A (pyIter I) (fun J s' => codeAny (model P w) A (.compLoop (SC2 e t0 i0 t1 i1 sc po) 1 J D en) R s') (notedBy (model P w) A en fun x s' => R (.error x) s') s) :
    codeAny (model P w) A (.compStart (SC2 e t0 i0 t1 i1 sc po) 1 I D en) R s := by
  refine codeAny_of_tree ?_
  show wpAny _ _ ((compStart (SC2 e t0 i0 t1 i1 sc po) 1 I D en).onRaise (fun x => do noteFrame x en; standAt theWindowsPlace)) _ _ s
  refine wpAny_notedAt ?_
  unfold compStart; show wpAny _ _ (ask >>= _) _ _ s
  refine wpAny_bind (wpAny_askSetting (wpAny_ite ?_))
  split
  · first | exact wpAny_bind (wpAny_pure (wpAny_pure (And.intro rfl go))) | exact wpAny_pure (And.intro rfl go)
  · refine wpAny_bind (wpAny_rule ?_)
    show wpAny _ _ (standAt i1.pos >>= _) _ _ s
    exact wpAny_bind (wpAny_standAt (wpAny_bind (wpAny_mono it (fun J s' h' => wpAny_pure (And.intro rfl h')) fun _ _ x => x)))
/-- what it comes to: D the new set, Nx the first loop's next turn, Ny the second's -/
def tSt2 (w : World) (wa : TI) (ga : TG) (wb : TI) (gb : TG) (te : TE) (va vb : List Nat) : TE := fun σ H Q => wa σ H fun J H1 => ∀ D, H1 D = none → ∃ W : Nat → Nat → Hp → Prop, (∃ m, W 0 m (upd H1 D (StxO w D (fun _ => false) 0))) ∧ ∀ i m H, W i m H →
  (J.stop i H ∧ Q (.ref D) H) ∨ (J.go i H ∧ ∃ Nx : Hp → Prop, (∀ H', Nx H' → ∃ m', m' < m ∧ W (i + 1) m' H') ∧ ∀ x H', J.yld i H x H' → ga x (wipe σ va) H' fun τ H2 => wipe τ va = wipe σ va ∧ wb τ H2 fun L H4 => ∃ U : Nat → Nat → Hp → Prop, (∃ m, U 0 m H4) ∧ ∀ j k H, U j k H →
    (L.stop j H ∧ Nx H) ∨ (L.go j H ∧ ∃ Ny : Hp → Prop, (∀ H', Ny H' → ∃ k', k' < k ∧ U (j + 1) k' H') ∧ ∀ x H', L.yld j H x H' → gb x (wipe τ vb) H' fun υ H5 => wipe υ vb = wipe τ vb ∧ te υ H5 fun y H7 =>
      ∃ (z : Str) (T : Str → Bool) (n : Nat), y = .str z ∧ H7 D = some (StxO w D T n) ∧ n + 1 < scanBound ∧ Ny (upd H7 D (StxO w D (fun y => T y || decide (y = z)) (if T z = true then n else n + 1)))))
section
variable {X : Cx}
/-- one text more, over the layer -/
theorem stx_put {pins : List (Addr × Obj)} {σ : L2.St} {H : Hp} {s : Shared} {E : Value → Shared → Prop} {D : Addr} {T : Str → Bool} {n : Nat} {x : Str} {v : Value} {Q : Value → Shared → Prop} (I : Inv X pins σ H s) (e : H D = some (StxO X.w D T n)) (room : n + 1 < scanBound) (rv : RelV (.str x) v)
    (k : ∀ s', Inv X pins σ (upd H D (StxO X.w D (fun y => T y || decide (y = x)) (if T x = true then n else n + 1))) s' → Q .none s') : wpAny (model X.prog X.w) X.A (call (.builtin "set.add") [.ref D, v]) Q E s := by
  obtain ⟨tk, rfl⟩ := rv
  refine stx_call (I.hok D _ e).1 room fun h' sb z => k _ ?_
  have ⟨o, _, _, _, r⟩ := id z
  exact I.write (e := D) (t' := s.toks + 1) (by rw [e]; trivial) (.inl rfl) (fun b u hb hu => (sb.2 b hb).trans hu) ⟨o, r.at_⟩ (stxO_ok z)
abbrev InBlk (X : Cx) (sc : Scope) (own : List (Str × Nat)) (p : Cx → Prop) : Prop := ∀ (s : Shared) (H : Hp) (C : Addr) (cl : List (Str × Addr)) (fp : List Addr), p (X.blk s H sc (compEnvC sc cl C X.env) fp)
theorem pe_st2 {e t0 i0 t1 i1 : Expr} {sc : Scope} {own : List (Str × Nat)} {vb : List Nat} {po : Pos} {wa wb : TI} {ga gb : TG} {te : TE} (calm : X.calm = true) (nn : X.N.Nodup) (p0 : PI X t0 i0 wa) (ok : BlkOk X.N X.env.scope sc own) (sub : ∀ i ∈ vb, i ∈ own.map (·.2))
    (q0 : InBlk X sc own fun Y => PG Y t0 ga) (p1 : InBlk X sc own fun Y => PI Y t1 i1 wb) (q1 : InBlk X sc own fun Y => PG Y t1 gb) (pv : InBlk X sc own fun Y => PE Y e te) (f0 : ∀ x, foldedSetIterable i0 X.env x = pure x := by intro _; rfl) (f1 : ∀ en x, foldedSetIterable i1 en x = pure x := by intro _ _; rfl) :
    PE X (SC2 e t0 i0 t1 i1 sc po) (tSt2 X.w wa ga wb gb te (own.map (·.2)) vb) := by
  refine ⟨fun pins s σ H Q I h => ?_⟩
  rw [show eval (SC2 e t0 i0 t1 i1 sc po) X.env = _ from PpSet.eval_SetComp _ _ _ _]
  have fr : ∀ y ∈ sc.names, y.2 = .free → ∃ c, X.env.cells.lookup y.1 = some c := fun y hy z => (ok.free y hy z).elim (fun k => I.ok.has _ (.inl k)) fun k => I.ok.has _ (.inr k)
  refine wpAny_comprehension_free (use := none) rfl f0 (closure_ok fr) ok.kind (fun y hy z => by rw [ok.uniq y hy, z]) (thn (p0.run pins s σ H _ I h) fun x1 s1 h1 => thn h1 fun x2 s2 h2 => ?_)
  obtain ⟨it, fp, tn, J, H2, rfl, I2, TR, st2, fo, q⟩ := h2
  refine PpSet.newSet_ok (newEnv_comp ?_)
  generalize hD : s2.heap.objs.size = D
  have dn : H2 D = none := I2.hok.fresh (Nat.le_of_eq hD)
  obtain ⟨W, ⟨m0, w0⟩, turn⟩ := q D dn
  generalize hs3 : ({ s2 with heap := s2.heap.push (noneSet X.w) } : Shared) = s3
  have e3 : s3.heap = s2.heap.push (noneSet X.w) := by rw [← hs3]
  generalize hH3 : upd H2 D (StxO X.w D (fun _ => false) 0) = H3 at w0
  have I3 : Inv X pins σ H3 s3 := by
    rw [← hs3, ← hH3]
    refine I2.laid (t' := s2.toks) (fun b o z => Heap.get?_push_of_some _ z) (Nat.le_of_eq hD) (stxO_ok (stx_none ?_))
    exact hD ▸ Heap.get?_push_size _ rfl
  have lt : ∀ b ∈ fp, b < s2.heap.objs.size := fun b hb => let ⟨o, z, _⟩ := TR.obj _ _ st2 b hb; Heap.lt_size z
  have f3 : ∀ b ∈ fp, FpOk X pins H3 b ∧ b < s3.heap.objs.size := fun b hb => ⟨⟨by rw [← hH3, upd_ne (by rw [← hD]; exact Nat.ne_of_lt (lt b hb))]; exact (fo b hb).1, (fo b hb).2⟩, by rw [e3, Heap.size_push]; exact Nat.lt_succ_of_lt (lt b hb)⟩
  have st3 : tn 0 s3.heap := TR.keep _ _ _ st2 fun b _ o z => by rw [e3, Heap.get?_push_of_some _ z]
  have I4 := block_start I3 ok nn f3
  have b0 := q0 s3 H3 s3.heap.objs.size (cellsFrom (s3.heap.objs.size + 1) sc.names (cloFrom X.env.cells sc.names [])) fp
  have b1 := p1 s3 H3 s3.heap.objs.size (cellsFrom (s3.heap.objs.size + 1) sc.names (cloFrom X.env.cells sc.names [])) fp
  have b2 := q1 s3 H3 s3.heap.objs.size (cellsFrom (s3.heap.objs.size + 1) sc.names (cloFrom X.env.cells sc.names [])) fp
  have b3 := pv s3 H3 s3.heap.objs.size (cellsFrom (s3.heap.objs.size + 1) sc.names (cloFrom X.env.cells sc.names [])) fp
  show codeAny _ _ (.compStart (SC2 e t0 i0 t1 i1 sc po) 0 (.ref it) (.ref D) (compEnvC sc (cellsFrom (s3.heap.objs.size + 1) sc.names (cloFrom X.env.cells sc.names [])) s3.heap.objs.size X.env)) (compPost (model X.prog X.w) X.A X.xe none _ (.ref D) s3.heap.objs.size) { s3 with heap := pushCells (s3.heap.push { cls := .type "dict", data := .dict #[] }) sc.names }
  have nf : ∀ b ∈ fp, H3 b = none := fun b hb => (f3 b hb).1.1
  generalize hce : compEnvC sc (cellsFrom (s3.heap.objs.size + 1) sc.names (cloFrom X.env.cells sc.names [])) s3.heap.objs.size X.env = ce at I4 b0 b1 b2 b3 ⊢
  have ec : ce.locals = s3.heap.objs.size := by rw [← hce]; rfl
  generalize hs4 : ({ s3 with heap := pushCells (s3.heap.push { cls := .type "dict", data := .dict #[] }) sc.names } : Shared) = s4 at I4 ⊢
  have st4 : tn 0 s4.heap := TR.keep _ _ _ st3 fun b _ o z => by rw [← hs4]; exact pushCells_keeps _ _ _ _ (Heap.get?_push_of_some _ z)
  have own0 : ∀ {τ : L2.St} {H' : Hp} {s' : Shared}, Inv (X.blk s3 H3 sc ce fp) [] τ H' s' → (∀ b ∈ fp, H' b = none) → ∀ b ∈ fp, FpOk (X.blk s3 H3 sc ce fp) [] H' b := fun {τ H' s'} I' hn b hb =>
    ⟨hn b hb, (I'.ok.exf b hb).1, I'.ok.exfs b hb, .inl hb, fun x c z => (I'.ok.exf b hb).2 x c z, fun p hp => absurd (show p ∈ ([] : List (Addr × Obj)) ++ [] from hp) (by simp)⟩
  generalize hR : compPost (model X.prog X.w) X.A X.xe none _ (.ref D) s3.heap.objs.size = R
  have loop : codeAny (model X.prog X.w) X.A (.compLoop (SC2 e t0 i0 t1 i1 sc po) 0 (.ref it) (.ref D) ce) R s4 := by
    refine codeAny_loop rfl (fun n s' => ∃ i H', Inv (X.blk s3 H3 sc ce fp) [] (wipe σ (own.map (·.2))) H' s' ∧ tn i s'.heap ∧ (∀ b ∈ fp, H' b = none) ∧ W i n H') ?_ m0 ⟨0, H3, I4, st4, nf, w0⟩
    rintro n s5 ⟨i, H5, I5, st5, n5, w5⟩
    show wpAny _ X.A ((compTurn (SC2 e t0 i0 t1 i1 sc po) 0 (.ref it) (.ref D) ce).onRaise (fun x => do noteFrame x ce; theTreesLotGoes x)) _ _ s5
    rw [turn_first]
    refine wpAny_noted (wpAny_bind (wpAny_standAt (wpAny_bind ?_)))
    rcases turn i n H5 w5 with ⟨stop, qq⟩ | ⟨go, Nx, hNx, step⟩
    · refine thnF (TR.done (X.blk s3 H3 sc ce fp) rfl rfl rfl calm i [] s5 _ H5 (fun _ _ => False) I5 (own0 I5 n5) st5 stop) fun r s6 ⟨hr, I6⟩ => ?_
      subst hr
      rw [← hR]
      have I7 : Inv X pins σ H5 s6 := I3.call' (ch := fp) I6.os I6.base I6.hok I6.bare fun b hb => let z := (f3 b hb).1; ⟨z.2.2.2.1, z.2.1, z.2.2.2.2.1, z.2.2.2.2.2⟩
      have fr0 : H5 ce.locals = none := I6.free
      rw [ec] at fr0
      obtain ⟨m, hm, _⟩ := I6.loc
      have hm : s6.heap.Ns ce.locals m := hm
      rw [ec] at hm
      obtain ⟨c0, c1, c2, c3, c4, c5⟩ := I3.fpOk (Nat.le_refl _) fr0
      refine wpAny_pure ⟨m, hm, fun h'' sb => ?_⟩
      exact ⟨.ref D, H5, I7.turned (t' := s6.toks) (fun b o hb z => (sb.2 b hb).trans z) c0 c1 c3 c4 c5, rfl, qq⟩
    · refine thnF (TR.item (X.blk s3 H3 sc ce fp) rfl rfl rfl calm i [] s5 _ H5 (fun _ _ => False) I5 (own0 I5 n5) st5 go) fun r s6 ⟨u, hr, h6⟩ => ?_
      subst hr
      refine wpAny_bind (thnF h6 fun _ s7 ⟨x, H7, I7, r7, y7, st7, n7⟩ => ?_)
      have I8 := I7.pinned (own0 I7 n7) (TR.obj _ _ st7)
      refine wpAny_bind (thnF (b0.run _ s7 _ H7 x u _ I8 r7 (step x H7 y7)) fun _ s8 ⟨τ, H8, I9, hw, g8⟩ => ?_)
      have len8 : (wipe σ (own.map (·.2))).length = τ.length := by rw [← hw, wipe_length]
      refine wpAny_bind (thnF (b1.run _ s8 τ H8 _ I9 g8) fun xv s10 hx => ?_)
      refine wpAny_bind (wpAny_standAt (wpAny_bind (wpAny_of_eq (f1 ce xv) (wpAny_bind (wpAny_holding (thnF hx fun itv s11 h11 => ?_))))))
      refine wpAny_bind (wpAny_runOwn ?_)
      rw [Around.mark_none]
      obtain ⟨jt, fq, tm, L, H11, rfl, I11, TL, st11, fo1, U, ⟨k0, u0⟩, turn1⟩ := h11
      have keep9 : ∀ (j : Nat) v, (wipe σ (own.map (·.2)))[j]? = some (some v) → (wipe τ vb)[j]? = some (some v) := fun j v z => by
        rw [← hw] at z
        obtain ⟨z1, z2⟩ := wipe_some z
        rw [wipe_out fun y => z2 (sub j y)]
        exact z1
      have own1 : ∀ {H' : Hp}, (∀ b ∈ fq, H' b = none) → ∀ b ∈ fq, FpOk (X.blk s3 H3 sc ce fp) ([] ++ pinsAt fp s7.heap) H' b := fun hn b hb => ⟨hn b hb, (fo1 b hb).2⟩
      have mid : codeAny (model X.prog X.w) X.A (.compLoop (SC2 e t0 i0 t1 i1 sc po) 1 (.ref jt) (.ref D) ce) (fun r s' => match r with
          | .ok _ => ∃ m, m < n ∧ ∃ i H', Inv (X.blk s3 H3 sc ce fp) [] (wipe σ (own.map (·.2))) H' s' ∧ tn i s'.heap ∧ (∀ b ∈ fp, H' b = none) ∧ W i m H'
          | .error _ => False) s11 := by
        refine codeAny_loop rfl (fun k s' => ∃ j H', Inv (X.blk s3 H3 sc ce fp) ([] ++ pinsAt fp s7.heap) (wipe τ vb) H' s' ∧ tm j s'.heap ∧ (∀ b ∈ fq, H' b = none) ∧ U j k H') ?_ k0 ⟨0, H11, I11.weak (wipe_length _ _) (fun j v z => (wipe_some z).1), st11, fun b hb => (fo1 b hb).1, u0⟩
        rintro k s12 ⟨j, H12, I12, st12, n12, u12⟩
        show wpAny _ X.A ((compTurn (SC2 e t0 i0 t1 i1 sc po) 1 (.ref jt) (.ref D) ce).onRaise (fun x => do noteFrame x ce; theTreesLotGoes x)) _ _ s12
        rw [turn_second]
        refine wpAny_noted (wpAny_bind (wpAny_standAt (wpAny_bind ?_)))
        rcases turn1 j k H12 u12 with ⟨stop1, nx⟩ | ⟨go1, Ny, hNy, step1⟩
        · refine thnF (TL.done (X.blk s3 H3 sc ce fp) rfl rfl rfl calm j _ s12 (wipe τ vb) H12 (fun _ _ => False) I12 (own1 n12) st12 stop1) fun r s13 ⟨hr, I13⟩ => ?_
          subst hr
          obtain ⟨m', lm, w'⟩ := hNx _ nx
          have pins' : ∀ b ∈ fp, ∀ o, s7.heap.get? b = some o → s13.heap.get? b = some o ∧ H12 b = none := fun b hb o z => let y := I13.pin (b, o) (List.mem_append_right _ (List.mem_append_right _ (mem_pinsAt hb z))); ⟨y.1, y.2.1⟩
          refine wpAny_pure ⟨m', lm, i + 1, H12, (I13.unpinned (pins := [])).weak (len8.trans (wipe_length τ vb).symm) keep9, TR.keep _ _ _ st7 fun b hb o z => (pins' b hb o z).1, fun b hb => ?_, w'⟩
          exact let ⟨o, z, _⟩ := TR.obj _ _ st7 b hb; (pins' b hb o z).2
        · refine thnF (TL.item (X.blk s3 H3 sc ce fp) rfl rfl rfl calm j _ s12 (wipe τ vb) H12 (fun _ _ => False) I12 (own1 n12) st12 go1) fun r s13 ⟨u1, hr, h13⟩ => ?_
          subst hr
          refine wpAny_bind (thnF h13 fun _ s14 ⟨x1, H14, I14, r14, y14, st14, n14⟩ => ?_)
          have I15 := I14.pinned (own1 n14) (TL.obj _ _ st14)
          refine wpAny_bind (thnF (b2.run _ s14 (wipe τ vb) H14 x1 u1 _ I15 r14 (step1 x1 H14 y14)) fun _ s15 ⟨υ, H15, I16, hw1, g15⟩ => ?_)
          refine wpAny_bind (wpAny_bind (thnF (b3.run _ s15 υ H15 _ I16 g15) fun z s17 ⟨yv, H17, I17, r17, zx, T, nT, ey, d17, room, nx⟩ => ?_))
          subst ey
          refine wpAny_bind (wpAny_standAt (wpAny_bind (stx_put (X := X.blk s3 H3 sc ce fp) I17 d17 room r17 fun s18 I18 => ?_)))
          obtain ⟨k', lk, u'⟩ := hNy _ nx
          have pins' : ∀ b ∈ fq, ∀ o, s14.heap.get? b = some o → s18.heap.get? b = some o ∧ _ := fun b hb o z => let y := I18.pin (b, o) (List.mem_append_right _ (List.mem_append_right _ (mem_pinsAt hb z))); ⟨y.1, y.2.1⟩
          refine wpAny_pure (wpAny_pure ⟨rfl, k', lk, j + 1, _, I18.unpinned.weak (by rw [← hw1, wipe_length]) (fun j v z => (wipe_some (hw1.symm ▸ z)).1), TL.keep _ _ _ st14 fun b hb o z => (pins' b hb o z).1, fun b hb => ?_, u'⟩)
          exact let ⟨o, z, _⟩ := TL.obj _ _ st14 b hb; (pins' b hb o z).2
      refine codeAny_mono (st2_start mid (TL.self X.A 0 _ _ _ st11 mid)) fun r s' hr => ?_
      cases r with
      | ok f => exact wpAny_bind (wpAny_pure (wpAny_pure ⟨rfl, hr⟩))
      | error z => exact hr.elim
  exact PpSet.codeAny_compStart_set loop (TR.self X.A 0 _ _ _ st4 loop)
end
/-- a walk over a list told by what holds at its turns; B: what a turn comes to -/
theorem walk_lst {K : PySem.W.Frag} {a : Addr} {xs : List V} {H0 : Hp} {Qd : Hp → Prop} {B : V → Hp → (Hp → Prop) → Prop} (Pv : Nat → Hp → Prop) (h0 : Pv 0 H0) (hl : ∀ i H, i ≤ xs.length → Pv i H → SqL K H a xs) (hs : ∀ i x H, xs[i]? = some x → Pv i H → B x H (Pv (i + 1))) (hd : ∀ H, Pv xs.length H → Qd H) :
    ∃ W : Nat → Nat → Hp → Prop, (∃ m, W 0 m H0) ∧ ∀ i m H, W i m H → ((Itl K a).stop i H ∧ Qd H) ∨ ((Itl K a).go i H ∧ ∃ Nx : Hp → Prop, (∀ H', Nx H' → ∃ m', m' < m ∧ W (i + 1) m' H') ∧ ∀ x H', (Itl K a).yld i H x H' → B x H' Nx) := by
  refine ⟨fun i m H => i + m = xs.length ∧ Pv i H, ⟨xs.length, by omega, h0⟩, fun i m H h => ?_⟩
  obtain ⟨e, p⟩ := h
  cases hx : xs[i]? with
  | none => exact .inl ⟨⟨xs, hl i H (by omega) p, List.getElem?_eq_none_iff.mp hx⟩, hd H (by rw [show xs.length = i by have := List.getElem?_eq_none_iff.mp hx; omega]; exact p)⟩
  | some x =>
    have lt := (List.getElem?_eq_some_iff.mp hx).1
    refine .inr ⟨⟨xs, x, hl i H (by omega) p, hx⟩, Pv (i + 1), fun H' p' => ⟨m - 1, by omega, by omega, p'⟩, fun y H' z => ?_⟩
    obtain ⟨rfl, z⟩ := z
    exact hs i y _ (z xs (hl i _ (by omega) p)) p
theorem walk_rng {lo : Int} {n : Nat} {H0 : Hp} {Qd : Hp → Prop} {B : V → Hp → (Hp → Prop) → Prop} (Pv : Nat → Hp → Prop) (h0 : Pv 0 H0) (hs : ∀ i H, i < n → Pv i H → B (.int (lo + i)) H (Pv (i + 1))) (hd : ∀ H, Pv n H → Qd H) :
    ∃ W : Nat → Nat → Hp → Prop, (∃ m, W 0 m H0) ∧ ∀ i m H, W i m H → ((Itr lo n).stop i H ∧ Qd H) ∨ ((Itr lo n).go i H ∧ ∃ Nx : Hp → Prop, (∀ H', Nx H' → ∃ m', m' < m ∧ W (i + 1) m' H') ∧ ∀ x H', (Itr lo n).yld i H x H' → B x H' Nx) := by
  refine ⟨fun i m H => i + m = n ∧ Pv i H, ⟨n, by omega, h0⟩, fun i m H h => ?_⟩
  obtain ⟨e, p⟩ := h
  by_cases lt : i < n
  · refine .inr ⟨lt, Pv (i + 1), fun H' p' => ⟨m - 1, by omega, by omega, p'⟩, fun y H' z => ?_⟩
    obtain ⟨rfl, rfl⟩ := z
    exact hs i _ lt p
  · exact .inl ⟨Nat.le_of_not_lt lt, hd H (by rw [show n = i by omega]; exact p)⟩
end B

set_option Elab.async false
set_option linter.all false
set_option maxRecDepth 100000
set_option maxHeartbeats 4000000
namespace B
open PySem PySem.Spec PyProof.Rows L2
/-! ### a dict of two clauses without tests -/
abbrev DC2 (kx vx t0 i0 t1 i1 : Expr) (sc : Scope) (po : Pos) : Expr := .DictComp kx vx [⟨t0, i0, [], 0⟩, ⟨t1, i1, [], 0⟩] sc po
abbrev noneD : Obj := { cls := .type "dict", data := .dict #[] }
theorem turnD_first (kx vx t0 i0 t1 i1 : Expr) (sc : Scope) (po : Pos) (I : Value) (D : Addr) (en : Env) :
    compTurn (DC2 kx vx t0 i0 t1 i1 sc po) 0 I (.ref D) en = (do
      standAt i0.pos
      match ← pyNext I with
      | none => pure (.done .next)
      | some v => do
        letOwnedTupleGo t0 I v
        assign t0 en v
        let x ← eval i1 en
        standAt i1.pos
        let y ← foldedSetIterable i1 en x
        let _ ← runOwn (.compStart (DC2 kx vx t0 i0 t1 i1 sc po) 1 (← holding [y] (pyIter y)) (.ref D) en) en
        again (.compLoop (DC2 kx vx t0 i0 t1 i1 sc po) 0 I (.ref D) en)) := by rfl
theorem turnD_second (kx vx t0 i0 t1 i1 : Expr) (sc : Scope) (po : Pos) (I : Value) (D : Addr) (en : Env) :
    compTurn (DC2 kx vx t0 i0 t1 i1 sc po) 1 I (.ref D) en = (do
      standAt i1.pos
      match ← pyNext I with
      | none => pure (.done .next)
      | some v => do
        letOwnedTupleGo t1 I v
        assign t1 en v
        (do let y ← eval kx en; let z ← holding [y] (eval vx en); standAt { kx.pos with endLine := vx.pos.endLine, endCol := vx.pos.endCol }; holding [y, z] (dictSet D y z))
        again (.compLoop (DC2 kx vx t0 i0 t1 i1 sc po) 1 I (.ref D) en)) := by rfl
theorem dc2_start {kx vx t0 i0 t1 i1 : Expr} {sc : Scope} {po : Pos} {I D : Value} {en : Env} {P : Program} {w : World} {A : Around} {R : Result → Shared → Prop} {s : Shared} (go : codeAny (model P w) A (.compLoop (DC2 kx vx t0 i0 t1 i1 sc po) 1 I D en) R s)
    (it : wpAny (model P w) A (pyIter I) (fun J s' => codeAny (model P w) A (.compLoop (DC2 kx vx t0 i0 t1 i1 sc po) 1 J D en) R s') (notedBy (model P w) A en fun x s' => R (.error x) s') s) :
    codeAny (model P w) A (.compStart (DC2 kx vx t0 i0 t1 i1 sc po) 1 I D en) R s := by
  refine codeAny_of_tree ?_
  show wpAny _ _ ((compStart (DC2 kx vx t0 i0 t1 i1 sc po) 1 I D en).onRaise (fun x => do noteFrame x en; standAt theWindowsPlace)) _ _ s
  refine wpAny_notedAt ?_
  unfold compStart; show wpAny _ _ (ask >>= _) _ _ s
  refine wpAny_bind (wpAny_askSetting (wpAny_ite ?_))
  split
  · first | exact wpAny_bind (wpAny_pure (wpAny_pure (And.intro rfl go))) | exact wpAny_pure (And.intro rfl go)
  · refine wpAny_bind (wpAny_rule ?_)
    show wpAny _ _ (standAt i1.pos >>= _) _ _ s
    exact wpAny_bind (wpAny_standAt (wpAny_bind (wpAny_mono it (fun J s' h' => wpAny_pure (And.intro rfl h')) fun _ _ x => x)))
/-- what it comes to: D the new set, Nx the first loop's next turn, Ny the second's -/
def tDc2 (wa : TI) (ga : TG) (wb : TI) (gb : TG) (tk tv : TE) (va vb : List Nat) : TE := fun σ H Q => wa σ H fun J H1 => ∀ D, H1 D = none → ∃ W : Nat → Nat → Hp → Prop, (∃ m, W 0 m (upd H1 D (.dK []))) ∧ ∀ i m H, W i m H →
  (J.stop i H ∧ Q (.ref D) H) ∨ (J.go i H ∧ ∃ Nx : Hp → Prop, (∀ H', Nx H' → ∃ m', m' < m ∧ W (i + 1) m' H') ∧ ∀ x H', J.yld i H x H' → ga x (wipe σ va) H' fun τ H2 => wipe τ va = wipe σ va ∧ wb τ H2 fun L H4 => ∃ U : Nat → Nat → Hp → Prop, (∃ m, U 0 m H4) ∧ ∀ j k H, U j k H →
    (L.stop j H ∧ Nx H) ∨ (L.go j H ∧ ∃ Ny : Hp → Prop, (∀ H', Ny H' → ∃ k', k' < k ∧ U (j + 1) k' H') ∧ ∀ x H', L.yld j H x H' → gb x (wipe τ vb) H' fun υ H5 => wipe υ vb = wipe τ vb ∧ tk υ H5 fun y H6 => tv υ H6 fun z H7 =>
      ∃ (kvs : List (Key × V)) (k : Key), y = kV k ∧ H7 D = some (.dK kvs) ∧ kvs.length < sizeLine ∧ Ny (upd H7 D (.dK (putK kvs k z)))))
section
variable {X : Cx}
theorem pe_dc2 {kx vx t0 i0 t1 i1 : Expr} {sc : Scope} {own : List (Str × Nat)} {vb : List Nat} {po : Pos} {wa wb : TI} {ga gb : TG} {tk tv : TE} (calm : X.calm = true) (nn : X.N.Nodup) (p0 : PI X t0 i0 wa) (ok : BlkOk X.N X.env.scope sc own) (sub : ∀ i ∈ vb, i ∈ own.map (·.2))
    (q0 : InBlk X sc own fun Y => PG Y t0 ga) (p1 : InBlk X sc own fun Y => PI Y t1 i1 wb) (q1 : InBlk X sc own fun Y => PG Y t1 gb) (pk : InBlk X sc own fun Y => PE Y kx tk) (pv : InBlk X sc own fun Y => PE Y vx tv) (f0 : ∀ x, foldedSetIterable i0 X.env x = pure x := by intro _; rfl) (f1 : ∀ en x, foldedSetIterable i1 en x = pure x := by intro _ _; rfl) :
    PE X (DC2 kx vx t0 i0 t1 i1 sc po) (tDc2 wa ga wb gb tk tv (own.map (·.2)) vb) := by
  refine ⟨fun pins s σ H Q I h => ?_⟩
  rw [show eval (DC2 kx vx t0 i0 t1 i1 sc po) X.env = _ from arm_eval_DictComp _ _ _ _ _ _]
  have fr : ∀ y ∈ sc.names, y.2 = .free → ∃ c, X.env.cells.lookup y.1 = some c := fun y hy z => (ok.free y hy z).elim (fun k => I.ok.has _ (.inl k)) fun k => I.ok.has _ (.inr k)
  refine wpAny_comprehension_free (use := none) rfl f0 (closure_ok fr) ok.kind (fun y hy z => by rw [ok.uniq y hy, z]) (thn (p0.run pins s σ H _ I h) fun x1 s1 h1 => thn h1 fun x2 s2 h2 => ?_)
  obtain ⟨it, fp, tn, J, H2, rfl, I2, TR, st2, fo, q⟩ := h2
  refine wpAny_newObj_type (newEnv_comp ?_)
  generalize hD : s2.heap.objs.size = D
  have dn : H2 D = none := I2.hok.fresh (Nat.le_of_eq hD)
  obtain ⟨W, ⟨m0, w0⟩, turn⟩ := q D dn
  generalize hs3 : ({ s2 with heap := s2.heap.push noneD } : Shared) = s3
  have e3 : s3.heap = s2.heap.push noneD := by rw [← hs3]
  generalize hH3 : upd H2 D (.dK []) = H3 at w0
  have I3 : Inv X pins σ H3 s3 := by
    rw [← hs3, ← hH3]
    refine I2.laid (t' := s2.toks) (fun b o z => Heap.get?_push_of_some _ z) (Nat.le_of_eq hD) ?_
    exact hD ▸ dk_empty s2.heap I2.big
  have lt : ∀ b ∈ fp, b < s2.heap.objs.size := fun b hb => let ⟨o, z, _⟩ := TR.obj _ _ st2 b hb; Heap.lt_size z
  have f3 : ∀ b ∈ fp, FpOk X pins H3 b ∧ b < s3.heap.objs.size := fun b hb => ⟨⟨by rw [← hH3, upd_ne (by rw [← hD]; exact Nat.ne_of_lt (lt b hb))]; exact (fo b hb).1, (fo b hb).2⟩, by rw [e3, Heap.size_push]; exact Nat.lt_succ_of_lt (lt b hb)⟩
  have st3 : tn 0 s3.heap := TR.keep _ _ _ st2 fun b _ o z => by rw [e3, Heap.get?_push_of_some _ z]
  have I4 := block_start I3 ok nn f3
  have b0 := q0 s3 H3 s3.heap.objs.size (cellsFrom (s3.heap.objs.size + 1) sc.names (cloFrom X.env.cells sc.names [])) fp
  have b1 := p1 s3 H3 s3.heap.objs.size (cellsFrom (s3.heap.objs.size + 1) sc.names (cloFrom X.env.cells sc.names [])) fp
  have b2 := q1 s3 H3 s3.heap.objs.size (cellsFrom (s3.heap.objs.size + 1) sc.names (cloFrom X.env.cells sc.names [])) fp
  have b4 := pk s3 H3 s3.heap.objs.size (cellsFrom (s3.heap.objs.size + 1) sc.names (cloFrom X.env.cells sc.names [])) fp
  have b3 := pv s3 H3 s3.heap.objs.size (cellsFrom (s3.heap.objs.size + 1) sc.names (cloFrom X.env.cells sc.names [])) fp
  show codeAny _ _ (.compStart (DC2 kx vx t0 i0 t1 i1 sc po) 0 (.ref it) (.ref D) (compEnvC sc (cellsFrom (s3.heap.objs.size + 1) sc.names (cloFrom X.env.cells sc.names [])) s3.heap.objs.size X.env)) (compPost (model X.prog X.w) X.A X.xe none _ (.ref D) s3.heap.objs.size) { s3 with heap := pushCells (s3.heap.push { cls := .type "dict", data := .dict #[] }) sc.names }
  have nf : ∀ b ∈ fp, H3 b = none := fun b hb => (f3 b hb).1.1
  generalize hce : compEnvC sc (cellsFrom (s3.heap.objs.size + 1) sc.names (cloFrom X.env.cells sc.names [])) s3.heap.objs.size X.env = ce at I4 b0 b1 b2 b3 b4 ⊢
  have ec : ce.locals = s3.heap.objs.size := by rw [← hce]; rfl
  generalize hs4 : ({ s3 with heap := pushCells (s3.heap.push { cls := .type "dict", data := .dict #[] }) sc.names } : Shared) = s4 at I4 ⊢
  have st4 : tn 0 s4.heap := TR.keep _ _ _ st3 fun b _ o z => by rw [← hs4]; exact pushCells_keeps _ _ _ _ (Heap.get?_push_of_some _ z)
  have own0 : ∀ {τ : L2.St} {H' : Hp} {s' : Shared}, Inv (X.blk s3 H3 sc ce fp) [] τ H' s' → (∀ b ∈ fp, H' b = none) → ∀ b ∈ fp, FpOk (X.blk s3 H3 sc ce fp) [] H' b := fun {τ H' s'} I' hn b hb =>
    ⟨hn b hb, (I'.ok.exf b hb).1, I'.ok.exfs b hb, .inl hb, fun x c z => (I'.ok.exf b hb).2 x c z, fun p hp => absurd (show p ∈ ([] : List (Addr × Obj)) ++ [] from hp) (by simp)⟩
  generalize hR : compPost (model X.prog X.w) X.A X.xe none _ (.ref D) s3.heap.objs.size = R
  have loop : codeAny (model X.prog X.w) X.A (.compLoop (DC2 kx vx t0 i0 t1 i1 sc po) 0 (.ref it) (.ref D) ce) R s4 := by
    refine codeAny_loop rfl (fun n s' => ∃ i H', Inv (X.blk s3 H3 sc ce fp) [] (wipe σ (own.map (·.2))) H' s' ∧ tn i s'.heap ∧ (∀ b ∈ fp, H' b = none) ∧ W i n H') ?_ m0 ⟨0, H3, I4, st4, nf, w0⟩
    rintro n s5 ⟨i, H5, I5, st5, n5, w5⟩
    show wpAny _ X.A ((compTurn (DC2 kx vx t0 i0 t1 i1 sc po) 0 (.ref it) (.ref D) ce).onRaise (fun x => do noteFrame x ce; theTreesLotGoes x)) _ _ s5
    rw [turnD_first]
    refine wpAny_noted (wpAny_bind (wpAny_standAt (wpAny_bind ?_)))
    rcases turn i n H5 w5 with ⟨stop, qq⟩ | ⟨go, Nx, hNx, step⟩
    · refine thnF (TR.done (X.blk s3 H3 sc ce fp) rfl rfl rfl calm i [] s5 _ H5 (fun _ _ => False) I5 (own0 I5 n5) st5 stop) fun r s6 ⟨hr, I6⟩ => ?_
      subst hr
      rw [← hR]
      have I7 : Inv X pins σ H5 s6 := I3.call' (ch := fp) I6.os I6.base I6.hok I6.bare fun b hb => let z := (f3 b hb).1; ⟨z.2.2.2.1, z.2.1, z.2.2.2.2.1, z.2.2.2.2.2⟩
      have fr0 : H5 ce.locals = none := I6.free
      rw [ec] at fr0
      obtain ⟨m, hm, _⟩ := I6.loc
      have hm : s6.heap.Ns ce.locals m := hm
      rw [ec] at hm
      obtain ⟨c0, c1, c2, c3, c4, c5⟩ := I3.fpOk (Nat.le_refl _) fr0
      refine wpAny_pure ⟨m, hm, fun h'' sb => ?_⟩
      exact ⟨.ref D, H5, I7.turned (t' := s6.toks) (fun b o hb z => (sb.2 b hb).trans z) c0 c1 c3 c4 c5, rfl, qq⟩
    · refine thnF (TR.item (X.blk s3 H3 sc ce fp) rfl rfl rfl calm i [] s5 _ H5 (fun _ _ => False) I5 (own0 I5 n5) st5 go) fun r s6 ⟨u, hr, h6⟩ => ?_
      subst hr
      refine wpAny_bind (thnF h6 fun _ s7 ⟨x, H7, I7, r7, y7, st7, n7⟩ => ?_)
      have I8 := I7.pinned (own0 I7 n7) (TR.obj _ _ st7)
      refine wpAny_bind (thnF (b0.run _ s7 _ H7 x u _ I8 r7 (step x H7 y7)) fun _ s8 ⟨τ, H8, I9, hw, g8⟩ => ?_)
      have len8 : (wipe σ (own.map (·.2))).length = τ.length := by rw [← hw, wipe_length]
      refine wpAny_bind (thnF (b1.run _ s8 τ H8 _ I9 g8) fun xv s10 hx => ?_)
      refine wpAny_bind (wpAny_standAt (wpAny_bind (wpAny_of_eq (f1 ce xv) (wpAny_bind (wpAny_holding (thnF hx fun itv s11 h11 => ?_))))))
      refine wpAny_bind (wpAny_runOwn ?_)
      rw [Around.mark_none]
      obtain ⟨jt, fq, tm, L, H11, rfl, I11, TL, st11, fo1, U, ⟨k0, u0⟩, turn1⟩ := h11
      have keep9 : ∀ (j : Nat) v, (wipe σ (own.map (·.2)))[j]? = some (some v) → (wipe τ vb)[j]? = some (some v) := fun j v z => by
        rw [← hw] at z
        obtain ⟨z1, z2⟩ := wipe_some z
        rw [wipe_out fun y => z2 (sub j y)]
        exact z1
      have own1 : ∀ {H' : Hp}, (∀ b ∈ fq, H' b = none) → ∀ b ∈ fq, FpOk (X.blk s3 H3 sc ce fp) ([] ++ pinsAt fp s7.heap) H' b := fun hn b hb => ⟨hn b hb, (fo1 b hb).2⟩
      have mid : codeAny (model X.prog X.w) X.A (.compLoop (DC2 kx vx t0 i0 t1 i1 sc po) 1 (.ref jt) (.ref D) ce) (fun r s' => match r with
          | .ok _ => ∃ m, m < n ∧ ∃ i H', Inv (X.blk s3 H3 sc ce fp) [] (wipe σ (own.map (·.2))) H' s' ∧ tn i s'.heap ∧ (∀ b ∈ fp, H' b = none) ∧ W i m H'
          | .error _ => False) s11 := by
        refine codeAny_loop rfl (fun k s' => ∃ j H', Inv (X.blk s3 H3 sc ce fp) ([] ++ pinsAt fp s7.heap) (wipe τ vb) H' s' ∧ tm j s'.heap ∧ (∀ b ∈ fq, H' b = none) ∧ U j k H') ?_ k0 ⟨0, H11, I11.weak (wipe_length _ _) (fun j v z => (wipe_some z).1), st11, fun b hb => (fo1 b hb).1, u0⟩
        rintro k s12 ⟨j, H12, I12, st12, n12, u12⟩
        show wpAny _ X.A ((compTurn (DC2 kx vx t0 i0 t1 i1 sc po) 1 (.ref jt) (.ref D) ce).onRaise (fun x => do noteFrame x ce; theTreesLotGoes x)) _ _ s12
        rw [turnD_second]
        refine wpAny_noted (wpAny_bind (wpAny_standAt (wpAny_bind ?_)))
        rcases turn1 j k H12 u12 with ⟨stop1, nx⟩ | ⟨go1, Ny, hNy, step1⟩
        · refine thnF (TL.done (X.blk s3 H3 sc ce fp) rfl rfl rfl calm j _ s12 (wipe τ vb) H12 (fun _ _ => False) I12 (own1 n12) st12 stop1) fun r s13 ⟨hr, I13⟩ => ?_
          subst hr
          obtain ⟨m', lm, w'⟩ := hNx _ nx
          have pins' : ∀ b ∈ fp, ∀ o, s7.heap.get? b = some o → s13.heap.get? b = some o ∧ H12 b = none := fun b hb o z => let y := I13.pin (b, o) (List.mem_append_right _ (List.mem_append_right _ (mem_pinsAt hb z))); ⟨y.1, y.2.1⟩
          refine wpAny_pure ⟨m', lm, i + 1, H12, (I13.unpinned (pins := [])).weak (len8.trans (wipe_length τ vb).symm) keep9, TR.keep _ _ _ st7 fun b hb o z => (pins' b hb o z).1, fun b hb => ?_, w'⟩
          exact let ⟨o, z, _⟩ := TR.obj _ _ st7 b hb; (pins' b hb o z).2
        · refine thnF (TL.item (X.blk s3 H3 sc ce fp) rfl rfl rfl calm j _ s12 (wipe τ vb) H12 (fun _ _ => False) I12 (own1 n12) st12 go1) fun r s13 ⟨u1, hr, h13⟩ => ?_
          subst hr
          refine wpAny_bind (thnF h13 fun _ s14 ⟨x1, H14, I14, r14, y14, st14, n14⟩ => ?_)
          have I15 := I14.pinned (own1 n14) (TL.obj _ _ st14)
          refine wpAny_bind (thnF (b2.run _ s14 (wipe τ vb) H14 x1 u1 _ I15 r14 (step1 x1 H14 y14)) fun _ s15 ⟨υ, H15, I16, hw1, g15⟩ => ?_)
          refine wpAny_bind (wpAny_bind (thnF (b4.run _ s15 υ H15 _ I16 g15) fun z s16 ⟨yk, H16, J16, r16, g16⟩ => ?_))
          refine wpAny_bind (wpAny_holding (thnF (b3.run _ s16 υ H16 _ J16 g16) fun z2 s17 ⟨yv, H17, I17, r17, kvs, kk, ey, d17, room, nx⟩ => ?_))
          subst ey
          refine wpAny_bind (wpAny_standAt (wpAny_holding (d_dictSet (X := X.blk s3 H3 sc ce fp) I17 d17 room r16 r17 fun s18 I18 => ?_)))
          obtain ⟨k', lk, u'⟩ := hNy _ nx
          have pins' : ∀ b ∈ fq, ∀ o, s14.heap.get? b = some o → s18.heap.get? b = some o ∧ _ := fun b hb o z => let y := I18.pin (b, o) (List.mem_append_right _ (List.mem_append_right _ (mem_pinsAt hb z))); ⟨y.1, y.2.1⟩
          refine wpAny_pure ⟨rfl, k', lk, j + 1, _, I18.unpinned.weak (by rw [← hw1, wipe_length]) (fun j v z => (wipe_some (hw1.symm ▸ z)).1), TL.keep _ _ _ st14 fun b hb o z => (pins' b hb o z).1, fun b hb => ?_, u'⟩
          exact let ⟨o, z, _⟩ := TL.obj _ _ st14 b hb; (pins' b hb o z).2
      refine codeAny_mono (dc2_start mid (TL.self X.A 0 _ _ _ st11 mid)) fun r s' hr => ?_
      cases r with
      | ok f => exact wpAny_bind (wpAny_pure (wpAny_pure ⟨rfl, hr⟩))
      | error z => exact hr.elim
  exact codeAny_compStart_dict loop (TR.self X.A 0 _ _ _ st4 loop)
end
end B

set_option Elab.async false
set_option linter.all false
set_option maxRecDepth 100000
set_option maxHeartbeats 4000000
namespace B
open PySem PySem.Spec PyProof.Rows L2
open SX (S)
/-! ### what a walk has still to go to, and what it has behind it -/
/-- all with the one beginning stand ahead of all with the other -/
def LtP (p q : List Nat) : Prop := ∃ c u v, p = c ++ 48 :: u ∧ q = c ++ 49 :: v
theorem LtP.extL {p q a : List Nat} (h : LtP p q) : LtP (p ++ a) q := by
  obtain ⟨c, u, v, rfl, rfl⟩ := h
  exact ⟨c, u ++ a, v, by simp, rfl⟩
theorem LtP.extR {p q a : List Nat} (h : LtP p q) : LtP p (q ++ a) := by
  obtain ⟨c, u, v, rfl, rfl⟩ := h
  exact ⟨c, u, v ++ a, rfl, by simp⟩
theorem LtP.nilL {q : List Nat} : ¬ LtP [] q := by
  rintro ⟨c, u, v, h, _⟩
  cases c <;> cases h
theorem LtP.nilR {p : List Nat} : ¬ LtP p [] := by
  rintro ⟨c, u, v, _, h⟩
  cases c <;> cases h
theorem LtP.ne {p q : List Nat} (h : LtP p q) : p ≠ q := by
  obtain ⟨c, u, v, rfl, rfl⟩ := h
  intro e
  have := List.append_cancel_left e
  cases this
theorem LtP.split (l : List Nat) : LtP (l ++ [48]) (l ++ [49]) := ⟨l, [], [], rfl, rfl⟩
theorem starts_at {p : List Nat} {x : Str} (h : starts p x = true) {i : Nat} (hi : i < p.length) : x.cps.toList[i]? = p[i]? := by
  have e := of_decide_eq_true h
  have := congrArg (fun z : List Nat => z[i]?) e
  rw [List.getElem?_take_of_lt hi] at this
  exact this
theorem LtP.no {p q : List Nat} {x : Str} (h : LtP p q) (h1 : starts p x = true) (h2 : starts q x = true) : False := by
  obtain ⟨c, u, v, rfl, rfl⟩ := h
  have e1 := starts_at h1 (i := c.length) (by simp)
  have e2 := starts_at h2 (i := c.length) (by simp)
  rw [e1] at e2
  simp at e2
theorem starts_ext {l a : List Nat} {x : Str} (h : starts (l ++ a) x = true) : starts l x = true := by
  have e := of_decide_eq_true h
  refine decide_eq_true ?_
  have := congrArg (List.take l.length) e
  rw [List.take_take, List.take_left, List.length_append, Nat.min_eq_left (by omega)] at this
  exact this
theorem starts_num {W : Nat} {l : List Nat} {x : Str} (h : starts l x = true) (hx : Num W x) : ∃ a, x = S (l ++ a) ∧ (l ++ a).length = W ∧ Bits (l ++ a) := by
  obtain ⟨m, rfl, e, b⟩ := hx
  have z := of_decide_eq_true h
  rw [S_list] at z
  have em : l ++ m.drop l.length = m := by
    have := List.take_append_drop l.length m
    rw [z] at this
    exact this
  exact ⟨m.drop l.length, by rw [em], by rw [em]; exact e, by rw [em]; exact b⟩
theorem starts_full {W : Nat} {l : List Nat} {x : Str} (h : starts l x = true) (hx : Num W x) (hl : l.length = W) : x = S l := by
  obtain ⟨a, rfl, e, _⟩ := starts_num h hx
  rw [List.length_append] at e
  have : a = [] := List.length_eq_zero_iff.mp (by omega)
  rw [this, List.append_nil]
theorem starts_self {l : List Nat} : starts l (S l) = true := by
  refine decide_eq_true ?_
  rw [S_list, List.take_length]
theorem lt_app : ∀ (c : List Nat) {u v : List Nat}, c ++ 48 :: u ≤ c ++ 49 :: v
  | [], u, v => by
    rw [List.nil_append, List.nil_append, List.cons_le_cons_iff]
    exact .inl (by decide)
  | a :: c, u, v => by
    rw [List.cons_append, List.cons_append, List.cons_le_cons_iff]
    exact .inr ⟨rfl, lt_app c⟩
theorem LtP.le {p q : List Nat} (h : LtP p q) : leS (S p) (S q) := by
  obtain ⟨c, u, v, rfl, rfl⟩ := h
  unfold leS
  rw [S_list, S_list]
  exact lt_app c
/-- looked at ahead of -/
def Bef (l p : List Nat) : Prop := (∃ u, u ≠ [] ∧ p = l ++ u) ∨ LtP l p
theorem Bef.ext {l p a : List Nat} (h : Bef l p) : Bef l (p ++ a) := by
  rcases h with ⟨u, hu, rfl⟩ | h
  · exact .inl ⟨u ++ a, by simp [hu], by rw [List.append_assoc]⟩
  · exact .inr h.extR
theorem Bef.ne {l p : List Nat} (h : Bef l p) : l ≠ p := by
  rcases h with ⟨u, hu, rfl⟩ | h
  · intro e
    exact hu (List.self_eq_append_right.mp e)
  · exact h.ne
/-- where a walk goes still, the next one last -/
def pend (st : WkS) : List (List Nat) := match st.sd with
  | none => st.rest
  | some l => st.rest ++ [l]
/-- ever: all that may have been found; stay: all that must be found; cl: of each round that is over one of ever, that no other has -/
structure Wlk (ever stay : List Str) (st : WkS) (lm : List Str) (cl : List (List Nat)) : Prop where
  po : (pend st).Pairwise (fun a b => LtP b a)
  ff : st.found.Pairwise LtP
  fp : ∀ y ∈ st.found, ∀ p ∈ pend st, LtP y p
  fe : ∀ y ∈ st.found, S y ∈ ever
  pe : ∀ p ∈ pend st, p = [] ∨ ∃ x ∈ ever, starts p x = true
  pp : (st.paper.map (·.1)).Nodup
  pb : ∀ z ∈ st.paper, ∀ p ∈ pend st, Bef z.1 p
  cc : cl.Pairwise LtP
  ce : ∀ c ∈ cl, S c ∈ ever
  cp : ∀ c ∈ cl, ∀ p ∈ pend st, LtP c p
  ty : ∀ x ∈ stay, (∃ y ∈ st.found, S y = x) ∨ ∃ p ∈ pend st, starts p x = true
  tl : ∀ l, st.sd = some l → ∀ x ∈ stay, starts l x = true → x ∈ lm
  le : ∀ x ∈ lm, x ∈ ever
theorem Wlk.mono {ever stay ever' stay' : List Str} {st : WkS} {lm lm' : List Str} {cl : List (List Nat)} (h : Wlk ever stay st lm cl) (he : ∀ x ∈ ever, x ∈ ever') (hs : ∀ x ∈ stay', x ∈ stay) (hl : ∀ x ∈ lm', x ∈ lm) (ht : ∀ x ∈ stay', x ∈ lm → x ∈ lm') : Wlk ever' stay' st lm' cl := by
  obtain ⟨a1, a2, a3, a4, a5, a6, a7, a8, a9, b1, b2, b3, b4⟩ := h
  exact ⟨a1, a2, a3, fun y hy => he _ (a4 y hy), fun p hp => (a5 p hp).imp id fun ⟨x, hx, e⟩ => ⟨x, he x hx, e⟩, a6, a7, a8, fun c hc => he _ (a9 c hc), b1, fun x hx => b2 x (hs x hx), fun l e x hx hst => ht x hx (b3 l e x (hs x hx) hst), fun x hx => he x (b4 x (hl x hx))⟩
theorem wlk_new {ever stay : List Str} {kd : Str} : Wlk ever stay ⟨kd, [[]], none, [], []⟩ [] [] := by
  refine ⟨List.pairwise_singleton _ _, .nil, fun y hy => absurd hy (by simp), fun y hy => absurd hy (by simp), fun p hp => .inl (List.mem_singleton.mp hp), .nil, fun z hz => absurd hz (by simp), .nil, fun c hc => absurd hc (by simp), fun c hc => absurd hc (by simp), fun x hx => .inr ⟨[], List.mem_singleton.mpr rfl, decide_eq_true rfl⟩, fun l e => (by cases e), fun x hx => absurd hx (by simp)⟩
/-- how the claims stand to one another where something came of a round -/
def Clm (cl cl' : List (List Nat)) (st' : WkS) : Prop := cl'.length = cl.length + 1 ∨ (cl = [] ∧ cl' = [] ∧ st'.sd = none ∧ st'.rest = [] ∧ st'.found = [])
/-- what is said, complete or not -/
theorem wlk_over {W : Nat} {ever stay : List Str} {st : WkS} {l : List Nat} {lm : List Str} {cl : List (List Nat)} (h : Wlk ever stay { st with sd := some l } lm cl) (hW : 1 ≤ W) (hl : l.length ≤ W) (hev : ∀ x ∈ ever, Num W x) (hst : ∀ x ∈ stay, Num W x) :
    ∃ cl', Wlk ever stay (overF W st l).1 lm cl' ∧ ((overF W st l).2 = .no → cl' = cl) ∧ ((overF W st l).2 ≠ .no → Clm cl cl' (overF W st l).1) := by
  unfold overF
  split
  · exact ⟨cl, h, fun _ => rfl, fun z => absurd rfl z⟩
  · rename_i c
    have eW : l.length = W := by omega
    obtain ⟨a1, a2, a3, a4, a5, a6, a7, a8, a9, b1, b2, b3, b4⟩ := h
    have ep : pend { st with sd := some l } = st.rest ++ [l] := rfl
    rw [ep] at a1 a3 a5 a7 b1 b2
    have hin : l ∈ st.rest ++ [l] := by simp
    have hr : ∀ g ∈ st.rest, g ∈ st.rest ++ [l] := fun g hg => List.mem_append_left _ hg
    obtain ⟨p1, p2, p3⟩ := List.pairwise_append.mp a1
    have lne : l ≠ [] := fun e => by rw [e] at eW; simp at eW; omega
    have le : S l ∈ ever := by
      rcases a5 l hin with e | ⟨x, hx, e⟩
      · exact absurd e lne
      · rw [← starts_full e (hev x hx) eW]
        exact hx
    have lr : ∀ g ∈ st.rest, LtP l g := fun g hg => p3 g hg l (List.mem_singleton.mpr rfl)
    refine ⟨cl ++ [l], ⟨p1, List.pairwise_append.mpr ⟨a2, List.pairwise_singleton _ _, fun y hy z hz => by rw [List.mem_singleton.mp hz]; exact a3 y hy l hin⟩, fun y hy g hg => ?_, fun y hy => ?_, fun g hg => a5 g (hr g hg), a6, fun z hz g hg => a7 z hz g (hr g hg), List.pairwise_append.mpr ⟨a8, List.pairwise_singleton _ _, fun y hy z hz => by rw [List.mem_singleton.mp hz]; exact b1 y hy l hin⟩, fun c hc => ?_, fun c hc g hg => ?_, fun x hx => ?_, fun l' e => (by cases e), b4⟩, fun z => (by cases z), fun _ => .inl (by rw [List.length_append]; rfl)⟩
    · rcases List.mem_append.mp hy with z | z
      · exact a3 y z g (hr g hg)
      · rw [List.mem_singleton.mp z]
        exact lr g hg
    · rcases List.mem_append.mp hy with z | z
      · exact a4 y z
      · rw [List.mem_singleton.mp z]
        exact le
    · rcases List.mem_append.mp hc with z | z
      · exact a9 c z
      · rw [List.mem_singleton.mp z]
        exact le
    · rcases List.mem_append.mp hc with z | z
      · exact b1 c z g (hr g hg)
      · rw [List.mem_singleton.mp z]
        exact lr g hg
    · rcases b2 x hx with ⟨y, hy, e⟩ | ⟨p, hp, e⟩
      · exact .inl ⟨y, List.mem_append_left _ hy, e⟩
      · rcases List.mem_append.mp hp with z | z
        · exact .inr ⟨p, z, e⟩
        · rw [List.mem_singleton.mp z] at e
          exact .inl ⟨l, List.mem_append_right _ (by simp), (starts_full e (hst x hx) eW).symm⟩
/-- a look written down, a bit said -/
theorem wlk_bit {ever stay lm : List Str} {kd : Str} {rest found : List (List Nat)} {paper : List (List Nat × Bool × Bool)} {l : List Nat} {z o : Bool} {b : Nat} {W : Nat} {cl : List (List Nat)} (h : Wlk ever stay ⟨kd, rest, some l, found, paper⟩ lm cl) (hb : ∀ x ∈ lm, Beg W l x) (hl : l.length < W) (hst : ∀ x ∈ stay, Num W x)
    (hx : ∃ x ∈ lm, sg l.length b x = true) (hb2 : b = 48 ∨ b = 49) (only : ∀ x ∈ lm, sg l.length b x = true) : Wlk ever stay ⟨kd, rest, some (l ++ [b]), found, paper ++ [(l, z, o)]⟩ (lm.filter (sg l.length b)) cl := by
  obtain ⟨a1, a2, a3, a4, a5, a6, a7, a8, a9, b1, b2, b3, b4⟩ := h
  have ep : pend ⟨kd, rest, some l, found, paper⟩ = rest ++ [l] := rfl
  rw [ep] at a1 a3 a5 a7 b1 b2
  obtain ⟨p1, p2, p3⟩ := List.pairwise_append.mp a1
  have hin : l ∈ rest ++ [l] := by simp
  have lr : ∀ g ∈ rest, LtP l g := fun g hg => p3 g hg l (by simp)
  have to : ∀ {R : List Nat → Prop}, (∀ p ∈ rest ++ [l], R p) → (R l → R (l ++ [b])) → ∀ p ∈ rest ++ [l ++ [b]], R p := fun hR he p hp => by
    rcases List.mem_append.mp hp with q | q
    · exact hR p (List.mem_append_left _ q)
    · rw [List.mem_singleton.mp q]
      exact he (hR l hin)
  refine ⟨?_, a2, fun y hy => to (a3 y hy) fun q => q.extR, a4, to (R := fun p => p = [] ∨ ∃ x ∈ ever, starts p x = true) a5 fun _ => ?_, ?_, fun w hw => ?_, a8, a9, fun c hc => to (b1 c hc) fun q => q.extR, fun x hx => ?_, fun l' e x hx hs => ?_, fun x hx => b4 x (List.mem_filter.mp hx).1⟩
  · exact List.pairwise_append.mpr ⟨p1, List.pairwise_singleton _ _, fun g hg y hy => by rw [List.mem_singleton.mp hy]; exact (lr g hg).extL⟩
  · obtain ⟨x, hx1, hx2⟩ := hx
    refine .inr ⟨x, b4 x hx1, ?_⟩
    rw [starts_snoc, hx2, beg_st (hb x hx1)]
    rfl
  · rw [List.map_append]
    refine List.nodup_append.mpr ⟨a6, by simp, fun u hu v hv => ?_⟩
    obtain ⟨w, hw, rfl⟩ := List.mem_map.mp hu
    have hv' : v = l := by simpa using hv
    rw [hv']
    exact (a7 w hw l hin).ne
  · rcases List.mem_append.mp hw with q | q
    · exact to (a7 w q) fun z => z.ext
    · rw [List.mem_singleton.mp q]
      intro p hp
      rcases List.mem_append.mp hp with r | r
      · exact .inr (lr p r)
      · rw [List.mem_singleton.mp r]
        exact .inl ⟨[b], by simp, rfl⟩
  · rcases b2 x hx with q | ⟨p, hp, e⟩
    · exact .inl q
    · rcases List.mem_append.mp hp with r | r
      · exact .inr ⟨p, List.mem_append_left _ r, e⟩
      · rw [List.mem_singleton.mp r] at e
        refine .inr ⟨l ++ [b], List.mem_append_right _ (by simp), ?_⟩
        rw [starts_snoc, only x (b3 l rfl x hx e), e]
        rfl
  · cases e
    have := b3 l rfl x hx (starts_ext hs)
    exact List.mem_filter.mpr ⟨this, only x this⟩
/-- a look at which both are heard -/
theorem wlk_two {ever stay lm : List Str} {kd : Str} {rest found : List (List Nat)} {paper : List (List Nat × Bool × Bool)} {l : List Nat} {z o : Bool} {W : Nat} {cl : List (List Nat)} (h : Wlk ever stay ⟨kd, rest, some l, found, paper⟩ lm cl) (hb : ∀ x ∈ lm, Beg W l x) (hl : l.length < W) (hst : ∀ x ∈ stay, Num W x)
    (h0 : ∃ x ∈ lm, sg l.length 48 x = true) (h1 : ∃ x ∈ lm, sg l.length 49 x = true) : Wlk ever stay ⟨kd, rest ++ [l ++ [49]], some (l ++ [48]), found, paper ++ [(l, z, o)]⟩ (lm.filter (sg l.length 48)) cl := by
  obtain ⟨a1, a2, a3, a4, a5, a6, a7, a8, a9, b1, b2, b3, b4⟩ := h
  have ep : pend ⟨kd, rest, some l, found, paper⟩ = rest ++ [l] := rfl
  have ep' : pend ⟨kd, rest ++ [l ++ [49]], some (l ++ [48]), found, paper ++ [(l, z, o)]⟩ = rest ++ [l ++ [49]] ++ [l ++ [48]] := rfl
  rw [ep] at a1 a3 a5 a7 b1 b2
  obtain ⟨p1, p2, p3⟩ := List.pairwise_append.mp a1
  have hin : l ∈ rest ++ [l] := by simp
  have lr : ∀ g ∈ rest, LtP l g := fun g hg => p3 g hg l (by simp)
  have to : ∀ {R : List Nat → Prop}, (∀ p ∈ rest ++ [l], R p) → (R l → R (l ++ [49])) → (R l → R (l ++ [48])) → ∀ p ∈ rest ++ [l ++ [49]] ++ [l ++ [48]], R p := fun hR he he2 p hp => by
    rcases List.mem_append.mp hp with q | q
    · rcases List.mem_append.mp q with q | q
      · exact hR p (List.mem_append_left _ q)
      · rw [List.mem_singleton.mp q]
        exact he (hR l hin)
    · rw [List.mem_singleton.mp q]
      exact he2 (hR l hin)
  have ev : ∀ c, (∃ x ∈ lm, sg l.length c x = true) → ∃ x ∈ ever, starts (l ++ [c]) x = true := fun c ⟨x, hx1, hx2⟩ => ⟨x, b4 x hx1, by rw [starts_snoc, hx2, beg_st (hb x hx1)]; rfl⟩
  have bit : ∀ x ∈ stay, starts l x = true → sg l.length 48 x = true ∨ sg l.length 49 x = true := fun x hx _ => by
    obtain ⟨c, hc, g1, _⟩ := num_at (hst x hx) hl
    rcases hc with rfl | rfl
    · exact .inl (decide_eq_true g1)
    · exact .inr (decide_eq_true g1)
  refine ⟨?_, a2, fun y hy => ?_, a4, ?_, ?_, fun w hw => ?_, a8, a9, fun c hc => ?_, fun x hx => ?_, fun l' e x hx hs => ?_, fun x hx => b4 x (List.mem_filter.mp hx).1⟩
  · rw [ep']
    refine List.pairwise_append.mpr ⟨List.pairwise_append.mpr ⟨p1, List.pairwise_singleton _ _, fun g hg y hy => by rw [List.mem_singleton.mp hy]; exact (lr g hg).extL⟩, List.pairwise_singleton _ _, fun g hg y hy => ?_⟩
    rw [List.mem_singleton.mp hy]
    rcases List.mem_append.mp hg with q | q
    · exact (lr g q).extL
    · rw [List.mem_singleton.mp q]
      exact LtP.split l
  · exact to (a3 y hy) (fun q => q.extR) fun q => q.extR
  · exact to (R := fun p => p = [] ∨ ∃ x ∈ ever, starts p x = true) a5 (fun _ => .inr (ev 49 h1)) fun _ => .inr (ev 48 h0)
  · rw [List.map_append]
    refine List.nodup_append.mpr ⟨a6, by simp, fun u hu v hv => ?_⟩
    obtain ⟨w, hw, rfl⟩ := List.mem_map.mp hu
    have hv' : v = l := by simpa using hv
    rw [hv']
    exact (a7 w hw l hin).ne
  · rcases List.mem_append.mp hw with q | q
    · exact to (a7 w q) (fun z => z.ext) fun z => z.ext
    · rw [List.mem_singleton.mp q]
      intro p hp
      rw [ep'] at hp
      rcases List.mem_append.mp hp with r | r
      · rcases List.mem_append.mp r with r | r
        · exact .inr (lr p r)
        · rw [List.mem_singleton.mp r]
          exact .inl ⟨[49], by simp, rfl⟩
      · rw [List.mem_singleton.mp r]
        exact .inl ⟨[48], by simp, rfl⟩
  · exact to (b1 c hc) (fun q => q.extR) fun q => q.extR
  · rcases b2 x hx with q | ⟨p, hp, e⟩
    · exact .inl q
    · rcases List.mem_append.mp hp with r | r
      · exact .inr ⟨p, by rw [ep']; simp [r], e⟩
      · rw [List.mem_singleton.mp r] at e
        rcases bit x hx e with c | c
        · exact .inr ⟨l ++ [48], by rw [ep']; simp, by rw [starts_snoc, c, e]; rfl⟩
        · exact .inr ⟨l ++ [49], by rw [ep']; simp, by rw [starts_snoc, c, e]; rfl⟩
  · cases e
    have h2 := b3 l rfl x hx (starts_ext hs)
    rw [starts_snoc, Bool.and_eq_true] at hs
    exact List.mem_filter.mpr ⟨h2, hs.1⟩
/-- nobody answers -/
theorem wlk_lost {ever stay lm : List Str} {kd : Str} {rest found : List (List Nat)} {paper : List (List Nat × Bool × Bool)} {l : List Nat} {z o : Bool} {W : Nat} {cl : List (List Nat)} (h : Wlk ever stay ⟨kd, rest, some l, found, paper⟩ lm cl) (hl : l.length < W) (hst : ∀ x ∈ stay, Num W x) (hev : ∀ x ∈ ever, Num W x)
    (h0 : lm.any (sg l.length 48) = false) (h1 : lm.any (sg l.length 49) = false) : ∃ cl', Wlk ever stay ⟨kd, rest, none, found, paper ++ [(l, z, o)]⟩ lm cl' ∧ Clm cl cl' ⟨kd, rest, none, found, paper ++ [(l, z, o)]⟩ := by
  obtain ⟨a1, a2, a3, a4, a5, a6, a7, a8, a9, b1, b2, b3, b4⟩ := h
  have ep : pend ⟨kd, rest, some l, found, paper⟩ = rest ++ [l] := rfl
  rw [ep] at a1 a3 a5 a7 b1 b2
  obtain ⟨p1, p2, p3⟩ := List.pairwise_append.mp a1
  have hin : l ∈ rest ++ [l] := by simp
  have hr : ∀ g ∈ rest, g ∈ rest ++ [l] := fun g hg => List.mem_append_left _ hg
  have lr : ∀ g ∈ rest, LtP l g := fun g hg => p3 g hg l (by simp)
  have none_ : ∀ x ∈ stay, starts l x = true → False := fun x hx e => by
    have hm := b3 l rfl x hx e
    obtain ⟨c, hc, g1, _⟩ := num_at (hst x hx) hl
    have n0 := List.any_eq_false.mp h0 x hm
    have n1 := List.any_eq_false.mp h1 x hm
    rcases hc with rfl | rfl
    · exact n0 (decide_eq_true g1)
    · exact n1 (decide_eq_true g1)
  have base : ∀ cl', cl'.Pairwise LtP → (∀ c ∈ cl', S c ∈ ever) → (∀ c ∈ cl', ∀ g ∈ rest, LtP c g) → Wlk ever stay ⟨kd, rest, none, found, paper ++ [(l, z, o)]⟩ lm cl' := fun cl' q1 q2 q3 => by
    refine ⟨p1, a2, fun y hy g hg => a3 y hy g (hr g hg), a4, fun g hg => a5 g (hr g hg), ?_, fun w hw g hg => ?_, q1, q2, q3, fun x hx => ?_, fun l' e => (by cases e), b4⟩
    · rw [List.map_append]
      refine List.nodup_append.mpr ⟨a6, by simp, fun u hu v hv => ?_⟩
      obtain ⟨w, hw, rfl⟩ := List.mem_map.mp hu
      have hv' : v = l := by simpa using hv
      rw [hv']
      exact (a7 w hw l hin).ne
    · rcases List.mem_append.mp hw with q | q
      · exact a7 w q g (hr g hg)
      · rw [List.mem_singleton.mp q]
        exact .inr (lr g hg)
    · rcases b2 x hx with q | ⟨p, hp, e⟩
      · exact .inl q
      · rcases List.mem_append.mp hp with r | r
        · exact .inr ⟨p, r, e⟩
        · rw [List.mem_singleton.mp r] at e
          exact (none_ x hx e).elim
  rcases a5 l hin with e | ⟨x, hx, e⟩
  · have e1 : rest = [] := by
      cases rest with
      | nil => rfl
      | cons g r => exact (LtP.nilL (by rw [← e]; exact lr g (by simp))).elim
    have e2 : found = [] := by
      cases found with
      | nil => rfl
      | cons y r => exact (LtP.nilR (by rw [← e]; exact a3 y (by simp) l hin)).elim
    have e3 : cl = [] := by
      cases cl with
      | nil => rfl
      | cons y r => exact (LtP.nilR (by rw [← e]; exact b1 y (by simp) l hin)).elim
    exact ⟨[], base [] .nil (fun c hc => absurd hc (by simp)) (fun c hc => absurd hc (by simp)), .inr ⟨e3, rfl, rfl, e1, e2⟩⟩
  · obtain ⟨a, rfl, e1, e2⟩ := starts_num e (hev x hx)
    refine ⟨cl ++ [l ++ a], base _ (List.pairwise_append.mpr ⟨a8, List.pairwise_singleton _ _, fun c hc y hy => by rw [List.mem_singleton.mp hy]; exact (b1 c hc l hin).extR⟩) (fun c hc => ?_) (fun c hc g hg => ?_), .inl (by rw [List.length_append]; rfl)⟩
    · rcases List.mem_append.mp hc with q | q
      · exact a9 c q
      · rw [List.mem_singleton.mp q]
        exact hx
    · rcases List.mem_append.mp hc with q | q
      · exact b1 c q g (hr g hg)
      · rw [List.mem_singleton.mp q]
        exact (lr g hg).extL
/-- a step -/
theorem wlk_step {W n : Nat} {kvs : List (Str × Bool)} {lm : List Str} {sdm : Option (List Nat)} {lk : Int} {st : WkS} {ever stay : List Str} {cl : List (List Nat)} (h : Wlk ever stay st lm cl) (ok : WkOk W lm sdm st n) (hr : st.sd = none → st.rest ≠ []) (hW : 1 ≤ W) (hev : ∀ x ∈ ever, Num W x) (hst : ∀ x ∈ stay, Num W x) (he : ∀ x ∈ lisB kvs (decide (st.kd = "all")), x ∈ ever) (hs : ∀ x ∈ stay, x ∈ lisB kvs (decide (st.kd = "all"))) :
    ∃ cl', Wlk ever stay (stepF W kvs lm lk st).1.1 (stepF W kvs lm lk st).2.1 cl' ∧ ((stepF W kvs lm lk st).1.2 = .no → cl' = cl) ∧ ((stepF W kvs lm lk st).1.2 ≠ .no → Clm cl cl' (stepF W kvs lm lk st).1.1) := by
  obtain ⟨kd, rest, sd, found, paper⟩ := st
  cases sd with
  | none =>
    obtain ⟨r, g, e, hg, hb⟩ := ok.none_ (hr rfl)
    dsimp only at e he hs
    subst e
    have e0 : stepF W kvs lm lk ⟨kd, r ++ [g], none, found, paper⟩ = (overF W ⟨kd, r, none, found, paper⟩ g, begF kvs kd g, some g, lk) := by
      unfold stepF
      simp
    rw [e0]
    obtain ⟨a1, a2, a3, a4, a5, a6, a7, a8, a9, b1, b2, b3, b4⟩ := h
    refine wlk_over (st := ⟨kd, r, none, found, paper⟩) (l := g) ⟨a1, a2, a3, a4, a5, a6, a7, a8, a9, b1, b2, fun l e x hx hq => ?_, fun x hx => he x (List.mem_filter.mp hx).1⟩ hW hg hev hst
    cases e
    exact List.mem_filter.mpr ⟨hs x hx, hq⟩
  | some l =>
    obtain ⟨_, hlt, hlb, hbeg⟩ := ok.said l rfl
    have lc : ∀ c : Nat, (l ++ [c]).length ≤ W := fun c => by rw [List.length_append, List.length_singleton]; omega
    have bits : ∀ x ∈ lm, sg l.length 48 x = true ∨ sg l.length 49 x = true := fun x hx => by
      obtain ⟨c, hc, g1, _⟩ := num_at (hbeg x hx).num hlt
      rcases hc with rfl | rfl
      · exact .inl (decide_eq_true g1)
      · exact .inr (decide_eq_true g1)
    have wl := fun z o => wlk_lost (z := z) (o := o) h hlt hst hev
    have w2 := fun z o => wlk_two (z := z) (o := o) h hbeg hlt hst
    have w1 := fun z o b => wlk_bit (z := z) (o := o) (b := b) h hbeg hlt hst
    unfold stepF
    dsimp only
    cases hz : lm.any (sg l.length 48) <;> cases ho : lm.any (sg l.length 49)
    · rw [if_pos ⟨rfl, rfl⟩]
      obtain ⟨cl', q1, q2⟩ := wl false false hz ho
      exact ⟨cl', q1, fun z => (by cases z), fun _ => q2⟩
    · rw [if_neg (fun z => Bool.noConfusion z.2), if_neg Bool.false_ne_true, if_neg (fun z => Bool.noConfusion z.1)]
      refine wlk_over (w1 false true 49 (List.any_eq_true.mp ho) (.inr rfl) fun x hx => (bits x hx).resolve_left fun q => ?_) hW (lc _) hev hst
      exact absurd (List.any_eq_true.mpr ⟨x, hx, q⟩) (by rw [hz]; exact Bool.false_ne_true)
    · rw [if_neg (fun z => Bool.noConfusion z.1), if_pos rfl, if_neg (fun z => Bool.noConfusion z.2)]
      refine wlk_over (w1 true false 48 (List.any_eq_true.mp hz) (.inl rfl) fun x hx => (bits x hx).resolve_right fun q => ?_) hW (lc _) hev hst
      exact absurd (List.any_eq_true.mpr ⟨x, hx, q⟩) (by rw [ho]; exact Bool.false_ne_true)
    · rw [if_neg (fun z => Bool.noConfusion z.1), if_pos rfl, if_pos ⟨rfl, rfl⟩]
      exact wlk_over (w2 true true (List.any_eq_true.mp hz) (List.any_eq_true.mp ho)) hW (lc _) hev hst
end B

set_option Elab.async false
set_option linter.all false
set_option maxRecDepth 100000
set_option maxHeartbeats 4000000
namespace B
open PySem PySem.Spec PyProof.Rows L2
open SX (S)
/-! ### the beginnings that some numbers have -/
/-- y is one of the beginnings, fewer signs than W, of some of xs, or the empty one -/
def MetS (W : Nat) (xs : List Str) (y : Str) : Prop := y = "" ∨ ∃ x ∈ xs, ∃ i, i < W ∧ y = S (x.cps.toList.take i)
/-- told: each once, rising -/
structure MetL (W : Nat) (xs ys : List Str) : Prop where
  srt : sortedS ys = true
  nd : ys.Nodup
  mem : ∀ y, y ∈ ys ↔ MetS W xs y
theorem MetL.one {W : Nat} {xs ys zs : List Str} (h : MetL W xs ys) (g : MetL W xs zs) : ys = zs :=
  sorted_eq h.srt g.srt ((List.perm_ext_iff_of_nodup h.nd g.nd).mpr fun y => (h.mem y).trans (g.mem y).symm)
theorem S_cps (x : Str) : S x.cps.toList = x := by
  cases x
  simp [SX.S]
def MetP (W : Nat) (ts : List Str) (y : Str) : Prop := ∃ x ∈ ts, ∃ i, i < W ∧ y = S (x.cps.toList.take i)
theorem metP_all {W : Nat} {xs : List Str} {y : Str} (hW : 1 ≤ W) : MetP W (xs ++ [("" : Str)]) y ↔ MetS W xs y := by
  unfold MetP MetS
  constructor
  · rintro ⟨x, hx, i, hi, e⟩
    rcases List.mem_append.mp hx with q | q
    · exact .inr ⟨x, q, i, hi, e⟩
    · rw [List.mem_singleton.mp q] at e
      refine .inl (e.trans ?_)
      rw [show ("" : Str).cps.toList = [] by decide +kernel, List.take_nil]
      exact empty_S.symm
  · rintro (e | ⟨x, hx, i, hi, e⟩)
    · refine ⟨"", by simp, 0, by omega, ?_⟩
      rw [e, List.take_zero]
      exact empty_S
    · exact ⟨x, List.mem_append_left _ hx, i, hi, e⟩
section
variable {P : Program} {w : World} {K : PySem.W.Frag} {mg : Str → Option Value} {base : Heap}
def spMet (K : PySem.W.Frag) : Sp := fun vs H Q _ => ∃ (W : Nat) (p : Addr) (xs : List Str), vs = [.int W, .ref p] ∧ H p = some (.lst (xs.map V.str)) ∧ (∀ x ∈ xs, Num W x) ∧ 1 ≤ W ∧ W ≤ 12 ∧ xs.length ≤ 41 ∧ Tb K H ∧
  ∀ (ys : List Str) (q : Addr) (H' : Hp), MetL W xs ys → H q = none → H' q = some (.lst (ys.map V.str)) → FrT K [] H H' → Q (.ref q) H'
theorem c_met (T : Txt P w K mg base) : CalX CX0 P w K mg base 3 "met" (spMet K) := by
  obtain ⟨fd, F⟩ := T.t.def_ 4 (d := d_met)
  refine ⟨_, fd, _, F.ok sc_met (fun vs H Q E h => ?_) (fun cdv A outer s H vs Q E hr h => ?_), He.glo_ok T.X T.G (T.t.fact 4), F.kp, F.bindsN fun _ _ _ _ _ _ us hl => match us, hl with | [_, _], _ => rfl⟩
  · obtain ⟨W, p, xs, rfl, _⟩ := h
    rfl
  · obtain ⟨W, p, xs, rfl, hp, hnum, w1, w2, hlen, ht, k⟩ := h
    have hu := hu_of hr
    refine ⟨_, PSs.nox (pss_cons (ps_expr (pe_cx (c_require_width T) hr (by decide) rfl pass0 (pa_cons (pv 0) pa_nil)))
    (pss_cons (ps_for PassesOwn.never rfl (pi_list (pv 1)) (pg_name (i := 2) sc_met.nd rfl (Or.inl rfl))
      (pss_one (ps_expr (pe_cx (c_require_number T) hr (by decide) rfl pass0 (pa_cons (pv 0) (pa_cons (pv 2) pa_nil))))))
    (pss_cons (ps_set (i := 3) sc_met.nd rfl (Or.inl rfl) (pe_lst (StX.pa_star (pv 1) (pa_cons pe_str pa_nil))))
    (pss_one (ps_ret (pe_callB (cr_sortedTx rfl) (by rfl) (n_sorted T) (by decide +kernel) (pa_cons (pe_st2 (own := [("text", 4), ("length", 5)]) (vb := [5]) (ga := gName 4) (gb := gName 5) rfl sc_met.nd (pi_list (pv 3)) (blkOk_by (N := ["width", "numbers", "number", "texts", "text", "length"]) (sc := defScope s_met) (own := [("text", 4), ("length", 5)]) (by decide +kernel)) (by decide) (fun _ _ _ _ _ => pg_name (i := 4) sc_met.nd rfl (Or.inl rfl)) (fun _ _ _ _ _ => by exact (pi_range1 rfl (n_range T) (pa_cons (pv 0) pa_nil))) (fun _ _ _ _ _ => pg_name (i := 5) sc_met.nd rfl (Or.inl rfl)) (fun _ _ _ _ _ => by exact (pe_slice C8.sl_txt (pv 4) po_none (po_some (pv 5))))) pa_nil))))))), ?_⟩
    refine ⟨_, rfl, W, rfl, w1, w2, ?_⟩
    refine ⟨_, rfl, p, rfl, ⟨_, SqL.of hp⟩, for_list (K := K) (a := p) (xs := xs.map V.str) (fun i σ H' => ∃ v2 : Option V, σ = [some (.int W), some (.ref p), v2, none, none, none] ∧ H' p = some (.lst (xs.map V.str)) ∧ FrT K [] H H')
      ⟨_, rfl, hp, FrT.refl _ _ _⟩ (fun i σ H' _ ⟨_, _, e, _⟩ => SqL.of e) ?_ ?_⟩
    · rintro i y σ H1 hi ⟨v2, rfl, hp1, f1⟩
      obtain ⟨x, hx, rfl⟩ := at_map hi
      refine ⟨_, rfl, _, rfl, W, x, rfl, hnum x (List.mem_of_getElem? hx), w2, f1.t ht, fun H2 f2 => ?_⟩
      exact ⟨_, rfl, f2.k _ _ hp1 rfl (by simp), f1.trans f2⟩
    · rintro σ H1 ⟨v2, rfl, hp1, f1⟩
      refine ⟨_, rfl, p, _, rfl, .inr (SqL.of hp1), ?_⟩
      have el : xs.map V.str ++ [V.str ""] = (xs ++ [("" : Str)]).map V.str := by rw [List.map_append]; rfl
      refine ⟨?_, fun q hq => ?_⟩
      · show (xs.map V.str ++ [V.str ""]).length ≤ sizeLine
        rw [List.length_append, List.length_map]
        exact Nat.le_of_lt (small1000 (by show _ + 1 ≤ 1000; omega))
      have g1 : Frm [] H1 (upd H1 q (.lst ((xs ++ [("" : Str)]).map V.str))) := Frm.of (same_upd hq)
      have d1 : (upd H1 q (.lst ((xs ++ [("" : Str)]).map V.str))) q = some (.lst ((xs ++ [("" : Str)]).map V.str)) := upd_same
      rw [← el] at g1 d1
      revert g1 d1
      generalize (upd H1 q (.lst (xs.map V.str ++ [V.str ""]))) = H2
      intro g1 d1
      rw [el] at d1
      have tl : ∀ x ∈ xs ++ [("" : Str)], x.length ≤ 12 := fun x hx => by
        rcases List.mem_append.mp hx with z | z
        · rw [num_len (hnum x z)]
          exact w2
        · rw [List.mem_singleton.mp z]
          decide +kernel
      have tn : (xs ++ [("" : Str)]).length ≤ 42 := by rw [List.length_append]; show _ + 1 ≤ 42; omega
      revert d1 tl tn
      generalize hts : xs ++ [("" : Str)] = ts
      intro d1 tl tn
      have f2 : FrT K [] H H2 := f1.trans (g1.toT .nil)
      generalize hw : (cxOf CX0 P w K mg base _ d_met.qual d_met.scope _ cdv A outer s H E).nox.w = w0
      refine ⟨_, rfl, q, rfl, ⟨_, SqL.of d1⟩, fun D hD => ?_⟩
      have nq : q ≠ D := ne_of_none d1 hD
      refine walk_lst (K := K) (a := q) (xs := ts.map V.str) (fun i H' => ∃ (T' : Str → Bool) (n : Nat), (∀ y, T' y = true ↔ MetP W (ts.take i) y) ∧ n ≤ i * W ∧ H' = upd H2 D (StxO w0 D T' n)) ⟨_, 0, fun y => ⟨fun z => (by cases z), fun ⟨x, hx, _⟩ => absurd hx (by simp)⟩, by omega, rfl⟩ (fun i H' _ ⟨_, _, _, _, e⟩ => by rw [e]; exact SqL.of (by rw [upd_ne nq]; exact d1)) ?_ ?_
      · rintro i y H3 hi ⟨T', n, hT, hn, rfl⟩
        obtain ⟨x, hx, rfl⟩ := at_map hi
        refine ⟨rfl, _, rfl, W, rfl, by omega, by omega, ?_⟩
        refine walk_rng (lo := 0) (n := (W : Int).toNat) (fun j H' => ∃ (U : Str → Bool) (m : Nat), (∀ y, U y = true ↔ MetP W (ts.take i) y ∨ ∃ c, c < j ∧ y = S (x.cps.toList.take c)) ∧ m ≤ i * W + j ∧ H' = upd H2 D (StxO w0 D U m)) ⟨T', n, fun y => (hT y).trans ⟨.inl, fun z => z.elim id fun ⟨c, hc, _⟩ => absurd hc (by omega)⟩, by omega, rfl⟩ ?_ ?_
        · rintro j H4 hj ⟨U, m, hU, hm, rfl⟩
          have iw : i * W + W ≤ 42 * 12 := by
            have hi' := (List.getElem?_eq_some_iff.mp hx).1
            have : (i + 1) * W ≤ 42 * 12 := Nat.mul_le_mul (by omega) w2
            rw [Nat.succ_mul] at this
            exact this
          have sb : (4096 : Nat) = scanBound := rfl
          refine ⟨rfl, _, rfl, _, rfl, 0 + (j : Int), rfl, x, rfl, by have := tl x (List.mem_of_getElem? hx); exact size12 (by omega), S (x.cps.toList.take j), U, m, ?_, upd_same, by rw [← sb]; omega, ?_⟩
          · rw [show x = S x.cps.toList from (S_cps x).symm, SX.slice_to (by omega), S_list]
            exact congrArg (fun c => V.str (S (x.cps.toList.take c))) (by omega)
          · refine ⟨_, _, fun y => ?_, ?_, upd_upd⟩
            · rw [Bool.or_eq_true, hU y, decide_eq_true_eq, or_assoc]
              refine or_congr Iff.rfl ⟨?_, ?_⟩
              · rintro (⟨c, hc, e⟩ | e)
                · exact ⟨c, by omega, e⟩
                · exact ⟨j, by omega, e⟩
              · rintro ⟨c, hc, e⟩
                by_cases q : c = j
                · exact .inr (by rw [← q]; exact e)
                · exact .inl ⟨c, by omega, e⟩
            · split <;> omega
        · rintro H4 ⟨U, m, hU, hm, rfl⟩
          refine ⟨U, m, fun y => (hU y).trans ?_, by rw [Nat.succ_mul]; omega, rfl⟩
          rw [take_snoc hx]
          unfold MetP
          constructor
          · rintro (⟨z, hz, r⟩ | ⟨c, hc, e⟩)
            · exact ⟨z, List.mem_append_left _ hz, r⟩
            · exact ⟨x, by simp, c, by omega, e⟩
          · rintro ⟨z, hz, c, hc, e⟩
            rcases List.mem_append.mp hz with r | r
            · exact .inl ⟨z, r, c, hc, e⟩
            · rw [List.mem_singleton.mp r] at e
              exact .inr ⟨c, by omega, e⟩
      · rintro H3 ⟨T', n, hT, hn, rfl⟩
        rw [List.length_map, List.take_length] at hT
        refine ⟨D, T', n, rfl, upd_same, fun ys p' srt nd mem _ hp' => ?_⟩
        have g3 : Frm [] H2 (upd (upd H2 D (StxO w0 D T' n)) p' (.lst (ys.map V.str))) := (Frm.of (same_upd hD)).trans (Frm.of (same_upd hp'))
        exact k ys p' _ ⟨srt, nd, fun y => by rw [mem y, hT y, ← hts]; exact metP_all w1⟩ (f2.b _ (upd_back hp')) upd_same (f2.trans (g3.toT .nil))
theorem c_lmet (T : Txt P w K mg base) : CalX CX0 P w K mg base 1 "_law_met" (spMet K) := by
  obtain ⟨fd, F⟩ := T.t.def_ 40 (d := d_lmet)
  refine ⟨_, fd, _, F.ok sc_lmet (fun vs H Q E h => ?_) (fun cdv A outer s H vs Q E hr h => ?_), He.glo_ok T.X T.G (T.t.fact 21), F.kp, F.bindsN fun _ _ _ _ _ _ us hl => match us, hl with | [_, _], _ => rfl⟩
  · obtain ⟨W, p, xs, rfl, _⟩ := h
    rfl
  · obtain ⟨W, p, xs, rfl, hp, hnum, w1, w2, hlen, ht, k⟩ := h
    have hu := hu_of hr
    refine ⟨_, PSs.nox (pss_cons (ps_set (i := 2) sc_lmet.nd rfl (Or.inl rfl) (pe_lst (pa_cons pe_str pa_nil)))
    (pss_cons (ps_for PassesOwn.never rfl (pi_list (pv 1)) (pg_name (i := 3) sc_lmet.nd rfl (Or.inr rfl))
      (pss_one (ps_expr (pe_bm PySem.F.plainAttrs_list PySem.F.slot_list_extend PySem.F.type_list_extend mt_extend (pv 2) (pa_cons (pe_lc (own := [("_law_many", 4)]) (g := gName 4) rfl sc_lmet.nd (pi_range2 rfl (n_range T) (pa_cons pe_int (pa_cons (pv 0) pa_nil))) (blkOk_by (N := ["_law_width_here", "_law_numbers", "_law_found", "_law_number_here", "_law_many"]) (sc := defScope s_lmet) (own := [("_law_many", 4)]) (by decide +kernel)) (fun _ _ _ _ _ => pg_name (i := 4) sc_lmet.nd rfl (Or.inl rfl)) (fun _ _ _ _ _ => pts_nil) (fun _ _ _ _ _ => by exact (pe_slice C8.sl_txt (pv 3) po_none (po_some (pv 4))))) pa_nil)))))
    (pss_one (ps_ret (pe_callB (cr_sortedTx rfl) (by rfl) (n_sorted T) (by decide +kernel) (pa_cons (pe_callTy (cr_setTx rfl) (by rfl) (n_set T) (by decide +kernel) (pa_cons (pv 2) pa_nil)) pa_nil)))))), ?_⟩
    refine ⟨by show 1 ≤ sizeLine; decide, fun pf hpf => ?_⟩
    have npf : p ≠ pf := ne_of_none hp hpf
    refine ⟨_, rfl, p, rfl, ⟨_, SqL.of (show (upd H pf _) p = _ by rw [upd_ne npf]; exact hp)⟩, for_list (K := K) (a := p) (xs := xs.map V.str) (fun i σ H' => ∃ (v3 v4 : Option V) (zs : List Str), σ = [some (.int W), some (.ref p), some (.ref pf), v3, v4] ∧ H' p = some (.lst (xs.map V.str)) ∧ H' pf = some (.lst (zs.map V.str)) ∧ (∀ y, y ∈ zs ↔ y = "" ∨ ∃ x ∈ xs.take i, ∃ c, 1 ≤ c ∧ c < W ∧ y = S (x.cps.toList.take c)) ∧ zs.length ≤ 1 + i * W ∧ Frm [pf] H H')
      ⟨_, _, [""], rfl, by rw [upd_ne npf]; exact hp, upd_same, fun y => by simp, by simp, Frm.of (same_upd hpf)⟩ (fun i σ H' _ ⟨_, _, _, _, e, _⟩ => SqL.of e) ?_ ?_⟩
    · rintro i y σ H1 hi ⟨v3, v4, zs, rfl, hp1, hf1, hz, hzl, f1⟩
      obtain ⟨x, hx, rfl⟩ := at_map hi
      have hxn := hnum x (List.mem_of_getElem? hx)
      refine ⟨_, rfl, .inl ⟨rfl, _, SqL.of hf1⟩, _, rfl, 1, W, rfl, by omega, fun D hD => ?_⟩
      have nD : pf ≠ D := ne_of_none hf1 hD
      refine lc_range (lo := 1) (n := ((W : Int) - 1).toNat) (fun j H' => H' = upd H1 D (.lst (((List.range j).map fun c => S (x.cps.toList.take (c + 1))).map V.str))) rfl ?_ ?_
      · rintro j H2 hj rfl
        refine ⟨rfl, _, rfl, _, rfl, 1 + (j : Int), rfl, x, rfl, by rw [num_len hxn]; exact size12 (by omega), _, upd_same, ?_, ?_⟩
        · rw [List.length_map, List.length_map, List.length_range]
          exact small1000 (by omega)
        · show _ = _
          rw [upd_upd, List.range_succ, List.map_append, List.map_append, show Txt.slice x none (some (1 + (j : Int))) = S (x.cps.toList.take (j + 1)) from by rw [show x = S x.cps.toList from (S_cps x).symm, SX.slice_to (by omega), S_list, show (1 + (j : Int)).toNat = j + 1 by omega]]
          rfl
      · rintro H2 rfl
        refine ⟨pf, D, _, _, rfl, rfl, by rw [upd_ne nD]; exact hf1, upd_same, ?_, ?_⟩
        · rw [List.length_map, List.length_map, List.length_map, List.length_range]
          have : i * W ≤ 41 * 12 := Nat.mul_le_mul (by have := (List.getElem?_eq_some_iff.mp hx).1; omega) w2
          exact Nat.le_of_lt (small1000 (by omega))
        · have f2 : Frm [pf] H1 (upd (upd H1 D (.lst (((List.range ((W : Int) - 1).toNat).map fun c => S (x.cps.toList.take (c + 1))).map V.str))) pf (.lst (zs.map V.str ++ ((List.range ((W : Int) - 1).toNat).map fun c => S (x.cps.toList.take (c + 1))).map V.str))) := ((Frm.refl _ _).new hD).put (by simp)
          refine ⟨_, _, zs ++ (List.range ((W : Int) - 1).toNat).map fun c => S (x.cps.toList.take (c + 1)), rfl, f2.k _ _ hp1 rfl (by simpa using npf), by rw [upd_same, List.map_append], fun y => ?_, ?_, f1.trans f2⟩
          · rw [List.mem_append, hz y, take_snoc hx]
            constructor
            · rintro ((e | ⟨z, hz, r⟩) | e)
              · exact .inl e
              · exact .inr ⟨z, List.mem_append_left _ hz, r⟩
              · obtain ⟨c, hc, e⟩ := List.mem_map.mp e
                have hc' := List.mem_range.mp hc
                exact .inr ⟨x, by simp, c + 1, by omega, by omega, e.symm⟩
            · rintro (e | ⟨z, hz, c, c1, c2, e⟩)
              · exact .inl (.inl e)
              · rcases List.mem_append.mp hz with r | r
                · exact .inl (.inr ⟨z, r, c, c1, c2, e⟩)
                · rw [List.mem_singleton.mp r] at e
                  refine .inr (List.mem_map.mpr ⟨c - 1, List.mem_range.mpr (by omega), ?_⟩)
                  rw [e, show c - 1 + 1 = c by omega]
          · rw [List.length_append, List.length_map, List.length_range, Nat.succ_mul]
            omega
    · rintro σ H1 ⟨v3, v4, zs, rfl, hp1, hf1, hz, hzl, f1⟩
      rw [List.length_map] at hzl
      rw [List.length_map, List.take_length] at hz
      have sb : (4096 : Nat) = scanBound := rfl
      have zl : zs.length + 1 < 4096 := by
        have : xs.length * W ≤ 41 * 12 := Nat.mul_le_mul hlen w2
        omega
      refine ⟨_, rfl, pf, zs, rfl, SqL.of hf1, by rw [← sb]; exact zl, fun s1 hs1 => ⟨s1, _, _, rfl, upd_same, fun ys p' srt nd mem _ hp' => ?_⟩⟩
      generalize hH : (upd H1 s1 _) = H2 at hp' ⊢
      have g2 : Frm [] H1 H2 := by
        rw [← hH]
        exact Frm.of (same_upd hs1)
      have g3 : Frm [pf] H (upd H2 p' (.lst (ys.map V.str))) := (f1.trans ((g2.trans (Frm.of (same_upd hp'))).mono (by simp)))
      refine k ys p' _ ⟨srt, nd, fun y => ?_⟩ (f1.b _ (g2.b _ hp')) upd_same ((Frm.fresh (Frm.refl [] H) g3 (by simpa using hpf)).toT .nil)
      rw [mem y, decide_eq_true_eq, hz y]
      unfold MetS
      constructor
      · rintro (e | ⟨x, hx, c, c1, c2, e⟩)
        · exact .inl e
        · exact .inr ⟨x, hx, c, c2, e⟩
      · rintro (e | ⟨x, hx, c, c2, e⟩)
        · exact .inl e
        · by_cases c1 : c = 0
          · subst c1
            exact .inl (by rw [e, List.take_zero]; exact empty_S.symm)
          · exact .inr ⟨x, hx, c, by omega, c2, e⟩
end
end B

set_option Elab.async false
set_option linter.all false
set_option maxRecDepth 100000
set_option maxHeartbeats 4000000
namespace B
open PySem PySem.Spec PyProof.Rows L2
open SX (S)
/-! ### a walk while nothing changes -/
/-- what stands on its paper -/
structure Pap (W : Nat) (due : List Str) (st : WkS) : Prop where
  pa : ∀ z ∈ st.paper, z.1.length < W ∧ (z.1 = [] ∨ ∃ x ∈ due, starts z.1 x = true)
  fb : ∀ y ∈ st.found, ∀ i, i < W → y.take i ∈ st.paper.map (·.1)
  pb : ∀ p ∈ pend st, ∀ i, i < p.length → p.take i ∈ st.paper.map (·.1)
  nl : [] ∈ pend st ∨ [] ∈ st.paper.map (·.1)
theorem pap_new {W : Nat} {due : List Str} {kd : Str} : Pap W due ⟨kd, [[]], none, [], []⟩ := by
  refine ⟨fun z hz => absurd hz (by simp), fun y hy => absurd hy (by simp), fun p hp i hi => ?_, .inl (List.mem_singleton.mpr rfl)⟩
  rw [List.mem_singleton.mp hp] at hi
  exact absurd hi (Nat.not_lt_zero _)
theorem pap_over {W : Nat} {due : List Str} {st : WkS} {l : List Nat} (h : Pap W due { st with sd := some l }) (hW : 1 ≤ W) (hl : l.length ≤ W) : Pap W due (overF W st l).1 := by
  unfold overF
  split
  · exact h
  · rename_i c
    have eW : l.length = W := by omega
    obtain ⟨a, b, c, d⟩ := h
    have ep : pend { st with sd := some l } = st.rest ++ [l] := rfl
    rw [ep] at c d
    refine ⟨a, fun y hy i hi => ?_, fun p hp => c p (List.mem_append_left _ hp), ?_⟩
    · rcases List.mem_append.mp hy with q | q
      · exact b y q i hi
      · rw [List.mem_singleton.mp q]
        exact c l (by simp) i (by omega)
    · rcases d with q | q
      · rcases List.mem_append.mp q with q | q
        · exact .inl q
        · have e0 : l.length = 0 := by rw [← List.mem_singleton.mp q]; rfl
          omega
      · exact .inr q
theorem pap_look {W : Nat} {due : List Str} {kd : Str} {rest rest' found : List (List Nat)} {l : List Nat} {paper : List (List Nat × Bool × Bool)} {z o : Bool} {sd : Option (List Nat)} (h : Pap W due ⟨kd, rest, some l, found, paper⟩) (hl : l.length < W) (ev : l = [] ∨ ∃ x ∈ due, starts l x = true)
    (hp : ∀ p ∈ pend ⟨kd, rest', sd, found, paper ++ [(l, z, o)]⟩, p ∈ rest ∨ ∃ b, p = l ++ [b]) (hr : ∀ p ∈ rest, p ∈ pend ⟨kd, rest', sd, found, paper ++ [(l, z, o)]⟩) : Pap W due ⟨kd, rest', sd, found, paper ++ [(l, z, o)]⟩ := by
  obtain ⟨a, b, c, d⟩ := h
  have ep : pend ⟨kd, rest, some l, found, paper⟩ = rest ++ [l] := rfl
  rw [ep] at c d
  have old : ∀ {y : List Nat}, y ∈ paper.map (·.1) → y ∈ (paper ++ [(l, z, o)]).map (·.1) := fun q => by
    rw [List.map_append]
    exact List.mem_append_left _ q
  have new : l ∈ (paper ++ [(l, z, o)]).map (·.1) := by
    rw [List.map_append]
    exact List.mem_append_right _ (by simp)
  refine ⟨fun y hy => ?_, fun y hy i hi => old (b y hy i hi), fun p q i hi => ?_, ?_⟩
  · rcases List.mem_append.mp hy with q | q
    · exact a y q
    · rw [List.mem_singleton.mp q]
      exact ⟨hl, ev⟩
  · rcases hp p q with q | ⟨b', rfl⟩
    · exact old (c p (List.mem_append_left _ q) i hi)
    · rw [List.length_append, List.length_singleton] at hi
      rw [List.take_append_of_le_length (by omega)]
      by_cases e : i = l.length
      · rw [e, List.take_length]
        exact new
      · exact old (c l (by simp) i (by omega))
  · rcases d with q | q
    · rcases List.mem_append.mp q with q | q
      · exact .inl (hr _ q)
      · refine .inr ?_
        rw [List.mem_singleton.mp q]
        exact new
    · exact .inr (old q)
theorem over_tld {W : Nat} {st : WkS} {l : List Nat} : (overF W st l).2 ≠ .lost ∧ (∀ l', (overF W st l).2 = .found l' → (overF W st l).1.found = st.found ++ [l'] ∧ (overF W st l).1.sd = none) ∧ ((overF W st l).2 = .no → (overF W st l).1.found = st.found) ∧ (overF W st l).1.paper = st.paper := by
  unfold overF
  split
  · exact ⟨fun z => (by cases z), fun l' z => (by cases z), fun _ => rfl, rfl⟩
  · refine ⟨fun z => (by cases z), fun l' z => ?_, fun z => (by cases z), rfl⟩
    cases z
    exact ⟨rfl, rfl⟩
/-- what a step on a still wire comes to -/
structure Stll (W : Nat) (due : List Str) (st : WkS) (lk : Int) (r : (WkS × Tld) × List Str × Option (List Nat) × Int) : Prop where
  pp : Pap W due r.1.1
  lost : r.1.2 = .lost → due = [] ∧ r.1.1.rest = [] ∧ r.1.1.sd = none
  fnd : ∀ l, r.1.2 = .found l → r.1.1.found = st.found ++ [l] ∧ r.1.1.sd = none
  no : r.1.2 = .no → r.1.1.found = st.found
  lk : r.2.2.2 = lk + (r.1.1.paper.length : Int) - (st.paper.length : Int)
theorem step_still {W n : Nat} {kvs : List (Str × Bool)} {lm : List Str} {sdm : Option (List Nat)} {lk : Int} {st : WkS} {due : List Str} {cl : List (List Nat)} (h : Wlk due due st lm cl) (p : Pap W due st) (ok : WkOk W lm sdm st n) (hr : st.sd = none → st.rest ≠ []) (hW : 1 ≤ W) (hd : ∀ x ∈ due, Num W x) : Stll W due st lk (stepF W kvs lm lk st) := by
  obtain ⟨kd, rest, sd, found, paper⟩ := st
  cases sd with
  | none =>
    obtain ⟨r, g, e, hg, hb⟩ := ok.none_ (hr rfl)
    dsimp only at e
    subst e
    have e0 : stepF W kvs lm lk ⟨kd, r ++ [g], none, found, paper⟩ = (overF W ⟨kd, r, none, found, paper⟩ g, begF kvs kd g, some g, lk) := by
      unfold stepF
      simp
    rw [e0]
    obtain ⟨t1, t2, t3, t4⟩ := over_tld (W := W) (st := ⟨kd, r, none, found, paper⟩) (l := g)
    exact ⟨pap_over (st := ⟨kd, r, none, found, paper⟩) (l := g) ⟨p.pa, p.fb, p.pb, p.nl⟩ hW hg, fun z => absurd z t1, t2, t3, by rw [show (overF W ⟨kd, r, none, found, paper⟩ g).1.paper = paper from t4]; show lk = lk + (paper.length : Int) - (paper.length : Int); omega⟩
  | some l =>
    obtain ⟨_, hlt, hlb, hbeg⟩ := ok.said l rfl
    have lc : ∀ c : Nat, (l ++ [c]).length ≤ W := fun c => by rw [List.length_append, List.length_singleton]; omega
    have hin : l ∈ rest ++ [l] := by simp
    have ev : l = [] ∨ ∃ x ∈ due, starts l x = true := h.pe l hin
    have plen : ∀ (z o : Bool), lk + 1 = lk + ((paper ++ [(l, z, o)]).length : Int) - (paper.length : Int) := fun z o => by
      rw [List.length_append]
      show lk + 1 = lk + ((paper.length + 1 : Nat) : Int) - (paper.length : Int)
      omega
    have fin : ∀ (rest' : List (List Nat)) (z o : Bool) (b : Nat) (lm' : List Str), (∀ q ∈ rest, q ∈ rest') → (∀ q ∈ rest', q ∈ rest ∨ ∃ b, q = l ++ [b]) → Stll W due ⟨kd, rest, some l, found, paper⟩ lk (overF W ⟨kd, rest', some l, found, paper ++ [(l, z, o)]⟩ (l ++ [b]), lm', some (l ++ [b]), lk + 1) := fun rest' z o b lm' h1 h2 => by
      obtain ⟨t1, t2, t3, t4⟩ := over_tld (W := W) (st := ⟨kd, rest', some l, found, paper ++ [(l, z, o)]⟩) (l := l ++ [b])
      refine ⟨pap_over (st := ⟨kd, rest', some l, found, paper ++ [(l, z, o)]⟩) (pap_look (sd := some (l ++ [b])) p hlt ev (fun q hq => ?_) fun q hq => List.mem_append_left _ (h1 q hq)) hW (lc b), fun y => absurd y t1, t2, t3, ?_⟩
      · rcases List.mem_append.mp hq with y | y
        · exact h2 q y
        · exact .inr ⟨b, List.mem_singleton.mp y⟩
      · show lk + 1 = lk + ((overF W ⟨kd, rest', some l, found, paper ++ [(l, z, o)]⟩ (l ++ [b])).1.paper.length : Int) - (paper.length : Int)
        rw [t4]
        exact plen z o
    unfold stepF
    dsimp only
    cases hz : lm.any (sg l.length 48) <;> cases ho : lm.any (sg l.length 49)
    · rw [if_pos ⟨rfl, rfl⟩]
      have none_ : ∀ x ∈ due, starts l x = true → False := fun x hx e => by
        have hm := h.tl l rfl x hx e
        obtain ⟨c, hc, g1, _⟩ := num_at (hd x hx) hlt
        rcases hc with rfl | rfl
        · exact List.any_eq_false.mp hz x hm (decide_eq_true g1)
        · exact List.any_eq_false.mp ho x hm (decide_eq_true g1)
      have e0 : l = [] := ev.resolve_right fun ⟨x, hx, e⟩ => none_ x hx e
      have ed : due = [] := by
        cases hdue : due with
        | nil => rfl
        | cons x r => exact (none_ x (by rw [hdue]; simp) (by rw [e0]; exact decide_eq_true rfl)).elim
      have er : rest = [] := by
        cases hrest : rest with
        | nil => rfl
        | cons g r =>
          have po := h.po
          have ep : pend ⟨kd, rest, some l, found, paper⟩ = rest ++ [l] := rfl
          rw [ep] at po
          have := (List.pairwise_append.mp po).2.2 g (by rw [hrest]; simp) l (by simp)
          rw [e0] at this
          exact (LtP.nilL this).elim
      refine ⟨pap_look (sd := none) p hlt ev (fun q hq => .inl hq) fun q hq => hq, fun _ => ⟨ed, er, rfl⟩, fun l' y => (by cases y), fun y => (by cases y), plen _ _⟩
    · rw [if_neg (fun z => Bool.noConfusion z.2), if_neg Bool.false_ne_true, if_neg (fun z => Bool.noConfusion z.1)]
      exact fin rest false true 49 _ (fun q hq => hq) fun q hq => .inl hq
    · rw [if_neg (fun z => Bool.noConfusion z.1), if_pos rfl, if_neg (fun z => Bool.noConfusion z.2)]
      exact fin rest true false 48 _ (fun q hq => hq) fun q hq => .inl hq
    · rw [if_neg (fun z => Bool.noConfusion z.1), if_pos rfl, if_pos ⟨rfl, rfl⟩]
      exact fin (rest ++ [l ++ [49]]) true true 48 _ (fun q hq => List.mem_append_left _ hq) fun q hq => (List.mem_append.mp hq).imp id fun y => ⟨49, List.mem_singleton.mp y⟩
/-- a round -/
structure Rnd (names : List Str) (W : Nat) (due : List Str) (st : WkS) (lk : Int) (r : (WkS × Tld) × List Str × Option (List Nat) × Int) : Prop where
  wl : ∃ cl, Wlk due due r.1.1 r.2.1 cl
  sl : Stll W due st lk r
  iv : ∃ b, InvQ names W (r.1.1, r.2) b
  ms : mv W names r.1.1 < mv W names st
  kd : r.1.1.kd = st.kd
theorem round_still {W : Nat} {kvs : List (Str × Bool)} {names due : List Str} (hW : 1 ≤ W) (hd : ∀ x ∈ due, Num W x) (hk : kvs.length ≤ 41) (hkn : ∀ x ∈ kvs.map (·.1), x ∈ names) (hnn : ∀ x ∈ names, Num W x) :
    ∀ {n : Nat} {lm : List Str} {sdm : Option (List Nat)} {lk : Int} {st : WkS} {b : Nat} {cl : List (List Nat)}, Wlk due due st lm cl → Pap W due st → InvQ names W (st, lm, sdm, lk) b → (st.sd = none → st.rest ≠ []) → (∀ x, x ∈ lisB kvs (decide (st.kd = "all")) ↔ x ∈ due) →
      Rnd names W due st lk (roundF W kvs n lm lk st) ∧ ((∀ l, st.sd = some l → W ≤ l.length + n + 1) → (st.sd = none → W ≤ n) → (roundF W kvs n lm lk st).1.2 ≠ .no) := by
  intro n
  induction n with
  | zero =>
    intro lm sdm lk st b cl h p iv hr he
    obtain ⟨cl', w1, _⟩ := wlk_step (kvs := kvs) (lk := lk) h iv.ok hr hW hd hd (fun x hx => (he x).mp hx) fun x hx => (he x).mpr hx
    have s1 := step_still (kvs := kvs) (lk := lk) h p iv.ok hr hW hd
    have i1 := inv_step (kvs := kvs) iv hr hk hkn hnn
    refine ⟨⟨⟨cl', w1⟩, s1, ⟨_, i1.1⟩, i1.2, step_kd⟩, fun q1 q2 z => ?_⟩
    obtain ⟨l', e1, e2, e3⟩ := step_no z
    cases hs : st.sd with
    | none => have := q2 hs; omega
    | some l =>
      have := q1 l hs
      have := e3 l hs
      omega
  | succ n ih =>
    intro lm sdm lk st b cl h p iv hr he
    obtain ⟨cl', w1, _⟩ := wlk_step (kvs := kvs) (lk := lk) h iv.ok hr hW hd hd (fun x hx => (he x).mp hx) fun x hx => (he x).mpr hx
    have s1 := step_still (kvs := kvs) (lk := lk) h p iv.ok hr hW hd
    have i1 := inv_step (kvs := kvs) iv hr hk hkn hnn
    by_cases hno : (stepF W kvs lm lk st).1.2 = .no
    · rw [round_no hno]
      obtain ⟨l', e1, e2, e3⟩ := step_no hno
      have hc : (stepF W kvs lm lk st).1.1.sd = none → (stepF W kvs lm lk st).1.1.rest ≠ [] := fun z => by rw [e1] at z; cases z
      have i2 : InvQ names W ((stepF W kvs lm lk st).1.1, (stepF W kvs lm lk st).2.1, (stepF W kvs lm lk st).2.2.1, (stepF W kvs lm lk st).2.2.2) (b + 1) := i1.1
      have i3 : mv W names (stepF W kvs lm lk st).1.1 < mv W names st := i1.2
      obtain ⟨⟨r1, r2, r3, r4, r5⟩, r6⟩ := ih (sdm := (stepF W kvs lm lk st).2.2.1) w1 s1.pp i2 hc (fun x => by rw [step_kd]; exact he x)
      have fs := s1.no hno
      have lk1 := s1.lk
      have lk2 := r2.lk
      refine ⟨⟨r1, ⟨r2.pp, r2.lost, fun l z => by rw [← fs]; exact r2.fnd l z, fun z => (r2.no z).trans fs, by omega⟩, r3, Nat.lt_trans r4 i3, r5.trans step_kd⟩, fun q1 q2 => r6 (fun l e => ?_) fun e => by rw [e1] at e; cases e⟩
      rw [e1] at e
      cases e
      cases hs : st.sd with
      | none =>
        have := q2 hs
        omega
      | some l =>
        have := q1 l hs
        have := e3 l hs
        omega
    · rw [round_yes hno]
      exact ⟨⟨⟨cl', w1⟩, s1, ⟨_, i1.1⟩, i1.2, step_kd⟩, fun _ _ => hno⟩
/-- what is found is due, in its order -/
theorem due_split {W : Nat} {due : List Str} {st : WkS} {lm : List Str} {cl : List (List Nat)} (h : Wlk due due st lm cl) (hd : ∀ x ∈ due, Num W x) (srt : sortedS due = true) (nd : due.Nodup) : due = st.found.map S ++ due.filter (fun x => decide (x ∉ st.found.map S)) := by
  have finj : ∀ {a b : List Nat}, S a = S b → a = b := fun e => by
    have := congrArg (fun z : Str => z.cps.toList) e
    simpa [S_list] using this
  have fnd : (st.found.map S).Nodup := List.Pairwise.map S (fun a b h e => h.ne (finj e)) h.ff
  have sub : ∀ x ∈ st.found.map S, x ∈ due := fun x hx => by
    obtain ⟨y, hy, rfl⟩ := List.mem_map.mp hx
    exact h.fe y hy
  refine sorted_eq srt (pw_sorted (List.pairwise_append.mpr ⟨List.Pairwise.map S (fun a b h => h.le) h.ff, (sorted_pw srt).filter _, fun y hy x hx => ?_⟩)) ?_
  · obtain ⟨l, hl, rfl⟩ := List.mem_map.mp hy
    obtain ⟨hx1, hx2⟩ := List.mem_filter.mp hx
    rcases h.ty x hx1 with ⟨z, hz, e⟩ | ⟨p, hp, e⟩
    · exact absurd (List.mem_map.mpr ⟨z, hz, e⟩) (of_decide_eq_true hx2)
    · obtain ⟨a, rfl, _⟩ := starts_num e (hd x hx1)
      exact (h.fp l hl p hp).extR.le
  · refine (List.perm_ext_iff_of_nodup nd (List.nodup_append.mpr ⟨fnd, nd.filter _, fun a ha b hb e => absurd (e ▸ ha) (of_decide_eq_true (List.mem_filter.mp hb).2)⟩)).mpr fun x => ?_
    rw [List.mem_append, List.mem_filter, decide_eq_true_eq]
    constructor
    · intro hx
      by_cases q : x ∈ st.found.map S
      · exact .inl q
      · exact .inr ⟨hx, q⟩
    · rintro (q | q)
      · exact sub x q
      · exact q.1
theorem due_end {W : Nat} {due : List Str} {st : WkS} {lm : List Str} {cl : List (List Nat)} (h : Wlk due due st lm cl) (hd : ∀ x ∈ due, Num W x) (srt : sortedS due = true) (nd : due.Nodup) (he : pend st = []) : due = st.found.map S := by
  have e := due_split h hd srt nd
  have : due.filter (fun x => decide (x ∉ st.found.map S)) = [] := List.filter_eq_nil_iff.mpr fun x hx z => by
    rcases h.ty x hx with ⟨y, hy, e⟩ | ⟨p, hp, _⟩
    · exact of_decide_eq_true z (List.mem_map.mpr ⟨y, hy, e⟩)
    · rw [he] at hp
      cases hp
  rw [this, List.append_nil] at e
  exact e
/-- the paper at the end -/
theorem pap_end {W : Nat} {due : List Str} {st : WkS} {lm : List Str} {cl : List (List Nat)} (h : Wlk due due st lm cl) (p : Pap W due st) (hd : ∀ x ∈ due, Num W x) (srt : sortedS due = true) (nd : due.Nodup) (he : pend st = []) : ((st.paper.map (·.1)).map S).Nodup ∧ ∀ y, y ∈ (st.paper.map (·.1)).map S ↔ MetS W due y := by
  have finj : ∀ {a b : List Nat}, S a = S b → a = b := fun e => by
    have := congrArg (fun z : Str => z.cps.toList) e
    simpa [S_list] using this
  refine ⟨List.Pairwise.map S (fun a b h e => h (finj e)) h.pp, fun y => ?_⟩
  have de := due_end h hd srt nd he
  constructor
  · intro hy
    obtain ⟨l, hl, rfl⟩ := List.mem_map.mp hy
    obtain ⟨z, hz, rfl⟩ := List.mem_map.mp hl
    obtain ⟨a, b⟩ := p.pa z hz
    rcases b with b | ⟨x, hx, b⟩
    · exact .inl (by rw [b]; exact empty_S.symm)
    · exact .inr ⟨x, hx, z.1.length, a, by rw [of_decide_eq_true b]⟩
  · rintro (e | ⟨x, hx, i, hi, e⟩)
    · rcases p.nl with q | q
      · rw [he] at q
        cases q
      · exact List.mem_map.mpr ⟨_, q, by rw [e]; exact empty_S.symm⟩
    · rw [de] at hx
      obtain ⟨l, hl, rfl⟩ := List.mem_map.mp hx
      rw [S_list] at e
      exact List.mem_map.mpr ⟨_, p.fb l hl i hi, e.symm⟩
end B

set_option Elab.async false
set_option linter.all false
set_option maxRecDepth 100000
set_option maxHeartbeats 4000000
namespace B
open PySem PySem.Spec PyProof.Rows L2
open SX (S)
theorem FrT.drop {K : PySem.W.Frag} {U T : List Addr} {H H' : Hp} (f : FrT K U H H') (h : ∀ x ∈ U, x ∈ T ∨ H x = none) : FrT K T H H' := ⟨fun b o e t n => f.k b o e t fun z => (h b z).elim n (fun q => absurd (q.symm.trans e) (by simp)), f.b, f.t⟩
theorem eqv_strs {xs : List Str} (h : ∀ x ∈ xs, PyData.strOk x = true) : PyData.eqv (.list (xs.map .str)) (.list (xs.map .str)) = true := by
  have q := shaped_strs h
  have q' : ((PyData.list (xs.map .str)).canLay0 && decide ((PyData.list (xs.map .str)).depth ≤ 64)) = true := q
  rw [Bool.and_eq_true] at q'
  exact SeqAt.eqv_refl _ q'.1
section
variable {X : Cx}
def rSortedAny (K : PySem.W.Frag) : List V → Hp → VK → Prop := fun vs H Q => ∃ (a : Addr) (xs : List Str), vs = [V.ref a] ∧ SqL K H a (xs.map V.str) ∧ xs.length ≤ sizeLine ∧ ∀ (ys : List Str) (p : Addr), ys.Perm xs → sortedS ys = true → H p = none → Q (.ref p) (upd H p (.lst (ys.map V.str)))
theorem cr_sortedAny : CallR X (.builtin "sorted") (rSortedAny X.K) := by
  intro pins s σ H vs us Q I r h
  obtain ⟨a, xs, rfl, hs, big, q⟩ := h
  rw [Vals.ref1 r]
  obtain ⟨its, rv, hl, _⟩ := I.list hs
  have il := rv.length
  rw [List.length_map] at il
  refine sorted_strsAny hl.isList rv.strs (by rw [← il]; exact big) fun out ys h1 h2 h3 => ?_
  obtain ⟨c, hc⟩ := sortedAll_at s.heap its out
  refine ⟨.ref _, upd H (s.heap.objs.size + 1) (.lst (ys.map V.str)), I.laid (t' := s.toks) (fun _ _ => sortedAll_old) (Nat.le_succ _) ⟨?_, out.toList, c, vals_of_strs h1, hc⟩, rfl, q ys _ h2 h3 (I.hok.fresh (Nat.le_succ _))⟩
  rw [List.length_map, h2.length_eq]
  exact big
end
section
variable {P : Program} {w : World} {K : PySem.W.Frag} {mg : Str → Option Value} {base : Heap}
abbrev AL2 (K : PySem.W.Frag) : V → V → Hp → Prop := AlStep K (AlStep K (AlStep K fun _ _ _ => False))
end
/-- all steps on a still wire -/
structure Als (names : List Str) (W : Nat) (due : List Str) (q r : Q4) : Prop where
  wl : ∃ cl, Wlk due due r.1 r.2.1 cl
  pp : Pap W due r.1
  iv : ∃ b, InvQ names W r b
  lk : r.2.2.2 = q.2.2.2 + (r.1.paper.length : Int) - (q.1.paper.length : Int)
theorem all_still {W : Nat} {kvs : List (Str × Bool)} {names due : List Str} (hW : 1 ≤ W) (hd : ∀ x ∈ due, Num W x) (hk : kvs.length ≤ 41) (hkn : ∀ x ∈ kvs.map (·.1), x ∈ names) (hnn : ∀ x ∈ names, Num W x) :
    ∀ {n : Nat} {q : Q4} {b : Nat} {cl : List (List Nat)}, Wlk due due q.1 q.2.1 cl → Pap W due q.1 → InvQ names W q b → (∀ x, x ∈ lisB kvs (decide (q.1.kd = "all")) ↔ x ∈ due) → Als names W due q (allF W kvs n q) := by
  intro n
  induction n with
  | zero => exact fun {q b cl} h p iv he => ⟨⟨cl, h⟩, p, ⟨b, iv⟩, by show q.2.2.2 = q.2.2.2 + (q.1.paper.length : Int) - (q.1.paper.length : Int); omega⟩
  | succ n ih =>
    intro q b cl h p iv he
    by_cases hst : q.1.sd = none ∧ q.1.rest = []
    · rw [all_stop hst]
      exact ⟨⟨cl, h⟩, p, ⟨b, iv⟩, by omega⟩
    · rw [all_go hst]
      have hr : q.1.sd = none → q.1.rest ≠ [] := fun a b => hst ⟨a, b⟩
      obtain ⟨cl', w1, _⟩ := wlk_step (kvs := kvs) (lk := q.2.2.2) h iv.ok hr hW hd hd (fun x hx => (he x).mp hx) fun x hx => (he x).mpr hx
      have s1 := step_still (kvs := kvs) (lk := q.2.2.2) h p iv.ok hr hW hd
      have i1 := inv_step (kvs := kvs) iv hr hk hkn hnn
      have r := ih (q := stepQ W kvs q) w1 s1.pp i1.1 (fun x => by
        show x ∈ lisB kvs (decide ((stepF W kvs q.2.1 q.2.2.2 q.1).1.1.kd = "all")) ↔ _
        rw [step_kd]
        exact he x)
      have l1 := r.lk
      have l2 := s1.lk
      refine ⟨r.wl, r.pp, r.iv, ?_⟩
      show (allF W kvs n (stepQ W kvs q)).2.2.2 = q.2.2.2 + ((allF W kvs n (stepQ W kvs q)).1.paper.length : Int) - (q.1.paper.length : Int)
      have e1 : (stepQ W kvs q).2.2.2 = (stepF W kvs q.2.1 q.2.2.2 q.1).2.2.2 := rfl
      have e2 : (stepQ W kvs q).1 = (stepF W kvs q.2.1 q.2.2.2 q.1).1.1 := rfl
      rw [e1, e2] at l1
      omega
theorem all_lm {W n : Nat} {kvs : List (Str × Bool)} {lm : List Str} {sdm : Option (List Nat)} {lk : Int} {st : WkS} (h : st.sd = none) (hr : st.rest ≠ []) : allF W kvs (n + 1) (st, lm, sdm, lk) = allF W kvs (n + 1) (st, [], none, lk) := by
  have e : stepF W kvs lm lk st = stepF W kvs [] lk st := by
    obtain ⟨kd, rest, sd, found, paper⟩ := st
    dsimp only at h
    subst h
    rfl
  rw [all_go (q := (st, lm, sdm, lk)) (fun z => hr z.2), all_go (q := (st, [], none, lk)) (fun z => hr z.2)]
  dsimp only
  rw [e]
/-- what a new walk finds -/
theorem all_new {W : Nat} {kvs : List (Str × Bool)} {names due : List Str} {kd : Str} {lm : List Str} {sdm : Option (List Nat)} {lk : Int} (hW : 1 ≤ W) (hW2 : W ≤ 12) (hn : names ≠ []) (hl : names.length ≤ 41) (hd : ∀ x ∈ due, Num W x) (srt : sortedS due = true) (nd : due.Nodup) (hk : kvs.length ≤ 41) (hkn : ∀ x ∈ kvs.map (·.1), x ∈ names) (hnn : ∀ x ∈ names, Num W x)
    (he : ∀ x, x ∈ lisB kvs (decide (kd = "all")) ↔ x ∈ due) {R : Q4} (eR : R = allF W kvs (meas W ⟨kd, [[]], none, [], []⟩) (⟨kd, [[]], none, [], []⟩, lm, sdm, lk)) (h1 : R.1.sd = none) (h2 : R.1.rest = []) :
    R.1.found.map S = due ∧ R.2.1.length ≤ 41 ∧ ∃ m : Nat, R.2.2.2 = lk + (m : Int) ∧ ∀ ys, MetL W due ys → ys.length = m := by
  have hp : 0 < meas W ⟨kd, [[]], none, [], []⟩ := meas_pos (fun z => by cases z.2)
  obtain ⟨m0, hm0⟩ : ∃ m0, meas W ⟨kd, [[]], none, [], []⟩ = m0 + 1 := ⟨meas W ⟨kd, [[]], none, [], []⟩ - 1, by omega⟩
  rw [hm0, all_lm rfl (by simp)] at eR
  have i0 := (inv_new (kd := kd) hn hW2 hl).1
  have iv : InvQ names W (⟨kd, [[]], none, [], []⟩, [], none, lk) 1 := ⟨i0.ok, i0.cn, i0.sub, i0.beg, i0.len, i0.mz⟩
  have A := all_still (n := m0 + 1) (kvs := kvs) hW hd hk hkn hnn (q := (⟨kd, [[]], none, [], []⟩, [], none, lk)) wlk_new pap_new iv he
  rw [← eR] at A
  obtain ⟨⟨cl, wl⟩, pp, ⟨b, iv2⟩, l⟩ := A
  have ep : pend R.1 = [] := by
    obtain ⟨⟨k1, rest, sd, fo, pa⟩, R2⟩ := R
    dsimp only at h1 h2
    subst h1
    exact h2
  have df := due_end wl hd srt nd ep
  obtain ⟨q1, q2⟩ := pap_end wl pp hd srt nd ep
  refine ⟨df.symm, iv2.len, R.1.paper.length, ?_, fun ys hy => ?_⟩
  · have e : R.2.2.2 = lk + (R.1.paper.length : Int) - ((0 : Nat) : Int) := l
    omega
  · have pm := (List.perm_ext_iff_of_nodup q1 hy.nd).mpr fun y => (q2 y).trans (hy.mem y).symm
    have := pm.length_eq
    rw [List.length_map, List.length_map] at this
    exact this.symm
end B

set_option Elab.async false
set_option linter.all false
set_option maxRecDepth 100000
set_option maxHeartbeats 4000000
namespace B
open PySem PySem.Spec PyProof.Rows L2
open SX (S)
/-! ### the fewest looks of a paper -/
theorem putB_len {kvs : List (Str × Bool)} {x : Str} {b : Bool} : (putB kvs x b).length ≤ kvs.length + 1 := by
  unfold putB
  split
  · rw [List.length_map]
    exact Nat.le_succ _
  · rw [List.length_append]
    exact Nat.le_refl _
theorem flt_go {H : Hp} {D : Addr} {xs : List Str} {f : Str → Bool} {i : Nat} {x : Str} (hx : xs[i]? = some x) (hl : xs.length ≤ 100000) (c : f x = true) : ∃ acc, (upd H D (.lst (((xs.take i).filter f).map V.str))) D = some (.lst acc) ∧ acc.length < sizeLine ∧ upd (upd H D (.lst (((xs.take i).filter f).map V.str))) D (.lst (acc ++ [V.str x])) = upd H D (.lst (((xs.take (i + 1)).filter f).map V.str)) := by
  refine ⟨_, upd_same, ?_, ?_⟩
  · rw [List.length_map]
    have h1 := List.length_filter_le f (xs.take i)
    rw [List.length_take] at h1
    exact Nat.lt_of_le_of_lt (show _ ≤ 100000 by omega) (by decide)
  · rw [upd_upd, filter_step _ hx, if_pos c, List.map_append]
    rfl
theorem flt_no {H : Hp} {D : Addr} {xs : List Str} {f : Str → Bool} {i : Nat} {x : Str} (hx : xs[i]? = some x) (c : f x = false) : upd H D (.lst (((xs.take i).filter f).map V.str)) = upd H D (.lst (((xs.take (i + 1)).filter f).map V.str)) := by
  rw [filter_step _ hx, if_neg (by rw [c]; exact Bool.false_ne_true), List.append_nil]
/-- whether a look at a beginning may not be left out, by the texts that numbers begin with -/
def needF (W : Nat) (kvs : List (Str × Bool)) (b : Str) : Bool := !(hasK kvs (b ++ "0") && hasK kvs (b ++ "1")) || decide ((b.length : Int) = (W : Int) - 1)
section
variable {P : Program} {w : World} {K : PySem.W.Frag} {mg : Str → Option Value} {base : Heap}
def spNeed : Sp := fun vs H Q _ => ∃ (W : Nat) (d : Addr) (kvs : List (Str × Bool)) (b : Str), vs = [.int W, .ref d, .str b] ∧ H d = some (.dK (kv kvs)) ∧ b.length ≤ 12 ∧ Q (.bl (needF W kvs b)) H
theorem c_is_needed (T : Txt P w K mg base) : CalX CX0 P w K mg base 1 "is_needed" spNeed := by
  obtain ⟨fd, F⟩ := T.t.def_ 13 (d := d_is_needed)
  refine ⟨_, fd, _, F.ok sc_is_needed (fun vs H Q E h => ?_) (fun cdv A outer s H vs Q E hr h => ?_), He.glo_ok T.X T.G (T.t.fact 13), F.kp, F.bindsN fun _ _ _ _ _ _ us hl => match us, hl with | [_, _, _], _ => rfl⟩
  · obtain ⟨W, d, kvs, b, rfl, _⟩ := h
    rfl
  · obtain ⟨W, d, kvs, b, rfl, hd, hb, k⟩ := h
    have hu := hu_of hr
    refine ⟨_, PSs.nox (pss_cons (ps_set (i := 3) sc_is_needed.nd rfl (Or.inl rfl) (pe_and (pe_cmp (pc_din hu (pe_op op_add_str (pv 2) pe_str) (pv 1)) rfl) (pe_one (pe_cmp (pc_din hu (pe_op op_add_str (pv 2) pe_str) (pv 1)) rfl))))
    (pss_one (ps_ret (pe_or (pe_not (pv 3)) (pe_one (pe_cmpR op_eq (pe_callB call_len_str (by rfl) (n_len T) PySem.boot_len (pa_cons (pv 2) pa_nil)) (pe_op op_sub (pv 0) pe_int) (nomark _))))))), ?_⟩
    have lb : b.length + ("0" : Str).length ≤ sizeLine := Nat.le_trans (show b.length + 1 ≤ 13 by omega) (by decide)
    have lb1 : b.length + ("1" : Str).length ≤ sizeLine := Nat.le_trans (show b.length + 1 ≤ 13 by omega) (by decide)
    have fin : ∀ c : Bool, c = (hasK kvs (b ++ "0") && hasK kvs (b ++ "1")) → (if (!c) = true then Q (.bl true) H else Q (.bl (decide ((b.length : Int) = (W : Int) - 1))) H) := fun c hc => by
      unfold needF at k
      rw [← hc] at k
      cases c with
      | true => exact k
      | false => exact k
    refine ⟨_, rfl, b, "0", rfl, rfl, lb, _, rfl, d, _, rfl, dg_has (.inl hd) (b ++ "0"), ?_⟩
    rw [some_map_bl, get_has]
    refine ⟨_, rfl, ?_⟩
    cases c0 : hasK kvs (b ++ "0") with
    | false =>
      exact ⟨_, rfl, _, rfl, _, rfl, fin false (by rw [c0]; rfl)⟩
    | true =>
      refine ⟨_, rfl, b, "1", rfl, rfl, lb1, _, rfl, d, _, rfl, dg_has (.inl hd) (b ++ "1"), ?_⟩
      rw [some_map_bl, get_has]
      refine ⟨_, rfl, _, rfl, _, rfl, ?_⟩
      have f := fin (hasK kvs (b ++ "1")) (by rw [c0]; rfl)
      revert f
      cases hasK kvs (b ++ "1") with
      | false => exact fun f => f
      | true =>
        intro f
        refine ⟨_, rfl, b, rfl, size12 (by omega), _, rfl, _, _, rfl, rfl, rfl, ?_⟩
        rw [int_dec]
        exact f
theorem met_len {W : Nat} {xs ms : List Str} (h : MetL W xs ms) : ms.length ≤ 1 + xs.length * W := by
  have len : ∀ l : List Str, (l.flatMap fun x => (List.range W).map fun i => S (x.cps.toList.take i)).length = l.length * W := fun l => by
    induction l with
    | nil => simp
    | cons x r ih => rw [List.flatMap_cons, List.length_append, ih, List.length_map, List.length_range, List.length_cons, Nat.succ_mul, Nat.add_comm]
  have := nodup_le h.nd (ys := "" :: xs.flatMap fun x => (List.range W).map fun i => S (x.cps.toList.take i)) fun y hy => by
    rcases (h.mem y).mp hy with e | ⟨x, hx, i, hi, e⟩
    · exact List.mem_cons.mpr (.inl e)
    · exact List.mem_cons.mpr (.inr (List.mem_flatMap.mpr ⟨x, hx, List.mem_map.mpr ⟨i, List.mem_range.mpr hi, e.symm⟩⟩))
  rw [List.length_cons, len] at this
  omega
/-- reached are the texts that some begin with, whole numbers, too -/
def ReaS (W : Nat) (xs : List Str) (y : Str) : Prop := ∃ x ∈ xs, ∃ i, i < W + 1 ∧ y = S (x.cps.toList.take i)
/-- told of a list of numbers: of the beginnings met those that are needed -/
def spFew (K : PySem.W.Frag) : Sp := fun vs H Q _ => ∃ (W : Nat) (p : Addr) (xs : List Str), vs = [.int W, .ref p] ∧ H p = some (.lst (xs.map V.str)) ∧ (∀ x ∈ xs, Num W x) ∧ 1 ≤ W ∧ W ≤ 12 ∧ xs.length ≤ 41 ∧ Tb K H ∧
  ∀ (ms : List Str) (kvs : List (Str × Bool)) (q : Addr) (H' : Hp), MetL W xs ms → (∀ y, hasK kvs y = true ↔ ReaS W xs y) → H q = none → H' q = some (.lst ((ms.filter (needF W kvs)).map V.str)) → FrT K [] H H' → Q (.ref q) H'
theorem c_fewest (T : Txt P w K mg base) : CalX CX0 P w K mg base 4 "fewest" (spFew K) := by
  obtain ⟨fd, F⟩ := T.t.def_ 12 (d := d_fewest)
  refine ⟨_, fd, _, F.ok sc_fewest (fun vs H Q E h => ?_) (fun cdv A outer s H vs Q E hr h => ?_), He.glo_ok T.X T.G (T.t.fact 12), F.kp, F.bindsN fun _ _ _ _ _ _ us hl => match us, hl with | [_, _], _ => rfl⟩
  · obtain ⟨W, p, xs, rfl, _⟩ := h
    rfl
  · obtain ⟨W, p, xs, rfl, hp, hnum, w1, w2, hlen, ht, k⟩ := h
    have hu := hu_of hr
    refine ⟨_, PSs.nox (pss_cons (ps_set (i := 2) sc_fewest.nd rfl (Or.inl rfl) (pe_cx (c_met T) hr (by decide) rfl pass0 (pa_cons (pv 0) (pa_cons (pv 1) pa_nil))))
    (pss_cons (ps_set (i := 3) sc_fewest.nd rfl (Or.inr rfl) (pe_dc2 (own := [("number", 4), ("length", 5)]) (vb := [5]) (ga := gName 4) (gb := gName 5) rfl sc_fewest.nd (pi_list (pv 1)) (blkOk_by (N := ["width", "numbers", "beginnings", "reached", "number", "length", "beginning"]) (sc := defScope s_fewest) (own := [("number", 4), ("length", 5)]) (by decide +kernel)) (by decide) (fun _ _ _ _ _ => pg_name (i := 4) sc_fewest.nd rfl (Or.inl rfl)) (fun _ _ _ _ _ => by exact (pi_range1 rfl (n_range T) (pa_cons (pe_op op_add (pv 0) pe_int) pa_nil))) (fun _ _ _ _ _ => pg_name (i := 5) sc_fewest.nd rfl (Or.inl rfl)) (fun _ _ _ _ _ => by exact (pe_slice C8.sl_txt (pv 4) po_none (po_some (pv 5)))) (fun _ _ _ _ _ => by exact pe_bl)))
    (pss_one (ps_ret (pe_lc (own := [("beginning", 6)]) (g := gName 6) rfl sc_fewest.nd (pi_list (pv 2)) (blkOk_by (N := ["width", "numbers", "beginnings", "reached", "number", "length", "beginning"]) (sc := defScope s_fewest) (own := [("beginning", 6)]) (by decide +kernel)) (fun _ _ _ _ _ => pg_name (i := 6) sc_fewest.nd rfl (Or.inl rfl)) (fun _ _ _ _ _ => pts_one (by exact (pt_val (pe_cx (c_is_needed T) hr (by decide) rfl pass0 (pa_cons (pv 0) (pa_cons (pv 3) (pa_cons (pv 6) pa_nil))))))) (fun _ _ _ _ _ => by exact (pv 6))))))), ?_⟩
    refine ⟨_, rfl, _, rfl, W, p, xs, rfl, hp, hnum, w1, w2, hlen, ht, fun ms pB H1 ml hpB hB f1 => ?_⟩
    have hp1 := f1.k _ _ hp rfl (by simp)
    refine ⟨_, rfl, p, rfl, ⟨_, SqL.of hp1⟩, fun D hD => ?_⟩
    have nD : p ≠ D := ne_of_none hp1 hD
    have nB : pB ≠ D := ne_of_none hB hD
    refine walk_lst (K := K) (a := p) (xs := xs.map V.str) (fun i H' => ∃ kvs : List (Str × Bool), (∀ y, hasK kvs y = true ↔ ReaS W (xs.take i) y) ∧ kvs.length ≤ i * 13 ∧ H' = upd H1 D (.dK (kv kvs))) ⟨[], fun y => ⟨fun z => (by cases z), fun ⟨x, hx, _⟩ => absurd hx (by simp)⟩, Nat.zero_le _, rfl⟩ (fun i H' _ ⟨_, _, _, e⟩ => by rw [e]; exact SqL.of (by rw [upd_ne nD]; exact hp1)) ?_ ?_
    · rintro i y H2 hi ⟨kvs, hk, hl, rfl⟩
      obtain ⟨x, hx, rfl⟩ := at_map hi
      have hxn := hnum x (List.mem_of_getElem? hx)
      refine ⟨rfl, _, rfl, _, _, rfl, rfl, (W : Int) + 1, rfl, by omega, by omega, ?_⟩
      refine walk_rng (lo := 0) (n := ((W : Int) + 1).toNat) (fun j H' => ∃ kvs : List (Str × Bool), (∀ y, hasK kvs y = true ↔ ReaS W (xs.take i) y ∨ ∃ c, c < j ∧ y = S (x.cps.toList.take c)) ∧ kvs.length ≤ i * 13 + j ∧ H' = upd H1 D (.dK (kv kvs))) ⟨kvs, fun y => (hk y).trans ⟨.inl, fun z => z.elim id fun ⟨c, hc, _⟩ => absurd hc (by omega)⟩, by omega, rfl⟩ ?_ ?_
      · rintro j H3 hj ⟨kvs, hk, hl, rfl⟩
        have il := (List.getElem?_eq_some_iff.mp hx).1
        refine ⟨rfl, _, rfl, _, rfl, 0 + (j : Int), rfl, x, rfl, by rw [num_len hxn]; exact size12 (by omega), kv kvs, .inr (S (x.cps.toList.take j)), ?_, upd_same, ?_, ?_⟩
        · rw [show x = S x.cps.toList from (S_cps x).symm, SX.slice_to (by omega), S_list]
          exact congrArg (fun c => V.str (S (x.cps.toList.take c))) (by omega)
        · unfold kv
          rw [List.length_map]
          exact small1000 (by omega)
        · refine ⟨putB kvs (S (x.cps.toList.take j)) true, fun y => ?_, by have := putB_len (kvs := kvs) (x := S (x.cps.toList.take j)) (b := true); omega, by rw [upd_upd, put_kv]⟩
          rw [has_key, keys_in, ← has_key, hk y, or_assoc]
          refine or_congr Iff.rfl ⟨?_, ?_⟩
          · rintro (⟨c, hc, e⟩ | e)
            · exact ⟨c, by omega, e⟩
            · exact ⟨j, by omega, e⟩
          · rintro ⟨c, hc, e⟩
            by_cases q : c = j
            · exact .inr (by rw [← q]; exact e)
            · exact .inl ⟨c, by omega, e⟩
      · rintro H3 ⟨kvs, hk, hl, rfl⟩
        refine ⟨kvs, fun y => (hk y).trans ?_, by rw [Nat.succ_mul]; omega, rfl⟩
        rw [take_snoc hx]
        unfold ReaS
        constructor
        · rintro (⟨z, hz, r⟩ | ⟨c, hc, e⟩)
          · exact ⟨z, List.mem_append_left _ hz, r⟩
          · exact ⟨x, by simp, c, by omega, e⟩
        · rintro ⟨z, hz, c, hc, e⟩
          rcases List.mem_append.mp hz with r | r
          · exact .inl ⟨z, r, c, hc, e⟩
          · rw [List.mem_singleton.mp r] at e
            exact .inr ⟨c, by omega, e⟩
    · rintro H2 ⟨kvs, hk, hl, rfl⟩
      rw [List.length_map, List.take_length] at hk
      have g1 : Frm [] H1 (upd H1 D (.dK (kv kvs))) := Frm.of (same_upd hD)
      have hB1 := g1.k _ _ hB rfl (by simp)
      have d1 : (upd H1 D (.dK (kv kvs))) D = some (.dK (kv kvs)) := upd_same
      revert g1 hB1 d1
      generalize (upd H1 D (.dK (kv kvs))) = H2
      intro g1 hB1 d1
      refine ⟨_, rfl, pB, rfl, ⟨_, SqL.of hB1⟩, fun q hq => ?_⟩
      have nq1 : pB ≠ q := ne_of_none hB1 hq
      have nq2 : D ≠ q := ne_of_none d1 hq
      have mlen : ∀ b ∈ ms, b.length ≤ 12 := fun b hb => by
        rcases (ml.mem b).mp hb with rfl | ⟨x, hx, i, hi, rfl⟩
        · decide +kernel
        · rw [SX.S_len, List.length_take]
          omega
      have mle : ms.length ≤ 100000 := by
        have m1 := met_len ml
        have m2 : xs.length * W ≤ 41 * 12 := Nat.mul_le_mul hlen w2
        omega
      refine lc_list (K := K) (a := pB) (xs := ms.map V.str) (fun i H' => H' = upd H2 q (.lst (((ms.take i).filter (needF W kvs)).map V.str))) rfl (fun i H' _ e => by rw [e]; exact SqL.of (by rw [upd_ne nq1]; exact hB1)) ?_ ?_
      · rintro i2 y H3 hi2 e
        subst e
        obtain ⟨b, hb, rfl⟩ := at_map hi2
        refine ⟨rfl, _, rfl, _, rfl, _, rfl, W, D, kvs, b, rfl, by rw [upd_ne nq2]; exact d1, mlen b (List.mem_of_getElem? hb), needF W kvs b, rfl, iteB (fun c => ⟨_, rfl, flt_go hb mle c⟩) (fun c => flt_no hb c)⟩
      · rintro H3 rfl
        rw [List.length_map, List.take_length]
        have g3 : Frm [] H2 (upd H2 q (.lst ((ms.filter (needF W kvs)).map V.str))) := Frm.of (same_upd hq)
        exact k ms kvs q _ ml hk (f1.b _ (g1.b _ hq)) upd_same (f1.trans ((g1.trans g3).toT .nil))
end
end B

set_option Elab.async false
set_option linter.all false
set_option maxRecDepth 100000
set_option maxHeartbeats 4000000
namespace B
open PySem PySem.Spec PyProof.Rows L2
open SX (S)
/-! ### the texts that looks' beginnings begin with -/
def OpenS (ps : List (List Nat × Bool × Bool)) (y : Str) : Prop := ∃ q ∈ ps, ∃ i, i ≤ q.1.length ∧ y = S (q.1.take i)
section
variable {P : Program} {w : World} {K : PySem.W.Frag} {mg : Str → Option Value} {base : Heap}
def spOpen (K : PySem.W.Frag) : Sp := fun vs H Q _ => ∃ (p : Addr) (ps : List (List Nat × Bool × Bool)), vs = [.ref p] ∧ PapAt H p ps ∧ (∀ q ∈ ps, q.1.length ≤ 12) ∧ ps.length ≤ 1000 ∧
  ∀ (kvs : List (Str × Bool)) (D : Addr) (H' : Hp), (∀ y, hasK kvs y = true ↔ OpenS ps y) → H D = none → H' D = some (.dK (kv kvs)) → Frm [] H H' → Q (.ref D) H'
theorem c_opened_by (T : Txt P w K mg base) : CalX CX0 P w K mg base 1 "opened_by" (spOpen K) := by
  obtain ⟨fd, F⟩ := T.t.def_ 8 (d := d_opened_by)
  refine ⟨_, fd, _, F.ok sc_opened_by (fun vs H Q E h => ?_) (fun cdv A outer s H vs Q E hr h => ?_), He.glo_ok T.X T.G (T.t.fact 8), F.kp, F.bindsN fun _ _ _ _ _ _ us hl => match us, hl with | [_], _ => rfl⟩
  · obtain ⟨p, ps, rfl, _⟩ := h
    rfl
  · obtain ⟨p, ps, rfl, ⟨ts, t1, t2, t3⟩, hl, hn, k⟩ := h
    refine ⟨_, PSs.nox (pss_one (ps_ret (pe_dc2 (own := [("look", 1), ("length", 2)]) (vb := [2]) (ga := gName 1) (gb := gName 2) rfl sc_opened_by.nd (pi_list (pv 0)) (blkOk_by (N := ["looks", "look", "length"]) (sc := defScope s_opened_by) (own := [("look", 1), ("length", 2)]) (by decide +kernel)) (by decide) (fun _ _ _ _ _ => pg_name (i := 1) sc_opened_by.nd rfl (Or.inl rfl)) (fun _ _ _ _ _ => by exact (pi_range1 rfl (n_range T) (pa_cons (pe_op op_add (pe_callB call_len_str (by rfl) (n_len T) PySem.boot_len (pa_cons (pe_ix (ix_seqK (K := K) rfl) (pv 1) pe_int (fun _ _ => rfl)) pa_nil)) pe_int) pa_nil))) (fun _ _ _ _ _ => pg_name (i := 2) sc_opened_by.nd rfl (Or.inl rfl)) (fun _ _ _ _ _ => by exact (pe_slice C8.sl_txt (pe_ix (ix_seqK (K := K) rfl) (pv 1) pe_int (fun _ _ => rfl)) po_none (po_some (pv 2)))) (fun _ _ _ _ _ => by exact pe_bl)))), ?_⟩
    refine ⟨_, rfl, p, rfl, ⟨_, SqL.of t1⟩, fun D hD => ?_⟩
    have nD : p ≠ D := ne_of_none t1 hD
    refine walk_lst (K := K) (a := p) (xs := ts.map V.ref) (fun i H' => ∃ kvs : List (Str × Bool), (∀ y, hasK kvs y = true ↔ OpenS (ps.take i) y) ∧ kvs.length ≤ i * 13 ∧ H' = upd H D (.dK (kv kvs))) ⟨[], fun y => ⟨fun z => (by cases z), fun ⟨x, hx, _⟩ => absurd hx (by simp)⟩, Nat.zero_le _, rfl⟩ (fun i H' _ ⟨_, _, _, e⟩ => by rw [e]; exact SqL.of (by rw [upd_ne nD]; exact t1)) ?_ ?_
    · rintro i y H2 hi ⟨kvs, hk, hkl, rfl⟩
      rw [List.getElem?_map] at hi
      cases hti : ts[i]? with
      | none => rw [hti] at hi; cases hi
      | some tt =>
        rw [hti] at hi
        obtain rfl := Option.some.inj hi
        have hi3 : i < ps.length := by rw [← t2]; exact (List.getElem?_eq_some_iff.mp hti).1
        have hz := List.getElem?_eq_getElem hi3
        have htt := t3 i tt _ hti hz
        have nT : tt ≠ D := ne_of_none htt hD
        have l12 := hl ps[i] (List.getElem_mem hi3)
        generalize ps[i] = q at hz htt l12
        refine ⟨rfl, _, rfl, .inr (.inl ⟨tt, _, _, _, rfl, rfl, SqT.of (by rw [upd_ne nT]; exact htt), rfl, S q.1, rfl, by rw [SX.S_len]; exact size12 (by omega), _, _, rfl, rfl, ((S q.1).length : Int) + 1, rfl, by rw [SX.S_len]; omega, by rw [SX.S_len]; omega, ?_⟩)⟩
        rw [SX.S_len]
        refine walk_rng (lo := 0) (n := ((q.1.length : Int) + 1).toNat) (fun j H' => ∃ kvs : List (Str × Bool), (∀ y, hasK kvs y = true ↔ OpenS (ps.take i) y ∨ ∃ c, c < j ∧ y = S (q.1.take c)) ∧ kvs.length ≤ i * 13 + j ∧ H' = upd H D (.dK (kv kvs))) ⟨kvs, fun y => (hk y).trans ⟨.inl, fun z => z.elim id fun ⟨c, hc, _⟩ => absurd hc (by omega)⟩, by omega, rfl⟩ ?_ ?_
        · rintro j H3 hj ⟨kvs, hk, hkl, rfl⟩
          refine ⟨rfl, _, rfl, .inr (.inl ⟨tt, _, _, _, rfl, rfl, SqT.of (by rw [upd_ne nT]; exact htt), rfl, _, rfl, 0 + (j : Int), rfl, S q.1, rfl, by rw [SX.S_len]; exact size12 (by omega), kv kvs, .inr (S (q.1.take j)), ?_, upd_same, ?_, ?_⟩)⟩
          · rw [SX.slice_to (by omega)]
            exact congrArg (fun c => V.str (S (q.1.take c))) (by omega)
          · unfold kv
            rw [List.length_map]
            exact big6 (by omega)
          · refine ⟨putB kvs (S (q.1.take j)) true, fun y => ?_, by have := putB_len (kvs := kvs) (x := S (q.1.take j)) (b := true); omega, by rw [upd_upd, put_kv]⟩
            rw [has_key, keys_in, ← has_key, hk y, or_assoc]
            refine or_congr Iff.rfl ⟨?_, ?_⟩
            · rintro (⟨c, hc, e⟩ | e)
              · exact ⟨c, by omega, e⟩
              · exact ⟨j, by omega, e⟩
            · rintro ⟨c, hc, e⟩
              by_cases z : c = j
              · exact .inr (by rw [← z]; exact e)
              · exact .inl ⟨c, by omega, e⟩
        · rintro H3 ⟨kvs, hk, hkl, rfl⟩
          refine ⟨kvs, fun y => (hk y).trans ?_, by rw [Nat.succ_mul]; omega, rfl⟩
          rw [take_snoc hz]
          unfold OpenS
          constructor
          · rintro (⟨z, hz, r⟩ | ⟨c, hc, e⟩)
            · exact ⟨z, List.mem_append_left _ hz, r⟩
            · exact ⟨q, by simp, c, by omega, e⟩
          · rintro ⟨z, hz, c, hc, e⟩
            rcases List.mem_append.mp hz with r | r
            · exact .inl ⟨z, r, c, hc, e⟩
            · rw [List.mem_singleton.mp r] at e hc
              exact .inr ⟨c, by omega, e⟩
    · rintro H2 ⟨kvs, hk, hkl, rfl⟩
      rw [List.length_map, t2, List.take_length] at hk
      exact k kvs D _ hk hD upd_same (Frm.of (same_upd hD))
end
end B

set_option Elab.async false
set_option linter.all false
set_option maxRecDepth 100000
set_option maxHeartbeats 4000000
namespace B
open PySem PySem.Spec PyProof.Rows L2
open SX (S)
/-! ### sets of things behind a beginning at which nobody looked -/
/-- a list of lists of texts -/
def SetsAt (H : Hp) (p : Addr) (ss : List (List Str)) : Prop := ∃ qs : List Addr, H p = some (.lst (qs.map V.ref)) ∧ qs.length = ss.length ∧ ∀ (i : Nat) (q : Addr) (s : List Str), qs[i]? = some q → ss[i]? = some s → H q = some (.lst (s.map V.str))
theorem SetsAt.keep {S : List Addr} {H H' : Hp} {p : Addr} {ss : List (List Str)} (h : SetsAt H p ss) (f : Frm [] H H') : SetsAt H' p ss := by
  obtain ⟨qs, a, b, c⟩ := h
  exact ⟨qs, f.k _ _ a rfl (by simp), b, fun i q s h1 h2 => f.k _ _ (c i q s h1 h2) rfl (by simp)⟩
def unlF (W : Nat) (l : List Nat) : List (List Str) := if l.length = W then [[], [S l]] else [[], [S (l ++ List.replicate (W - l.length) 48)], [S (l ++ List.replicate (W - l.length) 49)]]
theorem ones_ok : ∀ n : Nat, n ≤ 12 → PySem.MulOk "1" (n : Int) := fun n hn => by
  have h := zeros_ok n hn
  exact h
theorem ones_is : ∀ n : Nat, n ≤ 12 → Txt.mul "1" (n : Int) = S (List.replicate n 49) := fun n hn => by
  have z : (List.range 13).all (fun n => decide (Txt.mul "1" ((n : Nat) : Int) = S (List.replicate n 49))) = true := by decide +kernel
  exact of_decide_eq_true (List.all_eq_true.mp z n (List.mem_range.mpr (by omega)))
section
variable {P : Program} {w : World} {K : PySem.W.Frag} {mg : Str → Option Value} {base : Heap}
def spUnl : Sp := fun vs H Q _ => ∃ (W : Nat) (l : List Nat), vs = [.int W, .str (S l)] ∧ l.length ≤ W ∧ W ≤ 12 ∧ ∀ (p : Addr) (H' : Hp), H p = none → SetsAt H' p (unlF W l) → Frm [] H H' → Q (.ref p) H'
theorem c_unlooked (T : Txt P w K mg base) : CalX CX0 P w K mg base 1 "unlooked" spUnl := by
  obtain ⟨fd, F⟩ := T.t.def_ 11 (d := d_unlooked)
  refine ⟨_, fd, _, F.ok sc_unlooked (fun vs H Q E h => ?_) (fun cdv A outer s H vs Q E hr h => ?_), He.glo_ok T.X T.G (T.t.fact 11), F.kp, F.bindsN fun _ _ _ _ _ _ us hl => match us, hl with | [_, _], _ => rfl⟩
  · obtain ⟨W, l, rfl, _⟩ := h
    rfl
  · obtain ⟨W, l, rfl, hl, hW, k⟩ := h
    refine ⟨_, PSs.nox (pss_cons (ps_if (pt_cmpR op_eq (pe_callB call_len_str (by rfl) (n_len T) PySem.boot_len (pa_cons (pv 1) pa_nil)) (pv 0) (nomark _))
      (pss_one (ps_ret (pe_lst (pa_cons (pe_lst pa_nil) (pa_cons (pe_lst (pa_cons (pv 1) pa_nil)) pa_nil)))))
      pss_nil)
    (pss_cons (ps_set (i := 2) sc_unlooked.nd rfl (Or.inl rfl) (pe_op op_sub (pv 0) (pe_callB call_len_str (by rfl) (n_len T) PySem.boot_len (pa_cons (pv 1) pa_nil))))
    (pss_one (ps_ret (pe_lst (pa_cons (pe_lst pa_nil) (pa_cons (pe_lst (pa_cons (pe_op op_add_str (pv 1) (pe_op op_rep_str pe_str (pv 2))) pa_nil)) (pa_cons (pe_lst (pa_cons (pe_op op_add_str (pv 1) (pe_op op_rep_str pe_str (pv 2))) pa_nil)) pa_nil)))))))), ?_⟩
    refine ⟨_, rfl, S l, rfl, by rw [SX.S_len]; exact size12 (by omega), _, rfl, rfl, _, rfl, ?_⟩
    rw [int_dec, SX.S_len]
    refine iteB (fun c => ?_) (fun c => ?_)
    · have e : l.length = W := by have := of_decide_eq_true c; omega
      refine ⟨Nat.zero_le _, fun p1 h1 => ⟨_, rfl, by show 1 ≤ sizeLine; decide, fun p2 h2 => ⟨by show 2 ≤ sizeLine; decide, fun p3 h3 => ?_⟩⟩⟩
      refine k p3 _ (upd_back (upd_back h3)) ⟨[p1, p2], upd_same, ?_, ?_⟩ (((Frm.of (same_upd h1)).trans (Frm.of (same_upd h2))).trans (Frm.of (same_upd h3)))
      · unfold unlF
        rw [if_pos e]
        rfl
      · intro i q z hq hz
        unfold unlF at hz
        rw [if_pos e] at hz
        match i, hq, hz with
        | 0, hq, hz =>
          obtain rfl := Option.some.inj hq
          obtain rfl := Option.some.inj hz
          exact same_upd h3 _ _ (same_upd h2 _ _ upd_same)
        | 1, hq, hz =>
          obtain rfl := Option.some.inj hq
          obtain rfl := Option.some.inj hz
          exact same_upd h3 _ _ upd_same
        | i + 2, hq, _ => simp at hq
    · have e : ¬ l.length = W := fun z => of_decide_eq_false c (by omega)
      obtain ⟨n, hn⟩ : ∃ n : Nat, (W : Int) - (l.length : Int) = (n : Int) ∧ n = W - l.length := ⟨W - l.length, by omega, rfl⟩
      refine ⟨_, rfl, _, rfl, S l, rfl, by rw [SX.S_len]; exact size12 (by omega), _, _, rfl, rfl, ?_⟩
      rw [SX.S_len, show (fun i j : Int => V.int (i - j)) (W : Int) (l.length : Int) = V.int (n : Int) from congrArg V.int hn.1]
      have z1 := zeros_is n (by omega)
      have z2 := ones_is n (by omega)
      have lb : ∀ c : Nat, (S l).length + (S (List.replicate n c)).length ≤ sizeLine := fun c => by
        rw [SX.S_len, SX.S_len, List.length_replicate]
        exact Nat.le_trans (show _ ≤ 13 by omega) (by decide)
      refine ⟨Nat.zero_le _, fun p1 h1 => ⟨_, rfl, _, rfl, "0", (n : Int), rfl, rfl, zeros_ok n (by omega), S l, _, rfl, rfl, by rw [z1]; exact lb 48, by show 1 ≤ sizeLine; decide, fun p2 h2 => ⟨_, rfl, _, rfl, "1", (n : Int), rfl, rfl, ones_ok n (by omega), S l, _, rfl, rfl, by rw [z2]; exact lb 49, by show 1 ≤ sizeLine; decide, fun p3 h3 => ⟨by show 3 ≤ sizeLine; decide, fun p4 h4 => ?_⟩⟩⟩⟩
      refine k p4 _ (upd_back (upd_back (upd_back h4))) ⟨[p1, p2, p3], upd_same, ?_, ?_⟩ ((((Frm.of (same_upd h1)).trans (Frm.of (same_upd h2))).trans (Frm.of (same_upd h3))).trans (Frm.of (same_upd h4)))
      · unfold unlF
        rw [if_neg e]
        rfl
      · intro i q z hq hz
        unfold unlF at hz
        rw [if_neg e, ← hn.2, ← SX.S_cat, ← SX.S_cat, ← z1, ← z2] at hz
        match i, hq, hz with
        | 0, hq, hz =>
          obtain rfl := Option.some.inj hq
          obtain rfl := Option.some.inj hz
          exact same_upd h4 _ _ (same_upd h3 _ _ (same_upd h2 _ _ upd_same))
        | 1, hq, hz =>
          obtain rfl := Option.some.inj hq
          obtain rfl := Option.some.inj hz
          exact same_upd h4 _ _ (same_upd h3 _ _ upd_same)
        | 2, hq, hz =>
          obtain rfl := Option.some.inj hq
          obtain rfl := Option.some.inj hz
          exact same_upd h4 _ _ upd_same
        | i + 3, hq, _ => simp at hq
end
end B

set_option Elab.async false
set_option linter.all false
set_option maxRecDepth 100000
set_option maxHeartbeats 4000000
namespace B
open PySem PySem.Spec PyProof.Rows L2
open SX (S)
/-! ### within a comprehension: the fragment by its own name -/
section
variable {X : Cx} {K : PySem.W.Frag}
theorem pi_listK {tg l : Expr} {tl : TE} (hK : X.K = K) (h : PE X l tl) : PI X tg l (iList K tl) := by
  subst hK
  exact pi_list h
theorem pt_truthK {a : Expr} {ta : TE} (hK : X.K = K) (h : PE X a ta) (e : ∀ whole : Sem Value, PySem.isTrue a X.env whole = (do
          let v ← whole
          standAt a.pos
          holding [v] (truthy v))) : PT X a fun σ H Q => ta σ H fun x H' => ∃ k, TruV K x H' k ∧ Q k H' := by
  subst hK
  exact pt_truth h e
theorem pe_notTK {a : Expr} {ta : TE} {pos : Pos} (hK : X.K = K) (h : PE X a ta) (e : ∀ whole : Sem Value, PySem.isTrue a X.env whole = (do
          let v ← whole
          standAt a.pos
          holding [v] (truthy v)) := by intro _; rfl) : PE X (.UnaryOp .Not a pos) (tNotT K ta) := by
  subst hK
  exact pe_notT h
theorem op_eqDK (hK : X.K = K) (hu : X.A.units + 64 < cLine) : OpR X (compareOp .Eq) (rEqD K) := by
  subst hK
  exact op_eqD hu
theorem op_neDK (hK : X.K = K) (hu : X.A.units + 64 < cLine) : OpR X (compareOp .NotEq) (rNeD K) := by
  subst hK
  exact op_neD hu
theorem op_catTK (hK : X.K = K) : OpR X (binaryOp .Add) (rCatT K) := by
  subst hK
  exact op_catT
theorem sl_listK (hK : X.K = K) : SlR X (rSlL K) := by
  subst hK
  exact sl_list
theorem sl_tupK (hK : X.K = K) : SlR X (rSlT K) := by
  subst hK
  exact sl_tup
theorem g_ENOUGH (T : Txt X.prog X.w X.K X.mg X.base) {p : Pos} (hg : Gl X "ENOUGH" := by rfl) : PE X (.Name "ENOUGH" p) (tC (.int 2)) := by
  obtain ⟨t, e⟩ := He.int_ok T.X T.G (T.t.fact 40 (f := .int "ENOUGH" 2))
  exact pe_glob hg e ⟨t, rfl⟩
theorem g_MOST_LOOKS (T : Txt X.prog X.w X.K X.mg X.base) {p : Pos} (hg : Gl X "MOST_LOOKS" := by rfl) : PE X (.Name "MOST_LOOKS" p) (tC (.int 100)) := by
  obtain ⟨t, e⟩ := He.int_ok T.X T.G (T.t.fact 39 (f := .int "MOST_LOOKS" 100))
  exact pe_glob hg e ⟨t, rfl⟩
end
end B

set_option Elab.async false
set_option linter.all false
set_option maxRecDepth 100000
set_option maxHeartbeats 4000000
namespace B
open PySem PySem.Spec PyProof.Rows L2
open SX (S)
/-! ### what looks say of each text -/
/-- what a look says of a text -/
def tol1 (q : List Nat × Bool × Bool) (y : Str) : List Bool := (if y = S (q.1 ++ [48]) then [q.2.1] else []) ++ (if y = S (q.1 ++ [49]) then [q.2.2] else [])
def toldF (ps : List (List Nat × Bool × Bool)) (y : Str) : List Bool := ps.flatMap (tol1 · y)
/-- a dict of texts, of each a list of truths; the lists new since H0 -/
structure TdAt (H0 H : Hp) (D : Addr) (f : Str → List Bool) : Prop where
  d : ∃ kvs : List (Key × V), H D = some (.dK kvs) ∧ (∀ y : Str, (f y = [] ∧ valV kvs (.inr y) = none) ∨ (f y ≠ [] ∧ ∃ q, valV kvs (.inr y) = some (.ref q) ∧ H0 q = none ∧ H q = some (.lst ((f y).map V.bl)))) ∧ (∀ (y z : Str) (q : Addr), valV kvs (.inr y) = some (.ref q) → valV kvs (.inr z) = some (.ref q) → y = z)
theorem TdAt.keep {H0 H H' : Hp} {D : Addr} {f : Str → List Bool} (h : TdAt H0 H D f) (fr : Frm [] H H') : TdAt H0 H' D f := by
  obtain ⟨kvs, a, b, c⟩ := h
  refine ⟨kvs, fr.k _ _ a rfl (by simp), fun y => ?_, c⟩
  rcases b y with z | ⟨z, q, q1, q2, q3⟩
  · exact .inl z
  · exact .inr ⟨z, q, q1, q2, fr.k _ _ q3 rfl (by simp)⟩
section
variable {P : Program} {w : World} {K : PySem.W.Frag} {mg : Str → Option Value} {base : Heap}
/-- one more truth of a text -/
theorem told_put {H0 H : Hp} {D : Addr} {f : Str → List Bool} {y0 : Str} {b : Bool} {n : Nat} (hD : H0 D = none) (h : TdAt H0 H D f) (fr : Frm [] H0 H) (hl : ∀ kvs : List (Key × V), H D = some (.dK kvs) → kvs.length ≤ n) (hn : n ≤ 100000) (hf : ∀ y, (f y).length ≤ 100000) {Q : Hp → Prop}
    (k : ∀ H', TdAt H0 H' D (fun y => if y = y0 then f y ++ [b] else f y) → Frm [] H0 H' → (∀ kvs : List (Key × V), H' D = some (.dK kvs) → kvs.length ≤ n + 1) → Q H') :
    ∀ E1 : Addr, H E1 = none → ∃ (kvs : List (Key × V)) (k : Key), (upd H E1 (.lst [])) D = some (.dK kvs) ∧ V.str y0 = kV k ∧ kvs.length < sizeLine ∧
      (∀ v, valV kvs k = some v → ∃ (q : Addr) (acc : List V), v = .ref q ∧ (upd H E1 (.lst [])) q = some (.lst acc) ∧ acc.length < sizeLine ∧ Q (upd (upd H E1 (.lst [])) q (.lst (acc ++ [.bl b])))) ∧
      (valV kvs k = none → (upd (upd H E1 (.lst [])) D (.dK (putK kvs k (.ref E1)))) E1 = some (.lst []) ∧ Q (upd (upd (upd H E1 (.lst [])) D (.dK (putK kvs k (.ref E1)))) E1 (.lst [.bl b]))) := by
  intro E1 hE1
  obtain ⟨kvs, a, c, d⟩ := h
  have nDE : D ≠ E1 := ne_of_none a hE1
  have h0E : H0 E1 = none := fr.b _ hE1
  refine ⟨kvs, .inr y0, by rw [upd_ne nDE]; exact a, rfl, Nat.lt_of_le_of_lt (Nat.le_trans (hl kvs a) hn) (by decide), fun v hv => ?_, fun hv => ?_⟩
  · rcases c y0 with z | ⟨z, q, q1, q2, q3⟩
    · rw [z.2] at hv
      cases hv
    · rw [q1] at hv
      obtain rfl := Option.some.inj hv
      have nqE : q ≠ E1 := ne_of_none q3 hE1
      have nqD : q ≠ D := ne_of q3 a (by intro y; cases y)
      refine ⟨q, _, rfl, by rw [upd_ne nqE]; exact q3, by rw [List.length_map]; exact Nat.lt_of_le_of_lt (hf y0) (by decide), k _ ⟨kvs, by rw [upd_ne nqD.symm, upd_ne nDE]; exact a, fun y => ?_, d⟩ ((fr.new h0E).new q2) (fun kvs2 e => ?_)⟩
      · by_cases e : y = y0
        · subst e
          rw [if_pos rfl]
          exact .inr ⟨by simp, q, q1, q2, by rw [upd_same, List.map_append]; rfl⟩
        · rw [if_neg e]
          rcases c y with w | ⟨w, p, p1, p2, p3⟩
          · exact .inl w
          · have npq : p ≠ q := fun z => e (d y y0 q (by rw [← z]; exact p1) q1)
            exact .inr ⟨w, p, p1, p2, by rw [upd_ne npq, upd_ne (ne_of_none p3 hE1)]; exact p3⟩
      · rw [upd_ne nqD.symm, upd_ne nDE, a] at e
        cases e
        exact Nat.le_succ_of_le (hl kvs a)
  · have fy : f y0 = [] := by
      rcases c y0 with z | ⟨z, q, q1, q2, q3⟩
      · exact z.1
      · rw [q1] at hv
        cases hv
    refine ⟨by rw [upd_ne nDE.symm]; exact upd_same, k _ ⟨putK kvs (.inr y0) (.ref E1), by rw [upd_ne nDE]; exact upd_same, fun y => ?_, fun y z q h1 h2 => ?_⟩ (((fr.new h0E).new hD).new h0E) (fun kvs2 e => ?_)⟩
    · rw [valV_put]
      by_cases e : y = y0
      · subst e
        rw [if_pos rfl, if_pos rfl, fy]
        exact .inr ⟨by simp, E1, rfl, h0E, upd_same⟩
      · rw [if_neg e, if_neg (fun z => e (Sum.inr.inj z))]
        rcases c y with w | ⟨w, p, p1, p2, p3⟩
        · exact .inl w
        · exact .inr ⟨w, p, p1, p2, by rw [upd_ne (ne_of_none p3 hE1), upd_ne (ne_of p3 a (by intro y; cases y)), upd_ne (ne_of_none p3 hE1)]; exact p3⟩
    · rw [valV_put] at h1 h2
      have old : ∀ (x : Str), valV kvs (.inr x) = some (.ref E1) → False := fun x hx => by
        rcases c x with w | ⟨w, p, p1, p2, p3⟩
        · rw [w.2] at hx; cases hx
        · rw [p1] at hx
          cases hx
          rw [hE1] at p3
          cases p3
      by_cases e1 : y = y0 <;> by_cases e2 : z = y0
      · rw [e1, e2]
      · subst e1
        rw [if_pos rfl] at h1
        rw [if_neg (fun x => e2 (Sum.inr.inj x))] at h2
        cases h1
        exact (old z h2).elim
      · subst e2
        rw [if_pos rfl] at h2
        rw [if_neg (fun x => e1 (Sum.inr.inj x))] at h1
        cases h2
        exact (old y h1).elim
      · rw [if_neg (fun x => e1 (Sum.inr.inj x))] at h1
        rw [if_neg (fun x => e2 (Sum.inr.inj x))] at h2
        exact d y z q h1 h2
    · rw [upd_ne nDE, upd_same] at e
      cases e
      have := hl kvs a
      unfold putK
      split
      · rw [List.length_map]
        omega
      · rw [List.length_append]
        show kvs.length + 1 ≤ _
        omega
def spTold (K : PySem.W.Frag) : Sp := fun vs H Q _ => ∃ (p : Addr) (ps : List (List Nat × Bool × Bool)), vs = [.ref p] ∧ PapAt H p ps ∧ (∀ q ∈ ps, q.1.length ≤ 12) ∧ ps.length ≤ 100 ∧
  ∀ (D : Addr) (H' : Hp), H D = none → TdAt H H' D (toldF ps) → Frm [] H H' → Q (.ref D) H'
theorem c_told_by (T : Txt P w K mg base) : CalX CX0 P w K mg base 1 "told_by" (spTold K) := by
  obtain ⟨fd, F⟩ := T.t.def_ 9 (d := d_told_by)
  refine ⟨_, fd, _, F.ok sc_told_by (fun vs H Q E h => ?_) (fun cdv A outer s H vs Q E hr h => ?_), He.glo_ok T.X T.G (T.t.fact 9), F.kp, F.bindsN fun _ _ _ _ _ _ us hl => match us, hl with | [_], _ => rfl⟩
  · obtain ⟨p, ps, rfl, _⟩ := h
    rfl
  · obtain ⟨p, ps, rfl, ⟨ts, t1, t2, t3⟩, hl, hn, k⟩ := h
    refine ⟨_, PSs.nox (pss_cons (ps_set (i := 1) sc_told_by.nd rfl (Or.inl rfl) pe_dnewK)
    (pss_cons (ps_for PassesOwn.never rfl (pi_list (pv 0)) (pg_tup rfl (pgs_cons (pg_name (i := 2) sc_told_by.nd rfl (Or.inl rfl)) (pgs_cons (pg_name (i := 3) sc_told_by.nd rfl (Or.inl rfl)) (pgs_cons (pg_name (i := 4) sc_told_by.nd rfl (Or.inl rfl)) pgs_nil))))
      (pss_cons (ps_expr (pe_bm PySem.F.plainAttrs_list PySem.F.slot_list_append PySem.F.type_list_append mt_append (pe_dsetd (pv 1) (pe_op op_add_str (pv 2) pe_str) (pe_lst pa_nil) ⟨rfl, rfl, rfl, rfl⟩) (pa_cons (pv 3) pa_nil)))
      (pss_one (ps_expr (pe_bm PySem.F.plainAttrs_list PySem.F.slot_list_append PySem.F.type_list_append mt_append (pe_dsetd (pv 1) (pe_op op_add_str (pv 2) pe_str) (pe_lst pa_nil) ⟨rfl, rfl, rfl, rfl⟩) (pa_cons (pv 4) pa_nil))))))
    (pss_one (ps_ret (pv 1))))), ?_⟩
    refine fun D hD => ?_
    have f1 : Frm [] H (upd H D (.dK [])) := Frm.of (same_upd hD)
    have td0 : TdAt H (upd H D (.dK [])) D (toldF []) := ⟨[], upd_same, fun y => .inl ⟨rfl, rfl⟩, fun y z q h1 => by cases h1⟩
    refine ⟨_, rfl, p, rfl, ⟨_, SqL.of (f1.k _ _ t1 rfl (by simp))⟩, for_list (K := K) (a := p) (xs := ts.map V.ref) (fun i σ H' => ∃ v2 v3 v4 : Option V, σ = [some (.ref p), some (.ref D), v2, v3, v4] ∧ TdAt H H' D (toldF (ps.take i)) ∧ Frm [] H H' ∧ (∀ kvs : List (Key × V), H' D = some (.dK kvs) → kvs.length ≤ 2 * i))
      ⟨_, _, _, rfl, td0, f1, fun kvs e => by rw [upd_same] at e; cases e; exact Nat.zero_le _⟩ (fun i σ H' _ ⟨_, _, _, _, _, f, _⟩ => SqL.of (f.k _ _ t1 rfl (by simp))) ?_ ?_⟩
    · rintro i y σ H2 hi ⟨v2, v3, v4, rfl, td2, f2, l2⟩
      rw [List.getElem?_map] at hi
      cases hti : ts[i]? with
      | none => rw [hti] at hi; cases hi
      | some tt =>
        rw [hti] at hi
        obtain rfl := Option.some.inj hi
        have hi3 : i < ps.length := by rw [← t2]; exact (List.getElem?_eq_some_iff.mp hti).1
        have hz := List.getElem?_eq_getElem hi3
        have htt := f2.k _ _ (t3 i tt _ hti hz) rfl (by simp)
        have l12 := hl ps[i] (List.getElem_mem hi3)
        generalize ps[i] = q at hz htt l12
        have flen0 : ∀ y, (toldF (ps.take i) y).length ≤ 2000 := fun y => by
          have : ∀ l : List (List Nat × Bool × Bool), (toldF l y).length ≤ 2 * l.length := fun l => by
            induction l with
            | nil => exact Nat.le_refl _
            | cons z r ih =>
              have e : toldF (z :: r) y = tol1 z y ++ toldF r y := rfl
              rw [e, List.length_append, List.length_cons]
              have : (tol1 z y).length ≤ 2 := by
                unfold tol1
                split <;> split <;> simp
              omega
          have h1 := this (ps.take i)
          rw [List.length_take] at h1
          omega
        have flen : ∀ y, (toldF (ps.take i) y).length ≤ 100000 := fun y => Nat.le_trans (flen0 y) (by decide)
        have a0 : S q.1 ++ "0" = S (q.1 ++ [48]) := by rw [zero_S, SX.S_cat]
        have a1 : S q.1 ++ "1" = S (q.1 ++ [49]) := by rw [one_S, SX.S_cat]
        have sl : ∀ s : Str, s.length = 1 → (S q.1).length + s.length ≤ sizeLine := fun s hs => by
          rw [SX.S_len, hs]
          exact Nat.le_trans (show _ ≤ 13 by omega) (by decide)
        refine ⟨tt, _, rfl, SqT.of htt, rfl, _, _, rfl, _, _, rfl, _, _, rfl, rfl, ?_⟩
        have isD : ∀ {H' : Hp} {f : Str → List Bool}, TdAt H H' D f → IsD H' D := fun h => by
          obtain ⟨kvs, a, _⟩ := h.d
          exact .inl ⟨kvs, .inl a⟩
        refine ⟨_, rfl, D, rfl, isD td2, _, rfl, S q.1, "0", rfl, rfl, sl "0" rfl, Nat.zero_le _, fun E1 hE1 => ?_⟩
        rw [a0]
        obtain ⟨kvs, ky, u1, u2, u3, u4, u5⟩ := told_put (b := q.2.1) (y0 := S (q.1 ++ [48])) hD td2 f2 l2 (by omega) flen (Q := fun H3 => tBM K "list" rAppend (tDSetd (tVar 1) (tOp (fun x y H Q => ∃ i j, x = V.str i ∧ y = V.str j ∧ i.length + j.length ≤ sizeLine ∧ Q (V.str (i ++ j)) H) (tVar 2) (tC (.str "1"))) (tLst tNil)) (tCons (tVar 4) tNil) [some (.ref p), some (.ref D), some (.str (S q.1)), some (.bl q.2.1), some (.bl q.2.2)] H3 fun _ H4 => ∃ v2 v3 v4 : Option V, ([some (.ref p), some (.ref D), some (.str (S q.1)), some (.bl q.2.1), some (.bl q.2.2)] : L2.St) = [some (.ref p), some (.ref D), v2, v3, v4] ∧ TdAt H H4 D (toldF (ps.take (i + 1))) ∧ Frm [] H H4 ∧ (∀ kvs : List (Key × V), H4 D = some (.dK kvs) → kvs.length ≤ 2 * (i + 1))) (fun H3 td3 f3 l3 => by
          refine ⟨_, rfl, D, rfl, isD td3, _, rfl, S q.1, "1", rfl, rfl, sl "1" rfl, Nat.zero_le _, fun E2 hE2 => ?_⟩
          rw [a1]
          have flen3 : ∀ y, (if y = S (q.1 ++ [48]) then toldF (ps.take i) y ++ [q.2.1] else toldF (ps.take i) y).length ≤ 100000 := fun y => by
            have h0 := flen0 y
            split
            · rw [List.length_append, List.length_singleton]
              omega
            · omega
          obtain ⟨kvs, ky, u1, u2, u3, u4, u5⟩ := told_put (b := q.2.2) (y0 := S (q.1 ++ [49])) hD td3 f3 l3 (by omega) flen3 (Q := fun H4 => ∃ v2 v3 v4 : Option V, ([some (.ref p), some (.ref D), some (.str (S q.1)), some (.bl q.2.1), some (.bl q.2.2)] : L2.St) = [some (.ref p), some (.ref D), v2, v3, v4] ∧ TdAt H H4 D (toldF (ps.take (i + 1))) ∧ Frm [] H H4 ∧ (∀ kvs : List (Key × V), H4 D = some (.dK kvs) → kvs.length ≤ 2 * (i + 1))) (fun H4 td4 f4 l4 => ⟨_, _, _, rfl, by
            have e : (fun y => if y = S (q.1 ++ [49]) then (if y = S (q.1 ++ [48]) then toldF (ps.take i) y ++ [q.2.1] else toldF (ps.take i) y) ++ [q.2.2] else (if y = S (q.1 ++ [48]) then toldF (ps.take i) y ++ [q.2.1] else toldF (ps.take i) y)) = toldF (ps.take (i + 1)) := by
              funext y
              rw [take_snoc hz]
              unfold toldF
              rw [List.flatMap_append]
              show _ = _ ++ (tol1 q y ++ [])
              rw [List.append_nil]
              unfold tol1
              split <;> split <;> simp
            rw [e] at td4
            exact td4, f4, fun kvs e => by have := l4 kvs e; omega⟩) E2 hE2
          refine ⟨kvs, ky, u1, u2, u3, fun v hv => ?_, fun hv => ?_⟩
          · obtain ⟨qq, acc, rfl, w1, w2, w3⟩ := u4 v hv
            exact ⟨.inl ⟨rfl, _, SqL.of w1⟩, _, rfl, qq, acc, _, rfl, rfl, w1, w2, w3⟩
          · obtain ⟨w1, w3⟩ := u5 hv
            exact ⟨.inl ⟨rfl, _, SqL.of w1⟩, _, rfl, E2, [], _, rfl, rfl, w1, by decide, w3⟩) E1 hE1
        refine ⟨kvs, ky, u1, u2, u3, fun v hv => ?_, fun hv => ?_⟩
        · obtain ⟨qq, acc, rfl, w1, w2, w3⟩ := u4 v hv
          exact ⟨.inl ⟨rfl, _, SqL.of w1⟩, _, rfl, qq, acc, _, rfl, rfl, w1, w2, w3⟩
        · obtain ⟨w1, w3⟩ := u5 hv
          exact ⟨.inl ⟨rfl, _, SqL.of w1⟩, _, rfl, E1, [], _, rfl, rfl, w1, by decide, w3⟩
    · rintro σ H2 ⟨v2, v3, v4, rfl, td2, f2, l2⟩
      rw [List.length_map, t2, List.take_length] at td2
      exact ⟨_, rfl, k D H2 hD td2 f2⟩
end
end B

set_option Elab.async false
set_option linter.all false
set_option maxRecDepth 100000
set_option maxHeartbeats 4000000
namespace B
open PySem PySem.Spec PyProof.Rows L2
open SX (S)
/-! ### the sets behind a beginning -/
def filtF (ts : List Bool) (ss : List (List Str)) : List (List Str) := ss.filter fun s => !decide (s.isEmpty ∈ ts)
def capF (ss : List (List Str)) : List (List Str) := ss.filter (fun s => s.isEmpty) ++ (ss.filter fun s => !s.isEmpty).take 2
def prodF (a b : List (List Str)) : List (List Str) := a.flatMap fun x => b.map fun y => x ++ y
def sbF (W : Nat) (op : Str → Bool) (td : Str → List Bool) : Nat → List Nat → List (List Str)
  | 0, l => capF (filtF (td (S l)) (unlF W l))
  | n + 1, l => capF (filtF (td (S l)) (if op (S l) = true then prodF (sbF W op td n (l ++ [48])) (sbF W op td n (l ++ [49])) else unlF W l))
/-- empty ones at most one, no more than three, none long -/
structure Sml (n : Nat) (ss : List (List Str)) : Prop where
  e : (ss.filter fun s => s.isEmpty).length ≤ 1
  l : ∀ s ∈ ss, s.length ≤ n
theorem cap_sml {n : Nat} {ss : List (List Str)} (h : Sml n ss) : Sml n (capF ss) ∧ (capF ss).length ≤ 3 := by
  have l2 : ((ss.filter fun s => !s.isEmpty).take 2).length ≤ 2 := by
    rw [List.length_take]
    omega
  have e := h.e
  refine ⟨⟨?_, fun s hs => ?_⟩, ?_⟩
  · unfold capF
    rw [List.filter_append, List.length_append, List.filter_filter]
    have z : (((ss.filter fun s => !s.isEmpty).take 2).filter fun s => s.isEmpty) = [] := List.filter_eq_nil_iff.mpr fun s hs => by
      have := (List.mem_filter.mp (List.mem_of_mem_take hs)).2
      simpa using this
    rw [z]
    simp only [Bool.and_self, List.length_nil, Nat.add_zero]
    exact e
  · unfold capF at hs
    rcases List.mem_append.mp hs with z | z
    · exact h.l s (List.mem_filter.mp z).1
    · exact h.l s (List.mem_filter.mp (List.mem_of_mem_take z)).1
  · unfold capF
    rw [List.length_append]
    omega
theorem filt_sml {n : Nat} {ss : List (List Str)} {ts : List Bool} (h : Sml n ss) : Sml n (filtF ts ss) := by
  refine ⟨Nat.le_trans ?_ h.e, fun s hs => h.l s (List.mem_filter.mp hs).1⟩
  exact List.Sublist.length_le (List.Sublist.filter _ List.filter_sublist)
theorem unl_sml {W : Nat} {l : List Nat} : Sml 1 (unlF W l) := by
  unfold unlF
  split
  · exact ⟨by simp, fun s hs => by
      simp only [List.mem_cons, List.not_mem_nil, or_false] at hs
      rcases hs with rfl | rfl
      · exact Nat.zero_le _
      · exact Nat.le_refl _⟩
  · refine ⟨by simp, fun s hs => ?_⟩
    simp only [List.mem_cons, List.not_mem_nil, or_false] at hs
    rcases hs with rfl | rfl | rfl
    · exact Nat.zero_le _
    · exact Nat.le_refl _
    · exact Nat.le_refl _
theorem prod_empty {a b : List (List Str)} : ((prodF a b).filter fun s => s.isEmpty).length = (a.filter fun s => s.isEmpty).length * (b.filter fun s => s.isEmpty).length := by
  induction a with
  | nil => simp [prodF]
  | cons x r ih =>
    have e : prodF (x :: r) b = (b.map fun y => x ++ y) ++ prodF r b := rfl
    rw [e, List.filter_append, List.length_append, List.filter_map, List.length_map, ih]
    cases x with
    | nil =>
      have : ((fun s : List Str => s.isEmpty) ∘ fun y => [] ++ y) = fun s => s.isEmpty := rfl
      rw [this, List.filter_cons, if_pos (show ([] : List Str).isEmpty = true from rfl), List.length_cons, Nat.succ_mul]
      omega
    | cons z t =>
      have : ((fun s : List Str => s.isEmpty) ∘ fun y => (z :: t) ++ y) = fun _ => false := by funext y; rfl
      rw [this, List.filter_cons, if_neg (by simp)]
      simp
theorem prod_sml {n : Nat} {a b : List (List Str)} (ha : Sml n a) (hb : Sml n b) : Sml (n + n) (prodF a b) := by
  refine ⟨?_, fun s hs => ?_⟩
  · rw [prod_empty]
    exact Nat.le_trans (Nat.mul_le_mul ha.e hb.e) (by decide)
  · obtain ⟨x, hx, h⟩ := List.mem_flatMap.mp hs
    obtain ⟨y, hy, rfl⟩ := List.mem_map.mp h
    rw [List.length_append]
    have := ha.l x hx
    have := hb.l y hy
    omega
theorem Sml.mono {n m : Nat} {ss : List (List Str)} (h : Sml n ss) (hm : n ≤ m) : Sml m ss := ⟨h.e, fun s hs => Nat.le_trans (h.l s hs) hm⟩
theorem sb_sml {W : Nat} {op : Str → Bool} {td : Str → List Bool} : ∀ (n : Nat) (l : List Nat), Sml (2 ^ n) (sbF W op td n l) ∧ (sbF W op td n l).length ≤ 3
  | 0, l => cap_sml (filt_sml unl_sml)
  | n + 1, l => by
    show Sml _ (capF (filtF _ (if op (S l) = true then _ else _))) ∧ _
    refine cap_sml (filt_sml ?_)
    split
    · have h := prod_sml (sb_sml (W := W) (op := op) (td := td) n (l ++ [48])).1 (sb_sml (W := W) (op := op) (td := td) n (l ++ [49])).1
      rw [show 2 ^ (n + 1) = 2 ^ n + 2 ^ n by rw [Nat.pow_succ]; omega]
      exact h
    · exact unl_sml.mono Nat.one_le_two_pow
/-- a list of lists of texts, told with their places -/
def SZ (H : Hp) (p : Addr) (zs : List (Addr × List Str)) : Prop := H p = some (.lst (zs.map fun z => V.ref z.1)) ∧ ∀ z ∈ zs, H z.1 = some (.lst (z.2.map V.str))
theorem SZ.keep {H H' : Hp} {p : Addr} {zs : List (Addr × List Str)} (h : SZ H p zs) (f : Frm [] H H') : SZ H' p zs := ⟨f.k _ _ h.1 rfl (by simp), fun z hz => f.k _ _ (h.2 z hz) rfl (by simp)⟩
theorem SetsAt.sz {H : Hp} {p : Addr} {ss : List (List Str)} (h : SetsAt H p ss) : ∃ zs : List (Addr × List Str), SZ H p zs ∧ zs.map (·.2) = ss := by
  obtain ⟨qs, a, b, c⟩ := h
  refine ⟨qs.zip ss, ⟨?_, fun z hz => ?_⟩, ?_⟩
  · rw [a]
    congr 2
    have : qs = (qs.zip ss).map (·.1) := (List.map_fst_zip (by omega)).symm
    conv => lhs; rw [this]
    rw [List.map_map]
    rfl
  · obtain ⟨i, hi⟩ := List.getElem?_of_mem hz
    obtain ⟨h1, h2⟩ := List.getElem?_zip_eq_some.mp hi
    exact c i z.1 z.2 h1 h2
  · exact List.map_snd_zip (by omega)
theorem at_sz {zs : List (Addr × List Str)} {i : Nat} {y : V} (h : (zs.map fun z => V.ref z.1)[i]? = some y) : ∃ z, zs[i]? = some z ∧ y = .ref z.1 := by
  rw [List.getElem?_map] at h
  cases e : zs[i]? with
  | none => rw [e] at h; cases h
  | some z =>
    rw [e] at h
    exact ⟨z, rfl, (Option.some.inj h).symm⟩
theorem fz_go {H : Hp} {D : Addr} {zs : List (Addr × List Str)} {g : List Str → Bool} {i : Nat} {z : Addr × List Str} (hz : zs[i]? = some z) (hl : zs.length ≤ 1000) (c : g z.2 = true) : ∃ acc, (upd H D (.lst (((zs.take i).filter fun z => g z.2).map fun z => V.ref z.1))) D = some (.lst acc) ∧ acc.length < sizeLine ∧ upd (upd H D (.lst (((zs.take i).filter fun z => g z.2).map fun z => V.ref z.1))) D (.lst (acc ++ [V.ref z.1])) = upd H D (.lst (((zs.take (i + 1)).filter fun z => g z.2).map fun z => V.ref z.1)) := by
  refine ⟨_, upd_same, ?_, ?_⟩
  · rw [List.length_map]
    have h1 := List.length_filter_le (fun z : Addr × List Str => g z.2) (zs.take i)
    rw [List.length_take] at h1
    exact Nat.lt_of_le_of_lt (show _ ≤ 1000 by omega) (by decide)
  · rw [upd_upd, filter_step _ hz, if_pos c, List.map_append]
    rfl
theorem fz_no {H : Hp} {D : Addr} {zs : List (Addr × List Str)} {g : List Str → Bool} {i : Nat} {z : Addr × List Str} (hz : zs[i]? = some z) (c : g z.2 = false) : upd H D (.lst (((zs.take i).filter fun z => g z.2).map fun z => V.ref z.1)) = upd H D (.lst (((zs.take (i + 1)).filter fun z => g z.2).map fun z => V.ref z.1)) := by
  rw [filter_step _ hz, if_neg (by rw [c]; exact Bool.false_ne_true), List.append_nil]
theorem flt_snd {zs : List (Addr × List Str)} {g : List Str → Bool} : (zs.filter fun z => g z.2).map (·.2) = (zs.map (·.2)).filter g := by
  rw [List.filter_map]
  rfl
theorem inV_bls (x : Bool) (ts : List Bool) : inV (V.bl x) (ts.map V.bl) = decide (x ∈ ts) := by
  induction ts with
  | nil => rfl
  | cons t r ih =>
    show (eqV (V.bl t) (V.bl x) || inV (V.bl x) (r.map V.bl)) = _
    rw [ih]
    cases t <;> cases x <;> simp [eqV]
section
variable {P : Program} {w : World} {K : PySem.W.Frag} {mg : Str → Option Value} {base : Heap}
def spSb (n : Nat) : Sp := fun vs H Q _ => ∃ (W : Nat) (D1 D2 : Addr) (l : List Nat) (kvo : List (Str × Bool)) (H0 : Hp) (td : Str → List Bool), vs = [.int W, .ref D1, .ref D2, .str (S l)] ∧ l.length + n = W ∧ W ≤ 12 ∧ H D1 = some (.dK (kv kvo)) ∧ TdAt H0 H D2 td ∧ (∀ y : List Nat, hasK kvo (S y) = true → y.length < W) ∧ (∀ y, (td y).length ≤ 100000) ∧
  ∀ (p : Addr) (zs : List (Addr × List Str)) (H' : Hp), H p = none → SZ H' p zs → zs.map (·.2) = sbF W (hasK kvo) td n l → Frm [] H H' → Q (.ref p) H'
/-- behind the sets: what is left of them -/
theorem sb0 (T : Txt P w K mg base) : CalX CX0 P w K mg base 1 "sets_behind" (fun vs H Q E => False) := by
  obtain ⟨fd, F⟩ := T.t.def_ 10 (d := d_sets_behind)
  refine ⟨_, fd, _, F.ok sc_sets_behind (fun vs H Q E h => h.elim) (fun cdv A outer s H vs Q E hr h => h.elim), He.glo_ok T.X T.G (T.t.fact 10), F.kp, F.bindsN fun _ _ _ _ _ _ us hl => match us, hl with | [_, _, _, _], _ => rfl⟩
theorem sb_step (T : Txt P w K mg base) {k n : Nat} {spR : Sp} (hk : 1 ≤ k) (c : CalX CX0 P w K mg base k "sets_behind" spR) (hR : (n = 0 ∧ ∀ vs H Q E, spR vs H Q E → False) ∨ ∃ m, n = m + 1 ∧ spR = spSb m) : CalX CX0 P w K mg base (k + 1) "sets_behind" (spSb n) := by
  obtain ⟨fd, F⟩ := T.t.def_ 10 (d := d_sets_behind)
  refine ⟨_, fd, _, F.ok sc_sets_behind (fun vs H Q E h => ?_) (fun cdv A outer s H vs Q E hr h => ?_), He.glo_ok T.X T.G (T.t.fact 10), F.kp, F.bindsN fun _ _ _ _ _ _ us hl => match us, hl with | [_, _, _, _], _ => rfl⟩
  · obtain ⟨W, D1, D2, l, kvo, H0, td, rfl, _⟩ := h
    rfl
  · obtain ⟨W, D1, D2, l, kvo, H0, td, rfl, hn, hW, hD1, tdA, hop, htl, kQ⟩ := h
    have hu := hu_of hr
    refine ⟨_, PSs.nox (pss_cons (ps_if (pt_cmp (pc_din hu (pv 3) (pv 1)))
      (pss_cons (ps_set (i := 4) sc_sets_behind.nd rfl (Or.inl rfl) (pe_cx c hr (Nat.le_refl _) rfl pass0 (pa_cons (pv 0) (pa_cons (pv 1) (pa_cons (pv 2) (pa_cons (pe_op op_add_str (pv 3) pe_str) pa_nil))))))
      (pss_cons (ps_set (i := 5) sc_sets_behind.nd rfl (Or.inr rfl) (pe_cx c hr (Nat.le_refl _) rfl pass0 (pa_cons (pv 0) (pa_cons (pv 1) (pa_cons (pv 2) (pa_cons (pe_op op_add_str (pv 3) pe_str) pa_nil))))))
      (pss_one (ps_setLc2 (i := 6) (own := [("some", 9), ("others", 10)]) (vs1 := [10]) (g := gName 9) (g1 := gName 10) rfl sc_sets_behind.nd rfl rfl (sw_true rfl rfl rfl (by decide +kernel)) (pi_list (pv 4)) (blkOk_by (N := ["width", "opened", "told", "text", "lower", "upper", "sets", "truths", "empty", "some", "others", "numbers"]) (sc := defScope s_sets_behind) (own := [("some", 9), ("others", 10)]) (by decide +kernel)) (by decide) (fun _ _ _ _ _ => pg_name (i := 9) sc_sets_behind.nd rfl (Or.inl rfl)) (fun _ _ _ _ _ => pts_nil) (fun _ _ _ _ _ => by exact (pi_listK (K := K) rfl (pv 5))) (fun _ _ _ _ _ => pg_name (i := 10) sc_sets_behind.nd rfl (Or.inl rfl)) (fun _ _ _ _ _ => pts_nil) (fun _ _ _ _ _ => by exact (pe_op op_cat (pv 9) (pv 10)))))))
      (pss_one (ps_set (i := 6) sc_sets_behind.nd rfl (Or.inl rfl) (pe_cx (c_unlooked T) hr hk rfl pass0 (pa_cons (pv 0) (pa_cons (pv 3) pa_nil))))))
    (pss_cons (ps_set (i := 7) sc_sets_behind.nd rfl (Or.inr rfl) (pe_dget2 hu (pv 2) (pv 3) (pe_lst pa_nil) ⟨rfl, rfl, rfl, rfl⟩))
    (pss_cons (ps_setLc (i := 6) (own := [("numbers", 11)]) (g := gName 11) rfl sc_sets_behind.nd rfl rfl (sw_true rfl rfl rfl (by decide +kernel)) (pi_list (pv 6)) (blkOk_by (N := ["width", "opened", "told", "text", "lower", "upper", "sets", "truths", "empty", "some", "others", "numbers"]) (sc := defScope s_sets_behind) (own := [("numbers", 11)]) (by decide +kernel)) (fun _ _ _ _ _ => pg_name (i := 11) sc_sets_behind.nd rfl (Or.inl rfl)) (fun _ _ _ _ _ => pts_one (by exact (pt_cmpR (notIn_seqK (K := K) rfl) (pe_notTK (K := K) rfl (pv 11)) (pv 7) rfl))) (fun _ _ _ _ _ => by exact (pv 11)))
    (pss_cons (ps_setLc (i := 8) (own := [("numbers", 11)]) (g := gName 11) rfl sc_sets_behind.nd rfl rfl (sw_true rfl rfl rfl (by decide +kernel)) (pi_list (pv 6)) (blkOk_by (N := ["width", "opened", "told", "text", "lower", "upper", "sets", "truths", "empty", "some", "others", "numbers"]) (sc := defScope s_sets_behind) (own := [("numbers", 11)]) (by decide +kernel)) (fun _ _ _ _ _ => pg_name (i := 11) sc_sets_behind.nd rfl (Or.inl rfl)) (fun _ _ _ _ _ => pts_one (by exact (pt_not (pt_truthK (K := K) rfl (pv 11) (fun _ => rfl))))) (fun _ _ _ _ _ => by exact (pv 11)))
    (pss_one (ps_ret (pe_op op_cat (pv 8) (pe_slice sl_list (pe_lc (own := [("numbers", 11)]) (g := gName 11) rfl sc_sets_behind.nd (pi_list (pv 6)) (blkOk_by (N := ["width", "opened", "told", "text", "lower", "upper", "sets", "truths", "empty", "some", "others", "numbers"]) (sc := defScope s_sets_behind) (own := [("numbers", 11)]) (by decide +kernel)) (fun _ _ _ _ _ => pg_name (i := 11) sc_sets_behind.nd rfl (Or.inl rfl)) (fun _ _ _ _ _ => pts_one (by exact (pt_truthK (K := K) rfl (pv 11) (fun _ => rfl)))) (fun _ _ _ _ _ => by exact (pv 11))) po_none (po_some (g_ENOUGH T)))))))))), ?_⟩
    refine seq_merge (P := fun σ' H' => ∃ (v4 v5 : Option V) (p : Addr) (zs : List (Addr × List Str)), σ' = [some (.int W), some (.ref D1), some (.ref D2), some (.str (S l)), v4, v5, some (.ref p), none, none, none, none, none] ∧ SZ H' p zs ∧ zs.map (·.2) = (if n ≠ 0 ∧ hasK kvo (S l) = true then prodF (sbF W (hasK kvo) td (n - 1) (l ++ [48])) (sbF W (hasK kvo) td (n - 1) (l ++ [49])) else unlF W l) ∧ Frm [] H H') (fun K9 main => ?_) ?_
    · refine ⟨_, rfl, _, rfl, D1, _, rfl, dg_has (.inl hD1) (S l), _, rfl, ?_⟩
      rw [some_map_bl, get_has]
      have sl : ∀ s : Str, s.length = 1 → (S l).length + s.length ≤ sizeLine := fun s hs => by
        rw [SX.S_len, hs]
        exact Nat.le_trans (show _ ≤ 13 by omega) (by decide)
      refine iteB (fun cc => ?_) (fun cc => ?_)
      · have hlt := hop l cc
        obtain ⟨m, rfl, rfl⟩ := hR.resolve_left fun z => by omega
        have a0 : S l ++ "0" = S (l ++ [48]) := by rw [zero_S, SX.S_cat]
        have a1 : S l ++ "1" = S (l ++ [49]) := by rw [one_S, SX.S_cat]
        have ll : ∀ c : Nat, (l ++ [c]).length + m = W := fun c => by rw [List.length_append, List.length_singleton]; omega
        refine ⟨_, rfl, _, rfl, _, rfl, _, rfl, S l, "0", rfl, rfl, sl "0" rfl, ?_⟩
        rw [a0]
        refine ⟨W, D1, D2, l ++ [48], kvo, H0, td, rfl, ll 48, hW, hD1, tdA, hop, htl, fun p1 z1 H1 hp1 sz1 e1 f1 => ?_⟩
        refine ⟨_, rfl, _, rfl, _, rfl, _, rfl, S l, "1", rfl, rfl, sl "1" rfl, ?_⟩
        rw [a1]
        refine ⟨W, D1, D2, l ++ [49], kvo, H0, td, rfl, ll 49, hW, f1.k _ _ hD1 rfl (by simp), tdA.keep f1, hop, htl, fun p2 z2 H2 hp2 sz2 e2 f2 => ?_⟩
        have sz1' := sz1.keep f2
        have f02 := f1.trans f2
        have m1 := sb_sml (W := W) (op := hasK kvo) (td := td) m (l ++ [48])
        have m2 := sb_sml (W := W) (op := hasK kvo) (td := td) m (l ++ [49])
        have l1 : z1.length ≤ 3 := by
          have := m1.2
          rw [← e1, List.length_map] at this
          exact this
        have l2 : z2.length ≤ 3 := by
          have := m2.2
          rw [← e2, List.length_map] at this
          exact this
        refine ⟨_, rfl, p1, rfl, ⟨_, SqL.of sz1'.1⟩, fun D hD => ?_⟩
        refine walk_lst (K := K) (a := p1) (xs := z1.map fun z => V.ref z.1) (fun i H' => ∃ ws : List (Addr × List Str), SZ H' D ws ∧ ws.map (·.2) = prodF ((z1.take i).map (·.2)) (z2.map (·.2)) ∧ Frm [] H2 H') ⟨[], ⟨upd_same, fun z hz => absurd hz (by simp)⟩, rfl, Frm.of (same_upd hD)⟩ (fun i H' _ ⟨_, _, _, f⟩ => SqL.of (f.k _ _ sz1'.1 rfl (by simp))) ?_ ?_
        · rintro i y H3 hi ⟨ws, sw, ew, f3⟩
          obtain ⟨x, hx, rfl⟩ := at_sz hi
          refine ⟨rfl, _, rfl, p2, rfl, ⟨_, SqL.of (f3.k _ _ sz2.1 rfl (by simp))⟩, ?_⟩
          refine walk_lst (K := K) (a := p2) (xs := z2.map fun z => V.ref z.1) (fun j H' => ∃ ws : List (Addr × List Str), SZ H' D ws ∧ ws.map (·.2) = prodF ((z1.take i).map (·.2)) (z2.map (·.2)) ++ (z2.take j).map (fun z => x.2 ++ z.2) ∧ Frm [] H2 H') ⟨ws, sw, by rw [ew]; simp, f3⟩ (fun j H' _ ⟨_, _, _, f⟩ => SqL.of (f.k _ _ sz2.1 rfl (by simp))) ?_ ?_
          · rintro j y H4 hj ⟨ws, sw, ew, f4⟩
            obtain ⟨z, hz, rfl⟩ := at_sz hj
            refine ⟨rfl, _, rfl, _, rfl, ?_⟩
            have hxm : x ∈ z1 := List.mem_of_getElem? hx
            have hzm : z ∈ z2 := List.mem_of_getElem? hz
            have p12 : 2 ^ m ≤ 4096 := Nat.le_trans (Nat.pow_le_pow_right (by decide) (show m ≤ 12 by omega)) (by decide)
            have b1 : x.2.length ≤ 4096 := Nat.le_trans (m1.1.l x.2 (by rw [← e1]; exact List.mem_map.mpr ⟨x, hxm, rfl⟩)) p12
            have b2 : z.2.length ≤ 4096 := Nat.le_trans (m2.1.l z.2 (by rw [← e2]; exact List.mem_map.mpr ⟨z, hzm, rfl⟩)) p12
            refine ⟨x.1, z.1, _, _, rfl, rfl, f4.k _ _ (sz1'.2 x hxm) rfl (by simp), f4.k _ _ (sz2.2 z hzm) rfl (by simp), ?_, fun q hq => ?_⟩
            · rw [List.length_map, List.length_map]
              exact Nat.le_trans (show _ ≤ 8192 by omega) (by decide)
            have nDq : D ≠ q := ne_of_none sw.1 hq
            have wl : ws.length ≤ 9 + 3 := by
              have h1 := congrArg List.length ew
              rw [List.length_map, List.length_append, List.length_map, List.length_take] at h1
              have h2 : (prodF ((z1.take i).map (·.2)) (z2.map (·.2))).length ≤ 9 := by
                have : ∀ a b : List (List Str), (prodF a b).length = a.length * b.length := fun a b => by
                  unfold prodF
                  induction a with
                  | nil => simp
                  | cons u r ih => rw [List.flatMap_cons, List.length_append, ih, List.length_map, List.length_cons, Nat.succ_mul]; omega
                rw [this, List.length_map, List.length_map, List.length_take]
                exact Nat.le_trans (Nat.mul_le_mul (show min i z1.length ≤ 3 by omega) l2) (by decide)
              omega
            refine ⟨_, by rw [upd_ne nDq]; exact sw.1, by rw [List.length_map]; exact Nat.lt_of_le_of_lt wl (by decide), ws ++ [(q, x.2 ++ z.2)], ⟨by rw [upd_same, List.map_append]; rfl, fun u hu => ?_⟩, ?_, (f4.new (f4.b _ hq)).new hD⟩
            · rcases List.mem_append.mp hu with h | h
              · have hu2 := sw.2 u h
                have nu : u.1 ≠ D := fun e => by
                  rw [e, sw.1] at hu2
                  cases hws : ws with
                  | nil => rw [hws] at h; cases h
                  | cons w0 wr =>
                    rw [hws] at hu2
                    cases hu3 : u.2 with
                    | nil => rw [hu3] at hu2; cases hu2
                    | cons a b => rw [hu3] at hu2; cases hu2
                rw [upd_ne nu, upd_ne (ne_of_none hu2 hq)]
                exact hu2
              · rw [List.mem_singleton.mp h]
                show (upd _ D _) q = _
                rw [upd_ne nDq.symm, upd_same, List.map_append]
            · rw [List.map_append, ew, take_snoc hz, List.map_append, List.append_assoc]
              rfl
          · rintro H4 ⟨ws, sw, ew, f4⟩
            rw [List.length_map, List.take_length] at ew
            refine ⟨ws, sw, ?_, f4⟩
            rw [ew, take_snoc hx, List.map_append]
            unfold prodF
            rw [List.flatMap_append]
            simp
        · rintro H3 ⟨ws, sw, ew, f3⟩
          rw [List.length_map, List.take_length, e1, e2] at ew
          exact main _ _ ⟨_, _, D, ws, rfl, sw, by rw [if_pos ⟨by omega, cc⟩]; exact ew, f02.trans f3⟩
      · refine ⟨_, rfl, _, rfl, W, l, rfl, by omega, hW, fun p H1 hp sa f1 => ?_⟩
        obtain ⟨zs, sz, ez⟩ := sa.sz
        exact main _ _ ⟨_, _, p, zs, rfl, sz, by rw [if_neg (fun z => by rw [z.2] at cc; cases cc)]; exact ez, f1⟩
    · rintro σ' H1 ⟨v4, v5, p, zs, rfl, sz, ez, f1⟩
      have sm : Sml (2 ^ n) (zs.map (·.2)) ∧ zs.length ≤ 9 := by
        rw [ez]
        have hz : zs.length = (zs.map (·.2)).length := (List.length_map _).symm
        rw [hz, ez]
        split
        · rename_i c
          obtain ⟨m, rfl⟩ : ∃ m, n = m + 1 := ⟨n - 1, by omega⟩
          have h1 := sb_sml (W := W) (op := hasK kvo) (td := td) m (l ++ [48])
          have h2 := sb_sml (W := W) (op := hasK kvo) (td := td) m (l ++ [49])
          refine ⟨?_, ?_⟩
          · have h := prod_sml h1.1 h2.1
            rw [show 2 ^ (m + 1) = 2 ^ m + 2 ^ m by rw [Nat.pow_succ]; omega]
            exact h
          · have : ∀ a b : List (List Str), (prodF a b).length = a.length * b.length := fun a b => by
              unfold prodF
              induction a with
              | nil => simp
              | cons u r ih => rw [List.flatMap_cons, List.length_append, ih, List.length_map, List.length_cons, Nat.succ_mul]; omega
            rw [this]
            exact Nat.le_trans (Nat.mul_le_mul h1.2 h2.2) (by decide)
        · refine ⟨unl_sml.mono Nat.one_le_two_pow, ?_⟩
          unfold unlF
          split <;> simp
      obtain ⟨sm1, sm2⟩ := sm
      have tdB := tdA.keep f1
      obtain ⟨kvs, t1, t2, t3⟩ := tdB.d
      refine ⟨_, rfl, D2, rfl, .inl ⟨kvs, .inl t1⟩, _, rfl, Nat.zero_le _, fun E1 hE1 => ?_⟩
      have nE : D2 ≠ E1 := ne_of_none t1 hE1
      refine ⟨valV kvs (.inr (S l)), .inl ⟨kvs, .inr (S l), .inl (by rw [upd_ne nE]; exact t1), rfl, rfl⟩, ?_⟩
      obtain ⟨tq, et, htq⟩ : ∃ tq, (valV kvs (.inr (S l))).getD (.ref E1) = .ref tq ∧ (upd H1 E1 (.lst [])) tq = some (.lst ((td (S l)).map V.bl)) := by
        rcases t2 (S l) with ⟨a, b⟩ | ⟨a, q, b, _, d⟩
        · exact ⟨E1, by rw [b]; rfl, by rw [upd_same, a]; rfl⟩
        · exact ⟨q, by rw [b]; rfl, by rw [upd_ne (ne_of_none d hE1)]; exact d⟩
      rw [et]
      have g2 : Frm [] H1 (upd H1 E1 (.lst [])) := Frm.of (same_upd hE1)
      have sz2 := sz.keep g2
      have f2 := f1.trans g2
      revert htq sz2 f2
      generalize (upd H1 E1 (.lst [])) = H2
      intro htq sz2 f2
      -- what may be
      refine ⟨_, rfl, p, rfl, ⟨_, SqL.of sz2.1⟩, fun D hD => ?_⟩
      have nD : p ≠ D := ne_of_none sz2.1 hD
      have nTD : tq ≠ D := ne_of_none htq hD
      refine lc_list (K := K) (a := p) (xs := zs.map fun z => V.ref z.1) (fun i H' => H' = upd H2 D (.lst (((zs.take i).filter fun z => (fun s : List Str => !decide (s.isEmpty ∈ td (S l))) z.2).map fun z => V.ref z.1))) rfl (fun i H' _ e => by rw [e]; exact SqL.of (by rw [upd_ne nD]; exact sz2.1)) ?_ ?_
      · rintro i y H3 hi e
        subst e
        obtain ⟨z, hz, rfl⟩ := at_sz hi
        have hzm := sz2.2 z (List.mem_of_getElem? hz)
        refine ⟨rfl, _, rfl, _, .inl ⟨_, SqL.of (by rw [upd_ne (ne_of_none hzm hD)]; exact hzm), rfl⟩, _, rfl, tq, _, rfl, .inl (SqL.of (by rw [upd_ne nTD]; exact htq)), rfl, ?_, _, rfl, ?_⟩
        · rw [List.all_map]
          exact List.all_eq_true.mpr fun _ _ => rfl
        show if (if true = true then !inV (V.bl (!!(z.2.map V.str).isEmpty)) ((td (S l)).map V.bl) else _) = true then _ else _
        rw [if_pos rfl, Bool.not_not, List.isEmpty_map, inV_bls]
        exact iteB (fun cb => ⟨_, rfl, fz_go (g := fun s => !decide (s.isEmpty ∈ td (S l))) hz (by omega) cb⟩) (fun cb => fz_no (g := fun s => !decide (s.isEmpty ∈ td (S l))) hz cb)
      rintro H3 e3
      rw [List.length_map, List.take_length] at e3
      generalize hzs1 : (zs.filter fun z => (fun s : List Str => !decide (s.isEmpty ∈ td (S l))) z.2) = zs1 at e3
      have ez1 : zs1.map (·.2) = filtF (td (S l)) (zs.map (·.2)) := by
        rw [← hzs1, flt_snd (g := fun s => !decide (s.isEmpty ∈ td (S l)))]
        rfl
      have zl1 : zs1.length ≤ 9 := by
        rw [← hzs1]
        exact Nat.le_trans (List.length_filter_le _ _) sm2
      have g3 : Frm [] H2 H3 := by
        rw [e3]
        exact Frm.of (same_upd hD)
      have sz3 : SZ H3 D zs1 := ⟨by rw [e3]; exact upd_same, fun z hz => g3.k _ _ (sz2.2 z (by rw [← hzs1] at hz; exact (List.mem_filter.mp hz).1)) rfl (by simp)⟩
      clear e3
      have f3 := f2.trans g3
      -- the empty ones
      refine ⟨_, rfl, D, rfl, ⟨_, SqL.of sz3.1⟩, fun E hE => ?_⟩
      have nE2 : D ≠ E := ne_of_none sz3.1 hE
      refine lc_list (K := K) (a := D) (xs := zs1.map fun z => V.ref z.1) (fun i H' => H' = upd H3 E (.lst (((zs1.take i).filter fun z => (fun s : List Str => s.isEmpty) z.2).map fun z => V.ref z.1))) rfl (fun i H' _ e => by rw [e]; exact SqL.of (by rw [upd_ne nE2]; exact sz3.1)) ?_ ?_
      · rintro i y H4 hi e
        subst e
        obtain ⟨z, hz, rfl⟩ := at_sz hi
        have hzm := sz3.2 z (List.mem_of_getElem? hz)
        refine ⟨rfl, _, rfl, _, .inl ⟨_, SqL.of (by rw [upd_ne (ne_of_none hzm hE)]; exact hzm), rfl⟩, ?_⟩
        show if (!!(z.2.map V.str).isEmpty) = true then _ else _
        rw [Bool.not_not, List.isEmpty_map]
        exact iteB (fun cb => ⟨_, rfl, fz_go (g := fun s => s.isEmpty) hz (by omega) cb⟩) (fun cb => fz_no (g := fun s => s.isEmpty) hz cb)
      rintro H4 e4
      rw [List.length_map, List.take_length] at e4
      have g4 : Frm [] H3 H4 := by
        rw [e4]
        exact Frm.of (same_upd hE)
      have hE4 : H4 E = some (.lst ((zs1.filter fun z => z.2.isEmpty).map fun z => V.ref z.1)) := by
        rw [e4]
        exact upd_same
      clear e4
      have sz4 := sz3.keep g4
      -- two of the others
      refine ⟨_, rfl, _, rfl, D, rfl, ⟨_, SqL.of sz4.1⟩, fun G hG => ?_⟩
      have nG : D ≠ G := ne_of_none sz4.1 hG
      have nEG : E ≠ G := ne_of_none hE4 hG
      refine lc_list (K := K) (a := D) (xs := zs1.map fun z => V.ref z.1) (tt := fun σ H Q => tVar 11 σ H fun x H' => ∃ k, TruV K x H' k ∧ Q k H') (fun i H' => H' = upd H4 G (.lst (((zs1.take i).filter fun z => (fun s : List Str => !s.isEmpty) z.2).map fun z => V.ref z.1))) rfl (fun i H' _ e => by rw [e]; exact SqL.of (by rw [upd_ne nG]; exact sz4.1)) ?_ ?_
      · rintro i y H5 hi e
        subst e
        obtain ⟨z, hz, rfl⟩ := at_sz hi
        have hzm := sz4.2 z (List.mem_of_getElem? hz)
        refine ⟨rfl, _, rfl, _, .inl ⟨_, SqL.of (by rw [upd_ne (ne_of_none hzm hG)]; exact hzm), rfl⟩, ?_⟩
        show if (!(z.2.map V.str).isEmpty) = true then _ else _
        rw [List.isEmpty_map]
        exact iteB (fun cb => ⟨_, rfl, fz_go (g := fun s => !s.isEmpty) hz (by omega) cb⟩) (fun cb => fz_no (g := fun s => !s.isEmpty) hz cb)
      rintro H5 e5
      rw [List.length_map, List.take_length] at e5
      have g5 : Frm [] H4 H5 := by
        rw [e5]
        exact Frm.of (same_upd hG)
      have hG5 : H5 G = some (.lst ((zs1.filter fun z => !z.2.isEmpty).map fun z => V.ref z.1)) := by
        rw [e5]
        exact upd_same
      clear e5
      have sz5 := sz4.keep g5
      have hE5 := g5.k _ _ hE4 rfl (by simp)
      refine ⟨2, rfl, G, _, rfl, SqL.of hG5, fun p4 hp4 => ?_⟩
      have ec : ∀ xs : List V, cutV xs none (some 2) = xs.take 2 := fun xs => by
        show (xs.drop 0).take (min 2 xs.length - 0) = xs.take 2
        rw [List.drop_zero, Nat.sub_zero]
        rcases Nat.le_total 2 xs.length with h | h
        · rw [Nat.min_eq_left h]
        · rw [Nat.min_eq_right h, List.take_of_length_le (Nat.le_refl _), List.take_of_length_le h]
      rw [ec, ← List.map_take]
      generalize h2 : (zs1.filter fun z => !z.2.isEmpty).take 2 = zb
      have g6 : Frm [] H5 (upd H5 p4 (.lst (zb.map fun z => V.ref z.1))) := Frm.of (same_upd hp4)
      have n4 : E ≠ p4 := ne_of_none hE5 hp4
      have zb2 : zb.length ≤ 2 := by
        rw [← h2, List.length_take]
        omega
      have za9 : (zs1.filter fun z => z.2.isEmpty).length ≤ 9 := Nat.le_trans (List.length_filter_le _ _) zl1
      refine ⟨E, p4, _, _, rfl, rfl, by rw [upd_ne n4]; exact hE5, upd_same, ?_, fun p5 hp5 => ?_⟩
      · rw [List.length_map, List.length_map]
        exact Nat.le_trans (show _ ≤ 11 by omega) (by decide)
      have g7 : Frm [] (upd H5 p4 (.lst (zb.map fun z => V.ref z.1))) (upd (upd H5 p4 (.lst (zb.map fun z => V.ref z.1))) p5 (.lst (((zs1.filter fun z => z.2.isEmpty).map fun z => V.ref z.1) ++ (zb.map fun z => V.ref z.1)))) := Frm.of (same_upd hp5)
      have f5 := ((f3.trans g4).trans g5).trans g6
      refine kQ p5 ((zs1.filter fun z => z.2.isEmpty) ++ zb) _ (f5.b _ hp5) ⟨by rw [upd_same, List.map_append], fun z hz => ?_⟩ ?_ (f5.trans g7)
      · have hzm : z ∈ zs1 := by
          rcases List.mem_append.mp hz with h | h
          · exact (List.mem_filter.mp h).1
          · rw [← h2] at h
            exact (List.mem_filter.mp (List.mem_of_mem_take h)).1
        exact (g6.trans g7).k _ _ (sz5.2 z hzm) rfl (by simp)
      · rw [List.map_append, ← h2, List.map_take, flt_snd (g := fun s => s.isEmpty), flt_snd (g := fun s => !s.isEmpty), ez1, ez]
        cases n with
        | zero =>
          rw [if_neg (fun z => z.1 rfl)]
          rfl
        | succ m =>
          show _ = capF (filtF (td (S l)) (if hasK kvo (S l) = true then _ else _))
          by_cases c : hasK kvo (S l) = true
          · rw [if_pos ⟨Nat.succ_ne_zero m, c⟩, if_pos c]
            rfl
          · rw [if_neg (fun z => c z.2), if_neg c]
            rfl
/-- told of a beginning at any depth -/
theorem sb_all (T : Txt P w K mg base) : ∀ n : Nat, CalX CX0 P w K mg base (2 + n) "sets_behind" (spSb n)
  | 0 => sb_step T (Nat.le_refl 1) (sb0 T) (.inl ⟨rfl, fun vs H Q E h => h⟩)
  | n + 1 => sb_step T (k := 2 + n) (show 1 ≤ 2 + n by omega) (sb_all T n) (.inr ⟨n, rfl, rfl⟩)
end
end B

set_option Elab.async false
set_option linter.all false
set_option maxRecDepth 100000
set_option maxHeartbeats 4000000
namespace B
open PySem PySem.Spec PyProof.Rows L2
open SX (S)
/-! ### the law's answers -/
abbrev Lk := List Nat × Bool × Bool
def LZ (H : Hp) (p : Addr) (zs : List (Addr × Lk)) : Prop := H p = some (.lst (zs.map fun z => V.ref z.1)) ∧ ∀ z ∈ zs, H z.1 = some (.tup [txV z.2.1, .bl z.2.2.1, .bl z.2.2.2])
theorem LZ.keep {H H' : Hp} {p : Addr} {zs : List (Addr × Lk)} (h : LZ H p zs) (f : Frm [] H H') : LZ H' p zs := ⟨f.k _ _ h.1 rfl (by simp), fun z hz => f.k _ _ (h.2 z hz) rfl (by simp)⟩
theorem LZ.pap {H : Hp} {p : Addr} {zs : List (Addr × Lk)} (h : LZ H p zs) : PapAt H p (zs.map (·.2)) := by
  refine ⟨zs.map (·.1), by rw [List.map_map]; exact h.1, by rw [List.length_map, List.length_map], fun i t q h1 h2 => ?_⟩
  rw [List.getElem?_map] at h1 h2
  cases e : zs[i]? with
  | none => rw [e] at h1; cases h1
  | some z =>
    rw [e] at h1 h2
    obtain rfl := Option.some.inj h1
    obtain rfl := Option.some.inj h2
    exact h.2 z (List.mem_of_getElem? e)
def BZ (H : Hp) (p : Addr) (as : List (Addr × Bool × Bool)) : Prop := H p = some (.lst (as.map fun z => V.ref z.1)) ∧ ∀ z ∈ as, H z.1 = some (.tup [.bl z.2.1, .bl z.2.2])
theorem BZ.keep {H H' : Hp} {p : Addr} {as : List (Addr × Bool × Bool)} (h : BZ H p as) (f : Frm [] H H') : BZ H' p as := ⟨f.k _ _ h.1 rfl (by simp), fun z hz => f.k _ _ (h.2 z hz) rfl (by simp)⟩
theorem at_z {α : Type} {zs : List (Addr × α)} {i : Nat} {y : V} (h : (zs.map fun z => V.ref z.1)[i]? = some y) : ∃ z, zs[i]? = some z ∧ y = .ref z.1 := by
  rw [List.getElem?_map] at h
  cases e : zs[i]? with
  | none => rw [e] at h; cases h
  | some z =>
    rw [e] at h
    exact ⟨z, rfl, (Option.some.inj h).symm⟩
def allB : List (Bool × Bool) := [(false, false), (false, true), (true, false), (true, true)]
def badF (ps : List Lk) (l : List Nat) (w : Bool × Bool) : List Lk := ps.filter fun q => decide (q.1 = l) && !decide (q.2 = w)
def ansF (ps : List Lk) (l : List Nat) : List (Bool × Bool) := allB.filter fun w => (badF ps l w).isEmpty
def lkD (q : Lk) : PyData := .tuple [.str (S q.1), .bool q.2.1, .bool q.2.2]
theorem dp_lk {K : PySem.W.Frag} {H : Hp} : ∀ {zs : List (Addr × Lk)}, (∀ z ∈ zs, H z.1 = some (.tup [txV z.2.1, .bl z.2.2.1, .bl z.2.2.2])) → DpAll K H (zs.map fun z => V.ref z.1) (zs.map fun z => lkD z.2)
  | [], _ => .nil
  | z :: r, h => .cons (.tup (SqT.of (h z (by simp))) (.cons (.str _) (.cons (.bl _) (.cons (.bl _) .nil)))) (dp_lk fun y hy => h y (List.mem_cons_of_mem _ hy))
theorem lay_lk {qs : List Lk} (h : ∀ q ∈ qs, Bits q.1) : PyData.canLayAll0 (qs.map lkD) = true := by
  induction qs with
  | nil => rfl
  | cons q r ih =>
    have e1 : (lkD q).canLay0 = true := by
      show ((PyData.strOk (S q.1)) && (true && (true && true))) = true
      rw [strOk_bits (h q (by simp))]
      rfl
    have e2 := ih fun y hy => h y (List.mem_cons_of_mem _ hy)
    show ((lkD q).canLay0 && PyData.canLayAll0 (r.map lkD)) = true
    rw [e1, e2]
    rfl
theorem dep_lk {qs : List Lk} : PyData.depthAll (qs.map lkD) ≤ 10 := by
  induction qs with
  | nil => exact Nat.zero_le _
  | cons q r ih =>
    show max (lkD q).depth (PyData.depthAll (r.map lkD)) ≤ 10
    have : (lkD q).depth ≤ 10 := by
      simp [lkD, PyData.depth, PyData.depthAll]
    omega
theorem shaped_lk {qs : List Lk} (h : ∀ q ∈ qs, Bits q.1) : SeqAt.shaped (.list (qs.map lkD)) = true := by
  have e1 : (PyData.list (qs.map lkD)).canLay0 = true := lay_lk h
  have e2 : (PyData.list (qs.map lkD)).depth ≤ 64 := by
    show PyData.depthAll (qs.map lkD) + 1 ≤ 64
    have := dep_lk (qs := qs)
    omega
  show ((PyData.list (qs.map lkD)).canLay0 && decide ((PyData.list (qs.map lkD)).depth ≤ 64)) = true
  rw [e1, decide_eq_true e2]
  rfl
theorem eqv_lk (qs : List Lk) : PyData.eqv (.list (qs.map lkD)) (.list []) = qs.isEmpty := by
  cases qs <;> rfl
theorem eqv_bb (a b c d : Bool) : PyData.eqv (.tuple [.bool a, .bool b]) (.tuple [.bool c, .bool d]) = decide ((a, b) = (c, d)) := by
  cases a <;> cases b <;> cases c <;> cases d <;> decide +kernel
theorem shaped_bb (a b : Bool) : SeqAt.shaped (.tuple [.bool a, .bool b]) = true := by
  cases a <;> cases b <;> decide +kernel
theorem S_inj {a b : List Nat} (h : S a = S b) : a = b := by
  have := congrArg (fun z : Str => z.cps.toList) h
  simpa [S_list] using this
theorem S_dec (a b : List Nat) : decide (V.str (S a) = V.str (S b)) = decide (a = b) := by
  rw [str_dec]
  by_cases h : a = b
  · rw [h, decide_eq_true rfl, decide_eq_true rfl]
  · rw [decide_eq_false h, decide_eq_false (fun e => h (S_inj e))]
section
variable {P : Program} {w : World} {K : PySem.W.Frag} {mg : Str → Option Value} {base : Heap}
def spAns : Sp := fun vs H Q _ => ∃ (p : Addr) (zs : List (Addr × Lk)) (l : List Nat), vs = [.ref p, .str (S l)] ∧ LZ H p zs ∧ zs.length ≤ 1000 ∧ (∀ z ∈ zs, Bits z.2.1) ∧
  ∀ (q : Addr) (as : List (Addr × Bool × Bool)) (H' : Hp), H q = none → BZ H' q as → as.map (·.2) = ansF (zs.map (·.2)) l → Frm [] H H' → Q (.ref q) H'
end
end B

set_option Elab.async false
set_option linter.all false
set_option maxRecDepth 100000
set_option maxHeartbeats 4000000
namespace B
open PySem PySem.Spec PyProof.Rows L2
open SX (S)
/-! ### the ways, counted beginning by beginning -/
def beg2 (l : List Nat) (q : Lk) : Bool := decide (q.1.take l.length = l)
def sel (a : Nat × Nat) (z : Bool) : Nat := if z = true then a.2 else a.1
def stepW (a b : Nat × Nat) (r : Nat × Nat) (w : Bool × Bool) : Nat × Nat := if (w.1 || w.2) = true then (r.1, r.2 + sel a w.1 * sel b w.2) else (r.1 + sel a w.1 * sel b w.2, r.2)
def waysG : Nat → List Lk → List Nat → Nat × Nat
  | 0, _, _ => (1, 1)
  | n + 1, ps, l => if ps.any (beg2 l) = true then
      (min 2 ((ansF ps l).foldl (stepW (waysG n ps (l ++ [48])) (waysG n ps (l ++ [49]))) (0, 0)).1, min 2 ((ansF ps l).foldl (stepW (waysG n ps (l ++ [48])) (waysG n ps (l ++ [49]))) (0, 0)).2) else (1, 2)
def goodW (a b : Nat × Nat) (w : Bool × Bool) : Bool := (w.1 || w.2) && decide (0 < sel a w.1 * sel b w.2)
def thoseG : Nat → List Lk → List Nat → List Str
  | 0, _, l => [S l]
  | n + 1, ps, l => match (ansF ps l).find? (goodW (waysG n ps (l ++ [48])) (waysG n ps (l ++ [49]))) with
    | some w => (if w.1 = true then thoseG n ps (l ++ [48]) else []) ++ (if w.2 = true then thoseG n ps (l ++ [49]) else [])
    | none => []
def eN (ss : List (List Str)) : Nat := (ss.filter fun s => s.isEmpty).length
def fN (ss : List (List Str)) : Nat := (ss.filter fun s => !s.isEmpty).length
theorem ef_len (ss : List (List Str)) : ss.length = eN ss + fN ss := by
  unfold eN fN
  induction ss with
  | nil => rfl
  | cons s r ih =>
    rw [List.filter_cons, List.filter_cons, List.length_cons]
    cases s <;> simp <;> omega
theorem prod_len (a b : List (List Str)) : (prodF a b).length = a.length * b.length := by
  unfold prodF
  induction a with
  | nil => simp
  | cons u r ih => rw [List.flatMap_cons, List.length_append, ih, List.length_map, List.length_cons, Nat.succ_mul]; omega
theorem fN_prod (a b : List (List Str)) : fN (prodF a b) = eN a * fN b + fN a * eN b + fN a * fN b := by
  have h1 := prod_len a b
  rw [ef_len, ef_len a, ef_len b] at h1
  have h2 : eN (prodF a b) = eN a * eN b := prod_empty
  rw [h2, Nat.add_mul, Nat.mul_add, Nat.mul_add] at h1
  omega
theorem eN_cap (ss : List (List Str)) : eN (capF ss) = eN ss := by
  unfold eN capF
  rw [List.filter_append, List.length_append, List.filter_filter]
  have z : (((ss.filter fun s => !s.isEmpty).take 2).filter fun s => s.isEmpty) = [] := List.filter_eq_nil_iff.mpr fun s hs => by
    have := (List.mem_filter.mp (List.mem_of_mem_take hs)).2
    simpa using this
  rw [z]
  simp
theorem ne_cap (ss : List (List Str)) : ((capF ss).filter fun s => !s.isEmpty) = (ss.filter fun s => !s.isEmpty).take 2 := by
  unfold capF
  rw [List.filter_append, List.filter_filter]
  have z : (ss.filter fun s => !s.isEmpty && s.isEmpty) = [] := List.filter_eq_nil_iff.mpr fun s _ => by simp
  have z2 : (((ss.filter fun s => !s.isEmpty).take 2).filter fun s => !s.isEmpty) = (ss.filter fun s => !s.isEmpty).take 2 := List.filter_eq_self.mpr fun s hs => (List.mem_filter.mp (List.mem_of_mem_take hs)).2
  rw [z, z2]
  rfl
theorem fN_cap (ss : List (List Str)) : fN (capF ss) = min 2 (fN ss) := by
  unfold fN
  rw [ne_cap, List.length_take]
theorem e_filt (ts : List Bool) (ss : List (List Str)) : ((filtF ts ss).filter fun s => s.isEmpty) = if true ∈ ts then [] else ss.filter fun s => s.isEmpty := by
  unfold filtF
  rw [List.filter_filter]
  split
  · rename_i h
    refine List.filter_eq_nil_iff.mpr fun s _ => ?_
    cases s <;> simp [h]
  · rename_i h
    refine List.filter_congr fun s _ => ?_
    cases s <;> simp [h]
theorem f_filt (ts : List Bool) (ss : List (List Str)) : ((filtF ts ss).filter fun s => !s.isEmpty) = if false ∈ ts then [] else ss.filter fun s => !s.isEmpty := by
  unfold filtF
  rw [List.filter_filter]
  split
  · rename_i h
    refine List.filter_eq_nil_iff.mpr fun s _ => ?_
    cases s <;> simp [h]
  · rename_i h
    refine List.filter_congr fun s _ => ?_
    cases s <;> simp [h]
/-- what a beginning's sets are ahead of what is told of it -/
def uF (W : Nat) (op : Str → Bool) (td : Str → List Bool) : Nat → List Nat → List (List Str)
  | 0, l => unlF W l
  | n + 1, l => if op (S l) = true then prodF (sbF W op td n (l ++ [48])) (sbF W op td n (l ++ [49])) else unlF W l
theorem uF0 {W : Nat} {op : Str → Bool} {td : Str → List Bool} {l : List Nat} : uF W op td 0 l = unlF W l := rfl
theorem uFs {W n : Nat} {op : Str → Bool} {td : Str → List Bool} {l : List Nat} : uF W op td (n + 1) l = if op (S l) = true then prodF (sbF W op td n (l ++ [48])) (sbF W op td n (l ++ [49])) else unlF W l := rfl
theorem waysS {n : Nat} {ps : List Lk} {l : List Nat} : waysG (n + 1) ps l = if ps.any (beg2 l) = true then
      (min 2 ((ansF ps l).foldl (stepW (waysG n ps (l ++ [48])) (waysG n ps (l ++ [49]))) (0, 0)).1, min 2 ((ansF ps l).foldl (stepW (waysG n ps (l ++ [48])) (waysG n ps (l ++ [49]))) (0, 0)).2) else (1, 2) := rfl
theorem sb_u (W : Nat) (op : Str → Bool) (td : Str → List Bool) (n : Nat) (l : List Nat) : sbF W op td n l = capF (filtF (td (S l)) (uF W op td n l)) := by
  cases n <;> rfl
theorem u_e1 (W : Nat) (op : Str → Bool) (td : Str → List Bool) (n : Nat) (l : List Nat) : eN (uF W op td n l) ≤ 1 := by
  cases n with
  | zero => exact unl_sml.e
  | succ n =>
    rw [uFs]
    split
    · exact (prod_sml (sb_sml n _).1 (sb_sml n _).1).e
    · exact unl_sml.e
theorem mem_t0 {ps : List Lk} {l : List Nat} {x : Bool} : x ∈ toldF ps (S (l ++ [48])) ↔ ∃ q ∈ ps, q.1 = l ∧ q.2.1 = x := by
  unfold toldF
  rw [List.mem_flatMap]
  refine exists_congr fun q => and_congr_right fun _ => ?_
  unfold tol1
  have n2 : ¬ S (l ++ [48]) = S (q.1 ++ [49]) := fun e => by
    have := S_inj e
    have h2 := congrArg List.getLast? this
    simp at h2
  rw [if_neg n2, List.append_nil]
  constructor
  · intro h
    split at h
    · rename_i e
      have := S_inj e
      exact ⟨(List.append_cancel_right this).symm, (List.mem_singleton.mp h).symm⟩
    · cases h
  · rintro ⟨rfl, rfl⟩
    rw [if_pos rfl]
    simp
theorem mem_t1 {ps : List Lk} {l : List Nat} {x : Bool} : x ∈ toldF ps (S (l ++ [49])) ↔ ∃ q ∈ ps, q.1 = l ∧ q.2.2 = x := by
  unfold toldF
  rw [List.mem_flatMap]
  refine exists_congr fun q => and_congr_right fun _ => ?_
  unfold tol1
  have n2 : ¬ S (l ++ [49]) = S (q.1 ++ [48]) := fun e => by
    have := S_inj e
    have h2 := congrArg List.getLast? this
    simp at h2
  rw [if_neg n2, List.nil_append]
  constructor
  · intro h
    split at h
    · rename_i e
      have := S_inj e
      exact ⟨(List.append_cancel_right this).symm, (List.mem_singleton.mp h).symm⟩
    · cases h
  · rintro ⟨rfl, rfl⟩
    rw [if_pos rfl]
    simp
theorem bad_nil {ps : List Lk} {l : List Nat} {w : Bool × Bool} : (badF ps l w).isEmpty = (!decide ((!w.1) ∈ toldF ps (S (l ++ [48]))) && !decide ((!w.2) ∈ toldF ps (S (l ++ [49])))) := by
  rw [Bool.eq_iff_iff, List.isEmpty_iff]
  simp only [Bool.and_eq_true, Bool.not_eq_true', decide_eq_false_iff_not]
  rw [mem_t0, mem_t1]
  unfold badF
  rw [List.filter_eq_nil_iff]
  constructor
  · intro h
    refine ⟨?_, ?_⟩
    · rintro ⟨q, hq, e1, e2⟩
      have := h q hq
      rw [decide_eq_true e1] at this
      simp only [Bool.true_and, Bool.not_eq_true', decide_eq_false_iff_not, Decidable.not_not] at this
      rw [this] at e2
      cases hw : w.1 <;> rw [hw] at e2 <;> cases e2
    · rintro ⟨q, hq, e1, e2⟩
      have := h q hq
      rw [decide_eq_true e1] at this
      simp only [Bool.true_and, Bool.not_eq_true', decide_eq_false_iff_not, Decidable.not_not] at this
      rw [this] at e2
      cases hw : w.2 <;> rw [hw] at e2 <;> cases e2
  · rintro ⟨h1, h2⟩ q hq c
    simp only [Bool.and_eq_true, Bool.not_eq_true', decide_eq_true_eq, decide_eq_false_iff_not] at c
    refine c.2 ?_
    have e1 : q.2.1 = w.1 := by
      by_cases e : q.2.1 = w.1
      · exact e
      · exact (h1 ⟨q, hq, c.1, by cases hx : q.2.1 <;> cases hy : w.1 <;> simp_all⟩).elim
    have e2 : q.2.2 = w.2 := by
      by_cases e : q.2.2 = w.2
      · exact e
      · exact (h2 ⟨q, hq, c.1, by cases hx : q.2.2 <;> cases hy : w.2 <;> simp_all⟩).elim
    exact Prod.ext e1 e2
theorem open_any {ps : List Lk} {l : List Nat} : OpenS ps (S l) ↔ ps.any (beg2 l) = true := by
  rw [List.any_eq_true]
  unfold OpenS beg2
  constructor
  · rintro ⟨q, hq, i, hi, e⟩
    refine ⟨q, hq, decide_eq_true ?_⟩
    have := S_inj e
    rw [this, List.length_take, Nat.min_eq_left hi]
  · rintro ⟨q, hq, e⟩
    have e' := of_decide_eq_true e
    have hl : l.length ≤ q.1.length := by
      have := congrArg List.length e'
      rw [List.length_take] at this
      omega
    exact ⟨q, hq, l.length, hl, by rw [e']⟩
def okW (ts : List Bool) (z : Bool) : Bool := !decide ((!z) ∈ ts)
theorem mul_one2 {a b : Nat} (h : a * b = 1) : a = 1 ∧ b = 1 := ⟨Nat.dvd_one.mp ⟨b, h.symm⟩, Nat.dvd_one.mp ⟨a, by rw [Nat.mul_comm]; exact h.symm⟩⟩
def sS (ss : List (List Str)) (z : Bool) : Nat := if z = true then fN ss else eN ss
def tT (a : Nat × Nat) (A : Bool → Bool) (z : Bool) : Nat := if A z = true then sel a z else 0
theorem sS_cap {t : List Bool} {U : List (List Str)} (h : eN U ≤ 1) (z : Bool) : tT (min 2 (eN U), min 2 (fN U)) (okW t) z = sS (capF (filtF t U)) z := by
  cases z with
  | false =>
    show (if (!decide (true ∈ t)) = true then min 2 (eN U) else 0) = eN (capF (filtF t U))
    rw [eN_cap]
    have e : eN (filtF t U) = if true ∈ t then 0 else eN U := by
      unfold eN
      rw [e_filt]
      split <;> rfl
    rw [e]
    by_cases c : true ∈ t
    · rw [if_pos c, decide_eq_true c]
      rfl
    · rw [if_neg c, decide_eq_false c]
      show min 2 (eN U) = eN U
      omega
  | true =>
    show (if (!decide (false ∈ t)) = true then min 2 (fN U) else 0) = fN (capF (filtF t U))
    rw [fN_cap]
    have e : fN (filtF t U) = if false ∈ t then 0 else fN U := by
      unfold fN
      rw [f_filt]
      split <;> rfl
    rw [e]
    by_cases c : false ∈ t
    · rw [if_pos c, decide_eq_true c]
      rfl
    · rw [if_neg c, decide_eq_false c]
      rfl
theorem fold_ans (A B : Bool → Bool) (a b : Nat × Nat) : (allB.filter (fun w => A w.1 && B w.2)).foldl (stepW a b) (0, 0) = (tT a A false * tT b B false, tT a A false * tT b B true + tT a A true * tT b B false + tT a A true * tT b B true) := by
  unfold allB tT
  cases h1 : A false <;> cases h2 : A true <;> cases h3 : B false <;> cases h4 : B true <;> simp [List.filter, h1, h2, h3, h4, stepW, sel]
theorem ans_eq (ps : List Lk) (l : List Nat) : ansF ps l = allB.filter fun w => okW (toldF ps (S (l ++ [48]))) w.1 && okW (toldF ps (S (l ++ [49]))) w.2 := by
  unfold ansF
  exact List.filter_congr fun w _ => bad_nil
section
variable {W : Nat} {ps : List Lk} {op : Str → Bool}
theorem ways_u (ho : ∀ y, op y = true ↔ OpenS ps y) : ∀ (n : Nat) (l : List Nat), l.length + n = W → waysG n ps l = (min 2 (eN (uF W op (toldF ps) n l)), min 2 (fN (uF W op (toldF ps) n l)))
  | 0, l, h => by
    show (1, 1) = _
    rw [uF0]
    unfold unlF
    rw [if_pos (by omega)]
    rfl
  | n + 1, l, h => by
    have i0 := ways_u ho n (l ++ [48]) (by rw [List.length_append, List.length_singleton]; omega)
    have i1 := ways_u ho n (l ++ [49]) (by rw [List.length_append, List.length_singleton]; omega)
    rw [waysS, uFs]
    by_cases c : ps.any (beg2 l) = true
    · rw [if_pos c, if_pos ((ho _).mpr (open_any.mpr c)), ans_eq, fold_ans, i0, i1]
      rw [sS_cap (u_e1 _ _ _ _ _), sS_cap (u_e1 _ _ _ _ _), sS_cap (u_e1 _ _ _ _ _), sS_cap (u_e1 _ _ _ _ _), ← sb_u, ← sb_u]
      rw [fN_prod, show eN (prodF (sbF W op (toldF ps) n (l ++ [48])) (sbF W op (toldF ps) n (l ++ [49]))) = _ from prod_empty]
      rfl
    · rw [if_neg c, if_neg (fun z => c (open_any.mp ((ho _).mp z)))]
      unfold unlF
      rw [if_neg (by omega)]
      rfl
theorem no_empty {ss : List (List Str)} (h : eN ss = 0) : (ss.filter fun s => !s.isEmpty) = ss := by
  refine List.filter_eq_self.mpr fun s hs => ?_
  have : s ∉ ss.filter fun s => s.isEmpty := by
    rw [List.length_eq_zero_iff.mp h]
    simp
  rw [List.mem_filter] at this
  cases hx : s.isEmpty with
  | false => rfl
  | true => exact (this ⟨hs, hx⟩).elim
theorem only_empty {ss : List (List Str)} (h : eN ss = 1) (h2 : fN ss = 0) : ss = [[]] := by
  have e : (ss.filter fun s => s.isEmpty) = ss := by
    refine List.filter_eq_self.mpr fun s hs => ?_
    have : s ∉ ss.filter fun s => !s.isEmpty := by
      rw [List.length_eq_zero_iff.mp h2]
      simp
    rw [List.mem_filter] at this
    cases hx : s.isEmpty with
    | true => rfl
    | false => exact (this ⟨hs, by rw [hx]; rfl⟩).elim
  unfold eN at h
  rw [e] at h
  match ss, h, e with
  | [s], _, e =>
    have hs : s ∈ [s].filter fun s => s.isEmpty := by rw [e]; simp
    have := (List.mem_filter.mp hs).2
    rw [List.isEmpty_iff.mp this]
theorem ne_sb {n : Nat} {l : List Nat} {x : List Str} (ih : fN (uF W op (toldF ps) n l) = 1 → ((uF W op (toldF ps) n l).filter fun s => !s.isEmpty) = [x]) (h : fN (sbF W op (toldF ps) n l) = 1) : ((sbF W op (toldF ps) n l).filter fun s => !s.isEmpty) = [x] := by
  rw [sb_u] at h ⊢
  rw [fN_cap] at h
  rw [ne_cap]
  unfold fN at h ih
  rw [f_filt] at h ⊢
  by_cases c : false ∈ toldF ps (S l)
  · rw [if_pos c] at h
    simp at h
  · rw [if_neg c] at h ⊢
    have h1 := ih (by omega)
    rw [h1]
    rfl
theorem good_eq {A B : Bool → Bool} {a b : Nat × Nat} {w : Bool × Bool} : ((A w.1 && B w.2) && goodW a b w) = ((w.1 || w.2) && decide (0 < tT a A w.1 * tT b B w.2)) := by
  unfold goodW tT
  cases h1 : A w.1 <;> cases h2 : B w.2 <;> simp
theorem those_u (ho : ∀ y, op y = true ↔ OpenS ps y) : ∀ (n : Nat) (l : List Nat), l.length + n = W → fN (uF W op (toldF ps) n l) = 1 → ((uF W op (toldF ps) n l).filter fun s => !s.isEmpty) = [thoseG n ps l]
  | 0, l, h, h1 => by
    rw [uF0]
    unfold unlF
    rw [if_pos (by omega)]
    rfl
  | n + 1, l, h, h1 => by
    have l0 : (l ++ [48]).length + n = W := by rw [List.length_append, List.length_singleton]; omega
    have l1 : (l ++ [49]).length + n = W := by rw [List.length_append, List.length_singleton]; omega
    have i0 := those_u ho n (l ++ [48]) l0
    have i1 := those_u ho n (l ++ [49]) l1
    rw [uFs] at h1 ⊢
    by_cases c : op (S l) = true
    · rw [if_pos c] at h1 ⊢
      rw [fN_prod] at h1
      have n0 := ne_sb (x := thoseG n ps (l ++ [48])) i0
      have n1 := ne_sb (x := thoseG n ps (l ++ [49])) i1
      have m0 : eN (sbF W op (toldF ps) n (l ++ [48])) ≤ 1 := (sb_sml n _).1.e
      have m1 : eN (sbF W op (toldF ps) n (l ++ [49])) ≤ 1 := (sb_sml n _).1.e
      -- what the law finds
      have fd : (ansF ps l).find? (goodW (waysG n ps (l ++ [48])) (waysG n ps (l ++ [49]))) = allB.find? fun w => (w.1 || w.2) && decide (0 < sS (sbF W op (toldF ps) n (l ++ [48])) w.1 * sS (sbF W op (toldF ps) n (l ++ [49])) w.2) := by
        rw [ans_eq, List.find?_filter]
        congr 1
        funext w
        rw [Bool.decide_and, Bool.decide_eq_true, Bool.decide_eq_true, good_eq, ways_u ho n _ l0, ways_u ho n _ l1, sS_cap (u_e1 _ _ _ _ _), sS_cap (u_e1 _ _ _ _ _), ← sb_u, ← sb_u]
      show _ = [match (ansF ps l).find? (goodW (waysG n ps (l ++ [48])) (waysG n ps (l ++ [49]))) with
        | some w => (if w.1 = true then thoseG n ps (l ++ [48]) else []) ++ (if w.2 = true then thoseG n ps (l ++ [49]) else [])
        | none => []]
      rw [fd]
      generalize hS0 : sbF W op (toldF ps) n (l ++ [48]) = S0 at h1 n0 m0 ⊢
      generalize hS1 : sbF W op (toldF ps) n (l ++ [49]) = S1 at h1 n1 m1 ⊢
      generalize thoseG n ps (l ++ [48]) = x0 at n0 ⊢
      generalize thoseG n ps (l ++ [49]) = x1 at n1 ⊢
      have cs : (eN S0 = 1 ∧ fN S1 = 1 ∧ fN S0 = 0) ∨ (eN S0 * fN S1 = 0 ∧ fN S0 = 1 ∧ eN S1 = 1 ∧ fN S1 = 0) ∨ (eN S0 = 0 ∧ eN S1 = 0 ∧ fN S0 = 1 ∧ fN S1 = 1) := by
        rcases Nat.eq_zero_or_pos (eN S0) with z0 | z0 <;> rcases Nat.eq_zero_or_pos (eN S1) with z1 | z1
        · rw [z0, z1] at h1
          have := mul_one2 (show fN S0 * fN S1 = 1 by omega)
          exact .inr (.inr ⟨z0, z1, this.1, this.2⟩)
        · have e1 : eN S1 = 1 := by omega
          rw [z0, e1] at h1
          have hf : fN S0 * (fN S1 + 1) = 1 := by rw [Nat.mul_add]; omega
          have := mul_one2 hf
          exact .inr (.inl ⟨by rw [z0]; omega, this.1, e1, by omega⟩)
        · have e0 : eN S0 = 1 := by omega
          rw [z1, e0] at h1
          have hf : (fN S0 + 1) * fN S1 = 1 := by rw [Nat.add_mul]; omega
          have := mul_one2 hf
          exact .inl ⟨e0, this.2, by omega⟩
        · have e0 : eN S0 = 1 := by omega
          have e1 : eN S1 = 1 := by omega
          rw [e0, e1] at h1
          rcases Nat.eq_zero_or_pos (fN S0) with y0 | y0
          · rw [y0] at h1
            exact .inl ⟨e0, by omega, y0⟩
          · have hz : fN S1 = 0 := by omega
            rw [hz] at h1
            exact .inr (.inl ⟨by rw [hz]; omega, by omega, e1, hz⟩)
      rcases cs with ⟨a1, a2, a3⟩ | ⟨a0, a1, a2, a3⟩ | ⟨a0, a1, a2, a3⟩
      · have fw : (allB.find? fun w => (w.1 || w.2) && decide (0 < sS S0 w.1 * sS S1 w.2)) = some (false, true) := by
          simp [allB, sS, a1, a2, a3]
        rw [fw, only_empty a1 a3]
        have e : prodF [[]] S1 = S1 := by simp [prodF]
        rw [e, n1 a2]
        rfl
      · have fw : (allB.find? fun w => (w.1 || w.2) && decide (0 < sS S0 w.1 * sS S1 w.2)) = some (true, false) := by
          have : eN S0 * 0 = 0 := rfl
          simp [allB, sS, a1, a2, a3]
        rw [fw, only_empty a2 a3]
        have e : prodF S0 [[]] = S0 := by simp [prodF]
        rw [e, n0 a1]
        simp
      · have fw : (allB.find? fun w => (w.1 || w.2) && decide (0 < sS S0 w.1 * sS S1 w.2)) = some (true, true) := by
          simp [allB, sS, a0, a1, a2, a3]
        rw [fw]
        have q0 := n0 a2
        have q1 := n1 a3
        rw [no_empty a0] at q0
        rw [no_empty a1] at q1
        rw [q0, q1]
        have hx : x0 ≠ [] := fun z => by
          rw [q0, z] at a0
          cases a0
        have e : prodF [x0] [x1] = [x0 ++ x1] := by simp [prodF]
        rw [e]
        simp [hx]
    · rw [if_neg c] at h1
      unfold unlF at h1
      rw [if_neg (by omega)] at h1
      cases h1
/-- what is shown: none, one, or more -/
theorem shown_is (ho : ∀ y, op y = true ↔ OpenS ps y) : (sbF W op (toldF ps) W []).length = (waysG W ps []).1 + (waysG W ps []).2 ∧ ((waysG W ps []).1 + (waysG W ps []).2 = 1 → sbF W op (toldF ps) W [] = [if (waysG W ps []).2 = 1 then thoseG W ps [] else []]) := by
  have hw := ways_u (W := W) ho W [] (by simp)
  have e1 := u_e1 W op (toldF ps) W []
  have td0 : toldF ps (S []) = [] := by
    unfold toldF
    rw [List.flatMap_eq_nil_iff]
    intro q _
    unfold tol1
    rw [if_neg (fun e => by have := S_inj e; simp at this), if_neg (fun e => by have := S_inj e; simp at this)]
    rfl
  have es : sbF W op (toldF ps) W [] = capF (uF W op (toldF ps) W []) := by
    rw [sb_u, td0]
    congr 1
    unfold filtF
    exact List.filter_eq_self.mpr fun s _ => by simp
  have et := those_u (W := W) ho W [] (by simp)
  generalize uF W op (toldF ps) W [] = U at hw e1 es et
  rw [hw, es]
  dsimp only
  have hl := ef_len (capF U)
  rw [eN_cap, fN_cap] at hl
  refine ⟨by omega, fun h => ?_⟩
  by_cases c : min 2 (fN U) = 1
  · rw [if_pos c]
    have h0 : eN U = 0 := by omega
    have h1 : fN U = 1 := by omega
    have hn := et h1
    unfold capF
    rw [hn, List.length_eq_zero_iff.mp h0]
    rfl
  · rw [if_neg c]
    have h0 : eN U = 1 := by omega
    have h1 : fN U = 0 := by omega
    exact only_empty (by rw [eN_cap]; exact h0) (by rw [fN_cap, h1]; rfl)
end
end B

set_option Elab.async false
set_option linter.all false
set_option maxRecDepth 100000
set_option maxHeartbeats 4000000
namespace B
open PySem PySem.Spec PyProof.Rows L2
open SX (S)
theorem beg_long {l : List Nat} {c : Nat} {q : Lk} (h : beg2 (l ++ [c]) q = true) : beg2 l q = true := by
  unfold beg2 at h ⊢
  have e := of_decide_eq_true h
  refine decide_eq_true ?_
  have := congrArg (List.take l.length) e
  rw [List.take_take, List.length_append, List.length_singleton, Nat.min_eq_left (by omega), List.take_left] at this
  exact this
theorem beg_self {l : List Nat} {q : Lk} (h : q.1 = l) : beg2 l q = true := by
  unfold beg2
  rw [← h, List.take_length]
  exact decide_eq_true rfl
theorem bad_flt {qs : List Lk} {l m : List Nat} {w : Bool × Bool} (h : ∀ q, beg2 m q = true → beg2 l q = true) : badF (qs.filter (beg2 l)) m w = badF qs m w := by
  unfold badF
  rw [List.filter_filter]
  refine List.filter_congr fun q _ => ?_
  by_cases c : q.1 = m
  · rw [h q (beg_self c), Bool.and_true]
  · rw [decide_eq_false c]
    rfl
theorem ans_flt {qs : List Lk} {l m : List Nat} (h : ∀ q, beg2 m q = true → beg2 l q = true) : ansF (qs.filter (beg2 l)) m = ansF qs m := by
  unfold ansF
  exact List.filter_congr fun w _ => by rw [bad_flt h]
theorem any_flt {qs : List Lk} {l m : List Nat} (h : ∀ q, beg2 m q = true → beg2 l q = true) : (qs.filter (beg2 l)).any (beg2 m) = qs.any (beg2 m) := by
  rw [List.any_filter]
  congr 1
  funext q
  cases c : beg2 m q with
  | false => rw [Bool.and_false]
  | true => rw [h q c]; rfl
theorem ways_flt {qs : List Lk} {l : List Nat} : ∀ (n : Nat) {m : List Nat}, (∀ q, beg2 m q = true → beg2 l q = true) → waysG n (qs.filter (beg2 l)) m = waysG n qs m
  | 0, m, h => rfl
  | n + 1, m, h => by
    rw [waysS, waysS, any_flt h, ans_flt h, ways_flt n (fun q c => h q (beg_long c)), ways_flt n (fun q c => h q (beg_long c))]
theorem ways_le (n : Nat) (qs : List Lk) (l : List Nat) : (waysG n qs l).1 ≤ 2 ∧ (waysG n qs l).2 ≤ 2 := by
  cases n with
  | zero => exact ⟨Nat.le_succ 1, Nat.le_succ 1⟩
  | succ n =>
    rw [waysS]
    split
    · exact ⟨by dsimp only; omega, by dsimp only; omega⟩
    · exact ⟨by decide, by decide⟩
theorem len12 {l : List Nat} (h : l.length ≤ 12) : (S l).length ≤ sizeLine := by
  rw [SX.S_len]
  exact size12 (by omega)
theorem gz_go {α : Type} {H : Hp} {D : Addr} {zs : List (Addr × α)} {g : Addr × α → Bool} {i : Nat} {z : Addr × α} (hz : zs[i]? = some z) (hl : zs.length ≤ 1000) (c : g z = true) : ∃ acc, (upd H D (.lst (((zs.take i).filter g).map fun z => V.ref z.1))) D = some (.lst acc) ∧ acc.length < sizeLine ∧ upd (upd H D (.lst (((zs.take i).filter g).map fun z => V.ref z.1))) D (.lst (acc ++ [V.ref z.1])) = upd H D (.lst (((zs.take (i + 1)).filter g).map fun z => V.ref z.1)) := by
  refine ⟨_, upd_same, ?_, ?_⟩
  · rw [List.length_map]
    have h1 := List.length_filter_le g (zs.take i)
    rw [List.length_take] at h1
    exact Nat.lt_of_le_of_lt (show _ ≤ 1000 by omega) (by decide)
  · rw [upd_upd, filter_step _ hz, if_pos c, List.map_append]
    rfl
theorem gz_no {α : Type} {H : Hp} {D : Addr} {zs : List (Addr × α)} {g : Addr × α → Bool} {i : Nat} {z : Addr × α} (hz : zs[i]? = some z) (c : g z = false) : upd H D (.lst (((zs.take i).filter g).map fun z => V.ref z.1)) = upd H D (.lst (((zs.take (i + 1)).filter g).map fun z => V.ref z.1)) := by
  rw [filter_step _ hz, if_neg (by rw [c]; exact Bool.false_ne_true), List.append_nil]
section
variable {P : Program} {w : World} {K : PySem.W.Frag} {mg : Str → Option Value} {base : Heap}
def spWays (N : Nat) : Sp := fun vs H Q _ => ∃ (W : Nat) (p : Addr) (zs : List (Addr × Lk)) (l : List Nat) (n : Nat), vs = [.int W, .ref p, .str (S l)] ∧ l.length + n = W ∧ n ≤ N ∧ W ≤ 12 ∧ LZ H p zs ∧ zs.length ≤ 1000 ∧ (∀ z ∈ zs, Bits z.2.1 ∧ z.2.1.length ≤ 12) ∧
  ∀ (t : Addr) (H' : Hp), H t = none → H' t = some (.tup [.int (waysG n (zs.map (·.2)) l).1, .int (waysG n (zs.map (·.2)) l).2]) → Frm [] H H' → Q (.ref t) H'
end
end B

set_option Elab.async false
set_option linter.all false
set_option maxRecDepth 100000
set_option maxHeartbeats 4000000
namespace B
open PySem PySem.Spec PyProof.Rows L2
open SX (S)
theorem those_len {qs : List Lk} : ∀ (n : Nat) (l : List Nat), (thoseG n qs l).length ≤ 2 ^ n
  | 0, l => Nat.le_refl 1
  | n + 1, l => by
    have h0 := those_len (qs := qs) n (l ++ [48])
    have h1 := those_len (qs := qs) n (l ++ [49])
    rw [Nat.pow_succ]
    unfold thoseG
    split
    · rw [List.length_append]
      have e0 : ∀ (b : Bool) (x : List Str), (if b = true then x else []).length ≤ x.length := fun b x => by cases b <;> simp
      have := e0
      rename_i z _
      have a0 := e0 z.1 (thoseG n qs (l ++ [48]))
      have a1 := e0 z.2 (thoseG n qs (l ++ [49]))
      omega
    · simp
theorem find_at {α : Type} {f : α → Bool} {x : α} : ∀ {xs : List α} {j : Nat}, xs[j]? = some x → (xs.take j).find? f = none → f x = true → xs.find? f = some x
  | [], j, h, _, _ => by simp at h
  | y :: r, 0, h, _, c => by
    rw [List.getElem?_cons_zero] at h
    obtain rfl := Option.some.inj h
    rw [List.find?_cons, c]
  | y :: r, j + 1, h, n, c => by
    rw [List.getElem?_cons_succ] at h
    rw [List.take_succ_cons, List.find?_cons] at n
    rw [List.find?_cons]
    cases hy : f y with
    | true => rw [hy] at n; cases n
    | false =>
      rw [hy] at n
      exact find_at h n c
theorem dec_mul (x y : Nat) : decide ((0 : Int) < (x : Int) * (y : Int)) = decide (0 < x * y) := by
  rw [decide_eq_decide]
  constructor
  · intro h
    exact_mod_cast h
  · intro h
    exact_mod_cast h
section
variable {P : Program} {w : World} {K : PySem.W.Frag} {mg : Str → Option Value} {base : Heap}
def spThose (N : Nat) : Sp := fun vs H Q _ => ∃ (W : Nat) (p : Addr) (zs : List (Addr × Lk)) (l : List Nat) (n : Nat), vs = [.int W, .ref p, .str (S l)] ∧ l.length + n = W ∧ n ≤ N ∧ W ≤ 12 ∧ LZ H p zs ∧ zs.length ≤ 1000 ∧ (∀ z ∈ zs, Bits z.2.1 ∧ z.2.1.length ≤ 12) ∧
  ∀ (q : Addr) (H' : Hp), H q = none → H' q = some (.lst ((thoseG n (zs.map (·.2)) l).map V.str)) → Frm [] H H' → Q (.ref q) H'
end
end B

set_option Elab.async false
set_option linter.all false
set_option maxRecDepth 100000
set_option maxHeartbeats 4000000
namespace B
open PySem PySem.Spec PyProof.Rows L2
open SX (S)
/-! ### what the sets behind a beginning are -/
def RL (s : List Str) : Prop := s.Pairwise leS ∧ s.Nodup
/-- what a set tells at a look's beginning is what the look tells -/
def Tl (s : List Str) (q : Lk) : Prop := q.2.1 = s.any (starts (q.1 ++ [48])) ∧ q.2.2 = s.any (starts (q.1 ++ [49]))
def Cn (ps : List Lk) (W : Nat) (l : List Nat) (s : List Str) : Prop := (∀ x ∈ s, Beg W l x) ∧ (∀ q ∈ ps, beg2 l q = true → Tl s q) ∧ ∀ t ∈ toldF ps (S l), t = !s.isEmpty
theorem starts_S {l m : List Nat} : starts l (S m) = decide (m.take l.length = l) := by
  unfold starts
  rw [S_list]
theorem starts_app {l m : List Nat} {x : Str} (h : starts (l ++ m) x = true) : starts l x = true := by
  have e := of_decide_eq_true h
  refine decide_eq_true ?_
  have := congrArg (List.take l.length) e
  rw [List.take_take, List.length_append, Nat.min_eq_left (by omega), List.take_left] at this
  exact this
theorem starts_two {l : List Nat} {x : Str} (h0 : starts (l ++ [48]) x = true) (h1 : starts (l ++ [49]) x = true) : False := by
  have e0 := of_decide_eq_true h0
  have e1 := of_decide_eq_true h1
  rw [List.length_append] at e0 e1
  have e0' : x.cps.toList.take (l.length + 1) = l ++ [48] := e0
  have e1' : x.cps.toList.take (l.length + 1) = l ++ [49] := e1
  rw [e0'] at e1'
  have := List.append_cancel_left e1'
  simp at this
theorem Beg.st {W : Nat} {l : List Nat} {x : Str} (h : Beg W l x) : starts l x = true := by
  obtain ⟨m, rfl, _, _, e⟩ := h
  rw [starts_S]
  exact decide_eq_true e
theorem Beg.of {W : Nat} {l : List Nat} {x : Str} (h : Num W x) (e : starts l x = true) : Beg W l x := by
  obtain ⟨m, rfl, h1, h2⟩ := h
  rw [starts_S] at e
  exact ⟨m, rfl, h1, h2, of_decide_eq_true e⟩
theorem num_next {W : Nat} {l : List Nat} {x : Str} (h : Beg W l x) (hl : l.length < W) : starts (l ++ [48]) x = true ∨ starts (l ++ [49]) x = true := by
  obtain ⟨m, rfl, h1, h2, e⟩ := h
  rw [starts_S, starts_S, List.length_append, List.length_append]
  have hm : l.length < m.length := by omega
  have s : m.take (l.length + 1) = l ++ [m[l.length]] := by rw [List.take_succ_eq_append_getElem hm, e]
  rcases h2 _ (List.getElem_mem hm) with c | c
  · refine .inl (decide_eq_true ?_)
    show m.take (l.length + 1) = _
    rw [s, c]
  · refine .inr (decide_eq_true ?_)
    show m.take (l.length + 1) = _
    rw [s, c]
theorem beg_lt {W : Nat} {l : List Nat} {x y : Str} (h0 : Beg W (l ++ [48]) x) (h1 : Beg W (l ++ [49]) y) : leS x y ∧ x ≠ y := by
  have e : ∀ {l : List Nat}, starts (l ++ [48]) y = true → starts (l ++ [49]) y = true → False := fun a b => starts_two a b
  obtain ⟨m, rfl, _, _, e0⟩ := h0
  have h1' := h1.st
  obtain ⟨p, rfl, _, _, e1⟩ := h1
  refine ⟨LtP.le ⟨l, m.drop (l ++ [48]).length, p.drop (l ++ [49]).length, ?_, ?_⟩, fun z => ?_⟩
  · have := List.take_append_drop (l ++ [48]).length m
    rw [e0] at this
    rw [← this]
    simp
  · have := List.take_append_drop (l ++ [49]).length p
    rw [e1] at this
    rw [← this]
    simp
  · refine e (l := l) ?_ h1'
    rw [← z, starts_S]
    exact decide_eq_true e0
theorem rl_cat {W : Nat} {l : List Nat} {s0 s1 : List Str} (r0 : RL s0) (r1 : RL s1) (b0 : ∀ x ∈ s0, Beg W (l ++ [48]) x) (b1 : ∀ x ∈ s1, Beg W (l ++ [49]) x) : RL (s0 ++ s1) :=
  ⟨List.pairwise_append.mpr ⟨r0.1, r1.1, fun x hx y hy => (beg_lt (b0 x hx) (b1 y hy)).1⟩, List.pairwise_append.mpr ⟨r0.2, r1.2, fun x hx y hy => (beg_lt (b0 x hx) (b1 y hy)).2⟩⟩
theorem RL.flt {s : List Str} (h : RL s) (f : Str → Bool) : RL (s.filter f) := ⟨h.1.filter f, h.2.filter f⟩
theorem rl_eq {s t : List Str} (h : RL s) (g : RL t) (e : ∀ x, x ∈ s ↔ x ∈ t) : s = t := pw_perm_eq h.1 g.1 ((List.perm_ext_iff_of_nodup h.2 g.2).mpr e)
theorem Beg.flt {W : Nat} {l m : List Nat} {s : List Str} (h : ∀ x ∈ s, Beg W l x) : ∀ x ∈ s.filter (starts m), Beg W m x := fun x hx => by
  have := List.mem_filter.mp hx
  exact Beg.of (h x this.1).num this.2
theorem rl_split {W : Nat} {l : List Nat} {s : List Str} (h : RL s) (b : ∀ x ∈ s, Beg W l x) (hl : l.length < W) : s = s.filter (starts (l ++ [48])) ++ s.filter (starts (l ++ [49])) := by
  refine rl_eq h (rl_cat (h.flt _) (h.flt _) (Beg.flt b) (Beg.flt b)) fun x => ?_
  rw [List.mem_append, List.mem_filter, List.mem_filter]
  constructor
  · intro hx
    exact (num_next (b x hx) hl).imp (fun c => ⟨hx, c⟩) (fun c => ⟨hx, c⟩)
  · rintro (c | c) <;> exact c.1
theorem flt_all {l m : List Nat} {s : List Str} (h : ∀ x ∈ s, starts l x = true) : s.filter (starts l) = s := List.filter_eq_self.mpr h
theorem any_ne {l : List Nat} {s : List Str} (h : ∀ x ∈ s, starts l x = true) : s.any (starts l) = !s.isEmpty := by
  cases s with
  | nil => rfl
  | cons x r => rw [List.any_cons, h x (by simp)]; rfl
theorem any_none {l : List Nat} {s : List Str} (h : ∀ x ∈ s, starts l x = false) : s.any (starts l) = false := List.any_eq_false.mpr fun x hx => by rw [h x hx]; exact Bool.false_ne_true
/-- looks behind one side see that side only -/
theorem any_side {W : Nat} {l m : List Nat} {s0 s1 : List Str} {c d : Nat} (hc : (c = 48 ∧ d = 49) ∨ (c = 49 ∧ d = 48)) (b1 : ∀ x ∈ s1, starts (l ++ [d]) x = true) (hm : m.take (l.length + 1) = l ++ [c]) : s1.any (starts m) = false := by
  refine any_none fun x hx => ?_
  cases e : starts m x with
  | false => rfl
  | true =>
    have h1 : m = (l ++ [c]) ++ m.drop (l.length + 1) := by rw [← hm, List.take_append_drop]
    rw [h1] at e
    have h2 := starts_app e
    rcases hc with ⟨rfl, rfl⟩ | ⟨rfl, rfl⟩
    · exact (starts_two h2 (b1 x hx)).elim
    · exact (starts_two (b1 x hx) h2).elim
theorem mem_cap {F : List (List Str)} {s : List Str} (h : s ∈ capF F) : s ∈ F := by
  unfold capF at h
  rcases List.mem_append.mp h with c | c
  · exact (List.mem_filter.mp c).1
  · exact (List.mem_filter.mp (List.mem_of_mem_take c)).1
theorem cap_mem {F : List (List Str)} {s : List Str} (h : s ∈ F) : s ∈ capF F ∨ (s ≠ [] ∧ 2 ≤ fN (capF F)) := by
  rw [fN_cap]
  by_cases e : s = []
  · exact .inl (List.mem_append_left _ (List.mem_filter.mpr ⟨h, by rw [e]; rfl⟩))
  · have hm : s ∈ F.filter fun s => !s.isEmpty := List.mem_filter.mpr ⟨h, by cases s with
      | nil => exact absurd rfl e
      | cons a b => rfl⟩
    by_cases c : fN F ≤ 2
    · refine .inl (List.mem_append_right _ ?_)
      rw [List.take_of_length_le c]
      exact hm
    · exact .inr ⟨e, by omega⟩
theorem mem_filt {ts : List Bool} {F : List (List Str)} {s : List Str} : s ∈ filtF ts F ↔ s ∈ F ∧ ∀ t ∈ ts, t = !s.isEmpty := by
  unfold filtF
  rw [List.mem_filter]
  refine and_congr_right fun _ => ?_
  rw [Bool.not_eq_true', decide_eq_false_iff_not]
  constructor
  · intro h t ht
    cases t <;> cases e : s.isEmpty
    · rw [e] at h; exact absurd ht h
    · rfl
    · rfl
    · rw [e] at h; exact absurd ht h
  · intro h c
    have := h _ c
    cases e : s.isEmpty <;> rw [e] at this <;> cases this
theorem mem_prod {a b : List (List Str)} {s : List Str} : s ∈ prodF a b ↔ ∃ x ∈ a, ∃ y ∈ b, s = x ++ y := by
  unfold prodF
  rw [List.mem_flatMap]
  refine exists_congr fun x => and_congr_right fun _ => ?_
  rw [List.mem_map]
  constructor
  · rintro ⟨y, hy, e⟩
    exact ⟨y, hy, e.symm⟩
  · rintro ⟨y, hy, e⟩
    exact ⟨y, hy, e.symm⟩
theorem reps_beg {W c : Nat} {l : List Nat} (hc : c = 48 ∨ c = 49) (hb : Bits l) (hl : l.length ≤ W) : Beg W l (S (l ++ List.replicate (W - l.length) c)) := by
  refine ⟨_, rfl, by rw [List.length_append, List.length_replicate]; omega, fun z hz => ?_, by rw [List.take_left]⟩
  rcases List.mem_append.mp hz with q | q
  · exact hb z q
  · rw [(List.mem_replicate.mp q).2]
    exact hc
theorem unl_ok {W : Nat} {l : List Nat} {s : List Str} (hb : Bits l) (hl : l.length ≤ W) (h : s ∈ unlF W l) : (∀ x ∈ s, Beg W l x) ∧ RL s := by
  have one : ∀ y : Str, RL [y] := fun y => ⟨List.pairwise_singleton _ _, List.pairwise_singleton _ _⟩
  unfold unlF at h
  split at h
  · rename_i e
    simp only [List.mem_cons, List.not_mem_nil, or_false] at h
    rcases h with rfl | rfl
    · exact ⟨fun x hx => absurd hx (by simp), .nil, .nil⟩
    · refine ⟨fun x hx => ?_, one _⟩
      rw [List.mem_singleton.mp hx]
      exact ⟨l, rfl, e, hb, by rw [List.take_length]⟩
  · simp only [List.mem_cons, List.not_mem_nil, or_false] at h
    rcases h with rfl | rfl | rfl
    · exact ⟨fun x hx => absurd hx (by simp), .nil, .nil⟩
    · refine ⟨fun x hx => ?_, one _⟩
      rw [List.mem_singleton.mp hx]
      exact reps_beg (.inl rfl) hb hl
    · refine ⟨fun x hx => ?_, one _⟩
      rw [List.mem_singleton.mp hx]
      exact reps_beg (.inr rfl) hb hl
theorem bits_snoc {l : List Nat} {c : Nat} (h : Bits l) (hc : c = 48 ∨ c = 49) : Bits (l ++ [c]) := fun z hz => by
  rcases List.mem_append.mp hz with q | q
  · exact h z q
  · rw [List.mem_singleton.mp q]
    exact hc
theorem beg2_next {l : List Nat} {q : Lk} (hb : Bits q.1) (h : beg2 l q = true) : q.1 = l ∨ beg2 (l ++ [48]) q = true ∨ beg2 (l ++ [49]) q = true := by
  have e := of_decide_eq_true h
  by_cases c : q.1.length ≤ l.length
  · rw [List.take_of_length_le c] at e
    exact .inl e
  · refine .inr ?_
    have hm : l.length < q.1.length := by omega
    have s : q.1.take (l.length + 1) = l ++ [q.1[l.length]] := by rw [List.take_succ_eq_append_getElem hm, e]
    rcases hb _ (List.getElem_mem hm) with d | d
    · refine .inl (decide_eq_true ?_)
      rw [List.length_append]
      show q.1.take (l.length + 1) = _
      rw [s, d]
    · refine .inr (decide_eq_true ?_)
      rw [List.length_append]
      show q.1.take (l.length + 1) = _
      rw [s, d]
theorem beg2_take {l : List Nat} {c : Nat} {q : Lk} (h : beg2 (l ++ [c]) q = true) (d : Nat) : (q.1 ++ [d]).take (l.length + 1) = l ++ [c] := by
  have e := of_decide_eq_true h
  rw [List.length_append] at e
  have e' : q.1.take (l.length + 1) = l ++ [c] := e
  have hl : l.length + 1 ≤ q.1.length := by
    have := congrArg List.length e'
    rw [List.length_take, List.length_append, List.length_singleton] at this
    omega
  rw [List.take_append_of_le_length hl]
  exact e'
section
variable {W : Nat} {ps : List Lk} {op : Str → Bool}
theorem tl_cat {W : Nat} {l : List Nat} {q : Lk} {s0 s1 : List Str} (hb : Bits q.1) (b0 : ∀ x ∈ s0, Beg W (l ++ [48]) x) (b1 : ∀ x ∈ s1, Beg W (l ++ [49]) x) (h : beg2 l q = true) :
    (q.1 = l ∧ (Tl (s0 ++ s1) q ↔ q.2.1 = !s0.isEmpty ∧ q.2.2 = !s1.isEmpty)) ∨ (beg2 (l ++ [48]) q = true ∧ (Tl (s0 ++ s1) q ↔ Tl s0 q)) ∨ (beg2 (l ++ [49]) q = true ∧ (Tl (s0 ++ s1) q ↔ Tl s1 q)) := by
  have t0 : ∀ x ∈ s0, starts (l ++ [48]) x = true := fun x hx => (b0 x hx).st
  have t1 : ∀ x ∈ s1, starts (l ++ [49]) x = true := fun x hx => (b1 x hx).st
  rcases beg2_next hb h with e | e | e
  · refine .inl ⟨e, ?_⟩
    unfold Tl
    rw [List.any_append, List.any_append, e, any_ne t0, any_ne t1, any_side (W := W) (s0 := s0) (.inl ⟨rfl, rfl⟩) t1 (List.take_of_length_le (by simp)), any_side (W := W) (s0 := s0) (.inr ⟨rfl, rfl⟩) t0 (List.take_of_length_le (by simp)), Bool.or_false, Bool.false_or]
  · refine .inr (.inl ⟨e, ?_⟩)
    unfold Tl
    rw [List.any_append, List.any_append, any_side (W := W) (s0 := s0) (.inl ⟨rfl, rfl⟩) t1 (beg2_take e 48), any_side (W := W) (s0 := s0) (.inl ⟨rfl, rfl⟩) t1 (beg2_take e 49), Bool.or_false, Bool.or_false]
  · refine .inr (.inr ⟨e, ?_⟩)
    unfold Tl
    rw [List.any_append, List.any_append, any_side (W := W) (s0 := s0) (.inr ⟨rfl, rfl⟩) t0 (beg2_take e 48), any_side (W := W) (s0 := s0) (.inr ⟨rfl, rfl⟩) t0 (beg2_take e 49), Bool.false_or, Bool.false_or]
theorem sb_sound (hps : ∀ q ∈ ps, Bits q.1 ∧ q.1.length < W) (ho : ∀ y, op y = true ↔ OpenS ps y) : ∀ (n : Nat) (l : List Nat), l.length + n = W → Bits l → ∀ s ∈ sbF W op (toldF ps) n l, Cn ps W l s ∧ RL s
  | 0, l, hn, hb, s, hs => by
    rw [sb_u, uF0] at hs
    obtain ⟨h1, h2⟩ := mem_filt.mp (mem_cap hs)
    obtain ⟨u1, u2⟩ := unl_ok hb (by omega) h1
    refine ⟨⟨u1, fun q hq c => ?_, h2⟩, u2⟩
    have e := congrArg List.length (of_decide_eq_true c)
    rw [List.length_take] at e
    have := (hps q hq).2
    omega
  | n + 1, l, hn, hb, s, hs => by
    rw [sb_u, uFs] at hs
    obtain ⟨h1, h2⟩ := mem_filt.mp (mem_cap hs)
    have ll : ∀ c : Nat, (l ++ [c]).length + n = W := fun c => by rw [List.length_append, List.length_singleton]; omega
    by_cases c : op (S l) = true
    · rw [if_pos c] at h1
      obtain ⟨s0, hs0, s1, hs1, rfl⟩ := mem_prod.mp h1
      obtain ⟨⟨b0, q0, t0⟩, r0⟩ := sb_sound hps ho n (l ++ [48]) (ll 48) (bits_snoc hb (.inl rfl)) s0 hs0
      obtain ⟨⟨b1, q1, t1⟩, r1⟩ := sb_sound hps ho n (l ++ [49]) (ll 49) (bits_snoc hb (.inr rfl)) s1 hs1
      have up : ∀ {c : Nat} {x : Str}, Beg W (l ++ [c]) x → Beg W l x := fun h => Beg.of h.num (starts_app h.st)
      refine ⟨⟨fun x hx => ?_, fun q hq hl => ?_, h2⟩, rl_cat r0 r1 b0 b1⟩
      · rcases List.mem_append.mp hx with y | y
        · exact up (b0 x y)
        · exact up (b1 x y)
      · rcases tl_cat (hps q hq).1 b0 b1 hl with ⟨e, i⟩ | ⟨e, i⟩ | ⟨e, i⟩
        · exact i.mpr ⟨t0 _ (mem_t0.mpr ⟨q, hq, e, rfl⟩), t1 _ (mem_t1.mpr ⟨q, hq, e, rfl⟩)⟩
        · exact i.mpr (q0 q hq e)
        · exact i.mpr (q1 q hq e)
    · rw [if_neg c] at h1
      obtain ⟨u1, u2⟩ := unl_ok hb (by omega) h1
      refine ⟨⟨u1, fun q hq z => ?_, h2⟩, u2⟩
      exact (c ((ho _).mpr (open_any.mpr (List.any_eq_true.mpr ⟨q, hq, z⟩)))).elim
theorem fN_filt {ts : List Bool} {U : List (List Str)} (h : false ∉ ts) : fN (filtF ts U) = fN U := by
  unfold fN
  rw [f_filt, if_neg h]
theorem sb_comp (hps : ∀ q ∈ ps, Bits q.1 ∧ q.1.length < W) (ho : ∀ y, op y = true ↔ OpenS ps y) : ∀ (n : Nat) (l : List Nat), l.length + n = W → ∀ s, Cn ps W l s → RL s → s ∈ sbF W op (toldF ps) n l ∨ (s ≠ [] ∧ 2 ≤ fN (sbF W op (toldF ps) n l)) := by
  intro n
  induction n with
  | zero =>
    intro l hn s hc hr
    rw [sb_u, uF0]
    refine cap_mem (mem_filt.mpr ⟨?_, hc.2.2⟩)
    unfold unlF
    rw [if_pos (by omega)]
    have al : ∀ x ∈ s, x = S l := fun x hx => by
      obtain ⟨m, rfl, e1, _, e⟩ := hc.1 x hx
      rw [List.take_of_length_le (by omega)] at e
      rw [e]
    match s, al, hr with
    | [], _, _ => exact List.mem_cons_self
    | [x], al, _ => rw [al x (by simp)]; simp
    | x :: y :: r, al, hr =>
      have := (List.pairwise_cons.mp hr.2).1 y (by simp)
      exact (this (by rw [al x (by simp), al y (by simp)])).elim
  | succ n ih =>
    intro l hn s hc hr
    obtain ⟨c1, c2, c3⟩ := hc
    have ll : ∀ c : Nat, (l ++ [c]).length + n = W := fun c => by rw [List.length_append, List.length_singleton]; omega
    have two : s ≠ [] → 2 ≤ fN (uF W op (toldF ps) (n + 1) l) → s ≠ [] ∧ 2 ≤ fN (sbF W op (toldF ps) (n + 1) l) := fun hs h => by
      refine ⟨hs, ?_⟩
      rw [sb_u, fN_cap, fN_filt]
      · omega
      · intro z
        have := c3 _ z
        cases s with
        | nil => exact hs rfl
        | cons a b => cases this
    by_cases c : op (S l) = true
    · have sp := rl_split hr c1 (by omega)
      have f0 := Beg.flt (m := l ++ [48]) c1
      have f1 := Beg.flt (m := l ++ [49]) c1
      have r0 := hr.flt (starts (l ++ [48]))
      have r1 := hr.flt (starts (l ++ [49]))
      generalize s.filter (starts (l ++ [48])) = s0 at sp f0 r0
      generalize s.filter (starts (l ++ [49])) = s1 at sp f1 r1
      subst sp
      have g0 : Cn ps W (l ++ [48]) s0 := by
        refine ⟨f0, fun q hq z => ?_, fun t ht => ?_⟩
        · rcases tl_cat (hps q hq).1 f0 f1 (beg_long z) with ⟨e, i⟩ | ⟨e, i⟩ | ⟨e, i⟩
          · exfalso
            have := congrArg List.length (of_decide_eq_true z)
            rw [List.length_take, List.length_append, e, List.length_singleton] at this
            omega
          · exact i.mp (c2 q hq (beg_long z))
          · exfalso
            have a := of_decide_eq_true z
            have b := of_decide_eq_true e
            rw [List.length_append] at a b
            have a' : q.1.take (l.length + 1) = l ++ [48] := a
            have b' : q.1.take (l.length + 1) = l ++ [49] := b
            rw [a'] at b'
            have := List.append_cancel_left b'
            simp at this
        · obtain ⟨q, hq, e, rfl⟩ := mem_t0.mp ht
          rcases tl_cat (hps q hq).1 f0 f1 (beg_self e) with ⟨_, i⟩ | ⟨z, i⟩ | ⟨z, i⟩
          · exact (i.mp (c2 q hq (beg_self e))).1
          all_goals
            exfalso
            have := congrArg List.length (of_decide_eq_true z)
            rw [List.length_take, List.length_append, e, List.length_singleton] at this
            omega
      have g1 : Cn ps W (l ++ [49]) s1 := by
        refine ⟨f1, fun q hq z => ?_, fun t ht => ?_⟩
        · rcases tl_cat (hps q hq).1 f0 f1 (beg_long z) with ⟨e, i⟩ | ⟨e, i⟩ | ⟨e, i⟩
          · exfalso
            have := congrArg List.length (of_decide_eq_true z)
            rw [List.length_take, List.length_append, e, List.length_singleton] at this
            omega
          · exfalso
            have a := of_decide_eq_true z
            have b := of_decide_eq_true e
            rw [List.length_append] at a b
            have a' : q.1.take (l.length + 1) = l ++ [49] := a
            have b' : q.1.take (l.length + 1) = l ++ [48] := b
            rw [a'] at b'
            have := List.append_cancel_left b'
            simp at this
          · exact i.mp (c2 q hq (beg_long z))
        · obtain ⟨q, hq, e, rfl⟩ := mem_t1.mp ht
          rcases tl_cat (hps q hq).1 f0 f1 (beg_self e) with ⟨_, i⟩ | ⟨z, i⟩ | ⟨z, i⟩
          · exact (i.mp (c2 q hq (beg_self e))).2
          all_goals
            exfalso
            have := congrArg List.length (of_decide_eq_true z)
            rw [List.length_take, List.length_append, e, List.length_singleton] at this
            omega
      have i0 := ih (l ++ [48]) (ll 48) s0 g0 r0
      have i1 := ih (l ++ [49]) (ll 49) s1 g1 r1
      have hU : uF W op (toldF ps) (n + 1) l = prodF (sbF W op (toldF ps) n (l ++ [48])) (sbF W op (toldF ps) n (l ++ [49])) := by rw [uFs, if_pos c]
      generalize sbF W op (toldF ps) n (l ++ [48]) = A at i0 hU
      generalize sbF W op (toldF ps) n (l ++ [49]) = B at i1 hU
      have pos : ∀ {F : List (List Str)} {s : List Str}, (s ∈ F ∨ (s ≠ [] ∧ 2 ≤ fN F)) → 1 ≤ eN F + fN F := fun {F s} h => by
        rw [← ef_len]
        rcases h with h | h
        · exact List.length_pos_of_mem h
        · rw [ef_len]
          omega
      have p0 := pos i0
      have p1 := pos i1
      have ef := fN_prod A B
      rcases i0 with i0 | ⟨n0, i0⟩
      · rcases i1 with i1 | ⟨n1, i1⟩
        · rw [sb_u, hU]
          exact cap_mem (mem_filt.mpr ⟨mem_prod.mpr ⟨s0, i0, s1, i1, rfl⟩, c3⟩)
        · refine .inr (two (fun z => n1 (List.append_eq_nil_iff.mp z).2) ?_)
          rw [hU, ef]
          have : 1 * fN B ≤ (eN A + fN A) * fN B := Nat.mul_le_mul_right _ p0
          rw [Nat.add_mul] at this
          omega
      · refine .inr (two (fun z => n0 (List.append_eq_nil_iff.mp z).1) ?_)
        rw [hU, ef]
        have : fN A * 1 ≤ fN A * (eN B + fN B) := Nat.mul_le_mul_left _ p1
        rw [Nat.mul_add] at this
        omega
    · by_cases e : s = []
      · rw [sb_u, uFs, if_neg c]
        refine cap_mem (mem_filt.mpr ⟨?_, c3⟩)
        unfold unlF
        rw [if_neg (by omega), e]
        exact List.mem_cons_self
      · refine .inr (two e ?_)
        rw [uFs, if_neg c]
        unfold unlF
        rw [if_neg (by omega)]
        exact Nat.le_refl 2
theorem cap_nd {F : List (List Str)} (h : F.Nodup) : (capF F).Nodup := by
  unfold capF
  refine List.pairwise_append.mpr ⟨h.filter _, (h.filter _).sublist (List.take_sublist _ _), fun x hx y hy e => ?_⟩
  have a := (List.mem_filter.mp hx).2
  have b := (List.mem_filter.mp (List.mem_of_mem_take hy)).2
  rw [e] at a
  rw [a] at b
  cases b
theorem sb_nd (hps : ∀ q ∈ ps, Bits q.1 ∧ q.1.length < W) (ho : ∀ y, op y = true ↔ OpenS ps y) : ∀ (n : Nat) (l : List Nat), l.length + n = W → Bits l → (sbF W op (toldF ps) n l).Nodup
  | 0, l, hn, hb => by
    rw [sb_u, uF0]
    refine cap_nd (List.Pairwise.filter _ ?_)
    unfold unlF
    rw [if_pos (by omega)]
    simp
  | n + 1, l, hn, hb => by
    rw [sb_u, uFs]
    have ll : ∀ c : Nat, (l ++ [c]).length + n = W := fun c => by rw [List.length_append, List.length_singleton]; omega
    refine cap_nd (List.Pairwise.filter _ ?_)
    by_cases c : op (S l) = true
    · rw [if_pos c]
      have n0 := sb_nd hps ho n (l ++ [48]) (ll 48) (bits_snoc hb (.inl rfl))
      have n1 := sb_nd hps ho n (l ++ [49]) (ll 49) (bits_snoc hb (.inr rfl))
      have s0 := sb_sound hps ho n (l ++ [48]) (ll 48) (bits_snoc hb (.inl rfl))
      have s1 := sb_sound hps ho n (l ++ [49]) (ll 49) (bits_snoc hb (.inr rfl))
      have un : ∀ a ∈ sbF W op (toldF ps) n (l ++ [48]), ∀ b ∈ sbF W op (toldF ps) n (l ++ [49]), (a ++ b).filter (starts (l ++ [48])) = a ∧ (a ++ b).filter (starts (l ++ [49])) = b := fun a ha b hb => by
        have ba := (s0 a ha).1.1
        have bb := (s1 b hb).1.1
        rw [List.filter_append, List.filter_append, flt_all (m := l) (fun x hx => (ba x hx).st), flt_all (m := l) (fun x hx => (bb x hx).st)]
        rw [List.filter_eq_nil_iff.mpr fun x hx z => starts_two z (bb x hx).st, List.filter_eq_nil_iff.mpr fun x hx z => starts_two (ba x hx).st z]
        exact ⟨List.append_nil _, rfl⟩
      unfold prodF
      refine List.pairwise_flatMap.mpr ⟨fun a ha => ?_, ?_⟩
      · exact List.Pairwise.map _ (fun x y h => fun e => h (List.append_cancel_left e)) n1
      · refine n0.imp_of_mem fun {a b} ha hb hab x hx y hy e => ?_
        obtain ⟨u, hu, rfl⟩ := List.mem_map.mp hx
        obtain ⟨v, hv, rfl⟩ := List.mem_map.mp hy
        have e1 := (un a ha u hu).1
        have e2 := (un b hb v hv).1
        rw [e, e2] at e1
        exact hab e1.symm
    · rw [if_neg c]
      unfold unlF
      rw [if_neg (by omega)]
      have ne : ∀ k : Nat, 0 < k → S (l ++ List.replicate k 48) ≠ S (l ++ List.replicate k 49) := fun k hk e => by
        have := List.append_cancel_left (S_inj e)
        cases k with
        | zero => omega
        | succ k => simp [List.replicate_succ] at this
      have := ne (W - l.length) (by omega)
      simp [this]
def Top (ps : List Lk) (W : Nat) (s : List Str) : Prop := (∀ x ∈ s, Num W x) ∧ (∀ q ∈ ps, Tl s q) ∧ RL s
theorem told_nil : toldF ps (S []) = [] := by
  unfold toldF
  rw [List.flatMap_eq_nil_iff]
  intro q _
  unfold tol1
  rw [if_neg (fun e => by have := S_inj e; simp at this), if_neg (fun e => by have := S_inj e; simp at this)]
  rfl
theorem Top.cn {s : List Str} (h : Top ps W s) : Cn ps W [] s := ⟨fun x hx => Beg.of (h.1 x hx) (decide_eq_true rfl), fun q hq _ => h.2.1 q hq, fun t ht => by rw [told_nil] at ht; cases ht⟩
theorem Cn.top {s : List Str} (h : Cn ps W [] s) (r : RL s) : Top ps W s := ⟨fun x hx => (h.1 x hx).num, fun q hq => h.2.1 q hq (decide_eq_true rfl), r⟩
/-- just one -/
theorem shown_one (hps : ∀ q ∈ ps, Bits q.1 ∧ q.1.length < W) (ho : ∀ y, op y = true ↔ OpenS ps y) {s : List Str} (h : Top ps W s) (u : ∀ t, Top ps W t → t = s) : sbF W op (toldF ps) W [] = [s] := by
  have nd := sb_nd hps ho W [] (by simp) (fun c hc => absurd hc (by simp))
  have so : ∀ t ∈ sbF W op (toldF ps) W [], t = s := fun t ht => by
    have := sb_sound hps ho W [] (by simp) (fun c hc => absurd hc (by simp)) t ht
    exact u t (this.1.top this.2)
  have co := sb_comp hps ho W [] (by simp) s h.cn h.2.2
  have l1 : (sbF W op (toldF ps) W []).length ≤ 1 := by
    generalize sbF W op (toldF ps) W [] = F at nd so
    match F, nd, so with
    | [], _, _ => exact Nat.zero_le _
    | [x], _, _ => exact Nat.le_refl _
    | x :: y :: r, nd, so =>
      have := (List.pairwise_cons.mp nd).1 y (by simp)
      exact (this (by rw [so x (by simp), so y (by simp)])).elim
  rcases co with c | ⟨_, c⟩
  · generalize sbF W op (toldF ps) W [] = F at l1 so c
    match F, l1, so, c with
    | [x], _, so, _ => rw [so x (by simp)]
  · have := ef_len (sbF W op (toldF ps) W [])
    omega
/-- several -/
theorem shown_more (hps : ∀ q ∈ ps, Bits q.1 ∧ q.1.length < W) (ho : ∀ y, op y = true ↔ OpenS ps y) {s t : List Str} (h : Top ps W s) (g : Top ps W t) (ne : s ≠ t) : 2 ≤ (sbF W op (toldF ps) W []).length := by
  have c1 := sb_comp hps ho W [] (by simp) s h.cn h.2.2
  have c2 := sb_comp hps ho W [] (by simp) t g.cn g.2.2
  have e := ef_len (sbF W op (toldF ps) W [])
  generalize sbF W op (toldF ps) W [] = F at c1 c2 e
  rcases c1 with c1 | ⟨_, c1⟩
  · rcases c2 with c2 | ⟨_, c2⟩
    · match F, c1, c2 with
      | [], c1, _ => cases c1
      | [x], c1, c2 => exact (ne (by rw [List.mem_singleton.mp c1, List.mem_singleton.mp c2])).elim
      | x :: y :: r, _, _ => exact Nat.le_add_left 2 _
    · omega
  · omega
/-- not so -/
theorem shown_not (hps : ∀ q ∈ ps, Bits q.1 ∧ q.1.length < W) (ho : ∀ y, op y = true ↔ OpenS ps y) {s : List Str} (h : ¬ Top ps W s) : sbF W op (toldF ps) W [] ≠ [s] := fun e => by
  have := sb_sound hps ho W [] (by simp) (fun c hc => absurd hc (by simp)) s (by rw [e]; exact List.mem_singleton.mpr rfl)
  exact h (this.1.top this.2)
end
end B

set_option Elab.async false
set_option linter.all false
set_option maxRecDepth 100000
set_option maxHeartbeats 4000000
namespace B
open PySem PySem.Spec PyProof.Rows L2
open SX (S)
theorem for_enum {K : PySem.W.Frag} {a : Addr} {xs : List V} {g : TG} {tb : TS} {D : Ends} {σ : L2.St} {H : Hp} (Pv : Nat → L2.St → Hp → Prop) (h0 : Pv 0 σ H) (hL : ∀ (i : Nat) (σ : L2.St) (H : Hp), i ≤ xs.length → Pv i σ H → SqL K H a xs)
    (hs : ∀ (i : Nat) (x : V) (T : Addr) (σ : L2.St) (H : Hp), xs[i]? = some x → Pv i σ H → H T = none → g (.ref T) σ (upd H T (.tup [.int i, x])) fun σ2 H2 => tb { nx := Pv (i + 1), rt := D.rt, bk := D.nx, ct := Pv (i + 1) } σ2 H2)
    (hd : ∀ (σ : L2.St) (H : Hp), Pv xs.length σ H → D.nx σ H) : ∃ W : Nat → Nat → L2.St → Hp → Prop, (∃ m, W 0 m σ H) ∧ ∀ (i m : Nat) (σ : L2.St) (H : Hp), W i m σ H →
      (Ite K a).stop i H ∧ D.nx σ H ∨ (Ite K a).go i H ∧ ∃ N : L2.St → Hp → Prop, (∀ (σ' : L2.St) (H' : Hp), N σ' H' → ∃ m', m' < m ∧ W (i + 1) m' σ' H') ∧
        ∀ (x : V) (H' : Hp), (Ite K a).yld i H x H' → g x σ H' fun σ2 H2 => tb { nx := N, rt := D.rt, bk := D.nx, ct := N } σ2 H2 := by
  refine ⟨fun i m σ H => i + m = xs.length ∧ Pv i σ H, ⟨xs.length, by omega, h0⟩, fun i m σ H ⟨e, p⟩ => ?_⟩
  have L := hL i σ H (by omega) p
  rcases Nat.lt_or_ge i xs.length with h | h
  · refine .inr ⟨⟨xs, xs[i], L, List.getElem?_eq_getElem h⟩, Pv (i + 1), fun σ' H' p' => ⟨m - 1, by omega, by omega, p'⟩, fun x H' ⟨T, y, e1, e2, e3, e4⟩ => ?_⟩
    subst e1 e3
    exact hs i y T σ H (e4 xs L) p e2
  · obtain rfl : i = xs.length := by omega
    exact .inl ⟨⟨xs, L, Nat.le_refl _⟩, hd _ _ p⟩
section
variable {P : Program} {w : World} {K : PySem.W.Frag} {mg : Str → Option Value} {base : Heap}
theorem LZ.keepT {H H' : Hp} {p : Addr} {zs : List (Addr × Lk)} (h : LZ H p zs) (f : FrT K [] H H') : LZ H' p zs := ⟨f.k _ _ h.1 rfl (by simp), fun z hz => f.k _ _ (h.2 z hz) rfl (by simp)⟩
def spIsBeg (K : PySem.W.Frag) : Sp := fun vs H Q _ => ∃ (W : Nat) (l : List Nat), vs = [.int W, .str (S l)] ∧ Bits l ∧ l.length < W ∧ W ≤ 12 ∧ Tb K H ∧ ∀ H', FrT K [] H H' → Q (.bl true) H'
theorem c_is_beginning (T : Txt P w K mg base) : CalX CX0 P w K mg base 2 "is_beginning" (spIsBeg K) := by
  obtain ⟨fd, F⟩ := T.t.def_ 3 (d := d_is_beginning)
  refine ⟨_, fd, _, F.ok sc_is_beginning (fun vs H Q E h => ?_) (fun cdv A outer s H vs Q E hr h => ?_), He.glo_ok T.X T.G (T.t.fact 3), F.kp, F.bindsN fun _ _ _ _ _ _ us hl => match us, hl with | [_, _], _ => rfl⟩
  · obtain ⟨W, l, rfl, _⟩ := h
    rfl
  · obtain ⟨W, l, rfl, hb, hl, hW, ht, k⟩ := h
    refine ⟨_, PSs.nox (pss_one (ps_ret (pe_and (pe_callB call_isi (by rfl) (n_isinstance T) (by decide +kernel) (pa_cons (pv 1) (pa_cons (pe_bltn (v := .ty "str") (u := .type "str") rfl (n_str T) (by decide +kernel) rfl) pa_nil))) (pe_and (pe_cmpR op_lt (pe_callB call_len_str (by rfl) (n_len T) PySem.boot_len (pa_cons (pv 1) pa_nil)) (pv 0) (nomark _)) (pe_one (pe_cx (c_is_number T) hr (by decide) rfl pass0 (pa_cons (pe_callB call_len_str (by rfl) (n_len T) PySem.boot_len (pa_cons (pv 1) pa_nil)) (pa_cons (pv 1) pa_nil)))))))), ?_⟩
    refine ⟨_, rfl, .str (S l), .ty "str", .type "str", .type "str", true, rfl, .ty "str", .base (.str (S l)), kit_ty (by decide +kernel), true, rfl, ?_⟩
    refine ⟨_, rfl, S l, rfl, len12 (by omega), _, rfl, _, _, rfl, rfl, ?_⟩
    refine ⟨_, rfl, ?_⟩
    rw [SX.S_len, decide_eq_true (show (l.length : Int) < (W : Int) by omega)]
    refine ⟨_, rfl, S l, rfl, len12 (by omega), ?_⟩
    rw [SX.S_len]
    exact ⟨_, rfl, l.length, S l, rfl, ⟨l, rfl, rfl, hb⟩, by omega, ht, fun H' f => k H' f⟩
def spIsLook (K : PySem.W.Frag) : Sp := fun vs H Q _ => ∃ (W : Nat) (t : Addr) (q : Lk), vs = [.int W, .ref t] ∧ H t = some (.tup [txV q.1, .bl q.2.1, .bl q.2.2]) ∧ Bits q.1 ∧ q.1.length < W ∧ W ≤ 12 ∧ Tb K H ∧ ∀ H', FrT K [] H H' → Q (.bl true) H'
theorem c_is_look (T : Txt P w K mg base) : CalX CX0 P w K mg base 3 "is_look" (spIsLook K) := by
  obtain ⟨fd, F⟩ := T.t.def_ 6 (d := d_is_look)
  refine ⟨_, fd, _, F.ok sc_is_look (fun vs H Q E h => ?_) (fun cdv A outer s H vs Q E hr h => ?_), He.glo_ok T.X T.G (T.t.fact 6), F.kp, F.bindsN fun _ _ _ _ _ _ us hl => match us, hl with | [_, _], _ => rfl⟩
  · obtain ⟨W, t, q, rfl, _⟩ := h
    rfl
  · obtain ⟨W, t, ⟨l, a, b⟩, rfl, h1, hb, hl, hW, ht, k⟩ := h
    refine ⟨_, PSs.nox (pss_cons (ps_if (pt_cmpR op_ne (pe_callB call_len_seq (by rfl) (n_len T) PySem.boot_len (pa_cons (pv 1) pa_nil)) pe_int (nomark _))
      (pss_one (ps_ret pe_bl))
      pss_nil)
    (pss_cons (ps_asg (pv 1) (pg_tup rfl (pgs_cons (pg_name (i := 2) sc_is_look.nd rfl (Or.inl rfl)) (pgs_cons (pg_name (i := 3) sc_is_look.nd rfl (Or.inl rfl)) (pgs_cons (pg_name (i := 4) sc_is_look.nd rfl (Or.inl rfl)) pgs_nil)))))
    (pss_one (ps_ret (pe_and (pe_cx (c_is_beginning T) hr (by decide) rfl pass0 (pa_cons (pv 0) (pa_cons (pv 2) pa_nil))) (pe_and (pe_callB call_isi (by rfl) (n_isinstance T) (by decide +kernel) (pa_cons (pv 3) (pa_cons (pe_bltn (v := .ty "bool") (u := .type "bool") rfl (n_bool T) (by decide +kernel) rfl) pa_nil))) (pe_one (pe_callB call_isi (by rfl) (n_isinstance T) (by decide +kernel) (pa_cons (pv 4) (pa_cons (pe_bltn (v := .ty "bool") (u := .type "bool") rfl (n_bool T) (by decide +kernel) rfl) pa_nil)))))))))), ?_⟩
    refine ⟨_, rfl, t, _, rfl, .inr (SqT.of h1), rfl, _, rfl, ?_⟩
    refine ⟨_, rfl, t, _, rfl, SqT.of h1, rfl, _, _, rfl, _, _, rfl, _, _, rfl, rfl, ?_⟩
    refine ⟨_, rfl, _, rfl, W, l, rfl, hb, hl, hW, ht, fun H2 f2 => ⟨true, rfl, ?_⟩⟩
    refine ⟨_, rfl, .bl a, .ty "bool", .type "bool", .type "bool", true, rfl, .ty "bool", .base (.bl a), kit_ty (by decide +kernel), true, rfl, ?_⟩
    refine ⟨_, rfl, .bl b, .ty "bool", .type "bool", .type "bool", true, rfl, .ty "bool", .base (.bl b), kit_ty (by decide +kernel), ?_⟩
    exact k H2 f2
def spReqLooks (K : PySem.W.Frag) : Sp := fun vs H Q _ => ∃ (W : Nat) (p : Addr) (zs : List (Addr × Lk)), vs = [.int W, .ref p] ∧ LZ H p zs ∧ zs.length ≤ 100 ∧ (∀ z ∈ zs, Bits z.2.1 ∧ z.2.1.length < W) ∧ W ≤ 12 ∧ Tb K H ∧ ∀ H', FrT K [] H H' → Q .non H'
theorem c_require_looks (T : Txt P w K mg base) : CalX CX0 P w K mg base 4 "require_looks" (spReqLooks K) := by
  obtain ⟨fd, F⟩ := T.t.def_ 5 (d := d_require_looks)
  refine ⟨_, fd, _, F.ok sc_require_looks (fun vs H Q E h => ?_) (fun cdv A outer s H vs Q E hr h => ?_), He.glo_ok T.X T.G (T.t.fact 5), F.kp, F.bindsN fun _ _ _ _ _ _ us hl => match us, hl with | [_, _], _ => rfl⟩
  · obtain ⟨W, p, zs, rfl, _⟩ := h
    rfl
  · obtain ⟨W, p, zs, rfl, lz, hl, hb, hW, ht, k⟩ := h
    refine ⟨_, PSs.nox (pss_one (ps_for PassesOwn.never rfl (pi_enum (by rfl) (n_enumerate T) (pa_cons (pv 1) pa_nil)) (pg_tup rfl (pgs_cons (pg_name (i := 2) sc_require_looks.nd rfl (Or.inl rfl)) (pgs_cons (pg_name (i := 3) sc_require_looks.nd rfl (Or.inl rfl)) pgs_nil)))
      (pss_one (ps_if (PW.pt (pw_or (pt_cmpR op_eq (pv 2) (g_MOST_LOOKS T) (nomark _)) (pw_or1 (pt_not (pt_val (pe_cx (c_is_look T) hr (by decide) rfl pass0 (pa_cons (pv 0) (pa_cons (pv 3) pa_nil))))))))
        (pss_one ps_never)
        pss_nil)))), ?_⟩
    refine ⟨_, rfl, p, _, rfl, SqL.of lz.1, for_enum (K := K) (a := p) (xs := zs.map fun z => V.ref z.1) (fun j σ H' => ∃ (v2 v3 : Option V), σ = [some (.int W), some (.ref p), v2, v3] ∧ Tb K H' ∧ FrT K [] H H')
      ⟨_, _, rfl, ht, FrT.refl _ _ _⟩ (fun j σ H' _ ⟨_, _, _, _, f⟩ => SqL.of (lz.keepT f).1) ?_ ?_⟩
    · rintro j y T σ H7 hj ⟨v2, v3, rfl, ht7, f7⟩ hT
      obtain ⟨z, hz, rfl⟩ := at_z hj
      have hj2 := (List.getElem?_eq_some_iff.mp hz).1
      have hm := List.mem_of_getElem? hz
      have g8 : Frm [] H7 (upd H7 T (.tup [.int j, .ref z.1])) := Frm.of (same_upd hT)
      have e8 : (upd H7 T (.tup [.int j, .ref z.1])) T = some (.tup [.int j, .ref z.1]) := upd_same
      have f8 := f7.trans (g8.toT .nil)
      have ht8 := (g8.toT (K := K) .nil).t ht7
      refine ⟨T, _, rfl, SqT.of e8, rfl, _, _, rfl, _, _, rfl, rfl, ?_⟩
      refine ⟨_, rfl, rfl, _, rfl, ?_⟩
      rw [int_dec, decide_eq_false (show ¬ ((j : Int) = 100) by omega)]
      refine ⟨_, rfl, _, rfl, W, z.1, z.2, rfl, g8.k _ _ (f7.k _ _ (lz.2 z hm) rfl (by simp)) rfl (by simp), (hb z hm).1, (hb z hm).2, hW, ht8, fun H9 f9 => ⟨true, rfl, ?_⟩⟩
      exact ⟨_, _, rfl, f9.t ht8, f8.trans f9⟩
    · rintro σ H7 ⟨v2, v3, rfl, _, f7⟩
      exact k _ f7
def dueF (W : Nat) (qs : List Lk) (H : Hp) (t : Addr) : Prop := ((waysG W qs []).1 + (waysG W qs []).2 = 0 ∧ H t = some (.tup [.str "none"])) ∨ ((waysG W qs []).1 + (waysG W qs []).2 = 1 ∧ ∃ q, H t = some (.tup [.str "one", .ref q]) ∧ H q = some (.lst ((if (waysG W qs []).2 = 1 then thoseG W qs [] else []).map V.str))) ∨ (2 ≤ (waysG W qs []).1 + (waysG W qs []).2 ∧ H t = some (.tup [.str "more"]))
def spShown (K : PySem.W.Frag) : Sp := fun vs H Q _ => ∃ (W : Nat) (p : Addr) (zs : List (Addr × Lk)), vs = [.int W, .ref p] ∧ LZ H p zs ∧ zs.length ≤ 100 ∧ (∀ z ∈ zs, Bits z.2.1 ∧ z.2.1.length < W) ∧ 1 ≤ W ∧ W ≤ 12 ∧ Tb K H ∧ ∀ (t : Addr) (H' : Hp), FrT K [] H H' → dueF W (zs.map (·.2)) H' t → Q (.ref t) H'
theorem told_len {ps : List Lk} (y : Str) : (toldF ps y).length ≤ ps.length * 2 := by
  unfold toldF
  induction ps with
  | nil => exact Nat.le_refl 0
  | cons q r ih =>
    rw [List.flatMap_cons, List.length_append, List.length_cons]
    have : (tol1 q y).length ≤ 2 := by
      unfold tol1
      split <;> split <;> simp
    omega
theorem c_shown (T : Txt P w K mg base) : CalX CX0 P w K mg base 15 "shown" (spShown K) := by
  obtain ⟨fd, F⟩ := T.t.def_ 7 (d := d_shown)
  refine ⟨_, fd, _, F.ok sc_shown (fun vs H Q E h => ?_) (fun cdv A outer s H vs Q E hr h => ?_), He.glo_ok T.X T.G (T.t.fact 7), F.kp, F.bindsN fun _ _ _ _ _ _ us hl => match us, hl with | [_, _], _ => rfl⟩
  · obtain ⟨W, p, zs, rfl, _⟩ := h
    rfl
  · obtain ⟨W, p, zs, rfl, lz, hl, hb, h1, hW, ht, k⟩ := h
    have hk : 2 + W ≤ 14 := by omega
    refine ⟨_, PSs.nox (pss_cons (ps_expr (pe_cx (c_require_width T) hr (by decide) rfl pass0 (pa_cons (pv 0) pa_nil)))
    (pss_cons (ps_expr (pe_cx (c_require_looks T) hr (by decide) rfl pass0 (pa_cons (pv 0) (pa_cons (pv 1) pa_nil))))
    (pss_cons (ps_set (i := 2) sc_shown.nd rfl (Or.inl rfl) (pe_cx (sb_all T W) hr hk rfl pass0 (pa_cons (pv 0) (pa_cons (pe_cx (c_opened_by T) hr (by decide) rfl pass0 (pa_cons (pv 1) pa_nil)) (pa_cons (pe_cx (c_told_by T) hr (by decide) rfl pass0 (pa_cons (pv 1) pa_nil)) (pa_cons pe_str pa_nil))))))
    (pss_cons (ps_if (pt_not (pt_truth (pv 2) (by intro _; rfl)))
      (pss_one (ps_ret (pe_tup (pa_cons pe_str pa_nil))))
      pss_nil)
    (pss_cons (ps_if (pt_cmpR op_eq (pe_callB call_len_seq (by rfl) (n_len T) PySem.boot_len (pa_cons (pv 2) pa_nil)) pe_int (nomark _))
      (pss_one (ps_ret (pe_tup (pa_cons pe_str (pa_cons (pe_ix ix_list (pv 2) pe_int (fun _ _ => rfl)) pa_nil)))))
      pss_nil)
    (pss_one (ps_ret (pe_tup (pa_cons pe_str pa_nil))))))))), ?_⟩
    refine ⟨_, rfl, W, rfl, h1, hW, ?_⟩
    refine ⟨_, rfl, _, rfl, W, p, zs, rfl, lz, hl, hb, hW, ht, fun H2 f2 => ?_⟩
    have lz2 := lz.keepT f2
    have hl12 : ∀ q ∈ zs.map (·.2), q.1.length ≤ 12 := fun q hq => by
      obtain ⟨z, hz, rfl⟩ := List.mem_map.mp hq
      have := (hb z hz).2
      omega
    refine ⟨_, rfl, _, rfl, p, zs.map (·.2), rfl, lz2.pap, hl12, by rw [List.length_map]; omega, fun kvo D1 H3 ho hD1 eD1 f3 => ?_⟩
    have lz3 := lz2.keep f3
    refine ⟨_, rfl, p, zs.map (·.2), rfl, lz3.pap, hl12, by rw [List.length_map]; exact hl, fun D2 H4 hD2 td f4 => ?_⟩
    refine ⟨W, D1, D2, [], kvo, H3, _, rfl, by simp, hW, f4.k _ _ eD1 rfl (by simp), td, fun y hy => ?_, fun y => ?_, fun pS ws H5 hpS sz es f5 => ?_⟩
    · obtain ⟨q, hq, i, hi, e⟩ := (ho _).mp hy
      obtain ⟨z, hz, rfl⟩ := List.mem_map.mp hq
      have := (hb z hz).2
      rw [S_inj e, List.length_take]
      omega
    · have := told_len (ps := zs.map (·.2)) y
      rw [List.length_map] at this
      omega
    have si := shown_is (W := W) ho
    have f05 : FrT K [] H H5 := f2.trans (((f3.trans f4).trans f5).toT .nil)
    have wl : ws.length = (waysG W (zs.map (·.2)) []).1 + (waysG W (zs.map (·.2)) []).2 := by
      rw [← si.1, ← es, List.length_map]
    have fin : ∀ (t : Addr) (o : HO), H5 t = none → FrT K [] H (upd H5 t o) := fun t o ht => f05.trans ((Frm.of (same_upd ht)).toT .nil)
    refine ⟨_, rfl, _, .inl ⟨_, SqL.of sz.1, rfl⟩, ?_⟩
    show if (!!(ws.map fun z => V.ref z.1).isEmpty) = true then _ else _
    rw [Bool.not_not, List.isEmpty_map]
    refine iteB (fun c => ?_) (fun c => ?_)
    · rw [List.isEmpty_iff] at c
      rw [c, List.length_nil] at wl
      exact ⟨by show 1 ≤ sizeLine; decide, fun t ht => k t _ (fin t _ ht) (.inl ⟨wl.symm, upd_same⟩)⟩
    have c' : 1 ≤ ws.length := by
      cases ws with
      | nil => cases c
      | cons a b => exact Nat.succ_le_succ (Nat.zero_le _)
    refine ⟨_, rfl, pS, _, rfl, .inl (SqL.of sz.1), rfl, _, rfl, ?_⟩
    rw [int_dec, List.length_map]
    refine iteB (fun c1 => ?_) (fun c1 => ?_)
    · have l1 : ws.length = 1 := by have := of_decide_eq_true c1; omega
      have l2 : (waysG W (zs.map (·.2)) []).1 + (waysG W (zs.map (·.2)) []).2 = 1 := by omega
      have sm := si.2 l2
      rw [← es] at sm
      match ws, sm, sz, l1 with
      | [z], sm, sz, _ =>
        have sm' : z.2 = _ := (List.cons.inj sm).1
        refine ⟨_, rfl, pS, _, 0, .ref z.1, rfl, rfl, SqL.of sz.1, rfl, by show 2 ≤ sizeLine; decide, fun t ht => k t _ (fin t _ ht) (.inr (.inl ⟨l2, z.1, upd_same, ?_⟩))⟩
        rw [← sm']
        exact same_upd ht _ _ (sz.2 z (by simp))
    · have l1 : ¬ ws.length = 1 := fun e => of_decide_eq_false c1 (by omega)
      exact ⟨by show 1 ≤ sizeLine; decide, fun t ht => k t _ (fin t _ ht) (.inr (.inr ⟨by omega, upd_same⟩))⟩
end
end B

set_option Elab.async false
set_option linter.all false
set_option maxRecDepth 100000
set_option maxHeartbeats 4000000
namespace B
open PySem PySem.Spec PyProof.Rows L2
open SX (S)
section
variable {P : Program} {w : World} {K : PySem.W.Frag} {mg : Str → Option Value} {base : Heap}
/-- two truths of numbers and a beginning, whichever -/
def spLook2 : Sp := fun vs H Q _ => ∃ (ml : Addr) (W : Nat) (l : List Nat) (xs : List Str), vs = [.ref ml, .str (S l)] ∧ H ml = some (.lst (xs.map V.str)) ∧ (∀ x ∈ xs, Num W x) ∧ l.length < W ∧ W ≤ 12 ∧
  ∀ (p : Addr) (a b : Bool) (H' : Hp), H p = none → H' p = some (.tup [.bl a, .bl b]) → Frm [] H H' → Q (.ref p) H'
theorem c_llook2 (T : Txt P w K mg base) : CalX CX0 P w K mg base 1 "_law_looked" spLook2 := by
  obtain ⟨fd, F⟩ := T.t.def_ 39 (d := d_llooked)
  refine ⟨_, fd, _, F.ok sc_llooked (fun vs H Q E h => ?_) (fun cdv A outer s H vs Q E hr h => ?_), He.glo_ok T.X T.G (T.t.fact 20), F.kp, F.bindsN fun _ _ _ _ _ _ us hl => match us, hl with | [_, _], _ => rfl⟩
  · obtain ⟨ml, W, l, xs, rfl, _⟩ := h
    rfl
  · obtain ⟨ml, W, l, xs, rfl, hm0, hb, hl, hW, k0⟩ := h
    refine ⟨_, PSs.nox (pss_cons (ps_asg (pe_tup (pa_cons pe_bl (pa_cons pe_bl pa_nil))) (pg_tup rfl (pgs_cons (pg_name (i := 2) sc_llooked.nd rfl (Or.inl rfl)) (pgs_cons (pg_name (i := 3) sc_llooked.nd rfl (Or.inl rfl)) pgs_nil))))
    (pss_cons (ps_for PassesOwn.never rfl (pi_list (pv 0)) (pg_name (i := 4) sc_llooked.nd rfl (Or.inl rfl))
      (pss_one (ps_if (pt_cmpR op_eq (pe_slice C8.sl_txt (pv 4) po_none (po_some (pe_callB call_len_str (by rfl) (n_len T) PySem.boot_len (pa_cons (pv 1) pa_nil)))) (pv 1) (nomark _))
        (pss_cons (ps_set (i := 2) sc_llooked.nd rfl (Or.inl rfl) (pe_or (pv 2) (pe_one (pe_cmpR op_eq (pe_ix ix_str (pv 4) (pe_callB call_len_str (by rfl) (n_len T) PySem.boot_len (pa_cons (pv 1) pa_nil)) (fun _ _ => rfl)) pe_str (nomark _)))))
        (pss_one (ps_set (i := 3) sc_llooked.nd rfl (Or.inl rfl) (pe_or (pv 3) (pe_one (pe_cmpR op_eq (pe_ix ix_str (pv 4) (pe_callB call_len_str (by rfl) (n_len T) PySem.boot_len (pa_cons (pv 1) pa_nil)) (fun _ _ => rfl)) pe_str (nomark _)))))))
        pss_nil)))
    (pss_one (ps_ret (pe_tup (pa_cons (pv 2) (pa_cons (pv 3) pa_nil))))))), ?_⟩
    refine ⟨by show 2 ≤ sizeLine; decide, fun t ht => ⟨t, _, rfl, SqT.of upd_same, rfl, _, _, rfl, _, _, rfl, rfl, ?_⟩⟩
    have hm : (upd H t (.tup [.bl false, .bl false])) ml = some (.lst (xs.map V.str)) := same_upd ht _ _ hm0
    have k : ∀ p a b, (upd H t (.tup [.bl false, .bl false])) p = none → Q (.ref p) (upd (upd H t (.tup [.bl false, .bl false])) p (.tup [.bl a, .bl b])) := fun p a b hp =>
      k0 p a b _ (upd_back hp) upd_same (((Frm.refl _ _).new ht).new (upd_back hp))
    generalize (upd H t (.tup [.bl false, .bl false])) = H at hm k ⊢
    refine ⟨_, rfl, ml, rfl, ⟨_, SqL.of hm⟩, for_list (K := K) (a := ml) (xs := xs.map V.str) (fun i σ H' => ∃ (a b : Bool) (v4 : Option V), σ = [some (.ref ml), some (.str (S l)), some (.bl a), some (.bl b), v4] ∧ H' = H)
      ⟨_, _, none, rfl, rfl⟩ (fun i σ H' _ ⟨_, _, _, _, e⟩ => by rw [e]; exact SqL.of hm) ?_ ?_⟩
    · rintro i y σ H' hi ⟨a, b, v4, rfl, eH⟩
      subst H'
      obtain ⟨x, hx, rfl⟩ := at_map hi
      have hxb := hb x (List.mem_of_getElem? hx)
      obtain ⟨c, hc, g1, g2⟩ := num_at hxb hl
      have ls : ((S l).length : Int) = (l.length : Int) := by rw [SX.S_len]
      have sl : (S l).length ≤ sizeLine := by rw [SX.S_len]; exact size12 (by omega)
      have sx : x.length ≤ sizeLine := by rw [num_len hxb]; exact size12 (by omega)
      rw [← ls] at g2
      refine ⟨_, rfl, _, rfl, S l, rfl, sl, _, rfl, x, rfl, sx, _, rfl, rfl, _, rfl, ?_⟩
      refine iteB (fun _ => ?_) (fun _ => ⟨_, _, _, rfl, rfl⟩)
      have two : ∀ z : Bool, tAsg (tOrV (tVar 3) (tOp rEq (tOp rIxS (tVar 4) (tCB (fun xs H Q => ∃ a, xs = [.str a] ∧ a.length ≤ sizeLine ∧ Q (.int a.length) H) (tCons (tVar 1) tNil))) (tC (.str "1")))) (gName 3)
          { nx := fun σ H' => ∃ (a b : Bool) (v4 : Option V), σ = [some (.ref ml), some (.str (S l)), some (.bl a), some (.bl b), v4] ∧ H' = H, rt := Q } [some (.ref ml), some (.str (S l)), some (.bl z), some (.bl b), some (.str x)] H := fun z => by
        refine ⟨_, rfl, _, rfl, iteB (fun b => ?_) (fun b => ?_)⟩
        · exact ⟨_, _, _, rfl, rfl⟩
        · refine ⟨_, rfl, _, rfl, S l, rfl, sl, x, _, c, rfl, rfl, sx, g2, rfl, ?_⟩
          exact ⟨_, _, _, rfl, rfl⟩
      refine ⟨_, rfl, _, rfl, iteB (fun b => ?_) (fun b => ?_)⟩
      · exact two _
      · refine ⟨_, rfl, _, rfl, S l, rfl, sl, x, _, c, rfl, rfl, sx, g2, rfl, ?_⟩
        exact two _
    · rintro σ H' ⟨a, b, v4, rfl, eH⟩
      subst H'
      exact ⟨_, rfl, _, rfl, by show 2 ≤ sizeLine; decide, fun p hp => k p a b hp⟩
end
end B

set_option Elab.async false
set_option linter.all false
set_option maxRecDepth 100000
set_option maxHeartbeats 4000000
namespace B
open PySem PySem.Spec PyProof.Rows L2
open SX (S)
/-! ### the paper of a walk, and the looks of it that are needed -/
def MetB (W : Nat) (xs : List Str) (l : List Nat) : Prop := l.length < W ∧ (l = [] ∨ ∃ x ∈ xs, starts l x = true)
theorem MetB.bits {W : Nat} {xs : List Str} {l : List Nat} (h : MetB W xs l) (hn : ∀ x ∈ xs, Num W x) : Bits l := by
  rcases h.2 with rfl | ⟨x, hx, e⟩
  · exact fun c hc => absurd hc (by simp)
  · obtain ⟨m, rfl, _, b⟩ := hn x hx
    rw [starts_S] at e
    rw [← of_decide_eq_true e]
    exact fun c hc => b c (List.mem_of_mem_take hc)
structure PapG (W : Nat) (xs : List Str) (ps : List Lk) : Prop where
  nd : (ps.map (·.1)).Nodup
  met : ∀ q ∈ ps, MetB W xs q.1
  tl : ∀ q ∈ ps, Tl xs q
  all : ∀ l, MetB W xs l → ∃ q ∈ ps, q.1 = l
def needL (W : Nat) (xs : List Str) (l : List Nat) : Bool := !(xs.any (starts (l ++ [48])) && xs.any (starts (l ++ [49]))) || decide (l.length + 1 = W)
theorem tl_said {W : Nat} {due lm : List Str} {l : List Nat} (h1 : ∀ x ∈ due, starts l x = true → x ∈ lm) (h2 : ∀ x ∈ lm, x ∈ due) (h3 : ∀ x ∈ lm, Beg W l x) : Tl due (l, lm.any (sg l.length 48), lm.any (sg l.length 49)) := by
  have e : ∀ c : Nat, lm.any (sg l.length c) = due.any (starts (l ++ [c])) := fun c => by
    rw [Bool.eq_iff_iff, List.any_eq_true, List.any_eq_true]
    constructor
    · rintro ⟨x, hx, z⟩
      exact ⟨x, h2 x hx, by rw [starts_snoc, z, (h3 x hx).st]; rfl⟩
    · rintro ⟨x, hx, z⟩
      refine ⟨x, h1 x hx (starts_app z), ?_⟩
      rw [starts_snoc, Bool.and_eq_true] at z
      exact z.1
  exact ⟨e 48, e 49⟩
theorem step_paper {W : Nat} {kvs : List (Str × Bool)} {lm : List Str} {lk : Int} {st : WkS} : (stepF W kvs lm lk st).1.1.paper = match st.sd with
    | none => st.paper
    | some l => st.paper ++ [(l, lm.any (sg l.length 48), lm.any (sg l.length 49))] := by
  obtain ⟨kd, rest, sd, found, paper⟩ := st
  cases sd with
  | none => exact over_tld.2.2.2
  | some l =>
    unfold stepF
    dsimp only
    split
    · rfl
    · rw [over_tld.2.2.2]
      split <;> rfl
theorem all_pq {W : Nat} {kvs : List (Str × Bool)} {names due : List Str} (hW : 1 ≤ W) (hd : ∀ x ∈ due, Num W x) (hk : kvs.length ≤ 41) (hkn : ∀ x ∈ kvs.map (·.1), x ∈ names) (hnn : ∀ x ∈ names, Num W x) :
    ∀ {n : Nat} {q : Q4} {b : Nat} {cl : List (List Nat)}, Wlk due due q.1 q.2.1 cl → InvQ names W q b → (∀ x, x ∈ lisB kvs (decide (q.1.kd = "all")) ↔ x ∈ due) → (∀ z ∈ q.1.paper, Tl due z) → ∀ z ∈ (allF W kvs n q).1.paper, Tl due z := by
  intro n
  induction n with
  | zero => exact fun {q b cl} h iv he p => p
  | succ n ih =>
    intro q b cl h iv he p
    by_cases hst : q.1.sd = none ∧ q.1.rest = []
    · rw [all_stop hst]
      exact p
    · rw [all_go hst]
      have hr : q.1.sd = none → q.1.rest ≠ [] := fun a b => hst ⟨a, b⟩
      obtain ⟨cl', w1, _⟩ := wlk_step (kvs := kvs) (lk := q.2.2.2) h iv.ok hr hW hd hd (fun x hx => (he x).mp hx) fun x hx => (he x).mpr hx
      have i1 := inv_step (kvs := kvs) iv hr hk hkn hnn
      refine ih (q := stepQ W kvs q) w1 i1.1 (fun x => by
        show x ∈ lisB kvs (decide ((stepF W kvs q.2.1 q.2.2.2 q.1).1.1.kd = "all")) ↔ _
        rw [step_kd]
        exact he x) ?_
      show ∀ z ∈ (stepF W kvs q.2.1 q.2.2.2 q.1).1.1.paper, Tl due z
      rw [step_paper]
      cases hs : q.1.sd with
      | none => exact p
      | some l =>
        intro z hz
        rcases List.mem_append.mp hz with c | c
        · exact p z c
        · rw [List.mem_singleton.mp c]
          exact tl_said (fun x hx e => h.tl l hs x hx e) h.le (iv.ok.said l hs).2.2.2
/-- a whole walk on a still wire: what it finds, and its paper -/
theorem all_pap {W : Nat} {kvs : List (Str × Bool)} {names due : List Str} {kd : Str} {lm : List Str} {sdm : Option (List Nat)} {lk : Int} (hW : 1 ≤ W) (hW2 : W ≤ 12) (hn : names ≠ []) (hl : names.length ≤ 41) (hd : ∀ x ∈ due, Num W x) (srt : sortedS due = true) (nd : due.Nodup) (hk : kvs.length ≤ 41) (hkn : ∀ x ∈ kvs.map (·.1), x ∈ names) (hnn : ∀ x ∈ names, Num W x)
    (he : ∀ x, x ∈ lisB kvs (decide (kd = "all")) ↔ x ∈ due) {R : Q4} (eR : R = allF W kvs (meas W ⟨kd, [[]], none, [], []⟩) (⟨kd, [[]], none, [], []⟩, lm, sdm, lk)) (h1 : R.1.sd = none) (h2 : R.1.rest = []) :
    R.1.found.map S = due ∧ PapG W due R.1.paper ∧ ∀ ys, MetL W due ys → ys.length = R.1.paper.length := by
  have hp : 0 < meas W ⟨kd, [[]], none, [], []⟩ := meas_pos (fun z => by cases z.2)
  obtain ⟨m0, hm0⟩ : ∃ m0, meas W ⟨kd, [[]], none, [], []⟩ = m0 + 1 := ⟨meas W ⟨kd, [[]], none, [], []⟩ - 1, by omega⟩
  rw [hm0, all_lm rfl (by simp)] at eR
  have i0 := (inv_new (kd := kd) hn hW2 hl).1
  have iv : InvQ names W (⟨kd, [[]], none, [], []⟩, [], none, lk) 1 := ⟨i0.ok, i0.cn, i0.sub, i0.beg, i0.len, i0.mz⟩
  have A := all_still (n := m0 + 1) (kvs := kvs) hW hd hk hkn hnn (q := (⟨kd, [[]], none, [], []⟩, [], none, lk)) wlk_new pap_new iv he
  have PQ := all_pq (n := m0 + 1) (kvs := kvs) hW hd hk hkn hnn (q := (⟨kd, [[]], none, [], []⟩, [], none, lk)) wlk_new iv he fun z hz => absurd hz (by simp)
  rw [← eR] at A PQ
  obtain ⟨⟨cl, wl⟩, pp, ⟨b, iv2⟩, l⟩ := A
  have ep : pend R.1 = [] := by
    obtain ⟨⟨k1, rest, sd, fo, pa⟩, R2⟩ := R
    dsimp only at h1 h2
    subst h1
    exact h2
  have df := due_end wl hd srt nd ep
  obtain ⟨q1, q2⟩ := pap_end wl pp hd srt nd ep
  refine ⟨df.symm, ⟨wl.pp, fun q hq => pp.pa q hq, PQ, fun l hl => ?_⟩, fun ys hy => ?_⟩
  · have hm : S l ∈ (R.1.paper.map (·.1)).map S := by
      refine (q2 _).mpr ?_
      rcases hl.2 with rfl | ⟨x, hx, e⟩
      · exact .inl empty_S.symm
      · exact .inr ⟨x, hx, l.length, hl.1, by rw [of_decide_eq_true e]⟩
    obtain ⟨m, hm, e⟩ := List.mem_map.mp hm
    obtain ⟨q, hq, rfl⟩ := List.mem_map.mp hm
    exact ⟨q, hq, S_inj e⟩
  · have pm := (List.perm_ext_iff_of_nodup q1 hy.nd).mpr fun y => (q2 y).trans (hy.mem y).symm
    have := pm.length_eq
    rw [List.length_map, List.length_map] at this
    exact this.symm
section
variable {W : Nat} {xs : List Str}
theorem take_next {W k : Nat} {m : List Nat} (hm : m.length = W) (hk : k < W) (hb : Bits m) : ∃ c, (c = 48 ∨ c = 49) ∧ m.take (k + 1) = m.take k ++ [c] := by
  have h : k < m.length := by omega
  exact ⟨m[k], hb _ (List.getElem_mem h), List.take_succ_eq_append_getElem h⟩
theorem Tl.at {s : List Str} {q : Lk} (h : Tl s q) {c : Nat} (hc : c = 48 ∨ c = 49) : (if c = 48 then q.2.1 else q.2.2) = s.any (starts (q.1 ++ [c])) := by
  rcases hc with rfl | rfl
  · exact h.1
  · exact h.2
theorem few_one {qs : List Lk} (hW : 1 ≤ W) (hx : ∀ x ∈ xs, Num W x) (rx : RL xs) (ht : ∀ q ∈ qs, Tl xs q) (hall : ∀ l, MetB W xs l → needL W xs l = true → ∃ q ∈ qs, q.1 = l) : Top qs W xs ∧ ∀ t, Top qs W t → t = xs := by
  refine ⟨⟨hx, ht, rx⟩, fun t tt => rl_eq tt.2.2 rx fun x => ⟨fun h => ?_, fun h => ?_⟩⟩
  · obtain ⟨m, rfl, hm, hb⟩ := tt.1 x h
    by_cases hin : S m ∈ xs
    · exact hin
    exfalso
    have key : ∀ k, k ≤ W → (k = 0 ∨ ∃ y ∈ xs, starts (m.take k) y = true) := by
      intro k
      induction k with
      | zero => exact fun _ => .inl rfl
      | succ k ih =>
        intro hk
        have pk := ih (by omega)
        obtain ⟨c, hc, e⟩ := take_next hm (show k < W by omega) hb
        have lk : (m.take k).length = k := by rw [List.length_take]; omega
        have mt : MetB W xs (m.take k) := ⟨by omega, pk.imp (fun z => by rw [z, List.take_zero]) id⟩
        cases hz : xs.any (starts (m.take k ++ [c])) with
        | true =>
          obtain ⟨y, hy, e2⟩ := List.any_eq_true.mp hz
          exact .inr ⟨y, hy, by rw [e]; exact e2⟩
        | false =>
          have nd : needL W xs (m.take k) = true := by
            unfold needL
            rcases hc with rfl | rfl
            · rw [hz]; rfl
            · rw [hz, Bool.and_false]; rfl
          obtain ⟨q, hq, eq⟩ := hall _ mt nd
          have a := (ht q hq).at hc
          have b := (tt.2.1 q hq).at hc
          rw [a, eq, hz] at b
          have : t.any (starts (m.take k ++ [c])) = true := List.any_eq_true.mpr ⟨S m, h, by rw [starts_S, ← e]; exact decide_eq_true (by rw [List.length_take, Nat.min_eq_left (by omega)])⟩
          rw [this] at b
          cases b
    rcases key W (Nat.le_refl W) with z | ⟨y, hy, e⟩
    · omega
    · rw [List.take_of_length_le (by omega)] at e
      exact hin (by rw [← starts_full e (hx y hy) hm]; exact hy)
  · obtain ⟨m, rfl, hm, hb⟩ := hx x h
    obtain ⟨c, hc, e⟩ := take_next hm (show W - 1 < W by omega) hb
    have lk : (m.take (W - 1)).length = W - 1 := by rw [List.length_take]; omega
    have mt : MetB W xs (m.take (W - 1)) := ⟨by omega, .inr ⟨S m, h, by rw [starts_S]; exact decide_eq_true (by rw [List.length_take, Nat.min_eq_left (by omega)])⟩⟩
    have em : m.take (W - 1) ++ [c] = m := by
      rw [← e, show W - 1 + 1 = W by omega, List.take_of_length_le (by omega)]
    obtain ⟨q, hq, eq⟩ := hall _ mt (by
      unfold needL
      rw [decide_eq_true (show (m.take (W - 1)).length + 1 = W by omega), Bool.or_true])
    have a := (ht q hq).at hc
    have b := (tt.2.1 q hq).at hc
    rw [a, eq, em, List.any_eq_true.mpr ⟨S m, h, starts_self⟩] at b
    obtain ⟨y, hy, z⟩ := List.any_eq_true.mp b.symm
    rw [← starts_full z (tt.1 y hy) hm]
    exact hy
/-- one more, in its place -/
def insS (x : Str) (s : List Str) : List Str := s.filter (fun y => !ltCps x.cps.toList y.cps.toList) ++ x :: s.filter (fun y => ltCps x.cps.toList y.cps.toList)
theorem ins_mem {x y : Str} {s : List Str} : y ∈ insS x s ↔ y = x ∨ y ∈ s := by
  unfold insS
  rw [List.mem_append, List.mem_cons, List.mem_filter, List.mem_filter]
  cases ltCps x.cps.toList y.cps.toList <;> simp [or_comm]
theorem ins_rl {x : Str} {s : List Str} (h : RL s) (hx : x ∉ s) : RL (insS x s) := by
  have lo : ∀ {y : Str}, (!ltCps x.cps.toList y.cps.toList) = true → leS y x := fun {y} e => leS_of (by simpa using e)
  have hi : ∀ {y : Str}, ltCps x.cps.toList y.cps.toList = true → leS x y := fun {y} e => by
    rw [ltCps_eq] at e
    exact List.le_of_lt (of_decide_eq_true e)
  refine ⟨?_, ?_⟩
  · refine List.pairwise_append.mpr ⟨h.1.filter _, List.pairwise_cons.mpr ⟨fun y hy => hi (List.mem_filter.mp hy).2, h.1.filter _⟩, fun a ha b hb => ?_⟩
    have la := lo (List.mem_filter.mp ha).2
    rcases List.mem_cons.mp hb with rfl | hb
    · exact la
    · exact leS_trans la (hi (List.mem_filter.mp hb).2)
  · refine List.pairwise_append.mpr ⟨h.2.filter _, List.pairwise_cons.mpr ⟨fun y hy e => hx (by rw [e]; exact (List.mem_filter.mp hy).1), h.2.filter _⟩, fun a ha b hb e => ?_⟩
    have ha' := List.mem_filter.mp ha
    rcases List.mem_cons.mp hb with rfl | hb
    · exact hx (by rw [← e]; exact ha'.1)
    · have hb' := (List.mem_filter.mp hb).2
      rw [← e] at hb'
      have := ha'.2
      rw [hb'] at this
      cases this
theorem any_ext {f : Str → Bool} {s t : List Str} (h1 : ∀ x ∈ s, f x = true → ∃ y ∈ t, f y = true) (h2 : ∀ x ∈ t, f x = true → ∃ y ∈ s, f y = true) : s.any f = t.any f := by
  rw [Bool.eq_iff_iff, List.any_eq_true, List.any_eq_true]
  exact ⟨fun ⟨x, a, b⟩ => h1 x a b, fun ⟨x, a, b⟩ => h2 x a b⟩
theorem few_min {rest : List Lk} {l : List Nat} (hx : ∀ x ∈ xs, Num W x) (rx : RL xs) (ht : ∀ q ∈ rest, Tl xs q) (hm : ∀ q ∈ rest, MetB W xs q.1 ∧ q.1 ≠ l) (hl : MetB W xs l) (nd : needL W xs l = true) : ∃ t, t ≠ xs ∧ Top rest W t := by
  have bl := hl.bits hx
  by_cases both : (xs.any (starts (l ++ [48])) && xs.any (starts (l ++ [49]))) = true
  · -- the last sign, both
    have eW : l.length + 1 = W := by
      unfold needL at nd
      rw [both] at nd
      simpa using nd
    rw [Bool.and_eq_true] at both
    have full : ∀ c : Nat, xs.any (starts (l ++ [c])) = true → S (l ++ [c]) ∈ xs := fun c h => by
      obtain ⟨y, hy, e⟩ := List.any_eq_true.mp h
      rw [← starts_full e (hx y hy) (by rw [List.length_append, List.length_singleton]; exact eW)]
      exact hy
    have i0 := full 48 both.1
    have i1 := full 49 both.2
    refine ⟨xs.filter (fun x => decide (x ≠ S (l ++ [49]))), fun e => ?_, fun x h => hx x (List.mem_filter.mp h).1, fun q hq => ?_, rx.flt _⟩
    · rw [← e] at i1
      exact of_decide_eq_true (List.mem_filter.mp i1).2 rfl
    · have same : ∀ c : Nat, (xs.filter (fun x => decide (x ≠ S (l ++ [49])))).any (starts (q.1 ++ [c])) = xs.any (starts (q.1 ++ [c])) := fun c => by
        refine any_ext (fun x h e => ⟨x, (List.mem_filter.mp h).1, e⟩) fun x h e => ?_
        by_cases z : x = S (l ++ [49])
        · rw [z, starts_S] at e
          have e' := of_decide_eq_true e
          rw [List.length_append, List.length_singleton] at e'
          obtain ⟨⟨hq1, _⟩, hq2⟩ := hm q hq
          by_cases c1 : q.1.length = l.length
          · exfalso
            rw [List.take_of_length_le (by rw [List.length_append, List.length_singleton]; omega)] at e'
            have := (List.append_inj e' c1.symm).1
            exact hq2 this.symm
          · rw [List.take_append_of_le_length (by omega)] at e'
            refine ⟨S (l ++ [48]), List.mem_filter.mpr ⟨i0, decide_eq_true fun w => ?_⟩, ?_⟩
            · have := List.append_cancel_left (S_inj w)
              simp at this
            · rw [starts_S]
              refine decide_eq_true ?_
              rw [List.length_append, List.length_singleton, List.take_append_of_le_length (by omega)]
              exact e'
        · exact ⟨x, List.mem_filter.mpr ⟨h, decide_eq_true z⟩, e⟩
      obtain ⟨a, b⟩ := ht q hq
      exact ⟨by rw [same]; exact a, by rw [same]; exact b⟩
  · -- a side that is empty
    obtain ⟨c, hc, no⟩ : ∃ c, (c = 48 ∨ c = 49) ∧ xs.any (starts (l ++ [c])) = false := by
      cases h0 : xs.any (starts (l ++ [48])) with
      | false => exact ⟨48, .inl rfl, h0⟩
      | true =>
        cases h1 : xs.any (starts (l ++ [49])) with
        | false => exact ⟨49, .inr rfl, h1⟩
        | true => exact (both (by rw [h0, h1]; rfl)).elim
    have bx := reps_beg (W := W) (l := l ++ [c]) (.inl rfl) (bits_snoc bl hc) (by rw [List.length_append, List.length_singleton]; have := hl.1; omega)
    generalize hx0 : S (l ++ [c] ++ List.replicate (W - (l ++ [c]).length) 48) = x0 at bx
    have nx : x0 ∉ xs := fun h => by
      have := List.any_eq_false.mp no x0 h
      exact this bx.st
    refine ⟨insS x0 xs, fun e => ?_, fun x h => ?_, fun q hq => ?_, ins_rl rx nx⟩
    · have : x0 ∈ insS x0 xs := ins_mem.mpr (.inl rfl)
      rw [e] at this
      exact nx this
    · rcases ins_mem.mp h with rfl | h
      · exact bx.num
      · exact hx x h
    · have same : ∀ d : Nat, (insS x0 xs).any (starts (q.1 ++ [d])) = xs.any (starts (q.1 ++ [d])) := fun d => by
        refine any_ext (fun x h e => ?_) fun x h e => ⟨x, ins_mem.mpr (.inr h), e⟩
        rcases ins_mem.mp h with rfl | h
        · obtain ⟨⟨hq1, hq3⟩, hq2⟩ := hm q hq
          have f := bx.st
          -- both begin it
          obtain ⟨m, rfl, hmW, _⟩ := bx.num
          rw [starts_S] at e f
          have e' := of_decide_eq_true e
          have f' := of_decide_eq_true f
          rw [List.length_append, List.length_singleton] at e' f'
          rcases Nat.lt_trichotomy q.1.length l.length with z | z | z
          · have e2 : l.take (q.1.length + 1) = q.1 ++ [d] := by
              have : (m.take (l.length + 1)).take (q.1.length + 1) = q.1 ++ [d] := by
                rw [List.take_take, Nat.min_eq_left (by omega)]
                exact e'
              rw [f', List.take_append_of_le_length (by omega)] at this
              exact this
            rcases hl.2 with w | ⟨y, hy, w⟩
            · rw [w] at z
              exact absurd z (Nat.not_lt_zero _)
            · refine ⟨y, hy, ?_⟩
              rw [← List.take_append_drop (q.1.length + 1) l, e2] at w
              exact starts_app w
          · exfalso
            have e2 : q.1 ++ [d] = l ++ [c] := by rw [← e', ← f', z]
            exact hq2 (List.append_inj e2 z).1
          · exfalso
            have e2 : q.1.take (l.length + 1) = l ++ [c] := by
              have : (m.take (q.1.length + 1)).take (l.length + 1) = l ++ [c] := by
                rw [List.take_take, Nat.min_eq_left (by omega)]
                exact f'
              rw [e', List.take_append_of_le_length (by omega)] at this
              exact this
            rcases hq3 with w | ⟨y, hy, w⟩
            · rw [w] at z
              exact absurd z (Nat.not_lt_zero _)
            · rw [← List.take_append_drop (l.length + 1) q.1, e2] at w
              exact List.any_eq_false.mp no y hy (starts_app w)
        · exact ⟨x, h, e⟩
      obtain ⟨a, b⟩ := ht q hq
      exact ⟨by rw [same]; exact a, by rw [same]; exact b⟩
end
end B

set_option Elab.async false
set_option linter.all false
set_option maxRecDepth 100000
set_option maxHeartbeats 4000000
namespace B
open PySem PySem.Spec PyProof.Rows L2
open SX (S)
theorem eqv_strsD : ∀ (a b : List Str), PyData.eqv (.list (a.map .str)) (.list (b.map .str)) = decide (a = b)
  | [], [] => rfl
  | [], _ :: _ => rfl
  | _ :: _, [] => rfl
  | x :: a, y :: b => by
    have ih := eqv_strsD a b
    show (decide (x = y) && PyData.eqvAll (a.map .str) (b.map .str)) = _
    have ih' : PyData.eqvAll (a.map .str) (b.map .str) = decide (a = b) := ih
    rw [ih']
    by_cases h : x = y
    · by_cases g : a = b
      · rw [h, g]; simp
      · simp [h, g]
    · simp [h]
def oneD (xs : List Str) : PyData := .tuple [.str "one", .list (xs.map .str)]
theorem eqv_one (a b : List Str) : PyData.eqv (oneD a) (oneD b) = decide (a = b) := by
  show (decide (("one" : Str) = "one") && (PyData.eqv (.list (a.map .str)) (.list (b.map .str)) && true)) = _
  rw [eqv_strsD, decide_eq_true rfl, Bool.true_and, Bool.and_true]
theorem shaped_one {xs : List Str} (h : ∀ x ∈ xs, PyData.strOk x = true) : SeqAt.shaped (oneD xs) = true := by
  have q := shaped_strs h
  have q' : ((PyData.list (xs.map .str)).canLay0 && decide ((PyData.list (xs.map .str)).depth ≤ 64)) = true := q
  rw [Bool.and_eq_true] at q'
  have e1 : (oneD xs).canLay0 = true := by
    show (PyData.strOk "one" && ((PyData.list (xs.map .str)).canLay0 && true)) = true
    rw [q'.1]
    decide +kernel
  have dp : ∀ ys : List Str, PyData.depthAll (ys.map .str) ≤ 1 := fun ys => by
    induction ys with
    | nil => exact Nat.zero_le _
    | cons y r ih =>
      show max (PyData.depth (.str y)) (PyData.depthAll (r.map .str)) ≤ 1
      have : PyData.depth (.str y) ≤ 1 := by simp [PyData.depth]
      omega
  have e2 : (oneD xs).depth ≤ 64 := by
    have d := dp xs
    simp only [oneD, PyData.depth, PyData.depthAll]
    omega
  show ((oneD xs).canLay0 && decide ((oneD xs).depth ≤ 64)) = true
  rw [e1, decide_eq_true e2]
  rfl
theorem dp_one {K : PySem.W.Frag} {H : Hp} {t q : Addr} {xs : List Str} (h : H t = some (.tup [.str "one", .ref q])) (g : H q = some (.lst (xs.map V.str))) : Dp K H (.ref t) (oneD xs) :=
  .tup (SqT.of h) (.cons (.str _) (.cons (.lst (SqL.of g) (dp_strs xs)) .nil))
theorem slice_starts {l m : List Nat} : decide (V.str (Txt.slice (S m) none (some ((S l).length : Int))) = V.str (S l)) = starts l (S m) := by
  rw [SX.S_len, SX.slice_to (by omega), Int.toNat_natCast, S_dec, starts_S]
section
variable {P : Program} {w : World} {K : PySem.W.Frag} {mg : Str → Option Value} {base : Heap}
/-- two truths of numbers and a beginning -/
def spLook3 : Sp := fun vs H Q _ => ∃ (ml : Addr) (W : Nat) (l : List Nat) (xs : List Str), vs = [.ref ml, .str (S l)] ∧ H ml = some (.lst (xs.map V.str)) ∧ (∀ x ∈ xs, Num W x) ∧ l.length < W ∧ W ≤ 12 ∧
  ∀ (p : Addr) (H' : Hp), H p = none → H' p = some (.tup [.bl (xs.any (starts (l ++ [48]))), .bl (xs.any (starts (l ++ [49])))]) → Frm [] H H' → Q (.ref p) H'
theorem c_llook3 (T : Txt P w K mg base) : CalX CX0 P w K mg base 1 "_law_looked" spLook3 := by
  obtain ⟨fd, F⟩ := T.t.def_ 39 (d := d_llooked)
  refine ⟨_, fd, _, F.ok sc_llooked (fun vs H Q E h => ?_) (fun cdv A outer s H vs Q E hr h => ?_), He.glo_ok T.X T.G (T.t.fact 20), F.kp, F.bindsN fun _ _ _ _ _ _ us hl => match us, hl with | [_, _], _ => rfl⟩
  · obtain ⟨ml, W, l, xs, rfl, _⟩ := h
    rfl
  · obtain ⟨ml, W, l, xs, rfl, hm0, hb, hl, hW, k0⟩ := h
    refine ⟨_, PSs.nox (pss_cons (ps_asg (pe_tup (pa_cons pe_bl (pa_cons pe_bl pa_nil))) (pg_tup rfl (pgs_cons (pg_name (i := 2) sc_llooked.nd rfl (Or.inl rfl)) (pgs_cons (pg_name (i := 3) sc_llooked.nd rfl (Or.inl rfl)) pgs_nil))))
    (pss_cons (ps_for PassesOwn.never rfl (pi_list (pv 0)) (pg_name (i := 4) sc_llooked.nd rfl (Or.inl rfl))
      (pss_one (ps_if (pt_cmpR op_eq (pe_slice C8.sl_txt (pv 4) po_none (po_some (pe_callB call_len_str (by rfl) (n_len T) PySem.boot_len (pa_cons (pv 1) pa_nil)))) (pv 1) (nomark _))
        (pss_cons (ps_set (i := 2) sc_llooked.nd rfl (Or.inl rfl) (pe_or (pv 2) (pe_one (pe_cmpR op_eq (pe_ix ix_str (pv 4) (pe_callB call_len_str (by rfl) (n_len T) PySem.boot_len (pa_cons (pv 1) pa_nil)) (fun _ _ => rfl)) pe_str (nomark _)))))
        (pss_one (ps_set (i := 3) sc_llooked.nd rfl (Or.inl rfl) (pe_or (pv 3) (pe_one (pe_cmpR op_eq (pe_ix ix_str (pv 4) (pe_callB call_len_str (by rfl) (n_len T) PySem.boot_len (pa_cons (pv 1) pa_nil)) (fun _ _ => rfl)) pe_str (nomark _)))))))
        pss_nil)))
    (pss_one (ps_ret (pe_tup (pa_cons (pv 2) (pa_cons (pv 3) pa_nil))))))), ?_⟩
    refine ⟨by show 2 ≤ sizeLine; decide, fun t ht => ⟨t, _, rfl, SqT.of upd_same, rfl, _, _, rfl, _, _, rfl, rfl, ?_⟩⟩
    have hm : (upd H t (.tup [.bl false, .bl false])) ml = some (.lst (xs.map V.str)) := same_upd ht _ _ hm0
    have k : ∀ p, (upd H t (.tup [.bl false, .bl false])) p = none → Q (.ref p) (upd (upd H t (.tup [.bl false, .bl false])) p (.tup [.bl (xs.any (starts (l ++ [48]))), .bl (xs.any (starts (l ++ [49])))])) := fun p hp =>
      k0 p _ (upd_back hp) upd_same (((Frm.refl _ _).new ht).new (upd_back hp))
    generalize (upd H t (.tup [.bl false, .bl false])) = H at hm k ⊢
    refine ⟨_, rfl, ml, rfl, ⟨_, SqL.of hm⟩, for_list (K := K) (a := ml) (xs := xs.map V.str) (fun i σ H' => ∃ (v4 : Option V), σ = [some (.ref ml), some (.str (S l)), some (.bl ((xs.take i).any (starts (l ++ [48])))), some (.bl ((xs.take i).any (starts (l ++ [49])))), v4] ∧ H' = H)
      ⟨none, rfl, rfl⟩ (fun i σ H' _ ⟨_, _, e⟩ => by rw [e]; exact SqL.of hm) ?_ ?_⟩
    · rintro i y σ H' hi ⟨v4, rfl, eH⟩
      subst H'
      obtain ⟨x, hx, rfl⟩ := at_map hi
      have hxb := hb x (List.mem_of_getElem? hx)
      obtain ⟨c, hc, g1, g2⟩ := num_at hxb hl
      have ls : ((S l).length : Int) = (l.length : Int) := by rw [SX.S_len]
      have sl : (S l).length ≤ sizeLine := by rw [SX.S_len]; exact size12 (by omega)
      have sx : x.length ≤ sizeLine := by rw [num_len hxb]; exact size12 (by omega)
      rw [← ls] at g2
      refine ⟨_, rfl, _, rfl, S l, rfl, sl, _, rfl, x, rfl, sx, _, rfl, rfl, _, rfl, ?_⟩
      have est : decide (V.str (Txt.slice x none (some ((S l).length : Int))) = V.str (S l)) = starts l x := by
        obtain ⟨m, rfl, _, _⟩ := hxb
        exact slice_starts
      rw [est]
      refine iteB (fun cs => ?_) (fun cs => ?_)
      · have step : ∀ d, (if ((xs.take i).any (starts (l ++ [d]))) = true then V.bl true else V.bl (decide (V.str ⟨#[c]⟩ = V.str (S [d])))) = V.bl ((xs.take (i + 1)).any (starts (l ++ [d]))) := fun d => by
          rw [any_step _ hx, starts_snoc, cs, Bool.and_true, sg_at g1, sign_dec]
          cases (xs.take i).any (starts (l ++ [d])) <;> rfl
        have s0 := step 48
        have s1 := step 49
        have two : ∀ z : V, z = V.bl ((xs.take (i + 1)).any (starts (l ++ [48]))) → tAsg (tOrV (tVar 3) (tOp rEq (tOp rIxS (tVar 4) (tCB (fun xs H Q => ∃ a, xs = [.str a] ∧ a.length ≤ sizeLine ∧ Q (.int a.length) H) (tCons (tVar 1) tNil))) (tC (.str "1")))) (gName 3)
            { nx := fun σ H' => ∃ v4, σ = [some (.ref ml), some (.str (S l)), some (.bl ((xs.take (i + 1)).any (starts (l ++ [48])))), some (.bl ((xs.take (i + 1)).any (starts (l ++ [49])))), v4] ∧ H' = H, rt := Q } [some (.ref ml), some (.str (S l)), some z, some (.bl ((xs.take i).any (starts (l ++ [49])))), some (.str x)] H := fun z ez => by
          subst ez
          refine ⟨_, rfl, _, rfl, iteB (fun b => ?_) (fun b => ?_)⟩
          · rw [b] at s1
            refine ⟨some (.str x), ?_, rfl⟩
            rw [← s1]
            rfl
          · rw [b, ← one_S] at s1
            refine ⟨_, rfl, _, rfl, S l, rfl, sl, x, _, c, rfl, rfl, sx, g2, rfl, ?_⟩
            refine ⟨some (.str x), ?_, rfl⟩
            rw [← s1]
            rfl
        refine ⟨_, rfl, _, rfl, iteB (fun b => ?_) (fun b => ?_)⟩
        · rw [b] at s0
          exact two _ s0
        · rw [b, ← zero_S] at s0
          refine ⟨_, rfl, _, rfl, S l, rfl, sl, x, _, c, rfl, rfl, sx, g2, rfl, ?_⟩
          exact two _ s0
      · have nost : ∀ d : Nat, (xs.take (i + 1)).any (starts (l ++ [d])) = (xs.take i).any (starts (l ++ [d])) := fun d => by
          rw [any_step _ hx, starts_snoc, cs, Bool.and_false, Bool.or_false]
        exact ⟨_, by rw [nost, nost]; rfl, rfl⟩
    · rintro σ H' ⟨v4, rfl, eH⟩
      subst H'
      rw [List.length_map, List.take_length]
      exact ⟨_, rfl, _, rfl, by show 2 ≤ sizeLine; decide, fun p hp => k p hp⟩
/-- a beginning that names meet -/
theorem met_lst {W : Nat} {xs : List Str} {y : Str} (hW : 1 ≤ W) (hn : ∀ x ∈ xs, Num W x) (h : MetS W xs y) : ∃ l, y = S l ∧ MetB W xs l := by
  rcases h with rfl | ⟨x, hx, i, hi, rfl⟩
  · exact ⟨[], rfl, hW, .inl rfl⟩
  · obtain ⟨m, rfl, hm, hb⟩ := hn x hx
    refine ⟨m.take i, by rw [S_list], by rw [List.length_take]; omega, .inr ⟨S m, hx, ?_⟩⟩
    rw [starts_S, List.length_take, Nat.min_eq_left (by omega)]
    exact decide_eq_true rfl
theorem lst_met {W : Nat} {xs : List Str} {l : List Nat} (h : MetB W xs l) : MetS W xs (S l) := by
  rcases h.2 with rfl | ⟨x, hx, e⟩
  · exact .inl rfl
  · exact .inr ⟨x, hx, l.length, h.1, by rw [of_decide_eq_true e]⟩
theorem need_eq {W : Nat} {xs : List Str} {kvs : List (Str × Bool)} {l : List Nat} (hn : ∀ x ∈ xs, Num W x) (hk : ∀ y, hasK kvs y = true ↔ ReaS W xs y) (hl : l.length < W) : needF W kvs (S l) = needL W xs l := by
  have e : ∀ c : Nat, hasK kvs (S (l ++ [c])) = xs.any (starts (l ++ [c])) := fun c => by
    rw [Bool.eq_iff_iff, hk, List.any_eq_true]
    constructor
    · rintro ⟨x, hx, i, hi, e⟩
      obtain ⟨m, rfl, hm, _⟩ := hn x hx
      rw [S_list] at e
      have e' := S_inj e
      refine ⟨S m, hx, ?_⟩
      rw [starts_S, e', List.length_take, Nat.min_eq_left (by omega)]
      exact decide_eq_true rfl
    · rintro ⟨x, hx, e⟩
      refine ⟨x, hx, (l ++ [c]).length, ?_, by rw [of_decide_eq_true e]⟩
      rw [List.length_append, List.length_singleton]
      omega
  unfold needF needL
  rw [zero_S, one_S, SX.S_cat, SX.S_cat, e, e, SX.S_len]
  congr 1
  rw [decide_eq_decide]
  omega
def fewL (W : Nat) (xs ys : List Str) : List Str := ys.filter fun y => needL W xs y.cps.toList
theorem few_eq {W : Nat} {xs ys : List Str} {kvs : List (Str × Bool)} (hW : 1 ≤ W) (hn : ∀ x ∈ xs, Num W x) (hk : ∀ y, hasK kvs y = true ↔ ReaS W xs y) (ml : MetL W xs ys) : ys.filter (needF W kvs) = fewL W xs ys := by
  unfold fewL
  refine List.filter_congr fun y hy => ?_
  obtain ⟨l, rfl, hl⟩ := met_lst hW hn ((ml.mem y).mp hy)
  rw [need_eq hn hk hl.1, S_list]
def spLfew (K : PySem.W.Frag) : Sp := fun vs H Q _ => ∃ (W : Nat) (p : Addr) (xs : List Str), vs = [.int W, .ref p] ∧ H p = some (.lst (xs.map V.str)) ∧ (∀ x ∈ xs, Num W x) ∧ 1 ≤ W ∧ W ≤ 12 ∧ xs.length ≤ 41 ∧ Tb K H ∧
  ∀ (ys : List Str) (q : Addr) (H' : Hp), MetL W xs ys → H q = none → H' q = some (.lst ((fewL W xs ys).map V.str)) → FrT K [] H H' → Q (.ref q) H'
theorem c_lfew (T : Txt P w K mg base) : CalX CX0 P w K mg base 2 "_law_few" (spLfew K) := by
  obtain ⟨fd, F⟩ := T.t.def_ 42 (d := d_lfew)
  refine ⟨_, fd, _, F.ok sc_lfew (fun vs H Q E h => ?_) (fun cdv A outer s H vs Q E hr h => ?_), He.glo_ok T.X T.G (T.t.fact 23), F.kp, F.bindsN fun _ _ _ _ _ _ us hl => match us, hl with | [_, _], _ => rfl⟩
  · obtain ⟨W, p, xs, rfl, _⟩ := h
    rfl
  · obtain ⟨W, p, xs, rfl, hp, hnum, w1, w2, hlen, ht, k⟩ := h
    have hu := hu_of hr
    refine ⟨_, PSs.nox (pss_cons (ps_set (i := 2) sc_lfew.nd rfl (Or.inl rfl) (pe_lst pa_nil))
    (pss_cons (ps_for PassesOwn.never rfl (pi_list (pe_cx (c_lmet T) hr (by decide) rfl pass0 (pa_cons (pv 0) (pa_cons (pv 1) pa_nil)))) (pg_name (i := 3) sc_lfew.nd rfl (Or.inl rfl))
      (pss_one (ps_if (PW.pt (pw_or (pt_cmpR op_eq (pe_callB call_len_str (by rfl) (n_len T) PySem.boot_len (pa_cons (pv 3) pa_nil)) (pe_op op_sub (pv 0) pe_int) (nomark _)) (pw_or1 (pt_cmpR (op_neD hr.units) (pe_cx (c_llook3 T) hr (by decide) rfl pass0 (pa_cons (pv 1) (pa_cons (pv 3) pa_nil))) (pe_tup (pa_cons pe_bl (pa_cons pe_bl pa_nil))) (nomark _)))))
        (pss_one (ps_expr (pe_bm PySem.F.plainAttrs_list PySem.F.slot_list_append PySem.F.type_list_append mt_append (pv 2) (pa_cons (pv 3) pa_nil))))
        pss_nil)))
    (pss_one (ps_ret (pv 2))))), ?_⟩
    refine ⟨Nat.zero_le _, fun D hD => ?_⟩
    have g1 : Frm [] H (upd H D (.lst [])) := Frm.of (same_upd hD)
    have d1 : (upd H D (.lst [])) D = some (.lst []) := upd_same
    have ht1 := (g1.toT (K := K) .nil).t ht
    have hp1 := g1.k _ _ hp rfl (by simp)
    refine ⟨_, rfl, _, rfl, W, p, xs, rfl, hp1, hnum, w1, w2, hlen, ht1, fun ys pY H2 ml hpY eY f2 => ?_⟩
    have d2 := f2.k _ _ d1 rfl (by simp)
    have hp2 := f2.k _ _ hp1 rfl (by simp)
    have yl : ys.length ≤ 500 := by
      have m1 := met_len ml
      have m2 : xs.length * W ≤ 41 * 12 := Nat.mul_le_mul hlen w2
      omega
    have nYD : pY ≠ D := fun e => by
      rw [e, d1] at hpY
      cases hpY
    have npD : p ≠ D := ne_of_none hp hD
    refine ⟨pY, rfl, ⟨_, SqL.of eY⟩, for_list (K := K) (a := pY) (xs := ys.map V.str) (fun i σ H' => ∃ v3, σ = [some (.int W), some (.ref p), some (.ref D), v3] ∧ H' D = some (.lst ((fewL W xs (ys.take i)).map V.str)) ∧ Frm [D] H2 H')
      ⟨none, rfl, d2, Frm.refl _ _⟩ (fun i σ H' _ ⟨_, _, _, f⟩ => SqL.of (f.k _ _ eY rfl (by simpa using nYD))) ?_ ?_⟩
    · rintro i y σ H3 hi ⟨v3, rfl, d3, f3⟩
      obtain ⟨y, hy, rfl⟩ := at_map hi
      obtain ⟨l, rfl, hl⟩ := met_lst w1 hnum ((ml.mem y).mp (List.mem_of_getElem? hy))
      have hp3 := f3.k _ _ hp2 rfl (by simpa using npD)
      have i500 := (List.getElem?_eq_some_iff.mp hy).1
      have go : needL W xs l = true → ∀ H4, Frm [D] H2 H4 → H4 D = some (.lst ((fewL W xs (ys.take i)).map V.str)) → ∃ (l' : Addr) (xs' : List V) (y' : V), V.ref D = .ref l' ∧ [V.str (S l)] = [y'] ∧ H4 l' = some (.lst xs') ∧ xs'.length < sizeLine ∧ (∃ v3 : Option V, [some (.int W), some (.ref p), some (.ref D), some (V.str (S l))] = [some (.int W), some (.ref p), some (.ref D), v3] ∧ (upd H4 l' (.lst (xs' ++ [y']))) D = some (.lst ((fewL W xs (ys.take (i + 1))).map V.str)) ∧ Frm [D] H2 (upd H4 l' (.lst (xs' ++ [y'])))) := fun c H4 f4 d4 => by
        refine ⟨D, _, _, rfl, rfl, d4, ?_, _, rfl, ?_, f4.put (by simp)⟩
        · rw [List.length_map]
          have := List.length_filter_le (fun y : Str => needL W xs y.cps.toList) (ys.take i)
          rw [List.length_take] at this
          exact small1000 (by unfold fewL; omega)
        · rw [upd_same]
          unfold fewL
          rw [filter_step _ hy, S_list, if_pos c, List.map_append]
          rfl
      have no : needL W xs l = false → ∀ H4, Frm [D] H2 H4 → H4 D = some (.lst ((fewL W xs (ys.take i)).map V.str)) → (∃ v3 : Option V, [some (.int W), some (.ref p), some (.ref D), some (V.str (S l))] = [some (.int W), some (.ref p), some (.ref D), v3] ∧ H4 D = some (.lst ((fewL W xs (ys.take (i + 1))).map V.str)) ∧ Frm [D] H2 H4) := fun c H4 f4 d4 => by
        refine ⟨_, rfl, ?_, f4⟩
        rw [d4]
        unfold fewL
        rw [filter_step _ hy, S_list, if_neg (by rw [c]; exact Bool.false_ne_true), List.append_nil]
      refine ⟨_, rfl, S l, rfl, len12 (by have := hl.1; omega), _, rfl, _, _, rfl, rfl, rfl, _, rfl, ?_⟩
      rw [int_dec, SX.S_len]
      refine iteB (fun c => ?_) (fun c => ?_)
      · have e : l.length + 1 = W := by have := of_decide_eq_true c; omega
        refine ⟨_, rfl, .inl ⟨rfl, _, SqL.of d3⟩, _, rfl, go ?_ _ f3 d3⟩
        unfold needL
        rw [decide_eq_true e, Bool.or_true]
      · have e : ¬ l.length + 1 = W := fun z => of_decide_eq_false c (by omega)
        refine ⟨_, rfl, _, rfl, p, W, l, xs, rfl, hp3, hnum, hl.1, w2, fun t H4 ht4 e4 f4 => ⟨by show 2 ≤ sizeLine; decide, fun t2 ht2 => ?_⟩⟩
        have g5 : Frm [] H4 (upd H4 t2 (.tup [.bl true, .bl true])) := Frm.of (same_upd ht2)
        have f5 := f3.trans ((f4.trans g5).mono (by simp))
        have d5 := (f4.trans g5).k _ _ d3 rfl (by simp)
        refine ⟨.tuple [.bool _, .bool _], .tuple [.bool true, .bool true], .tup (SqT.of (g5.k _ _ e4 rfl (by simp))) (.cons (.bl _) (.cons (.bl _) .nil)), .tup (SqT.of upd_same) (.cons (.bl _) (.cons (.bl _) .nil)), shaped_bb _ _, shaped_bb _ _, _, rfl, ?_⟩
        rw [eqv_bb]
        have en : needL W xs l = !decide ((xs.any (starts (l ++ [48])), xs.any (starts (l ++ [49]))) = (true, true)) := by
          unfold needL
          rw [decide_eq_false e, Bool.or_false]
          cases xs.any (starts (l ++ [48])) <;> cases xs.any (starts (l ++ [49])) <;> rfl
        rw [← en]
        exact iteB (fun c => ⟨_, rfl, .inl ⟨rfl, _, SqL.of d5⟩, _, rfl, go c _ f5 d5⟩) (fun c => no c _ f5 d5)
    · rintro σ H3 ⟨v3, rfl, d3, f3⟩
      rw [List.length_map, List.take_length] at d3
      refine ⟨_, rfl, k ys D _ ml hD d3 ?_⟩
      exact ((g1.toT .nil).trans f2).fresh (f3.toN (.cons d2 rfl .nil)) (by simpa using hD)
end
end B

set_option Elab.async false
set_option linter.all false
set_option maxRecDepth 100000
set_option maxHeartbeats 4000000
namespace B
open PySem PySem.Spec PyProof.Rows L2
open SX (S)
theorem LZ.row {H H' : Hp} {p r a : Addr} {zs : List (Addr × Lk)} (h : LZ H p zs) (f : Frm [r] H H') (hr : RowAt r a H) (n : p ≠ r) : LZ H' p zs := by
  obtain ⟨i, j, k, e, _⟩ := hr
  exact ⟨f.k _ _ h.1 rfl (by simpa using n), fun z hz => f.k _ _ (h.2 z hz) rfl (by simpa using ne_of (h.2 z hz) e (by intro y; cases y))⟩
theorem LZ.dp {K : PySem.W.Frag} {H : Hp} {p : Addr} {zs : List (Addr × Lk)} (h : LZ H p zs) : DpAll K H (zs.map fun z => V.ref z.1) ((zs.map (·.2)).map lkD) := by
  have dp := dp_lk (K := K) (H := H) (zs := zs) h.2
  rw [show (zs.map fun z => lkD z.2) = (zs.map (·.2)).map lkD by rw [List.map_map]; rfl] at dp
  exact dp
theorem LZ.put {H : Hp} {p t : Addr} {zs : List (Addr × Lk)} {q : Lk} {j : Nat} (h : LZ H p zs) (ht : H t = some (.tup [txV q.1, .bl q.2.1, .bl q.2.2])) : LZ (upd H p (.lst ((zs.map fun z => V.ref z.1).set j (.ref t)))) p (zs.set j (t, q)) := by
  refine ⟨by rw [upd_same, List.map_set], fun z hz => ?_⟩
  have hz' : H z.1 = some (.tup [txV z.2.1, .bl z.2.2.1, .bl z.2.2.2]) := by
    rcases List.mem_or_eq_of_mem_set hz with c | c
    · exact h.2 z c
    · rw [c]
      exact ht
  rw [upd_ne (ne_of hz' h.1 (by intro y; cases y))]
  exact hz'
theorem cut_take (xs : List V) (n : Nat) : cutV xs none (some (n : Int)) = xs.take n := by
  show (xs.drop 0).take (min n xs.length - 0) = xs.take n
  rw [List.drop_zero, Nat.sub_zero]
  rcases Nat.le_total n xs.length with h | h
  · rw [Nat.min_eq_left h]
  · rw [Nat.min_eq_right h, List.take_of_length_le (Nat.le_refl _), List.take_of_length_le h]
theorem at_lk {zs : List (Addr × Lk)} {v : Int} (h0 : 0 ≤ v) (h1 : v < (zs.length : Int)) : ∃ z ∈ zs, atI (zs.map fun z => V.ref z.1) v = some (.ref z.1) ∧ ixN (zs.map fun z => V.ref z.1).length v = some v.toNat := by
  obtain ⟨n, rfl⟩ : ∃ n : Nat, v = n := ⟨v.toNat, by omega⟩
  have hlt : n < zs.length := by omega
  refine ⟨zs[n], List.getElem_mem hlt, atI_nat (by rw [List.getElem?_map, List.getElem?_eq_getElem hlt]; rfl), ?_⟩
  unfold ixN
  rw [List.length_map, if_pos h0, if_pos (by omega)]
theorem dueF.keepT {K : PySem.W.Frag} {W : Nat} {qs : List Lk} {H H' : Hp} {t : Addr} (h : dueF W qs H t) (f : FrT K [] H H') : dueF W qs H' t := by
  rcases h with ⟨a, b⟩ | ⟨a, q, b, c⟩ | ⟨a, b⟩
  · exact .inl ⟨a, f.k _ _ b rfl (by simp)⟩
  · exact .inr (.inl ⟨a, q, f.k _ _ b rfl (by simp), f.k _ _ c rfl (by simp)⟩)
  · exact .inr (.inr ⟨a, f.k _ _ b rfl (by simp)⟩)
theorem while_goT {α : Type} {R : Hp → Hp → Prop} {c : TT} {tb : TS} {D : Ends} {σ : L2.St} {H : Hp} (Wd : α → Nat → L2.St → Hp → Prop) (G : α → Prop) (h0 : ∃ x m, Wd x m σ H)
    (hc : ∀ x m σ H, Wd x m σ H → ∀ K : Bool → Hp → Prop, (G x → ∀ H', R H H' → K true H') → (¬ G x → ∀ H', R H H' → K false H') → c σ H K)
    (hb : ∀ x m σ H H', Wd x m σ H → G x → R H H' → tb { D with nx := fun σ' H'' => ∃ m', m' < m ∧ ∃ x', Wd x' m' σ' H'', ct := fun σ' H'' => ∃ m', m' < m ∧ ∃ x', Wd x' m' σ' H'', bk := D.nx } σ H')
    (hd : ∀ x m σ H H', Wd x m σ H → ¬ G x → R H H' → D.nx σ H') : tWhile c tb D σ H := by
  obtain ⟨x0, m0, w0⟩ := h0
  refine ⟨fun m σ H => ∃ x, Wd x m σ H, ⟨m0, x0, w0⟩, ?_⟩
  rintro m σ H ⟨x, w⟩
  refine hc x m σ H w _ (fun g H' f => ?_) (fun g H' f => ?_)
  · rw [if_pos rfl]
    exact ⟨fun σ' H'' => ∃ m', m' < m ∧ ∃ x', Wd x' m' σ' H'', fun _ _ h => h, hb x m σ H H' w g f⟩
  · rw [if_neg Bool.false_ne_true]
    exact hd x m σ H H' w g f
theorem cut_last (xs : List V) : cutV xs none (some (-1)) = xs.dropLast := by
  have e1 : HT.sIx xs.length 0 none = 0 := rfl
  have e2 : HT.sIx xs.length xs.length (some (-1)) = xs.length - 1 := by
    show ((-1 : Int) + (xs.length : Int)).toNat = _
    omega
  show (xs.drop (HT.sIx xs.length 0 none)).take (HT.sIx xs.length xs.length (some (-1)) - HT.sIx xs.length 0 none) = _
  rw [e1, e2, List.drop_zero, Nat.sub_zero, List.dropLast_eq_take]
theorem PapAt.lz {H : Hp} {p : Addr} {ps : List Lk} (h : PapAt H p ps) : ∃ zs : List (Addr × Lk), LZ H p zs ∧ zs.map (·.2) = ps := by
  obtain ⟨ts, t1, t2, t3⟩ := h
  refine ⟨ts.zip ps, ⟨?_, fun z hz => ?_⟩, ?_⟩
  · have : (ts.zip ps).map (fun z => V.ref z.1) = ts.map V.ref := by
      rw [show (fun z : Addr × Lk => V.ref z.1) = V.ref ∘ Prod.fst from rfl, ← List.map_map, List.map_fst_zip (by omega)]
    rw [this]
    exact t1
  · obtain ⟨i, hi, e⟩ := List.getElem_of_mem hz
    have h1 : ts[i]? = some z.1 := by
      have h2 := List.getElem?_eq_getElem hi
      rw [e, List.getElem?_zip_eq_some] at h2
      exact h2.1
    have h1' : ps[i]? = some z.2 := by
      have h2 := List.getElem?_eq_getElem hi
      rw [e, List.getElem?_zip_eq_some] at h2
      exact h2.2
    exact t3 i z.1 z.2 h1 h1'
  · exact List.map_snd_zip (by omega)
theorem cut_drop (xs : List V) (n : Nat) : cutV xs (some (n : Int)) none = xs.drop n := by
  have e1 : HT.sIx xs.length xs.length none = xs.length := rfl
  have e2 : HT.sIx xs.length 0 (some (n : Int)) = min n xs.length := by
    show (if ((n : Nat) : Int) < 0 then (((n : Nat) : Int) + (xs.length : Int)).toNat else min ((n : Nat) : Int).toNat xs.length) = _
    rw [if_neg (by omega), Int.toNat_natCast]
  show (xs.drop (HT.sIx xs.length 0 (some (n : Int)))).take (HT.sIx xs.length xs.length none - HT.sIx xs.length 0 (some (n : Int))) = _
  rw [e1, e2]
  rcases Nat.le_total n xs.length with h | h
  · rw [Nat.min_eq_left h, List.take_of_length_le (by rw [List.length_drop]; omega)]
  · rw [Nat.min_eq_right h, Nat.sub_self, List.take_zero, List.drop_eq_nil_of_le h]
section
variable {W : Nat} {ps : List Lk}
noncomputable def opC (ps : List Lk) (y : Str) : Bool := @decide (OpenS ps y) (Classical.propDecidable _)
theorem opC_ok {y : Str} : opC ps y = true ↔ OpenS ps y := by
  unfold opC
  exact @decide_eq_true_iff _ (Classical.propDecidable _)
theorem due_one {H : Hp} {t : Addr} {s : List Str} (hps : ∀ q ∈ ps, Bits q.1 ∧ q.1.length < W) (h : Top ps W s) (u : ∀ t, Top ps W t → t = s) (d : dueF W ps H t) : ∃ q, H t = some (.tup [.str "one", .ref q]) ∧ H q = some (.lst (s.map V.str)) := by
  have si := shown_is (W := W) (ps := ps) (op := opC ps) fun y => opC_ok
  rw [shown_one (op := opC ps) hps (fun y => opC_ok) h u] at si
  have l1 : 1 = (waysG W ps []).1 + (waysG W ps []).2 := si.1
  have e := (List.cons.inj (si.2 l1.symm)).1
  rcases d with ⟨a, b⟩ | ⟨a, q, b, c⟩ | ⟨a, b⟩
  · omega
  · exact ⟨q, b, by rw [e]; exact c⟩
  · omega
theorem due_more {H : Hp} {t : Addr} {s s' : List Str} (hps : ∀ q ∈ ps, Bits q.1 ∧ q.1.length < W) (h : Top ps W s) (g : Top ps W s') (ne : s ≠ s') (d : dueF W ps H t) : H t = some (.tup [.str "more"]) := by
  have si := shown_is (W := W) (ps := ps) (op := opC ps) fun y => opC_ok
  have l2 := shown_more (op := opC ps) hps (fun y => opC_ok) h g ne
  rcases d with ⟨a, b⟩ | ⟨a, q, b, c⟩ | ⟨a, b⟩
  · omega
  · omega
  · exact b
theorem due_not {K : PySem.W.Frag} {H : Hp} {t : Addr} {s : List Str} (hps : ∀ q ∈ ps, Bits q.1 ∧ q.1.length < W) (h : ¬ Top ps W s) (d : dueF W ps H t) : ∃ d, Dp K H (.ref t) d ∧ SeqAt.shaped d = true ∧ PyData.eqv d (oneD s) = false := by
  have si := shown_is (W := W) (ps := ps) (op := opC ps) fun y => opC_ok
  have no := shown_not (op := opC ps) hps (fun y => opC_ok) h
  have so := sb_sound (op := opC ps) hps (fun y => opC_ok) W [] (by simp) (fun c hc => absurd hc (by simp))
  rcases d with ⟨a, b⟩ | ⟨a, q, b, c⟩ | ⟨a, b⟩
  · exact ⟨.tuple [.str "none"], .tup (SqT.of b) (.cons (.str _) .nil), by decide +kernel, by
      show (decide (("none" : Str) = "one") && false) = false
      rw [Bool.and_false]⟩
  · have e := si.2 a
    generalize (if (waysG W ps []).2 = 1 then thoseG W ps [] else []) = s' at e c
    rw [e] at no so
    have ok : ∀ x ∈ s', PyData.strOk x = true := fun x hx => strOk_num ((so s' (by simp)).1.1 x hx).num
    refine ⟨oneD s', dp_one b c, shaped_one ok, ?_⟩
    rw [eqv_one]
    exact decide_eq_false fun z => no (by rw [z])
  · exact ⟨.tuple [.str "more"], .tup (SqT.of b) (.cons (.str _) .nil), by decide +kernel, by
      show (decide (("more" : Str) = "one") && false) = false
      rw [Bool.and_false]⟩
theorem few_pos {xs : List Str} (hW : 1 ≤ W) (hx : ∀ x ∈ xs, Num W x) : ∃ l, MetB W xs l ∧ needL W xs l = true := by
  cases xs with
  | nil => exact ⟨[], ⟨hW, .inl rfl⟩, rfl⟩
  | cons x r =>
    obtain ⟨m, rfl, hm, hb⟩ := hx x (by simp)
    refine ⟨m.take (W - 1), ⟨by rw [List.length_take]; omega, .inr ⟨S m, by simp, ?_⟩⟩, ?_⟩
    · rw [starts_S, List.length_take, Nat.min_eq_left (by omega)]
      exact decide_eq_true rfl
    · unfold needL
      rw [decide_eq_true (show (m.take (W - 1)).length + 1 = W by rw [List.length_take]; omega), Bool.or_true]
end
theorem strOk_met {W : Nat} {xs : List Str} {y : Str} (hn : ∀ x ∈ xs, Num W x) (h : MetS W xs y) : PyData.strOk y = true := by
  rcases h with rfl | ⟨x, hx, i, hi, rfl⟩
  · decide +kernel
  · obtain ⟨l, rfl, e, b⟩ := hn x hx
    rw [S_list]
    exact strOk_bits fun c hc => b c (List.mem_of_mem_take hc)
theorem part_ne {zs : List (Addr × Lk)} {j : Nat} {z : Addr × Lk} (hz : zs[j]? = some z) (nd : (zs.map (·.2.1)).Nodup) : ∀ y ∈ zs.take j ++ zs.drop (j + 1), y ∈ zs ∧ y.2.1 ≠ z.2.1 := by
  obtain ⟨hj, hz'⟩ := List.getElem?_eq_some_iff.mp hz
  have e : zs = zs.take j ++ z :: zs.drop (j + 1) := by
    rw [← hz', ← List.drop_eq_getElem_cons hj, List.take_append_drop]
  generalize zs.take j = a at e
  generalize zs.drop (j + 1) = b at e
  subst e
  rw [List.map_append, List.map_cons] at nd
  obtain ⟨_, n2, n3⟩ := List.pairwise_append.mp nd
  intro y hy
  rcases List.mem_append.mp hy with c | c
  · exact ⟨List.mem_append_left _ c, n3 _ (List.mem_map.mpr ⟨y, c, rfl⟩) _ (by simp)⟩
  · exact ⟨List.mem_append_right _ (List.mem_cons_of_mem _ c), fun e => (List.pairwise_cons.mp n2).1 _ (List.mem_map.mpr ⟨y, c, rfl⟩) e.symm⟩
theorem few_mem {W : Nat} {xs ys : List Str} {l : List Nat} (ml : MetL W xs ys) (h : MetB W xs l) : decide (S l ∈ fewL W xs ys) = needL W xs l := by
  have hm := (ml.mem (S l)).mpr (lst_met h)
  unfold fewL
  cases e : needL W xs l with
  | true => exact decide_eq_true (List.mem_filter.mpr ⟨hm, by rw [S_list]; exact e⟩)
  | false =>
    refine decide_eq_false fun z => ?_
    have := (List.mem_filter.mp z).2
    rw [S_list, e] at this
    cases this
section
variable {P : Program} {w : World} {K : PySem.W.Frag} {mg : Str → Option Value} {base : Heap}
def spLaw (K : PySem.W.Frag) : Sp := fun vs H Q _ => ∃ a : Addr, vs = [.ref a] ∧ Scr K a H ∧ Tb K H ∧ ∀ H', Q (.bl true) H'
theorem law_ok (T : Txt P w K mg base) {fd : FuncData} (F : FunD K d_law.name d_law.qual d_law.params d_law.body d_law.scope (He.DefD.dvs K d_law) (He.DefD.kws K d_law) (He.fAd K d_law.at_) fd) : FnOk P w K mg base CX0 18 (He.fAd K d_law.at_) fd ["_law_script"] (spLaw K) := by
  refine F.ok sc_law (fun vs H Q E h => ?_) (fun cdv A outer s H vs Q E hr h => ?_)
  · obtain ⟨a, rfl, _⟩ := h
    rfl
  · obtain ⟨a, rfl, hS, ht, k⟩ := h
    have hu := hu_of hr
    refine ⟨_, PSs.nox (pss_cons (ps_set (i := 1) sc_law.nd rfl (Or.inl rfl) (pe_lst (pa_cons (pv 0) (pa_cons pe_int (pa_cons pe_int (pa_cons pe_int pa_nil))))))
    (pss_cons (ps_for PassesOwn.never rfl (pi_range1 rfl (n_range T) (pa_cons pe_int pa_nil)) (pg_name (i := 2) sc_law.nd rfl (Or.inl rfl))
      (pss_cons (ps_set (i := 3) sc_law.nd rfl (Or.inl rfl) (pe_cx (c_lwidth T) hr (by decide) rfl pass0 (pa_cons (pv 1) pa_nil)))
      (pss_cons (ps_set (i := 4) sc_law.nd rfl (Or.inl rfl) (pe_cx (c_lthings T) hr (by decide) rfl pass0 (pa_cons (pv 1) (pa_cons (pv 3) (pa_cons (pe_ix ix_list (pe_lst (pa_cons pe_int (pa_cons pe_int (pa_cons pe_int pa_nil)))) (pe_cx (c_ltaken T) hr (by decide) rfl pass0 (pa_cons (pv 1) (pa_cons pe_int pa_nil))) (fun _ _ => rfl)) pa_nil)))))
      (pss_cons (ps_while PassesOwn.never (pt_cmpR op_gt (pe_callB call_len_seq (by rfl) (n_len T) PySem.boot_len (pa_cons (pe_cx (c_lmet T) hr (by decide) rfl pass0 (pa_cons (pv 3) (pa_cons (pv 4) pa_nil))) pa_nil)) pe_int (nomark _))
        (pss_one (ps_set (i := 4) sc_law.nd rfl (Or.inl rfl) (pe_slice sl_list (pv 4) po_none (po_some (pe_un un_neg pe_int))))))
      (pss_cons (ps_set (i := 5) sc_law.nd rfl (Or.inl rfl) (pe_mkx (k_Walk T) hr (by decide) rfl pass0 (pa_cons (pe_cx (c_lmade T) hr (by decide) rfl pass0 (pa_cons (pv 3) (pa_cons (pv 4) pa_nil))) (pa_cons pe_str pa_nil))))
      (pss_cons (ps_if (PW.pt (pw_or (pt_cmpR (op_neD hr.units) (pe_mx0 (m_Walk_go_all T) hr (by decide) (pv 5) pass0) (pv 4) (nomark _)) (pw_or1 (pt_cmpR (op_neD hr.units) (pe_cx (c_shown T) hr (by decide) rfl pass0 (pa_cons (pv 3) (pa_cons (pe_mx0 (m_Walk_paper T) hr (by decide) (pv 5) pass0) pa_nil))) (pe_tup (pa_cons pe_str (pa_cons (pv 4) pa_nil))) (nomark _)))))
        (pss_one (ps_ret pe_bl))
        pss_nil)
      (pss_cons (ps_set (i := 6) sc_law.nd rfl (Or.inr rfl) (pe_cx (c_fewest T) hr (by decide) rfl pass0 (pa_cons (pv 3) (pa_cons (pv 4) pa_nil))))
      (pss_cons (ps_setLc (i := 7) (own := [("_law_look", 13)]) (g := gName 13) rfl sc_law.nd rfl rfl (sw_true rfl rfl rfl (by decide +kernel)) (pi_list (pe_mx0 (m_Walk_paper T) hr (by decide) (pv 5) pass0)) (blkOk_by (N := ["_law_script", "_law_row", "_law_turn", "_law_width_here", "_law_names", "_law_walk", "_law_few_here", "_law_looks", "_law_k", "_law_beginning", "_law_zero", "_law_one", "_law_other", "_law_look"]) (sc := defScope s_law) (own := [("_law_look", 13)]) (by decide +kernel)) (fun _ _ _ _ _ => pg_name (i := 13) sc_law.nd rfl (Or.inl rfl)) (fun _ _ _ _ _ => pts_one (by exact (pt_cmpR (in_seqK (K := K) rfl) (pe_ix (ix_seqK (K := K) rfl) (pv 13) pe_int (fun _ _ => rfl)) (pv 6) rfl))) (fun _ _ _ _ _ => by exact (pv 13)))
      (pss_cons (ps_if (PW.pt (pw_or (pt_cmpR (op_neD hr.units) (pe_callB cr_sortedAny (by rfl) (n_sorted T) (by decide +kernel) (pa_cons (pe_lc (own := [("_law_look", 13)]) (g := gName 13) rfl sc_law.nd (pi_list (pv 7)) (blkOk_by (N := ["_law_script", "_law_row", "_law_turn", "_law_width_here", "_law_names", "_law_walk", "_law_few_here", "_law_looks", "_law_k", "_law_beginning", "_law_zero", "_law_one", "_law_other", "_law_look"]) (sc := defScope s_law) (own := [("_law_look", 13)]) (by decide +kernel)) (fun _ _ _ _ _ => pg_name (i := 13) sc_law.nd rfl (Or.inl rfl)) (fun _ _ _ _ _ => pts_nil) (fun _ _ _ _ _ => by exact (pe_ix (ix_seqK (K := K) rfl) (pv 13) pe_int (fun _ _ => rfl)))) pa_nil)) (pv 6) (nomark _)) (pw_or1 (pt_cmpR (op_neD hr.units) (pv 6) (pe_cx (c_lfew T) hr (by decide) rfl pass0 (pa_cons (pv 3) (pa_cons (pv 4) pa_nil))) (nomark _)))))
        (pss_one (ps_ret pe_bl))
        pss_nil)
      (pss_cons (ps_if (pt_cmpR (op_neD hr.units) (pe_cx (c_shown T) hr (by decide) rfl pass0 (pa_cons (pv 3) (pa_cons (pv 7) pa_nil))) (pe_tup (pa_cons pe_str (pa_cons (pv 4) pa_nil))) (nomark _))
        (pss_one (ps_ret pe_bl))
        pss_nil)
      (pss_cons (ps_for PassesOwn.never rfl (pi_range1 rfl (n_range T) (pa_cons (pe_callB call_len_seq (by rfl) (n_len T) PySem.boot_len (pa_cons (pv 7) pa_nil)) pa_nil)) (pg_name (i := 8) sc_law.nd rfl (Or.inl rfl))
        (pss_one (ps_if (pt_cmpR (op_neD hr.units) (pe_cx (c_shown T) hr (by decide) rfl pass0 (pa_cons (pv 3) (pa_cons (pe_op op_cat (pe_slice sl_list (pv 7) po_none (po_some (pv 8))) (pe_slice sl_list (pv 7) (po_some (pe_op op_add (pv 8) pe_int)) po_none)) pa_nil))) (pe_tup (pa_cons pe_str pa_nil)) (nomark _))
          (pss_one (ps_ret pe_bl))
          pss_nil)))
      (pss_cons (ps_set (i := 8) sc_law.nd rfl (Or.inl rfl) (pe_cx (c_ltaken T) hr (by decide) rfl pass0 (pa_cons (pv 1) (pa_cons (pe_callB call_len_seq (by rfl) (n_len T) PySem.boot_len (pa_cons (pv 7) pa_nil)) pa_nil))))
      (pss_cons (ps_asg (pe_ix ix_list (pv 7) (pv 8) (fun _ _ => rfl)) (pg_tup rfl (pgs_cons (pg_name (i := 9) sc_law.nd rfl (Or.inl rfl)) (pgs_cons (pg_name (i := 10) sc_law.nd rfl (Or.inl rfl)) (pgs_cons (pg_name (i := 11) sc_law.nd rfl (Or.inl rfl)) pgs_nil)))))
      (pss_cons (ps_set (i := 12) sc_law.nd rfl (Or.inl rfl) (pe_lst (pa_cons (pe_tup (pa_cons (pv 9) (pa_cons (pe_not (pv 10)) (pa_cons (pv 11) pa_nil)))) (pa_cons (pe_tup (pa_cons (pv 9) (pa_cons (pv 10) (pa_cons (pe_not (pv 11)) pa_nil)))) (pa_cons (pe_tup (pa_cons (pv 9) (pa_cons (pe_not (pv 10)) (pa_cons (pe_not (pv 11)) pa_nil)))) pa_nil)))))
      (pss_one (ps_if (pt_cmpR (op_eqD hr.units) (pe_cx (c_shown T) hr (by decide) rfl pass0 (pa_cons (pv 3) (pa_cons (pe_op op_cat (pe_op op_cat (pe_slice sl_list (pv 7) po_none (po_some (pv 8))) (pe_lst (pa_cons (pe_ix ix_list (pv 12) (pe_cx (c_ltaken T) hr (by decide) rfl pass0 (pa_cons (pv 1) (pa_cons pe_int pa_nil))) (fun _ _ => rfl)) pa_nil))) (pe_slice sl_list (pv 7) (po_some (pe_op op_add (pv 8) pe_int)) po_none)) pa_nil))) (pe_tup (pa_cons pe_str (pa_cons (pv 4) pa_nil))) (nomark _))
        (pss_one (ps_ret pe_bl))
        pss_nil))))))))))))))))
    (pss_one (ps_ret pe_bl)))), ?_⟩
    refine ⟨_, rfl, by show 4 ≤ sizeLine; decide, fun r hr0 => ?_⟩
    have hR0 : RowAt r a (upd H r (.lst [.ref a, .int 0, .int 0, .int 0])) := ⟨0, 0, 0, upd_same, by decide⟩
    have f0 : Frm [] H (upd H r (.lst [.ref a, .int 0, .int 0, .int 0])) := Frm.of (same_upd hr0)
    refine ⟨3, rfl, by decide, by decide, ?_⟩
    refine for_range (lo := 0) (n := (3 : Int).toNat) (fun i σ H' => ∃ (v2 v3 v4 v5 v6 v7 v8 v9 v10 v11 v12 v13 : Option V), σ = [some (.ref a), some (.ref r), v2, v3, v4, v5, v6, v7, v8, v9, v10, v11, v12, v13] ∧ RowAt r a H' ∧ FrT K [] H H')
      ⟨none, none, none, none, none, none, none, none, none, none, none, none, rfl, hR0, f0.toT .nil⟩ ?_ ?_
    · rintro i σ H1 hi ⟨v2, v3, v4, v5, v6, v7, v8, v9, v10, v11, v12, v13, rfl, hR1, fb⟩
      refine ⟨_, rfl, r, a, rfl, hR1, fb.scr .nil hS, fun W H2 w1 w2 hR2 f2 => ?_⟩
      have fb2 := fb.fresh (f2.toT hR1.nl) (by simpa using hr0)
      -- how many at most
      refine ⟨_, rfl, _, rfl, by show 3 ≤ sizeLine; decide, fun D hD => ?_⟩
      have g1 : Frm [] H2 (upd H2 D (.lst [.int 3, .int 8, .int 30])) := Frm.of (same_upd hD)
      have d1 : (upd H2 D (.lst [.int 3, .int 8, .int 30])) D = some (.lst [.int 3, .int 8, .int 30]) := upd_same
      have nrD : r ≠ D := (hR2.out hD)
      revert g1 d1
      generalize (upd H2 D (.lst [.int 3, .int 8, .int 30])) = H3
      intro g1 d1
      have hR3 : RowAt r a H3 := (g1.toT .nil (K := K)).row (by simp) hR2
      have fb3 := fb2.trans (g1.toT .nil)
      refine ⟨_, rfl, r, a, 3, rfl, hR3, fb3.scr .nil hS, by decide, by decide, fun v H4 v0 v1 hR4 f4 => ?_⟩
      have fb4 := fb3.fresh (f4.toT hR3.nl) (by simpa using hr0)
      have hD4 := f4.k D _ d1 rfl (by simpa using Ne.symm nrD)
      obtain ⟨most, ho, ho2, hat⟩ : ∃ most : Int, 0 ≤ most ∧ most ≤ 40 ∧ atI [V.int 3, .int 8, .int 30] v = some (.int most) := by
        have hv : v = 0 ∨ v = 1 ∨ v = 2 := by omega
        rcases hv with rfl | rfl | rfl
        · exact ⟨3, by decide, by decide, rfl⟩
        · exact ⟨8, by decide, by decide, rfl⟩
        · exact ⟨30, by decide, by decide, rfl⟩
      refine ⟨D, _, v, _, rfl, rfl, SqL.of hD4, hat, ?_⟩
      refine ⟨r, a, W, most, rfl, hR4, fb4.scr .nil hS, w2, ho, ho2, fun xs0 pn0 H5 hnum0 hlen0 hnd0 hsrt0 hpn0 hR5 f5 => ?_⟩
      have fb5 := fb4.fresh (f5.toT hR4.nl) (by simpa using hr0)
      -- the last ones left out
      refine while_goT (R := FrT K []) (α := List Str × Addr) (fun x m σ H' => x.1.length ≤ m ∧ σ = [some (.ref a), some (.ref r), some (.int (0 + (i : Int))), some (.int W), some (.ref x.2), v5, v6, v7, v8, v9, v10, v11, v12, v13] ∧ H' x.2 = some (.lst (x.1.map V.str)) ∧ (∀ y ∈ x.1, Num W y) ∧ x.1.length ≤ 41 ∧ x.1.Nodup ∧ sortedS x.1 = true ∧ RowAt r a H' ∧ FrT K [] H H') (fun x => ∀ ys, MetL W x.1 ys → 100 < ys.length)
        ⟨(xs0, pn0), _, Nat.le_refl _, rfl, hpn0, hnum0, hlen0, hnd0, hsrt0, hR5, fb5⟩ ?_ ?_ ?_
      · rintro ⟨xs, pn⟩ m σ H6 ⟨hm, rfl, hpn, hnum, hlen, hnd, hsrt, hR6, fb6⟩ K9 kt kf
        refine ⟨_, rfl, _, rfl, W, pn, xs, rfl, hpn, hnum, w1, w2, hlen, fb6.t ht, fun ys pY H7 ml hpY eY f7 => ⟨pY, _, rfl, .inl (SqL.of eY), ?_⟩⟩
        refine ⟨_, _, rfl, rfl, _, rfl, ?_⟩
        by_cases c : 100 < ys.length
        · rw [decide_eq_true (by rw [List.length_map]; omega)]
          exact kt (fun ys' hy' => by rw [hy'.one ml]; exact c) H7 f7
        · rw [decide_eq_false (by rw [List.length_map]; omega)]
          exact kf (fun z => c (z ys ml)) H7 f7
      · rintro ⟨xs, pn⟩ m σ H6 H7 ⟨hm, rfl, hpn, hnum, hlen, hnd, hsrt, hR6, fb6⟩ hG f7
        have hpn7 := f7.k _ _ hpn rfl (by simp)
        have hR7 : RowAt r a H7 := f7.row (by simp) hR6
        have fb7 := fb6.trans f7
        refine ⟨_, rfl, 1, rfl, -1, rfl, pn, _, rfl, SqL.of hpn7, fun p hp => ?_⟩
        rw [cut_last, ← List.map_dropLast]
        have ne : xs ≠ [] := fun e => by
          subst e
          have h1 : MetL W [] [("" : Str)] := ⟨rfl, List.pairwise_singleton _ _, fun y => ⟨fun z => .inl (List.mem_singleton.mp z), fun z => by
            rcases z with rfl | ⟨x, hx, _⟩
            · simp
            · cases hx⟩⟩
          have := hG _ h1
          simp at this
        have lp := List.length_pos_iff.mpr ne
        have sb := List.dropLast_sublist xs
        refine ⟨xs.dropLast.length, by rw [List.length_dropLast]; dsimp only at hm; omega, (xs.dropLast, p), Nat.le_refl _, rfl, upd_same, fun y hy => hnum y (sb.subset hy), by have := sb.length_le; dsimp only at hlen; show xs.dropLast.length ≤ 41; omega, hnd.sublist sb, pw_sorted ((sorted_pw hsrt).sublist sb), hR7.ne (hR7.out hp), fb7.trans ((Frm.of (same_upd hp)).toT .nil)⟩
      rintro ⟨xs, pn⟩ m σ H6 H7 ⟨hm, rfl, hpn6, hnum, hlen, hnd, hsrt, hR6, fb6⟩ hG f7
      have few : ∀ ys, MetL W xs ys → ys.length ≤ 100 := fun ys hy => by
        refine Nat.le_of_not_lt fun z => hG fun ys' hy' => ?_
        rw [hy'.one hy]
        exact z
      have hpn := f7.k _ _ hpn6 rfl (by simp)
      have hR7 : RowAt r a H7 := f7.row (by simp) hR6
      have fb7 := fb6.trans f7
      dsimp only at hpn hnum hlen hnd hsrt hG few
      obtain ⟨ys0, ml0⟩ : ∃ ys, MetL W xs ys := by
        refine Classical.byContradiction fun z => hG fun ys hy => (z ⟨ys, hy⟩).elim
      have y100 := few ys0 ml0
      clear hG hm hR6 fb6 hpn6 f7
      -- the walk
      refine ⟨_, rfl, _, rfl, pn, W, xs, rfl, hpn, hnd, by omega, hnum, w1, w2, fb7.t ht, fun pw dh dl H8 hpw hdh hdl wa8 f8 => ?_⟩
      have hR8 : RowAt r a H8 := f8.row (by simp) hR7
      have hn8 := f8.k _ _ hpn rfl (by simp)
      have fb8 := fb7.trans f8
      refine fun qk dxq hqk hdxq hnxq => ⟨qk, dxq, pw, "all", rfl, .inl rfl, upd_same, fun qr qf qp H9 hqr hqf hqp vk9 f9 => ⟨rfl, ?_⟩⟩
      have f89 : Frm [] H8 H9 := Frm.fresh (((Frm.refl _ _).new hdxq).new hqk) f9 (by simpa using hqk)
      have hqr8 : H8 qr = none := upd_back (upd_back hqr)
      have hqf8 : H8 qf = none := upd_back (upd_back hqf)
      have hqp8 : H8 qp = none := upd_back (upd_back hqp)
      have wa9 := wa8.stay (f89.toT .nil (K := K)) .nil (by simp) (by simp)
      have hn9 := f89.k _ _ hn8 rfl (by simp)
      have hR9 : RowAt r a H9 := (f89.toT .nil (K := K)).row (by simp) hR8
      have fb9 := fb8.trans (f89.toT .nil)
      obtain ⟨⟨dw8, w81⟩, w82, w83⟩ := id wa8
      have nlq : dl ≠ qr ∧ dl ≠ qf ∧ dl ≠ qp := ⟨ne_of_none w82 hqr8, ne_of_none w82 hqf8, ne_of_none w82 hqp8⟩
      obtain ⟨pl, plne, pllen, plnum, plsub⟩ : ∃ pl : List Str, pl ≠ [] ∧ pl.length ≤ 41 ∧ (∀ x ∈ pl, Num W x) ∧ ∀ x ∈ xs, x ∈ pl := by
        by_cases e : xs = []
        · refine ⟨[S (List.replicate W 48)], by simp, by simp, fun x hx => ?_, fun x hx => by rw [e] at hx; cases hx⟩
          rw [List.mem_singleton.mp hx]
          exact ⟨_, rfl, List.length_replicate, fun c hc => .inl (List.eq_of_mem_replicate hc)⟩
        · exact ⟨xs, e, hlen, hnum, fun x hx => hx⟩
      have ck : (calmK xs).map (·.1) = xs := calm_keys xs
      have kl : (calmK xs).length ≤ 41 := by
        have := congrArg List.length ck
        rw [List.length_map] at this
        omega
      have knd : ((calmK xs).map (·.1)).Nodup := by rw [ck]; exact hnd
      have knum : ∀ x ∈ (calmK xs).map (·.1), Num W x := fun x hx => hnum x (by rw [ck] at hx; exact hx)
      have ksub : ∀ x ∈ (calmK xs).map (·.1), x ∈ pl := fun x hx => plsub x (by rw [ck] at hx; exact hx)
      have iv0 := (inv_new (kd := "all") plne w2 pllen).1
      have ok0 : WkOk W [] none ⟨"all", [[]], none, [], []⟩ 1 := iv0.ok
      have vk0 : VkOk K H9 qk pw qr qf qp dh dl W (calmK xs) [] none 0 ⟨"all", [[]], none, [], []⟩ 1 := ⟨vk9, ⟨[], wa9, List.Perm.refl _⟩, nlq, .inl rfl, w2, Nat.lt_of_le_of_lt kl (by decide), knd, knum, ok0⟩
      obtain ⟨⟨dxq9, oq9⟩, o92, o93, ⟨ts9, o94, _⟩, _⟩ := id vk0.wk
      obtain ⟨⟨dw9, w91⟩, _, _⟩ := id wa9
      have mz0 := iv0.mz
      dsimp only at mz0
      refine ⟨_, rfl, qk, dxq9, _, rfl, oq9, vx_all, qk, pw, qr, qf, qp, dh, dl, W, _, _, _, _, _, 1, rfl, vk0, by omega, fun pA dl' H10 hdl' hpA vk10 hsd hrest hA f10 => ?_⟩
      obtain ⟨fnd, pg, pgl⟩ := all_pap (kd := "all") (lm := []) (sdm := none) (lk := 0) w1 w2 plne pllen hnum hsrt hnd kl ksub plnum (fun x => by rw [show decide (("all" : Str) = "all") = true from decide_eq_true rfl, lisB_all, ck]) rfl hsd hrest
      rw [txs, fnd] at hA
      have nT : NT [qk, qr, qf, qp, pw] H9 := .cons oq9 rfl (.cons o92 rfl (.cons o93 rfl (.cons o94 rfl (.cons w91 rfl .nil))))
      have fb10 : FrT K [] H H10 := fb9.fresh (f10.toN nT) (fun x hx => by
        have b8 : ∀ y, H8 y = none → H y = none := fun y z => fb8.b y z
        have b7 : ∀ y, H7 y = none → H y = none := fun y z => fb7.b y z
        simp only [List.mem_cons, List.not_mem_nil, or_false] at hx
        rcases hx with rfl | rfl | rfl | rfl | rfl
        · exact b8 _ hqk
        · exact b8 _ hqr8
        · exact b8 _ hqf8
        · exact b8 _ hqp8
        · exact b7 _ hpw)
      have hn10 := f10.k _ _ hn9 rfl (by simp [ne_of_none hn8 hqk, ne_of_none hn8 hqr8, ne_of_none hn8 hqf8, ne_of_none hn8 hqp8, ne_of_none hpn hpw])
      have hR10 : RowAt r a H10 := (f10.toN nT (K := K)).row (by simp [hR8.out hqk, hR8.out hqr8, hR8.out hqf8, hR8.out hqp8, hR7.out hpw]) hR9
      have wk10 := vk10.wk
      have pl100 := pgl ys0 ml0
      generalize (allF W (calmK xs) (meas W ⟨"all", [[]], none, [], []⟩) (⟨"all", [[]], none, [], []⟩, [], none, 0)).1 = st at wk10 pg pl100
      have pl100' : st.paper.length ≤ 100 := by omega
      have hold : ∀ {H'' : Hp}, FrT K [] H10 H'' → VkAt K H'' qk pw qr qf qp st ∧ H'' pn = some (.lst (xs.map V.str)) ∧ RowAt r a H'' ∧ FrT K [] H H'' := fun f => ⟨wk10.keepT f .nil (by simp) (by simp) (by simp) (by simp), f.k _ _ hn10 rfl (by simp), f.row (by simp) hR10, fb10.trans f⟩
      have xok : ∀ x ∈ xs, PyData.strOk x = true := fun x hx => strOk_num (hnum x hx)
      have rx : RL xs := ⟨sorted_pw hsrt, hnd⟩
      have hps : ∀ q ∈ st.paper, Bits q.1 ∧ q.1.length < W := fun q hq => ⟨(pg.met q hq).bits hnum, (pg.met q hq).1⟩
      have all1 := few_one w1 hnum rx pg.tl fun l hl _ => pg.all l hl
      clear vk10 f10 nT hn9 hR9 fb9 fb8 hn8 hR8 vk0 hsd hrest fnd f89 f9
      refine ⟨_, rfl, _, _, .lst (SqL.of hA) (dp_strs xs), .lst (SqL.of hn10) (dp_strs xs), shaped_strs xok, shaped_strs xok, _, rfl, ?_⟩
      rw [eqv_strs xok]
      obtain ⟨⟨dxq, oq⟩, _⟩ := id wk10
      refine ⟨_, rfl, _, rfl, qk, dxq, _, rfl, oq, vx_paper, qk, pw, qr, qf, qp, st, rfl, wk10, fun pP H11 hpP hP f11 => ?_⟩
      obtain ⟨zs, lz, ez⟩ := hP.lz
      have zl : zs.length ≤ 100 := by
        rw [← ez, List.length_map] at pl100'
        exact pl100'
      have zm : ∀ z ∈ zs, z.2 ∈ st.paper := fun z hz => by rw [← ez]; exact List.mem_map.mpr ⟨z, hz, rfl⟩
      obtain ⟨_, _, _, fb11⟩ := hold (f11.toT .nil)
      refine ⟨W, pP, zs, rfl, lz, zl, fun z hz => hps _ (zm z hz), w1, w2, fb11.t ht, fun t H12 f12 d12 => ?_⟩
      rw [ez] at d12
      obtain ⟨q12, e12, e12'⟩ := due_one hps all1.1 all1.2 d12
      have g12 : FrT K [] H10 H12 := (f11.toT .nil).trans f12
      obtain ⟨_, hn12, _, _⟩ := hold g12
      refine ⟨_, rfl, by show 2 ≤ sizeLine; decide, fun t2 ht2 => ?_⟩
      refine ⟨oneD xs, oneD xs, dp_one (same_upd ht2 _ _ e12) (same_upd ht2 _ _ e12'), dp_one upd_same (same_upd ht2 _ _ hn12), shaped_one xok, shaped_one xok, _, rfl, ?_⟩
      rw [eqv_one, decide_eq_true rfl]
      have g13 : FrT K [] H10 (upd H12 t2 (.tup [.str "one", .ref pn])) := g12.trans ((Frm.of (same_upd ht2)).toT .nil)
      revert g13
      generalize (upd H12 t2 (.tup [.str "one", .ref pn])) = H13
      intro g13
      -- the fewest
      obtain ⟨wk13, hn13, hR13, fb13⟩ := hold g13
      refine ⟨_, rfl, _, rfl, W, pn, xs, rfl, hn13, hnum, w1, w2, hlen, fb13.t ht, fun ms kvs pF H14 ml hkv hpF hF f14 => ?_⟩
      rw [few_eq w1 hnum hkv ml] at hF
      have g14 := g13.trans f14
      obtain ⟨wk14, hn14, hR14, fb14⟩ := hold g14
      obtain ⟨⟨dxq14, oq14⟩, _⟩ := id wk14
      refine ⟨_, rfl, qk, dxq14, _, rfl, oq14, vx_paper, qk, pw, qr, qf, qp, st, rfl, wk14, fun pP2 H15 hpP2 hP2 f15 => ?_⟩
      obtain ⟨ys, ly, ey⟩ := hP2.lz
      have yl : ys.length ≤ 100 := by
        rw [← ey, List.length_map] at pl100'
        exact pl100'
      have ym : ∀ z ∈ ys, z.2 ∈ st.paper := fun z hz => by rw [← ey]; exact List.mem_map.mpr ⟨z, hz, rfl⟩
      have hF15 := f15.k _ _ hF rfl (by simp)
      refine ⟨pP2, rfl, ⟨_, SqL.of ly.1⟩, fun D2 hD2 => ?_⟩
      have nD : pP2 ≠ D2 := ne_of_none ly.1 hD2
      have nF : pF ≠ D2 := ne_of_none hF15 hD2
      refine lc_list (K := K) (a := pP2) (xs := ys.map fun z => V.ref z.1) (fun j H' => H' = upd H15 D2 (.lst (((ys.take j).filter fun z => needL W xs z.2.1).map fun z => V.ref z.1))) rfl (fun j H' _ e => by rw [e]; exact SqL.of (by rw [upd_ne nD]; exact ly.1)) ?_ ?_
      · rintro j y H16 hj e
        subst e
        obtain ⟨z, hz, rfl⟩ := at_z hj
        have hzm := List.mem_of_getElem? hz
        have hz7 := ly.2 z hzm
        refine ⟨rfl, _, rfl, .inr (.inl ⟨z.1, _, _, _, rfl, rfl, SqT.of (by rw [upd_ne (ne_of_none hz7 hD2)]; exact hz7), rfl, _, rfl, pF, _, rfl, .inl (SqL.of (by rw [upd_ne nF]; exact hF15)), rfl, flat_strs _, _, rfl, ?_⟩)⟩
        have eb : (if false = true then !inV (txV z.2.1) (List.map V.str (fewL W xs ms)) else inV (txV z.2.1) (List.map V.str (fewL W xs ms))) = needL W xs z.2.1 := (inV_strs _ _).trans (few_mem ml (pg.met _ (ym z hzm)))
        rw [eb]
        exact iteB (fun cb => ⟨_, rfl, gz_go (g := fun z => needL W xs z.2.1) hz (by omega) cb⟩) (fun cb => gz_no (g := fun z => needL W xs z.2.1) hz cb)
      rintro H16 e16
      rw [List.length_map, List.take_length] at e16
      have ndy : ((ys.filter fun z => needL W xs z.2.1).map (·.2.1)).Nodup := by
        have := pg.nd
        rw [← ey, List.map_map] at this
        exact this.sublist (List.Sublist.map _ List.filter_sublist)
      have zfm : ∀ z ∈ ys.filter (fun z => needL W xs z.2.1), z ∈ ys ∧ needL W xs z.2.1 = true := fun z hz => List.mem_filter.mp hz
      have zfa : ∀ l, MetB W xs l → needL W xs l = true → ∃ z ∈ ys.filter (fun z => needL W xs z.2.1), z.2.1 = l := fun l h1 h2 => by
        obtain ⟨q, hq, e⟩ := pg.all l h1
        rw [← ey] at hq
        obtain ⟨z, hz, rfl⟩ := List.mem_map.mp hq
        exact ⟨z, List.mem_filter.mpr ⟨hz, by rw [e]; exact h2⟩, e⟩
      have zfl : (ys.filter (fun z => needL W xs z.2.1)).length ≤ 100 := Nat.le_trans (List.length_filter_le _ _) yl
      have g16 : Frm [] H15 H16 := by
        rw [e16]
        exact Frm.of (same_upd hD2)
      have hD16 : H16 D2 = some (.lst ((ys.filter (fun z => needL W xs z.2.1)).map fun z => V.ref z.1)) := by
        rw [e16]
        exact upd_same
      clear e16
      generalize (ys.filter fun z => needL W xs z.2.1) = zf at ndy zfm zfa zfl hD16
      have lz16 : LZ H16 D2 zf := ⟨hD16, fun z hz => g16.k _ _ (ly.2 z (zfm z hz).1) rfl (by simp)⟩
      have zfp : ∀ z ∈ zf, z.2 ∈ st.paper := fun z hz => ym z (zfm z hz).1
      have h16 : FrT K [] H10 H16 := g14.trans ((f15.trans g16).toT .nil)
      have hF16 := g16.k _ _ hF15 rfl (by simp)
      -- the looks' beginnings are the fewest
      refine ⟨_, rfl, D2, rfl, ⟨_, SqL.of hD16⟩, fun D3 hD3 => ?_⟩
      have nD3 : D2 ≠ D3 := ne_of_none hD16 hD3
      refine lc_list (K := K) (a := D2) (xs := zf.map fun z => V.ref z.1) (fun j H' => H' = upd H16 D3 (.lst (((zf.take j).map fun z => z.2.1).map txV))) rfl (fun j H' _ e => by rw [e]; exact SqL.of (by rw [upd_ne nD3]; exact hD16)) ?_ ?_
      · rintro j y H17 hj e
        subst e
        obtain ⟨z, hz, rfl⟩ := at_z hj
        have hj2 := (List.getElem?_eq_some_iff.mp hz).1
        have hz7 := lz16.2 z (List.mem_of_getElem? hz)
        refine ⟨rfl, _, rfl, .inr (.inl ⟨z.1, _, _, _, rfl, rfl, SqT.of (by rw [upd_ne (ne_of_none hz7 hD3)]; exact hz7), rfl, _, upd_same, ?_, ?_⟩)⟩
        · rw [List.length_map, List.length_map, List.length_take]
          exact big6 (by omega)
        · show _ = _
          rw [upd_upd, take_snoc hz, List.map_append, List.map_append]
          rfl
      rintro H17 rfl
      rw [List.length_map, List.take_length]
      have g17 : Frm [] H16 (upd H16 D3 (.lst ((zf.map fun z => z.2.1).map txV))) := Frm.of (same_upd hD3)
      have hD17 : (upd H16 D3 (.lst ((zf.map fun z => z.2.1).map txV))) D3 = some (.lst ((zf.map fun z => z.2.1).map txV)) := upd_same
      revert g17 hD17
      generalize (upd H16 D3 (.lst ((zf.map fun z => z.2.1).map txV))) = H17
      intro g17 hD17
      rw [txs] at hD17
      refine ⟨D3, _, rfl, SqL.of hD17, by rw [List.length_map, List.length_map]; exact Nat.le_of_lt (big6 (by omega)), fun ws pW pmw srt hpW => ?_⟩
      have ews : ws = fewL W xs ms := by
        have nss : ((zf.map fun z => z.2.1).map S).Nodup := List.Pairwise.map S (fun a b h e => h (S_inj e)) ndy
        refine sorted_eq srt (sorted_filter _ ml.srt) (pmw.trans ((List.perm_ext_iff_of_nodup nss (ml.nd.filter _)).mpr fun y => ?_))
        constructor
        · intro hy
          obtain ⟨l, hl, rfl⟩ := List.mem_map.mp hy
          obtain ⟨z, hz, rfl⟩ := List.mem_map.mp hl
          have := few_mem ml (pg.met _ (zfp z hz))
          rw [(zfm z hz).2] at this
          exact of_decide_eq_true this
        · intro hy
          obtain ⟨h1, h2⟩ := List.mem_filter.mp hy
          obtain ⟨l, rfl, hl⟩ := met_lst w1 hnum ((ml.mem y).mp h1)
          rw [S_list] at h2
          obtain ⟨z, hz, e⟩ := zfa l hl h2
          exact List.mem_map.mpr ⟨l, List.mem_map.mpr ⟨z, hz, e⟩, rfl⟩
      subst ews
      have fok : ∀ x ∈ fewL W xs ms, PyData.strOk x = true := fun x hx => strOk_met hnum ((ml.mem x).mp (List.mem_filter.mp hx).1)
      have g18 : Frm [] H16 (upd H17 pW (.lst ((fewL W xs ms).map V.str))) := g17.trans (Frm.of (same_upd hpW))
      have hW18 : (upd H17 pW (.lst ((fewL W xs ms).map V.str))) pW = some (.lst ((fewL W xs ms).map V.str)) := upd_same
      revert g18 hW18
      generalize (upd H17 pW (.lst ((fewL W xs ms).map V.str))) = H18
      intro g18 hW18
      have hF18 := g18.k _ _ hF16 rfl (by simp)
      refine ⟨_, rfl, _, _, .lst (SqL.of hW18) (dp_strs _), .lst (SqL.of hF18) (dp_strs _), shaped_strs fok, shaped_strs fok, _, rfl, ?_⟩
      rw [eqv_strs fok]
      have h18 := h16.trans (g18.toT .nil)
      obtain ⟨_, hn18, _, fb18⟩ := hold h18
      refine ⟨_, rfl, _, rfl, _, rfl, W, pn, xs, rfl, hn18, hnum, w1, w2, hlen, fb18.t ht, fun ms2 pF2 H19 ml2 hpF2 hF2 f19 => ?_⟩
      obtain rfl := ml2.one ml
      have hF19 := f19.k _ _ hF18 rfl (by simp)
      refine ⟨_, _, .lst (SqL.of hF19) (dp_strs _), .lst (SqL.of hF2) (dp_strs _), shaped_strs fok, shaped_strs fok, _, rfl, ?_⟩
      rw [eqv_strs fok]
      have lz19 := (lz16.keep g18).keepT f19
      have h19 := h18.trans f19
      obtain ⟨_, hn19, _, fb19⟩ := hold h19
      -- these show it
      have qmem : ∀ {zs' : List (Addr × Lk)}, (∀ z ∈ zs', z ∈ zf) → ∀ q ∈ zs'.map (·.2), ∃ z ∈ zf, z.2 = q := fun h q hq => by
        obtain ⟨z, hz, e⟩ := List.mem_map.mp hq
        exact ⟨z, h z hz, e⟩
      have hpsf : ∀ {zs' : List (Addr × Lk)}, (∀ z ∈ zs', z ∈ zf) → ∀ q ∈ zs'.map (·.2), Bits q.1 ∧ q.1.length < W := fun h q hq => by
        obtain ⟨z, hz, rfl⟩ := qmem h q hq
        exact hps _ (zfp z hz)
      have tlf : ∀ {zs' : List (Addr × Lk)}, (∀ z ∈ zs', z ∈ zf) → ∀ q ∈ zs'.map (·.2), Tl xs q := fun h q hq => by
        obtain ⟨z, hz, rfl⟩ := qmem h q hq
        exact pg.tl _ (zfp z hz)
      have onef := few_one (qs := zf.map (·.2)) w1 hnum rx (tlf fun z hz => hz) fun l h1 h2 => by
        obtain ⟨z, hz, e⟩ := zfa l h1 h2
        exact ⟨z.2, List.mem_map.mpr ⟨z, hz, rfl⟩, e⟩
      refine ⟨_, rfl, _, rfl, W, D2, zf, rfl, lz19, zfl, fun z hz => hps _ (zfp z hz), w1, w2, fb19.t ht, fun t20 H20 f20 d20 => ?_⟩
      obtain ⟨q20, e20, e20'⟩ := due_one (hpsf fun z hz => hz) onef.1 onef.2 d20
      have h20 := h19.trans f20
      obtain ⟨_, hn20, _, _⟩ := hold h20
      refine ⟨_, rfl, by show 2 ≤ sizeLine; decide, fun t21 ht21 => ?_⟩
      refine ⟨oneD xs, oneD xs, dp_one (same_upd ht21 _ _ e20) (same_upd ht21 _ _ e20'), dp_one upd_same (same_upd ht21 _ _ hn20), shaped_one xok, shaped_one xok, _, rfl, ?_⟩
      rw [eqv_one, decide_eq_true rfl]
      have k21 : FrT K [] H19 (upd H20 t21 (.tup [.str "one", .ref pn])) := f20.trans ((Frm.of (same_upd ht21)).toT .nil)
      revert k21
      generalize (upd H20 t21 (.tup [.str "one", .ref pn])) = H21
      intro k21
      have lz21 := lz19.keepT k21
      have h21 := h19.trans k21
      -- each of them is needed
      refine ⟨_, rfl, D2, _, rfl, .inl (SqL.of lz21.1), _, rfl, by rw [List.length_map]; omega, by rw [List.length_map]; omega, ?_⟩
      rw [List.length_map]
      refine for_range (lo := 0) (n := ((zf.length : Nat) : Int).toNat) (fun i2 σ H' => ∃ (v8 : Option V), σ = [some (.ref a), some (.ref r), some (.int (0 + (i : Int))), some (.int W), some (.ref pn), some (.ref qk), some (.ref pF), some (.ref D2), v8, v9, v10, v11, v12, v13] ∧ FrT K [] H21 H')
        ⟨_, rfl, FrT.refl _ _ _⟩ ?_ ?_
      · rintro i2 σ H22 hi2 ⟨v8, rfl, f22⟩
        have hi3 : i2 < zf.length := by omega
        have hz := List.getElem?_eq_getElem hi3
        generalize zf[i2] = z at hz
        have hzm := List.mem_of_getElem? hz
        have pn' := part_ne hz ndy
        have lz22 := lz21.keepT f22
        have h22 := h21.trans f22
        have ec1 : ∀ xs : List V, cutV xs none (some (0 + (i2 : Int))) = xs.take i2 := fun xs => by rw [Int.zero_add]; exact cut_take xs i2
        have ec2 : ∀ xs : List V, cutV xs (some (0 + (i2 : Int) + 1)) none = xs.drop (i2 + 1) := fun xs => by rw [show (0 : Int) + (i2 : Int) + 1 = ((i2 + 1 : Nat) : Int) by omega]; exact cut_drop xs (i2 + 1)
        refine ⟨_, rfl, _, rfl, _, rfl, _, rfl, D2, _, rfl, SqL.of lz22.1, fun p1 hp1 => ⟨_, rfl, _, rfl, _, _, rfl, rfl, _, rfl, D2, _, rfl, SqL.of (same_upd hp1 _ _ lz22.1), fun p2 hp2 => ⟨p1, p2, _, _, rfl, rfl, same_upd hp2 _ _ upd_same, upd_same, ?_, fun p3 hp3 => ?_⟩⟩⟩
        · rw [ec1, ec2, List.length_take, List.length_drop, List.length_map]
          exact Nat.le_trans (show _ ≤ 200 by omega) (by decide)
        rw [ec1, ec2]
        rw [ec1] at hp2
        rw [ec1, ec2] at hp3
        have g26 : Frm [] H22 (upd (upd (upd H22 p1 (.lst ((zf.map fun z => V.ref z.1).take i2))) p2 (.lst ((zf.map fun z => V.ref z.1).drop (i2 + 1)))) p3 (.lst ((zf.map fun z => V.ref z.1).take i2 ++ (zf.map fun z => V.ref z.1).drop (i2 + 1)))) := ((Frm.of (same_upd hp1)).trans (Frm.of (same_upd hp2))).trans (Frm.of (same_upd hp3))
        have lz26 : LZ (upd (upd (upd H22 p1 (.lst ((zf.map fun z => V.ref z.1).take i2))) p2 (.lst ((zf.map fun z => V.ref z.1).drop (i2 + 1)))) p3 (.lst ((zf.map fun z => V.ref z.1).take i2 ++ (zf.map fun z => V.ref z.1).drop (i2 + 1)))) p3 (zf.take i2 ++ zf.drop (i2 + 1)) := ⟨by rw [upd_same, List.map_append, List.map_take, List.map_drop], fun y hy => g26.k _ _ (lz22.2 y (pn' y hy).1) rfl (by simp)⟩
        revert g26 lz26
        generalize (upd (upd (upd H22 p1 (.lst ((zf.map fun z => V.ref z.1).take i2))) p2 (.lst ((zf.map fun z => V.ref z.1).drop (i2 + 1)))) p3 (.lst ((zf.map fun z => V.ref z.1).take i2 ++ (zf.map fun z => V.ref z.1).drop (i2 + 1)))) = H26
        intro g26 lz26
        have f26 := f22.trans (g26.toT .nil)
        obtain ⟨_, _, _, fb26⟩ := hold (h21.trans f26)
        refine ⟨W, p3, _, rfl, lz26, ?_, fun y hy => hps _ (zfp y (pn' y hy).1), w1, w2, fb26.t ht, fun t27 H27 f27 d27 => ⟨by show 1 ≤ sizeLine; decide, fun t28 ht28 => ?_⟩⟩
        · rw [List.length_append, List.length_take, List.length_drop]
          omega
        have tl' := tlf fun y hy => (pn' y hy).1
        obtain ⟨s', ne', top'⟩ := few_min (l := z.2.1) (rest := (zf.take i2 ++ zf.drop (i2 + 1)).map (·.2)) hnum rx tl' (fun q hq => by
          obtain ⟨y, hy, rfl⟩ := List.mem_map.mp hq
          exact ⟨pg.met _ (zfp y (pn' y hy).1), (pn' y hy).2⟩) (pg.met _ (zfp z hzm)) (zfm z hzm).2
        have e27 := due_more (hpsf fun y hy => (pn' y hy).1) (s := xs) ⟨hnum, tl', rx⟩ top' (Ne.symm ne') d27
        refine ⟨.tuple [.str "more"], .tuple [.str "more"], .tup (SqT.of (same_upd ht28 _ _ e27)) (.cons (.str _) .nil), .tup (SqT.of upd_same) (.cons (.str _) .nil), by decide +kernel, by decide +kernel, _, rfl, ?_⟩
        rw [show PyData.eqv (.tuple [.str "more"]) (.tuple [.str "more"]) = true by decide +kernel]
        exact ⟨_, rfl, (f26.trans f27).trans ((Frm.of (same_upd ht28)).toT .nil)⟩
      rintro σ H22 ⟨v8, rfl, f22⟩
      have lz22 := lz21.keepT f22
      have h22 := h21.trans f22
      obtain ⟨_, hn22, hR22, fb22⟩ := hold h22
      obtain ⟨_, _, hR15, _⟩ := hold (g14.trans (f15.toT .nil))
      have nrD2 : r ≠ D2 := hR15.out hD2
      have zpos : 0 < zf.length := by
        obtain ⟨l, h1, h2⟩ := few_pos (xs := xs) w1 hnum
        obtain ⟨z, hz, _⟩ := zfa l h1 h2
        exact List.length_pos_of_mem hz
      refine ⟨_, rfl, _, rfl, D2, _, rfl, .inl (SqL.of lz22.1), r, a, _, rfl, hR22, fb22.scr .nil hS, by rw [List.length_map]; omega, by rw [List.length_map]; omega, fun at_ H23 a0 a1 hR23 f23 => ?_⟩
      have fb23 := fb22.fresh (f23.toT hR22.nl) (by simpa using hr0)
      have lz23 := lz22.row f23 hR22 (Ne.symm nrD2)
      have hn23 := f23.at hR22.nl hn22 rfl (nl_strs xs)
      rw [List.length_map] at a1
      obtain ⟨z, hzm, hzat, hzix⟩ := at_lk a0 a1
      refine ⟨_, rfl, _, rfl, D2, _, at_, .ref z.1, rfl, rfl, SqL.of lz23.1, hzat, z.1, _, rfl, SqT.of (lz23.2 z hzm), rfl, _, _, rfl, _, _, rfl, _, _, rfl, rfl, ?_⟩
      refine ⟨_, rfl, _, rfl, _, rfl, _, rfl, by show 3 ≤ sizeLine; decide, fun tA htA => ⟨_, rfl, _, rfl, _, rfl, _, rfl, by show 3 ≤ sizeLine; decide, fun tB htB => ⟨_, rfl, _, rfl, _, rfl, _, rfl, _, rfl, by show 3 ≤ sizeLine; decide, fun tC htC => ⟨by show 3 ≤ sizeLine; decide, fun pO hpO => ?_⟩⟩⟩⟩
      generalize hH24 : (upd _ pO _) = H24
      have g24 : Frm [] H23 H24 := by
        rw [← hH24]
        exact (((Frm.of (same_upd htA)).trans (Frm.of (same_upd htB))).trans (Frm.of (same_upd htC))).trans (Frm.of (same_upd hpO))
      have eO : H24 pO = some (.lst [.ref tA, .ref tB, .ref tC]) := by rw [← hH24]; exact upd_same
      have eA : H24 tA = some (.tup [txV z.2.1, .bl (!z.2.2.1), .bl z.2.2.2]) := by rw [← hH24]; exact same_upd hpO _ _ (same_upd htC _ _ (same_upd htB _ _ upd_same))
      have eB : H24 tB = some (.tup [txV z.2.1, .bl z.2.2.1, .bl (!z.2.2.2)]) := by rw [← hH24]; exact same_upd hpO _ _ (same_upd htC _ _ upd_same)
      have eC : H24 tC = some (.tup [txV z.2.1, .bl (!z.2.2.1), .bl (!z.2.2.2)]) := by rw [← hH24]; exact same_upd hpO _ _ upd_same
      clear hH24
      have lz24 := lz23.keep g24
      have hn24 := g24.k _ _ hn23 rfl (by simp)
      have hR24 : RowAt r a H24 := (g24.toT .nil (K := K)).row (by simp) hR23
      have fb24 := fb23.trans (g24.toT .nil)
      have nrO : r ≠ pO := fun e => by
        obtain ⟨i3, j3, k3, e3, _⟩ := hR24
        rw [e, eO] at e3
        cases e3
      obtain ⟨nA, rfl⟩ : ∃ n : Nat, at_ = n := ⟨at_.toNat, by omega⟩
      have ec1 : ∀ xs : List V, cutV xs none (some (nA : Int)) = xs.take nA := fun xs => cut_take xs nA
      have ec2 : ∀ xs : List V, cutV xs (some ((nA : Int) + 1)) none = xs.drop (nA + 1) := fun xs => by rw [show (nA : Int) + 1 = ((nA + 1 : Nat) : Int) by omega]; exact cut_drop xs (nA + 1)
      refine ⟨_, rfl, _, rfl, _, rfl, _, rfl, D2, _, rfl, SqL.of lz24.1, fun p1 hp1 => ?_⟩
      rw [ec1]
      have g25 : Frm [] H24 (upd H24 p1 (.lst ((zf.map fun z => V.ref z.1).take nA))) := Frm.of (same_upd hp1)
      have e25 : (upd H24 p1 (.lst ((zf.map fun z => V.ref z.1).take nA))) p1 = some (.lst ((zf.map fun z => V.ref z.1).take nA)) := upd_same
      have nr1 : r ≠ p1 := hR24.out hp1
      revert g25 e25
      generalize (upd H24 p1 (.lst ((zf.map fun z => V.ref z.1).take nA))) = H25
      intro g25 e25
      have hR25 : RowAt r a H25 := (g25.toT .nil (K := K)).row (by simp) hR24
      have fb25 := fb24.trans (g25.toT .nil)
      refine ⟨_, rfl, _, rfl, r, a, 3, rfl, hR25, fb25.scr .nil hS, by decide, by decide, fun v3 H26 u0 u1 hR26 f26 => ?_⟩
      have fb26 := fb25.fresh (f26.toT hR25.nl) (by simpa using hr0)
      have lz26 := (lz24.keep g25).row f26 hR25 (Ne.symm nrD2)
      have hn26 := f26.at hR25.nl (g25.k _ _ hn24 rfl (by simp)) rfl (nl_strs xs)
      have e26 := f26.k _ _ e25 rfl (by simpa using Ne.symm nr1)
      have eO26 := f26.k _ _ (g25.k _ _ eO rfl (by simp)) rfl (by simpa using Ne.symm nrO)
      have tupk : ∀ {t : Addr} {vs : List V}, H24 t = some (.tup vs) → H26 t = some (.tup vs) := fun {t vs} h => by
        obtain ⟨i3, j3, k3, e3, _⟩ := id hR25
        have h25 := g25.k _ _ h rfl (by simp)
        exact f26.k _ _ h25 rfl (by simpa using ne_of h25 e3 (by intro y; cases y))
      obtain ⟨tX, bx, bY, hatX, eX, nX⟩ : ∃ (tX : Addr) (bx bY : Bool), atI [V.ref tA, .ref tB, .ref tC] v3 = some (.ref tX) ∧ H26 tX = some (.tup [txV z.2.1, .bl bx, .bl bY]) ∧ ¬ (bx = z.2.2.1 ∧ bY = z.2.2.2) := by
        have hv : v3 = 0 ∨ v3 = 1 ∨ v3 = 2 := by omega
        rcases hv with rfl | rfl | rfl
        · exact ⟨tA, _, _, rfl, tupk eA, fun h => by cases e : z.2.2.1 <;> rw [e] at h <;> cases h.1⟩
        · exact ⟨tB, _, _, rfl, tupk eB, fun h => by cases e : z.2.2.2 <;> rw [e] at h <;> cases h.2⟩
        · exact ⟨tC, _, _, rfl, tupk eC, fun h => by cases e : z.2.2.1 <;> rw [e] at h <;> cases h.1⟩
      refine ⟨pO, _, v3, _, rfl, rfl, SqL.of eO26, hatX, by show 1 ≤ sizeLine; decide, fun p4 hp4 => ?_⟩
      have n14 : p1 ≠ p4 := ne_of_none e26 hp4
      refine ⟨p1, p4, _, _, rfl, rfl, by rw [upd_ne n14]; exact e26, upd_same, ?_, fun p5 hp5 => ?_⟩
      · rw [List.length_take, List.length_map]
        exact Nat.le_trans (show min nA zf.length + 1 ≤ 101 by omega) (by decide)
      have g27 : Frm [] H26 (upd (upd H26 p4 (.lst [.ref tX])) p5 (.lst ((zf.map fun z => V.ref z.1).take nA ++ [.ref tX]))) := (Frm.of (same_upd hp4)).trans (Frm.of (same_upd hp5))
      have e27 : (upd (upd H26 p4 (.lst [.ref tX])) p5 (.lst ((zf.map fun z => V.ref z.1).take nA ++ [.ref tX]))) p5 = some (.lst ((zf.map fun z => V.ref z.1).take nA ++ [.ref tX])) := upd_same
      revert g27 e27
      generalize (upd (upd H26 p4 (.lst [.ref tX])) p5 (.lst ((zf.map fun z => V.ref z.1).take nA ++ [.ref tX]))) = H27
      intro g27 e27
      have lz27 := lz26.keep g27
      refine ⟨_, rfl, _, rfl, _, _, rfl, rfl, _, rfl, D2, _, rfl, SqL.of lz27.1, fun p2 hp2 => ?_⟩
      rw [ec2]
      have n52 : p5 ≠ p2 := ne_of_none e27 hp2
      refine ⟨p5, p2, _, _, rfl, rfl, by rw [upd_ne n52]; exact e27, upd_same, ?_, fun p6 hp6 => ?_⟩
      · rw [List.length_append, List.length_take, List.length_drop, List.length_map]
        exact Nat.le_trans (show min nA zf.length + 1 + (zf.length - (nA + 1)) ≤ 300 by omega) (by decide)
      have g29 : Frm [] H27 (upd (upd H27 p2 (.lst ((zf.map fun z => V.ref z.1).drop (nA + 1)))) p6 (.lst (((zf.map fun z => V.ref z.1).take nA ++ [.ref tX]) ++ (zf.map fun z => V.ref z.1).drop (nA + 1)))) := (Frm.of (same_upd hp2)).trans (Frm.of (same_upd hp6))
      have zin : ∀ y ∈ zf.take nA ++ [(tX, (z.2.1, bx, bY))] ++ zf.drop (nA + 1), y ∈ zf ∨ y = (tX, (z.2.1, bx, bY)) := fun y hy => by
        rcases List.mem_append.mp hy with c | c
        · rcases List.mem_append.mp c with c | c
          · exact .inl (List.mem_of_mem_take c)
          · exact .inr (List.mem_singleton.mp c)
        · exact .inl (List.mem_of_mem_drop c)
      have lz29 : LZ (upd (upd H27 p2 (.lst ((zf.map fun z => V.ref z.1).drop (nA + 1)))) p6 (.lst (((zf.map fun z => V.ref z.1).take nA ++ [.ref tX]) ++ (zf.map fun z => V.ref z.1).drop (nA + 1)))) p6 (zf.take nA ++ [(tX, (z.2.1, bx, bY))] ++ zf.drop (nA + 1)) := by
        refine ⟨by rw [upd_same, List.map_append, List.map_append, List.map_take, List.map_drop]; rfl, fun y hy => ?_⟩
        rcases zin y hy with c | rfl
        · exact g29.k _ _ (lz27.2 y c) rfl (by simp)
        · exact g29.k _ _ (g27.k _ _ eX rfl (by simp)) rfl (by simp)
      have hn29 := g29.k _ _ (g27.k _ _ hn26 rfl (by simp)) rfl (by simp)
      revert g29 lz29 hn29
      generalize (upd (upd H27 p2 (.lst ((zf.map fun z => V.ref z.1).drop (nA + 1)))) p6 (.lst (((zf.map fun z => V.ref z.1).take nA ++ [.ref tX]) ++ (zf.map fun z => V.ref z.1).drop (nA + 1)))) = H29
      intro g29 lz29 hn29
      have gg29 := g27.trans g29
      have fb29 := fb26.trans (gg29.toT .nil)
      have hps' : ∀ q ∈ (zf.take nA ++ [(tX, (z.2.1, bx, bY))] ++ zf.drop (nA + 1)).map (·.2), Bits q.1 ∧ q.1.length < W := fun q hq => by
        obtain ⟨y, hy, rfl⟩ := List.mem_map.mp hq
        rcases zin y hy with c | rfl
        · exact hps _ (zfp y c)
        · exact hps z.2 (zfp z hzm)
      have nt : ¬ Top ((zf.take nA ++ [(tX, (z.2.1, bx, bY))] ++ zf.drop (nA + 1)).map (·.2)) W xs := fun h => by
        have h1 := h.2.1 (z.2.1, bx, bY) (List.mem_map.mpr ⟨(tX, (z.2.1, bx, bY)), by simp, rfl⟩)
        have h2 := pg.tl _ (zfp z hzm)
        exact nX ⟨h1.1.trans h2.1.symm, h1.2.trans h2.2.symm⟩
      refine ⟨W, p6, _, rfl, lz29, ?_, fun y hy => hps' _ (List.mem_map.mpr ⟨y, hy, rfl⟩), w1, w2, fb29.t ht, fun t30 H30 f30 d30 => ⟨_, rfl, by show 2 ≤ sizeLine; decide, fun t31 ht31 => ?_⟩⟩
      · rw [List.length_append, List.length_append, List.length_take, List.length_drop]
        show min nA zf.length + 1 + (zf.length - (nA + 1)) ≤ 100
        omega
      have g31 : Frm [] H30 (upd H30 t31 (.tup [.str "one", .ref pn])) := Frm.of (same_upd ht31)
      obtain ⟨d, dp, sh, ned⟩ := due_not (K := K) hps' nt (d30.keepT (g31.toT (K := K) .nil))
      have hn30 := f30.k _ _ hn29 rfl (by simp)
      refine ⟨d, oneD xs, dp, dp_one upd_same (same_upd ht31 _ _ hn30), sh, shaped_one xok, _, rfl, ?_⟩
      rw [ned]
      have f31 := ((gg29.toT .nil).trans f30).trans (g31.toT .nil)
      exact ⟨_, _, _, _, _, _, _, _, _, _, _, _, rfl, f31.row (by simp) hR26, fb26.trans f31⟩
    · rintro σ H1 ⟨v2, v3, v4, v5, v6, v7, v8, v9, v10, v11, v12, v13, rfl, hR1, fb⟩
      exact k _
end
end B

set_option Elab.async false
set_option linter.all false
set_option maxRecDepth 100000
set_option maxHeartbeats 4000000
namespace B
open PySem PySem.Spec PyProof.Rows L2
abbrev cs (K : PySem.W.Frag) : List (Addr × Addr) := tf.map (He.cT K)
theorem law_at {w : World} {mg : Str → Option Value} {fa0 : Addr} {h : Heap} {K : PySem.W.Frag} (KX : K.In h) (G : h.Ns mainGlobals mg) (hmg : mg ("law" : Str) = some (.ref fa0)) (c : He.SaysX fa fn [] tf ex w h K) :
    LamX.LawAtS PySem.Challenge.rw_busfind_k08_whole_papers_of_walks_show w K CX0 18 63 "_law_script" mg fa0 h := by
  obtain ⟨fd, F⟩ := c.t.d.def_ 43 (d := d_law)
  have e := hmg.symm.trans (He.glo_ok KX G (c.t.d.fact 24))
  cases e
  have b := FunD.bindsA (ps := ["_law_script"]) F fun _ _ _ _ _ _ us hl => match us, hl with | [_], _ => rfl
  have cm : ∀ {p : Addr × Addr}, p ∈ cs K → ∃ q ∈ tf, p = He.cT K q := fun hp => by
    obtain ⟨q, hq, e⟩ := List.mem_map.mp hp
    exact ⟨q, hq, e.symm⟩
  refine ⟨fd, cs K, spLaw K, fun p hp => ?_, fun p hp => ?_, fun p hp => ?_, fun s u => b s [u] rfl, fun H a ns hl _ hT hS => ?_, fun base X2 G2 tb => ?_⟩
  · obtain ⟨q, hq, rfl⟩ := cm hp
    exact c.empty q hq
  · obtain ⟨q, hq, rfl⟩ := cm hp
    exact c.out q hq
  · obtain ⟨q, hq, rfl⟩ := cm hp
    exact PySem.W.codeHd_of_K KX (c.hd q hq)
  · exact ⟨a, rfl, ⟨ns, hS⟩, tb_empty hT, fun _ => rfl⟩
  · have T : Txt (PySem.Challenge.rw_busfind_k08_whole_papers_of_walks_show).prog w K mg base := ⟨X2, G2, c.t.d, c.more, fun p hp => tb (He.cT K p) (List.mem_map.mpr ⟨p, hp, rfl⟩)⟩
    exact law_ok T F
end B

set_option Elab.async false
set_option linter.all false
set_option maxRecDepth 100000
open PySem PySem.W PySem.Calls PyProof.Rows
set_option maxHeartbeats 0 in
theorem PySem.Challenge.cw_busfind_k08_whole_papers_of_walks_show_holds : PySem.Challenge.rw_busfind_k08_whole_papers_of_walks_show.Holds := by
  w_on; o_law
  refine HandSHeadRun.head_any (r := B.R) (q := view B.R.prog [48]) (H := B.hk) (ob := B.ob) (M := 6000) (loose := B.names) (d := HandSHeadRun.topDef B.R.prog 48) (kwd := []) B.ob_eq (by kernel_rfl) (fun s => by kernel_rfl) B.run (by kernel_rfl) (by kernel_rfl) (by kernel_rfl) (by rfl) (by first | assumption | decide +kernel) (by decide +kernel) ⟨rfl, rfl, rfl, rfl, rfl, by decide +kernel⟩ ?hw ?hc
  case hw => w_witness2
  case hc =>
    refine LamX.walk_ofTsE (l := PySem.Challenge.rw_busfind_k08_whole_papers_of_walks_show) (n := 63) (k := 18) (x := "_law_script") (CX := fun _ => L2.CX0) rfl (by decide) (by kernel_rfl) ⟨rfl, by decide, by decide⟩ ?F (fun _ _ _ _ _ z => z)
    intro w mg fa h Y G hmg0
    obtain ⟨K, KX, c⟩ := Y
    have hmg : mg ("law" : PySem.Str) = some (.ref fa) := by
      have e : (HandSHeadRun.topDef B.R.prog 48).name = ("law" : PySem.Str) := by kernel_rfl
      rw [← e]
      exact hmg0
    exact ⟨K, KX, B.law_at KX G hmg c⟩
