import PyProof.Rows.All
import Wide.All
import OpenK.AllK
import Wide.FinOn
import HandS.ForMost
import HandS.Exc
import HandS.ExcOwn
import HandS.WordsExc
import HandS.ExcIs
import HandS.IsInst
import HandS.Lambda
import HandS.AnyAll
import HandS.EndTab
import HandS.Codes
import HandS.Defaults
import HandS.Head0
import HandS.Head1
import HandS.Head2
import HandS.Head3
import HandS.HeadEnd
import HandS.HeadHook1
import HandS.HeadHook2
import HandS.HeadHook3
import HandS.HeadHook4
import HandS.HeadWalk
import HandS.Walk
import HandS.More
import KE.KDflt
import HandS.Flow
import HandS.ExcValue
import HandS.RaiseMore
import HandS.FStr
import PySem.Challenge.RW_busfind_k01_refused
set_option Elab.async false
set_option linter.all false
set_option maxRecDepth 100000
set_option maxHeartbeats 4000000
namespace B
open PySem PySem.Spec PyProof.Rows L2
def topS (i : Nat) : Stmt := PySem.Challenge.pw_busfind_k01_refused.main.body.getD i (.Pass ⟨0, 0, 0, 0⟩)
abbrev s_BadLooks_init : Stmt := inClass (topS 13) 0
abbrev s_BadStep_init : Stmt := inClass (topS 17) 0
abbrev s_BadText_init : Stmt := inClass (topS 18) 0
abbrev s_require_width : Stmt := topS 22
abbrev s_require_number : Stmt := topS 23
abbrev s_is_number : Stmt := topS 24
abbrev s_met : Stmt := topS 27
abbrev s_require_kind : Stmt := topS 30
abbrev s_Wire_init : Stmt := inClass (topS 31) 0
abbrev s_Wire_hang : Stmt := inClass (topS 31) 1
abbrev s_Wire_off : Stmt := inClass (topS 31) 2
abbrev s_Wire_alarm : Stmt := inClass (topS 31) 3
abbrev s_Wire_calm : Stmt := inClass (topS 31) 4
abbrev s_Wire_hung : Stmt := inClass (topS 31) 5
abbrev s_Wire_alarms : Stmt := inClass (topS 31) 6
abbrev s_Wire_begin : Stmt := inClass (topS 31) 7
abbrev s_Wire_look : Stmt := inClass (topS 31) 8
abbrev s_Wire_say : Stmt := inClass (topS 31) 9
abbrev s_Wire_looks : Stmt := inClass (topS 31) 10
abbrev s_Wire__require_hanging : Stmt := inClass (topS 31) 11
abbrev s_Wire__require_round : Stmt := inClass (topS 31) 12
abbrev s_Walk_init : Stmt := inClass (topS 33) 0
abbrev s_Walk_step : Stmt := inClass (topS 33) 1
abbrev s_Walk_go_round : Stmt := inClass (topS 33) 2
abbrev s_Walk_go_all : Stmt := inClass (topS 33) 3
abbrev s_Walk_left : Stmt := inClass (topS 33) 4
abbrev s_Walk_found : Stmt := inClass (topS 33) 5
abbrev s_Walk_is_under_way : Stmt := inClass (topS 33) 7
abbrev s_Walk__begin_round : Stmt := inClass (topS 33) 8
abbrev s_Walk__say : Stmt := inClass (topS 33) 9
abbrev s_played : Stmt := topS 47
abbrev s_shown : Stmt := topS 53
abbrev s_fewest : Stmt := topS 58
abbrev s_judged : Stmt := topS 66
abbrev s_least : Stmt := topS 68
abbrev s_plan_of : Stmt := topS 80
abbrev s_follows : Stmt := topS 85
abbrev s_ltaken : Stmt := topS 90
abbrev s_lalike : Stmt := topS 91
abbrev s_lword : Stmt := topS 92
abbrev s_lnumber : Stmt := topS 93
abbrev s_lnear : Stmt := topS 94
abbrev s_lthings : Stmt := topS 95
abbrev s_lwidth : Stmt := topS 96
abbrev s_lmade : Stmt := topS 97
abbrev s_lwide : Stmt := topS 98
abbrev s_lodd : Stmt := topS 99
abbrev s_lrounds : Stmt := topS 100
abbrev s_law : Stmt := topS 101
theorem sc_require_width : FnScope ["width"] ["width"] (defScope s_require_width) := ⟨rfl, rfl, rfl, by decide +kernel, rfl, by decide +kernel, by decide +kernel⟩
theorem sc_require_number : FnScope ["width", "number"] ["width", "number"] (defScope s_require_number) := ⟨rfl, rfl, rfl, by decide +kernel, rfl, by decide +kernel, by decide +kernel⟩
theorem sc_is_number : FnScope ["width", "number", "sign"] ["width", "number"] (defScope s_is_number) := ⟨rfl, rfl, rfl, by decide +kernel, rfl, by decide +kernel, by decide +kernel⟩
theorem sc_met : FnScope ["width", "numbers", "number", "texts", "text", "length"] ["width", "numbers"] (defScope s_met) := ⟨rfl, rfl, rfl, by decide +kernel, rfl, by decide +kernel, by decide +kernel⟩
theorem sc_require_kind : FnScope ["kind"] ["kind"] (defScope s_require_kind) := ⟨rfl, rfl, rfl, by decide +kernel, rfl, by decide +kernel, by decide +kernel⟩
theorem sc_Wire_init : FnScope ["self", "width"] ["self", "width"] (defScope s_Wire_init) := ⟨rfl, rfl, rfl, by decide +kernel, rfl, by decide +kernel, by decide +kernel⟩
theorem sc_Wire_hang : FnScope ["self", "number"] ["self", "number"] (defScope s_Wire_hang) := ⟨rfl, rfl, rfl, by decide +kernel, rfl, by decide +kernel, by decide +kernel⟩
theorem sc_Wire_off : FnScope ["self", "number", "other"] ["self", "number"] (defScope s_Wire_off) := ⟨rfl, rfl, rfl, by decide +kernel, rfl, by decide +kernel, by decide +kernel⟩
theorem sc_Wire_alarm : FnScope ["self", "number"] ["self", "number"] (defScope s_Wire_alarm) := ⟨rfl, rfl, rfl, by decide +kernel, rfl, by decide +kernel, by decide +kernel⟩
theorem sc_Wire_calm : FnScope ["self", "number"] ["self", "number"] (defScope s_Wire_calm) := ⟨rfl, rfl, rfl, by decide +kernel, rfl, by decide +kernel, by decide +kernel⟩
theorem sc_Wire_hung : FnScope ["self"] ["self"] (defScope s_Wire_hung) := ⟨rfl, rfl, rfl, by decide +kernel, rfl, by decide +kernel, by decide +kernel⟩
theorem sc_Wire_alarms : FnScope ["self", "number"] ["self"] (defScope s_Wire_alarms) := ⟨rfl, rfl, rfl, by decide +kernel, rfl, by decide +kernel, by decide +kernel⟩
theorem sc_Wire_begin : FnScope ["self", "kind"] ["self", "kind"] (defScope s_Wire_begin) := ⟨rfl, rfl, rfl, by decide +kernel, rfl, by decide +kernel, by decide +kernel⟩
theorem sc_Wire_look : FnScope ["self", "signs", "number"] ["self"] (defScope s_Wire_look) := ⟨rfl, rfl, rfl, by decide +kernel, rfl, by decide +kernel, by decide +kernel⟩
theorem sc_Wire_say : FnScope ["self", "bit", "sign", "number"] ["self", "bit"] (defScope s_Wire_say) := ⟨rfl, rfl, rfl, by decide +kernel, rfl, by decide +kernel, by decide +kernel⟩
theorem sc_Wire_looks : FnScope ["self"] ["self"] (defScope s_Wire_looks) := ⟨rfl, rfl, rfl, by decide +kernel, rfl, by decide +kernel, by decide +kernel⟩
theorem sc_Wire__require_hanging : FnScope ["self", "number"] ["self", "number"] (defScope s_Wire__require_hanging) := ⟨rfl, rfl, rfl, by decide +kernel, rfl, by decide +kernel, by decide +kernel⟩
theorem sc_Wire__require_round : FnScope ["self"] ["self"] (defScope s_Wire__require_round) := ⟨rfl, rfl, rfl, by decide +kernel, rfl, by decide +kernel, by decide +kernel⟩
theorem sc_Walk_init : FnScope ["self", "wire", "kind"] ["self", "wire", "kind"] (defScope s_Walk_init) := ⟨rfl, rfl, rfl, by decide +kernel, rfl, by decide +kernel, by decide +kernel⟩
theorem sc_Walk_step : FnScope ["self", "zero", "one"] ["self"] (defScope s_Walk_step) := ⟨rfl, rfl, rfl, by decide +kernel, rfl, by decide +kernel, by decide +kernel⟩
theorem sc_Walk_go_round : FnScope ["self", "came"] ["self"] (defScope s_Walk_go_round) := ⟨rfl, rfl, rfl, by decide +kernel, rfl, by decide +kernel, by decide +kernel⟩
theorem sc_Walk_go_all : FnScope ["self"] ["self"] (defScope s_Walk_go_all) := ⟨rfl, rfl, rfl, by decide +kernel, rfl, by decide +kernel, by decide +kernel⟩
theorem sc_Walk_left : FnScope ["self"] ["self"] (defScope s_Walk_left) := ⟨rfl, rfl, rfl, by decide +kernel, rfl, by decide +kernel, by decide +kernel⟩
theorem sc_Walk_found : FnScope ["self"] ["self"] (defScope s_Walk_found) := ⟨rfl, rfl, rfl, by decide +kernel, rfl, by decide +kernel, by decide +kernel⟩
theorem sc_Walk_is_under_way : FnScope ["self"] ["self"] (defScope s_Walk_is_under_way) := ⟨rfl, rfl, rfl, by decide +kernel, rfl, by decide +kernel, by decide +kernel⟩
theorem sc_Walk__begin_round : FnScope ["self"] ["self"] (defScope s_Walk__begin_round) := ⟨rfl, rfl, rfl, by decide +kernel, rfl, by decide +kernel, by decide +kernel⟩
theorem sc_Walk__say : FnScope ["self", "signs", "sign", "said"] ["self", "signs"] (defScope s_Walk__say) := ⟨rfl, rfl, rfl, by decide +kernel, rfl, by decide +kernel, by decide +kernel⟩
theorem sc_played : FnScope ["width", "steps", "day", "told", "hung", "looks", "step"] ["width", "steps"] (defScope s_played) := ⟨rfl, rfl, rfl, by decide +kernel, rfl, by decide +kernel, by decide +kernel⟩
theorem sc_shown : FnScope ["width", "looks", "sets"] ["width", "looks"] (defScope s_shown) := ⟨rfl, rfl, rfl, by decide +kernel, rfl, by decide +kernel, by decide +kernel⟩
theorem sc_fewest : FnScope ["width", "numbers", "beginnings", "reached", "number", "length", "beginning"] ["width", "numbers"] (defScope s_fewest) := ⟨rfl, rfl, rfl, by decide +kernel, rfl, by decide +kernel, by decide +kernel⟩
theorem sc_judged : FnScope ["width", "roster", "looks", "numbers"] ["width", "roster", "looks"] (defScope s_judged) := ⟨rfl, rfl, rfl, by decide +kernel, rfl, by decide +kernel, by decide +kernel⟩
theorem sc_least : FnScope ["width", "roster", "hung", "others", "excluding", "beginning", "number", "numbers"] ["width", "roster", "hung"] (defScope s_least) := ⟨rfl, rfl, rfl, by decide +kernel, rfl, by decide +kernel, by decide +kernel⟩
theorem sc_plan_of : FnScope ["width", "roster", "sets"] ["width", "roster"] (defScope s_plan_of) := ⟨rfl, rfl, rfl, by decide +kernel, rfl, by decide +kernel, by decide +kernel⟩
theorem sc_follows : FnScope ["width", "roster", "plan", "worst", "numbers", "told", "looks"] ["width", "roster", "plan"] (defScope s_follows) := ⟨rfl, rfl, rfl, by decide +kernel, rfl, by decide +kernel, by decide +kernel⟩
theorem sc_ltaken : FnScope ["_law_row", "_law_many", "_law_found", "_law_cell"] ["_law_row", "_law_many"] (defScope s_ltaken) := ⟨rfl, rfl, rfl, by decide +kernel, rfl, by decide +kernel, by decide +kernel⟩
theorem sc_lalike : FnScope ["_law_found", "_law_due", "_law_k"] ["_law_found", "_law_due"] (defScope s_lalike) := ⟨rfl, rfl, rfl, by decide +kernel, rfl, by decide +kernel, by decide +kernel⟩
theorem sc_lword : FnScope ["_law_work", "_law_e", "_law_kinds", "_law_words", "_law_word_here"] ["_law_work"] (defScope s_lword) := ⟨rfl, rfl, rfl, by decide +kernel, rfl, by decide +kernel, by decide +kernel⟩
theorem sc_lnumber : FnScope ["_law_row", "_law_width_here", "_law_k"] ["_law_row", "_law_width_here"] (defScope s_lnumber) := ⟨rfl, rfl, rfl, by decide +kernel, rfl, by decide +kernel, by decide +kernel⟩
theorem sc_lnear : FnScope ["_law_row", "_law_width_here", "_law_some", "_law_number_here", "_law_many"] ["_law_row", "_law_width_here", "_law_some"] (defScope s_lnear) := ⟨rfl, rfl, rfl, by decide +kernel, rfl, by decide +kernel, by decide +kernel⟩
theorem sc_lthings : FnScope ["_law_row", "_law_width_here", "_law_most", "_law_found", "_law_base", "_law_k", "_law_number_here"] ["_law_row", "_law_width_here", "_law_most"] (defScope s_lthings) := ⟨rfl, rfl, rfl, by decide +kernel, rfl, by decide +kernel, by decide +kernel⟩
theorem sc_lwidth : FnScope ["_law_row"] ["_law_row"] (defScope s_lwidth) := ⟨rfl, rfl, rfl, by decide +kernel, rfl, by decide +kernel, by decide +kernel⟩
theorem sc_lmade : FnScope ["_law_width_here", "_law_numbers", "_law_wire", "_law_number_here"] ["_law_width_here", "_law_numbers"] (defScope s_lmade) := ⟨rfl, rfl, rfl, by decide +kernel, rfl, by decide +kernel, by decide +kernel⟩
theorem sc_lwide : FnScope ["_law_bad", "_law_works"] ["_law_bad"] (defScope s_lwide) := ⟨rfl, rfl, rfl, by decide +kernel, rfl, by decide +kernel, by decide +kernel⟩
theorem sc_lodd : FnScope ["_law_row", "_law_width_here", "_law_far", "_law_number_here", "_law_at", "_law_sign", "_law_some"] ["_law_row", "_law_width_here", "_law_far"] (defScope s_lodd) := ⟨rfl, rfl, rfl, by decide +kernel, rfl, by decide +kernel, by decide +kernel⟩
theorem sc_lrounds : FnScope ["_law_row", "_law_wire", "_law_width_here", "_law_far", "_law_bad", "_law_works", "_law_k", "_law_walk", "_law_work"] ["_law_row", "_law_wire", "_law_width_here", "_law_far"] (defScope s_lrounds) := ⟨rfl, rfl, rfl, by decide +kernel, rfl, by decide +kernel, by decide +kernel⟩
theorem sc_law : FnScope ["_law_script", "_law_row", "_law_turn", "_law_width_here", "_law_names", "_law_wire", "_law_far", "_law_bad", "_law_odd_here", "_law_works", "_law_number_here", "_law_kind", "_law_work"] ["_law_script"] (defScope s_law) := ⟨rfl, rfl, rfl, by decide +kernel, rfl, by decide +kernel, by decide +kernel⟩
def d_require_width : He.DefD := ⟨("require_width", none), "require_width", "require_width", defArgs s_require_width, defBody s_require_width, defScope s_require_width, [], []⟩
def d_require_number : He.DefD := ⟨("require_number", none), "require_number", "require_number", defArgs s_require_number, defBody s_require_number, defScope s_require_number, [], []⟩
def d_is_number : He.DefD := ⟨("is_number", none), "is_number", "is_number", defArgs s_is_number, defBody s_is_number, defScope s_is_number, [], []⟩
def d_met : He.DefD := ⟨("met", none), "met", "met", defArgs s_met, defBody s_met, defScope s_met, [], []⟩
def d_require_kind : He.DefD := ⟨("require_kind", none), "require_kind", "require_kind", defArgs s_require_kind, defBody s_require_kind, defScope s_require_kind, [], []⟩
def d_Wire_init : He.DefD := ⟨("Wire", some "__init__"), "__init__", "Wire.__init__", defArgs s_Wire_init, defBody s_Wire_init, defScope s_Wire_init, [], []⟩
def d_Wire_hang : He.DefD := ⟨("Wire", some "hang"), "hang", "Wire.hang", defArgs s_Wire_hang, defBody s_Wire_hang, defScope s_Wire_hang, [], []⟩
def d_Wire_off : He.DefD := ⟨("Wire", some "off"), "off", "Wire.off", defArgs s_Wire_off, defBody s_Wire_off, defScope s_Wire_off, [], []⟩
def d_Wire_alarm : He.DefD := ⟨("Wire", some "alarm"), "alarm", "Wire.alarm", defArgs s_Wire_alarm, defBody s_Wire_alarm, defScope s_Wire_alarm, [], []⟩
def d_Wire_calm : He.DefD := ⟨("Wire", some "calm"), "calm", "Wire.calm", defArgs s_Wire_calm, defBody s_Wire_calm, defScope s_Wire_calm, [], []⟩
def d_Wire_hung : He.DefD := ⟨("Wire", some "hung"), "hung", "Wire.hung", defArgs s_Wire_hung, defBody s_Wire_hung, defScope s_Wire_hung, [], []⟩
def d_Wire_alarms : He.DefD := ⟨("Wire", some "alarms"), "alarms", "Wire.alarms", defArgs s_Wire_alarms, defBody s_Wire_alarms, defScope s_Wire_alarms, [], []⟩
def d_Wire_begin : He.DefD := ⟨("Wire", some "begin"), "begin", "Wire.begin", defArgs s_Wire_begin, defBody s_Wire_begin, defScope s_Wire_begin, [], []⟩
def d_Wire_look : He.DefD := ⟨("Wire", some "look"), "look", "Wire.look", defArgs s_Wire_look, defBody s_Wire_look, defScope s_Wire_look, [], []⟩
def d_Wire_say : He.DefD := ⟨("Wire", some "say"), "say", "Wire.say", defArgs s_Wire_say, defBody s_Wire_say, defScope s_Wire_say, [], []⟩
def d_Wire_looks : He.DefD := ⟨("Wire", some "looks"), "looks", "Wire.looks", defArgs s_Wire_looks, defBody s_Wire_looks, defScope s_Wire_looks, [], []⟩
def d_Wire__require_hanging : He.DefD := ⟨("Wire", some "_require_hanging"), "_require_hanging", "Wire._require_hanging", defArgs s_Wire__require_hanging, defBody s_Wire__require_hanging, defScope s_Wire__require_hanging, [], []⟩
def d_Wire__require_round : He.DefD := ⟨("Wire", some "_require_round"), "_require_round", "Wire._require_round", defArgs s_Wire__require_round, defBody s_Wire__require_round, defScope s_Wire__require_round, [], []⟩
def d_Walk_init : He.DefD := ⟨("Walk", some "__init__"), "__init__", "Walk.__init__", defArgs s_Walk_init, defBody s_Walk_init, defScope s_Walk_init, [], []⟩
def d_Walk_step : He.DefD := ⟨("Walk", some "step"), "step", "Walk.step", defArgs s_Walk_step, defBody s_Walk_step, defScope s_Walk_step, [], []⟩
def d_Walk_go_round : He.DefD := ⟨("Walk", some "go_round"), "go_round", "Walk.go_round", defArgs s_Walk_go_round, defBody s_Walk_go_round, defScope s_Walk_go_round, [], []⟩
def d_Walk_go_all : He.DefD := ⟨("Walk", some "go_all"), "go_all", "Walk.go_all", defArgs s_Walk_go_all, defBody s_Walk_go_all, defScope s_Walk_go_all, [], []⟩
def d_Walk_left : He.DefD := ⟨("Walk", some "left"), "left", "Walk.left", defArgs s_Walk_left, defBody s_Walk_left, defScope s_Walk_left, [], []⟩
def d_Walk_found : He.DefD := ⟨("Walk", some "found"), "found", "Walk.found", defArgs s_Walk_found, defBody s_Walk_found, defScope s_Walk_found, [], []⟩
def d_Walk_is_under_way : He.DefD := ⟨("Walk", some "is_under_way"), "is_under_way", "Walk.is_under_way", defArgs s_Walk_is_under_way, defBody s_Walk_is_under_way, defScope s_Walk_is_under_way, [], []⟩
def d_Walk__begin_round : He.DefD := ⟨("Walk", some "_begin_round"), "_begin_round", "Walk._begin_round", defArgs s_Walk__begin_round, defBody s_Walk__begin_round, defScope s_Walk__begin_round, [], []⟩
def d_Walk__say : He.DefD := ⟨("Walk", some "_say"), "_say", "Walk._say", defArgs s_Walk__say, defBody s_Walk__say, defScope s_Walk__say, [], []⟩
def d_played : He.DefD := ⟨("played", none), "played", "played", defArgs s_played, defBody s_played, defScope s_played, [], []⟩
def d_shown : He.DefD := ⟨("shown", none), "shown", "shown", defArgs s_shown, defBody s_shown, defScope s_shown, [], []⟩
def d_fewest : He.DefD := ⟨("fewest", none), "fewest", "fewest", defArgs s_fewest, defBody s_fewest, defScope s_fewest, [], []⟩
def d_judged : He.DefD := ⟨("judged", none), "judged", "judged", defArgs s_judged, defBody s_judged, defScope s_judged, [], []⟩
def d_least : He.DefD := ⟨("least", none), "least", "least", defArgs s_least, defBody s_least, defScope s_least, [], []⟩
def d_plan_of : He.DefD := ⟨("plan_of", none), "plan_of", "plan_of", defArgs s_plan_of, defBody s_plan_of, defScope s_plan_of, [], []⟩
def d_follows : He.DefD := ⟨("follows", none), "follows", "follows", defArgs s_follows, defBody s_follows, defScope s_follows, [], []⟩
def d_ltaken : He.DefD := ⟨("_law_taken", none), "_law_taken", "_law_taken", defArgs s_ltaken, defBody s_ltaken, defScope s_ltaken, [], []⟩
def d_lalike : He.DefD := ⟨("_law_alike", none), "_law_alike", "_law_alike", defArgs s_lalike, defBody s_lalike, defScope s_lalike, [], []⟩
def d_lword : He.DefD := ⟨("_law_word", none), "_law_word", "_law_word", defArgs s_lword, defBody s_lword, defScope s_lword, [], []⟩
def d_lnumber : He.DefD := ⟨("_law_number", none), "_law_number", "_law_number", defArgs s_lnumber, defBody s_lnumber, defScope s_lnumber, [], []⟩
def d_lnear : He.DefD := ⟨("_law_near", none), "_law_near", "_law_near", defArgs s_lnear, defBody s_lnear, defScope s_lnear, [], []⟩
def d_lthings : He.DefD := ⟨("_law_things", none), "_law_things", "_law_things", defArgs s_lthings, defBody s_lthings, defScope s_lthings, [], []⟩
def d_lwidth : He.DefD := ⟨("_law_width", none), "_law_width", "_law_width", defArgs s_lwidth, defBody s_lwidth, defScope s_lwidth, [], []⟩
def d_lmade : He.DefD := ⟨("_law_made", none), "_law_made", "_law_made", defArgs s_lmade, defBody s_lmade, defScope s_lmade, [], []⟩
def d_lwide : He.DefD := ⟨("_law_wide", none), "_law_wide", "_law_wide", defArgs s_lwide, defBody s_lwide, defScope s_lwide, [], []⟩
def d_lodd : He.DefD := ⟨("_law_odd", none), "_law_odd", "_law_odd", defArgs s_lodd, defBody s_lodd, defScope s_lodd, [], []⟩
def d_lrounds : He.DefD := ⟨("_law_rounds", none), "_law_rounds", "_law_rounds", defArgs s_lrounds, defBody s_lrounds, defScope s_lrounds, [], []⟩
def d_law : He.DefD := ⟨("law", none), "law", "law", defArgs s_law, defBody s_law, defScope s_law, [], []⟩
def fa : List He.Fa := [.glo "require_width", .glo "require_number", .glo "is_number", .glo "met", .glo "require_kind", .glo "played", .glo "shown", .glo "fewest", .glo "judged", .glo "least", .glo "plan_of", .glo "follows", .glo "_law_taken", .glo "_law_alike", .glo "_law_word", .glo "_law_number", .glo "_law_near", .glo "_law_things", .glo "_law_width", .glo "_law_made", .glo "_law_wide", .glo "_law_odd", .glo "_law_rounds", .glo "law", .glo "BusError", .glo "BadWidth", .glo "BadNumber", .glo "BadKind", .glo "BadBit", .glo "There", .glo "NotThere", .glo "NoRound", .glo "Over", .glo "Busy", .glo "BadLooks", .glo "BadRoster", .glo "TooMany", .glo "BadPlan", .glo "BadStep", .glo "BadText", .glo "Wire", .glo "Walk", .glo "Desk", .glo "Keeper", .glo "Day", .int "LEAST_WIDTH" 1, .int "GREATEST_WIDTH" 12, .int "MOST_STEPS" 200, .int "MOST_LOOKS" 100, .int "ENOUGH" 2, .int "MOST_NUMBERS" 8, .int "MOST_FOR_LEAST" 6, .int "MOST_WITHIN" 12, .int "MOST_FOR_PLAN" 4, .int "MANY_ANSWERS" 4, .glo "KINDS", .glo "WORDS_ALONE", .glo "WORDS_OF_THINGS", .free "super", .free "isinstance", .free "bool", .free "all", .free "str", .free "len", .free "sorted", .free "range", .free "list", .free "int", .free "max", .free "tuple", .free "ValueError", .cls "Wire", .mkr "Wire", .noat "Wire" "width", .noat "Wire" "_hanging", .noat "Wire" "_listening", .noat "Wire" "_many_said", .noat "Wire" "_many_looks", .meth "Wire" "hang", .meth "Wire" "off", .meth "Wire" "alarm", .meth "Wire" "calm", .meth "Wire" "hung", .meth "Wire" "alarms", .meth "Wire" "begin", .meth "Wire" "look", .meth "Wire" "say", .meth "Wire" "looks", .meth "Wire" "_require_hanging", .meth "Wire" "_require_round", .cls "Walk", .mkr "Walk", .noat "Walk" "_wire", .noat "Walk" "_kind", .noat "Walk" "_row", .noat "Walk" "_found", .noat "Walk" "_paper", .noat "Walk" "_said", .meth "Walk" "step", .meth "Walk" "go_round", .meth "Walk" "go_all", .meth "Walk" "left", .meth "Walk" "found", .meth "Walk" "is_under_way", .meth "Walk" "_begin_round", .meth "Walk" "_say", .exc "BadWidth", .exc "BadNumber", .exc "BadKind", .exc "BadBit", .exc "There", .exc "NotThere", .exc "NoRound", .exc "Over", .exm "BadWidth" "BusError" true, .exm "BadNumber" "BusError" true, .exm "BadKind" "BusError" true, .exm "BadBit" "BusError" true, .exm "There" "BusError" true, .exm "NotThere" "BusError" true, .exm "NoRound" "BusError" true, .exm "Over" "BusError" true]
def fn : List He.DefD := [d_require_width, d_require_number, d_is_number, d_met, d_require_kind, d_Wire_init, d_Wire_hang, d_Wire_off, d_Wire_alarm, d_Wire_calm, d_Wire_hung, d_Wire_alarms, d_Wire_begin, d_Wire_look, d_Wire_say, d_Wire_looks, d_Wire__require_hanging, d_Wire__require_round, d_Walk_init, d_Walk_step, d_Walk_go_round, d_Walk_go_all, d_Walk_left, d_Walk_found, d_Walk_is_under_way, d_Walk__begin_round, d_Walk__say, d_played, d_shown, d_fewest, d_judged, d_least, d_plan_of, d_follows, d_ltaken, d_lalike, d_lword, d_lnumber, d_lnear, d_lthings, d_lwidth, d_lmade, d_lwide, d_lodd, d_lrounds, d_law]
def pd_is_number : He.Defn := ("is_number", none)
def pd_lwide : He.Defn := ("_law_wide", none)
def pd_lrounds : He.Defn := ("_law_rounds", none)
def pd_law : He.Defn := ("law", none)
def gens : List He.Defn := [pd_is_number]
def lams : List (He.Defn × Str) := [(pd_lwide, "_law_wide.<locals>.<lambda>"), (pd_lrounds, "_law_rounds.<locals>.<lambda>"), (pd_law, "law.<locals>.<lambda>")]
def tf : List He.Defn := [pd_is_number, pd_lwide, pd_lrounds, pd_law]
def kitC (K : PySem.W.Frag) (c d : Str) (b : Bool) : Bool := decide (PySem.W.kitOne K (.ref (He.ga K c)) (.ref (He.ga K d)) = some b)
def excC (K : PySem.W.Frag) (c : Str) : Bool :=
  He.eqO (PySem.W.findIn K (.ref (He.ga K c)) "__getattribute__") (some (some (.builtin "BaseException.__getattribute__"))) &&
  He.eqO (PySem.W.findIn K (.ref (He.ga K c)) "__getattr__") (some none) && PySem.W.hasDictIn K (He.ga K c) &&
  He.eqO (PySem.W.findIn K (.ref (He.ga K c)) "__class__") (some (some (.builtin "object.__class__"))) &&
  decide (PySem.W.specialIn K (.builtin "object.__class__") "__get__" = some (some (.builtin "getset_descriptor.__get__"))) &&
  decide (PySem.W.takesIn K (.builtin "object.__class__") = some true) && decide (PySem.W.mroIn K (He.ga K c) (.type "object") = some true) &&
  decide (PySem.W.kitOne K (.ref (He.ga K c)) (.type "ValueError") = some true)
def tupB (K : PySem.W.Frag) (x : Str) (vs : List V) : Bool := match K.lookup (He.ga K x) with
  | some ⟨.type t, _, .seq its _, _⟩ => decide (t = "tuple") && He.relAll vs its.toList
  | _ => false
def allErr : List Str := ["BadWidth", "BadNumber", "BadKind", "BadBit", "There", "NotThere", "NoRound", "Over", "Busy", "BadLooks", "BadRoster", "TooMany", "BadPlan", "BadStep", "BadText"]
def raised : List Str := ["BadWidth", "BadNumber", "BadKind", "BadBit", "There", "NotThere", "NoRound", "Over"]
def exExc (K : PySem.W.Frag) : Bool := raised.all fun c => excC K c && allErr.all fun d => kitC K c d (decide (c = d))
def exTup (K : PySem.W.Frag) : Bool := tupB K "KINDS" [.str "all", .str "alarm"]
def ex (K : PySem.W.Frag) : Bool := decide ((tf.map fun p => (He.cT K p).2).Nodup) && (exTup K && exExc K)
abbrev R : PySem.W.OpenRow := PySem.W.OpenLaw.row PySem.Challenge.rw_busfind_k01_refused
/-! ### a hook over a list of addresses that is written down -/
def asL : List Addr := [3,6,4,39,49,62,74,86,98,110,122,134,146,158,179,191,203,215,236,257,266,273,280,287,294,299,300,307,400,484,512,545,550,551,558,565,572,608,617,624,631,638,643,650,655,662,667,674,681,688,693,698,705,710,715,720,727,734,741,748,755,762,767,772,777,782,789,796,803,810,817,822,829,834,841,848,855,862,869,876,881,886,0,38,48,61,73,85,97,109,121,133,145,157,178,190,202,214,235,256,265,272,279,286,293,298,306,399,483,511,544,557,564,571,607,616,623,630,637,642,649,654,661,666,673,680,687,692,697,704,709,714,719,726,733,740,747,754,761,766,771,776,781,788,795,802,809,816,821,828,833,840,847,854,861,868,875,880,885,33,34,35,36,37,47,50,60,72,84,96,108,120,132,144,156,176,177,189,201,213,233,234,254,255,260,261,262,263,264,267,268,269,270,271,274,275,276,277,278,281,282,283,284,285,288,289,290,291,292,295,296,297,301,302,303,304,305,321,328,333,340,347,354,359,366,371,376,383,390,397,398,401,402,418,425,432,439,446,453,460,467,474,481,482,485,486,502,509,510,513,514,530,535,542,543,546,547,552,553,554,555,556,559,560,561,562,563,566,567,568,569,570,586,591,598,605,606,609,610,613,614,615,618,619,620,621,622,625,626,627,628,629,632,633,634,635,636,639,640,641,644,645,646,647,648,651,652,653,656,657,658,659,660,663,664,665,668,669,670,671,672,675,676,677,678,679,682,683,684,685,686,689,690,691,694,695,696,699,700,701,702,703,706,707,708,711,712,713,716,717,718,721,722,723,724,725,728,729,730,731,732,735,736,737,738,739,742,743,744,745,746,749,750,751,752,753,756,757,758,759,760,763,764,765,768,769,770,773,774,775,778,779,780,783,784,785,786,787,790,791,792,793,794,797,798,799,800,801,804,805,806,807,808,811,812,813,814,815,818,819,820,823,824,825,826,827,830,831,832,835,836,837,838,839,842,843,844,845,846,849,850,851,852,853,856,857,858,859,860,863,864,865,866,867,870,871,872,873,874,877,878,879,882,883,884,175,164,232,221,253,242,320,327,332,339,346,353,358,365,370,375,382,389,396,417,424,431,438,445,452,459,466,473,480,501,508,529,534,541,585,590,597,604]
def kf (g : Addr → Option Obj) : PySem.W.Frag := He.frT g asL
def obL (g : Addr → Option Obj) : He.AlX := (He.obsT fa fn [] (kf g), ex (kf g) && He.tabsB g tf (kf g))
theorem says_l {w : World} {h : Heap} (e : obL h.get? = He.valX fn [] w) : He.SaysX fa fn [] tf ex w h (kf h.get?) := by
  have e1 : He.obsT fa fn [] (kf h.get?) = He.valT fn [] w := congrArg Prod.fst e
  obtain ⟨b1, b2⟩ := He.ba (show (ex (kf h.get?) && He.tabsB h.get? tf (kf h.get?)) = true from congrArg Prod.snd e)
  have tb : ∀ p ∈ tf, PySem.W.codeHdIn (kf h.get?) (He.cT (kf h.get?) p).1 (He.cT (kf h.get?) p).2 = true ∧ ∃ o, h.get? (He.cT (kf h.get?) p).2 = some o ∧ He.emptyTab o = true := fun p hp => by
    obtain ⟨c1, c2⟩ := He.ba (List.all_eq_true.mp b2 p hp)
    refine ⟨c1, ?_⟩
    cases q : h.get? (He.cT (kf h.get?) p).2 with
    | some o => exact ⟨o, rfl, by rwa [q] at c2⟩
    | none => rw [q] at c2; cases c2
  refine ⟨e1, b1, fun p hp => (tb p hp).1, fun p hp => ?_, fun p hp => ?_⟩ <;> obtain ⟨_, o, q, z⟩ := tb p hp
  · exact He.frT_none q z
  · rw [q, He.emptyTab_eq z]
def hk : PySem.W.Hook where
  α := He.AlX
  obs := fun s => obL s.heap.get?
  val := fun w => He.valX fn [] w
  says := fun w h => ∃ K : PySem.W.Frag, K.In h ∧ He.SaysX fa fn [] tf ex w h K
  of := fun _ _ e => ⟨kf _, He.frT_in, says_l e⟩
  keeps := fun _ _ _ ⟨K, i, c⟩ k => ⟨K, i.keeps k, ⟨c.t, c.more, c.hd, c.out, fun p hp => k _ _ (c.empty p hp)⟩⟩
def ob (s : PySem.W.SharedT) : He.AlX := obL (HandSHeadRun.getT s)
theorem ob_eq (s : PySem.W.SharedT) : ob s = hk.obs s.abs := by
  have e : HandSHeadRun.getT s = s.abs.heap.get? := funext (HandSHeadRun.getT_eq s)
  show obL _ = obL _
  rw [e]
def names : List Str := (["_wall", "BusError", "BadWidth", "BadNumber", "BadKind", "BadBit", "There", "NotThere", "NoRound", "Over", "Busy", "BadLooks", "BadRoster", "TooMany", "BadPlan"] : List Str) ++ (["BadStep", "BadText", "LEAST_WIDTH", "GREATEST_WIDTH", "require_width", "require_number", "is_number", "is_beginning", "heard", "met", "KINDS", "require_kind", "Wire", "Walk", "Desk"] : List Str) ++ (["Keeper", "MOST_STEPS", "WORDS_ALONE", "WORDS_OF_THINGS", "require_steps", "is_step", "is_some_number", "Day", "played", "MOST_LOOKS", "ENOUGH", "require_looks", "is_look", "shown", "opened_by"] : List Str) ++ (["told_by", "sets_behind", "unlooked", "fewest", "is_needed", "MOST_NUMBERS", "MOST_FOR_LEAST", "require_roster", "is_rising", "sets_of", "judged", "tells_so", "least", "excluded", "first_cover"] : List Str) ++ (["united", "MOST_WITHIN", "MOST_FOR_PLAN", "MANY_ANSWERS", "answer_of", "require_plan", "is_plan", "are_plans", "plan_of", "telling", "best_plan", "sought_plan", "parted", "follows", "wire_of"] : List Str) ++ (["gone_along", "look_behind", "_law_taken", "_law_alike", "_law_word", "_law_number", "_law_near", "_law_things", "_law_width", "_law_made", "_law_wide", "_law_odd", "_law_rounds"] : List Str)
/-! ### the run, looked at piece by piece: the kernel holds one look at a time -/
theorem join3 {S A B C : Type} {o : Option S} {f : S → A} {g : S → B} {h : S → C} {a : A} {b : B} {c : C} (h1 : o.map f = some a) (h2 : o.map g = some b) (h3 : o.map h = some c) : o.map (fun x => (f x, g x, h x)) = some (a, b, c) := by
  cases o with
  | none => cases h1
  | some x =>
    have e1 : f x = a := Option.some.inj h1
    have e2 : g x = b := Option.some.inj h2
    have e3 : h x = c := Option.some.inj h3
    show some (f x, g x, h x) = _
    rw [e1, e2, e3]
noncomputable abbrev wh (w : World) : Option (Shared × PySem.W.SharedT) := HandSHeadRun.wholeF (fun p => HandSHeadRun.stepQ (HandSHeadRun.denQ HandSHeadRun.tabQ) p w) HandSHeadRun.fenceQ 16000 R.prog
set_option maxHeartbeats 0 in
theorem run_a (w : World) : (wh w).map (fun x => HandSHeadRun.looksF R.prog x.1.heap x.2.abs) = some true := by
  kernel_rfl
set_option maxHeartbeats 0 in
theorem run_b (w : World) : (wh w).map (fun x => HandSHeadRun.seenQ (PySem.W.view R.prog [0, 101]) names (importedModules R.prog.main.body) (fun s => PySem.W.xlAt (PySem.W.view R.prog [0, 101]) [] s && PySem.W.recOk R.toRowW.records s) x.2.abs) = some (PySem.W.openGood (PySem.W.view R.prog [0, 101]) names) := by
  kernel_rfl
set_option maxHeartbeats 0 in
theorem run_c (w : World) : (wh w).map (fun x => ob x.2) = some (hk.val w) := by
  kernel_rfl
theorem run (w : World) : HandSHeadRun.RunEqI R (PySem.W.view R.prog [0, 101]) hk ob 16000 names w := join3 (run_a w) (run_b w) (run_c w)
end B

set_option Elab.async false
set_option linter.all false
set_option maxRecDepth 100000
set_option maxHeartbeats 4000000
namespace B
open PySem PySem.Spec PyProof.Rows L2
/-- what the defs lean on: the written part, the names, the code tables -/
structure Txt (P : Program) (w : World) (K : PySem.W.Frag) (mg : Str → Option Value) (base : Heap) : Prop where
  X : K.In base
  G : base.Ns mainGlobals mg
  t : He.SaysD fa fn K
  m : ex K = true
  tb : ∀ p ∈ tf, LamX.TabB base mg (He.cT K p).1 (He.cT K p).2
/-- a def that may be called by its name -/
structure CalX (CX : CXT) (P : Program) (w : World) (K : PySem.W.Frag) (mg : Str → Option Value) (base : Heap) (k : Nat) (x : Str) (sp : Sp) : Prop where
  ex : ∃ (f : Addr) (fd : FuncData) (ps : List Str), FnOk P w K mg base CX k f fd ps sp ∧ mg x = some (.ref f) ∧ PySem.W.keepIn K (.ref f) = true ∧ Binds K fd ps []
structure MetX (CX : CXT) (P : Program) (w : World) (K : PySem.W.Frag) (mg : Str → Option Value) (base : Heap) (k : Nat) (C : Addr) (m : Str) (sp : Sp) : Prop where
  ex : ∃ (f : Addr) (fd : FuncData) (ps : List Str), Cls K C ∧ Meth K C m f ∧ FnOk P w K mg base CX k f fd ps sp ∧ Binds K fd ps []
structure MakX (CX : CXT) (P : Program) (w : World) (K : PySem.W.Frag) (mg : Str → Option Value) (base : Heap) (k : Nat) (x : Str) (C : Addr) (sp : Sp) : Prop where
  ex : ∃ (f : Addr) (fd : FuncData) (ps : List Str), Mk K C f ∧ FnOk P w K mg base CX k f fd ps sp ∧ mg x = some (.ref C) ∧ Binds K fd ps []
section
variable {X : Cx} {CX : CXT} {k j : Nat} {C : Addr} {x m : Str} {sp : Sp} {p pos apos : Pos} {e o : Expr} {es : List Expr} {ta : TE} {t : TA} {E : XK}
theorem pe_cx (c : CalX CX X.prog X.w X.K X.mg X.base k x sp) (hr : Room j X.A) (hk : k ≤ j) (hg : Gl X x) (hx : Passes CX X E) (ha : PA X (e :: es) t)
    (hdb : (x == ("__debug__" : Str)) = false := by decide) (he : starEach (e :: es) X.env = (false, eval e X.env) :: starEach es X.env := by rfl) (hpl : (backTo pos (starEach es X.env)).any (·.1) = false := by rfl) :
    PE X (.Call (.Name x p) (e :: es) [] pos) (tCall sp [] E t) := by
  obtain ⟨f, fd, ps, F, hm, hkp, hb⟩ := c.ex
  exact pe_call F (hr.mono hk) hg hm hkp hb .nil hx ha hdb he hpl
theorem pe_mx {pl : Sem Bool} (c : MetX CX X.prog X.w X.K X.mg X.base k C m sp) (hr : Room j X.A) (hk : k ≤ j) (he : PE X o ta) (hx : Passes CX X E) (ha : PA X (e :: es) t)
    (hst : starEach (e :: es) X.env = (false, eval e X.env) :: starEach es X.env := by rfl) (hpl : (backTo pos (starEach es X.env)).any (·.1) = false := by rfl)
    (ht : eval (.Call (.Attribute o m apos) (e :: es) [] pos) X.env = (do
      let ov ← eval o X.env
      standAt apos.atName
      let (f, first) ← holding [ov] (getMethod ov m pl)
      callWith pos f first (backTo pos (starEach (e :: es) X.env)) (backToKw pos (keywordEach [] X.env))) := by rfl) :
    PE X (.Call (.Attribute o m apos) (e :: es) [] pos) (tMeth C m sp [] E ta t) := by
  obtain ⟨f, fd, ps, hc, hm, F, b⟩ := c.ex
  exact pe_meth (pl := pl) he hc hm F (hr.mono hk) b .nil hx ha hst hpl ht
theorem pe_mx0 {pl : Sem Bool} (c : MetX CX X.prog X.w X.K X.mg X.base k C m sp) (hr : Room j X.A) (hk : k ≤ j) (he : PE X o ta) (hx : Passes CX X E)
    (ht : eval (.Call (.Attribute o m apos) [] [] pos) X.env = (do
      let ov ← eval o X.env
      standAt apos.atName
      let (f, first) ← holding [ov] (getMethod ov m pl)
      callWith pos f first (backTo pos (starEach [] X.env)) (backToKw pos (keywordEach [] X.env))) := by rfl) :
    PE X (.Call (.Attribute o m apos) [] [] pos) (tMeth C m sp [] E ta tNil) := by
  obtain ⟨f, fd, ps, hc, hm, F, b⟩ := c.ex
  exact pe_meth0 (pl := pl) he hc hm F (hr.mono hk) b .nil hx ht
/-- a field, the written part by its own name (within a comprehension) -/
theorem pe_fldK {K : PySem.W.Frag} {f : Str} (hK : X.K = K) (ha : PE X e ta) (hb : attributeBase e f X.env (eval e X.env) = eval e X.env := by rfl) : PE X (.Attribute e f pos) (tFld K ta f) := by
  subst hK
  exact pe_fld ha hb
theorem pe_mkx (c : MakX CX X.prog X.w X.K X.mg X.base k x C sp) (hr : Room j X.A) (hk : k + 1 ≤ j) (hg : Gl X x) (hx : Passes CX X E) (ha : PA X (e :: es) t)
    (hdb : (x == ("__debug__" : Str)) = false := by decide) (he : starEach (e :: es) X.env = (false, eval e X.env) :: starEach es X.env := by rfl) (hpl : (backTo pos (starEach es X.env)).any (·.1) = false := by rfl) :
    PE X (.Call (.Name x p) (e :: es) [] pos) (tMake C sp [] E t) := by
  obtain ⟨f, fd, ps, M, F, hm, b⟩ := c.ex
  exact pe_make M F (hr.mono hk) hg hm b .nil hx ha hdb he hpl
end
section
variable {P : Program} {w : World} {K : PySem.W.Frag} {mg : Str → Option Value} {base : Heap}
theorem g_BusError (T : Txt P w K mg base) : mg "BusError" = some (.ref (He.ga K "BusError")) := He.glo_ok T.X T.G (T.t.fact 24)
theorem g_BadWidth (T : Txt P w K mg base) : mg "BadWidth" = some (.ref (He.ga K "BadWidth")) := He.glo_ok T.X T.G (T.t.fact 25)
theorem g_BadNumber (T : Txt P w K mg base) : mg "BadNumber" = some (.ref (He.ga K "BadNumber")) := He.glo_ok T.X T.G (T.t.fact 26)
theorem g_BadKind (T : Txt P w K mg base) : mg "BadKind" = some (.ref (He.ga K "BadKind")) := He.glo_ok T.X T.G (T.t.fact 27)
theorem g_BadBit (T : Txt P w K mg base) : mg "BadBit" = some (.ref (He.ga K "BadBit")) := He.glo_ok T.X T.G (T.t.fact 28)
theorem g_There (T : Txt P w K mg base) : mg "There" = some (.ref (He.ga K "There")) := He.glo_ok T.X T.G (T.t.fact 29)
theorem g_NotThere (T : Txt P w K mg base) : mg "NotThere" = some (.ref (He.ga K "NotThere")) := He.glo_ok T.X T.G (T.t.fact 30)
theorem g_NoRound (T : Txt P w K mg base) : mg "NoRound" = some (.ref (He.ga K "NoRound")) := He.glo_ok T.X T.G (T.t.fact 31)
theorem g_Over (T : Txt P w K mg base) : mg "Over" = some (.ref (He.ga K "Over")) := He.glo_ok T.X T.G (T.t.fact 32)
theorem g_Busy (T : Txt P w K mg base) : mg "Busy" = some (.ref (He.ga K "Busy")) := He.glo_ok T.X T.G (T.t.fact 33)
theorem g_BadLooks (T : Txt P w K mg base) : mg "BadLooks" = some (.ref (He.ga K "BadLooks")) := He.glo_ok T.X T.G (T.t.fact 34)
theorem g_BadRoster (T : Txt P w K mg base) : mg "BadRoster" = some (.ref (He.ga K "BadRoster")) := He.glo_ok T.X T.G (T.t.fact 35)
theorem g_TooMany (T : Txt P w K mg base) : mg "TooMany" = some (.ref (He.ga K "TooMany")) := He.glo_ok T.X T.G (T.t.fact 36)
theorem g_BadPlan (T : Txt P w K mg base) : mg "BadPlan" = some (.ref (He.ga K "BadPlan")) := He.glo_ok T.X T.G (T.t.fact 37)
theorem g_BadStep (T : Txt P w K mg base) : mg "BadStep" = some (.ref (He.ga K "BadStep")) := He.glo_ok T.X T.G (T.t.fact 38)
theorem g_BadText (T : Txt P w K mg base) : mg "BadText" = some (.ref (He.ga K "BadText")) := He.glo_ok T.X T.G (T.t.fact 39)
theorem g_Wire (T : Txt P w K mg base) : mg "Wire" = some (.ref (He.ga K "Wire")) := He.glo_ok T.X T.G (T.t.fact 40)
theorem g_Walk (T : Txt P w K mg base) : mg "Walk" = some (.ref (He.ga K "Walk")) := He.glo_ok T.X T.G (T.t.fact 41)
theorem g_Desk (T : Txt P w K mg base) : mg "Desk" = some (.ref (He.ga K "Desk")) := He.glo_ok T.X T.G (T.t.fact 42)
theorem g_Keeper (T : Txt P w K mg base) : mg "Keeper" = some (.ref (He.ga K "Keeper")) := He.glo_ok T.X T.G (T.t.fact 43)
theorem g_Day (T : Txt P w K mg base) : mg "Day" = some (.ref (He.ga K "Day")) := He.glo_ok T.X T.G (T.t.fact 44)
theorem n_super (T : Txt P w K mg base) : mg "super" = none := He.free_ok T.X T.G (T.t.fact 58)
theorem n_isinstance (T : Txt P w K mg base) : mg "isinstance" = none := He.free_ok T.X T.G (T.t.fact 59)
theorem n_bool (T : Txt P w K mg base) : mg "bool" = none := He.free_ok T.X T.G (T.t.fact 60)
theorem n_all (T : Txt P w K mg base) : mg "all" = none := He.free_ok T.X T.G (T.t.fact 61)
theorem n_str (T : Txt P w K mg base) : mg "str" = none := He.free_ok T.X T.G (T.t.fact 62)
theorem n_len (T : Txt P w K mg base) : mg "len" = none := He.free_ok T.X T.G (T.t.fact 63)
theorem n_sorted (T : Txt P w K mg base) : mg "sorted" = none := He.free_ok T.X T.G (T.t.fact 64)
theorem n_range (T : Txt P w K mg base) : mg "range" = none := He.free_ok T.X T.G (T.t.fact 65)
theorem n_list (T : Txt P w K mg base) : mg "list" = none := He.free_ok T.X T.G (T.t.fact 66)
theorem n_int (T : Txt P w K mg base) : mg "int" = none := He.free_ok T.X T.G (T.t.fact 67)
theorem n_max (T : Txt P w K mg base) : mg "max" = none := He.free_ok T.X T.G (T.t.fact 68)
theorem n_tuple (T : Txt P w K mg base) : mg "tuple" = none := He.free_ok T.X T.G (T.t.fact 69)
theorem n_ValueError (T : Txt P w K mg base) : mg "ValueError" = none := He.free_ok T.X T.G (T.t.fact 70)
theorem xc_KINDS (T : Txt P w K mg base) : tupB K "KINDS" [.str "all", .str "alarm"] = true := (He.ba (He.ba T.m).2).1
end
section
variable {X : Cx}
theorem g_LEAST_WIDTH (T : Txt X.prog X.w X.K X.mg X.base) {p : Pos} (hg : Gl X "LEAST_WIDTH" := by rfl) : PE X (.Name "LEAST_WIDTH" p) (tC (.int 1)) := by
  obtain ⟨t, e⟩ := He.int_ok T.X T.G (T.t.fact 45 (f := .int "LEAST_WIDTH" 1))
  exact pe_glob hg e ⟨t, rfl⟩
theorem g_GREATEST_WIDTH (T : Txt X.prog X.w X.K X.mg X.base) {p : Pos} (hg : Gl X "GREATEST_WIDTH" := by rfl) : PE X (.Name "GREATEST_WIDTH" p) (tC (.int 12)) := by
  obtain ⟨t, e⟩ := He.int_ok T.X T.G (T.t.fact 46 (f := .int "GREATEST_WIDTH" 12))
  exact pe_glob hg e ⟨t, rfl⟩
theorem g_KINDS (T : Txt X.prog X.w X.K X.mg X.base) {p : Pos} (hg : Gl X "KINDS" := by rfl) : PE X (.Name "KINDS" p) (tC (.ref (He.ga X.K "KINDS"))) :=
  pe_glob hg (He.glo_ok T.X T.G (T.t.fact 55)) rfl
end
/-- a test whose answer is open -/
theorem iteB {b : Bool} {A B : Prop} (h1 : b = true → A) (h2 : b = false → B) : if b = true then A else B := by
  cases b with
  | true => exact iteT (h1 rfl)
  | false => exact iteF (h2 rfl)
/-! ### drawing -/
/-- the row of a draw -/
abbrev rowO (a : Addr) (i m b : Int) : HO := .lst [.ref a, .int i, .int m, .int b]
/-- the row at r stands over the script at a -/
def RowAt (r a : Addr) (H : Hp) : Prop := ∃ i m b : Int, H r = some (rowO a i m b) ∧ 0 ≤ i
/-- the script stands at a -/
def Scr (K : PySem.W.Frag) (a : Addr) (H : Hp) : Prop := ∃ ns : List Int, SqL K H a (ns.map V.int)
/-- no list but of objects, no tuple -/
def nl : HO → Bool
  | .ins _ _ _ => true
  | .dK _ => true
  | .lst (.ref _ :: _) => true
  | _ => false
def NL (S : List Addr) (H : Hp) : Prop := ∀ s ∈ S, ∃ o, H s = some o ∧ nl o = true
theorem NL.nil {H : Hp} : NL [] H := fun _ h => absurd h (by simp)
theorem NL.cons {S : List Addr} {H : Hp} {s : Addr} {o : HO} (h : H s = some o) (n : nl o = true) (t : NL S H) : NL (s :: S) H := fun c hc => by
  rcases List.mem_cons.mp hc with e | e
  · rw [e]
    exact ⟨o, h, n⟩
  · exact t c e
theorem RowAt.nl {r a : Addr} {H : Hp} (h : RowAt r a H) : NL [r] H := by
  obtain ⟨i, m, b, e, _⟩ := h
  exact .cons e rfl .nil
/-- a code table: only its own rules say what becomes of it -/
def isT : HO → Bool
  | .tbl _ => true
  | _ => false
/-- what stood stands, but for the objects of S; nothing goes -/
structure Frm (S : List Addr) (H H' : Hp) : Prop where
  k : ∀ b o, H b = some o → 0 = 0 → b ∉ S → H' b = some o
  b : ∀ b, H' b = none → H b = none
theorem Frm.refl (S : List Addr) (H : Hp) : Frm S H H := ⟨fun _ _ h _ _ => h, fun _ h => h⟩
theorem Frm.trans {S : List Addr} {H H1 H2 : Hp} (a : Frm S H H1) (b : Frm S H1 H2) : Frm S H H2 := ⟨fun c o h t n => b.k c o (a.k c o h t n) t n, fun c h => a.b c (b.b c h)⟩
theorem Frm.mono {S S' : List Addr} {H H1 : Hp} (a : Frm S H H1) (h : ∀ x ∈ S, x ∈ S') : Frm S' H H1 := ⟨fun c o e t n => a.k c o e t fun z => n (h c z), a.b⟩
theorem Frm.of {S : List Addr} {H H1 : Hp} (a : Same H H1) : Frm S H H1 := ⟨fun c o e _ _ => a c o e, fun c h => a.free h⟩
theorem upd_back {H : Hp} {p b : Addr} {o : HO} (h : upd H p o b = none) : H b = none := by
  by_cases e : b = p
  · rw [e, upd_same] at h
    cases h
  · rw [upd_ne e] at h
    exact h
theorem Frm.new {S : List Addr} {H H1 : Hp} {p : Addr} {o : HO} (a : Frm S H H1) (h : H p = none) : Frm S H (upd H1 p o) := ⟨fun c u e t n => by
  rw [upd_ne (ne_of_none e h)]
  exact a.k c u e t n, fun c z => a.b c (upd_back z)⟩
theorem Frm.put {S : List Addr} {H H1 : Hp} {p : Addr} {o : HO} (a : Frm S H H1) (h : p ∈ S) : Frm S H (upd H1 p o) := ⟨fun c u e t n => by
  rw [upd_ne (fun z => n (by rw [z]; exact h))]
  exact a.k c u e t n, fun c z => a.b c (upd_back z)⟩
theorem same_upd {H : Hp} {p : Addr} {o : HO} (h : H p = none) : Same H (upd H p o) := fun b x e => by
  rw [upd_ne (ne_of_none e h)]
  exact e
/-- what is no nl stands -/
theorem Frm.at {S : List Addr} {H H' : Hp} {p : Addr} {o : HO} (f : Frm S H H') (n : NL S H) (h : H p = some o) (h1 : isT o = false) (h2 : B.nl o = false) : H' p = some o :=
  f.k p o h rfl fun z => by
    obtain ⟨u, e, q⟩ := n p z
    rw [h] at e
    cases e
    rw [h2] at q
    cases q
theorem nl_strs (xs : List Str) : B.nl (.lst (xs.map V.str)) = false := by
  cases xs <;> rfl
theorem nl_ints (xs : List Int) : B.nl (.lst (xs.map V.int)) = false := by
  cases xs <;> rfl
theorem Frm.scr {K : PySem.W.Frag} {S : List Addr} {H H' : Hp} {a : Addr} (f : Frm S H H') (n : NL S H) (h : Scr K a H) : Scr K a H' := by
  obtain ⟨ns, (h | ⟨u, h⟩) | h⟩ := h
  · exact ⟨ns, .inl (.inl (f.at n h rfl (nl_ints ns)))⟩
  · exact ⟨ns, .inl (.inr ⟨u, f.at n h rfl rfl⟩)⟩
  · exact ⟨ns, .inr h⟩
theorem Frm.row {S : List Addr} {H H' : Hp} {r a : Addr} (f : Frm S H H') (hr : r ∉ S) (h : RowAt r a H) : RowAt r a H' := by
  obtain ⟨i, m, b, e, h0⟩ := h
  exact ⟨i, m, b, f.k r _ e rfl hr, h0⟩
/-- a number below n; the row turned -/
def spTaken (K : PySem.W.Frag) : Sp := fun vs H Q _ => ∃ (r a : Addr) (n : Int), vs = [.ref r, .int n] ∧ RowAt r a H ∧ Scr K a H ∧ 0 < n ∧ n < 1073741824 ∧
  ∀ (v : Int) (H' : Hp), 0 ≤ v → v < n → RowAt r a H' → Frm [r] H H' → Q (.int v) H'
theorem fmod_in {x n : Int} (h : 0 < n) : 0 ≤ x.fmod n ∧ x.fmod n < n := by
  rw [Int.fmod_eq_emod_of_nonneg _ (by omega)]
  exact ⟨Int.emod_nonneg _ (by omega), Int.emod_lt_of_pos _ h⟩
section
variable {P : Program} {w : World} {K : PySem.W.Frag} {mg : Str → Option Value} {base : Heap}
theorem c_ltaken (T : Txt P w K mg base) : CalX CX0 P w K mg base 1 "_law_taken" (spTaken K) := by
  obtain ⟨fd, F⟩ := T.t.def_ 34 (d := d_ltaken)
  refine ⟨_, fd, _, F.ok sc_ltaken (fun vs H Q E h => ?_) (fun cdv A outer s H vs Q E hr h => ?_), He.glo_ok T.X T.G (T.t.fact 12), F.kp, F.bindsN fun _ _ _ _ _ _ us hl => match us, hl with | [_, _], _ => rfl⟩
  · obtain ⟨r, a, n, rfl, _⟩ := h
    rfl
  · obtain ⟨r, a, n, rfl, ⟨i, m, b, h1, hi⟩, ⟨ns, hS⟩, hn, hn2, k0⟩ := h
    have f1 : ∀ o', Frm [r] H (upd H r o') := fun o' => (Frm.refl _ _).put (List.mem_singleton.mpr rfl)
    have k : ∀ v i' m' b' : Int, 0 ≤ i' → 0 ≤ v → v < n → Q (.int v) (upd H r (rowO a i' m' b')) := fun v i' m' b' h2 h3 h4 =>
      k0 v _ h3 h4 ⟨i', m', b', upd_same, h2⟩ (f1 _)
    refine ⟨_, PSs.nox (pss_cons (ps_if (pt_cmpR op_gt (pe_ix ix_list (pv 0) pe_int (fun _ _ => rfl)) pe_int (nomark _))
      (pss_cons (ps_set (i := 2) sc_ltaken.nd rfl (Or.inl rfl) (pe_op op_modN (pe_ix ix_list (pv 0) pe_int (fun _ _ => rfl)) (pv 1)))
      (pss_cons (ps_asg (pe_op op_fdivN (pe_ix ix_list (pv 0) pe_int (fun _ _ => rfl)) (pv 1)) (pg_sub (pv 0) pe_int set_list))
      (pss_one (ps_ret (pv 2)))))
      pss_nil)
    (pss_cons (ps_asg (pe_op op_add (pe_ix ix_list (pv 0) pe_int (fun _ _ => rfl)) pe_int) (pg_sub (pv 0) pe_int set_list))
    (pss_cons (ps_if (pt_cmpR op_gt (pe_ix ix_list (pv 0) pe_int (fun _ _ => rfl)) (pe_callB call_len_seq (by rfl) (n_len T) PySem.boot_len (pa_cons (pe_ix ix_list (pv 0) pe_int (fun _ _ => rfl)) pa_nil)) (nomark _))
      (pss_cons (ps_asg (pe_op op_mod (pe_op op_add (pe_op op_mul (pe_ix ix_list (pv 0) pe_int (fun _ _ => rfl)) pe_int) pe_int) pe_int) (pg_sub (pv 0) pe_int set_list))
      (pss_one (ps_ret (pe_op op_modN (pe_op op_fdiv (pe_ix ix_list (pv 0) pe_int (fun _ _ => rfl)) pe_int) (pv 1)))))
      pss_nil)
    (pss_cons (ps_set (i := 3) sc_ltaken.nd rfl (Or.inl rfl) (pe_ix ix_list (pe_ix ix_list (pv 0) pe_int (fun _ _ => rfl)) (pe_op op_sub (pe_ix ix_list (pv 0) pe_int (fun _ _ => rfl)) pe_int) (fun _ _ => rfl)))
    (pss_cons (ps_asg (pe_op op_mod (pe_op op_add (pe_op op_add (pe_op op_mul (pe_ix ix_list (pv 0) pe_int (fun _ _ => rfl)) pe_int) (pv 3)) pe_int) pe_int) (pg_sub (pv 0) pe_int set_list))
    (pss_cons (ps_if (pt_cmpR op_ge (pv 3) (pe_op op_pow pe_int pe_int) (nomark _))
      (pss_one (ps_asg (pe_op op_fdivN (pv 3) (pv 1)) (pg_sub (pv 0) pe_int set_list)))
      pss_nil)
    (pss_one (ps_ret (pe_op op_modN (pv 3) (pv 1)))))))))), ?_⟩
    have hd : n ≠ 0 ∧ n.natAbs < 1073741824 := by omega
    -- if row[3] > 0
    refine ⟨_, rfl, r, _, 3, .int b, rfl, rfl, SqL.of h1, rfl, b, 0, rfl, rfl, _, rfl, iteB (fun c => ?_) (fun c => ?_)⟩
    · refine ⟨_, rfl, r, _, 3, .int b, rfl, rfl, SqL.of h1, rfl, _, rfl, b, n, rfl, rfl, (by omega), ?_⟩
      refine ⟨_, rfl, r, _, 3, .int b, rfl, rfl, SqL.of h1, rfl, _, rfl, b, n, rfl, rfl, hd, ?_⟩
      refine ⟨_, rfl, r, _, 3, 3, rfl, rfl, h1, rfl, ?_⟩
      refine ⟨_, rfl, ?_⟩
      exact k _ i m _ hi (fmod_in hn).1 (fmod_in hn).2
    · -- row[1] = row[1] + 1
      refine ⟨_, rfl, r, _, 1, .int i, rfl, rfl, SqL.of h1, rfl, i, 1, rfl, rfl, ?_⟩
      refine ⟨_, rfl, r, _, 1, 1, rfl, rfl, h1, rfl, ?_⟩
      have h2 : (upd H r (rowO a (i + 1) m b)) r = some (rowO a (i + 1) m b) := upd_same
      have S2 : SqL K (upd H r (rowO a (i + 1) m b)) a (ns.map V.int) := by
        rcases hS with (z | ⟨u, z⟩) | z
        · exact .inl (.inl ((f1 _).at (RowAt.nl ⟨i, m, b, h1, hi⟩) z rfl (nl_ints ns)))
        · exact .inl (.inr ⟨u, (f1 _).at (RowAt.nl ⟨i, m, b, h1, hi⟩) z rfl rfl⟩)
        · exact .inr z
      -- if row[1] > len(row[0])
      refine ⟨_, rfl, r, _, 1, .int (i + 1), rfl, rfl, SqL.of h2, rfl, _, rfl, r, _, 0, .ref a, rfl, rfl, SqL.of h2, rfl, a, _, rfl, .inl S2, _, _, rfl, rfl, _, rfl, iteB (fun c => ?_) (fun c => ?_)⟩
      · refine ⟨_, rfl, r, _, 2, .int m, rfl, rfl, SqL.of h2, rfl, m, 48271, rfl, rfl, .inr (by decide), _, 11, rfl, rfl, _, 2147483647, rfl, rfl, (by show (0 : Int) < 2147483647; decide), ?_⟩
        refine ⟨_, rfl, r, _, 2, 2, rfl, rfl, h2, rfl, ?_⟩
        refine ⟨_, rfl, r, _, 2, _, rfl, rfl, SqL.of upd_same, rfl, _, 7, rfl, rfl, ⟨by decide, by decide⟩, _, rfl, _, n, rfl, rfl, (by omega), ?_⟩
        rw [upd_upd]
        exact k _ (i + 1) _ b (by omega) (fmod_in hn).1 (fmod_in hn).2
      · have hlt : i.toNat < ns.length := by
          have c' := of_decide_eq_false c
          rw [List.length_map] at c'
          omega
        have hat : atI (ns.map V.int) (i + 1 - 1) = some (.int ns[i.toNat]) := by
          have e : i + 1 - 1 = ((i.toNat : Nat) : Int) := by omega
          rw [e]
          exact atI_nat (by rw [List.getElem?_map, List.getElem?_eq_getElem hlt]; rfl)
        refine ⟨_, rfl, r, _, 0, .ref a, rfl, rfl, SqL.of h2, rfl, _, rfl, r, _, 1, .int (i + 1), rfl, rfl, SqL.of h2, rfl, _, 1, rfl, rfl, a, _, _, _, rfl, rfl, S2, hat, ?_⟩
        refine ⟨_, rfl, r, _, 2, .int m, rfl, rfl, SqL.of h2, rfl, m, 48271, rfl, rfl, .inr (by decide), _, rfl, _, _, rfl, rfl, _, 11, rfl, rfl, _, 2147483647, rfl, rfl, (by show (0 : Int) < 2147483647; decide), ?_⟩
        refine ⟨_, rfl, r, _, 2, 2, rfl, rfl, h2, rfl, ?_⟩
        refine ⟨_, rfl, 10, 18, rfl, rfl, ⟨by decide, by decide, by decide⟩, _, _, rfl, rfl, _, rfl, iteB (fun c => ?_) (fun c => ?_)⟩
        · refine ⟨_, rfl, _, rfl, _, n, rfl, rfl, hd, _, rfl, r, _, 3, 3, rfl, rfl, upd_same, rfl, ?_⟩
          refine ⟨_, rfl, _, rfl, _, n, rfl, rfl, (by omega), ?_⟩
          rw [upd_upd, upd_upd]
          exact k _ (i + 1) _ _ (by omega) (fmod_in hn).1 (fmod_in hn).2
        · refine ⟨_, rfl, _, rfl, _, n, rfl, rfl, (by omega), ?_⟩
          rw [upd_upd]
          exact k _ (i + 1) _ b (by omega) (fmod_in hn).1 (fmod_in hn).2
end
end B

set_option Elab.async false
set_option linter.all false
set_option maxRecDepth 100000
set_option maxHeartbeats 4000000
namespace B
open PySem PySem.Spec PyProof.Rows L2
open SX (S)
/-! ### texts of signs 0 and 1 -/
def Bits (l : List Nat) : Prop := ∀ c ∈ l, c = 48 ∨ c = 49
/-- a number of the width W -/
def Num (W : Nat) (x : Str) : Prop := ∃ l, x = S l ∧ l.length = W ∧ Bits l
theorem Bits.nil : Bits [] := fun _ h => absurd h (by simp)
theorem Bits.snoc {l : List Nat} {c : Nat} (h : Bits l) (hc : c = 48 ∨ c = 49) : Bits (l ++ [c]) := fun d hd => by
  rcases List.mem_append.mp hd with z | z
  · exact h d z
  · rw [List.mem_singleton.mp z]
    exact hc
theorem Bits.app {l m : List Nat} (h : Bits l) (h2 : Bits m) : Bits (l ++ m) := fun d hd => by
  rcases List.mem_append.mp hd with z | z
  · exact h d z
  · exact h2 d z
theorem Bits.take {l : List Nat} (n : Nat) (h : Bits l) : Bits (l.take n) := fun d hd => h d (List.mem_of_mem_take hd)
theorem Bits.drop {l : List Nat} (n : Nat) (h : Bits l) : Bits (l.drop n) := fun d hd => h d (List.mem_of_mem_drop hd)
theorem joinL_signs : ∀ cs : List Nat, TL.joinL [] (cs.map fun c => [c]) = cs
  | [] => rfl
  | [c] => rfl
  | c :: d :: r => by
    show [c] ++ ([] ++ TL.joinL [] ((d :: r).map fun c => [c])) = c :: d :: r
    rw [joinL_signs (d :: r)]
    rfl
theorem empty_S : ("" : Str) = S [] := by decide +kernel
theorem join_signs (cs : List Nat) : Txt.join "" (cs.map fun c => S [c]) = S cs := by
  have e : cs.map (fun c => S [c]) = (cs.map fun c => [c]).map S := by rw [List.map_map]; rfl
  rw [empty_S, e, SX.join_S, joinL_signs]
theorem sum_signs (cs : List Nat) : ((cs.map fun c => S [c]).map (·.length)).sum = cs.length := by
  induction cs with
  | nil => rfl
  | cons c r ih =>
    rw [List.map_cons, List.map_cons, List.sum_cons, ih, SX.S_len, List.length_cons]
    show 1 + r.length = r.length + 1
    omega
theorem op_rep_str {X : Cx} : OpR X (binaryOp .Mult) (fun x y H Q => ∃ z k, x = .str z ∧ y = .int k ∧ PySem.MulOk z k ∧ Q (.str (Txt.mul z k)) H) := by
  intro pins s σ H x y v u Q I rx ry h
  obtain ⟨z, k, rfl, rfl, ok, q⟩ := h
  obtain ⟨t, rfl⟩ := rx
  obtain ⟨t', rfl⟩ := ry
  exact PySem.SB.mul ok fun t' tk => ⟨.str _, H, I.tok _, ⟨_, rfl⟩, q⟩
theorem zeros_ok : ∀ n : Nat, n ≤ 12 → PySem.MulOk "0" (n : Int) := fun n hn => by
  have z : (List.range 13).all (fun n => (decide (((n : Nat) : Int) < -(2 ^ 63 : Int)) || decide (((n : Nat) : Int) ≥ 2 ^ 63)) == false && (decide (((n : Nat) : Int) < 1) || (!decide ((("0" : Str).length : Int) > (2 ^ 63 - 1) / ((n : Nat) : Int)) && (Builtin.Str.tooLong (("0" : Str).length * n) == false)))) = true := by decide +kernel
  have q := List.all_eq_true.mp z n (List.mem_range.mpr (by omega))
  simp only [Bool.and_eq_true, Bool.or_eq_true, decide_eq_true_eq, beq_iff_eq, Bool.not_eq_true', decide_eq_false_iff_not] at q
  refine ⟨q.1, fun h1 _ => ?_, fun h1 _ => ?_⟩
  · rcases q.2 with a | a
    · exact absurd a h1
    · exact a.1
  · rcases q.2 with a | a
    · exact absurd a h1
    · rw [Int.toNat_natCast]
      exact a.2
theorem zeros_is : ∀ n : Nat, n ≤ 12 → Txt.mul "0" (n : Int) = S (List.replicate n 48) := fun n hn => by
  have z : (List.range 13).all (fun n => decide (Txt.mul "0" ((n : Nat) : Int) = S (List.replicate n 48))) = true := by decide +kernel
  exact of_decide_eq_true (List.all_eq_true.mp z n (List.mem_range.mpr (by omega)))
section
variable {P : Program} {w : World} {K : PySem.W.Frag} {mg : Str → Option Value} {base : Heap}
theorem RowAt.ne {r a p : Addr} {H : Hp} {o : HO} (h : RowAt r a H) (n : r ≠ p) : RowAt r a (upd H p o) := by
  obtain ⟨i, m, b, z, h0⟩ := h
  exact ⟨i, m, b, by rw [upd_ne n]; exact z, h0⟩
theorem RowAt.out {r a p : Addr} {H : Hp} (h : RowAt r a H) (n : H p = none) : r ≠ p := by
  obtain ⟨i, m, b, z, h0⟩ := h
  exact ne_of_none z n
/-- a number, each sign drawn -/
def spNumber (K : PySem.W.Frag) : Sp := fun vs H Q _ => ∃ (r a : Addr) (W : Nat), vs = [.ref r, .int W] ∧ RowAt r a H ∧ Scr K a H ∧ W ≤ 12 ∧
  ∀ (x : Str) (H' : Hp), Num W x → RowAt r a H' → Frm [r] H H' → Q (.str x) H'
theorem c_lnumber (T : Txt P w K mg base) : CalX CX0 P w K mg base 2 "_law_number" (spNumber K) := by
  obtain ⟨fd, F⟩ := T.t.def_ 37 (d := d_lnumber)
  refine ⟨_, fd, _, F.ok sc_lnumber (fun vs H Q E h => ?_) (fun cdv A outer s H vs Q E hr h => ?_), He.glo_ok T.X T.G (T.t.fact 15), F.kp, F.bindsN fun _ _ _ _ _ _ us hl => match us, hl with | [_, _], _ => rfl⟩
  · obtain ⟨r, a, W, rfl, _⟩ := h
    rfl
  · obtain ⟨r, a, W, rfl, hR, hS, hW, k⟩ := h
    refine ⟨_, PSs.nox (pss_one (ps_ret (pe_join pe_str (pe_lc (own := [("_law_k", 2)]) (g := gName 2) rfl sc_lnumber.nd (pi_range1 rfl (n_range T) (pa_cons (pv 1) pa_nil)) (blkOk_by (N := ["_law_row", "_law_width_here", "_law_k"]) (sc := defScope s_lnumber) (own := [("_law_k", 2)]) (by decide +kernel)) (fun _ _ _ _ _ => pg_name (i := 2) sc_lnumber.nd rfl (Or.inl rfl)) (fun _ _ _ _ _ => pts_nil) (fun _ _ _ _ _ => by exact (pe_ix ix_str pe_str (pe_cx (c_ltaken T) hr (by decide) rfl pass0 (pa_cons (pv 0) (pa_cons pe_int pa_nil))) (fun _ _ => rfl))))))), ?_⟩
    refine ⟨⟨_, rfl⟩, _, rfl, (W : Int), rfl, by omega, by omega, fun D hD => ?_⟩
    have nDr : r ≠ D := hR.out hD
    refine lc_range (lo := 0) (n := (W : Int).toNat) (fun i H' => ∃ cs : List Nat, cs.length = i ∧ Bits cs ∧ H' D = some (.lst ((cs.map fun c => S [c]).map V.str)) ∧ RowAt r a H' ∧ Frm [r] H H')
      ⟨[], rfl, Bits.nil, upd_same, hR.ne nDr, (Frm.refl _ _).new hD⟩ ?_ ?_
    · rintro i H1 hi ⟨cs, hl, hb, hD1, hR1, f1⟩
      refine ⟨rfl, _, rfl, r, a, 2, rfl, hR1, f1.scr hR.nl hS, by decide, by decide, fun v H2 h0 h1 hR2 f2 => ?_⟩
      have hD2 : H2 D = some (.lst ((cs.map fun c => S [c]).map V.str)) := f2.k D _ hD1 rfl (by simpa using nDr.symm)
      have hv : v = 0 ∨ v = 1 := by omega
      have fin : ∀ c : Nat, c = 48 ∨ c = 49 → ∃ acc, H2 D = some (.lst acc) ∧ acc.length < sizeLine ∧ ∃ cs : List Nat, cs.length = i + 1 ∧ Bits cs ∧ (upd H2 D (.lst (acc ++ [V.str ⟨#[c]⟩]))) D = some (.lst ((cs.map fun c => S [c]).map V.str)) ∧ RowAt r a (upd H2 D (.lst (acc ++ [V.str ⟨#[c]⟩]))) ∧ Frm [r] H (upd H2 D (.lst (acc ++ [V.str ⟨#[c]⟩]))) := fun c hc => by
        refine ⟨_, hD2, by rw [List.length_map, List.length_map]; exact small1000 (by omega), cs ++ [c], by rw [List.length_append, hl]; rfl, hb.snoc hc, ?_, ?_, (f1.trans f2).new hD⟩
        · rw [upd_same, List.map_append, List.map_append]
          rfl
        · exact hR2.ne nDr
      rcases hv with rfl | rfl
      · exact ⟨_, _, 48, rfl, rfl, by decide +kernel, by decide +kernel, fin 48 (.inl rfl)⟩
      · exact ⟨_, _, 49, rfl, rfl, by decide +kernel, by decide +kernel, fin 49 (.inr rfl)⟩
    · rintro H1 ⟨cs, hl, hb, hD1, hR1, f1⟩
      refine ⟨_, D, cs.map fun c => S [c], rfl, rfl, .inl (SqL.of hD1), ?_, ?_⟩
      · rw [sum_signs, empty_S, SX.S_len]
        show cs.length + _ * 0 ≤ 16777216
        omega
      · rw [join_signs]
        exact k _ H1 ⟨cs, rfl, by omega, hb⟩ hR1 f1
end
end B

set_option Elab.async false
set_option linter.all false
set_option maxRecDepth 100000
set_option maxHeartbeats 4000000
namespace B
open PySem PySem.Spec PyProof.Rows L2
open SX (S)
/-! ### the order of texts -/
def leS (x y : Str) : Prop := x.cps.toList ≤ y.cps.toList
theorem leS_of {x y : Str} (h : ltCps y.cps.toList x.cps.toList = false) : leS x y := by
  rw [ltCps_eq] at h
  exact of_decide_eq_false h
theorem of_leS {x y : Str} (h : leS x y) : ltCps y.cps.toList x.cps.toList = false := by
  rw [ltCps_eq]
  exact decide_eq_false h
theorem leS_trans {x y z : Str} (h1 : leS x y) (h2 : leS y z) : leS x z := List.le_trans h1 h2
theorem leS_antisymm {x y : Str} (h1 : leS x y) (h2 : leS y x) : x = y := TL.ext_tl (List.le_antisymm h1 h2)
theorem rising_pw : ∀ (r : List Str) (x : Str), risingS x r = true → (x :: r).Pairwise leS
  | [], x, _ => by simp
  | y :: r, x, h => by
    have h' : (!ltCps y.cps.toList x.cps.toList && risingS y r) = true := h
    rw [Bool.and_eq_true, Bool.not_eq_true'] at h'
    have ih := rising_pw r y h'.2
    refine List.pairwise_cons.mpr ⟨fun z hz => ?_, ih⟩
    have hxy : leS x y := leS_of h'.1
    rcases List.mem_cons.mp hz with e | e
    · rw [e]
      exact hxy
    · exact leS_trans hxy ((List.pairwise_cons.mp ih).1 z e)
theorem sorted_pw : ∀ {l : List Str}, sortedS l = true → l.Pairwise leS
  | [], _ => .nil
  | x :: r, h => rising_pw r x h
theorem pw_sorted {l : List Str} (h : l.Pairwise leS) : sortedS l = true := sortedS_of_pairwise l (h.imp of_leS)
theorem pw_perm_eq : ∀ {l m : List Str}, l.Pairwise leS → m.Pairwise leS → l.Perm m → l = m
  | [], m, _, _, p => (List.perm_nil.mp p.symm).symm
  | x :: r, [], _, _, p => absurd (List.perm_nil.mp p) (by simp)
  | x :: r, y :: t, h1, h2, p => by
    have a1 := List.pairwise_cons.mp h1
    have a2 := List.pairwise_cons.mp h2
    have e : x = y := by
      have hx : x ∈ y :: t := p.mem_iff.mp List.mem_cons_self
      have hy : y ∈ x :: r := p.mem_iff.mpr List.mem_cons_self
      rcases List.mem_cons.mp hx with e | e
      · exact e
      · rcases List.mem_cons.mp hy with e' | e'
        · exact e'.symm
        · exact leS_antisymm (a1.1 y e') (a2.1 x e)
    subst e
    rw [pw_perm_eq a1.2 a2.2 (List.Perm.cons_inv p)]
theorem sorted_eq {l m : List Str} (h1 : sortedS l = true) (h2 : sortedS m = true) (p : l.Perm m) : l = m := pw_perm_eq (sorted_pw h1) (sorted_pw h2) p
/-- a sorted list, some left out -/
theorem sorted_filter {l : List Str} (f : Str → Bool) (h : sortedS l = true) : sortedS (l.filter f) = true := pw_sorted ((sorted_pw h).filter f)
/-! ### data: lists of texts -/
theorem strOk_bits {l : List Nat} (h : Bits l) : PyData.strOk (S l) = true := by
  show (S l).cps.all (· < 0x110000) = true
  rw [Array.all_eq_true']
  intro c hc
  have z : c ∈ l := by simpa [SX.S] using hc
  rcases h c z with e | e <;> (subst e; rfl)
theorem strOk_num {W : Nat} {x : Str} (h : Num W x) : PyData.strOk x = true := by
  obtain ⟨l, rfl, _, b⟩ := h
  exact strOk_bits b
theorem shaped_strs {xs : List Str} (h : ∀ x ∈ xs, PyData.strOk x = true) : SeqAt.shaped (.list (xs.map .str)) = true := by
  have e1 : (PyData.list (xs.map .str)).canLay0 = true := by
    show PyData.canLayAll0 (xs.map .str) = true
    rw [canLayAll_strs']
    exact List.all_eq_true.mpr h
  have e2 : (PyData.list (xs.map .str)).depth ≤ 64 := by
    show PyData.depthAll (xs.map .str) + 1 ≤ 64
    rw [depthAll_strs']
    decide
  show ((PyData.list (xs.map .str)).canLay0 && decide ((PyData.list (xs.map .str)).depth ≤ 64)) = true
  rw [e1, decide_eq_true e2]
  rfl
theorem dp_strs {K : PySem.W.Frag} {H : Hp} : ∀ (xs : List Str), DpAll K H (xs.map V.str) (xs.map .str)
  | [] => .nil
  | x :: r => .cons (.str x) (dp_strs r)
theorem eqv_empty (xs : List Str) : PyData.eqv (.list (xs.map .str)) (.list []) = xs.isEmpty := by
  cases xs <;> rfl
end B

set_option Elab.async false
set_option linter.all false
set_option maxRecDepth 100000
set_option maxHeartbeats 4000000
namespace B
open PySem PySem.Spec PyProof.Rows L2
open SX (S)
/-- a part of a list is of its items -/
theorem cutV_strs (xs : List Str) (lo hi : Option Int) : ∃ ys : List Str, cutV (xs.map V.str) lo hi = ys.map V.str ∧ (∀ y ∈ ys, y ∈ xs) ∧ ys.length ≤ xs.length ∧ ys.Sublist xs := by
  refine ⟨(xs.drop (HT.sIx (xs.map V.str).length 0 lo)).take (HT.sIx (xs.map V.str).length (xs.map V.str).length hi - HT.sIx (xs.map V.str).length 0 lo), ?_, fun y h => List.mem_of_mem_drop (List.mem_of_mem_take h), ?_, (List.take_sublist _ _).trans (List.drop_sublist _ _)⟩
  · unfold cutV
    rw [List.map_take, List.map_drop]
  · rw [List.length_take, List.length_drop]
    omega
theorem num_len {W : Nat} {x : Str} (h : Num W x) : x.length = W := by
  obtain ⟨l, rfl, e, _⟩ := h
  rw [SX.S_len, e]
theorem size12 {n : Nat} (h : n ≤ 100) : n ≤ sizeLine := Nat.le_trans h (by decide)
/-- an item of a list at a place below its length -/
theorem at_strs {xs : List Str} {v : Int} (h0 : 0 ≤ v) (h1 : v < (xs.length : Int)) : ∃ x ∈ xs, atI (xs.map V.str) v = some (.str x) := by
  obtain ⟨n, rfl⟩ : ∃ n : Nat, v = (n : Int) := ⟨v.toNat, by omega⟩
  have hlt : n < xs.length := by omega
  exact ⟨xs[n], List.getElem_mem hlt, atI_nat (by rw [List.getElem?_map, List.getElem?_eq_getElem hlt]; rfl)⟩
/-- the front of one number, the rest of another -/
theorem num_mix {W : Nat} {x y : Str} (hx : Num W x) (hy : Num W y) {i : Int} (h0 : 0 ≤ i) : Num W (Txt.slice x none (some i) ++ Txt.slice y (some i) none) := by
  obtain ⟨l, rfl, e1, b1⟩ := hx
  obtain ⟨m, rfl, e2, b2⟩ := hy
  rw [SX.slice_to h0, SX.slice_from h0, SX.S_cat]
  refine ⟨_, rfl, ?_, (b1.take _).app (b2.drop _)⟩
  rw [List.length_append, List.length_take, List.length_drop]
  omega
theorem slice_len {W : Nat} {x : Str} (hx : Num W x) {i : Int} (h0 : 0 ≤ i) : (Txt.slice x none (some i)).length ≤ W ∧ (Txt.slice x (some i) none).length ≤ W := by
  obtain ⟨l, rfl, e1, b1⟩ := hx
  rw [SX.slice_to h0, SX.slice_from h0, SX.S_len, SX.S_len, List.length_take, List.length_drop]
  omega
section
variable {P : Program} {w : World} {K : PySem.W.Frag} {mg : Str → Option Value} {base : Heap}
/-- a number; some: a list of such -/
def spNear (K : PySem.W.Frag) : Sp := fun vs H Q _ => ∃ (r a p : Addr) (W : Nat) (xs : List Str), vs = [.ref r, .int W, .ref p] ∧ RowAt r a H ∧ Scr K a H ∧ W ≤ 12 ∧ H p = some (.lst (xs.map V.str)) ∧ (∀ x ∈ xs, Num W x) ∧ xs.length ≤ 100 ∧
  ∀ (x : Str) (H' : Hp), Num W x → RowAt r a H' → Frm [r] H H' → Q (.str x) H'
theorem c_lnear (T : Txt P w K mg base) : CalX CX0 P w K mg base 3 "_law_near" (spNear K) := by
  obtain ⟨fd, F⟩ := T.t.def_ 38 (d := d_lnear)
  refine ⟨_, fd, _, F.ok sc_lnear (fun vs H Q E h => ?_) (fun cdv A outer s H vs Q E hr h => ?_), He.glo_ok T.X T.G (T.t.fact 16), F.kp, F.bindsN fun _ _ _ _ _ _ us hl => match us, hl with | [_, _, _], _ => rfl⟩
  · obtain ⟨r, a, p, W, xs, rfl, _⟩ := h
    rfl
  · obtain ⟨r, a, p, W, xs, rfl, hR, hS, hW, hp, hn, hl, k⟩ := h
    refine ⟨_, PSs.nox (pss_cons (ps_set (i := 3) sc_lnear.nd rfl (Or.inl rfl) (pe_cx (c_lnumber T) hr (by decide) rfl pass0 (pa_cons (pv 0) (pa_cons (pv 1) pa_nil))))
    (pss_cons (ps_if (PW.pt (pw_or (pt_cmpR (op_eqD hr.units) (pv 2) (pe_lst pa_nil) (nomark _)) (pw_or1 (pt_cmpR op_eq (pe_cx (c_ltaken T) hr (by decide) rfl pass0 (pa_cons (pv 0) (pa_cons pe_int pa_nil))) pe_int (nomark _)))))
      (pss_one (ps_ret (pv 3)))
      pss_nil)
    (pss_cons (ps_set (i := 4) sc_lnear.nd rfl (Or.inl rfl) (pe_cx (c_ltaken T) hr (by decide) rfl pass0 (pa_cons (pv 0) (pa_cons (pe_op op_add (pv 1) pe_int) pa_nil))))
    (pss_one (ps_ret (pe_op op_add_str (pe_slice C8.sl_txt (pe_ix ix_list (pv 2) (pe_cx (c_ltaken T) hr (by decide) rfl pass0 (pa_cons (pv 0) (pa_cons (pe_callB call_len_seq (by rfl) (n_len T) PySem.boot_len (pa_cons (pv 2) pa_nil)) pa_nil))) (fun _ _ => rfl)) po_none (po_some (pv 4))) (pe_slice C8.sl_txt (pv 3) (po_some (pv 4)) po_none))))))), ?_⟩
    refine ⟨_, rfl, _, rfl, r, a, W, rfl, hR, hS, hW, fun x H1 hx hR1 f1 => ?_⟩
    have hp1 : H1 p = some (.lst (xs.map V.str)) := f1.at hR.nl hp rfl (nl_strs xs)
    have fin : ∀ H2, RowAt r a H2 → Frm [r] H H2 → Q (.str x) H2 := fun H2 a1 a2 => k x H2 hx a1 a2
    -- some == []
    refine ⟨_, rfl, Nat.zero_le _, fun D hD => ?_⟩
    have f2 : Frm [r] H (upd H1 D (.lst [])) := f1.trans (Frm.of (same_upd hD))
    have hR2 := hR1.ne (hR1.out hD) (o := .lst [])
    have hp2 : (upd H1 D (.lst [])) p = some (.lst (xs.map V.str)) := same_upd hD _ _ hp1
    refine ⟨_, _, .lst (SqL.of hp2) (dp_strs xs), .lst (SqL.of upd_same) .nil, shaped_strs (fun x h => strOk_num (hn x h)), by decide +kernel, _, rfl, ?_⟩
    rw [eqv_empty]
    refine iteB (fun c => ?_) (fun c => ?_)
    · exact ⟨_, rfl, fin _ hR2 f2⟩
    · have hne : xs ≠ [] := fun e => by
        rw [e] at c
        cases c
      refine ⟨_, rfl, r, a, 3, rfl, hR2, f2.scr hR.nl hS, by decide, by decide, fun v H3 h0 h1 hR3 f3 => ?_⟩
      refine ⟨rfl, _, rfl, iteB (fun c => ?_) (fun c => ?_)⟩
      · exact ⟨_, rfl, fin _ hR3 (f2.trans f3)⟩
      · have f3' := f2.trans f3
        refine ⟨_, rfl, _, rfl, W, 1, rfl, rfl, r, a, (W : Int) + 1, rfl, hR3, f3'.scr hR.nl hS, by omega, by omega, fun many H4 m0 m1 hR4 f4 => ?_⟩
        have f4' := f3'.trans f4
        have hp4 : H4 p = some (.lst (xs.map V.str)) := f4'.at hR.nl hp rfl (nl_strs xs)
        have hlp : 0 < xs.length := List.length_pos_iff.mpr hne
        refine ⟨_, rfl, _, rfl, _, rfl, p, _, rfl, .inl (SqL.of hp4), r, a, _, rfl, hR4, f4'.scr hR.nl hS, by rw [List.length_map]; omega, by rw [List.length_map]; omega, fun v H5 v0 v1 hR5 f5 => ?_⟩
        have f5' := f4'.trans f5
        have hp5 : H5 p = some (.lst (xs.map V.str)) := f5'.at hR.nl hp rfl (nl_strs xs)
        obtain ⟨y, hy, hat⟩ := at_strs (xs := xs) v0 (by rw [List.length_map] at v1; exact v1)
        refine ⟨p, _, _, _, rfl, rfl, SqL.of hp5, hat, _, rfl, many, rfl, y, rfl, by rw [num_len (hn y hy)]; exact size12 (by omega), ?_⟩
        refine ⟨_, rfl, _, rfl, many, rfl, x, rfl, by rw [num_len hx]; exact size12 (by omega), ?_⟩
        refine ⟨_, _, rfl, rfl, ?_, ?_⟩
        · have l1 := (slice_len (hn y hy) m0).1
          have l2 := (slice_len hx m0).2
          exact size12 (by omega)
        · exact k _ H5 (num_mix (hn y hy) hx m0) hR5 f5'
/-- a width -/
def spWidth (K : PySem.W.Frag) : Sp := fun vs H Q _ => ∃ (r a : Addr), vs = [.ref r] ∧ RowAt r a H ∧ Scr K a H ∧ ∀ (W : Nat) (H' : Hp), 1 ≤ W → W ≤ 12 → RowAt r a H' → Frm [r] H H' → Q (.int W) H'
theorem c_lwidth (T : Txt P w K mg base) : CalX CX0 P w K mg base 2 "_law_width" (spWidth K) := by
  obtain ⟨fd, F⟩ := T.t.def_ 40 (d := d_lwidth)
  refine ⟨_, fd, _, F.ok sc_lwidth (fun vs H Q E h => ?_) (fun cdv A outer s H vs Q E hr h => ?_), He.glo_ok T.X T.G (T.t.fact 18), F.kp, F.bindsN fun _ _ _ _ _ _ us hl => match us, hl with | [_], _ => rfl⟩
  · obtain ⟨r, a, rfl, _⟩ := h
    rfl
  · obtain ⟨r, a, rfl, hR, hS, k⟩ := h
    refine ⟨_, PSs.nox (pss_one (ps_ret (pe_op op_add pe_int (pe_cx (c_ltaken T) hr (by decide) rfl pass0 (pa_cons (pv 0) (pa_cons (pe_ix ix_list (pe_lst (pa_cons pe_int (pa_cons pe_int (pa_cons pe_int pa_nil)))) (pe_cx (c_ltaken T) hr (by decide) rfl pass0 (pa_cons (pv 0) (pa_cons pe_int pa_nil))) (fun _ _ => rfl)) pa_nil)))))), ?_⟩
    refine ⟨_, rfl, by decide, fun D hD => ?_⟩
    have f1 : Frm [r] H (upd H D (.lst [.int 4, .int 7, .int 12])) := Frm.of (same_upd hD)
    refine ⟨_, rfl, r, a, 3, rfl, hR.ne (hR.out hD), f1.scr hR.nl hS, by decide, by decide, fun v H2 v0 v1 hR2 f2 => ?_⟩
    have hD2 : H2 D = some (.lst [.int 4, .int 7, .int 12]) := f2.k D _ upd_same rfl (by simpa using (hR.out hD).symm)
    have f2' := f1.trans f2
    have go : ∀ m : Int, 0 < m → m ≤ 12 → atI [V.int 4, V.int 7, V.int 12] v = some (.int m) → ∃ (p : Addr) (xs : List V) (i : Int) (v' : V), V.ref D = V.ref p ∧ V.int v = V.int i ∧ SqL K H2 p xs ∧ atI xs i = some v' ∧ spTaken K ([V.ref r, v'] ++ []) H2 (fun y H => ∃ i j, V.int 1 = V.int i ∧ y = .int j ∧ Q (.int (i + j)) H) E0 := fun m m0 m1 hat => by
      refine ⟨D, _, v, _, rfl, rfl, SqL.of hD2, hat, r, a, m, rfl, hR2, f2'.scr hR.nl hS, m0, by omega, fun u H3 u0 u1 hR3 f3 => ⟨1, u, rfl, rfl, ?_⟩⟩
      have e : (1 : Int) + u = ((1 + u.toNat : Nat) : Int) := by omega
      rw [e]
      exact k _ H3 (by omega) (by omega) hR3 (f2'.trans f3)
    have hv : v = 0 ∨ v = 1 ∨ v = 2 := by omega
    rcases hv with rfl | rfl | rfl
    · exact go 4 (by decide) (by decide) rfl
    · exact go 7 (by decide) (by decide) rfl
    · exact go 12 (by decide) (by decide) rfl
end
end B

set_option Elab.async false
set_option linter.all false
set_option maxRecDepth 100000
set_option maxHeartbeats 4000000
namespace B
open PySem PySem.Spec PyProof.Rows L2
open SX (S)
theorem ix_seqK {X : Cx} {K : PySem.W.Frag} (hK : X.K = K) : IxR X (rIx K) := by
  subst hK
  exact ix_seq
theorem in_seqK {X : Cx} {K : PySem.W.Frag} (hK : X.K = K) : OpR X (compareOp .In) (rIn K false) := by
  subst hK
  exact op_in_seq
theorem notIn_seqK {X : Cx} {K : PySem.W.Frag} (hK : X.K = K) : OpR X (compareOp .NotIn) (rIn K true) := by
  subst hK
  exact op_notIn_seq
theorem flat_strs (xs : List Str) : (xs.map V.str).all flatV = true := by
  induction xs with
  | nil => rfl
  | cons x r ih => rw [List.map_cons, List.all_cons, ih]; rfl
/-- one sign of a number turned, the signs behind it of another -/
theorem num_flip {W i c : Nat} {x y : Str} (hx : Num W x) (hy : Num W y) (hi : i < W) (hc : c = 48 ∨ c = 49) : Num W (Txt.slice x none (some (0 + (i : Int))) ++ S [c] ++ Txt.slice y (some (0 + (i : Int) + 1)) none) := by
  obtain ⟨l, rfl, e1, b1⟩ := hx
  obtain ⟨m, rfl, e2, b2⟩ := hy
  rw [SX.slice_to (by omega), SX.slice_from (by omega), SX.S_cat, SX.S_cat]
  refine ⟨_, rfl, ?_, ((b1.take _).snoc hc).app (b2.drop _)⟩
  rw [List.length_append, List.length_append, List.length_take, List.length_drop]
  show min _ _ + 1 + _ = W
  omega
theorem num_sign {W i : Nat} {x : Str} (hx : Num W x) (hi : i < W) : ∃ c, (c = 48 ∨ c = 49) ∧ atI x.cps.toList (0 + (i : Int)) = some c := by
  obtain ⟨l, rfl, e1, b1⟩ := hx
  have hl : i < l.length := by omega
  refine ⟨l[i], b1 _ (List.getElem_mem hl), ?_⟩
  have e : (0 : Int) + (i : Int) = ((i : Nat) : Int) := by omega
  rw [e]
  exact atI_nat (List.getElem?_eq_getElem hl)
theorem in_strs {x : Str} {xs : List Str} (h : inV (V.str x) (xs.map V.str) = false) : x ∉ xs := fun hx => by
  have : inV (V.str x) (xs.map V.str) = true := by
    unfold inV
    rw [List.any_map, List.any_eq_true]
    exact ⟨x, hx, by show eqV (V.str x) (V.str x) = true; simp [eqV]⟩
  rw [this] at h
  cases h
theorem nodup_snoc {xs : List Str} {x : Str} (h : xs.Nodup) (hx : x ∉ xs) : (xs ++ [x]).Nodup := by
  rw [List.nodup_append]
  refine ⟨h, by simp, fun a ha c hc => ?_⟩
  rw [List.mem_singleton] at hc
  rw [hc]
  intro e
  exact hx (e ▸ ha)
/-- parts from b at the place i, not before -/
def Parts (b z : Str) (i : Nat) : Prop := z.cps.toList[i]? ≠ b.cps.toList[i]? ∧ ∀ m, m < i → z.cps.toList[m]? = b.cps.toList[m]?
theorem flip_parts {W i c d : Nat} {x y : Str} (hx : Num W x) (hy : Num W y) (hi : i < W) (hc : atI x.cps.toList (0 + (i : Int)) = some c) (hd : d ≠ c) : Parts x (Txt.slice x none (some (0 + (i : Int))) ++ S [d] ++ Txt.slice y (some (0 + (i : Int) + 1)) none) i := by
  obtain ⟨l, rfl, e1, b1⟩ := hx
  obtain ⟨m, rfl, e2, b2⟩ := hy
  have hil : i < l.length := by omega
  have e0 : (0 : Int) + (i : Int) = ((i : Nat) : Int) := by omega
  rw [SX.slice_to (by omega), SX.slice_from (by omega), SX.S_cat, SX.S_cat]
  have el : ∀ q : List Nat, (S q).cps.toList = q := fun q => by simp [SX.S]
  have et : (0 + (i : Int)).toNat = i := by omega
  rw [et]
  unfold Parts
  rw [el, el]
  rw [el, e0, atI_nat (List.getElem?_eq_getElem hil)] at hc
  have tl : (l.take i).length = i := by rw [List.length_take]; omega
  refine ⟨?_, fun q hq => ?_⟩
  · rw [List.append_assoc, List.getElem?_append_right (by omega), tl, Nat.sub_self, List.getElem?_eq_getElem hil, hc]
    intro z
    exact hd (Option.some.inj z)
  · rw [List.append_assoc, List.getElem?_append_left (by omega), List.getElem?_take_of_lt hq]
theorem parts_ne {b z : Str} {xs : List Str} (h : ∀ j y, xs[j]? = some y → Parts b y j) (hz : Parts b z xs.length) : z ∉ xs ∧ b ∉ xs := by
  refine ⟨fun e => ?_, fun e => ?_⟩
  · obtain ⟨j, hj⟩ := List.getElem?_of_mem e
    have hl := (List.getElem?_eq_some_iff.mp hj).1
    exact (h j z hj).1 (hz.2 j hl)
  · obtain ⟨j, hj⟩ := List.getElem?_of_mem e
    exact (h j b hj).1 rfl
section
variable {P : Program} {w : World} {K : PySem.W.Frag} {mg : Str → Option Value} {base : Heap}
def spThings (K : PySem.W.Frag) : Sp := fun vs H Q _ => ∃ (r a : Addr) (W : Nat) (most : Int), vs = [.ref r, .int W, .int most] ∧ RowAt r a H ∧ Scr K a H ∧ W ≤ 12 ∧ 0 ≤ most ∧ most ≤ 40 ∧
  ∀ (xs : List Str) (p : Addr) (H' : Hp), (∀ x ∈ xs, Num W x) → xs.length ≤ 41 → xs.Nodup → sortedS xs = true → H' p = some (.lst (xs.map V.str)) → RowAt r a H' → Frm [r] H H' → Q (.ref p) H'
theorem c_lthings (T : Txt P w K mg base) : CalX CX0 P w K mg base 4 "_law_things" (spThings K) := by
  obtain ⟨fd, F⟩ := T.t.def_ 39 (d := d_lthings)
  refine ⟨_, fd, _, F.ok sc_lthings (fun vs H Q E h => ?_) (fun cdv A outer s H vs Q E hr h => ?_), He.glo_ok T.X T.G (T.t.fact 17), F.kp, F.bindsN fun _ _ _ _ _ _ us hl => match us, hl with | [_, _, _], _ => rfl⟩
  · obtain ⟨r, a, W, most, rfl, _⟩ := h
    rfl
  · obtain ⟨r, a, W, most, rfl, hR, hS, hW, hm0, hm1, k⟩ := h
    refine ⟨_, PSs.nox (pss_cons (ps_set (i := 3) sc_lthings.nd rfl (Or.inl rfl) (pe_lst pa_nil))
    (pss_cons (ps_if (PW.pt (pw_and (pt_cmpR op_gt (pv 2) pe_int (nomark _)) (pw_and1 (pt_cmpR op_eq (pe_cx (c_ltaken T) hr (by decide) rfl pass0 (pa_cons (pv 0) (pa_cons pe_int pa_nil))) pe_int (nomark _)))))
      (pss_cons (ps_set (i := 4) sc_lthings.nd rfl (Or.inl rfl) (pe_ix ix_list (pe_lst (pa_cons (pe_cx (c_lnumber T) hr (by decide) rfl pass0 (pa_cons (pv 0) (pa_cons (pv 1) pa_nil))) (pa_cons (pe_op op_rep_str pe_str (pv 1)) pa_nil))) (pe_cx (c_ltaken T) hr (by decide) rfl pass0 (pa_cons (pv 0) (pa_cons pe_int pa_nil))) (fun _ _ => rfl)))
      (pss_cons (ps_for PassesOwn.never rfl (pi_range1 rfl (n_range T) (pa_cons (pv 1) pa_nil)) (pg_name (i := 5) sc_lthings.nd rfl (Or.inl rfl))
        (pss_one (ps_expr (pe_bm PySem.F.plainAttrs_list PySem.F.slot_list_append PySem.F.type_list_append mt_append (pv 3) (pa_cons (pe_op op_add_str (pe_op op_add_str (pe_slice C8.sl_txt (pv 4) po_none (po_some (pv 5))) (pe_ix ix_str pe_str (pe_callTy call_int_str (by rfl) (n_int T) (by decide +kernel) (pa_cons (pe_ix ix_str (pv 4) (pv 5) (fun _ _ => rfl)) pa_nil)) (fun _ _ => rfl))) (pe_slice C8.sl_txt (pe_cx (c_lnumber T) hr (by decide) rfl pass0 (pa_cons (pv 0) (pa_cons (pv 1) pa_nil))) (po_some (pe_op op_add (pv 5) pe_int)) po_none)) pa_nil)))))
      (pss_one (ps_ret (pe_callB cr_sortedS (by rfl) (n_sorted T) (by decide +kernel) (pa_cons (pe_op op_cat (pe_slice sl_list (pv 3) po_none (po_some (pe_callB (call_max2 rfl) (by rfl) (n_max T) (by decide +kernel) (pa_cons (pe_op op_sub (pv 1) (pe_cx (c_ltaken T) hr (by decide) rfl pass0 (pa_cons (pv 0) (pa_cons pe_int pa_nil)))) (pa_cons (pe_cx (c_ltaken T) hr (by decide) rfl pass0 (pa_cons (pv 0) (pa_cons (pe_op op_add (pv 1) pe_int) pa_nil))) pa_nil))))) (pe_lst (pa_cons (pv 4) pa_nil))) pa_nil))))))
      pss_nil)
    (pss_cons (ps_for PassesOwn.never rfl (pi_range1 rfl (n_range T) (pa_cons (pe_cx (c_ltaken T) hr (by decide) rfl pass0 (pa_cons (pv 0) (pa_cons (pe_op op_add (pv 2) pe_int) pa_nil))) pa_nil)) (pg_name (i := 5) sc_lthings.nd rfl (Or.inl rfl))
      (pss_cons (ps_set (i := 6) sc_lthings.nd rfl (Or.inl rfl) (pe_cx (c_lnear T) hr (by decide) rfl pass0 (pa_cons (pv 0) (pa_cons (pv 1) (pa_cons (pv 3) pa_nil)))))
      (pss_one (ps_if (pt_cmpR op_notIn_seq (pv 6) (pv 3) rfl)
        (pss_one (ps_expr (pe_bm PySem.F.plainAttrs_list PySem.F.slot_list_append PySem.F.type_list_append mt_append (pv 3) (pa_cons (pv 6) pa_nil))))
        pss_nil))))
    (pss_one (ps_ret (pe_callB cr_sortedS (by rfl) (n_sorted T) (by decide +kernel) (pa_cons (pv 3) pa_nil))))))), ?_⟩
    refine ⟨Nat.zero_le _, fun D hD => ?_⟩
    have nrD := hR.out hD
    have f0 : Frm [r] H (upd H D (.lst [])) := Frm.of (same_upd hD)
    have hR0 : RowAt r a (upd H D (.lst [])) := hR.ne nrD
    have hD0 : (upd H D (.lst [])) D = some (.lst (([] : List Str).map V.str)) := upd_same
    have keepD : ∀ {H1 H2 : Hp} {xs : List V}, H1 D = some (.lst xs) → Frm [r] H1 H2 → H2 D = some (.lst xs) := fun h f => f.k D _ h rfl (by simpa using nrD.symm)
    -- the list, sorted
    have srt : ∀ (H1 : Hp) (xs : List Str) (z : Addr), (∀ x ∈ xs, Num W x) → xs.length ≤ 41 → xs.Nodup → H1 z = some (.lst (xs.map V.str)) → RowAt r a H1 → Frm [r] H H1 → rSortedS K [.ref z] H1 Q := fun H1 xs z hx hl hnd hz hR1 f1 =>
      ⟨z, xs, rfl, SqL.of hz, by omega, fun ys p pm ss hp => k ys p _ (fun y hy => hx y (pm.mem_iff.mp hy)) (by rw [pm.length_eq]; exact hl) (pm.nodup_iff.mpr hnd) ss upd_same (hR1.ne (hR1.out hp)) (f1.trans (Frm.of (same_upd hp)))⟩
    -- the second half: drawn numbers
    have rest : ∀ H1 : Hp, RowAt r a H1 → Frm [r] H H1 → H1 D = some (.lst (([] : List Str).map V.str)) → ∀ v4 v5 v6 : Option V,
        tSeq (tFor (iRng1 (tCons (tCall (spTaken K) [] E0 (tCons (tVar 0) (tCons (tOp (rI0 fun i j => .int (i + j)) (tVar 2) (tC (.int 1))) tNil))) tNil)) (gName 5)
          (tSeq (tAsg (tCall (spNear K) [] E0 (tCons (tVar 0) (tCons (tVar 1) (tCons (tVar 3) tNil)))) (gName 6))
            (tIfS (tTest (tOp (rIn K true) (tVar 6) (tVar 3))) (tDrop (tBM K "list" rAppend (tVar 3) (tCons (tVar 6) tNil))) tNext)))
          (tRet (tCB (rSortedS K) (tCons (tVar 3) tNil))) { nx := fun _ H' => Q .non H', rt := Q } [some (.ref r), some (.int W), some (.int most), some (.ref D), v4, v5, v6] H1 := fun H1 hR1 f1 hD1 v4 v5 v6 => by
      refine ⟨_, rfl, _, rfl, most, 1, rfl, rfl, r, a, most + 1, rfl, hR1, f1.scr hR.nl hS, by omega, by omega, fun m H2 m0 m1 hR2 f2 => ?_⟩
      refine ⟨m, rfl, by omega, by omega, ?_⟩
      refine for_range (lo := 0) (n := m.toNat) (fun i σ H' => ∃ v5 v6, σ = [some (.ref r), some (.int W), some (.int most), some (.ref D), v4, v5, v6] ∧ ∃ xs : List Str, (∀ x ∈ xs, Num W x) ∧ xs.Nodup ∧ xs.length ≤ i ∧ H' D = some (.lst (xs.map V.str)) ∧ RowAt r a H' ∧ Frm [r] H H')
        ⟨v5, v6, rfl, [], fun x h => absurd h (by simp), .nil, Nat.le_refl _, keepD hD1 f2, hR2, f1.trans f2⟩ ?_ ?_
      · rintro i σ H3 hi ⟨w5, w6, rfl, xs, hx, hnd, hl, hD3, hR3, f3⟩
        refine ⟨_, rfl, _, rfl, _, rfl, r, a, D, W, xs, rfl, hR3, f3.scr hR.nl hS, hW, hD3, hx, by omega, fun x H4 hxn hR4 f4 => ?_⟩
        have hD4 := keepD hD3 f4
        refine ⟨_, rfl, _, rfl, D, _, rfl, .inl (SqL.of hD4), rfl, flat_strs xs, _, rfl, iteB (fun c => ?_) (fun c => ?_)⟩
        · refine ⟨_, rfl, .inl ⟨rfl, _, SqL.of hD4⟩, _, rfl, D, _, _, rfl, rfl, hD4, by rw [List.length_map]; exact small1000 (by omega), ?_⟩
          refine ⟨_, _, rfl, xs ++ [x], fun y hy => ?_, nodup_snoc hnd (in_strs (by simpa using c)), by rw [List.length_append]; show xs.length + 1 ≤ i + 1; omega, by rw [upd_same, List.map_append]; rfl, hR4.ne nrD, (f3.trans f4).new hD⟩
          rcases List.mem_append.mp hy with z | z
          · exact hx y z
          · rw [List.mem_singleton.mp z]
            exact hxn
        · exact ⟨_, _, rfl, xs, hx, hnd, by omega, hD4, hR4, f3.trans f4⟩
      · rintro σ H3 ⟨w5, w6, rfl, xs, hx, hnd, hl, hD3, hR3, f3⟩
        exact ⟨_, rfl, srt H3 xs D hx (by omega) hnd hD3 hR3 f3⟩
    -- if most > 11 and taken(row, 5) == 4
    refine ⟨_, rfl, most, 11, rfl, rfl, _, rfl, iteB (fun c => ?_) (fun c => ?_)⟩
    · refine ⟨_, rfl, r, a, 5, rfl, hR0, f0.scr hR.nl hS, by decide, by decide, fun v H1 v0 v1 hR1 f1 => ?_⟩
      have f1' := f0.trans f1
      refine ⟨rfl, _, rfl, iteB (fun c => ?_) (fun c => ?_)⟩
      · -- base
        refine ⟨_, rfl, _, rfl, r, a, W, rfl, hR1, f1'.scr hR.nl hS, hW, fun x H2 hx hR2 f2 => ?_⟩
        have f2' := f1'.trans f2
        refine ⟨_, rfl, _, W, rfl, rfl, zeros_ok W hW, by show 2 ≤ sizeLine; decide, fun L hL => ?_⟩
        have nrL := hR2.out hL
        have f3' : Frm [r] H (upd H2 L (.lst [.str x, .str (Txt.mul "0" W)])) := f2'.trans (Frm.of (same_upd hL))
        refine ⟨_, rfl, r, a, 2, rfl, hR2.ne nrL, f3'.scr hR.nl hS, by decide, by decide, fun v H4 v0 v1 hR4 f4 => ?_⟩
        have hL4 : H4 L = some (.lst [.str x, .str (Txt.mul "0" W)]) := f4.k L _ upd_same rfl (by simpa using nrL.symm)
        have f4' := f3'.trans f4
        have hD4 : H4 D = some (.lst (([] : List Str).map V.str)) := keepD (keepD (keepD (keepD hD0 f1) f2) (Frm.of (same_upd hL))) f4
        have zer : Num W (Txt.mul "0" W) := by
          rw [zeros_is W hW]
          exact ⟨_, rfl, List.length_replicate, fun c hc => .inl (List.eq_of_mem_replicate hc)⟩
        obtain ⟨b, hb, hat⟩ : ∃ b, Num W b ∧ atI [V.str x, V.str (Txt.mul "0" W)] v = some (.str b) := by
          have hv : v = 0 ∨ v = 1 := by omega
          rcases hv with rfl | rfl
          · exact ⟨x, hx, rfl⟩
          · exact ⟨_, zer, rfl⟩
        refine ⟨L, _, v, _, rfl, rfl, SqL.of hL4, hat, ?_⟩
        have sz : ∀ {n : Nat}, n ≤ 100 → n ≤ sizeLine := fun h => size12 h
        -- the loop
        refine ⟨_, rfl, (W : Int), rfl, by omega, by omega, ?_⟩
        refine for_range (lo := 0) (n := (W : Int).toNat) (fun i σ H' => ∃ v5, σ = [some (.ref r), some (.int W), some (.int most), some (.ref D), some (.str b), v5, none] ∧ ∃ xs : List Str, (∀ x ∈ xs, Num W x) ∧ (∀ j z, xs[j]? = some z → Parts b z j) ∧ xs.Nodup ∧ xs.length = i ∧ H' D = some (.lst (xs.map V.str)) ∧ RowAt r a H' ∧ Frm [r] H H')
          ⟨none, rfl, [], fun x h => absurd h (by simp), fun j z h => by simp at h, .nil, rfl, hD4, hR4, f4'⟩ ?_ ?_
        · rintro i σ H5 hi ⟨w5, rfl, xs, hx, hpt, hnd, hl, hD5, hR5, f5⟩
          have hi' : i < W := by omega
          obtain ⟨c, hc, hcat⟩ := num_sign hb hi'
          refine ⟨_, rfl, .inl ⟨rfl, _, SqL.of hD5⟩, ?_⟩
          refine ⟨_, rfl, _, rfl, _, rfl, b, rfl, sz (by rw [num_len hb]; omega), ?_⟩
          refine ⟨_, rfl, _, rfl, b, _, c, rfl, rfl, sz (by rw [num_len hb]; omega), hcat, ?_⟩
          have go : ∀ (n : Int) (d : Nat), PySem.intText? (S [c]) = some n → atI ("10" : Str).cps.toList n = some d → (d = 48 ∨ d = 49) → ∃ (a' : Str) (n' : Int), [V.str ⟨#[c]⟩] = [V.str a'] ∧ PySem.intText? a' = some n' ∧ a'.length ≤ 640 ∧
              ∃ (z : Str) (i' : Int) (c' : Nat), V.str "10" = V.str z ∧ V.int n' = V.int i' ∧ z.length ≤ sizeLine ∧ atI z.cps.toList i' = some c' ∧ (c' = 48 ∨ c' = 49) ∧ c' = d := fun n d h1 h2 h3 =>
            ⟨S [c], n, rfl, h1, by rw [SX.S_len]; show 1 ≤ 640; decide, "10", n, d, rfl, rfl, by decide +kernel, h2, h3, rfl⟩
          have two : ∃ (n : Int) (d : Nat), PySem.intText? (S [c]) = some n ∧ atI ("10" : Str).cps.toList n = some d ∧ (d = 48 ∨ d = 49) ∧ d ≠ c := by
            rcases hc with rfl | rfl
            · exact ⟨0, 49, by decide +kernel, by decide +kernel, .inr rfl, by decide⟩
            · exact ⟨1, 48, by decide +kernel, by decide +kernel, .inl rfl, by decide⟩
          obtain ⟨n, d, t1, t2, t3, t4⟩ := two
          refine ⟨S [c], n, rfl, t1, by rw [SX.S_len]; show 1 ≤ 640; decide, "10", n, d, rfl, rfl, by decide +kernel, t2, ?_⟩
          have l1 : (Txt.slice b none (some (0 + (i : Int)))).length ≤ W := (slice_len hb (by omega)).1
          refine ⟨_, S [d], rfl, rfl, sz (by have e1 := SX.S_len [d]; have e2 : [d].length = 1 := rfl; omega), ?_⟩
          refine ⟨_, rfl, _, rfl, r, a, W, rfl, hR5, f5.scr hR.nl hS, hW, fun y H6 hy hR6 f6 => ?_⟩
          have hD6 := keepD hD5 f6
          have l2 : (Txt.slice y (some (0 + (i : Int) + 1)) none).length ≤ W := (slice_len hy (by omega)).2
          have nf := num_flip hb hy hi' t3
          have np := flip_parts hb hy hi' hcat t4
          refine ⟨_, rfl, _, 1, rfl, rfl, _, rfl, y, rfl, sz (by rw [num_len hy]; omega), ?_⟩
          refine ⟨_, _, rfl, rfl, ?_, ?_⟩
          · have l3 : (Txt.slice b none (some (0 + (i : Int))) ++ S [d]).length = (Txt.slice b none (some (0 + (i : Int)))).length + 1 := by
              obtain ⟨l, rfl, _, _⟩ := hb
              rw [SX.slice_to (by omega), SX.S_cat, SX.S_len, SX.S_len, List.length_append]
              rfl
            rw [l3]
            exact sz (by omega)
          · refine ⟨D, _, _, rfl, rfl, hD6, by rw [List.length_map]; exact small1000 (by omega), ?_⟩
            refine ⟨_, rfl, xs ++ [_], fun z hz => ?_, fun j z hz => ?_, nodup_snoc hnd (parts_ne hpt (by rw [hl]; exact np)).1, by rw [List.length_append, hl]; rfl, by rw [upd_same, List.map_append]; rfl, hR6.ne nrD, (f5.trans f6).new hD⟩
            · rcases List.mem_append.mp hz with q | q
              · exact hx z q
              · rw [List.mem_singleton.mp q]
                exact nf
            · by_cases hj : j < xs.length
              · rw [List.getElem?_append_left hj] at hz
                exact hpt j z hz
              · have ej : j = xs.length := by
                  have := (List.getElem?_eq_some_iff.mp hz).1
                  rw [List.length_append, List.length_singleton] at this
                  omega
                subst ej
                rw [List.getElem?_append_right (Nat.le_refl _), Nat.sub_self] at hz
                rw [← Option.some.inj hz, hl]
                exact np
        · rintro σ H5 ⟨w5, rfl, xs, hx, hpt, hnd, hl, hD5, hR5, f5⟩
          -- return sorted(found[:max(..)] + [base])
          refine ⟨_, rfl, _, rfl, _, rfl, r, a, 4, rfl, hR5, f5.scr hR.nl hS, by decide, by decide, fun u H6 u0 u1 hR6 f6 => ?_⟩
          have f6' := f5.trans f6
          refine ⟨_, _, rfl, rfl, _, rfl, _, rfl, _, 1, rfl, rfl, r, a, _, rfl, hR6, f6'.scr hR.nl hS, by omega, by omega, fun u2 H7 _ _ hR7 f7 => ?_⟩
          have f7' := f6'.trans f7
          have hD7 := keepD (keepD hD5 f6) f7
          refine ⟨_, _, rfl, _, rfl, D, _, rfl, SqL.of hD7, fun p hp => ?_⟩
          obtain ⟨ys, ey, hy, ly, hsl⟩ := cutV_strs xs none (some (if u2 > (W : Int) - u then u2 else (W : Int) - u))
          refine ⟨_, rfl, by show 1 ≤ sizeLine; decide, fun q hq => ?_⟩
          have npq : p ≠ q := ne_of_none upd_same hq
          refine ⟨p, q, _, _, rfl, rfl, by rw [upd_ne npq]; exact upd_same, upd_same, ?_, fun z hz => ?_⟩
          · rw [ey, List.length_map]
            exact sz (by show _ + 1 ≤ 100; omega)
          · refine srt _ (ys ++ [b]) z (fun x hx' => ?_) ?_ (nodup_snoc (hnd.sublist hsl) fun z => ?_) ?_ (((hR7.ne (hR7.out hp)).ne ((hR7.ne (hR7.out hp)).out hq)).ne (((hR7.ne (hR7.out hp)).ne ((hR7.ne (hR7.out hp)).out hq)).out hz)) (((f7'.trans (Frm.of (same_upd hp))).trans (Frm.of (same_upd hq))).trans (Frm.of (same_upd hz)))
            · rcases List.mem_append.mp hx' with e | e
              · exact hx x (hy x e)
              · rw [List.mem_singleton.mp e]
                exact hb
            · rw [List.length_append]
              show ys.length + 1 ≤ 41
              omega
            · obtain ⟨j, hj⟩ := List.getElem?_of_mem (hy b z)
              exact (hpt j b hj).1 rfl
            · rw [upd_same, ey, List.map_append]
              rfl
      · exact rest H1 hR1 f1' (keepD hD0 f1) none none none
    · exact rest _ hR0 f0 hD0 none none none
/-- numbers that may be hung -/
def spPool (K : PySem.W.Frag) : Sp := fun vs H Q _ => ∃ (r a : Addr) (W : Nat), vs = [.ref r, .int W] ∧ RowAt r a H ∧ Scr K a H ∧ W ≤ 12 ∧
  ∀ (xs : List Str) (p : Addr) (H' : Hp), xs ≠ [] → (∀ x ∈ xs, Num W x) → xs.length ≤ 41 → xs.Nodup → sortedS xs = true → H' p = some (.lst (xs.map V.str)) → RowAt r a H' → Frm [r] H H' → Q (.ref p) H'
end
end B

set_option Elab.async false
set_option linter.all false
set_option maxRecDepth 100000
set_option maxHeartbeats 4000000
namespace B
open PySem PySem.Spec PyProof.Rows L2
open SX (S)
/-! ### dicts of things: texts to truths -/
def kv (kvs : List (Str × Bool)) : List (Key × V) := kvs.map fun p => (Sum.inr p.1, V.bl p.2)
def hasK (kvs : List (Str × Bool)) (x : Str) : Bool := kvs.any fun p => decide (p.1 = x)
def getB (kvs : List (Str × Bool)) (x : Str) : Option Bool := (kvs.find? fun p => decide (p.1 = x)).map (·.2)
def putB (kvs : List (Str × Bool)) (x : Str) (b : Bool) : List (Str × Bool) := if hasK kvs x = true then kvs.map (fun p => if p.1 = x then (p.1, b) else p) else kvs ++ [(x, b)]
def dropB (kvs : List (Str × Bool)) (x : Str) : List (Str × Bool) := kvs.filter fun p => decide (p.1 ≠ x)
theorem inr_dec (a b : Str) : decide ((Sum.inr a : Key) = Sum.inr b) = decide (a = b) := by
  by_cases h : a = b
  · rw [decide_eq_true h, decide_eq_true (by rw [h])]
  · rw [decide_eq_false h, decide_eq_false (fun q => h (Sum.inr.inj q))]
theorem val_kv (kvs : List (Str × Bool)) (x : Str) : valV (kv kvs) (.inr x : Key) = (getB kvs x).map V.bl := by
  induction kvs with
  | nil => rfl
  | cons p r ih =>
    by_cases h : p.1 = x
    · have e1 : valV (kv (p :: r)) (.inr x : Key) = some (.bl p.2) := valV_pos (p := ((Sum.inr p.1 : Key), V.bl p.2)) (r := kv r) (by rw [h])
      rw [e1]
      unfold getB
      rw [List.find?_cons, decide_eq_true h]
      rfl
    · have e1 : valV (kv (p :: r)) (.inr x : Key) = valV (kv r) (.inr x : Key) := valV_neg (p := ((Sum.inr p.1 : Key), V.bl p.2)) (r := kv r) (fun q => h (Sum.inr.inj q))
      rw [e1, ih]
      unfold getB
      rw [List.find?_cons, decide_eq_false h]
theorem any_kv (kvs : List (Str × Bool)) (x : Str) : ((kv kvs).any fun q => decide (q.1 = (Sum.inr x : Key))) = hasK kvs x := by
  induction kvs with
  | nil => rfl
  | cons p r ih =>
    show (decide ((Sum.inr p.1 : Key) = Sum.inr x) || _) = (decide (p.1 = x) || hasK r x)
    rw [inr_dec, ← ih]
    rfl
theorem put_kv (kvs : List (Str × Bool)) (x : Str) (b : Bool) : putK (kv kvs) (.inr x : Key) (.bl b) = kv (putB kvs x b) := by
  unfold putK putB
  rw [any_kv]
  by_cases h : hasK kvs x = true
  · rw [if_pos h, if_pos h]
    unfold kv
    rw [List.map_map, List.map_map]
    refine List.map_congr_left fun p _ => ?_
    by_cases e : p.1 = x
    · show (if (Sum.inr p.1 : Key) = Sum.inr x then _ else _) = ((Sum.inr (if p.1 = x then (p.1, b) else p).1 : Key), V.bl (if p.1 = x then (p.1, b) else p).2)
      rw [if_pos e, if_pos (by rw [e])]
    · show (if (Sum.inr p.1 : Key) = Sum.inr x then _ else _) = ((Sum.inr (if p.1 = x then (p.1, b) else p).1 : Key), V.bl (if p.1 = x then (p.1, b) else p).2)
      rw [if_neg e, if_neg (fun q => e (Sum.inr.inj q))]
  · rw [if_neg h, if_neg h]
    unfold kv
    rw [List.map_append]
    rfl
theorem drop_kv (kvs : List (Str × Bool)) (x : Str) : dropK (kv kvs) (.inr x : Key) = kv (dropB kvs x) := by
  unfold dropK dropB kv
  rw [List.filter_map]
  congr 1
  refine List.filter_congr fun p _ => ?_
  show decide (¬ (Sum.inr p.1 : Key) = Sum.inr x) = decide (¬ p.1 = x)
  by_cases h : p.1 = x
  · simp [h]
  · simp [h]
theorem get_has (kvs : List (Str × Bool)) (x : Str) : (getB kvs x).isSome = hasK kvs x := by
  induction kvs with
  | nil => rfl
  | cons p r ih =>
    unfold getB hasK
    rw [List.find?_cons, List.any_cons]
    by_cases h : p.1 = x
    · rw [decide_eq_true h]
      rfl
    · rw [decide_eq_false h]
      exact ih
theorem some_map_bl (o : Option Bool) : (o.map V.bl).isSome = o.isSome := by cases o <;> rfl
/-- x in the dict at d (it may be locked) -/
theorem dg_has {H : Hp} {d : Addr} {kvs : List (Str × Bool)} (h : Rd H d (.dK (kv kvs))) (x : Str) : DGet H d (.str x) ((getB kvs x).map V.bl) := .inl ⟨kv kvs, .inr x, h, rfl, (val_kv kvs x).symm⟩
theorem dg_get {H : Hp} {d : Addr} {kvs : List (Str × Bool)} {x : Str} {b : Bool} (h : Rd H d (.dK (kv kvs))) (e : getB kvs x = some b) : DGet H d (.str x) (some (.bl b)) := by
  have := dg_has h x
  rw [e] at this
  exact this
theorem dp_put {H : Hp} {d : Addr} {kvs : List (Str × Bool)} (h : H d = some (.dK (kv kvs))) (hl : kvs.length ≤ 1000) (x : Str) (b : Bool) : DPut H d (.str x) (.bl b) (upd H d (.dK (kv (putB kvs x b)))) := by
  have := DPut.k (k := Sum.inr x) (v := V.bl b) h (by unfold kv; rw [List.length_map]; exact small1000 hl)
  rw [put_kv] at this
  exact this
theorem keys_kv (kvs : List (Str × Bool)) : (kv kvs).map (·.1) = (kvs.map (·.1)).map Sum.inr := by
  unfold kv
  rw [List.map_map, List.map_map]
  rfl
/-- a thing of the list is found by its number -/
theorem get_at {kvs : List (Str × Bool)} (hn : (kvs.map (·.1)).Nodup) {i : Nat} {x : Str} {b : Bool} (h : kvs[i]? = some (x, b)) : getB kvs x = some b := by
  induction kvs generalizing i with
  | nil => simp at h
  | cons p r ih =>
    rw [List.map_cons, List.nodup_cons] at hn
    cases i with
    | zero =>
      have e : p = (x, b) := by simpa using h
      subst e
      unfold getB
      rw [List.find?_cons, decide_eq_true rfl]
      rfl
    | succ i =>
      have h' : r[i]? = some (x, b) := by simpa using h
      have hm : x ∈ r.map (·.1) := List.mem_map.mpr ⟨(x, b), List.mem_of_getElem? h', rfl⟩
      have ne : ¬ p.1 = x := fun e => hn.1 (by rw [e]; exact hm)
      unfold getB
      rw [List.find?_cons, decide_eq_false ne]
      exact ih hn.2 h'
theorem kv_at {kvs : List (Str × Bool)} {i : Nat} {k : Key} {v : V} (h : (kv kvs)[i]? = some (k, v)) : ∃ x b, kvs[i]? = some (x, b) ∧ k = Sum.inr x ∧ v = .bl b := by
  unfold kv at h
  rw [List.getElem?_map] at h
  cases e : kvs[i]? with
  | none => rw [e] at h; cases h
  | some p =>
    rw [e] at h
    have := Option.some.inj h
    cases this
    exact ⟨p.1, p.2, rfl, rfl, rfl⟩
theorem take_snoc {α : Type} {l : List α} {i : Nat} {x : α} (h : l[i]? = some x) : l.take (i + 1) = l.take i ++ [x] := by
  rw [List.take_add_one, h]
  rfl
/-- a dict locked, a list made within, the dict free again -/
theorem upd_lock {H : Hp} {d D : Addr} {u f o : HO} (h : H d = some u) (n : d ≠ D) : upd (upd (upd H d f) D o) d u = upd H D o := by
  funext b
  by_cases e1 : b = d
  · rw [e1, upd_same, upd_ne n, h]
  · rw [upd_ne e1]
    by_cases e2 : b = D
    · rw [e2, upd_same, upd_same]
    · rw [upd_ne e2, upd_ne e2, upd_ne e1]
/-! ### the own wire -/
def mkv (W : Nat) (dt ml : Addr) (sd : V) (lk : Int) : List (Key × V) := [(.inr "width", .int W), (.inr "things", .ref dt), (.inr "listening", .ref ml), (.inr "said", sd), (.inr "looks", .int lk)]
def sdV : Option (List Nat) → V
  | none => .non
  | some l => .str (S l)
structure MdAt (H : Hp) (pm dt ml : Addr) (W : Nat) (kvs : List (Str × Bool)) (lm : List Str) (sd : Option (List Nat)) (lk : Int) : Prop where
  ob : H pm = some (.dK (mkv W dt ml (sdV sd) lk))
  li : H ml = some (.lst (lm.map V.str))
  dc : H dt = some (.dK (kv kvs))
section
variable {H : Hp} {pm dt ml : Addr} {W : Nat} {sd : V} {lk : Int}
theorem mv_width : valV (mkv W dt ml sd lk) (.inr "width" : Key) = some (.int W) := by kernel_rfl
theorem mv_things : valV (mkv W dt ml sd lk) (.inr "things" : Key) = some (.ref dt) := by kernel_rfl
theorem mv_listening : valV (mkv W dt ml sd lk) (.inr "listening" : Key) = some (.ref ml) := by kernel_rfl
theorem mv_said : valV (mkv W dt ml sd lk) (.inr "said" : Key) = some sd := by kernel_rfl
theorem mv_looks : valV (mkv W dt ml sd lk) (.inr "looks" : Key) = some (.int lk) := by kernel_rfl
theorem mp_listening {q : Addr} : putK (mkv W dt ml sd lk) (.inr "listening" : Key) (.ref q) = mkv W dt q sd lk := by kernel_rfl
theorem mp_said {v : V} : putK (mkv W dt ml sd lk) (.inr "said" : Key) v = mkv W dt ml v lk := by kernel_rfl
theorem mp_looks {z : Int} : putK (mkv W dt ml sd lk) (.inr "looks" : Key) (.int z) = mkv W dt ml sd z := by kernel_rfl
theorem md_width (h : H pm = some (.dK (mkv W dt ml sd lk))) : DGet H pm (.str "width") (some (.int W)) := by rw [← mv_width (dt := dt) (ml := ml) (sd := sd) (lk := lk)]; exact DGet.k (k := Sum.inr "width") h
theorem md_things (h : H pm = some (.dK (mkv W dt ml sd lk))) : DGet H pm (.str "things") (some (.ref dt)) := by rw [← mv_things (W := W) (dt := dt) (ml := ml) (sd := sd) (lk := lk)]; exact DGet.k (k := Sum.inr "things") h
theorem md_listening (h : H pm = some (.dK (mkv W dt ml sd lk))) : DGet H pm (.str "listening") (some (.ref ml)) := by rw [← mv_listening (W := W) (dt := dt) (ml := ml) (sd := sd) (lk := lk)]; exact DGet.k (k := Sum.inr "listening") h
theorem md_said (h : H pm = some (.dK (mkv W dt ml sd lk))) : DGet H pm (.str "said") (some sd) := by rw [← mv_said (W := W) (dt := dt) (ml := ml) (sd := sd) (lk := lk)]; exact DGet.k (k := Sum.inr "said") h
theorem md_looks (h : H pm = some (.dK (mkv W dt ml sd lk))) : DGet H pm (.str "looks") (some (.int lk)) := by rw [← mv_looks (W := W) (dt := dt) (ml := ml) (sd := sd) (lk := lk)]; exact DGet.k (k := Sum.inr "looks") h
theorem mdp_listening {q : Addr} (h : H pm = some (.dK (mkv W dt ml sd lk))) : DPut H pm (.str "listening") (.ref q) (upd H pm (.dK (mkv W dt q sd lk))) := by rw [← mp_listening (ml := ml)]; exact DPut.k (k := Sum.inr "listening") h (by show 5 < sizeLine; decide)
theorem mdp_said {v : V} (h : H pm = some (.dK (mkv W dt ml sd lk))) : DPut H pm (.str "said") v (upd H pm (.dK (mkv W dt ml v lk))) := by rw [← mp_said (sd := sd)]; exact DPut.k (k := Sum.inr "said") h (by show 5 < sizeLine; decide)
theorem mdp_looks {z : Int} (h : H pm = some (.dK (mkv W dt ml sd lk))) : DPut H pm (.str "looks") (.int z) (upd H pm (.dK (mkv W dt ml sd z))) := by rw [← mp_looks (lk := lk)]; exact DPut.k (k := Sum.inr "looks") h (by show 5 < sizeLine; decide)
theorem mk_merge {u q : Addr} : mergeK [] ([(.inr "width", .int W), (.inr "things", .ref u), (.inr "listening", .ref q), (.inr "said", .non), (.inr "looks", .int 0)] : List (Key × V)) = mkv W u q .non 0 := by kernel_rfl
end
end B

set_option Elab.async false
set_option linter.all false
set_option maxRecDepth 100000
set_option maxHeartbeats 4000000
namespace B
open PySem PySem.Spec PyProof.Rows L2
open SX (S)
/-- the sign at the place n is c -/
def sg (n c : Nat) (x : Str) : Bool := decide (x.cps.toList[n]? = some c)
theorem int_dec (a b : Int) : decide (V.int a = V.int b) = decide (a = b) := by
  by_cases h : a = b
  · rw [decide_eq_true h, decide_eq_true (by rw [h])]
  · rw [decide_eq_false h, decide_eq_false (fun q => h (V.int.inj q))]
theorem str_dec (a b : Str) : decide (V.str a = V.str b) = decide (a = b) := by
  by_cases h : a = b
  · rw [decide_eq_true h, decide_eq_true (by rw [h])]
  · rw [decide_eq_false h, decide_eq_false (fun q => h (V.str.inj q))]
theorem sign_dec (c d : Nat) : decide (V.str ⟨#[c]⟩ = V.str (S [d])) = decide (c = d) := by
  rw [str_dec]
  by_cases h : c = d
  · rw [decide_eq_true h, decide_eq_true (by rw [h])]
  · rw [decide_eq_false h, decide_eq_false (fun q => h (by
      have := SX.S_inj (a := [c]) (b := [d]) q
      exact (List.cons.inj this).1))]
theorem zero_S : ("0" : Str) = S [48] := by decide +kernel
theorem one_S : ("1" : Str) = S [49] := by decide +kernel
theorem sg_at {n c : Nat} {x : Str} (h : x.cps.toList[n]? = some c) (d : Nat) : sg n d x = decide (c = d) := by
  unfold sg
  rw [h]
  by_cases e : c = d
  · rw [decide_eq_true e, decide_eq_true (by rw [e])]
  · rw [decide_eq_false e, decide_eq_false (fun q => e (Option.some.inj q))]
theorem any_step {α : Type} {l : List α} {i : Nat} {x : α} (f : α → Bool) (h : l[i]? = some x) : (l.take (i + 1)).any f = ((l.take i).any f || f x) := by
  rw [take_snoc h, List.any_append]
  simp
theorem at_map {xs : List Str} {i : Nat} {y : V} (h : (xs.map V.str)[i]? = some y) : ∃ x, xs[i]? = some x ∧ y = .str x := by
  rw [List.getElem?_map] at h
  cases e : xs[i]? with
  | none => rw [e] at h; cases h
  | some x =>
    rw [e] at h
    exact ⟨x, rfl, (Option.some.inj h).symm⟩
/-- a number that begins as l does -/
def Beg (W : Nat) (l : List Nat) (x : Str) : Prop := ∃ m, x = S m ∧ m.length = W ∧ Bits m ∧ m.take l.length = l
theorem Beg.num {W : Nat} {l : List Nat} {x : Str} (h : Beg W l x) : Num W x := by
  obtain ⟨m, e, h1, h2, _⟩ := h
  exact ⟨m, e, h1, h2⟩
theorem num_at {W n : Nat} {x : Str} (h : Num W x) (hn : n < W) : ∃ c, (c = 48 ∨ c = 49) ∧ x.cps.toList[n]? = some c ∧ atI x.cps.toList ((n : Nat) : Int) = some c := by
  obtain ⟨l, rfl, e1, b1⟩ := h
  have hl : n < l.length := by omega
  exact ⟨l[n], b1 _ (List.getElem_mem hl), List.getElem?_eq_getElem hl, atI_nat (List.getElem?_eq_getElem hl)⟩
section
variable {P : Program} {w : World} {K : PySem.W.Frag} {mg : Str → Option Value} {base : Heap}
/-- whether some go on with a 0, with a 1 -/
def spLooked (K : PySem.W.Frag) : Sp := fun vs H Q _ => ∃ (ml : Addr) (W : Nat) (l : List Nat) (xs : List Str), vs = [.ref ml, .str (S l)] ∧ H ml = some (.lst (xs.map V.str)) ∧ (∀ x ∈ xs, Beg W l x) ∧ l.length < W ∧ W ≤ 12 ∧
  ∀ (p : Addr) (H' : Hp), H' p = some (.tup [.bl (xs.any (sg l.length 48)), .bl (xs.any (sg l.length 49))]) → Frm [] H H' → Q (.ref p) H'
/-- an own wire -/
def spModel : Sp := fun vs H Q _ => ∃ W : Nat, vs = [.int W] ∧ ∀ (pm dt ml : Addr) (H' : Hp), H pm = none → H dt = none → H ml = none → pm ≠ dt → H' pm = some (.dK (mkv W dt ml .non 0)) → H' ml = some (.lst []) → H' dt = some (.dK []) → Frm [] H H' → Q (.ref pm) H'
end
end B

set_option Elab.async false
set_option linter.all false
set_option maxRecDepth 100000
set_option maxHeartbeats 4000000
namespace B
open PySem PySem.Spec PyProof.Rows L2
open SX (S)
/-- who listens in a new round -/
def lisB (kvs : List (Str × Bool)) (all : Bool) : List Str := (kvs.filter fun p => all || p.2).map (·.1)
def wordsB : List Str := ["hang", "off", "alarm", "calm"]
/-- what becomes of a thing: the word of a refusal, the things -/
def deedW (kvs : List (Str × Bool)) (wd x : Str) : Str := if wd = "hang" then (if hasK kvs x = true then "there" else "") else (if hasK kvs x = true then "" else "not")
def deedK (kvs : List (Str × Bool)) (wd x : Str) : List (Str × Bool) :=
  if wd = "hang" then (if hasK kvs x = true then kvs else putB kvs x false) else (if hasK kvs x = true then (if wd = "off" then dropB kvs x else putB kvs x (decide (wd = "alarm"))) else kvs)
def deedL (kvs : List (Str × Bool)) (lm : List Str) (wd x : Str) : List Str := if wd = "off" ∧ hasK kvs x = true then lm.filter (fun y => decide (y ≠ x)) else lm
theorem dig_S (bit : Int) (h : bit = 0 ∨ bit = 1) : Str.ofString (toString bit) = S [48 + bit.toNat] := by
  rcases h with rfl | rfl <;> decide +kernel
theorem filter_step {α : Type} {l : List α} {i : Nat} {x : α} (f : α → Bool) (h : l[i]? = some x) : (l.take (i + 1)).filter f = (l.take i).filter f ++ (if f x = true then [x] else []) := by
  rw [take_snoc h, List.filter_append, List.filter_cons, List.filter_nil]
theorem has_get {kvs : List (Str × Bool)} {x : Str} (h : hasK kvs x = true) : ∃ b, getB kvs x = some b := by
  rw [← get_has] at h
  exact Option.isSome_iff_exists.mp h
section
variable {P : Program} {w : World} {K : PySem.W.Frag} {mg : Str → Option Value} {base : Heap}
/-- a round begun on an own wire -/
def spBegun : Sp := fun vs H Q _ => ∃ (pm dt ml : Addr) (kind : Str) (W : Nat) (kvs : List (Str × Bool)) (lm : List Str) (sd : Option (List Nat)) (lk : Int), vs = [.ref pm, .str kind] ∧ MdAt H pm dt ml W kvs lm sd lk ∧ pm ≠ dt ∧ (kvs.map (·.1)).Nodup ∧ kvs.length ≤ 100 ∧
  ∀ (ml' : Addr) (H' : Hp), H ml' = none → MdAt H' pm dt ml' W kvs (lisB kvs (decide (kind = "all"))) (some []) lk → Frm [pm] H H' → Q .non H'
/-- a bit said on an own wire -/
def spSaid : Sp := fun vs H Q _ => ∃ (pm dt ml : Addr) (bit : Int) (W : Nat) (kvs : List (Str × Bool)) (lm : List Str) (l : List Nat) (lk : Int), vs = [.ref pm, .int bit] ∧ (bit = 0 ∨ bit = 1) ∧ MdAt H pm dt ml W kvs lm (some l) lk ∧ pm ≠ dt ∧ (∀ x ∈ lm, Num W x) ∧ lm.length ≤ 100 ∧ l.length < W ∧ W ≤ 12 ∧
  ∀ (ml' : Addr) (H' : Hp), H ml' = none → MdAt H' pm dt ml' W kvs (lm.filter (sg l.length (48 + bit.toNat))) (some (l ++ [48 + bit.toNat])) lk → Frm [pm] H H' → Q .non H'
end
end B

set_option Elab.async false
set_option linter.all false
set_option maxRecDepth 100000
set_option maxHeartbeats 4000000
namespace B
open PySem PySem.Spec PyProof.Rows L2
open SX (S)
section
variable {P : Program} {w : World} {K : PySem.W.Frag} {mg : Str → Option Value} {base : Heap}
/-- something becomes of a thing of an own wire -/
def spDeed : Sp := fun vs H Q _ => ∃ (pm dt ml : Addr) (wd x : Str) (W : Nat) (kvs : List (Str × Bool)) (lm : List Str) (sd : Option (List Nat)) (lk : Int), vs = [.ref pm, .str wd, .str x] ∧ MdAt H pm dt ml W kvs lm sd lk ∧ pm ≠ dt ∧ kvs.length ≤ 100 ∧ lm.length ≤ 100 ∧
  ∀ (ml' : Addr) (H' : Hp), (ml' = ml ∨ H ml' = none) → MdAt H' pm dt ml' W (deedK kvs wd x) (deedL kvs lm wd x) sd lk → Frm [pm, dt] H H' → Q (.str (deedW kvs wd x)) H'
end
end B

set_option Elab.async false
set_option linter.all false
set_option maxRecDepth 100000
set_option maxHeartbeats 4000000
namespace B
open PySem PySem.Spec PyProof.Rows L2
open SX (S)
/-! ### code tables -/
def tabA (K : PySem.W.Frag) (p : He.Defn) : Addr := (He.cT K p).2
def TL (K : PySem.W.Frag) : List (Addr × Str) := lams.map fun z => (tabA K z.1, z.2)
/-- the tables stand well -/
def Tb (K : PySem.W.Frag) (H : Hp) : Prop := (∀ p ∈ gens, GxR.TabG H (tabA K p)) ∧ LamX.Tabs (TL K) H
/-- as Frm, but code tables may grow -/
structure FrT (K : PySem.W.Frag) (S : List Addr) (H H' : Hp) : Prop where
  k : ∀ b o, H b = some o → isT o = false → b ∉ S → H' b = some o
  b : ∀ b, H' b = none → H b = none
  t : Tb K H → Tb K H'
theorem FrT.refl (K : PySem.W.Frag) (S : List Addr) (H : Hp) : FrT K S H H := ⟨fun _ _ h _ _ => h, fun _ h => h, fun h => h⟩
theorem FrT.trans {K : PySem.W.Frag} {S : List Addr} {H H1 H2 : Hp} (a : FrT K S H H1) (b : FrT K S H1 H2) : FrT K S H H2 := ⟨fun c o h t n => b.k c o (a.k c o h t n) t n, fun c h => a.b c (b.b c h), fun h => b.t (a.t h)⟩
theorem FrT.mono {K : PySem.W.Frag} {S S' : List Addr} {H H1 : Hp} (a : FrT K S H H1) (h : ∀ x ∈ S, x ∈ S') : FrT K S' H H1 := ⟨fun c o e t n => a.k c o e t fun z => n (h c z), a.b, a.t⟩
theorem nl_codeO {c : Addr} {q : Str} : B.nl (LamX.CodeO c q) = false := rfl
theorem Frm.toT {K : PySem.W.Frag} {S : List Addr} {H H' : Hp} (f : Frm S H H') (n : NL S H) : FrT K S H H' := by
  have out : ∀ {p : Addr} {o : HO}, H p = some o → B.nl o = false → p ∉ S := fun {p o} e h z => by
    obtain ⟨u, e2, q⟩ := n p z
    rw [e] at e2
    cases e2
    rw [h] at q
    cases q
  have kp : ∀ {p : Addr} {o : HO}, H p = some o → B.nl o = false → H' p = some o := fun {p o} e h => f.k p o e rfl (out e h)
  refine ⟨fun b o e _ hb => f.k b o e rfl hb, f.b, fun ⟨h1, h2⟩ => ⟨fun p hp => ?_, fun p hp => ?_⟩⟩
  · obtain ⟨ps, e, t⟩ := h1 p hp
    exact ⟨ps, kp e rfl, t⟩
  obtain ⟨qs, e1, t1, a1⟩ := h2 p hp
  refine ⟨qs, kp e1 rfl, t1, fun pos cv hc => ?_⟩
  obtain ⟨c, e2, e3⟩ := a1 pos cv hc
  exact ⟨c, e2, kp e3 nl_codeO⟩
theorem FrT.at {K : PySem.W.Frag} {S : List Addr} {H H' : Hp} {p : Addr} {o : HO} (f : FrT K S H H') (n : NL S H) (h : H p = some o) (h1 : isT o = false) (h2 : B.nl o = false) : H' p = some o :=
  f.k p o h h1 fun z => by
    obtain ⟨u, e, q⟩ := n p z
    rw [h] at e
    cases e
    rw [h2] at q
    cases q
theorem FrT.scr {K : PySem.W.Frag} {S : List Addr} {H H' : Hp} {a : Addr} (f : FrT K S H H') (n : NL S H) (h : Scr K a H) : Scr K a H' := by
  obtain ⟨ns, (h | ⟨u, h⟩) | h⟩ := h
  · exact ⟨ns, .inl (.inl (f.at n h rfl (nl_ints ns)))⟩
  · exact ⟨ns, .inl (.inr ⟨u, f.at n h rfl rfl⟩)⟩
  · exact ⟨ns, .inr h⟩
theorem FrT.row {K : PySem.W.Frag} {S : List Addr} {H H' : Hp} {r a : Addr} (f : FrT K S H H') (hr : r ∉ S) (h : RowAt r a H) : RowAt r a H' := by
  obtain ⟨i, m, b, e, h0⟩ := h
  exact ⟨i, m, b, f.k r _ e rfl hr, h0⟩
section
theorem map_inj {α β : Type} {f : α → β} : ∀ {l : List α}, (l.map f).Nodup → ∀ a ∈ l, ∀ b ∈ l, f a = f b → a = b
  | [], _, a, ha, _, _, _ => absurd ha (by simp)
  | x :: r, h, a, ha, b, hb, e => by
    have n := List.nodup_cons.mp (show (f x :: r.map f).Nodup from h)
    rcases List.mem_cons.mp ha with rfl | ha2 <;> rcases List.mem_cons.mp hb with rfl | hb2
    · rfl
    · exact absurd (List.mem_map.mpr ⟨b, hb2, e.symm⟩) n.1
    · exact absurd (List.mem_map.mpr ⟨a, ha2, e⟩) n.1
    · exact map_inj n.2 a ha2 b hb2 e
theorem gens_tf : ∀ p ∈ gens, p ∈ tf := by decide +kernel
theorem lams_tf : ∀ z ∈ lams, z.1 ∈ tf := by decide +kernel
theorem gl_ne : ∀ p ∈ gens, ∀ z ∈ lams, p ≠ z.1 := by decide +kernel
theorem lams_fun : ∀ a ∈ lams, ∀ b ∈ lams, a.1 = b.1 → a.2 = b.2 := by decide +kernel
theorem tl_mem {K : PySem.W.Frag} {p : He.Defn} {q : Str} (h : (p, q) ∈ lams) : (tabA K p, q) ∈ TL K := List.mem_map.mpr ⟨(p, q), h, rfl⟩
theorem tb_empty {K : PySem.W.Frag} {H : Hp} (h : ∀ p ∈ tf.map (He.cT K), H p.2 = some (.tbl #[])) : Tb K H := by
  have z : ∀ p ∈ tf, H (tabA K p) = some (.tbl #[]) := fun p hp => h (He.cT K p) (List.mem_map.mpr ⟨p, hp, rfl⟩)
  refine ⟨fun p hp => ⟨#[], z p (gens_tf p hp), True.intro⟩, fun p hp => ?_⟩
  obtain ⟨y, hy, rfl⟩ := List.mem_map.mp hp
  exact .nil (z y.1 (lams_tf y hy))
variable {P : Program} {w : World} {K : PySem.W.Frag} {mg : Str → Option Value} {base : Heap}
theorem ex_nd (T : Txt P w K mg base) : (tf.map fun p => (He.cT K p).2).Nodup := of_decide_eq_true (He.ba T.m).1
theorem ex_tup (T : Txt P w K mg base) : exTup K = true := (He.ba (He.ba T.m).2).1
theorem ex_exc (T : Txt P w K mg base) : exExc K = true := (He.ba (He.ba T.m).2).2
theorem tab_inj (T : Txt P w K mg base) {p q : He.Defn} (hp : p ∈ tf) (hq : q ∈ tf) (e : tabA K p = tabA K q) : p = q := map_inj (f := fun p => (He.cT K p).2) (ex_nd T) p hp q hq e
theorem tb_g (T : Txt P w K mg base) {p : He.Defn} (hp : p ∈ tf) : GxR.TabB base mg (He.codeOf K p) (tabA K p) := by
  have h := T.tb p hp
  exact ⟨h.code, h.bm, h.gP⟩
/-- a generator's table grows -/
theorem tb_gen (T : Txt P w K mg base) {p : He.Defn} (hp : p ∈ gens) {H H1 : Hp} (ht : Tb K H) (hT : GxR.Tabbed (tabA K p) H H1) : FrT K [] H H1 ∧ Tb K H1 := by
  have off : ∀ {b : Addr}, b ≠ tabA K p → H1 b = H b := fun h => hT.2 _ h
  obtain ⟨ps0, e0, t0⟩ := ht.1 p hp
  have tb : Tb K H1 := by
    refine ⟨fun q hq => ?_, fun z hz => ?_⟩
    · by_cases c : tabA K q = tabA K p
      · rw [c]
        exact hT.1
      · obtain ⟨ps, e, t⟩ := ht.1 q hq
        exact ⟨ps, by rw [off c]; exact e, t⟩
    · obtain ⟨y, hy, rfl⟩ := List.mem_map.mp hz
      have ne : tabA K y.1 ≠ tabA K p := fun c => gl_ne p hp y hy (tab_inj T (gens_tf p hp) (lams_tf y hy) c.symm)
      obtain ⟨qs, e1, t1, a1⟩ := ht.2 _ hz
      refine ⟨qs, by rw [off ne]; exact e1, t1, fun pos cv hc => ?_⟩
      obtain ⟨c, e2, e3⟩ := a1 pos cv hc
      refine ⟨c, e2, ?_⟩
      rw [off (fun z => ?_)]
      · exact e3
      · rw [z, e0] at e3
        exact LamX.codeO_ne ps0 (Option.some.inj e3).symm
  refine ⟨⟨fun b o hb hto _ => ?_, fun b hb => ?_, fun _ => tb⟩, tb⟩
  · by_cases q : b = tabA K p
    · rw [q, e0] at hb
      cases hb
      cases hto
    · rw [off q]
      exact hb
  · by_cases q : b = tabA K p
    · obtain ⟨ps, z, _⟩ := hT.1
      rw [q, z] at hb
      cases hb
    · rw [off q] at hb
      exact hb
/-- a lambda's table grows -/
theorem tb_grow (T : Txt P w K mg base) {p : He.Defn} {q : Str} (hp : (p, q) ∈ lams) {H H1 : Hp} (ht : Tb K H) (f1 : ∀ b o, H b = some o → b ≠ tabA K p → H1 b = some o) (f2 : ∀ b, H1 b = none → H b = none) (t : LamX.TabS H1 (tabA K p) q) : FrT K [] H H1 ∧ Tb K H1 := by
  obtain ⟨qs0, e0, t0, a0⟩ := ht.2 _ (tl_mem hp)
  have tb : Tb K H1 := by
    refine ⟨fun g hg => ?_, fun z hz => ?_⟩
    · have ne : tabA K g ≠ tabA K p := fun c => gl_ne g hg (p, q) hp (tab_inj T (gens_tf g hg) (lams_tf _ hp) c)
      obtain ⟨ps, e, tr⟩ := ht.1 g hg
      exact ⟨ps, f1 _ _ e ne, tr⟩
    · obtain ⟨y, hy, rfl⟩ := List.mem_map.mp hz
      by_cases c : tabA K y.1 = tabA K p
      · have e := tab_inj T (lams_tf y hy) (lams_tf _ hp) c
        have e2 := lams_fun y hy (p, q) hp e
        show LamX.TabS H1 (tabA K y.1) y.2
        rw [c, e2]
        exact t
      · obtain ⟨qs, e1, t1, a1⟩ := ht.2 _ hz
        refine ⟨qs, f1 _ _ e1 c, t1, fun pos cv hc => ?_⟩
        obtain ⟨c', e2, e3⟩ := a1 pos cv hc
        refine ⟨c', e2, f1 _ _ e3 fun y => ?_⟩
        rw [y, e0] at e3
        exact LamX.codeO_ne qs0 (Option.some.inj e3).symm
  refine ⟨⟨fun b o e hb _ => f1 b o e fun y => ?_, f2, fun _ => tb⟩, tb⟩
  rw [y, e0] at e
  cases e
  cases hb
/-- a def whose code object is known -/
theorem okT {x qual : Str} {params : Arguments} {body : List Stmt} {scope : Scope} {dvs : List V} {kws : List (Str × V)} {p : He.Defn} {fd : FuncData} {CX : CXT} {N ps : List Str} {k : Nat} {sp : Sp} (F : FunD K x qual params body scope dvs kws (He.fAd K p) fd) (S : FnScope N ps scope)
    (len : ∀ vs H Q E, sp vs H Q E → vs.length = ps.length)
    (hbody : ∀ (A : Around) (outer : List Env) (s : Shared) (H : Hp) (vs : List V) (Q : VK) (E : XK), Room k (A.deeper (envOfC qual scope s.heap.objs.size (He.fAd K p) (.ref (He.codeOf K p)))) → sp vs H Q E →
      ∃ t, PSs (cxOf CX P w K mg base N qual scope (He.fAd K p) (.ref (He.codeOf K p)) A outer s H E) body t ∧ t { nx := fun _ H' => Q .non H', rt := Q } (L2.start N vs) H) : FnOk P w K mg base CX (k + 1) (He.fAd K p) fd ps sp := by
  obtain ⟨oc, od, dV, kV, doc, pm, an, cdv, ct, osl, rfl, lk, hcd, _, _⟩ := F.ex
  obtain ⟨c, rfl⟩ := He.codeIn_ref hcd
  have e : He.codeOf K p = c := He.codeOf_eq lk rfl
  subst e
  exact fn_of lk hcd S len hbody
def genB (scope : Scope) (x : Str) : Bool := (match scope.kind with | .function => true | _ => false) && (!scope.isCoroutine && (scope.names.all (fun y => match y.2 with | .cell => false | .free => false | _ => true) && (decide (scope.names.lookup (".0" : Str) = some NameKind.local) && decide (scope.names.lookup x = some NameKind.local))))
theorem gens_by {env : Env} {scope : Scope} {x : Str} (h : genB scope x = true) : GxR.GenS env scope x := by
  obtain ⟨h1, h⟩ := He.ba h
  obtain ⟨h2, h⟩ := He.ba h
  obtain ⟨h3, h⟩ := He.ba h
  obtain ⟨h4, h5⟩ := He.ba h
  have q := List.all_eq_true.mp h3
  refine ⟨?_, ?_, fun y hy e => ?_, of_decide_eq_true h4, of_decide_eq_true h5, fun y hy e => ?_⟩
  · split at h1
    · assumption
    · cases h1
  · simpa using h2
  · have := q y hy
    rw [e] at this
    cases this
  · have := q y hy
    rw [e] at this
    cases this
theorem elt_in {prog : Program} {w : World} {scope : Scope} {x k : Str} {j : Nat} {p1 p2 p3 : Pos} (hk : scope.kind = .function) (hl : scope.names.lookup x = some .local) (hd : (x == ("__debug__" : Str)) = false := by decide) :
    GxR.EltP prog w scope x (.Compare (.Name x p1) [.In] [.Constant (.str k) j p2] p3) (fun c => decide (c ∈ k.cps.toList)) := by
  intro cenv A' E' c t s2 m2 hs hn hm
  refine wpAny_Compare1 ?_
  refine wpAny_Name (wpAny_loadName_local (by rw [hs]; exact hk) (show cenv.scope.names.lookup x = some .local by rw [hs]; exact hl) hn hm ?_) hd
  refine Calls.Constant_str (PyProof.Rows.in_str ⟨?_, GxR.keeps_tok _ _⟩)
  exact congrArg Value.bool (PySem.StrLaws.found_one k c)
end
theorem FrT.fresh {K : PySem.W.Frag} {T : List Addr} {H H1 H2 : Hp} (a : FrT K [] H H1) (b : FrT K T H1 H2) (h : ∀ x ∈ T, H x = none) : FrT K [] H H2 :=
  ⟨fun c o e t _ => b.k c o (a.k c o e t (by simp)) t fun z => (by rw [h c z] at e; cases e), fun c z => a.b c (b.b c z), fun z => b.t (a.t z)⟩
theorem Frm.fresh {T : List Addr} {H H1 H2 : Hp} (a : Frm [] H H1) (b : Frm T H1 H2) (h : ∀ x ∈ T, H x = none) : Frm [] H H2 :=
  ⟨fun c o e t _ => b.k c o (a.k c o e t (by simp)) t fun z => (by rw [h c z] at e; cases e), fun c z => a.b c (b.b c z)⟩
theorem tb_upd {K : PySem.W.Frag} {H : Hp} {b : Addr} {xs : List V} {o : HO} (h : Tb K H) (hb : H b = some (.lst xs)) : Tb K (upd H b o) := by
  obtain ⟨h1, h2⟩ := h
  refine ⟨fun p hp => ?_, fun p hp => ?_⟩
  · obtain ⟨ps, e, t⟩ := h1 p hp
    refine ⟨ps, ?_, t⟩
    rw [upd_ne (ne_of e hb (by intro z; cases z))]
    exact e
  · obtain ⟨qs, e1, t1, a1⟩ := h2 p hp
    refine ⟨qs, ?_, t1, fun pos cv hc => ?_⟩
    · rw [upd_ne (ne_of e1 hb (by intro z; cases z))]
      exact e1
    · obtain ⟨c, e2, e3⟩ := a1 pos cv hc
      refine ⟨c, e2, ?_⟩
      rw [upd_ne (ne_of e3 hb (by intro z; cases z))]
      exact e3
theorem FrT.putN {K : PySem.W.Frag} {H H1 : Hp} {b : Addr} {xs : List V} {o : HO} (a : FrT K [] H H1) (h : H b = none) (hb : H1 b = some (.lst xs)) : FrT K [] H (upd H1 b o) :=
  ⟨fun c u e t n => by
    rw [upd_ne (ne_of_none e h)]
    exact a.k c u e t n, fun c z => a.b c (upd_back z), fun z => tb_upd (a.t z) hb⟩
end B

set_option Elab.async false
set_option linter.all false
set_option maxRecDepth 100000
set_option maxHeartbeats 4000000
namespace B
open PySem PySem.Spec PyProof.Rows L2
open SX (S)
section
variable {P : Program} {w : World} {K : PySem.W.Frag} {mg : Str → Option Value} {base : Heap}
theorem num_gen : pd_is_number ∈ gens := by decide +kernel
/-- a text of so many signs 0 and 1 is a number -/
def spIsNum (K : PySem.W.Frag) : Sp := fun vs H Q _ => ∃ (W : Nat) (x : Str), vs = [.int W, .str x] ∧ Num W x ∧ W ≤ 12 ∧ Tb K H ∧ ∀ H', FrT K [] H H' → Q (.bl true) H'
theorem c_is_number (T : Txt P w K mg base) : CalX CX0 P w K mg base 1 "is_number" (spIsNum K) := by
  obtain ⟨fd, F⟩ := T.t.def_ 2 (d := d_is_number)
  refine ⟨_, fd, _, okT (p := pd_is_number) F sc_is_number (fun vs H Q E h => ?_) (fun A outer s H vs Q E hr h => ?_), He.glo_ok T.X T.G (T.t.fact 2), F.kp, F.bindsN fun _ _ _ _ _ _ us hl => match us, hl with | [_, _], _ => rfl⟩
  · obtain ⟨W, x, rfl, _⟩ := h
    rfl
  · obtain ⟨W, x, rfl, hx, hW, ht, k⟩ := h
    refine ⟨_, PSs.nox (pss_cons (ps_if (PW.pt (pw_or (pt_not (pt_val (pe_callB call_isi (by rfl) (n_isinstance T) (by decide +kernel) (pa_cons (pv 1) (pa_cons (pe_bltn (v := .ty "str") (u := .type "str") rfl (n_str T) (by decide +kernel) rfl) pa_nil))))) (pw_or1 (pt_cmpR op_ne (pe_callB call_len_str (by rfl) (n_len T) PySem.boot_len (pa_cons (pv 1) pa_nil)) (pv 0) (nomark _)))))
      (pss_one (ps_ret pe_bl))
      pss_nil)
    (pss_one (ps_ret (GxR.pe_allS hr rfl (n_all T) (by decide +kernel) (tb_g T (p := pd_is_number) (by decide +kernel)) rfl (gens_by (by decide +kernel)) (pv 1) (elt_in rfl rfl) (fun _ => rfl))))), ?_⟩
    refine ⟨_, rfl, .str x, .ty "str", .type "str", .type "str", true, rfl, .ty "str", .base (.str x), kit_ty (by decide +kernel), true, rfl, ?_⟩
    refine ⟨_, rfl, x, rfl, by rw [num_len hx]; exact size12 (by omega), _, rfl, rfl, _, rfl, ?_⟩
    rw [num_len hx, decide_eq_true rfl]
    refine ⟨_, rfl, x, rfl, ht.1 _ num_gen, fun H2 hT => ?_⟩
    have e : x.cps.toList.all (fun c => decide (c ∈ ("01" : Str).cps.toList)) = true := by
      obtain ⟨l, rfl, _, b⟩ := hx
      refine List.all_eq_true.mpr fun c hc => ?_
      rcases b c hc with rfl | rfl <;> decide +kernel
    rw [e]
    exact k H2 (tb_gen T num_gen ht hT).1
end
end B

set_option Elab.async false
set_option linter.all false
set_option maxRecDepth 100000
set_option maxHeartbeats 4000000
namespace B
open PySem PySem.Spec PyProof.Rows L2
open SX (S)
/-! ### the wire's object -/
def wfl (W : Nat) (dh dl : Addr) (ms lk : Int) : List (Str × V) := [("width", .int W), ("_hanging", .ref dh), ("_listening", .ref dl), ("_many_said", .int ms), ("_many_looks", .int lk)]
abbrev WC (K : PySem.W.Frag) : Addr := He.ga K "Wire"
structure WiAt (K : PySem.W.Frag) (H : Hp) (pw dh dl : Addr) (W : Nat) (kvs : List (Str × Bool)) (lw : List Str) (ms lk : Int) : Prop where
  ob : ∃ dx, H pw = some (.ins (WC K) dx (wfl W dh dl ms lk))
  li : H dl = some (.lst (lw.map V.str))
  dc : H dh = some (.dK (kv kvs))
section
variable {W : Nat} {dh dl q : Addr} {ms lk z : Int}
theorem wl_width : (wfl W dh dl ms lk).lookup ("width" : Str) = some (.int W) := by kernel_rfl
theorem wl_hanging : (wfl W dh dl ms lk).lookup ("_hanging" : Str) = some (.ref dh) := by kernel_rfl
theorem wl_listening : (wfl W dh dl ms lk).lookup ("_listening" : Str) = some (.ref dl) := by kernel_rfl
theorem wl_said : (wfl W dh dl ms lk).lookup ("_many_said" : Str) = some (.int ms) := by kernel_rfl
theorem wl_looks : (wfl W dh dl ms lk).lookup ("_many_looks" : Str) = some (.int lk) := by kernel_rfl
theorem wp_listening : putF "_listening" (.ref q) (wfl W dh dl ms lk) = wfl W dh q ms lk := by kernel_rfl
theorem wp_said : putF "_many_said" (.int z) (wfl W dh dl ms lk) = wfl W dh dl z lk := by kernel_rfl
theorem wp_looks : putF "_many_looks" (.int z) (wfl W dh dl ms lk) = wfl W dh dl ms z := by kernel_rfl
theorem wp_new : putF "_many_looks" (.int 0) (putF "_many_said" (.int W) (putF "_listening" (.ref dl) (putF "_hanging" (.ref dh) (putF "width" (.int W) [])))) = wfl W dh dl W 0 := by kernel_rfl
theorem wl_len : (wfl W dh dl ms lk).length < 1000 := by show 5 < 1000; decide
end
section
variable {P : Program} {w : World} {K : PySem.W.Frag} {mg : Str → Option Value} {base : Heap}
theorem wcl (T : Txt P w K mg base) : Cls K (WC K) := He.cls_ok (T.t.fact 71 (f := .cls "Wire"))
theorem wn_width (T : Txt P w K mg base) : NoAttr K (WC K) "width" := He.noat_ok (T.t.fact 73 (f := .noat "Wire" "width"))
theorem wn_hanging (T : Txt P w K mg base) : NoAttr K (WC K) "_hanging" := He.noat_ok (T.t.fact 74 (f := .noat "Wire" "_hanging"))
theorem wn_listening (T : Txt P w K mg base) : NoAttr K (WC K) "_listening" := He.noat_ok (T.t.fact 75 (f := .noat "Wire" "_listening"))
theorem wn_said (T : Txt P w K mg base) : NoAttr K (WC K) "_many_said" := He.noat_ok (T.t.fact 76 (f := .noat "Wire" "_many_said"))
theorem wn_looks (T : Txt P w K mg base) : NoAttr K (WC K) "_many_looks" := He.noat_ok (T.t.fact 77 (f := .noat "Wire" "_many_looks"))
end
section
variable {X : Cx}
theorem mk_There (T : Txt X.prog X.w X.K X.mg X.base) {m : Str} {j : Nat} {p p2 pos : Pos} (hg : Gl X "There" := by rfl) : PMk X (.Call (.Name "There" p) [.Constant (.str m) j p2] [] pos) (fun _ H Q => Q (.ref (He.ga X.K "There")) none H) := by
  obtain ⟨a, b, c, d⟩ := He.exc_ok (T.t.fact 110 (f := .exc "There"))
  exact pmk_own PySem.F.excBase_ValueError a (g_There T) b (raises_own c d) hg
theorem mk_NotThere (T : Txt X.prog X.w X.K X.mg X.base) {m : Str} {j : Nat} {p p2 pos : Pos} (hg : Gl X "NotThere" := by rfl) : PMk X (.Call (.Name "NotThere" p) [.Constant (.str m) j p2] [] pos) (fun _ H Q => Q (.ref (He.ga X.K "NotThere")) none H) := by
  obtain ⟨a, b, c, d⟩ := He.exc_ok (T.t.fact 111 (f := .exc "NotThere"))
  exact pmk_own PySem.F.excBase_ValueError a (g_NotThere T) b (raises_own c d) hg
theorem mk_NoRound (T : Txt X.prog X.w X.K X.mg X.base) {m : Str} {j : Nat} {p p2 pos : Pos} (hg : Gl X "NoRound" := by rfl) : PMk X (.Call (.Name "NoRound" p) [.Constant (.str m) j p2] [] pos) (fun _ H Q => Q (.ref (He.ga X.K "NoRound")) none H) := by
  obtain ⟨a, b, c, d⟩ := He.exc_ok (T.t.fact 112 (f := .exc "NoRound"))
  exact pmk_own PySem.F.excBase_ValueError a (g_NoRound T) b (raises_own c d) hg
end
/-- what stands of a wire stands behind what changes other things -/
theorem WiAt.stay {K : PySem.W.Frag} {S : List Addr} {H H' : Hp} {pw dh dl : Addr} {W : Nat} {kvs : List (Str × Bool)} {lw : List Str} {ms lk : Int} (h : WiAt K H pw dh dl W kvs lw ms lk) (f : FrT K S H H') (n : NL S H) (h1 : pw ∉ S) (h2 : dh ∉ S) : WiAt K H' pw dh dl W kvs lw ms lk := by
  obtain ⟨⟨dx, a⟩, b, c⟩ := h
  exact ⟨⟨dx, f.k _ _ a rfl h1⟩, f.at n b rfl (nl_strs lw), f.k _ _ c rfl h2⟩
theorem WiAt.keep {K : PySem.W.Frag} {S : List Addr} {H H' : Hp} {pw dh dl : Addr} {W : Nat} {kvs : List (Str × Bool)} {lw : List Str} {ms lk : Int} (h : WiAt K H pw dh dl W kvs lw ms lk) (f : FrT K S H H') (h1 : pw ∉ S) (h2 : dh ∉ S) (h3 : dl ∉ S) : WiAt K H' pw dh dl W kvs lw ms lk := by
  obtain ⟨⟨dx, a⟩, b, c⟩ := h
  exact ⟨⟨dx, f.k _ _ a rfl h1⟩, f.k _ _ b rfl h3, f.k _ _ c rfl h2⟩
theorem MdAt.stay {K : PySem.W.Frag} {S : List Addr} {H H' : Hp} {pm dt ml : Addr} {W : Nat} {kvs : List (Str × Bool)} {lm : List Str} {sd : Option (List Nat)} {lk : Int} (h : MdAt H pm dt ml W kvs lm sd lk) (f : FrT K S H H') (n : NL S H) (h1 : pm ∉ S) (h2 : dt ∉ S) : MdAt H' pm dt ml W kvs lm sd lk := by
  obtain ⟨a, b, c⟩ := h
  exact ⟨f.k _ _ a rfl h1, f.at n b rfl (nl_strs lm), f.k _ _ c rfl h2⟩
theorem MdAt.keep {K : PySem.W.Frag} {S : List Addr} {H H' : Hp} {pm dt ml : Addr} {W : Nat} {kvs : List (Str × Bool)} {lm : List Str} {sd : Option (List Nat)} {lk : Int} (h : MdAt H pm dt ml W kvs lm sd lk) (f : FrT K S H H') (h1 : pm ∉ S) (h2 : dt ∉ S) (h3 : ml ∉ S) : MdAt H' pm dt ml W kvs lm sd lk := by
  obtain ⟨a, b, c⟩ := h
  exact ⟨f.k _ _ a rfl h1, f.k _ _ b rfl h3, f.k _ _ c rfl h2⟩
theorem WiAt.ne {K : PySem.W.Frag} {H : Hp} {pw dh dl : Addr} {W : Nat} {kvs : List (Str × Bool)} {lw : List Str} {ms lk : Int} (h : WiAt K H pw dh dl W kvs lw ms lk) : pw ≠ dh := by
  obtain ⟨⟨dx, a⟩, b, c⟩ := h
  exact ne_of a c (by intro z; cases z)
theorem WiAt.nl {K : PySem.W.Frag} {H : Hp} {pw dh dl : Addr} {W : Nat} {kvs : List (Str × Bool)} {lw : List Str} {ms lk : Int} (h : WiAt K H pw dh dl W kvs lw ms lk) : NL [pw, dh] H := by
  obtain ⟨⟨dx, a⟩, b, c⟩ := h
  exact .cons a rfl (.cons c rfl .nil)
theorem WiAt.nl1 {K : PySem.W.Frag} {H : Hp} {pw dh dl : Addr} {W : Nat} {kvs : List (Str × Bool)} {lw : List Str} {ms lk : Int} (h : WiAt K H pw dh dl W kvs lw ms lk) : NL [pw] H := by
  obtain ⟨⟨dx, a⟩, b, c⟩ := h
  exact .cons a rfl .nil
section
variable {P : Program} {w : World} {K : PySem.W.Frag} {mg : Str → Option Value} {base : Heap}
def spReqWidth : Sp := fun vs H Q _ => ∃ W : Nat, vs = [.int W] ∧ 1 ≤ W ∧ W ≤ 12 ∧ Q .non H
theorem c_require_width (T : Txt P w K mg base) : CalX CX0 P w K mg base 1 "require_width" spReqWidth := by
  obtain ⟨fd, F⟩ := T.t.def_ 0 (d := d_require_width)
  refine ⟨_, fd, _, F.ok sc_require_width (fun vs H Q E h => ?_) (fun cdv A outer s H vs Q E hr h => ?_), He.glo_ok T.X T.G (T.t.fact 0), F.kp, F.bindsN fun _ _ _ _ _ _ us hl => match us, hl with | [_], _ => rfl⟩
  · obtain ⟨W, rfl, _⟩ := h
    rfl
  · obtain ⟨W, rfl, h1, h2, k⟩ := h
    refine ⟨_, PSs.nox (pss_one (ps_if (PW.pt (pw_or (pt_val (pe_callB call_isi (by rfl) (n_isinstance T) (by decide +kernel) (pa_cons (pv 0) (pa_cons (pe_bltn (v := .ty "bool") (u := .type "bool") rfl (n_bool T) (by decide +kernel) rfl) pa_nil)))) (pw_or1 (pt_not (pt_chain op_le op_le (g_LEAST_WIDTH T) (pv 0) (g_GREATEST_WIDTH T))))))
      (pss_one ps_never)
      pss_nil)), ?_⟩
    refine ⟨_, rfl, .int W, .ty "bool", .type "int", .type "bool", false, rfl, .ty "bool", .base (.int W), kit_ty (by decide +kernel), false, rfl, ?_⟩
    refine ⟨_, rfl, 1, W, rfl, rfl, _, rfl, ?_⟩
    rw [decide_eq_true (show (1 : Int) ≤ (W : Int) by omega)]
    refine ⟨W, 12, rfl, rfl, _, rfl, ?_⟩
    rw [decide_eq_true (show (W : Int) ≤ 12 by omega)]
    exact k
def spReqNum (K : PySem.W.Frag) : Sp := fun vs H Q _ => ∃ (W : Nat) (x : Str), vs = [.int W, .str x] ∧ Num W x ∧ W ≤ 12 ∧ Tb K H ∧ ∀ H', FrT K [] H H' → Q .non H'
theorem c_require_number (T : Txt P w K mg base) : CalX CX0 P w K mg base 2 "require_number" (spReqNum K) := by
  obtain ⟨fd, F⟩ := T.t.def_ 1 (d := d_require_number)
  refine ⟨_, fd, _, F.ok sc_require_number (fun vs H Q E h => ?_) (fun cdv A outer s H vs Q E hr h => ?_), He.glo_ok T.X T.G (T.t.fact 1), F.kp, F.bindsN fun _ _ _ _ _ _ us hl => match us, hl with | [_, _], _ => rfl⟩
  · obtain ⟨W, x, rfl, _⟩ := h
    rfl
  · obtain ⟨W, x, rfl, hx, hW, ht, k⟩ := h
    refine ⟨_, PSs.nox (pss_one (ps_if (pt_not (pt_val (pe_cx (c_is_number T) hr (by decide) rfl pass0 (pa_cons (pv 0) (pa_cons (pv 1) pa_nil)))))
      (pss_one ps_never)
      pss_nil)), ?_⟩
    exact ⟨_, rfl, _, rfl, W, x, rfl, hx, hW, ht, fun H' f => ⟨true, rfl, k H' f⟩⟩
theorem tup_K {x : Str} {vs : List V} (h : tupB K x vs = true) (hl : vs.length ≤ sizeLine) (H : Hp) : SqT K H (He.ga K x) vs := by
  unfold tupB at h
  split at h
  · rename_i t dd its n sl e
    obtain ⟨h1, h2⟩ := He.ba h
    have e1 : t = "tuple" := of_decide_eq_true h1
    subst e1
    have rl := He.relAll_ok h2
    refine .inr ⟨_, its, n, e, rfl, rfl, ?_, rl⟩
    have z : vs.length = its.toList.length := Paired.length rl
    have y : its.toList.length = its.size := by simp
    omega
  · cases h
def spReqKind : Sp := fun vs H Q _ => ∃ k : Str, vs = [.str k] ∧ (k = "all" ∨ k = "alarm") ∧ Q .non H
theorem c_require_kind (T : Txt P w K mg base) : CalX CX0 P w K mg base 1 "require_kind" spReqKind := by
  obtain ⟨fd, F⟩ := T.t.def_ 4 (d := d_require_kind)
  refine ⟨_, fd, _, F.ok sc_require_kind (fun vs H Q E h => ?_) (fun cdv A outer s H vs Q E hr h => ?_), He.glo_ok T.X T.G (T.t.fact 4), F.kp, F.bindsN fun _ _ _ _ _ _ us hl => match us, hl with | [_], _ => rfl⟩
  · obtain ⟨x, rfl, _⟩ := h
    rfl
  · obtain ⟨x, rfl, hk, k⟩ := h
    refine ⟨_, PSs.nox (pss_one (ps_if (pt_cmpR op_notIn_seq (pv 0) (g_KINDS T) rfl)
      (pss_one ps_never)
      pss_nil)), ?_⟩
    refine ⟨_, rfl, _, _, rfl, .inr (tup_K (xc_KINDS T) (by show 2 ≤ sizeLine; decide) H), rfl, rfl, _, rfl, ?_⟩
    have e : inV (.str x) [V.str "all", V.str "alarm"] = true := by rcases hk with rfl | rfl <;> decide +kernel
    rw [e]
    exact k
/-! ### a wire made -/
def spInit (K : PySem.W.Frag) : Sp := fun vs H Q _ => ∃ (pw dx : Addr) (W : Nat), vs = [.ref pw, .int W] ∧ H pw = some (.ins (WC K) dx []) ∧ 1 ≤ W ∧ W ≤ 12 ∧ ∀ (dh dl : Addr) (H' : Hp), H dh = none → H dl = none → H' pw = some (.ins (WC K) dx (wfl W dh dl W 0)) → H' dl = some (.lst []) → H' dh = some (.dK []) → Frm [pw] H H' → Q .non H'
theorem c_init (T : Txt P w K mg base) : MakX CX0 P w K mg base 2 "Wire" (WC K) (spInit K) := by
  obtain ⟨fd, F⟩ := T.t.def_ 5 (d := d_Wire_init)
  refine ⟨_, fd, _, He.mkr_ok (T.t.fact 72 (f := .mkr "Wire")), F.ok sc_Wire_init (fun vs H Q E h => ?_) (fun cdv A outer s H vs Q E hr h => ?_), g_Wire T, F.bindsN fun _ _ _ _ _ _ us hl => match us, hl with | [_, _], _ => rfl⟩
  · obtain ⟨pw, dx, W, rfl, _⟩ := h
    rfl
  · obtain ⟨pw, dx, W, rfl, h1, hW1, hW, k⟩ := h
    refine ⟨_, PSs.nox (pss_cons (ps_expr (pe_cx (c_require_width T) hr (by decide) rfl pass0 (pa_cons (pv 1) pa_nil)))
    (pss_cons (ps_fld (pv 0) (pv 1) rfl)
    (pss_cons (ps_fld (pv 0) pe_dnewK rfl)
    (pss_cons (ps_fld (pv 0) (pe_lst pa_nil) rfl)
    (pss_cons (ps_fld (pv 0) (pv 1) rfl)
    (pss_one (ps_fld (pv 0) pe_int rfl))))))), ?_⟩
    refine ⟨_, rfl, W, rfl, hW1, hW, ?_⟩
    refine ⟨_, rfl, _, rfl, pw, _, dx, _, rfl, h1, wcl T, wn_width T, by show 0 < 1000; decide, fun dh hdh => ?_⟩
    have n1 : pw ≠ dh := ne_of_none upd_same hdh
    refine ⟨_, rfl, pw, _, dx, _, rfl, by rw [upd_ne n1]; exact upd_same, wcl T, wn_hanging T, by show 1 < 1000; decide, Nat.zero_le _, fun dl hdl => ?_⟩
    have n2 : pw ≠ dl := ne_of_none upd_same hdl
    have n3 : dh ≠ dl := ne_of_none (by rw [upd_ne n1.symm]; exact upd_same) hdl
    refine ⟨_, rfl, pw, _, dx, _, rfl, by rw [upd_ne n2]; exact upd_same, wcl T, wn_listening T, by show 2 < 1000; decide, ?_⟩
    refine ⟨_, rfl, _, rfl, pw, _, dx, _, rfl, upd_same, wcl T, wn_said T, by show 3 < 1000; decide, ?_⟩
    refine ⟨_, rfl, pw, _, dx, _, rfl, upd_same, wcl T, wn_looks T, by show 4 < 1000; decide, ?_⟩
    rw [wp_new]
    have hdh' : H dh = none := upd_back hdh
    have hdl' : H dl = none := upd_back (upd_back (upd_back hdl))
    refine k dh dl _ hdh' hdl' upd_same ?_ ?_ (((((((Frm.refl _ _).put (by simp)).new hdh').put (by simp)).new hdl').put (by simp)).put (by simp) |>.put (by simp))
    · rw [upd_ne n2.symm, upd_ne n2.symm, upd_ne n2.symm, upd_same]
    · rw [upd_ne n1.symm, upd_ne n1.symm, upd_ne n1.symm, upd_ne n3, upd_ne n1.symm, upd_same]
theorem k_Wire (T : Txt P w K mg base) : MakX CX0 P w K mg base 2 "Wire" (WC K) (spInit K) := c_init T
end
end B

set_option Elab.async false
set_option linter.all false
set_option maxRecDepth 100000
set_option maxHeartbeats 4000000
namespace B
open PySem PySem.Spec PyProof.Rows L2
open SX (S)
section
variable {W : Nat} {dh dl : Addr} {ms lk : Int}
theorem wx_hung : (wfl W dh dl ms lk).lookup ("hung" : Str) = none := by kernel_rfl
theorem wx_alarms : (wfl W dh dl ms lk).lookup ("alarms" : Str) = none := by kernel_rfl
theorem wx_reqh : (wfl W dh dl ms lk).lookup ("_require_hanging" : Str) = none := by kernel_rfl
theorem wx_reqr : (wfl W dh dl ms lk).lookup ("_require_round" : Str) = none := by kernel_rfl
theorem wx_hang : (wfl W dh dl ms lk).lookup ("hang" : Str) = none := by kernel_rfl
theorem wx_off : (wfl W dh dl ms lk).lookup ("off" : Str) = none := by kernel_rfl
theorem wx_alarm : (wfl W dh dl ms lk).lookup ("alarm" : Str) = none := by kernel_rfl
theorem wx_calm : (wfl W dh dl ms lk).lookup ("calm" : Str) = none := by kernel_rfl
theorem wx_begin : (wfl W dh dl ms lk).lookup ("begin" : Str) = none := by kernel_rfl
theorem wx_look : (wfl W dh dl ms lk).lookup ("look" : Str) = none := by kernel_rfl
theorem wx_say : (wfl W dh dl ms lk).lookup ("say" : Str) = none := by kernel_rfl
theorem wx_looks : (wfl W dh dl ms lk).lookup ("looks" : Str) = none := by kernel_rfl
end
theorem lisB_all (kvs : List (Str × Bool)) : lisB kvs true = kvs.map (·.1) := by
  unfold lisB
  have : kvs.filter (fun p => true || p.2) = kvs := List.filter_eq_self.mpr fun p _ => rfl
  rw [this]
theorem lisB_len (kvs : List (Str × Bool)) (b : Bool) : (lisB kvs b).length ≤ kvs.length := by
  unfold lisB
  rw [List.length_map]
  exact List.length_filter_le _ _
section
variable {P : Program} {w : World} {K : PySem.W.Frag} {mg : Str → Option Value} {base : Heap}
def spLooks (K : PySem.W.Frag) : Sp := fun vs H Q _ => ∃ (pw dh dl : Addr) (W : Nat) (kvs : List (Str × Bool)) (lw : List Str) (ms lk : Int), vs = [.ref pw] ∧ WiAt K H pw dh dl W kvs lw ms lk ∧ Q (.int lk) H
theorem m_Wire_looks (T : Txt P w K mg base) : MetX CX0 P w K mg base 1 (WC K) "looks" (spLooks K) := by
  obtain ⟨fd, F⟩ := T.t.def_ 15 (d := d_Wire_looks)
  refine ⟨_, fd, _, wcl T, He.meth_ok (T.t.fact 87 (f := .meth "Wire" "looks")), F.ok sc_Wire_looks (fun vs H Q E h => ?_) (fun cdv A outer s H vs Q E hr h => ?_), F.bindsN fun _ _ _ _ _ _ us hl => match us, hl with | [_], _ => rfl⟩
  · obtain ⟨pw, dh, dl, W, kvs, lw, ms, lk, rfl, _⟩ := h
    rfl
  · obtain ⟨pw, dh, dl, W, kvs, lw, ms, lk, rfl, ⟨⟨dx, h1⟩, h2, h3⟩, k⟩ := h
    refine ⟨_, PSs.nox (pss_one (ps_ret (pe_fld (pv 0) (by rfl)))), ?_⟩
    exact ⟨_, rfl, pw, _, dx, _, _, rfl, h1, wcl T, wn_looks T, wl_looks, k⟩
def spRound (K : PySem.W.Frag) : Sp := fun vs H Q E => ∃ (pw dh dl : Addr) (W : Nat) (kvs : List (Str × Bool)) (lw : List Str) (ms lk : Int), vs = [.ref pw] ∧ WiAt K H pw dh dl W kvs lw ms lk ∧ (ms = W → E (.ref (He.ga K "NoRound")) none H) ∧ (ms ≠ W → Q .non H)
theorem m_Wire__require_round (T : Txt P w K mg base) : MetX (L2.CX P w) P w K mg base 1 (WC K) "_require_round" (spRound K) := by
  obtain ⟨fd, F⟩ := T.t.def_ 17 (d := d_Wire__require_round)
  refine ⟨_, fd, _, wcl T, He.meth_ok (T.t.fact 89 (f := .meth "Wire" "_require_round")), F.ok sc_Wire__require_round (fun vs H Q E h => ?_) (fun cdv A outer s H vs Q E hr h => ?_), F.bindsN fun _ _ _ _ _ _ us hl => match us, hl with | [_], _ => rfl⟩
  · obtain ⟨pw, dh, dl, W, kvs, lw, ms, lk, rfl, _⟩ := h
    rfl
  · obtain ⟨pw, dh, dl, W, kvs, lw, ms, lk, rfl, ⟨⟨dx, h1⟩, h2, h3⟩, k1, k2⟩ := h
    refine ⟨_, (pss_one (ps_if (pt_cmpR op_eq (pe_fld (pv 0) (by rfl)) (pe_fld (pv 0) (by rfl)) (nomark _))
      (pss_one (ps_raise rfl (takes_of rfl rfl rfl rfl) (mk_NoRound T)))
      pss_nil)), ?_⟩
    refine ⟨_, rfl, pw, _, dx, _, _, rfl, h1, wcl T, wn_said T, wl_said, _, rfl, pw, _, dx, _, _, rfl, h1, wcl T, wn_width T, wl_width, rfl, _, rfl, ?_⟩
    rw [int_dec]
    exact iteB (fun c => k1 (of_decide_eq_true c)) (fun c => k2 (of_decide_eq_false c))
/-- all that hang, rising -/
def spHung (K : PySem.W.Frag) : Sp := fun vs H Q _ => ∃ (pw dh dl : Addr) (W : Nat) (kvs : List (Str × Bool)) (lw : List Str) (ms lk : Int), vs = [.ref pw] ∧ WiAt K H pw dh dl W kvs lw ms lk ∧ kvs.length < 64 ∧
  ∀ (ys : List Str) (p : Addr) (H' : Hp), ys.Perm (kvs.map (·.1)) → sortedS ys = true → H p = none → H' p = some (.lst (ys.map V.str)) → Frm [] H H' → Q (.ref p) H'
theorem m_Wire_hung (T : Txt P w K mg base) : MetX CX0 P w K mg base 1 (WC K) "hung" (spHung K) := by
  obtain ⟨fd, F⟩ := T.t.def_ 10 (d := d_Wire_hung)
  refine ⟨_, fd, _, wcl T, He.meth_ok (T.t.fact 82 (f := .meth "Wire" "hung")), F.ok sc_Wire_hung (fun vs H Q E h => ?_) (fun cdv A outer s H vs Q E hr h => ?_), F.bindsN fun _ _ _ _ _ _ us hl => match us, hl with | [_], _ => rfl⟩
  · obtain ⟨pw, dh, dl, W, kvs, lw, ms, lk, rfl, _⟩ := h
    rfl
  · obtain ⟨pw, dh, dl, W, kvs, lw, ms, lk, rfl, ⟨⟨dx, h1⟩, h2, h3⟩, hl, k⟩ := h
    refine ⟨_, PSs.nox (pss_one (ps_ret (pe_callB (call_sortedD rfl) (by rfl) (n_sorted T) (by decide +kernel) (pa_cons (pe_fld (pv 0) (by rfl)) pa_nil)))), ?_⟩
    exact ⟨_, rfl, pw, _, dx, _, _, rfl, h1, wcl T, wn_hanging T, wl_hanging, dh, kv kvs, kvs.map (·.1), rfl, .inl h3, keys_kv kvs, by rw [List.length_map]; exact hl, fun ys p pm srt hp => k ys p _ pm srt hp upd_same (Frm.of (same_upd hp))⟩
/-- all that have an alarm, rising -/
def spAlarms (K : PySem.W.Frag) : Sp := fun vs H Q _ => ∃ (pw dh dl : Addr) (W : Nat) (kvs : List (Str × Bool)) (lw : List Str) (ms lk : Int), vs = [.ref pw] ∧ WiAt K H pw dh dl W kvs lw ms lk ∧ kvs.length < 64 ∧ (kvs.map (·.1)).Nodup ∧
  ∀ (ys : List Str) (p : Addr) (H' : Hp), ys.Perm (lisB kvs false) → sortedS ys = true → H p = none → H' p = some (.lst (ys.map V.str)) → Frm [] H H' → Q (.ref p) H'
theorem m_Wire_alarms (T : Txt P w K mg base) : MetX CX0 P w K mg base 1 (WC K) "alarms" (spAlarms K) := by
  obtain ⟨fd, F⟩ := T.t.def_ 11 (d := d_Wire_alarms)
  refine ⟨_, fd, _, wcl T, He.meth_ok (T.t.fact 83 (f := .meth "Wire" "alarms")), F.ok sc_Wire_alarms (fun vs H Q E h => ?_) (fun cdv A outer s H vs Q E hr h => ?_), F.bindsN fun _ _ _ _ _ _ us hl => match us, hl with | [_], _ => rfl⟩
  · obtain ⟨pw, dh, dl, W, kvs, lw, ms, lk, rfl, _⟩ := h
    rfl
  · obtain ⟨pw, dh, dl, W, kvs, lw, ms, lk, rfl, wa, hl, hnd, k⟩ := h
    have npd := wa.ne
    obtain ⟨⟨dx, h1⟩, h2, h3⟩ := wa
    have hu := hu_of hr
    refine ⟨_, PSs.nox (pss_one (ps_ret (pe_callB cr_sortedS (by rfl) (n_sorted T) (by decide +kernel) (pa_cons (pe_lock (pe_lc (own := [("number", 1)]) (g := gName 1) rfl sc_Wire_alarms.nd (pi_keys (pe_fld (pv 0) (by rfl))) (blkOk_by (N := ["self", "number"]) (sc := defScope s_Wire_alarms) (own := [("number", 1)]) (by decide +kernel)) (fun _ _ _ _ _ => pg_name (i := 1) sc_Wire_alarms.nd rfl (Or.inl rfl)) (fun _ _ _ _ _ => pts_one (by exact (pt_val (pe_dget hu (pe_fldK (K := K) rfl (pv 0) (by rfl)) (pv 1) (fun _ _ => rfl))))) (fun _ _ _ _ _ => by exact (pv 1)))) pa_nil)))), ?_⟩
    refine ⟨dh, _, h3, trivial, fun od => ?_⟩
    have h1' : (upd H dh (.frz od (.dK (kv kvs)))) pw = some (.ins (WC K) dx (wfl W dh dl ms lk)) := by rw [upd_ne npd]; exact h1
    refine ⟨_, rfl, pw, _, dx, _, _, rfl, h1', wcl T, wn_hanging T, wl_hanging, dh, od, rfl, .inl ⟨_, upd_same, fun D hD => ?_⟩⟩
    have ndD : dh ≠ D := ne_of_none upd_same hD
    have npD : pw ≠ D := ne_of_none h1' hD
    refine lc_it walk_keys (fun i H' => H' = upd (upd H dh (.frz od (.dK (kv kvs)))) D (.lst ((lisB (kvs.take i) false).map V.str))) rfl (fun i H' _ e => by rw [e, upd_ne ndD, upd_same]) ?_ ?_
    · rintro i y H1 H2 hi e ⟨rfl, kk, v, hk, rfl⟩
      subst H2
      obtain ⟨x, b, hxb, rfl, rfl⟩ := kv_at hk
      have hg := get_at hnd hxb
      have hl' := lisB_len (kvs.take i) false
      rw [List.length_take] at hl'
      refine ⟨rfl, _, rfl, pw, _, dx, _, _, rfl, by rw [upd_ne npD]; exact h1', wcl T, wn_hanging T, wl_hanging, _, rfl, dh, _, rfl, dg_get (.inr ⟨od, by rw [upd_ne ndD, upd_same]⟩) hg, b, rfl, iteB (fun cb => ?_) (fun cb => ?_)⟩
      · refine ⟨_, rfl, _, upd_same, by rw [List.length_map]; exact small1000 (by omega), ?_⟩
        show _ = _
        rw [upd_upd]
        unfold lisB
        rw [filter_step _ hxb, if_pos (show (false || b) = true by rw [cb]; rfl), List.map_append, List.map_append]
        rfl
      · show _ = _
        unfold lisB
        rw [filter_step _ hxb, if_neg (show ¬ (false || b) = true by rw [cb]; exact Bool.false_ne_true), List.append_nil]
    · rintro H1 rfl
      have e : (kv kvs).length = kvs.length := by unfold kv; rw [List.length_map]
      rw [e, List.take_length]
      refine ⟨by rw [upd_ne ndD, upd_same], ?_⟩
      rw [upd_lock h3 ndD]
      have hD' : H D = none := upd_back hD
      have hl' := lisB_len kvs false
      exact ⟨D, lisB kvs false, rfl, SqL.of upd_same, by omega, fun ys p pm srt hp => k ys p _ pm srt (upd_back hp) upd_same ((Frm.of (same_upd hD')).trans (Frm.of (same_upd hp)))⟩
/-- a round begun -/
def spBegin (K : PySem.W.Frag) : Sp := fun vs H Q _ => ∃ (pw dh dl : Addr) (kind : Str) (W : Nat) (kvs : List (Str × Bool)) (lw : List Str) (ms lk : Int), vs = [.ref pw, .str kind] ∧ (kind = "all" ∨ kind = "alarm") ∧ WiAt K H pw dh dl W kvs lw ms lk ∧ kvs.length < 64 ∧ (kvs.map (·.1)).Nodup ∧
  ∀ (ys : List Str) (dl' : Addr) (H' : Hp), ys.Perm (lisB kvs (decide (kind = "all"))) → H dl' = none → WiAt K H' pw dh dl' W kvs ys 0 lk → Frm [pw] H H' → Q .non H'
theorem m_Wire_begin (T : Txt P w K mg base) : MetX CX0 P w K mg base 2 (WC K) "begin" (spBegin K) := by
  obtain ⟨fd, F⟩ := T.t.def_ 12 (d := d_Wire_begin)
  refine ⟨_, fd, _, wcl T, He.meth_ok (T.t.fact 84 (f := .meth "Wire" "begin")), F.ok sc_Wire_begin (fun vs H Q E h => ?_) (fun cdv A outer s H vs Q E hr h => ?_), F.bindsN fun _ _ _ _ _ _ us hl => match us, hl with | [_, _], _ => rfl⟩
  · obtain ⟨pw, dh, dl, kind, W, kvs, lw, ms, lk, rfl, _⟩ := h
    rfl
  · obtain ⟨pw, dh, dl, kind, W, kvs, lw, ms, lk, rfl, hk, wa, hl, hnd, k⟩ := h
    have npd := wa.ne
    have wa' := wa
    obtain ⟨⟨dx, h1⟩, h2, h3⟩ := wa
    refine ⟨_, PSs.nox (pss_cons (ps_expr (pe_cx (c_require_kind T) hr (by decide) rfl pass0 (pa_cons (pv 1) pa_nil)))
    (pss_cons (ps_fld (pv 0) (pe_ifExp (pt_cmpR op_eq (pv 1) pe_str (nomark _)) (pe_mx0 (m_Wire_hung T) hr (by decide) (pv 0) pass0) (pe_mx0 (m_Wire_alarms T) hr (by decide) (pv 0) pass0)) rfl)
    (pss_one (ps_fld (pv 0) pe_int rfl)))), ?_⟩
    refine ⟨_, rfl, kind, rfl, hk, ?_⟩
    have go : ∀ (ys : List Str) (p : Addr) (H' : Hp), ys.Perm (lisB kvs (decide (kind = "all"))) → sortedS ys = true → H p = none → H' p = some (.lst (ys.map V.str)) → Frm [] H H' →
        ∃ v, [some (V.ref pw), some (V.str kind)][0]? = some (some v) ∧ ∃ a C dx fs, v = .ref a ∧ H' a = some (.ins C dx fs) ∧ Cls K C ∧ NoAttr K C "_listening" ∧ fs.length < 1000 ∧
          tSeq (sFld K (tVar 0) (tC (.int 0)) "_many_said") tNext { nx := fun _ H' => Q .non H', rt := Q } [some (V.ref pw), some (V.str kind)] (upd H' a (.ins C dx (putF "_listening" (.ref p) fs))) := fun ys p H' pm _ hp hl' f => by
      have g1 : H' pw = some (.ins (WC K) dx (wfl W dh dl ms lk)) := f.k _ _ h1 rfl (by simp)
      have g3 : H' dh = some (.dK (kv kvs)) := f.k _ _ h3 rfl (by simp)
      have npp : pw ≠ p := ne_of_none h1 hp
      refine ⟨_, rfl, pw, _, dx, _, rfl, g1, wcl T, wn_listening T, wl_len, ?_⟩
      rw [wp_listening]
      refine ⟨_, rfl, pw, _, dx, _, rfl, upd_same, wcl T, wn_said T, wl_len, ?_⟩
      rw [wp_said]
      refine k ys p _ pm hp ⟨⟨dx, upd_same⟩, ?_, ?_⟩ (((f.mono (by simp)).put (by simp)).put (by simp))
      · rw [upd_ne npp.symm, upd_ne npp.symm]
        exact hl'
      · rw [upd_ne npd.symm, upd_ne npd.symm]
        exact g3
    refine ⟨_, rfl, rfl, _, rfl, ?_⟩
    rw [str_dec]
    refine iteB (fun c => ?_) (fun c => ?_)
    · refine ⟨_, rfl, pw, dx, _, rfl, h1, wx_hung, pw, dh, dl, W, kvs, lw, ms, lk, rfl, wa', hl, fun ys p H' pm srt hp hl' f => go ys p H' ?_ srt hp hl' f⟩
      rw [c, lisB_all]
      exact pm
    · refine ⟨_, rfl, pw, dx, _, rfl, h1, wx_alarms, pw, dh, dl, W, kvs, lw, ms, lk, rfl, wa', hl, hnd, fun ys p H' pm srt hp hl' f => go ys p H' ?_ srt hp hl' f⟩
      rw [c]
      exact pm
end
end B

set_option Elab.async false
set_option linter.all false
set_option maxRecDepth 100000
set_option maxHeartbeats 4000000
namespace B
open PySem PySem.Spec PyProof.Rows L2
open SX (S)
/-- the sign at a place -/
def sgn (n : Nat) (x : Str) : Nat := x.cps.toList.getD n 0
theorem sgn_at {n c : Nat} {x : Str} (h : x.cps.toList[n]? = some c) : sgn n x = c := by
  unfold sgn
  rw [List.getD_eq_getElem?_getD, h]
  rfl
theorem flat_sgn (n : Nat) (xs : List Str) : (xs.map fun x => V.str (S [sgn n x])).all flatV = true := by
  induction xs with
  | nil => rfl
  | cons x r ih => rw [List.map_cons, List.all_cons, ih]; rfl
theorem inV_sgn {W n d : Nat} (hn : n < W) : ∀ xs : List Str, (∀ x ∈ xs, Num W x) → inV (.str (S [d])) (xs.map fun x => V.str (S [sgn n x])) = xs.any (sg n d)
  | [], _ => rfl
  | x :: r, h => by
    have ih := inV_sgn (d := d) hn r fun y hy => h y (List.mem_cons_of_mem _ hy)
    obtain ⟨c, _, g1, _⟩ := num_at (h x List.mem_cons_self) hn
    show (eqV (.str (S [sgn n x])) (.str (S [d])) || inV (.str (S [d])) (r.map fun x => V.str (S [sgn n x]))) = (sg n d x || r.any (sg n d))
    rw [ih, sgn_at g1, sg_at g1]
    congr 1
    show (S [c] == S [d]) = decide (c = d)
    rw [SX.S_beq_eq]
    by_cases e : c = d
    · rw [decide_eq_true e, decide_eq_true (by rw [e])]
    · rw [decide_eq_false e, decide_eq_false (fun q => e (List.cons.inj q).1)]
section
variable {P : Program} {w : World} {K : PySem.W.Frag} {mg : Str → Option Value} {base : Heap}
/-- a look -/
def spLook (K : PySem.W.Frag) : Sp := fun vs H Q E => ∃ (pw dh dl : Addr) (W : Nat) (kvs : List (Str × Bool)) (lw : List Str) (ms lk : Int), vs = [.ref pw] ∧ WiAt K H pw dh dl W kvs lw ms lk ∧ W ≤ 12 ∧ 0 ≤ ms ∧ ms ≤ W ∧ (∀ x ∈ lw, Num W x) ∧ lw.length ≤ 100 ∧
  (ms = W → E (.ref (He.ga K "NoRound")) none H) ∧ (ms ≠ W → ∀ (p : Addr) (H' : Hp), H' p = some (.tup [.bl (lw.any (sg ms.toNat 48)), .bl (lw.any (sg ms.toNat 49))]) → WiAt K H' pw dh dl W kvs lw ms (lk + 1) → Frm [pw] H H' → Q (.ref p) H')
theorem m_Wire_look (T : Txt P w K mg base) : MetX (L2.CX P w) P w K mg base 2 (WC K) "look" (spLook K) := by
  obtain ⟨fd, F⟩ := T.t.def_ 13 (d := d_Wire_look)
  refine ⟨_, fd, _, wcl T, He.meth_ok (T.t.fact 85 (f := .meth "Wire" "look")), F.ok sc_Wire_look (fun vs H Q E h => ?_) (fun cdv A outer s H vs Q E hr h => ?_), F.bindsN fun _ _ _ _ _ _ us hl => match us, hl with | [_], _ => rfl⟩
  · obtain ⟨pw, dh, dl, W, kvs, lw, ms, lk, rfl, _⟩ := h
    rfl
  · obtain ⟨pw, dh, dl, W, kvs, lw, ms, lk, rfl, wa, hW, hm0, hm1, hn, hl, k1, k2⟩ := h
    have npd := wa.ne
    have wa' := wa
    obtain ⟨⟨dx, h1⟩, h2, h3⟩ := wa
    refine ⟨_, (pss_cons (ps_expr (pe_mx0 (m_Wire__require_round T) hr (by decide) (pv 0) (passes_call (takes_of rfl rfl rfl rfl) (fun _ _ _ _ h => h))))
    (pss_cons (ps_fldaug (pv 0) pe_int in_add)
    (pss_cons (ps_setLc (i := 1) (own := [("number", 2)]) (g := gName 2) rfl sc_Wire_look.nd rfl rfl (sw_true rfl rfl rfl (by decide +kernel)) (pi_list (pe_fld (pv 0) (by rfl))) (blkOk_by (N := ["self", "signs", "number"]) (sc := defScope s_Wire_look) (own := [("number", 2)]) (by decide +kernel)) (fun _ _ _ _ _ => pg_name (i := 2) sc_Wire_look.nd rfl (Or.inl rfl)) (fun _ _ _ _ _ => pts_nil) (fun _ _ _ _ _ => by exact (pe_ix ix_str (pv 2) (pe_fldK (K := K) rfl (pv 0) (by rfl)) (fun _ _ => rfl))))
    (pss_one (ps_ret (pe_tup (pa_cons (pe_cmpR op_in_seq pe_str (pv 1) rfl) (pa_cons (pe_cmpR op_in_seq pe_str (pv 1) rfl) pa_nil)))))))), ?_⟩
    refine ⟨_, rfl, pw, dx, _, rfl, h1, wx_reqr, pw, dh, dl, W, kvs, lw, ms, lk, rfl, wa', k1, fun hne => ?_⟩
    have k := k2 hne
    have hlt : ms.toNat < W := by omega
    refine ⟨_, rfl, pw, _, dx, _, _, rfl, h1, wcl T, wn_looks T, wl_looks, lk, 1, rfl, rfl, dx, _, h1, wl_len, ?_⟩
    rw [wp_looks]
    have ndl : dl ≠ pw := ne_of h2 h1 (by intro z; cases z)
    have h2' : (upd H pw (.ins (WC K) dx (wfl W dh dl ms (lk + 1)))) dl = some (.lst (lw.map V.str)) := by rw [upd_ne ndl]; exact h2
    refine ⟨_, rfl, pw, _, dx, _, _, rfl, upd_same, wcl T, wn_listening T, wl_listening, dl, rfl, ⟨_, SqL.of h2'⟩, fun D hD => ?_⟩
    have npD : pw ≠ D := ne_of_none upd_same hD
    have nlD : dl ≠ D := ne_of_none h2' hD
    refine lc_list (K := K) (a := dl) (xs := lw.map V.str) (fun i H' => H' = upd (upd H pw (.ins (WC K) dx (wfl W dh dl ms (lk + 1)))) D (.lst ((lw.take i).map fun x => V.str (S [sgn ms.toNat x])))) rfl (fun i H' _ e => by rw [e]; exact SqL.of (by rw [upd_ne nlD]; exact h2')) ?_ ?_
    · rintro i y H1 hi e
      subst e
      obtain ⟨x, hx, rfl⟩ := at_map hi
      obtain ⟨c, hc, g1, g2⟩ := num_at (hn x (List.mem_of_getElem? hx)) hlt
      rw [show ((ms.toNat : Nat) : Int) = ms by omega] at g2
      refine ⟨rfl, _, rfl, _, rfl, pw, _, dx, _, _, rfl, by rw [upd_ne npD]; exact upd_same, wcl T, wn_said T, wl_said, x, ms, c, rfl, rfl, by rw [num_len (hn x (List.mem_of_getElem? hx))]; exact size12 (by omega), g2, ?_⟩
      refine ⟨_, upd_same, by rw [List.length_map, List.length_take]; exact small1000 (by omega), ?_⟩
      show _ = _
      rw [upd_upd, take_snoc hx, List.map_append]
      have e : V.str (S [sgn ms.toNat x]) = V.str ⟨#[c]⟩ := by rw [sgn_at g1]
      rw [List.map_cons, List.map_nil, e]
    · rintro H1 rfl
      rw [List.length_map, List.take_length]
      refine ⟨_, rfl, D, _, rfl, .inl (SqL.of upd_same), rfl, flat_sgn _ _, _, rfl, D, _, rfl, .inl (SqL.of upd_same), rfl, flat_sgn _ _, by show 2 ≤ sizeLine; decide, fun p hp => ?_⟩
      have e0 := inV_sgn (d := 48) hlt lw hn
      have e1 := inV_sgn (d := 49) hlt lw hn
      rw [← zero_S] at e0
      rw [← one_S] at e1
      have hp1 : H p = none := upd_back (upd_back hp)
      have hD' : H D = none := upd_back hD
      have npp : pw ≠ p := ne_of_none h1 hp1
      have ndp : dh ≠ p := ne_of_none h3 hp1
      have nlp : dl ≠ p := ne_of_none h2 hp1
      have ndD : dh ≠ D := ne_of_none h3 hD'
      refine k p _ ?_ ⟨⟨dx, ?_⟩, ?_, ?_⟩ (((((Frm.refl _ _).put (by simp)).new hD')).new hp1)
      · rw [upd_same]
        show some (HO.tup [V.bl (if false = true then _ else inV (.str "0") _), V.bl (if false = true then _ else inV (.str "1") _)]) = _
        rw [if_neg Bool.false_ne_true, if_neg Bool.false_ne_true, e0, e1]
      · rw [upd_ne npp, upd_ne npD, upd_same]
      · rw [upd_ne nlp, upd_ne nlD]
        exact h2'
      · rw [upd_ne ndp, upd_ne ndD, upd_ne npd.symm]
        exact h3
/-- a bit said -/
def spSay (K : PySem.W.Frag) : Sp := fun vs H Q E => ∃ (pw dh dl : Addr) (bit : Int) (W : Nat) (kvs : List (Str × Bool)) (lw : List Str) (ms lk : Int), vs = [.ref pw, .int bit] ∧ (bit = 0 ∨ bit = 1) ∧ WiAt K H pw dh dl W kvs lw ms lk ∧ W ≤ 12 ∧ 0 ≤ ms ∧ ms ≤ W ∧ (∀ x ∈ lw, Num W x) ∧ lw.length ≤ 100 ∧
  (ms = W → E (.ref (He.ga K "NoRound")) none H) ∧ (ms ≠ W → ∀ (dl' : Addr) (H' : Hp), H dl' = none → WiAt K H' pw dh dl' W kvs (lw.filter (sg ms.toNat (48 + bit.toNat))) (ms + 1) lk → Frm [pw] H H' → Q .non H')
theorem m_Wire_say (T : Txt P w K mg base) : MetX (L2.CX P w) P w K mg base 2 (WC K) "say" (spSay K) := by
  obtain ⟨fd, F⟩ := T.t.def_ 14 (d := d_Wire_say)
  refine ⟨_, fd, _, wcl T, He.meth_ok (T.t.fact 86 (f := .meth "Wire" "say")), F.ok sc_Wire_say (fun vs H Q E h => ?_) (fun cdv A outer s H vs Q E hr h => ?_), F.bindsN fun _ _ _ _ _ _ us hl => match us, hl with | [_, _], _ => rfl⟩
  · obtain ⟨pw, dh, dl, bit, W, kvs, lw, ms, lk, rfl, _⟩ := h
    rfl
  · obtain ⟨pw, dh, dl, bit, W, kvs, lw, ms, lk, rfl, hbit, wa, hW, hm0, hm1, hn, hl, k1, k2⟩ := h
    have npd := wa.ne
    have wa' := wa
    obtain ⟨⟨dx, h1⟩, h2, h3⟩ := wa
    have lg : bit.natAbs.log2 < 1920 := by rcases hbit with rfl | rfl <;> decide
    refine ⟨_, (pss_cons (ps_expr (pe_mx0 (m_Wire__require_round T) hr (by decide) (pv 0) (passes_call (takes_of rfl rfl rfl rfl) (fun _ _ _ _ h => h))))
    (pss_cons (ps_if (PW.pt (pw_or (pt_val (pe_callB call_isi (by rfl) (n_isinstance T) (by decide +kernel) (pa_cons (pv 1) (pa_cons (pe_bltn (v := .ty "bool") (u := .type "bool") rfl (n_bool T) (by decide +kernel) rfl) pa_nil)))) (pw_or1 (pt_cmpR op_notIn_seq (pv 1) (pe_tup (pa_cons pe_int (pa_cons pe_int pa_nil))) rfl))))
      (pss_one ps_never)
      pss_nil)
    (pss_cons (ps_set (i := 2) sc_Wire_say.nd rfl (Or.inr rfl) (pe_callTy call_str_int (by rfl) (n_str T) (by decide +kernel) (pa_cons (pv 1) pa_nil)))
    (pss_cons (ps_fld (pv 0) (pe_lc (own := [("number", 3)]) (g := gName 3) rfl sc_Wire_say.nd (pi_list (pe_fld (pv 0) (by rfl))) (blkOk_by (N := ["self", "bit", "sign", "number"]) (sc := defScope s_Wire_say) (own := [("number", 3)]) (by decide +kernel)) (fun _ _ _ _ _ => pg_name (i := 3) sc_Wire_say.nd rfl (Or.inl rfl)) (fun _ _ _ _ _ => pts_one (by exact (pt_cmpR op_eq (pe_ix ix_str (pv 3) (pe_fldK (K := K) rfl (pv 0) (by rfl)) (fun _ _ => rfl)) (pv 2) (nomark _)))) (fun _ _ _ _ _ => by exact (pv 3))) rfl)
    (pss_one (ps_fldaug (pv 0) pe_int in_add)))))), ?_⟩
    refine ⟨_, rfl, pw, dx, _, rfl, h1, wx_reqr, pw, dh, dl, W, kvs, lw, ms, lk, rfl, wa', k1, fun hne => ?_⟩
    have k := k2 hne
    have hlt : ms.toNat < W := by omega
    refine ⟨_, rfl, .int bit, .ty "bool", .type "int", .type "bool", false, rfl, .ty "bool", .base (.int bit), kit_ty (by decide +kernel), false, rfl, ?_⟩
    refine ⟨_, rfl, by show 2 ≤ sizeLine; decide, fun t ht => ?_⟩
    have i1 : inV (.int bit) [V.int 0, V.int 1] = true := by rcases hbit with rfl | rfl <;> decide +kernel
    refine ⟨t, _, rfl, .inr (SqT.of upd_same), rfl, rfl, _, rfl, ?_⟩
    rw [i1]
    -- sign = str(bit)
    refine ⟨_, rfl, bit, rfl, lg, ?_⟩
    have npt : pw ≠ t := ne_of_none h1 ht
    have nlt : dl ≠ t := ne_of_none h2 ht
    have ndt : dh ≠ t := ne_of_none h3 ht
    have h1' : (upd H t (.tup [.int 0, .int 1])) pw = some (.ins (WC K) dx (wfl W dh dl ms lk)) := by rw [upd_ne npt]; exact h1
    have h2' : (upd H t (.tup [.int 0, .int 1])) dl = some (.lst (lw.map V.str)) := by rw [upd_ne nlt]; exact h2
    refine ⟨_, rfl, pw, _, dx, _, _, rfl, h1', wcl T, wn_listening T, wl_listening, dl, rfl, ⟨_, SqL.of h2'⟩, fun D hD => ?_⟩
    have npD : pw ≠ D := ne_of_none h1' hD
    have nlD : dl ≠ D := ne_of_none h2' hD
    have hD' : H D = none := upd_back hD
    have ndD : dh ≠ D := ne_of_none h3 hD'
    refine lc_list (K := K) (a := dl) (xs := lw.map V.str) (fun i H' => H' = upd (upd H t (.tup [.int 0, .int 1])) D (.lst (((lw.take i).filter (sg ms.toNat (48 + bit.toNat))).map V.str))) rfl (fun i H' _ e => by rw [e]; exact SqL.of (by rw [upd_ne nlD]; exact h2')) ?_ ?_
    · rintro i y H1 hi e
      subst e
      obtain ⟨x, hx, rfl⟩ := at_map hi
      have hnx := hn x (List.mem_of_getElem? hx)
      obtain ⟨c, hc, g1, g2⟩ := num_at hnx hlt
      rw [show ((ms.toNat : Nat) : Int) = ms by omega] at g2
      refine ⟨rfl, _, rfl, _, rfl, pw, _, dx, _, _, rfl, by rw [upd_ne npD]; exact h1', wcl T, wn_said T, wl_said, x, ms, c, rfl, rfl, by rw [num_len hnx]; exact size12 (by omega), g2, _, rfl, rfl, _, rfl, ?_⟩
      rw [dig_S bit hbit, sign_dec, ← sg_at g1]
      refine iteB (fun cb => ?_) (fun cb => ?_)
      · refine ⟨_, rfl, _, upd_same, ?_, ?_⟩
        · rw [List.length_map]
          have := List.length_filter_le (sg ms.toNat (48 + bit.toNat)) (lw.take i)
          rw [List.length_take] at this
          exact small1000 (by omega)
        · show _ = _
          rw [upd_upd, filter_step _ hx, if_pos cb, List.map_append]
          rfl
      · show _ = _
        rw [filter_step _ hx, if_neg (by rw [cb]; exact Bool.false_ne_true), List.append_nil]
    · rintro H1 rfl
      rw [List.length_map, List.take_length]
      have h1'' : (upd (upd H t (.tup [.int 0, .int 1])) D (.lst ((lw.filter (sg ms.toNat (48 + bit.toNat))).map V.str))) pw = some (.ins (WC K) dx (wfl W dh dl ms lk)) := by rw [upd_ne npD]; exact h1'
      refine ⟨_, rfl, pw, _, dx, _, rfl, h1'', wcl T, wn_listening T, wl_len, ?_⟩
      rw [wp_listening]
      refine ⟨_, rfl, pw, _, dx, _, _, rfl, upd_same, wcl T, wn_said T, wl_said, ms, 1, rfl, rfl, dx, _, upd_same, wl_len, ?_⟩
      rw [wp_said]
      refine k D _ hD' ⟨⟨dx, upd_same⟩, ?_, ?_⟩ ((((((Frm.refl _ _).new ht).new hD').put (by simp)).put (by simp)))
      · rw [upd_ne npD.symm, upd_ne npD.symm, upd_same]
      · rw [upd_ne npd.symm, upd_ne npd.symm, upd_ne ndD, upd_ne ndt]
        exact h3
end
end B

set_option Elab.async false
set_option linter.all false
set_option maxRecDepth 100000
set_option maxHeartbeats 4000000
namespace B
open PySem PySem.Spec PyProof.Rows L2
open SX (S)
/-- who refuses -/
def errOf (K : PySem.W.Frag) (wd : Str) : Addr := if wd = "hang" then He.ga K "There" else He.ga K "NotThere"
section
variable {P : Program} {w : World} {K : PySem.W.Frag} {mg : Str → Option Value} {base : Heap}
def spReqHang (K : PySem.W.Frag) : Sp := fun vs H Q E => ∃ (pw dh dl : Addr) (x : Str) (W : Nat) (kvs : List (Str × Bool)) (lw : List Str) (ms lk : Int), vs = [.ref pw, .str x] ∧ WiAt K H pw dh dl W kvs lw ms lk ∧ Num W x ∧ W ≤ 12 ∧ Tb K H ∧
  (hasK kvs x = false → ∀ H', FrT K [] H H' → E (.ref (He.ga K "NotThere")) none H') ∧ (hasK kvs x = true → ∀ H', FrT K [] H H' → Q .non H')
theorem m_Wire__require_hanging (T : Txt P w K mg base) : MetX (L2.CX P w) P w K mg base 3 (WC K) "_require_hanging" (spReqHang K) := by
  obtain ⟨fd, F⟩ := T.t.def_ 16 (d := d_Wire__require_hanging)
  refine ⟨_, fd, _, wcl T, He.meth_ok (T.t.fact 88 (f := .meth "Wire" "_require_hanging")), F.ok sc_Wire__require_hanging (fun vs H Q E h => ?_) (fun cdv A outer s H vs Q E hr h => ?_), F.bindsN fun _ _ _ _ _ _ us hl => match us, hl with | [_, _], _ => rfl⟩
  · obtain ⟨pw, dh, dl, x, W, kvs, lw, ms, lk, rfl, _⟩ := h
    rfl
  · obtain ⟨pw, dh, dl, x, W, kvs, lw, ms, lk, rfl, ⟨⟨dx, h1⟩, h2, h3⟩, hx, hW, ht, k1, k2⟩ := h
    have hu := hu_of hr
    refine ⟨_, (pss_cons (ps_expr (pe_cx (c_require_number T) hr (by decide) rfl pass0 (pa_cons (pe_fld (pv 0) (by rfl)) (pa_cons (pv 1) pa_nil))))
    (pss_one (ps_if (pt_cmp (pc_dnotin hu (pv 1) (pe_fld (pv 0) (by rfl))))
      (pss_one (ps_raise rfl (takes_of rfl rfl rfl rfl) (mk_NotThere T)))
      pss_nil))), ?_⟩
    refine ⟨_, rfl, pw, _, dx, _, _, rfl, h1, wcl T, wn_width T, wl_width, _, rfl, W, x, rfl, hx, hW, ht, fun H1 f => ?_⟩
    have g1 := f.k _ _ h1 rfl (by simp)
    have g3 := f.k _ _ h3 rfl (by simp)
    refine ⟨_, rfl, _, rfl, pw, _, dx, _, _, rfl, g1, wcl T, wn_hanging T, wl_hanging, dh, _, rfl, dg_has (.inl g3) x, _, rfl, ?_⟩
    rw [some_map_bl, get_has]
    refine iteB (fun c => ?_) (fun c => ?_)
    · refine k1 ?_ H1 f
      cases e : hasK kvs x with
      | false => rfl
      | true => rw [e] at c; cases c
    · refine k2 ?_ H1 f
      cases e : hasK kvs x with
      | true => rfl
      | false => rw [e] at c; cases c
/-- something becomes of a thing of a wire -/
def spWd (K : PySem.W.Frag) (wd : Str) : Sp := fun vs H Q E => ∃ (pw dh dl : Addr) (x : Str) (W : Nat) (kvs : List (Str × Bool)) (lw : List Str) (ms lk : Int), vs = [.ref pw, .str x] ∧ WiAt K H pw dh dl W kvs lw ms lk ∧ Num W x ∧ W ≤ 12 ∧ kvs.length ≤ 100 ∧ lw.length ≤ 100 ∧ Tb K H ∧
  (¬ deedW kvs wd x = "" → ∀ H', FrT K [] H H' → E (.ref (errOf K wd)) none H') ∧
  (deedW kvs wd x = "" → ∀ (dl' : Addr) (H' : Hp), (dl' = dl ∨ H dl' = none) → WiAt K H' pw dh dl' W (deedK kvs wd x) (deedL kvs lw wd x) ms lk → FrT K [pw, dh] H H' → Q .non H')
theorem m_Wire_hang (T : Txt P w K mg base) : MetX (L2.CX P w) P w K mg base 3 (WC K) "hang" (spWd K "hang") := by
  obtain ⟨fd, F⟩ := T.t.def_ 6 (d := d_Wire_hang)
  refine ⟨_, fd, _, wcl T, He.meth_ok (T.t.fact 78 (f := .meth "Wire" "hang")), F.ok sc_Wire_hang (fun vs H Q E h => ?_) (fun cdv A outer s H vs Q E hr h => ?_), F.bindsN fun _ _ _ _ _ _ us hl => match us, hl with | [_, _], _ => rfl⟩
  · obtain ⟨pw, dh, dl, x, W, kvs, lw, ms, lk, rfl, _⟩ := h
    rfl
  · obtain ⟨pw, dh, dl, x, W, kvs, lw, ms, lk, rfl, wa, hx, hW, hkl, hll, ht, k1, k2⟩ := h
    have npd := wa.ne
    obtain ⟨⟨dx, h1⟩, h2, h3⟩ := wa
    have hu := hu_of hr
    refine ⟨_, (pss_cons (ps_expr (pe_cx (c_require_number T) hr (by decide) rfl pass0 (pa_cons (pe_fld (pv 0) (by rfl)) (pa_cons (pv 1) pa_nil))))
    (pss_cons (ps_if (pt_cmp (pc_din hu (pv 1) (pe_fld (pv 0) (by rfl))))
      (pss_one (ps_raise rfl (takes_of rfl rfl rfl rfl) (mk_There T)))
      pss_nil)
    (pss_one (ps_dput hu (pe_fld (pv 0) (by rfl)) (pv 1) pe_bl rfl)))), ?_⟩
    refine ⟨_, rfl, pw, _, dx, _, _, rfl, h1, wcl T, wn_width T, wl_width, _, rfl, W, x, rfl, hx, hW, ht, fun H1 f => ?_⟩
    have g1 := f.k _ _ h1 rfl (by simp)
    have g2 := f.k _ _ h2 rfl (by simp)
    have g3 := f.k _ _ h3 rfl (by simp)
    refine ⟨_, rfl, _, rfl, pw, _, dx, _, _, rfl, g1, wcl T, wn_hanging T, wl_hanging, dh, _, rfl, dg_has (.inl g3) x, _, rfl, ?_⟩
    rw [some_map_bl, get_has]
    refine iteB (fun c => ?_) (fun c => ?_)
    · have := k1 (by unfold deedW; rw [if_pos rfl, if_pos c]; decide +kernel) H1 f
      unfold errOf at this
      rw [if_pos rfl] at this
      exact this
    · have nh : ¬ hasK kvs x = true := by rw [c]; exact Bool.false_ne_true
      refine ⟨_, rfl, pw, _, dx, _, _, rfl, g1, wcl T, wn_hanging T, wl_hanging, _, rfl, dh, _, rfl, dp_put g3 (by omega) x false, ?_⟩
      refine k2 (by unfold deedW; rw [if_pos rfl, if_neg nh]) dl _ (.inl rfl) ?_ ((f.mono (by simp)).trans (((Frm.refl [pw, dh] H1).put (by simp)).toT (.cons g1 rfl (.cons g3 rfl .nil))))
      unfold deedK deedL
      rw [if_pos rfl, if_neg nh, if_neg (fun z => absurd z.1 (by decide +kernel))]
      refine ⟨⟨dx, by rw [upd_ne npd]; exact g1⟩, by rw [upd_ne (ne_of g2 g3 (by intro z; cases z))]; exact g2, upd_same⟩
theorem m_Wire_alarm (T : Txt P w K mg base) : MetX (L2.CX P w) P w K mg base 4 (WC K) "alarm" (spWd K "alarm") := by
  obtain ⟨fd, F⟩ := T.t.def_ 8 (d := d_Wire_alarm)
  refine ⟨_, fd, _, wcl T, He.meth_ok (T.t.fact 80 (f := .meth "Wire" "alarm")), F.ok sc_Wire_alarm (fun vs H Q E h => ?_) (fun cdv A outer s H vs Q E hr h => ?_), F.bindsN fun _ _ _ _ _ _ us hl => match us, hl with | [_, _], _ => rfl⟩
  · obtain ⟨pw, dh, dl, x, W, kvs, lw, ms, lk, rfl, _⟩ := h
    rfl
  · obtain ⟨pw, dh, dl, x, W, kvs, lw, ms, lk, rfl, wa, hx, hW, hkl, hll, ht, k1, k2⟩ := h
    have npd := wa.ne
    have wa' := wa
    obtain ⟨⟨dx, h1⟩, h2, h3⟩ := wa
    have hu := hu_of hr
    have nw : ¬ ("alarm" : Str) = "hang" := by decide +kernel
    have no : ¬ ("alarm" : Str) = "off" := by decide +kernel
    refine ⟨_, (pss_cons (ps_expr (pe_mx (m_Wire__require_hanging T) hr (by decide) (pv 0) (passes_call (takes_of rfl rfl rfl rfl) (fun _ _ _ _ h => h)) (pa_cons (pv 1) pa_nil)))
    (pss_one (ps_dput hu (pe_fld (pv 0) (by rfl)) (pv 1) pe_bl rfl))), ?_⟩
    refine ⟨_, rfl, pw, dx, _, rfl, h1, wx_reqh, _, rfl, pw, dh, dl, x, W, kvs, lw, ms, lk, rfl, wa', hx, hW, ht, fun c H1 f => ?_, fun c H1 f => ?_⟩
    · have nh : ¬ hasK kvs x = true := by rw [c]; exact Bool.false_ne_true
      have := k1 (by unfold deedW; rw [if_neg nw, if_neg nh]; decide +kernel) H1 f
      unfold errOf at this
      rw [if_neg nw] at this
      exact this
    · have g1 := f.k _ _ h1 rfl (by simp)
      have g2 := f.k _ _ h2 rfl (by simp)
      have g3 := f.k _ _ h3 rfl (by simp)
      refine ⟨_, rfl, pw, _, dx, _, _, rfl, g1, wcl T, wn_hanging T, wl_hanging, _, rfl, dh, _, rfl, dp_put g3 (by omega) x true, ?_⟩
      refine k2 (by unfold deedW; rw [if_neg nw, if_pos c]) dl _ (.inl rfl) ?_ ((f.mono (by simp)).trans (((Frm.refl [pw, dh] H1).put (by simp)).toT (.cons g1 rfl (.cons g3 rfl .nil))))
      unfold deedK deedL
      rw [if_neg nw, if_pos c, if_neg no, if_neg (fun z => no z.1), decide_eq_true rfl]
      exact ⟨⟨dx, by rw [upd_ne npd]; exact g1⟩, by rw [upd_ne (ne_of g2 g3 (by intro z; cases z))]; exact g2, upd_same⟩
theorem m_Wire_calm (T : Txt P w K mg base) : MetX (L2.CX P w) P w K mg base 4 (WC K) "calm" (spWd K "calm") := by
  obtain ⟨fd, F⟩ := T.t.def_ 9 (d := d_Wire_calm)
  refine ⟨_, fd, _, wcl T, He.meth_ok (T.t.fact 81 (f := .meth "Wire" "calm")), F.ok sc_Wire_calm (fun vs H Q E h => ?_) (fun cdv A outer s H vs Q E hr h => ?_), F.bindsN fun _ _ _ _ _ _ us hl => match us, hl with | [_, _], _ => rfl⟩
  · obtain ⟨pw, dh, dl, x, W, kvs, lw, ms, lk, rfl, _⟩ := h
    rfl
  · obtain ⟨pw, dh, dl, x, W, kvs, lw, ms, lk, rfl, wa, hx, hW, hkl, hll, ht, k1, k2⟩ := h
    have npd := wa.ne
    have wa' := wa
    obtain ⟨⟨dx, h1⟩, h2, h3⟩ := wa
    have hu := hu_of hr
    have nw : ¬ ("calm" : Str) = "hang" := by decide +kernel
    have no : ¬ ("calm" : Str) = "off" := by decide +kernel
    have na : ¬ ("calm" : Str) = "alarm" := by decide +kernel
    refine ⟨_, (pss_cons (ps_expr (pe_mx (m_Wire__require_hanging T) hr (by decide) (pv 0) (passes_call (takes_of rfl rfl rfl rfl) (fun _ _ _ _ h => h)) (pa_cons (pv 1) pa_nil)))
    (pss_one (ps_dput hu (pe_fld (pv 0) (by rfl)) (pv 1) pe_bl rfl))), ?_⟩
    refine ⟨_, rfl, pw, dx, _, rfl, h1, wx_reqh, _, rfl, pw, dh, dl, x, W, kvs, lw, ms, lk, rfl, wa', hx, hW, ht, fun c H1 f => ?_, fun c H1 f => ?_⟩
    · have nh : ¬ hasK kvs x = true := by rw [c]; exact Bool.false_ne_true
      have := k1 (by unfold deedW; rw [if_neg nw, if_neg nh]; decide +kernel) H1 f
      unfold errOf at this
      rw [if_neg nw] at this
      exact this
    · have g1 := f.k _ _ h1 rfl (by simp)
      have g2 := f.k _ _ h2 rfl (by simp)
      have g3 := f.k _ _ h3 rfl (by simp)
      refine ⟨_, rfl, pw, _, dx, _, _, rfl, g1, wcl T, wn_hanging T, wl_hanging, _, rfl, dh, _, rfl, dp_put g3 (by omega) x false, ?_⟩
      refine k2 (by unfold deedW; rw [if_neg nw, if_pos c]) dl _ (.inl rfl) ?_ ((f.mono (by simp)).trans (((Frm.refl [pw, dh] H1).put (by simp)).toT (.cons g1 rfl (.cons g3 rfl .nil))))
      unfold deedK deedL
      rw [if_neg nw, if_pos c, if_neg no, if_neg (fun z => no z.1), decide_eq_false na]
      exact ⟨⟨dx, by rw [upd_ne npd]; exact g1⟩, by rw [upd_ne (ne_of g2 g3 (by intro z; cases z))]; exact g2, upd_same⟩
theorem m_Wire_off (T : Txt P w K mg base) : MetX (L2.CX P w) P w K mg base 4 (WC K) "off" (spWd K "off") := by
  obtain ⟨fd, F⟩ := T.t.def_ 7 (d := d_Wire_off)
  refine ⟨_, fd, _, wcl T, He.meth_ok (T.t.fact 79 (f := .meth "Wire" "off")), F.ok sc_Wire_off (fun vs H Q E h => ?_) (fun cdv A outer s H vs Q E hr h => ?_), F.bindsN fun _ _ _ _ _ _ us hl => match us, hl with | [_, _], _ => rfl⟩
  · obtain ⟨pw, dh, dl, x, W, kvs, lw, ms, lk, rfl, _⟩ := h
    rfl
  · obtain ⟨pw, dh, dl, x, W, kvs, lw, ms, lk, rfl, wa, hx, hW, hkl, hll, ht, k1, k2⟩ := h
    have npd := wa.ne
    have wa' := wa
    obtain ⟨⟨dx, h1⟩, h2, h3⟩ := wa
    have hu := hu_of hr
    have nw : ¬ ("off" : Str) = "hang" := by decide +kernel
    refine ⟨_, (pss_cons (ps_expr (pe_mx (m_Wire__require_hanging T) hr (by decide) (pv 0) (passes_call (takes_of rfl rfl rfl rfl) (fun _ _ _ _ h => h)) (pa_cons (pv 1) pa_nil)))
    (pss_cons (ps_ddel (pe_fld (pv 0) (by rfl)) (pv 1))
    (pss_one (ps_fld (pv 0) (pe_lc (own := [("other", 2)]) (g := gName 2) rfl sc_Wire_off.nd (pi_list (pe_fld (pv 0) (by rfl))) (blkOk_by (N := ["self", "number", "other"]) (sc := defScope s_Wire_off) (own := [("other", 2)]) (by decide +kernel)) (fun _ _ _ _ _ => pg_name (i := 2) sc_Wire_off.nd rfl (Or.inl rfl)) (fun _ _ _ _ _ => pts_one (by exact (pt_cmpR op_ne (pv 2) (pv 1) (nomark _)))) (fun _ _ _ _ _ => by exact (pv 2))) rfl)))), ?_⟩
    refine ⟨_, rfl, pw, dx, _, rfl, h1, wx_reqh, _, rfl, pw, dh, dl, x, W, kvs, lw, ms, lk, rfl, wa', hx, hW, ht, fun c H1 f => ?_, fun c H1 f => ?_⟩
    · have nh : ¬ hasK kvs x = true := by rw [c]; exact Bool.false_ne_true
      have := k1 (by unfold deedW; rw [if_neg nw, if_neg nh]; decide +kernel) H1 f
      unfold errOf at this
      rw [if_neg nw] at this
      exact this
    · have g1 := f.k _ _ h1 rfl (by simp)
      have g2 := f.k _ _ h2 rfl (by simp)
      have g3 := f.k _ _ h3 rfl (by simp)
      obtain ⟨b, hb⟩ := has_get c
      have ev : (valV (kv kvs) (.inr x : Key)).isSome = true := by rw [val_kv, hb]; rfl
      refine ⟨_, rfl, pw, _, dx, _, _, rfl, g1, wcl T, wn_hanging T, wl_hanging, _, rfl, dh, kv kvs, .inr x, rfl, g3, rfl, ev, ?_⟩
      rw [drop_kv]
      have nld : dl ≠ dh := ne_of g2 g3 (by intro z; cases z)
      have g1' : (upd H1 dh (.dK (kv (dropB kvs x)))) pw = some (.ins (WC K) dx (wfl W dh dl ms lk)) := by rw [upd_ne npd]; exact g1
      have g2' : (upd H1 dh (.dK (kv (dropB kvs x)))) dl = some (.lst (lw.map V.str)) := by rw [upd_ne nld]; exact g2
      refine ⟨_, rfl, pw, _, dx, _, _, rfl, g1', wcl T, wn_listening T, wl_listening, dl, rfl, ⟨_, SqL.of g2'⟩, fun D hD => ?_⟩
      have npD : pw ≠ D := ne_of_none g1' hD
      have nlD : dl ≠ D := ne_of_none g2' hD
      have ndD : dh ≠ D := ne_of_none upd_same hD
      refine lc_list (K := K) (a := dl) (xs := lw.map V.str) (fun i H' => H' = upd (upd H1 dh (.dK (kv (dropB kvs x)))) D (.lst (((lw.take i).filter (fun y => decide (y ≠ x))).map V.str))) rfl (fun i H' _ e => by rw [e]; exact SqL.of (by rw [upd_ne nlD]; exact g2')) ?_ ?_
      · rintro i y H3 hi e
        subst e
        obtain ⟨z, hz, rfl⟩ := at_map hi
        refine ⟨rfl, _, rfl, _, rfl, rfl, _, rfl, ?_⟩
        rw [str_dec]
        have e1 : (!decide (z = x)) = decide (z ≠ x) := by
          by_cases q : z = x
          · rw [decide_eq_true q, decide_eq_false (fun n => n q)]; rfl
          · rw [decide_eq_false q, decide_eq_true q]; rfl
        rw [e1]
        refine iteB (fun cb => ?_) (fun cb => ?_)
        · refine ⟨_, rfl, _, upd_same, ?_, ?_⟩
          · rw [List.length_map]
            have := List.length_filter_le (fun y => decide (y ≠ x)) (lw.take i)
            rw [List.length_take] at this
            exact small1000 (by omega)
          · show _ = _
            rw [upd_upd, filter_step _ hz, if_pos cb, List.map_append]
            rfl
        · show _ = _
          rw [filter_step _ hz, if_neg (by rw [cb]; exact Bool.false_ne_true), List.append_nil]
      · rintro H3 rfl
        rw [List.length_map, List.take_length]
        refine ⟨_, rfl, pw, _, dx, _, rfl, by rw [upd_ne npD]; exact g1', wcl T, wn_listening T, wl_len, ?_⟩
        rw [wp_listening]
        have hD' : H1 D = none := upd_back hD
        refine k2 (by unfold deedW; rw [if_neg nw, if_pos c]) D _ (.inr (f.b _ hD')) ?_ ((f.mono (by simp)).trans (((((Frm.refl [pw, dh] H1).put (by simp)).new hD').put (by simp)).toT (.cons g1 rfl (.cons g3 rfl .nil))))
        unfold deedK deedL
        rw [if_neg nw, if_pos c, if_pos rfl, if_pos ⟨rfl, c⟩]
        exact ⟨⟨dx, upd_same⟩, by rw [upd_ne npD.symm, upd_same], by rw [upd_ne npd.symm, upd_ne ndD, upd_same]⟩
end
end B

set_option Elab.async false
set_option linter.all false
set_option maxRecDepth 100000
set_option maxHeartbeats 4000000
namespace B
open PySem PySem.Spec PyProof.Rows L2
open PySem.W (kdv_obj kdv_fn kdv_tup)
/-! ### a lambda, all of whose parameters have written defaults, handed to a def -/
/-- what a lambda's making leaves: fr: all but the maker's table stands; ob: its function object; ext: the tuple of defaults -/
structure Made (X : Cx) (P : Addr) (q : Str) (params : Arguments) (body : Expr) (scope : Scope) (dV : Value) (ext : List (Addr × Obj)) (H H1 : Hp) (s1 : Shared) (f c1 : Addr) : Prop where
  fr : ∀ b o, H b = some o → b ≠ P → H1 b = some o
  bk : ∀ b, H1 b = none → H b = none
  tb : LamX.TabS H1 P q
  ob : ∃ doc pm ctv, s1.heap.get? f = some (kdv_obj "<lambda>" q params (.expr body) scope (cloFrom X.env.cells scope.names []) dV doc pm c1 ctv)
  fn : H1 f = none
  ff : f ∉ frs X.stack
  co : H1 c1 = some (LamX.CodeO c1 q)
  ex : ∀ p ∈ ext, s1.heap.get? p.1 = some p.2 ∧ H1 p.1 = none ∧ p.1 ∉ frs X.stack
section
variable {X : Cx} {pins : List (Addr × Obj)} {σ : L2.St} {H : Hp} {s : Shared}
theorem no_frame (I : Inv X pins σ H s) {b : Addr} (hb : s.heap.objs.size ≤ b) : b ∉ frs X.stack := fun z => by
  rcases List.mem_cons.mp (I.stkSub b z) with e | e
  · subst e
    exact absurd I.lt (Nat.not_lt.mpr hb)
  · exact I.nofs hb e
theorem made_tail {q : Str} {params : Arguments} {body : Expr} {scope : Scope} {pos : Pos} {c P : Addr} {dV : Value} {ext : List (Addr × Obj)} {E : Value → Shared → Prop} {Q : Value → Shared → Prop} (I : Inv X pins σ H s) (TB : LamX.TabB X.base X.mg c P) (hcode : X.env.code = .ref c)
    (hT : LamX.TabS H P q) (hfree : ∀ y ∈ scope.names, y.2 = .free → ∃ c, X.env.cells.lookup y.1 = some c) (hext : ∀ p ∈ ext, s.heap.get? p.1 = some p.2 ∧ H p.1 = none ∧ p.1 ∉ frs X.stack)
    (h : ∀ f c1 H1 s1, Inv X pins σ H1 s1 → Made X P q params body scope dV ext H H1 s1 f c1 → Q (.ref f) s1) :
    wpAny (model X.prog X.w) X.A (PySem.makeTail "<lambda>" q params (.expr body) scope X.env dV .none none pos pos.line) Q E s := by
  obtain ⟨ps, hP, trip, among⟩ := hT
  have heapP : s.heap.get? P = some { cls := .none, data := .fields ps } := I.hok P _ hP
  have glob : s.heap.Ns mainGlobals X.mg := I.mod.glob.keeps I.bk
  have bat : s.heap.BuiltinsAt X.mg P := TB.bm.keeps I.bk
  have hd : PySem.W.CodeHd s.heap c P := TB.code.keeps I.bk
  cases found : codeAmong pos ps.toList with
  | none =>
    refine PySem.W.kdv_makeTail (closure_ok hfree) I.ok.glob glob hcode hd heapP trip found TB.gP bat ?_
    intro c1 ctv doc h1 tk but ge lt rec_ tab
    obtain ⟨c2, oc, vs, t, eq2, got, dat, nth⟩ := rec_
    injection eq2 with eq2
    subst eq2
    have grow : s.heap.objs.size ≤ h1.objs.size := Nat.le_trans ge (Nat.le_of_lt lt)
    have freeC : H c1 = none := I.hok.fresh ge
    have neP : P ≠ c1 := ne_of_none hP freeC
    have old : ∀ b o, b ≠ P → s.heap.get? b = some o → (h1.push (kdv_obj "<lambda>" q params (.expr body) scope (cloFrom X.env.cells scope.names []) dV doc ((X.mg "__name__").getD .none) c1 ctv)).get? b = some o :=
      fun b o nb e => Heap.get?_push_of_some _ (but b o nb e)
    have I1 := LamX.inv_table (t' := tk) (more := #[rawInt pos.line, rawInt pos.col, .ref c1]) (q := q) I hP old (Heap.get?_push_of_some _ tab) ge ⟨oc, vs, t, Heap.get?_push_of_some _ got, dat, nth⟩
    have extP : ∀ p ∈ ext, p.1 ≠ P := fun p hp e => by
      have := (hext p hp).2.1
      rw [e, hP] at this
      cases this
    refine h h1.objs.size c1 _ _ I1 ⟨fun b o e nb => ?_, fun b e => upd_back (upd_back e), ⟨ps ++ #[rawInt pos.line, rawInt pos.col, .ref c1], ?_, ?_, fun pos2 cv hcv => ?_⟩, ⟨doc, _, ctv, Heap.get?_push_size _ rfl⟩, ?_, no_frame I grow, upd_same, fun p hp => ⟨old _ _ (extP p hp) (hext p hp).1, ?_, (hext p hp).2.2⟩⟩
    · rw [upd_ne (ne_of_none e freeC), upd_ne nb]
      exact e
    · rw [upd_ne neP, upd_same]
    · have e : (ps ++ #[rawInt pos.line, rawInt pos.col, .ref c1]).toList = ps.toList ++ [rawInt pos.line, rawInt pos.col, .ref c1] := by simp
      rw [e]
      exact PySem.TriplesOk_snoc _ _ _ _ trip
    · have e : (ps ++ #[rawInt pos.line, rawInt pos.col, .ref c1]).toList = ps.toList ++ [rawInt pos.line, rawInt pos.col, .ref c1] := by simp
      rw [e] at hcv
      rcases LamX.among_app _ trip hcv with z | z
      · obtain ⟨c0, e0, w0⟩ := among pos2 cv z
        refine ⟨c0, e0, ?_⟩
        rw [upd_ne (ne_of_none w0 freeC), upd_ne (fun y => ?_)]
        · exact w0
        · rw [y, hP] at w0
          exact LamX.codeO_ne ps (Option.some.inj w0).symm
      · exact ⟨c1, z, upd_same⟩
    · have n1 : h1.objs.size ≠ c1 := Nat.ne_of_gt lt
      have n2 : h1.objs.size ≠ P := Nat.ne_of_gt (Nat.lt_of_lt_of_le (Heap.lt_size heapP) grow)
      rw [upd_ne n1, upd_ne n2]
      exact I.hok.fresh grow
    · have n1 : p.1 ≠ c1 := Nat.ne_of_lt (Nat.lt_of_lt_of_le (Heap.lt_size (hext p hp).1) ge)
      rw [upd_ne n1, upd_ne (extP p hp)]
      exact (hext p hp).2.1
  | some cv =>
    obtain ⟨c1, e1, w1⟩ := among pos cv found
    subst e1
    refine PySem.W.kdv_makeTailHit (closure_ok hfree) I.ok.glob glob hcode hd heapP trip found bat ?_
    intro ctv doc h1 tk keep grow
    have I1 : Inv X pins σ H { s with heap := h1.push (kdv_obj "<lambda>" q params (.expr body) scope (cloFrom X.env.cells scope.names []) dV doc ((X.mg "__name__").getD .none) c1 ctv), toks := tk } :=
      I.kept fun b o e => Heap.get?_push_of_some _ (keep b o e)
    exact h h1.objs.size c1 H _ I1 ⟨fun b o e _ => e, fun b e => e, ⟨ps, hP, trip, among⟩, ⟨doc, _, ctv, Heap.get?_push_size _ rfl⟩, I.hok.fresh grow, no_frame I grow, w1,
      fun p hp => ⟨Heap.get?_push_of_some _ (keep _ _ (hext p hp).1), (hext p hp).2⟩⟩
/-- lambda: .. -/
theorem made0 {params : Arguments} {body : Expr} {scope : Scope} {pos : Pos} {c P : Addr} {E : Value → Shared → Prop} {Q : Value → Shared → Prop} (I : Inv X pins σ H s) (TB : LamX.TabB X.base X.mg c P) (hcode : X.env.code = .ref c)
    (hT : LamX.TabS H P (X.env.qual ++ "<lambda>")) (hfree : ∀ y ∈ scope.names, y.2 = .free → ∃ c, X.env.cells.lookup y.1 = some c) (h0 : params.defaults = []) (h1 : params.kw_defaults = [])
    (h : ∀ f c1 H1 s1, Inv X pins σ H1 s1 → Made X P (X.env.qual ++ "<lambda>") params body scope .none [] H H1 s1 f c1 → Q (.ref f) s1) :
    wpAny (model X.prog X.w) X.A (eval (.Lambda params body scope pos) X.env) Q E s := by
  have e : defaultsOf params X.env = ([], []) := by
    rw [defaultsOf_eq, h0, h1]
    rfl
  refine PySem.W.kla_eval e ?_
  rw [makeFunction_eq]
  simp only [List.zip_nil_right, List.filterMap_nil, List.isEmpty_nil, if_true, pure_bind]
  exact made_tail I TB hcode hT hfree (fun _ hp => absurd hp (by simp)) h
/-- lambda x=i: .. -/
theorem made1 {params : Arguments} {body : Expr} {scope : Scope} {pos dp : Pos} {i : Int} {j : Nat} {c P : Addr} {E : Value → Shared → Prop} {Q : Value → Shared → Prop} (I : Inv X pins σ H s) (TB : LamX.TabB X.base X.mg c P) (hcode : X.env.code = .ref c)
    (hT : LamX.TabS H P (X.env.qual ++ "<lambda>")) (hfree : ∀ y ∈ scope.names, y.2 = .free → ∃ c, X.env.cells.lookup y.1 = some c) (h0 : params.defaults = [.Constant (.int i) j dp]) (h1 : params.kw_defaults = [])
    (h : ∀ f c1 t0 tk H1 s1, Inv X pins σ H1 s1 → Made X P (X.env.qual ++ "<lambda>") params body scope (.ref t0) [(t0, kdv_tup [.int i tk])] H H1 s1 f c1 → Q (.ref f) s1) :
    wpAny (model X.prog X.w) X.A (eval (.Lambda params body scope pos) X.env) Q E s := by
  refine PySem.W.kdv_lam (by rw [h0]; rfl) h1 ?_
  rw [h0]
  refine PySem.W.kdv_all1 (wpAny_Constant_int (PySem.W.kdv_all0 ?_))
  rw [makeFunction_eq]
  simp only [List.zip_nil_right, List.filterMap_nil, List.isEmpty_nil, List.isEmpty_cons, if_true, pure_bind, Bool.false_eq_true, if_false]
  refine wpAny_bind (wpAny_newTextTuple ?_)
  have I1 := I.tok (s.toks + 1)
  have big : s.heap.objs.size ≤ s.heap.objs.size := Nat.le_refl _
  have I2 : Inv X pins σ H { s with heap := s.heap.push (kdv_tup [.int i s.toks]), toks := s.toks + 1 } := I.kept fun b o e => Heap.get?_push_of_some _ e
  refine made_tail I2 TB hcode hT hfree (ext := [(s.heap.objs.size, kdv_tup [.int i s.toks])]) (fun p hp => ?_) fun f c1 H1 s1 J M => h f c1 _ _ H1 s1 J M
  rw [List.mem_singleton.mp hp]
  exact ⟨Heap.get?_push_size _ rfl, I.hok.fresh big, no_frame I big⟩
end
end B

set_option Elab.async false
set_option linter.all false
set_option maxRecDepth 100000
set_option maxHeartbeats 4000000
namespace B
open PySem PySem.Spec PyProof.Rows L2
open PySem.W (kdv_obj kdv_fn kdv_tup)
/-- the lambda's names: none a cell; its own ones are none of the maker's -/
structure LamP (N : List Str) (sc scope : Scope) : Prop where
  kind : scope.kind = .function
  co : scope.isCoroutine = false
  gen : scope.isGenerator = false
  cell : ∀ y ∈ scope.names, y.2 ≠ .cell
  own : ∀ y ∈ scope.names, y.2 = .local → y.1 ∉ N
  free : ∀ y ∈ scope.names, y.2 = .free → sc.names.lookup y.1 = some .cell ∨ sc.names.lookup y.1 = some .free
def lamPB (N : List Str) (sc scope : Scope) : Bool :=
  (match scope.kind with | .function => true | _ => false) && (!scope.isCoroutine && (!scope.isGenerator && scope.names.all fun y => match y.2 with
    | .cell => false
    | .local => decide (y.1 ∉ N)
    | .free => (match sc.names.lookup y.1 with | some .cell => true | some .free => true | _ => false)
    | _ => true))
theorem lamP_by {N : List Str} {sc scope : Scope} (h : lamPB N sc scope = true) : LamP N sc scope := by
  obtain ⟨h1, h⟩ := He.ba h
  obtain ⟨h2, h⟩ := He.ba h
  obtain ⟨h3, h4⟩ := He.ba h
  have q := List.all_eq_true.mp h4
  refine ⟨?_, by simpa using h2, by simpa using h3, fun y hy e => ?_, fun y hy e => ?_, fun y hy e => ?_⟩
  · split at h1
    · assumption
    · cases h1
  · have := q y hy
    rw [e] at this
    cases this
  · have := q y hy
    rw [e] at this
    exact of_decide_eq_true this
  · have := q y hy
    rw [e] at this
    dsimp only at this
    split at this
    · exact .inl (by assumption)
    · exact .inr (by assumption)
    · cases this
section
variable {X : Cx} {pins : List (Addr × Obj)} {σ : L2.St} {H HZ : Hp} {s s2 : Shared}
theorem LamP.has {scope : Scope} (L : LamP X.N X.env.scope scope) (ok : X.Ok) : ∀ y ∈ scope.names, y.2 = .free → ∃ c, X.env.cells.lookup y.1 = some c := fun y hy e =>
  (L.free y hy e).elim (fun z => ok.has _ (.inl z)) (fun z => ok.has _ (.inr z))
theorem lam_enter {A : Around} {outer : List Env} {E : XK} {scope : Scope} {f c1 : Addr} {h2 : Heap} {tk : Nat} {m : Str → Option Value} (I : Inv X pins σ H s) (L : LamP X.N X.env.scope scope) (e0 : Env0 X.prog X.w X.K X.mg X.base A outer s2 HZ) (calm : A.handled = none)
    (un : Un (frs X.stack) [] H HZ s.heap s2.heap) (ns : h2.Ns s2.heap.objs.size m) (kp : ∀ b o, s2.heap.get? b = some o → h2.get? b = some o) :
    Inv (LamX.lamCx X A outer s2 HZ E scope f c1) [] σ HZ { s2 with heap := h2, toks := tk } := by
  have hfree := L.has I.ok
  -- a cell of the lambda is the maker's
  have up : ∀ {y : Str} {c : Addr}, (cloFrom X.env.cells scope.names []).lookup y = some c → X.env.cells.lookup y = some c := by
    intro y c e
    rcases cloFrom_mem (PySem.mem_of_lookup e) with z | ⟨z1, z2⟩
    · exact absurd z (by simp)
    · obtain ⟨d, hd⟩ := hfree _ z1 rfl
      have hd' : X.env.cells.lookup y = some d := hd
      rw [hd'] at z2
      have z3 : c = d := z2
      rw [z3]
      exact hd'
  have down : ∀ {y : Str}, scope.names.lookup y = some .free → ∃ c, (cloFrom X.env.cells scope.names []).lookup y = some c := by
    intro y e
    have mem : (y, NameKind.free) ∈ scope.names := PySem.mem_of_lookup e
    exact mem_lookup (cloFrom_has (cells := X.env.cells) (acc := []) mem)
  have noEx : ∀ b : Addr, b ∉ (LamX.lamCx X A outer s2 HZ E scope f c1).ex := fun b z => absurd (show b ∈ ([] : List Addr) from z) (by simp)
  have cellUp : ∀ {c : Addr} {v : Option Value}, H c = none → s.heap.IsCell c v → h2.IsCell c v := by
    rintro c v n ⟨o, ho, hd⟩
    obtain ⟨sl, e⟩ := un.any ho n (by simp)
    exact ⟨_, kp _ _ e, hd⟩
  have okI : (LamX.lamCx X A outer s2 HZ E scope f c1).Ok := by
    refine ⟨e0.mod, L.kind, rfl, rfl, Nat.le_refl _, fun y z c e1 e2 => I.ok.inj y z c (up e1) (up e2), ?_, ?_, fun _ => calm, Around.frames_deeper e0.frames, .inr ⟨rfl, rfl⟩, fun b z => absurd z (noEx b), e0.bs, e0.bsz, fun b _ _ => noEx b, fun b z => absurd z (noEx b), e0.funs, e0.frf⟩
    · intro y hy
      have hy2 : scope.names.lookup y = some .cell ∨ scope.names.lookup y = some .free := hy
      rcases hy2 with z | z
      · exact absurd rfl (L.cell _ (PySem.mem_of_lookup z))
      · exact down z
    · intro y c z
      exact absurd (show false = true from z) Bool.false_ne_true
  refine ⟨okI, rfl, e0.bare, Un.kept kp, ⟨m, ns, ?_⟩, ?_, e0.hok.fresh (Nat.le_refl _), ?_, fun p hp => absurd (show p ∈ ([] : List (Addr × Obj)) ++ [] from hp) (by simp), e0.hok.kept kp, I.len⟩
  · intro i y v hN hσ hV
    have hV2 : Vis scope y := hV
    rcases hV2 with z | z | z
    · exact absurd (List.mem_of_getElem? hN) (L.own _ (PySem.mem_of_lookup z) rfl)
    · exact absurd rfl (L.cell _ (PySem.mem_of_lookup z))
    · obtain ⟨m0, _, look⟩ := I.loc
      have fr := L.free _ (PySem.mem_of_lookup z) rfl
      have vis : Vis X.env.scope y := fr.elim (fun q => .inr (.inl q)) (fun q => .inr (.inr q))
      obtain ⟨u, ru, lk⟩ := look i y v hN hσ vis
      obtain ⟨c2, hc2⟩ := down z
      refine ⟨u, ru, .inr ⟨.inr z, c2, hc2, ?_⟩⟩
      have hc3 := up hc2
      rcases lk with ⟨q, _⟩ | ⟨_, c3, hc4, isC⟩
      · have q2 : X.env.scope.names.lookup y = some .local := q
        rcases fr with q3 | q3
        · have q3' : X.env.scope.names.lookup y = some .cell := q3
          rw [q3'] at q2
          cases q2
        · have q3' : X.env.scope.names.lookup y = some .free := q3
          rw [q3'] at q2
          cases q2
      · rw [hc3] at hc4
        cases hc4
        exact cellUp (I.freeC y _ hc3) isC
  · intro y c e
    obtain ⟨v, isC⟩ := I.cell y c (up e)
    exact ⟨v, cellUp (I.freeC y c (up e)) isC⟩
  · intro y c e
    obtain ⟨v, o, ho, _⟩ := I.cell y c (up e)
    exact un.free c o ho (I.freeC y c (up e)) (by simp)
/-- a(), a the parameter of the def at g that got the lambda -/
theorem pe_turn {CXg : CXT} {Eg : XK} {Ng : List Str} {qg : Str} {sg : Scope} {g f c1 P : Addr} {cdg dV : Value} {params : Arguments} {body : Expr} {scope : Scope} {k i : Nat} {a : Str} {pn : List (Addr × Obj)} {xe : Value → Shared → Prop} {W : WX} {tb : XK → TE} {p1 p2 : Pos} {ext : List (Addr × Obj)} {binds : List (Str × Value)} {H0 : Hp}
    (I : Inv X pins σ H s) (L : LamP X.N X.env.scope scope) (M : Made X P (X.env.qual ++ "<lambda>") params body scope dV ext H0 H s f c1)
    (bnd : ∀ (s' : Shared) (cl : List (Str × Addr)) (doc pm cv ctv : Value), (∀ p ∈ ext, s'.heap.get? p.1 = some p.2) → BindsTo s' (kdv_fn "<lambda>" (X.env.qual ++ "<lambda>") params (.expr body) scope cl dV doc pm cv ctv) ⟨[], []⟩ binds)
    (loc : ∀ y ∈ binds, scope.names.lookup y.1 = some .local)
    (tk : Takes ((cxOf CXg X.prog X.w X.K X.mg X.base Ng qg sg g cdg X.A X.stack s H Eg).tr pn xe) W) (hr : Room (k + 1) (X.A.deeper (envOfC qg sg s.heap.objs.size g cdg)))
    (hbody : ∀ (A : Around) (outer : List Env) (s : Shared) (H : Hp) (E : XK), Room k (A.deeper (LamX.lamEnv X scope s.heap.objs.size f c1)) → PE (LamX.lamCx X A outer s H E scope f c1) body (tb E))
    (hN : Ng[i]? = some a) (hv : Vis sg a) (hd : (a == ("__debug__" : Str)) = false := by decide) (hcd : (a == ("__classdict__" : Str)) = false := by decide) :
    PE ((cxOf CXg X.prog X.w X.K X.mg X.base Ng qg sg g cdg X.A X.stack s H Eg).tr pn xe) (.Call (.Name a p1) [] [] p2)
      (fun σZ HZ Q => σZ[i]? = some (some (.ref f)) ∧ HZ c1 = some (LamX.CodeO c1 (X.env.qual ++ "<lambda>")) ∧ ∃ E : XK, (∀ cls d H', E cls d H' → W cls d σZ H') ∧ tb E σ HZ Q) := by
  refine ⟨fun pinsZ sZ σZ HZ Q IZ h => ?_⟩
  obtain ⟨at_, code, E, hW, rd⟩ := h
  have name := (pe_var (X := (cxOf CXg X.prog X.w X.K X.mg X.base Ng qg sg g cdg X.A X.stack s H Eg).tr pn xe) (pos := p1) (i := i) hN hv hd hcd).run pinsZ sZ σZ HZ (fun v H1 => v = .ref f ∧ H1 = HZ) IZ ⟨.ref f, at_, rfl, rfl⟩
  refine wpAny_Call_Name_kw (thn name fun u s1 hu => ?_)
  obtain ⟨v, H1, I1, r1, ev, eH⟩ := hu
  subst ev
  rw [eH] at I1
  have eu : u = Value.ref f := r1
  subst eu
  obtain ⟨doc, pm, ctv, ob⟩ := M.ob
  have un : Un (frs X.stack) [] H HZ s.heap s1.heap := I1.base
  have ob1 := un.keep f _ ob M.fn M.ff (by simp)
  refine PySem.W.callWith_F0 ⟨_, _, _, _, ob1⟩ ?_
  obtain ⟨⟨oc, vs, t, got, dat, nth⟩, _, _⟩ := I1.hok c1 _ code
  have inner : codeAny (model X.prog X.w) (X.A.deeper (envOfC qg sg s.heap.objs.size g cdg)) (.call (.ref f) ⟨[], []⟩) (CR (L2.CX X.prog X.w) (envOfC qg sg s.heap.objs.size g cdg :: X.stack) X.prog X.w HZ s1 Q E) s1 := by
    refine PySem.W.kla_callFunE hr.depth ob1 rfl L.co L.gen rfl ⟨c1, oc, vs, t, rfl, got, dat, nth⟩ ?_
    refine bnd s1 _ doc pm _ ctv (fun p hp => un.keep p.1 p.2 (M.ex p hp).1 (M.ex p hp).2.1 (M.ex p hp).2.2 (by simp)) _ _ _ _ ?_
    refine wpAny_newFunctionEnv L.cell loc ?_ L.kind
    intro h2 ns but
    refine ⟨I1.nolimit.fresh _ but, ?_⟩
    have kp : ∀ b o, s1.heap.get? b = some o → h2.get? b = some o := fun b o e => but.extBut b o (Nat.ne_of_lt (Heap.lt_size e)) (Heap.get?_push_of_some _ e)
    have J := lam_enter (E := E) (f := f) (c1 := c1) (tk := s1.toks + binds.length) I L I1.env0 hr.hd un ns kp
    show codeAny _ _ (.expr body (LamX.lamEnv X scope s1.heap.objs.size f c1)) _ _
    refine PySem.W.kla_codeExpr (wpAny_mono ((hbody _ _ s1 HZ E (hr.deeper _)).run [] _ _ HZ Q J rd) ?_ fun e s' z => z)
    rintro v s' ⟨w', H', J', rv, q⟩
    exact ⟨w', H', J'.os, J'.bare, J'.base, J'.hok, rv, q⟩
  refine wpAny_call (codeAny_mono inner ?_)
  intro r s' hq
  match r, hq with
  | .error e, hq => exact tk e s' (XE.of_call I1 (fun cls d H' z => hW cls d H' z) hq)
  | .ok (.ret u), hq => exact I1.after hq
  | .ok .next, hq => exact False.elim hq
  | .ok .brk, hq => exact False.elim hq
  | .ok .cont, hq => exact False.elim hq
end
end B

set_option Elab.async false
set_option linter.all false
set_option maxRecDepth 100000
set_option maxHeartbeats 4000000
namespace B
open PySem PySem.Spec PyProof.Rows L2
open PySem.W (kdv_obj kdv_fn kdv_tup)
/-! ### the word of a refusal -/
theorem pe_never {X : Cx} {e : Expr} : PE X e (fun _ _ _ => False) := ⟨fun _ _ _ _ _ _ h => h.elim⟩
/-- how many of a list's flat items are alike -/
def rCntV (K : PySem.W.Frag) : V → List V → Hp → VK → Prop := fun x xs H Q => ∃ (p : Addr) (ys : List V) (y : V), x = .ref p ∧ xs = [y] ∧ SqL K H p ys ∧ flatV y = true ∧ ys.all flatV = true ∧ Q (.int (ys.countP (fun z => eqV z y) : Nat)) H
theorem count_U {y : V} : ∀ {ys : List V} {us : List Value}, Vals ys us → ys.all flatV = true → us.countP (eqU y) = ys.countP (fun z => eqV z y)
  | _, _, .nil, _ => rfl
  | z :: r, u :: t, .cons ru rt, h => by
    rw [List.all_cons, Bool.and_eq_true] at h
    rw [List.countP_cons, List.countP_cons, count_U rt h.2, eqU_of ru h.1]
theorem mt_cntV {X : Cx} : MtR X "list.count" (rCntV X.K) := by
  intro pins s σ H x xs v us Q I rx rxs h
  obtain ⟨p, ys, y, rfl, rfl, hs, fy, fys, q⟩ := h
  cases rx
  obtain ⟨u, rfl, ru⟩ := rxs.one
  obtain ⟨its, rv, ⟨⟨cls, dd, data, sl⟩, n, ho, hc, hdn, hd⟩, hlen⟩ := I.list hs
  simp only at hc hd
  subst hc hd
  refine call_meets PySem.F.slot_list_count ⟨_, ho, rfl⟩ PySem.F.entry_list_count (PySem.F.args_list_count_2 _ _)
    (SeqAt.list_countAt p its.toArray n dd sl u (eqU y)) ⟨ho, fun z hz => mem_eqAt ru fy rv fys z (by simpa using hz), ?_⟩
  have ec : its.toArray.toList.countP (eqU y) = ys.countP (fun z => eqV z y) := count_U rv fys
  refine ⟨.int (ys.countP (fun z => eqV z y) : Nat), H, I.tok _, ⟨s.toks, ?_⟩, q⟩
  show Value.int ((its.toArray.toList.countP (eqU y) : Nat) : Int) s.toks = _
  rw [ec]
/-- isinstance(e, c), e the exception that the suite holds: whatever its class -/
def rIsX (K : PySem.W.Frag) (cls : Value) (d : Option Addr) (a : Addr) : List V → Hp → VK → Prop := fun xs H Q =>
  ∃ (D : Addr) (c : V) (cv : Value) (b : Bool), cls = .ref D ∧ d = none ∧ ExcC K D ∧ xs = [.ref a, c] ∧ (∀ u, RelV c u → u = cv) ∧ PySem.W.kitOne K (.ref D) cv = some b ∧ Q (.bl b) H
theorem call_isX {X : Cx} {a : Addr} {cls : Value} {d : Option Addr} {oe : Obj} {pn : List (Addr × Obj)} (hz : Zc cls d oe) (hf : ∃ vs, oe.data = .fields vs) : CallR (X.suite a ((a, oe) :: pn)) (.builtin "isinstance") (rIsX X.K cls d a) := by
  intro pins s σ H xs us Q I r h
  obtain ⟨D, c, cv, b, rfl, rfl, C, ex, h1, h2, q⟩ := h
  exact call_isE C hz hf pins s σ H xs us Q I r ⟨c, cv, b, ex, h1, h2, q⟩
/-- the fifteen answers, the n-th yes -/
def kindsV (n : Nat) : List V := (List.range 15).map fun i => V.bl (decide (i = n))
def wordsV : List Str := ["width", "number", "kind", "bit", "there", "not", "round", "over", "busy", "looks", "roster", "many", "plan", "step", "text"]
theorem kinds_count (n : Nat) (h : n < 15) : (kindsV n).countP (fun z => eqV z (.bl true)) = 1 := by
  have z : (List.range 15).all (fun n => (kindsV n).countP (fun z => eqV z (.bl true)) == 1) = true := by decide +kernel
  exact beq_iff_eq.mp (List.all_eq_true.mp z n (List.mem_range.mpr h))
theorem kinds_flat (n : Nat) : (kindsV n).all flatV = true := by
  unfold kindsV
  rw [List.all_map]
  exact List.all_eq_true.mpr fun _ _ => rfl
theorem kinds_at (n i : Nat) (h : i < 15) : (kindsV n)[i]? = some (.bl (decide (i = n))) := by
  unfold kindsV
  rw [List.getElem?_map, List.getElem?_range h]
  rfl
theorem kinds_none {n m : Nat} {z : V} (hn : n < 15) (hm : m < n) (h : (kindsV n)[m]? = some z) : eqV z (.bl true) = false := by
  rw [kinds_at n m (by omega)] at h
  have e := Option.some.inj h
  rw [← e, decide_eq_false (show ¬ m = n by omega)]
  rfl
/-- the class's word: the n-th of allErr, with no field -/
structure WordC (K : PySem.W.Frag) (cls : Value) (n : Nat) (wd : Str) : Prop where
  D : ∃ D, cls = .ref D ∧ ExcC K D ∧ (∀ i d, allErr[i]? = some d → PySem.W.kitOne K (.ref D) (.ref (He.ga K d)) = some (decide (i = n))) ∧ PySem.W.kitOne K (.ref D) (.type "ValueError") = some true ∧ PySem.W.exmOne K (.ref D) (.ref (He.ga K "BusError")) = some true
  lt : n < 15
  at_ : wordsV[n]? = some wd
  ne : inV (.str wd) [V.str "looks", V.str "step"] = false ∧ decide (V.str wd = V.str "text") = false
theorem PSs.imp {X : Cx} {st : List Stmt} {t t' : TS} (h : PSs X st t) (f : ∀ D σ H, t' D σ H → t D σ H) : PSs X st t' := ⟨fun pins s σ H D I q => h.run pins s σ H D I (f D σ H q)⟩
/-- what the except suite asks -/
def tSuite (K : PySem.W.Frag) (a : Addr) (cls : Value) (d : Option Addr) : TS := fun D σ H => d = none ∧ ∃ (n : Nat) (wd : Str) (v0 v2 v3 v4 : Option V), WordC K cls n wd ∧ σ = [v0, some (.ref a), v2, v3, v4] ∧ ∀ H3, Frm [] H H3 → D.rt (.str wd) H3
abbrev NW : List Str := ["_law_work", "_law_e", "_law_kinds", "_law_words", "_law_word_here"]
/-- what the def makes of the lambda that it got -/
def TWord (K : PySem.W.Frag) : (XK → Hp → VK → Prop) → Hp → VK → Prop := fun tl H Q =>
  tl (fun cls d H2 => d = none ∧ ∃ n wd, WordC K cls n wd ∧ ∀ H3, Frm [] H2 H3 → Q (.str wd) H3) H (fun _ H2 => Q (.str "") H2)
section
variable {X : Cx} {cdg : Value} {s : Shared} {H0 : Hp}
abbrev WX0 (X : Cx) (cdg : Value) (s : Shared) (H0 : Hp) : Cx := (cxOf CX0 X.prog X.w X.K X.mg X.base NW "_law_word" (defScope s_lword) (He.ga X.K "_law_word") cdg X.A X.stack s H0 E0)
/-- the suite's statements -/
def suiteOf : List Stmt → List Stmt
  | .Try _ (.ExceptHandler _ _ b _ :: _) _ _ _ :: _ => b
  | _ => []
@[elab_as_elim] theorem gen_top {H0 H : Hp} {p : Addr} {o : HO} {P : Hp → Prop} (fr : Frm [] H0 (upd H p o)) (k : ∀ H7, Frm [] H0 H7 → H7 p = some o → P H7) : P (upd H p o) := k _ fr upd_same
theorem word_suite (T : Txt X.prog X.w X.K X.mg X.base) (a : Addr) (oe : Obj) (cls : Value) (d : Option Addr) (pn : List (Addr × Obj)) (hz : Zc cls d oe) (hf : ∃ vs, oe.data = .fields vs) :
    PSs ((WX0 X cdg s H0).suite a ((a, oe) :: pn)) (suiteOf (defBody s_lword)) (tSuite X.K a cls d) := by
  refine PSs.imp (pss_cons (ps_set (i := 2) sc_lword.nd rfl (Or.inl rfl) (pe_lst (pa_cons (pe_callB (call_isX hz hf) (by rfl) (n_isinstance T) (by decide +kernel) (pa_cons (pv 1) (pa_cons (pe_glob (v := .ref _) rfl (g_BadWidth T) rfl) pa_nil))) (pa_cons (pe_callB (call_isX hz hf) (by rfl) (n_isinstance T) (by decide +kernel) (pa_cons (pv 1) (pa_cons (pe_glob (v := .ref _) rfl (g_BadNumber T) rfl) pa_nil))) (pa_cons (pe_callB (call_isX hz hf) (by rfl) (n_isinstance T) (by decide +kernel) (pa_cons (pv 1) (pa_cons (pe_glob (v := .ref _) rfl (g_BadKind T) rfl) pa_nil))) (pa_cons (pe_callB (call_isX hz hf) (by rfl) (n_isinstance T) (by decide +kernel) (pa_cons (pv 1) (pa_cons (pe_glob (v := .ref _) rfl (g_BadBit T) rfl) pa_nil))) pa_nil))))))
    (pss_cons (ps_set (i := 2) sc_lword.nd rfl (Or.inl rfl) (pe_op op_cat (pv 2) (pe_lst (pa_cons (pe_callB (call_isX hz hf) (by rfl) (n_isinstance T) (by decide +kernel) (pa_cons (pv 1) (pa_cons (pe_glob (v := .ref _) rfl (g_There T) rfl) pa_nil))) (pa_cons (pe_callB (call_isX hz hf) (by rfl) (n_isinstance T) (by decide +kernel) (pa_cons (pv 1) (pa_cons (pe_glob (v := .ref _) rfl (g_NotThere T) rfl) pa_nil))) (pa_cons (pe_callB (call_isX hz hf) (by rfl) (n_isinstance T) (by decide +kernel) (pa_cons (pv 1) (pa_cons (pe_glob (v := .ref _) rfl (g_NoRound T) rfl) pa_nil))) (pa_cons (pe_callB (call_isX hz hf) (by rfl) (n_isinstance T) (by decide +kernel) (pa_cons (pv 1) (pa_cons (pe_glob (v := .ref _) rfl (g_Over T) rfl) pa_nil))) pa_nil)))))))
    (pss_cons (ps_set (i := 2) sc_lword.nd rfl (Or.inl rfl) (pe_op op_cat (pv 2) (pe_lst (pa_cons (pe_callB (call_isX hz hf) (by rfl) (n_isinstance T) (by decide +kernel) (pa_cons (pv 1) (pa_cons (pe_glob (v := .ref _) rfl (g_Busy T) rfl) pa_nil))) (pa_cons (pe_callB (call_isX hz hf) (by rfl) (n_isinstance T) (by decide +kernel) (pa_cons (pv 1) (pa_cons (pe_glob (v := .ref _) rfl (g_BadLooks T) rfl) pa_nil))) (pa_cons (pe_callB (call_isX hz hf) (by rfl) (n_isinstance T) (by decide +kernel) (pa_cons (pv 1) (pa_cons (pe_glob (v := .ref _) rfl (g_BadRoster T) rfl) pa_nil))) pa_nil))))))
    (pss_cons (ps_set (i := 2) sc_lword.nd rfl (Or.inl rfl) (pe_op op_cat (pv 2) (pe_lst (pa_cons (pe_callB (call_isX hz hf) (by rfl) (n_isinstance T) (by decide +kernel) (pa_cons (pv 1) (pa_cons (pe_glob (v := .ref _) rfl (g_TooMany T) rfl) pa_nil))) (pa_cons (pe_callB (call_isX hz hf) (by rfl) (n_isinstance T) (by decide +kernel) (pa_cons (pv 1) (pa_cons (pe_glob (v := .ref _) rfl (g_BadPlan T) rfl) pa_nil))) (pa_cons (pe_callB (call_isX hz hf) (by rfl) (n_isinstance T) (by decide +kernel) (pa_cons (pv 1) (pa_cons (pe_glob (v := .ref _) rfl (g_BadStep T) rfl) pa_nil))) (pa_cons (pe_callB (call_isX hz hf) (by rfl) (n_isinstance T) (by decide +kernel) (pa_cons (pv 1) (pa_cons (pe_glob (v := .ref _) rfl (g_BadText T) rfl) pa_nil))) pa_nil)))))))
    (pss_cons (ps_if (PW.pt (pw_or (pt_cmpR op_ne (pe_bm PySem.F.plainAttrs_list PySem.F.slot_list_count PySem.F.type_list_count mt_cntV (pv 2) (pa_cons pe_bl pa_nil)) pe_int (nomark _)) (pw_or1 (pt_not (pt_val (pe_callB (call_isX hz hf) (by rfl) (n_isinstance T) (by decide +kernel) (pa_cons (pv 1) (pa_cons (pe_bltn (v := .ty "ValueError") (u := .type "ValueError") rfl (n_ValueError T) (by decide +kernel) rfl) pa_nil))))))))
      (pss_one (ps_ret pe_str))
      pss_nil)
    (pss_cons (ps_set (i := 3) sc_lword.nd rfl (Or.inl rfl) (pe_lst (pa_cons pe_str (pa_cons pe_str (pa_cons pe_str (pa_cons pe_str (pa_cons pe_str (pa_cons pe_str (pa_cons pe_str (pa_cons pe_str (pa_cons pe_str (pa_cons pe_str (pa_cons pe_str (pa_cons pe_str pa_nil))))))))))))))
    (pss_cons (ps_set (i := 4) sc_lword.nd rfl (Or.inl rfl) (pe_ix ix_list (pe_op op_cat (pv 3) (pe_lst (pa_cons pe_str (pa_cons pe_str (pa_cons pe_str pa_nil))))) (pe_bm PySem.F.plainAttrs_list PySem.F.slot_list_index PySem.F.type_list_index mt_index (pv 2) (pa_cons pe_bl pa_nil)) (fun _ _ => rfl)))
    (pss_cons (ps_if (pt_cmpR op_in_seq (pv 4) (pe_tup (pa_cons pe_str (pa_cons pe_str pa_nil))) rfl)
      (pss_one (ps_ret (pe_never)))
      pss_nil)
    (pss_one (ps_ret (pe_ifExp (pt_cmpR op_eq (pv 4) pe_str (nomark _)) (pe_never) (pv 4)))))))))))) ?_
  rintro D σ H ⟨rfl, n, wd, v0, v2, v3, v4, ⟨⟨C, rfl, hC, hk, hv, _⟩, hn, hat, hne1, hne2⟩, rfl, k⟩
  refine ⟨_, rfl, C, _, _, _, rfl, rfl, hC, rfl, fun u h => h, hk 0 _ rfl, ?_⟩
  refine ⟨_, rfl, C, _, _, _, rfl, rfl, hC, rfl, fun u h => h, hk 1 _ rfl, ?_⟩
  refine ⟨_, rfl, C, _, _, _, rfl, rfl, hC, rfl, fun u h => h, hk 2 _ rfl, ?_⟩
  refine ⟨_, rfl, C, _, _, _, rfl, rfl, hC, rfl, fun u h => h, hk 3 _ rfl, ?_⟩
  refine ⟨by show 4 ≤ sizeLine; decide, fun p1 h1 => ?_⟩
  refine ⟨_, rfl, ?_⟩
  refine ⟨_, rfl, C, _, _, _, rfl, rfl, hC, rfl, fun u h => h, hk 4 _ rfl, ?_⟩
  refine ⟨_, rfl, C, _, _, _, rfl, rfl, hC, rfl, fun u h => h, hk 5 _ rfl, ?_⟩
  refine ⟨_, rfl, C, _, _, _, rfl, rfl, hC, rfl, fun u h => h, hk 6 _ rfl, ?_⟩
  refine ⟨_, rfl, C, _, _, _, rfl, rfl, hC, rfl, fun u h => h, hk 7 _ rfl, ?_⟩
  refine ⟨by show 4 ≤ sizeLine; decide, fun p2 h2 => ?_⟩
  have n12 : p1 ≠ p2 := ne_of_none upd_same h2
  refine ⟨p1, p2, _, _, rfl, rfl, by rw [upd_ne n12]; exact upd_same, upd_same, by show 8 ≤ sizeLine; decide, fun p3 h3 => ?_⟩
  refine ⟨_, rfl, ?_⟩
  refine ⟨_, rfl, C, _, _, _, rfl, rfl, hC, rfl, fun u h => h, hk 8 _ rfl, ?_⟩
  refine ⟨_, rfl, C, _, _, _, rfl, rfl, hC, rfl, fun u h => h, hk 9 _ rfl, ?_⟩
  refine ⟨_, rfl, C, _, _, _, rfl, rfl, hC, rfl, fun u h => h, hk 10 _ rfl, ?_⟩
  refine ⟨by show 3 ≤ sizeLine; decide, fun p4 h4 => ?_⟩
  have n34 : p3 ≠ p4 := ne_of_none upd_same h4
  refine ⟨p3, p4, _, _, rfl, rfl, by rw [upd_ne n34]; exact upd_same, upd_same, by show 11 ≤ sizeLine; decide, fun p5 h5 => ?_⟩
  refine ⟨_, rfl, ?_⟩
  refine ⟨_, rfl, C, _, _, _, rfl, rfl, hC, rfl, fun u h => h, hk 11 _ rfl, ?_⟩
  refine ⟨_, rfl, C, _, _, _, rfl, rfl, hC, rfl, fun u h => h, hk 12 _ rfl, ?_⟩
  refine ⟨_, rfl, C, _, _, _, rfl, rfl, hC, rfl, fun u h => h, hk 13 _ rfl, ?_⟩
  refine ⟨_, rfl, C, _, _, _, rfl, rfl, hC, rfl, fun u h => h, hk 14 _ rfl, ?_⟩
  refine ⟨by show 4 ≤ sizeLine; decide, fun p6 h6 => ?_⟩
  have n56 : p5 ≠ p6 := ne_of_none upd_same h6
  refine ⟨p5, p6, _, _, rfl, rfl, by rw [upd_ne n56]; exact upd_same, upd_same, by show 15 ≤ sizeLine; decide, fun p7 h7 => ?_⟩
  -- what stood stands
  show tSeq _ _ D _ (upd _ p7 (.lst (kindsV n)))
  refine gen_top (((((((Frm.of (same_upd h1)).trans (Frm.of (same_upd h2))).trans (Frm.of (same_upd h3))).trans (Frm.of (same_upd h4))).trans (Frm.of (same_upd h5))).trans (Frm.of (same_upd h6))).trans (Frm.of (same_upd (o := .lst (kindsV n)) h7))) ?_
  clear h7 n56 h6 h5 n34 h4 h3 n12 h2 h1
  intro H7 fr at7
  refine ⟨_, rfl, .inl ⟨rfl, _, SqL.of at7⟩, p7, _, _, rfl, rfl, SqL.of at7, rfl, kinds_flat n, rfl, _, rfl, ?_⟩
  rw [kinds_count n hn]
  refine ⟨_, rfl, C, _, _, _, rfl, rfl, hC, rfl, fun u h => h, hv, true, rfl, ?_⟩
  refine ⟨by show 12 ≤ sizeLine; decide, fun p8 h8 => ?_⟩
  refine ⟨_, rfl, by show 3 ≤ sizeLine; decide, fun p9 h9 => ?_⟩
  have n89 : p8 ≠ p9 := ne_of_none upd_same h9
  refine ⟨p8, p9, _, _, rfl, rfl, by rw [upd_ne n89]; exact upd_same, upd_same, by show 15 ≤ sizeLine; decide, fun p10 h10 => ?_⟩
  have f10 : Frm [] H7 (upd (upd (upd H7 p8 (.lst [.str "width", .str "number", .str "kind", .str "bit", .str "there", .str "not", .str "round", .str "over", .str "busy", .str "looks", .str "roster", .str "many"])) p9 (.lst [.str "plan", .str "step", .str "text"])) p10 (.lst (wordsV.map V.str))) :=
    ((Frm.of (same_upd h8)).trans (Frm.of (same_upd h9))).trans (Frm.of (same_upd h10))
  have at7' := f10.k _ _ at7 rfl (by simp)
  refine ⟨_, rfl, .inl ⟨rfl, _, SqL.of at7'⟩, p7, _, _, n, _, rfl, rfl, SqL.of at7', rfl, kinds_flat n, kinds_at n n hn, by rw [decide_eq_true rfl]; rfl, fun m z hm hz => kinds_none hn hm hz, ?_⟩
  refine ⟨p10, wordsV.map V.str, _, .str wd, rfl, rfl, SqL.of upd_same, atI_nat (by rw [List.getElem?_map, hat]; rfl), ?_⟩
  refine ⟨_, rfl, by show 2 ≤ sizeLine; decide, fun p11 h11 => ?_⟩
  refine ⟨p11, _, rfl, .inr (SqT.of upd_same), rfl, rfl, _, rfl, ?_⟩
  rw [hne1]
  refine ⟨_, rfl, rfl, _, rfl, ?_⟩
  rw [hne2]
  exact ⟨_, rfl, k _ ((fr.trans f10).trans (Frm.of (same_upd h11)))⟩
theorem word_ok (T : Txt X.prog X.w X.K X.mg X.base) {f c1 : Addr} {q : Str} {tl : XK → Hp → VK → Prop} {Q : VK}
    (turn : ∀ (W : WX) (pn : List (Addr × Obj)) (xe : Value → Shared → Prop) (p1 p2 : Pos), Takes ((WX0 X cdg s H0).tr pn xe) W →
      PE ((WX0 X cdg s H0).tr pn xe) (.Call (.Name "_law_work" p1) [] [] p2) (fun σZ HZ Q => σZ[0]? = some (some (.ref f)) ∧ HZ c1 = some (LamX.CodeO c1 q) ∧ ∃ E : XK, (∀ cls d H', E cls d H' → W cls d σZ H') ∧ tl E HZ Q))
    (hc : H0 c1 = some (LamX.CodeO c1 q)) (h : TWord X.K tl H0 Q) :
    ∃ t, PSs (WX0 X cdg s H0) (defBody s_lword) t ∧ t { nx := fun _ H' => Q .non H', rt := Q } (L2.start NW [.ref f]) H0 := by
  refine ⟨_, pss_cons (ps_try_as (i := 1) (n := "_law_e") (ts := tSuite X.K) (Wout := fun _ _ _ _ => False) (tb := fun W D σ H => σ[0]? = some (some (.ref f)) ∧ H c1 = some (LamX.CodeO c1 q) ∧ ∃ E : XK, (∀ cls d H', E cls d H' → W cls d σ H') ∧ tl E H (fun _ H' => D.nx σ H')) rfl rfl sc_lword.nd rfl rfl ⟨rfl, by decide, .inl (g_BusError T)⟩ L2.takes0
    (fun W pn xe tk _ => pss_one (ps_expr (turn W pn xe _ _ tk))) (fun a oe cls d pn hz hf => word_suite T a oe cls d pn hz hf)) (pss_one (ps_ret pe_str)), ?_⟩
  refine ⟨rfl, hc, _, fun cls d H' z => ?_, h⟩
  obtain ⟨rfl, n, wd, C, k⟩ := z
  obtain ⟨D, rfl, _, _, _, hb⟩ := id C.D
  exact ⟨true, hb, fun _ a ha => ⟨rfl, n, wd, _, _, _, _, C, rfl, k⟩, fun z => nomatch z⟩
end
end B

set_option Elab.async false
set_option linter.all false
set_option maxRecDepth 100000
set_option maxHeartbeats 4000000
namespace B
open PySem PySem.Spec PyProof.Rows L2
open PySem.W (kdv_obj kdv_fn kdv_tup)
/-! ### word(lambda: ..) -/
section
variable {X : Cx} {pins : List (Addr × Obj)} {σ : L2.St} {H H1 : Hp} {s s1 : Shared}
theorem word_go (T : Txt X.prog X.w X.K X.mg X.base) {params : Arguments} {body : Expr} {scope : Scope} {f c1 P : Addr} {dV : Value} {k : Nat} {ext : List (Addr × Obj)} {binds : List (Str × Value)} {t : XK → TE} {Q : VK} (I : Inv X pins σ H1 s1) (L : LamP X.N X.env.scope scope)
    (M : Made X P (X.env.qual ++ "<lambda>") params body scope dV ext H H1 s1 f c1)
    (bnd : ∀ (s' : Shared) (cl : List (Str × Addr)) (doc pm cv ctv : Value), (∀ p ∈ ext, s'.heap.get? p.1 = some p.2) → BindsTo s' (kdv_fn "<lambda>" (X.env.qual ++ "<lambda>") params (.expr body) scope cl dV doc pm cv ctv) ⟨[], []⟩ binds)
    (loc : ∀ y ∈ binds, scope.names.lookup y.1 = some .local) (hr : Room (k + 2) X.A)
    (hbody : ∀ (A : Around) (outer : List Env) (s : Shared) (H : Hp) (E : XK) (f c1 : Addr), Room k (A.deeper (LamX.lamEnv X scope s.heap.objs.size f c1)) → PE (LamX.lamCx X A outer s H E scope f c1) body (t E))
    (h : TWord X.K (fun E H' Q' => t E σ H' Q') H1 Q) : codeAny (model X.prog X.w) X.A (.call (.ref (He.ga X.K "_law_word")) ⟨[.ref f], []⟩) (CR CX0 X.stack X.prog X.w H1 s1 Q E0) s1 := by
  obtain ⟨fd, F⟩ := T.t.def_ 36 (d := d_lword)
  have b : L2.Binds X.K fd ["_law_work"] [] := F.bindsN fun _ _ _ _ _ _ us hl => match us, hl with | [_], _ => rfl
  obtain ⟨oc, od, dV', kV, doc, pm, an, cdv, ct, osl, rfl, lk, hcd, _, _⟩ := F.ex
  refine LamX.run_ofS (N := NW) (ps := ["_law_work"]) (us := [.ref f]) (vs := [.ref f]) lk hcd sc_lword hr I.env0 (b s1 [.ref f] I.kIn rfl) (.cons rfl .nil) rfl fun hr' => ?_
  exact word_ok (X := X) (cdg := cdv) (s := s1) (H0 := H1) T (fun W pn xe p1 p2 tk => pe_turn (i := 0) (tb := t) I L M bnd loc tk hr' (fun A outer s H E hr2 => hbody A outer s H E f c1 hr2) rfl (.inl rfl)) M.co h
def tWordL (K : PySem.W.Frag) (P : Addr) (q : Str) (t : XK → TE) : TE := fun σ H Q => LamX.TabS H P q ∧ ∀ H1, (∀ b o, H b = some o → b ≠ P → H1 b = some o) → (∀ b, H1 b = none → H b = none) → LamX.TabS H1 P q → TWord K (fun E H' Q' => t E σ H' Q') H1 Q
theorem pe_word0 (T : Txt X.prog X.w X.K X.mg X.base) {params : Arguments} {body : Expr} {scope : Scope} {c P : Addr} {k : Nat} {t : XK → TE} {p lpos pos : Pos} (h0 : params.defaults = []) (h1 : params.kw_defaults = []) (hbind : ∀ (q : Str) (cl : List (Str × Addr)) (doc pm cv ctv : Value), bindArgs (kdv_fn "<lambda>" q params (.expr body) scope cl .none doc pm cv ctv) ⟨[], []⟩ = pure []) (TB : LamX.TabB X.base X.mg c P) (hcode : X.env.code = .ref c) (hr : Room (k + 2) X.A) (L : LamP X.N X.env.scope scope)
    (hbody : ∀ (A : Around) (outer : List Env) (s : Shared) (H : Hp) (E : XK) (f c1 : Addr), Room k (A.deeper (LamX.lamEnv X scope s.heap.objs.size f c1)) → PE (LamX.lamCx X A outer s H E scope f c1) body (t E)) (hg : Gl X "_law_word")
    (hst : starEach [.Lambda params body scope lpos] X.env = (false, eval (.Lambda params body scope lpos) X.env) :: starEach [] X.env := by rfl) (hpl : (backTo pos (starEach [] X.env)).any (·.1) = false := by rfl) :
    PE X (.Call (.Name "_law_word" p) [.Lambda params body scope lpos] [] pos) (tWordL X.K P (X.env.qual ++ "<lambda>") t) := by
  refine ⟨fun pins s σ H Q I h => ?_⟩
  obtain ⟨hT, h⟩ := h
  obtain ⟨fd, F⟩ := T.t.def_ 36 (d := d_lword)
  have hm : X.mg "_law_word" = some (.ref (He.ga X.K "_law_word")) := He.glo_ok T.X T.G (T.t.fact 14)
  have hk : PySem.W.keepIn X.K (.ref (He.ga X.K "_law_word")) = true := F.kp
  refine wpAny_Call_Name_kw (ld_glob I hg hm ?_)
  refine PySem.W.callWith_K (h₀ := X.base) I.ok.mod.kin hk ?_ (by rfl) (by rfl)
  show wpAny _ _ (spliced ((false, eval (.Lambda params body scope lpos) X.env) :: backTo pos (starEach [] X.env))) _ _ s
  refine Calls.spliced_cons (made0 I TB hcode hT (L.has I.ok) h0 h1 fun f c1 H1 s1 I1 M => ?_)
  refine Calls.spliced_nil ⟨I1.kIn, ?_⟩
  refine wpAny_call (codeAny_mono (word_go T I1 L M (binds := []) (fun s2 cl doc pm cv ctv _ => .of_eq (hbind _ _ _ _ _ _)) (fun _ hy => absurd hy (by simp)) hr hbody (h _ M.fr M.bk M.tb)) fun r s2 hq => ?_)
  match r, hq with
  | .error e, hq => exact (show False from hq).elim
  | .ok (.ret u), hq => exact I1.after hq
  | .ok .next, hq => exact False.elim hq
  | .ok .brk, hq => exact False.elim hq
  | .ok .cont, hq => exact False.elim hq
theorem pe_word1 (T : Txt X.prog X.w X.K X.mg X.base) {params : Arguments} {body : Expr} {scope : Scope} {c P : Addr} {k : Nat} {t : XK → TE} {p lpos pos : Pos} {i : Int} {j : Nat} {dp : Pos} {a : Str} (h0 : params.defaults = [.Constant (.int i) j dp]) (h1 : params.kw_defaults = []) (hloc : scope.names.lookup a = some .local) (hbind : ∀ (s : Shared) (q : Str) (cl : List (Str × Addr)) (t0 : Addr) (tk : Nat) (doc pm cv ctv : Value), s.heap.get? t0 = some (kdv_tup [.int i tk]) → BindsTo s (kdv_fn "<lambda>" q params (.expr body) scope cl (.ref t0) doc pm cv ctv) ⟨[], []⟩ [(a, .int i tk)]) (TB : LamX.TabB X.base X.mg c P) (hcode : X.env.code = .ref c) (hr : Room (k + 2) X.A) (L : LamP X.N X.env.scope scope)
    (hbody : ∀ (A : Around) (outer : List Env) (s : Shared) (H : Hp) (E : XK) (f c1 : Addr), Room k (A.deeper (LamX.lamEnv X scope s.heap.objs.size f c1)) → PE (LamX.lamCx X A outer s H E scope f c1) body (t E)) (hg : Gl X "_law_word")
    (hst : starEach [.Lambda params body scope lpos] X.env = (false, eval (.Lambda params body scope lpos) X.env) :: starEach [] X.env := by rfl) (hpl : (backTo pos (starEach [] X.env)).any (·.1) = false := by rfl) :
    PE X (.Call (.Name "_law_word" p) [.Lambda params body scope lpos] [] pos) (tWordL X.K P (X.env.qual ++ "<lambda>") t) := by
  refine ⟨fun pins s σ H Q I h => ?_⟩
  obtain ⟨hT, h⟩ := h
  obtain ⟨fd, F⟩ := T.t.def_ 36 (d := d_lword)
  have hm : X.mg "_law_word" = some (.ref (He.ga X.K "_law_word")) := He.glo_ok T.X T.G (T.t.fact 14)
  have hk : PySem.W.keepIn X.K (.ref (He.ga X.K "_law_word")) = true := F.kp
  refine wpAny_Call_Name_kw (ld_glob I hg hm ?_)
  refine PySem.W.callWith_K (h₀ := X.base) I.ok.mod.kin hk ?_ (by rfl) (by rfl)
  show wpAny _ _ (spliced ((false, eval (.Lambda params body scope lpos) X.env) :: backTo pos (starEach [] X.env))) _ _ s
  refine Calls.spliced_cons (made1 I TB hcode hT (L.has I.ok) h0 h1 fun f c1 t0 tk H1 s1 I1 M => ?_)
  refine Calls.spliced_nil ⟨I1.kIn, ?_⟩
  refine wpAny_call (codeAny_mono (word_go T I1 L M (binds := [(a, .int i tk)]) (fun s2 cl doc pm cv ctv e => hbind _ _ _ _ _ _ _ _ _ (e _ (List.mem_singleton.mpr rfl))) (fun y hy => by rw [List.mem_singleton.mp hy]; exact hloc) hr hbody (h _ M.fr M.bk M.tb)) fun r s2 hq => ?_)
  match r, hq with
  | .error e, hq => exact (show False from hq).elim
  | .ok (.ret u), hq => exact I1.after hq
  | .ok .next, hq => exact False.elim hq
  | .ok .brk, hq => exact False.elim hq
  | .ok .cont, hq => exact False.elim hq
end
end B

set_option Elab.async false
set_option linter.all false
set_option maxRecDepth 100000
set_option maxHeartbeats 4000000
namespace B
open PySem PySem.Spec PyProof.Rows L2
open SX (S)
/-! ### alike -/
theorem atI_nat' {xs : List V} {i : Nat} {v : V} (h : xs[i]? = some v) : atI xs (0 + (i : Int)) = some v := by
  rw [Int.zero_add]
  exact atI_nat h
/-- asked of two things that A calls alike -/
def spAl (A : V → V → Hp → Prop) : Sp := fun vs H Q _ => ∃ x y, vs = [x, y] ∧ A x y H ∧ ∀ H', Frm [] H H' → Q (.bl true) H'
def Atom (x y : V) : Prop := (∃ b, x = .bl b ∧ y = .bl b) ∨ (∃ s, x = .str s ∧ y = .str s) ∨ (∃ i, x = .int i ∧ y = .int i) ∨ (x = .non ∧ y = .non)
def AlStep (K : PySem.W.Frag) (A : V → V → Hp → Prop) (x y : V) (H : Hp) : Prop := Atom x y ∨ ∃ (p q : Addr) (xs ys : List V), x = .ref p ∧ y = .ref q ∧ ((H p = some (.lst xs) ∧ H q = some (.lst ys)) ∨ (H p = some (.tup xs) ∧ H q = some (.tup ys))) ∧ xs.length = ys.length ∧ ys.length ≤ 100000 ∧
  ∀ (i : Nat) a b, xs[i]? = some a → ys[i]? = some b → A a b H
def Steady (A : V → V → Hp → Prop) : Prop := ∀ x y H H', A x y H → Frm [] H H' → A x y H'
theorem steady0 : Steady (fun _ _ _ => False) := fun _ _ _ _ h _ => h
theorem steady_step {K : PySem.W.Frag} {A : V → V → Hp → Prop} (h : Steady A) : Steady (AlStep K A) := by
  rintro x y H H' (z | ⟨p, q, xs, ys, e1, e2, hs, hl, hn, hA⟩) f
  · exact .inl z
  · refine .inr ⟨p, q, xs, ys, e1, e2, ?_, hl, hn, fun i a b ha hb => h _ _ _ _ (hA i a b ha hb) f⟩
    rcases hs with ⟨h1, h2⟩ | ⟨h1, h2⟩
    · exact .inl ⟨f.k _ _ h1 rfl (by simp), f.k _ _ h2 rfl (by simp)⟩
    · exact .inr ⟨f.k _ _ h1 rfl (by simp), f.k _ _ h2 rfl (by simp)⟩
theorem al_strs {K : PySem.W.Frag} {A : V → V → Hp → Prop} {H : Hp} {p q : Addr} {xs : List Str} (hp : H p = some (.lst (xs.map V.str))) (hq : H q = some (.lst (xs.map V.str))) (hl : xs.length ≤ 100000) : AlStep K (AlStep K A) (.ref p) (.ref q) H := by
  refine .inr ⟨p, q, _, _, rfl, rfl, .inl ⟨hp, hq⟩, rfl, by rw [List.length_map]; exact hl, fun i a b ha hb => .inl ?_⟩
  rw [hb] at ha
  obtain rfl := Option.some.inj ha
  obtain ⟨z, hz, e⟩ := at_map hb
  exact .inr (.inl ⟨z, e, e⟩)
section
variable {P : Program} {w : World} {K : PySem.W.Frag} {mg : Str → Option Value} {base : Heap}
theorem alike0 (T : Txt P w K mg base) : CalX CX0 P w K mg base 1 "_law_alike" (spAl fun _ _ _ => False) := by
  obtain ⟨fd, F⟩ := T.t.def_ 35 (d := d_lalike)
  refine ⟨_, fd, _, F.ok sc_lalike (fun vs H Q E h => ?_) (fun cdv A outer s H vs Q E hr h => ?_), He.glo_ok T.X T.G (T.t.fact 13), F.kp, F.bindsN fun _ _ _ _ _ _ us hl => match us, hl with | [_, _], _ => rfl⟩
  · obtain ⟨_, _, _, z, _⟩ := h
    exact z.elim
  · obtain ⟨_, _, _, z, _⟩ := h
    exact z.elim
theorem alike_step (T : Txt P w K mg base) {A : V → V → Hp → Prop} {k : Nat} (sA : Steady A) (c : CalX CX0 P w K mg base k "_law_alike" (spAl A)) : CalX CX0 P w K mg base (k + 1) "_law_alike" (spAl (AlStep K A)) := by
  obtain ⟨fd, F⟩ := T.t.def_ 35 (d := d_lalike)
  refine ⟨_, fd, _, F.ok sc_lalike (fun vs H Q E h => ?_) (fun cdv A outer s H vs Q E hr h => ?_), He.glo_ok T.X T.G (T.t.fact 13), F.kp, F.bindsN fun _ _ _ _ _ _ us hl => match us, hl with | [_, _], _ => rfl⟩
  · obtain ⟨x, y, rfl, _⟩ := h
    rfl
  · obtain ⟨x, y, rfl, hA, k⟩ := h
    have hu := hu_of hr
    refine ⟨_, PSs.nox (pss_cons (ps_if (PW.pt (pw_or (pt_val (pe_callB call_isi (by rfl) (n_isinstance T) (by decide +kernel) (pa_cons (pv 1) (pa_cons (pe_bltn (v := .ty "tuple") (u := .type "tuple") rfl (n_tuple T) (by decide +kernel) rfl) pa_nil)))) (pw_or1 (pt_val (pe_callB call_isi (by rfl) (n_isinstance T) (by decide +kernel) (pa_cons (pv 1) (pa_cons (pe_bltn (v := .ty "list") (u := .type "list") rfl (n_list T) (by decide +kernel) rfl) pa_nil)))))))
      (pss_cons (ps_if (PW.pt (pw_or (pt_cmpR op_ne (pe_callB call_isi (by rfl) (n_isinstance T) (by decide +kernel) (pa_cons (pv 0) (pa_cons (pe_bltn (v := .ty "tuple") (u := .type "tuple") rfl (n_tuple T) (by decide +kernel) rfl) pa_nil))) (pe_callB call_isi (by rfl) (n_isinstance T) (by decide +kernel) (pa_cons (pv 1) (pa_cons (pe_bltn (v := .ty "tuple") (u := .type "tuple") rfl (n_tuple T) (by decide +kernel) rfl) pa_nil))) (nomark _)) (pw_or1 (pt_not (pt_val (pe_callB call_isiT (by rfl) (n_isinstance T) (by decide +kernel) (pa_cons (pv 0) (pa_cons (pe_tup (pa_cons (pe_bltn (v := .ty "tuple") (u := .type "tuple") rfl (n_tuple T) (by decide +kernel) rfl) (pa_cons (pe_bltn (v := .ty "list") (u := .type "list") rfl (n_list T) (by decide +kernel) rfl) pa_nil))) pa_nil))))))))
        (pss_one (ps_ret pe_bl))
        pss_nil)
      (pss_cons (ps_if (pt_cmpR op_ne (pe_callB call_len_seq (by rfl) (n_len T) PySem.boot_len (pa_cons (pv 0) pa_nil)) (pe_callB call_len_seq (by rfl) (n_len T) PySem.boot_len (pa_cons (pv 1) pa_nil)) (nomark _))
        (pss_one (ps_ret pe_bl))
        pss_nil)
      (pss_one (ps_ret (pe_cmpR (op_eqD hr.units) (pe_lc (own := [("_law_k", 2)]) (g := gName 2) rfl sc_lalike.nd (pi_range1 rfl (n_range T) (pa_cons (pe_callB call_len_seq (by rfl) (n_len T) PySem.boot_len (pa_cons (pv 1) pa_nil)) pa_nil)) (blkOk_by (N := ["_law_found", "_law_due", "_law_k"]) (sc := defScope s_lalike) (own := [("_law_k", 2)]) (by decide +kernel)) (fun _ _ _ _ _ => pg_name (i := 2) sc_lalike.nd rfl (Or.inl rfl)) (fun _ _ _ _ _ => pts_one (by exact (pt_not (pt_val (pe_cx c hr (Nat.le_refl _) rfl pass0 (pa_cons (pe_ix (ix_seqK (K := K) rfl) (pv 0) (pv 2) (fun _ _ => rfl)) (pa_cons (pe_ix (ix_seqK (K := K) rfl) (pv 1) (pv 2) (fun _ _ => rfl)) pa_nil))))))) (fun _ _ _ _ _ => by exact (pv 2))) (pe_lst pa_nil) (nomark _))))))
      pss_nil)
    (pss_cons (ps_if (PW.pt (pw_or (pt_cmpR op_isN (pv 1) pe_non (nomark _)) (pw_or1 (pt_cmpR op_isN (pv 0) pe_non (nomark _)))))
      (pss_one (ps_ret (pe_and (pe_cmpR op_isN (pv 1) pe_non (nomark _)) (pe_one (pe_cmpR op_isN (pv 0) pe_non (nomark _))))))
      pss_nil)
    (pss_cons (ps_if (PW.pt (pw_or (pt_val (pe_callB call_isi (by rfl) (n_isinstance T) (by decide +kernel) (pa_cons (pv 1) (pa_cons (pe_bltn (v := .ty "bool") (u := .type "bool") rfl (n_bool T) (by decide +kernel) rfl) pa_nil)))) (pw_or1 (pt_val (pe_callB call_isi (by rfl) (n_isinstance T) (by decide +kernel) (pa_cons (pv 0) (pa_cons (pe_bltn (v := .ty "bool") (u := .type "bool") rfl (n_bool T) (by decide +kernel) rfl) pa_nil)))))))
      (pss_one (ps_ret (pe_and (pe_callB call_isi (by rfl) (n_isinstance T) (by decide +kernel) (pa_cons (pv 1) (pa_cons (pe_bltn (v := .ty "bool") (u := .type "bool") rfl (n_bool T) (by decide +kernel) rfl) pa_nil))) (pe_and (pe_callB call_isi (by rfl) (n_isinstance T) (by decide +kernel) (pa_cons (pv 0) (pa_cons (pe_bltn (v := .ty "bool") (u := .type "bool") rfl (n_bool T) (by decide +kernel) rfl) pa_nil))) (pe_one (pe_cmpR op_eq (pv 0) (pv 1) (nomark _)))))))
      pss_nil)
    (pss_cons (ps_if (pt_val (pe_callB call_isi (by rfl) (n_isinstance T) (by decide +kernel) (pa_cons (pv 1) (pa_cons (pe_bltn (v := .ty "str") (u := .type "str") rfl (n_str T) (by decide +kernel) rfl) pa_nil))))
      (pss_one (ps_ret (pe_and (pe_callB call_isi (by rfl) (n_isinstance T) (by decide +kernel) (pa_cons (pv 0) (pa_cons (pe_bltn (v := .ty "str") (u := .type "str") rfl (n_str T) (by decide +kernel) rfl) pa_nil))) (pe_one (pe_cmpR op_eq (pv 0) (pv 1) (nomark _))))))
      pss_nil)
    (pss_one (ps_ret (pe_and (pe_callB call_isi (by rfl) (n_isinstance T) (by decide +kernel) (pa_cons (pv 0) (pa_cons (pe_bltn (v := .ty "int") (u := .type "int") rfl (n_int T) (by decide +kernel) rfl) pa_nil))) (pe_one (pe_cmpR op_eq (pv 0) (pv 1) (nomark _)))))))))), ?_⟩
    have kH := k H (Frm.refl _ _)
    rcases hA with (⟨b, rfl, rfl⟩ | ⟨z, rfl, rfl⟩ | ⟨i, rfl, rfl⟩ | ⟨rfl, rfl⟩) | ⟨p, q, xs, ys, rfl, rfl, hs, hl, hn, hA⟩
    · refine ⟨_, rfl, _, _, _, _, false, rfl, .ty _, .base (.bl b), kit_ty (by decide +kernel), false, rfl, ?_⟩
      refine ⟨_, rfl, _, _, _, _, false, rfl, .ty _, .base (.bl b), kit_ty (by decide +kernel), false, rfl, ?_⟩
      refine ⟨_, rfl, rfl, _, rfl, ?_⟩
      refine ⟨_, rfl, rfl, _, rfl, ?_⟩
      refine ⟨_, rfl, _, _, _, _, true, rfl, .ty _, .base (.bl b), kit_ty (by decide +kernel), true, rfl, ?_⟩
      refine ⟨_, rfl, _, _, _, _, true, rfl, .ty _, .base (.bl b), kit_ty (by decide +kernel), true, rfl, ?_⟩
      refine ⟨_, rfl, _, _, _, _, true, rfl, .ty _, .base (.bl b), kit_ty (by decide +kernel), true, rfl, ?_⟩
      refine ⟨_, rfl, _, rfl, rfl, ?_⟩
      have e : decide (V.bl b = V.bl b) = true := decide_eq_true rfl
      rw [e]
      exact kH
    · refine ⟨_, rfl, _, _, _, _, false, rfl, .ty _, .base (.str z), kit_ty (by decide +kernel), false, rfl, ?_⟩
      refine ⟨_, rfl, _, _, _, _, false, rfl, .ty _, .base (.str z), kit_ty (by decide +kernel), false, rfl, ?_⟩
      refine ⟨_, rfl, rfl, _, rfl, ?_⟩
      refine ⟨_, rfl, rfl, _, rfl, ?_⟩
      refine ⟨_, rfl, _, _, _, _, false, rfl, .ty _, .base (.str z), kit_ty (by decide +kernel), false, rfl, ?_⟩
      refine ⟨_, rfl, _, _, _, _, false, rfl, .ty _, .base (.str z), kit_ty (by decide +kernel), false, rfl, ?_⟩
      refine ⟨_, rfl, _, _, _, _, true, rfl, .ty _, .base (.str z), kit_ty (by decide +kernel), true, rfl, ?_⟩
      refine ⟨_, rfl, _, _, _, _, true, rfl, .ty _, .base (.str z), kit_ty (by decide +kernel), true, rfl, ?_⟩
      refine ⟨_, rfl, _, rfl, rfl, ?_⟩
      rw [str_dec, decide_eq_true rfl]
      exact kH
    · refine ⟨_, rfl, _, _, _, _, false, rfl, .ty _, .base (.int i), kit_ty (by decide +kernel), false, rfl, ?_⟩
      refine ⟨_, rfl, _, _, _, _, false, rfl, .ty _, .base (.int i), kit_ty (by decide +kernel), false, rfl, ?_⟩
      refine ⟨_, rfl, rfl, _, rfl, ?_⟩
      refine ⟨_, rfl, rfl, _, rfl, ?_⟩
      refine ⟨_, rfl, _, _, _, _, false, rfl, .ty _, .base (.int i), kit_ty (by decide +kernel), false, rfl, ?_⟩
      refine ⟨_, rfl, _, _, _, _, false, rfl, .ty _, .base (.int i), kit_ty (by decide +kernel), false, rfl, ?_⟩
      refine ⟨_, rfl, _, _, _, _, false, rfl, .ty _, .base (.int i), kit_ty (by decide +kernel), false, rfl, ?_⟩
      refine ⟨_, rfl, _, _, _, _, true, rfl, .ty _, .base (.int i), kit_ty (by decide +kernel), true, rfl, ?_⟩
      refine ⟨_, rfl, _, rfl, rfl, ?_⟩
      rw [int_dec, decide_eq_true rfl]
      exact kH
    · refine ⟨_, rfl, _, _, _, _, false, rfl, .ty _, .base .non, kit_ty (by decide +kernel), false, rfl, ?_⟩
      refine ⟨_, rfl, _, _, _, _, false, rfl, .ty _, .base .non, kit_ty (by decide +kernel), false, rfl, ?_⟩
      refine ⟨_, rfl, rfl, _, rfl, ?_⟩
      refine ⟨_, rfl, rfl, _, rfl, _, rfl, rfl, ?_⟩
      exact kH
    · rcases hs with ⟨h1, h2⟩ | ⟨h1, h2⟩
      · refine ⟨_, rfl, _, _, _, _, false, rfl, .ty _, .base (.lst h2), kit_ty (by decide +kernel), false, rfl, ?_⟩
        refine ⟨_, rfl, _, _, _, _, true, rfl, .ty _, .base (.lst h2), kit_ty (by decide +kernel), true, rfl, ?_⟩
        refine ⟨_, rfl, _, _, _, _, false, rfl, .ty _, .base (.lst h1), kit_ty (by decide +kernel), ?_⟩
        refine ⟨_, rfl, _, _, _, _, false, rfl, .ty _, .base (.lst h2), kit_ty (by decide +kernel), rfl, false, rfl, ?_⟩
        refine ⟨_, rfl, by show 2 ≤ sizeLine; decide, fun tp htp => ?_⟩
        have f1 : Frm [] H (upd H tp (.tup [.ty "tuple", .ty "list"])) := Frm.of (same_upd htp)
        have g1 := f1.k _ _ h1 rfl (by simp)
        have g2 := f1.k _ _ h2 rfl (by simp)
        refine ⟨_, tp, _, _, _, true, rfl, upd_same, .cons (.ty _) (.cons (.ty _) .nil), .base (.lst g1), kitAny_cons (b := false) (kit_ty (by decide +kernel)) (fun _ => kitAny_cons (b := true) (kit_ty (by decide +kernel)) (fun z => nomatch z) (fun _ => rfl)) (fun z => nomatch z), true, rfl, ?_⟩
        refine ⟨_, rfl, p, xs, rfl, .inl (SqL.of g1), _, rfl, q, ys, rfl, .inl (SqL.of g2), rfl, false, congrArg V.bl (by rw [hl, decide_eq_true rfl]; rfl), ?_⟩
        refine ⟨_, rfl, q, ys, rfl, .inl (SqL.of g2), _, rfl, by omega, by omega, fun D hD => ?_⟩
        have fD : Frm [] H (upd (upd H tp (.tup [.ty "tuple", .ty "list"])) D (.lst [])) := f1.trans (Frm.of (same_upd hD))
        refine lc_range (lo := 0) (n := ((ys.length : Nat) : Int).toNat) (fun i H' => Frm [] H H' ∧ H' D = some (.lst [])) ⟨fD, upd_same⟩ ?_ ?_
        · rintro i H1 hi ⟨fi, di⟩
          have hi' : i < ys.length := hi
          have hx : xs[i]? = some (xs[i]'(by omega)) := by simp [hl, hi']
          have hy : ys[i]? = some (ys[i]'hi') := by simp [hi']
          have k1 := fi.k _ _ h1 rfl (by simp)
          have k2 := fi.k _ _ h2 rfl (by simp)
          refine ⟨rfl, _, rfl, _, rfl, .inl ⟨p, xs, _, _, rfl, rfl, SqL.of k1, atI_nat' hx, _, rfl, _, rfl, .inl ⟨q, ys, _, _, rfl, rfl, SqL.of k2, atI_nat' hy, _, _, rfl, sA _ _ _ _ (hA i _ _ hx hy) fi, fun H2 f2 => ?_⟩⟩⟩
          refine ⟨true, rfl, fi.trans f2, f2.k _ _ di rfl (by simp)⟩
        · rintro H1 ⟨fi, di⟩
          refine ⟨Nat.zero_le _, fun D2 hD2 => ?_⟩
          refine ⟨_, _, .lst (SqL.of (same_upd hD2 _ _ di)) .nil, .lst (SqL.of upd_same) .nil, by decide +kernel, by decide +kernel, ?_⟩
          exact k _ (fi.trans (Frm.of (same_upd hD2)))
      · refine ⟨_, rfl, _, _, _, _, true, rfl, .ty _, .base (.tup h2), kit_ty (by decide +kernel), true, rfl, ?_⟩
        refine ⟨_, rfl, _, _, _, _, true, rfl, .ty _, .base (.tup h1), kit_ty (by decide +kernel), ?_⟩
        refine ⟨_, rfl, _, _, _, _, true, rfl, .ty _, .base (.tup h2), kit_ty (by decide +kernel), rfl, false, rfl, ?_⟩
        refine ⟨_, rfl, by show 2 ≤ sizeLine; decide, fun tp htp => ?_⟩
        have f1 : Frm [] H (upd H tp (.tup [.ty "tuple", .ty "list"])) := Frm.of (same_upd htp)
        have g1 := f1.k _ _ h1 rfl (by simp)
        have g2 := f1.k _ _ h2 rfl (by simp)
        refine ⟨_, tp, _, _, _, true, rfl, upd_same, .cons (.ty _) (.cons (.ty _) .nil), .base (.tup g1), kitAny_cons (b := true) (kit_ty (by decide +kernel)) (fun z => nomatch z) (fun _ => rfl), true, rfl, ?_⟩
        refine ⟨_, rfl, p, xs, rfl, .inr (SqT.of g1), _, rfl, q, ys, rfl, .inr (SqT.of g2), rfl, false, congrArg V.bl (by rw [hl, decide_eq_true rfl]; rfl), ?_⟩
        refine ⟨_, rfl, q, ys, rfl, .inr (SqT.of g2), _, rfl, by omega, by omega, fun D hD => ?_⟩
        have fD : Frm [] H (upd (upd H tp (.tup [.ty "tuple", .ty "list"])) D (.lst [])) := f1.trans (Frm.of (same_upd hD))
        refine lc_range (lo := 0) (n := ((ys.length : Nat) : Int).toNat) (fun i H' => Frm [] H H' ∧ H' D = some (.lst [])) ⟨fD, upd_same⟩ ?_ ?_
        · rintro i H1 hi ⟨fi, di⟩
          have hi' : i < ys.length := hi
          have hx : xs[i]? = some (xs[i]'(by omega)) := by simp [hl, hi']
          have hy : ys[i]? = some (ys[i]'hi') := by simp [hi']
          have k1 := fi.k _ _ h1 rfl (by simp)
          have k2 := fi.k _ _ h2 rfl (by simp)
          refine ⟨rfl, _, rfl, _, rfl, .inr (.inl ⟨p, xs, _, _, rfl, rfl, SqT.of k1, atI_nat' hx, _, rfl, _, rfl, .inr (.inl ⟨q, ys, _, _, rfl, rfl, SqT.of k2, atI_nat' hy, _, _, rfl, sA _ _ _ _ (hA i _ _ hx hy) fi, fun H2 f2 => ?_⟩)⟩)⟩
          refine ⟨true, rfl, fi.trans f2, f2.k _ _ di rfl (by simp)⟩
        · rintro H1 ⟨fi, di⟩
          refine ⟨Nat.zero_le _, fun D2 hD2 => ?_⟩
          refine ⟨_, _, .lst (SqL.of (same_upd hD2 _ _ di)) .nil, .lst (SqL.of upd_same) .nil, by decide +kernel, by decide +kernel, ?_⟩
          exact k _ (fi.trans (Frm.of (same_upd hD2)))
end
end B

set_option Elab.async false
set_option linter.all false
set_option maxRecDepth 100000
set_option maxHeartbeats 4000000
namespace B
open PySem PySem.Spec PyProof.Rows L2
open SX (S)
/-! ### the classes' words -/
section
variable {P : Program} {w : World} {K : PySem.W.Frag} {mg : Str → Option Value} {base : Heap}
theorem exc_all {c : Str} (h : excC K c = true) (hs : PySem.W.subIn K (.ref (He.ga K c)) (.type "BaseException") = some true) : ExcC K (He.ga K c) ∧ PySem.W.kitOne K (.ref (He.ga K c)) (.type "ValueError") = some true := by
  unfold excC at h
  obtain ⟨h, h8⟩ := He.ba h
  obtain ⟨h, h7⟩ := He.ba h
  obtain ⟨h, h6⟩ := He.ba h
  obtain ⟨h, h5⟩ := He.ba h
  obtain ⟨h, h4⟩ := He.ba h
  obtain ⟨h, h3⟩ := He.ba h
  obtain ⟨h1, h2⟩ := He.ba h
  exact ⟨⟨He.eqO_ok h1, He.eqO_ok h2, hs, h3, He.eqO_ok h4, of_decide_eq_true h5, of_decide_eq_true h6, of_decide_eq_true h7⟩, of_decide_eq_true h8⟩
theorem kit_all {c : Str} {n : Nat} (hc : allErr[n]? = some c) (h : (allErr.all fun d => kitC K c d (decide (c = d))) = true) (i : Nat) (d : Str) (hd : allErr[i]? = some d) : PySem.W.kitOne K (.ref (He.ga K c)) (.ref (He.ga K d)) = some (decide (i = n)) := by
  have q := of_decide_eq_true (List.all_eq_true.mp h d (List.mem_of_getElem? hd))
  rw [q]
  have hn := (List.getElem?_eq_some_iff.mp hc).1
  have hi := (List.getElem?_eq_some_iff.mp hd).1
  have z : (List.range 15).all (fun i => (List.range 15).all fun n => decide (allErr[n]? = allErr[i]?) == decide (i = n)) = true := by decide +kernel
  have z1 := beq_iff_eq.mp (List.all_eq_true.mp (List.all_eq_true.mp z i (List.mem_range.mpr hi)) n (List.mem_range.mpr hn))
  rw [hc, hd] at z1
  have e : decide (c = d) = decide (some c = some d) := by
    by_cases q : c = d
    · rw [decide_eq_true q, decide_eq_true (by rw [q])]
    · rw [decide_eq_false q, decide_eq_false (fun z => q (Option.some.inj z))]
  rw [e, z1]
theorem word_of (T : Txt P w K mg base) {c wd : Str} {n : Nat} (hr : c ∈ raised) (hs : PySem.W.subIn K (.ref (He.ga K c)) (.type "BaseException") = some true) (hm : PySem.W.exmOne K (.ref (He.ga K c)) (.ref (He.ga K "BusError")) = some true) (hn : n < 15) (hc : allErr[n]? = some c) (hw : wordsV[n]? = some wd)
    (ne : inV (.str wd) [V.str "looks", V.str "step"] = false ∧ decide (V.str wd = V.str "text") = false) : WordC K (.ref (He.ga K c)) n wd := by
  obtain ⟨h1, h2⟩ := He.ba (List.all_eq_true.mp (ex_exc T) c hr)
  obtain ⟨e1, e2⟩ := exc_all h1 hs
  exact ⟨⟨_, rfl, e1, kit_all hc h2, e2, hm⟩, hn, hw, ne⟩
theorem word_There (T : Txt P w K mg base) : WordC K (.ref (He.ga K "There")) 4 "there" := by
  obtain ⟨a, b, c, d⟩ := He.exc_ok (T.t.fact 110 (f := .exc "There"))
  exact word_of T (by decide) (by assumption) (He.exm_ok (T.t.fact 118)) (by decide) rfl rfl ⟨by decide +kernel, by decide +kernel⟩
theorem word_NotThere (T : Txt P w K mg base) : WordC K (.ref (He.ga K "NotThere")) 5 "not" := by
  obtain ⟨a, b, c, d⟩ := He.exc_ok (T.t.fact 111 (f := .exc "NotThere"))
  exact word_of T (by decide) (by assumption) (He.exm_ok (T.t.fact 119)) (by decide) rfl rfl ⟨by decide +kernel, by decide +kernel⟩
theorem word_NoRound (T : Txt P w K mg base) : WordC K (.ref (He.ga K "NoRound")) 6 "round" := by
  obtain ⟨a, b, c, d⟩ := He.exc_ok (T.t.fact 112 (f := .exc "NoRound"))
  exact word_of T (by decide) (by assumption) (He.exm_ok (T.t.fact 120)) (by decide) rfl rfl ⟨by decide +kernel, by decide +kernel⟩
end
end B

set_option Elab.async false
set_option linter.all false
set_option maxRecDepth 100000
set_option maxHeartbeats 4000000
namespace B
open PySem PySem.Spec PyProof.Rows L2
open SX (S)
theorem nodup_le {xs : List Str} : ∀ {ys : List Str}, xs.Nodup → (∀ x ∈ xs, x ∈ ys) → xs.length ≤ ys.length := by
  induction xs with
  | nil => intro ys _ _; exact Nat.zero_le _
  | cons x r ih =>
    intro ys hn hs
    have hx := hs x (List.mem_cons_self ..)
    have n := List.nodup_cons.mp hn
    have q := ih (ys := ys.erase x) n.2 fun z hz => by
      have ne : z ≠ x := fun e => n.1 (e ▸ hz)
      exact (List.mem_erase_of_ne ne).mpr (hs z (List.mem_cons_of_mem _ hz))
    rw [List.length_erase_of_mem hx] at q
    have := List.length_pos_of_mem hx
    rw [List.length_cons]
    omega
/-- what the wire counts of a round -/
def msOf (W : Nat) : Option (List Nat) → Int
  | none => W
  | some l => l.length
/-- a wire and an own one agree -/
structure SideX (K : PySem.W.Frag) (H : Hp) (pw dh dl pm dt ml : Addr) (W : Nat) (names : List Str) (kvs : List (Str × Bool)) (lw lm : List Str) (sd : Option (List Nat)) (lk : Int) : Prop where
  wa : WiAt K H pw dh dl W kvs lw (msOf W sd) lk
  ma : MdAt H pm dt ml W kvs lm sd lk
  perm : lw.Perm lm
  nd : (kvs.map (·.1)).Nodup
  sub : ∀ x ∈ kvs.map (·.1), x ∈ names
  len : lm.length ≤ 41
  num : ∀ x ∈ lm, Num W x
  beg : ∀ l, sd = some l → l.length ≤ W ∧ ∀ x ∈ lm, Beg W l x
  ne : pm ≠ dt ∧ dh ≠ pm ∧ dh ≠ dt
/-- the numbers that a side draws from -/
structure Pool (H : Hp) (pn : Addr) (W : Nat) (names : List Str) : Prop where
  at_ : H pn = some (.lst (names.map V.str))
  ne : names ≠ []
  len : names.length ≤ 41
  num : ∀ x ∈ names, Num W x
  w : 1 ≤ W ∧ W ≤ 12
theorem has_key {kvs : List (Str × Bool)} {x : Str} : hasK kvs x = true ↔ x ∈ kvs.map (·.1) := by
  unfold hasK
  rw [List.any_eq_true]
  constructor
  · rintro ⟨p, hp, e⟩
    exact List.mem_map.mpr ⟨p, hp, of_decide_eq_true e⟩
  · intro h
    obtain ⟨p, hp, e⟩ := List.mem_map.mp h
    exact ⟨p, hp, decide_eq_true e⟩
theorem keys_put {kvs : List (Str × Bool)} {x : Str} {b : Bool} : (putB kvs x b).map (·.1) = if hasK kvs x = true then kvs.map (·.1) else kvs.map (·.1) ++ [x] := by
  unfold putB
  split
  · rw [List.map_map]
    apply List.map_congr_left
    intro p _
    show (if p.1 = x then (p.1, b) else p).1 = p.1
    split <;> rfl
  · rw [List.map_append]
    rfl
theorem put_nodup {kvs : List (Str × Bool)} {x : Str} {b : Bool} (h : (kvs.map (·.1)).Nodup) : ((putB kvs x b).map (·.1)).Nodup := by
  rw [keys_put]
  split
  · exact h
  · rename_i nh
    rw [List.nodup_append]
    refine ⟨h, by simp, fun a ha c hc => ?_⟩
    rw [List.mem_singleton] at hc
    rw [hc]
    intro e
    exact nh (has_key.mpr (e ▸ ha))
theorem put_sub {kvs : List (Str × Bool)} {x : Str} {b : Bool} {names : List Str} (h : ∀ y ∈ kvs.map (·.1), y ∈ names) (hx : x ∈ names) : ∀ y ∈ (putB kvs x b).map (·.1), y ∈ names := by
  rw [keys_put]
  split
  · exact h
  · intro y hy
    rw [List.mem_append, List.mem_singleton] at hy
    rcases hy with z | rfl
    · exact h y z
    · exact hx
theorem drop_keys {kvs : List (Str × Bool)} {x : Str} : (dropB kvs x).map (·.1) = (kvs.map (·.1)).filter (fun y => decide (y ≠ x)) := by
  unfold dropB
  rw [List.filter_map]
  rfl
theorem deed_nodup {kvs : List (Str × Bool)} {wd x : Str} (h : (kvs.map (·.1)).Nodup) : ((deedK kvs wd x).map (·.1)).Nodup := by
  unfold deedK
  split
  · split
    · exact h
    · exact put_nodup h
  · split
    · split
      · rw [drop_keys]
        exact h.filter _
      · exact put_nodup h
    · exact h
theorem deed_sub {kvs : List (Str × Bool)} {wd x : Str} {names : List Str} (h : ∀ y ∈ kvs.map (·.1), y ∈ names) (hx : x ∈ names) : ∀ y ∈ (deedK kvs wd x).map (·.1), y ∈ names := by
  unfold deedK
  split
  · split
    · exact h
    · exact put_sub h hx
  · split
    · split
      · rw [drop_keys]
        intro y hy
        exact h y (List.mem_filter.mp hy).1
      · exact put_sub h hx
    · exact h
theorem deed_len {kvs : List (Str × Bool)} {lm : List Str} {wd x : Str} : (deedL kvs lm wd x).length ≤ lm.length ∧ ∀ y ∈ deedL kvs lm wd x, y ∈ lm := by
  unfold deedL
  split
  · exact ⟨List.length_filter_le _ _, fun y hy => (List.mem_filter.mp hy).1⟩
  · exact ⟨Nat.le_refl _, fun y hy => hy⟩
theorem deed_perm {kvs : List (Str × Bool)} {lw lm : List Str} {wd x : Str} (h : lw.Perm lm) : (deedL kvs lw wd x).Perm (deedL kvs lm wd x) := by
  unfold deedL
  split
  · exact h.filter _
  · exact h
theorem deed_no {kvs : List (Str × Bool)} {lm : List Str} {wd x : Str} (h : ¬ deedW kvs wd x = "") : deedK kvs wd x = kvs ∧ deedL kvs lm wd x = lm := by
  unfold deedW at h
  unfold deedK deedL
  split at h
  · rename_i e
    rw [if_pos e]
    split at h
    · rename_i k
      rw [if_pos k, if_neg (fun z => absurd (e.symm.trans z.1) (by decide +kernel))]
      exact ⟨rfl, rfl⟩
    · exact absurd rfl h
  · rename_i e
    rw [if_neg e]
    split at h
    · exact absurd rfl h
    · rename_i k
      rw [if_neg k, if_neg (fun z => k z.2)]
      exact ⟨rfl, rfl⟩
end B

set_option Elab.async false
set_option linter.all false
set_option maxRecDepth 100000
set_option maxHeartbeats 4000000
namespace B
open PySem PySem.Spec PyProof.Rows L2
open SX (S)
section
variable {P : Program} {w : World} {K : PySem.W.Frag} {mg : Str → Option Value} {base : Heap}
def calmK (xs : List Str) : List (Str × Bool) := xs.map fun x => (x, false)
theorem calm_keys (xs : List Str) : (calmK xs).map (·.1) = xs := by
  unfold calmK
  rw [List.map_map]
  exact List.map_id' xs
theorem calm_new {xs : List Str} {x : Str} (h : x ∉ xs) : deedW (calmK xs) "hang" x = "" ∧ deedK (calmK xs) "hang" x = calmK (xs ++ [x]) := by
  have nh : ¬ hasK (calmK xs) x = true := fun z => h (by rw [has_key, calm_keys] at z; exact z)
  unfold deedW deedK
  rw [if_pos rfl, if_neg nh, if_pos rfl, if_neg nh]
  refine ⟨rfl, ?_⟩
  unfold putB
  rw [if_neg nh]
  unfold calmK
  rw [List.map_append]
  rfl
/-- a wire on which some hang -/
def spMade (K : PySem.W.Frag) : Sp := fun vs H Q _ => ∃ (pn : Addr) (W : Nat) (names : List Str), vs = [.int W, .ref pn] ∧ H pn = some (.lst (names.map V.str)) ∧ names.Nodup ∧ names.length ≤ 100 ∧ (∀ x ∈ names, Num W x) ∧ 1 ≤ W ∧ W ≤ 12 ∧ Tb K H ∧
  ∀ (pw dh dl : Addr) (H' : Hp), H pw = none → H dh = none → H dl = none → WiAt K H' pw dh dl W (calmK names) [] W 0 → FrT K [] H H' → Q (.ref pw) H'
theorem c_lmade (T : Txt P w K mg base) : CalX CX0 P w K mg base 4 "_law_made" (spMade K) := by
  obtain ⟨fd, F⟩ := T.t.def_ 41 (d := d_lmade)
  refine ⟨_, fd, _, F.ok sc_lmade (fun vs H Q E h => ?_) (fun cdv A outer s H vs Q E hr h => ?_), He.glo_ok T.X T.G (T.t.fact 19), F.kp, F.bindsN fun _ _ _ _ _ _ us hl => match us, hl with | [_, _], _ => rfl⟩
  · obtain ⟨pn, W, names, rfl, _⟩ := h
    rfl
  · obtain ⟨pn, W, names, rfl, hp, hnd, hlen, hnum, hW1, hW2, ht, k⟩ := h
    have hu := hu_of hr
    refine ⟨_, PSs.nox (pss_cons (ps_set (i := 2) sc_lmade.nd rfl (Or.inl rfl) (pe_mkx (k_Wire T) hr (by decide) rfl pass0 (pa_cons (pv 0) pa_nil)))
    (pss_cons (ps_for PassesOwn.never rfl (pi_list (pv 1)) (pg_name (i := 3) sc_lmade.nd rfl (Or.inl rfl))
      (pss_one (ps_expr (pe_mx (m_Wire_hang T) hr (by decide) (pv 2) (passes_call (E := fun _ _ _ => False) L2.takes0 (fun _ _ _ _ h => h)) (pa_cons (pv 3) pa_nil)))))
    (pss_one (ps_ret (pv 2))))), ?_⟩
    refine ⟨_, rfl, fun pw dx hpw hdx hnx => ⟨pw, dx, W, rfl, upd_same, hW1, hW2, fun dh dl H1 hdh hdl k1 k2 k3 f1 => ⟨rfl, ?_⟩⟩⟩
    have f01 : Frm [] H H1 := Frm.fresh (((Frm.refl _ _).new hdx).new hpw) f1 (by simpa using hpw)
    have hdh0 : H dh = none := upd_back (upd_back hdh)
    have hdl0 : H dl = none := upd_back (upd_back hdl)
    have hp1 := f01.k _ _ hp rfl (by simp)
    refine ⟨_, rfl, pn, rfl, ⟨_, SqL.of hp1⟩, for_list (K := K) (a := pn) (xs := names.map V.str) (fun i σ H' => ∃ (v3 : Option V) (dl' : Addr), σ = [some (.int W), some (.ref pn), some (.ref pw), v3] ∧ WiAt K H' pw dh dl' W (calmK (names.take i)) [] W 0 ∧ H dl' = none ∧ FrT K [] H H')
      ⟨none, dl, rfl, ⟨⟨dx, k1⟩, k2, k3⟩, hdl0, f01.toT .nil⟩ (fun i σ H' _ ⟨_, _, _, _, _, f⟩ => SqL.of (f.k _ _ hp rfl (by simp))) ?_ ?_⟩
    · rintro i y σ H2 hi ⟨v3, dl2, rfl, wa2, hdl2, f2⟩
      obtain ⟨x, hx, rfl⟩ := at_map hi
      have hxn : x ∉ names.take i := fun z => by
        obtain ⟨j, hj⟩ := List.getElem?_of_mem z
        have hji : j < i := by
          have := (List.getElem?_eq_some_iff.mp hj).1
          rw [List.length_take] at this
          omega
        rw [List.getElem?_take_of_lt hji] at hj
        have := (List.getElem?_inj (by exact (List.getElem?_eq_some_iff.mp hj).1) hnd).mp (hj.trans hx.symm)
        omega
      obtain ⟨q1, q2⟩ := calm_new hxn
      obtain ⟨⟨dx2, w1⟩, w2, w3⟩ := id wa2
      refine ⟨_, rfl, pw, dx2, _, rfl, w1, wx_hang, _, rfl, pw, dh, dl2, x, W, calmK (names.take i), [], W, 0, rfl, wa2, hnum x (List.mem_of_getElem? hx), hW2, ?_, by show 0 ≤ 100; decide, f2.t ht, fun z => absurd q1 z, fun _ dl3 H3 hdl3 wa3 f3 => ?_⟩
      · unfold calmK
        rw [List.length_map, List.length_take]
        omega
      · refine ⟨_, dl3, rfl, ?_, hdl3.elim (fun e => by rw [e]; exact hdl2) (fun z => f2.b _ z), f2.fresh f3 ?_⟩
        · rw [take_snoc hx, ← q2]
          exact wa3
        · intro b hb
          simp only [List.mem_cons, List.not_mem_nil, or_false] at hb
          rcases hb with rfl | rfl
          · exact hpw
          · exact hdh0
    · rintro σ H2 ⟨v3, dl2, rfl, wa2, hdl2, f2⟩
      rw [List.length_map, List.take_length] at wa2
      exact ⟨_, rfl, k pw dh dl2 H2 hpw hdh0 hdl2 wa2 f2⟩
end
end B

set_option Elab.async false
set_option linter.all false
set_option maxRecDepth 100000
set_option maxHeartbeats 4000000
namespace B
open PySem PySem.Spec PyProof.Rows L2
open SX (S)
/-! ### an own walk -/
def wkv (kd : Str) (pr : Addr) (sd : V) (pf pp : Addr) : List (Key × V) := [(.inr "kind", .str kd), (.inr "rest", .ref pr), (.inr "said", sd), (.inr "found", .ref pf), (.inr "paper", .ref pp)]
section
variable {H : Hp} {pk pr pf pp : Addr} {kd : Str} {sd : V}
theorem kv_kind : valV (wkv kd pr sd pf pp) (.inr "kind" : Key) = some (.str kd) := by kernel_rfl
theorem kv_rest : valV (wkv kd pr sd pf pp) (.inr "rest" : Key) = some (.ref pr) := by kernel_rfl
theorem kv_said : valV (wkv kd pr sd pf pp) (.inr "said" : Key) = some sd := by kernel_rfl
theorem kv_found : valV (wkv kd pr sd pf pp) (.inr "found" : Key) = some (.ref pf) := by kernel_rfl
theorem kv_paper : valV (wkv kd pr sd pf pp) (.inr "paper" : Key) = some (.ref pp) := by kernel_rfl
theorem kp_said {v : V} : putK (wkv kd pr sd pf pp) (.inr "said" : Key) v = wkv kd pr v pf pp := by kernel_rfl
theorem wk_kind (h : H pk = some (.dK (wkv kd pr sd pf pp))) : DGet H pk (.str "kind") (some (.str kd)) := by rw [← kv_kind (kd := kd) (pr := pr) (sd := sd) (pf := pf) (pp := pp)]; exact DGet.k (k := Sum.inr "kind") h
theorem wk_rest (h : H pk = some (.dK (wkv kd pr sd pf pp))) : DGet H pk (.str "rest") (some (.ref pr)) := by rw [← kv_rest (kd := kd) (pr := pr) (sd := sd) (pf := pf) (pp := pp)]; exact DGet.k (k := Sum.inr "rest") h
theorem wk_said (h : H pk = some (.dK (wkv kd pr sd pf pp))) : DGet H pk (.str "said") (some sd) := by rw [← kv_said (kd := kd) (pr := pr) (sd := sd) (pf := pf) (pp := pp)]; exact DGet.k (k := Sum.inr "said") h
theorem wk_found (h : H pk = some (.dK (wkv kd pr sd pf pp))) : DGet H pk (.str "found") (some (.ref pf)) := by rw [← kv_found (kd := kd) (pr := pr) (sd := sd) (pf := pf) (pp := pp)]; exact DGet.k (k := Sum.inr "found") h
theorem wk_paper (h : H pk = some (.dK (wkv kd pr sd pf pp))) : DGet H pk (.str "paper") (some (.ref pp)) := by rw [← kv_paper (kd := kd) (pr := pr) (sd := sd) (pf := pf) (pp := pp)]; exact DGet.k (k := Sum.inr "paper") h
theorem wkp_said {v : V} (h : H pk = some (.dK (wkv kd pr sd pf pp))) : DPut H pk (.str "said") v (upd H pk (.dK (wkv kd pr v pf pp))) := by rw [← kp_said (sd := sd)]; exact DPut.k (k := Sum.inr "said") h (by show 5 < sizeLine; decide)
end
/-- a walk's state -/
structure WkS where
  kd : Str
  rest : List (List Nat)
  sd : Option (List Nat)
  found : List (List Nat)
  paper : List (List Nat × Bool × Bool)
def txV (l : List Nat) : V := .str (S l)
structure WkAt (H : Hp) (pk pr pf pp : Addr) (st : WkS) : Prop where
  ob : H pk = some (.dK (wkv st.kd pr (sdV st.sd) pf pp))
  rs : H pr = some (.lst (st.rest.map txV))
  fd : H pf = some (.lst (st.found.map txV))
  pa : ∃ ts : List Addr, H pp = some (.lst (ts.map V.ref)) ∧ ts.length = st.paper.length ∧ ∀ (i : Nat) (t : Addr) (q : List Nat × Bool × Bool), ts[i]? = some t → st.paper[i]? = some q → H t = some (.tup [txV q.1, .bl q.2.1, .bl q.2.2])
  ne : pr ≠ pf ∧ pr ≠ pp ∧ pf ≠ pp
section
variable {P : Program} {w : World} {K : PySem.W.Frag} {mg : Str → Option Value} {base : Heap}
/-- an own walk, new -/
def spPath : Sp := fun vs H Q _ => ∃ kd : Str, vs = [.str kd] ∧ ∀ (pk pr pf pp : Addr) (H' : Hp), H pk = none → H pr = none → H pf = none → H pp = none → WkAt H' pk pr pf pp ⟨kd, [[]], none, [], []⟩ → Frm [] H H' → Q (.ref pk) H'
theorem big6 {n : Nat} (h : n < 1000000) : n < sizeLine := Nat.lt_of_lt_of_le h (by decide)
/-- what an own round comes to -/
inductive Tld where
  | no | lost | found (l : List Nat)
def TldAt (H : Hp) : Tld → V → Prop
  | .no, v => v = .non
  | .lost, v => ∃ t, v = .ref t ∧ H t = some (.tup [.str "lost"])
  | .found l, v => ∃ t, v = .ref t ∧ H t = some (.tup [.str "found", txV l])
/-- the round's end, if all bits are said -/
def overF (W : Nat) (st : WkS) (l : List Nat) : WkS × Tld := if l.length < W then ({ st with sd := some l }, .no) else ({ st with sd := none, found := st.found ++ [l] }, .found l)
def spOver : Sp := fun vs H Q _ => ∃ (pk pr pf pp pm dt ml : Addr) (W : Nat) (kvs : List (Str × Bool)) (lm : List Str) (sdm : Option (List Nat)) (lk : Int) (st : WkS) (l : List Nat), vs = [.ref pk, .ref pm] ∧ WkAt H pk pr pf pp st ∧ MdAt H pm dt ml W kvs lm sdm lk ∧ st.sd = some l ∧ l.length ≤ 100 ∧ st.found.length < 1000000 ∧
  ∀ (v : V) (H' : Hp), WkAt H' pk pr pf pp (overF W st l).1 → TldAt H' (overF W st l).2 v → Frm [pk, pf] H H' → Q v H'
end
end B

set_option Elab.async false
set_option linter.all false
set_option maxRecDepth 100000
set_option maxHeartbeats 4000000
namespace B
open PySem PySem.Spec PyProof.Rows L2
open SX (S)
/-- begins so -/
def starts (l : List Nat) (x : Str) : Bool := decide (x.cps.toList.take l.length = l)
/-- who listens behind a beginning -/
def begF (kvs : List (Str × Bool)) (kd : Str) (l : List Nat) : List Str := (lisB kvs (decide (kd = "all"))).filter (starts l)
theorem begF_nil {kvs : List (Str × Bool)} {kd : Str} : begF kvs kd [] = lisB kvs (decide (kd = "all")) := by
  unfold begF
  refine List.filter_eq_self.mpr fun x _ => ?_
  exact decide_eq_true rfl
theorem starts_snoc {l : List Nat} {c : Nat} {x : Str} : starts (l ++ [c]) x = (sg l.length c x && starts l x) := by
  unfold starts sg
  rw [Bool.eq_iff_iff, Bool.and_eq_true, decide_eq_true_eq, decide_eq_true_eq, decide_eq_true_eq]
  generalize x.cps.toList = m
  rw [List.length_append, List.length_singleton, List.take_succ]
  constructor
  · intro h
    have hl : (m.take l.length ++ m[l.length]?.toList).length = l.length + 1 := by rw [h]; simp
    cases q : m[l.length]? with
    | none =>
      rw [q] at hl
      simp only [Option.toList, List.append_nil, List.length_take] at hl
      omega
    | some d =>
      rw [q] at h
      have e := List.append_inj' h rfl
      exact ⟨congrArg some (List.singleton_inj.mp e.2), e.1⟩
  · rintro ⟨h1, h2⟩
    rw [h1, h2]
    rfl
theorem begF_snoc {kvs : List (Str × Bool)} {kd : Str} {l : List Nat} {c : Nat} : begF kvs kd (l ++ [c]) = (begF kvs kd l).filter (sg l.length c) := by
  unfold begF
  rw [List.filter_filter]
  apply List.filter_congr
  intro x _
  exact starts_snoc
theorem lisB_sub (kvs : List (Str × Bool)) (all : Bool) : (lisB kvs all).length ≤ kvs.length ∧ ∀ x ∈ lisB kvs all, x ∈ kvs.map (·.1) := by
  unfold lisB
  refine ⟨?_, fun x hx => ?_⟩
  · rw [List.length_map]
    exact List.length_filter_le _ _
  · obtain ⟨p, hp, e⟩ := List.mem_map.mp hx
    exact List.mem_map.mpr ⟨p, (List.mem_filter.mp hp).1, e⟩
theorem begF_sub {kvs : List (Str × Bool)} {kd : Str} {l : List Nat} : (begF kvs kd l).length ≤ kvs.length ∧ ∀ x ∈ begF kvs kd l, x ∈ kvs.map (·.1) ∧ starts l x = true := by
  have h := lisB_sub kvs (decide (kd = "all"))
  refine ⟨Nat.le_trans (List.length_filter_le _ _) h.1, fun x hx => ?_⟩
  obtain ⟨h1, h2⟩ := List.mem_filter.mp hx
  exact ⟨h.2 x h1, h2⟩
/-- a step told: the walk, what comes of its round, who listens, what is said on the wire, the looks -/
def stepF (W : Nat) (kvs : List (Str × Bool)) (lm : List Str) (lk : Int) (st : WkS) : (WkS × Tld) × List Str × Option (List Nat) × Int :=
  match st.sd with
  | none => (overF W { st with rest := st.rest.dropLast } (st.rest.getLast?.getD []), begF kvs st.kd (st.rest.getLast?.getD []), some (st.rest.getLast?.getD []), lk)
  | some l =>
    let z := lm.any (sg l.length 48)
    let o := lm.any (sg l.length 49)
    let st1 : WkS := { st with paper := st.paper ++ [(l, z, o)] }
    if z = false ∧ o = false then (({ st1 with sd := none }, .lost), lm, some l, lk + 1)
    else
      let b := if z = true then 48 else 49
      let st2 : WkS := if z = true ∧ o = true then { st1 with rest := st1.rest ++ [l ++ [49]] } else st1
      (overF W st2 (l ++ [b]), lm.filter (sg l.length b), some (l ++ [b]), lk + 1)
theorem WkAt.stay {T : List Addr} {H H' : Hp} {pk pr pf pp : Addr} {st : WkS} (h : WkAt H pk pr pf pp st) (f : Frm T H H') (n : NL T H) (h1 : pk ∉ T) (h2 : pr ∉ T) (h3 : pf ∉ T) (h4 : pp ∉ T) : WkAt H' pk pr pf pp st := by
  obtain ⟨o1, o2, o3, ⟨ts, o4, o5, o6⟩, n⟩ := h
  exact ⟨f.k _ _ o1 rfl h1, f.k _ _ o2 rfl h2, f.k _ _ o3 rfl h3, ⟨ts, f.k _ _ o4 rfl h4, o5, fun i t q a b => f.at ‹NL T H› (o6 i t q a b) rfl rfl⟩, n⟩
section
variable {P : Program} {w : World} {K : PySem.W.Frag} {mg : Str → Option Value} {base : Heap}
def spStep : Sp := fun vs H Q _ => ∃ (pk pr pf pp pm dt ml : Addr) (W : Nat) (kvs : List (Str × Bool)) (lm : List Str) (sdm : Option (List Nat)) (lk : Int) (st : WkS), vs = [.ref pk, .ref pm] ∧ WkAt H pk pr pf pp st ∧ MdAt H pm dt ml W kvs lm sdm lk ∧ pm ≠ dt ∧ pk ≠ pm ∧ pk ≠ dt ∧ (ml ≠ pr ∧ ml ≠ pf ∧ ml ≠ pp) ∧
  (kvs.map (·.1)).Nodup ∧ kvs.length ≤ 100 ∧ (∀ x ∈ kvs.map (·.1), Num W x) ∧ lm.length ≤ 100 ∧ W ≤ 12 ∧ st.rest.length < 999999 ∧ st.found.length < 999999 ∧ st.paper.length < 999999 ∧
  (st.sd = none → ∃ r g, st.rest = r ++ [g] ∧ g.length ≤ W ∧ Bits g) ∧ (∀ l, st.sd = some l → sdm = some l ∧ l.length < W ∧ Bits l ∧ ∀ x ∈ lm, Beg W l x) ∧
  ∀ (v : V) (ml' : Addr) (H' : Hp), (ml' = ml ∨ H ml' = none) → WkAt H' pk pr pf pp (stepF W kvs lm lk st).1.1 → TldAt H' (stepF W kvs lm lk st).1.2 v → MdAt H' pm dt ml' W kvs (stepF W kvs lm lk st).2.1 (stepF W kvs lm lk st).2.2.1 (stepF W kvs lm lk st).2.2.2 → Frm [pk, pr, pf, pp, pm] H H' → Q v H'
end
end B

set_option Elab.async false
set_option linter.all false
set_option maxRecDepth 100000
set_option maxHeartbeats 4000000
namespace B
open PySem PySem.Spec PyProof.Rows L2
open SX (S)
/-! ### a step keeps a walk well -/
theorem S_list (m : List Nat) : (S m).cps.toList = m := by simp [SX.S]
theorem beg_starts {W : Nat} {l : List Nat} {x : Str} (h : Num W x) (hs : starts l x = true) : Beg W l x := by
  obtain ⟨m, rfl, e, b⟩ := h
  have z := of_decide_eq_true hs
  rw [S_list] at z
  exact ⟨m, rfl, e, b, z⟩
theorem beg_next' {W : Nat} {l : List Nat} {x : Str} {c : Nat} (h : Beg W l x) (hc : sg l.length c x = true) : Beg W (l ++ [c]) x := by
  refine beg_starts h.num ?_
  rw [starts_snoc, hc]
  obtain ⟨m, rfl, e, b, t⟩ := h
  unfold starts
  rw [S_list, t, decide_eq_true rfl]
  rfl
structure WkOk (W : Nat) (lm : List Str) (sdm : Option (List Nat)) (st : WkS) (n : Nat) : Prop where
  rest : ∀ g ∈ st.rest, g.length ≤ W ∧ Bits g
  said : ∀ l, st.sd = some l → sdm = some l ∧ l.length < W ∧ Bits l ∧ ∀ x ∈ lm, Beg W l x
  len : st.rest.length ≤ n ∧ st.found.length ≤ n ∧ st.paper.length ≤ n
  lm : lm.length ≤ 100
theorem WkOk.none_ {W n : Nat} {lm : List Str} {sdm : Option (List Nat)} {st : WkS} (h : WkOk W lm sdm st n) (hr : st.rest ≠ []) : ∃ r g, st.rest = r ++ [g] ∧ g.length ≤ W ∧ Bits g := by
  refine ⟨st.rest.dropLast, st.rest.getLast hr, (List.dropLast_concat_getLast hr).symm, ?_⟩
  exact h.rest _ (List.getLast_mem hr)
theorem over_ok {W n : Nat} {lm : List Str} {st : WkS} {l : List Nat} (hr : ∀ g ∈ st.rest, g.length ≤ W ∧ Bits g) (hl : st.rest.length ≤ n ∧ st.found.length ≤ n - 1 ∧ st.paper.length ≤ n) (hn : 1 ≤ n) (hm : lm.length ≤ 100) (hb : Bits l) (hbeg : ∀ x ∈ lm, Beg W l x) : WkOk W lm (some l) (overF W st l).1 n := by
  unfold overF
  split
  · rename_i h
    exact ⟨hr, fun l' e => by cases e; exact ⟨rfl, h, hb, hbeg⟩, ⟨hl.1, by show st.found.length ≤ n; omega, hl.2.2⟩, hm⟩
  · refine ⟨hr, fun l' e => (by cases e), ⟨hl.1, ?_, hl.2.2⟩, hm⟩
    show (st.found ++ [l]).length ≤ n
    rw [List.length_append, List.length_singleton]
    omega
theorem step_ok {W n : Nat} {kvs : List (Str × Bool)} {lm : List Str} {sdm : Option (List Nat)} {lk : Int} {st : WkS} (h : WkOk W lm sdm st n) (hr : st.sd = none → st.rest ≠ []) (hk : kvs.length ≤ 100) (hkn : ∀ x ∈ kvs.map (·.1), Num W x) :
    WkOk W (stepF W kvs lm lk st).2.1 (stepF W kvs lm lk st).2.2.1 (stepF W kvs lm lk st).1.1 (n + 1) := by
  obtain ⟨kd, rest, sd, found, paper⟩ := st
  obtain ⟨h1, h2, ⟨h3, h4, h5⟩, h6⟩ := id h
  dsimp only at h1 h2 h3 h4 h5
  cases sd with
  | none =>
    obtain ⟨r, g, e, hg, hb⟩ := h.none_ (hr rfl)
    dsimp only at e
    subst e
    have e0 : stepF W kvs lm lk ⟨kd, r ++ [g], none, found, paper⟩ = (overF W ⟨kd, r, none, found, paper⟩ g, begF kvs kd g, some g, lk) := by
      unfold stepF
      simp
    rw [e0]
    have bs := begF_sub (kvs := kvs) (kd := kd) (l := g)
    rw [List.length_append, List.length_singleton] at h3
    refine over_ok (fun q hq => h1 q (List.mem_append_left _ hq)) ⟨?_, ?_, ?_⟩ (by omega) (by show (begF kvs kd g).length ≤ 100; omega) hb fun x hx => beg_starts (hkn x (bs.2 x hx).1) (bs.2 x hx).2
    · show r.length ≤ n + 1
      omega
    · show found.length ≤ n + 1 - 1
      omega
    · show paper.length ≤ n + 1
      omega
  | some l =>
    obtain ⟨e, hlt, hlb, hbeg⟩ := h2 l rfl
    subst e
    have hp : ∀ q : List Nat × Bool × Bool, (paper ++ [q]).length ≤ n + 1 := fun q => by
      rw [List.length_append, List.length_singleton]
      omega
    unfold stepF
    dsimp only
    split
    · exact ⟨h1, fun l' e => (by cases e), ⟨by show rest.length ≤ n + 1; omega, by show found.length ≤ n + 1; omega, hp _⟩, h6⟩
    · have hbit : ∀ z : Bool, (if z = true then 48 else 49) = 48 ∨ (if z = true then 48 else 49) = 49 := fun z => by cases z <;> simp
      have bb : ∀ c : Nat, c = 48 ∨ c = 49 → Bits (l ++ [c]) := fun c hc => hlb.snoc hc
      refine over_ok ?_ ⟨?_, ?_, ?_⟩ (by omega) ?_ (bb _ (hbit _)) ?_
      · split
        · intro g hg
          rcases List.mem_append.mp hg with z | z
          · exact h1 g z
          · rw [List.mem_singleton.mp z, List.length_append, List.length_singleton]
            exact ⟨by omega, bb 49 (.inr rfl)⟩
        · exact h1
      · split
        · show (rest ++ [l ++ [49]]).length ≤ n + 1
          rw [List.length_append, List.length_singleton]
          omega
        · show rest.length ≤ n + 1
          omega
      · split
        · show found.length ≤ n + 1 - 1
          omega
        · show found.length ≤ n + 1 - 1
          omega
      · split
        · exact hp _
        · exact hp _
      · exact Nat.le_trans (List.length_filter_le _ _) h6
      · intro x hx
        obtain ⟨x1, x2⟩ := List.mem_filter.mp hx
        exact beg_next' (hbeg x x1) x2
theorem over_no {W : Nat} {st : WkS} {l : List Nat} (h : (overF W st l).2 = .no) : (overF W st l).1.sd = some l ∧ l.length < W := by
  unfold overF at h ⊢
  split
  · rename_i c
    exact ⟨rfl, c⟩
  · rename_i c
    rw [if_neg c] at h
    cases h
theorem step_no {W : Nat} {kvs : List (Str × Bool)} {lm : List Str} {lk : Int} {st : WkS} (h : (stepF W kvs lm lk st).1.2 = .no) : ∃ l', (stepF W kvs lm lk st).1.1.sd = some l' ∧ l'.length < W ∧ ∀ l, st.sd = some l → l'.length = l.length + 1 := by
  obtain ⟨kd, rest, sd, found, paper⟩ := st
  cases sd with
  | none =>
    have q := over_no (W := W) (st := ⟨kd, rest.dropLast, none, found, paper⟩) (l := rest.getLast?.getD []) h
    exact ⟨_, q.1, q.2, fun l e => by cases e⟩
  | some l =>
    unfold stepF at h ⊢
    dsimp only at h ⊢
    split
    · rename_i c
      rw [if_pos c] at h
      cases h
    · rename_i c
      rw [if_neg c] at h
      have q := over_no h
      exact ⟨_, q.1, q.2, fun l' e => by cases e; rw [List.length_append, List.length_singleton]⟩
/-- steps till a round is over -/
def roundF (W : Nat) (kvs : List (Str × Bool)) : Nat → List Str → Int → WkS → (WkS × Tld) × List Str × Option (List Nat) × Int
  | 0, lm, lk, st => stepF W kvs lm lk st
  | n + 1, lm, lk, st => match (stepF W kvs lm lk st).1.2 with
    | .no => roundF W kvs n (stepF W kvs lm lk st).2.1 (stepF W kvs lm lk st).2.2.2 (stepF W kvs lm lk st).1.1
    | _ => stepF W kvs lm lk st
theorem round_no {W n : Nat} {kvs : List (Str × Bool)} {lm : List Str} {lk : Int} {st : WkS} (h : (stepF W kvs lm lk st).1.2 = .no) : roundF W kvs (n + 1) lm lk st = roundF W kvs n (stepF W kvs lm lk st).2.1 (stepF W kvs lm lk st).2.2.2 (stepF W kvs lm lk st).1.1 := by
  show (match (stepF W kvs lm lk st).1.2 with | .no => _ | _ => _) = _
  rw [h]
theorem round_yes {W n : Nat} {kvs : List (Str × Bool)} {lm : List Str} {lk : Int} {st : WkS} (h : (stepF W kvs lm lk st).1.2 ≠ .no) : roundF W kvs n lm lk st = stepF W kvs lm lk st := by
  cases n with
  | zero => rfl
  | succ n =>
    show (match (stepF W kvs lm lk st).1.2 with | .no => _ | _ => _) = _
    cases q : (stepF W kvs lm lk st).1.2 with
    | no => exact absurd q h
    | lost => rfl
    | found l => rfl
section
variable {P : Program} {w : World} {K : PySem.W.Frag} {mg : Str → Option Value} {base : Heap}
def spRound_ : Sp := fun vs H Q _ => ∃ (pk pr pf pp pm dt ml : Addr) (W n : Nat) (kvs : List (Str × Bool)) (lm : List Str) (sdm : Option (List Nat)) (lk : Int) (st : WkS), vs = [.ref pk, .ref pm] ∧ WkAt H pk pr pf pp st ∧ MdAt H pm dt ml W kvs lm sdm lk ∧ pm ≠ dt ∧ pk ≠ pm ∧ pk ≠ dt ∧ (ml ≠ pr ∧ ml ≠ pf ∧ ml ≠ pp) ∧
  (kvs.map (·.1)).Nodup ∧ kvs.length ≤ 100 ∧ (∀ x ∈ kvs.map (·.1), Num W x) ∧ W ≤ 12 ∧ WkOk W lm sdm st n ∧ n ≤ 900000 ∧ (st.sd = none → st.rest ≠ []) ∧
  ∀ (v : V) (ml' : Addr) (H' : Hp), (ml' = ml ∨ H ml' = none) → WkAt H' pk pr pf pp (roundF W kvs W lm lk st).1.1 → TldAt H' (roundF W kvs W lm lk st).1.2 v → MdAt H' pm dt ml' W kvs (roundF W kvs W lm lk st).2.1 (roundF W kvs W lm lk st).2.2.1 (roundF W kvs W lm lk st).2.2.2 → Frm [pk, pr, pf, pp, pm] H H' → Q v H'
end
end B

set_option Elab.async false
set_option linter.all false
set_option maxRecDepth 100000
set_option maxHeartbeats 4000000
namespace B
open PySem PySem.Spec PyProof.Rows L2
open SX (S)
/-! ### a walk ends -/
/-- of a beginning to go to; of what is said -/
def wR (W : Nat) (g : List Nat) : Nat := 2 ^ (W - g.length + 2) - 1
def wS (W : Nat) (l : List Nat) : Nat := 2 ^ (W - l.length + 2) - 2
def sumR (W : Nat) : List (List Nat) → Nat
  | [] => 0
  | g :: r => wR W g + sumR W r
theorem sumR_app {W : Nat} : ∀ {a b : List (List Nat)}, sumR W (a ++ b) = sumR W a + sumR W b
  | [], b => by show sumR W b = 0 + sumR W b; omega
  | g :: a, b => by
    have := sumR_app (W := W) (a := a) (b := b)
    show wR W g + sumR W (a ++ b) = wR W g + sumR W a + sumR W b
    omega
def meas (W : Nat) (st : WkS) : Nat := sumR W st.rest + (match st.sd with | none => 0 | some l => wS W l)
theorem two_pow {n : Nat} : 4 ≤ 2 ^ (n + 2) := by
  have := Nat.one_le_two_pow (n := n)
  rw [Nat.pow_add]
  omega
theorem over_meas {W : Nat} {st : WkS} {l : List Nat} : meas W (overF W st l).1 ≤ sumR W st.rest + wS W l := by
  unfold overF meas
  split
  · exact Nat.le_refl _
  · show sumR W st.rest + 0 ≤ _
    omega
theorem step_meas {W n : Nat} {kvs : List (Str × Bool)} {lm : List Str} {sdm : Option (List Nat)} {lk : Int} {st : WkS} (h : WkOk W lm sdm st n) (hr : st.sd = none → st.rest ≠ []) : meas W (stepF W kvs lm lk st).1.1 < meas W st := by
  obtain ⟨kd, rest, sd, found, paper⟩ := st
  cases sd with
  | none =>
    obtain ⟨r, g, e, hg, hb⟩ := h.none_ (hr rfl)
    dsimp only at e
    subst e
    have e0 : stepF W kvs lm lk ⟨kd, r ++ [g], none, found, paper⟩ = (overF W ⟨kd, r, none, found, paper⟩ g, begF kvs kd g, some g, lk) := by
      unfold stepF
      simp
    rw [e0]
    have q := over_meas (W := W) (st := ⟨kd, r, none, found, paper⟩) (l := g)
    refine Nat.lt_of_le_of_lt q ?_
    show sumR W r + wS W g < sumR W (r ++ [g]) + 0
    rw [sumR_app]
    show sumR W r + wS W g < sumR W r + (wR W g + 0) + 0
    have := two_pow (n := W - g.length)
    unfold wS wR
    omega
  | some l =>
    obtain ⟨_, hlt, _, _⟩ := h.said l rfl
    unfold stepF
    dsimp only
    have p1 := two_pow (n := W - l.length)
    split
    · show sumR W rest + 0 < sumR W rest + wS W l
      unfold wS
      omega
    · refine Nat.lt_of_le_of_lt over_meas ?_
      have en : W - l.length = (W - (l.length + 1)) + 1 := by omega
      have lc : ∀ c : Nat, (l ++ [c]).length = l.length + 1 := fun c => by rw [List.length_append, List.length_singleton]
      have p2 := two_pow (n := W - (l.length + 1))
      have ep : 2 ^ (W - l.length + 2) = 2 * 2 ^ (W - (l.length + 1) + 2) := by
        rw [en, show W - (l.length + 1) + 1 + 2 = (W - (l.length + 1) + 2) + 1 from by omega, Nat.pow_succ]
        omega
      show sumR W _ + wS W _ < sumR W rest + wS W l
      split
      · show sumR W (rest ++ [l ++ [49]]) + wS W _ < _
        rw [sumR_app]
        show sumR W rest + (wR W (l ++ [49]) + 0) + wS W _ < sumR W rest + wS W l
        unfold wS wR
        rw [lc, lc, ep]
        omega
      · show sumR W rest + wS W _ < sumR W rest + wS W l
        unfold wS
        rw [lc, ep]
        omega
end B

set_option Elab.async false
set_option linter.all false
set_option maxRecDepth 100000
set_option maxHeartbeats 4000000
namespace B
open PySem PySem.Spec PyProof.Rows L2
open SX (S)
/-! ### the program's walk -/
abbrev VC (K : PySem.W.Frag) : Addr := He.ga K "Walk"
def vfl (pw : Addr) (kd : Str) (qr qf qp : Addr) (sd : V) : List (Str × V) := [("_wire", .ref pw), ("_kind", .str kd), ("_row", .ref qr), ("_found", .ref qf), ("_paper", .ref qp), ("_said", sd)]
structure VkAt (K : PySem.W.Frag) (H : Hp) (qk pw qr qf qp : Addr) (st : WkS) : Prop where
  ob : ∃ dx, H qk = some (.ins (VC K) dx (vfl pw st.kd qr qf qp (sdV st.sd)))
  rs : H qr = some (.lst (st.rest.map txV))
  fd : H qf = some (.lst (st.found.map txV))
  pa : ∃ ts : List Addr, H qp = some (.lst (ts.map V.ref)) ∧ ts.length = st.paper.length ∧ ∀ (i : Nat) (t : Addr) (q : List Nat × Bool × Bool), ts[i]? = some t → st.paper[i]? = some q → H t = some (.tup [txV q.1, .bl q.2.1, .bl q.2.2])
  ne : qr ≠ qf ∧ qr ≠ qp ∧ qf ≠ qp
section
variable {pw qr qf qp : Addr} {kd : Str} {sd v : V}
theorem vl_wire : (vfl pw kd qr qf qp sd).lookup ("_wire" : Str) = some (.ref pw) := by kernel_rfl
theorem vl_kind : (vfl pw kd qr qf qp sd).lookup ("_kind" : Str) = some (.str kd) := by kernel_rfl
theorem vl_row : (vfl pw kd qr qf qp sd).lookup ("_row" : Str) = some (.ref qr) := by kernel_rfl
theorem vl_found : (vfl pw kd qr qf qp sd).lookup ("_found" : Str) = some (.ref qf) := by kernel_rfl
theorem vl_paper : (vfl pw kd qr qf qp sd).lookup ("_paper" : Str) = some (.ref qp) := by kernel_rfl
theorem vl_said : (vfl pw kd qr qf qp sd).lookup ("_said" : Str) = some sd := by kernel_rfl
theorem vp_said : putF "_said" v (vfl pw kd qr qf qp sd) = vfl pw kd qr qf qp v := by kernel_rfl
theorem vp_new : putF "_said" .non (putF "_paper" (.ref qp) (putF "_found" (.ref qf) (putF "_row" (.ref qr) (putF "_kind" (.str kd) (putF "_wire" (.ref pw) []))))) = vfl pw kd qr qf qp .non := by kernel_rfl
theorem vl_len : (vfl pw kd qr qf qp sd).length < 1000 := by show 6 < 1000; decide
theorem vx_step : (vfl pw kd qr qf qp sd).lookup ("step" : Str) = none := by kernel_rfl
theorem vx_round : (vfl pw kd qr qf qp sd).lookup ("go_round" : Str) = none := by kernel_rfl
theorem vx_all : (vfl pw kd qr qf qp sd).lookup ("go_all" : Str) = none := by kernel_rfl
theorem vx_left : (vfl pw kd qr qf qp sd).lookup ("left" : Str) = none := by kernel_rfl
theorem vx_found : (vfl pw kd qr qf qp sd).lookup ("found" : Str) = none := by kernel_rfl
theorem vx_paper : (vfl pw kd qr qf qp sd).lookup ("paper" : Str) = none := by kernel_rfl
theorem vx_under : (vfl pw kd qr qf qp sd).lookup ("is_under_way" : Str) = none := by kernel_rfl
theorem vx_begin : (vfl pw kd qr qf qp sd).lookup ("_begin_round" : Str) = none := by kernel_rfl
theorem vx_say : (vfl pw kd qr qf qp sd).lookup ("_say" : Str) = none := by kernel_rfl
end
section
variable {P : Program} {w : World} {K : PySem.W.Frag} {mg : Str → Option Value} {base : Heap}
theorem vcl (T : Txt P w K mg base) : Cls K (VC K) := He.cls_ok (T.t.fact 90 (f := .cls "Walk"))
theorem vn_wire (T : Txt P w K mg base) : NoAttr K (VC K) "_wire" := He.noat_ok (T.t.fact 92 (f := .noat "Walk" "_wire"))
theorem vn_kind (T : Txt P w K mg base) : NoAttr K (VC K) "_kind" := He.noat_ok (T.t.fact 93 (f := .noat "Walk" "_kind"))
theorem vn_row (T : Txt P w K mg base) : NoAttr K (VC K) "_row" := He.noat_ok (T.t.fact 94 (f := .noat "Walk" "_row"))
theorem vn_found (T : Txt P w K mg base) : NoAttr K (VC K) "_found" := He.noat_ok (T.t.fact 95 (f := .noat "Walk" "_found"))
theorem vn_paper (T : Txt P w K mg base) : NoAttr K (VC K) "_paper" := He.noat_ok (T.t.fact 96 (f := .noat "Walk" "_paper"))
theorem vn_said (T : Txt P w K mg base) : NoAttr K (VC K) "_said" := He.noat_ok (T.t.fact 97 (f := .noat "Walk" "_said"))
end
section
variable {X : Cx}
theorem mk_Over (T : Txt X.prog X.w X.K X.mg X.base) {m : Str} {j : Nat} {p p2 pos : Pos} (hg : Gl X "Over" := by rfl) : PMk X (.Call (.Name "Over" p) [.Constant (.str m) j p2] [] pos) (fun _ H Q => Q (.ref (He.ga X.K "Over")) none H) := by
  obtain ⟨a, b, c, d⟩ := He.exc_ok (T.t.fact 113 (f := .exc "Over"))
  exact pmk_own PySem.F.excBase_ValueError a (g_Over T) b (raises_own c d) hg
end
theorem VkAt.keep {K : PySem.W.Frag} {S : List Addr} {H H' : Hp} {qk pw qr qf qp : Addr} {st : WkS} (h : VkAt K H qk pw qr qf qp st) (f : FrT K S H H') (n : NL S H) (h1 : qk ∉ S) (h2 : qr ∉ S) (h3 : qf ∉ S) (h4 : qp ∉ S) : VkAt K H' qk pw qr qf qp st := by
  obtain ⟨⟨dx, o1⟩, o2, o3, ⟨ts, o4, o5, o6⟩, ne⟩ := h
  exact ⟨⟨dx, f.k _ _ o1 rfl h1⟩, f.k _ _ o2 rfl h2, f.k _ _ o3 rfl h3, ⟨ts, f.k _ _ o4 rfl h4, o5, fun i t q a b => f.at n (o6 i t q a b) rfl rfl⟩, ne⟩
section
variable {P : Program} {w : World} {K : PySem.W.Frag} {mg : Str → Option Value} {base : Heap}
/-! ### a walk made -/
def spVNew (K : PySem.W.Frag) : Sp := fun vs H Q _ => ∃ (qk dx pw : Addr) (kd : Str), vs = [.ref qk, .ref pw, .str kd] ∧ (kd = "all" ∨ kd = "alarm") ∧ H qk = some (.ins (VC K) dx []) ∧ ∀ (qr qf qp : Addr) (H' : Hp), H qr = none → H qf = none → H qp = none → VkAt K H' qk pw qr qf qp ⟨kd, [[]], none, [], []⟩ → Frm [qk] H H' → Q .non H'
theorem k_Walk (T : Txt P w K mg base) : MakX CX0 P w K mg base 2 "Walk" (VC K) (spVNew K) := by
  obtain ⟨fd, F⟩ := T.t.def_ 18 (d := d_Walk_init)
  refine ⟨_, fd, _, He.mkr_ok (T.t.fact 91 (f := .mkr "Walk")), F.ok sc_Walk_init (fun vs H Q E h => ?_) (fun cdv A outer s H vs Q E hr h => ?_), g_Walk T, F.bindsN fun _ _ _ _ _ _ us hl => match us, hl with | [_, _, _], _ => rfl⟩
  · obtain ⟨qk, dx, pw, kd, rfl, _⟩ := h
    rfl
  · obtain ⟨qk, dx, pw, kd, rfl, hk, h1, k⟩ := h
    refine ⟨_, PSs.nox (pss_cons (ps_expr (pe_cx (c_require_kind T) hr (by decide) rfl pass0 (pa_cons (pv 2) pa_nil)))
    (pss_cons (ps_fld (pv 0) (pv 1) rfl)
    (pss_cons (ps_fld (pv 0) (pv 2) rfl)
    (pss_cons (ps_fld (pv 0) (pe_lst (pa_cons pe_str pa_nil)) rfl)
    (pss_cons (ps_fld (pv 0) (pe_lst pa_nil) rfl)
    (pss_cons (ps_fld (pv 0) (pe_lst pa_nil) rfl)
    (pss_one (ps_fld (pv 0) pe_non rfl)))))))), ?_⟩
    refine ⟨_, rfl, kd, rfl, hk, ?_⟩
    refine ⟨_, rfl, _, rfl, qk, _, dx, _, rfl, h1, vcl T, vn_wire T, by show 0 < 1000; decide, ?_⟩
    refine ⟨_, rfl, _, rfl, qk, _, dx, _, rfl, upd_same, vcl T, vn_kind T, by show 1 < 1000; decide, ?_⟩
    rw [upd_upd]
    refine ⟨by show 1 ≤ sizeLine; decide, fun qr hqr => ?_⟩
    have n1 : qk ≠ qr := ne_of_none upd_same hqr
    refine ⟨_, rfl, qk, _, dx, _, rfl, by rw [upd_ne n1]; exact upd_same, vcl T, vn_row T, by show 2 < 1000; decide, Nat.zero_le _, fun qf hqf => ?_⟩
    have n2 : qk ≠ qf := ne_of_none upd_same hqf
    have n3 : qr ≠ qf := ne_of_none (by rw [upd_ne n1.symm]; exact upd_same) hqf
    refine ⟨_, rfl, qk, _, dx, _, rfl, by rw [upd_ne n2]; exact upd_same, vcl T, vn_found T, by show 3 < 1000; decide, Nat.zero_le _, fun qp hqp => ?_⟩
    have n4 : qk ≠ qp := ne_of_none upd_same hqp
    have n5 : qf ≠ qp := ne_of_none (by rw [upd_ne n2.symm]; exact upd_same) hqp
    have n6 : qr ≠ qp := ne_of_none (by rw [upd_ne n1.symm, upd_ne n3, upd_ne n1.symm]; exact upd_same) hqp
    refine ⟨_, rfl, qk, _, dx, _, rfl, by rw [upd_ne n4]; exact upd_same, vcl T, vn_paper T, by show 4 < 1000; decide, ?_⟩
    refine ⟨_, rfl, qk, _, dx, _, rfl, upd_same, vcl T, vn_said T, by show 5 < 1000; decide, ?_⟩
    rw [vp_new]
    have r1 : H qr = none := upd_back hqr
    have r2 : H qf = none := upd_back (upd_back (upd_back hqf))
    have r3 : H qp = none := upd_back (upd_back (upd_back (upd_back (upd_back hqp))))
    have es : txV [] = V.str "" := congrArg V.str empty_S.symm
    refine k qr qf qp _ r1 r2 r3 ⟨⟨dx, upd_same⟩, ?_, ?_, ⟨[], ?_, rfl, fun i t q ht => by simp at ht⟩, n3, n6, n5⟩ (((((((((Frm.refl _ _).put (by simp)).new r1).put (by simp)).new r2).put (by simp)).new r3).put (by simp)).put (by simp))
    · rw [upd_ne n1.symm, upd_ne n1.symm, upd_ne n6, upd_ne n1.symm, upd_ne n3, upd_ne n1.symm, upd_same]
      show _ = some (HO.lst [txV []])
      rw [es]
    · rw [upd_ne n2.symm, upd_ne n2.symm, upd_ne n5, upd_ne n2.symm, upd_same]
      rfl
    · rw [upd_ne n4.symm, upd_ne n4.symm, upd_same]
      rfl
/-! ### what is told -/
def spVList (K : PySem.W.Frag) (f : WkS → List (List Nat)) : Sp := fun vs H Q _ => ∃ (qk pw qr qf qp : Addr) (st : WkS), vs = [.ref qk] ∧ VkAt K H qk pw qr qf qp st ∧ ∀ (p : Addr) (H' : Hp), H p = none → H' p = some (.lst ((f st).map txV)) → Frm [] H H' → Q (.ref p) H'
theorem m_Walk_left (T : Txt P w K mg base) : MetX CX0 P w K mg base 1 (VC K) "left" (spVList K WkS.rest) := by
  obtain ⟨fd, F⟩ := T.t.def_ 22 (d := d_Walk_left)
  refine ⟨_, fd, _, vcl T, He.meth_ok (T.t.fact 101 (f := .meth "Walk" "left")), F.ok sc_Walk_left (fun vs H Q E h => ?_) (fun cdv A outer s H vs Q E hr h => ?_), F.bindsN fun _ _ _ _ _ _ us hl => match us, hl with | [_], _ => rfl⟩
  · obtain ⟨qk, pw, qr, qf, qp, st, rfl, _⟩ := h
    rfl
  · obtain ⟨qk, pw, qr, qf, qp, st, rfl, ⟨⟨dx, o1⟩, o2, o3, o4, ne⟩, k⟩ := h
    refine ⟨_, PSs.nox (pss_one (ps_ret (pe_callTy call_list_of (by rfl) (n_list T) (by decide +kernel) (pa_cons (pe_fld (pv 0) (by rfl)) pa_nil)))), ?_⟩
    exact ⟨_, rfl, qk, _, dx, _, _, rfl, o1, vcl T, vn_row T, vl_row, qr, _, rfl, .inl (SqL.of o2), fun p hp => k p _ hp upd_same (Frm.of (same_upd hp))⟩
theorem m_Walk_found (T : Txt P w K mg base) : MetX CX0 P w K mg base 1 (VC K) "found" (spVList K WkS.found) := by
  obtain ⟨fd, F⟩ := T.t.def_ 23 (d := d_Walk_found)
  refine ⟨_, fd, _, vcl T, He.meth_ok (T.t.fact 102 (f := .meth "Walk" "found")), F.ok sc_Walk_found (fun vs H Q E h => ?_) (fun cdv A outer s H vs Q E hr h => ?_), F.bindsN fun _ _ _ _ _ _ us hl => match us, hl with | [_], _ => rfl⟩
  · obtain ⟨qk, pw, qr, qf, qp, st, rfl, _⟩ := h
    rfl
  · obtain ⟨qk, pw, qr, qf, qp, st, rfl, ⟨⟨dx, o1⟩, o2, o3, o4, ne⟩, k⟩ := h
    refine ⟨_, PSs.nox (pss_one (ps_ret (pe_callTy call_list_of (by rfl) (n_list T) (by decide +kernel) (pa_cons (pe_fld (pv 0) (by rfl)) pa_nil)))), ?_⟩
    exact ⟨_, rfl, qk, _, dx, _, _, rfl, o1, vcl T, vn_found T, vl_found, qf, _, rfl, .inl (SqL.of o3), fun p hp => k p _ hp upd_same (Frm.of (same_upd hp))⟩
/-- the paper, as a list of rows -/
def PapAt (H : Hp) (p : Addr) (pa : List (List Nat × Bool × Bool)) : Prop := ∃ ts : List Addr, H p = some (.lst (ts.map V.ref)) ∧ ts.length = pa.length ∧ ∀ (i : Nat) (t : Addr) (q : List Nat × Bool × Bool), ts[i]? = some t → pa[i]? = some q → H t = some (.tup [txV q.1, .bl q.2.1, .bl q.2.2])
def spVPaper (K : PySem.W.Frag) : Sp := fun vs H Q _ => ∃ (qk pw qr qf qp : Addr) (st : WkS), vs = [.ref qk] ∧ VkAt K H qk pw qr qf qp st ∧ ∀ (p : Addr) (H' : Hp), H p = none → PapAt H' p st.paper → Frm [] H H' → Q (.ref p) H'
def spVUnder (K : PySem.W.Frag) : Sp := fun vs H Q _ => ∃ (qk pw qr qf qp : Addr) (st : WkS), vs = [.ref qk] ∧ VkAt K H qk pw qr qf qp st ∧ Q (.bl st.sd.isSome) H
theorem m_Walk_is_under_way (T : Txt P w K mg base) : MetX CX0 P w K mg base 1 (VC K) "is_under_way" (spVUnder K) := by
  obtain ⟨fd, F⟩ := T.t.def_ 24 (d := d_Walk_is_under_way)
  refine ⟨_, fd, _, vcl T, He.meth_ok (T.t.fact 103 (f := .meth "Walk" "is_under_way")), F.ok sc_Walk_is_under_way (fun vs H Q E h => ?_) (fun cdv A outer s H vs Q E hr h => ?_), F.bindsN fun _ _ _ _ _ _ us hl => match us, hl with | [_], _ => rfl⟩
  · obtain ⟨qk, pw, qr, qf, qp, st, rfl, _⟩ := h
    rfl
  · obtain ⟨qk, pw, qr, qf, qp, ⟨kd, rest, sd, found, paper⟩, rfl, ⟨⟨dx, o1⟩, o2, o3, o4, ne⟩, k⟩ := h
    refine ⟨_, PSs.nox (pss_one (ps_ret (pe_cmpR op_notN (pe_fld (pv 0) (by rfl)) pe_non (nomark _)))), ?_⟩
    refine ⟨_, rfl, qk, _, dx, _, _, rfl, o1, vcl T, vn_said T, vl_said, rfl, ?_⟩
    cases sd with
    | none => exact k
    | some l => exact k
end
end B

set_option Elab.async false
set_option linter.all false
set_option maxRecDepth 100000
set_option maxHeartbeats 4000000
namespace B
open PySem PySem.Spec PyProof.Rows L2
open SX (S)
/-- has these signs from a place on -/
def behind (n : Nat) (g : List Nat) (x : Str) : Bool := decide ((x.cps.toList.drop n).take g.length = g)
theorem behind_nil {n : Nat} {x : Str} : behind n [] x = true := decide_eq_true rfl
theorem behind_snoc {n : Nat} {l : List Nat} {c : Nat} {x : Str} : behind n (l ++ [c]) x = (sg (n + l.length) c x && behind n l x) := by
  unfold behind sg
  rw [Bool.eq_iff_iff, Bool.and_eq_true, decide_eq_true_eq, decide_eq_true_eq, decide_eq_true_eq, ← List.getElem?_drop]
  generalize x.cps.toList.drop n = m
  rw [List.length_append, List.length_singleton, List.take_succ]
  constructor
  · intro h
    have hl : (m.take l.length ++ m[l.length]?.toList).length = l.length + 1 := by rw [h]; simp
    cases q : m[l.length]? with
    | none =>
      rw [q] at hl
      simp only [Option.toList, List.append_nil, List.length_take] at hl
      omega
    | some d =>
      rw [q] at h
      have e := List.append_inj' h rfl
      exact ⟨congrArg some (List.singleton_inj.mp e.2), e.1⟩
  · rintro ⟨h1, h2⟩
    rw [h1, h2]
    rfl
theorem behind_step {n : Nat} {l : List Nat} {c : Nat} {lw : List Str} : lw.filter (behind n (l ++ [c])) = (lw.filter (behind n l)).filter (sg (n + l.length) c) := by
  rw [List.filter_filter]
  exact List.filter_congr fun x _ => behind_snoc
theorem behind_all {n : Nat} {lw : List Str} : lw.filter (behind n []) = lw := List.filter_eq_self.mpr fun x _ => behind_nil
theorem behind_zero {g : List Nat} {x : Str} : behind 0 g x = starts g x := by
  unfold behind starts
  rw [List.drop_zero]
theorem behind_one {n c : Nat} {x : Str} : behind n [c] x = sg n c x := by
  have := behind_snoc (n := n) (l := []) (c := c) (x := x)
  rw [behind_nil, Bool.and_true] at this
  exact this
theorem vk_ne {K : PySem.W.Frag} {H : Hp} {qk pw qr qf qp dh dl : Addr} {st : WkS} {W : Nat} {kvs : List (Str × Bool)} {lw : List Str} {ms lk : Int} (h : VkAt K H qk pw qr qf qp st) (g : WiAt K H pw dh dl W kvs lw ms lk) : qk ≠ pw := by
  intro e
  obtain ⟨⟨dx, o1⟩, _⟩ := h
  obtain ⟨⟨dw, w1⟩, _⟩ := g
  subst e
  rw [o1] at w1
  have z := HO.ins.inj (Option.some.inj w1)
  have y := congrArg List.length z.2.2
  cases y
/-- tuples stay -/
def TupK (H H' : Hp) : Prop := ∀ t vs, H t = some (.tup vs) → H' t = some (.tup vs)
theorem TupK.put {H : Hp} {p : Addr} {o o' : HO} (h : H p = some o) (n : ∀ vs, o ≠ .tup vs) : TupK H (upd H p o') := fun t vs e => by
  rw [upd_ne (fun z => by rw [z, h] at e; exact n vs (Option.some.inj e))]
  exact e
theorem TupK.new {H : Hp} {p : Addr} {o' : HO} (h : H p = none) : TupK H (upd H p o') := fun t vs e => same_upd h _ _ e
theorem TupK.trans {H H1 H2 : Hp} (a : TupK H H1) (b : TupK H1 H2) : TupK H H2 := fun t vs e => b t vs (a t vs e)
theorem VkAt.set {K : PySem.W.Frag} {H H' : Hp} {qk pw qr qf qp : Addr} {st : WkS} (st' : WkS) (h : VkAt K H qk pw qr qf qp st) (h1 : ∃ dx, H' qk = some (.ins (VC K) dx (vfl pw st'.kd qr qf qp (sdV st'.sd)))) (h2 : H' qr = some (.lst (st'.rest.map txV))) (h3 : H' qf = some (.lst (st'.found.map txV))) (h4 : H' qp = H qp) (h5 : st'.paper = st.paper) (h6 : TupK H H') : VkAt K H' qk pw qr qf qp st' := by
  obtain ⟨_, _, _, ⟨ts, o4, o5, o6⟩, ne⟩ := h
  refine ⟨h1, h2, h3, ⟨ts, by rw [h4]; exact o4, by rw [h5]; exact o5, fun i t q a b => ?_⟩, ne⟩
  rw [h5] at b
  exact h6 _ _ (o6 i t q a b)
theorem VkAt.nek {K : PySem.W.Frag} {H : Hp} {qk pw qr qf qp : Addr} {st : WkS} (h : VkAt K H qk pw qr qf qp st) : qk ≠ qr ∧ qk ≠ qf ∧ qk ≠ qp := by
  obtain ⟨⟨dx, o1⟩, o2, o3, ⟨ts, o4, _⟩, _⟩ := h
  exact ⟨ne_of o1 o2 (by intro z; cases z), ne_of o1 o3 (by intro z; cases z), ne_of o1 o4 (by intro z; cases z)⟩
theorem VkAt.old {K : PySem.W.Frag} {H : Hp} {qk pw qr qf qp b : Addr} {st : WkS} (h : VkAt K H qk pw qr qf qp st) (hb : H b = none) : b ≠ qk ∧ b ≠ qr ∧ b ≠ qf ∧ b ≠ qp := by
  obtain ⟨⟨dx, o1⟩, o2, o3, ⟨ts, o4, _⟩, _⟩ := h
  exact ⟨(ne_of_none o1 hb).symm, (ne_of_none o2 hb).symm, (ne_of_none o3 hb).symm, (ne_of_none o4 hb).symm⟩
/-- what is said changed -/
theorem VkAt.say {K : PySem.W.Frag} {H : Hp} {qk pw qr qf qp dx : Addr} {st : WkS} {sd : Option (List Nat)} (h : VkAt K H qk pw qr qf qp st) : VkAt K (upd H qk (.ins (VC K) dx (vfl pw st.kd qr qf qp (sdV sd)))) qk pw qr qf qp { st with sd := sd } := by
  obtain ⟨n1, n2, n3⟩ := h.nek
  obtain ⟨⟨dx', o1⟩, o2, o3, _⟩ := id h
  exact h.set _ ⟨dx, upd_same⟩ (by rw [upd_ne n1.symm]; exact o2) (by rw [upd_ne n2.symm]; exact o3) (by rw [upd_ne n3.symm]) rfl (TupK.put o1 (by intro vs z; cases z))
theorem VkAt.row {K : PySem.W.Frag} {H : Hp} {qk pw qr qf qp : Addr} {st : WkS} {r : List (List Nat)} (h : VkAt K H qk pw qr qf qp st) : VkAt K (upd H qr (.lst (r.map txV))) qk pw qr qf qp { st with rest := r } := by
  obtain ⟨n1, n2, n3⟩ := h.nek
  obtain ⟨⟨dx', o1⟩, o2, o3, _, m1, m2, m3⟩ := id h
  exact h.set _ ⟨dx', by rw [upd_ne n1]; exact o1⟩ upd_same (by rw [upd_ne m1.symm]; exact o3) (by rw [upd_ne m2.symm]) rfl (TupK.put o2 (by intro vs z; cases z))
theorem VkAt.fnd {K : PySem.W.Frag} {H : Hp} {qk pw qr qf qp : Addr} {st : WkS} {r : List (List Nat)} (h : VkAt K H qk pw qr qf qp st) : VkAt K (upd H qf (.lst (r.map txV))) qk pw qr qf qp { st with found := r } := by
  obtain ⟨n1, n2, n3⟩ := h.nek
  obtain ⟨⟨dx', o1⟩, o2, o3, _, m1, m2, m3⟩ := id h
  exact h.set _ ⟨dx', by rw [upd_ne n2]; exact o1⟩ (by rw [upd_ne m1]; exact o2) upd_same (by rw [upd_ne m3.symm]) rfl (TupK.put o3 (by intro vs z; cases z))
theorem VkAt.new {K : PySem.W.Frag} {H : Hp} {qk pw qr qf qp p : Addr} {o : HO} {st : WkS} (h : VkAt K H qk pw qr qf qp st) (hp : H p = none) : VkAt K (upd H p o) qk pw qr qf qp st := by
  obtain ⟨⟨dx', o1⟩, o2, o3, ⟨ts, o4, _⟩, _⟩ := id h
  exact h.set _ ⟨dx', same_upd hp _ _ o1⟩ (same_upd hp _ _ o2) (same_upd hp _ _ o3) (by rw [same_upd hp _ _ o4, o4]) rfl (TupK.new hp)
/-- a look written down -/
theorem VkAt.pap {K : PySem.W.Frag} {H : Hp} {qk pw qr qf qp t : Addr} {st : WkS} {ts : List Addr} {q : List Nat × Bool × Bool} (h : VkAt K H qk pw qr qf qp st) (hts : H qp = some (.lst (ts.map V.ref))) (ht : H t = none) : VkAt K (upd (upd H t (.tup [txV q.1, .bl q.2.1, .bl q.2.2])) qp (.lst (ts.map V.ref ++ [.ref t]))) qk pw qr qf qp { st with paper := st.paper ++ [q] } := by
  obtain ⟨n1, n2, n3⟩ := h.nek
  obtain ⟨⟨dx', o1⟩, o2, o3, ⟨ts', o4, o5, o6⟩, m1, m2, m3⟩ := id h
  obtain ⟨_, _, _, ntp⟩ := h.old ht
  have e : ts' = ts := by
    rw [hts] at o4
    have z := HO.lst.inj (Option.some.inj o4)
    exact (List.map_inj_right (fun a b y => V.ref.inj y)).mp z.symm
  subst e
  refine ⟨⟨dx', by rw [upd_ne n3]; exact same_upd ht _ _ o1⟩, by rw [upd_ne m2]; exact same_upd ht _ _ o2, by rw [upd_ne m3]; exact same_upd ht _ _ o3, ⟨ts' ++ [t], by rw [upd_same, List.map_append]; rfl, by rw [List.length_append, List.length_append, o5]; rfl, fun i t' q' a b => ?_⟩, m1, m2, m3⟩
  by_cases hi : i < ts'.length
  · rw [List.getElem?_append_left hi] at a
    rw [List.getElem?_append_left (by rw [← o5]; exact hi)] at b
    have z := o6 i t' q' a b
    rw [upd_ne (ne_of z o4 (by intro z; cases z))]
    exact same_upd ht _ _ z
  · have e : i = ts'.length := by
      have := (List.getElem?_eq_some_iff.mp a).1
      rw [List.length_append, List.length_singleton] at this
      omega
    subst e
    rw [List.getElem?_append_right (Nat.le_refl _), Nat.sub_self] at a
    rw [o5, List.getElem?_append_right (Nat.le_refl _), Nat.sub_self] at b
    obtain rfl := Option.some.inj a
    obtain rfl := Option.some.inj b
    rw [upd_ne ntp, upd_same]
theorem VkAt.nl5 {K : PySem.W.Frag} {H : Hp} {qk pw qr qf qp dh dl : Addr} {st : WkS} {W : Nat} {kvs : List (Str × Bool)} {lw : List Str} {ms lk : Int} (h : VkAt K H qk pw qr qf qp st) (g : WiAt K H pw dh dl W kvs lw ms lk) : dh ≠ qk ∧ dh ≠ qr ∧ dh ≠ qf ∧ dh ≠ qp ∧ pw ≠ qr ∧ pw ≠ qf ∧ pw ≠ qp ∧ dl ≠ qk ∧ pw ≠ dl := by
  obtain ⟨⟨dx, o1⟩, o2, o3, ⟨ts, o4, _⟩, _⟩ := h
  obtain ⟨⟨dw, w1⟩, w2, w3⟩ := g
  exact ⟨ne_of w3 o1 (by intro z; cases z), ne_of w3 o2 (by intro z; cases z), ne_of w3 o3 (by intro z; cases z), ne_of w3 o4 (by intro z; cases z), ne_of w1 o2 (by intro z; cases z), ne_of w1 o3 (by intro z; cases z), ne_of w1 o4 (by intro z; cases z), ne_of w2 o1 (by intro z; cases z), ne_of w1 w2 (by intro z; cases z)⟩
section
variable {P : Program} {w : World} {K : PySem.W.Frag} {mg : Str → Option Value} {base : Heap}
/-- signs said -/
def spVSay (K : PySem.W.Frag) : Sp := fun vs H Q _ => ∃ (qk pw qr qf qp dh dl : Addr) (W : Nat) (kvs : List (Str × Bool)) (lw : List Str) (lk : Int) (st : WkS) (l g : List Nat), vs = [.ref qk, .str (S g)] ∧ VkAt K H qk pw qr qf qp st ∧ WiAt K H pw dh dl W kvs lw (l.length : Nat) lk ∧ st.sd = some l ∧ l.length + g.length ≤ W ∧ W ≤ 12 ∧ Bits g ∧ (∀ x ∈ lw, Num W x) ∧ lw.length ≤ 100 ∧ st.found.length < 1000000 ∧ (dl ≠ qr ∧ dl ≠ qf ∧ dl ≠ qp) ∧
  ∀ (v : V) (dl' : Addr) (H' : Hp), (dl' = dl ∨ H dl' = none) → VkAt K H' qk pw qr qf qp (overF W st (l ++ g)).1 → TldAt H' (overF W st (l ++ g)).2 v → WiAt K H' pw dh dl' W kvs (lw.filter (behind l.length g)) ((l ++ g).length : Nat) lk → Frm [qk, qf, pw] H H' → Q v H'
theorem m_Walk__say (T : Txt P w K mg base) : MetX CX0 P w K mg base 3 (VC K) "_say" (spVSay K) := by
  obtain ⟨fd, F⟩ := T.t.def_ 26 (d := d_Walk__say)
  refine ⟨_, fd, _, vcl T, He.meth_ok (T.t.fact 105 (f := .meth "Walk" "_say")), F.ok sc_Walk__say (fun vs H Q E h => ?_) (fun cdv A outer s H vs Q E hr h => ?_), F.bindsN fun _ _ _ _ _ _ us hl => match us, hl with | [_, _], _ => rfl⟩
  · obtain ⟨qk, pw, qr, qf, qp, dh, dl, W, kvs, lw, lk, st, l, g, rfl, _⟩ := h
    rfl
  · obtain ⟨qk, pw, qr, qf, qp, dh, dl, W, kvs, lw, lk, st, l, g, rfl, wk, wa, hsd, hlen, hW, hb, hnum, hll, hfl, ⟨nr, nf, np⟩, k⟩ := h
    have nkw := vk_ne wk wa
    obtain ⟨d1, d2, d3, d4, p2, p3, p4, d5, p5⟩ := wk.nl5 wa
    obtain ⟨⟨dx, o1⟩, o2, o3, _⟩ := id wk
    rw [hsd] at o1
    refine ⟨_, PSs.nox (pss_cons (ps_for PassesOwn.never rfl (pi_str (pv 1)) (pg_name (i := 2) sc_Walk__say.nd rfl (Or.inl rfl))
      (pss_one (ps_expr (pe_mx (m_Wire_say T) hr (by decide) (pe_fld (pv 0) (by rfl)) (passes_call (E := fun _ _ _ => False) L2.takes0 (fun _ _ _ _ h => h)) (pa_cons (pe_callTy call_int_str (by rfl) (n_int T) (by decide +kernel) (pa_cons (pv 2) pa_nil)) pa_nil)))))
    (pss_cons (ps_set (i := 3) sc_Walk__say.nd rfl (Or.inl rfl) (pe_op op_add_str (pe_fld (pv 0) (by rfl)) (pv 1)))
    (pss_cons (ps_if (pt_cmpR op_lt (pe_callB call_len_str (by rfl) (n_len T) PySem.boot_len (pa_cons (pv 3) pa_nil)) (pe_fld (pe_fld (pv 0) (by rfl)) (by rfl)) (nomark _))
      (pss_cons (ps_fld (pv 0) (pv 3) rfl)
      (pss_one (ps_ret pe_non)))
      pss_nil)
    (pss_cons (ps_fld (pv 0) pe_non rfl)
    (pss_cons (ps_expr (pe_bm PySem.F.plainAttrs_list PySem.F.slot_list_append PySem.F.type_list_append mt_append (pe_fld (pv 0) (by rfl)) (pa_cons (pv 3) pa_nil)))
    (pss_one (ps_ret (pe_tup (pa_cons pe_str (pa_cons (pv 3) pa_nil)))))))))), ?_⟩
    have esz : (S g).cps.size = g.length := by rw [← SX.S_len]; rfl
    refine ⟨_, rfl, S g, rfl, for_it walk_str (fun i σ H' => ∃ (v2 : Option V) (dl' : Addr), σ = [some (.ref qk), some (.str (S g)), v2, none] ∧ WiAt K H' pw dh dl' W kvs (lw.filter (behind l.length (g.take i))) ((l.length + i : Nat) : Int) lk ∧ Frm [pw] H H' ∧ (dl' = dl ∨ H dl' = none))
      ⟨none, dl, rfl, by rw [List.take_zero, behind_all]; exact wa, Frm.refl _ _, .inl rfl⟩ (fun _ _ _ _ _ => trivial) ?_ ?_⟩
    · rintro i x σ H3 H4 hi ⟨v2, dl', rfl, wa3, f3, hm3⟩ ⟨rfl, c, hc, rfl⟩
      rw [esz] at hi
      have hc' : g[i]? = some c := by
        have z : (S g).cps.toList[i]? = some c := by rw [Array.getElem?_toList]; exact hc
        have e2 : (S g).cps.toList = g := by simp [SX.S]
        rw [e2] at z
        exact z
      have two : ∃ bit : Int, (bit = 0 ∨ bit = 1) ∧ PySem.intText? (S [c]) = some bit ∧ 48 + bit.toNat = c := by
        rcases hb c (List.mem_of_getElem? hc') with rfl | rfl
        · exact ⟨0, .inl rfl, by decide +kernel, rfl⟩
        · exact ⟨1, .inr rfl, by decide +kernel, rfl⟩
      obtain ⟨bit, hbit, t1, t2⟩ := two
      have g1 := f3.k _ _ o1 rfl (by simpa using nkw)
      obtain ⟨⟨dw3, u1⟩, u2, u3⟩ := id wa3
      have htl : (g.take i).length = i := by rw [List.length_take]; omega
      have hfl := List.length_filter_le (behind l.length (g.take i)) lw
      refine ⟨_, rfl, qk, _, dx, _, _, rfl, g1, vcl T, vn_wire T, vl_wire, pw, dw3, _, rfl, u1, wx_say, _, rfl, S [c], bit, rfl, t1, by rw [SX.S_len]; show 1 ≤ 640; decide, pw, dh, dl', bit, W, kvs, _, _, lk, rfl, hbit, wa3, hW, by omega, by omega, fun x hx => hnum x (List.mem_filter.mp hx).1, by omega, fun z => absurd z (by omega), fun _ dl4 H5 h4 wa4 f4 => ?_⟩
      refine ⟨_, dl4, rfl, ?_, f3.trans f4, .inr (f3.b _ h4)⟩
      rw [Int.toNat_natCast, t2] at wa4
      rw [take_snoc hc', behind_step, htl]
      exact wa4
    · rintro σ H3 ⟨v2, dl', rfl, wa3, f3, hm3⟩
      rw [esz, List.take_length] at wa3
      have nl1 := wa.nl1
      have wk3 := wk.keep (f3.toT nl1 (K := K)) nl1 (by simpa using nkw) (by simpa using p2.symm) (by simpa using p3.symm) (by simpa using p4.symm)
      obtain ⟨⟨dx3, g1⟩, g2, g3, _⟩ := id wk3
      have g1 : H3 qk = some (.ins (VC K) dx3 (vfl pw st.kd qr qf qp (.str (S l)))) := by rw [hsd] at g1; exact g1
      obtain ⟨⟨dw3, u1⟩, u2, u3⟩ := id wa3
      have sl1 := SX.S_len l
      have sl2 := SX.S_len g
      refine ⟨_, rfl, qk, _, dx3, _, _, rfl, g1, vcl T, vn_said T, vl_said, _, rfl, S l, S g, rfl, rfl, size12 (by omega), ?_⟩
      rw [SX.S_cat]
      have sl3 := SX.S_len (l ++ g)
      have sl4 : (l ++ g).length = l.length + g.length := List.length_append
      refine ⟨_, rfl, S (l ++ g), rfl, size12 (by omega), _, rfl, qk, _, dx3, _, _, rfl, g1, vcl T, vn_wire T, vl_wire, pw, _, dw3, _, _, rfl, u1, wcl T, wn_width T, wl_width, _, _, rfl, rfl, _, rfl, ?_⟩
      rw [sl3]
      have nm3 : dl' ≠ qk ∧ dl' ≠ qf := hm3.elim (fun e => by rw [e]; exact ⟨d5, nf⟩) fun z => ⟨(wk.old z).1, (wk.old z).2.2.1⟩
      refine iteB (fun c => ?_) (fun c => ?_)
      · have c' : (l ++ g).length < W := by
          have := of_decide_eq_true c
          omega
        refine ⟨_, rfl, _, rfl, qk, _, dx3, _, rfl, g1, vcl T, vn_said T, vl_len, ?_⟩
        rw [vp_said]
        have kk := k .non dl' (upd H3 qk (.ins (VC K) dx3 (vfl pw st.kd qr qf qp (.str (S (l ++ g)))))) hm3
        unfold overF at kk
        rw [if_pos c'] at kk
        exact kk (wk3.say (sd := some (l ++ g))) rfl (by
          rw [sl4]
          exact ⟨⟨dw3, by rw [upd_ne nkw.symm]; exact u1⟩, by rw [upd_ne nm3.1]; exact u2, by rw [upd_ne d1]; exact u3⟩) ((f3.mono (by simp)).put (by simp))
      · have c' : ¬ (l ++ g).length < W := by
          have := of_decide_eq_false c
          omega
        refine ⟨_, rfl, qk, _, dx3, _, rfl, g1, vcl T, vn_said T, vl_len, ?_⟩
        rw [vp_said]
        have wk4 := wk3.say (dx := dx3) (sd := none)
        have f4 : Frm [qk, qf, pw] H (upd H3 qk (.ins (VC K) dx3 (vfl pw st.kd qr qf qp .non))) := (f3.mono (by simp)).put (by simp)
        have wa4 : WiAt K (upd H3 qk (.ins (VC K) dx3 (vfl pw st.kd qr qf qp .non))) pw dh dl' W kvs (lw.filter (behind l.length g)) ((l.length + g.length : Nat) : Int) lk := ⟨⟨dw3, by rw [upd_ne nkw.symm]; exact u1⟩, by rw [upd_ne nm3.1]; exact u2, by rw [upd_ne d1]; exact u3⟩
        revert wk4 f4 wa4
        generalize hH4 : (upd H3 qk (.ins (VC K) dx3 (vfl pw st.kd qr qf qp .non))) = H4
        have e4 : upd H3 qk (.ins (VC K) dx3 (vfl pw st.kd qr qf qp (sdV none))) = H4 := hH4
        rw [e4]
        intro wk4 f4 wa4
        obtain ⟨⟨dx4, i1⟩, i2, i3, _⟩ := id wk4
        obtain ⟨⟨dw4, j1⟩, j2, j3⟩ := id wa4
        refine ⟨_, rfl, qk, _, dx4, _, _, rfl, i1, vcl T, vn_found T, vl_found, .inl ⟨rfl, _, SqL.of i3⟩, _, rfl, qf, _, _, rfl, rfl, i3, by rw [List.length_map]; exact big6 hfl, ?_⟩
        have ef : (st.found.map txV ++ [V.str (S (l ++ g))]) = (st.found ++ [l ++ g]).map txV := by rw [List.map_append]; rfl
        refine ⟨_, rfl, by show 2 ≤ sizeLine; decide, fun t ht => ?_⟩
        have ef' : (({ st with sd := none } : WkS).found.map txV ++ [V.str (S (l ++ g))]) = (st.found ++ [l ++ g]).map txV := ef
        rw [ef'] at ht ⊢
        have wk5 := (wk4.fnd (r := st.found ++ [l ++ g])).new (o := .tup [.str "found", .str (S (l ++ g))]) ht
        have f5 := (f4.put (p := qf) (o := .lst ((st.found ++ [l ++ g]).map txV)) (by simp)).trans (Frm.of (same_upd (o := .tup [.str "found", .str (S (l ++ g))]) ht))
        have kk := k (.ref t) dl' _ hm3 (by
          unfold overF
          rw [if_neg c']
          exact wk5) (by
          unfold overF
          rw [if_neg c']
          exact ⟨t, rfl, upd_same⟩) (by
          rw [sl4]
          exact ⟨⟨dw4, same_upd ht _ _ (by rw [upd_ne p3]; exact j1)⟩, same_upd ht _ _ (by rw [upd_ne nm3.2]; exact j2), same_upd ht _ _ (by rw [upd_ne d3]; exact j3)⟩) f5
        exact kk
end
end B

set_option Elab.async false
set_option linter.all false
set_option maxRecDepth 100000
set_option maxHeartbeats 4000000
namespace B
open PySem PySem.Spec PyProof.Rows L2
open SX (S)
section
variable {P : Program} {w : World} {K : PySem.W.Frag} {mg : Str → Option Value} {base : Heap}
/-- a round begun -/
def spVBegin (K : PySem.W.Frag) : Sp := fun vs H Q E => ∃ (qk pw qr qf qp dh dl : Addr) (W : Nat) (kvs : List (Str × Bool)) (lw : List Str) (ms lk : Int) (st : WkS), vs = [.ref qk] ∧ VkAt K H qk pw qr qf qp st ∧ WiAt K H pw dh dl W kvs lw ms lk ∧ st.sd = none ∧ (st.kd = "all" ∨ st.kd = "alarm") ∧ W ≤ 12 ∧ kvs.length < 64 ∧ (kvs.map (·.1)).Nodup ∧ (∀ x ∈ kvs.map (·.1), Num W x) ∧ st.found.length < 1000000 ∧ (∀ g ∈ st.rest, g.length ≤ W ∧ Bits g) ∧
  (st.rest = [] → E (.ref (He.ga K "Over")) none H) ∧ (st.rest ≠ [] → ∀ (v : V) (ys : List Str) (dl' : Addr) (H' : Hp), H dl' = none → ys.Perm (begF kvs st.kd (st.rest.getLast?.getD [])) → VkAt K H' qk pw qr qf qp (overF W { st with rest := st.rest.dropLast } (st.rest.getLast?.getD [])).1 → TldAt H' (overF W { st with rest := st.rest.dropLast } (st.rest.getLast?.getD [])).2 v → WiAt K H' pw dh dl' W kvs ys ((st.rest.getLast?.getD []).length : Nat) lk → Frm [qk, qr, qf, pw] H H' → Q v H')
theorem m_Walk__begin_round (T : Txt P w K mg base) : MetX (L2.CX P w) P w K mg base 4 (VC K) "_begin_round" (spVBegin K) := by
  obtain ⟨fd, F⟩ := T.t.def_ 25 (d := d_Walk__begin_round)
  refine ⟨_, fd, _, vcl T, He.meth_ok (T.t.fact 104 (f := .meth "Walk" "_begin_round")), F.ok sc_Walk__begin_round (fun vs H Q E h => ?_) (fun cdv A outer s H vs Q E hr h => ?_), F.bindsN fun _ _ _ _ _ _ us hl => match us, hl with | [_], _ => rfl⟩
  · obtain ⟨qk, pw, qr, qf, qp, dh, dl, W, kvs, lw, ms, lk, st, rfl, _⟩ := h
    rfl
  · obtain ⟨qk, pw, qr, qf, qp, dh, dl, W, kvs, lw, ms, lk, ⟨kd, rest, sd, found, paper⟩, rfl, wk, wa, hsd, hkd, hW, hkl, hnd, hnum, hfl, hrest, k1, k2⟩ := h
    dsimp only at hsd hkd hfl hrest k1 k2
    subst hsd
    have nkw := vk_ne wk wa
    obtain ⟨d1, d2, d3, d4, p2, p3, p4, d5, p5⟩ := wk.nl5 wa
    obtain ⟨⟨dx, o1⟩, o2, o3, _⟩ := id wk
    obtain ⟨⟨dw, w1⟩, w2, w3⟩ := id wa
    obtain ⟨nkr, nkf, nkp⟩ := wk.nek
    refine ⟨_, (pss_cons (ps_if (pt_not (pt_truth (pe_fld (pv 0) (by rfl)) (by intro _; rfl)))
      (pss_one (ps_raise rfl (takes_of rfl rfl rfl rfl) (mk_Over T)))
      pss_nil)
    (pss_cons (ps_expr (pe_mx (m_Wire_begin T) hr (by decide) (pe_fld (pv 0) (by rfl)) pass0 (pa_cons (pe_fld (pv 0) (by rfl)) pa_nil)))
    (pss_cons (ps_fld (pv 0) pe_str rfl)
    (pss_one (ps_ret (pe_mx (m_Walk__say T) hr (by decide) (pv 0) pass0 (pa_cons (pe_bm0 PySem.F.plainAttrs_list PySem.F.slot_list_pop PySem.F.type_list_pop mt_pop (pe_fld (pv 0) (by rfl))) pa_nil))))))), ?_⟩
    refine ⟨_, rfl, qk, _, dx, _, _, rfl, o1, vcl T, vn_row T, vl_row, _, .inl ⟨_, SqL.of o2, rfl⟩, ?_⟩
    refine iteB (fun c => ?_) (fun c => ?_)
    · refine k1 ?_
      cases rest with
      | nil => rfl
      | cons g r => cases c
    · have hne : rest ≠ [] := fun e => by
        subst e
        cases c
      have k := k2 hne
      have e0 : rest = rest.dropLast ++ [rest.getLast hne] := (List.dropLast_concat_getLast hne).symm
      have eL : rest.getLast?.getD [] = rest.getLast hne := by rw [List.getLast?_eq_some_getLast hne]; rfl
      rw [eL] at k
      obtain ⟨hgl, hgb⟩ := hrest _ (List.getLast_mem hne)
      revert k hgl hgb e0
      generalize rest.getLast hne = g
      generalize rest.dropLast = r0
      intro k e0 hgl hgb
      subst e0
      refine ⟨_, rfl, qk, _, dx, _, _, rfl, o1, vcl T, vn_wire T, vl_wire, pw, dw, _, rfl, w1, wx_begin, _, rfl, qk, _, dx, _, _, rfl, o1, vcl T, vn_kind T, vl_kind, pw, dh, dl, kd, W, kvs, lw, ms, lk, rfl, hkd, wa, hkl, hnd, fun ys dl2 H2 pm hdl wa2 f2 => ?_⟩
      have nl1 := wa.nl1
      have wk2 := wk.keep (f2.toT nl1 (K := K)) nl1 (by simpa using nkw) (by simpa using p2.symm) (by simpa using p3.symm) (by simpa using p4.symm)
      obtain ⟨⟨dx2, g1⟩, g2, g3, _⟩ := id wk2
      refine ⟨_, rfl, qk, _, dx2, _, rfl, g1, vcl T, vn_said T, vl_len, ?_⟩
      rw [vp_said]
      have wk3 := wk2.say (dx := dx2) (sd := some [])
      have es : V.str "" = sdV (some []) := congrArg V.str empty_S
      rw [es]
      obtain ⟨⟨dw2, u1⟩, u2, u3⟩ := id wa2
      obtain ⟨m1, m2, m3, m4⟩ := wk.old hdl
      have wa3 : WiAt K (upd H2 qk (.ins (VC K) dx2 (vfl pw kd qr qf qp (sdV (some []))))) pw dh dl2 W kvs ys 0 lk := ⟨⟨dw2, by rw [upd_ne nkw.symm]; exact u1⟩, by rw [upd_ne m1]; exact u2, by rw [upd_ne d1]; exact u3⟩
      have f3 : Frm [qk, qr, qf, pw] H (upd H2 qk (.ins (VC K) dx2 (vfl pw kd qr qf qp (sdV (some []))))) := (f2.mono (by simp)).put (by simp)
      have wk3 : VkAt K (upd H2 qk (.ins (VC K) dx2 (vfl pw kd qr qf qp (sdV (some []))))) qk pw qr qf qp ⟨kd, r0 ++ [g], some [], found, paper⟩ := wk3
      revert wk3 wa3 f3
      generalize (upd H2 qk (.ins (VC K) dx2 (vfl pw kd qr qf qp (sdV (some []))))) = H3
      intro wa3 f3 wk3
      obtain ⟨⟨dx3, i1⟩, i2, i3, _⟩ := id wk3
      have hlast : ((r0 ++ [g]).map txV)[((r0 ++ [g]).map txV).length - 1]? = some (txV g) := by simp
      have hdrop : ((r0 ++ [g]).map txV).dropLast = r0.map txV := by simp
      refine ⟨_, rfl, qk, dx3, _, rfl, i1, vx_say, _, rfl, qk, _, dx3, _, _, rfl, i1, vcl T, vn_row T, vl_row, .inl ⟨rfl, _, SqL.of i2⟩, qr, _, txV g, rfl, rfl, i2, hlast, ?_⟩
      rw [hdrop]
      have wk4 := wk3.row (r := r0)
      obtain ⟨⟨dw3, j1⟩, j2, j3⟩ := id wa3
      have wa4 : WiAt K (upd H3 qr (.lst (r0.map txV))) pw dh dl2 W kvs ys 0 lk := ⟨⟨dw3, by rw [upd_ne p2]; exact j1⟩, by rw [upd_ne m2]; exact j2, by rw [upd_ne d2]; exact j3⟩
      have f4 : Frm [qk, qr, qf, pw] H (upd H3 qr (.lst (r0.map txV))) := f3.put (by simp)
      have hlis := lisB_sub kvs (decide (kd = "all"))
      have hys : ys.length ≤ 100 := by
        rw [pm.length_eq]
        omega
      refine ⟨qk, pw, qr, qf, qp, dh, dl2, W, kvs, ys, lk, _, [], g, rfl, wk4, wa4, rfl, by show 0 + g.length ≤ W; omega, hW, hgb, fun x hx => hnum x (hlis.2 x (pm.mem_iff.mp hx)), hys, hfl, ⟨m2, m3, m4⟩, fun v dl' H5 hd5 wk5 tl5 wa5 f5 => ?_⟩
      have eo : overF W ⟨kd, r0, some [], found, paper⟩ g = overF W ⟨kd, r0, none, found, paper⟩ g := by
        unfold overF
        split <;> rfl
      rw [List.nil_append] at wk5 tl5 wa5
      have wk5 : VkAt K H5 qk pw qr qf qp (overF W ⟨kd, r0, some [], found, paper⟩ g).1 := wk5
      have tl5 : TldAt H5 (overF W ⟨kd, r0, some [], found, paper⟩ g).2 v := tl5
      rw [eo] at wk5 tl5
      refine k v (ys.filter (behind 0 g)) dl' H5 (hd5.elim (fun e => by rw [e]; exact hdl) (fun z => f4.b _ z)) ?_ wk5 tl5 wa5 (f4.trans (f5.mono (by simp)))
      unfold begF
      have e1 : ys.filter (behind 0 g) = ys.filter (starts g) := List.filter_congr fun x _ => behind_zero
      rw [e1]
      exact pm.filter _
/-- a step -/
def spVStep (K : PySem.W.Frag) : Sp := fun vs H Q E => ∃ (qk pw qr qf qp dh dl : Addr) (W : Nat) (kvs : List (Str × Bool)) (lw : List Str) (ms lk : Int) (st : WkS), vs = [.ref qk] ∧ VkAt K H qk pw qr qf qp st ∧ WiAt K H pw dh dl W kvs lw ms lk ∧ (dl ≠ qr ∧ dl ≠ qf ∧ dl ≠ qp) ∧ (st.kd = "all" ∨ st.kd = "alarm") ∧ W ≤ 12 ∧ kvs.length < 64 ∧ (kvs.map (·.1)).Nodup ∧ (∀ x ∈ kvs.map (·.1), Num W x) ∧ lw.length ≤ 100 ∧ st.rest.length < 999999 ∧ st.found.length < 999999 ∧ st.paper.length < 999999 ∧ (∀ g ∈ st.rest, g.length ≤ W ∧ Bits g) ∧ (∀ l, st.sd = some l → ms = (l.length : Nat) ∧ l.length < W ∧ Bits l ∧ ∀ x ∈ lw, Num W x) ∧
  (st.sd = none → st.rest = [] → E (.ref (He.ga K "Over")) none H) ∧ ((st.sd = none → st.rest ≠ []) → ∀ (v : V) (lw' : List Str) (dl' : Addr) (H' : Hp), (dl' = dl ∨ H dl' = none) → lw'.Perm (stepF W kvs lw lk st).2.1 → VkAt K H' qk pw qr qf qp (stepF W kvs lw lk st).1.1 → TldAt H' (stepF W kvs lw lk st).1.2 v → WiAt K H' pw dh dl' W kvs lw' (msOf W (stepF W kvs lw lk st).2.2.1) (stepF W kvs lw lk st).2.2.2 → Frm [qk, qr, qf, qp, pw] H H' → Q v H')
theorem m_Walk_step (T : Txt P w K mg base) : MetX (L2.CX P w) P w K mg base 5 (VC K) "step" (spVStep K) := by
  obtain ⟨fd, F⟩ := T.t.def_ 19 (d := d_Walk_step)
  refine ⟨_, fd, _, vcl T, He.meth_ok (T.t.fact 98 (f := .meth "Walk" "step")), F.ok sc_Walk_step (fun vs H Q E h => ?_) (fun cdv A outer s H vs Q E hr h => ?_), F.bindsN fun _ _ _ _ _ _ us hl => match us, hl with | [_], _ => rfl⟩
  · obtain ⟨qk, pw, qr, qf, qp, dh, dl, W, kvs, lw, ms, lk, st, rfl, _⟩ := h
    rfl
  · obtain ⟨qk, pw, qr, qf, qp, dh, dl, W, kvs, lw, ms, lk, ⟨kd, rest, sd, found, paper⟩, rfl, wk, wa, ⟨nr, nf, np⟩, hkd, hW, hkl, hnd, hnum, hll, hrl, hfl, hpl, hrest, hsome, k1, k2⟩ := h
    dsimp only at hkd hrl hfl hpl hrest hsome k1
    have nkw := vk_ne wk wa
    obtain ⟨d1, d2, d3, d4, p2, p3, p4, d5, p5⟩ := wk.nl5 wa
    obtain ⟨⟨dx, o1⟩, o2, o3, ⟨ts, o4, o5, o6⟩, m1, m2, m3⟩ := id wk
    obtain ⟨⟨dw, w1⟩, w2, w3⟩ := id wa
    obtain ⟨nkr, nkf, nkp⟩ := wk.nek
    dsimp only at o1 o2 o3 o4 o5 o6
    refine ⟨_, (pss_cons (ps_if (pt_cmpR op_isN (pe_fld (pv 0) (by rfl)) pe_non (nomark _))
      (pss_one (ps_ret (pe_mx0 (m_Walk__begin_round T) hr (by decide) (pv 0) (passes_call (takes_of rfl rfl rfl rfl) (fun _ _ _ _ h => h)))))
      pss_nil)
    (pss_cons (ps_asg (pe_mx0 (m_Wire_look T) hr (by decide) (pe_fld (pv 0) (by rfl)) (passes_call (takes_of rfl rfl rfl rfl) (fun _ _ _ _ h => h))) (pg_tup rfl (pgs_cons (pg_name (i := 1) sc_Walk_step.nd rfl (Or.inl rfl)) (pgs_cons (pg_name (i := 2) sc_Walk_step.nd rfl (Or.inl rfl)) pgs_nil))))
    (pss_cons (ps_expr (pe_bm PySem.F.plainAttrs_list PySem.F.slot_list_append PySem.F.type_list_append mt_append (pe_fld (pv 0) (by rfl)) (pa_cons (pe_tup (pa_cons (pe_fld (pv 0) (by rfl)) (pa_cons (pv 1) (pa_cons (pv 2) pa_nil)))) pa_nil)))
    (pss_cons (ps_if (PW.pt (pw_and (pt_not (pt_val (pv 1))) (pw_and1 (pt_not (pt_val (pv 2))))))
      (pss_cons (ps_fld (pv 0) pe_non rfl)
      (pss_one (ps_ret (pe_tup (pa_cons pe_str pa_nil)))))
      pss_nil)
    (pss_cons (ps_if (PW.pt (pw_and (pt_val (pv 1)) (pw_and1 (pt_val (pv 2)))))
      (pss_one (ps_expr (pe_bm PySem.F.plainAttrs_list PySem.F.slot_list_append PySem.F.type_list_append mt_append (pe_fld (pv 0) (by rfl)) (pa_cons (pe_op op_add_str (pe_fld (pv 0) (by rfl)) pe_str) pa_nil))))
      pss_nil)
    (pss_one (ps_ret (pe_mx (m_Walk__say T) hr (by decide) (pv 0) pass0 (pa_cons (pe_ifExp (pt_val (pv 1)) pe_str pe_str) pa_nil))))))))), ?_⟩
    cases sd with
    | none =>
      refine ⟨_, rfl, qk, _, dx, _, _, rfl, o1, vcl T, vn_said T, vl_said, rfl, _, rfl, ?_⟩
      refine ⟨_, rfl, qk, dx, _, rfl, o1, vx_begin, qk, pw, qr, qf, qp, dh, dl, W, kvs, lw, ms, lk, _, rfl, wk, wa, rfl, hkd, hW, hkl, hnd, hnum, Nat.lt_succ_of_lt hfl, hrest, k1 rfl, fun hne v ys dl' H' hd pm wk' tl' wa' f' => ?_⟩
      have k := k2 (fun _ => hne) v ys dl' H' (.inr hd)
      have e0 : stepF W kvs lw lk ⟨kd, rest, none, found, paper⟩ = (overF W ⟨kd, rest.dropLast, none, found, paper⟩ (rest.getLast?.getD []), begF kvs kd (rest.getLast?.getD []), some (rest.getLast?.getD []), lk) := rfl
      rw [e0] at k
      exact k pm wk' tl' wa' (f'.mono (by simp))
    | some l =>
      obtain ⟨rfl, hlt, hlb, hnl⟩ := hsome l rfl
      have k := k2 (fun z => by cases z)
      clear k1 k2
      have o1 : H qk = some (.ins (VC K) dx (vfl pw kd qr qf qp (.str (S l)))) := o1
      refine ⟨_, rfl, qk, _, dx, _, _, rfl, o1, vcl T, vn_said T, vl_said, rfl, _, rfl, ?_⟩
      refine ⟨_, rfl, qk, _, dx, _, _, rfl, o1, vcl T, vn_wire T, vl_wire, pw, dw, _, rfl, w1, wx_look, pw, dh, dl, W, kvs, lw, _, lk, rfl, wa, hW, by omega, by omega, hnl, hll, fun z => absurd z (by omega), fun _ p H1 hp wa1 f1 => ?_⟩
      rw [Int.toNat_natCast] at hp
      refine ⟨p, _, rfl, SqT.of hp, rfl, _, _, rfl, _, _, rfl, rfl, ?_⟩
      have nl1 := wa.nl1
      have wk1 := wk.keep (f1.toT nl1 (K := K)) nl1 (by simpa using nkw) (by simpa using p2.symm) (by simpa using p3.symm) (by simpa using p4.symm)
      obtain ⟨⟨dx1, c1⟩, c2, c3, ⟨ts1, c4, c5, c6⟩, _⟩ := id wk1
      have c1 : H1 qk = some (.ins (VC K) dx1 (vfl pw kd qr qf qp (.str (S l)))) := c1
      have c5 : ts1.length = paper.length := c5
      refine ⟨_, rfl, qk, _, dx1, _, _, rfl, c1, vcl T, vn_paper T, vl_paper, .inl ⟨rfl, _, SqL.of c4⟩, _, rfl, qk, _, dx1, _, _, rfl, c1, vcl T, vn_said T, vl_said, _, rfl, _, rfl, by show 3 ≤ sizeLine; decide, fun t ht => ⟨qp, _, _, rfl, rfl, same_upd ht _ _ c4, by rw [List.length_map, c5]; exact big6 (Nat.lt_succ_of_lt hpl), ?_⟩⟩
      obtain ⟨t1, t2, t3, t4⟩ := wk1.old ht
      have wk2 := wk1.pap (q := (l, lw.any (sg l.length 48), lw.any (sg l.length 49))) c4 ht
      obtain ⟨⟨dw1, v1⟩, v2, v3⟩ := id wa1
      have wa2 : WiAt K (upd (upd H1 t (.tup [txV l, .bl (lw.any (sg l.length 48)), .bl (lw.any (sg l.length 49))])) qp (.lst (ts1.map V.ref ++ [.ref t]))) pw dh dl W kvs lw (l.length : Nat) (lk + 1) := ⟨⟨dw1, by rw [upd_ne p4]; exact same_upd ht _ _ v1⟩, by rw [upd_ne np]; exact same_upd ht _ _ v2, by rw [upd_ne d4]; exact same_upd ht _ _ v3⟩
      have F2 : Frm [qk, qr, qf, qp, pw] H (upd (upd H1 t (.tup [txV l, .bl (lw.any (sg l.length 48)), .bl (lw.any (sg l.length 49))])) qp (.lst (ts1.map V.ref ++ [.ref t]))) := ((f1.mono (by simp)).trans (Frm.of (same_upd ht))).put (by simp)
      have wk2 : VkAt K (upd (upd H1 t (.tup [txV l, .bl (lw.any (sg l.length 48)), .bl (lw.any (sg l.length 49))])) qp (.lst (ts1.map V.ref ++ [.ref t]))) qk pw qr qf qp ⟨kd, rest, some l, found, paper ++ [(l, lw.any (sg l.length 48), lw.any (sg l.length 49))]⟩ := wk2
      revert wk2 wa2 F2
      generalize hH2 : (upd (upd H1 t (.tup [txV l, .bl (lw.any (sg l.length 48)), .bl (lw.any (sg l.length 49))])) qp (.lst (ts1.map V.ref ++ [.ref t]))) = H2
      have hH2' : (upd (upd H1 t (.tup [.str (S l), .bl (lw.any (sg l.length 48)), .bl (lw.any (sg l.length 49))])) qp (.lst (ts1.map V.ref ++ [.ref t]))) = H2 := hH2
      rw [hH2']
      intro wa2 F2 wk2
      unfold stepF at k
      dsimp only at k
      -- the signs said
      have fin : ∀ (c : Nat) (r2 : List (List Nat)) (H4 : Hp), (c = 48 ∨ c = 49) → VkAt K H4 qk pw qr qf qp ⟨kd, r2, some l, found, paper ++ [(l, lw.any (sg l.length 48), lw.any (sg l.length 49))]⟩ → WiAt K H4 pw dh dl W kvs lw (l.length : Nat) (lk + 1) → Frm [qk, qr, qf, qp, pw] H H4 →
          (∀ (v : V) (lw' : List Str) (dl' : Addr) (H' : Hp), (dl' = dl ∨ H dl' = none) → lw'.Perm (lw.filter (sg l.length c)) → VkAt K H' qk pw qr qf qp (overF W ⟨kd, r2, some l, found, paper ++ [(l, lw.any (sg l.length 48), lw.any (sg l.length 49))]⟩ (l ++ [c])).1 → TldAt H' (overF W ⟨kd, r2, some l, found, paper ++ [(l, lw.any (sg l.length 48), lw.any (sg l.length 49))]⟩ (l ++ [c])).2 v → WiAt K H' pw dh dl' W kvs lw' ((l ++ [c]).length : Nat) (lk + 1) → Frm [qk, qr, qf, qp, pw] H H' → Q v H') →
          spVSay K ([V.ref qk, .str (S [c])] ++ []) H4 Q E0 := fun c r2 H4 hc a1 a2 a3 kk =>
        ⟨qk, pw, qr, qf, qp, dh, dl, W, kvs, lw, lk + 1, _, l, [c], rfl, a1, a2, rfl, by show l.length + 1 ≤ W; omega, hW, fun d hd => by rw [List.mem_singleton.mp hd]; exact hc, hnl, hll, Nat.lt_succ_of_lt hfl, ⟨nr, nf, np⟩, fun v dl' H' hd a4 a5 a6 a7 =>
          kk v _ dl' H' (hd.imp_right (a3.b _)) (by rw [List.filter_congr fun x _ => behind_one (n := l.length) (c := c) (x := x)]) a4 a5 a6 (a3.trans (a7.mono (by simp)))⟩
      obtain ⟨⟨dx2, e1⟩, e2, e3, _⟩ := id wk2
      obtain ⟨⟨dw2, y1⟩, y2, y3⟩ := id wa2
      revert k fin wk2
      generalize lw.any (sg l.length 48) = z
      generalize lw.any (sg l.length 49) = o
      intro k wk2 fin
      cases z <;> cases o
      · refine ⟨_, rfl, false, rfl, _, rfl, false, rfl, ?_⟩
        refine ⟨_, rfl, qk, _, dx2, _, rfl, e1, vcl T, vn_said T, vl_len, ?_⟩
        rw [vp_said]
        refine ⟨by show 1 ≤ sizeLine; decide, fun u hu => ?_⟩
        have wk3 := (wk2.say (dx := dx2) (sd := none)).new (o := .tup [.str "lost"]) hu
        refine k (.ref u) lw dl _ (.inl rfl) (List.Perm.refl _) wk3 ⟨u, rfl, upd_same⟩ ⟨⟨dw2, same_upd hu _ _ (by rw [upd_ne nkw.symm]; exact y1)⟩, same_upd hu _ _ (by rw [upd_ne d5]; exact y2), same_upd hu _ _ (by rw [upd_ne d1]; exact y3)⟩ ((F2.put (by simp)).trans (Frm.of (same_upd hu)))
      · refine ⟨_, rfl, false, rfl, _, rfl, true, rfl, ?_⟩
        refine ⟨_, rfl, false, rfl, ?_⟩
        refine ⟨_, rfl, qk, dx2, _, rfl, e1, vx_say, _, rfl, false, rfl, ?_⟩
        have s1 : V.str "1" = V.str (S [49]) := congrArg V.str one_S
        rw [s1]
        exact fin 49 rest H2 (.inr rfl) wk2 wa2 F2 k
      · refine ⟨_, rfl, true, rfl, ?_⟩
        refine ⟨_, rfl, true, rfl, _, rfl, false, rfl, ?_⟩
        refine ⟨_, rfl, qk, dx2, _, rfl, e1, vx_say, _, rfl, true, rfl, ?_⟩
        have s1 : V.str "0" = V.str (S [48]) := congrArg V.str zero_S
        rw [s1]
        exact fin 48 rest H2 (.inl rfl) wk2 wa2 F2 k
      · refine ⟨_, rfl, true, rfl, ?_⟩
        refine ⟨_, rfl, true, rfl, _, rfl, true, rfl, ?_⟩
        have q1 : ("1" : Str).length = 1 := by decide +kernel
        have q2 := SX.S_len l
        have q0 : S l ++ ("1" : Str) = S (l ++ [49]) := by
          rw [← SX.S_cat]
          rfl
        refine ⟨_, rfl, qk, _, dx2, _, _, rfl, e1, vcl T, vn_row T, vl_row, .inl ⟨rfl, _, SqL.of e2⟩, _, rfl, qk, _, dx2, _, _, rfl, e1, vcl T, vn_said T, vl_said, S l, "1", rfl, rfl, size12 (by omega), qr, _, _, rfl, rfl, e2, by rw [List.length_map]; exact big6 (Nat.lt_succ_of_lt hrl), ?_⟩
        rw [q0]
        have er : (({ kd := kd, rest := rest, sd := some l, found := found, paper := paper ++ [(l, true, true)] } : WkS).rest.map txV ++ [V.str (S (l ++ [49]))]) = (rest ++ [l ++ [49]]).map txV := by rw [List.map_append]; rfl
        rw [er]
        have wk3 := wk2.row (r := rest ++ [l ++ [49]])
        obtain ⟨⟨dx3, i1⟩, _⟩ := id wk3
        refine ⟨_, rfl, qk, dx3, _, rfl, i1, vx_say, _, rfl, true, rfl, ?_⟩
        have s1 : V.str "0" = V.str (S [48]) := congrArg V.str zero_S
        rw [s1]
        exact fin 48 _ _ (.inl rfl) wk3 ⟨⟨dw2, by rw [upd_ne p2]; exact y1⟩, by rw [upd_ne nr]; exact y2, by rw [upd_ne d2]; exact y3⟩ (F2.put (by simp)) k
end
end B

set_option Elab.async false
set_option linter.all false
set_option maxRecDepth 100000
set_option maxHeartbeats 4000000
namespace B
open PySem PySem.Spec PyProof.Rows L2
open SX (S)
theorem nil_of {σ : L2.St} {H : Hp} {Q : List V → Hp → Prop} (h : Q [] H) : tNil σ H Q := h
/-! ### a step of lists with the same things -/
theorem any_perm {a b : List Str} {f : Str → Bool} (h : a.Perm b) : a.any f = b.any f := by
  rw [Bool.eq_iff_iff, List.any_eq_true, List.any_eq_true]
  constructor
  · rintro ⟨x, hx, e⟩
    exact ⟨x, h.mem_iff.mp hx, e⟩
  · rintro ⟨x, hx, e⟩
    exact ⟨x, h.mem_iff.mpr hx, e⟩
theorem step_perm {W : Nat} {kvs : List (Str × Bool)} {lw lm : List Str} {lk : Int} {st : WkS} (h : lw.Perm lm) : (stepF W kvs lw lk st).1 = (stepF W kvs lm lk st).1 ∧ (stepF W kvs lw lk st).2.1.Perm (stepF W kvs lm lk st).2.1 ∧ (stepF W kvs lw lk st).2.2 = (stepF W kvs lm lk st).2.2 := by
  obtain ⟨kd, rest, sd, found, paper⟩ := st
  cases sd with
  | none => exact ⟨rfl, List.Perm.refl _, rfl⟩
  | some l =>
    unfold stepF
    dsimp only
    rw [any_perm h (f := sg l.length 48), any_perm h (f := sg l.length 49)]
    split
    · exact ⟨rfl, h, rfl⟩
    · exact ⟨rfl, h.filter _, rfl⟩
/-- steps till there is nowhere to go -/
def allF (W : Nat) (kvs : List (Str × Bool)) : Nat → WkS × List Str × Option (List Nat) × Int → WkS × List Str × Option (List Nat) × Int
  | 0, q => q
  | n + 1, q => if q.1.sd = none ∧ q.1.rest = [] then q else allF W kvs n ((stepF W kvs q.2.1 q.2.2.2 q.1).1.1, (stepF W kvs q.2.1 q.2.2.2 q.1).2)
theorem all_stop {W n : Nat} {kvs : List (Str × Bool)} {q : WkS × List Str × Option (List Nat) × Int} (h : q.1.sd = none ∧ q.1.rest = []) : allF W kvs n q = q := by
  cases n with
  | zero => rfl
  | succ n =>
    show (if _ then _ else _) = _
    rw [if_pos h]
theorem all_go {W n : Nat} {kvs : List (Str × Bool)} {q : WkS × List Str × Option (List Nat) × Int} (h : ¬ (q.1.sd = none ∧ q.1.rest = [])) : allF W kvs (n + 1) q = allF W kvs n ((stepF W kvs q.2.1 q.2.2.2 q.1).1.1, (stepF W kvs q.2.1 q.2.2.2 q.1).2) := by
  show (if _ then _ else _) = _
  rw [if_neg h]
theorem over_kd {W : Nat} {st : WkS} {l : List Nat} : (overF W st l).1.kd = st.kd := by
  unfold overF
  split <;> rfl
theorem step_kd {W : Nat} {kvs : List (Str × Bool)} {lm : List Str} {lk : Int} {st : WkS} : (stepF W kvs lm lk st).1.1.kd = st.kd := by
  obtain ⟨kd, rest, sd, found, paper⟩ := st
  cases sd with
  | none => exact over_kd
  | some l =>
    unfold stepF
    dsimp only
    split
    · rfl
    · refine over_kd.trans ?_
      split <;> rfl
section
variable {P : Program} {w : World} {K : PySem.W.Frag} {mg : Str → Option Value} {base : Heap}
/-- where a step may be done: a walk and its wire, the wire's list told up to its order -/
structure VkOk (K : PySem.W.Frag) (H : Hp) (qk pw qr qf qp dh dl : Addr) (W : Nat) (kvs : List (Str × Bool)) (lm : List Str) (sdm : Option (List Nat)) (lk : Int) (st : WkS) (n : Nat) : Prop where
  wk : VkAt K H qk pw qr qf qp st
  wa : ∃ lw, WiAt K H pw dh dl W kvs lw (msOf W sdm) lk ∧ lw.Perm lm
  nl : dl ≠ qr ∧ dl ≠ qf ∧ dl ≠ qp
  kd : st.kd = "all" ∨ st.kd = "alarm"
  w : W ≤ 12
  kl : kvs.length < 64
  nd : (kvs.map (·.1)).Nodup
  num : ∀ x ∈ kvs.map (·.1), Num W x
  ok : WkOk W lm sdm st n
theorem VkOk.stay {H H' : Hp} {S : List Addr} {qk pw qr qf qp dh dl : Addr} {W : Nat} {kvs : List (Str × Bool)} {lm : List Str} {sdm : Option (List Nat)} {lk : Int} {st : WkS} {n : Nat} (h : VkOk K H qk pw qr qf qp dh dl W kvs lm sdm lk st n) (f : FrT K S H H') (z : NL S H) (h1 : qk ∉ S) (h2 : qr ∉ S) (h3 : qf ∉ S) (h4 : qp ∉ S) (h5 : pw ∉ S) (h6 : dh ∉ S) : VkOk K H' qk pw qr qf qp dh dl W kvs lm sdm lk st n := by
  obtain ⟨a, ⟨lw, b1, b2⟩, c, d, e, g, i, j, o⟩ := h
  exact ⟨a.keep f z h1 h2 h3 h4, ⟨lw, b1.stay f z h5 h6, b2⟩, c, d, e, g, i, j, o⟩
/-- a step, the list up to its order -/
theorem VkOk.step {H : Hp} {qk pw qr qf qp dh dl : Addr} {W : Nat} {kvs : List (Str × Bool)} {lm : List Str} {sdm : Option (List Nat)} {lk : Int} {st : WkS} {n : Nat} (h : VkOk K H qk pw qr qf qp dh dl W kvs lm sdm lk st n) (hn : n < 999999) {Q : VK} {E : XK} (hO : st.sd = none → st.rest = [] → E (.ref (He.ga K "Over")) none H)
    (k : (st.sd = none → st.rest ≠ []) → ∀ (v : V) (dl' : Addr) (H' : Hp), (dl' = dl ∨ H dl' = none) → VkOk K H' qk pw qr qf qp dh dl' W kvs (stepF W kvs lm lk st).2.1 (stepF W kvs lm lk st).2.2.1 (stepF W kvs lm lk st).2.2.2 (stepF W kvs lm lk st).1.1 (n + 1) → TldAt H' (stepF W kvs lm lk st).1.2 v → Frm [qk, qr, qf, qp, pw] H H' → Q v H') : spVStep K [.ref qk] H Q E := by
  obtain ⟨wk, ⟨lw, wa, pm⟩, nl, kd, hw, hkl, hnd, hnum, ok⟩ := h
  obtain ⟨z1, z2, z3⟩ := ok.len
  have hb : ∀ l, st.sd = some l → msOf W sdm = (l.length : Nat) ∧ l.length < W ∧ Bits l ∧ ∀ x ∈ lw, Num W x := fun l e => by
    obtain ⟨a, b, c, d⟩ := ok.said l e
    exact ⟨by rw [a]; rfl, b, c, fun x hx => (d x (pm.mem_iff.mp hx)).num⟩
  refine ⟨qk, pw, qr, qf, qp, dh, dl, W, kvs, lw, _, lk, st, rfl, wk, wa, nl, kd, hw, hkl, hnd, hnum, by rw [pm.length_eq]; exact ok.lm, by omega, by omega, by omega, ok.rest, hb, hO, fun hne v lw' dl' H' hd pm' wk' tl' wa' f' => ?_⟩
  obtain ⟨s1, s2, s3⟩ := step_perm (W := W) (kvs := kvs) (lk := lk) (st := st) pm
  rw [s1] at wk' tl'
  rw [s3] at wa'
  refine k hne v dl' H' hd ⟨wk', ⟨lw', wa', pm'.trans s2⟩, ?_, by rw [step_kd]; exact kd, hw, hkl, hnd, hnum, step_ok ok hne (by omega) hnum⟩ tl' f'
  exact hd.elim (fun e => by rw [e]; exact nl) fun z => ⟨(wk.old z).2.1, (wk.old z).2.2.1, (wk.old z).2.2.2⟩
/-- a round -/
def spVRound (K : PySem.W.Frag) : Sp := fun vs H Q _ => ∃ (qk pw qr qf qp dh dl : Addr) (W : Nat) (kvs : List (Str × Bool)) (lm : List Str) (sdm : Option (List Nat)) (lk : Int) (st : WkS) (n : Nat), vs = [.ref qk] ∧ VkOk K H qk pw qr qf qp dh dl W kvs lm sdm lk st n ∧ n ≤ 900000 ∧ (st.sd = none → st.rest ≠ []) ∧
  ∀ (v : V) (dl' : Addr) (H' : Hp), (dl' = dl ∨ H dl' = none) → VkOk K H' qk pw qr qf qp dh dl' W kvs (roundF W kvs W lm lk st).2.1 (roundF W kvs W lm lk st).2.2.1 (roundF W kvs W lm lk st).2.2.2 (roundF W kvs W lm lk st).1.1 (n + 1 + W) → TldAt H' (roundF W kvs W lm lk st).1.2 v → Frm [qk, qr, qf, qp, pw] H H' → Q v H'
theorem WkOk.le {W n m : Nat} {lm : List Str} {sdm : Option (List Nat)} {st : WkS} (h : WkOk W lm sdm st n) (hm : n ≤ m) : WkOk W lm sdm st m := by
  obtain ⟨a, b, ⟨c, d, e⟩, f⟩ := h
  exact ⟨a, b, ⟨by omega, by omega, by omega⟩, f⟩
theorem VkOk.le {H : Hp} {qk pw qr qf qp dh dl : Addr} {W : Nat} {kvs : List (Str × Bool)} {lm : List Str} {sdm : Option (List Nat)} {lk : Int} {st : WkS} {n m : Nat} (h : VkOk K H qk pw qr qf qp dh dl W kvs lm sdm lk st n) (hm : n ≤ m) : VkOk K H qk pw qr qf qp dh dl W kvs lm sdm lk st m := by
  obtain ⟨a, b, c, d, e, g, i, j, o⟩ := h
  exact ⟨a, b, c, d, e, g, i, j, o.le hm⟩
theorem tld_ref {H : Hp} {r : Tld} {v : V} (h : TldAt H r v) (n : r ≠ .no) : ∃ t, v = .ref t := by
  cases r with
  | no => exact absurd rfl n
  | lost =>
    obtain ⟨t, e, _⟩ := h
    exact ⟨t, e⟩
  | found l =>
    obtain ⟨t, e, _⟩ := h
    exact ⟨t, e⟩
theorem m_Walk_go_round (T : Txt P w K mg base) : MetX CX0 P w K mg base 6 (VC K) "go_round" (spVRound K) := by
  obtain ⟨fd, F⟩ := T.t.def_ 20 (d := d_Walk_go_round)
  refine ⟨_, fd, _, vcl T, He.meth_ok (T.t.fact 99 (f := .meth "Walk" "go_round")), F.ok sc_Walk_go_round (fun vs H Q E h => ?_) (fun cdv A outer s H vs Q E hr h => ?_), F.bindsN fun _ _ _ _ _ _ us hl => match us, hl with | [_], _ => rfl⟩
  · obtain ⟨qk, pw, qr, qf, qp, dh, dl, W, kvs, lm, sdm, lk, st, n, rfl, _⟩ := h
    rfl
  · obtain ⟨qk, pw, qr, qf, qp, dh, dl, W, kvs, lm, sdm, lk, st, n, rfl, vk, hn, hne, k⟩ := h
    refine ⟨_, PSs.nox (pss_cons (ps_set (i := 1) sc_Walk_go_round.nd rfl (Or.inl rfl) (pe_mx0 (m_Walk_step T) hr (by decide) (pv 0) (passes_call (E := fun _ _ _ => False) L2.takes0 (fun _ _ _ _ h => h))))
    (pss_cons (ps_while PassesOwn.never (pt_cmpR op_isN (pv 1) pe_non (nomark _))
      (pss_one (ps_set (i := 1) sc_Walk_go_round.nd rfl (Or.inl rfl) (pe_mx0 (m_Walk_step T) hr (by decide) (pv 0) (passes_call (E := fun _ _ _ => False) L2.takes0 (fun _ _ _ _ h => h))))))
    (pss_one (ps_ret (pv 1))))), ?_⟩
    have old : ∀ {b : Addr}, H b = none → b ≠ qr ∧ b ≠ qf ∧ b ≠ qp := fun hb => (vk.wk.old hb).2
    obtain ⟨⟨dx, o1⟩, _⟩ := id vk.wk
    refine ⟨_, rfl, qk, dx, _, rfl, o1, vx_step, nil_of (vk.step (by omega) (fun a b => absurd b (hne a)) fun _ v dl1 H1 hdl1 vk1 tl1 f1 => ?_)⟩
    generalize hR : roundF W kvs W lm lk st = R at k
    let Wd : Nat → L2.St → Hp → Prop := fun m σ H' => ∃ (v : V) (dl' : Addr) (r : (WkS × Tld) × List Str × Option (List Nat) × Int) (b : Nat), σ = [some (.ref qk), some v] ∧ VkOk K H' qk pw qr qf qp dh dl' W kvs r.2.1 r.2.2.1 r.2.2.2 r.1.1 b ∧ TldAt H' r.1.2 v ∧ (dl' = dl ∨ H dl' = none) ∧ Frm [qk, qr, qf, qp, pw] H H' ∧
      ((r.1.2 ≠ .no ∧ r = R ∧ b ≤ n + 1 + W) ∨ (r.1.2 = .no ∧ ∃ (l' : List Nat) (j : Nat), r.1.1.sd = some l' ∧ b + j ≤ n + W ∧ m = j + 1 ∧ W ≤ l'.length + j + 1 ∧ roundF W kvs j r.2.1 r.2.2.2 r.1.1 = R))
    refine ⟨Wd, ?_, ?_⟩
    · by_cases hno : (stepF W kvs lm lk st).1.2 = .no
      · obtain ⟨l', e1, e2, _⟩ := step_no hno
        obtain ⟨w', rfl⟩ : ∃ w', W = w' + 1 := ⟨W - 1, by omega⟩
        exact ⟨w' + 1, v, dl1, stepF (w' + 1) kvs lm lk st, n + 1, rfl, vk1, tl1, hdl1, f1, .inr ⟨hno, l', w', e1, by omega, rfl, by omega, by rw [← hR, round_no hno]⟩⟩
      · exact ⟨0, v, dl1, stepF W kvs lm lk st, n + 1, rfl, vk1, tl1, hdl1, f1, .inl ⟨hno, by rw [← hR, round_yes hno], by omega⟩⟩
    · rintro m σ H2 ⟨v2, dl2, r, b, rfl, vk2, tl2, hd2, f2, hc⟩
      refine ⟨_, rfl, rfl, _, rfl, ?_⟩
      rcases hc with ⟨hno, rfl, hb⟩ | ⟨hno, l', j, e1, hb, rfl, hj, hroundR⟩
      · obtain ⟨t, rfl⟩ := tld_ref tl2 hno
        exact ⟨_, rfl, k _ dl2 H2 hd2 (vk2.le hb) tl2 f2⟩
      · rw [hno] at tl2
        obtain rfl : v2 = .non := tl2
        refine ⟨fun σ' H' => ∃ m', m' < j + 1 ∧ Wd m' σ' H', fun _ _ h => h, ?_⟩
        have hsd : r.1.1.sd = none → r.1.1.rest ≠ [] := fun z => by rw [e1] at z; cases z
        obtain ⟨⟨dx2, g1⟩, _⟩ := id vk2.wk
        refine ⟨_, rfl, qk, dx2, _, rfl, g1, vx_step, nil_of (vk2.step (by have := vk.w; omega) (fun a _ => by rw [e1] at a; cases a) fun _ v3 dl3 H3 hdl3 vk3 tl3 f3 => ?_)⟩
        have hd3 : dl3 = dl ∨ H dl3 = none := hdl3.elim (fun e => by rw [e]; exact hd2) fun z => .inr (f2.b _ z)
        by_cases hno3 : (stepF W kvs r.2.1 r.2.2.2 r.1.1).1.2 = .no
        · obtain ⟨l3, g1, g2, g3⟩ := step_no hno3
          have g4 := g3 l' e1
          obtain ⟨j', rfl⟩ : ∃ j', j = j' + 1 := ⟨j - 1, by omega⟩
          exact ⟨j' + 1, by omega, v3, dl3, _, b + 1, rfl, vk3, tl3, hd3, f2.trans f3, .inr ⟨hno3, l3, j', g1, by omega, rfl, by omega, by rw [← hroundR, round_no hno3]⟩⟩
        · exact ⟨0, by omega, v3, dl3, _, b + 1, rfl, vk3, tl3, hd3, f2.trans f3, .inl ⟨hno3, by rw [← hroundR, round_yes hno3], by omega⟩⟩
/-- all -/
def spVAll (K : PySem.W.Frag) : Sp := fun vs H Q _ => ∃ (qk pw qr qf qp dh dl : Addr) (W : Nat) (kvs : List (Str × Bool)) (lm : List Str) (sdm : Option (List Nat)) (lk : Int) (st : WkS) (n : Nat), vs = [.ref qk] ∧ VkOk K H qk pw qr qf qp dh dl W kvs lm sdm lk st n ∧ n + meas W st ≤ 900000 ∧
  ∀ (p dl' : Addr) (H' : Hp), (dl' = dl ∨ H dl' = none) → H p = none → VkOk K H' qk pw qr qf qp dh dl' W kvs (allF W kvs (meas W st) (st, lm, sdm, lk)).2.1 (allF W kvs (meas W st) (st, lm, sdm, lk)).2.2.1 (allF W kvs (meas W st) (st, lm, sdm, lk)).2.2.2 (allF W kvs (meas W st) (st, lm, sdm, lk)).1 (n + meas W st) → (allF W kvs (meas W st) (st, lm, sdm, lk)).1.sd = none → (allF W kvs (meas W st) (st, lm, sdm, lk)).1.rest = [] →
    H' p = some (.lst ((allF W kvs (meas W st) (st, lm, sdm, lk)).1.found.map txV)) → Frm [qk, qr, qf, qp, pw] H H' → Q (.ref p) H'
theorem meas_pos {W : Nat} {st : WkS} (h : ¬ (st.sd = none ∧ st.rest = [])) : 0 < meas W st := by
  obtain ⟨kd, rest, sd, found, paper⟩ := st
  unfold meas
  cases sd with
  | some l =>
    have := two_pow (n := W - l.length)
    show 0 < sumR W rest + wS W l
    unfold wS
    omega
  | none =>
    cases rest with
    | nil => exact absurd ⟨rfl, rfl⟩ h
    | cons g r =>
      have := two_pow (n := W - g.length)
      show 0 < (wR W g + sumR W r) + 0
      unfold wR
      omega
theorem m_Walk_go_all (T : Txt P w K mg base) : MetX CX0 P w K mg base 6 (VC K) "go_all" (spVAll K) := by
  obtain ⟨fd, F⟩ := T.t.def_ 21 (d := d_Walk_go_all)
  refine ⟨_, fd, _, vcl T, He.meth_ok (T.t.fact 100 (f := .meth "Walk" "go_all")), F.ok sc_Walk_go_all (fun vs H Q E h => ?_) (fun cdv A outer s H vs Q E hr h => ?_), F.bindsN fun _ _ _ _ _ _ us hl => match us, hl with | [_], _ => rfl⟩
  · obtain ⟨qk, pw, qr, qf, qp, dh, dl, W, kvs, lm, sdm, lk, st, n, rfl, _⟩ := h
    rfl
  · obtain ⟨qk, pw, qr, qf, qp, dh, dl, W, kvs, lm, sdm, lk, st, n, rfl, vk, hn, k⟩ := h
    refine ⟨_, PSs.nox (pss_cons (ps_while PassesOwn.never (PW.pt (pw_or (pt_cmpR op_notN (pe_fld (pv 0) (by rfl)) pe_non (nomark _)) (pw_or1 (pt_truth (pe_fld (pv 0) (by rfl)) (by intro _; rfl)))))
      (pss_one (ps_expr (pe_mx0 (m_Walk_step T) hr (by decide) (pv 0) (passes_call (E := fun _ _ _ => False) L2.takes0 (fun _ _ _ _ h => h))))))
    (pss_one (ps_ret (pe_mx0 (m_Walk_found T) hr (by decide) (pv 0) pass0)))), ?_⟩
    generalize hR : allF W kvs (meas W st) (st, lm, sdm, lk) = R at k
    let Wd : Nat → L2.St → Hp → Prop := fun m σ H' => ∃ (dl' : Addr) (q : WkS × List Str × Option (List Nat) × Int) (b : Nat), σ = [some (.ref qk)] ∧ VkOk K H' qk pw qr qf qp dh dl' W kvs q.2.1 q.2.2.1 q.2.2.2 q.1 b ∧ (dl' = dl ∨ H dl' = none) ∧ Frm [qk, qr, qf, qp, pw] H H' ∧ meas W q.1 ≤ m ∧ b + m ≤ n + meas W st ∧ allF W kvs m q = R
    refine ⟨Wd, ⟨meas W st, dl, (st, lm, sdm, lk), n, rfl, vk, .inl rfl, Frm.refl _ _, Nat.le_refl _, Nat.le_refl _, hR⟩, ?_⟩
    rintro m σ H2 ⟨dl2, ⟨st2, lm2, sd2, lk2⟩, b, rfl, vk2, hd2, f2, hm, hb, hq⟩
    dsimp only at vk2 hm
    obtain ⟨⟨dx2, g1⟩, g2, _⟩ := id vk2.wk
    have body : ¬ (st2.sd = none ∧ st2.rest = []) → ∃ (N : L2.St → Hp → Prop), (∀ σ' H', N σ' H' → ∃ m', m' < m ∧ Wd m' σ' H') ∧ spVStep K [.ref qk] H2 (fun _ H' => N [some (.ref qk)] H') (fun _ _ _ => False) := fun hst => by
      refine ⟨fun σ' H' => ∃ m', m' < m ∧ Wd m' σ' H', fun _ _ h => h, vk2.step (by omega) (fun a b => absurd ⟨a, b⟩ hst) fun hne v dl3 H3 hdl3 vk3 tl3 f3 => ?_⟩
      have hlt := step_meas (kvs := kvs) (lk := lk2) vk2.ok hne
      obtain ⟨m', rfl⟩ : ∃ m', m = m' + 1 := ⟨m - 1, by have := meas_pos (W := W) hst; omega⟩
      have hd3 : dl3 = dl ∨ H dl3 = none := hdl3.elim (fun e => by rw [e]; exact hd2) fun z => .inr (f2.b _ z)
      exact ⟨m', by omega, dl3, ((stepF W kvs lm2 lk2 st2).1.1, (stepF W kvs lm2 lk2 st2).2), b + 1, rfl, vk3, hd3, f2.trans f3, by show meas W (stepF W kvs lm2 lk2 st2).1.1 ≤ m'; omega, by omega, by rw [← hq, all_go hst]⟩
    have sdn : ∀ o : Option (List Nat), (decide (sdV o = V.non)) = o.isNone := fun o => by
      cases o with
      | none => rfl
      | some l => rfl
    refine ⟨_, rfl, qk, _, dx2, _, _, rfl, g1, vcl T, vn_said T, vl_said, rfl, _, rfl, ?_⟩
    rw [sdn]
    cases hs : st2.sd with
    | some l =>
      obtain ⟨N, n1, n2⟩ := body (fun z => by rw [hs] at z; cases z.1)
      refine ⟨N, n1, _, rfl, qk, dx2, _, rfl, g1, vx_step, n2⟩
    | none =>
      refine ⟨_, rfl, qk, _, dx2, _, _, rfl, g1, vcl T, vn_row T, vl_row, _, .inl ⟨_, SqL.of g2, rfl⟩, ?_⟩
      cases hr2 : st2.rest with
      | cons g r =>
        obtain ⟨N, n1, n2⟩ := body (fun z => by rw [hr2] at z; cases z.2)
        refine ⟨N, n1, _, rfl, qk, dx2, _, rfl, g1, vx_step, n2⟩
      | nil =>
        have e : (st2, lm2, sd2, lk2) = R := by rw [← hq, all_stop ⟨hs, hr2⟩]
        subst e
        refine ⟨_, rfl, qk, dx2, _, rfl, g1, vx_found, qk, pw, qr, qf, qp, st2, rfl, vk2.wk, fun p H3 hp hp3 f3 => ?_⟩
        exact k p dl2 H3 hd2 (f2.b _ hp) ((vk2.stay (f3.toT .nil (K := K)) .nil (by simp) (by simp) (by simp) (by simp) (by simp) (by simp)).le (by omega)) hs hr2 hp3 (f2.trans (f3.mono (by simp)))
end
end B

set_option Elab.async false
set_option linter.all false
set_option maxRecDepth 100000
set_option maxHeartbeats 4000000
namespace B
open PySem PySem.Spec PyProof.Rows L2
open SX (S)
/-! ### a walk over a pool ends soon -/
def cnt (names : List Str) (l : List Nat) : Nat := (names.filter (starts l)).length
theorem sg_one {n : Nat} {x : Str} (a : sg n 48 x = true) (b : sg n 49 x = true) : False := by
  have a' := of_decide_eq_true a
  have b' := of_decide_eq_true b
  rw [a'] at b'
  cases b'
theorem cnt_two {names : List Str} {l : List Nat} : cnt names (l ++ [48]) + cnt names (l ++ [49]) ≤ cnt names l := by
  unfold cnt
  induction names with
  | nil => exact Nat.le_refl _
  | cons x r ih =>
    rw [List.filter_cons, List.filter_cons, List.filter_cons, starts_snoc, starts_snoc]
    cases e : starts l x with
    | false =>
      rw [Bool.and_false, Bool.and_false]
      exact ih
    | true =>
      rw [Bool.and_true, Bool.and_true]
      cases a : sg l.length 48 x with
      | false =>
        cases b : sg l.length 49 x with
        | false =>
          rw [if_neg Bool.false_ne_true, if_neg Bool.false_ne_true, if_pos rfl, List.length_cons]
          omega
        | true =>
          rw [if_neg Bool.false_ne_true, if_pos rfl, if_pos rfl, List.length_cons, List.length_cons]
          omega
      | true =>
        cases b : sg l.length 49 x with
        | false =>
          rw [if_pos rfl, if_neg Bool.false_ne_true, if_pos rfl, List.length_cons, List.length_cons]
          omega
        | true => exact (sg_one a b).elim
theorem cnt_pos {names : List Str} {l : List Nat} {x : Str} (hx : x ∈ names) (h : starts l x = true) : 1 ≤ cnt names l := List.length_pos_of_mem (List.mem_filter.mpr ⟨hx, h⟩)
def vR (W : Nat) (names : List Str) (g : List Nat) : Nat := cnt names g * (W - g.length + 1)
def sumV (W : Nat) (names : List Str) : List (List Nat) → Nat
  | [] => 0
  | g :: r => vR W names g + sumV W names r
theorem sumV_app {W : Nat} {names : List Str} : ∀ {a b : List (List Nat)}, sumV W names (a ++ b) = sumV W names a + sumV W names b
  | [], b => by show sumV W names b = 0 + sumV W names b; omega
  | g :: a, b => by
    have := sumV_app (W := W) (names := names) (a := a) (b := b)
    show vR W names g + sumV W names (a ++ b) = vR W names g + sumV W names a + sumV W names b
    omega
def mv (W : Nat) (names : List Str) (st : WkS) : Nat := sumV W names st.rest + (match st.sd with | none => 0 | some l => vR W names l - 1)
structure Cnts (names : List Str) (st : WkS) : Prop where
  rest : ∀ g ∈ st.rest, 1 ≤ cnt names g
  said : ∀ l, st.sd = some l → 1 ≤ cnt names l
theorem over_mv {W : Nat} {names : List Str} {st : WkS} {l : List Nat} : mv W names (overF W st l).1 ≤ sumV W names st.rest + (vR W names l - 1) := by
  unfold overF mv
  split
  · exact Nat.le_refl _
  · show sumV W names st.rest + 0 ≤ _
    omega
theorem over_cnts {W : Nat} {names : List Str} {st : WkS} {l : List Nat} (h : ∀ g ∈ st.rest, 1 ≤ cnt names g) (hl : 1 ≤ cnt names l) : Cnts names (overF W st l).1 := by
  unfold overF
  split
  · exact ⟨h, fun l' e => by cases e; exact hl⟩
  · exact ⟨h, fun l' e => by cases e⟩
theorem beg_st {W : Nat} {l : List Nat} {x : Str} (h : Beg W l x) : starts l x = true := by
  obtain ⟨m, rfl, e, b, t⟩ := h
  unfold starts
  rw [S_list]
  exact decide_eq_true t
theorem heard_cnt {W c : Nat} {names lm : List Str} {l : List Nat} (h : lm.any (sg l.length c) = true) (hb : ∀ x ∈ lm, Beg W l x) (hs : ∀ x ∈ lm, x ∈ names) : 1 ≤ cnt names (l ++ [c]) := by
  obtain ⟨x, hx, e⟩ := List.any_eq_true.mp h
  refine cnt_pos (hs x hx) ?_
  rw [starts_snoc, e, beg_st (hb x hx)]
  rfl
theorem vR_snoc {W c : Nat} {names : List Str} {l : List Nat} (h : l.length < W) : vR W names (l ++ [c]) = cnt names (l ++ [c]) * (W - l.length) := by
  unfold vR
  rw [List.length_append, List.length_singleton, show W - (l.length + 1) + 1 = W - l.length by omega]
theorem step_mv {W n : Nat} {names : List Str} {kvs : List (Str × Bool)} {lm : List Str} {sdm : Option (List Nat)} {lk : Int} {st : WkS} (h : WkOk W lm sdm st n) (c : Cnts names st) (hs : ∀ x ∈ lm, x ∈ names) (hr : st.sd = none → st.rest ≠ []) : mv W names (stepF W kvs lm lk st).1.1 < mv W names st ∧ Cnts names (stepF W kvs lm lk st).1.1 := by
  obtain ⟨kd, rest, sd, found, paper⟩ := st
  obtain ⟨c1, c2⟩ := c
  dsimp only at c1 c2
  cases sd with
  | none =>
    obtain ⟨r, g, e, hg, hb⟩ := h.none_ (hr rfl)
    dsimp only at e
    subst e
    have e0 : stepF W kvs lm lk ⟨kd, r ++ [g], none, found, paper⟩ = (overF W ⟨kd, r, none, found, paper⟩ g, begF kvs kd g, some g, lk) := by
      unfold stepF
      simp
    rw [e0]
    have hg1 := c1 g (by simp)
    refine ⟨Nat.lt_of_le_of_lt over_mv ?_, over_cnts (fun q hq => c1 q (List.mem_append_left _ hq)) hg1⟩
    show sumV W names r + (vR W names g - 1) < sumV W names (r ++ [g]) + 0
    rw [sumV_app]
    show sumV W names r + (vR W names g - 1) < sumV W names r + (vR W names g + 0) + 0
    have : 1 * 1 ≤ vR W names g := Nat.mul_le_mul hg1 (by omega)
    omega
  | some l =>
    obtain ⟨_, hlt, _, hbeg⟩ := h.said l rfl
    have hl1 := c2 l rfl
    have hk : 1 ≤ W - l.length := by omega
    have v0 : vR W names l = cnt names l * (W - l.length) + cnt names l := Nat.mul_succ _ _
    have v1 : 1 * 1 ≤ cnt names l * (W - l.length) := Nat.mul_le_mul hl1 hk
    have v2 := vR_snoc (c := 48) (names := names) hlt
    have v3 := vR_snoc (c := 49) (names := names) hlt
    have v4 : (cnt names (l ++ [48]) + cnt names (l ++ [49])) * (W - l.length) ≤ cnt names l * (W - l.length) := Nat.mul_le_mul_right _ cnt_two
    rw [Nat.add_mul] at v4
    have q48 := fun z => heard_cnt (c := 48) z hbeg hs
    have q49 := fun z => heard_cnt (c := 49) z hbeg hs
    unfold stepF
    dsimp only
    revert q48 q49
    generalize lm.any (sg l.length 48) = z
    generalize lm.any (sg l.length 49) = o
    intro q48 q49
    cases z <;> cases o
    · rw [if_pos ⟨rfl, rfl⟩]
      refine ⟨?_, ⟨c1, fun l' e => by cases e⟩⟩
      show sumV W names rest + 0 < sumV W names rest + (vR W names l - 1)
      omega
    · rw [if_neg (fun z => Bool.noConfusion z.2), if_neg Bool.false_ne_true, if_neg (fun z => Bool.noConfusion z.1)]
      refine ⟨Nat.lt_of_le_of_lt over_mv ?_, over_cnts c1 (q49 rfl)⟩
      have := Nat.mul_le_mul (q49 rfl) hk
      show sumV W names rest + (vR W names (l ++ [49]) - 1) < sumV W names rest + (vR W names l - 1)
      omega
    · rw [if_neg (fun z => Bool.noConfusion z.1), if_pos rfl, if_neg (fun z => Bool.noConfusion z.2)]
      refine ⟨Nat.lt_of_le_of_lt over_mv ?_, over_cnts c1 (q48 rfl)⟩
      have := Nat.mul_le_mul (q48 rfl) hk
      show sumV W names rest + (vR W names (l ++ [48]) - 1) < sumV W names rest + (vR W names l - 1)
      omega
    · rw [if_neg (fun z => Bool.noConfusion z.1), if_pos rfl, if_pos ⟨rfl, rfl⟩]
      refine ⟨Nat.lt_of_le_of_lt over_mv ?_, over_cnts (fun g hg => ?_) (q48 rfl)⟩
      · have := Nat.mul_le_mul (q48 rfl) hk
        have := Nat.mul_le_mul (q49 rfl) hk
        show sumV W names (rest ++ [l ++ [49]]) + (vR W names (l ++ [48]) - 1) < sumV W names rest + (vR W names l - 1)
        rw [sumV_app]
        show sumV W names rest + (vR W names (l ++ [49]) + 0) + (vR W names (l ++ [48]) - 1) < sumV W names rest + (vR W names l - 1)
        omega
      · rcases List.mem_append.mp hg with z | z
        · exact c1 g z
        · rw [List.mem_singleton.mp z]
          exact q49 rfl
/-- what is said on a wire is what those that listen begin with -/
theorem step_beg {W n : Nat} {kvs : List (Str × Bool)} {lm : List Str} {sdm : Option (List Nat)} {lk : Int} {st : WkS} (h : WkOk W lm sdm st n) (hr : st.sd = none → st.rest ≠ []) (hkn : ∀ x ∈ kvs.map (·.1), Num W x) : ∀ l, (stepF W kvs lm lk st).2.2.1 = some l → l.length ≤ W ∧ ∀ x ∈ (stepF W kvs lm lk st).2.1, Beg W l x := by
  obtain ⟨kd, rest, sd, found, paper⟩ := st
  cases sd with
  | none =>
    obtain ⟨r, g, e, hg, hb⟩ := h.none_ (hr rfl)
    dsimp only at e
    subst e
    have e0 : stepF W kvs lm lk ⟨kd, r ++ [g], none, found, paper⟩ = (overF W ⟨kd, r, none, found, paper⟩ g, begF kvs kd g, some g, lk) := by
      unfold stepF
      simp
    rw [e0]
    intro l e
    cases e
    have bs := begF_sub (kvs := kvs) (kd := kd) (l := g)
    exact ⟨hg, fun x hx => beg_starts (hkn x (bs.2 x hx).1) (bs.2 x hx).2⟩
  | some l =>
    obtain ⟨_, hlt, _, hbeg⟩ := h.said l rfl
    unfold stepF
    dsimp only
    split
    · intro l' e
      cases e
      exact ⟨Nat.le_of_lt hlt, hbeg⟩
    · intro l' e
      cases e
      refine ⟨by rw [List.length_append, List.length_singleton]; omega, fun x hx => ?_⟩
      obtain ⟨x1, x2⟩ := List.mem_filter.mp hx
      exact beg_next' (hbeg x x1) x2
theorem step_sub {W : Nat} {kvs : List (Str × Bool)} {lm : List Str} {lk : Int} {st : WkS} {names : List Str} (hs : ∀ x ∈ lm, x ∈ names) (hk : ∀ x ∈ kvs.map (·.1), x ∈ names) : ∀ x ∈ (stepF W kvs lm lk st).2.1, x ∈ names := by
  obtain ⟨kd, rest, sd, found, paper⟩ := st
  cases sd with
  | none => exact fun x hx => hk x (begF_sub.2 x hx).1
  | some l =>
    unfold stepF
    dsimp only
    split
    · exact hs
    · exact fun x hx => hs x (List.mem_filter.mp hx).1
theorem step_len {W m : Nat} {kvs : List (Str × Bool)} {lm : List Str} {lk : Int} {st : WkS} (hs : lm.length ≤ m) (hk : kvs.length ≤ m) : (stepF W kvs lm lk st).2.1.length ≤ m := by
  obtain ⟨kd, rest, sd, found, paper⟩ := st
  cases sd with
  | none => exact Nat.le_trans begF_sub.1 hk
  | some l =>
    unfold stepF
    dsimp only
    split
    · exact hs
    · exact Nat.le_trans (List.length_filter_le _ _) hs
/-- a walk's state, who listens, what is said on the wire, the looks -/
abbrev Q4 := WkS × List Str × Option (List Nat) × Int
def stepQ (W : Nat) (kvs : List (Str × Bool)) (q : Q4) : Q4 := ((stepF W kvs q.2.1 q.2.2.2 q.1).1.1, (stepF W kvs q.2.1 q.2.2.2 q.1).2)
structure InvQ (names : List Str) (W : Nat) (q : Q4) (b : Nat) : Prop where
  ok : WkOk W q.2.1 q.2.2.1 q.1 b
  cn : Cnts names q.1
  sub : ∀ x ∈ q.2.1, x ∈ names
  beg : ∀ l, q.2.2.1 = some l → l.length ≤ W ∧ ∀ x ∈ q.2.1, Beg W l x
  len : q.2.1.length ≤ 41
  mz : b + meas W q.1 ≤ 20000
theorem inv_step {names : List Str} {W b : Nat} {kvs : List (Str × Bool)} {q : Q4} (h : InvQ names W q b) (hr : q.1.sd = none → q.1.rest ≠ []) (hk : kvs.length ≤ 41) (hkn : ∀ x ∈ kvs.map (·.1), x ∈ names) (hnn : ∀ x ∈ names, Num W x) : InvQ names W (stepQ W kvs q) (b + 1) ∧ mv W names (stepQ W kvs q).1 < mv W names q.1 := by
  obtain ⟨a1, a2, a3, a4, a5, a6⟩ := h
  have kn : ∀ x ∈ kvs.map (·.1), Num W x := fun x hx => hnn x (hkn x hx)
  have s1 := step_mv (kvs := kvs) (lk := q.2.2.2) a1 a2 a3 hr
  have s2 := step_meas (kvs := kvs) (lk := q.2.2.2) a1 hr
  refine ⟨⟨step_ok a1 hr (by omega) kn, s1.2, step_sub a3 hkn, step_beg a1 hr kn, step_len a5 hk, ?_⟩, s1.1⟩
  show b + 1 + meas W (stepF W kvs q.2.1 q.2.2.2 q.1).1.1 ≤ 20000
  omega
/-- some steps -/
inductive Stp (W : Nat) (kvs : List (Str × Bool)) : Q4 → Q4 → Prop where
  | refl (q : Q4) : Stp W kvs q q
  | step (q q' : Q4) : (q.1.sd = none → q.1.rest ≠ []) → Stp W kvs (stepQ W kvs q) q' → Stp W kvs q q'
theorem inv_stp {names : List Str} {W : Nat} {kvs : List (Str × Bool)} (hk : kvs.length ≤ 41) (hkn : ∀ x ∈ kvs.map (·.1), x ∈ names) (hnn : ∀ x ∈ names, Num W x) {q q' : Q4} (s : Stp W kvs q q') : ∀ {b : Nat}, InvQ names W q b → (∃ b', InvQ names W q' b') ∧ mv W names q'.1 ≤ mv W names q.1 := by
  induction s with
  | refl q => exact fun h => ⟨⟨_, h⟩, Nat.le_refl _⟩
  | step q q' hr _ ih =>
    intro b h
    have s1 := inv_step h hr hk hkn hnn
    have s2 := ih s1.1
    exact ⟨s2.1, by omega⟩
theorem round_stp {W : Nat} {kvs : List (Str × Bool)} : ∀ {n : Nat} {st : WkS} {lm : List Str} {sdm : Option (List Nat)} {lk : Int}, (st.sd = none → st.rest ≠ []) → Stp W kvs (stepQ W kvs (st, lm, sdm, lk)) ((roundF W kvs n lm lk st).1.1, (roundF W kvs n lm lk st).2)
  | 0, st, lm, sdm, lk, h => .refl _
  | n + 1, st, lm, sdm, lk, h => by
    by_cases hno : (stepF W kvs lm lk st).1.2 = .no
    · rw [round_no hno]
      obtain ⟨l', e, _⟩ := step_no hno
      have hc : (stepF W kvs lm lk st).1.1.sd = none → (stepF W kvs lm lk st).1.1.rest ≠ [] := fun z => by rw [e] at z; cases z
      exact .step _ _ hc (round_stp (sdm := (stepF W kvs lm lk st).2.2.1) hc)
    · rw [round_yes hno]
      exact .refl _
theorem all_stp {W : Nat} {kvs : List (Str × Bool)} : ∀ {n : Nat} {q : Q4}, Stp W kvs q (allF W kvs n q)
  | 0, q => .refl _
  | n + 1, q => by
    by_cases h : q.1.sd = none ∧ q.1.rest = []
    · rw [all_stop h]
      exact .refl _
    · rw [all_go h]
      exact .step _ _ (fun a b => h ⟨a, b⟩) all_stp
theorem cnt_nil {names : List Str} : cnt names [] = names.length := by
  have e : names.filter (starts []) = names := List.filter_eq_self.mpr fun x _ => decide_eq_true rfl
  unfold cnt
  rw [e]
/-- a walk begun -/
theorem inv_new {names : List Str} {W : Nat} {kd : Str} (hn : names ≠ []) (hW : W ≤ 12) (hl : names.length ≤ 41) : InvQ names W (⟨kd, [[]], none, [], []⟩, [], none, 0) 1 ∧ mv W names ⟨kd, [[]], none, [], []⟩ ≤ 533 := by
  have hp : 1 ≤ names.length := List.length_pos_iff.mpr hn
  refine ⟨⟨⟨fun g hg => ?_, fun l e => (by cases e), ⟨Nat.le_refl _, Nat.zero_le _, Nat.zero_le _⟩, Nat.zero_le _⟩, ⟨fun g hg => ?_, fun l e => (by cases e)⟩, fun x hx => absurd hx (by simp), fun l e => (by cases e), Nat.zero_le _, ?_⟩, ?_⟩
  · rw [List.mem_singleton.mp hg]
    exact ⟨Nat.zero_le _, Bits.nil⟩
  · rw [List.mem_singleton.mp hg, cnt_nil]
    exact hp
  · show 1 + (wR W [] + 0 + 0) ≤ 20000
    have : 2 ^ (W + 2) ≤ 2 ^ 14 := Nat.pow_le_pow_right (by decide) (by omega)
    have e : wR W [] = 2 ^ (W + 2) - 1 := rfl
    omega
  · show vR W names [] + 0 + 0 ≤ 533
    have e : vR W names [] = names.length * (W + 1) := by
      unfold vR
      rw [cnt_nil]
      rfl
    have := Nat.mul_le_mul hl (show W + 1 ≤ 13 by omega)
    omega
end B

set_option Elab.async false
set_option linter.all false
set_option maxRecDepth 100000
set_option maxHeartbeats 4000000
namespace B
open PySem PySem.Spec PyProof.Rows L2
open SX (S)
theorem deed_hang {kvs : List (Str × Bool)} {x : Str} {lw : List Str} (h : ¬ hasK kvs x = true) : deedW kvs "hang" x = "" ∧ deedK kvs "hang" x = putB kvs x false ∧ deedL kvs lw "hang" x = lw := by
  unfold deedW deedK deedL
  rw [if_pos rfl, if_pos rfl, if_neg h, if_neg h, if_neg (fun z => absurd z.1 (by decide +kernel))]
  exact ⟨rfl, rfl, rfl⟩
theorem deed_alarm {kvs : List (Str × Bool)} {x : Str} {lw : List Str} (h : hasK kvs x = true) : deedW kvs "alarm" x = "" ∧ deedK kvs "alarm" x = putB kvs x true ∧ deedL kvs lw "alarm" x = lw := by
  have nw : ¬ ("alarm" : Str) = "hang" := by decide +kernel
  have no : ¬ ("alarm" : Str) = "off" := by decide +kernel
  unfold deedW deedK deedL
  rw [if_neg nw, if_neg nw, if_pos h, if_pos h, if_neg no, if_neg (fun z => no z.1), decide_eq_true rfl]
  exact ⟨rfl, rfl, rfl⟩
theorem has_put {kvs : List (Str × Bool)} {x : Str} {b : Bool} : hasK (putB kvs x b) x = true := by
  rw [has_key, keys_put]
  split
  · rename_i h
    exact has_key.mp h
  · exact List.mem_append_right _ (by simp)
theorem nod_app {L G : List Addr} {H : Hp} (hL : L.Nodup) (hG : G.Nodup) (al : ∀ x ∈ L, H x ≠ none) (nn : ∀ x ∈ G, H x = none) : (L ++ G).Nodup := by
  rw [List.nodup_append]
  exact ⟨hL, hG, fun a ha c hc e => al a ha (by rw [e]; exact nn c hc)⟩
/-- a statement whose ways all lead to the same -/
theorem seq_merge {a b : TS} {D : Ends} {σ : L2.St} {H : Hp} (P : L2.St → Hp → Prop) (h1 : ∀ K : L2.St → Hp → Prop, (∀ σ' H', P σ' H' → K σ' H') → a { D with nx := K } σ H) (h2 : ∀ σ' H', P σ' H' → b D σ' H') : tSeq a b D σ H := h1 _ h2
theorem seq_merge2 {a b c : TS} {D : Ends} {σ : L2.St} {H : Hp} (P : L2.St → Hp → Prop) (h1 : ∀ K : L2.St → Hp → Prop, (∀ σ' H', P σ' H' → K σ' H') → tSeq a b { D with nx := K } σ H) (h2 : ∀ σ' H', P σ' H' → c D σ' H') : tSeq a (tSeq b c) D σ H := h1 _ h2
/-- a while whose test makes but new things: G tells whether it goes on -/
theorem while_go {α : Type} {c : TT} {tb : TS} {D : Ends} {σ : L2.St} {H : Hp} (Wd : α → Nat → L2.St → Hp → Prop) (G : α → Prop) (h0 : ∃ x m, Wd x m σ H)
    (hc : ∀ x m σ H, Wd x m σ H → ∀ K : Bool → Hp → Prop, (G x → ∀ H', Frm [] H H' → K true H') → (¬ G x → ∀ H', Frm [] H H' → K false H') → c σ H K)
    (hb : ∀ x m σ H H', Wd x m σ H → G x → Frm [] H H' → tb { D with nx := fun σ' H'' => ∃ m', m' < m ∧ ∃ x', Wd x' m' σ' H'', ct := fun σ' H'' => ∃ m', m' < m ∧ ∃ x', Wd x' m' σ' H'', bk := D.nx } σ H')
    (hd : ∀ x m σ H H', Wd x m σ H → ¬ G x → Frm [] H H' → D.nx σ H') : tWhile c tb D σ H := by
  obtain ⟨x0, m0, w0⟩ := h0
  refine ⟨fun m σ H => ∃ x, Wd x m σ H, ⟨m0, x0, w0⟩, ?_⟩
  rintro m σ H ⟨x, w⟩
  refine hc x m σ H w _ (fun g H' f => ?_) (fun g H' f => ?_)
  · rw [if_pos rfl]
    exact ⟨fun σ' H'' => ∃ m', m' < m ∧ ∃ x', Wd x' m' σ' H'', fun _ _ h => h, hb x m σ H H' w g f⟩
  · rw [if_neg Bool.false_ne_true]
    exact hd x m σ H H' w g f
theorem deed_off {kvs : List (Str × Bool)} {x : Str} {lw : List Str} (h : hasK kvs x = true) : deedW kvs "off" x = "" ∧ deedK kvs "off" x = dropB kvs x ∧ deedL kvs lw "off" x = lw.filter (fun y => decide (y ≠ x)) := by
  have nw : ¬ ("off" : Str) = "hang" := by decide +kernel
  unfold deedW deedK deedL
  rw [if_neg nw, if_neg nw, if_pos h, if_pos h, if_pos rfl, if_pos ⟨rfl, h⟩]
  exact ⟨rfl, rfl, rfl⟩
theorem inV_strs (x : Str) (xs : List Str) : inV (V.str x) (xs.map V.str) = decide (x ∈ xs) := by
  by_cases h : x ∈ xs
  · rw [decide_eq_true h]
    unfold inV
    rw [List.any_map, List.any_eq_true]
    exact ⟨x, h, by show eqV (V.str x) (V.str x) = true; simp [eqV]⟩
  · rw [decide_eq_false h]
    cases e : inV (V.str x) (xs.map V.str) with
    | false => rfl
    | true =>
      exfalso
      unfold inV at e
      rw [List.any_map, List.any_eq_true] at e
      obtain ⟨y, hy, q⟩ := e
      have q' : (y == x) = true := q
      exact h (eq_of_beq q' ▸ hy)
theorem keys_new {kvs : List (Str × Bool)} {x : Str} {b : Bool} (h : ¬ hasK kvs x = true) : (putB kvs x b).map (·.1) = kvs.map (·.1) ++ [x] := by rw [keys_put, if_neg h]
theorem keys_in {kvs : List (Str × Bool)} {x y : Str} {b : Bool} : y ∈ (putB kvs x b).map (·.1) ↔ y ∈ kvs.map (·.1) ∨ y = x := by
  rw [keys_put]
  split
  · rename_i h
    exact ⟨.inl, fun q => q.elim id fun e => by rw [e]; exact has_key.mp h⟩
  · rw [List.mem_append, List.mem_singleton]
theorem tld_dec {H : Hp} {r : Tld} {v : V} (h : TldAt H r v) : (v = V.non ↔ r = .no) := by
  cases r with
  | no => exact ⟨fun _ => rfl, fun _ => h⟩
  | lost =>
    obtain ⟨t, e, _⟩ := h
    exact ⟨fun z => (by rw [e] at z; cases z), fun z => (by cases z)⟩
  | found l =>
    obtain ⟨t, e, _⟩ := h
    exact ⟨fun z => (by rw [e] at z; cases z), fun z => (by cases z)⟩
end B

set_option Elab.async false
set_option linter.all false
set_option maxRecDepth 100000
set_option maxHeartbeats 4000000
namespace B
open PySem PySem.Spec PyProof.Rows L2
open SX (S)
/-! ### what changes is no tuple -/
def nt : HO → Bool
  | .ins _ _ _ => true
  | .dK _ => true
  | .lst _ => true
  | _ => false
def NT (T : List Addr) (H : Hp) : Prop := ∀ s ∈ T, ∃ o, H s = some o ∧ nt o = true
theorem NT.nil {H : Hp} : NT [] H := fun _ h => absurd h (by simp)
theorem NT.cons {T : List Addr} {H : Hp} {s : Addr} {o : HO} (h : H s = some o) (n : nt o = true) (t : NT T H) : NT (s :: T) H := fun c hc => by
  rcases List.mem_cons.mp hc with e | e
  · rw [e]
    exact ⟨o, h, n⟩
  · exact t c e
theorem NT.of {T : List Addr} {H : Hp} (h : NL T H) : NT T H := fun s hs => by
  obtain ⟨o, e, n⟩ := h s hs
  refine ⟨o, e, ?_⟩
  cases o <;> first | rfl | cases n
theorem NT.out {T : List Addr} {H : Hp} {p : Addr} {o : HO} (n : NT T H) (h : H p = some o) (h2 : nt o = false) : p ∉ T := fun z => by
  obtain ⟨u, e, q⟩ := n p z
  rw [h] at e
  cases e
  rw [h2] at q
  cases q
theorem nt_codeO {c : Addr} {q : Str} : nt (LamX.CodeO c q) = false := rfl
theorem Frm.toN {K : PySem.W.Frag} {T : List Addr} {H H' : Hp} (f : Frm T H H') (n : NT T H) : FrT K T H H' := by
  have kp : ∀ {p : Addr} {o : HO}, H p = some o → nt o = false → H' p = some o := fun {p o} e h => f.k p o e rfl (n.out e h)
  refine ⟨fun b o e _ hb => f.k b o e rfl hb, f.b, fun ⟨h1, h2⟩ => ⟨fun p hp => ?_, fun p hp => ?_⟩⟩
  · obtain ⟨ps, e, t⟩ := h1 p hp
    exact ⟨ps, kp e rfl, t⟩
  obtain ⟨qs, e1, t1, a1⟩ := h2 p hp
  refine ⟨qs, kp e1 rfl, t1, fun pos cv hc => ?_⟩
  obtain ⟨c, e2, e3⟩ := a1 pos cv hc
  exact ⟨c, e2, kp e3 nt_codeO⟩
theorem VkAt.keepT {K : PySem.W.Frag} {T : List Addr} {H H' : Hp} {qk pw qr qf qp : Addr} {st : WkS} (h : VkAt K H qk pw qr qf qp st) (f : FrT K T H H') (n : NT T H) (h1 : qk ∉ T) (h2 : qr ∉ T) (h3 : qf ∉ T) (h4 : qp ∉ T) : VkAt K H' qk pw qr qf qp st := by
  obtain ⟨⟨dx, o1⟩, o2, o3, ⟨ts, o4, o5, o6⟩, ne⟩ := h
  exact ⟨⟨dx, f.k _ _ o1 rfl h1⟩, f.k _ _ o2 rfl h2, f.k _ _ o3 rfl h3, ⟨ts, f.k _ _ o4 rfl h4, o5, fun i t q a b => f.k _ _ (o6 i t q a b) rfl (n.out (o6 i t q a b) rfl)⟩, ne⟩
theorem WkAt.keepT {K : PySem.W.Frag} {T : List Addr} {H H' : Hp} {pk pr pf pp : Addr} {st : WkS} (h : WkAt H pk pr pf pp st) (f : FrT K T H H') (n : NT T H) (h1 : pk ∉ T) (h2 : pr ∉ T) (h3 : pf ∉ T) (h4 : pp ∉ T) : WkAt H' pk pr pf pp st := by
  obtain ⟨o1, o2, o3, ⟨ts, o4, o5, o6⟩, ne⟩ := h
  exact ⟨f.k _ _ o1 rfl h1, f.k _ _ o2 rfl h2, f.k _ _ o3 rfl h3, ⟨ts, f.k _ _ o4 rfl h4, o5, fun i t q a b => f.k _ _ (o6 i t q a b) rfl (n.out (o6 i t q a b) rfl)⟩, ne⟩
theorem TldAt.keepT {K : PySem.W.Frag} {T : List Addr} {H H' : Hp} {r : Tld} {v : V} (h : TldAt H r v) (f : FrT K T H H') (n : NT T H) : TldAt H' r v := by
  cases r with
  | no => exact h
  | lost =>
    obtain ⟨t, e, z⟩ := h
    exact ⟨t, e, f.k _ _ z rfl (n.out z rfl)⟩
  | found l =>
    obtain ⟨t, e, z⟩ := h
    exact ⟨t, e, f.k _ _ z rfl (n.out z rfl)⟩
theorem VkOk.keepT {K : PySem.W.Frag} {H H' : Hp} {T : List Addr} {qk pw qr qf qp dh dl : Addr} {W : Nat} {kvs : List (Str × Bool)} {lm : List Str} {sdm : Option (List Nat)} {lk : Int} {st : WkS} {n : Nat} (h : VkOk K H qk pw qr qf qp dh dl W kvs lm sdm lk st n) (f : FrT K T H H') (z : NT T H) (h1 : qk ∉ T) (h2 : qr ∉ T) (h3 : qf ∉ T) (h4 : qp ∉ T) (h5 : pw ∉ T) (h6 : dh ∉ T) (h7 : dl ∉ T) : VkOk K H' qk pw qr qf qp dh dl W kvs lm sdm lk st n := by
  obtain ⟨a, ⟨lw, b1, b2⟩, c, d, e, g, i, j, o⟩ := h
  exact ⟨a.keepT f z h1 h2 h3 h4, ⟨lw, b1.keep f h5 h6 h7, b2⟩, c, d, e, g, i, j, o⟩
theorem Pool.keep {K : PySem.W.Frag} {T : List Addr} {H H' : Hp} {pn : Addr} {W : Nat} {names : List Str} (h : Pool H pn W names) (f : FrT K T H H') (n : pn ∉ T) : Pool H' pn W names :=
  ⟨f.k _ _ h.at_ rfl n, h.ne, h.len, h.num, h.w⟩
theorem txs (l : List (List Nat)) : l.map txV = (l.map S).map V.str := by
  rw [List.map_map]
  rfl
theorem eqv_txs (l : List (List Nat)) : PyData.eqv (.list ((l.map S).map .str)) (.list []) = l.isEmpty := by
  rw [eqv_empty]
  cases l <;> rfl
end B

set_option Elab.async false
set_option linter.all false
set_option maxRecDepth 100000
set_option maxHeartbeats 4000000
namespace B
open PySem PySem.Spec PyProof.Rows L2
open SX (S)
/-! ### within a comprehension: the fragment by its own name -/
section
variable {X : Cx} {K : PySem.W.Frag}
theorem pi_listK {tg l : Expr} {tl : TE} (hK : X.K = K) (h : PE X l tl) : PI X tg l (iList K tl) := by
  subst hK
  exact pi_list h
theorem pt_truthK {a : Expr} {ta : TE} (hK : X.K = K) (h : PE X a ta) (e : ∀ whole : Sem Value, PySem.isTrue a X.env whole = (do
          let v ← whole
          standAt a.pos
          holding [v] (truthy v))) : PT X a fun σ H Q => ta σ H fun x H' => ∃ k, TruV K x H' k ∧ Q k H' := by
  subst hK
  exact pt_truth h e
theorem pe_notTK {a : Expr} {ta : TE} {pos : Pos} (hK : X.K = K) (h : PE X a ta) (e : ∀ whole : Sem Value, PySem.isTrue a X.env whole = (do
          let v ← whole
          standAt a.pos
          holding [v] (truthy v)) := by intro _; rfl) : PE X (.UnaryOp .Not a pos) (tNotT K ta) := by
  subst hK
  exact pe_notT h
theorem op_eqDK (hK : X.K = K) (hu : X.A.units + 64 < cLine) : OpR X (compareOp .Eq) (rEqD K) := by
  subst hK
  exact op_eqD hu
theorem op_neDK (hK : X.K = K) (hu : X.A.units + 64 < cLine) : OpR X (compareOp .NotEq) (rNeD K) := by
  subst hK
  exact op_neD hu
theorem op_catTK (hK : X.K = K) : OpR X (binaryOp .Add) (rCatT K) := by
  subst hK
  exact op_catT
theorem sl_listK (hK : X.K = K) : SlR X (rSlL K) := by
  subst hK
  exact sl_list
theorem sl_tupK (hK : X.K = K) : SlR X (rSlT K) := by
  subst hK
  exact sl_tup
theorem g_ENOUGH (T : Txt X.prog X.w X.K X.mg X.base) {p : Pos} (hg : Gl X "ENOUGH" := by rfl) : PE X (.Name "ENOUGH" p) (tC (.int 2)) := by
  obtain ⟨t, e⟩ := He.int_ok T.X T.G (T.t.fact 49 (f := .int "ENOUGH" 2))
  exact pe_glob hg e ⟨t, rfl⟩
theorem g_MOST_LOOKS (T : Txt X.prog X.w X.K X.mg X.base) {p : Pos} (hg : Gl X "MOST_LOOKS" := by rfl) : PE X (.Name "MOST_LOOKS" p) (tC (.int 100)) := by
  obtain ⟨t, e⟩ := He.int_ok T.X T.G (T.t.fact 48 (f := .int "MOST_LOOKS" 100))
  exact pe_glob hg e ⟨t, rfl⟩
end
end B

set_option Elab.async false
set_option linter.all false
set_option maxRecDepth 100000
set_option maxHeartbeats 4000000
namespace B
open PySem PySem.Spec PyProof.Rows L2
/-! ### a comprehension whose step may let an exception out -/
section
variable {M : Model} {A : Around} {E : Value → Shared → Prop} {s : Shared} {env : Env}
/-- behind the block, as compPost has it, the block's own env told -/
def postX (M : Model) (A : Around) (E : Value → Shared → Prop) (use : Option (Value → Sem Unit)) (Q : Value → Shared → Prop) (acc : Value) (ce : Env) : Result → Shared → Prop
  | .ok f, s' => compPost M A E use Q acc ce.locals (.ok f) s'
  | .error x, s' => ∃ m, s'.heap.Ns ce.locals m ∧ ∀ h', Heap.SameBut ce.locals s'.heap h' → wpAny M A (PySem.passOn "comprehension.variables-let-go" x ce : Sem Value) (fun _ _ => False) E { s' with heap := h' }
theorem compX {e : Expr} {scope : Scope} {pos : Pos} {newAcc first : Sem Value} {g : Comprehension} {gs : List Comprehension} {cl : List (Str × Addr)} {use : Option (Value → Sem Unit)} {Q : Value → Shared → Prop}
    (hcl : clausesOf e = g :: gs) (hs : ∀ x, foldedSetIterable g.iter env x = pure x) (hclos : closureFor scope env = pure cl) (hkind : scope.kind = .function) (hnames : ∀ y ∈ scope.names, y.2 = .local → scope.names.lookup y.1 = some .local)
    (h : wpAny M A first (fun x s1 => wpAny M A (pyIter x) (fun it s2 => wpAny M A newAcc (fun acc s3 => wpAny M A (newFunctionEnv scope env.globals cl [] env.qual none .none (some env)) (fun cenv s4 =>
      codeAny M A (.compStart e 0 it acc { cenv with scope := relabel scope env }) (postX M A E use Q acc { cenv with scope := relabel scope env }) s4) E s3) E s2) E s1) E s) :
    wpAny M A (comprehension e scope env pos newAcc false first use) Q E s := by
  unfold comprehension
  rw [hclos, hcl]
  refine wpAny_bind (thn h fun x s1 h1 => wpAny_bind (wpAny_standAt (wpAny_bind (wpAny_of_eq (hs x) ?_))))
  refine wpAny_bind (wpAny_holding (thn h1 fun it s2 h2 => wpAny_standIf (wpAny_bind ?_)))
  refine thn h2 fun acc s3 h3 => wpAny_bind (wpAny_pure (wpAny_bind (thn h3 fun cenv s4 h4 => ?_)))
  dsimp only
  have loc : ∀ y ∈ (scope.names.filter fun y => (y.2 == .local || y.2 == .cell) && y.1 != (".0" : Str)).reverse, y.2 = .local → Env.kindOf { cenv with scope := relabel scope env } y.1 = some .local := fun y hy hl =>
    lookup_relabel_local (hnames y (List.mem_filter.mp (List.mem_reverse.mp hy)).1 hl)
  refine wpAny_holding (wpAny_bind (wpAny_attempt (wpAny_holding (wpAny_run (codeAny_mono h4 fun r s5 hr => ?_)))))
  match r, use, hr with
  | .ok f, none, ⟨m, hn, k⟩ => exact wpAny_bind (wpAny_holding (wpAny_comp_letGo (cenv := { cenv with scope := relabel scope env }) hkind _ s5 m loc hn fun h' _ _ sb => wpAny_pure (k h' sb)))
  | .ok f, some u, hr =>
    refine wpAny_bind (wpAny_rule (wpAny_bind (wpAny_holding (thn hr fun _ s6 ⟨m, hn, k⟩ => ?_))))
    refine wpAny_bind (wpAny_comp_letGo (cenv := { cenv with scope := relabel scope env }) hkind _ s6 m (fun y hy hl => ?_) hn fun h' _ _ sb => wpAny_pure (k h' sb))
    exact (List.mem_append.mp hy).elim (fun z => loc y (List.mem_of_mem_drop z) hl) fun z => loc y (List.mem_of_mem_take z) hl
  | .error x, none, ⟨m, hn, k⟩ =>
    exact wpAny_bind (wpAny_holding (wpAny_comp_letGo (cenv := { cenv with scope := relabel scope env }) hkind _ s5 m loc hn fun h' _ _ sb => wpAny_mono (k h' sb) (fun _ _ z => z.elim) fun _ _ z => z))
  | .error x, some u, ⟨m, hn, k⟩ =>
    exact wpAny_bind (wpAny_holding (wpAny_comp_letGo (cenv := { cenv with scope := relabel scope env }) hkind _ s5 m loc hn fun h' _ _ sb => wpAny_mono (k h' sb) (fun _ _ z => z.elim) fun _ _ z => z))
end
theorem frames_but {base base' h h' : Heap} {C : Addr} (sb : Heap.SameBut C h h') : ∀ {l : List Env}, h.FunFrames base l → (∀ L ∈ frs l, base'.get? L = none ∧ L ≠ C) → h'.FunFrames base' l
  | [], _, _ => trivial
  | e :: l, x, k => by
    obtain ⟨y1, ⟨L, o, y2, _, y3, y4⟩, y5⟩ := x
    have z := k L (List.mem_filterMap.mpr ⟨e, .head _, y2⟩)
    refine ⟨y1, ⟨L, o, y2, z.1, (sb.2 L z.2).trans y3, y4⟩, frames_but sb y5 fun L' hL' => ?_⟩
    obtain ⟨e', he', q⟩ := List.mem_filterMap.mp hL'
    exact k L' (List.mem_filterMap.mpr ⟨e', .tail _ he', q⟩)
theorem note_same {x : Value} {e1 e2 : Env} (h : e1.frame = e2.frame) : noteFrame x e1 = noteFrame x e2 := by
  unfold noteFrame PySem.frameOf
  rw [h]
section
variable {X : Cx} {pins : List (Addr × Obj)} {σ : L2.St} {H H3 : Hp} {s s3 s' : Shared} {fp : List Addr} {E : XK} {W : WX} {u : Value} {ce : Env}
theorem airX (I3 : Inv X pins σ H3 s3) (f3 : ∀ b ∈ fp, FpOk X pins H3 b ∧ b < s3.heap.objs.size) (os3 : s.os = s3.os) (un : Un (frs X.stack) fp H3 H s3.heap s.heap) (nC : H s3.heap.objs.size = none) {m : Str → Option Value} (ns : s.heap.Ns s3.heap.objs.size m)
    (c : CX X.prog X.w X.stack H s E u s') (hs : X.stack = X.env :: X.outer) (hf : X.env.frame = some X.env.locals) (tk : Takes X W) (hW : ∀ cls d H', E cls d H' → W cls d σ H') (hl : ce.locals = s3.heap.objs.size) (hfr : ce.frame = X.env.frame) {use : Option (Value → Sem Unit)} {Q : Value → Shared → Prop} {acc : Value} :
    notedBy (model X.prog X.w) X.A ce (fun e s4 => postX (model X.prog X.w) X.A X.xe use Q acc ce (.error e) s4) u s' := by
  obtain ⟨a, B, H', cls, d, rfl, fl, hokB, ub, na, os, ag, hE⟩ := c
  generalize hC : s3.heap.objs.size = C at nC ns hl
  have inF : ∀ L ∈ frs X.stack, L ≠ C ∧ B.get? L = none := fun L hL => by
    obtain ⟨_, o, q, _⟩ := I3.stack.mem hL
    exact ⟨by rw [← hC]; exact Nat.ne_of_lt (Heap.lt_size q), (fl.2.2.1.mem hL).1⟩
  have nF : C ∉ frs X.stack := fun z => (inF C z).1 rfl
  obtain ⟨oC, eC⟩ : ∃ oC, s.heap.get? C = some oC := by obtain ⟨o, _, _, q, _⟩ := ns; exact ⟨o, q⟩
  have BC : B.get? C = some oC := ub.keep C oC eC nC nF
  have nCH : H' C = none := ub.free C oC eC nC
  unfold notedBy
  rw [note_same hfr]
  refine HandSPX.looks_onZ Zc.steady (by rw [I3.ok.frames, hs]) hf (by rw [← hs]; exact fl) fun h1 hd1 up1 => ?_
  refine ⟨m, by rw [hl]; exact ns.at' fun o q => hd1.1 C o (by rw [eC] at q; cases q; exact BC), fun h2 sb => ?_⟩
  rw [hl] at sb
  have B' : ∀ b o, (PySem.W.hideAll B [C]).get? b = some o → B.get? b = some o ∧ b ≠ C := fun b o e => ⟨PySem.W.of_hideAll _ e, fun z => by rw [z, PySem.W.hideAll_none [C] (.head _)] at e; cases e⟩
  have B'n : ∀ b, B.get? b = none → (PySem.W.hideAll B [C]).get? b = none := fun b e => by
    cases q : (PySem.W.hideAll B [C]).get? b with
    | none => rfl
    | some o => rw [(B' b o q).1] at e; cases e
  have B'i : ∀ b o, B.get? b = some o → b ≠ C → (PySem.W.hideAll B [C]).get? b = some o := fun b o e n => PySem.W.hideAll_get _ e fun z => n (by simpa using z)
  have neC : ∀ b, B.get? b = none → b ≠ C := fun b e z => by rw [z, BC] at e; cases e
  obtain ⟨d1, d2, d3, oe, vs, T, oT, ts, t1, t2, t3, t4, t5, t6, t7, t8, t9⟩ := hd1
  have hd2 : HandSPX.HeldZ (PySem.W.hideAll B [C]) (X.env :: X.outer) a (Zc cls d) X.env.locals h2 :=
    ⟨fun b o e => (sb.2 b (B' b o e).2).trans (d1 b o (B' b o e).1), B'n a d2, frames_but sb d3 fun L hL => by rw [← hs] at hL; exact ⟨B'n L (inF L hL).2, (inF L hL).1⟩,
      oe, vs, T, oT, ts, (sb.2 a (neC a d2)).trans t1, t2, t3, t4, B'n T t5, t6, (sb.2 T (neC T t5)).trans t7, t8, t9⟩
  unfold PySem.passOn
  refine wpAny_bind (wpAny_field ((sb.2 a (neC a d2)).trans t1) t3 t4 ?_)
  rw [if_neg (show ¬ ((Value.ref T == Value.none) = true) from by simp)]
  have fin : wpAny (model X.prog X.w) X.A (setFlight (.ref a) ce.frame) (fun _ s7 => wpAny (model X.prog X.w) X.A (throw (.ref a) : Sem Value) (fun _ _ => False) X.xe s7) X.xe { s' with heap := h2 } := by
    rw [hfr, hf]
    refine HandSPX.setFlight_onZ hd2 fun h3 hd3 up3 => wpAny_throw (tk _ _ ?_)
    obtain ⟨G, g1, g2⟩ := restrict s'.heap fun b => ((PySem.W.hideAll B [C]).get? b).isSome || decide (b ∈ frs X.stack)
    have og : ∀ b o, G.get? b = some o → s'.heap.get? b = some o ∧ (((PySem.W.hideAll B [C]).get? b).isSome = true ∨ b ∈ frs X.stack) := fun b o e => by
      cases q : (((PySem.W.hideAll B [C]).get? b).isSome || decide (b ∈ frs X.stack)) with
      | false => rw [g2 b q] at e; cases e
      | true =>
        rw [g1 b q] at e
        exact ⟨e, by simpa [Bool.or_eq_true] using q⟩
    have gB : ∀ b o, B.get? b = some o → b ≠ C → G.get? b = some o := fun b o e n => by
      rw [g1 b (by simp [B'i b o e n])]
      exact fl.1 b o e
    have gF : ∀ b, b ∈ frs X.stack → G.get? b = s'.heap.get? b := fun b hb => g1 b (by simp [hb])
    have lC : ∀ b o, s3.heap.get? b = some o → b ≠ C := fun b o e => by rw [← hC]; exact Nat.ne_of_lt (Heap.lt_size e)
    have hokG : HOk X.prog X.w H' G := fun b o q => (hokB b o q).stay (fun c v hc r => gB c v r fun z => by
      subst z
      rcases hc with z | z
      · rw [z, q] at nCH; cases nCH
      · rw [nCH] at z; cases z) (fun _ r => r) fun _ _ r => r
    refine ⟨a, PySem.W.hideAll B [C], { s' with heap := G }, pins, σ, H', cls, d, rfl, ?_, fun b o e hb => ?_, fun b o e nf => ?_, .inr (.inr (by rw [hs]; exact hd3)), na, rfl, ag, hW _ _ _ hE⟩
    · refine I3.call' (ch := fp) (show s'.os = s3.os from os.trans os3) ⟨fun b o e n hb hx => ?_, fun b o e n hb hx => ?_, fun b o e n hx => ?_, fun b o e hx => ?_, fun b xs e => ub.tups _ _ (un.tups b xs e), fun b o xs e => ub.frzs _ _ _ (un.frzs b o xs e), fun b ps e => ?_⟩ hokG ag
        fun b hb => ⟨(f3 b hb).1.2.2.2.1, (f3 b hb).1.2.1, (f3 b hb).1.2.2.2.2.1, (f3 b hb).1.2.2.2.2.2⟩
      · exact gB b o (ub.keep b o (un.keep b o e n hb hx) (un.free b o e n hx) hb) (lC b o e)
      · obtain ⟨sl, e1⟩ := un.slot b o e n hb hx
        obtain ⟨sl2, e2⟩ := ub.slot b _ e1 hb
        exact ⟨sl2, by show G.get? b = _; rw [gF b hb]; exact e2⟩
      · by_cases hb : b ∈ frs X.stack
        · obtain ⟨sl, e1⟩ := un.slot b o e n hb hx
          exact ub.free b _ e1 (un.free b o e n hx)
        · exact ub.free b o (un.keep b o e n hb hx) (un.free b o e n hx)
      · obtain ⟨o1, e1⟩ := un.there b o e hx
        by_cases hb : b ∈ frs X.stack
        · obtain ⟨sl, e2⟩ := ub.slot b o1 e1 hb
          exact ⟨_, by show G.get? b = _; rw [gF b hb]; exact e2⟩
        · obtain ⟨o2, e2⟩ := ub.there b o1 e1 hb
          exact ⟨o2, gB b o2 e2 (lC b o e)⟩
      · obtain ⟨m1, e1⟩ := un.tbls b ps e
        obtain ⟨m2, e2⟩ := ub.tbls b _ e1
        exact ⟨m1 ++ m2, by rw [e2, Array.append_assoc]⟩
    · obtain ⟨e1, e2⟩ := og b o e
      rcases e2 with e2 | e2
      · obtain ⟨o2, q⟩ := Option.isSome_iff_exists.mp e2
        have z := fl.1 b o2 (B' b o2 q).1
        rw [e1] at z; cases z
        exact q
      · exact absurd e2 hb
    · obtain ⟨e1, e2⟩ := og b o e
      have n : b ≠ C := by
        rcases e2 with e2 | e2
        · obtain ⟨o2, q⟩ := Option.isSome_iff_exists.mp e2
          exact (B' b o2 q).2
        · exact (inF b e2).1
      obtain ⟨sl, q1⟩ := up1 b o e1 nf
      obtain ⟨sl2, q2⟩ := up3 b { o with slots := sl } ((sb.2 b n).trans q1) nf
      exact ⟨sl2, q2⟩
  first
    | exact wpAny_bind (wpAny_pure (wpAny_bind fin))
    | exact wpAny_bind fin
end
/-- the block of a comprehension, what its step's call lets out with E told -/
abbrev blkE (X : Cx) (E : XK) (s : Shared) (H : Hp) (scope : Scope) (cenv : Env) (fp : List Addr) : Cx :=
  (X.blk s H scope cenv fp).wish fun u s' => ∃ pins σ H1 s1, Inv (X.blk s H scope cenv fp) pins σ H1 s1 ∧ L2.CX X.prog X.w X.stack H1 s1 E u s'
theorem pass_blk {X : Cx} {E : XK} {s0 : Shared} {H0 : Hp} {scope : Scope} {cenv : Env} {fp : List Addr} (pins : List (Addr × Obj)) (σ : L2.St) (H : Hp) (s : Shared) (e : Value) (s' : Shared) (I : Inv (blkE X E s0 H0 scope cenv fp) pins σ H s) (c : L2.CX X.prog X.w X.stack H s E e s') : (blkE X E s0 H0 scope cenv fp).xe e s' :=
  ⟨pins, σ, H, s, I.unwish, c⟩
section
variable {X : Cx} {E : XK} {W : WX} {elt tg iter : Expr} {ifs : List Expr} {scope : Scope} {own : List (Str × Nat)} {pos spos : Pos} {wi : TI} {g : TG} {tt : TT} {te : TE}
theorem coreX {pins : List (Addr × Obj)} {s : Shared} {σ : L2.St} {H : Hp} {Q : VK} {pos' : Pos} {use : Option (Value → Sem Unit)} {Qf : Value → Shared → Prop} (hs : X.stack = X.env :: X.outer) (hf : X.env.frame = some X.env.locals) (tk : Takes X W) (hW : ∀ cls d H', E cls d H' → W cls d σ H')
    (hc : X.calm = true) (hN : X.N.Nodup) (I : Inv X pins σ H s) (hi : PI X tg iter wi) (ok : BlkOk X.N X.env.scope scope own)
    (hg : ∀ (s : Shared) (H : Hp) (C : Addr) (cl : List (Str × Addr)) (fp : List Addr), PG (X.blk s H scope (compEnvC scope cl C X.env) fp) tg g) (ht : ∀ (s : Shared) (H : Hp) (C : Addr) (cl : List (Str × Addr)) (fp : List Addr), Inv X pins σ H s → (∀ b ∈ fp, FpOk X pins H b ∧ b < s.heap.objs.size) → PTs (X.blk s H scope (compEnvC scope cl C X.env) fp) ifs tt)
    (he : ∀ (s : Shared) (H : Hp) (C : Addr) (cl : List (Str × Addr)) (fp : List Addr), PE (blkE X E s H scope (compEnvC scope cl C X.env) fp) elt te) (hsi : ∀ x, foldedSetIterable iter X.env x = pure x) (h : tLc wi g tt te (own.map (·.2)) σ H Q)
    (fin : ∀ D C s' m H', Inv X pins σ H' s' → Q (.ref D) H' → s'.heap.Ns C m → FpOk X pins H' C → compPost (model X.prog X.w) X.A X.xe use Qf (.ref D) C (.ok .next) s') :
    wpAny (model X.prog X.w) X.A (comprehension (.ListComp elt [⟨tg, iter, ifs, 0⟩] scope pos) scope X.env pos' (newList []) false (eval iter X.env) use) Qf X.xe s := by
  have fr : ∀ y ∈ scope.names, y.2 = .free → ∃ c, X.env.cells.lookup y.1 = some c := fun y hy e => (ok.free y hy e).elim (fun k => I.ok.has _ (.inl k)) fun k => I.ok.has _ (.inr k)
  refine compX (use := use) rfl hsi (closure_ok fr) ok.kind (fun y hy e => by rw [ok.uniq y hy, e]) (thn (hi.run pins s σ H _ I h) fun xv s1 hx => thn hx fun itv s2 h2 => ?_)
  obtain ⟨it, fp, tn, J, H2, rfl, I2, T, st2, f2, q⟩ := h2
  refine wpAny_newObj_type (newEnv_comp ?_) (by show 0 ≤ sizeLine; decide)
  generalize hD : s2.heap.objs.size = D
  obtain ⟨V, ⟨m0, v0⟩, turn⟩ := q D (I2.hok.fresh (Nat.le_of_eq hD))
  generalize hs3 : ({ s2 with heap := s2.heap.push { cls := .type "list", data := .seq ([] : List Value).toArray } } : Shared) = s3
  have p3 : s3.heap = s2.heap.push { cls := .type "list", data := .seq ([] : List Value).toArray } := by rw [← hs3]
  have I3 : Inv X pins σ (upd H2 D (.lst [])) s3 := by
    rw [← hs3]
    exact I2.laid (t' := s2.toks) (fun b o e => Heap.get?_push_of_some _ e) (Nat.le_of_eq hD) ⟨Nat.zero_le _, [], 0, .nil, by rw [← hD]; exact Heap.get?_push_size _ rfl⟩
  have f3 : ∀ b ∈ fp, FpOk X pins (upd H2 D (.lst [])) b ∧ b < s3.heap.objs.size := fun b hb => by
    obtain ⟨o, e, _⟩ := T.obj _ _ st2 b hb
    have lt := Heap.lt_size e
    exact ⟨⟨by rw [upd_ne (by rw [← hD]; exact Nat.ne_of_lt lt)]; exact (f2 b hb).1, (f2 b hb).2⟩, by rw [p3, Heap.size_push]; exact Nat.lt_succ_of_lt lt⟩
  have st3 : tn 0 s3.heap := T.keep _ _ _ st2 fun b _ o e => by rw [p3]; exact Heap.get?_push_of_some _ e
  have I4 := block_start I3 ok hN f3
  have P1 := hg s3 (upd H2 D (.lst [])) s3.heap.objs.size (cellsFrom (s3.heap.objs.size + 1) scope.names (cloFrom X.env.cells scope.names [])) fp
  have P2 := ht s3 (upd H2 D (.lst [])) s3.heap.objs.size (cellsFrom (s3.heap.objs.size + 1) scope.names (cloFrom X.env.cells scope.names [])) fp I3 f3
  have P3 := he s3 (upd H2 D (.lst [])) s3.heap.objs.size (cellsFrom (s3.heap.objs.size + 1) scope.names (cloFrom X.env.cells scope.names [])) fp
  show codeAny _ _ (.compStart (.ListComp elt [⟨tg, iter, ifs, 0⟩] scope pos) 0 (.ref it) (.ref D) (compEnvC scope (cellsFrom (s3.heap.objs.size + 1) scope.names (cloFrom X.env.cells scope.names [])) s3.heap.objs.size X.env)) (postX (model X.prog X.w) X.A X.xe use Qf (.ref D) (compEnvC scope (cellsFrom (s3.heap.objs.size + 1) scope.names (cloFrom X.env.cells scope.names [])) s3.heap.objs.size X.env)) { s3 with heap := pushCells (s3.heap.push { cls := .type "dict", data := .dict #[] }) scope.names }
  have nfp : ∀ b ∈ fp, (upd H2 D (.lst [])) b = none := fun b hb => (f3 b hb).1.1
  generalize hce : compEnvC scope (cellsFrom (s3.heap.objs.size + 1) scope.names (cloFrom X.env.cells scope.names [])) s3.heap.objs.size X.env = ce at I4 P1 P2 P3 ⊢
  have cL : ce.locals = s3.heap.objs.size := by subst hce; rfl
  have cF : ce.frame = X.env.frame := by subst hce; rfl
  generalize hH3 : upd H2 D (.lst []) = H3 at I3 I4 P1 P2 P3 v0 nfp f3
  generalize hs4 : ({ s3 with heap := pushCells (s3.heap.push { cls := .type "dict", data := .dict #[] }) scope.names } : Shared) = s4 at I4 ⊢
  have st4 : tn 0 s4.heap := T.keep _ _ _ st3 fun b _ o e => by rw [← hs4]; exact pushCells_keeps _ _ _ _ (Heap.get?_push_of_some _ e)
  have stat : ∀ {σ' : L2.St} {H' : Hp} {s' : Shared}, Inv (X.blk s3 H3 scope ce fp) [] σ' H' s' → (∀ b ∈ fp, H' b = none) → ∀ b ∈ fp, FpOk (X.blk s3 H3 scope ce fp) [] H' b := fun {σ' H' s'} J hn b hb =>
    ⟨hn b hb, (J.ok.exf b hb).1, J.ok.exfs b hb, .inl hb, (J.ok.exf b hb).2, fun p hp => absurd (show p ∈ ([] : List (Addr × Obj)) ++ [] from hp) (by simp)⟩
  have loop : codeAny (model X.prog X.w) X.A (.compLoop (.ListComp elt [⟨tg, iter, ifs, 0⟩] scope pos) 0 (.ref it) (.ref D) ce) (postX (model X.prog X.w) X.A X.xe use Qf (.ref D) ce) s4 := by
    refine compLoop_any (fun n s' => ∃ i H', Inv (X.blk s3 H3 scope ce fp) [] (wipe σ (own.map (·.2))) H' s' ∧ tn i s'.heap ∧ (∀ b ∈ fp, H' b = none) ∧ V i n H') ?_ m0 ⟨0, H3, I4, st4, nfp, v0⟩
    rintro n s5 ⟨i, H5, I5, st5, n5, v5⟩
    rcases turn i n H5 v5 with ⟨stop, qq⟩ | ⟨go, Nx, hNx, step⟩
    · refine thnF (T.done (X.blk s3 H3 scope ce fp) rfl rfl rfl hc i [] s5 _ H5 (fun _ _ => False) I5 (stat I5 n5) st5 stop) fun r s6 ⟨hr, I6⟩ => ?_
      subst hr
      have I7 : Inv X pins σ H5 s6 := I3.call' (ch := fp) I6.os I6.base I6.hok I6.bare fun b hb => ⟨(f3 b hb).1.2.2.2.1, (f3 b hb).1.2.1, (f3 b hb).1.2.2.2.2.1, (f3 b hb).1.2.2.2.2.2⟩
      obtain ⟨m, hn, _⟩ := I6.loc
      have hn : s6.heap.Ns ce.locals m := hn
      have nC : H5 ce.locals = none := I6.free
      rw [cL] at hn nC
      show compPost _ _ _ _ _ _ ce.locals _ _
      rw [cL]
      exact fin D s3.heap.objs.size s6 m H5 I7 qq hn (I3.fpOk (Nat.le_refl _) nC)
    · refine thnF (T.item (X.blk s3 H3 scope ce fp) rfl rfl rfl hc i [] s5 _ H5 (fun _ _ => False) I5 (stat I5 n5) st5 go) fun r s6 ⟨u, hr, h6⟩ => ?_
      subst hr
      refine thnF h6 fun _ s7 ⟨x, H7, I7, r7, y7, st7, n7⟩ => ?_
      refine thnF (P1.run _ s7 _ H7 x u _ (I7.pinned (stat I7 n7) (T.obj _ _ st7)) r7 (step x H7 y7)) fun _ s8 ⟨σ8, H8, I8, hw8, q8⟩ => ?_
      refine thnF (P2.run _ s8 σ8 H8 _ I8 q8) fun b s9 ⟨H9, I9, q9⟩ => ?_
      have fin1 : ∀ {s' : Shared} {H' : Hp}, Inv (X.blk s3 H3 scope ce fp) ([] ++ pinsAt fp s7.heap) σ8 H' s' → Nx H' → ∃ m, m < n ∧ ∃ i H', Inv (X.blk s3 H3 scope ce fp) [] (wipe σ (own.map (·.2))) H' s' ∧ tn i s'.heap ∧ (∀ b ∈ fp, H' b = none) ∧ V i m H' := fun {s' H'} J nx => by
        obtain ⟨m1, lt, v1⟩ := hNx H' nx
        have pinned : ∀ b ∈ fp, ∀ o, s7.heap.get? b = some o → s'.heap.get? b = some o ∧ H' b = none := fun b hb o e =>
          have z := J.pin (b, o) (List.mem_append_right _ (List.mem_append_right _ (mem_pinsAt hb e))); ⟨z.1, z.2.1⟩
        refine ⟨m1, lt, i + 1, H', (J.unpinned (pins := [])).weak (by rw [← hw8, wipe_length]) (fun j v e => by rw [← hw8] at e; exact (wipe_some e).1), T.keep _ _ _ st7 fun b hb o e => (pinned b hb o e).1, fun b hb => ?_, v1⟩
        obtain ⟨o, e, _⟩ := T.obj _ _ st7 b hb
        exact (pinned b hb o e).2
      cases b with
      | false => simp only [Bool.false_eq_true, if_false] at q9 ⊢; exact fin1 I9 q9
      | true =>
        simp only [if_true] at q9 ⊢
        refine wpAny_mono (P3.run _ s9 σ8 H9 _ (I9.wish _) q9) (fun z s10 ⟨yv, H10, I10, r10, acc, hD10, hz10, nx⟩ => ?_) fun e s' ⟨pins', σ', H1, s1, I1, c⟩ => ?_
        · exact app_ok (X := X.blk s3 H3 scope ce fp) I10.unwish hD10 hz10 r10 fun s11 I11 => fin1 I11 nx
        · obtain ⟨m, hn, _⟩ := I1.loc
          have hn : s1.heap.Ns ce.locals m := hn
          have nC : H1 ce.locals = none := I1.free
          rw [cL] at hn nC
          exact airX I3 f3 I1.os I1.base nC hn c hs hf tk hW cL cF
  exact codeAny_compStart_list loop (T.self X.A 0 _ _ _ st4 loop)
/-- as a value; the test may know the state in which the block begins -/
theorem pe_lcW {tt : L2.St → TT} (hs : X.stack = X.env :: X.outer) (hf : X.env.frame = some X.env.locals) (tk : Takes X W) (hW : ∀ cls d σ H', E cls d H' → W cls d σ H') (hc : X.calm = true) (hN : X.N.Nodup) (hi : PI X tg iter wi) (ok : BlkOk X.N X.env.scope scope own)
    (hg : ∀ (s : Shared) (H : Hp) (C : Addr) (cl : List (Str × Addr)) (fp : List Addr), PG (X.blk s H scope (compEnvC scope cl C X.env) fp) tg g)
    (ht : ∀ (pins : List (Addr × Obj)) (σ : L2.St) (s : Shared) (H : Hp) (C : Addr) (cl : List (Str × Addr)) (fp : List Addr), Inv X pins σ H s → (∀ b ∈ fp, FpOk X pins H b ∧ b < s.heap.objs.size) → PTs (X.blk s H scope (compEnvC scope cl C X.env) fp) ifs (tt σ))
    (he : ∀ (s : Shared) (H : Hp) (C : Addr) (cl : List (Str × Addr)) (fp : List Addr), PE (blkE X E s H scope (compEnvC scope cl C X.env) fp) elt te) (hsi : ∀ x, foldedSetIterable iter X.env x = pure x := by intro _; rfl) :
    PE X (.ListComp elt [⟨tg, iter, ifs, 0⟩] scope pos) (fun σ H Q => tLc wi g (tt σ) te (own.map (·.2)) σ H Q) := by
  refine ⟨fun pins s σ H Q I h => ?_⟩
  rw [eval_ListComp]
  refine coreX (E := E) hs hf tk (fun cls d H' z => hW cls d σ H' z) hc hN I hi ok hg (fun s H C cl fp I3 f3 => ht pins σ s H C cl fp I3 f3) he hsi h fun L C s' m H' J q hn f => ⟨m, hn, fun h2 sb => ?_⟩
  obtain ⟨f0, f1, f2, f3, f4, f5⟩ := f
  exact ⟨.ref L, H', J.turned (t' := s'.toks) (fun b o hb e => (sb.2 b hb).trans e) f0 f1 f3 f4 f5, rfl, q⟩
/-- name = [..] on one line, the step may let an exception out -/
theorem ps_setLcX {i : Nat} {y : Str} {py : Pos} (hs : X.stack = X.env :: X.outer) (hf : X.env.frame = some X.env.locals) (tk : Takes X W) (hW : ∀ cls d σ H', E cls d H' → W cls d σ H') (hc : X.calm = true) (hN : X.N.Nodup) (hy : X.N[i]? = some y) (hyl : X.env.scope.names.lookup y = some .local)
    (hsw : swapsWith (.ListComp elt [⟨tg, iter, ifs, 0⟩] scope pos) (some (.Name y py)) spos.line X.env = pure true) (hi : PI X tg iter wi) (ok : BlkOk X.N X.env.scope scope own)
    (hg : ∀ (s : Shared) (H : Hp) (C : Addr) (cl : List (Str × Addr)) (fp : List Addr), PG (X.blk s H scope (compEnvC scope cl C X.env) fp) tg g) (ht : ∀ (s : Shared) (H : Hp) (C : Addr) (cl : List (Str × Addr)) (fp : List Addr), PTs (X.blk s H scope (compEnvC scope cl C X.env) fp) ifs tt)
    (he : ∀ (s : Shared) (H : Hp) (C : Addr) (cl : List (Str × Addr)) (fp : List Addr), PE (blkE X E s H scope (compEnvC scope cl C X.env) fp) elt te) (hsi : ∀ x, foldedSetIterable iter X.env x = pure x := by intro _; rfl) :
    PS X (.Assign [.Name y py] (.ListComp elt [⟨tg, iter, ifs, 0⟩] scope pos) spos) (tAsg (tLc wi g tt te (own.map (·.2))) (gName i)) := by
  refine ⟨fun pins s σ H D I h => ?_⟩
  rw [exec_Assign_Name_used _ _ _ _ hsw]
  refine wpAny_bind (wpAny_standAt (wpAny_bind ?_))
  show wpAny _ X.A (do let _ ← comprehension (.ListComp elt [⟨tg, iter, ifs, 0⟩] scope pos) scope X.env (firstIterPos [⟨tg, iter, ifs, 0⟩] pos) (newList []) false (eval iter X.env) (some (assign (.Name y py) X.env))) _ _ s
  have h : tLc wi g tt te (own.map (·.2)) σ H (fun x H1 => gName i x σ H1 D.nx) := h
  refine wpAny_bind (thn (coreX (E := E) (Qf := fun _ s' => SP X pins D .next s') hs hf tk (fun cls d H' z => hW cls d σ H' z) hc hN I hi ok hg (fun s H C cl fp _ _ => ht s H C cl fp) he hsi h fun L C s' m H' J q hn f => ?_) fun _ s' hq => wpAny_pure (wpAny_pure hq))
  show wpAny _ _ (assign (.Name y py) X.env (.ref L)) _ _ _
  obtain ⟨f0, f1, f2, f3, f4, f5⟩ := f
  refine wpAny_assign_Name (store_ok2 (v := V.ref L) J hN hy (.inl hyl) rfl (fun s2 I2 ⟨a, sb, ha⟩ => ⟨m, hn.sameBut sb ?_, fun h3 sb3 => ⟨_, H', I2.turned (t' := s2.toks) (fun b o hb e => (sb3.2 b hb).trans e) f0 f1 f3 f4 f5, q⟩⟩) (.inr hyl))
  exact ha.elim (fun z => by rw [z]; exact f1) fun z e => f4 y a z e.symm
end
end B

set_option Elab.async false
set_option linter.all false
set_option maxRecDepth 100000
set_option maxHeartbeats 4000000
namespace B
open PySem PySem.Spec PyProof.Rows L2
open PySem.W (kdv_obj kdv_fn kdv_tup)
/-! ### lambdas as values: kept in a list, called later by _law_word(_law_work) -/
/-- an object that is known, and never written -/
abbrev FrO (o : Obj) : HO := .frz o (.ext fun _ => True)
theorem frO_ok {P : Program} {w : World} {H : Hp} {h : Heap} {a : Addr} {o : Obj} (e : h.get? a = some o) : ObjOk P w H h a (FrO o) :=
  ⟨e, True.intro, ⟨o, e⟩, fun _ _ _ _ => True.intro⟩
/-- what the making leaves, all of it known -/
structure MadeT (X : Cx) (P : Addr) (q : Str) (params : Arguments) (body : Expr) (scope : Scope) (dV : Value) (ext : List (Addr × Obj)) (H H1 : Hp) (f c1 : Addr) : Prop where
  fr : ∀ b o, H b = some o → b ≠ P → H1 b = some o
  bk : ∀ b, H1 b = none → H b = none
  tb : LamX.TabS H1 P q
  ob : ∃ doc pm ctv, H1 f = some (FrO (kdv_obj "<lambda>" q params (.expr body) scope (cloFrom X.env.cells scope.names []) dV doc pm c1 ctv))
  co : H1 c1 = some (LamX.CodeO c1 q)
  ex : ∀ p ∈ ext, H1 p.1 = some (FrO p.2)
  nw : H f = none
/-- the lambda at f of the def at X: what it does is t -/
def LamD (X : Cx) (k : Nat) (f : Addr) (H : Hp) (t : XK → TE) : Prop :=
  ∃ (params : Arguments) (body : Expr) (scope : Scope) (dV : Value) (ext : List (Addr × Obj)) (binds : List (Str × Value)) (c1 : Addr) (doc pm ctv : Value),
    LamP X.N X.env.scope scope ∧ H f = some (FrO (kdv_obj "<lambda>" (X.env.qual ++ "<lambda>") params (.expr body) scope (cloFrom X.env.cells scope.names []) dV doc pm c1 ctv)) ∧ H c1 = some (LamX.CodeO c1 (X.env.qual ++ "<lambda>")) ∧ (∀ p ∈ ext, H p.1 = some (FrO p.2)) ∧
    (∀ (s' : Shared) (cl : List (Str × Addr)) (doc pm cv ctv : Value), (∀ p ∈ ext, s'.heap.get? p.1 = some p.2) → BindsTo s' (kdv_fn "<lambda>" (X.env.qual ++ "<lambda>") params (.expr body) scope cl dV doc pm cv ctv) ⟨[], []⟩ binds) ∧
    (∀ y ∈ binds, scope.names.lookup y.1 = some .local) ∧
    ∀ (A : Around) (outer : List Env) (s : Shared) (H : Hp) (E : XK) (f c1 : Addr), Room k (A.deeper (LamX.lamEnv X scope s.heap.objs.size f c1)) → PE (LamX.lamCx X A outer s H E scope f c1) body (t E)
/-- what is known and what is told of by itself stays -/
theorem LamD.mono {X : Cx} {k : Nat} {f : Addr} {H H' : Hp} {t : XK → TE} (h : LamD X k f H t) (k1 : ∀ b o, H b = some (FrO o) → H' b = some (FrO o)) (k2 : ∀ c q, H c = some (LamX.CodeO c q) → H' c = some (LamX.CodeO c q)) : LamD X k f H' t := by
  obtain ⟨a1, a2, a3, a4, a5, a6, a7, a8, a9, a10, b1, b2, b3, b4, b5, b6, b7⟩ := h
  exact ⟨a1, a2, a3, a4, a5, a6, a7, a8, a9, a10, b1, k1 _ _ b2, k2 _ _ b3, fun p hp => k1 _ _ (b4 p hp), b5, b6, b7⟩
theorem codeO_at {c : Addr} {q : Str} : (LamX.CodeO c q = LamX.CodeO c q) := rfl
section
variable {X : Cx} {pins : List (Addr × Obj)} {σ : L2.St} {H H3 HZ : Hp} {s s2 s3 : Shared} {fp : List Addr}
theorem made_tailT {q : Str} {params : Arguments} {body : Expr} {scope : Scope} {pos : Pos} {c P : Addr} {dV : Value} {ext : List (Addr × Obj)} {E : Value → Shared → Prop} {Q : Value → Shared → Prop} (I : Inv X pins σ H s) (TB : LamX.TabB X.base X.mg c P) (hcode : X.env.code = .ref c)
    (hT : LamX.TabS H P q) (hfree : ∀ y ∈ scope.names, y.2 = .free → ∃ c, X.env.cells.lookup y.1 = some c) (hext : ∀ p ∈ ext, H p.1 = some (FrO p.2))
    (h : ∀ f c1 H1 s1, Inv X pins σ H1 s1 → MadeT X P q params body scope dV ext H H1 f c1 → Q (.ref f) s1) :
    wpAny (model X.prog X.w) X.A (PySem.makeTail "<lambda>" q params (.expr body) scope X.env dV .none none pos pos.line) Q E s := by
  obtain ⟨ps, hP, trip, among⟩ := hT
  have heapP : s.heap.get? P = some { cls := .none, data := .fields ps } := I.hok P _ hP
  have glob : s.heap.Ns mainGlobals X.mg := I.mod.glob.keeps I.bk
  have bat : s.heap.BuiltinsAt X.mg P := TB.bm.keeps I.bk
  have hd : PySem.W.CodeHd s.heap c P := TB.code.keeps I.bk
  have extP : ∀ p ∈ ext, p.1 ≠ P := fun p hp e => by
    have := hext p hp
    rw [e, hP] at this
    cases this
  cases found : codeAmong pos ps.toList with
  | none =>
    refine PySem.W.kdv_makeTail (closure_ok hfree) I.ok.glob glob hcode hd heapP trip found TB.gP bat ?_
    intro c1 ctv doc h1 tk but ge lt rec_ tab
    obtain ⟨c2, oc, vs, t, eq2, got, dat, nth⟩ := rec_
    injection eq2 with eq2
    subst eq2
    have grow : s.heap.objs.size ≤ h1.objs.size := Nat.le_trans ge (Nat.le_of_lt lt)
    have freeC : H c1 = none := I.hok.fresh ge
    have neP : P ≠ c1 := ne_of_none hP freeC
    have I1 := LamX.inv_table (t' := tk) (more := #[rawInt pos.line, rawInt pos.col, .ref c1]) (q := q) I hP (fun b o nb e => but b o nb e) tab ge ⟨oc, vs, t, got, dat, nth⟩
    have freeF : H h1.objs.size = none := I.hok.fresh grow
    have ne1 : h1.objs.size ≠ c1 := Nat.ne_of_gt lt
    have ne2 : h1.objs.size ≠ P := Nat.ne_of_gt (Nat.lt_of_lt_of_le (Heap.lt_size heapP) grow)
    have I2 := I1.laid (t' := tk) (a := h1.objs.size) (h' := h1.push (kdv_obj "<lambda>" q params (.expr body) scope (cloFrom X.env.cells scope.names []) dV doc ((X.mg "__name__").getD .none) c1 ctv)) (o := FrO (kdv_obj "<lambda>" q params (.expr body) scope (cloFrom X.env.cells scope.names []) dV doc ((X.mg "__name__").getD .none) c1 ctv)) (fun b u e => Heap.get?_push_of_some _ e) (Nat.le_refl _) (frO_ok (Heap.get?_push_size _ rfl))
    have keep : ∀ b o, H b = some o → b ≠ P → upd (upd (upd H P (.tbl (ps ++ #[rawInt pos.line, rawInt pos.col, .ref c1]))) c1 (LamX.CodeO c1 q)) h1.objs.size (FrO (kdv_obj "<lambda>" q params (.expr body) scope (cloFrom X.env.cells scope.names []) dV doc ((X.mg "__name__").getD .none) c1 ctv)) b = some o := fun b o e nb => by
      rw [upd_ne (ne_of_none e freeF), upd_ne (ne_of_none e freeC), upd_ne nb]
      exact e
    refine h h1.objs.size c1 _ _ I2 ⟨keep, fun b e => upd_back (upd_back (upd_back e)), ⟨ps ++ #[rawInt pos.line, rawInt pos.col, .ref c1], ?_, ?_, fun pos2 cv hcv => ?_⟩, ⟨doc, _, ctv, upd_same⟩, ?_, fun p hp => keep _ _ (hext p hp) (extP p hp), freeF⟩
    · rw [upd_ne (Ne.symm ne2), upd_ne neP, upd_same]
    · have e : (ps ++ #[rawInt pos.line, rawInt pos.col, .ref c1]).toList = ps.toList ++ [rawInt pos.line, rawInt pos.col, .ref c1] := by simp
      rw [e]
      exact PySem.TriplesOk_snoc _ _ _ _ trip
    · have e : (ps ++ #[rawInt pos.line, rawInt pos.col, .ref c1]).toList = ps.toList ++ [rawInt pos.line, rawInt pos.col, .ref c1] := by simp
      rw [e] at hcv
      rcases LamX.among_app _ trip hcv with z | z
      · obtain ⟨c0, e0, w0⟩ := among pos2 cv z
        refine ⟨c0, e0, keep _ _ w0 fun y => ?_⟩
        rw [y, hP] at w0
        exact LamX.codeO_ne ps (Option.some.inj w0).symm
      · exact ⟨c1, z, by rw [upd_ne (Ne.symm ne1)]; exact upd_same⟩
    · rw [upd_ne (Ne.symm ne1)]
      exact upd_same
  | some cv =>
    obtain ⟨c1, e1, w1⟩ := among pos cv found
    subst e1
    refine PySem.W.kdv_makeTailHit (closure_ok hfree) I.ok.glob glob hcode hd heapP trip found bat ?_
    intro ctv doc h1 tk keep grow
    have I0 : Inv X pins σ H { s with heap := h1, toks := tk } := I.kept keep
    have freeF : H h1.objs.size = none := I.hok.fresh grow
    have I1 := I0.laid (t' := tk) (a := h1.objs.size) (h' := h1.push (kdv_obj "<lambda>" q params (.expr body) scope (cloFrom X.env.cells scope.names []) dV doc ((X.mg "__name__").getD .none) c1 ctv)) (o := FrO (kdv_obj "<lambda>" q params (.expr body) scope (cloFrom X.env.cells scope.names []) dV doc ((X.mg "__name__").getD .none) c1 ctv)) (fun b u e => Heap.get?_push_of_some _ e) (Nat.le_refl _) (frO_ok (Heap.get?_push_size _ rfl))
    have kp : ∀ b o, H b = some o → upd H h1.objs.size (FrO (kdv_obj "<lambda>" q params (.expr body) scope (cloFrom X.env.cells scope.names []) dV doc ((X.mg "__name__").getD .none) c1 ctv)) b = some o := fun b o e => by
      rw [upd_ne (ne_of_none e freeF)]
      exact e
    exact h h1.objs.size c1 _ _ I1 ⟨fun b o e _ => kp b o e, fun b e => upd_back e, ⟨ps, kp _ _ hP, trip, fun p2 cv hcv => (among p2 cv hcv).imp fun c0 z => ⟨z.1, kp _ _ z.2⟩⟩, ⟨doc, _, ctv, upd_same⟩, kp _ _ w1, fun p hp => kp _ _ (hext p hp), freeF⟩
/-- what a lambda's making asks and leaves -/
def tLam (X : Cx) (k : Nat) (P : Addr) (t : XK → TE) : TE := fun _ H Q => LamX.TabS H P (X.env.qual ++ "<lambda>") ∧
  ∀ (f : Addr) (H1 : Hp), (∀ b o, H b = some o → b ≠ P → H1 b = some o) → (∀ b, H1 b = none → H b = none) → LamX.TabS H1 P (X.env.qual ++ "<lambda>") → H f = none → LamD X k f H1 t → Q (.ref f) H1
/-- lambda: .. as a value -/
theorem pe_lam0 {params : Arguments} {body : Expr} {scope : Scope} {c P : Addr} {k : Nat} {t : XK → TE} {lpos : Pos} (h0 : params.defaults = []) (h1 : params.kw_defaults = []) (hbind : ∀ (q : Str) (cl : List (Str × Addr)) (doc pm cv ctv : Value), bindArgs (kdv_fn "<lambda>" q params (.expr body) scope cl .none doc pm cv ctv) ⟨[], []⟩ = pure []) (TB : LamX.TabB X.base X.mg c P) (hcode : X.env.code = .ref c) (L : LamP X.N X.env.scope scope)
    (hbody : ∀ (A : Around) (outer : List Env) (s : Shared) (H : Hp) (E : XK) (f c1 : Addr), Room k (A.deeper (LamX.lamEnv X scope s.heap.objs.size f c1)) → PE (LamX.lamCx X A outer s H E scope f c1) body (t E)) :
    PE X (.Lambda params body scope lpos) (tLam X k P t) := by
  refine ⟨fun pins s σ H Q I h => ?_⟩
  obtain ⟨hT, h⟩ := h
  have e : defaultsOf params X.env = ([], []) := by
    rw [defaultsOf_eq, h0, h1]
    rfl
  refine PySem.W.kla_eval e ?_
  rw [makeFunction_eq]
  simp only [List.zip_nil_right, List.filterMap_nil, List.isEmpty_nil, if_true, pure_bind]
  refine made_tailT (ext := []) I TB hcode hT (L.has I.ok) (fun _ hp => absurd hp (by simp)) fun f c1 H1 s1 I1 M => ⟨.ref f, H1, I1, rfl, ?_⟩
  obtain ⟨doc, pm, ctv, ob⟩ := M.ob
  exact h f H1 M.fr M.bk M.tb M.nw ⟨params, body, scope, .none, [], [], c1, doc, pm, ctv, L, ob, M.co, M.ex, fun s' cl doc pm cv ctv _ => .of_eq (hbind _ _ _ _ _ _), fun _ hy => absurd hy (by simp), hbody⟩
/-- lambda x=i: .. as a value -/
theorem pe_lam1 {params : Arguments} {body : Expr} {scope : Scope} {c P : Addr} {k : Nat} {t : XK → TE} {lpos : Pos} {i : Int} {j : Nat} {dp : Pos} {a : Str} (h0 : params.defaults = [.Constant (.int i) j dp]) (h1 : params.kw_defaults = []) (hloc : scope.names.lookup a = some .local) (hbind : ∀ (s : Shared) (q : Str) (cl : List (Str × Addr)) (t0 : Addr) (tk : Nat) (doc pm cv ctv : Value), s.heap.get? t0 = some (kdv_tup [.int i tk]) → BindsTo s (kdv_fn "<lambda>" q params (.expr body) scope cl (.ref t0) doc pm cv ctv) ⟨[], []⟩ [(a, .int i tk)]) (TB : LamX.TabB X.base X.mg c P) (hcode : X.env.code = .ref c) (L : LamP X.N X.env.scope scope)
    (hbody : ∀ (A : Around) (outer : List Env) (s : Shared) (H : Hp) (E : XK) (f c1 : Addr), Room k (A.deeper (LamX.lamEnv X scope s.heap.objs.size f c1)) → PE (LamX.lamCx X A outer s H E scope f c1) body (t E)) :
    PE X (.Lambda params body scope lpos) (tLam X k P t) := by
  refine ⟨fun pins s σ H Q I h => ?_⟩
  obtain ⟨hT, h⟩ := h
  refine PySem.W.kdv_lam (by rw [h0]; rfl) h1 ?_
  rw [h0]
  refine PySem.W.kdv_all1 (wpAny_Constant_int (PySem.W.kdv_all0 ?_))
  rw [makeFunction_eq]
  simp only [List.zip_nil_right, List.filterMap_nil, List.isEmpty_nil, List.isEmpty_cons, if_true, pure_bind, Bool.false_eq_true, if_false]
  refine wpAny_bind (wpAny_newTextTuple ?_)
  have I1 := I.tok (s.toks + 1)
  have I2 := I1.laid (t' := s.toks + 1) (a := s.heap.objs.size) (h' := s.heap.push (kdv_tup [.int i s.toks])) (o := FrO (kdv_tup [.int i s.toks])) (fun b u e => Heap.get?_push_of_some _ e) (Nat.le_refl _) (frO_ok (Heap.get?_push_size _ rfl))
  have n0 : H s.heap.objs.size = none := I.hok.fresh (Nat.le_refl _)
  have k0 : ∀ b o, H b = some o → upd H s.heap.objs.size (FrO (kdv_tup [.int i s.toks])) b = some o := fun b o e => by
    rw [upd_ne (ne_of_none e n0)]
    exact e
  have hT2 : LamX.TabS (upd H s.heap.objs.size (FrO (kdv_tup [.int i s.toks]))) P (X.env.qual ++ "<lambda>") := hT.ext k0
  refine made_tailT (ext := [(s.heap.objs.size, kdv_tup [.int i s.toks])]) I2 TB hcode hT2 (L.has I.ok) (fun p hp => ?_) fun f c1 H1 s1 J M => ⟨.ref f, H1, J, rfl, ?_⟩
  · rw [List.mem_singleton.mp hp]
    exact upd_same
  · obtain ⟨doc, pm, ctv, ob⟩ := M.ob
    refine h f H1 (fun b o e nb => M.fr b o (k0 b o e) nb) (fun b e => upd_back (M.bk b e)) M.tb (upd_back M.nw) ⟨params, body, scope, _, _, [(a, .int i s.toks)], c1, doc, pm, ctv, L, ob, M.co, M.ex, fun s2 cl doc pm cv ctv e => hbind _ _ _ _ _ _ _ _ _ (e _ (List.mem_singleton.mpr rfl)), fun y hy => ?_, hbody⟩
    rw [List.mem_singleton.mp hy]
    exact hloc
/-! ### called later -/
theorem lam_enterV {A : Around} {outer : List Env} {E : XK} {scope : Scope} {f c1 : Addr} {h2 : Heap} {tk : Nat} {m : Str → Option Value} (I : Inv X pins σ H s) (L : LamP X.N X.env.scope scope) (e0 : Env0 X.prog X.w X.K X.mg X.base A outer s2 HZ) (calm : A.handled = none)
    (un : Un (frs X.stack) fp H HZ s.heap s2.heap) (cf : ∀ y c, X.env.cells.lookup y = some c → c ∉ fp) (ns : h2.Ns s2.heap.objs.size m) (kp : ∀ b o, s2.heap.get? b = some o → h2.get? b = some o) :
    Inv (LamX.lamCx X A outer s2 HZ E scope f c1) [] σ HZ { s2 with heap := h2, toks := tk } := by
  have hfree := L.has I.ok
  -- a cell of the lambda is the maker's
  have up : ∀ {y : Str} {c : Addr}, (cloFrom X.env.cells scope.names []).lookup y = some c → X.env.cells.lookup y = some c := by
    intro y c e
    rcases cloFrom_mem (PySem.mem_of_lookup e) with z | ⟨z1, z2⟩
    · exact absurd z (by simp)
    · obtain ⟨d, hd⟩ := hfree _ z1 rfl
      have hd' : X.env.cells.lookup y = some d := hd
      rw [hd'] at z2
      have z3 : c = d := z2
      rw [z3]
      exact hd'
  have down : ∀ {y : Str}, scope.names.lookup y = some .free → ∃ c, (cloFrom X.env.cells scope.names []).lookup y = some c := by
    intro y e
    have mem : (y, NameKind.free) ∈ scope.names := PySem.mem_of_lookup e
    exact mem_lookup (cloFrom_has (cells := X.env.cells) (acc := []) mem)
  have noEx : ∀ b : Addr, b ∉ (LamX.lamCx X A outer s2 HZ E scope f c1).ex := fun b z => absurd (show b ∈ ([] : List Addr) from z) (by simp)
  have cellUp : ∀ {c : Addr} {v : Option Value}, c ∉ fp → H c = none → s.heap.IsCell c v → h2.IsCell c v := by
    rintro c v nf n ⟨o, ho, hd⟩
    obtain ⟨sl, e⟩ := un.any ho n nf
    exact ⟨_, kp _ _ e, hd⟩
  have okI : (LamX.lamCx X A outer s2 HZ E scope f c1).Ok := by
    refine ⟨e0.mod, L.kind, rfl, rfl, Nat.le_refl _, fun y z c e1 e2 => I.ok.inj y z c (up e1) (up e2), ?_, ?_, fun _ => calm, Around.frames_deeper e0.frames, .inr ⟨rfl, rfl⟩, fun b z => absurd z (noEx b), e0.bs, e0.bsz, fun b _ _ => noEx b, fun b z => absurd z (noEx b), e0.funs, e0.frf⟩
    · intro y hy
      have hy2 : scope.names.lookup y = some .cell ∨ scope.names.lookup y = some .free := hy
      rcases hy2 with z | z
      · exact absurd rfl (L.cell _ (PySem.mem_of_lookup z))
      · exact down z
    · intro y c z
      exact absurd (show false = true from z) Bool.false_ne_true
  refine ⟨okI, rfl, e0.bare, Un.kept kp, ⟨m, ns, ?_⟩, ?_, e0.hok.fresh (Nat.le_refl _), ?_, fun p hp => absurd (show p ∈ ([] : List (Addr × Obj)) ++ [] from hp) (by simp), e0.hok.kept kp, I.len⟩
  · intro i y v hN hσ hV
    have hV2 : Vis scope y := hV
    rcases hV2 with z | z | z
    · exact absurd (List.mem_of_getElem? hN) (L.own _ (PySem.mem_of_lookup z) rfl)
    · exact absurd rfl (L.cell _ (PySem.mem_of_lookup z))
    · obtain ⟨m0, _, look⟩ := I.loc
      have fr := L.free _ (PySem.mem_of_lookup z) rfl
      have vis : Vis X.env.scope y := fr.elim (fun q => .inr (.inl q)) (fun q => .inr (.inr q))
      obtain ⟨u, ru, lk⟩ := look i y v hN hσ vis
      obtain ⟨c2, hc2⟩ := down z
      refine ⟨u, ru, .inr ⟨.inr z, c2, hc2, ?_⟩⟩
      have hc3 := up hc2
      rcases lk with ⟨q, _⟩ | ⟨_, c3, hc4, isC⟩
      · have q2 : X.env.scope.names.lookup y = some .local := q
        rcases fr with q3 | q3
        · have q3' : X.env.scope.names.lookup y = some .cell := q3
          rw [q3'] at q2
          cases q2
        · have q3' : X.env.scope.names.lookup y = some .free := q3
          rw [q3'] at q2
          cases q2
      · rw [hc3] at hc4
        cases hc4
        exact cellUp (cf y _ hc3) (I.freeC y _ hc3) isC
  · intro y c e
    obtain ⟨v, isC⟩ := I.cell y c (up e)
    exact ⟨v, cellUp (cf y c (up e)) (I.freeC y c (up e)) isC⟩
  · intro y c e
    obtain ⟨v, o, ho, _⟩ := I.cell y c (up e)
    exact un.free c o ho (I.freeC y c (up e)) (cf y c (up e))
/-- a(), a the parameter of the def at g that got the lambda at f -/
theorem pe_turnV {CXg : CXT} {Eg : XK} {Ng : List Str} {qg : Str} {sg : Scope} {g f c1 : Addr} {cdg dV doc pm ctv : Value} {params : Arguments} {body : Expr} {scope : Scope} {k i : Nat} {a : Str} {pn : List (Addr × Obj)} {xe : Value → Shared → Prop} {W : WX} {tb : XK → TE} {p1 p2 : Pos} {ext : List (Addr × Obj)} {binds : List (Str × Value)}
    (I : Inv X pins σ H3 s3) (un3 : Un (frs X.stack) fp H3 H s3.heap s.heap) (cf : ∀ y c, X.env.cells.lookup y = some c → c ∉ fp) (L : LamP X.N X.env.scope scope)
    (ob : H f = some (FrO (kdv_obj "<lambda>" (X.env.qual ++ "<lambda>") params (.expr body) scope (cloFrom X.env.cells scope.names []) dV doc pm c1 ctv))) (ex : ∀ p ∈ ext, H p.1 = some (FrO p.2))
    (bnd : ∀ (s' : Shared) (cl : List (Str × Addr)) (doc pm cv ctv : Value), (∀ p ∈ ext, s'.heap.get? p.1 = some p.2) → BindsTo s' (kdv_fn "<lambda>" (X.env.qual ++ "<lambda>") params (.expr body) scope cl dV doc pm cv ctv) ⟨[], []⟩ binds)
    (loc : ∀ y ∈ binds, scope.names.lookup y.1 = some .local)
    (tk : Takes ((cxOf CXg X.prog X.w X.K X.mg X.base Ng qg sg g cdg X.A X.stack s H Eg).tr pn xe) W) (hr : Room (k + 1) (X.A.deeper (envOfC qg sg s.heap.objs.size g cdg)))
    (hbody : ∀ (A : Around) (outer : List Env) (s : Shared) (H : Hp) (E : XK), Room k (A.deeper (LamX.lamEnv X scope s.heap.objs.size f c1)) → PE (LamX.lamCx X A outer s H E scope f c1) body (tb E))
    (hN : Ng[i]? = some a) (hv : Vis sg a) (hd : (a == ("__debug__" : Str)) = false := by decide) (hcd : (a == ("__classdict__" : Str)) = false := by decide) :
    PE ((cxOf CXg X.prog X.w X.K X.mg X.base Ng qg sg g cdg X.A X.stack s H Eg).tr pn xe) (.Call (.Name a p1) [] [] p2)
      (fun σZ HZ Q => σZ[i]? = some (some (.ref f)) ∧ HZ c1 = some (LamX.CodeO c1 (X.env.qual ++ "<lambda>")) ∧ ∃ E : XK, (∀ cls d H', E cls d H' → W cls d σZ H') ∧ tb E σ HZ Q) := by
  refine ⟨fun pinsZ sZ σZ HZ Q IZ h => ?_⟩
  obtain ⟨at_, code, E, hW, rd⟩ := h
  have name := (pe_var (X := (cxOf CXg X.prog X.w X.K X.mg X.base Ng qg sg g cdg X.A X.stack s H Eg).tr pn xe) (pos := p1) (i := i) hN hv hd hcd).run pinsZ sZ σZ HZ (fun v H1 => v = .ref f ∧ H1 = HZ) IZ ⟨.ref f, at_, rfl, rfl⟩
  refine wpAny_Call_Name_kw (thn name fun u s1 hu => ?_)
  obtain ⟨v, H1, I1, r1, ev, eH⟩ := hu
  subst ev
  rw [eH] at I1
  have eu : u = Value.ref f := r1
  subst eu
  have un : Un (frs X.stack) [] H HZ s.heap s1.heap := I1.base
  have unF : Un (frs X.stack) fp H HZ s.heap s1.heap := ⟨fun b o e n hb _ => un.keep b o e n hb (by simp), fun b o e n hb _ => un.slot b o e n hb (by simp), fun b o e n _ => un.free b o e n (by simp), fun b o e _ => un.there b o e (by simp), un.tups, un.frzs, un.tbls⟩
  have known : ∀ {b o}, H b = some (FrO o) → s1.heap.get? b = some o := fun {b o} e => by
    have := I1.hok b _ (un.frzs b _ _ e)
    exact this.1
  have ob1 := known ob
  refine PySem.W.callWith_F0 ⟨_, _, _, _, ob1⟩ ?_
  obtain ⟨⟨oc, vs, t, got, dat, nth⟩, _, _⟩ := I1.hok c1 _ code
  have inner : codeAny (model X.prog X.w) (X.A.deeper (envOfC qg sg s.heap.objs.size g cdg)) (.call (.ref f) ⟨[], []⟩) (CR (L2.CX X.prog X.w) (envOfC qg sg s.heap.objs.size g cdg :: X.stack) X.prog X.w HZ s1 Q E) s1 := by
    refine PySem.W.kla_callFunE hr.depth ob1 rfl L.co L.gen rfl ⟨c1, oc, vs, t, rfl, got, dat, nth⟩ ?_
    refine bnd s1 _ doc pm _ ctv (fun p hp => known (ex p hp)) _ _ _ _ ?_
    refine wpAny_newFunctionEnv L.cell loc ?_ L.kind
    intro h2 ns but
    refine ⟨I1.nolimit.fresh _ but, ?_⟩
    have kp : ∀ b o, s1.heap.get? b = some o → h2.get? b = some o := fun b o e => but.extBut b o (Nat.ne_of_lt (Heap.lt_size e)) (Heap.get?_push_of_some _ e)
    have J := lam_enterV (E := E) (f := f) (c1 := c1) (tk := s1.toks + binds.length) I L I1.env0 hr.hd (un3.trans unF) cf ns kp
    show codeAny _ _ (.expr body (LamX.lamEnv X scope s1.heap.objs.size f c1)) _ _
    refine PySem.W.kla_codeExpr (wpAny_mono ((hbody _ _ s1 HZ E (hr.deeper _)).run [] _ _ HZ Q J rd) ?_ fun e s' z => z)
    rintro v s' ⟨w', H', J', rv, q⟩
    exact ⟨w', H', J'.os, J'.bare, J'.base, J'.hok, rv, q⟩
  refine wpAny_call (codeAny_mono inner ?_)
  intro r s' hq
  match r, hq with
  | .error e, hq => exact tk e s' (XE.of_call I1 (fun cls d H' z => hW cls d H' z) hq)
  | .ok (.ret u), hq => exact I1.after hq
  | .ok .next, hq => exact False.elim hq
  | .ok .brk, hq => exact False.elim hq
  | .ok .cont, hq => exact False.elim hq
theorem word_goV (T : Txt X.prog X.w X.K X.mg X.base) {f : Addr} {k : Nat} {t : XK → TE} {Q : VK} (I : Inv X pins σ H3 s3) (un3 : Un (frs X.stack) fp H3 H s3.heap s.heap) (cf : ∀ y c, X.env.cells.lookup y = some c → c ∉ fp) (e0 : Env0 X.prog X.w X.K X.mg X.base X.A X.stack s H) (kin : X.K.In s.heap)
    (D : LamD X k f H t) (hr : Room (k + 2) X.A) (h : TWord X.K (fun E H' Q' => t E σ H' Q') H Q) : codeAny (model X.prog X.w) X.A (.call (.ref (He.ga X.K "_law_word")) ⟨[.ref f], []⟩) (CR CX0 X.stack X.prog X.w H s Q E0) s := by
  obtain ⟨params, body, scope, dV, ext, binds, c1, doc, pm, ctv, L, ob, co, ex, bnd, loc, hbody⟩ := D
  obtain ⟨fd, F⟩ := T.t.def_ 36 (d := d_lword)
  have b : L2.Binds X.K fd ["_law_work"] [] := F.bindsN fun _ _ _ _ _ _ us hl => match us, hl with | [_], _ => rfl
  obtain ⟨oc, od, dV', kV, doc', pm', an, cdv, ct, osl, rfl, lk, hcd, _, _⟩ := F.ex
  refine LamX.run_ofS (N := NW) (ps := ["_law_work"]) (us := [.ref f]) (vs := [.ref f]) lk hcd sc_lword hr e0 (b s [.ref f] kin rfl) (.cons rfl .nil) rfl fun hr' => ?_
  exact word_ok (X := X) (cdg := cdv) (s := s) (H0 := H) T (fun W pn xe p1 p2 tk => pe_turnV (i := 0) (tb := t) I un3 cf L ob ex bnd loc tk hr' (fun A outer s H E hr2 => hbody A outer s H E f c1 hr2) rfl (.inl rfl)) co h
/-- what _law_word(x) asks within a comprehension whose block began with the values σ of the maker's names -/
def tWordV (X : Cx) (k i : Nat) (σ : L2.St) : TE := fun σ' H Q => ∃ (f : Addr) (t : XK → TE), σ'[i]? = some (some (.ref f)) ∧ LamD X k f H t ∧ TWord X.K (fun E H' Q' => t E σ H' Q') H Q
theorem pe_wordV (T : Txt X.prog X.w X.K X.mg X.base) {scope : Scope} {ce : Env} {k i : Nat} {a : Str} {p q pos : Pos} (I3 : Inv X pins σ H3 s3) (f3 : ∀ b ∈ fp, FpOk X pins H3 b ∧ b < s3.heap.objs.size) (hr : Room (k + 2) X.A)
    (hg : Gl (X.blk s3 H3 scope ce fp) "_law_word") (hN : X.N[i]? = some a) (hv : Vis ce.scope a) (hd : (a == ("__debug__" : Str)) = false := by decide) (hcd : (a == ("__classdict__" : Str)) = false := by decide)
    (hst : starEach [.Name a q] ce = (false, eval (.Name a q) ce) :: starEach [] ce := by rfl) (hpl : (backTo pos (starEach [] ce)).any (·.1) = false := by rfl) :
    PE (X.blk s3 H3 scope ce fp) (.Call (.Name "_law_word" p) [.Name a q] [] pos) (tWordV X k i σ) := by
  refine ⟨fun pinsZ s σZ H Q I h => ?_⟩
  obtain ⟨f, t, at_, D, h⟩ := h
  obtain ⟨fd, F⟩ := T.t.def_ 36 (d := d_lword)
  have hm : X.mg "_law_word" = some (.ref (He.ga X.K "_law_word")) := He.glo_ok T.X T.G (T.t.fact 14)
  have hk : PySem.W.keepIn X.K (.ref (He.ga X.K "_law_word")) = true := F.kp
  refine wpAny_Call_Name_kw (ld_glob I hg hm ?_)
  refine PySem.W.callWith_K (h₀ := X.base) I.ok.mod.kin hk ?_ (by rfl) (by rfl)
  show wpAny _ _ (spliced ((false, eval (.Name a q) ce) :: backTo pos (starEach [] ce))) _ _ s
  have name := (pe_var (X := X.blk s3 H3 scope ce fp) (pos := q) (i := i) hN hv hd hcd).run pinsZ s σZ H (fun v H1 => v = .ref f ∧ H1 = H) I ⟨.ref f, at_, rfl, rfl⟩
  refine Calls.spliced_cons (thn name fun u s1 hu => ?_)
  obtain ⟨v, H1, I1, r1, ev, eH⟩ := hu
  subst ev
  rw [eH] at I1
  have eu : u = Value.ref f := r1
  subst eu
  refine Calls.spliced_nil ⟨I1.kIn, ?_⟩
  have cf : ∀ y c, X.env.cells.lookup y = some c → c ∉ fp := fun y c e z => (f3 c z).1.2.2.2.2.1 y c e rfl
  refine wpAny_call (codeAny_mono (word_goV T I3 I1.base cf I1.env0 I1.kIn D hr h) fun r s2 hq => ?_)
  match r, hq with
  | .error e, hq => exact (show False from hq).elim
  | .ok (.ret u), hq => exact I1.after hq
  | .ok .next, hq => exact False.elim hq
  | .ok .brk, hq => exact False.elim hq
  | .ok .cont, hq => exact False.elim hq
end
end B

set_option Elab.async false
set_option linter.all false
set_option maxRecDepth 100000
set_option maxHeartbeats 4000000
namespace B
open PySem PySem.Spec PyProof.Rows L2
open PySem.W (kdv_obj kdv_fn kdv_tup)
/-! ### lambdas whose maker has returned: its cell is a known object -/
/-- the maker X, gone with the values σ: its one cell is at c, oc lies there -/
structure Dead (X : Cx) (σ : L2.St) (c : Addr) (oc : Obj) : Prop where
  inj : ∀ x y c, X.env.cells.lookup x = some c → X.env.cells.lookup y = some c → x = y
  has : ∀ x, (X.env.kindOf x = some .cell ∨ X.env.kindOf x = some .free) → ∃ c, X.env.cells.lookup x = some c
  one : ∀ y c', X.env.cells.lookup y = some c' → c' = c
  cell : ∃ v, oc.data = .cell v
  vals : ∀ (i : Nat) (y : Str) (v : V), X.N[i]? = some y → σ[i]? = some (some v) → (X.env.kindOf y = some .cell ∨ X.env.kindOf y = some .free) → ∃ u, RelV v u ∧ oc.data = .cell (some u)
  len : σ.length = X.N.length
section
variable {P : Program} {w : World} {H H2 : Hp} {h h2 : Heap} {c : Addr} {oc : Obj} {fs : List Addr}
theorem hok_del (x : HOk P w H h) (hc : H c = some (FrO oc)) : HOk P w (delH H c) h := fun b u e => by
  have nb : b ≠ c := fun z => by
    rw [z, delH_same] at e
    cases e
  rw [delH_ne nb] at e
  exact (x b u e).stay (fun _ _ _ q => q) (fun d q => by rw [delH_ne (fun z => by rw [z, hc] at q; cases q)]; exact q) fun d xs q => by rw [delH_ne (fun z => by rw [z, hc] at q; cases q)]; exact q
theorem un_del (u : Un fs [] (delH H c) H2 h h2) (hc : H c = some (FrO oc)) : Un fs [] H (upd H2 c (FrO oc)) h h2 := by
  have ne : ∀ b, H b = none → b ≠ c := fun b n z => by
    rw [z, hc] at n
    cases n
  refine ⟨fun b o e n => u.keep b o e (by rw [delH_ne (ne b n)]; exact n), fun b o e n => u.slot b o e (by rw [delH_ne (ne b n)]; exact n), fun b o e n hx => ?_, u.there, fun b xs e => ?_, fun b o v e => ?_, fun b ps e => ?_⟩
  · rw [upd_ne (ne b n)]
    exact u.free b o e (by rw [delH_ne (ne b n)]; exact n) hx
  · have nb : b ≠ c := fun z => by rw [z, hc] at e; cases e
    rw [upd_ne nb]
    exact u.tups b xs (by rw [delH_ne nb]; exact e)
  · by_cases nb : b = c
    · rw [nb, hc] at e
      cases e
      rw [nb, upd_same]
    · rw [upd_ne nb]
      exact u.frzs b o v (by rw [delH_ne nb]; exact e)
  · have nb : b ≠ c := fun z => by rw [z, hc] at e; cases e
    obtain ⟨m, q⟩ := u.tbls b ps (by rw [delH_ne nb]; exact e)
    exact ⟨m, by rw [upd_ne nb]; exact q⟩
theorem ub_del {B : Heap} (u : UB fs (delH H c) H2 h B h2) (hc : H c = some (FrO oc)) : UB fs H (upd H2 c (FrO oc)) h B h2 := by
  have ne : ∀ b, H b = none → b ≠ c := fun b n z => by
    rw [z, hc] at n
    cases n
  refine ⟨fun b o e n => u.keep b o e (by rw [delH_ne (ne b n)]; exact n), u.slot, fun b o e n => ?_, u.there, fun b xs e => ?_, fun b o v e => ?_, fun b ps e => ?_⟩
  · rw [upd_ne (ne b n)]
    exact u.free b o e (by rw [delH_ne (ne b n)]; exact n)
  · have nb : b ≠ c := fun z => by rw [z, hc] at e; cases e
    rw [upd_ne nb]
    exact u.tups b xs (by rw [delH_ne nb]; exact e)
  · by_cases nb : b = c
    · rw [nb, hc] at e
      cases e
      rw [nb, upd_same]
    · rw [upd_ne nb]
      exact u.frzs b o v (by rw [delH_ne nb]; exact e)
  · have nb : b ≠ c := fun z => by rw [z, hc] at e; cases e
    obtain ⟨m, q⟩ := u.tbls b ps (by rw [delH_ne nb]; exact e)
    exact ⟨m, by rw [upd_ne nb]; exact q⟩
theorem hok_put (x : HOk P w H2 h) (n : H2 c = none) (e : h.get? c = some oc) : HOk P w (upd H2 c (FrO oc)) h := x.laidN (fun _ _ q => q) n (frO_ok e)
/-- a call in a heap that doesn't know of c, told of the heap that does -/
theorem cr_track {outer : List Env} {s s' : Shared} {Q : VK} {E : XK} {r : Result} (hc : H c = some (FrO oc)) (nf : c ∉ frs outer) (hs : s.heap.get? c = some oc)
    (h : CR (L2.CX P w) outer P w (delH H c) s (fun v H2 => H2 c = none → Q v (upd H2 c (FrO oc))) (fun cls d H2 => H2 c = none → E cls d (upd H2 c (FrO oc))) r s') : CR (L2.CX P w) outer P w H s Q E r s' := by
  match r, h with
  | .ok (.ret u), h =>
    obtain ⟨v, H2, os, bare, un, hok, rv, q⟩ := h
    have n2 : H2 c = none := un.free c oc hs delH_same (by simp)
    have e2 : s'.heap.get? c = some oc := un.keep c oc hs delH_same nf (by simp)
    exact ⟨v, _, os, bare, un_del un hc, hok_put hok n2 e2, rv, q n2⟩
  | .ok .next, h => exact False.elim h
  | .ok .brk, h => exact False.elim h
  | .ok .cont, h => exact False.elim h
  | .error e, h =>
    obtain ⟨a, B, H2, cls, d, eu, fl, hok, ub, ha, os, bare, q⟩ := h
    have n2 : H2 c = none := ub.free c oc hs delH_same
    have e2 : B.get? c = some oc := ub.keep c oc hs delH_same nf
    have na : a ≠ c := fun z => by
      have := fl.2.1
      rw [z, e2] at this
      cases this
    exact ⟨a, B, _, cls, d, eu, fl, hok_put hok n2 e2, ub_del ub hc, by rw [upd_ne na]; exact ha, os, bare, q n2⟩
end
section
variable {X M : Cx} {pins : List (Addr × Obj)} {σ : L2.St} {H HZ : Hp} {s s2 : Shared}
theorem lam_enterC {A : Around} {outer : List Env} {E : XK} {scope : Scope} {f c1 c : Addr} {oc : Obj} {h2 : Heap} {tk : Nat} {m : Str → Option Value} (D : Dead M σ c oc) (hc : HZ c = some (FrO oc)) (L : LamP M.N M.env.scope scope) (e0 : Env0 M.prog M.w M.K M.mg M.base A outer s2 HZ) (calm : A.handled = none)
    (ns : h2.Ns s2.heap.objs.size m) (kp : ∀ b o, s2.heap.get? b = some o → h2.get? b = some o) :
    Inv (LamX.lamCx M A outer s2 (delH HZ c) E scope f c1) [] σ (delH HZ c) { s2 with heap := h2, toks := tk } := by
  have hfree : ∀ y ∈ scope.names, y.2 = .free → ∃ c, M.env.cells.lookup y.1 = some c := fun y hy e => (L.free y hy e).elim (fun z => D.has _ (.inl z)) (fun z => D.has _ (.inr z))
  have up : ∀ {y : Str} {c : Addr}, (cloFrom M.env.cells scope.names []).lookup y = some c → M.env.cells.lookup y = some c := by
    intro y c e
    rcases cloFrom_mem (PySem.mem_of_lookup e) with z | ⟨z1, z2⟩
    · exact absurd z (by simp)
    · obtain ⟨d, hd⟩ := hfree _ z1 rfl
      have hd' : M.env.cells.lookup y = some d := hd
      rw [hd'] at z2
      have z3 : c = d := z2
      rw [z3]
      exact hd'
  have down : ∀ {y : Str}, scope.names.lookup y = some .free → ∃ c, (cloFrom M.env.cells scope.names []).lookup y = some c := by
    intro y e
    have mem : (y, NameKind.free) ∈ scope.names := PySem.mem_of_lookup e
    exact mem_lookup (cloFrom_has (cells := M.env.cells) (acc := []) mem)
  have noEx : ∀ b : Addr, b ∉ (LamX.lamCx M A outer s2 (delH HZ c) E scope f c1).ex := fun b z => absurd (show b ∈ ([] : List Addr) from z) (by simp)
  have eC : s2.heap.get? c = some oc := (e0.hok c _ hc).1
  have nn : ∀ b, HZ b = none → delH HZ c b = none := fun b n => by
    by_cases z : b = c
    · rw [z]
      exact delH_same
    · rw [delH_ne z]
      exact n
  have okI : (LamX.lamCx M A outer s2 (delH HZ c) E scope f c1).Ok := by
    refine ⟨e0.mod, L.kind, rfl, rfl, Nat.le_refl _, fun y z c e1 e2 => D.inj y z c (up e1) (up e2), ?_, ?_, fun _ => calm, Around.frames_deeper e0.frames, .inr ⟨rfl, rfl⟩, fun b z => absurd z (noEx b), fun b o e => ⟨(e0.bs b o e).1, nn b (e0.bs b o e).2⟩, e0.bsz, fun b _ _ => noEx b, fun b z => absurd z (noEx b), e0.funs, fun b hb => nn b (e0.frf b hb)⟩
    · intro y hy
      have hy2 : scope.names.lookup y = some .cell ∨ scope.names.lookup y = some .free := hy
      rcases hy2 with z | z
      · exact absurd rfl (L.cell _ (PySem.mem_of_lookup z))
      · exact down z
    · intro y c z
      exact absurd (show false = true from z) Bool.false_ne_true
  refine ⟨okI, rfl, e0.bare, Un.kept kp, ⟨m, ns, ?_⟩, ?_, nn _ (e0.hok.fresh (Nat.le_refl _)), ?_, fun p hp => absurd (show p ∈ ([] : List (Addr × Obj)) ++ [] from hp) (by simp), (hok_del e0.hok hc).kept kp, D.len⟩
  · intro i y v hN hσ hV
    have hV2 : Vis scope y := hV
    rcases hV2 with z | z | z
    · exact absurd (List.mem_of_getElem? hN) (L.own _ (PySem.mem_of_lookup z) rfl)
    · exact absurd rfl (L.cell _ (PySem.mem_of_lookup z))
    · obtain ⟨u, ru, hd⟩ := D.vals i y v hN hσ (L.free _ (PySem.mem_of_lookup z) rfl)
      obtain ⟨c2, hc2⟩ := down z
      refine ⟨u, ru, .inr ⟨.inr z, c2, hc2, oc, ?_, hd⟩⟩
      rw [D.one y c2 (up hc2)]
      exact kp _ _ eC
  · intro y c2 e
    obtain ⟨v, hd⟩ := D.cell
    refine ⟨v, oc, ?_, hd⟩
    rw [D.one y c2 (up e)]
    exact kp _ _ eC
  · intro y c2 e
    rw [D.one y c2 (up e)]
    exact delH_same
/-- a(), a the parameter of the def at g that got the lambda at f, whose maker M is gone -/
theorem pe_turnC {CXg : CXT} {Eg : XK} {Ng : List Str} {qg : Str} {sg : Scope} {g f c1 c : Addr} {oc : Obj} {cdg dV doc pm ctv : Value} {params : Arguments} {body : Expr} {scope : Scope} {k i : Nat} {a : Str} {pn : List (Addr × Obj)} {xe : Value → Shared → Prop} {W : WX} {tb : XK → TE} {p1 p2 : Pos} {ext : List (Addr × Obj)} {binds : List (Str × Value)}
    (D : Dead M σ c oc) (hc : H c = some (FrO oc)) (L : LamP M.N M.env.scope scope)
    (ob : H f = some (FrO (kdv_obj "<lambda>" (M.env.qual ++ "<lambda>") params (.expr body) scope (cloFrom M.env.cells scope.names []) dV doc pm c1 ctv))) (ex : ∀ p ∈ ext, H p.1 = some (FrO p.2))
    (bnd : ∀ (s' : Shared) (cl : List (Str × Addr)) (doc pm cv ctv : Value), (∀ p ∈ ext, s'.heap.get? p.1 = some p.2) → BindsTo s' (kdv_fn "<lambda>" (M.env.qual ++ "<lambda>") params (.expr body) scope cl dV doc pm cv ctv) ⟨[], []⟩ binds)
    (loc : ∀ y ∈ binds, scope.names.lookup y.1 = some .local)
    (tk : Takes ((cxOf CXg M.prog M.w M.K M.mg M.base Ng qg sg g cdg X.A X.stack s H Eg).tr pn xe) W) (hr : Room (k + 1) (X.A.deeper (envOfC qg sg s.heap.objs.size g cdg)))
    (hbody : ∀ (A : Around) (outer : List Env) (s : Shared) (H : Hp) (E : XK), Room k (A.deeper (LamX.lamEnv M scope s.heap.objs.size f c1)) → PE (LamX.lamCx M A outer s H E scope f c1) body (tb E))
    (hN : Ng[i]? = some a) (hv : Vis sg a) (hd : (a == ("__debug__" : Str)) = false := by decide) (hcd : (a == ("__classdict__" : Str)) = false := by decide) :
    PE ((cxOf CXg M.prog M.w M.K M.mg M.base Ng qg sg g cdg X.A X.stack s H Eg).tr pn xe) (.Call (.Name a p1) [] [] p2)
      (fun σZ HZ Q => σZ[i]? = some (some (.ref f)) ∧ HZ c1 = some (LamX.CodeO c1 (M.env.qual ++ "<lambda>")) ∧ ∃ E : XK, (∀ cls d H', E cls d H' → W cls d σZ H') ∧
        (HZ c = some (FrO oc) → tb (fun cls d H2 => H2 c = none → E cls d (upd H2 c (FrO oc))) σ (delH HZ c) (fun v H2 => H2 c = none → Q v (upd H2 c (FrO oc))))) := by
  refine ⟨fun pinsZ sZ σZ HZ Q IZ h => ?_⟩
  obtain ⟨at_, code, E, hW, rd⟩ := h
  have name := (pe_var (X := (cxOf CXg M.prog M.w M.K M.mg M.base Ng qg sg g cdg X.A X.stack s H Eg).tr pn xe) (pos := p1) (i := i) hN hv hd hcd).run pinsZ sZ σZ HZ (fun v H1 => v = .ref f ∧ H1 = HZ) IZ ⟨.ref f, at_, rfl, rfl⟩
  refine wpAny_Call_Name_kw (thn name fun u s1 hu => ?_)
  obtain ⟨v, H1, I1, r1, ev, eH⟩ := hu
  subst ev
  rw [eH] at I1
  have eu : u = Value.ref f := r1
  subst eu
  have un : Un (frs X.stack) [] H HZ s.heap s1.heap := I1.base
  have known : ∀ {b o}, H b = some (FrO o) → s1.heap.get? b = some o := fun {b o} e => by
    have := I1.hok b _ (un.frzs b _ _ e)
    exact this.1
  have hcZ : HZ c = some (FrO oc) := un.frzs _ _ _ hc
  have ob1 := known ob
  refine PySem.W.callWith_F0 ⟨_, _, _, _, ob1⟩ ?_
  obtain ⟨⟨oc', vs, t, got, dat, nth⟩, _, _⟩ := I1.hok c1 _ code
  have inner : codeAny (model M.prog M.w) (X.A.deeper (envOfC qg sg s.heap.objs.size g cdg)) (.call (.ref f) ⟨[], []⟩) (CR (L2.CX M.prog M.w) (envOfC qg sg s.heap.objs.size g cdg :: X.stack) M.prog M.w HZ s1 Q E) s1 := by
    refine PySem.W.kla_callFunE hr.depth ob1 rfl L.co L.gen rfl ⟨c1, oc', vs, t, rfl, got, dat, nth⟩ ?_
    refine bnd s1 _ doc pm _ ctv (fun p hp => known (ex p hp)) _ _ _ _ ?_
    refine wpAny_newFunctionEnv L.cell loc ?_ L.kind
    intro h2 ns but
    refine ⟨I1.nolimit.fresh _ but, ?_⟩
    have kp : ∀ b o, s1.heap.get? b = some o → h2.get? b = some o := fun b o e => but.extBut b o (Nat.ne_of_lt (Heap.lt_size e)) (Heap.get?_push_of_some _ e)
    have e0 : Env0 M.prog M.w M.K M.mg M.base (X.A.deeper (envOfC qg sg s.heap.objs.size g cdg)) (envOfC qg sg s.heap.objs.size g cdg :: X.stack) s1 HZ := I1.env0
    have nf : c ∉ frs (envOfC qg sg s.heap.objs.size g cdg :: X.stack) := fun z => by
      have := e0.frf c z
      rw [hcZ] at this
      cases this
    have J := lam_enterC (E := fun cls d H2 => H2 c = none → E cls d (upd H2 c (FrO oc))) (f := f) (c1 := c1) (tk := s1.toks + binds.length) D hcZ L e0 hr.hd ns kp
    show codeAny _ _ (.expr body (LamX.lamEnv M scope s1.heap.objs.size f c1)) _ _
    refine codeAny_mono (?_ : codeAny (model M.prog M.w) _ (.expr body (LamX.lamEnv M scope s1.heap.objs.size f c1)) (CR (L2.CX M.prog M.w) (envOfC qg sg s.heap.objs.size g cdg :: X.stack) M.prog M.w (delH HZ c) s1 (fun v H2 => H2 c = none → Q v (upd H2 c (FrO oc))) (fun cls d H2 => H2 c = none → E cls d (upd H2 c (FrO oc)))) _) fun r s' z => cr_track hcZ nf (known hc) z
    refine PySem.W.kla_codeExpr (wpAny_mono ((hbody _ _ s1 (delH HZ c) (fun cls d H2 => H2 c = none → E cls d (upd H2 c (FrO oc))) (hr.deeper _)).run [] _ _ (delH HZ c) (fun v H2 => H2 c = none → Q v (upd H2 c (FrO oc))) J (rd hcZ)) ?_ fun e s' z => z)
    rintro v s' ⟨w', H', J', rv, q⟩
    exact ⟨w', H', J'.os, J'.bare, J'.base, J'.hok, rv, q⟩
  refine wpAny_call (codeAny_mono inner ?_)
  intro r s' hq
  match r, hq with
  | .error e, hq => exact tk e s' (XE.of_call I1 (fun cls d H' z => hW cls d H' z) hq)
  | .ok (.ret u), hq => exact I1.after hq
  | .ok .next, hq => exact False.elim hq
  | .ok .brk, hq => exact False.elim hq
  | .ok .cont, hq => exact False.elim hq
end
/-! ### tables and frames without the cell -/
section
variable {K : PySem.W.Frag} {H H2 : Hp} {c : Addr} {oc : Obj}
theorem tb_keep (h : Tb K H) (k1 : ∀ b ps, H b = some (.tbl ps) → H2 b = some (.tbl ps)) (k2 : ∀ b q, H b = some (LamX.CodeO b q) → H2 b = some (LamX.CodeO b q)) : Tb K H2 := by
  obtain ⟨h1, h2⟩ := h
  refine ⟨fun p hp => ?_, fun p hp => ?_⟩
  · obtain ⟨ps, e, t⟩ := h1 p hp
    exact ⟨ps, k1 _ _ e, t⟩
  · obtain ⟨qs, e1, t1, a1⟩ := h2 p hp
    refine ⟨qs, k1 _ _ e1, t1, fun pos cv hc => ?_⟩
    obtain ⟨c, e2, e3⟩ := a1 pos cv hc
    exact ⟨c, e2, k2 _ _ e3⟩
theorem tb_del (h : Tb K H) (hc : H c = some (FrO oc)) : Tb K (delH H c) :=
  tb_keep h (fun b ps e => by rw [delH_ne (fun z => by rw [z, hc] at e; cases e)]; exact e) (fun b q e => by rw [delH_ne (fun z => by rw [z, hc] at e; cases e)]; exact e)
theorem frt_put (g : FrT K [] (delH H c) H2) (hc : H c = some (FrO oc)) (n : H2 c = none) : FrT K [] H (upd H2 c (FrO oc)) := by
  refine ⟨fun b o e t hb => ?_, fun b e => ?_, fun t => ?_⟩
  · by_cases z : b = c
    · rw [z, hc] at e
      rw [z, upd_same]
      exact e
    · rw [upd_ne z]
      exact g.k b o (by rw [delH_ne z]; exact e) t hb
  · have z : b ≠ c := fun z => by rw [z, upd_same] at e; cases e
    rw [upd_ne z] at e
    have := g.b b e
    rwa [delH_ne z] at this
  · exact tb_keep (g.t (tb_del t hc)) (fun b ps e => by rw [upd_ne (ne_of_none e n)]; exact e) (fun b q e => by rw [upd_ne (ne_of_none e n)]; exact e)
end
/-! ### called later by _law_word -/
abbrev MkC (P : Program) (w : World) (K : PySem.W.Frag) (mg : Str → Option Value) (base : Heap) (N : List Str) (q : Str) (sc : Scope) (g : Addr) (cdg : Value) (A : Around) (outer : List Env) (s0 : Shared) (H0 : Hp) (Ex : XK) : Cx := cxOf CX0 P w K mg base N q sc g cdg A outer s0 H0 Ex
/-- the lambda at f, its maker gone, lets an exception of cls out whenever it is called from now on -/
def RefC (P : Program) (w : World) (K : PySem.W.Frag) (mg : Str → Option Value) (base : Heap) (k : Nat) (cls : Value) (f : Addr) (H : Hp) : Prop :=
  ∃ (N : List Str) (q : Str) (sc : Scope) (g : Addr) (cdg : Value) (A : Around) (outer : List Env) (s0 : Shared) (H0 : Hp) (Ex : XK) (σ : L2.St) (c : Addr) (oc : Obj) (t : XK → TE),
    LamD (MkC P w K mg base N q sc g cdg A outer s0 H0 Ex) k f H t ∧ Dead (MkC P w K mg base N q sc g cdg A outer s0 H0 Ex) σ c oc ∧ H c = some (FrO oc) ∧
    ∀ (H' : Hp) (E : XK) (Q : VK), H' c = some (FrO oc) → FrT K [] H H' → (∀ H2, FrT K [] (delH H' c) H2 → E cls none H2) → t E σ (delH H' c) Q
theorem RefC.keepT {P : Program} {w : World} {K : PySem.W.Frag} {mg : Str → Option Value} {base : Heap} {k : Nat} {cls : Value} {f : Addr} {H H' : Hp} (h : RefC P w K mg base k cls f H) (g : FrT K [] H H') : RefC P w K mg base k cls f H' := by
  obtain ⟨a1, a2, a3, a4, a5, a6, a7, a8, a9, a10, σ, c, oc, t, h1, h2, h3, h4⟩ := h
  exact ⟨a1, a2, a3, a4, a5, a6, a7, a8, a9, a10, σ, c, oc, t, h1.mono (fun b o e => g.k b _ e rfl (by simp)) (fun c q e => g.k c _ e rfl (by simp)), h2, g.k _ _ h3 rfl (by simp), fun H2 E Q e f k => h4 H2 E Q e (g.trans f) k⟩
section
variable {X : Cx} {pins : List (Addr × Obj)} {H : Hp} {s : Shared}
theorem word_goC (T : Txt X.prog X.w X.K X.mg X.base) {f : Addr} {k n : Nat} {wd : Str} {cls : Value} {Q : VK} (e0 : Env0 X.prog X.w X.K X.mg X.base X.A X.stack s H) (kin : X.K.In s.heap) (C : WordC X.K cls n wd)
    (D : RefC X.prog X.w X.K X.mg X.base k cls f H) (hr : Room (k + 2) X.A) (h : ∀ H3, FrT X.K [] H H3 → Q (.str wd) H3) : codeAny (model X.prog X.w) X.A (.call (.ref (He.ga X.K "_law_word")) ⟨[.ref f], []⟩) (CR CX0 X.stack X.prog X.w H s Q E0) s := by
  obtain ⟨N, q, sc, g, cdg, A, outer, s0, H0, Ex, σ, c, oc, t, ⟨params, body, scope, dV, ext, binds, c1, doc, pm, ctv, L, ob, co, ex, bnd, loc, hbody⟩, hD, hc, ref⟩ := D
  obtain ⟨fd, F⟩ := T.t.def_ 36 (d := d_lword)
  have b : L2.Binds X.K fd ["_law_work"] [] := F.bindsN fun _ _ _ _ _ _ us hl => match us, hl with | [_], _ => rfl
  obtain ⟨oc', od, dV', kV, doc', pm', an, cdv, ct, osl, rfl, lk, hcd, _, _⟩ := F.ex
  refine LamX.run_ofS (N := NW) (ps := ["_law_work"]) (us := [.ref f]) (vs := [.ref f]) lk hcd sc_lword hr e0 (b s [.ref f] kin rfl) (.cons rfl .nil) rfl fun hr' => ?_
  refine word_ok (X := X) (cdg := cdv) (s := s) (H0 := H) (tl := fun E HZ Q' => HZ c = some (FrO oc) → t (fun cls d H2 => H2 c = none → E cls d (upd H2 c (FrO oc))) σ (delH HZ c) (fun v H2 => H2 c = none → Q' v (upd H2 c (FrO oc)))) T
    (fun W pn xe p1 p2 tk => pe_turnC (X := X) (M := MkC X.prog X.w X.K X.mg X.base N q sc g cdg A outer s0 H0 Ex) (i := 0) (tb := t) hD hc L ob ex bnd loc tk hr' (fun A outer s H E hr2 => hbody A outer s H E f c1 hr2) rfl (.inl rfl)) co ?_
  intro hcZ
  exact ref H _ _ hcZ (FrT.refl _ _ _) fun H2 f2 n2 => by
    first
      | exact ⟨rfl, n, wd, C, fun H3 f3 => h H3 ((frt_put f2 hcZ n2).trans (f3.toT .nil))⟩
      | exact Refd.plain C rfl fun H3 f3 => h H3 ((frt_put f2 hcZ n2).trans (f3.toT .nil))
/-- what _law_word(x) asks where x is such a lambda -/
def tWordC (X : Cx) (k i : Nat) : TE := fun σ' H Q => ∃ (f : Addr) (cls : Value) (n : Nat) (wd : Str), σ'[i]? = some (some (.ref f)) ∧ WordC X.K cls n wd ∧ RefC X.prog X.w X.K X.mg X.base k cls f H ∧ ∀ H3, FrT X.K [] H H3 → Q (.str wd) H3
theorem pe_wordC (T : Txt X.prog X.w X.K X.mg X.base) {s3 : Shared} {H3 : Hp} {fp : List Addr} {scope : Scope} {ce : Env} {k i : Nat} {a : Str} {p q pos : Pos} (hr : Room (k + 2) X.A)
    (hg : Gl (X.blk s3 H3 scope ce fp) "_law_word") (hN : X.N[i]? = some a) (hv : Vis ce.scope a) (hd : (a == ("__debug__" : Str)) = false := by decide) (hcd : (a == ("__classdict__" : Str)) = false := by decide)
    (hst : starEach [.Name a q] ce = (false, eval (.Name a q) ce) :: starEach [] ce := by rfl) (hpl : (backTo pos (starEach [] ce)).any (·.1) = false := by rfl) :
    PE (X.blk s3 H3 scope ce fp) (.Call (.Name "_law_word" p) [.Name a q] [] pos) (tWordC X k i) := by
  refine ⟨fun pinsZ s σZ H Q I h => ?_⟩
  obtain ⟨f, cls, n, wd, at_, C, D, h⟩ := h
  obtain ⟨fd, F⟩ := T.t.def_ 36 (d := d_lword)
  have hm : X.mg "_law_word" = some (.ref (He.ga X.K "_law_word")) := He.glo_ok T.X T.G (T.t.fact 14)
  have hk : PySem.W.keepIn X.K (.ref (He.ga X.K "_law_word")) = true := F.kp
  refine wpAny_Call_Name_kw (ld_glob I hg hm ?_)
  refine PySem.W.callWith_K (h₀ := X.base) I.ok.mod.kin hk ?_ (by rfl) (by rfl)
  show wpAny _ _ (spliced ((false, eval (.Name a q) ce) :: backTo pos (starEach [] ce))) _ _ s
  have name := (pe_var (X := X.blk s3 H3 scope ce fp) (pos := q) (i := i) hN hv hd hcd).run pinsZ s σZ H (fun v H1 => v = .ref f ∧ H1 = H) I ⟨.ref f, at_, rfl, rfl⟩
  refine Calls.spliced_cons (thn name fun u s1 hu => ?_)
  obtain ⟨v, H1, I1, r1, ev, eH⟩ := hu
  subst ev
  rw [eH] at I1
  have eu : u = Value.ref f := r1
  subst eu
  refine Calls.spliced_nil ⟨I1.kIn, ?_⟩
  refine wpAny_call (codeAny_mono (word_goC T I1.env0 I1.kIn C D hr h) fun r s2 hq => ?_)
  match r, hq with
  | .error e, hq => exact (show False from hq).elim
  | .ok (.ret u), hq => exact I1.after hq
  | .ok .next, hq => exact False.elim hq
  | .ok .brk, hq => exact False.elim hq
  | .ok .cont, hq => exact False.elim hq
end
/-! ### a def of one cell: two statements, then its answer; behind it the cell is told -/
theorem execs_two {X : Cx} {s1 s2 : Stmt} {e : Expr} {pos : Pos} {pins : List (Addr × Obj)} {σ : L2.St} {H : Hp} {s : Shared} {G : L2.St → V → Hp → Prop} (I : Inv X pins σ H s)
    (h : ∃ (t1 t2 : TS) (te : TE), PS X s1 t1 ∧ PS X s2 t2 ∧ PE X e te ∧ t1 { nx := fun σ1 H1 => t2 { nx := fun σ2 H2 => te σ2 H2 (G σ2), rt := fun _ _ => False, bk := fun _ _ => False, ct := fun _ _ => False } σ1 H1, rt := fun _ _ => False, bk := fun _ _ => False, ct := fun _ _ => False } σ H) :
    wpAny (model X.prog X.w) X.A (execs [s1, s2, .Return (some e) pos] X.env) (fun fl s' => ∃ u v σ' H', fl = .ret u ∧ Inv X pins σ' H' s' ∧ RelV v u ∧ G σ' v H') X.xe s := by
  obtain ⟨t1, t2, te, h1, h2, he, h⟩ := h
  refine wpAny_execs_cons (thn (h1.run pins s σ H _ I h) fun f sa q => ?_)
  match f, q with
  | .next, q =>
    obtain ⟨σ1, H1, I1, q1⟩ := q
    refine wpAny_execs_cons (thn (h2.run pins sa σ1 H1 _ I1 q1) fun f sb q => ?_)
    match f, q with
    | .next, q =>
      obtain ⟨σ2, H2, I2, q2⟩ := q
      refine wpAny_execs_cons (wpAny_Return_some (thn (he.run pins sb σ2 H2 _ I2 q2) fun u sc q => ?_))
      obtain ⟨v, H3, I3, rv, q3⟩ := q
      exact ⟨u, v, σ2, H3, rfl, I3, rv, q3⟩
    | .ret u, q => obtain ⟨_, _, _, _, _, z⟩ := q; exact z.elim
    | .brk, q => obtain ⟨_, _, _, z⟩ := q; exact z.elim
    | .cont, q => obtain ⟨_, _, _, z⟩ := q; exact z.elim
  | .ret u, q => obtain ⟨_, _, _, _, _, z⟩ := q; exact z.elim
  | .brk, q => obtain ⟨_, _, _, z⟩ := q; exact z.elim
  | .cont, q => obtain ⟨_, _, _, z⟩ := q; exact z.elim
/-- a def of one cell x: its run told by the state that it ends in -/
theorem run_ofC {P : Program} {w : World} {K : PySem.W.Frag} {mg : Str → Option Value} {base : Heap} {k : Nat} {f : Addr} {name qual x : Str} {params : Arguments} {body : List Stmt} {scope : Scope} {dV kV doc pm cdv ct oc : Value} {an od : Option Addr}
    {osl : Array (Option Value)} {N ps : List Str} (lk : K.lookup f = some ⟨oc, od, .func (PySem.W.fnOf name qual params body scope dV kV doc pm an cdv ct), osl⟩) (hcd : PySem.W.codeIn K cdv qual = true) (S : FnScope N ps scope) (hce : ∀ n, cellsFrom n scope.names [] = [(x, n)])
    {A : Around} {outer : List Env} {s : Shared} {H : Hp} {args : Args} {us : List Value} {vs : List V} {Q : VK} {E : XK} (hr : Room (k + 1) A) (e0 : Env0 P w K mg base A outer s H) (hb : BindsTo s (PySem.W.fnOf name qual params body scope dV kV doc pm an cdv ct) args (ps.zip us)) (r : Vals vs us) (hl : vs.length = ps.length)
    (hbody : Room k (A.deeper (envOfC qual scope s.heap.objs.size f cdv)) → ∀ s1, Inv (MkC P w K mg base N qual scope f cdv A outer s H E) [] (L2.start N vs) H s1 → wpAny (model P w) (A.deeper (envOfC qual scope s.heap.objs.size f cdv)) (execs body (envOfC qual scope s.heap.objs.size f cdv))
      (fun fl s' => ∃ u v σ' H', fl = .ret u ∧ Inv (MkC P w K mg base N qual scope f cdv A outer s H E) [] σ' H' s' ∧ RelV v u ∧ ∀ oc : Obj, Dead (MkC P w K mg base N qual scope f cdv A outer s H E) σ' (s.heap.objs.size + 1) oc → H' (s.heap.objs.size + 1) = none → Q v (upd H' (s.heap.objs.size + 1) (FrO oc)))
      (MkC P w K mg base N qual scope f cdv A outer s H E).xe s1) :
    codeAny (model P w) A (.call (.ref f) args) (CR CX0 outer P w H s Q E) s := by
  have KX : K.In s.heap := e0.mod.kin.keeps fun b o e => (e0.bs b o e).1
  have lim : s.heap.NoLimit := e0.mod.nolimit.keeps fun b o e => (e0.bs b o e).1
  have hkind : ∀ y ∈ ps.zip us, scope.names.lookup y.1 = some .local ∨ (scope.names.lookup y.1 = some .cell ∧ ((cellsFrom (s.heap.objs.size + 1) scope.names []).lookup y.1).isSome = true) := fun ⟨n, v⟩ hy => by
    rcases S.par n (List.of_mem_zip hy).1 with q | q
    · exact .inl q
    · exact .inr ⟨q, PySem.W.cellsFrom_some _ _ _ (.inl q)⟩
  refine codeAny_call_function hr.depth (KX _ _ lk) rfl S.co S.gen rfl (PySem.W.codeRec_of KX hcd) (hb _ _ _ _ ?_)
  refine wpAny_newFunctionEnv_cells S.kind hkind fun env he s1 x1 => ?_
  subst he
  refine ⟨lim.keeps x1.toInCall.keep, codeAny_func ?_⟩
  have I : Inv (MkC P w K mg base N qual scope f cdv A outer s H E) [] (L2.start N vs) H s1 := inv_start S hr.hd e0 hl r x1
  refine wpAny_mono (hbody (hr.deeper _) s1 I) (fun fl s' hs => ?_) fun e s' hs => hs
  obtain ⟨u, v, σ', H', rfl, J, rv, q⟩ := hs
  have ec : (MkC P w K mg base N qual scope f cdv A outer s H E).env.cells = [(x, s.heap.objs.size + 1)] := hce _
  have lx : (MkC P w K mg base N qual scope f cdv A outer s H E).env.cells.lookup x = some (s.heap.objs.size + 1) := by
    rw [ec]
    simp [List.lookup]
  have one : ∀ y c', (MkC P w K mg base N qual scope f cdv A outer s H E).env.cells.lookup y = some c' → y = x ∧ c' = s.heap.objs.size + 1 := fun y c' e => by
    rw [ec] at e
    cases d : y == x with
    | true => rw [List.lookup_cons, d] at e; exact ⟨beq_iff_eq.mp d, (Option.some.inj e).symm⟩
    | false => rw [List.lookup_cons, d] at e; cases e
  obtain ⟨v0, oc0, ho, hd0⟩ := J.cell _ _ lx
  have n0 := J.freeC _ _ lx
  have hn : H (s.heap.objs.size + 1) = none := e0.hok.fresh (Nat.le_succ _)
  have D : Dead (MkC P w K mg base N qual scope f cdv A outer s H E) σ' (s.heap.objs.size + 1) oc0 := by
    refine ⟨fun y1 y2 c e1 e2 => (one y1 c e1).1.trans (one y2 c e2).1.symm, J.ok.has, fun y c' e => (one y c' e).2, ⟨v0, hd0⟩, fun j y v1 e1 e2 e3 => ?_, J.len⟩
    obtain ⟨m, _, look⟩ := J.loc
    obtain ⟨u1, r1, l⟩ := look j y v1 e1 e2 (e3.elim (fun q => .inr (.inl q)) fun q => .inr (.inr q))
    rcases l with ⟨k1, _⟩ | ⟨_, c, e, o, ho1, hd1⟩
    · rcases e3 with k2 | k2 <;> rw [k1] at k2 <;> cases k2
    · rw [(one y c e).2, ho] at ho1
      cases ho1
      exact ⟨u1, r1, hd1⟩
  refine ⟨v, _, J.os, J.bare, ?_, hok_put J.hok n0 ho, rv, q oc0 D n0⟩
  have b := J.base
  refine ⟨b.keep, b.slot, fun b2 o e n hx => ?_, b.there, fun b2 xs e => ?_, fun b2 o u e => ?_, fun b2 ps e => ?_⟩
  · rw [upd_ne (Nat.ne_of_lt (Nat.lt_succ_of_lt (Heap.lt_size e)))]
    exact b.free b2 o e n hx
  · rw [upd_ne (ne_of_none (b.tups _ _ e) n0)]
    exact b.tups b2 xs e
  · rw [upd_ne (ne_of_none (b.frzs _ _ _ e) n0)]
    exact b.frzs b2 o u e
  · obtain ⟨m, e2⟩ := b.tbls b2 ps e
    exact ⟨m, by rw [upd_ne (ne_of_none e2 n0)]; exact e2⟩
theorem okC {P : Program} {w : World} {K : PySem.W.Frag} {mg : Str → Option Value} {base : Heap} {x qual y : Str} {params : Arguments} {body : List Stmt} {scope : Scope} {dvs : List V} {kws : List (Str × V)} {p : He.Defn} {fd : FuncData} {N ps : List Str} {k : Nat} {sp : Sp} (F : FunD K x qual params body scope dvs kws (He.fAd K p) fd) (S : FnScope N ps scope)
    (hce : ∀ n, cellsFrom n scope.names [] = [(y, n)]) (len : ∀ vs H Q E, sp vs H Q E → vs.length = ps.length)
    (hbody : ∀ (A : Around) (outer : List Env) (s : Shared) (H : Hp) (vs : List V) (Q : VK) (E : XK), Room k (A.deeper (envOfC qual scope s.heap.objs.size (He.fAd K p) (.ref (He.codeOf K p)))) → sp vs H Q E → ∀ s1, Inv (MkC P w K mg base N qual scope (He.fAd K p) (.ref (He.codeOf K p)) A outer s H E) [] (L2.start N vs) H s1 →
      wpAny (model P w) (A.deeper (envOfC qual scope s.heap.objs.size (He.fAd K p) (.ref (He.codeOf K p)))) (execs body (envOfC qual scope s.heap.objs.size (He.fAd K p) (.ref (He.codeOf K p))))
        (fun fl s' => ∃ u v σ' H', fl = .ret u ∧ Inv (MkC P w K mg base N qual scope (He.fAd K p) (.ref (He.codeOf K p)) A outer s H E) [] σ' H' s' ∧ RelV v u ∧ ∀ oc : Obj, Dead (MkC P w K mg base N qual scope (He.fAd K p) (.ref (He.codeOf K p)) A outer s H E) σ' (s.heap.objs.size + 1) oc → H' (s.heap.objs.size + 1) = none → Q v (upd H' (s.heap.objs.size + 1) (FrO oc)))
        (MkC P w K mg base N qual scope (He.fAd K p) (.ref (He.codeOf K p)) A outer s H E).xe s1) : FnOk P w K mg base CX0 (k + 1) (He.fAd K p) fd ps sp := by
  obtain ⟨oc, od, dV, kV, doc, pm, an, cdv, ct, osl, rfl, lk, hcd, _, _⟩ := F.ex
  obtain ⟨c, rfl⟩ := He.codeIn_ref hcd
  have e : He.codeOf K p = c := He.codeOf_eq lk rfl
  subst e
  exact ⟨len, fun A outer s H args us vs Q E hr e0 hb r h => run_ofC lk hcd S hce hr e0 hb r (len _ _ _ _ h) fun hr2 s1 I => hbody A outer s H vs Q E hr2 h s1 I⟩
end B

set_option Elab.async false
set_option linter.all false
set_option maxRecDepth 100000
set_option maxHeartbeats 4000000
namespace B
open PySem PySem.Spec PyProof.Rows L2
open SX (S)
/-! ### what is no width is refused, first of all -/
section
variable {X : Cx}
theorem mkf_BadWidth (T : Txt X.prog X.w X.K X.mg X.base) {e : Expr} {te : TE} {p pos : Pos} (he : PE X e te) (hg : Gl X "BadWidth" := by rfl) (hs : starEach [e] X.env = (false, eval e X.env) :: starEach [] X.env := by rfl) : PMk X (.Call (.Name "BadWidth" p) [e] [] pos) (fun σ H Q => te σ H fun _ H1 => Q (.ref (He.ga X.K "BadWidth")) none H1) := by
  obtain ⟨a, b, c, d⟩ := He.exc_ok (T.t.fact 106 (f := .exc "BadWidth"))
  exact SkE.pmk_own1 PySem.F.excBase_ValueError a (g_BadWidth T) b (raises_own c d) hg he hs
end
/-- no width -/
def BadW : V → Prop
  | .int b => ¬ (1 ≤ b ∧ b ≤ 12)
  | .bl _ => True
  | _ => False
def spWid (K : PySem.W.Frag) (n : Nat) : Sp := fun vs H _ E => ∃ (v : V) (us : List V), vs = v :: us ∧ us.length = n ∧ BadW v ∧ E (.ref (He.ga K "BadWidth")) none H
section
variable {P : Program} {w : World} {K : PySem.W.Frag} {mg : Str → Option Value} {base : Heap}
theorem c_require_widthV (T : Txt P w K mg base) : CalX (L2.CX P w) P w K mg base 1 "require_width" (spWid K 0) := by
  obtain ⟨fd, F⟩ := T.t.def_ 0 (d := d_require_width)
  refine ⟨_, fd, _, F.ok sc_require_width (fun vs H Q E h => ?_) (fun cdv A outer s H vs Q E hr h => ?_), He.glo_ok T.X T.G (T.t.fact 0), F.kp, F.bindsN fun _ _ _ _ _ _ us hl => match us, hl with | [_], _ => rfl⟩
  · obtain ⟨v, us, rfl, hl, _⟩ := h
    show us.length + 1 = 1
    rw [hl]
  · obtain ⟨v, us, rfl, hl, hb, k⟩ := h
    obtain rfl : us = [] := List.length_eq_zero_iff.mp hl
    refine ⟨_, (pss_one (ps_if (PW.pt (pw_or (pt_val (pe_callB call_isi (by rfl) (n_isinstance T) (by decide +kernel) (pa_cons (pv 0) (pa_cons (pe_bltn (v := .ty "bool") (u := .type "bool") rfl (n_bool T) (by decide +kernel) rfl) pa_nil)))) (pw_or1 (pt_not (pt_chain op_le op_le (g_LEAST_WIDTH T) (pv 0) (g_GREATEST_WIDTH T))))))
      (pss_one (ps_raise rfl (takes_of rfl rfl rfl rfl) (mkf_BadWidth T (pe_joined (L2.PJ.cons pe_str (L2.PJ.cons (pe_fmt (g_LEAST_WIDTH T)) (L2.PJ.cons pe_str (L2.PJ.cons (pe_fmt (g_GREATEST_WIDTH T)) L2.PJ.nil))))))))
      pss_nil)), ?_⟩
    have word : tJs [tC (.str "a width is a number from "), tFmt (tC (.int 1)), tC (.str " to "), tFmt (tC (.int 12))] Str.empty [some v] H fun _ H1 => E (.ref (He.ga K "BadWidth")) none H1 := by
      refine ⟨_, rfl, by decide, .inr ⟨1, rfl, by decide, _, rfl, by decide, _, rfl, by decide, .inr ⟨12, rfl, by decide, _, rfl, by decide, ?_⟩⟩⟩
      exact k
    cases v with
    | int b =>
      refine ⟨_, rfl, .int b, .ty "bool", .type "int", .type "bool", false, rfl, .ty "bool", .base (.int b), kit_ty (by decide +kernel), false, rfl, ?_⟩
      refine ⟨_, rfl, 1, b, rfl, rfl, _, rfl, ?_⟩
      by_cases c : 1 ≤ b
      · rw [decide_eq_true c]
        refine ⟨b, 12, rfl, rfl, _, rfl, ?_⟩
        rw [decide_eq_false (fun z => hb ⟨c, z⟩)]
        exact word
      · rw [decide_eq_false c]
        exact ⟨_, rfl, word⟩
    | bl b =>
      refine ⟨_, rfl, .bl b, .ty "bool", .type "bool", .type "bool", true, rfl, .ty "bool", .base (.bl b), kit_ty (by decide +kernel), true, rfl, ?_⟩
      exact word
    | _ => exact hb.elim
theorem c_metV (T : Txt P w K mg base) : CalX (L2.CX P w) P w K mg base 2 "met" (spWid K 1) := by
  obtain ⟨fd, F⟩ := T.t.def_ 3 (d := d_met)
  refine ⟨_, fd, _, F.ok sc_met (fun vs H Q E h => ?_) (fun cdv A outer s H vs Q E hr h => ?_), He.glo_ok T.X T.G (T.t.fact 3), F.kp, F.bindsN fun _ _ _ _ _ _ us hl => match us, hl with | [_, _], _ => rfl⟩
  · obtain ⟨v, us, rfl, hl, _⟩ := h
    show us.length + 1 = 1 + 1
    rw [hl]
  · obtain ⟨v, us, rfl, hl, hb, k⟩ := h
    obtain ⟨u0, rfl⟩ := List.length_eq_one_iff.mp hl
    refine ⟨_, (pss_cons (ps_expr (pe_cx (c_require_widthV T) hr (by decide) rfl (passes_call (takes_of rfl rfl rfl rfl) (fun _ _ _ _ h => h)) (pa_cons (pv 0) pa_nil)))
    (pss_cons (ps_never)
    (pss_cons (ps_never)
    (pss_one (ps_never))))), ?_⟩
    exact ⟨_, rfl, v, [], rfl, rfl, hb, k⟩
theorem c_fewestV (T : Txt P w K mg base) : CalX (L2.CX P w) P w K mg base 3 "fewest" (spWid K 1) := by
  obtain ⟨fd, F⟩ := T.t.def_ 29 (d := d_fewest)
  refine ⟨_, fd, _, F.ok sc_fewest (fun vs H Q E h => ?_) (fun cdv A outer s H vs Q E hr h => ?_), He.glo_ok T.X T.G (T.t.fact 7), F.kp, F.bindsN fun _ _ _ _ _ _ us hl => match us, hl with | [_, _], _ => rfl⟩
  · obtain ⟨v, us, rfl, hl, _⟩ := h
    show us.length + 1 = 1 + 1
    rw [hl]
  · obtain ⟨v, us, rfl, hl, hb, k⟩ := h
    obtain ⟨u0, rfl⟩ := List.length_eq_one_iff.mp hl
    refine ⟨_, (pss_cons (ps_set (i := 2) sc_fewest.nd rfl (Or.inl rfl) (pe_cx (c_metV T) hr (by decide) rfl (passes_call (takes_of rfl rfl rfl rfl) (fun _ _ _ _ h => h)) (pa_cons (pv 0) (pa_cons (pv 1) pa_nil))))
    (pss_cons (ps_never)
    (pss_one (ps_never)))), ?_⟩
    exact ⟨_, rfl, _, rfl, v, [u0], rfl, rfl, hb, k⟩
theorem c_shownV (T : Txt P w K mg base) : CalX (L2.CX P w) P w K mg base 2 "shown" (spWid K 1) := by
  obtain ⟨fd, F⟩ := T.t.def_ 28 (d := d_shown)
  refine ⟨_, fd, _, F.ok sc_shown (fun vs H Q E h => ?_) (fun cdv A outer s H vs Q E hr h => ?_), He.glo_ok T.X T.G (T.t.fact 6), F.kp, F.bindsN fun _ _ _ _ _ _ us hl => match us, hl with | [_, _], _ => rfl⟩
  · obtain ⟨v, us, rfl, hl, _⟩ := h
    show us.length + 1 = 1 + 1
    rw [hl]
  · obtain ⟨v, us, rfl, hl, hb, k⟩ := h
    obtain ⟨u0, rfl⟩ := List.length_eq_one_iff.mp hl
    refine ⟨_, (pss_cons (ps_expr (pe_cx (c_require_widthV T) hr (by decide) rfl (passes_call (takes_of rfl rfl rfl rfl) (fun _ _ _ _ h => h)) (pa_cons (pv 0) pa_nil)))
    (pss_cons (ps_never)
    (pss_cons (ps_never)
    (pss_cons (ps_never)
    (pss_cons (ps_never)
    (pss_one (ps_never))))))), ?_⟩
    exact ⟨_, rfl, v, [], rfl, rfl, hb, k⟩
theorem c_judgedV (T : Txt P w K mg base) : CalX (L2.CX P w) P w K mg base 2 "judged" (spWid K 2) := by
  obtain ⟨fd, F⟩ := T.t.def_ 30 (d := d_judged)
  refine ⟨_, fd, _, F.ok sc_judged (fun vs H Q E h => ?_) (fun cdv A outer s H vs Q E hr h => ?_), He.glo_ok T.X T.G (T.t.fact 8), F.kp, F.bindsN fun _ _ _ _ _ _ us hl => match us, hl with | [_, _, _], _ => rfl⟩
  · obtain ⟨v, us, rfl, hl, _⟩ := h
    show us.length + 1 = 2 + 1
    rw [hl]
  · obtain ⟨v, us, rfl, hl, hb, k⟩ := h
    obtain ⟨u0, u1, rfl⟩ : ∃ a b, us = [a, b] := by
      match us, hl with
      | [a, b], _ => exact ⟨a, b, rfl⟩
    refine ⟨_, (pss_cons (ps_expr (pe_cx (c_require_widthV T) hr (by decide) rfl (passes_call (takes_of rfl rfl rfl rfl) (fun _ _ _ _ h => h)) (pa_cons (pv 0) pa_nil)))
    (pss_cons (ps_never)
    (pss_cons (ps_never)
    (pss_one (ps_never))))), ?_⟩
    exact ⟨_, rfl, v, [], rfl, rfl, hb, k⟩
theorem c_leastV (T : Txt P w K mg base) : CalX (L2.CX P w) P w K mg base 2 "least" (spWid K 2) := by
  obtain ⟨fd, F⟩ := T.t.def_ 31 (d := d_least)
  refine ⟨_, fd, _, F.ok sc_least (fun vs H Q E h => ?_) (fun cdv A outer s H vs Q E hr h => ?_), He.glo_ok T.X T.G (T.t.fact 9), F.kp, F.bindsN fun _ _ _ _ _ _ us hl => match us, hl with | [_, _, _], _ => rfl⟩
  · obtain ⟨v, us, rfl, hl, _⟩ := h
    show us.length + 1 = 2 + 1
    rw [hl]
  · obtain ⟨v, us, rfl, hl, hb, k⟩ := h
    obtain ⟨u0, u1, rfl⟩ : ∃ a b, us = [a, b] := by
      match us, hl with
      | [a, b], _ => exact ⟨a, b, rfl⟩
    refine ⟨_, (pss_cons (ps_expr (pe_cx (c_require_widthV T) hr (by decide) rfl (passes_call (takes_of rfl rfl rfl rfl) (fun _ _ _ _ h => h)) (pa_cons (pv 0) pa_nil)))
    (pss_cons (ps_never)
    (pss_cons (ps_never)
    (pss_cons (ps_never)
    (pss_cons (ps_never)
    (pss_cons (ps_never)
    (pss_cons (ps_never)
    (pss_one (ps_never))))))))), ?_⟩
    exact ⟨_, rfl, v, [], rfl, rfl, hb, k⟩
theorem c_plan_ofV (T : Txt P w K mg base) : CalX (L2.CX P w) P w K mg base 2 "plan_of" (spWid K 1) := by
  obtain ⟨fd, F⟩ := T.t.def_ 32 (d := d_plan_of)
  refine ⟨_, fd, _, F.ok sc_plan_of (fun vs H Q E h => ?_) (fun cdv A outer s H vs Q E hr h => ?_), He.glo_ok T.X T.G (T.t.fact 10), F.kp, F.bindsN fun _ _ _ _ _ _ us hl => match us, hl with | [_, _], _ => rfl⟩
  · obtain ⟨v, us, rfl, hl, _⟩ := h
    show us.length + 1 = 1 + 1
    rw [hl]
  · obtain ⟨v, us, rfl, hl, hb, k⟩ := h
    obtain ⟨u0, rfl⟩ := List.length_eq_one_iff.mp hl
    refine ⟨_, (pss_cons (ps_expr (pe_cx (c_require_widthV T) hr (by decide) rfl (passes_call (takes_of rfl rfl rfl rfl) (fun _ _ _ _ h => h)) (pa_cons (pv 0) pa_nil)))
    (pss_cons (ps_never)
    (pss_cons (ps_never)
    (pss_cons (ps_never)
    (pss_one (ps_never)))))), ?_⟩
    exact ⟨_, rfl, v, [], rfl, rfl, hb, k⟩
theorem c_followsV (T : Txt P w K mg base) : CalX (L2.CX P w) P w K mg base 2 "follows" (spWid K 2) := by
  obtain ⟨fd, F⟩ := T.t.def_ 33 (d := d_follows)
  refine ⟨_, fd, _, F.ok sc_follows (fun vs H Q E h => ?_) (fun cdv A outer s H vs Q E hr h => ?_), He.glo_ok T.X T.G (T.t.fact 11), F.kp, F.bindsN fun _ _ _ _ _ _ us hl => match us, hl with | [_, _, _], _ => rfl⟩
  · obtain ⟨v, us, rfl, hl, _⟩ := h
    show us.length + 1 = 2 + 1
    rw [hl]
  · obtain ⟨v, us, rfl, hl, hb, k⟩ := h
    obtain ⟨u0, u1, rfl⟩ : ∃ a b, us = [a, b] := by
      match us, hl with
      | [a, b], _ => exact ⟨a, b, rfl⟩
    refine ⟨_, (pss_cons (ps_expr (pe_cx (c_require_widthV T) hr (by decide) rfl (passes_call (takes_of rfl rfl rfl rfl) (fun _ _ _ _ h => h)) (pa_cons (pv 0) pa_nil)))
    (pss_cons (ps_never)
    (pss_cons (ps_never)
    (pss_cons (ps_never)
    (pss_cons (ps_never)
    (pss_one (ps_never))))))), ?_⟩
    exact ⟨_, rfl, v, [], rfl, rfl, hb, k⟩
theorem c_playedV (T : Txt P w K mg base) : CalX (L2.CX P w) P w K mg base 2 "played" (spWid K 1) := by
  obtain ⟨fd, F⟩ := T.t.def_ 27 (d := d_played)
  refine ⟨_, fd, _, F.ok sc_played (fun vs H Q E h => ?_) (fun cdv A outer s H vs Q E hr h => ?_), He.glo_ok T.X T.G (T.t.fact 5), F.kp, F.bindsN fun _ _ _ _ _ _ us hl => match us, hl with | [_, _], _ => rfl⟩
  · obtain ⟨v, us, rfl, hl, _⟩ := h
    show us.length + 1 = 1 + 1
    rw [hl]
  · obtain ⟨v, us, rfl, hl, hb, k⟩ := h
    obtain ⟨u0, rfl⟩ := List.length_eq_one_iff.mp hl
    refine ⟨_, (pss_cons (ps_expr (pe_cx (c_require_widthV T) hr (by decide) rfl (passes_call (takes_of rfl rfl rfl rfl) (fun _ _ _ _ h => h)) (pa_cons (pv 0) pa_nil)))
    (pss_cons (ps_never)
    (pss_cons (ps_never)
    (pss_cons (ps_never)
    (pss_cons (ps_never)
    (pss_one (ps_never))))))), ?_⟩
    exact ⟨_, rfl, v, [], rfl, rfl, hb, k⟩
end
end B

set_option Elab.async false
set_option linter.all false
set_option maxRecDepth 100000
set_option maxHeartbeats 4000000
namespace B
open PySem PySem.Spec PyProof.Rows L2
open SX (S)
/-! ### numbers, kinds, bits that are none; walks that are over -/
section
variable {X : Cx}
theorem mk_BadNumber (T : Txt X.prog X.w X.K X.mg X.base) {m : Str} {j : Nat} {p p2 pos : Pos} (hg : Gl X "BadNumber" := by rfl) : PMk X (.Call (.Name "BadNumber" p) [.Constant (.str m) j p2] [] pos) (fun _ H Q => Q (.ref (He.ga X.K "BadNumber")) none H) := by
  obtain ⟨a, b, c, d⟩ := He.exc_ok (T.t.fact 107 (f := .exc "BadNumber"))
  exact pmk_own PySem.F.excBase_ValueError a (g_BadNumber T) b (raises_own c d) hg
theorem mk_BadKind (T : Txt X.prog X.w X.K X.mg X.base) {m : Str} {j : Nat} {p p2 pos : Pos} (hg : Gl X "BadKind" := by rfl) : PMk X (.Call (.Name "BadKind" p) [.Constant (.str m) j p2] [] pos) (fun _ H Q => Q (.ref (He.ga X.K "BadKind")) none H) := by
  obtain ⟨a, b, c, d⟩ := He.exc_ok (T.t.fact 108 (f := .exc "BadKind"))
  exact pmk_own PySem.F.excBase_ValueError a (g_BadKind T) b (raises_own c d) hg
theorem mk_BadBit (T : Txt X.prog X.w X.K X.mg X.base) {m : Str} {j : Nat} {p p2 pos : Pos} (hg : Gl X "BadBit" := by rfl) : PMk X (.Call (.Name "BadBit" p) [.Constant (.str m) j p2] [] pos) (fun _ H Q => Q (.ref (He.ga X.K "BadBit")) none H) := by
  obtain ⟨a, b, c, d⟩ := He.exc_ok (T.t.fact 109 (f := .exc "BadBit"))
  exact pmk_own PySem.F.excBase_ValueError a (g_BadBit T) b (raises_own c d) hg
end
/-- a text or a whole number -/
def OddV (v : V) : Prop := (∃ x : Str, v = .str x ∧ x.length ≤ 1000000) ∨ ∃ i : Int, v = .int i
def bits01 (x : Str) : Bool := x.cps.toList.all (fun c => decide (c ∈ ("01" : Str).cps.toList))
def numV (W : Nat) : V → Bool
  | .str x => decide (x.length = W) && bits01 x
  | _ => false
section
variable {P : Program} {w : World} {K : PySem.W.Frag} {mg : Str → Option Value} {base : Heap}
theorem num_genW : pd_is_number ∈ gens := by decide +kernel
def spIsNumW (K : PySem.W.Frag) : Sp := fun vs H Q _ => ∃ (W : Nat) (v : V), vs = [.int W, v] ∧ OddV v ∧ Tb K H ∧ ∀ H', FrT K [] H H' → Q (.bl (numV W v)) H'
theorem c_isnumW (T : Txt P w K mg base) : CalX CX0 P w K mg base 1 "is_number" (spIsNumW K) := by
  obtain ⟨fd, F⟩ := T.t.def_ 2 (d := d_is_number)
  refine ⟨_, fd, _, okT (p := pd_is_number) F sc_is_number (fun vs H Q E h => ?_) (fun A outer s H vs Q E hr h => ?_), He.glo_ok T.X T.G (T.t.fact 2), F.kp, F.bindsN fun _ _ _ _ _ _ us hl => match us, hl with | [_, _], _ => rfl⟩
  · obtain ⟨n, x, rfl, _⟩ := h
    rfl
  · obtain ⟨W, v, rfl, ho, ht, k⟩ := h
    refine ⟨_, PSs.nox (pss_cons (ps_if (PW.pt (pw_or (pt_not (pt_val (pe_callB call_isi (by rfl) (n_isinstance T) (by decide +kernel) (pa_cons (pv 1) (pa_cons (pe_bltn (v := .ty "str") (u := .type "str") rfl (n_str T) (by decide +kernel) rfl) pa_nil))))) (pw_or1 (pt_cmpR op_ne (pe_callB call_len_str (by rfl) (n_len T) PySem.boot_len (pa_cons (pv 1) pa_nil)) (pv 0) (nomark _)))))
      (pss_one (ps_ret pe_bl))
      pss_nil)
    (pss_one (ps_ret (GxR.pe_allS hr rfl (n_all T) (by decide +kernel) (tb_g T (p := pd_is_number) (by decide +kernel)) rfl (gens_by (by decide +kernel)) (pv 1) (elt_in rfl rfl) (fun _ => rfl))))), ?_⟩
    rcases ho with ⟨x, rfl, hn⟩ | ⟨i, rfl⟩
    · refine ⟨_, rfl, .str x, .ty "str", .type "str", .type "str", true, rfl, .ty "str", .base (.str x), kit_ty (by decide +kernel), true, rfl, ?_⟩
      refine ⟨_, rfl, x, rfl, Nat.le_trans hn (by decide), _, rfl, rfl, _, rfl, ?_⟩
      have k : ∀ H', FrT K [] H H' → Q (.bl (decide (x.length = W) && bits01 x)) H' := k
      by_cases e : x.length = W
      · rw [int_dec, decide_eq_true (show (x.length : Int) = (W : Int) by omega)]
        refine ⟨_, rfl, x, rfl, ht.1 _ num_genW, fun H2 hT => ?_⟩
        rw [decide_eq_true e] at k
        exact k H2 (tb_gen T num_genW ht hT).1
      · rw [int_dec, decide_eq_false (show ¬ (x.length : Int) = (W : Int) by omega)]
        rw [decide_eq_false e] at k
        exact k H (FrT.refl _ _ _)
    · refine ⟨_, rfl, .int i, .ty "str", .type "int", .type "str", false, rfl, .ty "str", .base (.int i), kit_ty (by decide +kernel), false, rfl, ?_⟩
      exact k H (FrT.refl _ _ _)
def BadE (K : PySem.W.Frag) (c : Str) (H : Hp) (E : XK) : Prop := ∀ H', FrT K [] H H' → E (.ref (He.ga K c)) none H'
def spReqNumW (K : PySem.W.Frag) : Sp := fun vs H Q E => ∃ (W : Nat) (v : V), vs = [.int W, v] ∧ OddV v ∧ Tb K H ∧ (numV W v = true → ∀ H', FrT K [] H H' → Q .non H') ∧ (numV W v = false → BadE K "BadNumber" H E)
theorem c_require_numberW (T : Txt P w K mg base) : CalX (L2.CX P w) P w K mg base 2 "require_number" (spReqNumW K) := by
  obtain ⟨fd, F⟩ := T.t.def_ 1 (d := d_require_number)
  refine ⟨_, fd, _, F.ok sc_require_number (fun vs H Q E h => ?_) (fun cdv A outer s H vs Q E hr h => ?_), He.glo_ok T.X T.G (T.t.fact 1), F.kp, F.bindsN fun _ _ _ _ _ _ us hl => match us, hl with | [_, _], _ => rfl⟩
  · obtain ⟨W, x, rfl, _⟩ := h
    rfl
  · obtain ⟨W, v, rfl, ho, ht, k1, k2⟩ := h
    refine ⟨_, (pss_one (ps_if (pt_not (pt_val (pe_cx (c_isnumW T) hr (by decide) rfl pass0 (pa_cons (pv 0) (pa_cons (pv 1) pa_nil)))))
      (pss_one (ps_raise rfl (takes_of rfl rfl rfl rfl) (mk_BadNumber T)))
      pss_nil)), ?_⟩
    refine ⟨_, rfl, _, rfl, W, v, rfl, ho, ht, fun H1 f1 => ⟨_, rfl, ?_⟩⟩
    cases c : numV W v with
    | true => exact k1 c H1 f1
    | false => exact k2 c H1 f1
def spNumW (K : PySem.W.Frag) : Sp := fun vs H _ E => ∃ (pw dh dl : Addr) (v : V) (W : Nat) (kvs : List (Str × Bool)) (lw : List Str) (ms lk : Int), vs = [.ref pw, v] ∧ WiAt K H pw dh dl W kvs lw ms lk ∧ OddV v ∧ numV W v = false ∧ Tb K H ∧ BadE K "BadNumber" H E
theorem m_Wire__require_hangingW (T : Txt P w K mg base) : MetX (L2.CX P w) P w K mg base 3 (WC K) "_require_hanging" (spNumW K) := by
  obtain ⟨fd, F⟩ := T.t.def_ 16 (d := d_Wire__require_hanging)
  refine ⟨_, fd, _, wcl T, He.meth_ok (T.t.fact 88 (f := .meth "Wire" "_require_hanging")), F.ok sc_Wire__require_hanging (fun vs H Q E h => ?_) (fun cdv A outer s H vs Q E hr h => ?_), F.bindsN fun _ _ _ _ _ _ us hl => match us, hl with | [_, _], _ => rfl⟩
  · obtain ⟨pw, dh, dl, v, W, kvs, lw, ms, lk, rfl, _⟩ := h
    rfl
  · obtain ⟨pw, dh, dl, v, W, kvs, lw, ms, lk, rfl, ⟨⟨dx, h1⟩, h2, h3⟩, ho, hn, ht, k⟩ := h
    have hu := hu_of hr
    refine ⟨_, (pss_cons (ps_expr (pe_cx (c_require_numberW T) hr (by decide) rfl (passes_call (takes_of rfl rfl rfl rfl) (fun _ _ _ _ h => h)) (pa_cons (pe_fld (pv 0) (by rfl)) (pa_cons (pv 1) pa_nil))))
    (pss_one (ps_never))), ?_⟩
    exact ⟨_, rfl, pw, _, dx, _, _, rfl, h1, wcl T, wn_width T, wl_width, _, rfl, W, v, rfl, ho, ht, (fun c => by rw [hn] at c; cases c), fun _ => k⟩
theorem m_Wire_hangW (T : Txt P w K mg base) : MetX (L2.CX P w) P w K mg base 3 (WC K) "hang" (spNumW K) := by
  obtain ⟨fd, F⟩ := T.t.def_ 6 (d := d_Wire_hang)
  refine ⟨_, fd, _, wcl T, He.meth_ok (T.t.fact 78 (f := .meth "Wire" "hang")), F.ok sc_Wire_hang (fun vs H Q E h => ?_) (fun cdv A outer s H vs Q E hr h => ?_), F.bindsN fun _ _ _ _ _ _ us hl => match us, hl with | [_, _], _ => rfl⟩
  · obtain ⟨pw, dh, dl, v, W, kvs, lw, ms, lk, rfl, _⟩ := h
    rfl
  · obtain ⟨pw, dh, dl, v, W, kvs, lw, ms, lk, rfl, ⟨⟨dx, h1⟩, h2, h3⟩, ho, hn, ht, k⟩ := h
    have hu := hu_of hr
    refine ⟨_, (pss_cons (ps_expr (pe_cx (c_require_numberW T) hr (by decide) rfl (passes_call (takes_of rfl rfl rfl rfl) (fun _ _ _ _ h => h)) (pa_cons (pe_fld (pv 0) (by rfl)) (pa_cons (pv 1) pa_nil))))
    (pss_cons (ps_never)
    (pss_one (ps_never)))), ?_⟩
    exact ⟨_, rfl, pw, _, dx, _, _, rfl, h1, wcl T, wn_width T, wl_width, _, rfl, W, v, rfl, ho, ht, (fun c => by rw [hn] at c; cases c), fun _ => k⟩
theorem m_Wire_offW (T : Txt P w K mg base) : MetX (L2.CX P w) P w K mg base 4 (WC K) "off" (spNumW K) := by
  obtain ⟨fd, F⟩ := T.t.def_ 7 (d := d_Wire_off)
  refine ⟨_, fd, _, wcl T, He.meth_ok (T.t.fact 79 (f := .meth "Wire" "off")), F.ok sc_Wire_off (fun vs H Q E h => ?_) (fun cdv A outer s H vs Q E hr h => ?_), F.bindsN fun _ _ _ _ _ _ us hl => match us, hl with | [_, _], _ => rfl⟩
  · obtain ⟨pw, dh, dl, v, W, kvs, lw, ms, lk, rfl, _⟩ := h
    rfl
  · obtain ⟨pw, dh, dl, v, W, kvs, lw, ms, lk, rfl, wa, r⟩ := h
    obtain ⟨⟨dx, h1⟩, h2, h3⟩ := id wa
    have hu := hu_of hr
    refine ⟨_, (pss_cons (ps_expr (pe_mx (m_Wire__require_hangingW T) hr (by decide) (pv 0) (passes_call (takes_of rfl rfl rfl rfl) (fun _ _ _ _ h => h)) (pa_cons (pv 1) pa_nil)))
    (pss_cons (ps_never)
    (pss_one (ps_never)))), ?_⟩
    exact ⟨_, rfl, pw, dx, _, rfl, h1, wx_reqh, _, rfl, pw, dh, dl, v, W, kvs, lw, ms, lk, rfl, wa, r⟩
theorem m_Wire_alarmW (T : Txt P w K mg base) : MetX (L2.CX P w) P w K mg base 4 (WC K) "alarm" (spNumW K) := by
  obtain ⟨fd, F⟩ := T.t.def_ 8 (d := d_Wire_alarm)
  refine ⟨_, fd, _, wcl T, He.meth_ok (T.t.fact 80 (f := .meth "Wire" "alarm")), F.ok sc_Wire_alarm (fun vs H Q E h => ?_) (fun cdv A outer s H vs Q E hr h => ?_), F.bindsN fun _ _ _ _ _ _ us hl => match us, hl with | [_, _], _ => rfl⟩
  · obtain ⟨pw, dh, dl, v, W, kvs, lw, ms, lk, rfl, _⟩ := h
    rfl
  · obtain ⟨pw, dh, dl, v, W, kvs, lw, ms, lk, rfl, wa, r⟩ := h
    obtain ⟨⟨dx, h1⟩, h2, h3⟩ := id wa
    have hu := hu_of hr
    refine ⟨_, (pss_cons (ps_expr (pe_mx (m_Wire__require_hangingW T) hr (by decide) (pv 0) (passes_call (takes_of rfl rfl rfl rfl) (fun _ _ _ _ h => h)) (pa_cons (pv 1) pa_nil)))
    (pss_one (ps_never))), ?_⟩
    exact ⟨_, rfl, pw, dx, _, rfl, h1, wx_reqh, _, rfl, pw, dh, dl, v, W, kvs, lw, ms, lk, rfl, wa, r⟩
theorem m_Wire_calmW (T : Txt P w K mg base) : MetX (L2.CX P w) P w K mg base 4 (WC K) "calm" (spNumW K) := by
  obtain ⟨fd, F⟩ := T.t.def_ 9 (d := d_Wire_calm)
  refine ⟨_, fd, _, wcl T, He.meth_ok (T.t.fact 81 (f := .meth "Wire" "calm")), F.ok sc_Wire_calm (fun vs H Q E h => ?_) (fun cdv A outer s H vs Q E hr h => ?_), F.bindsN fun _ _ _ _ _ _ us hl => match us, hl with | [_, _], _ => rfl⟩
  · obtain ⟨pw, dh, dl, v, W, kvs, lw, ms, lk, rfl, _⟩ := h
    rfl
  · obtain ⟨pw, dh, dl, v, W, kvs, lw, ms, lk, rfl, wa, r⟩ := h
    obtain ⟨⟨dx, h1⟩, h2, h3⟩ := id wa
    have hu := hu_of hr
    refine ⟨_, (pss_cons (ps_expr (pe_mx (m_Wire__require_hangingW T) hr (by decide) (pv 0) (passes_call (takes_of rfl rfl rfl rfl) (fun _ _ _ _ h => h)) (pa_cons (pv 1) pa_nil)))
    (pss_one (ps_never))), ?_⟩
    exact ⟨_, rfl, pw, dx, _, rfl, h1, wx_reqh, _, rfl, pw, dh, dl, v, W, kvs, lw, ms, lk, rfl, wa, r⟩
/-- numbers, then something that is none -/
def spMetW (K : PySem.W.Frag) : Sp := fun vs H _ E => ∃ (W : Nat) (p : Addr) (xs : List Str) (v : V) (ys : List V), vs = [.int W, .ref p] ∧ H p = some (.lst (xs.map V.str ++ v :: ys)) ∧ (∀ x ∈ xs, x.length ≤ 1000000 ∧ numV W (.str x) = true) ∧ OddV v ∧ numV W v = false ∧ 1 ≤ W ∧ W ≤ 12 ∧ Tb K H ∧ BadE K "BadNumber" H E
theorem c_metW (T : Txt P w K mg base) : CalX (L2.CX P w) P w K mg base 3 "met" (spMetW K) := by
  obtain ⟨fd, F⟩ := T.t.def_ 3 (d := d_met)
  refine ⟨_, fd, _, F.ok sc_met (fun vs H Q E h => ?_) (fun cdv A outer s H vs Q E hr h => ?_), He.glo_ok T.X T.G (T.t.fact 3), F.kp, F.bindsN fun _ _ _ _ _ _ us hl => match us, hl with | [_, _], _ => rfl⟩
  · obtain ⟨W, p, xs, v, ys, rfl, _⟩ := h
    rfl
  · obtain ⟨W, p, xs, v, ys, rfl, hp, hx, ho, hn, w1, w2, ht, k⟩ := h
    have hu := hu_of hr
    refine ⟨_, (pss_cons (ps_expr (pe_cx (c_require_width T) hr (by decide) rfl pass0 (pa_cons (pv 0) pa_nil)))
    (pss_cons (ps_for (passes_of rfl) rfl (pi_list (pv 1)) (pg_name (i := 2) sc_met.nd rfl (Or.inl rfl))
      (pss_one (ps_expr (pe_cx (c_require_numberW T) hr (by decide) rfl (passes_call (takes_of rfl rfl rfl rfl) (fun _ _ _ _ h => h)) (pa_cons (pv 0) (pa_cons (pv 2) pa_nil))))))
    (pss_cons (ps_never)
    (pss_one (ps_never))))), ?_⟩
    refine ⟨_, rfl, W, rfl, w1, w2, ?_⟩
    refine ⟨_, rfl, p, rfl, ⟨_, SqL.of hp⟩, for_list (K := K) (a := p) (xs := xs.map V.str ++ v :: ys) (fun i σ H' => i ≤ xs.length ∧ ∃ v2 : Option V, σ = [some (.int W), some (.ref p), v2, none, none, none] ∧ H' p = some (.lst (xs.map V.str ++ v :: ys)) ∧ FrT K [] H H')
      ⟨Nat.zero_le _, _, rfl, hp, FrT.refl _ _ _⟩ (fun i σ H' _ ⟨_, _, _, e, _⟩ => SqL.of e) ?_ ?_⟩
    · rintro i y σ H1 hi ⟨hle, v2, rfl, hp1, f1⟩
      by_cases e : i < xs.length
      · rw [List.getElem?_append_left (by rw [List.length_map]; exact e)] at hi
        obtain ⟨x, hx1, rfl⟩ := at_map hi
        obtain ⟨n1, n2⟩ := hx x (List.mem_of_getElem? hx1)
        exact ⟨_, rfl, _, rfl, W, .str x, rfl, .inl ⟨x, rfl, n1⟩, f1.t ht, fun _ H2 f2 => ⟨by omega, _, rfl, f2.k _ _ hp1 rfl (by simp), f1.trans f2⟩, fun c => by rw [n2] at c; cases c⟩
      · obtain rfl : i = xs.length := by omega
        rw [List.getElem?_append_right (by rw [List.length_map]; omega), List.length_map, Nat.sub_self] at hi
        obtain rfl : v = y := Option.some.inj hi
        exact ⟨_, rfl, _, rfl, W, v, rfl, ho, f1.t ht, (fun c => by rw [hn] at c; cases c), fun _ H2 f2 => k H2 (f1.trans f2)⟩
    · rintro σ H1 ⟨hle, _⟩
      rw [List.length_append, List.length_map, List.length_cons] at hle
      omega
theorem c_fewestW (T : Txt P w K mg base) : CalX (L2.CX P w) P w K mg base 4 "fewest" (spMetW K) := by
  obtain ⟨fd, F⟩ := T.t.def_ 29 (d := d_fewest)
  refine ⟨_, fd, _, F.ok sc_fewest (fun vs H Q E h => ?_) (fun cdv A outer s H vs Q E hr h => ?_), He.glo_ok T.X T.G (T.t.fact 7), F.kp, F.bindsN fun _ _ _ _ _ _ us hl => match us, hl with | [_, _], _ => rfl⟩
  · obtain ⟨W, p, xs, v, ys, rfl, _⟩ := h
    rfl
  · obtain ⟨W, p, xs, v, ys, rfl, r⟩ := h
    refine ⟨_, (pss_cons (ps_set (i := 2) sc_fewest.nd rfl (Or.inl rfl) (pe_cx (c_metW T) hr (by decide) rfl (passes_call (takes_of rfl rfl rfl rfl) (fun _ _ _ _ h => h)) (pa_cons (pv 0) (pa_cons (pv 1) pa_nil))))
    (pss_cons (ps_never)
    (pss_one (ps_never)))), ?_⟩
    exact ⟨_, rfl, _, rfl, W, p, xs, v, ys, rfl, r⟩
/-! ### a wire of no width; kinds -/
theorem c_initV (T : Txt P w K mg base) : MakX (L2.CX P w) P w K mg base 2 "Wire" (WC K) (fun vs H _ E => ∃ (u v : V), vs = [u, v] ∧ BadW v ∧ E (.ref (He.ga K "BadWidth")) none H) := by
  obtain ⟨fd, F⟩ := T.t.def_ 5 (d := d_Wire_init)
  refine ⟨_, fd, _, He.mkr_ok (T.t.fact 72 (f := .mkr "Wire")), F.ok sc_Wire_init (fun vs H Q E h => ?_) (fun cdv A outer s H vs Q E hr h => ?_), g_Wire T, F.bindsN fun _ _ _ _ _ _ us hl => match us, hl with | [_, _], _ => rfl⟩
  · obtain ⟨u, v, rfl, _⟩ := h
    rfl
  · obtain ⟨u, v, rfl, hb, k⟩ := h
    refine ⟨_, (pss_cons (ps_expr (pe_cx (c_require_widthV T) hr (by decide) rfl (passes_call (takes_of rfl rfl rfl rfl) (fun _ _ _ _ h => h)) (pa_cons (pv 1) pa_nil)))
    (pss_cons (ps_never)
    (pss_cons (ps_never)
    (pss_cons (ps_never)
    (pss_cons (ps_never)
    (pss_one (ps_never))))))), ?_⟩
    exact ⟨_, rfl, v, [], rfl, rfl, hb, k⟩
def spKindB (K : PySem.W.Frag) (n : Nat) : Sp := fun vs H _ E => ∃ (us : List V) (x : Str), vs = us ++ [.str x] ∧ us.length = n ∧ x ≠ "all" ∧ x ≠ "alarm" ∧ E (.ref (He.ga K "BadKind")) none H
theorem c_require_kindV (T : Txt P w K mg base) : CalX (L2.CX P w) P w K mg base 1 "require_kind" (spKindB K 0) := by
  obtain ⟨fd, F⟩ := T.t.def_ 4 (d := d_require_kind)
  refine ⟨_, fd, _, F.ok sc_require_kind (fun vs H Q E h => ?_) (fun cdv A outer s H vs Q E hr h => ?_), He.glo_ok T.X T.G (T.t.fact 4), F.kp, F.bindsN fun _ _ _ _ _ _ us hl => match us, hl with | [_], _ => rfl⟩
  · obtain ⟨us, x, rfl, hl, _⟩ := h
    show (us ++ [_]).length = 1
    rw [List.length_append, hl]
    rfl
  · obtain ⟨us, x, rfl, hl, n1, n2, k⟩ := h
    obtain rfl : us = [] := List.length_eq_zero_iff.mp hl
    refine ⟨_, (pss_one (ps_if (pt_cmpR op_notIn_seq (pv 0) (g_KINDS T) rfl)
      (pss_one (ps_raise rfl (takes_of rfl rfl rfl rfl) (mk_BadKind T)))
      pss_nil)), ?_⟩
    refine ⟨_, rfl, _, _, rfl, .inr (tup_K (xc_KINDS T) (by show 2 ≤ sizeLine; decide) H), rfl, rfl, _, rfl, ?_⟩
    have e : inV (.str x) [V.str "all", V.str "alarm"] = false := by
      unfold inV
      rw [List.any_cons, List.any_cons, List.any_nil]
      simp [eqV, Ne.symm n1, Ne.symm n2]
    rw [e]
    exact k
end
end B

set_option Elab.async false
set_option linter.all false
set_option maxRecDepth 100000
set_option maxHeartbeats 4000000
namespace B
open PySem PySem.Spec PyProof.Rows L2
open SX (S)
/-! ### rounds of no kind, bits that are none, walks that are over -/
section
variable {P : Program} {w : World} {K : PySem.W.Frag} {mg : Str → Option Value} {base : Heap}
theorem m_Wire_beginV (T : Txt P w K mg base) : MetX (L2.CX P w) P w K mg base 2 (WC K) "begin" (spKindB K 1) := by
  obtain ⟨fd, F⟩ := T.t.def_ 12 (d := d_Wire_begin)
  refine ⟨_, fd, _, wcl T, He.meth_ok (T.t.fact 84 (f := .meth "Wire" "begin")), F.ok sc_Wire_begin (fun vs H Q E h => ?_) (fun cdv A outer s H vs Q E hr h => ?_), F.bindsN fun _ _ _ _ _ _ us hl => match us, hl with | [_, _], _ => rfl⟩
  · obtain ⟨us, x, rfl, hl, _⟩ := h
    rw [List.length_append, hl]
    rfl
  · obtain ⟨us, x, rfl, hl, r⟩ := h
    obtain ⟨u, rfl⟩ := List.length_eq_one_iff.mp hl
    refine ⟨_, (pss_cons (ps_expr (pe_cx (c_require_kindV T) hr (by decide) rfl (passes_call (takes_of rfl rfl rfl rfl) (fun _ _ _ _ h => h)) (pa_cons (pv 1) pa_nil)))
    (pss_cons (ps_never)
    (pss_one (ps_never)))), ?_⟩
    exact ⟨_, rfl, [], x, rfl, rfl, r⟩
theorem k_WalkV (T : Txt P w K mg base) : MakX (L2.CX P w) P w K mg base 2 "Walk" (VC K) (spKindB K 2) := by
  obtain ⟨fd, F⟩ := T.t.def_ 18 (d := d_Walk_init)
  refine ⟨_, fd, _, He.mkr_ok (T.t.fact 91 (f := .mkr "Walk")), F.ok sc_Walk_init (fun vs H Q E h => ?_) (fun cdv A outer s H vs Q E hr h => ?_), g_Walk T, F.bindsN fun _ _ _ _ _ _ us hl => match us, hl with | [_, _, _], _ => rfl⟩
  · obtain ⟨us, x, rfl, hl, _⟩ := h
    rw [List.length_append, hl]
    rfl
  · obtain ⟨us, x, rfl, hl, r⟩ := h
    obtain ⟨u1, u2, rfl⟩ : ∃ a b, us = [a, b] := by
      match us, hl with
      | [a, b], _ => exact ⟨a, b, rfl⟩
    refine ⟨_, (pss_cons (ps_expr (pe_cx (c_require_kindV T) hr (by decide) rfl (passes_call (takes_of rfl rfl rfl rfl) (fun _ _ _ _ h => h)) (pa_cons (pv 2) pa_nil)))
    (pss_cons (ps_never)
    (pss_cons (ps_never)
    (pss_cons (ps_never)
    (pss_cons (ps_never)
    (pss_cons (ps_never)
    (pss_one (ps_never)))))))), ?_⟩
    exact ⟨_, rfl, [], x, rfl, rfl, r⟩
/-- no bit -/
def BadB : V → Prop
  | .int b => b ≠ 0 ∧ b ≠ 1
  | .bl _ => True
  | _ => False
def spSayV (K : PySem.W.Frag) : Sp := fun vs H _ E => ∃ (pw dh dl : Addr) (v : V) (W : Nat) (kvs : List (Str × Bool)) (lw : List Str) (ms lk : Int), vs = [.ref pw, v] ∧ WiAt K H pw dh dl W kvs lw ms lk ∧ (ms = W → E (.ref (He.ga K "NoRound")) none H) ∧ (ms ≠ W → BadB v ∧ BadE K "BadBit" H E)
theorem m_Wire_sayV (T : Txt P w K mg base) : MetX (L2.CX P w) P w K mg base 2 (WC K) "say" (spSayV K) := by
  obtain ⟨fd, F⟩ := T.t.def_ 14 (d := d_Wire_say)
  refine ⟨_, fd, _, wcl T, He.meth_ok (T.t.fact 86 (f := .meth "Wire" "say")), F.ok sc_Wire_say (fun vs H Q E h => ?_) (fun cdv A outer s H vs Q E hr h => ?_), F.bindsN fun _ _ _ _ _ _ us hl => match us, hl with | [_, _], _ => rfl⟩
  · obtain ⟨pw, dh, dl, v, W, kvs, lw, ms, lk, rfl, _⟩ := h
    rfl
  · obtain ⟨pw, dh, dl, v, W, kvs, lw, ms, lk, rfl, wa, k1, k2⟩ := h
    obtain ⟨⟨dx, h1⟩, h2, h3⟩ := id wa
    refine ⟨_, (pss_cons (ps_expr (pe_mx0 (m_Wire__require_round T) hr (by decide) (pv 0) (passes_call (takes_of rfl rfl rfl rfl) (fun _ _ _ _ h => h))))
    (pss_cons (ps_if (PW.pt (pw_or (pt_val (pe_callB call_isi (by rfl) (n_isinstance T) (by decide +kernel) (pa_cons (pv 1) (pa_cons (pe_bltn (v := .ty "bool") (u := .type "bool") rfl (n_bool T) (by decide +kernel) rfl) pa_nil)))) (pw_or1 (pt_cmpR op_notIn_seq (pv 1) (pe_tup (pa_cons pe_int (pa_cons pe_int pa_nil))) rfl))))
      (pss_one (ps_raise rfl (takes_of rfl rfl rfl rfl) (mk_BadBit T)))
      pss_nil)
    (pss_cons (ps_never)
    (pss_cons (ps_never)
    (pss_one (ps_never)))))), ?_⟩
    refine ⟨_, rfl, pw, dx, _, rfl, h1, wx_reqr, pw, dh, dl, W, kvs, lw, ms, lk, rfl, wa, k1, fun hne => ?_⟩
    obtain ⟨hb, k⟩ := k2 hne
    cases v with
    | int b =>
      refine ⟨_, rfl, .int b, .ty "bool", .type "int", .type "bool", false, rfl, .ty "bool", .base (.int b), kit_ty (by decide +kernel), false, rfl, ?_⟩
      refine ⟨_, rfl, by show 2 ≤ sizeLine; decide, fun t ht => ?_⟩
      have i1 : inV (.int b) [V.int 0, V.int 1] = false := by
        unfold inV
        rw [List.any_cons, List.any_cons, List.any_nil]
        simp [eqV, Ne.symm hb.1, Ne.symm hb.2]
      refine ⟨t, _, rfl, .inr (SqT.of upd_same), rfl, rfl, _, rfl, ?_⟩
      rw [i1]
      exact k _ ((Frm.of (same_upd ht)).toT .nil)
    | bl b =>
      refine ⟨_, rfl, .bl b, .ty "bool", .type "bool", .type "bool", true, rfl, .ty "bool", .base (.bl b), kit_ty (by decide +kernel), true, rfl, ?_⟩
      exact k H (FrT.refl _ _ _)
    | _ => exact hb.elim
def spVRoundB (K : PySem.W.Frag) : Sp := fun vs H _ E => ∃ (qk pw qr qf qp dh dl : Addr) (W : Nat) (kvs : List (Str × Bool)) (lm : List Str) (sdm : Option (List Nat)) (lk : Int) (st : WkS) (n : Nat), vs = [.ref qk] ∧ VkOk K H qk pw qr qf qp dh dl W kvs lm sdm lk st n ∧ n ≤ 900000 ∧ st.sd = none ∧ st.rest = [] ∧ E (.ref (He.ga K "Over")) none H
theorem m_Walk_go_roundB (T : Txt P w K mg base) : MetX (L2.CX P w) P w K mg base 6 (VC K) "go_round" (spVRoundB K) := by
  obtain ⟨fd, F⟩ := T.t.def_ 20 (d := d_Walk_go_round)
  refine ⟨_, fd, _, vcl T, He.meth_ok (T.t.fact 99 (f := .meth "Walk" "go_round")), F.ok sc_Walk_go_round (fun vs H Q E h => ?_) (fun cdv A outer s H vs Q E hr h => ?_), F.bindsN fun _ _ _ _ _ _ us hl => match us, hl with | [_], _ => rfl⟩
  · obtain ⟨qk, pw, qr, qf, qp, dh, dl, W, kvs, lm, sdm, lk, st, n, rfl, _⟩ := h
    rfl
  · obtain ⟨qk, pw, qr, qf, qp, dh, dl, W, kvs, lm, sdm, lk, st, n, rfl, ok, hn, s1, s2, k⟩ := h
    refine ⟨_, (pss_cons (ps_set (i := 1) sc_Walk_go_round.nd rfl (Or.inl rfl) (pe_mx0 (m_Walk_step T) hr (by decide) (pv 0) (passes_call (takes_of rfl rfl rfl rfl) (fun _ _ _ _ h => h))))
    (pss_cons (ps_while (passes_of rfl) (pt_cmpR op_isN (pv 1) pe_non (nomark _))
      (pss_one (ps_set (i := 1) sc_Walk_go_round.nd rfl (Or.inl rfl) (pe_mx0 (m_Walk_step T) hr (by decide) (pv 0) (passes_call (takes_of rfl rfl rfl rfl) (fun _ _ _ _ h => h))))))
    (pss_one (ps_ret (pv 1))))), ?_⟩
    obtain ⟨lw, wa, pm⟩ := id ok.wa
    obtain ⟨⟨dx, o1⟩, _⟩ := id ok.wk
    have hl := ok.ok.len
    have hlm := ok.ok.lm
    refine ⟨_, rfl, qk, dx, _, rfl, o1, vx_step, qk, pw, qr, qf, qp, dh, dl, W, kvs, lw, _, lk, st, rfl, ok.wk, wa, ok.nl, ok.kd, ok.w, ok.kl, ok.nd, ok.num, by rw [pm.length_eq]; exact hlm, by omega, by omega, by omega, ok.ok.rest, fun l e => (by rw [s1] at e; cases e), fun _ _ => k, fun z => absurd s2 (z s1)⟩
end
end B

set_option Elab.async false
set_option linter.all false
set_option maxRecDepth 100000
set_option maxHeartbeats 4000000
namespace B
open PySem PySem.Spec PyProof.Rows L2
open SX (S)
/-! ### the words; lambdas that ask with no width -/
section
variable {P : Program} {w : World} {K : PySem.W.Frag} {mg : Str → Option Value} {base : Heap}
theorem word_BadWidth (T : Txt P w K mg base) : WordC K (.ref (He.ga K "BadWidth")) 0 "width" := by
  obtain ⟨a, b, c, d⟩ := He.exc_ok (T.t.fact 106 (f := .exc "BadWidth"))
  exact word_of T (by decide) (by assumption) (He.exm_ok (T.t.fact 114)) (by decide) rfl rfl ⟨by decide +kernel, by decide +kernel⟩
theorem word_BadNumber (T : Txt P w K mg base) : WordC K (.ref (He.ga K "BadNumber")) 1 "number" := by
  obtain ⟨a, b, c, d⟩ := He.exc_ok (T.t.fact 107 (f := .exc "BadNumber"))
  exact word_of T (by decide) (by assumption) (He.exm_ok (T.t.fact 115)) (by decide) rfl rfl ⟨by decide +kernel, by decide +kernel⟩
theorem word_BadKind (T : Txt P w K mg base) : WordC K (.ref (He.ga K "BadKind")) 2 "kind" := by
  obtain ⟨a, b, c, d⟩ := He.exc_ok (T.t.fact 108 (f := .exc "BadKind"))
  exact word_of T (by decide) (by assumption) (He.exm_ok (T.t.fact 116)) (by decide) rfl rfl ⟨by decide +kernel, by decide +kernel⟩
theorem word_BadBit (T : Txt P w K mg base) : WordC K (.ref (He.ga K "BadBit")) 3 "bit" := by
  obtain ⟨a, b, c, d⟩ := He.exc_ok (T.t.fact 109 (f := .exc "BadBit"))
  exact word_of T (by decide) (by assumption) (He.exm_ok (T.t.fact 117)) (by decide) rfl rfl ⟨by decide +kernel, by decide +kernel⟩
theorem word_Over (T : Txt P w K mg base) : WordC K (.ref (He.ga K "Over")) 7 "over" := by
  obtain ⟨a, b, c, d⟩ := He.exc_ok (T.t.fact 113 (f := .exc "Over"))
  exact word_of T (by decide) (by assumption) (He.exm_ok (T.t.fact 121)) (by decide) rfl rfl ⟨by decide +kernel, by decide +kernel⟩
theorem lam_lwide : (pd_lwide, ("_law_wide.<locals>.<lambda>" : Str)) ∈ lams := by decide +kernel
/-- the lambda at f of the def at X, whose first name is v, lets an exception of cls out -/
def PreC (K : PySem.W.Frag) (X : Cx) (cls : Value) (v : V) (f : Addr) (H : Hp) : Prop := ∃ t : XK → TE, LamD X 7 f H t ∧ ∀ (σ : L2.St) (H' : Hp) (E : XK) (Q : VK), σ[0]? = some (some v) → (∀ H2, FrT K [] H' H2 → E cls none H2) → t E σ H' Q
theorem PreC.keepT {X : Cx} {cls : Value} {v : V} {f : Addr} {H H' : Hp} (h : PreC K X cls v f H) (g : FrT K [] H H') : PreC K X cls v f H' := by
  obtain ⟨t, d, r⟩ := h
  exact ⟨t, d.mono (fun b o e => g.k b _ e rfl (by simp)) (fun c q e => g.k c _ e rfl (by simp)), r⟩
@[elab_as_elim] theorem newc_go {H : Hp} {p : Addr} {o : HO} {G : Hp → Prop} (h : H p = none) (k : ∀ H', Frm [] H H' → H' p = some o → G H') : G (upd H p o) := k _ (Frm.of (same_upd h)) upd_same
theorem PreC.ref {N : List Str} {q : Str} {sc : Scope} {g : Addr} {cdg : Value} {A : Around} {outer : List Env} {s0 : Shared} {H0 : Hp} {Ex : XK} {cls : Value} {v : V} {f c : Addr} {oc : Obj} {σ : L2.St} {H : Hp}
    (h : PreC K (MkC P w K mg base N q sc g cdg A outer s0 H0 Ex) cls v f H) (D : Dead (MkC P w K mg base N q sc g cdg A outer s0 H0 Ex) σ c oc) (h0 : σ[0]? = some (some v)) (hc : H c = some (FrO oc)) : RefC P w K mg base 7 cls f H := by
  obtain ⟨t, d, r⟩ := h
  exact ⟨N, q, sc, g, cdg, A, outer, s0, H0, Ex, σ, c, oc, t, d, D, hc, fun H' E Q _ _ k => r σ _ E Q h0 k⟩
def spWide (P : Program) (w : World) (K : PySem.W.Frag) (mg : Str → Option Value) (base : Heap) : Sp := fun vs H Q _ => ∃ v : V, vs = [v] ∧ BadW v ∧ Tb K H ∧
  ∀ (q : Addr) (ws : List Addr) (H' : Hp), H q = none → H' q = some (.lst (ws.map V.ref)) → ws.length ≤ 20 → (∀ f ∈ ws, RefC P w K mg base 7 (.ref (He.ga K "BadWidth")) f H') → FrT K [] H H' → Q (.ref q) H'
theorem c_lwide (T : Txt P w K mg base) : CalX CX0 P w K mg base 9 "_law_wide" (spWide P w K mg base) := by
  obtain ⟨fd, F⟩ := T.t.def_ 42 (d := d_lwide)
  refine ⟨_, fd, _, okC (p := pd_lwide) (y := "_law_bad") F sc_lwide (fun _ => rfl) (fun vs H Q E h => ?_) (fun A outer s H vs Q E hr h s1 I => ?_), He.glo_ok T.X T.G (T.t.fact 20), F.kp, F.bindsN fun _ _ _ _ _ _ us hl => match us, hl with | [_], _ => rfl⟩
  · obtain ⟨v, rfl, _⟩ := h
    rfl
  · obtain ⟨v, rfl, hb, ht, k⟩ := h
    refine wpAny_mono (execs_two (X := MkC P w K mg base ["_law_bad", "_law_works"] d_lwide.qual d_lwide.scope (He.fAd K pd_lwide) (.ref (He.codeOf K pd_lwide)) A outer s H E) (G := fun σ' v H' => ∀ oc : Obj, Dead (MkC P w K mg base ["_law_bad", "_law_works"] d_lwide.qual d_lwide.scope (He.fAd K pd_lwide) (.ref (He.codeOf K pd_lwide)) A outer s H E) σ' (s.heap.objs.size + 1) oc → H' (s.heap.objs.size + 1) = none → Q v (upd H' (s.heap.objs.size + 1) (FrO oc))) I ?_) (fun fl s' z => z) fun e s' z => z
    refine ⟨_, _, _, (ps_set (i := 1) sc_lwide.nd rfl (Or.inl rfl) (pe_lst (pa_cons (pe_lam0 (k := 7) rfl rfl (fun _ _ _ _ _ _ => rfl) (T.tb pd_lwide (by decide +kernel)) rfl (lamP_by (N := ["_law_bad", "_law_works"]) (sc := defScope s_lwide) (by decide +kernel)) (fun _ _ _ _ _ _ _ hr => (pe_mkx (c_initV T) hr (by decide) rfl (passes_call (takes_of rfl rfl rfl rfl) (fun _ _ _ _ h => h)) (pa_cons (pv 0) pa_nil)))) (pa_cons (pe_lam1 (k := 7) (a := "_law_a") rfl rfl rfl (fun s q cl t0 tk doc pm cv ctv ho => BindsTo.of_defaults rfl ho rfl rfl rfl) (T.tb pd_lwide (by decide +kernel)) rfl (lamP_by (N := ["_law_bad", "_law_works"]) (sc := defScope s_lwide) (by decide +kernel)) (fun _ _ _ _ _ _ _ hr => (pe_cx (c_metV T) hr (by decide) rfl (passes_call (takes_of rfl rfl rfl rfl) (fun _ _ _ _ h => h)) (pa_cons (pv 0) (pa_cons (pe_lst (pa_cons pe_int pa_nil)) pa_nil))))) (pa_cons (pe_lam1 (k := 7) (a := "_law_b") rfl rfl rfl (fun s q cl t0 tk doc pm cv ctv ho => BindsTo.of_defaults rfl ho rfl rfl rfl) (T.tb pd_lwide (by decide +kernel)) rfl (lamP_by (N := ["_law_bad", "_law_works"]) (sc := defScope s_lwide) (by decide +kernel)) (fun _ _ _ _ _ _ _ hr => (pe_cx (c_fewestV T) hr (by decide) rfl (passes_call (takes_of rfl rfl rfl rfl) (fun _ _ _ _ h => h)) (pa_cons (pv 0) (pa_cons (pe_lst (pa_cons pe_int pa_nil)) pa_nil))))) (pa_cons (pe_lam1 (k := 7) (a := "_law_c") rfl rfl rfl (fun s q cl t0 tk doc pm cv ctv ho => BindsTo.of_defaults rfl ho rfl rfl rfl) (T.tb pd_lwide (by decide +kernel)) rfl (lamP_by (N := ["_law_bad", "_law_works"]) (sc := defScope s_lwide) (by decide +kernel)) (fun _ _ _ _ _ _ _ hr => (pe_cx (c_shownV T) hr (by decide) rfl (passes_call (takes_of rfl rfl rfl rfl) (fun _ _ _ _ h => h)) (pa_cons (pv 0) (pa_cons (pe_lst (pa_cons pe_int pa_nil)) pa_nil))))) pa_nil)))))),
      (ps_set (i := 1) sc_lwide.nd rfl (Or.inl rfl) (pe_op op_cat (pv 1) (pe_lst (pa_cons (pe_lam1 (k := 7) (a := "_law_e") rfl rfl rfl (fun s q cl t0 tk doc pm cv ctv ho => BindsTo.of_defaults rfl ho rfl rfl rfl) (T.tb pd_lwide (by decide +kernel)) rfl (lamP_by (N := ["_law_bad", "_law_works"]) (sc := defScope s_lwide) (by decide +kernel)) (fun _ _ _ _ _ _ _ hr => (pe_cx (c_judgedV T) hr (by decide) rfl (passes_call (takes_of rfl rfl rfl rfl) (fun _ _ _ _ h => h)) (pa_cons (pv 0) (pa_cons (pe_lst pa_nil) (pa_cons (pe_lst (pa_cons pe_int pa_nil)) pa_nil)))))) (pa_cons (pe_lam1 (k := 7) (a := "_law_f") rfl rfl rfl (fun s q cl t0 tk doc pm cv ctv ho => BindsTo.of_defaults rfl ho rfl rfl rfl) (T.tb pd_lwide (by decide +kernel)) rfl (lamP_by (N := ["_law_bad", "_law_works"]) (sc := defScope s_lwide) (by decide +kernel)) (fun _ _ _ _ _ _ _ hr => (pe_cx (c_leastV T) hr (by decide) rfl (passes_call (takes_of rfl rfl rfl rfl) (fun _ _ _ _ h => h)) (pa_cons (pv 0) (pa_cons (pe_lst pa_nil) (pa_cons (pe_lst (pa_cons pe_int pa_nil)) pa_nil)))))) (pa_cons (pe_lam1 (k := 7) (a := "_law_g") rfl rfl rfl (fun s q cl t0 tk doc pm cv ctv ho => BindsTo.of_defaults rfl ho rfl rfl rfl) (T.tb pd_lwide (by decide +kernel)) rfl (lamP_by (N := ["_law_bad", "_law_works"]) (sc := defScope s_lwide) (by decide +kernel)) (fun _ _ _ _ _ _ _ hr => (pe_cx (c_plan_ofV T) hr (by decide) rfl (passes_call (takes_of rfl rfl rfl rfl) (fun _ _ _ _ h => h)) (pa_cons (pv 0) (pa_cons (pe_lst pa_nil) pa_nil))))) pa_nil)))))),
      (pe_op op_cat (pv 1) (pe_lst (pa_cons (pe_lam1 (k := 7) (a := "_law_h") rfl rfl rfl (fun s q cl t0 tk doc pm cv ctv ho => BindsTo.of_defaults rfl ho rfl rfl rfl) (T.tb pd_lwide (by decide +kernel)) rfl (lamP_by (N := ["_law_bad", "_law_works"]) (sc := defScope s_lwide) (by decide +kernel)) (fun _ _ _ _ _ _ _ hr => (pe_cx (c_followsV T) hr (by decide) rfl (passes_call (takes_of rfl rfl rfl rfl) (fun _ _ _ _ h => h)) (pa_cons (pv 0) (pa_cons (pe_lst pa_nil) (pa_cons pe_int pa_nil)))))) (pa_cons (pe_lam1 (k := 7) (a := "_law_i") rfl rfl rfl (fun s q cl t0 tk doc pm cv ctv ho => BindsTo.of_defaults rfl ho rfl rfl rfl) (T.tb pd_lwide (by decide +kernel)) rfl (lamP_by (N := ["_law_bad", "_law_works"]) (sc := defScope s_lwide) (by decide +kernel)) (fun _ _ _ _ _ _ _ hr => (pe_cx (c_playedV T) hr (by decide) rfl (passes_call (takes_of rfl rfl rfl rfl) (fun _ _ _ _ h => h)) (pa_cons (pv 0) (pa_cons (pe_lst (pa_cons pe_int pa_nil)) pa_nil))))) pa_nil)))), ?_⟩
    have lst : ∀ (H' : Hp) (p : Addr) (o : HO), H' p = none → FrT K [] H' (upd H' p o) := fun H' p o hp => (Frm.of (same_upd hp)).toT .nil
    have eq : ((MkC P w K mg base ["_law_bad", "_law_works"] d_lwide.qual d_lwide.scope (He.fAd K pd_lwide) (.ref (He.codeOf K pd_lwide)) A outer s H E).env.qual ++ "<lambda>" : Str) = "_law_wide.<locals>.<lambda>" := rfl
    refine ⟨by rw [eq]; exact ht.2 _ (tl_mem lam_lwide), fun f1 H1 k1 k2 k3 n1 d1 => ?_⟩
    rw [eq] at k3
    obtain ⟨g1, t1⟩ := tb_grow T lam_lwide ht k1 k2 k3
    clear k1 k2 k3
    have p1 : PreC K _ (.ref (He.ga K "BadWidth")) v f1 H1 := ⟨_, d1, fun σ H' E Q hσ kk => ⟨v, hσ, fun x dx hx hdx hne => ⟨_, _, rfl, hb, kk _ ((lst H' dx _ hdx).trans (lst _ x _ (by rw [upd_ne (Ne.symm hne)]; exact hx)))⟩⟩⟩
    refine ⟨by rw [eq]; exact t1.2 _ (tl_mem lam_lwide), fun f2 H2 k1 k2 k3 n2 d2 => ?_⟩
    rw [eq] at k3
    obtain ⟨g2, t2⟩ := tb_grow T lam_lwide t1 k1 k2 k3
    clear k1 k2 k3
    have p2 : PreC K _ (.ref (He.ga K "BadWidth")) v f2 H2 := ⟨_, d2, fun σ H' E Q hσ kk => ⟨v, hσ, by show 1 ≤ sizeLine; decide, fun p hp => ⟨v, [.ref p], rfl, rfl, hb, kk _ (lst H' p _ hp)⟩⟩⟩
    refine ⟨by rw [eq]; exact t2.2 _ (tl_mem lam_lwide), fun f3 H3 k1 k2 k3 n3 d3 => ?_⟩
    rw [eq] at k3
    obtain ⟨g3, t3⟩ := tb_grow T lam_lwide t2 k1 k2 k3
    clear k1 k2 k3
    have p3 : PreC K _ (.ref (He.ga K "BadWidth")) v f3 H3 := ⟨_, d3, fun σ H' E Q hσ kk => ⟨v, hσ, by show 1 ≤ sizeLine; decide, fun p hp => ⟨v, [.ref p], rfl, rfl, hb, kk _ (lst H' p _ hp)⟩⟩⟩
    refine ⟨by rw [eq]; exact t3.2 _ (tl_mem lam_lwide), fun f4 H4 k1 k2 k3 n4 d4 => ?_⟩
    rw [eq] at k3
    obtain ⟨g4, t4⟩ := tb_grow T lam_lwide t3 k1 k2 k3
    clear k1 k2 k3
    have p4 : PreC K _ (.ref (He.ga K "BadWidth")) v f4 H4 := ⟨_, d4, fun σ H' E Q hσ kk => ⟨v, hσ, by show 1 ≤ sizeLine; decide, fun p hp => ⟨v, [.ref p], rfl, rfl, hb, kk _ (lst H' p _ hp)⟩⟩⟩
    refine ⟨by show 4 ≤ sizeLine; decide, fun q1 hq1 => ?_⟩
    refine newc_go hq1 fun H5 g5 u5 => ?_
    have t5 := (g5.toT (K := K) .nil).t t4
    refine ⟨_, rfl, by rw [eq]; exact t5.2 _ (tl_mem lam_lwide), fun f5 H6 k1 k2 k3 n5 d5 => ?_⟩
    rw [eq] at k3
    obtain ⟨g6, t6⟩ := tb_grow T lam_lwide t5 k1 k2 k3
    clear k1 k2 k3
    have p5 : PreC K _ (.ref (He.ga K "BadWidth")) v f5 H6 := ⟨_, d5, fun σ H' E Q hσ kk => ⟨v, hσ, Nat.zero_le _, fun p hp => ⟨by show 1 ≤ sizeLine; decide, fun p2 hp2 => ⟨v, [.ref p, .ref p2], rfl, rfl, hb, kk _ ((lst H' p _ hp).trans (lst _ p2 _ hp2))⟩⟩⟩⟩
    refine ⟨by rw [eq]; exact t6.2 _ (tl_mem lam_lwide), fun f6 H7 k1 k2 k3 n6 d6 => ?_⟩
    rw [eq] at k3
    obtain ⟨g7, t7⟩ := tb_grow T lam_lwide t6 k1 k2 k3
    clear k1 k2 k3
    have p6 : PreC K _ (.ref (He.ga K "BadWidth")) v f6 H7 := ⟨_, d6, fun σ H' E Q hσ kk => ⟨v, hσ, Nat.zero_le _, fun p hp => ⟨by show 1 ≤ sizeLine; decide, fun p2 hp2 => ⟨v, [.ref p, .ref p2], rfl, rfl, hb, kk _ ((lst H' p _ hp).trans (lst _ p2 _ hp2))⟩⟩⟩⟩
    refine ⟨by rw [eq]; exact t7.2 _ (tl_mem lam_lwide), fun f7 H8 k1 k2 k3 n7 d7 => ?_⟩
    rw [eq] at k3
    obtain ⟨g8, t8⟩ := tb_grow T lam_lwide t7 k1 k2 k3
    clear k1 k2 k3
    have p7 : PreC K _ (.ref (He.ga K "BadWidth")) v f7 H8 := ⟨_, d7, fun σ H' E Q hσ kk => ⟨v, hσ, Nat.zero_le _, fun p hp => ⟨v, [.ref p], rfl, rfl, hb, kk _ (lst H' p _ hp)⟩⟩⟩
    refine ⟨by show 3 ≤ sizeLine; decide, fun q2 hq2 => ?_⟩
    refine newc_go hq2 fun H9 g9 u9 => ?_
    have f59 : FrT K [] H5 H9 := ((g6.trans g7).trans g8).trans (g9.toT .nil)
    refine ⟨q1, q2, _, _, rfl, rfl, f59.k _ _ u5 rfl (by simp), u9, by show 7 ≤ sizeLine; decide, fun q3 hq3 => ?_⟩
    refine newc_go hq3 fun H10 g10 u10 => ?_
    have t10 := ((g9.toT (K := K) .nil).trans (g10.toT .nil)).t t8
    refine ⟨_, rfl, by rw [eq]; exact t10.2 _ (tl_mem lam_lwide), fun f8 H11 k1 k2 k3 n8 d8 => ?_⟩
    rw [eq] at k3
    obtain ⟨g11, t11⟩ := tb_grow T lam_lwide t10 k1 k2 k3
    clear k1 k2 k3
    have p8 : PreC K _ (.ref (He.ga K "BadWidth")) v f8 H11 := ⟨_, d8, fun σ H' E Q hσ kk => ⟨v, hσ, Nat.zero_le _, fun p hp => ⟨v, [.ref p, .int 5], rfl, rfl, hb, kk _ (lst H' p _ hp)⟩⟩⟩
    refine ⟨by rw [eq]; exact t11.2 _ (tl_mem lam_lwide), fun f9 H12 k1 k2 k3 n9 d9 => ?_⟩
    rw [eq] at k3
    obtain ⟨g12, t12⟩ := tb_grow T lam_lwide t11 k1 k2 k3
    clear k1 k2 k3
    have p9 : PreC K _ (.ref (He.ga K "BadWidth")) v f9 H12 := ⟨_, d9, fun σ H' E Q hσ kk => ⟨v, hσ, by show 1 ≤ sizeLine; decide, fun p hp => ⟨v, [.ref p], rfl, rfl, hb, kk _ (lst H' p _ hp)⟩⟩⟩
    refine ⟨by show 2 ≤ sizeLine; decide, fun q4 hq4 => ?_⟩
    refine newc_go hq4 fun H13 g13 u13 => ?_
    have f1013 : FrT K [] H10 H13 := (g11.trans g12).trans (g13.toT .nil)
    refine ⟨q3, q4, _, _, rfl, rfl, f1013.k _ _ u10 rfl (by simp), u13, by show 9 ≤ sizeLine; decide, fun q5 hq5 => ?_⟩
    refine newc_go hq5 fun H14 g14 u14 => ?_
    intro oc D nc
    have e14 : FrT K [] H14 (upd H14 (s.heap.objs.size + 1) (FrO oc)) := lst _ _ _ nc
    have e12 := ((g13.toT (K := K) .nil).trans (g14.toT .nil)).trans e14
    have e11 := g12.trans e12
    have e10 := g11.trans e11
    have e8 := (((g9.toT (K := K) .nil).trans (g10.toT .nil))).trans e10
    have e7 := g8.trans e8
    have e6 := g7.trans e7
    have e5 := g6.trans e6
    have e4 := (g5.toT (K := K) .nil).trans e5
    have e3 := g4.trans e4
    have e2 := g3.trans e3
    have e1 := g2.trans e2
    have e0 := g1.trans e1
    have hH : H q5 = none := (((((((g1.trans g2).trans g3).trans g4).trans (g5.toT .nil)).trans f59).trans (g10.toT .nil)).trans f1013).b _ hq5
    refine k q5 [f1, f2, f3, f4, f5, f6, f7, f8, f9] _ hH (e14.k _ _ u14 rfl (by simp)) (by show 9 ≤ 20; decide) ?_ e0
    have go : ∀ {f : Addr} {H' : Hp}, PreC K _ (.ref (He.ga K "BadWidth")) v f H' → FrT K [] H' (upd H14 (s.heap.objs.size + 1) (FrO oc)) → RefC P w K mg base 7 (.ref (He.ga K "BadWidth")) f (upd H14 (s.heap.objs.size + 1) (FrO oc)) := fun p g => (p.keepT g).ref D rfl upd_same
    intro f hf
    simp only [List.mem_cons, List.not_mem_nil, or_false] at hf
    rcases hf with rfl | rfl | rfl | rfl | rfl | rfl | rfl | rfl | rfl
    · exact go p1 e1
    · exact go p2 e2
    · exact go p3 e3
    · exact go p4 e4
    · exact go p5 e6
    · exact go p6 e7
    · exact go p7 e8
    · exact go p8 e11
    · exact go p9 e12
end
end B

set_option Elab.async false
set_option linter.all false
set_option maxRecDepth 100000
set_option maxHeartbeats 4000000
namespace B
open PySem PySem.Spec PyProof.Rows L2
open SX (S)
/-! ### what is no number of a width -/
theorem nv_len {W : Nat} {y : Str} (h : y.length ≠ W) : numV W (.str y) = false := by
  show (decide (y.length = W) && bits01 y) = false
  rw [decide_eq_false h, Bool.false_and]
theorem nv_sign {W : Nat} {y : Str} {c : Nat} (h : c ∈ y.cps.toList) (h0 : c ≠ 48) (h1 : c ≠ 49) : numV W (.str y) = false := by
  show (decide (y.length = W) && bits01 y) = false
  have e : bits01 y = false := by
    unfold bits01
    rw [List.all_eq_false]
    refine ⟨c, h, ?_⟩
    have : ("01" : Str).cps.toList = [48, 49] := by decide +kernel
    rw [this]
    simp [h0, h1]
  rw [e, Bool.and_false]
theorem sign_at {v : Int} (h0 : 0 ≤ v) (h1 : v < 6) : ∃ c : Nat, atI ("2 x-9O" : Str).cps.toList v = some c ∧ c ≠ 48 ∧ c ≠ 49 := by
  obtain ⟨n, rfl⟩ : ∃ n : Nat, v = n := ⟨v.toNat, by omega⟩
  have hn : n < 6 := by omega
  match n, hn with
  | 0, _ => exact ⟨50, by decide +kernel, by decide, by decide⟩
  | 1, _ => exact ⟨32, by decide +kernel, by decide, by decide⟩
  | 2, _ => exact ⟨120, by decide +kernel, by decide, by decide⟩
  | 3, _ => exact ⟨45, by decide +kernel, by decide, by decide⟩
  | 4, _ => exact ⟨57, by decide +kernel, by decide, by decide⟩
  | 5, _ => exact ⟨79, by decide +kernel, by decide, by decide⟩
theorem mul2_ok {x : Str} (h : x.length ≤ 12) : PySem.MulOk x 2 := by
  refine ⟨by decide, fun _ _ => ?_, fun _ _ => ?_⟩
  · have : ((2 : Int) ^ 63 - 1) / 2 = 4611686018427387903 := by decide
    rw [this]
    omega
  · show decide (x.length * 2 > sizeLine) = false
    exact decide_eq_false (Nat.not_lt.mpr (Nat.le_trans (show x.length * 2 ≤ 100 by omega) (by decide)))
theorem mul2_len {x : Str} : (Txt.mul x 2).length = x.length * 2 := by
  have := len_mul_k x.length (x := x) (n := 2) rfl
  have e : ((Txt.mul x 2).length : Int) = (x.length : Int) * 2 := this
  omega
theorem sgl_S (c : Nat) : (⟨#[c]⟩ : Str) = S [c] := rfl
/-- the seven -/
theorem odd_seven {W : Nat} {x : Str} (hx : Num W x) (w1 : 1 ≤ W) (w2 : W ≤ 12) {at_ far : Int} (a0 : 0 ≤ at_) (a1 : at_ < W) {c : Nat} (c0 : c ≠ 48) (c1 : c ≠ 49) :
    ∀ v ∈ ([.str "", .str (x ++ "0"), .str (Txt.slice x (some 1) none), .str (Txt.slice x none (some at_) ++ ⟨#[c]⟩ ++ Txt.slice x (some (at_ + 1)) none), .int far, .str (Txt.slice x none (some at_) ++ ⟨#[c]⟩), .str (Txt.mul x 2)] : List V), OddV v ∧ numV W v = false := by
  obtain ⟨l, rfl, el, bl⟩ := hx
  have big : ∀ {n : Nat}, n ≤ 100 → n ≤ 1000000 := fun h => Nat.le_trans h (by decide)
  intro v hv
  simp only [List.mem_cons, List.not_mem_nil, or_false] at hv
  rw [SX.slice_to a0, SX.slice_from (by decide : (0 : Int) ≤ 1), SX.slice_from (by omega : (0 : Int) ≤ at_ + 1), sgl_S, show ("0" : Str) = S [48] by decide +kernel] at hv
  simp only [SX.S_cat] at hv
  rcases hv with rfl | rfl | rfl | rfl | rfl | rfl | rfl
  · exact ⟨.inl ⟨_, rfl, by decide⟩, nv_len (by show 0 ≠ W; omega)⟩
  · have e : (S (l ++ [48])).length = W + 1 := by rw [SX.S_len, List.length_append, el]; rfl
    exact ⟨.inl ⟨_, rfl, big (by omega)⟩, nv_len (by omega)⟩
  · have e : (S (l.drop (1 : Int).toNat)).length = W - 1 := by rw [SX.S_len, List.length_drop, el]; rfl
    exact ⟨.inl ⟨_, rfl, big (by omega)⟩, nv_len (by omega)⟩
  · refine ⟨.inl ⟨_, rfl, big ?_⟩, nv_sign (c := c) ?_ c0 c1⟩
    · rw [SX.S_len, List.length_append, List.length_append, List.length_take, List.length_drop, el]
      show min _ W + 1 + _ ≤ 100
      omega
    · rw [S_list]
      simp
  · exact ⟨.inr ⟨_, rfl⟩, rfl⟩
  · refine ⟨.inl ⟨_, rfl, big ?_⟩, nv_sign (c := c) ?_ c0 c1⟩
    · rw [SX.S_len, List.length_append, List.length_take, el]
      show min _ W + 1 ≤ 100
      omega
    · rw [S_list]
      simp
  · have e : (Txt.mul (S l) 2).length = W * 2 := by rw [mul2_len, SX.S_len, el]
    exact ⟨.inl ⟨_, rfl, big (by omega)⟩, nv_len (by omega)⟩
section
variable {P : Program} {w : World} {K : PySem.W.Frag} {mg : Str → Option Value} {base : Heap}
def spOddN (K : PySem.W.Frag) : Sp := fun vs H Q _ => ∃ (r a : Addr) (W : Nat) (far : Int), vs = [.ref r, .int W, .int far] ∧ RowAt r a H ∧ Scr K a H ∧ 1 ≤ W ∧ W ≤ 12 ∧
  ∀ (v : V) (H' : Hp), OddV v → numV W v = false → RowAt r a H' → Frm [r] H H' → Q v H'
theorem c_lodd (T : Txt P w K mg base) : CalX CX0 P w K mg base 3 "_law_odd" (spOddN K) := by
  obtain ⟨fd, F⟩ := T.t.def_ 43 (d := d_lodd)
  refine ⟨_, fd, _, F.ok sc_lodd (fun vs H Q E h => ?_) (fun cdv A outer s H vs Q E hr h => ?_), He.glo_ok T.X T.G (T.t.fact 21), F.kp, F.bindsN fun _ _ _ _ _ _ us hl => match us, hl with | [_, _, _], _ => rfl⟩
  · obtain ⟨r, a, W, far, rfl, _⟩ := h
    rfl
  · obtain ⟨r, a, W, far, rfl, hR, hS, w1, w2, k⟩ := h
    refine ⟨_, PSs.nox (pss_cons (ps_set (i := 3) sc_lodd.nd rfl (Or.inl rfl) (pe_cx (c_lnumber T) hr (by decide) rfl pass0 (pa_cons (pv 0) (pa_cons (pv 1) pa_nil))))
    (pss_cons (ps_set (i := 4) sc_lodd.nd rfl (Or.inl rfl) (pe_cx (c_ltaken T) hr (by decide) rfl pass0 (pa_cons (pv 0) (pa_cons (pv 1) pa_nil))))
    (pss_cons (ps_set (i := 5) sc_lodd.nd rfl (Or.inl rfl) (pe_ix ix_str pe_str (pe_cx (c_ltaken T) hr (by decide) rfl pass0 (pa_cons (pv 0) (pa_cons pe_int pa_nil))) (fun _ _ => rfl)))
    (pss_cons (ps_set (i := 6) sc_lodd.nd rfl (Or.inl rfl) (pe_lst (pa_cons pe_str (pa_cons (pe_op op_add_str (pv 3) pe_str) (pa_cons (pe_slice C8.sl_txt (pv 3) (po_some pe_int) po_none) (pa_cons (pe_op op_add_str (pe_op op_add_str (pe_slice C8.sl_txt (pv 3) po_none (po_some (pv 4))) (pv 5)) (pe_slice C8.sl_txt (pv 3) (po_some (pe_op op_add (pv 4) pe_int)) po_none)) (pa_cons (pv 2) (pa_cons (pe_op op_add_str (pe_slice C8.sl_txt (pv 3) po_none (po_some (pv 4))) (pv 5)) (pa_cons (pe_op op_rep_str (pv 3) pe_int) pa_nil)))))))))
    (pss_one (ps_ret (pe_ix ix_list (pv 6) (pe_cx (c_ltaken T) hr (by decide) rfl pass0 (pa_cons (pv 0) (pa_cons pe_int pa_nil))) (fun _ _ => rfl)))))))), ?_⟩
    refine ⟨_, rfl, _, rfl, r, a, W, rfl, hR, hS, w2, fun x H1 hx hR1 f1 => ?_⟩
    refine ⟨_, rfl, _, rfl, r, a, (W : Int), rfl, hR1, f1.scr hR.nl hS, by omega, by omega, fun at_ H2 a0 a1 hR2 f2 => ?_⟩
    have f12 := f1.trans f2
    refine ⟨_, rfl, r, a, 6, rfl, hR2, f12.scr hR.nl hS, by decide, by decide, fun sg H3 s0 s1 hR3 f3 => ?_⟩
    have f3' := f12.trans f3
    obtain ⟨c, hc, c0, c1⟩ := sign_at s0 s1
    refine ⟨_, sg, c, rfl, rfl, by decide, hc, ?_⟩
    have lx := num_len hx
    have l1 := (slice_len hx a0).1
    have l2 := (slice_len hx (show (0 : Int) ≤ at_ + 1 by omega)).2
    have lc : (⟨#[c]⟩ : Str).length = 1 := rfl
    have cat : ∀ (p q : Str), (p ++ q).length = p.length + q.length := PySem.Str.length_append
    refine ⟨_, rfl, _, _, rfl, rfl, size12 (by rw [lx]; show W + 1 ≤ 100; omega), ?_⟩
    refine ⟨_, rfl, 1, rfl, x, rfl, size12 (by omega), ?_⟩
    refine ⟨_, rfl, _, rfl, at_, rfl, x, rfl, size12 (by omega), ?_⟩
    refine ⟨_, rfl, _, _, rfl, rfl, size12 (by omega), ?_⟩
    refine ⟨_, rfl, ?_⟩
    refine ⟨_, rfl, at_, 1, rfl, rfl, _, rfl, x, rfl, size12 (by omega), _, _, rfl, rfl, size12 (by rw [cat]; omega), ?_⟩
    refine ⟨_, rfl, _, rfl, _, rfl, at_, rfl, x, rfl, size12 (by omega), ?_⟩
    refine ⟨_, rfl, _, _, rfl, rfl, size12 (by omega), ?_⟩
    refine ⟨_, rfl, x, 2, rfl, rfl, mul2_ok (by omega), ?_⟩
    refine ⟨by show 7 ≤ sizeLine; decide, fun p hp => ?_⟩
    have bad := odd_seven (far := far) hx w1 w2 a0 a1 c0 c1
    have nr : r ≠ p := hR3.out hp
    refine newc_go hp fun H4 g4 u4 => ?_
    have f4 : Frm [r] H H4 := f3'.trans (g4.mono (by simp))
    refine ⟨_, rfl, _, rfl, r, a, 7, rfl, (g4.toT (K := K) .nil).row (by simp) hR3, f4.scr hR.nl hS, by decide, by decide, fun v H5 v0 v1 hR5 f5 => ?_⟩
    have hp5 := f5.k p _ u4 rfl (by simpa using nr.symm)
    obtain ⟨n, rfl⟩ : ∃ n : Nat, v = n := ⟨v.toNat, by omega⟩
    have hn : n < 7 := by omega
    have fin : ∀ z, z ∈ _ → Q z H5 := fun z hz => k z H5 (bad z hz).1 (bad z hz).2 hR5 (f4.trans f5)
    refine ⟨p, _, _, _, rfl, rfl, SqL.of hp5, atI_nat (List.getElem?_eq_getElem (by exact hn)), ?_⟩
    exact fin _ (List.getElem_mem _)
end
end B

set_option Elab.async false
set_option linter.all false
set_option maxRecDepth 100000
set_option maxHeartbeats 4000000
namespace B
open PySem PySem.Spec PyProof.Rows L2
open SX (S)
/-! ### rounds of a wire and walks that are over -/
theorem if_nt {A B : Prop} (h : B) : if (!true) = true then A else B := h
/-- the lambda at f of the def at X lets an exception of cls out, where C holds of the names and the heap -/
def LamR (K : PySem.W.Frag) (X : Cx) (cls : Value) (C : L2.St → Hp → Prop) (f : Addr) (H : Hp) : Prop := ∃ t : XK → TE, LamD X 7 f H t ∧ ∀ (σ : L2.St) (H' : Hp) (E : XK) (Q : VK), C σ H' → (∀ H2, FrT K [] H' H2 → E cls none H2) → t E σ H' Q
theorem LamR.keepT {K : PySem.W.Frag} {X : Cx} {cls : Value} {C : L2.St → Hp → Prop} {f : Addr} {S : List Addr} {H H' : Hp} (h : LamR K X cls C f H) (g : FrT K S H H') (n : NL S H) : LamR K X cls C f H' := by
  obtain ⟨t, d, r⟩ := h
  exact ⟨t, d.mono (fun b o e => g.at n e rfl rfl) (fun c q e => g.at n e rfl rfl), r⟩
theorem lamr_tw {K : PySem.W.Frag} {t : XK → TE} {cls : Value} {n : Nat} {wd : Str} {σ : L2.St} {H : Hp} {Q : VK} (C : WordC K cls n wd) (r : ∀ (E : XK) (Q : VK), (∀ H2, FrT K [] H H2 → E cls none H2) → t E σ H Q) (k : ∀ H3, FrT K [] H H3 → Q (.str wd) H3) : TWord K (fun E H' Q' => t E σ H' Q') H Q :=
  r _ _ fun H2 f2 => ⟨rfl, n, wd, C, fun H3 f3 => k H3 (f2.trans (f3.toT .nil))⟩
theorem lamr_word {X : Cx} {cls : Value} {C : L2.St → Hp → Prop} {f : Addr} {H : Hp} {i n : Nat} {wd : Str} {σ σ' : L2.St} {Q : VK} (h : LamR X.K X cls C f H) (w : WordC X.K cls n wd) (hC : C σ H) (hi : σ'[i]? = some (some (.ref f))) (k : ∀ H3, FrT X.K [] H H3 → Q (.str wd) H3) : tWordV X 7 i σ σ' H Q := by
  obtain ⟨t, d, r⟩ := h
  exact ⟨f, t, hi, d, lamr_tw w (fun E Q => r σ H E Q hC) k⟩
theorem lam_lrounds : (pd_lrounds, ("_law_rounds.<locals>.<lambda>" : Str)) ∈ lams := by decide +kernel
/-- a wire between rounds -/
def OffW (K : PySem.W.Frag) (pw : Addr) (W : Nat) (H : Hp) : Prop := ∃ (dh dl : Addr) (kvs : List (Str × Bool)) (lw : List Str) (lk : Int), WiAt K H pw dh dl W kvs lw W lk ∧ W ≤ 12 ∧ (∀ x ∈ lw, Num W x) ∧ lw.length ≤ 100
theorem wi_row {K : PySem.W.Frag} {H : Hp} {r a pw dh dl : Addr} {W : Nat} {kvs : List (Str × Bool)} {lw : List Str} {ms lk : Int} (hR : RowAt r a H) (wa : WiAt K H pw dh dl W kvs lw ms lk) : pw ≠ r ∧ dh ≠ r := by
  obtain ⟨i, j, k, z, _⟩ := hR
  obtain ⟨⟨dx, a1⟩, b, c⟩ := wa
  exact ⟨ne_of a1 z (by intro y; cases y), ne_of c z (by intro y; cases y)⟩
section
variable {P : Program} {w : World} {K : PySem.W.Frag} {mg : Str → Option Value} {base : Heap}
def spRounds (K : PySem.W.Frag) : Sp := fun vs H Q _ => ∃ (r a pw dh dl : Addr) (W : Nat) (kvs : List (Str × Bool)) (lw : List Str) (far : Int), vs = [.ref r, .ref pw, .int W, .int far] ∧ RowAt r a H ∧ Scr K a H ∧ WiAt K H pw dh dl W kvs lw W 0 ∧ (∀ x ∈ lw, Num W x) ∧ lw.length ≤ 100 ∧
  1 ≤ W ∧ W ≤ 12 ∧ kvs.length ≤ 41 ∧ (kvs.map (·.1)).Nodup ∧ (∀ x ∈ kvs.map (·.1), Num W x) ∧ 1 ≤ far ∧ Tb K H ∧ ∀ H', RowAt r a H' → FrT K [r, pw] H H' → Q (.bl true) H'
theorem c_lrounds (T : Txt P w K mg base) : CalX CX0 P w K mg base 11 "_law_rounds" (spRounds K) := by
  obtain ⟨fd, F⟩ := T.t.def_ 44 (d := d_lrounds)
  refine ⟨_, fd, _, okT (p := pd_lrounds) F sc_lrounds (fun vs H Q E h => ?_) (fun A outer s H vs Q E hr h => ?_), He.glo_ok T.X T.G (T.t.fact 22), F.kp, F.bindsN fun _ _ _ _ _ _ us hl => match us, hl with | [_, _, _, _], _ => rfl⟩
  · obtain ⟨r, a, pw, dh, dl, W, kvs, lw, far, rfl, _⟩ := h
    rfl
  · obtain ⟨r, a, pw, dh, dl, W, kvs, lw, far, rfl, hR, hS, wa, lwn, lwl, w1, w2, kl, knd, knum, hfar, ht, k⟩ := h
    refine ⟨_, PSs.nox (pss_cons (ps_set (i := 4) sc_lrounds.nd rfl (Or.inr rfl) (pe_ix ix_list (pe_lst (pa_cons pe_int (pa_cons (pe_op op_sub pe_int pe_int) (pa_cons (pe_op op_add pe_int (pv 3)) (pa_cons (pe_op op_sub pe_int (pv 3)) (pa_cons pe_bl pa_nil)))))) (pe_cx (c_ltaken T) hr (by decide) rfl pass0 (pa_cons (pv 0) (pa_cons pe_int pa_nil))) (fun _ _ => rfl)))
    (pss_cons (ps_set (i := 5) sc_lrounds.nd rfl (Or.inl rfl) (pe_lst (pa_cons (pe_lam0 (k := 7) rfl rfl (fun _ _ _ _ _ _ => rfl) (T.tb pd_lrounds (by decide +kernel)) rfl (lamP_by (N := ["_law_row", "_law_wire", "_law_width_here", "_law_far", "_law_bad", "_law_works", "_law_k", "_law_walk", "_law_work"]) (sc := defScope s_lrounds) (by decide +kernel)) (fun _ _ _ _ _ _ _ hr => (pe_mx0 (m_Wire_look T) hr (by decide) (pv 1) (passes_call (takes_of rfl rfl rfl rfl) (fun _ _ _ _ h => h))))) (pa_cons (pe_lam1 (k := 7) (a := "_law_a") rfl rfl rfl (fun s q cl t0 tk doc pm cv ctv ho => BindsTo.of_defaults rfl ho rfl rfl rfl) (T.tb pd_lrounds (by decide +kernel)) rfl (lamP_by (N := ["_law_row", "_law_wire", "_law_width_here", "_law_far", "_law_bad", "_law_works", "_law_k", "_law_walk", "_law_work"]) (sc := defScope s_lrounds) (by decide +kernel)) (fun _ _ _ _ _ _ _ hr => (pe_mx (m_Wire_say T) hr (by decide) (pv 1) (passes_call (takes_of rfl rfl rfl rfl) (fun _ _ _ _ h => h)) (pa_cons pe_int pa_nil)))) (pa_cons (pe_lam1 (k := 7) (a := "_law_b") rfl rfl rfl (fun s q cl t0 tk doc pm cv ctv ho => BindsTo.of_defaults rfl ho rfl rfl rfl) (T.tb pd_lrounds (by decide +kernel)) rfl (lamP_by (N := ["_law_row", "_law_wire", "_law_width_here", "_law_far", "_law_bad", "_law_works", "_law_k", "_law_walk", "_law_work"]) (sc := defScope s_lrounds) (by decide +kernel)) (fun _ _ _ _ _ _ _ hr => (pe_mx (m_Wire_sayV T) hr (by decide) (pv 1) (passes_call (takes_of rfl rfl rfl rfl) (fun _ _ _ _ h => h)) (pa_cons (pv 4) pa_nil)))) pa_nil)))))
    (pss_cons (ps_if (pt_cmpR (op_neD hr.units) (pe_lcW (E := fun _ _ _ => False) (own := [("_law_work", 8)]) (g := gName 8) rfl rfl L2.takes0 (fun _ _ _ _ h => h) rfl sc_lrounds.nd (pi_list (pv 5)) (blkOk_by (N := ["_law_row", "_law_wire", "_law_width_here", "_law_far", "_law_bad", "_law_works", "_law_k", "_law_walk", "_law_work"]) (sc := defScope s_lrounds) (own := [("_law_work", 8)]) (by decide +kernel)) (fun _ _ _ _ _ => pg_name (i := 8) sc_lrounds.nd rfl (Or.inl rfl)) (fun pins σ s H C cl fp I f => pts_one (by exact (pt_cmpR op_ne (pe_wordV (k := 7) (i := 8) T I f (hr.mono (by decide)) rfl rfl (Or.inl rfl)) pe_str (nomark _)))) (fun _ _ _ _ _ => by exact (pv 8))) (pe_lst pa_nil) (nomark _))
      (pss_one (ps_ret pe_bl))
      pss_nil)
    (pss_cons (ps_expr (pe_mx (m_Wire_begin T) hr (by decide) (pv 1) pass0 (pa_cons (pe_ix ix_list (pe_lst (pa_cons pe_str (pa_cons pe_str pa_nil))) (pe_cx (c_ltaken T) hr (by decide) rfl pass0 (pa_cons (pv 0) (pa_cons pe_int pa_nil))) (fun _ _ => rfl)) pa_nil)))
    (pss_cons (ps_for PassesOwn.never rfl (pi_range1 rfl (n_range T) (pa_cons (pv 2) pa_nil)) (pg_name (i := 6) sc_lrounds.nd rfl (Or.inl rfl))
      (pss_cons (ps_if (pt_cmpR op_ne (pe_word0 (k := 7) T rfl rfl (fun _ _ _ _ _ _ => rfl) (T.tb pd_lrounds (by decide +kernel)) rfl (hr.mono (by decide)) (lamP_by (N := ["_law_row", "_law_wire", "_law_width_here", "_law_far", "_law_bad", "_law_works", "_law_k", "_law_walk", "_law_work"]) (sc := defScope s_lrounds) (by decide +kernel)) (fun _ _ _ _ _ _ _ hr => (pe_mx (m_Wire_sayV T) hr (by decide) (pv 1) (passes_call (takes_of rfl rfl rfl rfl) (fun _ _ _ _ h => h)) (pa_cons (pv 4) pa_nil))) rfl) pe_str (nomark _))
        (pss_one (ps_ret pe_bl))
        pss_nil)
      (pss_one (ps_expr (pe_mx (m_Wire_say T) hr (by decide) (pv 1) (passes_call (E := fun _ _ _ => False) L2.takes0 (fun _ _ _ _ h => h)) (pa_cons (pe_cx (c_ltaken T) hr (by decide) rfl pass0 (pa_cons (pv 0) (pa_cons pe_int pa_nil))) pa_nil))))))
    (pss_cons (ps_if (PW.pt (pw_or (pt_cmpR (op_neD hr.units) (pe_lcW (E := fun _ _ _ => False) (own := [("_law_work", 8)]) (g := gName 8) rfl rfl L2.takes0 (fun _ _ _ _ h => h) rfl sc_lrounds.nd (pi_list (pv 5)) (blkOk_by (N := ["_law_row", "_law_wire", "_law_width_here", "_law_far", "_law_bad", "_law_works", "_law_k", "_law_walk", "_law_work"]) (sc := defScope s_lrounds) (own := [("_law_work", 8)]) (by decide +kernel)) (fun _ _ _ _ _ => pg_name (i := 8) sc_lrounds.nd rfl (Or.inl rfl)) (fun pins σ s H C cl fp I f => pts_one (by exact (pt_cmpR op_ne (pe_wordV (k := 7) (i := 8) T I f (hr.mono (by decide)) rfl rfl (Or.inl rfl)) pe_str (nomark _)))) (fun _ _ _ _ _ => by exact (pv 8))) (pe_lst pa_nil) (nomark _)) (pw_or1 (pt_cmpR op_ne (pe_mx0 (m_Wire_looks T) hr (by decide) (pv 1) pass0) pe_int (nomark _)))))
      (pss_one (ps_ret pe_bl))
      pss_nil)
    (pss_cons (ps_set (i := 7) sc_lrounds.nd rfl (Or.inr rfl) (pe_mkx (k_Walk T) hr (by decide) rfl pass0 (pa_cons (pv 1) (pa_cons pe_str pa_nil))))
    (pss_cons (ps_expr (pe_mx0 (m_Walk_go_all T) hr (by decide) (pv 7) pass0))
    (pss_one (ps_ret (pe_cmpR (op_eqD hr.units) (pe_lst (pa_cons (pe_word0 (k := 7) T rfl rfl (fun _ _ _ _ _ _ => rfl) (T.tb pd_lrounds (by decide +kernel)) rfl (hr.mono (by decide)) (lamP_by (N := ["_law_row", "_law_wire", "_law_width_here", "_law_far", "_law_bad", "_law_works", "_law_k", "_law_walk", "_law_work"]) (sc := defScope s_lrounds) (by decide +kernel)) (fun _ _ _ _ _ _ _ hr => (pe_mx0 (m_Walk_step T) hr (by decide) (pv 7) (passes_call (takes_of rfl rfl rfl rfl) (fun _ _ _ _ h => h)))) rfl) (pa_cons (pe_word1 (k := 7) (a := "_law_a") T rfl rfl rfl (fun s q cl t0 tk doc pm cv ctv ho => BindsTo.of_defaults rfl ho rfl rfl rfl) (T.tb pd_lrounds (by decide +kernel)) rfl (hr.mono (by decide)) (lamP_by (N := ["_law_row", "_law_wire", "_law_width_here", "_law_far", "_law_bad", "_law_works", "_law_k", "_law_walk", "_law_work"]) (sc := defScope s_lrounds) (by decide +kernel)) (fun _ _ _ _ _ _ _ hr => (pe_mx0 (m_Walk_go_roundB T) hr (by decide) (pv 7) (passes_call (takes_of rfl rfl rfl rfl) (fun _ _ _ _ h => h)))) rfl) pa_nil))) (pe_lst (pa_cons pe_str (pa_cons pe_str pa_nil))) (nomark _)))))))))))), ?_⟩
    refine ⟨0, 1, rfl, rfl, _, rfl, 1, far, rfl, rfl, _, rfl, 0, far, rfl, rfl, by show 5 ≤ sizeLine; decide, fun p hp => ?_⟩
    refine newc_go hp fun H1 g1 u1 => ?_
    have hR1 := (g1.toT (K := K) .nil).row (by simp) hR
    refine ⟨_, rfl, r, a, 5, rfl, hR1, (g1.toT (K := K) .nil).scr .nil hS, by decide, by decide, fun v H2 v0 v1 hR2 fr2 => ?_⟩
    have hp2 := fr2.k p _ u1 rfl (by simpa using (hR.out hp).symm)
    have f02 : FrT K [r] H H2 := ((g1.toT .nil).mono (by simp)).trans (fr2.toT hR1.nl)
    obtain ⟨vb, hv, hb⟩ : ∃ vb : V, atI [V.int 2, V.int (0 - 1), V.int (1 + far), V.int (0 - far), V.bl true] v = some vb ∧ BadB vb := by
      obtain ⟨n, rfl⟩ : ∃ n : Nat, v = n := ⟨v.toNat, by omega⟩
      have hn : n < 5 := by omega
      match n, hn with
      | 0, _ => exact ⟨_, rfl, by decide, by decide⟩
      | 1, _ => exact ⟨_, rfl, by decide, by decide⟩
      | 2, _ => exact ⟨_, rfl, by omega, by omega⟩
      | 3, _ => exact ⟨_, rfl, by omega, by omega⟩
      | 4, _ => exact ⟨_, rfl, trivial⟩
    refine ⟨p, _, v, vb, rfl, rfl, SqL.of hp2, hv, ?_⟩
    have t2 : Tb K H2 := f02.t ht
    have wr := wi_row hR wa
    have wa2 : WiAt K H2 pw dh dl W kvs lw W 0 := wa.stay f02 hR.nl (by simpa using wr.1) (by simpa using wr.2)
    have offC : ∀ {σ : L2.St} {H' : Hp} {E : XK}, (σ[1]? = some (some (.ref pw)) ∧ σ[4]? = some (some vb)) ∧ OffW K pw W H' → (∀ H2, FrT K [] H' H2 → E (.ref (He.ga K "NoRound")) none H2) → E (.ref (He.ga K "NoRound")) none H' := fun _ k => k _ (FrT.refl _ _ _)
    have eq : ((cxOf CX0 P w K mg base ["_law_row", "_law_wire", "_law_width_here", "_law_far", "_law_bad", "_law_works", "_law_k", "_law_walk", "_law_work"] d_lrounds.qual d_lrounds.scope (He.fAd K pd_lrounds) (.ref (He.codeOf K pd_lrounds)) A outer s H E).env.qual ++ "<lambda>" : Str) = "_law_rounds.<locals>.<lambda>" := rfl
    refine ⟨by rw [eq]; exact t2.2 _ (tl_mem lam_lrounds), fun f1 H3 k1 k2 k3 n1 d1 => ?_⟩
    rw [eq] at k3
    obtain ⟨g3, t3⟩ := tb_grow T lam_lrounds t2 k1 k2 k3
    clear k1 k2 k3
    have p1 : LamR K _ (.ref (He.ga K "NoRound")) (fun σ H' => (σ[1]? = some (some (.ref pw)) ∧ σ[4]? = some (some vb)) ∧ OffW K pw W H') f1 H3 := ⟨_, d1, fun σ H' E Q hC kk => by
      obtain ⟨⟨e1, e4⟩, dh', dl', kvs', lw', lk', wa', b1, b2, b3⟩ := id hC
      obtain ⟨⟨dx, o1⟩, _⟩ := id wa'
      exact ⟨_, e1, pw, dx, _, rfl, o1, wx_look, pw, dh', dl', W, kvs', lw', W, lk', rfl, wa', b1, by omega, by omega, b2, b3, fun _ => offC hC kk, fun z => absurd rfl z⟩⟩
    refine ⟨by rw [eq]; exact t3.2 _ (tl_mem lam_lrounds), fun f2 H4 k1 k2 k3 n2 d2 => ?_⟩
    rw [eq] at k3
    obtain ⟨g4, t4⟩ := tb_grow T lam_lrounds t3 k1 k2 k3
    clear k1 k2 k3
    have p2 : LamR K _ (.ref (He.ga K "NoRound")) (fun σ H' => (σ[1]? = some (some (.ref pw)) ∧ σ[4]? = some (some vb)) ∧ OffW K pw W H') f2 H4 := ⟨_, d2, fun σ H' E Q hC kk => by
      obtain ⟨⟨e1, e4⟩, dh', dl', kvs', lw', lk', wa', b1, b2, b3⟩ := id hC
      obtain ⟨⟨dx, o1⟩, _⟩ := id wa'
      exact ⟨_, e1, pw, dx, _, rfl, o1, wx_say, pw, dh', dl', 0, W, kvs', lw', W, lk', rfl, .inl rfl, wa', b1, by omega, by omega, b2, b3, fun _ => offC hC kk, fun z => absurd rfl z⟩⟩
    refine ⟨by rw [eq]; exact t4.2 _ (tl_mem lam_lrounds), fun f3 H5 k1 k2 k3 n3 d3 => ?_⟩
    rw [eq] at k3
    obtain ⟨g5, t5⟩ := tb_grow T lam_lrounds t4 k1 k2 k3
    clear k1 k2 k3
    have p3 : LamR K _ (.ref (He.ga K "NoRound")) (fun σ H' => (σ[1]? = some (some (.ref pw)) ∧ σ[4]? = some (some vb)) ∧ OffW K pw W H') f3 H5 := ⟨_, d3, fun σ H' E Q hC kk => by
      obtain ⟨⟨e1, e4⟩, dh', dl', kvs', lw', lk', wa', b1, b2, b3⟩ := id hC
      obtain ⟨⟨dx, o1⟩, _⟩ := id wa'
      exact ⟨_, e1, pw, dx, _, rfl, o1, wx_say, _, e4, pw, dh', dl', vb, W, kvs', lw', W, lk', rfl, wa', fun _ => offC hC kk, fun z => absurd rfl z⟩⟩
    refine ⟨by show 3 ≤ sizeLine; decide, fun pk hpk => ?_⟩
    refine newc_go hpk fun H6 g6 u6 => ?_
    have e6 : FrT K [] H5 H6 := g6.toT .nil
    have all3 : ∀ f ∈ [f1, f2, f3], LamR K _ (.ref (He.ga K "NoRound")) (fun σ H' => (σ[1]? = some (some (.ref pw)) ∧ σ[4]? = some (some vb)) ∧ OffW K pw W H') f H6 := fun f hf => by
      simp only [List.mem_cons, List.not_mem_nil, or_false] at hf
      rcases hf with rfl | rfl | rfl
      · exact p1.keepT (g4.trans (g5.trans e6)) .nil
      · exact p2.keepT (g5.trans e6) .nil
      · exact p3.keepT e6 .nil
    have f26 : FrT K [] H2 H6 := g3.trans (g4.trans (g5.trans e6))
    have t6 := f26.t t2
    have wa6 := wa2.stay f26 .nil (by simp) (by simp)
    have hR6 := f26.row (by simp) hR2
    clear p1 p2 p3 d1 d2 d3 n1 n2 n3 g3 g4 g5 e6 t3 t4 t5
    refine ⟨_, rfl, pk, rfl, ⟨_, SqL.of u6⟩, fun D hD => ?_⟩
    refine lc_list (K := K) (a := pk) (xs := [f1, f2, f3].map V.ref) (fun j H' => H' D = some (.lst []) ∧ FrT K [] H6 H')
      ⟨upd_same, (Frm.of (same_upd hD)).toT .nil⟩ (fun j H' _ ⟨_, f⟩ => SqL.of (f.k _ _ u6 rfl (by simp))) ?_ ?_
    · rintro j y H7 hj ⟨e7, f7⟩
      rw [List.getElem?_map] at hj
      cases c : [f1, f2, f3][j]? with
      | none => rw [c] at hj; cases hj
      | some f =>
        rw [c] at hj
        obtain rfl := (Option.some.inj hj).symm
        refine ⟨rfl, lamr_word ((all3 f (List.mem_of_getElem? c)).keepT f7 .nil) (word_NoRound T) ⟨⟨rfl, rfl⟩, dh, dl, kvs, lw, 0, wa6.stay f7 .nil (by simp) (by simp), w2, lwn, lwl⟩ rfl fun H8 f8 => ?_⟩
        refine ⟨rfl, ?_⟩
        refine ⟨_, rfl, ?_⟩
        rw [str_dec, decide_eq_true rfl]
        exact ⟨f8.k _ _ e7 rfl (by simp), f7.trans f8⟩
    rintro H7 ⟨e7, f7⟩
    refine ⟨Nat.zero_le _, fun te hte => ?_⟩
    refine newc_go hte fun H8 g8 u8 => ?_
    refine ⟨.list [], .list [], .lst (SqL.of (g8.k _ _ e7 rfl (by simp))) .nil, .lst (SqL.of u8) .nil, by decide +kernel, by decide +kernel, _, rfl, ?_⟩
    refine if_nt ?_
    -- a round begins
    have e68 : FrT K [] H6 H8 := f7.trans (g8.toT .nil)
    have t8 := e68.t t6
    have wa8 := wa6.stay e68 .nil (by simp) (by simp)
    have hR8 := e68.row (by simp) hR6
    have f08 : FrT K [r] H H8 := f02.trans ((f26.trans e68).mono (by simp))
    have all8 : ∀ f ∈ [f1, f2, f3], LamR K _ (.ref (He.ga K "NoRound")) (fun σ H' => (σ[1]? = some (some (.ref pw)) ∧ σ[4]? = some (some vb)) ∧ OffW K pw W H') f H8 := fun f hf => (all3 f hf).keepT e68 .nil
    have u68 := e68.k _ _ u6 rfl (by simp)
    clear f7 g8 u8 e7 hte hD e68 hpk u6 all3 wa6 hR6 t6 f26 wa2 t2 hR2 f02
    obtain ⟨⟨dx8, o8⟩, _⟩ := id wa8
    refine ⟨_, rfl, pw, dx8, _, rfl, o8, wx_begin, by show 2 ≤ sizeLine; decide, fun pl hpl => ?_⟩
    refine newc_go hpl fun H9 g9 u9 => ?_
    have e9 : FrT K [] H8 H9 := g9.toT .nil
    have hR9 := e9.row (by simp) hR8
    refine ⟨_, rfl, r, a, 2, rfl, hR9, e9.scr .nil (f08.scr hR.nl hS), by decide, by decide, fun kv H10 y0 y1 hR10 f10 => ?_⟩
    obtain ⟨kd, hk1, hk2⟩ : ∃ kd : Str, atI [V.str "all", V.str "alarm"] kv = some (.str kd) ∧ (kd = "all" ∨ kd = "alarm") := by
      obtain ⟨n, rfl⟩ : ∃ n : Nat, kv = n := ⟨kv.toNat, by omega⟩
      have hn : n < 2 := by omega
      match n, hn with
      | 0, _ => exact ⟨_, rfl, .inl rfl⟩
      | 1, _ => exact ⟨_, rfl, .inr rfl⟩
    have npl : pl ∉ [r] := by simpa using (hR8.out hpl).symm
    have e10 : FrT K [r] H8 H10 := (e9.mono (by simp)).trans (f10.toT hR9.nl)
    have wa10 := wa8.stay e10 hR8.nl (by simpa using wr.1) (by simpa using wr.2)
    refine ⟨pl, _, kv, _, rfl, rfl, SqL.of (f10.k _ _ u9 rfl npl), hk1, pw, dh, dl, kd, W, kvs, lw, W, 0, rfl, hk2, wa10, by omega, knd, fun ys dl11 H11 pm hdl11 wa11 f11 => ?_⟩
    have ysl : ys.length ≤ 100 := by
      have := lisB_len kvs (decide (kd = "all"))
      rw [pm.length_eq]
      omega
    have ysn : ∀ x ∈ ys, Num W x := fun x hx => by
      have := pm.mem_iff.mp hx
      unfold lisB at this
      obtain ⟨q, hq, rfl⟩ := List.mem_map.mp this
      exact knum _ (List.mem_map.mpr ⟨q, (List.mem_filter.mp hq).1, rfl⟩)
    have nlrp : NL [r, pw] H8 := by
      obtain ⟨_, _, _, z, _⟩ := id hR8
      exact .cons z rfl (.cons o8 rfl .nil)
    have e11 : FrT K [r, pw] H8 H11 := (e10.mono (by simp)).trans ((f11.toT wa10.nl1).mono (by simp))
    have hR11 := (f11.toT (K := K) wa10.nl1).row (by simpa using wr.1.symm) hR10
    refine ⟨_, rfl, (W : Int), rfl, by omega, by omega, ?_⟩
    refine for_range (lo := 0) (n := (W : Int).toNat) (fun i σ H' => ∃ (v6 : Option V) (dl' : Addr) (lw' : List Str), σ = [some (.ref r), some (.ref pw), some (.int W), some (.int far), some vb, some (.ref pk), v6, none, none] ∧ WiAt K H' pw dh dl' W kvs lw' (i : Nat) 0 ∧ (∀ x ∈ lw', Num W x) ∧ lw'.length ≤ 100 ∧ RowAt r a H' ∧ FrT K [r, pw] H8 H')
      ⟨_, dl11, ys, rfl, wa11, ysn, ysl, hR11, e11⟩ ?_ ?_
    · rintro i σ H12 hi ⟨v6, dl12, lw12, rfl, wa12, n12, l12, hR12, e12⟩
      have hi' : i < W := by omega
      have t12 := e12.t t8
      refine ⟨by rw [eq]; exact t12.2 _ (tl_mem lam_lrounds), fun H13 k1 k2 k3 => ?_⟩
      rw [eq] at k3
      obtain ⟨g13, t13⟩ := tb_grow T lam_lrounds t12 k1 k2 k3
      clear k1 k2 k3
      have wa13 := wa12.stay g13 .nil (by simp) (by simp)
      have hR13 := g13.row (by simp) hR12
      obtain ⟨⟨dx13, o13⟩, _⟩ := id wa13
      refine ⟨_, rfl, pw, dx13, _, rfl, o13, wx_say, _, rfl, pw, dh, dl12, vb, W, kvs, lw12, (i : Nat), 0, rfl, wa13, fun z => absurd z (by omega), fun _ => ⟨hb, fun H14 f14 => ⟨rfl, 3, "bit", word_BadBit T, fun H15 f15 => ?_⟩⟩⟩
      have g15 : FrT K [] H13 H15 := f14.trans (f15.toT .nil)
      refine ⟨rfl, ?_⟩
      refine ⟨_, rfl, ?_⟩
      rw [str_dec, decide_eq_true rfl]
      refine if_nt ?_
      have wa15 := wa13.stay g15 .nil (by simp) (by simp)
      have hR15 := g15.row (by simp) hR13
      have e15 : FrT K [r, pw] H8 H15 := e12.trans ((g13.trans g15).mono (by simp))
      obtain ⟨⟨dx15, o15⟩, _⟩ := id wa15
      have hS15 : Scr K a H15 := e15.scr nlrp (f08.scr hR.nl hS)
      refine ⟨_, rfl, pw, dx15, _, rfl, o15, wx_say, _, rfl, r, a, 2, rfl, hR15, hS15, by decide, by decide, fun bv H16 y0 y1 hR16 f16 => ?_⟩
      have e16 : FrT K [r] H15 H16 := f16.toT hR15.nl
      have wa16 := wa15.stay e16 hR15.nl (by simpa using wr.1) (by simpa using wr.2)
      refine ⟨pw, dh, dl12, bv, W, kvs, lw12, (i : Nat), 0, rfl, by omega, wa16, w2, by omega, by omega, n12, l12, fun z => absurd z (by omega), fun _ dl17 H17 hdl17 wa17 f17 => ?_⟩
      refine ⟨_, dl17, _, rfl, wa17, fun x hx => n12 x (List.mem_filter.mp hx).1, Nat.le_trans (List.length_filter_le _ _) l12, (f17.toT (K := K) wa16.nl1).row (by simpa using wr.1.symm) hR16, e15.trans ((e16.mono (by simp)).trans ((f17.toT wa16.nl1).mono (by simp)))⟩
    rintro σ H12 ⟨v6, dl12, lw12, rfl, wa12, n12, l12, hR12, e12⟩
    have eW : (((W : Int).toNat : Nat) : Int) = (W : Int) := by omega
    rw [eW] at wa12
    have t12 := e12.t t8
    have nk : pk ∉ [r, pw] := fun z => by
      simp only [List.mem_cons, List.not_mem_nil, or_false] at z
      rcases z with rfl | rfl
      · obtain ⟨i, j, k, z, _⟩ := hR8
        rw [u68] at z
        have q : ([V.ref f1, V.ref f2, V.ref f3] : List V)[1]? = [V.ref a, V.int i, V.int j, V.int k][1]? := congrArg (fun l : List V => l[1]?) (HO.lst.inj (Option.some.inj z))
        cases q
      · rw [u68] at o8
        cases o8
    have u12 := e12.k _ _ u68 rfl nk
    refine ⟨_, rfl, pk, rfl, ⟨_, SqL.of u12⟩, fun D hD => ?_⟩
    refine lc_list (K := K) (a := pk) (xs := [f1, f2, f3].map V.ref) (fun j H' => H' D = some (.lst []) ∧ FrT K [] H12 H')
      ⟨upd_same, (Frm.of (same_upd hD)).toT .nil⟩ (fun j H' _ ⟨_, f⟩ => SqL.of (f.k _ _ u12 rfl (by simp))) ?_ ?_
    · rintro j y H13 hj ⟨e13, f13⟩
      rw [List.getElem?_map] at hj
      cases c : [f1, f2, f3][j]? with
      | none => rw [c] at hj; cases hj
      | some f =>
        rw [c] at hj
        obtain rfl := (Option.some.inj hj).symm
        refine ⟨rfl, lamr_word (((all8 f (List.mem_of_getElem? c)).keepT e12 nlrp).keepT f13 .nil) (word_NoRound T) ⟨⟨rfl, rfl⟩, dh, dl12, kvs, lw12, 0, wa12.stay f13 .nil (by simp) (by simp), w2, n12, l12⟩ rfl fun H14 f14 => ?_⟩
        refine ⟨rfl, ?_⟩
        refine ⟨_, rfl, ?_⟩
        rw [str_dec, decide_eq_true rfl]
        exact ⟨f14.k _ _ e13 rfl (by simp), f13.trans f14⟩
    rintro H13 ⟨e13, f13⟩
    refine ⟨Nat.zero_le _, fun te hte => ?_⟩
    refine newc_go hte fun H14 g14 u14 => ?_
    refine ⟨.list [], .list [], .lst (SqL.of (g14.k _ _ e13 rfl (by simp))) .nil, .lst (SqL.of u14) .nil, by decide +kernel, by decide +kernel, _, rfl, ?_⟩
    have e1214 : FrT K [] H12 H14 := f13.trans (g14.toT .nil)
    have wa14 := wa12.stay e1214 .nil (by simp) (by simp)
    have hR14 := e1214.row (by simp) hR12
    have e14 : FrT K [r, pw] H8 H14 := e12.trans (e1214.mono (by simp))
    have t14 := e14.t t8
    clear all8 f13 g14 u14 e13 hte hD u12
    refine if_nt ?_
    obtain ⟨⟨dx14, o14⟩, _⟩ := id wa14
    refine ⟨_, rfl, pw, dx14, _, rfl, o14, wx_looks, pw, dh, dl12, W, kvs, lw12, W, 0, rfl, wa14, ?_⟩
    refine ⟨rfl, ?_⟩
    refine ⟨_, rfl, ?_⟩
    refine if_nt ?_
    -- a walk to its end
    refine ⟨_, rfl, fun qk dx hqk hdx hnx => ⟨qk, dx, pw, "all", rfl, .inl rfl, upd_same, fun qr qf qp H16 hqr hqf hqp vk16 f16 => ⟨rfl, ?_⟩⟩⟩
    have g16 : Frm [] H14 H16 := Frm.fresh (((Frm.refl _ _).new hdx).new hqk) f16 (by simpa using hqk)
    have hqr0 : H14 qr = none := upd_back (upd_back hqr)
    have hqf0 : H14 qf = none := upd_back (upd_back hqf)
    have hqp0 : H14 qp = none := upd_back (upd_back hqp)
    have e1416 : FrT K [] H14 H16 := g16.toT .nil
    have wa16 := wa14.stay e1416 .nil (by simp) (by simp)
    have hR16 := e1416.row (by simp) hR14
    have nlq : dl12 ≠ qr ∧ dl12 ≠ qf ∧ dl12 ≠ qp := ⟨ne_of_none wa14.li hqr0, ne_of_none wa14.li hqf0, ne_of_none wa14.li hqp0⟩
    have vk0 : VkOk K H16 qk pw qr qf qp dh dl12 W kvs lw12 none 0 ⟨"all", [[]], none, [], []⟩ 1 := ⟨vk16, ⟨lw12, wa16, List.Perm.refl _⟩, nlq, .inl rfl, w2, by omega, knd, knum, ⟨fun g hg => (by rw [List.mem_singleton.mp hg]; exact ⟨Nat.zero_le _, fun _ h => absurd h (by simp)⟩), fun l e => (by cases e), ⟨Nat.le_refl _, Nat.zero_le _, Nat.zero_le _⟩, l12⟩⟩
    have mz : 1 + meas W ⟨"all", [[]], none, [], []⟩ ≤ 899999 := by
      have z : (List.range 13).all (fun W => decide (1 + meas W ⟨"all", [[]], none, [], []⟩ ≤ 899999)) = true := by decide +kernel
      exact of_decide_eq_true (List.all_eq_true.mp z W (List.mem_range.mpr (by omega)))
    obtain ⟨⟨dxq, oq⟩, _⟩ := id vk0.wk
    refine ⟨_, rfl, qk, dxq, _, rfl, oq, vx_all, qk, pw, qr, qf, qp, dh, dl12, W, kvs, lw12, none, 0, _, 1, rfl, vk0, by omega, fun pA dl17 H17 hdl17 hpA vk17 sd17 rest17 uA f17 => ?_⟩
    generalize hZ : allF W kvs (meas W ⟨"all", [[]], none, [], []⟩) (⟨"all", [[]], none, [], []⟩, lw12, none, 0) = Z at vk17 sd17 rest17 uA
    have nrq : r ∉ [qk, qr, qf, qp, pw] := by
      simp only [List.mem_cons, List.not_mem_nil, or_false, not_or]
      exact ⟨hR14.out hqk, hR14.out hqr0, hR14.out hqf0, hR14.out hqp0, wr.1.symm⟩
    have f1417 : Frm [qk, qr, qf, qp, pw] H14 H17 := (g16.mono (by simp)).trans f17
    have m1417 : Frm [pw] H14 H17 := ⟨fun b o e t hb => f1417.k b o e t (by
      simp only [List.mem_cons, List.not_mem_nil, or_false, not_or] at hb ⊢
      exact ⟨ne_of_none e hqk, ne_of_none e hqr0, ne_of_none e hqf0, ne_of_none e hqp0, hb⟩), f1417.b⟩
    have e1417 : FrT K [pw] H14 H17 := m1417.toT wa14.nl1
    have hR17 : RowAt r a H17 := e1417.row (by simpa using wr.1.symm) hR14
    have e17 : FrT K [r, pw] H8 H17 := e14.trans (e1417.mono (by simp))
    have t17 := e17.t t8
    have bz : 1 + meas W ⟨"all", [[]], none, [], []⟩ < 999999 := by omega
    generalize 1 + meas W ⟨"all", [[]], none, [], []⟩ = nb at vk17 mz bz
    -- .. and no step more
    refine ⟨by rw [eq]; exact t17.2 _ (tl_mem lam_lrounds), fun H18 k1 k2 k3 => ?_⟩
    rw [eq] at k3
    obtain ⟨g18, t18⟩ := tb_grow T lam_lrounds t17 k1 k2 k3
    clear k1 k2 k3
    have vk18 := vk17.stay g18 .nil (by simp) (by simp) (by simp) (by simp) (by simp) (by simp)
    obtain ⟨⟨dx18, o18⟩, _⟩ := id vk18.wk
    refine ⟨_, rfl, qk, dx18, _, rfl, o18, vx_step, nil_of (vk18.step bz (fun _ _ => ⟨rfl, 7, "over", word_Over T, fun H19 f19 => ?_⟩) fun hne => absurd rest17 (hne sd17))⟩
    have e19 : FrT K [] H17 H19 := g18.trans (f19.toT .nil)
    have t19 := e19.t t17
    refine ⟨by rw [eq]; exact t19.2 _ (tl_mem lam_lrounds), fun H20 k1 k2 k3 => ?_⟩
    rw [eq] at k3
    obtain ⟨g20, t20⟩ := tb_grow T lam_lrounds t19 k1 k2 k3
    clear k1 k2 k3
    have vk20 := vk17.stay (e19.trans g20) .nil (by simp) (by simp) (by simp) (by simp) (by simp) (by simp)
    obtain ⟨⟨dx20, o20⟩, _⟩ := id vk20.wk
    refine ⟨_, rfl, qk, dx20, _, rfl, o20, vx_round, qk, pw, qr, qf, qp, dh, dl17, W, kvs, _, _, _, _, nb, rfl, vk20, by omega, sd17, rest17, ⟨rfl, 7, "over", word_Over T, fun H21 f21 => ?_⟩⟩
    have e21 : FrT K [] H17 H21 := e19.trans (g20.trans (f21.toT .nil))
    refine ⟨by show 2 ≤ sizeLine; decide, fun pu hpu => ?_⟩
    refine newc_go hpu fun H22 g22 u22 => ?_
    refine ⟨by show 2 ≤ sizeLine; decide, fun pv hpv => ?_⟩
    refine newc_go hpv fun H23 g23 u23 => ?_
    have e23 : FrT K [] H17 H23 := e21.trans ((g22.toT .nil).trans (g23.toT .nil))
    refine ⟨.list ((["over", "over"] : List Str).map .str), .list ((["over", "over"] : List Str).map .str), .lst (SqL.of (g23.k _ _ u22 rfl (by simp))) (dp_strs ["over", "over"]), .lst (SqL.of u23) (dp_strs ["over", "over"]), by decide +kernel, by decide +kernel, ?_⟩
    have ev : (PyData.list (((["over", "over"] : List Str)).map .str)).eqv (.list ((["over", "over"] : List Str).map .str)) = true := by decide +kernel
    rw [ev]
    exact k H23 (e23.row (by simp) hR17) ((f08.mono (by simp)).trans (e17.trans (e23.mono (by simp))))
end
end B

set_option Elab.async false
set_option linter.all false
set_option maxRecDepth 100000
set_option maxHeartbeats 4000000
namespace B
open PySem PySem.Spec PyProof.Rows L2
open SX (S)
theorem next_seq {a b : TS} {D : Ends} {rt : VK} {bk ct : L2.St → Hp → Prop} {σ : L2.St} {H : Hp} (h : tSeq a b D σ H) : tNext { nx := tSeq a b D, rt := rt, bk := bk, ct := ct } σ H := h
theorem row_strs {r a p : Addr} {H : Hp} {xs : List Str} (hR : RowAt r a H) (h : H p = some (.lst (xs.map V.str))) : p ≠ r := by
  rintro rfl
  obtain ⟨i, m, b, e, _⟩ := hR
  rw [h] at e
  have e := HO.lst.inj (Option.some.inj e)
  cases xs with
  | nil => cases e
  | cons x l => cases e
/-- where a turn stands: the row, the names, the wire on which they hang -/
structure TurnB (K : PySem.W.Frag) (H0 H : Hp) (r a pn pw dh dl : Addr) (W : Nat) (xs : List Str) : Prop where
  row : RowAt r a H
  ns : H pn = some (.lst (xs.map V.str))
  wi : WiAt K H pw dh dl W (calmK xs) [] W 0
  fr : FrT K [] H0 H
section
variable {K : PySem.W.Frag} {H0 H H' : Hp} {r a pn pw dh dl : Addr} {W : Nat} {xs : List Str}
theorem TurnB.layT (h : TurnB K H0 H r a pn pw dh dl W xs) (f : FrT K [] H H') : TurnB K H0 H' r a pn pw dh dl W xs :=
  ⟨f.row (by simp) h.row, f.k _ _ h.ns rfl (by simp), h.wi.stay f .nil (by simp) (by simp), h.fr.trans f⟩
theorem TurnB.lay (h : TurnB K H0 H r a pn pw dh dl W xs) (f : Frm [] H H') : TurnB K H0 H' r a pn pw dh dl W xs := h.layT (f.toT .nil)
theorem TurnB.taken (h : TurnB K H0 H r a pn pw dh dl W xs) (f : Frm [r] H H') (hr : RowAt r a H') (hr0 : H0 r = none) : TurnB K H0 H' r a pn pw dh dl W xs := by
  have w := wi_row h.row h.wi
  exact ⟨hr, f.k _ _ h.ns rfl (by simpa using row_strs h.row h.ns), h.wi.stay (f.toT h.row.nl) h.row.nl (by simpa using w.1) (by simpa using w.2), h.fr.fresh (f.toT h.row.nl) (by simpa using hr0)⟩
end
theorem lam_law : (pd_law, ("law.<locals>.<lambda>" : Str)) ∈ lams := by decide +kernel
section
variable {P : Program} {w : World} {K : PySem.W.Frag} {mg : Str → Option Value} {base : Heap}
@[elab_as_elim] theorem putc_go {H : Hp} {p : Addr} {o : HO} {G : Hp → Prop} (k : ∀ H', Frm [p] H H' → H' p = some o → G H') : G (upd H p o) := k _ ((Frm.refl _ _).put (by simp)) upd_same
theorem iteL {c : Bool} {A B : Prop} {Pf R : Addr → Hp → Prop} (go : ∀ p H', Pf p H' → R p H') (h1 : (∀ p H', Pf p H' → R p H') → c = true → A) (h2 : (∀ p H', Pf p H' → R p H') → c = false → B) : if c = true then A else B := iteB (h1 go) (h2 go)
theorem inV_mem {x : Str} {xs : List Str} (h : inV (V.str x) (xs.map V.str) = true) : x ∈ xs := by
  unfold inV at h
  rw [List.any_map, List.any_eq_true] at h
  obtain ⟨y, hy, e⟩ := h
  have e2 : (y == x) = true := e
  rw [beq_iff_eq.mp e2] at hy
  exact hy
theorem calm_len (xs : List Str) : (calmK xs).length = xs.length := by
  unfold calmK
  rw [List.length_map]
theorem deed_there {xs : List Str} {x : Str} (h : x ∈ xs) : ¬ deedW (calmK xs) "hang" x = "" := by
  have e : hasK (calmK xs) x = true := by rw [has_key, calm_keys]; exact h
  unfold deedW
  rw [if_pos rfl, if_pos e]
  decide +kernel
theorem deed_not {xs : List Str} {x wd : Str} (h : x ∉ xs) (hw : wd ≠ "hang") : ¬ deedW (calmK xs) wd x = "" := by
  have e : ¬ hasK (calmK xs) x = true := fun z => h (by rw [has_key, calm_keys] at z; exact z)
  unfold deedW
  rw [if_neg hw, if_neg e]
  decide +kernel
/-- where the lambdas that ask with no number are refused: o the odd one -/
def OddC (K : PySem.W.Frag) (pn pw dh dl : Addr) (W : Nat) (xs : List Str) (vo : V) (σ : L2.St) (H : Hp) : Prop :=
  (σ[3]? = some (some (.int (W : Int))) ∧ σ[4]? = some (some (.ref pn)) ∧ σ[5]? = some (some (.ref pw)) ∧ σ[8]? = some (some vo)) ∧ WiAt K H pw dh dl W (calmK xs) [] W 0 ∧ H pn = some (.lst (xs.map V.str)) ∧ Tb K H
/-- where the lambdas that ask for what doesn't hang are refused -/
def NotC (K : PySem.W.Frag) (pw dh dl : Addr) (W : Nat) (xs : List Str) (x : Str) (σ : L2.St) (H : Hp) : Prop :=
  (σ[5]? = some (some (.ref pw)) ∧ σ[10]? = some (some (.str x))) ∧ WiAt K H pw dh dl W (calmK xs) [] W 0 ∧ Tb K H
theorem nv_num {W : Nat} {x : Str} (h : Num W x) (hw : W ≤ 12) : x.length ≤ 1000000 ∧ numV W (.str x) = true := by
  have hl := num_len h
  refine ⟨by rw [hl]; exact Nat.le_trans hw (by decide), ?_⟩
  show (decide (x.length = W) && bits01 x) = true
  rw [decide_eq_true hl, Bool.true_and]
  obtain ⟨l, rfl, _, b⟩ := h
  unfold bits01
  refine List.all_eq_true.mpr fun c hc => ?_
  rcases b c hc with rfl | rfl <;> decide +kernel
abbrev AL2 (K : PySem.W.Frag) : V → V → Hp → Prop := AlStep K (AlStep K (AlStep K fun _ _ _ => False))
theorem c_lalike (T : Txt P w K mg base) : CalX CX0 P w K mg base 4 "_law_alike" (spAl (AL2 K)) :=
  alike_step T (steady_step (steady_step steady0)) (alike_step T (steady_step steady0) (alike_step T steady0 (alike0 T)))
def spLaw (K : PySem.W.Frag) : Sp := fun vs H Q _ => ∃ a : Addr, vs = [.ref a] ∧ Scr K a H ∧ Tb K H ∧ ∀ H', Q (.bl true) H'
theorem law_ok (T : Txt P w K mg base) {fd : FuncData} (F : FunD K d_law.name d_law.qual d_law.params d_law.body d_law.scope (He.DefD.dvs K d_law) (He.DefD.kws K d_law) (He.fAd K d_law.at_) fd) : FnOk P w K mg base CX0 18 (He.fAd K d_law.at_) fd ["_law_script"] (spLaw K) := by
  refine okT (p := pd_law) F sc_law (fun vs H Q E h => ?_) (fun A outer s H vs Q E hr h => ?_)
  · obtain ⟨a, rfl, _⟩ := h
    rfl
  · obtain ⟨a, rfl, hS, ht, k⟩ := h
    have hu := hu_of hr
    have eq : ((cxOf CX0 P w K mg base ["_law_script", "_law_row", "_law_turn", "_law_width_here", "_law_names", "_law_wire", "_law_far", "_law_bad", "_law_odd_here", "_law_works", "_law_number_here", "_law_kind", "_law_work"] d_law.qual d_law.scope (He.fAd K pd_law) (.ref (He.codeOf K pd_law)) A outer s H E).env.qual ++ "<lambda>" : Str) = "law.<locals>.<lambda>" := by kernel_rfl
    refine ⟨_, PSs.nox (pss_cons (ps_set (i := 1) sc_law.nd rfl (Or.inl rfl) (pe_lst (pa_cons (pv 0) (pa_cons pe_int (pa_cons pe_int (pa_cons pe_int pa_nil))))))
    (pss_cons (ps_for PassesOwn.never rfl (pi_range1 rfl (n_range T) (pa_cons pe_int pa_nil)) (pg_name (i := 2) sc_law.nd rfl (Or.inl rfl))
      (pss_cons (ps_set (i := 3) sc_law.nd rfl (Or.inr rfl) (pe_cx (c_lwidth T) hr (by decide) rfl pass0 (pa_cons (pv 1) pa_nil)))
      (pss_cons (ps_set (i := 4) sc_law.nd rfl (Or.inr rfl) (pe_cx (c_lthings T) hr (by decide) rfl pass0 (pa_cons (pv 1) (pa_cons (pv 3) (pa_cons pe_int pa_nil)))))
      (pss_cons (ps_set (i := 5) sc_law.nd rfl (Or.inr rfl) (pe_cx (c_lmade T) hr (by decide) rfl pass0 (pa_cons (pv 3) (pa_cons (pv 4) pa_nil))))
      (pss_cons (ps_set (i := 6) sc_law.nd rfl (Or.inl rfl) (pe_op op_add pe_int (pe_cx (c_ltaken T) hr (by decide) rfl pass0 (pa_cons (pv 1) (pa_cons (pe_op op_pow pe_int pe_int) pa_nil)))))
      (pss_cons (ps_set (i := 7) sc_law.nd rfl (Or.inl rfl) (pe_ix ix_list (pe_lst (pa_cons pe_int (pa_cons pe_int (pa_cons (pe_op op_add pe_int (pv 6)) (pa_cons (pe_op op_sub pe_int (pv 6)) (pa_cons pe_bl pa_nil)))))) (pe_cx (c_ltaken T) hr (by decide) rfl pass0 (pa_cons (pv 1) (pa_cons pe_int pa_nil))) (fun _ _ => rfl)))
      (pss_cons (ps_if (pt_cmpR (op_neD hr.units) (pe_lcW (E := fun _ _ _ => False) (own := [("_law_work", 12)]) (g := gName 12) rfl rfl L2.takes0 (fun _ _ _ _ h => h) rfl sc_law.nd (pi_list (pe_cx (c_lwide T) hr (by decide) rfl pass0 (pa_cons (pv 7) pa_nil))) (blkOk_by (N := ["_law_script", "_law_row", "_law_turn", "_law_width_here", "_law_names", "_law_wire", "_law_far", "_law_bad", "_law_odd_here", "_law_works", "_law_number_here", "_law_kind", "_law_work"]) (sc := defScope s_law) (own := [("_law_work", 12)]) (by decide +kernel)) (fun _ _ _ _ _ => pg_name (i := 12) sc_law.nd rfl (Or.inl rfl)) (fun pins σ s H C cl fp I f => pts_one (by exact (pt_cmpR op_ne (pe_wordC (k := 7) (i := 12) T (hr.mono (by decide)) rfl rfl (Or.inl rfl)) pe_str (nomark _)))) (fun _ _ _ _ _ => by exact (pv 12))) (pe_lst pa_nil) (nomark _))
        (pss_one (ps_ret pe_bl))
        pss_nil)
      (pss_cons (ps_set (i := 8) sc_law.nd rfl (Or.inr rfl) (pe_cx (c_lodd T) hr (by decide) rfl pass0 (pa_cons (pv 1) (pa_cons (pv 3) (pa_cons (pv 6) pa_nil)))))
      (pss_cons (ps_set (i := 9) sc_law.nd rfl (Or.inl rfl) (pe_lst (pa_cons (pe_lam0 (k := 7) rfl rfl (fun _ _ _ _ _ _ => rfl) (T.tb pd_law (by decide +kernel)) rfl (lamP_by (N := ["_law_script", "_law_row", "_law_turn", "_law_width_here", "_law_names", "_law_wire", "_law_far", "_law_bad", "_law_odd_here", "_law_works", "_law_number_here", "_law_kind", "_law_work"]) (sc := defScope s_law) (by decide +kernel)) (fun _ _ _ _ _ _ _ hr => (pe_mx (m_Wire_hangW T) hr (by decide) (pv 5) (passes_call (takes_of rfl rfl rfl rfl) (fun _ _ _ _ h => h)) (pa_cons (pv 8) pa_nil)))) (pa_cons (pe_lam1 (k := 7) (a := "_law_a") rfl rfl rfl (fun s q cl t0 tk doc pm cv ctv ho => BindsTo.of_defaults rfl ho rfl rfl rfl) (T.tb pd_law (by decide +kernel)) rfl (lamP_by (N := ["_law_script", "_law_row", "_law_turn", "_law_width_here", "_law_names", "_law_wire", "_law_far", "_law_bad", "_law_odd_here", "_law_works", "_law_number_here", "_law_kind", "_law_work"]) (sc := defScope s_law) (by decide +kernel)) (fun _ _ _ _ _ _ _ hr => (pe_mx (m_Wire_offW T) hr (by decide) (pv 5) (passes_call (takes_of rfl rfl rfl rfl) (fun _ _ _ _ h => h)) (pa_cons (pv 8) pa_nil)))) (pa_cons (pe_lam1 (k := 7) (a := "_law_b") rfl rfl rfl (fun s q cl t0 tk doc pm cv ctv ho => BindsTo.of_defaults rfl ho rfl rfl rfl) (T.tb pd_law (by decide +kernel)) rfl (lamP_by (N := ["_law_script", "_law_row", "_law_turn", "_law_width_here", "_law_names", "_law_wire", "_law_far", "_law_bad", "_law_odd_here", "_law_works", "_law_number_here", "_law_kind", "_law_work"]) (sc := defScope s_law) (by decide +kernel)) (fun _ _ _ _ _ _ _ hr => (pe_mx (m_Wire_alarmW T) hr (by decide) (pv 5) (passes_call (takes_of rfl rfl rfl rfl) (fun _ _ _ _ h => h)) (pa_cons (pv 8) pa_nil)))) pa_nil)))))
      (pss_cons (ps_set (i := 9) sc_law.nd rfl (Or.inl rfl) (pe_op op_cat (pv 9) (pe_lst (pa_cons (pe_lam1 (k := 7) (a := "_law_c") rfl rfl rfl (fun s q cl t0 tk doc pm cv ctv ho => BindsTo.of_defaults rfl ho rfl rfl rfl) (T.tb pd_law (by decide +kernel)) rfl (lamP_by (N := ["_law_script", "_law_row", "_law_turn", "_law_width_here", "_law_names", "_law_wire", "_law_far", "_law_bad", "_law_odd_here", "_law_works", "_law_number_here", "_law_kind", "_law_work"]) (sc := defScope s_law) (by decide +kernel)) (fun _ _ _ _ _ _ _ hr => (pe_mx (m_Wire_calmW T) hr (by decide) (pv 5) (passes_call (takes_of rfl rfl rfl rfl) (fun _ _ _ _ h => h)) (pa_cons (pv 8) pa_nil)))) (pa_cons (pe_lam1 (k := 7) (a := "_law_e") rfl rfl rfl (fun s q cl t0 tk doc pm cv ctv ho => BindsTo.of_defaults rfl ho rfl rfl rfl) (T.tb pd_law (by decide +kernel)) rfl (lamP_by (N := ["_law_script", "_law_row", "_law_turn", "_law_width_here", "_law_names", "_law_wire", "_law_far", "_law_bad", "_law_odd_here", "_law_works", "_law_number_here", "_law_kind", "_law_work"]) (sc := defScope s_law) (by decide +kernel)) (fun _ _ _ _ _ _ _ hr => (pe_cx (c_metW T) hr (by decide) rfl (passes_call (takes_of rfl rfl rfl rfl) (fun _ _ _ _ h => h)) (pa_cons (pv 3) (pa_cons (pe_op op_cat (pv 4) (pe_lst (pa_cons (pv 8) (pa_cons pe_int pa_nil)))) pa_nil))))) pa_nil)))))
      (pss_cons (ps_expr (pe_bm PySem.F.plainAttrs_list PySem.F.slot_list_append PySem.F.type_list_append mt_append (pv 9) (pa_cons (pe_lam1 (k := 7) (a := "_law_f") rfl rfl rfl (fun s q cl t0 tk doc pm cv ctv ho => BindsTo.of_defaults rfl ho rfl rfl rfl) (T.tb pd_law (by decide +kernel)) rfl (lamP_by (N := ["_law_script", "_law_row", "_law_turn", "_law_width_here", "_law_names", "_law_wire", "_law_far", "_law_bad", "_law_odd_here", "_law_works", "_law_number_here", "_law_kind", "_law_work"]) (sc := defScope s_law) (by decide +kernel)) (fun _ _ _ _ _ _ _ hr => (pe_cx (c_fewestW T) hr (by decide) rfl (passes_call (takes_of rfl rfl rfl rfl) (fun _ _ _ _ h => h)) (pa_cons (pv 3) (pa_cons (pe_op op_cat (pv 4) (pe_lst (pa_cons (pv 8) (pa_cons pe_int pa_nil)))) pa_nil))))) pa_nil)))
      (pss_cons (ps_if (pt_cmpR (op_neD hr.units) (pe_lcW (E := fun _ _ _ => False) (own := [("_law_work", 12)]) (g := gName 12) rfl rfl L2.takes0 (fun _ _ _ _ h => h) rfl sc_law.nd (pi_list (pv 9)) (blkOk_by (N := ["_law_script", "_law_row", "_law_turn", "_law_width_here", "_law_names", "_law_wire", "_law_far", "_law_bad", "_law_odd_here", "_law_works", "_law_number_here", "_law_kind", "_law_work"]) (sc := defScope s_law) (own := [("_law_work", 12)]) (by decide +kernel)) (fun _ _ _ _ _ => pg_name (i := 12) sc_law.nd rfl (Or.inl rfl)) (fun pins σ s H C cl fp I f => pts_one (by exact (pt_cmpR op_ne (pe_wordV (k := 7) (i := 12) T I f (hr.mono (by decide)) rfl rfl (Or.inl rfl)) pe_str (nomark _)))) (fun _ _ _ _ _ => by exact (pv 12))) (pe_lst pa_nil) (nomark _))
        (pss_one (ps_ret pe_bl))
        pss_nil)
      (pss_cons (ps_set (i := 10) sc_law.nd rfl (Or.inr rfl) (pe_cx (c_lnumber T) hr (by decide) rfl pass0 (pa_cons (pv 1) (pa_cons (pv 3) pa_nil))))
      (pss_cons (ps_if (pt_cmpR op_in_seq (pv 10) (pv 4) rfl)
        (pss_one (ps_if (pt_cmpR op_ne (pe_word0 (k := 7) T rfl rfl (fun _ _ _ _ _ _ => rfl) (T.tb pd_law (by decide +kernel)) rfl (hr.mono (by decide)) (lamP_by (N := ["_law_script", "_law_row", "_law_turn", "_law_width_here", "_law_names", "_law_wire", "_law_far", "_law_bad", "_law_odd_here", "_law_works", "_law_number_here", "_law_kind", "_law_work"]) (sc := defScope s_law) (by decide +kernel)) (fun _ _ _ _ _ _ _ hr => (pe_mx (m_Wire_hang T) hr (by decide) (pv 5) (passes_call (takes_of rfl rfl rfl rfl) (fun _ _ _ _ h => h)) (pa_cons (pv 10) pa_nil))) rfl) pe_str (nomark _))
          (pss_one (ps_ret pe_bl))
          pss_nil))
        (pss_cons (ps_set (i := 9) sc_law.nd rfl (Or.inl rfl) (pe_lst (pa_cons (pe_lam0 (k := 7) rfl rfl (fun _ _ _ _ _ _ => rfl) (T.tb pd_law (by decide +kernel)) rfl (lamP_by (N := ["_law_script", "_law_row", "_law_turn", "_law_width_here", "_law_names", "_law_wire", "_law_far", "_law_bad", "_law_odd_here", "_law_works", "_law_number_here", "_law_kind", "_law_work"]) (sc := defScope s_law) (by decide +kernel)) (fun _ _ _ _ _ _ _ hr => (pe_mx (m_Wire_off T) hr (by decide) (pv 5) (passes_call (takes_of rfl rfl rfl rfl) (fun _ _ _ _ h => h)) (pa_cons (pv 10) pa_nil)))) (pa_cons (pe_lam1 (k := 7) (a := "_law_a") rfl rfl rfl (fun s q cl t0 tk doc pm cv ctv ho => BindsTo.of_defaults rfl ho rfl rfl rfl) (T.tb pd_law (by decide +kernel)) rfl (lamP_by (N := ["_law_script", "_law_row", "_law_turn", "_law_width_here", "_law_names", "_law_wire", "_law_far", "_law_bad", "_law_odd_here", "_law_works", "_law_number_here", "_law_kind", "_law_work"]) (sc := defScope s_law) (by decide +kernel)) (fun _ _ _ _ _ _ _ hr => (pe_mx (m_Wire_alarm T) hr (by decide) (pv 5) (passes_call (takes_of rfl rfl rfl rfl) (fun _ _ _ _ h => h)) (pa_cons (pv 10) pa_nil)))) (pa_cons (pe_lam1 (k := 7) (a := "_law_b") rfl rfl rfl (fun s q cl t0 tk doc pm cv ctv ho => BindsTo.of_defaults rfl ho rfl rfl rfl) (T.tb pd_law (by decide +kernel)) rfl (lamP_by (N := ["_law_script", "_law_row", "_law_turn", "_law_width_here", "_law_names", "_law_wire", "_law_far", "_law_bad", "_law_odd_here", "_law_works", "_law_number_here", "_law_kind", "_law_work"]) (sc := defScope s_law) (by decide +kernel)) (fun _ _ _ _ _ _ _ hr => (pe_mx (m_Wire_calm T) hr (by decide) (pv 5) (passes_call (takes_of rfl rfl rfl rfl) (fun _ _ _ _ h => h)) (pa_cons (pv 10) pa_nil)))) pa_nil)))))
        (pss_one (ps_if (pt_cmpR (op_neD hr.units) (pe_lcW (E := fun _ _ _ => False) (own := [("_law_work", 12)]) (g := gName 12) rfl rfl L2.takes0 (fun _ _ _ _ h => h) rfl sc_law.nd (pi_list (pv 9)) (blkOk_by (N := ["_law_script", "_law_row", "_law_turn", "_law_width_here", "_law_names", "_law_wire", "_law_far", "_law_bad", "_law_odd_here", "_law_works", "_law_number_here", "_law_kind", "_law_work"]) (sc := defScope s_law) (own := [("_law_work", 12)]) (by decide +kernel)) (fun _ _ _ _ _ => pg_name (i := 12) sc_law.nd rfl (Or.inl rfl)) (fun pins σ s H C cl fp I f => pts_one (by exact (pt_cmpR op_ne (pe_wordV (k := 7) (i := 12) T I f (hr.mono (by decide)) rfl rfl (Or.inl rfl)) pe_str (nomark _)))) (fun _ _ _ _ _ => by exact (pv 12))) (pe_lst pa_nil) (nomark _))
          (pss_one (ps_ret pe_bl))
          pss_nil))))
      (pss_cons (ps_set (i := 11) sc_law.nd rfl (Or.inr rfl) (pe_ix ix_list (pe_lst (pa_cons pe_str (pa_cons pe_str (pa_cons pe_str (pa_cons pe_str (pa_cons pe_str pa_nil)))))) (pe_cx (c_ltaken T) hr (by decide) rfl pass0 (pa_cons (pv 1) (pa_cons pe_int pa_nil))) (fun _ _ => rfl)))
      (pss_cons (ps_if (pt_cmpR (op_neD hr.units) (pe_lst (pa_cons (pe_word0 (k := 7) T rfl rfl (fun _ _ _ _ _ _ => rfl) (T.tb pd_law (by decide +kernel)) rfl (hr.mono (by decide)) (lamP_by (N := ["_law_script", "_law_row", "_law_turn", "_law_width_here", "_law_names", "_law_wire", "_law_far", "_law_bad", "_law_odd_here", "_law_works", "_law_number_here", "_law_kind", "_law_work"]) (sc := defScope s_law) (by decide +kernel)) (fun _ _ _ _ _ _ _ hr => (pe_mx (m_Wire_beginV T) hr (by decide) (pv 5) (passes_call (takes_of rfl rfl rfl rfl) (fun _ _ _ _ h => h)) (pa_cons (pv 11) pa_nil))) rfl) (pa_cons (pe_word1 (k := 7) (a := "_law_a") T rfl rfl rfl (fun s q cl t0 tk doc pm cv ctv ho => BindsTo.of_defaults rfl ho rfl rfl rfl) (T.tb pd_law (by decide +kernel)) rfl (hr.mono (by decide)) (lamP_by (N := ["_law_script", "_law_row", "_law_turn", "_law_width_here", "_law_names", "_law_wire", "_law_far", "_law_bad", "_law_odd_here", "_law_works", "_law_number_here", "_law_kind", "_law_work"]) (sc := defScope s_law) (by decide +kernel)) (fun _ _ _ _ _ _ _ hr => (pe_mkx (k_WalkV T) hr (by decide) rfl (passes_call (takes_of rfl rfl rfl rfl) (fun _ _ _ _ h => h)) (pa_cons (pv 5) (pa_cons (pv 11) pa_nil)))) rfl) pa_nil))) (pe_lst (pa_cons pe_str (pa_cons pe_str pa_nil))) (nomark _))
        (pss_one (ps_ret pe_bl))
        pss_nil)
      (pss_cons (ps_if (pt_not (pt_val (pe_cx (c_lalike T) hr (by decide) rfl pass0 (pa_cons (pe_lst (pa_cons (pe_mx0 (m_Wire_hung T) hr (by decide) (pv 5) pass0) (pa_cons (pe_mx0 (m_Wire_alarms T) hr (by decide) (pv 5) pass0) (pa_cons (pe_mx0 (m_Wire_looks T) hr (by decide) (pv 5) pass0) pa_nil)))) (pa_cons (pe_lst (pa_cons (pv 4) (pa_cons (pe_lst pa_nil) (pa_cons pe_int pa_nil)))) pa_nil)))))
        (pss_one (ps_ret pe_bl))
        pss_nil)
      (pss_one (ps_if (pt_not (pt_val (pe_cx (c_lrounds T) hr (by decide) rfl pass0 (pa_cons (pv 1) (pa_cons (pv 5) (pa_cons (pv 3) (pa_cons (pv 6) pa_nil)))))))
        (pss_one (ps_ret pe_bl))
        pss_nil)))))))))))))))))))
    (pss_one (ps_ret pe_bl)))), ?_⟩
    refine ⟨_, rfl, by show 4 ≤ sizeLine; decide, fun r hr0 => ?_⟩
    have hR0 : RowAt r a (upd H r (.lst [.ref a, .int 0, .int 0, .int 0])) := ⟨0, 0, 0, upd_same, by decide⟩
    have f0 : Frm [] H (upd H r (.lst [.ref a, .int 0, .int 0, .int 0])) := Frm.of (same_upd hr0)
    refine ⟨3, rfl, by decide, by decide, ?_⟩
    refine for_range (lo := 0) (n := (3 : Int).toNat) (fun i σ H' => ∃ (v2 v3 v4 v5 v6 v7 v8 v9 v10 v11 v12 : Option V), σ = [some (.ref a), some (.ref r), v2, v3, v4, v5, v6, v7, v8, v9, v10, v11, v12] ∧ RowAt r a H' ∧ FrT K [] H H')
      ⟨none, none, none, none, none, none, none, none, none, none, none, rfl, hR0, f0.toT .nil⟩ ?_ ?_
    · rintro i σ H1 hi ⟨v2, v3, v4, v5, v6, v7, v8, v9, v10, v11, v12, rfl, hR1, fb⟩
      refine ⟨_, rfl, r, a, rfl, hR1, fb.scr .nil hS, fun W H2 w1 w2 hR2 f2 => ?_⟩
      have fb2 := fb.fresh (f2.toT hR1.nl) (by simpa using hr0)
      refine ⟨_, rfl, _, rfl, r, a, W, 6, rfl, hR2, fb2.scr .nil hS, w2, by decide, by decide, fun xs pn H5 hnum hlen hnd hsrt hpn hR5 f5 => ?_⟩
      have fb5 := fb2.fresh (f5.toT hR2.nl) (by simpa using hr0)
      refine ⟨_, rfl, _, rfl, pn, W, xs, rfl, hpn, hnd, by omega, hnum, w1, w2, fb5.t ht, fun pw dh dl H6 hpw hdh hdl wa6 f6 => ?_⟩
      have b6 : TurnB K H H6 r a pn pw dh dl W xs := ⟨f6.row (by simp) hR5, f6.k _ _ hpn rfl (by simp), wa6, fb5.trans f6⟩
      have hpw0 : H pw = none := fb5.b _ hpw
      clear wa6 f6 hpn hR5 f5 fb5 fb2 hR2 f2 hR1 fb hdh hdl hpw
      have scr : ∀ {H' : Hp}, TurnB K H H' r a pn pw dh dl W xs → Scr K a H' := fun b => b.fr.scr .nil hS
      refine ⟨_, rfl, 10, 6, rfl, rfl, ⟨by decide, by decide, by decide⟩, r, a, 1000000, rfl, b6.row, scr b6, by decide, by decide, fun fv H7 y0 y1 hR7 f7 => ⟨1, fv, rfl, rfl, ?_⟩⟩
      have b7 := b6.taken f7 hR7 hr0
      clear hR7 f7 b6
      have hf1 : 1 ≤ 1 + fv := by omega
      refine ⟨_, rfl, 12, (1 + fv), rfl, rfl, _, rfl, 0, (1 + fv), rfl, rfl, by show 5 ≤ sizeLine; decide, fun p hp => ?_⟩
      refine newc_go hp fun H8 g8 u8 => ?_
      have b8 := b7.lay g8
      refine ⟨_, rfl, r, a, 5, rfl, b8.row, scr b8, by decide, by decide, fun v H9 y0 y1 hR9 f9 => ?_⟩
      have hp9 := f9.k p _ u8 rfl (by simpa using (b7.row.out hp).symm)
      have b9 := b8.taken f9 hR9 hr0
      obtain ⟨vb, hv, hb⟩ : ∃ vb : V, atI [V.int 0, V.int 13, V.int (12 + (1 + fv)), V.int (0 - (1 + fv)), V.bl true] v = some vb ∧ BadW vb := by
        obtain ⟨n, rfl⟩ : ∃ n : Nat, v = n := ⟨v.toNat, by omega⟩
        have hn : n < 5 := by omega
        match n, hn with
        | 0, _ => exact ⟨_, rfl, by show ¬ ((1 : Int) ≤ 0 ∧ (0 : Int) ≤ 12); omega⟩
        | 1, _ => exact ⟨_, rfl, by show ¬ ((1 : Int) ≤ 13 ∧ (13 : Int) ≤ 12); omega⟩
        | 2, _ => exact ⟨_, rfl, by show ¬ ((1 : Int) ≤ 12 + (1 + fv) ∧ 12 + (1 + fv) ≤ 12); omega⟩
        | 3, _ => exact ⟨_, rfl, by show ¬ ((1 : Int) ≤ 0 - (1 + fv) ∧ 0 - (1 + fv) ≤ 12); omega⟩
        | 4, _ => exact ⟨_, rfl, trivial⟩
      refine ⟨p, _, v, vb, rfl, rfl, SqL.of hp9, hv, ?_⟩
      clear hR9 f9 b8 g8 u8 b7 hp9 hp
      -- no width
      refine ⟨_, rfl, vb, rfl, hb, b9.fr.t ht, fun q ws H10 hq hws wl ref f10 => ?_⟩
      have b10 := b9.layT f10
      refine ⟨q, rfl, ⟨_, SqL.of hws⟩, fun D hD => ?_⟩
      refine lc_list (K := K) (a := q) (xs := ws.map V.ref) (fun j H' => H' D = some (.lst []) ∧ FrT K [] H10 H')
        ⟨upd_same, (Frm.of (same_upd hD)).toT .nil⟩ (fun j H' _ ⟨_, f⟩ => SqL.of (f.k _ _ hws rfl (by simp))) ?_ ?_
      · rintro j y H11 hj ⟨e11, f11⟩
        rw [List.getElem?_map] at hj
        cases c : ws[j]? with
        | none => rw [c] at hj; cases hj
        | some f =>
          rw [c] at hj
          obtain rfl := (Option.some.inj hj).symm
          refine ⟨rfl, f, _, _, _, rfl, word_BadWidth T, (ref f (List.mem_of_getElem? c)).keepT f11, fun H12 f12 => ?_⟩
          refine ⟨rfl, ?_⟩
          refine ⟨_, rfl, ?_⟩
          rw [str_dec, decide_eq_true rfl]
          exact ⟨f12.k _ _ e11 rfl (by simp), f11.trans f12⟩
      rintro H11 ⟨e11, f11⟩
      refine ⟨Nat.zero_le _, fun te hte => ?_⟩
      refine newc_go hte fun H12 g12 u12 => ?_
      refine ⟨.list [], .list [], .lst (SqL.of (g12.k _ _ e11 rfl (by simp))) .nil, .lst (SqL.of u12) .nil, by decide +kernel, by decide +kernel, _, rfl, ?_⟩
      refine if_nt ?_
      have b12 := b10.layT (f11.trans (g12.toT .nil))
      clear f11 g12 u12 e11 hte hD ref wl hws hq f10 b9 b10
      -- no number
      refine ⟨_, rfl, _, rfl, _, rfl, r, a, W, (1 + fv), rfl, b12.row, scr b12, w1, w2, fun vo H13 ho hno hR13 f13 => ?_⟩
      have b13 := b12.taken f13 hR13 hr0
      clear hR13 f13 b12
      have t13 := b13.fr.t ht
      refine ⟨by rw [eq]; exact t13.2 _ (tl_mem lam_law), fun f1 H14 k1 k2 k3 n1 d1 => ?_⟩
      rw [eq] at k3
      obtain ⟨g14, t14⟩ := tb_grow T lam_law t13 k1 k2 k3
      clear k1 k2 k3
      have p1 : LamR K _ (.ref (He.ga K "BadNumber")) (OddC K pn pw dh dl W xs vo) f1 H14 := ⟨_, d1, fun σ H' E Q hC kk => by
        obtain ⟨⟨e3, e4, e5, e8⟩, wa, hn, tb⟩ := hC
        obtain ⟨⟨dx, o1⟩, _⟩ := id wa
        exact ⟨_, e5, pw, dx, _, rfl, o1, wx_hang, _, e8, pw, dh, dl, vo, W, calmK xs, [], W, 0, rfl, wa, ho, hno, tb, kk⟩⟩
      refine ⟨by rw [eq]; exact t14.2 _ (tl_mem lam_law), fun f2 H15 k1 k2 k3 n2 d2 => ?_⟩
      rw [eq] at k3
      obtain ⟨g15, t15⟩ := tb_grow T lam_law t14 k1 k2 k3
      clear k1 k2 k3
      have p2 : LamR K _ (.ref (He.ga K "BadNumber")) (OddC K pn pw dh dl W xs vo) f2 H15 := ⟨_, d2, fun σ H' E Q hC kk => by
        obtain ⟨⟨e3, e4, e5, e8⟩, wa, hn, tb⟩ := hC
        obtain ⟨⟨dx, o1⟩, _⟩ := id wa
        exact ⟨_, e5, pw, dx, _, rfl, o1, wx_off, _, e8, pw, dh, dl, vo, W, calmK xs, [], W, 0, rfl, wa, ho, hno, tb, kk⟩⟩
      refine ⟨by rw [eq]; exact t15.2 _ (tl_mem lam_law), fun f3 H16 k1 k2 k3 n3 d3 => ?_⟩
      rw [eq] at k3
      obtain ⟨g16, t16⟩ := tb_grow T lam_law t15 k1 k2 k3
      clear k1 k2 k3
      have p3 : LamR K _ (.ref (He.ga K "BadNumber")) (OddC K pn pw dh dl W xs vo) f3 H16 := ⟨_, d3, fun σ H' E Q hC kk => by
        obtain ⟨⟨e3, e4, e5, e8⟩, wa, hn, tb⟩ := hC
        obtain ⟨⟨dx, o1⟩, _⟩ := id wa
        exact ⟨_, e5, pw, dx, _, rfl, o1, wx_alarm, _, e8, pw, dh, dl, vo, W, calmK xs, [], W, 0, rfl, wa, ho, hno, tb, kk⟩⟩
      refine ⟨by show 3 ≤ sizeLine; decide, fun q1 hq1 => ?_⟩
      refine newc_go hq1 fun H17 g17 u17 => ?_
      have t17 := (g17.toT (K := K) .nil).t t16
      refine ⟨_, rfl, by rw [eq]; exact t17.2 _ (tl_mem lam_law), fun f4 H18 k1 k2 k3 n4 d4 => ?_⟩
      rw [eq] at k3
      obtain ⟨g18, t18⟩ := tb_grow T lam_law t17 k1 k2 k3
      clear k1 k2 k3
      have p4 : LamR K _ (.ref (He.ga K "BadNumber")) (OddC K pn pw dh dl W xs vo) f4 H18 := ⟨_, d4, fun σ H' E Q hC kk => by
        obtain ⟨⟨e3, e4, e5, e8⟩, wa, hn, tb⟩ := hC
        obtain ⟨⟨dx, o1⟩, _⟩ := id wa
        exact ⟨_, e5, pw, dx, _, rfl, o1, wx_calm, _, e8, pw, dh, dl, vo, W, calmK xs, [], W, 0, rfl, wa, ho, hno, tb, kk⟩⟩
      refine ⟨by rw [eq]; exact t18.2 _ (tl_mem lam_law), fun f5 H19 k1 k2 k3 n5 d5 => ?_⟩
      rw [eq] at k3
      obtain ⟨g19, t19⟩ := tb_grow T lam_law t18 k1 k2 k3
      clear k1 k2 k3
      have p5 : LamR K _ (.ref (He.ga K "BadNumber")) (OddC K pn pw dh dl W xs vo) f5 H19 := ⟨_, d5, fun σ H' E Q hC kk => by
        obtain ⟨⟨e3, e4, e5, e8⟩, wa, hn, tb⟩ := hC
        refine ⟨_, e3, _, e4, _, e8, by show 2 ≤ sizeLine; decide, fun q1 hq1 => ?_⟩
        refine newc_go hq1 fun Ha ga ua => ?_
        refine ⟨pn, q1, _, _, rfl, rfl, ga.k _ _ hn rfl (by simp), ua, by show (xs.map V.str).length + 2 ≤ sizeLine; rw [List.length_map]; exact size12 (by omega), fun q2 hq2 => ?_⟩
        refine newc_go hq2 fun Hb gb ub => ?_
        exact ⟨W, q2, xs, vo, [.int 5], rfl, ub, fun x hx => nv_num (hnum x hx) w2, ho, hno, w1, w2, (ga.trans gb).toT (K := K) .nil |>.t tb, fun H2 f2 => kk H2 (((ga.trans gb).toT .nil).trans f2)⟩⟩
      refine ⟨by show 2 ≤ sizeLine; decide, fun q2 hq2 => ?_⟩
      refine newc_go hq2 fun H20 g20 u20 => ?_
      have e1720 : FrT K [] H17 H20 := g18.trans (g19.trans (g20.toT .nil))
      refine ⟨q1, q2, _, _, rfl, rfl, e1720.k _ _ u17 rfl (by simp), u20, by show 5 ≤ sizeLine; decide, fun q3 hq3 => ?_⟩
      refine newc_go hq3 fun H21 g21 u21 => ?_
      have t21 := ((g20.trans g21).toT (K := K) .nil).t t19
      refine ⟨_, rfl, .inl ⟨rfl, _, SqL.of u21⟩, by rw [eq]; exact t21.2 _ (tl_mem lam_law), fun f6 H22 k1 k2 k3 n6 d6 => ?_⟩
      rw [eq] at k3
      obtain ⟨g22, t22⟩ := tb_grow T lam_law t21 k1 k2 k3
      clear k1 k2 k3
      have p6 : LamR K _ (.ref (He.ga K "BadNumber")) (OddC K pn pw dh dl W xs vo) f6 H22 := ⟨_, d6, fun σ H' E Q hC kk => by
        obtain ⟨⟨e3, e4, e5, e8⟩, wa, hn, tb⟩ := hC
        refine ⟨_, e3, _, e4, _, e8, by show 2 ≤ sizeLine; decide, fun q1 hq1 => ?_⟩
        refine newc_go hq1 fun Ha ga ua => ?_
        refine ⟨pn, q1, _, _, rfl, rfl, ga.k _ _ hn rfl (by simp), ua, by show (xs.map V.str).length + 2 ≤ sizeLine; rw [List.length_map]; exact size12 (by omega), fun q2 hq2 => ?_⟩
        refine newc_go hq2 fun Hb gb ub => ?_
        exact ⟨W, q2, xs, vo, [.int 5], rfl, ub, fun x hx => nv_num (hnum x hx) w2, ho, hno, w1, w2, (ga.trans gb).toT (K := K) .nil |>.t tb, fun H2 f2 => kk H2 (((ga.trans gb).toT .nil).trans f2)⟩⟩
      refine ⟨q3, _, _, rfl, rfl, g22.k _ _ u21 rfl (by simp), by show 5 < sizeLine; decide, ?_⟩
      refine putc_go fun H23 g23 u23 => ?_
      have nl22 : NL [q3] H22 := .cons (g22.k _ _ u21 rfl (by simp)) rfl .nil
      have e23 := g23.toT (K := K) nl22
      have e2022 : FrT K [] H20 H22 := (g21.toT .nil).trans g22
      have e1320 : FrT K [] H13 H20 := (((g14.trans g15).trans g16).trans (g17.toT .nil)).trans e1720
      have b23 := b13.layT (e1320.trans (e2022.fresh e23 (by simpa using hq3)))
      have u23 : H23 q3 = some (.lst ([f1, f2, f3, f4, f5, f6].map V.ref)) := u23
      have all6 : ∀ f ∈ [f1, f2, f3, f4, f5, f6], LamR K _ (.ref (He.ga K "BadNumber")) (OddC K pn pw dh dl W xs vo) f H23 := fun f hf => by
        simp only [List.mem_cons, List.not_mem_nil, or_false] at hf
        rcases hf with rfl | rfl | rfl | rfl | rfl | rfl
        · exact (p1.keepT (g15.trans (g16.trans ((g17.toT .nil).trans (e1720.trans e2022)))) .nil).keepT e23 nl22
        · exact (p2.keepT (g16.trans ((g17.toT .nil).trans (e1720.trans e2022))) .nil).keepT e23 nl22
        · exact (p3.keepT ((g17.toT .nil).trans (e1720.trans e2022)) .nil).keepT e23 nl22
        · exact (p4.keepT (g19.trans ((g20.toT .nil).trans e2022)) .nil).keepT e23 nl22
        · exact (p5.keepT ((g20.toT .nil).trans e2022) .nil).keepT e23 nl22
        · exact p6.keepT e23 nl22
      clear p1 p2 p3 p4 p5 p6 d1 d2 d3 d4 d5 d6 n1 n2 n3 n4 n5 n6 e23 e2022 e1320 e1720 nl22 g14 g15 g16 g17 g18 g19 g20 g21 g22 g23 t13 t14 t15 t16 t17 t18 t19 t21 t22 u17 u20 u21 hq1 hq2 hq3
      refine ⟨_, rfl, q3, rfl, ⟨_, SqL.of u23⟩, fun D hD => ?_⟩
      refine lc_list (K := K) (a := q3) (xs := [f1, f2, f3, f4, f5, f6].map V.ref) (fun j H' => H' D = some (.lst []) ∧ FrT K [] H23 H')
        ⟨upd_same, (Frm.of (same_upd hD)).toT .nil⟩ (fun j H' _ ⟨_, f⟩ => SqL.of (f.k _ _ u23 rfl (by simp))) ?_ ?_
      · rintro j y H24 hj ⟨e24, f24⟩
        rw [List.getElem?_map] at hj
        cases c : [f1, f2, f3, f4, f5, f6][j]? with
        | none => rw [c] at hj; cases hj
        | some f =>
          rw [c] at hj
          obtain rfl := (Option.some.inj hj).symm
          have b24 := b23.layT f24
          refine ⟨rfl, lamr_word ((all6 f (List.mem_of_getElem? c)).keepT f24 .nil) (word_BadNumber T) ⟨⟨rfl, rfl, rfl, rfl⟩, b24.wi, b24.ns, b24.fr.t ht⟩ rfl fun H25 f25 => ?_⟩
          refine ⟨rfl, ?_⟩
          refine ⟨_, rfl, ?_⟩
          rw [str_dec, decide_eq_true rfl]
          exact ⟨f25.k _ _ e24 rfl (by simp), f24.trans f25⟩
      rintro H24 ⟨e24, f24⟩
      refine ⟨Nat.zero_le _, fun te hte => ?_⟩
      refine newc_go hte fun H25 g25 u25 => ?_
      refine ⟨.list [], .list [], .lst (SqL.of (g25.k _ _ e24 rfl (by simp))) .nil, .lst (SqL.of u25) .nil, by decide +kernel, by decide +kernel, _, rfl, ?_⟩
      refine if_nt ?_
      have b25 := b23.layT (f24.trans (g25.toT .nil))
      clear all6 f24 g25 u25 e24 hte hD u23 b23 b13
      -- a number of the width
      refine ⟨_, rfl, _, rfl, r, a, W, rfl, b25.row, scr b25, w2, fun x H26 hx hR26 f26 => ?_⟩
      have b26 := b25.taken f26 hR26 hr0
      clear hR26 f26 b25
      refine ⟨_, rfl, _, rfl, pn, _, rfl, .inl (SqL.of b26.ns), rfl, flat_strs xs, _, rfl, ?_⟩
      have t26 := b26.fr.t ht
      refine @iteL _ _ _ (fun _ H' => TurnB K H H' r a pn pw dh dl W xs) ?R1 ?g1 ?h1 ?k1
      case h1 =>
        intro go c
        have hin : x ∈ xs := inV_mem c
        refine ⟨by rw [eq]; exact t26.2 _ (tl_mem lam_law), fun H27 k1 k2 k3 => ?_⟩
        rw [eq] at k3
        obtain ⟨g27, t27⟩ := tb_grow T lam_law t26 k1 k2 k3
        clear k1 k2 k3
        have b27 := b26.layT g27
        obtain ⟨⟨dx, o1⟩, _⟩ := id b27.wi
        refine ⟨_, rfl, pw, dx, _, rfl, o1, wx_hang, _, rfl, pw, dh, dl, x, W, calmK xs, [], W, 0, rfl, b27.wi, hx, w2, by rw [calm_len]; omega, Nat.zero_le _, t27, fun _ H28 f28 => ⟨rfl, 4, "there", word_There T, fun H29 f29 => ?_⟩, fun z => absurd z (deed_there hin)⟩
        refine ⟨rfl, ?_⟩
        refine ⟨_, rfl, ?_⟩
        rw [str_dec, decide_eq_true rfl]
        refine if_nt ?_
        obtain ⟨z3, hz3⟩ : ∃ z : Addr, z = q3 := ⟨_, rfl⟩
        rw [← hz3]
        exact go z3 H29 (b27.layT (f28.trans (f29.toT .nil)))
      case k1 =>
        intro go c
        have hin : x ∉ xs := in_strs c
        refine ⟨by rw [eq]; exact t26.2 _ (tl_mem lam_law), fun f1 H27 k1 k2 k3 n1 d1 => ?_⟩
        rw [eq] at k3
        obtain ⟨g27, t27⟩ := tb_grow T lam_law t26 k1 k2 k3
        clear k1 k2 k3
        have p1 : LamR K _ (.ref (He.ga K "NotThere")) (NotC K pw dh dl W xs x) f1 H27 := ⟨_, d1, fun σ H' E Q hC kk => by
          obtain ⟨⟨e5, e10⟩, wa, tb⟩ := hC
          obtain ⟨⟨dx, o1⟩, _⟩ := id wa
          exact ⟨_, e5, pw, dx, _, rfl, o1, wx_off, _, e10, pw, dh, dl, x, W, calmK xs, [], W, 0, rfl, wa, hx, w2, by rw [calm_len]; omega, Nat.zero_le _, tb, fun _ H2 f2 => kk H2 f2, fun z => absurd z (deed_not hin (by decide))⟩⟩
        refine ⟨by rw [eq]; exact t27.2 _ (tl_mem lam_law), fun f2 H28 k1 k2 k3 n2 d2 => ?_⟩
        rw [eq] at k3
        obtain ⟨g28, t28⟩ := tb_grow T lam_law t27 k1 k2 k3
        clear k1 k2 k3
        have p2 : LamR K _ (.ref (He.ga K "NotThere")) (NotC K pw dh dl W xs x) f2 H28 := ⟨_, d2, fun σ H' E Q hC kk => by
          obtain ⟨⟨e5, e10⟩, wa, tb⟩ := hC
          obtain ⟨⟨dx, o1⟩, _⟩ := id wa
          exact ⟨_, e5, pw, dx, _, rfl, o1, wx_alarm, _, e10, pw, dh, dl, x, W, calmK xs, [], W, 0, rfl, wa, hx, w2, by rw [calm_len]; omega, Nat.zero_le _, tb, fun _ H2 f2 => kk H2 f2, fun z => absurd z (deed_not hin (by decide))⟩⟩
        refine ⟨by rw [eq]; exact t28.2 _ (tl_mem lam_law), fun f3 H29 k1 k2 k3 n3 d3 => ?_⟩
        rw [eq] at k3
        obtain ⟨g29, t29⟩ := tb_grow T lam_law t28 k1 k2 k3
        clear k1 k2 k3
        have p3 : LamR K _ (.ref (He.ga K "NotThere")) (NotC K pw dh dl W xs x) f3 H29 := ⟨_, d3, fun σ H' E Q hC kk => by
          obtain ⟨⟨e5, e10⟩, wa, tb⟩ := hC
          obtain ⟨⟨dx, o1⟩, _⟩ := id wa
          exact ⟨_, e5, pw, dx, _, rfl, o1, wx_calm, _, e10, pw, dh, dl, x, W, calmK xs, [], W, 0, rfl, wa, hx, w2, by rw [calm_len]; omega, Nat.zero_le _, tb, fun _ H2 f2 => kk H2 f2, fun z => absurd z (deed_not hin (by decide))⟩⟩
        refine ⟨by show 3 ≤ sizeLine; decide, fun q7 hq7 => ?_⟩
        refine newc_go hq7 fun H30 g30 u30 => ?_
        have b30 := b26.layT (((g27.trans g28).trans g29).trans (g30.toT .nil))
        have all3 : ∀ f ∈ [f1, f2, f3], LamR K _ (.ref (He.ga K "NotThere")) (NotC K pw dh dl W xs x) f H30 := fun f hf => by
          simp only [List.mem_cons, List.not_mem_nil, or_false] at hf
          rcases hf with rfl | rfl | rfl
          · exact p1.keepT (g28.trans (g29.trans (g30.toT .nil))) .nil
          · exact p2.keepT (g29.trans (g30.toT .nil)) .nil
          · exact p3.keepT (g30.toT .nil) .nil
        refine ⟨_, rfl, q7, rfl, ⟨_, SqL.of u30⟩, fun D hD => ?_⟩
        refine lc_list (K := K) (a := q7) (xs := [f1, f2, f3].map V.ref) (fun j H' => H' D = some (.lst []) ∧ FrT K [] H30 H')
          ⟨upd_same, (Frm.of (same_upd hD)).toT .nil⟩ (fun j H' _ ⟨_, f⟩ => SqL.of (f.k _ _ u30 rfl (by simp))) ?_ ?_
        · rintro j y H31 hj ⟨e31, f31⟩
          rw [List.getElem?_map] at hj
          cases c : [f1, f2, f3][j]? with
          | none => rw [c] at hj; cases hj
          | some f =>
            rw [c] at hj
            obtain rfl := (Option.some.inj hj).symm
            have b31 := b30.layT f31
            refine ⟨rfl, lamr_word ((all3 f (List.mem_of_getElem? c)).keepT f31 .nil) (word_NotThere T) ⟨⟨rfl, rfl⟩, b31.wi, b31.fr.t ht⟩ rfl fun H32 f32 => ?_⟩
            refine ⟨rfl, ?_⟩
            refine ⟨_, rfl, ?_⟩
            rw [str_dec, decide_eq_true rfl]
            exact ⟨f32.k _ _ e31 rfl (by simp), f31.trans f32⟩
        rintro H31 ⟨e31, f31⟩
        refine ⟨Nat.zero_le _, fun te hte => ?_⟩
        refine newc_go hte fun H32 g32 u32 => ?_
        refine ⟨.list [], .list [], .lst (SqL.of (g32.k _ _ e31 rfl (by simp))) .nil, .lst (SqL.of u32) .nil, by decide +kernel, by decide +kernel, _, rfl, ?_⟩
        refine if_nt ?_
        exact go q7 H32 (b30.layT (f31.trans (g32.toT .nil)))
      case g1 =>
        clear b26 t26
        rintro q8 H33 b33
        refine next_seq ?_
        -- no kind
        refine ⟨by show 5 ≤ sizeLine; decide, fun p hp => ?_⟩
        refine newc_go hp fun H34 g34 u34 => ?_
        have b34 := b33.lay g34
        refine ⟨_, rfl, r, a, 5, rfl, b34.row, scr b34, by decide, by decide, fun kv H35 y0 y1 hR35 f35 => ?_⟩
        have u35 := f35.k p _ u34 rfl (by simpa using (b33.row.out hp).symm)
        have b35 := b34.taken f35 hR35 hr0
        obtain ⟨kd, hk1, hk2, hk3⟩ : ∃ kd : Str, atI [V.str "All", V.str "", V.str "alarms", V.str "al", V.str "alarm "] kv = some (.str kd) ∧ kd ≠ "all" ∧ kd ≠ "alarm" := by
          obtain ⟨n, rfl⟩ : ∃ n : Nat, kv = n := ⟨kv.toNat, by omega⟩
          have hn : n < 5 := by omega
          match n, hn with
          | 0, _ => exact ⟨"All", rfl, by decide, by decide⟩
          | 1, _ => exact ⟨"", rfl, by decide, by decide⟩
          | 2, _ => exact ⟨"alarms", rfl, by decide, by decide⟩
          | 3, _ => exact ⟨"al", rfl, by decide, by decide⟩
          | 4, _ => exact ⟨"alarm ", rfl, by decide, by decide⟩
        refine ⟨p, _, kv, _, rfl, rfl, SqL.of u35, hk1, ?_⟩
        clear b33 b34 g34 u34 hR35 f35 u35 hp
        have t35 := b35.fr.t ht
        refine ⟨by rw [eq]; exact t35.2 _ (tl_mem lam_law), fun H36 k1 k2 k3 => ?_⟩
        rw [eq] at k3
        obtain ⟨g36, t36⟩ := tb_grow T lam_law t35 k1 k2 k3
        clear k1 k2 k3
        have b36 := b35.layT g36
        obtain ⟨⟨dx36, o36⟩, _⟩ := id b36.wi
        refine ⟨_, rfl, pw, dx36, _, rfl, o36, wx_begin, _, rfl, [.ref pw], kd, rfl, rfl, hk2, hk3, ⟨rfl, 2, "kind", word_BadKind T, fun H37 f37 => ?_⟩⟩
        have b37 := b36.lay f37
        have t37 := b37.fr.t ht
        refine ⟨by rw [eq]; exact t37.2 _ (tl_mem lam_law), fun H38 k1 k2 k3 => ?_⟩
        rw [eq] at k3
        obtain ⟨g38, t38⟩ := tb_grow T lam_law t37 k1 k2 k3
        clear k1 k2 k3
        have b38 := b37.layT g38
        refine ⟨_, rfl, _, rfl, fun qk dx hqk hdx hnx => ⟨[.ref qk, .ref pw], kd, rfl, rfl, hk2, hk3, ⟨rfl, 2, "kind", word_BadKind T, fun H39 f39 => ?_⟩⟩⟩
        have b39 : TurnB K H H39 r a pn pw dh dl W xs := b38.lay ((((Frm.refl _ _).new hdx).new hqk).trans f39)
        refine ⟨by show 2 ≤ sizeLine; decide, fun pu hpu => ?_⟩
        refine newc_go hpu fun H40 g40 u40 => ?_
        refine ⟨by show 2 ≤ sizeLine; decide, fun pv hpv => ?_⟩
        refine newc_go hpv fun H41 g41 u41 => ?_
        refine ⟨.list ((["kind", "kind"] : List Str).map .str), .list ((["kind", "kind"] : List Str).map .str), .lst (SqL.of (g41.k _ _ u40 rfl (by simp))) (dp_strs ["kind", "kind"]), .lst (SqL.of u41) (dp_strs ["kind", "kind"]), by decide +kernel, by decide +kernel, _, rfl, ?_⟩
        have ev : (PyData.list (((["kind", "kind"] : List Str)).map .str)).eqv (.list ((["kind", "kind"] : List Str).map .str)) = true := by decide +kernel
        rw [ev]
        refine if_nt ?_
        have b41 := b39.lay (g40.trans g41)
        clear b35 b36 b37 b38 b39 g36 g38 g40 g41 u40 u41 hpu hpv f37 f39 hqk hdx hnx t35 t36 t37 t38 o36
        -- nothing has changed
        obtain ⟨⟨dx41, o41⟩, _⟩ := id b41.wi
        refine ⟨_, rfl, pw, dx41, _, rfl, o41, wx_hung, pw, dh, dl, W, calmK xs, [], W, 0, rfl, b41.wi, by rw [calm_len]; omega, fun ys1 p1 H42 pm1 so1 hp1 u42 f42 => ?_⟩
        have b42 := b41.lay f42
        obtain ⟨⟨dx42, o42⟩, _⟩ := id b42.wi
        refine ⟨_, rfl, pw, dx42, _, rfl, o42, wx_alarms, pw, dh, dl, W, calmK xs, [], W, 0, rfl, b42.wi, by rw [calm_len]; omega, by rw [calm_keys]; exact hnd, fun ys2 p2 H43 pm2 so2 hp2 u43 f43 => ?_⟩
        have b43 := b42.lay f43
        obtain ⟨⟨dx43, o43⟩, _⟩ := id b43.wi
        refine ⟨_, rfl, pw, dx43, _, rfl, o43, wx_looks, pw, dh, dl, W, calmK xs, [], W, 0, rfl, b43.wi, ?_⟩
        refine ⟨by show 3 ≤ sizeLine; decide, fun q1 hq1 => ?_⟩
        refine newc_go hq1 fun H44 g44 u44 => ?_
        refine ⟨_, rfl, Nat.zero_le _, fun q2 hq2 => ?_⟩
        refine newc_go hq2 fun H45 g45 u45 => ?_
        refine ⟨by show 3 ≤ sizeLine; decide, fun q3' hq3 => ?_⟩
        refine newc_go hq3 fun H46 g46 u46 => ?_
        have b46 := b43.lay (g44.trans (g45.trans g46))
        have e44 := (g45.trans g46).k _ _ u44 rfl (by simp)
        have e45 := g46.k _ _ u45 rfl (by simp)
        have e42 := (f43.trans (g44.trans (g45.trans g46))).k _ _ u42 rfl (by simp)
        have e43 := (g44.trans (g45.trans g46)).k _ _ u43 rfl (by simp)
        obtain rfl : ys1 = xs := by
          rw [calm_keys] at pm1
          exact sorted_eq so1 hsrt pm1
        obtain rfl : ys2 = [] := by
          have : lisB (calmK ys1) false = [] := by
            unfold lisB calmK
            rw [List.filter_map]
            simp
          rw [this] at pm2
          exact List.perm_nil.mp pm2
        refine ⟨.ref q1, .ref q3', rfl, .inr ⟨q1, q3', _, _, rfl, rfl, .inl ⟨e44, u46⟩, rfl, by show 3 ≤ 100000; decide, fun j x y hx hy => ?_⟩, fun H47 f47 => ?_⟩
        · match j, hx, hy with
          | 0, hx, hy =>
            cases hx
            cases hy
            exact al_strs e42 b46.ns (by omega)
          | 1, hx, hy =>
            cases hx
            cases hy
            exact al_strs (xs := []) e43 e45 (Nat.zero_le _)
          | 2, hx, hy =>
            cases hx
            cases hy
            exact .inl (.inr (.inr (.inl ⟨0, rfl, rfl⟩)))
          | j + 3, hx, hy => cases hx
        have b47 := b46.lay f47
        refine ⟨_, rfl, ?_⟩
        refine if_nt ?_
        refine ⟨_, rfl, _, rfl, _, rfl, _, rfl, r, a, pw, dh, dl, W, calmK ys1, [], 1 + fv, rfl, b47.row, scr b47, b47.wi, fun _ h => absurd h (by simp), Nat.zero_le _, w1, w2, by rw [calm_len]; omega, by rw [calm_keys]; exact hnd, by rw [calm_keys]; exact hnum, hf1, b47.fr.t ht, fun H48 hR48 f48 => ?_⟩
        refine ⟨_, rfl, ?_⟩
        refine if_nt ?_
        exact ⟨_, _, _, _, _, _, _, _, _, _, _, rfl, hR48, b47.fr.fresh f48 (fun z hz => by
          simp only [List.mem_cons, List.not_mem_nil, or_false] at hz
          rcases hz with rfl | rfl
          · exact hr0
          · exact hpw0)⟩
    · rintro σ H1 _
      exact k H1
end
end B

set_option Elab.async false
set_option linter.all false
set_option maxRecDepth 100000
set_option maxHeartbeats 4000000
namespace B
open PySem PySem.Spec PyProof.Rows L2
abbrev cs (K : PySem.W.Frag) : List (Addr × Addr) := tf.map (He.cT K)
theorem law_at {w : World} {mg : Str → Option Value} {fa0 : Addr} {h : Heap} {K : PySem.W.Frag} (KX : K.In h) (G : h.Ns mainGlobals mg) (hmg : mg ("law" : Str) = some (.ref fa0)) (c : He.SaysX fa fn [] tf ex w h K) :
    LamX.LawAtS PySem.Challenge.rw_busfind_k01_refused w K CX0 18 63 "_law_script" mg fa0 h := by
  obtain ⟨fd, F⟩ := c.t.d.def_ 45 (d := d_law)
  have e := hmg.symm.trans (He.glo_ok KX G (c.t.d.fact 23))
  cases e
  have b := FunD.bindsA (ps := ["_law_script"]) F fun _ _ _ _ _ _ us hl => match us, hl with | [_], _ => rfl
  have cm : ∀ {p : Addr × Addr}, p ∈ cs K → ∃ q ∈ tf, p = He.cT K q := fun hp => by
    obtain ⟨q, hq, e⟩ := List.mem_map.mp hp
    exact ⟨q, hq, e.symm⟩
  refine ⟨fd, cs K, spLaw K, fun p hp => ?_, fun p hp => ?_, fun p hp => ?_, fun s u => b s [u] rfl, fun H a ns hl _ hT hS => ?_, fun base X2 G2 tb => ?_⟩
  · obtain ⟨q, hq, rfl⟩ := cm hp
    exact c.empty q hq
  · obtain ⟨q, hq, rfl⟩ := cm hp
    exact c.out q hq
  · obtain ⟨q, hq, rfl⟩ := cm hp
    exact PySem.W.codeHd_of_K KX (c.hd q hq)
  · exact ⟨a, rfl, ⟨ns, hS⟩, tb_empty hT, fun _ => rfl⟩
  · have T : Txt (PySem.Challenge.rw_busfind_k01_refused).prog w K mg base := ⟨X2, G2, c.t.d, c.more, fun p hp => tb (He.cT K p) (List.mem_map.mpr ⟨p, hp, rfl⟩)⟩
    exact law_ok T F
end B

set_option Elab.async false
set_option linter.all false
set_option maxRecDepth 100000
open PySem PySem.W PySem.Calls PyProof.Rows
set_option maxHeartbeats 0 in
theorem PySem.Challenge.cw_busfind_k01_refused_holds : PySem.Challenge.rw_busfind_k01_refused.Holds := by
  w_on; o_law
  refine HandSHeadRun.head_imp (r := B.R) (q := view B.R.prog [0, 101]) (H := B.hk) (ob := B.ob) (M := 16000) (loose := B.names) (d := HandSHeadRun.topDef B.R.prog 101) (kwd := []) B.ob_eq B.run (by kernel_rfl) (by kernel_rfl) (by kernel_rfl) (by rfl) (by first | assumption | decide +kernel) (by decide +kernel) ⟨rfl, rfl, rfl, rfl, rfl, by decide +kernel⟩ ?hw ?hc
  case hw => w_witness2
  case hc =>
    refine LamX.walk_ofTsE (l := PySem.Challenge.rw_busfind_k01_refused) (n := 63) (k := 18) (x := "_law_script") (CX := fun _ => L2.CX0) rfl (by decide) (by kernel_rfl) ⟨rfl, by decide, by decide⟩ ?F (fun _ _ _ _ _ z => z)
    intro w mg fa h Y G hmg0
    obtain ⟨K, KX, c⟩ := Y
    have hmg : mg ("law" : PySem.Str) = some (.ref fa) := by
      have e : (HandSHeadRun.topDef B.R.prog 101).name = ("law" : PySem.Str) := by kernel_rfl
      rw [← e]
      exact hmg0
    exact ⟨K, KX, B.law_at KX G hmg c⟩
