import PyProof.Rows.All
import Wide.All
import OpenK.AllK
import Wide.FinOn
import HandS.ExcInit
import HandS.ExcSuper
import KE.KExcSuper
import KE.KSuper
import HandS.HeadHook4
import HandS.HeadWalk
import HandS.Exc
import HandS.ExcIs
import HandS.ExcField
import KE.KIsAll
import KE.KTryMore
import HandS.ForMost
import HandS.ExcOwn
import HandS.WordsExc
import HandS.IsInst
import HandS.Lambda
import HandS.AnyAll
import HandS.EndTab
import HandS.Codes
import HandS.Defaults
import HandS.Head0
import HandS.Head1
import HandS.Head2
import HandS.HeadEnd
import HandS.HeadHook1
import HandS.HeadHook2
import HandS.HeadHook3
import HandS.Walk
import HandS.More
import HandS.FStr
import KE.KDflt
import HandS.Text
import HandS.Conv
import PyProof.RulesMatchSeq
import PyProof.Rows.MatchSeqLen
import HandS.SetFor
import PyProof.SetRoads
import PyProof.Rows.SetFrom
import PyProof.Rows.SortShellAny
import HandS.SetBool
import HandS.Star
import HandS.TupAny
import PySem.Challenge.RW_busfind_k18_days_played
set_option Elab.async false
set_option linter.all false
set_option maxRecDepth 100000
set_option maxHeartbeats 4000000
namespace B
open PySem PySem.Spec PyProof.Rows L2
/-! ### the head's facts of a def with the name __class__ free in it -/
abbrev FnS : Type := Option (Str × Str × Arguments × FuncBody × Scope × Addr × Addr)
def fnS (K : PySem.W.Frag) (p : Str × Option Str) : FnS := match K.lookup (He.fAd K p) with
  | some ⟨_, _, .func fd, _⟩ => some (fd.name, fd.qualname, fd.params, fd.body, fd.scope, fd.globals, fd.builtins)
  | _ => none
def sVal (d : He.DefD) : FnS := some (d.name, d.qual, d.params, .stmts d.body, d.scope, mainGlobals, builtinsNs)
def noneB (v : Value) : Bool := match v with
  | .none => true
  | _ => false
def strB (file : Str) (o : Option Value) : Bool := match o with
  | some (.str fl _) => decide (fl = file)
  | _ => false
theorem strB_ok {file : Str} {o : Option Value} (h : strB file o = true) : ∃ tf, o = some (.str file tf) := by
  unfold strB at h
  split at h
  · rename_i fl tf
    exact ⟨tf, by rw [of_decide_eq_true h]⟩
  · cases h
def cellB (K : PySem.W.Frag) (c : Str) (cc : Addr) : Bool := match K.lookup cc with
  | some ⟨_, _, .cell (some (.ref D)), _⟩ => decide (D = He.ga K c)
  | _ => false
def fileB (K : PySem.W.Frag) (file : Str) (v : Value) : Bool := match v with
  | .ref cda => match K.lookup cda with
    | some ⟨_, _, .fields vs, _⟩ => strB file vs[2]?
    | _ => false
  | _ => false
def cloB (K : PySem.W.Frag) (c : Str) (l : List (Str × Addr)) : Bool := match l with
  | [(n, cc)] => decide (n = "__class__") && cellB K c cc
  | _ => false
def cloOk (K : PySem.W.Frag) (file : Str) (d : He.DefD) (c : Str) : Bool := match K.lookup (He.fAd K d.at_) with
  | some ⟨_, _, .func fd, _⟩ => PySem.W.codeIn K fd.code d.qual && (cloB K c fd.closure && (fileB K file fd.code && noneB fd.defaults))
  | _ => false
theorem cellB_ok {K : PySem.W.Frag} {c : Str} {cc : Addr} (h : cellB K c cc = true) : ∃ cl cld csl, K.lookup cc = some ⟨cl, cld, .cell (some (.ref (He.ga K c))), csl⟩ := by
  unfold cellB at h
  split at h
  · rename_i cl cld D csl e
    exact ⟨cl, cld, csl, by rw [e, of_decide_eq_true h]⟩
  · cases h
theorem fileB_ok {K : PySem.W.Frag} {file : Str} {v : Value} (h : fileB K file v = true) : ∃ (cda : Addr) (ccl : Value) (cdd : Option Addr) (vs : Array Value) (ccs : Array (Option Value)) (tf : Tok), v = .ref cda ∧ K.lookup cda = some ⟨ccl, cdd, .fields vs, ccs⟩ ∧ vs[2]? = some (.str file tf) := by
  unfold fileB at h
  split at h
  · rename_i cda
    split at h
    · rename_i ccl cdd vs ccs e
      obtain ⟨tf, e2⟩ := strB_ok h
      exact ⟨cda, ccl, cdd, vs, ccs, tf, rfl, e, e2⟩
    · cases h
  · cases h
theorem sdef {K : PySem.W.Frag} {file : Str} {d : He.DefD} {c : Str} (e : fnS K d.at_ = sVal d) (h : cloOk K file d c = true) : ∃ (oc : Value) (od : Option Addr) (kV doc pm : Value) (an : Option Addr) (ct : Value) (osl : Array (Option Value)) (cc : Addr) (cl : Value) (cld : Option Addr) (csl : Array (Option Value)) (cda : Addr) (ccl : Value) (cdd : Option Addr) (vs : Array Value) (ccs : Array (Option Value)) (tf : Tok),
    K.lookup (He.fAd K d.at_) = some ⟨oc, od, .func (PySem.W.ksFn d.name d.qual d.params d.body d.scope .none kV doc pm an (.ref cda) ct cc), osl⟩ ∧ PySem.W.codeIn K (.ref cda) d.qual = true ∧ K.lookup cda = some ⟨ccl, cdd, .fields vs, ccs⟩ ∧ vs[2]? = some (.str file tf) ∧ K.lookup cc = some ⟨cl, cld, .cell (some (.ref (He.ga K c))), csl⟩ := by
  unfold fnS at e
  unfold cloOk at h
  cases q : K.lookup (He.fAd K d.at_) with
  | none =>
    rw [q] at h
    cases h
  | some o =>
    obtain ⟨oc, od, dt, osl⟩ := o
    rw [q] at h e
    cases dt with
    | func fd =>
      obtain ⟨n1, n2, n3, n4, n5, n6, n7, n8, n9, n10, n11, n12, n13, n14, n15⟩ := fd
      have e2 : (some (n1, n2, n3, n4, n5, n6, n15) : FnS) = some (d.name, d.qual, d.params, .stmts d.body, d.scope, mainGlobals, builtinsNs) := e
      simp only [Option.some.injEq, Prod.mk.injEq] at e2
      obtain ⟨h1, h2, h3, h4, h5, h6, h8⟩ := e2
      subst h1 h2 h3 h4 h5 h6 h8
      have c3 : (PySem.W.codeIn K n13 d.qual && (cloB K c n7 && (fileB K file n13 && noneB n8))) = true := h
      obtain ⟨k1, k2⟩ := He.ba c3
      obtain ⟨k3, k4⟩ := He.ba k2
      obtain ⟨k5, k6⟩ := He.ba k4
      obtain ⟨cda, ccl, cdd, vs, ccs, tf, rfl, a1, a2⟩ := fileB_ok k5
      unfold cloB at k3
      split at k3
      · rename_i n cc
        obtain ⟨k7, k8⟩ := He.ba k3
        obtain ⟨cl, cld, csl, a3⟩ := cellB_ok k8
        have en := of_decide_eq_true k7
        subst en
        cases n8 with
        | none => exact ⟨oc, od, n9, n10, n11, n12, n14, osl, cc, cl, cld, csl, cda, ccl, cdd, vs, ccs, tf, rfl, k1, a1, a2, a3⟩
        | _ => cases k6
      · cases k3
    | _ => cases h
/-- the written part, from the globals and the statics on -/
def asS (g : Addr → Option Obj) : Nat → List Addr
  | 0 => [mainGlobals, cStatics]
  | n + 1 => He.growD g (asS g n)
abbrev frS (n : Nat) (g : Addr → Option Obj) : PySem.W.Frag := He.frT g (asS g n)
theorem saysS_of {fa : List He.Fa} {fn : List He.DefD} {ts : List He.Tab} {tf : List He.Defn} {ex : PySem.W.Frag → Bool} {w : World} {h : Heap} {as : List Addr} (e1 : He.obsT fa fn ts (He.frT h.get? as) = He.valT fn ts w) (e2 : (ex (He.frT h.get? as) && He.tabsB h.get? tf (He.frT h.get? as)) = true) : He.SaysX fa fn ts tf ex w h (He.frT h.get? as) := by
  have tab := List.all_eq_true.mp (He.ba e2).2
  have one : ∀ p ∈ tf, ∃ o, h.get? (He.cT (He.frT h.get? as) p).2 = some o ∧ He.emptyTab o = true := fun p hp => by
    have t2 := (He.ba (tab p hp)).2
    split at t2
    · exact ⟨_, by assumption, t2⟩
    · cases t2
  constructor
  · exact e1
  · exact (He.ba e2).1
  · exact fun p hp => (He.ba (tab p hp)).1
  · intro p hp
    obtain ⟨o, q, z⟩ := one p hp
    exact He.frT_none q z
  · intro p hp
    obtain ⟨o, q, z⟩ := one p hp
    rw [q, He.emptyTab_eq z]
def hookS (n : Nat) (fa : List He.Fa) (fn : List He.DefD) (ts : List He.Tab) (tf : List He.Defn) (ex : PySem.W.Frag → Bool) (fs : List He.DefD) : PySem.W.Hook where
  α := He.AlX × List FnS
  obs := fun s => ((He.obsT fa fn ts (frS n s.heap.get?), ex (frS n s.heap.get?) && He.tabsB s.heap.get? tf (frS n s.heap.get?)), fs.map fun d => fnS (frS n s.heap.get?) d.at_)
  val := fun w => (He.valX fn ts w, fs.map sVal)
  says := fun w h => ∃ K : PySem.W.Frag, K.In h ∧ He.SaysX fa fn ts tf ex w h K ∧ ∀ d ∈ fs, fnS K d.at_ = sVal d
  of := fun _ _ e => ⟨_, He.frT_in, saysS_of (congrArg (fun z => z.1.1) e) (congrArg (fun z => z.1.2) e), fun d hd => by
    have e2 := congrArg (fun z : He.AlX × List FnS => z.2) e
    exact List.map_inj_left.mp e2 d hd⟩
  keeps := fun _ _ _ ⟨K, hK, c, m⟩ k => ⟨K, PySem.W.Frag.In.keeps hK k, ⟨c.t, c.more, c.hd, c.out, fun p hp => k _ _ (c.empty p hp)⟩, m⟩
/-- what the written part says of an own error over ValueError with an __init__ of its own -/
def oexHd (K : PySem.W.Frag) (C : Addr) : Bool := match K.lookup C with
  | some ⟨.type "type", _, .cls cd, sl⟩ => (match cd.mro, sl.toList with
    | .ref C' :: bm, [_, _, _, _, some (.builtin n), _] => decide (C' = C) && (decide (n = "ValueError.__new__") && (!cd.hasDel && (cd.hasDict && PySem.HandSPX.refsVE bm)))
    | _, _ => false)
  | _ => false
theorem oexHd_ok {K : PySem.W.Frag} {C : Addr} (h : oexHd K C = true) : ∃ nm q N bs bm sn sub ab col dd k0 k1 k2 k3 k5, K.lookup C = some (excClassObj nm q C N bs bm true sn sub ab col dd k0 k1 k2 k3 k5 "ValueError.__new__") ∧ PySem.HandSPX.refsVE bm = true := by
  unfold oexHd at h
  split at h
  · rename_i dd cd sl ho
    split at h
    · rename_i C' bm k0 k1 k2 k3 n k5 hm hs
      obtain ⟨h1, h⟩ := He.ba h
      obtain ⟨h2, h⟩ := He.ba h
      obtain ⟨h3, h⟩ := He.ba h
      obtain ⟨h4, h5⟩ := He.ba h
      have e1 := of_decide_eq_true h1
      have e2 := of_decide_eq_true h2
      subst e1 e2
      obtain ⟨nm, bs, mro, ns, qn, hd, sn, sub, ab, col, del⟩ := cd
      dsimp only at hm h3 h4
      have h3' : del = false := by simpa using h3
      subst hm h3' h4
      obtain ⟨l⟩ := sl
      have hs' : l = [k0, k1, k2, k3, some (.builtin "ValueError.__new__"), k5] := hs
      subst hs'
      exact ⟨nm, qn, ns, bs, bm, sn, sub, ab, col, dd, k0, k1, k2, k3, k5, ho, h5⟩
    · cases h
  · cases h
def oexB (K : PySem.W.Frag) (C : Addr) : Bool := oexHd K C && (He.eqO (PySem.W.findIn K (.ref C) "__setattr__") (some (some (.builtin "object.__setattr__"))) && (decide (PySem.W.subIn K (.ref C) (.type "BaseException") = some true) && (decide (PySem.W.typeIn K (.ref C) = some (.type "type")) && PySem.W.keepIn K (.ref C))))
theorem oexB_ok {K : PySem.W.Frag} {C : Addr} (h : oexB K C = true) : OexC K C := by
  obtain ⟨h1, h⟩ := He.ba h
  obtain ⟨h2, h⟩ := He.ba h
  obtain ⟨h3, h⟩ := He.ba h
  obtain ⟨h4, h5⟩ := He.ba h
  exact ⟨oexHd_ok h1, He.eqO_ok h2, of_decide_eq_true h3, of_decide_eq_true h4, h5⟩
/-- the class that the cell of its __init__ holds, its __init__ and its field -/
def scB (K : PySem.W.Frag) (C f : Addr) (fld : Str) : Bool := oexB K C && (decide (PySem.W.mroIn K C (.ref C) = some true) && (He.eqO (PySem.W.ks_superIn K C C "__init__") (some (some (.builtin "ValueError.__init__"))) && (decide (PySem.W.subIn K (.ref C) (.type "ValueError") = some true) &&
  ((PySem.W.clsIn K C).isSome && (He.eqO (PySem.W.nsIn K cStatics "thirdparty.any") (some none) && (He.eqO (PySem.W.findIn K (.ref C) fld) (some none) && (He.eqO (PySem.W.findIn K (.ref C) "__init__") (some (some (.ref f))) && decide (PySem.W.typeIn K (.ref f) = some (.type "function")))))))))
structure ScC (K : PySem.W.Frag) (C f : Addr) (fld : Str) : Prop where
  T : OexC K C
  mro : PySem.W.mroIn K C (.ref C) = some true
  sup : PySem.W.ks_superIn K C C "__init__" = some (some (.builtin "ValueError.__init__"))
  sub : PySem.W.subIn K (.ref C) (.type "ValueError") = some true
  cls : ∃ cd, PySem.W.clsIn K C = some cd
  any : PySem.W.nsIn K cStatics "thirdparty.any" = some none
  fld : PySem.W.findIn K (.ref C) fld = some none
  ini : PySem.W.findIn K (.ref C) "__init__" = some (some (.ref f))
  ty : PySem.W.typeIn K (.ref f) = some (.type "function")
theorem scB_ok {K : PySem.W.Frag} {C f : Addr} {fld : Str} (h : scB K C f fld = true) : ScC K C f fld := by
  obtain ⟨h1, h⟩ := He.ba h
  obtain ⟨h2, h⟩ := He.ba h
  obtain ⟨h3, h⟩ := He.ba h
  obtain ⟨h4, h⟩ := He.ba h
  obtain ⟨h5, h⟩ := He.ba h
  obtain ⟨h6, h⟩ := He.ba h
  obtain ⟨h7, h⟩ := He.ba h
  obtain ⟨h8, h9⟩ := He.ba h
  exact ⟨oexB_ok h1, of_decide_eq_true h2, He.eqO_ok h3, of_decide_eq_true h4, Option.isSome_iff_exists.mp h5, He.eqO_ok h6, He.eqO_ok h7, He.eqO_ok h8, of_decide_eq_true h9⟩
end B

set_option Elab.async false
set_option linter.all false
set_option maxRecDepth 100000
set_option maxHeartbeats 4000000
namespace B
open PySem PySem.Spec PyProof.Rows L2
/-- super().__init__, bound to one that is being made, called -/
theorem mw_call {X : Cx} {A : Around} {E : Value → Shared → Prop} {pins : List (Addr × Obj)} {σ : L2.St} {H : Hp} {s : Shared} {u a C : Addr} {us : List Value} {Q : Value → Shared → Prop} (T : OexC X.K C) (I : Inv X pins σ H s) (hu : s.heap.get? u = some (PySem.W.kxs_mw "ValueError.__init__" a)) (e : H a = some (exo a C none)) (hl : us.length ≤ sizeLine) (h : ∀ s', Inv X pins σ H s' → Q .none s') :
    wpAny (model X.prog X.w) A (call (.ref u) us) Q E s := by
  obtain ⟨nm, q, N, bs, bm, sn, sub, ab, col, dd, k0, k1, k2, k3, k5, hC, hbm⟩ := T.cls
  obtain ⟨t1, ho⟩ := exo_at I.hok e
  obtain ⟨hp, g, d, t, os⟩ := s
  have fin : ∀ h' : Heap, (∀ b o, b ≠ a → hp.get? b = some o → h'.get? b = some o) → (∃ t2 : Addr, h'.get? a = some ({ cls := .ref C, dict := none, data := .fields #[.ref t2, .none, .none, .none, .bool false, .none] } : Obj)) → Q .none ⟨h', g, d, t, os⟩ := fun h' k ⟨t2, hx⟩ => by
    have J := I.write (t' := t) (x := a) (e := a) (o := exo a C none) (by rw [e]; exact True.intro) (.inl rfl) k ⟨_, hx⟩ (exo_ok hx)
    have eu : upd H a (exo a C none) = H := by
      funext b
      by_cases hb : b = a
      · rw [hb, upd_same, e]
      · rw [upd_ne hb]
    rw [eu] at J
    exact h _ J
  refine wpAny_call (codeAny_of_tree ?_)
  show wpAny _ A.in1 (callAny (.ref u) ⟨us, []⟩) _ _ _
  simp only [callAny]
  refine wpAny_bind (wpAny_load hu ?_)
  simp only [PySem.W.kxs_mw, show (Value.type "method-wrapper" == Value.type "method" || Value.type "method-wrapper" == Value.type "builtin_function_or_method" || Value.type "method-wrapper" == Value.type "method-wrapper") = true by decide, if_true]
  refine PySem.W.KFB.if_so (by decide) ?_
  refine wpAny_bind (PySem.ESX.check_bound F.excBase_ValueError (I.kIn _ _ hC) ho rfl ?_)
  refine wpAny_bind (wpAny_pure (wpAny_pure ?_))
  refine ⟨Code.quiet_builtin _ (by decide +kernel), codeAny_builtin F.excBase_ValueError.initEntry ?_⟩
  rw [Around.under_plainId F.excBase_ValueError.init.plain _]
  wp_walk
  refine fin _ (fun b o hb hbo => ?_) ⟨hp.objs.size, ?_⟩
  · rw [Heap.get?_update_other _ _ (Ne.symm hb)]
    exact Heap.get?_push_of_some _ hbo
  · rw [Heap.get?_update_self _ (Heap.get?_push_of_some _ ho) rfl]
    rfl
/-- super().__init__(e), in an exception's own __init__ -/
theorem at_superinit {X : Cx} {body : List Stmt} {p0 p1 apos pos : Pos} {e : Expr} {ta : TA} {f cc cda D a C : Addr} {fd : FuncData} {ar : Arg} {vs : Array Value} {file : Str} {tf : Tok} {oc ccl cl : Value} {od cdd cld : Option Addr} {osl ccs csl : Array (Option Value)} {cdD : ClassData} {pl : Sem Bool}
    (hfn : X.env.func = some f) (hcd : X.env.code = .ref cda) (lkf : X.K.lookup f = some ⟨oc, od, .func fd, osl⟩) (hp : (fd.params.posonlyargs ++ fd.params.args).head? = some ar)
    (lkc : X.K.lookup cda = some ⟨ccl, cdd, .fields vs, ccs⟩) (hvs : vs[2]? = some (.str file tf)) (hfile : ((X.prog.main.file : Str) == file) = true) (htop : (X.prog.main.scope.names.lookup ("super" : Str)).isSome = false)
    (hcells : X.env.cells.lookup ("__class__" : Str) = some cc) (lkcell : X.K.lookup cc = some ⟨cl, cld, .cell (some (.ref D)), csl⟩) (hD : PySem.W.clsIn X.K D = some cdD)
    (hks : X.env.kindOf "super" = some .globalImplicit) (hkc : X.env.kindOf "__class__" = some .free) (hka : X.env.kindOf ar.arg = some .local) (hm : X.mg "super" = none) (ho : PySem.W.nsIn X.K cStatics "thirdparty.any" = some none)
    (hN : X.N[0]? = some ar.arg) (ha : PA X [e] ta) (T : OexC X.K C) (hsub : PySem.W.mroIn X.K C (.ref D) = some true) (hmi : PySem.W.ks_superIn X.K C D "__init__" = some (some (.builtin "ValueError.__init__"))) (hB : PySem.W.subIn X.K (.ref C) (.type "ValueError") = some true)
    (hev : eval (.Call (.Attribute (.Call (.Name "super" p0) [] [] p1) "__init__" apos) [e] [] pos) X.env = (do
      let ov ← attributeBase (.Call (.Name "super" p0) [] [] p1) "__init__" X.env (eval (.Call (.Name "super" p0) [] [] p1) X.env)
      standAt apos.atName
      let (f, first) ← holding [ov] (getMethod ov "__init__" pl)
      callWith pos f first (backTo pos (starEach [e] X.env)) []))
    (hse : starEach [e] X.env = (false, eval e X.env) :: starEach [] X.env)
    {pins : List (Addr × Obj)} {s : Shared} {σ : L2.St} {H : Hp} {Q' : Hp → Prop} {Q : Value → Shared → Prop} (I : Inv X pins σ H s) (hσ : σ[0]? = some (some (.ref a))) (ea : H a = some (exo a C none))
    (hte : ta σ H fun ws H1 => ws.length ≤ 1000 ∧ H1 a = some (exo a C none) ∧ Q' H1) (hq : ∀ s' H1, Inv X pins σ H1 s' → Q' H1 → Q .none s') :
    PySem.wpAt (model X.prog X.w) X.A (.func body X.env) (eval (.Call (.Attribute (.Call (.Name "super" p0) [] [] p1) "__init__" apos) [e] [] pos) X.env) Q X.xe s := by
  obtain ⟨t1, hoa⟩ := exo_at I.hok ea
  obtain ⟨oD, hD1, hD2⟩ : ∃ oD, s.heap.get? D = some oD ∧ oD.data = .cls cdD := by
    unfold PySem.W.clsIn at hD
    split at hD
    · rename_i c d cd' sl hx
      cases hD
      exact ⟨_, I.kIn _ _ hx, rfl⟩
    · cases hD
  obtain ⟨mL, ns, look⟩ := I.loc
  obtain ⟨u0, ru, lk⟩ := look 0 ar.arg (.ref a) hN hσ (.inl hka)
  obtain rfl : u0 = Value.ref a := ru
  have hv : mL ar.arg = some (.ref a) := by
    rcases lk with ⟨_, z⟩ | ⟨z | z, _⟩
    · exact z
    · rw [hka] at z; cases z
    · rw [hka] at z; cases z
  obtain ⟨mb, b1, b2⟩ := I.mod.blt
  refine PySem.ks_wpAt_MethodCall (pl := pl) ?_ hev
  refine PySem.ks_wpAt_super_base hks hkc (by decide) hfn (I.kIn _ _ lkf) rfl hp hcd (I.kIn _ _ lkc) rfl hvs hfile htop ?_
  refine PySem.W.ks_loadName_global I.ok.kind hks (Calls.loadGlobal_builtin (by rw [I.ok.glob]; exact I.mod.glob.keeps I.bk) hm (by rw [I.ok.blt]; exact b1.keeps I.bk) ((b2 _ (by decide)).trans PyProof.Rows.Boot.«super») ⟨rfl, ?_⟩)
  refine wpAny_loadName_free I.ok.kind hkc hcells ⟨_, I.kIn _ _ lkcell, rfl⟩ ?_
  refine wpAny_loadName_local I.ok.kind hka ns hv ?_
  obtain ⟨hh, g, d, t, os⟩ := s
  refine PySem.ks_wpAny_isType_cls hD1 hD2 ⟨rfl, ?_⟩
  refine PySem.ks_wpAny_call_super hD1 hD2 hoa rfl (fun c z => by cases z) (PySem.W.looks_mroIn I.kIn hsub) (fun h' es k => ?_)
  have I1 : Inv X pins σ H ⟨h', g, d, t, os⟩ := I.kept k
  have hoa1 := k _ _ hoa
  cases hc : PySem.W.clsIn X.K C with
  | none =>
    unfold PySem.W.ks_superIn at hmi
    rw [hc] at hmi
    cases hmi
  | some cd =>
    unfold PySem.W.ks_superIn at hmi
    rw [hc] at hmi
    have inst : PySem.W.InstAt h' a _ C none := ⟨hoa1, rfl, rfl, trivial⟩
    have hI : PySem.W.Looks (model X.prog X.w) h' (isInstance (.ref a) (.type "ValueError")) true := inst.type.andThen (PySem.W.looks_subIn I1.kIn hB)
    refine PySem.W.kxs_getMethod PySem.W.kxs_ValueError es (PySem.W.looks_opaque I1.kIn ho) (l₀ := cd.mro) (fun A Q E s k q => wpAny_bind ((PySem.W.looks_clsIn I1.kIn hc) A _ E s k (wpAny_pure q))) rfl I1.kIn hmi hI (PySem.W.ks_ne I1.kIn inst hc) (by decide) ?_
    have I2 : Inv X pins σ H ⟨h'.push (PySem.W.kxs_mw "ValueError.__init__" a), g, d, t + 1, os⟩ := I1.kept fun b o => Heap.get?_push_of_some _
    have hu : (h'.push (PySem.W.kxs_mw "ValueError.__init__" a)).get? h'.objs.size = some (PySem.W.kxs_mw "ValueError.__init__" a) := Heap.get?_push_at rfl rfl
    have I3 : Inv X ((h'.objs.size, PySem.W.kxs_mw "ValueError.__init__" a) :: pins) σ H ⟨h'.push (PySem.W.kxs_mw "ValueError.__init__" a), g, d, t + 1, os⟩ := by
      refine I2.pins_of fun p hp => ?_
      rcases List.mem_cons.mp hp with rfl | hp
      · exact ⟨hu, I1.hok.fresh (Nat.le_refl _), Nat.ne_of_gt I1.lt, I1.nofs (Nat.le_refl _), fun v z => by cases z⟩
      · exact I2.pin p (List.mem_append_right _ hp)
    have N2 : PyProof.Rows.News X.base X.env.locals (h'.push (PySem.W.kxs_mw "ValueError.__init__" a)) [(h'.objs.size, PySem.W.kxs_mw "ValueError.__init__" a)] := fun p hp => by
      rw [List.mem_singleton.mp hp]
      refine ⟨hu, Nat.ne_of_gt I1.lt, ?_⟩
      cases z : X.base.get? h'.objs.size with
      | none => rfl
      | some o => exact absurd (Heap.lt_size (I1.bk _ _ z)) (Nat.lt_irrefl _)
    refine PySem.W.kxs_callWith1 (i := "ValueError.__init__") (x := a) N2 (by simp) (thn (ha.run pos _ _ σ H _ I3 hte) fun us s1 ⟨ws, H1, J, r1, hl, e1, q1⟩ => ⟨(J.pin (h'.objs.size, PySem.W.kxs_mw "ValueError.__init__" a) (List.mem_append_right _ (by simp))).1, ?_⟩) hse rfl
    have J1 : Inv X pins σ H1 s1 := J.pins_of fun p hp => J.pin p (List.mem_append_right _ (List.mem_cons_of_mem _ hp))
    refine mw_call T J1 (J.pin (h'.objs.size, PySem.W.kxs_mw "ValueError.__init__" a) (List.mem_append_right _ (by simp))).1 e1 ?_ fun s' J2 => hq s' H1 J2 q1
    rw [← Paired.length r1, sizeLine_eq]
    omega
theorem lk_mem {x : Str} {u : Value} : ∀ {l : List (Str × Value)}, (l.map (·.1)).Nodup → (x, u) ∈ l → l.lookup x = some u
  | (y, v) :: r, nd, h => by
    rw [List.map_cons] at nd
    obtain ⟨n1, n2⟩ := List.pairwise_cons.mp nd
    rcases List.mem_cons.mp h with e | e
    · cases e
      rw [List.lookup_cons, beq_self_eq_true]
    · have ne : (x == y) = false := by
        rw [beq_eq_false_iff_ne]
        exact fun z => n1 x (List.mem_map.mpr ⟨(x, u), e, rfl⟩) z.symm
      rw [List.lookup_cons, ne]
      exact lk_mem n2 e
theorem zip_nd : ∀ {ps : List Str} {us : List Value}, ps.Nodup → ((ps.zip us).map (·.1)).Nodup
  | [], _, _ => by simp
  | _ :: _, [], _ => by simp
  | x :: r, u :: us, h => by
    obtain ⟨h1, h2⟩ := List.pairwise_cons.mp h
    rw [List.zip_cons_cons, List.map_cons]
    refine List.pairwise_cons.mpr ⟨fun y hy => ?_, zip_nd h2⟩
    obtain ⟨z, hz, rfl⟩ := List.mem_map.mp hy
    exact h1 _ (List.of_mem_zip hz).1
theorem zip_lk {ps : List Str} {us : List Value} {i : Nat} {x : Str} {u : Value} (nd : ps.Nodup) (hx : ps[i]? = some x) (hu : us[i]? = some u) : (ps.zip us).reverse.lookup x = some u := by
  refine lk_mem ?_ (List.mem_reverse.mpr (List.mem_of_getElem? (i := i) ?_))
  · rw [List.map_reverse]
    exact List.pairwise_reverse.mpr ((zip_nd nd).imp fun h => Ne.symm h)
  · rw [List.getElem?_zip_eq_some]
    exact ⟨hx, hu⟩
abbrev cxS (CX : CXT) (P : Program) (w : World) (K : PySem.W.Frag) (mg : Str → Option Value) (base : Heap) (N : List Str) (qual : Str) (scope : Scope) (f : Addr) (cd : Value) (cc : Addr) (A : Around) (outer : List Env) (s : Shared) (H : Hp) (E : XK) : Cx :=
  { prog := P, w := w, K := K, mg := mg, base := base, A := A.deeper (PySem.W.ksEnv qual scope s.heap.objs.size f cd cc), N := N, s_0 := s, H_0 := H, env := PySem.W.ksEnv qual scope s.heap.objs.size f cd cc, outer := outer,
    stack := PySem.W.ksEnv qual scope s.heap.objs.size f cd cc :: outer, ex := [], fn := fun _ => false, calm := true, pn := [],
    xe := fun e s' => wpAny (model P w) (A.deeper (PySem.W.ksEnv qual scope s.heap.objs.size f cd cc)) (leaving (PySem.W.ksEnv qual scope s.heap.objs.size f cd cc) e) (fun _ s'' => CX outer H s E e s'') (fun e' s'' => CX outer H s E e' s'') s' }
/-- a def of a class, with the name __class__ free in it, by its body -/
theorem fn_sinit {CX : CXT} {P : Program} {w : World} {K : PySem.W.Frag} {mg : Str → Option Value} {base : Heap} {k : Nat} {f cc D : Addr} {name qual : Str} {params : Arguments} {body : List Stmt} {scope : Scope} {dV kV doc pm cdv ct oc cl : Value} {an od cld : Option Addr} {osl csl : Array (Option Value)} {ps : List Str} {sp : Sp}
    (lk : K.lookup f = some ⟨oc, od, .func (PySem.W.ksFn name qual params body scope dV kV doc pm an cdv ct cc), osl⟩) (hcd : PySem.W.codeIn K cdv qual = true) (hkind : scope.kind = .function) (hco : scope.isCoroutine = false) (hgen : scope.isGenerator = false)
    (hcell : ∀ x ∈ scope.names, x.2 ≠ .cell) (hfree : ∀ x ∈ scope.names, x.2 = .free → x.1 = "__class__") (hloc : ∀ x ∈ ps, scope.names.lookup x = some .local) (nd : ps.Nodup) (lkcell : K.lookup cc = some ⟨cl, cld, .cell (some (.ref D)), csl⟩)
    (len : ∀ vs H Q E, sp vs H Q E → vs.length = ps.length)
    (hbody : ∀ (A : Around) (outer : List Env) (s : Shared) (H : Hp) (vs : List V) (Q : VK) (E : XK), Room k (A.deeper (PySem.W.ksEnv qual scope s.heap.objs.size f cdv cc)) → sp vs H Q E → ∀ s1, Inv (cxS CX P w K mg base ps qual scope f cdv cc A outer s H E) [] (L2.start ps vs) H s1 →
      PySem.wpAt (model P w) (A.deeper (PySem.W.ksEnv qual scope s.heap.objs.size f cdv cc)) (.func body (PySem.W.ksEnv qual scope s.heap.objs.size f cdv cc)) (execs body (PySem.W.ksEnv qual scope s.heap.objs.size f cdv cc))
        (SP (cxS CX P w K mg base ps qual scope f cdv cc A outer s H E) [] { nx := fun _ H' => Q .non H', rt := Q }) (cxS CX P w K mg base ps qual scope f cdv cc A outer s H E).xe s1) :
    FnOk P w K mg base CX (k + 1) f (PySem.W.ksFn name qual params body scope dV kV doc pm an cdv ct cc) ps sp := by
  refine ⟨len, fun A outer s H args us vs Q E hr e0 hb r hsp => ?_⟩
  have hl := len _ _ _ _ hsp
  have KX : K.In s.heap := e0.mod.kin.keeps fun b o e => (e0.bs b o e).1
  have lim : s.heap.NoLimit := e0.mod.nolimit.keeps fun b o e => (e0.bs b o e).1
  refine PySem.ks_codeAny_call_defAt (fd := PySem.W.ksFn name qual params body scope dV kV doc pm an cdv ct cc) (body := body) (binds := ps.zip us) hr.depth (KX _ _ lk) rfl lim (PySem.W.codeRec_of KX hcd) rfl hb hcell (fun x hx => hloc x.1 (List.of_mem_zip hx).1) (fun h1 ns kp => ?_) hco hgen hkind
  have ccn : H cc = none := (e0.bs cc _ (e0.mod.kin _ _ lkcell)).2
  have one : ∀ {x : Str} {c : Addr}, ([(("__class__" : Str), cc)] : List (Str × Addr)).lookup x = some c → x = "__class__" ∧ c = cc := fun {x c} h => by
    rw [List.lookup_cons] at h
    by_cases z : x = "__class__"
    · rw [z, beq_self_eq_true] at h
      exact ⟨z, (Option.some.inj h).symm⟩
    · rw [beq_eq_false_iff_ne.mpr z] at h
      cases h
  have noEx : ∀ b : Addr, b ∉ (cxS CX P w K mg base ps qual scope f cdv cc A outer s H E).ex := fun b z => absurd (show b ∈ ([] : List Addr) from z) (by simp)
  have okI : (cxS CX P w K mg base ps qual scope f cdv cc A outer s H E).Ok := by
    refine ⟨e0.mod, hkind, rfl, rfl, Nat.le_refl _, fun y z c e1 e2 => (one e1).1.trans (one e2).1.symm, fun y hy => ?_, fun y c z => absurd (show false = true from z) Bool.false_ne_true, fun _ => hr.hd, Around.frames_deeper e0.frames, .inr ⟨rfl, rfl⟩, fun b z => absurd z (noEx b), e0.bs, e0.bsz, fun b _ _ => noEx b, fun b z => absurd z (noEx b), e0.funs, e0.frf⟩
    have hy2 : scope.names.lookup y = some .cell ∨ scope.names.lookup y = some .free := hy
    rcases hy2 with z | z
    · exact absurd rfl (hcell _ (PySem.mem_of_lookup z))
    · have := hfree _ (PySem.mem_of_lookup z) rfl
      dsimp only at this
      refine ⟨cc, ?_⟩
      show ([(("__class__" : Str), cc)] : List (Str × Addr)).lookup y = some cc
      rw [this, List.lookup_cons, beq_self_eq_true]
  have I : Inv (cxS CX P w K mg base ps qual scope f cdv cc A outer s H E) [] (L2.start ps vs) H { s with heap := h1, toks := s.toks + (ps.zip us).length } := by
    refine ⟨okI, rfl, e0.bare, Un.kept kp, ⟨_, ns, fun i y v hN hσ hV => ?_⟩, fun y c e => ?_, e0.hok.fresh (Nat.le_refl _), fun y c e => ?_, fun p hp => absurd (show p ∈ ([] : List (Addr × Obj)) ++ [] from hp) (by simp), e0.hok.kept kp, ?_⟩
    · have hN' : ps[i]? = some y := hN
      have hv : vs[i]? = some v := by
        unfold L2.start at hσ
        by_cases hi : i < vs.length
        · rw [List.getElem?_append_left (by simpa using hi), List.getElem?_map] at hσ
          cases e : vs[i]? with
          | none => rw [e] at hσ; cases hσ
          | some z =>
            rw [e] at hσ
            exact Option.some.inj hσ
        · rw [List.getElem?_append_right (by simpa using hi), List.getElem?_replicate] at hσ
          split at hσ <;> cases hσ
      obtain ⟨u, hu, rv⟩ := r.get hv
      exact ⟨u, rv, .inl ⟨hloc y (List.mem_of_getElem? hN'), zip_lk nd hN' hu⟩⟩
    · obtain ⟨_, rfl⟩ := one e
      exact ⟨_, _, kp _ _ (KX _ _ lkcell), rfl⟩
    · obtain ⟨_, rfl⟩ := one e
      exact ccn
    · unfold L2.start
      simp [hl]
  refine PySem.ks_wpAt_mono (hbody A outer s H vs Q E (hr.deeper _) hsp _ I) (fun fl s' hs => ?_) fun e s' hs => hs
  have fin : ∀ {σ' : L2.St} {H' : Hp} {v : V} {u : Value}, Inv (cxS CX P w K mg base ps qual scope f cdv cc A outer s H E) [] σ' H' s' → L2.RelV v u → Q v H' → CE outer P w H s Q u s' :=
    fun {σ' H' v u} J rv q => ⟨v, H', J.os, J.bare, J.base, J.hok, rv, q⟩
  cases fl with
  | ret u =>
    obtain ⟨v, σ', H', J, rv, q⟩ := hs
    exact fin J rv q
  | next =>
    obtain ⟨σ', H', J, q⟩ := hs
    exact fin (v := V.non) (u := Value.none) J rfl q
  | brk =>
    obtain ⟨_, _, _, q⟩ := hs
    exact False.elim q
  | cont =>
    obtain ⟨_, _, _, q⟩ := hs
    exact False.elim q
/-- the two statements of such an __init__ -/
theorem at_two {X : Cx} {body : List Stmt} {p0 p1 apos pos : Pos} {e : Expr} {ta : TA} {f cc cda D a C : Addr} {fd : FuncData} {ar : Arg} {vs : Array Value} {file : Str} {tf : Tok} {oc ccl cl : Value} {od cdd cld : Option Addr} {osl ccs csl : Array (Option Value)} {cdD : ClassData} {pl : Sem Bool} {st2 : Stmt} {t2 : TS} {pp : Pos}
    (hfn : X.env.func = some f) (hcd : X.env.code = .ref cda) (lkf : X.K.lookup f = some ⟨oc, od, .func fd, osl⟩) (hp : (fd.params.posonlyargs ++ fd.params.args).head? = some ar)
    (lkc : X.K.lookup cda = some ⟨ccl, cdd, .fields vs, ccs⟩) (hvs : vs[2]? = some (.str file tf)) (hfile : ((X.prog.main.file : Str) == file) = true) (htop : (X.prog.main.scope.names.lookup ("super" : Str)).isSome = false)
    (hcells : X.env.cells.lookup ("__class__" : Str) = some cc) (lkcell : X.K.lookup cc = some ⟨cl, cld, .cell (some (.ref D)), csl⟩) (hD : PySem.W.clsIn X.K D = some cdD)
    (hks : X.env.kindOf "super" = some .globalImplicit) (hkc : X.env.kindOf "__class__" = some .free) (hka : X.env.kindOf ar.arg = some .local) (hm : X.mg "super" = none) (ho : PySem.W.nsIn X.K cStatics "thirdparty.any" = some none)
    (hN : X.N[0]? = some ar.arg) (ha : PA X [e] ta) (T : OexC X.K C) (hsub : PySem.W.mroIn X.K C (.ref D) = some true) (hmi : PySem.W.ks_superIn X.K C D "__init__" = some (some (.builtin "ValueError.__init__"))) (hB : PySem.W.subIn X.K (.ref C) (.type "ValueError") = some true)
    (hev : eval (.Call (.Attribute (.Call (.Name "super" p0) [] [] p1) "__init__" apos) [e] [] pos) X.env = (do
      let ov ← attributeBase (.Call (.Name "super" p0) [] [] p1) "__init__" X.env (eval (.Call (.Name "super" p0) [] [] p1) X.env)
      standAt apos.atName
      let (f, first) ← holding [ov] (getMethod ov "__init__" pl)
      callWith pos f first (backTo pos (starEach [e] X.env)) []))
    (hse : starEach [e] X.env = (false, eval e X.env) :: starEach [] X.env)
    (hsw : swapsWith (.Call (.Attribute (.Call (.Name "super" p0) [] [] p1) "__init__" apos) [e] [] pos) none pp.line X.env = pure false) (hs2 : PS X st2 t2)
    {pins : List (Addr × Obj)} {s : Shared} {σ : L2.St} {H : Hp} {D' : Ends} (I : Inv X pins σ H s) (hσ : σ[0]? = some (some (.ref a))) (ea : H a = some (exo a C none))
    (hte : ta σ H fun ws H1 => ws.length ≤ 1000 ∧ H1 a = some (exo a C none) ∧ t2 D' σ H1) :
    PySem.wpAt (model X.prog X.w) X.A (.func body X.env) (execs [.Expr (.Call (.Attribute (.Call (.Name "super" p0) [] [] p1) "__init__" apos) [e] [] pos) pp, st2] X.env) (SP X pins D') X.xe s := by
  refine PySem.ks_wpAt_execs_cons (PySem.ks_wpAt_Expr_any (at_superinit hfn hcd lkf hp lkc hvs hfile htop hcells lkcell hD hks hkc hka hm ho hN ha T hsub hmi hB hev hse I hσ ea hte fun s' H1 J q => ?_) I.quiet hsw)
  show PySem.wpAt (model X.prog X.w) X.A (.func body X.env) (execs [st2] X.env) (SP X pins D') X.xe s'
  refine PySem.ks_wpAt_execs_cons (wpAt_of_wpAny (wpAny_mono (hs2.run pins s' σ H1 D' J q) (fun fl s2 hs => ?_) fun _ _ h => h))
  cases fl with
  | next =>
    obtain ⟨σ', H', J2, q2⟩ := hs
    exact wpAt_of_wpAny (pss_nil.run pins s2 σ' H' D' J2 q2)
  | ret u => exact hs
  | brk => exact hs
  | cont => exact hs
end B

set_option Elab.async false
set_option linter.all false
set_option maxRecDepth 100000
set_option maxHeartbeats 4000000
namespace B
open PySem PySem.Spec PyProof.Rows L2
open PySem.W (findObj Looks looks_find looks_findIn looks_subIn KitX)
open PySem.Calls Builtin Builtin.ObjectAttr
/-! ### isinstance of a caught error with a dict of its own; its fields -/
theorem fo_data {K : PySem.W.Frag} {C : Addr} {od : Option Obj} {name : Str} {a g : Value} (hc : ∃ cd, PySem.W.clsIn K C = some cd) (ha : PySem.W.findIn K (.ref C) name = some (some a)) (hg : PySem.W.specialIn K a "__get__" = some (some g)) (ht : PySem.W.takesIn K a = some true) : findObj K C od name = some (.bind g a) := by
  obtain ⟨cd, hc⟩ := hc
  unfold findObj; rw [hc, Option.bind_some, ha, Option.bind_some]; simp [hg, ht]
theorem cls_any {prog : Program} {w : World} {A : Around} {E : Value → Shared → Prop} {s : Shared} {K : PySem.W.Frag} {x D : Addr} {ox : Obj} {od : Option Obj} {Q : Option Value → Shared → Prop} (C : ExcC K D)
    (X : K.In s.heap) (I : PySem.W.InstAt s.heap x ox D od) (h : Q (some (.ref D)) { s with toks := s.toks + 1 }) : wpAny (model prog w) A (getAttr? (.ref x) "__class__") Q E s := by
  have hc : ∃ cd, PySem.W.clsIn K D = some cd := by obtain ⟨cd, hc, _⟩ := PySem.W.any_some C.hd; exact ⟨cd, hc⟩
  have hf : findObj K D od "__class__" = some (.bind (.builtin "getset_descriptor.__get__") (.builtin "object.__class__")) := fo_data hc C.ha C.hn C.ht
  obtain ⟨hp, g, d, t, os⟩ := s
  have J1 := I.type (M := model prog w); have J2 := looks_findIn (M := model prog w) X C.hg
  have J3 := looks_findIn (M := model prog w) X C.hk; have J4 := looks_find (M := model prog w) X I hf
  have sub : Looks (model prog w) hp (isInstance (.ref x) (.type "BaseException")) true := J1.andThen (looks_subIn X C.hs)
  have e2 : (Value.builtin "BaseException.__getattribute__" == Value.builtin "object.__getattribute__") = false := by decide +kernel
  unfold getAttr? getAttrBy? getAttrBy; refine wpAny_bind (wpAny_mkText (wpAny_bind (wpAny_attempt (wpAny_holding (wpAny_bind (J1.at (wpAny_bind (J2.at ?_))))))))
  show wpAny _ _ (if (onTheHeap (Value.ref D) && Value.builtin "BaseException.__getattribute__" == Value.builtin "object.__getattribute__") = true then _ else _) _ _ _; rw [e2, Bool.and_false, if_neg Bool.false_ne_true]
  unfold getAttrByItsOwn hookBefore; refine wpAny_bind ?_; rw [if_pos (show onTheHeap (Value.ref D) = true from rfl)]; refine J3.at ?_
  refine wpAny_bind (wpAny_attempt (wpAny_holding ?_)); unfold callGetattribute; rw [Bool.false_and, if_neg Bool.false_ne_true]; unfold boundAndCalled
  rw [PySem.F.excAttr_ValueError.ga.bind (.ref x)]; refine wpAny_bind (wpAny_pure ?_)
  show wpAny _ _ (call (.builtin "BaseException.__getattribute__") [.ref x, .str "__class__" t]) _ _ _; refine wpAny_call (codeAny_call_builtin PySem.F.excAttr_ValueError.ga.plain PySem.F.entry_bexc_ga ?_)
  refine @PySem.W.check_slot (model prog w) _ _ ⟨hp, g, d, t + 1, os⟩ "BaseException.__getattribute__" "BaseException" "__getattribute__" (.ref x) [.str "__class__" t] [] _ (by decide +kernel) (by decide +kernel) sub (PySem.F.args_bexc_ga (.ref x) (.str "__class__" t)) ?_
  unfold Builtin.«object.__getattribute__»; refine wpAny_bind (wpAny_of_eq (a := ((Value.ref x : Value), [Value.str "__class__" t])) (by first | rfl | (simp only [slotArgs]; rfl)) ?_)
  refine wpAny_bind (wpAny_pure (wpAny_bind (J1.at (wpAny_bind (J4.at ?_)))))
  show wpAny _ _ (holding [Value.builtin "object.__class__"] (call (.builtin "getset_descriptor.__get__") [.builtin "object.__class__", .ref x, .ref D]) >>= ret) _ _ _
  refine wpAny_bind (wpAny_holding (wpAny_call (PySem.W.class_get (s := ⟨hp, g, d, t + 1, os⟩) (ox := ox) (od := od) X I C.hm ?_))); refine wpAny_pure ?_
  show wpAny _ _ (handedOut (.ref D)) _ _ _; rw [PySem.W.handedOut_of (v := .ref D) rfl]
  first
    | exact wpAny_pure (wpAny_pure h)
    | exact wpAny_pure h
    | exact wpAny_pure (wpAny_bind (wpAny_pure (wpAny_pure h)))
theorem kit_exd {K : PySem.W.Frag} {x D : Addr} {ox : Obj} (C : ExcC K D) : KitX K (.ref x) (.ref D) (fun h => ∃ od, PySem.W.InstAt h x ox D od) where
  ty := fun _ _ _ ⟨_, I⟩ => I.type
  it := fun _ _ X _ => by
    obtain ⟨cd, hc, _⟩ := PySem.W.any_some C.hd; unfold PySem.W.clsIn at hc
    split at hc
    · rename_i c' d' cd' sl' ho
      intro A' Q' E' s' k q; unfold isType loadHead; exact wpAny_bind (wpAny_loadPart (k _ _ (X _ _ ho)) (wpAny_pure q))
    · cases hc
  ne := fun h tp dd its n sl X htp => by
    obtain ⟨cd, hc, _⟩ := PySem.W.any_some C.hd
    refine Bool.eq_false_iff.mpr fun q => ?_; have e : D = tp := Value.ref.inj (beq_iff_eq.mp q); subst e; unfold PySem.W.clsIn at hc
    split at hc
    · rename_i c' d' cd' sl' ho
      have z := (X _ _ ho).symm.trans htp; cases z
    · cases hc
  ca := fun X ⟨_, I⟩ k => cls_any C X I k
/-- no dict, or a dict that is told -/
def DicOk (d : Option Addr) (H : Hp) : Prop := d = none ∨ ∃ dd fs, d = some dd ∧ H dd = some (.xd fs)
/-- isinstance(e, c), e the exception that the suite holds, its dict told -/
def rIsY (K : PySem.W.Frag) (cls : Value) (d : Option Addr) (a : Addr) : List V → Hp → VK → Prop := fun xs H Q =>
  ∃ (D : Addr) (c : V) (cv : Value) (b : Bool), cls = .ref D ∧ DicOk d H ∧ ExcC K D ∧ xs = [.ref a, c] ∧ (∀ u, RelV c u → u = cv) ∧ PySem.W.kitOne K (.ref D) cv = some b ∧ Q (.bl b) H
theorem call_isY {X : Cx} {a : Addr} {cls : Value} {d : Option Addr} {oe : Obj} {pn : List (Addr × Obj)} (hz : Zc cls d oe) (hf : ∃ vs, oe.data = .fields vs) : CallR (X.suite a ((a, oe) :: pn)) (.builtin "isinstance") (rIsY X.K cls d a) := by
  intro pins s σ H xs us Q I r h
  obtain ⟨D, c, cv, b, rfl, hd, C, rfl, hcv, e, q⟩ := h
  cases r with
  | cons rx rr =>
    cases rr with
    | cons rt rr =>
      cases rr
      cases rx
      have ec := hcv _ rt
      subst ec
      obtain ⟨hget, _⟩ := I.pin (a, oe) (List.mem_append.mpr (.inl List.mem_cons_self))
      obtain ⟨vs, hv⟩ := hf
      obtain ⟨h1, h2⟩ := hz
      have nc : ∀ od, (match oe.dict, od with | some dx, some o => s.heap.get? dx = some o | none, none => True | _, _ => False) → PySem.W.InstAt s.heap a oe D od := fun od z => ⟨hget, h1, by unfold PySem.W.notCls; rw [hv] <;> rfl, z⟩
      have J : ∃ od, PySem.W.InstAt s.heap a oe D od := by
        rcases hd with z | ⟨dd, fs, z, hx⟩
        · exact ⟨none, nc none (by rw [h2, z]; exact True.intro)⟩
        · have hx2 : ObjOk X.prog X.w H s.heap dd (.xd fs) := I.hok dd _ hx
          obtain ⟨mA, hns, hr⟩ := hx2
          obtain ⟨od, ho, hl⟩ := lookIn_ns hns
          exact ⟨some od, nc (some od) (by rw [h2, z]; exact ho)⟩
      exact PySem.W.kia_one (kit_exd C) I.kIn J e (fun z => nomatch z) fun tk => ⟨.bl b, H, I.kept (t' := tk) fun _ _ z => z, rfl, q⟩
/-- err.f in an except suite, its class told in the reading -/
theorem pe_xfA {X : Cx} {a : Addr} {oe : Obj} {cls : Value} {d : Option Addr} {pn : List (Addr × Obj)} {e : Expr} {te : TE} {pos : Pos} {n : Str}
    (hz : Zc cls d oe) (hf : ∃ vs, oe.data = .fields vs) (he : PE (X.suite a ((a, oe) :: pn)) e te) (hb : attributeBase e n X.env (eval e X.env) = eval e X.env := by rfl) :
    PE (X.suite a ((a, oe) :: pn)) (.Attribute e n pos) (fun σ H Q => ∃ C : Addr, XfC X.K C ∧ PySem.W.findIn X.K (.ref C) n = some none ∧ tXf a cls d C n te σ H Q) :=
  ⟨fun pins s σ H Q I ⟨C, T, hno, h⟩ => (pe_xf T hno hz hf he hb).run pins s σ H Q I h⟩
end B

set_option Elab.async false
set_option linter.all false
set_option maxRecDepth 100000
set_option maxHeartbeats 4000000
namespace B
open PySem PySem.Spec PyProof.Rows L2
def topS (i : Nat) : Stmt := PySem.Challenge.pw_busfind_k18_days_played.main.body.getD i (.Pass ⟨0, 0, 0, 0⟩)
abbrev s_BadLooks_init : Stmt := inClass (topS 11) 0
abbrev s_BadStep_init : Stmt := inClass (topS 15) 0
abbrev s_BadText_init : Stmt := inClass (topS 16) 0
abbrev s_require_width : Stmt := topS 20
abbrev s_require_number : Stmt := topS 21
abbrev s_is_number : Stmt := topS 22
abbrev s_require_kind : Stmt := topS 25
abbrev s_Wire_init : Stmt := inClass (topS 26) 0
abbrev s_Wire_hang : Stmt := inClass (topS 26) 1
abbrev s_Wire_off : Stmt := inClass (topS 26) 2
abbrev s_Wire_alarm : Stmt := inClass (topS 26) 3
abbrev s_Wire_calm : Stmt := inClass (topS 26) 4
abbrev s_Wire_hung : Stmt := inClass (topS 26) 5
abbrev s_Wire_alarms : Stmt := inClass (topS 26) 6
abbrev s_Wire_begin : Stmt := inClass (topS 26) 7
abbrev s_Wire_look : Stmt := inClass (topS 26) 8
abbrev s_Wire_say : Stmt := inClass (topS 26) 9
abbrev s_Wire_looks : Stmt := inClass (topS 26) 10
abbrev s_Wire__require_hanging : Stmt := inClass (topS 26) 11
abbrev s_Wire__require_round : Stmt := inClass (topS 26) 12
abbrev s_Walk_init : Stmt := inClass (topS 28) 0
abbrev s_Walk_step : Stmt := inClass (topS 28) 1
abbrev s_Walk_go_round : Stmt := inClass (topS 28) 2
abbrev s_Walk_go_all : Stmt := inClass (topS 28) 3
abbrev s_Walk_left : Stmt := inClass (topS 28) 4
abbrev s_Walk_found : Stmt := inClass (topS 28) 5
abbrev s_Walk_paper : Stmt := inClass (topS 28) 6
abbrev s_Walk_is_under_way : Stmt := inClass (topS 28) 7
abbrev s_Walk__begin_round : Stmt := inClass (topS 28) 8
abbrev s_Walk__say : Stmt := inClass (topS 28) 9
abbrev s_Desk_init : Stmt := inClass (topS 30) 0
abbrev s_Desk_turn : Stmt := inClass (topS 30) 1
abbrev s_Keeper_init : Stmt := inClass (topS 32) 0
abbrev s_Keeper_refresh : Stmt := inClass (topS 32) 1
abbrev s_Keeper_last : Stmt := inClass (topS 32) 2
abbrev s_require_steps : Stmt := topS 37
abbrev s_is_step : Stmt := topS 38
abbrev s_is_some_number : Stmt := topS 39
abbrev s_Day_init : Stmt := inClass (topS 41) 0
abbrev s_Day_do : Stmt := inClass (topS 41) 1
abbrev s_Day_end : Stmt := inClass (topS 41) 2
abbrev s_Day__require_no_round : Stmt := inClass (topS 41) 3
abbrev s_played : Stmt := topS 42
abbrev s_ltaken : Stmt := topS 44
abbrev s_lalike : Stmt := topS 45
abbrev s_lword : Stmt := topS 46
abbrev s_lnumber : Stmt := topS 47
abbrev s_lnear : Stmt := topS 48
abbrev s_lthings : Stmt := topS 49
abbrev s_lwidth : Stmt := topS 50
abbrev s_llooked : Stmt := topS 51
abbrev s_lmodel : Stmt := topS 52
abbrev s_lbegun : Stmt := topS 53
abbrev s_lsaid : Stmt := topS 54
abbrev s_ldeed : Stmt := topS 55
abbrev s_lpath : Stmt := topS 56
abbrev s_lover : Stmt := topS 57
abbrev s_lstep : Stmt := topS 58
abbrev s_lround : Stmt := topS 59
abbrev s_lpool : Stmt := topS 60
abbrev s_lday : Stmt := topS 61
abbrev s_lturn : Stmt := topS 62
abbrev s_lwalked : Stmt := topS 63
abbrev s_ldo : Stmt := topS 64
abbrev s_ldrawn : Stmt := topS 65
abbrev s_lodd : Stmt := topS 66
abbrev s_law : Stmt := topS 67
theorem sc_require_width : FnScope ["width"] ["width"] (defScope s_require_width) := ⟨rfl, rfl, rfl, by decide +kernel, rfl, by decide +kernel, by decide +kernel⟩
theorem sc_require_number : FnScope ["width", "number"] ["width", "number"] (defScope s_require_number) := ⟨rfl, rfl, rfl, by decide +kernel, rfl, by decide +kernel, by decide +kernel⟩
theorem sc_is_number : FnScope ["width", "number", "sign"] ["width", "number"] (defScope s_is_number) := ⟨rfl, rfl, rfl, by decide +kernel, rfl, by decide +kernel, by decide +kernel⟩
theorem sc_require_kind : FnScope ["kind"] ["kind"] (defScope s_require_kind) := ⟨rfl, rfl, rfl, by decide +kernel, rfl, by decide +kernel, by decide +kernel⟩
theorem sc_Wire_init : FnScope ["self", "width"] ["self", "width"] (defScope s_Wire_init) := ⟨rfl, rfl, rfl, by decide +kernel, rfl, by decide +kernel, by decide +kernel⟩
theorem sc_Wire_hang : FnScope ["self", "number"] ["self", "number"] (defScope s_Wire_hang) := ⟨rfl, rfl, rfl, by decide +kernel, rfl, by decide +kernel, by decide +kernel⟩
theorem sc_Wire_off : FnScope ["self", "number", "other"] ["self", "number"] (defScope s_Wire_off) := ⟨rfl, rfl, rfl, by decide +kernel, rfl, by decide +kernel, by decide +kernel⟩
theorem sc_Wire_alarm : FnScope ["self", "number"] ["self", "number"] (defScope s_Wire_alarm) := ⟨rfl, rfl, rfl, by decide +kernel, rfl, by decide +kernel, by decide +kernel⟩
theorem sc_Wire_calm : FnScope ["self", "number"] ["self", "number"] (defScope s_Wire_calm) := ⟨rfl, rfl, rfl, by decide +kernel, rfl, by decide +kernel, by decide +kernel⟩
theorem sc_Wire_hung : FnScope ["self"] ["self"] (defScope s_Wire_hung) := ⟨rfl, rfl, rfl, by decide +kernel, rfl, by decide +kernel, by decide +kernel⟩
theorem sc_Wire_alarms : FnScope ["self", "number"] ["self"] (defScope s_Wire_alarms) := ⟨rfl, rfl, rfl, by decide +kernel, rfl, by decide +kernel, by decide +kernel⟩
theorem sc_Wire_begin : FnScope ["self", "kind"] ["self", "kind"] (defScope s_Wire_begin) := ⟨rfl, rfl, rfl, by decide +kernel, rfl, by decide +kernel, by decide +kernel⟩
theorem sc_Wire_look : FnScope ["self", "signs", "number"] ["self"] (defScope s_Wire_look) := ⟨rfl, rfl, rfl, by decide +kernel, rfl, by decide +kernel, by decide +kernel⟩
theorem sc_Wire_say : FnScope ["self", "bit", "sign", "number"] ["self", "bit"] (defScope s_Wire_say) := ⟨rfl, rfl, rfl, by decide +kernel, rfl, by decide +kernel, by decide +kernel⟩
theorem sc_Wire_looks : FnScope ["self"] ["self"] (defScope s_Wire_looks) := ⟨rfl, rfl, rfl, by decide +kernel, rfl, by decide +kernel, by decide +kernel⟩
theorem sc_Wire__require_hanging : FnScope ["self", "number"] ["self", "number"] (defScope s_Wire__require_hanging) := ⟨rfl, rfl, rfl, by decide +kernel, rfl, by decide +kernel, by decide +kernel⟩
theorem sc_Wire__require_round : FnScope ["self"] ["self"] (defScope s_Wire__require_round) := ⟨rfl, rfl, rfl, by decide +kernel, rfl, by decide +kernel, by decide +kernel⟩
theorem sc_Walk_init : FnScope ["self", "wire", "kind"] ["self", "wire", "kind"] (defScope s_Walk_init) := ⟨rfl, rfl, rfl, by decide +kernel, rfl, by decide +kernel, by decide +kernel⟩
theorem sc_Walk_step : FnScope ["self", "zero", "one"] ["self"] (defScope s_Walk_step) := ⟨rfl, rfl, rfl, by decide +kernel, rfl, by decide +kernel, by decide +kernel⟩
theorem sc_Walk_go_round : FnScope ["self", "came"] ["self"] (defScope s_Walk_go_round) := ⟨rfl, rfl, rfl, by decide +kernel, rfl, by decide +kernel, by decide +kernel⟩
theorem sc_Walk_go_all : FnScope ["self"] ["self"] (defScope s_Walk_go_all) := ⟨rfl, rfl, rfl, by decide +kernel, rfl, by decide +kernel, by decide +kernel⟩
theorem sc_Walk_left : FnScope ["self"] ["self"] (defScope s_Walk_left) := ⟨rfl, rfl, rfl, by decide +kernel, rfl, by decide +kernel, by decide +kernel⟩
theorem sc_Walk_found : FnScope ["self"] ["self"] (defScope s_Walk_found) := ⟨rfl, rfl, rfl, by decide +kernel, rfl, by decide +kernel, by decide +kernel⟩
theorem sc_Walk_paper : FnScope ["self"] ["self"] (defScope s_Walk_paper) := ⟨rfl, rfl, rfl, by decide +kernel, rfl, by decide +kernel, by decide +kernel⟩
theorem sc_Walk_is_under_way : FnScope ["self"] ["self"] (defScope s_Walk_is_under_way) := ⟨rfl, rfl, rfl, by decide +kernel, rfl, by decide +kernel, by decide +kernel⟩
theorem sc_Walk__begin_round : FnScope ["self"] ["self"] (defScope s_Walk__begin_round) := ⟨rfl, rfl, rfl, by decide +kernel, rfl, by decide +kernel, by decide +kernel⟩
theorem sc_Walk__say : FnScope ["self", "signs", "sign", "said"] ["self", "signs"] (defScope s_Walk__say) := ⟨rfl, rfl, rfl, by decide +kernel, rfl, by decide +kernel, by decide +kernel⟩
theorem sc_Desk_init : FnScope ["self", "wire"] ["self", "wire"] (defScope s_Desk_init) := ⟨rfl, rfl, rfl, by decide +kernel, rfl, by decide +kernel, by decide +kernel⟩
theorem sc_Desk_turn : FnScope ["self", "came", "number"] ["self"] (defScope s_Desk_turn) := ⟨rfl, rfl, rfl, by decide +kernel, rfl, by decide +kernel, by decide +kernel⟩
theorem sc_Keeper_init : FnScope ["self", "wire"] ["self", "wire"] (defScope s_Keeper_init) := ⟨rfl, rfl, rfl, by decide +kernel, rfl, by decide +kernel, by decide +kernel⟩
theorem sc_Keeper_refresh : FnScope ["self", "hung", "came", "went", "number"] ["self"] (defScope s_Keeper_refresh) := ⟨rfl, rfl, rfl, by decide +kernel, rfl, by decide +kernel, by decide +kernel⟩
theorem sc_Keeper_last : FnScope ["self"] ["self"] (defScope s_Keeper_last) := ⟨rfl, rfl, rfl, by decide +kernel, rfl, by decide +kernel, by decide +kernel⟩
theorem sc_require_steps : FnScope ["steps", "number", "step"] ["steps"] (defScope s_require_steps) := ⟨rfl, rfl, rfl, by decide +kernel, rfl, by decide +kernel, by decide +kernel⟩
theorem sc_is_step : FnScope ["step", "word", "what"] ["step"] (defScope s_is_step) := ⟨rfl, rfl, rfl, by decide +kernel, rfl, by decide +kernel, by decide +kernel⟩
theorem sc_is_some_number : FnScope ["number"] ["number"] (defScope s_is_some_number) := ⟨rfl, rfl, rfl, by decide +kernel, rfl, by decide +kernel, by decide +kernel⟩
theorem sc_Day_init : FnScope ["self", "width"] ["self", "width"] (defScope s_Day_init) := ⟨rfl, rfl, rfl, by decide +kernel, rfl, by decide +kernel, by decide +kernel⟩
theorem sc_Day_do : FnScope ["self", "step", "number", "kind"] ["self", "step"] (defScope s_Day_do) := ⟨rfl, rfl, rfl, by decide +kernel, rfl, by decide +kernel, by decide +kernel⟩
theorem sc_Day_end : FnScope ["self"] ["self"] (defScope s_Day_end) := ⟨rfl, rfl, rfl, by decide +kernel, rfl, by decide +kernel, by decide +kernel⟩
theorem sc_Day__require_no_round : FnScope ["self"] ["self"] (defScope s_Day__require_no_round) := ⟨rfl, rfl, rfl, by decide +kernel, rfl, by decide +kernel, by decide +kernel⟩
theorem sc_played : FnScope ["width", "steps", "day", "told", "hung", "looks", "step"] ["width", "steps"] (defScope s_played) := ⟨rfl, rfl, rfl, by decide +kernel, rfl, by decide +kernel, by decide +kernel⟩
theorem sc_ltaken : FnScope ["_law_row", "_law_many", "_law_found", "_law_cell"] ["_law_row", "_law_many"] (defScope s_ltaken) := ⟨rfl, rfl, rfl, by decide +kernel, rfl, by decide +kernel, by decide +kernel⟩
theorem sc_lalike : FnScope ["_law_found", "_law_due", "_law_k"] ["_law_found", "_law_due"] (defScope s_lalike) := ⟨rfl, rfl, rfl, by decide +kernel, rfl, by decide +kernel, by decide +kernel⟩
theorem sc_lword : FnScope ["_law_work", "e", "_law_kinds", "_law_words", "_law_word_here"] ["_law_work"] (defScope s_lword) := ⟨rfl, rfl, rfl, by decide +kernel, rfl, by decide +kernel, by decide +kernel⟩
theorem sc_lnumber : FnScope ["_law_row", "_law_width_here", "_law_k"] ["_law_row", "_law_width_here"] (defScope s_lnumber) := ⟨rfl, rfl, rfl, by decide +kernel, rfl, by decide +kernel, by decide +kernel⟩
theorem sc_lnear : FnScope ["_law_row", "_law_width_here", "_law_some", "_law_number_here", "_law_many"] ["_law_row", "_law_width_here", "_law_some"] (defScope s_lnear) := ⟨rfl, rfl, rfl, by decide +kernel, rfl, by decide +kernel, by decide +kernel⟩
theorem sc_lthings : FnScope ["_law_row", "_law_width_here", "_law_most", "_law_found", "_law_base", "_law_k", "_law_number_here"] ["_law_row", "_law_width_here", "_law_most"] (defScope s_lthings) := ⟨rfl, rfl, rfl, by decide +kernel, rfl, by decide +kernel, by decide +kernel⟩
theorem sc_lwidth : FnScope ["_law_row"] ["_law_row"] (defScope s_lwidth) := ⟨rfl, rfl, rfl, by decide +kernel, rfl, by decide +kernel, by decide +kernel⟩
theorem sc_llooked : FnScope ["_law_numbers", "_law_beginning", "_law_zero", "_law_one", "_law_number_here"] ["_law_numbers", "_law_beginning"] (defScope s_llooked) := ⟨rfl, rfl, rfl, by decide +kernel, rfl, by decide +kernel, by decide +kernel⟩
theorem sc_lmodel : FnScope ["_law_width_here"] ["_law_width_here"] (defScope s_lmodel) := ⟨rfl, rfl, rfl, by decide +kernel, rfl, by decide +kernel, by decide +kernel⟩
theorem sc_lbegun : FnScope ["_law_m", "_law_kind", "_law_number_here"] ["_law_m", "_law_kind"] (defScope s_lbegun) := ⟨rfl, rfl, rfl, by decide +kernel, rfl, by decide +kernel, by decide +kernel⟩
theorem sc_lsaid : FnScope ["_law_m", "_law_bit", "_law_place", "_law_number_here"] ["_law_m", "_law_bit"] (defScope s_lsaid) := ⟨rfl, rfl, rfl, by decide +kernel, rfl, by decide +kernel, by decide +kernel⟩
theorem sc_ldeed : FnScope ["_law_m", "_law_word_here", "_law_number_here", "_law_one"] ["_law_m", "_law_word_here", "_law_number_here"] (defScope s_ldeed) := ⟨rfl, rfl, rfl, by decide +kernel, rfl, by decide +kernel, by decide +kernel⟩
theorem sc_lpath : FnScope ["_law_kind"] ["_law_kind"] (defScope s_lpath) := ⟨rfl, rfl, rfl, by decide +kernel, rfl, by decide +kernel, by decide +kernel⟩
theorem sc_lover : FnScope ["_law_w", "_law_m", "_law_number_here"] ["_law_w", "_law_m"] (defScope s_lover) := ⟨rfl, rfl, rfl, by decide +kernel, rfl, by decide +kernel, by decide +kernel⟩
theorem sc_lstep : FnScope ["_law_w", "_law_m", "_law_goal", "_law_sign", "_law_zero", "_law_one"] ["_law_w", "_law_m"] (defScope s_lstep) := ⟨rfl, rfl, rfl, by decide +kernel, rfl, by decide +kernel, by decide +kernel⟩
theorem sc_lround : FnScope ["_law_w", "_law_m", "_law_told"] ["_law_w", "_law_m"] (defScope s_lround) := ⟨rfl, rfl, rfl, by decide +kernel, rfl, by decide +kernel, by decide +kernel⟩
theorem sc_lpool : FnScope ["_law_row", "_law_width_here", "_law_names"] ["_law_row", "_law_width_here"] (defScope s_lpool) := ⟨rfl, rfl, rfl, by decide +kernel, rfl, by decide +kernel, by decide +kernel⟩
theorem sc_lday : FnScope ["_law_width_here"] ["_law_width_here"] (defScope s_lday) := ⟨rfl, rfl, rfl, by decide +kernel, rfl, by decide +kernel, by decide +kernel⟩
theorem sc_lturn : FnScope ["_law_m", "_law_w", "_law_ringing", "_law_number_here"] ["_law_m", "_law_w"] (defScope s_lturn) := ⟨rfl, rfl, rfl, by decide +kernel, rfl, by decide +kernel, by decide +kernel⟩
theorem sc_lwalked : FnScope ["_law_w", "_law_m"] ["_law_w", "_law_m"] (defScope s_lwalked) := ⟨rfl, rfl, rfl, by decide +kernel, rfl, by decide +kernel, by decide +kernel⟩
theorem sc_ldo : FnScope ["_law_day_here", "_law_step_here", "_law_m", "_law_w", "_law_word_here", "_law_now", "_law_ahead", "_law_one"] ["_law_day_here", "_law_step_here"] (defScope s_ldo) := ⟨rfl, rfl, rfl, by decide +kernel, rfl, by decide +kernel, by decide +kernel⟩
theorem sc_ldrawn : FnScope ["_law_row", "_law_names", "_law_word_here", "_law_number_here"] ["_law_row", "_law_names"] (defScope s_ldrawn) := ⟨rfl, rfl, rfl, by decide +kernel, rfl, by decide +kernel, by decide +kernel⟩
theorem sc_lodd : FnScope ["_law_row", "_law_far", "_law_some"] ["_law_row"] (defScope s_lodd) := ⟨rfl, rfl, rfl, by decide +kernel, rfl, by decide +kernel, by decide +kernel⟩
theorem sc_law : FnScope ["_law_script", "_law_row", "_law_turn_here", "_law_width_here", "_law_names", "_law_day_here", "_law_steps", "_law_due", "_law_word_here", "_law_k", "_law_step_here", "_law_refused", "_law_told", "_law_handed", "_law_again", "_law_found", "_law_at", "_law_odd_here", "_law_spoilt", "_law_many"] ["_law_script"] (defScope s_law) := ⟨rfl, rfl, rfl, by decide +kernel, rfl, by decide +kernel, by decide +kernel⟩
def d_require_width : He.DefD := ⟨("require_width", none), "require_width", "require_width", defArgs s_require_width, defBody s_require_width, defScope s_require_width, [], []⟩
def d_require_number : He.DefD := ⟨("require_number", none), "require_number", "require_number", defArgs s_require_number, defBody s_require_number, defScope s_require_number, [], []⟩
def d_is_number : He.DefD := ⟨("is_number", none), "is_number", "is_number", defArgs s_is_number, defBody s_is_number, defScope s_is_number, [], []⟩
def d_require_kind : He.DefD := ⟨("require_kind", none), "require_kind", "require_kind", defArgs s_require_kind, defBody s_require_kind, defScope s_require_kind, [], []⟩
def d_Wire_init : He.DefD := ⟨("Wire", some "__init__"), "__init__", "Wire.__init__", defArgs s_Wire_init, defBody s_Wire_init, defScope s_Wire_init, [], []⟩
def d_Wire_hang : He.DefD := ⟨("Wire", some "hang"), "hang", "Wire.hang", defArgs s_Wire_hang, defBody s_Wire_hang, defScope s_Wire_hang, [], []⟩
def d_Wire_off : He.DefD := ⟨("Wire", some "off"), "off", "Wire.off", defArgs s_Wire_off, defBody s_Wire_off, defScope s_Wire_off, [], []⟩
def d_Wire_alarm : He.DefD := ⟨("Wire", some "alarm"), "alarm", "Wire.alarm", defArgs s_Wire_alarm, defBody s_Wire_alarm, defScope s_Wire_alarm, [], []⟩
def d_Wire_calm : He.DefD := ⟨("Wire", some "calm"), "calm", "Wire.calm", defArgs s_Wire_calm, defBody s_Wire_calm, defScope s_Wire_calm, [], []⟩
def d_Wire_hung : He.DefD := ⟨("Wire", some "hung"), "hung", "Wire.hung", defArgs s_Wire_hung, defBody s_Wire_hung, defScope s_Wire_hung, [], []⟩
def d_Wire_alarms : He.DefD := ⟨("Wire", some "alarms"), "alarms", "Wire.alarms", defArgs s_Wire_alarms, defBody s_Wire_alarms, defScope s_Wire_alarms, [], []⟩
def d_Wire_begin : He.DefD := ⟨("Wire", some "begin"), "begin", "Wire.begin", defArgs s_Wire_begin, defBody s_Wire_begin, defScope s_Wire_begin, [], []⟩
def d_Wire_look : He.DefD := ⟨("Wire", some "look"), "look", "Wire.look", defArgs s_Wire_look, defBody s_Wire_look, defScope s_Wire_look, [], []⟩
def d_Wire_say : He.DefD := ⟨("Wire", some "say"), "say", "Wire.say", defArgs s_Wire_say, defBody s_Wire_say, defScope s_Wire_say, [], []⟩
def d_Wire_looks : He.DefD := ⟨("Wire", some "looks"), "looks", "Wire.looks", defArgs s_Wire_looks, defBody s_Wire_looks, defScope s_Wire_looks, [], []⟩
def d_Wire__require_hanging : He.DefD := ⟨("Wire", some "_require_hanging"), "_require_hanging", "Wire._require_hanging", defArgs s_Wire__require_hanging, defBody s_Wire__require_hanging, defScope s_Wire__require_hanging, [], []⟩
def d_Wire__require_round : He.DefD := ⟨("Wire", some "_require_round"), "_require_round", "Wire._require_round", defArgs s_Wire__require_round, defBody s_Wire__require_round, defScope s_Wire__require_round, [], []⟩
def d_Walk_init : He.DefD := ⟨("Walk", some "__init__"), "__init__", "Walk.__init__", defArgs s_Walk_init, defBody s_Walk_init, defScope s_Walk_init, [], []⟩
def d_Walk_step : He.DefD := ⟨("Walk", some "step"), "step", "Walk.step", defArgs s_Walk_step, defBody s_Walk_step, defScope s_Walk_step, [], []⟩
def d_Walk_go_round : He.DefD := ⟨("Walk", some "go_round"), "go_round", "Walk.go_round", defArgs s_Walk_go_round, defBody s_Walk_go_round, defScope s_Walk_go_round, [], []⟩
def d_Walk_go_all : He.DefD := ⟨("Walk", some "go_all"), "go_all", "Walk.go_all", defArgs s_Walk_go_all, defBody s_Walk_go_all, defScope s_Walk_go_all, [], []⟩
def d_Walk_left : He.DefD := ⟨("Walk", some "left"), "left", "Walk.left", defArgs s_Walk_left, defBody s_Walk_left, defScope s_Walk_left, [], []⟩
def d_Walk_found : He.DefD := ⟨("Walk", some "found"), "found", "Walk.found", defArgs s_Walk_found, defBody s_Walk_found, defScope s_Walk_found, [], []⟩
def d_Walk_paper : He.DefD := ⟨("Walk", some "paper"), "paper", "Walk.paper", defArgs s_Walk_paper, defBody s_Walk_paper, defScope s_Walk_paper, [], []⟩
def d_Walk_is_under_way : He.DefD := ⟨("Walk", some "is_under_way"), "is_under_way", "Walk.is_under_way", defArgs s_Walk_is_under_way, defBody s_Walk_is_under_way, defScope s_Walk_is_under_way, [], []⟩
def d_Walk__begin_round : He.DefD := ⟨("Walk", some "_begin_round"), "_begin_round", "Walk._begin_round", defArgs s_Walk__begin_round, defBody s_Walk__begin_round, defScope s_Walk__begin_round, [], []⟩
def d_Walk__say : He.DefD := ⟨("Walk", some "_say"), "_say", "Walk._say", defArgs s_Walk__say, defBody s_Walk__say, defScope s_Walk__say, [], []⟩
def d_Desk_init : He.DefD := ⟨("Desk", some "__init__"), "__init__", "Desk.__init__", defArgs s_Desk_init, defBody s_Desk_init, defScope s_Desk_init, [], []⟩
def d_Desk_turn : He.DefD := ⟨("Desk", some "turn"), "turn", "Desk.turn", defArgs s_Desk_turn, defBody s_Desk_turn, defScope s_Desk_turn, [], []⟩
def d_Keeper_init : He.DefD := ⟨("Keeper", some "__init__"), "__init__", "Keeper.__init__", defArgs s_Keeper_init, defBody s_Keeper_init, defScope s_Keeper_init, [], []⟩
def d_Keeper_refresh : He.DefD := ⟨("Keeper", some "refresh"), "refresh", "Keeper.refresh", defArgs s_Keeper_refresh, defBody s_Keeper_refresh, defScope s_Keeper_refresh, [], []⟩
def d_Keeper_last : He.DefD := ⟨("Keeper", some "last"), "last", "Keeper.last", defArgs s_Keeper_last, defBody s_Keeper_last, defScope s_Keeper_last, [], []⟩
def d_require_steps : He.DefD := ⟨("require_steps", none), "require_steps", "require_steps", defArgs s_require_steps, defBody s_require_steps, defScope s_require_steps, [], []⟩
def d_is_step : He.DefD := ⟨("is_step", none), "is_step", "is_step", defArgs s_is_step, defBody s_is_step, defScope s_is_step, [], []⟩
def d_is_some_number : He.DefD := ⟨("is_some_number", none), "is_some_number", "is_some_number", defArgs s_is_some_number, defBody s_is_some_number, defScope s_is_some_number, [], []⟩
def d_Day_init : He.DefD := ⟨("Day", some "__init__"), "__init__", "Day.__init__", defArgs s_Day_init, defBody s_Day_init, defScope s_Day_init, [], []⟩
def d_Day_do : He.DefD := ⟨("Day", some "do"), "do", "Day.do", defArgs s_Day_do, defBody s_Day_do, defScope s_Day_do, [], []⟩
def d_Day_end : He.DefD := ⟨("Day", some "end"), "end", "Day.end", defArgs s_Day_end, defBody s_Day_end, defScope s_Day_end, [], []⟩
def d_Day__require_no_round : He.DefD := ⟨("Day", some "_require_no_round"), "_require_no_round", "Day._require_no_round", defArgs s_Day__require_no_round, defBody s_Day__require_no_round, defScope s_Day__require_no_round, [], []⟩
def d_played : He.DefD := ⟨("played", none), "played", "played", defArgs s_played, defBody s_played, defScope s_played, [], []⟩
def d_ltaken : He.DefD := ⟨("_law_taken", none), "_law_taken", "_law_taken", defArgs s_ltaken, defBody s_ltaken, defScope s_ltaken, [], []⟩
def d_lalike : He.DefD := ⟨("_law_alike", none), "_law_alike", "_law_alike", defArgs s_lalike, defBody s_lalike, defScope s_lalike, [], []⟩
def d_lword : He.DefD := ⟨("_law_word", none), "_law_word", "_law_word", defArgs s_lword, defBody s_lword, defScope s_lword, [], []⟩
def d_lnumber : He.DefD := ⟨("_law_number", none), "_law_number", "_law_number", defArgs s_lnumber, defBody s_lnumber, defScope s_lnumber, [], []⟩
def d_lnear : He.DefD := ⟨("_law_near", none), "_law_near", "_law_near", defArgs s_lnear, defBody s_lnear, defScope s_lnear, [], []⟩
def d_lthings : He.DefD := ⟨("_law_things", none), "_law_things", "_law_things", defArgs s_lthings, defBody s_lthings, defScope s_lthings, [], []⟩
def d_lwidth : He.DefD := ⟨("_law_width", none), "_law_width", "_law_width", defArgs s_lwidth, defBody s_lwidth, defScope s_lwidth, [], []⟩
def d_llooked : He.DefD := ⟨("_law_looked", none), "_law_looked", "_law_looked", defArgs s_llooked, defBody s_llooked, defScope s_llooked, [], []⟩
def d_lmodel : He.DefD := ⟨("_law_model", none), "_law_model", "_law_model", defArgs s_lmodel, defBody s_lmodel, defScope s_lmodel, [], []⟩
def d_lbegun : He.DefD := ⟨("_law_begun", none), "_law_begun", "_law_begun", defArgs s_lbegun, defBody s_lbegun, defScope s_lbegun, [], []⟩
def d_lsaid : He.DefD := ⟨("_law_said", none), "_law_said", "_law_said", defArgs s_lsaid, defBody s_lsaid, defScope s_lsaid, [], []⟩
def d_ldeed : He.DefD := ⟨("_law_deed", none), "_law_deed", "_law_deed", defArgs s_ldeed, defBody s_ldeed, defScope s_ldeed, [], []⟩
def d_lpath : He.DefD := ⟨("_law_path", none), "_law_path", "_law_path", defArgs s_lpath, defBody s_lpath, defScope s_lpath, [], []⟩
def d_lover : He.DefD := ⟨("_law_over", none), "_law_over", "_law_over", defArgs s_lover, defBody s_lover, defScope s_lover, [], []⟩
def d_lstep : He.DefD := ⟨("_law_step", none), "_law_step", "_law_step", defArgs s_lstep, defBody s_lstep, defScope s_lstep, [], []⟩
def d_lround : He.DefD := ⟨("_law_round", none), "_law_round", "_law_round", defArgs s_lround, defBody s_lround, defScope s_lround, [], []⟩
def d_lpool : He.DefD := ⟨("_law_pool", none), "_law_pool", "_law_pool", defArgs s_lpool, defBody s_lpool, defScope s_lpool, [], []⟩
def d_lday : He.DefD := ⟨("_law_day", none), "_law_day", "_law_day", defArgs s_lday, defBody s_lday, defScope s_lday, [], []⟩
def d_lturn : He.DefD := ⟨("_law_turn", none), "_law_turn", "_law_turn", defArgs s_lturn, defBody s_lturn, defScope s_lturn, [], []⟩
def d_lwalked : He.DefD := ⟨("_law_walked", none), "_law_walked", "_law_walked", defArgs s_lwalked, defBody s_lwalked, defScope s_lwalked, [], []⟩
def d_ldo : He.DefD := ⟨("_law_do", none), "_law_do", "_law_do", defArgs s_ldo, defBody s_ldo, defScope s_ldo, [], []⟩
def d_ldrawn : He.DefD := ⟨("_law_drawn", none), "_law_drawn", "_law_drawn", defArgs s_ldrawn, defBody s_ldrawn, defScope s_ldrawn, [], []⟩
def d_lodd : He.DefD := ⟨("_law_odd", none), "_law_odd", "_law_odd", defArgs s_lodd, defBody s_lodd, defScope s_lodd, [], []⟩
def d_law : He.DefD := ⟨("law", none), "law", "law", defArgs s_law, defBody s_law, defScope s_law, [], []⟩
def d_BadStep_init : He.DefD := ⟨("BadStep", some "__init__"), "__init__", "BadStep.__init__", defArgs s_BadStep_init, defBody s_BadStep_init, defScope s_BadStep_init, [], []⟩
def fs : List He.DefD := [d_BadStep_init]
def fa : List He.Fa := [.glo "require_width", .glo "require_number", .glo "is_number", .glo "require_kind", .glo "require_steps", .glo "is_step", .glo "is_some_number", .glo "played", .glo "_law_taken", .glo "_law_alike", .glo "_law_word", .glo "_law_number", .glo "_law_near", .glo "_law_things", .glo "_law_width", .glo "_law_looked", .glo "_law_model", .glo "_law_begun", .glo "_law_said", .glo "_law_deed", .glo "_law_path", .glo "_law_over", .glo "_law_step", .glo "_law_round", .glo "_law_pool", .glo "_law_day", .glo "_law_turn", .glo "_law_walked", .glo "_law_do", .glo "_law_drawn", .glo "_law_odd", .glo "law", .glo "BusError", .glo "BadWidth", .glo "BadNumber", .glo "BadKind", .glo "BadBit", .glo "There", .glo "NotThere", .glo "NoRound", .glo "Over", .glo "Busy", .glo "BadLooks", .glo "BadRoster", .glo "TooMany", .glo "BadPlan", .glo "BadStep", .glo "BadText", .glo "Wire", .glo "Walk", .glo "Desk", .glo "Keeper", .glo "Day", .int "LEAST_WIDTH" 1, .int "GREATEST_WIDTH" 12, .int "MOST_STEPS" 200, .glo "KINDS", .glo "WORDS_ALONE", .glo "WORDS_OF_THINGS", .free "super", .free "isinstance", .free "bool", .free "all", .free "str", .free "len", .free "sorted", .free "list", .free "int", .free "enumerate", .free "tuple", .free "range", .free "ValueError", .free "max", .cls "Wire", .mkr "Wire", .noat "Wire" "width", .noat "Wire" "_hanging", .noat "Wire" "_listening", .noat "Wire" "_many_said", .noat "Wire" "_many_looks", .meth "Wire" "hang", .meth "Wire" "off", .meth "Wire" "alarm", .meth "Wire" "calm", .meth "Wire" "hung", .meth "Wire" "alarms", .meth "Wire" "begin", .meth "Wire" "look", .meth "Wire" "say", .meth "Wire" "looks", .meth "Wire" "_require_hanging", .meth "Wire" "_require_round", .cls "Walk", .mkr "Walk", .noat "Walk" "_wire", .noat "Walk" "_kind", .noat "Walk" "_row", .noat "Walk" "_found", .noat "Walk" "_paper", .noat "Walk" "_said", .meth "Walk" "step", .meth "Walk" "go_round", .meth "Walk" "go_all", .meth "Walk" "left", .meth "Walk" "found", .meth "Walk" "paper", .meth "Walk" "is_under_way", .meth "Walk" "_begin_round", .meth "Walk" "_say", .cls "Desk", .mkr "Desk", .noat "Desk" "_wire", .noat "Desk" "_walk", .meth "Desk" "turn", .cls "Keeper", .mkr "Keeper", .noat "Keeper" "_wire", .noat "Keeper" "_last", .meth "Keeper" "refresh", .meth "Keeper" "last", .cls "Day", .mkr "Day", .noat "Day" "_wire", .noat "Day" "_walk", .noat "Day" "_desk", .noat "Day" "_keeper", .meth "Day" "do", .meth "Day" "end", .meth "Day" "_require_no_round", .exc "BadNumber", .exc "There", .exc "NotThere", .exc "NoRound", .exc "Over", .exc "Busy", .exm "BadNumber" "BusError" true, .exm "There" "BusError" true, .exm "NotThere" "BusError" true, .exm "NoRound" "BusError" true, .exm "Over" "BusError" true, .exm "Busy" "BusError" true, .exm "BadStep" "BusError" true]
def fn : List He.DefD := [d_require_width, d_require_number, d_is_number, d_require_kind, d_Wire_init, d_Wire_hang, d_Wire_off, d_Wire_alarm, d_Wire_calm, d_Wire_hung, d_Wire_alarms, d_Wire_begin, d_Wire_look, d_Wire_say, d_Wire_looks, d_Wire__require_hanging, d_Wire__require_round, d_Walk_init, d_Walk_step, d_Walk_go_round, d_Walk_go_all, d_Walk_left, d_Walk_found, d_Walk_paper, d_Walk_is_under_way, d_Walk__begin_round, d_Walk__say, d_Desk_init, d_Desk_turn, d_Keeper_init, d_Keeper_refresh, d_Keeper_last, d_require_steps, d_is_step, d_is_some_number, d_Day_init, d_Day_do, d_Day_end, d_Day__require_no_round, d_played, d_ltaken, d_lalike, d_lword, d_lnumber, d_lnear, d_lthings, d_lwidth, d_llooked, d_lmodel, d_lbegun, d_lsaid, d_ldeed, d_lpath, d_lover, d_lstep, d_lround, d_lpool, d_lday, d_lturn, d_lwalked, d_ldo, d_ldrawn, d_lodd, d_law]
def pd_is_number : He.Defn := ("is_number", none)
def pd_law : He.Defn := ("law", none)
def gens : List He.Defn := [pd_is_number]
def lams : List (He.Defn × Str) := [(pd_law, "law.<locals>.<lambda>")]
def tf : List He.Defn := [pd_is_number, pd_law]
def kitC (K : PySem.W.Frag) (c d : Str) (b : Bool) : Bool := decide (PySem.W.kitOne K (.ref (He.ga K c)) (.ref (He.ga K d)) = some b)
def excC (K : PySem.W.Frag) (c : Str) : Bool :=
  He.eqO (PySem.W.findIn K (.ref (He.ga K c)) "__getattribute__") (some (some (.builtin "BaseException.__getattribute__"))) &&
  He.eqO (PySem.W.findIn K (.ref (He.ga K c)) "__getattr__") (some none) && PySem.W.hasDictIn K (He.ga K c) &&
  He.eqO (PySem.W.findIn K (.ref (He.ga K c)) "__class__") (some (some (.builtin "object.__class__"))) &&
  decide (PySem.W.specialIn K (.builtin "object.__class__") "__get__" = some (some (.builtin "getset_descriptor.__get__"))) &&
  decide (PySem.W.takesIn K (.builtin "object.__class__") = some true) && decide (PySem.W.mroIn K (He.ga K c) (.type "object") = some true) &&
  decide (PySem.W.kitOne K (.ref (He.ga K c)) (.type "ValueError") = some true)
def tupB (K : PySem.W.Frag) (x : Str) (vs : List V) : Bool := match K.lookup (He.ga K x) with
  | some ⟨.type t, _, .seq its _, _⟩ => decide (t = "tuple") && He.relAll vs its.toList
  | _ => false
def allErr : List Str := ["BadWidth", "BadNumber", "BadKind", "BadBit", "There", "NotThere", "NoRound", "Over", "Busy", "BadLooks", "BadRoster", "TooMany", "BadPlan", "BadStep", "BadText"]
def raised : List Str := ["BadNumber", "There", "NotThere", "NoRound", "Over", "Busy", "BadStep"]
def exExc (K : PySem.W.Frag) : Bool := raised.all fun c => excC K c && allErr.all fun d => kitC K c d (decide (c = d))
def exS_BadStep (K : PySem.W.Frag) : Bool := cloOk K (PySem.Challenge.rw_busfind_k18_days_played).prog.main.file d_BadStep_init "BadStep" && scB K (He.ga K "BadStep") (He.fAd K d_BadStep_init.at_) "number"
def exTup (K : PySem.W.Frag) : Bool := (exS_BadStep K && (tupB K "KINDS" [.str "all", .str "alarm"] && (tupB K "WORDS_ALONE" [.str "step", .str "round", .str "turn", .str "refresh"] && tupB K "WORDS_OF_THINGS" [.str "hang", .str "off", .str "alarm", .str "calm"])))
def ex (K : PySem.W.Frag) : Bool := decide ((tf.map fun p => (He.cT K p).2).Nodup) && (exTup K && exExc K)
abbrev R : PySem.W.OpenRow := PySem.W.OpenLaw.row PySem.Challenge.rw_busfind_k18_days_played
abbrev hk : PySem.W.Hook := hookS 5 fa fn [] tf ex fs
def ob (s : PySem.W.SharedT) : He.AlX × List FnS := ((He.obsT fa fn [] (frS 5 (HandSHeadRun.getT s)), ex (frS 5 (HandSHeadRun.getT s)) && He.tabsB (HandSHeadRun.getT s) tf (frS 5 (HandSHeadRun.getT s))), fs.map fun d => fnS (frS 5 (HandSHeadRun.getT s)) d.at_)
theorem ob_eq (s : PySem.W.SharedT) : ob s = hk.obs s.abs := by
  have e : HandSHeadRun.getT s = s.abs.heap.get? := funext (HandSHeadRun.getT_eq s)
  unfold ob
  rw [e] <;> rfl
def names : List Str := (["BusError", "BadWidth", "BadNumber", "BadKind", "BadBit", "There", "NotThere", "NoRound", "Over", "Busy", "BadLooks", "BadRoster", "TooMany", "BadPlan", "BadStep"] : List Str) ++ (["BadText", "LEAST_WIDTH", "GREATEST_WIDTH", "require_width", "require_number", "is_number", "KINDS", "require_kind", "Wire", "Walk", "Desk", "Keeper", "MOST_STEPS", "WORDS_ALONE", "WORDS_OF_THINGS"] : List Str) ++ (["require_steps", "is_step", "is_some_number", "Day", "played", "_law_taken", "_law_alike", "_law_word", "_law_number", "_law_near", "_law_things", "_law_width", "_law_looked", "_law_model", "_law_begun"] : List Str) ++ (["_law_said", "_law_deed", "_law_path", "_law_over", "_law_step", "_law_round", "_law_pool", "_law_day", "_law_turn", "_law_walked", "_law_do", "_law_drawn", "_law_odd"] : List Str)
set_option maxHeartbeats 0 in
theorem run (w : World) : HandSHeadRun.RunEq R (PySem.W.view R.prog [67]) hk ob 16000 names w := by
  intro os
  kernel_rfl
end B

set_option Elab.async false
set_option linter.all false
set_option maxRecDepth 100000
set_option maxHeartbeats 4000000
namespace B
open PySem PySem.Spec PyProof.Rows L2
/-- what the defs lean on: the written part, the names, the code tables -/
structure Txt (P : Program) (w : World) (K : PySem.W.Frag) (mg : Str → Option Value) (base : Heap) : Prop where
  X : K.In base
  G : base.Ns mainGlobals mg
  t : He.SaysD fa fn K
  m : ex K = true
  tb : ∀ p ∈ tf, LamX.TabB base mg (He.cT K p).1 (He.cT K p).2
  s : ∀ d ∈ fs, fnS K d.at_ = sVal d
  p : P = R.prog
/-- a def that may be called by its name -/
structure CalX (CX : CXT) (P : Program) (w : World) (K : PySem.W.Frag) (mg : Str → Option Value) (base : Heap) (k : Nat) (x : Str) (sp : Sp) : Prop where
  ex : ∃ (f : Addr) (fd : FuncData) (ps : List Str), FnOk P w K mg base CX k f fd ps sp ∧ mg x = some (.ref f) ∧ PySem.W.keepIn K (.ref f) = true ∧ Binds K fd ps []
structure MetX (CX : CXT) (P : Program) (w : World) (K : PySem.W.Frag) (mg : Str → Option Value) (base : Heap) (k : Nat) (C : Addr) (m : Str) (sp : Sp) : Prop where
  ex : ∃ (f : Addr) (fd : FuncData) (ps : List Str), Cls K C ∧ Meth K C m f ∧ FnOk P w K mg base CX k f fd ps sp ∧ Binds K fd ps []
structure MakX (CX : CXT) (P : Program) (w : World) (K : PySem.W.Frag) (mg : Str → Option Value) (base : Heap) (k : Nat) (x : Str) (C : Addr) (sp : Sp) : Prop where
  ex : ∃ (f : Addr) (fd : FuncData) (ps : List Str), Mk K C f ∧ FnOk P w K mg base CX k f fd ps sp ∧ mg x = some (.ref C) ∧ Binds K fd ps []
section
variable {X : Cx} {CX : CXT} {k j : Nat} {C : Addr} {x m : Str} {sp : Sp} {p pos apos : Pos} {e o : Expr} {es : List Expr} {ta : TE} {t : TA} {E : XK}
theorem pe_cx (c : CalX CX X.prog X.w X.K X.mg X.base k x sp) (hr : Room j X.A) (hk : k ≤ j) (hg : Gl X x) (hx : Passes CX X E) (ha : PA X (e :: es) t)
    (hdb : (x == ("__debug__" : Str)) = false := by decide) (he : starEach (e :: es) X.env = (false, eval e X.env) :: starEach es X.env := by rfl) (hpl : (backTo pos (starEach es X.env)).any (·.1) = false := by rfl) :
    PE X (.Call (.Name x p) (e :: es) [] pos) (tCall sp [] E t) := by
  obtain ⟨f, fd, ps, F, hm, hkp, hb⟩ := c.ex
  exact pe_call F (hr.mono hk) hg hm hkp hb .nil hx ha hdb he hpl
theorem pe_mx {pl : Sem Bool} (c : MetX CX X.prog X.w X.K X.mg X.base k C m sp) (hr : Room j X.A) (hk : k ≤ j) (he : PE X o ta) (hx : Passes CX X E) (ha : PA X (e :: es) t)
    (hst : starEach (e :: es) X.env = (false, eval e X.env) :: starEach es X.env := by rfl) (hpl : (backTo pos (starEach es X.env)).any (·.1) = false := by rfl)
    (ht : eval (.Call (.Attribute o m apos) (e :: es) [] pos) X.env = (do
      let ov ← eval o X.env
      standAt apos.atName
      let (f, first) ← holding [ov] (getMethod ov m pl)
      callWith pos f first (backTo pos (starEach (e :: es) X.env)) (backToKw pos (keywordEach [] X.env))) := by rfl) :
    PE X (.Call (.Attribute o m apos) (e :: es) [] pos) (tMeth C m sp [] E ta t) := by
  obtain ⟨f, fd, ps, hc, hm, F, b⟩ := c.ex
  exact pe_meth (pl := pl) he hc hm F (hr.mono hk) b .nil hx ha hst hpl ht
theorem pe_mx0 {pl : Sem Bool} (c : MetX CX X.prog X.w X.K X.mg X.base k C m sp) (hr : Room j X.A) (hk : k ≤ j) (he : PE X o ta) (hx : Passes CX X E)
    (ht : eval (.Call (.Attribute o m apos) [] [] pos) X.env = (do
      let ov ← eval o X.env
      standAt apos.atName
      let (f, first) ← holding [ov] (getMethod ov m pl)
      callWith pos f first (backTo pos (starEach [] X.env)) (backToKw pos (keywordEach [] X.env))) := by rfl) :
    PE X (.Call (.Attribute o m apos) [] [] pos) (tMeth C m sp [] E ta tNil) := by
  obtain ⟨f, fd, ps, hc, hm, F, b⟩ := c.ex
  exact pe_meth0 (pl := pl) he hc hm F (hr.mono hk) b .nil hx ht
/-- a field, the written part by its own name (within a comprehension) -/
theorem pe_fldK {K : PySem.W.Frag} {f : Str} (hK : X.K = K) (ha : PE X e ta) (hb : attributeBase e f X.env (eval e X.env) = eval e X.env := by rfl) : PE X (.Attribute e f pos) (tFld K ta f) := by
  subst hK
  exact pe_fld ha hb
theorem pe_mkx (c : MakX CX X.prog X.w X.K X.mg X.base k x C sp) (hr : Room j X.A) (hk : k + 1 ≤ j) (hg : Gl X x) (hx : Passes CX X E) (ha : PA X (e :: es) t)
    (hdb : (x == ("__debug__" : Str)) = false := by decide) (he : starEach (e :: es) X.env = (false, eval e X.env) :: starEach es X.env := by rfl) (hpl : (backTo pos (starEach es X.env)).any (·.1) = false := by rfl) :
    PE X (.Call (.Name x p) (e :: es) [] pos) (tMake C sp [] E t) := by
  obtain ⟨f, fd, ps, M, F, hm, b⟩ := c.ex
  exact pe_make M F (hr.mono hk) hg hm b .nil hx ha hdb he hpl
end
section
variable {P : Program} {w : World} {K : PySem.W.Frag} {mg : Str → Option Value} {base : Heap}
theorem g_BusError (T : Txt P w K mg base) : mg "BusError" = some (.ref (He.ga K "BusError")) := He.glo_ok T.X T.G (T.t.fact 32)
theorem g_BadWidth (T : Txt P w K mg base) : mg "BadWidth" = some (.ref (He.ga K "BadWidth")) := He.glo_ok T.X T.G (T.t.fact 33)
theorem g_BadNumber (T : Txt P w K mg base) : mg "BadNumber" = some (.ref (He.ga K "BadNumber")) := He.glo_ok T.X T.G (T.t.fact 34)
theorem g_BadKind (T : Txt P w K mg base) : mg "BadKind" = some (.ref (He.ga K "BadKind")) := He.glo_ok T.X T.G (T.t.fact 35)
theorem g_BadBit (T : Txt P w K mg base) : mg "BadBit" = some (.ref (He.ga K "BadBit")) := He.glo_ok T.X T.G (T.t.fact 36)
theorem g_There (T : Txt P w K mg base) : mg "There" = some (.ref (He.ga K "There")) := He.glo_ok T.X T.G (T.t.fact 37)
theorem g_NotThere (T : Txt P w K mg base) : mg "NotThere" = some (.ref (He.ga K "NotThere")) := He.glo_ok T.X T.G (T.t.fact 38)
theorem g_NoRound (T : Txt P w K mg base) : mg "NoRound" = some (.ref (He.ga K "NoRound")) := He.glo_ok T.X T.G (T.t.fact 39)
theorem g_Over (T : Txt P w K mg base) : mg "Over" = some (.ref (He.ga K "Over")) := He.glo_ok T.X T.G (T.t.fact 40)
theorem g_Busy (T : Txt P w K mg base) : mg "Busy" = some (.ref (He.ga K "Busy")) := He.glo_ok T.X T.G (T.t.fact 41)
theorem g_BadLooks (T : Txt P w K mg base) : mg "BadLooks" = some (.ref (He.ga K "BadLooks")) := He.glo_ok T.X T.G (T.t.fact 42)
theorem g_BadRoster (T : Txt P w K mg base) : mg "BadRoster" = some (.ref (He.ga K "BadRoster")) := He.glo_ok T.X T.G (T.t.fact 43)
theorem g_TooMany (T : Txt P w K mg base) : mg "TooMany" = some (.ref (He.ga K "TooMany")) := He.glo_ok T.X T.G (T.t.fact 44)
theorem g_BadPlan (T : Txt P w K mg base) : mg "BadPlan" = some (.ref (He.ga K "BadPlan")) := He.glo_ok T.X T.G (T.t.fact 45)
theorem g_BadStep (T : Txt P w K mg base) : mg "BadStep" = some (.ref (He.ga K "BadStep")) := He.glo_ok T.X T.G (T.t.fact 46)
theorem g_BadText (T : Txt P w K mg base) : mg "BadText" = some (.ref (He.ga K "BadText")) := He.glo_ok T.X T.G (T.t.fact 47)
theorem g_Wire (T : Txt P w K mg base) : mg "Wire" = some (.ref (He.ga K "Wire")) := He.glo_ok T.X T.G (T.t.fact 48)
theorem g_Walk (T : Txt P w K mg base) : mg "Walk" = some (.ref (He.ga K "Walk")) := He.glo_ok T.X T.G (T.t.fact 49)
theorem g_Desk (T : Txt P w K mg base) : mg "Desk" = some (.ref (He.ga K "Desk")) := He.glo_ok T.X T.G (T.t.fact 50)
theorem g_Keeper (T : Txt P w K mg base) : mg "Keeper" = some (.ref (He.ga K "Keeper")) := He.glo_ok T.X T.G (T.t.fact 51)
theorem g_Day (T : Txt P w K mg base) : mg "Day" = some (.ref (He.ga K "Day")) := He.glo_ok T.X T.G (T.t.fact 52)
theorem n_super (T : Txt P w K mg base) : mg "super" = none := He.free_ok T.X T.G (T.t.fact 59)
theorem n_isinstance (T : Txt P w K mg base) : mg "isinstance" = none := He.free_ok T.X T.G (T.t.fact 60)
theorem n_bool (T : Txt P w K mg base) : mg "bool" = none := He.free_ok T.X T.G (T.t.fact 61)
theorem n_all (T : Txt P w K mg base) : mg "all" = none := He.free_ok T.X T.G (T.t.fact 62)
theorem n_str (T : Txt P w K mg base) : mg "str" = none := He.free_ok T.X T.G (T.t.fact 63)
theorem n_len (T : Txt P w K mg base) : mg "len" = none := He.free_ok T.X T.G (T.t.fact 64)
theorem n_sorted (T : Txt P w K mg base) : mg "sorted" = none := He.free_ok T.X T.G (T.t.fact 65)
theorem n_list (T : Txt P w K mg base) : mg "list" = none := He.free_ok T.X T.G (T.t.fact 66)
theorem n_int (T : Txt P w K mg base) : mg "int" = none := He.free_ok T.X T.G (T.t.fact 67)
theorem n_enumerate (T : Txt P w K mg base) : mg "enumerate" = none := He.free_ok T.X T.G (T.t.fact 68)
theorem n_tuple (T : Txt P w K mg base) : mg "tuple" = none := He.free_ok T.X T.G (T.t.fact 69)
theorem n_range (T : Txt P w K mg base) : mg "range" = none := He.free_ok T.X T.G (T.t.fact 70)
theorem n_ValueError (T : Txt P w K mg base) : mg "ValueError" = none := He.free_ok T.X T.G (T.t.fact 71)
theorem n_max (T : Txt P w K mg base) : mg "max" = none := He.free_ok T.X T.G (T.t.fact 72)
theorem xs_BadStep (T : Txt P w K mg base) : exS_BadStep K = true := (He.ba (He.ba (He.ba T.m).2).1).1
theorem xc_KINDS (T : Txt P w K mg base) : tupB K "KINDS" [.str "all", .str "alarm"] = true := (He.ba (He.ba (He.ba (He.ba T.m).2).1).2).1
theorem xc_WORDS_ALONE (T : Txt P w K mg base) : tupB K "WORDS_ALONE" [.str "step", .str "round", .str "turn", .str "refresh"] = true := (He.ba (He.ba (He.ba (He.ba (He.ba T.m).2).1).2).2).1
theorem xc_WORDS_OF_THINGS (T : Txt P w K mg base) : tupB K "WORDS_OF_THINGS" [.str "hang", .str "off", .str "alarm", .str "calm"] = true := (He.ba (He.ba (He.ba (He.ba (He.ba T.m).2).1).2).2).2
end
section
variable {X : Cx}
theorem g_LEAST_WIDTH (T : Txt X.prog X.w X.K X.mg X.base) {p : Pos} (hg : Gl X "LEAST_WIDTH" := by rfl) : PE X (.Name "LEAST_WIDTH" p) (tC (.int 1)) := by
  obtain ⟨t, e⟩ := He.int_ok T.X T.G (T.t.fact 53 (f := .int "LEAST_WIDTH" 1))
  exact pe_glob hg e ⟨t, rfl⟩
theorem g_GREATEST_WIDTH (T : Txt X.prog X.w X.K X.mg X.base) {p : Pos} (hg : Gl X "GREATEST_WIDTH" := by rfl) : PE X (.Name "GREATEST_WIDTH" p) (tC (.int 12)) := by
  obtain ⟨t, e⟩ := He.int_ok T.X T.G (T.t.fact 54 (f := .int "GREATEST_WIDTH" 12))
  exact pe_glob hg e ⟨t, rfl⟩
theorem g_KINDS (T : Txt X.prog X.w X.K X.mg X.base) {p : Pos} (hg : Gl X "KINDS" := by rfl) : PE X (.Name "KINDS" p) (tC (.ref (He.ga X.K "KINDS"))) :=
  pe_glob hg (He.glo_ok T.X T.G (T.t.fact 56)) rfl
end
/-- a test whose answer is open -/
theorem iteB {b : Bool} {A B : Prop} (h1 : b = true → A) (h2 : b = false → B) : if b = true then A else B := by
  cases b with
  | true => exact iteT (h1 rfl)
  | false => exact iteF (h2 rfl)
/-! ### drawing -/
/-- the row of a draw -/
abbrev rowO (a : Addr) (i m b : Int) : HO := .lst [.ref a, .int i, .int m, .int b]
/-- the row at r stands over the script at a -/
def RowAt (r a : Addr) (H : Hp) : Prop := ∃ i m b : Int, H r = some (rowO a i m b) ∧ 0 ≤ i
/-- the script stands at a -/
def Scr (K : PySem.W.Frag) (a : Addr) (H : Hp) : Prop := ∃ ns : List Int, SqL K H a (ns.map V.int)
/-- no list but of objects, no tuple -/
def nl : HO → Bool
  | .ins _ _ _ => true
  | .dK _ => true
  | .lst (.ref _ :: _) => true
  | _ => false
def NL (S : List Addr) (H : Hp) : Prop := ∀ s ∈ S, ∃ o, H s = some o ∧ nl o = true
theorem NL.nil {H : Hp} : NL [] H := fun _ h => absurd h (by simp)
theorem NL.cons {S : List Addr} {H : Hp} {s : Addr} {o : HO} (h : H s = some o) (n : nl o = true) (t : NL S H) : NL (s :: S) H := fun c hc => by
  rcases List.mem_cons.mp hc with e | e
  · rw [e]
    exact ⟨o, h, n⟩
  · exact t c e
theorem RowAt.nl {r a : Addr} {H : Hp} (h : RowAt r a H) : NL [r] H := by
  obtain ⟨i, m, b, e, _⟩ := h
  exact .cons e rfl .nil
/-- a code table: only its own rules say what becomes of it -/
def isT : HO → Bool
  | .tbl _ => true
  | _ => false
/-- what stood stands, but for the objects of S; nothing goes -/
structure Frm (S : List Addr) (H H' : Hp) : Prop where
  k : ∀ b o, H b = some o → 0 = 0 → b ∉ S → H' b = some o
  b : ∀ b, H' b = none → H b = none
theorem Frm.refl (S : List Addr) (H : Hp) : Frm S H H := ⟨fun _ _ h _ _ => h, fun _ h => h⟩
theorem Frm.trans {S : List Addr} {H H1 H2 : Hp} (a : Frm S H H1) (b : Frm S H1 H2) : Frm S H H2 := ⟨fun c o h t n => b.k c o (a.k c o h t n) t n, fun c h => a.b c (b.b c h)⟩
theorem Frm.mono {S S' : List Addr} {H H1 : Hp} (a : Frm S H H1) (h : ∀ x ∈ S, x ∈ S') : Frm S' H H1 := ⟨fun c o e t n => a.k c o e t fun z => n (h c z), a.b⟩
theorem Frm.of {S : List Addr} {H H1 : Hp} (a : Same H H1) : Frm S H H1 := ⟨fun c o e _ _ => a c o e, fun c h => a.free h⟩
theorem upd_back {H : Hp} {p b : Addr} {o : HO} (h : upd H p o b = none) : H b = none := by
  by_cases e : b = p
  · rw [e, upd_same] at h
    cases h
  · rw [upd_ne e] at h
    exact h
theorem Frm.new {S : List Addr} {H H1 : Hp} {p : Addr} {o : HO} (a : Frm S H H1) (h : H p = none) : Frm S H (upd H1 p o) := ⟨fun c u e t n => by
  rw [upd_ne (ne_of_none e h)]
  exact a.k c u e t n, fun c z => a.b c (upd_back z)⟩
theorem Frm.put {S : List Addr} {H H1 : Hp} {p : Addr} {o : HO} (a : Frm S H H1) (h : p ∈ S) : Frm S H (upd H1 p o) := ⟨fun c u e t n => by
  rw [upd_ne (fun z => n (by rw [z]; exact h))]
  exact a.k c u e t n, fun c z => a.b c (upd_back z)⟩
theorem same_upd {H : Hp} {p : Addr} {o : HO} (h : H p = none) : Same H (upd H p o) := fun b x e => by
  rw [upd_ne (ne_of_none e h)]
  exact e
/-- what is no nl stands -/
theorem Frm.at {S : List Addr} {H H' : Hp} {p : Addr} {o : HO} (f : Frm S H H') (n : NL S H) (h : H p = some o) (h1 : isT o = false) (h2 : B.nl o = false) : H' p = some o :=
  f.k p o h rfl fun z => by
    obtain ⟨u, e, q⟩ := n p z
    rw [h] at e
    cases e
    rw [h2] at q
    cases q
theorem nl_strs (xs : List Str) : B.nl (.lst (xs.map V.str)) = false := by
  cases xs <;> rfl
theorem nl_ints (xs : List Int) : B.nl (.lst (xs.map V.int)) = false := by
  cases xs <;> rfl
theorem Frm.scr {K : PySem.W.Frag} {S : List Addr} {H H' : Hp} {a : Addr} (f : Frm S H H') (n : NL S H) (h : Scr K a H) : Scr K a H' := by
  obtain ⟨ns, (h | ⟨u, h⟩) | h⟩ := h
  · exact ⟨ns, .inl (.inl (f.at n h rfl (nl_ints ns)))⟩
  · exact ⟨ns, .inl (.inr ⟨u, f.at n h rfl rfl⟩)⟩
  · exact ⟨ns, .inr h⟩
theorem Frm.row {S : List Addr} {H H' : Hp} {r a : Addr} (f : Frm S H H') (hr : r ∉ S) (h : RowAt r a H) : RowAt r a H' := by
  obtain ⟨i, m, b, e, h0⟩ := h
  exact ⟨i, m, b, f.k r _ e rfl hr, h0⟩
/-- a number below n; the row turned -/
def spTaken (K : PySem.W.Frag) : Sp := fun vs H Q _ => ∃ (r a : Addr) (n : Int), vs = [.ref r, .int n] ∧ RowAt r a H ∧ Scr K a H ∧ 0 < n ∧ n < 1073741824 ∧
  ∀ (v : Int) (H' : Hp), 0 ≤ v → v < n → RowAt r a H' → Frm [r] H H' → Q (.int v) H'
theorem fmod_in {x n : Int} (h : 0 < n) : 0 ≤ x.fmod n ∧ x.fmod n < n := by
  rw [Int.fmod_eq_emod_of_nonneg _ (by omega)]
  exact ⟨Int.emod_nonneg _ (by omega), Int.emod_lt_of_pos _ h⟩
section
variable {P : Program} {w : World} {K : PySem.W.Frag} {mg : Str → Option Value} {base : Heap}
theorem c_ltaken (T : Txt P w K mg base) : CalX CX0 P w K mg base 1 "_law_taken" (spTaken K) := by
  obtain ⟨fd, F⟩ := T.t.def_ 40 (d := d_ltaken)
  refine ⟨_, fd, _, F.ok sc_ltaken (fun vs H Q E h => ?_) (fun cdv A outer s H vs Q E hr h => ?_), He.glo_ok T.X T.G (T.t.fact 8), F.kp, F.bindsN fun _ _ _ _ _ _ us hl => match us, hl with | [_, _], _ => rfl⟩
  · obtain ⟨r, a, n, rfl, _⟩ := h
    rfl
  · obtain ⟨r, a, n, rfl, ⟨i, m, b, h1, hi⟩, ⟨ns, hS⟩, hn, hn2, k0⟩ := h
    have f1 : ∀ o', Frm [r] H (upd H r o') := fun o' => (Frm.refl _ _).put (List.mem_singleton.mpr rfl)
    have k : ∀ v i' m' b' : Int, 0 ≤ i' → 0 ≤ v → v < n → Q (.int v) (upd H r (rowO a i' m' b')) := fun v i' m' b' h2 h3 h4 =>
      k0 v _ h3 h4 ⟨i', m', b', upd_same, h2⟩ (f1 _)
    refine ⟨_, PSs.nox (pss_cons (ps_if (pt_cmpR op_gt (pe_ix ix_list (pv 0) pe_int (fun _ _ => rfl)) pe_int (nomark _))
      (pss_cons (ps_set (i := 2) sc_ltaken.nd rfl (Or.inl rfl) (pe_op op_modN (pe_ix ix_list (pv 0) pe_int (fun _ _ => rfl)) (pv 1)))
      (pss_cons (ps_asg (pe_op op_fdivN (pe_ix ix_list (pv 0) pe_int (fun _ _ => rfl)) (pv 1)) (pg_sub (pv 0) pe_int set_list))
      (pss_one (ps_ret (pv 2)))))
      pss_nil)
    (pss_cons (ps_asg (pe_op op_add (pe_ix ix_list (pv 0) pe_int (fun _ _ => rfl)) pe_int) (pg_sub (pv 0) pe_int set_list))
    (pss_cons (ps_if (pt_cmpR op_gt (pe_ix ix_list (pv 0) pe_int (fun _ _ => rfl)) (pe_callB call_len_seq (by rfl) (n_len T) PySem.boot_len (pa_cons (pe_ix ix_list (pv 0) pe_int (fun _ _ => rfl)) pa_nil)) (nomark _))
      (pss_cons (ps_asg (pe_op op_mod (pe_op op_add (pe_op op_mul (pe_ix ix_list (pv 0) pe_int (fun _ _ => rfl)) pe_int) pe_int) pe_int) (pg_sub (pv 0) pe_int set_list))
      (pss_one (ps_ret (pe_op op_modN (pe_op op_fdiv (pe_ix ix_list (pv 0) pe_int (fun _ _ => rfl)) pe_int) (pv 1)))))
      pss_nil)
    (pss_cons (ps_set (i := 3) sc_ltaken.nd rfl (Or.inl rfl) (pe_ix ix_list (pe_ix ix_list (pv 0) pe_int (fun _ _ => rfl)) (pe_op op_sub (pe_ix ix_list (pv 0) pe_int (fun _ _ => rfl)) pe_int) (fun _ _ => rfl)))
    (pss_cons (ps_asg (pe_op op_mod (pe_op op_add (pe_op op_add (pe_op op_mul (pe_ix ix_list (pv 0) pe_int (fun _ _ => rfl)) pe_int) (pv 3)) pe_int) pe_int) (pg_sub (pv 0) pe_int set_list))
    (pss_cons (ps_if (pt_cmpR op_ge (pv 3) (pe_op op_pow pe_int pe_int) (nomark _))
      (pss_one (ps_asg (pe_op op_fdivN (pv 3) (pv 1)) (pg_sub (pv 0) pe_int set_list)))
      pss_nil)
    (pss_one (ps_ret (pe_op op_modN (pv 3) (pv 1)))))))))), ?_⟩
    have hd : n ≠ 0 ∧ n.natAbs < 1073741824 := by omega
    -- if row[3] > 0
    refine ⟨_, rfl, r, _, 3, .int b, rfl, rfl, SqL.of h1, rfl, b, 0, rfl, rfl, _, rfl, iteB (fun c => ?_) (fun c => ?_)⟩
    · refine ⟨_, rfl, r, _, 3, .int b, rfl, rfl, SqL.of h1, rfl, _, rfl, b, n, rfl, rfl, (by omega), ?_⟩
      refine ⟨_, rfl, r, _, 3, .int b, rfl, rfl, SqL.of h1, rfl, _, rfl, b, n, rfl, rfl, hd, ?_⟩
      refine ⟨_, rfl, r, _, 3, 3, rfl, rfl, h1, rfl, ?_⟩
      refine ⟨_, rfl, ?_⟩
      exact k _ i m _ hi (fmod_in hn).1 (fmod_in hn).2
    · -- row[1] = row[1] + 1
      refine ⟨_, rfl, r, _, 1, .int i, rfl, rfl, SqL.of h1, rfl, i, 1, rfl, rfl, ?_⟩
      refine ⟨_, rfl, r, _, 1, 1, rfl, rfl, h1, rfl, ?_⟩
      have h2 : (upd H r (rowO a (i + 1) m b)) r = some (rowO a (i + 1) m b) := upd_same
      have S2 : SqL K (upd H r (rowO a (i + 1) m b)) a (ns.map V.int) := by
        rcases hS with (z | ⟨u, z⟩) | z
        · exact .inl (.inl ((f1 _).at (RowAt.nl ⟨i, m, b, h1, hi⟩) z rfl (nl_ints ns)))
        · exact .inl (.inr ⟨u, (f1 _).at (RowAt.nl ⟨i, m, b, h1, hi⟩) z rfl rfl⟩)
        · exact .inr z
      -- if row[1] > len(row[0])
      refine ⟨_, rfl, r, _, 1, .int (i + 1), rfl, rfl, SqL.of h2, rfl, _, rfl, r, _, 0, .ref a, rfl, rfl, SqL.of h2, rfl, a, _, rfl, .inl S2, _, _, rfl, rfl, _, rfl, iteB (fun c => ?_) (fun c => ?_)⟩
      · refine ⟨_, rfl, r, _, 2, .int m, rfl, rfl, SqL.of h2, rfl, m, 48271, rfl, rfl, .inr (by decide), _, 11, rfl, rfl, _, 2147483647, rfl, rfl, (by show (0 : Int) < 2147483647; decide), ?_⟩
        refine ⟨_, rfl, r, _, 2, 2, rfl, rfl, h2, rfl, ?_⟩
        refine ⟨_, rfl, r, _, 2, _, rfl, rfl, SqL.of upd_same, rfl, _, 7, rfl, rfl, ⟨by decide, by decide⟩, _, rfl, _, n, rfl, rfl, (by omega), ?_⟩
        rw [upd_upd]
        exact k _ (i + 1) _ b (by omega) (fmod_in hn).1 (fmod_in hn).2
      · have hlt : i.toNat < ns.length := by
          have c' := of_decide_eq_false c
          rw [List.length_map] at c'
          omega
        have hat : atI (ns.map V.int) (i + 1 - 1) = some (.int ns[i.toNat]) := by
          have e : i + 1 - 1 = ((i.toNat : Nat) : Int) := by omega
          rw [e]
          exact atI_nat (by rw [List.getElem?_map, List.getElem?_eq_getElem hlt]; rfl)
        refine ⟨_, rfl, r, _, 0, .ref a, rfl, rfl, SqL.of h2, rfl, _, rfl, r, _, 1, .int (i + 1), rfl, rfl, SqL.of h2, rfl, _, 1, rfl, rfl, a, _, _, _, rfl, rfl, S2, hat, ?_⟩
        refine ⟨_, rfl, r, _, 2, .int m, rfl, rfl, SqL.of h2, rfl, m, 48271, rfl, rfl, .inr (by decide), _, rfl, _, _, rfl, rfl, _, 11, rfl, rfl, _, 2147483647, rfl, rfl, (by show (0 : Int) < 2147483647; decide), ?_⟩
        refine ⟨_, rfl, r, _, 2, 2, rfl, rfl, h2, rfl, ?_⟩
        refine ⟨_, rfl, 10, 18, rfl, rfl, ⟨by decide, by decide, by decide⟩, _, _, rfl, rfl, _, rfl, iteB (fun c => ?_) (fun c => ?_)⟩
        · refine ⟨_, rfl, _, rfl, _, n, rfl, rfl, hd, _, rfl, r, _, 3, 3, rfl, rfl, upd_same, rfl, ?_⟩
          refine ⟨_, rfl, _, rfl, _, n, rfl, rfl, (by omega), ?_⟩
          rw [upd_upd, upd_upd]
          exact k _ (i + 1) _ _ (by omega) (fmod_in hn).1 (fmod_in hn).2
        · refine ⟨_, rfl, _, rfl, _, n, rfl, rfl, (by omega), ?_⟩
          rw [upd_upd]
          exact k _ (i + 1) _ b (by omega) (fmod_in hn).1 (fmod_in hn).2
end
end B

set_option Elab.async false
set_option linter.all false
set_option maxRecDepth 100000
set_option maxHeartbeats 4000000
namespace B
open PySem PySem.Spec PyProof.Rows L2
def spOI (C : Addr) (fld : Str) : Sp := fun vs H Q _ => ∃ (a : Addr) (n : Int), vs = [.ref a, .int n] ∧ 0 ≤ n ∧ n ≤ 1000 ∧ H a = some (exo a C none) ∧ ∀ dx, H dx = none → dx ≠ a → Q .non (upd (upd H dx (exd dx [(fld, .int n)])) a (exo a C (some dx)))
/-- what a made one leaves: its dict, new; the rest stands -/
theorem oi_go {C : Addr} {fld : Str} {n : Int} {H1 : Hp} {Q : XK} (h0 : 0 ≤ n) (h1 : n ≤ 1000) (k : ∀ d H2, Frm [] H1 H2 → H2 d = some (.xd [(fld, .int n)]) → H1 d = none → Q (.ref C) (some d) H2) :
    [V.int n].length ≤ 1000 ∧ ∀ a, H1 a = none → spOI C fld (.ref a :: ([V.int n] ++ [])) (upd H1 a (exo a C none)) (fun v H2 => v = .non ∧ ∃ (d : Addr) (fs : List (Str × V)), H2 a = some (exo a C (some d)) ∧ H2 d = some (exd d fs) ∧ H1 d = none ∧ Q (.ref C) (some d) (upd (del H2 a) d (.xd fs))) (fun _ _ _ => False) := by
  refine ⟨by show 1 ≤ 1000; decide, fun a ha => ⟨a, n, rfl, h0, h1, upd_same, fun dx h2 h3 => ⟨rfl, dx, _, upd_same, by rw [upd_ne h3, upd_same], ?_, ?_⟩⟩⟩
  · rw [upd_ne h3] at h2
    exact h2
  · rw [upd_ne h3] at h2
    refine k dx _ ⟨fun b o e _ _ => ?_, fun b e => ?_⟩ upd_same h2
    · have n1 : b ≠ dx := ne_of_none e h2
      have n2 : b ≠ a := ne_of_none e ha
      rw [upd_ne n1, del_ne n2, upd_ne n2, upd_ne n1, upd_ne n2]
      exact e
    · have e1 := upd_back e
      by_cases z : b = a
      · rw [z]
        exact ha
      · rw [del_ne z, upd_ne z] at e1
        have e2 := upd_back e1
        rw [upd_ne z] at e2
        exact e2
theorem ln_BadStep (n : Int) (h0 : 0 ≤ n) (h1 : n ≤ 1000) : n.natAbs.log2 < 1920 ∧ ((Str.empty ++ "step ") ++ (toString n : Str)).length ≤ sizeLine ∧ (((Str.empty ++ "step ") ++ (toString n : Str)) ++ " can't be").length ≤ sizeLine := by
  obtain ⟨m, rfl⟩ : ∃ m : Nat, n = m := ⟨n.toNat, by omega⟩
  have z : (List.range 1001).all (fun m => decide (((m : Int).natAbs.log2 < 1920) ∧ ((Str.empty ++ "step ") ++ (toString (m : Int) : Str)).length ≤ 1000 ∧ (((Str.empty ++ "step ") ++ (toString (m : Int) : Str)) ++ " can't be").length ≤ 1000)) = true := by decide +kernel
  have := of_decide_eq_true (List.all_eq_true.mp z m (List.mem_range.mpr (by omega)))
  exact ⟨this.1, Nat.le_trans this.2.1 (by decide), Nat.le_trans this.2.2 (by decide)⟩
section
variable {P : Program} {w : World} {K : PySem.W.Frag} {mg : Str → Option Value} {base : Heap}
theorem own_BadStep (e : fnS K d_BadStep_init.at_ = sVal d_BadStep_init) (h : cloOk K P.main.file d_BadStep_init "BadStep" = true) (Sc : ScC K (He.ga K "BadStep") (He.fAd K d_BadStep_init.at_) "number") (hm : mg "super" = none) (htop : (P.main.scope.names.lookup ("super" : Str)).isSome = false) :
    ∃ fd, FnOk P w K mg base CX0 1 (He.fAd K d_BadStep_init.at_) fd ["self", "number"] (spOI (He.ga K "BadStep") "number") ∧ L2.Binds K fd ["self", "number"] [] := by
  obtain ⟨oc, od, kV, doc, pm, an, ct, osl, cc, cl, cld, csl, cda, ccl, cdd, vs0, ccs, tf, lk, hcd, lkc, hvs, lkcell⟩ := sdef e h
  obtain ⟨cd, hD⟩ := Sc.cls
  refine ⟨_, fn_sinit (k := 0) lk hcd rfl rfl rfl (by decide +kernel) (by decide +kernel) (by decide +kernel) (by decide +kernel) lkcell (fun vs H Q E z => ?_) (fun A outer s H vs Q E hr hsp s1 I => ?_), .all fun us hl => match us, hl with | [_, _], _ => rfl⟩
  · obtain ⟨a, n, rfl, _⟩ := z
    rfl
  · obtain ⟨a, n, rfl, h0, h1, ea, kq⟩ := hsp
    refine at_two (ar := ⟨"self", none, _⟩) rfl rfl lk rfl lkc hvs (beq_self_eq_true _) htop rfl lkcell hD rfl rfl rfl hm Sc.any rfl (pa_cons (pe_joined (.cons pe_str (.cons (pe_fmt (pe_var (i := 1) rfl (.inl rfl))) (.cons pe_str .nil)))) pa_nil) Sc.T Sc.mro Sc.sup Sc.sub rfl rfl rfl (ps_ost (pe_var (i := 0) rfl (.inl rfl)) (pe_var (i := 1) rfl (.inl rfl))) I rfl ea ?_
    have f := ln_BadStep n h0 h1
    refine ⟨_, rfl, by decide +kernel, _, rfl, .inr ⟨n, rfl, f.1, _, rfl, ?_, _, rfl, ?_, by show 1 ≤ 1000; decide, ea, ?_⟩⟩
    · exact f.2.1
    · exact f.2.2
    · exact ⟨_, rfl, _, rfl, a, He.ga K "BadStep", rfl, Sc.T, Sc.fld, .inl ⟨ea, fun dx h1 h2 => kq dx h1 h2⟩⟩
theorem c_BadStep (T : Txt P w K mg base) : ScC K (He.ga K "BadStep") (He.fAd K d_BadStep_init.at_) "number" ∧ ∃ fd, FnOk P w K mg base CX0 1 (He.fAd K d_BadStep_init.at_) fd ["self", "number"] (spOI (He.ga K "BadStep") "number") ∧ L2.Binds K fd ["self", "number"] [] := by
  obtain ⟨h1, h2⟩ := He.ba (xs_BadStep T)
  have Sc := scB_ok h2
  refine ⟨Sc, own_BadStep (T.s _ (by simp [fs])) ?_ Sc (n_super T) ?_⟩
  · rw [T.p]
    exact h1
  · rw [T.p]
    kernel_rfl
end
section
variable {X : Cx}
theorem mk_BadStep (T : Txt X.prog X.w X.K X.mg X.base) {e : Expr} {ta : TA} {p pos : Pos} (hr : Room 2 X.A) (ha : PA X [e] ta) (hg : Gl X "BadStep" := by rfl) (he : starEach [e] X.env = (false, eval e X.env) :: starEach [] X.env := by rfl) (hpl : (backTo pos (starEach [] X.env)).any (·.1) = false := by rfl) :
    PMk X (.Call (.Name "BadStep" p) [e] [] pos) (tMkO (He.ga X.K "BadStep") (spOI (He.ga X.K "BadStep") "number") [] ta) := by
  obtain ⟨Sc, fd, F1, b⟩ := c_BadStep T
  exact pmk_oex Sc.T Sc.ini Sc.ty F1 hr b .nil pass0 hg (g_BadStep T) ha (by decide +kernel) he hpl
end
end B

set_option Elab.async false
set_option linter.all false
set_option maxRecDepth 100000
set_option maxHeartbeats 4000000
namespace B
open PySem PySem.Spec PyProof.Rows L2
open SX (S)
/-! ### texts of signs 0 and 1 -/
def Bits (l : List Nat) : Prop := ∀ c ∈ l, c = 48 ∨ c = 49
/-- a number of the width W -/
def Num (W : Nat) (x : Str) : Prop := ∃ l, x = S l ∧ l.length = W ∧ Bits l
theorem Bits.nil : Bits [] := fun _ h => absurd h (by simp)
theorem Bits.snoc {l : List Nat} {c : Nat} (h : Bits l) (hc : c = 48 ∨ c = 49) : Bits (l ++ [c]) := fun d hd => by
  rcases List.mem_append.mp hd with z | z
  · exact h d z
  · rw [List.mem_singleton.mp z]
    exact hc
theorem Bits.app {l m : List Nat} (h : Bits l) (h2 : Bits m) : Bits (l ++ m) := fun d hd => by
  rcases List.mem_append.mp hd with z | z
  · exact h d z
  · exact h2 d z
theorem Bits.take {l : List Nat} (n : Nat) (h : Bits l) : Bits (l.take n) := fun d hd => h d (List.mem_of_mem_take hd)
theorem Bits.drop {l : List Nat} (n : Nat) (h : Bits l) : Bits (l.drop n) := fun d hd => h d (List.mem_of_mem_drop hd)
theorem joinL_signs : ∀ cs : List Nat, TL.joinL [] (cs.map fun c => [c]) = cs
  | [] => rfl
  | [c] => rfl
  | c :: d :: r => by
    show [c] ++ ([] ++ TL.joinL [] ((d :: r).map fun c => [c])) = c :: d :: r
    rw [joinL_signs (d :: r)]
    rfl
theorem empty_S : ("" : Str) = S [] := by decide +kernel
theorem join_signs (cs : List Nat) : Txt.join "" (cs.map fun c => S [c]) = S cs := by
  have e : cs.map (fun c => S [c]) = (cs.map fun c => [c]).map S := by rw [List.map_map]; rfl
  rw [empty_S, e, SX.join_S, joinL_signs]
theorem sum_signs (cs : List Nat) : ((cs.map fun c => S [c]).map (·.length)).sum = cs.length := by
  induction cs with
  | nil => rfl
  | cons c r ih =>
    rw [List.map_cons, List.map_cons, List.sum_cons, ih, SX.S_len, List.length_cons]
    show 1 + r.length = r.length + 1
    omega
theorem op_rep_str {X : Cx} : OpR X (binaryOp .Mult) (fun x y H Q => ∃ z k, x = .str z ∧ y = .int k ∧ PySem.MulOk z k ∧ Q (.str (Txt.mul z k)) H) := by
  intro pins s σ H x y v u Q I rx ry h
  obtain ⟨z, k, rfl, rfl, ok, q⟩ := h
  obtain ⟨t, rfl⟩ := rx
  obtain ⟨t', rfl⟩ := ry
  exact PySem.SB.mul ok fun t' tk => ⟨.str _, H, I.tok _, ⟨_, rfl⟩, q⟩
theorem zeros_ok : ∀ n : Nat, n ≤ 12 → PySem.MulOk "0" (n : Int) := fun n hn => by
  have z : (List.range 13).all (fun n => (decide (((n : Nat) : Int) < -(2 ^ 63 : Int)) || decide (((n : Nat) : Int) ≥ 2 ^ 63)) == false && (decide (((n : Nat) : Int) < 1) || (!decide ((("0" : Str).length : Int) > (2 ^ 63 - 1) / ((n : Nat) : Int)) && (Builtin.Str.tooLong (("0" : Str).length * n) == false)))) = true := by decide +kernel
  have q := List.all_eq_true.mp z n (List.mem_range.mpr (by omega))
  simp only [Bool.and_eq_true, Bool.or_eq_true, decide_eq_true_eq, beq_iff_eq, Bool.not_eq_true', decide_eq_false_iff_not] at q
  refine ⟨q.1, fun h1 _ => ?_, fun h1 _ => ?_⟩
  · rcases q.2 with a | a
    · exact absurd a h1
    · exact a.1
  · rcases q.2 with a | a
    · exact absurd a h1
    · rw [Int.toNat_natCast]
      exact a.2
theorem zeros_is : ∀ n : Nat, n ≤ 12 → Txt.mul "0" (n : Int) = S (List.replicate n 48) := fun n hn => by
  have z : (List.range 13).all (fun n => decide (Txt.mul "0" ((n : Nat) : Int) = S (List.replicate n 48))) = true := by decide +kernel
  exact of_decide_eq_true (List.all_eq_true.mp z n (List.mem_range.mpr (by omega)))
section
variable {P : Program} {w : World} {K : PySem.W.Frag} {mg : Str → Option Value} {base : Heap}
theorem RowAt.ne {r a p : Addr} {H : Hp} {o : HO} (h : RowAt r a H) (n : r ≠ p) : RowAt r a (upd H p o) := by
  obtain ⟨i, m, b, z, h0⟩ := h
  exact ⟨i, m, b, by rw [upd_ne n]; exact z, h0⟩
theorem RowAt.out {r a p : Addr} {H : Hp} (h : RowAt r a H) (n : H p = none) : r ≠ p := by
  obtain ⟨i, m, b, z, h0⟩ := h
  exact ne_of_none z n
/-- a number, each sign drawn -/
def spNumber (K : PySem.W.Frag) : Sp := fun vs H Q _ => ∃ (r a : Addr) (W : Nat), vs = [.ref r, .int W] ∧ RowAt r a H ∧ Scr K a H ∧ W ≤ 12 ∧
  ∀ (x : Str) (H' : Hp), Num W x → RowAt r a H' → Frm [r] H H' → Q (.str x) H'
theorem c_lnumber (T : Txt P w K mg base) : CalX CX0 P w K mg base 2 "_law_number" (spNumber K) := by
  obtain ⟨fd, F⟩ := T.t.def_ 43 (d := d_lnumber)
  refine ⟨_, fd, _, F.ok sc_lnumber (fun vs H Q E h => ?_) (fun cdv A outer s H vs Q E hr h => ?_), He.glo_ok T.X T.G (T.t.fact 11), F.kp, F.bindsN fun _ _ _ _ _ _ us hl => match us, hl with | [_, _], _ => rfl⟩
  · obtain ⟨r, a, W, rfl, _⟩ := h
    rfl
  · obtain ⟨r, a, W, rfl, hR, hS, hW, k⟩ := h
    refine ⟨_, PSs.nox (pss_one (ps_ret (pe_join pe_str (pe_lc (own := [("_law_k", 2)]) (g := gName 2) rfl sc_lnumber.nd (pi_range1 rfl (n_range T) (pa_cons (pv 1) pa_nil)) (blkOk_by (N := ["_law_row", "_law_width_here", "_law_k"]) (sc := defScope s_lnumber) (own := [("_law_k", 2)]) (by decide +kernel)) (fun _ _ _ _ _ => pg_name (i := 2) sc_lnumber.nd rfl (Or.inl rfl)) (fun _ _ _ _ _ => pts_nil) (fun _ _ _ _ _ => by exact (pe_ix ix_str pe_str (pe_cx (c_ltaken T) hr (by decide) rfl pass0 (pa_cons (pv 0) (pa_cons pe_int pa_nil))) (fun _ _ => rfl))))))), ?_⟩
    refine ⟨⟨_, rfl⟩, _, rfl, (W : Int), rfl, by omega, by omega, fun D hD => ?_⟩
    have nDr : r ≠ D := hR.out hD
    refine lc_range (lo := 0) (n := (W : Int).toNat) (fun i H' => ∃ cs : List Nat, cs.length = i ∧ Bits cs ∧ H' D = some (.lst ((cs.map fun c => S [c]).map V.str)) ∧ RowAt r a H' ∧ Frm [r] H H')
      ⟨[], rfl, Bits.nil, upd_same, hR.ne nDr, (Frm.refl _ _).new hD⟩ ?_ ?_
    · rintro i H1 hi ⟨cs, hl, hb, hD1, hR1, f1⟩
      refine ⟨rfl, _, rfl, r, a, 2, rfl, hR1, f1.scr hR.nl hS, by decide, by decide, fun v H2 h0 h1 hR2 f2 => ?_⟩
      have hD2 : H2 D = some (.lst ((cs.map fun c => S [c]).map V.str)) := f2.k D _ hD1 rfl (by simpa using nDr.symm)
      have hv : v = 0 ∨ v = 1 := by omega
      have fin : ∀ c : Nat, c = 48 ∨ c = 49 → ∃ acc, H2 D = some (.lst acc) ∧ acc.length < sizeLine ∧ ∃ cs : List Nat, cs.length = i + 1 ∧ Bits cs ∧ (upd H2 D (.lst (acc ++ [V.str ⟨#[c]⟩]))) D = some (.lst ((cs.map fun c => S [c]).map V.str)) ∧ RowAt r a (upd H2 D (.lst (acc ++ [V.str ⟨#[c]⟩]))) ∧ Frm [r] H (upd H2 D (.lst (acc ++ [V.str ⟨#[c]⟩]))) := fun c hc => by
        refine ⟨_, hD2, by rw [List.length_map, List.length_map]; exact small1000 (by omega), cs ++ [c], by rw [List.length_append, hl]; rfl, hb.snoc hc, ?_, ?_, (f1.trans f2).new hD⟩
        · rw [upd_same, List.map_append, List.map_append]
          rfl
        · exact hR2.ne nDr
      rcases hv with rfl | rfl
      · exact ⟨_, _, 48, rfl, rfl, by decide +kernel, by decide +kernel, fin 48 (.inl rfl)⟩
      · exact ⟨_, _, 49, rfl, rfl, by decide +kernel, by decide +kernel, fin 49 (.inr rfl)⟩
    · rintro H1 ⟨cs, hl, hb, hD1, hR1, f1⟩
      refine ⟨_, D, cs.map fun c => S [c], rfl, rfl, .inl (SqL.of hD1), ?_, ?_⟩
      · rw [sum_signs, empty_S, SX.S_len]
        show cs.length + _ * 0 ≤ 16777216
        omega
      · rw [join_signs]
        exact k _ H1 ⟨cs, rfl, by omega, hb⟩ hR1 f1
end
end B

set_option Elab.async false
set_option linter.all false
set_option maxRecDepth 100000
set_option maxHeartbeats 4000000
namespace B
open PySem PySem.Spec PyProof.Rows L2
open SX (S)
/-! ### the order of texts -/
def leS (x y : Str) : Prop := x.cps.toList ≤ y.cps.toList
theorem leS_of {x y : Str} (h : ltCps y.cps.toList x.cps.toList = false) : leS x y := by
  rw [ltCps_eq] at h
  exact of_decide_eq_false h
theorem of_leS {x y : Str} (h : leS x y) : ltCps y.cps.toList x.cps.toList = false := by
  rw [ltCps_eq]
  exact decide_eq_false h
theorem leS_trans {x y z : Str} (h1 : leS x y) (h2 : leS y z) : leS x z := List.le_trans h1 h2
theorem leS_antisymm {x y : Str} (h1 : leS x y) (h2 : leS y x) : x = y := TL.ext_tl (List.le_antisymm h1 h2)
theorem rising_pw : ∀ (r : List Str) (x : Str), risingS x r = true → (x :: r).Pairwise leS
  | [], x, _ => by simp
  | y :: r, x, h => by
    have h' : (!ltCps y.cps.toList x.cps.toList && risingS y r) = true := h
    rw [Bool.and_eq_true, Bool.not_eq_true'] at h'
    have ih := rising_pw r y h'.2
    refine List.pairwise_cons.mpr ⟨fun z hz => ?_, ih⟩
    have hxy : leS x y := leS_of h'.1
    rcases List.mem_cons.mp hz with e | e
    · rw [e]
      exact hxy
    · exact leS_trans hxy ((List.pairwise_cons.mp ih).1 z e)
theorem sorted_pw : ∀ {l : List Str}, sortedS l = true → l.Pairwise leS
  | [], _ => .nil
  | x :: r, h => rising_pw r x h
theorem pw_sorted {l : List Str} (h : l.Pairwise leS) : sortedS l = true := sortedS_of_pairwise l (h.imp of_leS)
theorem pw_perm_eq : ∀ {l m : List Str}, l.Pairwise leS → m.Pairwise leS → l.Perm m → l = m
  | [], m, _, _, p => (List.perm_nil.mp p.symm).symm
  | x :: r, [], _, _, p => absurd (List.perm_nil.mp p) (by simp)
  | x :: r, y :: t, h1, h2, p => by
    have a1 := List.pairwise_cons.mp h1
    have a2 := List.pairwise_cons.mp h2
    have e : x = y := by
      have hx : x ∈ y :: t := p.mem_iff.mp List.mem_cons_self
      have hy : y ∈ x :: r := p.mem_iff.mpr List.mem_cons_self
      rcases List.mem_cons.mp hx with e | e
      · exact e
      · rcases List.mem_cons.mp hy with e' | e'
        · exact e'.symm
        · exact leS_antisymm (a1.1 y e') (a2.1 x e)
    subst e
    rw [pw_perm_eq a1.2 a2.2 (List.Perm.cons_inv p)]
theorem sorted_eq {l m : List Str} (h1 : sortedS l = true) (h2 : sortedS m = true) (p : l.Perm m) : l = m := pw_perm_eq (sorted_pw h1) (sorted_pw h2) p
/-- a sorted list, some left out -/
theorem sorted_filter {l : List Str} (f : Str → Bool) (h : sortedS l = true) : sortedS (l.filter f) = true := pw_sorted ((sorted_pw h).filter f)
/-! ### data: lists of texts -/
theorem strOk_bits {l : List Nat} (h : Bits l) : PyData.strOk (S l) = true := by
  show (S l).cps.all (· < 0x110000) = true
  rw [Array.all_eq_true']
  intro c hc
  have z : c ∈ l := by simpa [SX.S] using hc
  rcases h c z with e | e <;> (subst e; rfl)
theorem strOk_num {W : Nat} {x : Str} (h : Num W x) : PyData.strOk x = true := by
  obtain ⟨l, rfl, _, b⟩ := h
  exact strOk_bits b
theorem shaped_strs {xs : List Str} (h : ∀ x ∈ xs, PyData.strOk x = true) : SeqAt.shaped (.list (xs.map .str)) = true := by
  have e1 : (PyData.list (xs.map .str)).canLay0 = true := by
    show PyData.canLayAll0 (xs.map .str) = true
    rw [canLayAll_strs']
    exact List.all_eq_true.mpr h
  have e2 : (PyData.list (xs.map .str)).depth ≤ 64 := by
    show PyData.depthAll (xs.map .str) + 1 ≤ 64
    rw [depthAll_strs']
    decide
  show ((PyData.list (xs.map .str)).canLay0 && decide ((PyData.list (xs.map .str)).depth ≤ 64)) = true
  rw [e1, decide_eq_true e2]
  rfl
theorem dp_strs {K : PySem.W.Frag} {H : Hp} : ∀ (xs : List Str), DpAll K H (xs.map V.str) (xs.map .str)
  | [] => .nil
  | x :: r => .cons (.str x) (dp_strs r)
theorem eqv_empty (xs : List Str) : PyData.eqv (.list (xs.map .str)) (.list []) = xs.isEmpty := by
  cases xs <;> rfl
end B

set_option Elab.async false
set_option linter.all false
set_option maxRecDepth 100000
set_option maxHeartbeats 4000000
namespace B
open PySem PySem.Spec PyProof.Rows L2
open SX (S)
/-- a part of a list is of its items -/
theorem cutV_strs (xs : List Str) (lo hi : Option Int) : ∃ ys : List Str, cutV (xs.map V.str) lo hi = ys.map V.str ∧ (∀ y ∈ ys, y ∈ xs) ∧ ys.length ≤ xs.length ∧ ys.Sublist xs := by
  refine ⟨(xs.drop (HT.sIx (xs.map V.str).length 0 lo)).take (HT.sIx (xs.map V.str).length (xs.map V.str).length hi - HT.sIx (xs.map V.str).length 0 lo), ?_, fun y h => List.mem_of_mem_drop (List.mem_of_mem_take h), ?_, (List.take_sublist _ _).trans (List.drop_sublist _ _)⟩
  · unfold cutV
    rw [List.map_take, List.map_drop]
  · rw [List.length_take, List.length_drop]
    omega
theorem num_len {W : Nat} {x : Str} (h : Num W x) : x.length = W := by
  obtain ⟨l, rfl, e, _⟩ := h
  rw [SX.S_len, e]
theorem size12 {n : Nat} (h : n ≤ 100) : n ≤ sizeLine := Nat.le_trans h (by decide)
/-- an item of a list at a place below its length -/
theorem at_strs {xs : List Str} {v : Int} (h0 : 0 ≤ v) (h1 : v < (xs.length : Int)) : ∃ x ∈ xs, atI (xs.map V.str) v = some (.str x) := by
  obtain ⟨n, rfl⟩ : ∃ n : Nat, v = (n : Int) := ⟨v.toNat, by omega⟩
  have hlt : n < xs.length := by omega
  exact ⟨xs[n], List.getElem_mem hlt, atI_nat (by rw [List.getElem?_map, List.getElem?_eq_getElem hlt]; rfl)⟩
/-- the front of one number, the rest of another -/
theorem num_mix {W : Nat} {x y : Str} (hx : Num W x) (hy : Num W y) {i : Int} (h0 : 0 ≤ i) : Num W (Txt.slice x none (some i) ++ Txt.slice y (some i) none) := by
  obtain ⟨l, rfl, e1, b1⟩ := hx
  obtain ⟨m, rfl, e2, b2⟩ := hy
  rw [SX.slice_to h0, SX.slice_from h0, SX.S_cat]
  refine ⟨_, rfl, ?_, (b1.take _).app (b2.drop _)⟩
  rw [List.length_append, List.length_take, List.length_drop]
  omega
theorem slice_len {W : Nat} {x : Str} (hx : Num W x) {i : Int} (h0 : 0 ≤ i) : (Txt.slice x none (some i)).length ≤ W ∧ (Txt.slice x (some i) none).length ≤ W := by
  obtain ⟨l, rfl, e1, b1⟩ := hx
  rw [SX.slice_to h0, SX.slice_from h0, SX.S_len, SX.S_len, List.length_take, List.length_drop]
  omega
section
variable {P : Program} {w : World} {K : PySem.W.Frag} {mg : Str → Option Value} {base : Heap}
/-- a number; some: a list of such -/
def spNear (K : PySem.W.Frag) : Sp := fun vs H Q _ => ∃ (r a p : Addr) (W : Nat) (xs : List Str), vs = [.ref r, .int W, .ref p] ∧ RowAt r a H ∧ Scr K a H ∧ W ≤ 12 ∧ H p = some (.lst (xs.map V.str)) ∧ (∀ x ∈ xs, Num W x) ∧ xs.length ≤ 100 ∧
  ∀ (x : Str) (H' : Hp), Num W x → RowAt r a H' → Frm [r] H H' → Q (.str x) H'
theorem c_lnear (T : Txt P w K mg base) : CalX CX0 P w K mg base 3 "_law_near" (spNear K) := by
  obtain ⟨fd, F⟩ := T.t.def_ 44 (d := d_lnear)
  refine ⟨_, fd, _, F.ok sc_lnear (fun vs H Q E h => ?_) (fun cdv A outer s H vs Q E hr h => ?_), He.glo_ok T.X T.G (T.t.fact 12), F.kp, F.bindsN fun _ _ _ _ _ _ us hl => match us, hl with | [_, _, _], _ => rfl⟩
  · obtain ⟨r, a, p, W, xs, rfl, _⟩ := h
    rfl
  · obtain ⟨r, a, p, W, xs, rfl, hR, hS, hW, hp, hn, hl, k⟩ := h
    refine ⟨_, PSs.nox (pss_cons (ps_set (i := 3) sc_lnear.nd rfl (Or.inl rfl) (pe_cx (c_lnumber T) hr (by decide) rfl pass0 (pa_cons (pv 0) (pa_cons (pv 1) pa_nil))))
    (pss_cons (ps_if (PW.pt (pw_or (pt_cmpR (op_eqD hr.units) (pv 2) (pe_lst pa_nil) (nomark _)) (pw_or1 (pt_cmpR op_eq (pe_cx (c_ltaken T) hr (by decide) rfl pass0 (pa_cons (pv 0) (pa_cons pe_int pa_nil))) pe_int (nomark _)))))
      (pss_one (ps_ret (pv 3)))
      pss_nil)
    (pss_cons (ps_set (i := 4) sc_lnear.nd rfl (Or.inl rfl) (pe_cx (c_ltaken T) hr (by decide) rfl pass0 (pa_cons (pv 0) (pa_cons (pe_op op_add (pv 1) pe_int) pa_nil))))
    (pss_one (ps_ret (pe_op op_add_str (pe_slice C8.sl_txt (pe_ix ix_list (pv 2) (pe_cx (c_ltaken T) hr (by decide) rfl pass0 (pa_cons (pv 0) (pa_cons (pe_callB call_len_seq (by rfl) (n_len T) PySem.boot_len (pa_cons (pv 2) pa_nil)) pa_nil))) (fun _ _ => rfl)) po_none (po_some (pv 4))) (pe_slice C8.sl_txt (pv 3) (po_some (pv 4)) po_none))))))), ?_⟩
    refine ⟨_, rfl, _, rfl, r, a, W, rfl, hR, hS, hW, fun x H1 hx hR1 f1 => ?_⟩
    have hp1 : H1 p = some (.lst (xs.map V.str)) := f1.at hR.nl hp rfl (nl_strs xs)
    have fin : ∀ H2, RowAt r a H2 → Frm [r] H H2 → Q (.str x) H2 := fun H2 a1 a2 => k x H2 hx a1 a2
    -- some == []
    refine ⟨_, rfl, Nat.zero_le _, fun D hD => ?_⟩
    have f2 : Frm [r] H (upd H1 D (.lst [])) := f1.trans (Frm.of (same_upd hD))
    have hR2 := hR1.ne (hR1.out hD) (o := .lst [])
    have hp2 : (upd H1 D (.lst [])) p = some (.lst (xs.map V.str)) := same_upd hD _ _ hp1
    refine ⟨_, _, .lst (SqL.of hp2) (dp_strs xs), .lst (SqL.of upd_same) .nil, shaped_strs (fun x h => strOk_num (hn x h)), by decide +kernel, _, rfl, ?_⟩
    rw [eqv_empty]
    refine iteB (fun c => ?_) (fun c => ?_)
    · exact ⟨_, rfl, fin _ hR2 f2⟩
    · have hne : xs ≠ [] := fun e => by
        rw [e] at c
        cases c
      refine ⟨_, rfl, r, a, 3, rfl, hR2, f2.scr hR.nl hS, by decide, by decide, fun v H3 h0 h1 hR3 f3 => ?_⟩
      refine ⟨rfl, _, rfl, iteB (fun c => ?_) (fun c => ?_)⟩
      · exact ⟨_, rfl, fin _ hR3 (f2.trans f3)⟩
      · have f3' := f2.trans f3
        refine ⟨_, rfl, _, rfl, W, 1, rfl, rfl, r, a, (W : Int) + 1, rfl, hR3, f3'.scr hR.nl hS, by omega, by omega, fun many H4 m0 m1 hR4 f4 => ?_⟩
        have f4' := f3'.trans f4
        have hp4 : H4 p = some (.lst (xs.map V.str)) := f4'.at hR.nl hp rfl (nl_strs xs)
        have hlp : 0 < xs.length := List.length_pos_iff.mpr hne
        refine ⟨_, rfl, _, rfl, _, rfl, p, _, rfl, .inl (SqL.of hp4), r, a, _, rfl, hR4, f4'.scr hR.nl hS, by rw [List.length_map]; omega, by rw [List.length_map]; omega, fun v H5 v0 v1 hR5 f5 => ?_⟩
        have f5' := f4'.trans f5
        have hp5 : H5 p = some (.lst (xs.map V.str)) := f5'.at hR.nl hp rfl (nl_strs xs)
        obtain ⟨y, hy, hat⟩ := at_strs (xs := xs) v0 (by rw [List.length_map] at v1; exact v1)
        refine ⟨p, _, _, _, rfl, rfl, SqL.of hp5, hat, _, rfl, many, rfl, y, rfl, by rw [num_len (hn y hy)]; exact size12 (by omega), ?_⟩
        refine ⟨_, rfl, _, rfl, many, rfl, x, rfl, by rw [num_len hx]; exact size12 (by omega), ?_⟩
        refine ⟨_, _, rfl, rfl, ?_, ?_⟩
        · have l1 := (slice_len (hn y hy) m0).1
          have l2 := (slice_len hx m0).2
          exact size12 (by omega)
        · exact k _ H5 (num_mix (hn y hy) hx m0) hR5 f5'
/-- a width -/
def spWidth (K : PySem.W.Frag) : Sp := fun vs H Q _ => ∃ (r a : Addr), vs = [.ref r] ∧ RowAt r a H ∧ Scr K a H ∧ ∀ (W : Nat) (H' : Hp), 1 ≤ W → W ≤ 12 → RowAt r a H' → Frm [r] H H' → Q (.int W) H'
theorem c_lwidth (T : Txt P w K mg base) : CalX CX0 P w K mg base 2 "_law_width" (spWidth K) := by
  obtain ⟨fd, F⟩ := T.t.def_ 46 (d := d_lwidth)
  refine ⟨_, fd, _, F.ok sc_lwidth (fun vs H Q E h => ?_) (fun cdv A outer s H vs Q E hr h => ?_), He.glo_ok T.X T.G (T.t.fact 14), F.kp, F.bindsN fun _ _ _ _ _ _ us hl => match us, hl with | [_], _ => rfl⟩
  · obtain ⟨r, a, rfl, _⟩ := h
    rfl
  · obtain ⟨r, a, rfl, hR, hS, k⟩ := h
    refine ⟨_, PSs.nox (pss_one (ps_ret (pe_op op_add pe_int (pe_cx (c_ltaken T) hr (by decide) rfl pass0 (pa_cons (pv 0) (pa_cons (pe_ix ix_list (pe_lst (pa_cons pe_int (pa_cons pe_int (pa_cons pe_int pa_nil)))) (pe_cx (c_ltaken T) hr (by decide) rfl pass0 (pa_cons (pv 0) (pa_cons pe_int pa_nil))) (fun _ _ => rfl)) pa_nil)))))), ?_⟩
    refine ⟨_, rfl, by decide, fun D hD => ?_⟩
    have f1 : Frm [r] H (upd H D (.lst [.int 4, .int 7, .int 12])) := Frm.of (same_upd hD)
    refine ⟨_, rfl, r, a, 3, rfl, hR.ne (hR.out hD), f1.scr hR.nl hS, by decide, by decide, fun v H2 v0 v1 hR2 f2 => ?_⟩
    have hD2 : H2 D = some (.lst [.int 4, .int 7, .int 12]) := f2.k D _ upd_same rfl (by simpa using (hR.out hD).symm)
    have f2' := f1.trans f2
    have go : ∀ m : Int, 0 < m → m ≤ 12 → atI [V.int 4, V.int 7, V.int 12] v = some (.int m) → ∃ (p : Addr) (xs : List V) (i : Int) (v' : V), V.ref D = V.ref p ∧ V.int v = V.int i ∧ SqL K H2 p xs ∧ atI xs i = some v' ∧ spTaken K ([V.ref r, v'] ++ []) H2 (fun y H => ∃ i j, V.int 1 = V.int i ∧ y = .int j ∧ Q (.int (i + j)) H) E0 := fun m m0 m1 hat => by
      refine ⟨D, _, v, _, rfl, rfl, SqL.of hD2, hat, r, a, m, rfl, hR2, f2'.scr hR.nl hS, m0, by omega, fun u H3 u0 u1 hR3 f3 => ⟨1, u, rfl, rfl, ?_⟩⟩
      have e : (1 : Int) + u = ((1 + u.toNat : Nat) : Int) := by omega
      rw [e]
      exact k _ H3 (by omega) (by omega) hR3 (f2'.trans f3)
    have hv : v = 0 ∨ v = 1 ∨ v = 2 := by omega
    rcases hv with rfl | rfl | rfl
    · exact go 4 (by decide) (by decide) rfl
    · exact go 7 (by decide) (by decide) rfl
    · exact go 12 (by decide) (by decide) rfl
end
end B

set_option Elab.async false
set_option linter.all false
set_option maxRecDepth 100000
set_option maxHeartbeats 4000000
namespace B
open PySem PySem.Spec PyProof.Rows L2
open SX (S)
theorem ix_seqK {X : Cx} {K : PySem.W.Frag} (hK : X.K = K) : IxR X (rIx K) := by
  subst hK
  exact ix_seq
theorem in_seqK {X : Cx} {K : PySem.W.Frag} (hK : X.K = K) : OpR X (compareOp .In) (rIn K false) := by
  subst hK
  exact op_in_seq
theorem notIn_seqK {X : Cx} {K : PySem.W.Frag} (hK : X.K = K) : OpR X (compareOp .NotIn) (rIn K true) := by
  subst hK
  exact op_notIn_seq
theorem flat_strs (xs : List Str) : (xs.map V.str).all flatV = true := by
  induction xs with
  | nil => rfl
  | cons x r ih => rw [List.map_cons, List.all_cons, ih]; rfl
/-- one sign of a number turned, the signs behind it of another -/
theorem num_flip {W i c : Nat} {x y : Str} (hx : Num W x) (hy : Num W y) (hi : i < W) (hc : c = 48 ∨ c = 49) : Num W (Txt.slice x none (some (0 + (i : Int))) ++ S [c] ++ Txt.slice y (some (0 + (i : Int) + 1)) none) := by
  obtain ⟨l, rfl, e1, b1⟩ := hx
  obtain ⟨m, rfl, e2, b2⟩ := hy
  rw [SX.slice_to (by omega), SX.slice_from (by omega), SX.S_cat, SX.S_cat]
  refine ⟨_, rfl, ?_, ((b1.take _).snoc hc).app (b2.drop _)⟩
  rw [List.length_append, List.length_append, List.length_take, List.length_drop]
  show min _ _ + 1 + _ = W
  omega
theorem num_sign {W i : Nat} {x : Str} (hx : Num W x) (hi : i < W) : ∃ c, (c = 48 ∨ c = 49) ∧ atI x.cps.toList (0 + (i : Int)) = some c := by
  obtain ⟨l, rfl, e1, b1⟩ := hx
  have hl : i < l.length := by omega
  refine ⟨l[i], b1 _ (List.getElem_mem hl), ?_⟩
  have e : (0 : Int) + (i : Int) = ((i : Nat) : Int) := by omega
  rw [e]
  exact atI_nat (List.getElem?_eq_getElem hl)
theorem in_strs {x : Str} {xs : List Str} (h : inV (V.str x) (xs.map V.str) = false) : x ∉ xs := fun hx => by
  have : inV (V.str x) (xs.map V.str) = true := by
    unfold inV
    rw [List.any_map, List.any_eq_true]
    exact ⟨x, hx, by show eqV (V.str x) (V.str x) = true; simp [eqV]⟩
  rw [this] at h
  cases h
theorem nodup_snoc {xs : List Str} {x : Str} (h : xs.Nodup) (hx : x ∉ xs) : (xs ++ [x]).Nodup := by
  rw [List.nodup_append]
  refine ⟨h, by simp, fun a ha c hc => ?_⟩
  rw [List.mem_singleton] at hc
  rw [hc]
  intro e
  exact hx (e ▸ ha)
/-- parts from b at the place i, not before -/
def Parts (b z : Str) (i : Nat) : Prop := z.cps.toList[i]? ≠ b.cps.toList[i]? ∧ ∀ m, m < i → z.cps.toList[m]? = b.cps.toList[m]?
theorem flip_parts {W i c d : Nat} {x y : Str} (hx : Num W x) (hy : Num W y) (hi : i < W) (hc : atI x.cps.toList (0 + (i : Int)) = some c) (hd : d ≠ c) : Parts x (Txt.slice x none (some (0 + (i : Int))) ++ S [d] ++ Txt.slice y (some (0 + (i : Int) + 1)) none) i := by
  obtain ⟨l, rfl, e1, b1⟩ := hx
  obtain ⟨m, rfl, e2, b2⟩ := hy
  have hil : i < l.length := by omega
  have e0 : (0 : Int) + (i : Int) = ((i : Nat) : Int) := by omega
  rw [SX.slice_to (by omega), SX.slice_from (by omega), SX.S_cat, SX.S_cat]
  have el : ∀ q : List Nat, (S q).cps.toList = q := fun q => by simp [SX.S]
  have et : (0 + (i : Int)).toNat = i := by omega
  rw [et]
  unfold Parts
  rw [el, el]
  rw [el, e0, atI_nat (List.getElem?_eq_getElem hil)] at hc
  have tl : (l.take i).length = i := by rw [List.length_take]; omega
  refine ⟨?_, fun q hq => ?_⟩
  · rw [List.append_assoc, List.getElem?_append_right (by omega), tl, Nat.sub_self, List.getElem?_eq_getElem hil, hc]
    intro z
    exact hd (Option.some.inj z)
  · rw [List.append_assoc, List.getElem?_append_left (by omega), List.getElem?_take_of_lt hq]
theorem parts_ne {b z : Str} {xs : List Str} (h : ∀ j y, xs[j]? = some y → Parts b y j) (hz : Parts b z xs.length) : z ∉ xs ∧ b ∉ xs := by
  refine ⟨fun e => ?_, fun e => ?_⟩
  · obtain ⟨j, hj⟩ := List.getElem?_of_mem e
    have hl := (List.getElem?_eq_some_iff.mp hj).1
    exact (h j z hj).1 (hz.2 j hl)
  · obtain ⟨j, hj⟩ := List.getElem?_of_mem e
    exact (h j b hj).1 rfl
section
variable {P : Program} {w : World} {K : PySem.W.Frag} {mg : Str → Option Value} {base : Heap}
def spThings (K : PySem.W.Frag) : Sp := fun vs H Q _ => ∃ (r a : Addr) (W : Nat) (most : Int), vs = [.ref r, .int W, .int most] ∧ RowAt r a H ∧ Scr K a H ∧ W ≤ 12 ∧ 0 ≤ most ∧ most ≤ 40 ∧
  ∀ (xs : List Str) (p : Addr) (H' : Hp), (∀ x ∈ xs, Num W x) → xs.length ≤ 41 → xs.Nodup → sortedS xs = true → H' p = some (.lst (xs.map V.str)) → RowAt r a H' → Frm [r] H H' → Q (.ref p) H'
theorem c_lthings (T : Txt P w K mg base) : CalX CX0 P w K mg base 4 "_law_things" (spThings K) := by
  obtain ⟨fd, F⟩ := T.t.def_ 45 (d := d_lthings)
  refine ⟨_, fd, _, F.ok sc_lthings (fun vs H Q E h => ?_) (fun cdv A outer s H vs Q E hr h => ?_), He.glo_ok T.X T.G (T.t.fact 13), F.kp, F.bindsN fun _ _ _ _ _ _ us hl => match us, hl with | [_, _, _], _ => rfl⟩
  · obtain ⟨r, a, W, most, rfl, _⟩ := h
    rfl
  · obtain ⟨r, a, W, most, rfl, hR, hS, hW, hm0, hm1, k⟩ := h
    refine ⟨_, PSs.nox (pss_cons (ps_set (i := 3) sc_lthings.nd rfl (Or.inl rfl) (pe_lst pa_nil))
    (pss_cons (ps_if (PW.pt (pw_and (pt_cmpR op_gt (pv 2) pe_int (nomark _)) (pw_and1 (pt_cmpR op_eq (pe_cx (c_ltaken T) hr (by decide) rfl pass0 (pa_cons (pv 0) (pa_cons pe_int pa_nil))) pe_int (nomark _)))))
      (pss_cons (ps_set (i := 4) sc_lthings.nd rfl (Or.inl rfl) (pe_ix ix_list (pe_lst (pa_cons (pe_cx (c_lnumber T) hr (by decide) rfl pass0 (pa_cons (pv 0) (pa_cons (pv 1) pa_nil))) (pa_cons (pe_op op_rep_str pe_str (pv 1)) pa_nil))) (pe_cx (c_ltaken T) hr (by decide) rfl pass0 (pa_cons (pv 0) (pa_cons pe_int pa_nil))) (fun _ _ => rfl)))
      (pss_cons (ps_for PassesOwn.never rfl (pi_range1 rfl (n_range T) (pa_cons (pv 1) pa_nil)) (pg_name (i := 5) sc_lthings.nd rfl (Or.inl rfl))
        (pss_one (ps_expr (pe_bm PySem.F.plainAttrs_list PySem.F.slot_list_append PySem.F.type_list_append mt_append (pv 3) (pa_cons (pe_op op_add_str (pe_op op_add_str (pe_slice C8.sl_txt (pv 4) po_none (po_some (pv 5))) (pe_ix ix_str pe_str (pe_callTy call_int_str (by rfl) (n_int T) (by decide +kernel) (pa_cons (pe_ix ix_str (pv 4) (pv 5) (fun _ _ => rfl)) pa_nil)) (fun _ _ => rfl))) (pe_slice C8.sl_txt (pe_cx (c_lnumber T) hr (by decide) rfl pass0 (pa_cons (pv 0) (pa_cons (pv 1) pa_nil))) (po_some (pe_op op_add (pv 5) pe_int)) po_none)) pa_nil)))))
      (pss_one (ps_ret (pe_callB cr_sortedS (by rfl) (n_sorted T) (by decide +kernel) (pa_cons (pe_op op_cat (pe_slice sl_list (pv 3) po_none (po_some (pe_callB (call_max2 rfl) (by rfl) (n_max T) (by decide +kernel) (pa_cons (pe_op op_sub (pv 1) (pe_cx (c_ltaken T) hr (by decide) rfl pass0 (pa_cons (pv 0) (pa_cons pe_int pa_nil)))) (pa_cons (pe_cx (c_ltaken T) hr (by decide) rfl pass0 (pa_cons (pv 0) (pa_cons (pe_op op_add (pv 1) pe_int) pa_nil))) pa_nil))))) (pe_lst (pa_cons (pv 4) pa_nil))) pa_nil))))))
      pss_nil)
    (pss_cons (ps_for PassesOwn.never rfl (pi_range1 rfl (n_range T) (pa_cons (pe_cx (c_ltaken T) hr (by decide) rfl pass0 (pa_cons (pv 0) (pa_cons (pe_op op_add (pv 2) pe_int) pa_nil))) pa_nil)) (pg_name (i := 5) sc_lthings.nd rfl (Or.inl rfl))
      (pss_cons (ps_set (i := 6) sc_lthings.nd rfl (Or.inl rfl) (pe_cx (c_lnear T) hr (by decide) rfl pass0 (pa_cons (pv 0) (pa_cons (pv 1) (pa_cons (pv 3) pa_nil)))))
      (pss_one (ps_if (pt_cmpR op_notIn_seq (pv 6) (pv 3) rfl)
        (pss_one (ps_expr (pe_bm PySem.F.plainAttrs_list PySem.F.slot_list_append PySem.F.type_list_append mt_append (pv 3) (pa_cons (pv 6) pa_nil))))
        pss_nil))))
    (pss_one (ps_ret (pe_callB cr_sortedS (by rfl) (n_sorted T) (by decide +kernel) (pa_cons (pv 3) pa_nil))))))), ?_⟩
    refine ⟨Nat.zero_le _, fun D hD => ?_⟩
    have nrD := hR.out hD
    have f0 : Frm [r] H (upd H D (.lst [])) := Frm.of (same_upd hD)
    have hR0 : RowAt r a (upd H D (.lst [])) := hR.ne nrD
    have hD0 : (upd H D (.lst [])) D = some (.lst (([] : List Str).map V.str)) := upd_same
    have keepD : ∀ {H1 H2 : Hp} {xs : List V}, H1 D = some (.lst xs) → Frm [r] H1 H2 → H2 D = some (.lst xs) := fun h f => f.k D _ h rfl (by simpa using nrD.symm)
    -- the list, sorted
    have srt : ∀ (H1 : Hp) (xs : List Str) (z : Addr), (∀ x ∈ xs, Num W x) → xs.length ≤ 41 → xs.Nodup → H1 z = some (.lst (xs.map V.str)) → RowAt r a H1 → Frm [r] H H1 → rSortedS K [.ref z] H1 Q := fun H1 xs z hx hl hnd hz hR1 f1 =>
      ⟨z, xs, rfl, SqL.of hz, by omega, fun ys p pm ss hp => k ys p _ (fun y hy => hx y (pm.mem_iff.mp hy)) (by rw [pm.length_eq]; exact hl) (pm.nodup_iff.mpr hnd) ss upd_same (hR1.ne (hR1.out hp)) (f1.trans (Frm.of (same_upd hp)))⟩
    -- the second half: drawn numbers
    have rest : ∀ H1 : Hp, RowAt r a H1 → Frm [r] H H1 → H1 D = some (.lst (([] : List Str).map V.str)) → ∀ v4 v5 v6 : Option V,
        tSeq (tFor (iRng1 (tCons (tCall (spTaken K) [] E0 (tCons (tVar 0) (tCons (tOp (rI0 fun i j => .int (i + j)) (tVar 2) (tC (.int 1))) tNil))) tNil)) (gName 5)
          (tSeq (tAsg (tCall (spNear K) [] E0 (tCons (tVar 0) (tCons (tVar 1) (tCons (tVar 3) tNil)))) (gName 6))
            (tIfS (tTest (tOp (rIn K true) (tVar 6) (tVar 3))) (tDrop (tBM K "list" rAppend (tVar 3) (tCons (tVar 6) tNil))) tNext)))
          (tRet (tCB (rSortedS K) (tCons (tVar 3) tNil))) { nx := fun _ H' => Q .non H', rt := Q } [some (.ref r), some (.int W), some (.int most), some (.ref D), v4, v5, v6] H1 := fun H1 hR1 f1 hD1 v4 v5 v6 => by
      refine ⟨_, rfl, _, rfl, most, 1, rfl, rfl, r, a, most + 1, rfl, hR1, f1.scr hR.nl hS, by omega, by omega, fun m H2 m0 m1 hR2 f2 => ?_⟩
      refine ⟨m, rfl, by omega, by omega, ?_⟩
      refine for_range (lo := 0) (n := m.toNat) (fun i σ H' => ∃ v5 v6, σ = [some (.ref r), some (.int W), some (.int most), some (.ref D), v4, v5, v6] ∧ ∃ xs : List Str, (∀ x ∈ xs, Num W x) ∧ xs.Nodup ∧ xs.length ≤ i ∧ H' D = some (.lst (xs.map V.str)) ∧ RowAt r a H' ∧ Frm [r] H H')
        ⟨v5, v6, rfl, [], fun x h => absurd h (by simp), .nil, Nat.le_refl _, keepD hD1 f2, hR2, f1.trans f2⟩ ?_ ?_
      · rintro i σ H3 hi ⟨w5, w6, rfl, xs, hx, hnd, hl, hD3, hR3, f3⟩
        refine ⟨_, rfl, _, rfl, _, rfl, r, a, D, W, xs, rfl, hR3, f3.scr hR.nl hS, hW, hD3, hx, by omega, fun x H4 hxn hR4 f4 => ?_⟩
        have hD4 := keepD hD3 f4
        refine ⟨_, rfl, _, rfl, D, _, rfl, .inl (SqL.of hD4), rfl, flat_strs xs, _, rfl, iteB (fun c => ?_) (fun c => ?_)⟩
        · refine ⟨_, rfl, .inl ⟨rfl, _, SqL.of hD4⟩, _, rfl, D, _, _, rfl, rfl, hD4, by rw [List.length_map]; exact small1000 (by omega), ?_⟩
          refine ⟨_, _, rfl, xs ++ [x], fun y hy => ?_, nodup_snoc hnd (in_strs (by simpa using c)), by rw [List.length_append]; show xs.length + 1 ≤ i + 1; omega, by rw [upd_same, List.map_append]; rfl, hR4.ne nrD, (f3.trans f4).new hD⟩
          rcases List.mem_append.mp hy with z | z
          · exact hx y z
          · rw [List.mem_singleton.mp z]
            exact hxn
        · exact ⟨_, _, rfl, xs, hx, hnd, by omega, hD4, hR4, f3.trans f4⟩
      · rintro σ H3 ⟨w5, w6, rfl, xs, hx, hnd, hl, hD3, hR3, f3⟩
        exact ⟨_, rfl, srt H3 xs D hx (by omega) hnd hD3 hR3 f3⟩
    -- if most > 11 and taken(row, 5) == 4
    refine ⟨_, rfl, most, 11, rfl, rfl, _, rfl, iteB (fun c => ?_) (fun c => ?_)⟩
    · refine ⟨_, rfl, r, a, 5, rfl, hR0, f0.scr hR.nl hS, by decide, by decide, fun v H1 v0 v1 hR1 f1 => ?_⟩
      have f1' := f0.trans f1
      refine ⟨rfl, _, rfl, iteB (fun c => ?_) (fun c => ?_)⟩
      · -- base
        refine ⟨_, rfl, _, rfl, r, a, W, rfl, hR1, f1'.scr hR.nl hS, hW, fun x H2 hx hR2 f2 => ?_⟩
        have f2' := f1'.trans f2
        refine ⟨_, rfl, _, W, rfl, rfl, zeros_ok W hW, by show 2 ≤ sizeLine; decide, fun L hL => ?_⟩
        have nrL := hR2.out hL
        have f3' : Frm [r] H (upd H2 L (.lst [.str x, .str (Txt.mul "0" W)])) := f2'.trans (Frm.of (same_upd hL))
        refine ⟨_, rfl, r, a, 2, rfl, hR2.ne nrL, f3'.scr hR.nl hS, by decide, by decide, fun v H4 v0 v1 hR4 f4 => ?_⟩
        have hL4 : H4 L = some (.lst [.str x, .str (Txt.mul "0" W)]) := f4.k L _ upd_same rfl (by simpa using nrL.symm)
        have f4' := f3'.trans f4
        have hD4 : H4 D = some (.lst (([] : List Str).map V.str)) := keepD (keepD (keepD (keepD hD0 f1) f2) (Frm.of (same_upd hL))) f4
        have zer : Num W (Txt.mul "0" W) := by
          rw [zeros_is W hW]
          exact ⟨_, rfl, List.length_replicate, fun c hc => .inl (List.eq_of_mem_replicate hc)⟩
        obtain ⟨b, hb, hat⟩ : ∃ b, Num W b ∧ atI [V.str x, V.str (Txt.mul "0" W)] v = some (.str b) := by
          have hv : v = 0 ∨ v = 1 := by omega
          rcases hv with rfl | rfl
          · exact ⟨x, hx, rfl⟩
          · exact ⟨_, zer, rfl⟩
        refine ⟨L, _, v, _, rfl, rfl, SqL.of hL4, hat, ?_⟩
        have sz : ∀ {n : Nat}, n ≤ 100 → n ≤ sizeLine := fun h => size12 h
        -- the loop
        refine ⟨_, rfl, (W : Int), rfl, by omega, by omega, ?_⟩
        refine for_range (lo := 0) (n := (W : Int).toNat) (fun i σ H' => ∃ v5, σ = [some (.ref r), some (.int W), some (.int most), some (.ref D), some (.str b), v5, none] ∧ ∃ xs : List Str, (∀ x ∈ xs, Num W x) ∧ (∀ j z, xs[j]? = some z → Parts b z j) ∧ xs.Nodup ∧ xs.length = i ∧ H' D = some (.lst (xs.map V.str)) ∧ RowAt r a H' ∧ Frm [r] H H')
          ⟨none, rfl, [], fun x h => absurd h (by simp), fun j z h => by simp at h, .nil, rfl, hD4, hR4, f4'⟩ ?_ ?_
        · rintro i σ H5 hi ⟨w5, rfl, xs, hx, hpt, hnd, hl, hD5, hR5, f5⟩
          have hi' : i < W := by omega
          obtain ⟨c, hc, hcat⟩ := num_sign hb hi'
          refine ⟨_, rfl, .inl ⟨rfl, _, SqL.of hD5⟩, ?_⟩
          refine ⟨_, rfl, _, rfl, _, rfl, b, rfl, sz (by rw [num_len hb]; omega), ?_⟩
          refine ⟨_, rfl, _, rfl, b, _, c, rfl, rfl, sz (by rw [num_len hb]; omega), hcat, ?_⟩
          have go : ∀ (n : Int) (d : Nat), PySem.intText? (S [c]) = some n → atI ("10" : Str).cps.toList n = some d → (d = 48 ∨ d = 49) → ∃ (a' : Str) (n' : Int), [V.str ⟨#[c]⟩] = [V.str a'] ∧ PySem.intText? a' = some n' ∧ a'.length ≤ 640 ∧
              ∃ (z : Str) (i' : Int) (c' : Nat), V.str "10" = V.str z ∧ V.int n' = V.int i' ∧ z.length ≤ sizeLine ∧ atI z.cps.toList i' = some c' ∧ (c' = 48 ∨ c' = 49) ∧ c' = d := fun n d h1 h2 h3 =>
            ⟨S [c], n, rfl, h1, by rw [SX.S_len]; show 1 ≤ 640; decide, "10", n, d, rfl, rfl, by decide +kernel, h2, h3, rfl⟩
          have two : ∃ (n : Int) (d : Nat), PySem.intText? (S [c]) = some n ∧ atI ("10" : Str).cps.toList n = some d ∧ (d = 48 ∨ d = 49) ∧ d ≠ c := by
            rcases hc with rfl | rfl
            · exact ⟨0, 49, by decide +kernel, by decide +kernel, .inr rfl, by decide⟩
            · exact ⟨1, 48, by decide +kernel, by decide +kernel, .inl rfl, by decide⟩
          obtain ⟨n, d, t1, t2, t3, t4⟩ := two
          refine ⟨S [c], n, rfl, t1, by rw [SX.S_len]; show 1 ≤ 640; decide, "10", n, d, rfl, rfl, by decide +kernel, t2, ?_⟩
          have l1 : (Txt.slice b none (some (0 + (i : Int)))).length ≤ W := (slice_len hb (by omega)).1
          refine ⟨_, S [d], rfl, rfl, sz (by have e1 := SX.S_len [d]; have e2 : [d].length = 1 := rfl; omega), ?_⟩
          refine ⟨_, rfl, _, rfl, r, a, W, rfl, hR5, f5.scr hR.nl hS, hW, fun y H6 hy hR6 f6 => ?_⟩
          have hD6 := keepD hD5 f6
          have l2 : (Txt.slice y (some (0 + (i : Int) + 1)) none).length ≤ W := (slice_len hy (by omega)).2
          have nf := num_flip hb hy hi' t3
          have np := flip_parts hb hy hi' hcat t4
          refine ⟨_, rfl, _, 1, rfl, rfl, _, rfl, y, rfl, sz (by rw [num_len hy]; omega), ?_⟩
          refine ⟨_, _, rfl, rfl, ?_, ?_⟩
          · have l3 : (Txt.slice b none (some (0 + (i : Int))) ++ S [d]).length = (Txt.slice b none (some (0 + (i : Int)))).length + 1 := by
              obtain ⟨l, rfl, _, _⟩ := hb
              rw [SX.slice_to (by omega), SX.S_cat, SX.S_len, SX.S_len, List.length_append]
              rfl
            rw [l3]
            exact sz (by omega)
          · refine ⟨D, _, _, rfl, rfl, hD6, by rw [List.length_map]; exact small1000 (by omega), ?_⟩
            refine ⟨_, rfl, xs ++ [_], fun z hz => ?_, fun j z hz => ?_, nodup_snoc hnd (parts_ne hpt (by rw [hl]; exact np)).1, by rw [List.length_append, hl]; rfl, by rw [upd_same, List.map_append]; rfl, hR6.ne nrD, (f5.trans f6).new hD⟩
            · rcases List.mem_append.mp hz with q | q
              · exact hx z q
              · rw [List.mem_singleton.mp q]
                exact nf
            · by_cases hj : j < xs.length
              · rw [List.getElem?_append_left hj] at hz
                exact hpt j z hz
              · have ej : j = xs.length := by
                  have := (List.getElem?_eq_some_iff.mp hz).1
                  rw [List.length_append, List.length_singleton] at this
                  omega
                subst ej
                rw [List.getElem?_append_right (Nat.le_refl _), Nat.sub_self] at hz
                rw [← Option.some.inj hz, hl]
                exact np
        · rintro σ H5 ⟨w5, rfl, xs, hx, hpt, hnd, hl, hD5, hR5, f5⟩
          -- return sorted(found[:max(..)] + [base])
          refine ⟨_, rfl, _, rfl, _, rfl, r, a, 4, rfl, hR5, f5.scr hR.nl hS, by decide, by decide, fun u H6 u0 u1 hR6 f6 => ?_⟩
          have f6' := f5.trans f6
          refine ⟨_, _, rfl, rfl, _, rfl, _, rfl, _, 1, rfl, rfl, r, a, _, rfl, hR6, f6'.scr hR.nl hS, by omega, by omega, fun u2 H7 _ _ hR7 f7 => ?_⟩
          have f7' := f6'.trans f7
          have hD7 := keepD (keepD hD5 f6) f7
          refine ⟨_, _, rfl, _, rfl, D, _, rfl, SqL.of hD7, fun p hp => ?_⟩
          obtain ⟨ys, ey, hy, ly, hsl⟩ := cutV_strs xs none (some (if u2 > (W : Int) - u then u2 else (W : Int) - u))
          refine ⟨_, rfl, by show 1 ≤ sizeLine; decide, fun q hq => ?_⟩
          have npq : p ≠ q := ne_of_none upd_same hq
          refine ⟨p, q, _, _, rfl, rfl, by rw [upd_ne npq]; exact upd_same, upd_same, ?_, fun z hz => ?_⟩
          · rw [ey, List.length_map]
            exact sz (by show _ + 1 ≤ 100; omega)
          · refine srt _ (ys ++ [b]) z (fun x hx' => ?_) ?_ (nodup_snoc (hnd.sublist hsl) fun z => ?_) ?_ (((hR7.ne (hR7.out hp)).ne ((hR7.ne (hR7.out hp)).out hq)).ne (((hR7.ne (hR7.out hp)).ne ((hR7.ne (hR7.out hp)).out hq)).out hz)) (((f7'.trans (Frm.of (same_upd hp))).trans (Frm.of (same_upd hq))).trans (Frm.of (same_upd hz)))
            · rcases List.mem_append.mp hx' with e | e
              · exact hx x (hy x e)
              · rw [List.mem_singleton.mp e]
                exact hb
            · rw [List.length_append]
              show ys.length + 1 ≤ 41
              omega
            · obtain ⟨j, hj⟩ := List.getElem?_of_mem (hy b z)
              exact (hpt j b hj).1 rfl
            · rw [upd_same, ey, List.map_append]
              rfl
      · exact rest H1 hR1 f1' (keepD hD0 f1) none none none
    · exact rest _ hR0 f0 hD0 none none none
/-- numbers that may be hung -/
def spPool (K : PySem.W.Frag) : Sp := fun vs H Q _ => ∃ (r a : Addr) (W : Nat), vs = [.ref r, .int W] ∧ RowAt r a H ∧ Scr K a H ∧ W ≤ 12 ∧
  ∀ (xs : List Str) (p : Addr) (H' : Hp), xs ≠ [] → (∀ x ∈ xs, Num W x) → xs.length ≤ 41 → xs.Nodup → sortedS xs = true → H' p = some (.lst (xs.map V.str)) → RowAt r a H' → Frm [r] H H' → Q (.ref p) H'
theorem c_lpool (T : Txt P w K mg base) : CalX CX0 P w K mg base 5 "_law_pool" (spPool K) := by
  obtain ⟨fd, F⟩ := T.t.def_ 56 (d := d_lpool)
  refine ⟨_, fd, _, F.ok sc_lpool (fun vs H Q E h => ?_) (fun cdv A outer s H vs Q E hr h => ?_), He.glo_ok T.X T.G (T.t.fact 24), F.kp, F.bindsN fun _ _ _ _ _ _ us hl => match us, hl with | [_, _], _ => rfl⟩
  · obtain ⟨r, a, W, rfl, _⟩ := h
    rfl
  · obtain ⟨r, a, W, rfl, hR, hS, hW, k⟩ := h
    refine ⟨_, PSs.nox (pss_cons (ps_set (i := 2) sc_lpool.nd rfl (Or.inl rfl) (pe_cx (c_lthings T) hr (by decide) rfl pass0 (pa_cons (pv 0) (pa_cons (pv 1) (pa_cons (pe_ix ix_list (pe_lst (pa_cons pe_int (pa_cons pe_int (pa_cons pe_int pa_nil)))) (pe_cx (c_ltaken T) hr (by decide) rfl pass0 (pa_cons (pv 0) (pa_cons pe_int pa_nil))) (fun _ _ => rfl)) pa_nil)))))
    (pss_one (ps_ret (pe_ifExp (pt_cmpR (op_neD hr.units) (pv 2) (pe_lst pa_nil) (nomark _)) (pv 2) (pe_lst (pa_cons (pe_cx (c_lnumber T) hr (by decide) rfl pass0 (pa_cons (pv 0) (pa_cons (pv 1) pa_nil))) pa_nil)))))), ?_⟩
    refine ⟨_, rfl, _, rfl, by decide, fun D hD => ?_⟩
    have nrD := hR.out hD
    have f1 : Frm [r] H (upd H D (.lst [.int 6, .int 12, .int 40])) := Frm.of (same_upd hD)
    refine ⟨_, rfl, r, a, 3, rfl, hR.ne nrD, f1.scr hR.nl hS, by decide, by decide, fun v H2 v0 v1 hR2 f2 => ?_⟩
    have hD2 : H2 D = some (.lst [.int 6, .int 12, .int 40]) := f2.k D _ upd_same rfl (by simpa using nrD.symm)
    have f2' := f1.trans f2
    obtain ⟨m, m0, m1, hat⟩ : ∃ m : Int, 0 ≤ m ∧ m ≤ 40 ∧ atI [V.int 6, V.int 12, V.int 40] v = some (.int m) := by
      have hv : v = 0 ∨ v = 1 ∨ v = 2 := by omega
      rcases hv with rfl | rfl | rfl
      · exact ⟨6, by decide, by decide, rfl⟩
      · exact ⟨12, by decide, by decide, rfl⟩
      · exact ⟨40, by decide, by decide, rfl⟩
    refine ⟨D, _, v, _, rfl, rfl, SqL.of hD2, hat, r, a, W, m, rfl, hR2, f2'.scr hR.nl hS, hW, m0, m1, fun xs p H3 hx hl hnd hss hp hR3 f3 => ?_⟩
    have f3' := f2'.trans f3
    -- names if names != [] else [number]
    refine ⟨_, rfl, Nat.zero_le _, fun q hq => ?_⟩
    have nrq := hR3.out hq
    have f4' : Frm [r] H (upd H3 q (.lst [])) := f3'.trans (Frm.of (same_upd hq))
    have hp4 : (upd H3 q (.lst [])) p = some (.lst (xs.map V.str)) := same_upd hq _ _ hp
    refine ⟨_, _, .lst (SqL.of hp4) (dp_strs xs), .lst (SqL.of upd_same) .nil, shaped_strs (fun x h => strOk_num (hx x h)), by decide +kernel, _, rfl, ?_⟩
    rw [eqv_empty]
    refine iteB (fun c => ?_) (fun c => ?_)
    · refine ⟨_, rfl, k xs p _ (fun e => ?_) hx hl hnd hss hp4 (hR3.ne nrq) f4'⟩
      rw [e] at c
      cases c
    · refine ⟨_, rfl, _, rfl, r, a, W, rfl, hR3.ne nrq, f4'.scr hR.nl hS, hW, fun x H5 hxn hR5 f5 => ?_⟩
      refine ⟨by show 1 ≤ sizeLine; decide, fun z hz => k [x] z _ (by simp) (fun y hy => ?_) (by show 1 ≤ 41; decide) (by simp) rfl upd_same (hR5.ne (hR5.out hz)) ((f4'.trans f5).trans (Frm.of (same_upd hz)))⟩
      rw [List.mem_singleton.mp hy]
      exact hxn
end
end B

set_option Elab.async false
set_option linter.all false
set_option maxRecDepth 100000
set_option maxHeartbeats 4000000
namespace B
open PySem PySem.Spec PyProof.Rows L2
open SX (S)
/-! ### dicts of things: texts to truths -/
def kv (kvs : List (Str × Bool)) : List (Key × V) := kvs.map fun p => (Sum.inr p.1, V.bl p.2)
def hasK (kvs : List (Str × Bool)) (x : Str) : Bool := kvs.any fun p => decide (p.1 = x)
def getB (kvs : List (Str × Bool)) (x : Str) : Option Bool := (kvs.find? fun p => decide (p.1 = x)).map (·.2)
def putB (kvs : List (Str × Bool)) (x : Str) (b : Bool) : List (Str × Bool) := if hasK kvs x = true then kvs.map (fun p => if p.1 = x then (p.1, b) else p) else kvs ++ [(x, b)]
def dropB (kvs : List (Str × Bool)) (x : Str) : List (Str × Bool) := kvs.filter fun p => decide (p.1 ≠ x)
theorem inr_dec (a b : Str) : decide ((Sum.inr a : Key) = Sum.inr b) = decide (a = b) := by
  by_cases h : a = b
  · rw [decide_eq_true h, decide_eq_true (by rw [h])]
  · rw [decide_eq_false h, decide_eq_false (fun q => h (Sum.inr.inj q))]
theorem val_kv (kvs : List (Str × Bool)) (x : Str) : valV (kv kvs) (.inr x : Key) = (getB kvs x).map V.bl := by
  induction kvs with
  | nil => rfl
  | cons p r ih =>
    by_cases h : p.1 = x
    · have e1 : valV (kv (p :: r)) (.inr x : Key) = some (.bl p.2) := valV_pos (p := ((Sum.inr p.1 : Key), V.bl p.2)) (r := kv r) (by rw [h])
      rw [e1]
      unfold getB
      rw [List.find?_cons, decide_eq_true h]
      rfl
    · have e1 : valV (kv (p :: r)) (.inr x : Key) = valV (kv r) (.inr x : Key) := valV_neg (p := ((Sum.inr p.1 : Key), V.bl p.2)) (r := kv r) (fun q => h (Sum.inr.inj q))
      rw [e1, ih]
      unfold getB
      rw [List.find?_cons, decide_eq_false h]
theorem any_kv (kvs : List (Str × Bool)) (x : Str) : ((kv kvs).any fun q => decide (q.1 = (Sum.inr x : Key))) = hasK kvs x := by
  induction kvs with
  | nil => rfl
  | cons p r ih =>
    show (decide ((Sum.inr p.1 : Key) = Sum.inr x) || _) = (decide (p.1 = x) || hasK r x)
    rw [inr_dec, ← ih]
    rfl
theorem put_kv (kvs : List (Str × Bool)) (x : Str) (b : Bool) : putK (kv kvs) (.inr x : Key) (.bl b) = kv (putB kvs x b) := by
  unfold putK putB
  rw [any_kv]
  by_cases h : hasK kvs x = true
  · rw [if_pos h, if_pos h]
    unfold kv
    rw [List.map_map, List.map_map]
    refine List.map_congr_left fun p _ => ?_
    by_cases e : p.1 = x
    · show (if (Sum.inr p.1 : Key) = Sum.inr x then _ else _) = ((Sum.inr (if p.1 = x then (p.1, b) else p).1 : Key), V.bl (if p.1 = x then (p.1, b) else p).2)
      rw [if_pos e, if_pos (by rw [e])]
    · show (if (Sum.inr p.1 : Key) = Sum.inr x then _ else _) = ((Sum.inr (if p.1 = x then (p.1, b) else p).1 : Key), V.bl (if p.1 = x then (p.1, b) else p).2)
      rw [if_neg e, if_neg (fun q => e (Sum.inr.inj q))]
  · rw [if_neg h, if_neg h]
    unfold kv
    rw [List.map_append]
    rfl
theorem drop_kv (kvs : List (Str × Bool)) (x : Str) : dropK (kv kvs) (.inr x : Key) = kv (dropB kvs x) := by
  unfold dropK dropB kv
  rw [List.filter_map]
  congr 1
  refine List.filter_congr fun p _ => ?_
  show decide (¬ (Sum.inr p.1 : Key) = Sum.inr x) = decide (¬ p.1 = x)
  by_cases h : p.1 = x
  · simp [h]
  · simp [h]
theorem get_has (kvs : List (Str × Bool)) (x : Str) : (getB kvs x).isSome = hasK kvs x := by
  induction kvs with
  | nil => rfl
  | cons p r ih =>
    unfold getB hasK
    rw [List.find?_cons, List.any_cons]
    by_cases h : p.1 = x
    · rw [decide_eq_true h]
      rfl
    · rw [decide_eq_false h]
      exact ih
theorem some_map_bl (o : Option Bool) : (o.map V.bl).isSome = o.isSome := by cases o <;> rfl
/-- x in the dict at d (it may be locked) -/
theorem dg_has {H : Hp} {d : Addr} {kvs : List (Str × Bool)} (h : Rd H d (.dK (kv kvs))) (x : Str) : DGet H d (.str x) ((getB kvs x).map V.bl) := .inl ⟨kv kvs, .inr x, h, rfl, (val_kv kvs x).symm⟩
theorem dg_get {H : Hp} {d : Addr} {kvs : List (Str × Bool)} {x : Str} {b : Bool} (h : Rd H d (.dK (kv kvs))) (e : getB kvs x = some b) : DGet H d (.str x) (some (.bl b)) := by
  have := dg_has h x
  rw [e] at this
  exact this
theorem dp_put {H : Hp} {d : Addr} {kvs : List (Str × Bool)} (h : H d = some (.dK (kv kvs))) (hl : kvs.length ≤ 1000) (x : Str) (b : Bool) : DPut H d (.str x) (.bl b) (upd H d (.dK (kv (putB kvs x b)))) := by
  have := DPut.k (k := Sum.inr x) (v := V.bl b) h (by unfold kv; rw [List.length_map]; exact small1000 hl)
  rw [put_kv] at this
  exact this
theorem keys_kv (kvs : List (Str × Bool)) : (kv kvs).map (·.1) = (kvs.map (·.1)).map Sum.inr := by
  unfold kv
  rw [List.map_map, List.map_map]
  rfl
/-- a thing of the list is found by its number -/
theorem get_at {kvs : List (Str × Bool)} (hn : (kvs.map (·.1)).Nodup) {i : Nat} {x : Str} {b : Bool} (h : kvs[i]? = some (x, b)) : getB kvs x = some b := by
  induction kvs generalizing i with
  | nil => simp at h
  | cons p r ih =>
    rw [List.map_cons, List.nodup_cons] at hn
    cases i with
    | zero =>
      have e : p = (x, b) := by simpa using h
      subst e
      unfold getB
      rw [List.find?_cons, decide_eq_true rfl]
      rfl
    | succ i =>
      have h' : r[i]? = some (x, b) := by simpa using h
      have hm : x ∈ r.map (·.1) := List.mem_map.mpr ⟨(x, b), List.mem_of_getElem? h', rfl⟩
      have ne : ¬ p.1 = x := fun e => hn.1 (by rw [e]; exact hm)
      unfold getB
      rw [List.find?_cons, decide_eq_false ne]
      exact ih hn.2 h'
theorem kv_at {kvs : List (Str × Bool)} {i : Nat} {k : Key} {v : V} (h : (kv kvs)[i]? = some (k, v)) : ∃ x b, kvs[i]? = some (x, b) ∧ k = Sum.inr x ∧ v = .bl b := by
  unfold kv at h
  rw [List.getElem?_map] at h
  cases e : kvs[i]? with
  | none => rw [e] at h; cases h
  | some p =>
    rw [e] at h
    have := Option.some.inj h
    cases this
    exact ⟨p.1, p.2, rfl, rfl, rfl⟩
theorem take_snoc {α : Type} {l : List α} {i : Nat} {x : α} (h : l[i]? = some x) : l.take (i + 1) = l.take i ++ [x] := by
  rw [List.take_add_one, h]
  rfl
/-- a dict locked, a list made within, the dict free again -/
theorem upd_lock {H : Hp} {d D : Addr} {u f o : HO} (h : H d = some u) (n : d ≠ D) : upd (upd (upd H d f) D o) d u = upd H D o := by
  funext b
  by_cases e1 : b = d
  · rw [e1, upd_same, upd_ne n, h]
  · rw [upd_ne e1]
    by_cases e2 : b = D
    · rw [e2, upd_same, upd_same]
    · rw [upd_ne e2, upd_ne e2, upd_ne e1]
/-! ### the own wire -/
def mkv (W : Nat) (dt ml : Addr) (sd : V) (lk : Int) : List (Key × V) := [(.inr "width", .int W), (.inr "things", .ref dt), (.inr "listening", .ref ml), (.inr "said", sd), (.inr "looks", .int lk)]
def sdV : Option (List Nat) → V
  | none => .non
  | some l => .str (S l)
structure MdAt (H : Hp) (pm dt ml : Addr) (W : Nat) (kvs : List (Str × Bool)) (lm : List Str) (sd : Option (List Nat)) (lk : Int) : Prop where
  ob : H pm = some (.dK (mkv W dt ml (sdV sd) lk))
  li : H ml = some (.lst (lm.map V.str))
  dc : H dt = some (.dK (kv kvs))
section
variable {H : Hp} {pm dt ml : Addr} {W : Nat} {sd : V} {lk : Int}
theorem mv_width : valV (mkv W dt ml sd lk) (.inr "width" : Key) = some (.int W) := by kernel_rfl
theorem mv_things : valV (mkv W dt ml sd lk) (.inr "things" : Key) = some (.ref dt) := by kernel_rfl
theorem mv_listening : valV (mkv W dt ml sd lk) (.inr "listening" : Key) = some (.ref ml) := by kernel_rfl
theorem mv_said : valV (mkv W dt ml sd lk) (.inr "said" : Key) = some sd := by kernel_rfl
theorem mv_looks : valV (mkv W dt ml sd lk) (.inr "looks" : Key) = some (.int lk) := by kernel_rfl
theorem mp_listening {q : Addr} : putK (mkv W dt ml sd lk) (.inr "listening" : Key) (.ref q) = mkv W dt q sd lk := by kernel_rfl
theorem mp_said {v : V} : putK (mkv W dt ml sd lk) (.inr "said" : Key) v = mkv W dt ml v lk := by kernel_rfl
theorem mp_looks {z : Int} : putK (mkv W dt ml sd lk) (.inr "looks" : Key) (.int z) = mkv W dt ml sd z := by kernel_rfl
theorem md_width (h : H pm = some (.dK (mkv W dt ml sd lk))) : DGet H pm (.str "width") (some (.int W)) := by rw [← mv_width (dt := dt) (ml := ml) (sd := sd) (lk := lk)]; exact DGet.k (k := Sum.inr "width") h
theorem md_things (h : H pm = some (.dK (mkv W dt ml sd lk))) : DGet H pm (.str "things") (some (.ref dt)) := by rw [← mv_things (W := W) (dt := dt) (ml := ml) (sd := sd) (lk := lk)]; exact DGet.k (k := Sum.inr "things") h
theorem md_listening (h : H pm = some (.dK (mkv W dt ml sd lk))) : DGet H pm (.str "listening") (some (.ref ml)) := by rw [← mv_listening (W := W) (dt := dt) (ml := ml) (sd := sd) (lk := lk)]; exact DGet.k (k := Sum.inr "listening") h
theorem md_said (h : H pm = some (.dK (mkv W dt ml sd lk))) : DGet H pm (.str "said") (some sd) := by rw [← mv_said (W := W) (dt := dt) (ml := ml) (sd := sd) (lk := lk)]; exact DGet.k (k := Sum.inr "said") h
theorem md_looks (h : H pm = some (.dK (mkv W dt ml sd lk))) : DGet H pm (.str "looks") (some (.int lk)) := by rw [← mv_looks (W := W) (dt := dt) (ml := ml) (sd := sd) (lk := lk)]; exact DGet.k (k := Sum.inr "looks") h
theorem mdp_listening {q : Addr} (h : H pm = some (.dK (mkv W dt ml sd lk))) : DPut H pm (.str "listening") (.ref q) (upd H pm (.dK (mkv W dt q sd lk))) := by rw [← mp_listening (ml := ml)]; exact DPut.k (k := Sum.inr "listening") h (by show 5 < sizeLine; decide)
theorem mdp_said {v : V} (h : H pm = some (.dK (mkv W dt ml sd lk))) : DPut H pm (.str "said") v (upd H pm (.dK (mkv W dt ml v lk))) := by rw [← mp_said (sd := sd)]; exact DPut.k (k := Sum.inr "said") h (by show 5 < sizeLine; decide)
theorem mdp_looks {z : Int} (h : H pm = some (.dK (mkv W dt ml sd lk))) : DPut H pm (.str "looks") (.int z) (upd H pm (.dK (mkv W dt ml sd z))) := by rw [← mp_looks (lk := lk)]; exact DPut.k (k := Sum.inr "looks") h (by show 5 < sizeLine; decide)
theorem mk_merge {u q : Addr} : mergeK [] ([(.inr "width", .int W), (.inr "things", .ref u), (.inr "listening", .ref q), (.inr "said", .non), (.inr "looks", .int 0)] : List (Key × V)) = mkv W u q .non 0 := by kernel_rfl
end
end B

set_option Elab.async false
set_option linter.all false
set_option maxRecDepth 100000
set_option maxHeartbeats 4000000
namespace B
open PySem PySem.Spec PyProof.Rows L2
open SX (S)
/-- the sign at the place n is c -/
def sg (n c : Nat) (x : Str) : Bool := decide (x.cps.toList[n]? = some c)
theorem int_dec (a b : Int) : decide (V.int a = V.int b) = decide (a = b) := by
  by_cases h : a = b
  · rw [decide_eq_true h, decide_eq_true (by rw [h])]
  · rw [decide_eq_false h, decide_eq_false (fun q => h (V.int.inj q))]
theorem str_dec (a b : Str) : decide (V.str a = V.str b) = decide (a = b) := by
  by_cases h : a = b
  · rw [decide_eq_true h, decide_eq_true (by rw [h])]
  · rw [decide_eq_false h, decide_eq_false (fun q => h (V.str.inj q))]
theorem sign_dec (c d : Nat) : decide (V.str ⟨#[c]⟩ = V.str (S [d])) = decide (c = d) := by
  rw [str_dec]
  by_cases h : c = d
  · rw [decide_eq_true h, decide_eq_true (by rw [h])]
  · rw [decide_eq_false h, decide_eq_false (fun q => h (by
      have := SX.S_inj (a := [c]) (b := [d]) q
      exact (List.cons.inj this).1))]
theorem zero_S : ("0" : Str) = S [48] := by decide +kernel
theorem one_S : ("1" : Str) = S [49] := by decide +kernel
theorem sg_at {n c : Nat} {x : Str} (h : x.cps.toList[n]? = some c) (d : Nat) : sg n d x = decide (c = d) := by
  unfold sg
  rw [h]
  by_cases e : c = d
  · rw [decide_eq_true e, decide_eq_true (by rw [e])]
  · rw [decide_eq_false e, decide_eq_false (fun q => e (Option.some.inj q))]
theorem any_step {α : Type} {l : List α} {i : Nat} {x : α} (f : α → Bool) (h : l[i]? = some x) : (l.take (i + 1)).any f = ((l.take i).any f || f x) := by
  rw [take_snoc h, List.any_append]
  simp
theorem at_map {xs : List Str} {i : Nat} {y : V} (h : (xs.map V.str)[i]? = some y) : ∃ x, xs[i]? = some x ∧ y = .str x := by
  rw [List.getElem?_map] at h
  cases e : xs[i]? with
  | none => rw [e] at h; cases h
  | some x =>
    rw [e] at h
    exact ⟨x, rfl, (Option.some.inj h).symm⟩
/-- a number that begins as l does -/
def Beg (W : Nat) (l : List Nat) (x : Str) : Prop := ∃ m, x = S m ∧ m.length = W ∧ Bits m ∧ m.take l.length = l
theorem Beg.num {W : Nat} {l : List Nat} {x : Str} (h : Beg W l x) : Num W x := by
  obtain ⟨m, e, h1, h2, _⟩ := h
  exact ⟨m, e, h1, h2⟩
theorem num_at {W n : Nat} {x : Str} (h : Num W x) (hn : n < W) : ∃ c, (c = 48 ∨ c = 49) ∧ x.cps.toList[n]? = some c ∧ atI x.cps.toList ((n : Nat) : Int) = some c := by
  obtain ⟨l, rfl, e1, b1⟩ := h
  have hl : n < l.length := by omega
  exact ⟨l[n], b1 _ (List.getElem_mem hl), List.getElem?_eq_getElem hl, atI_nat (List.getElem?_eq_getElem hl)⟩
section
variable {P : Program} {w : World} {K : PySem.W.Frag} {mg : Str → Option Value} {base : Heap}
/-- whether some go on with a 0, with a 1 -/
def spLooked (K : PySem.W.Frag) : Sp := fun vs H Q _ => ∃ (ml : Addr) (W : Nat) (l : List Nat) (xs : List Str), vs = [.ref ml, .str (S l)] ∧ H ml = some (.lst (xs.map V.str)) ∧ (∀ x ∈ xs, Beg W l x) ∧ l.length < W ∧ W ≤ 12 ∧
  ∀ (p : Addr) (H' : Hp), H' p = some (.tup [.bl (xs.any (sg l.length 48)), .bl (xs.any (sg l.length 49))]) → Frm [] H H' → Q (.ref p) H'
theorem c_llooked (T : Txt P w K mg base) : CalX CX0 P w K mg base 1 "_law_looked" (spLooked K) := by
  obtain ⟨fd, F⟩ := T.t.def_ 47 (d := d_llooked)
  refine ⟨_, fd, _, F.ok sc_llooked (fun vs H Q E h => ?_) (fun cdv A outer s H vs Q E hr h => ?_), He.glo_ok T.X T.G (T.t.fact 15), F.kp, F.bindsN fun _ _ _ _ _ _ us hl => match us, hl with | [_, _], _ => rfl⟩
  · obtain ⟨ml, W, l, xs, rfl, _⟩ := h
    rfl
  · obtain ⟨ml, W, l, xs, rfl, hm0, hb, hl, hW, k0⟩ := h
    refine ⟨_, PSs.nox (pss_cons (ps_asg (pe_tup (pa_cons pe_bl (pa_cons pe_bl pa_nil))) (pg_tup rfl (pgs_cons (pg_name (i := 2) sc_llooked.nd rfl (Or.inl rfl)) (pgs_cons (pg_name (i := 3) sc_llooked.nd rfl (Or.inl rfl)) pgs_nil))))
    (pss_cons (ps_for PassesOwn.never rfl (pi_list (pv 0)) (pg_name (i := 4) sc_llooked.nd rfl (Or.inl rfl))
      (pss_one (ps_if (pt_cmpR op_eq (pe_slice C8.sl_txt (pv 4) po_none (po_some (pe_callB call_len_str (by rfl) (n_len T) PySem.boot_len (pa_cons (pv 1) pa_nil)))) (pv 1) (nomark _))
        (pss_cons (ps_set (i := 2) sc_llooked.nd rfl (Or.inl rfl) (pe_or (pv 2) (pe_one (pe_cmpR op_eq (pe_ix ix_str (pv 4) (pe_callB call_len_str (by rfl) (n_len T) PySem.boot_len (pa_cons (pv 1) pa_nil)) (fun _ _ => rfl)) pe_str (nomark _)))))
        (pss_one (ps_set (i := 3) sc_llooked.nd rfl (Or.inl rfl) (pe_or (pv 3) (pe_one (pe_cmpR op_eq (pe_ix ix_str (pv 4) (pe_callB call_len_str (by rfl) (n_len T) PySem.boot_len (pa_cons (pv 1) pa_nil)) (fun _ _ => rfl)) pe_str (nomark _)))))))
        pss_nil)))
    (pss_one (ps_ret (pe_tup (pa_cons (pv 2) (pa_cons (pv 3) pa_nil))))))), ?_⟩
    refine ⟨by show 2 ≤ sizeLine; decide, fun t ht => ⟨t, _, rfl, SqT.of upd_same, rfl, _, _, rfl, _, _, rfl, rfl, ?_⟩⟩
    have hm : (upd H t (.tup [.bl false, .bl false])) ml = some (.lst (xs.map V.str)) := same_upd ht _ _ hm0
    have k : ∀ p, (upd H t (.tup [.bl false, .bl false])) p = none → Q (.ref p) (upd (upd H t (.tup [.bl false, .bl false])) p (.tup [.bl (xs.any (sg l.length 48)), .bl (xs.any (sg l.length 49))])) := fun p hp =>
      k0 p _ upd_same (((Frm.refl _ _).new ht).new (upd_back hp))
    generalize (upd H t (.tup [.bl false, .bl false])) = H at hm k ⊢
    refine ⟨_, rfl, ml, rfl, ⟨_, SqL.of hm⟩, for_list (K := K) (a := ml) (xs := xs.map V.str) (fun i σ H' => ∃ v4, σ = [some (.ref ml), some (.str (S l)), some (.bl ((xs.take i).any (sg l.length 48))), some (.bl ((xs.take i).any (sg l.length 49))), v4] ∧ H' = H)
      ⟨none, rfl, rfl⟩ (fun i σ H' _ ⟨_, _, e⟩ => by rw [e]; exact SqL.of hm) ?_ ?_⟩
    · rintro i y σ H' hi ⟨v4, rfl, eH⟩
      subst H'
      obtain ⟨x, hx, rfl⟩ := at_map hi
      have hxb := hb x (List.mem_of_getElem? hx)
      obtain ⟨c, hc, g1, g2⟩ := num_at hxb.num hl
      have ls : ((S l).length : Int) = (l.length : Int) := by rw [SX.S_len]
      have sl : (S l).length ≤ sizeLine := by rw [SX.S_len]; exact size12 (by omega)
      have sx : x.length ≤ sizeLine := by rw [num_len hxb.num]; exact size12 (by omega)
      refine ⟨_, rfl, _, rfl, S l, rfl, sl, _, rfl, x, rfl, sx, _, rfl, rfl, _, rfl, ?_⟩
      have e1 : decide (V.str (Txt.slice x none (some ((S l).length : Int))) = V.str (S l)) = true := by
        obtain ⟨m, rfl, m1, m2, m3⟩ := hxb
        rw [ls, SX.slice_to (by omega), Int.toNat_natCast, m3]
        exact decide_eq_true rfl
      rw [e1]
      rw [← ls] at g2
      have step : ∀ d, (if ((xs.take i).any (sg l.length d)) = true then V.bl true else V.bl (decide (V.str ⟨#[c]⟩ = V.str (S [d])))) = V.bl ((xs.take (i + 1)).any (sg l.length d)) := fun d => by
        rw [any_step _ hx, sg_at g1, sign_dec]
        cases (xs.take i).any (sg l.length d) <;> rfl
      have fin : ∀ v4, (fun (σ : L2.St) (H' : Hp) => ∃ v4, σ = [some (.ref ml), some (.str (S l)), some (.bl ((xs.take (i + 1)).any (sg l.length 48))), some (.bl ((xs.take (i + 1)).any (sg l.length 49))), v4] ∧ H' = H) [some (.ref ml), some (.str (S l)), some (.bl ((xs.take (i + 1)).any (sg l.length 48))), some (.bl ((xs.take (i + 1)).any (sg l.length 49))), v4] H := fun v4 => ⟨v4, rfl, rfl⟩
      have s0 := step 48
      have s1 := step 49
      -- zero = zero or ..
      have two : ∀ z : V, z = V.bl ((xs.take (i + 1)).any (sg l.length 48)) → tAsg (tOrV (tVar 3) (tOp rEq (tOp rIxS (tVar 4) (tCB (fun xs H Q => ∃ a, xs = [.str a] ∧ a.length ≤ sizeLine ∧ Q (.int a.length) H) (tCons (tVar 1) tNil))) (tC (.str "1")))) (gName 3)
          { nx := fun σ H' => ∃ v4, σ = [some (.ref ml), some (.str (S l)), some (.bl ((xs.take (i + 1)).any (sg l.length 48))), some (.bl ((xs.take (i + 1)).any (sg l.length 49))), v4] ∧ H' = H, rt := Q } [some (.ref ml), some (.str (S l)), some z, some (.bl ((xs.take i).any (sg l.length 49))), some (.str x)] H := fun z ez => by
        subst ez
        refine ⟨_, rfl, _, rfl, iteB (fun b => ?_) (fun b => ?_)⟩
        · rw [b] at s1
          refine ⟨some (.str x), ?_, rfl⟩
          rw [← s1]
          rfl
        · rw [b, ← one_S] at s1
          refine ⟨_, rfl, _, rfl, S l, rfl, sl, x, _, c, rfl, rfl, sx, g2, rfl, ?_⟩
          refine ⟨some (.str x), ?_, rfl⟩
          rw [← s1]
          rfl
      refine ⟨_, rfl, _, rfl, iteB (fun b => ?_) (fun b => ?_)⟩
      · rw [b] at s0
        exact two _ s0
      · rw [b, ← zero_S] at s0
        refine ⟨_, rfl, _, rfl, S l, rfl, sl, x, _, c, rfl, rfl, sx, g2, rfl, ?_⟩
        exact two _ s0
    · rintro σ H' ⟨v4, rfl, eH⟩
      subst H'
      rw [List.length_map, List.take_length]
      exact ⟨_, rfl, _, rfl, by show 2 ≤ sizeLine; decide, fun p hp => k p hp⟩
/-- an own wire -/
def spModel : Sp := fun vs H Q _ => ∃ W : Nat, vs = [.int W] ∧ ∀ (pm dt ml : Addr) (H' : Hp), H pm = none → H dt = none → H ml = none → pm ≠ dt → H' pm = some (.dK (mkv W dt ml .non 0)) → H' ml = some (.lst []) → H' dt = some (.dK []) → Frm [] H H' → Q (.ref pm) H'
theorem c_lmodel (T : Txt P w K mg base) : CalX CX0 P w K mg base 1 "_law_model" spModel := by
  obtain ⟨fd, F⟩ := T.t.def_ 48 (d := d_lmodel)
  refine ⟨_, fd, _, F.ok sc_lmodel (fun vs H Q E h => ?_) (fun cdv A outer s H vs Q E hr h => ?_), He.glo_ok T.X T.G (T.t.fact 16), F.kp, F.bindsN fun _ _ _ _ _ _ us hl => match us, hl with | [_], _ => rfl⟩
  · obtain ⟨W, rfl, _⟩ := h
    rfl
  · obtain ⟨W, rfl, k⟩ := h
    refine ⟨_, PSs.nox (pss_one (ps_ret (pe_disp (pps_cons pe_str (pv 0) (pps_cons pe_str pe_dnewK (pps_cons pe_str (pe_lst pa_nil) (pps_cons pe_str pe_non (pps_cons pe_str pe_int pps_nil))))) (by rfl) (by rfl) (fun z => by cases z) (by decide)))), ?_⟩
    intro p hp
    refine ⟨_, rfl, fun d hd => ⟨Nat.zero_le _, fun q hq => ?_⟩⟩
    have npd : p ≠ d := ne_of_none upd_same hd
    have npq : p ≠ q := ne_of_none (show (upd (upd H p (.dK [])) d (.dK [])) p = some (.dK []) by rw [upd_ne npd, upd_same]) hq
    have ndq : d ≠ q := ne_of_none upd_same hq
    refine ⟨by rw [upd_ne npq, upd_ne npd, upd_same], [(.inr "width", .int W), (.inr "things", .ref d), (.inr "listening", .ref q), (.inr "said", .non), (.inr "looks", .int 0)], rfl, by show 5 ≤ 15; decide, ?_⟩
    rw [mk_merge]
    have hd' : H d = none := upd_back hd
    have hq' : H q = none := upd_back (upd_back hq)
    refine k p d q _ hp hd' hq' npd upd_same (by rw [upd_ne npq.symm, upd_same]) (by rw [upd_ne npd.symm, upd_ne ndq, upd_same]) ?_
    exact (((((Frm.refl _ _).new hp).new hd').new hq')).new hp
end
end B

set_option Elab.async false
set_option linter.all false
set_option maxRecDepth 100000
set_option maxHeartbeats 4000000
namespace B
open PySem PySem.Spec PyProof.Rows L2
open SX (S)
/-- who listens in a new round -/
def lisB (kvs : List (Str × Bool)) (all : Bool) : List Str := (kvs.filter fun p => all || p.2).map (·.1)
def wordsB : List Str := ["hang", "off", "alarm", "calm"]
/-- what becomes of a thing: the word of a refusal, the things -/
def deedW (kvs : List (Str × Bool)) (wd x : Str) : Str := if wd = "hang" then (if hasK kvs x = true then "there" else "") else (if hasK kvs x = true then "" else "not")
def deedK (kvs : List (Str × Bool)) (wd x : Str) : List (Str × Bool) :=
  if wd = "hang" then (if hasK kvs x = true then kvs else putB kvs x false) else (if hasK kvs x = true then (if wd = "off" then dropB kvs x else putB kvs x (decide (wd = "alarm"))) else kvs)
def deedL (kvs : List (Str × Bool)) (lm : List Str) (wd x : Str) : List Str := if wd = "off" ∧ hasK kvs x = true then lm.filter (fun y => decide (y ≠ x)) else lm
theorem dig_S (bit : Int) (h : bit = 0 ∨ bit = 1) : Str.ofString (toString bit) = S [48 + bit.toNat] := by
  rcases h with rfl | rfl <;> decide +kernel
theorem filter_step {α : Type} {l : List α} {i : Nat} {x : α} (f : α → Bool) (h : l[i]? = some x) : (l.take (i + 1)).filter f = (l.take i).filter f ++ (if f x = true then [x] else []) := by
  rw [take_snoc h, List.filter_append, List.filter_cons, List.filter_nil]
theorem has_get {kvs : List (Str × Bool)} {x : Str} (h : hasK kvs x = true) : ∃ b, getB kvs x = some b := by
  rw [← get_has] at h
  exact Option.isSome_iff_exists.mp h
section
variable {P : Program} {w : World} {K : PySem.W.Frag} {mg : Str → Option Value} {base : Heap}
/-- a round begun on an own wire -/
def spBegun : Sp := fun vs H Q _ => ∃ (pm dt ml : Addr) (kind : Str) (W : Nat) (kvs : List (Str × Bool)) (lm : List Str) (sd : Option (List Nat)) (lk : Int), vs = [.ref pm, .str kind] ∧ MdAt H pm dt ml W kvs lm sd lk ∧ pm ≠ dt ∧ (kvs.map (·.1)).Nodup ∧ kvs.length ≤ 100 ∧
  ∀ (ml' : Addr) (H' : Hp), H ml' = none → MdAt H' pm dt ml' W kvs (lisB kvs (decide (kind = "all"))) (some []) lk → Frm [pm] H H' → Q .non H'
theorem c_lbegun (T : Txt P w K mg base) : CalX CX0 P w K mg base 1 "_law_begun" spBegun := by
  obtain ⟨fd, F⟩ := T.t.def_ 49 (d := d_lbegun)
  refine ⟨_, fd, _, F.ok sc_lbegun (fun vs H Q E h => ?_) (fun cdv A outer s H vs Q E hr h => ?_), He.glo_ok T.X T.G (T.t.fact 17), F.kp, F.bindsN fun _ _ _ _ _ _ us hl => match us, hl with | [_, _], _ => rfl⟩
  · obtain ⟨pm, dt, ml, kind, W, kvs, lm, sd, lk, rfl, _⟩ := h
    rfl
  · obtain ⟨pm, dt, ml, kind, W, kvs, lm, sd, lk, rfl, ⟨h1, h2, h3⟩, npd, hnd, hlen, k⟩ := h
    have hu := hu_of hr
    refine ⟨_, PSs.nox (pss_cons (ps_dput hu (pv 0) pe_str pe_str rfl)
    (pss_one (ps_dput hu (pv 0) pe_str (pe_lock (pe_lc (own := [("_law_number_here", 2)]) (g := gName 2) rfl sc_lbegun.nd (pi_keys (pe_dget hu (pv 0) pe_str (fun _ _ => rfl))) (blkOk_by (N := ["_law_m", "_law_kind", "_law_number_here"]) (sc := defScope s_lbegun) (own := [("_law_number_here", 2)]) (by decide +kernel)) (fun _ _ _ _ _ => pg_name (i := 2) sc_lbegun.nd rfl (Or.inl rfl)) (fun _ _ _ _ _ => pts_one (by exact (PW.pt (pw_or (pt_cmpR op_eq (pv 1) pe_str (nomark _)) (pw_or1 (pt_val (pe_dget hu (pe_dget hu (pv 0) pe_str (fun _ _ => rfl)) (pv 2) (fun _ _ => rfl)))))))) (fun _ _ _ _ _ => by exact (pv 2)))) rfl))), ?_⟩
    refine ⟨_, rfl, pm, _, rfl, mdp_said h1, ?_⟩
    have h3' : ∀ o, (upd H pm o) dt = some (.dK (kv kvs)) := fun o => by rw [upd_ne npd.symm]; exact h3
    have h1' : ∀ o, (upd H pm o) pm = some o := fun o => upd_same
    refine ⟨dt, _, h3' _, trivial, fun od => ?_⟩
    have h1'' : (upd (upd H pm (.dK (mkv W dt ml (.str "") lk))) dt (.frz od (.dK (kv kvs)))) pm = some (.dK (mkv W dt ml (.str "") lk)) := by rw [upd_ne npd, upd_same]
    refine ⟨_, rfl, pm, _, rfl, md_things h1'', dt, od, rfl, .inl ⟨_, upd_same, fun D hD => ?_⟩⟩
    have ndD : dt ≠ D := ne_of_none upd_same hD
    have npD : pm ≠ D := ne_of_none h1'' hD
    refine lc_it walk_keys (fun i H' => H' = upd (upd (upd H pm (.dK (mkv W dt ml (.str "") lk))) dt (.frz od (.dK (kv kvs)))) D (.lst ((lisB (kvs.take i) (decide (kind = "all"))).map V.str))) rfl (fun i H' _ e => by rw [e, upd_ne ndD, upd_same]) ?_ ?_
    · rintro i y H1 H2 hi e ⟨rfl, kk, v, hk, rfl⟩
      subst H2
      obtain ⟨x, b, hxb, rfl, rfl⟩ := kv_at hk
      have hg := get_at hnd hxb
      have hl' : (lisB (kvs.take i) (decide (kind = "all"))).length ≤ 100 := by
        unfold lisB
        rw [List.length_map]
        have := List.length_filter_le (fun p : Str × Bool => decide (kind = "all") || p.2) (kvs.take i)
        rw [List.length_take] at this
        omega
      have yes : (decide (kind = "all") || b) = true → ∃ acc, (upd (upd (upd H pm (.dK (mkv W dt ml (.str "") lk))) dt (.frz od (.dK (kv kvs)))) D (.lst ((lisB (kvs.take i) (decide (kind = "all"))).map V.str))) D = some (.lst acc) ∧ acc.length < sizeLine ∧
          (upd (upd (upd (upd H pm (.dK (mkv W dt ml (.str "") lk))) dt (.frz od (.dK (kv kvs)))) D (.lst ((lisB (kvs.take i) (decide (kind = "all"))).map V.str))) D (.lst (acc ++ [V.str x]))) = upd (upd (upd H pm (.dK (mkv W dt ml (.str "") lk))) dt (.frz od (.dK (kv kvs)))) D (.lst ((lisB (kvs.take (i + 1)) (decide (kind = "all"))).map V.str)) := fun c => by
        refine ⟨_, upd_same, by rw [List.length_map]; exact small1000 (by omega), ?_⟩
        rw [upd_upd]
        unfold lisB
        rw [filter_step _ hxb, if_pos c, List.map_append, List.map_append]
        rfl
      refine ⟨rfl, _, rfl, rfl, _, rfl, ?_⟩
      rw [str_dec]
      refine iteB (fun c => ?_) (fun c => ?_)
      · exact ⟨_, rfl, yes (by rw [c]; rfl)⟩
      · refine ⟨_, rfl, pm, _, rfl, md_things (by rw [upd_ne npD]; exact h1''), _, rfl, dt, _, rfl, dg_get (.inr ⟨od, by rw [upd_ne ndD, upd_same]⟩) hg, b, rfl, iteB (fun cb => ?_) (fun cb => ?_)⟩
        · exact ⟨_, rfl, yes (by rw [cb, Bool.or_true])⟩
        · show _ = _
          unfold lisB
          rw [filter_step _ hxb, if_neg (by rw [c, cb]; exact Bool.false_ne_true), List.append_nil]
    · rintro H1 rfl
      have e : (kv kvs).length = kvs.length := by unfold kv; rw [List.length_map]
      rw [e, List.take_length]
      refine ⟨by rw [upd_ne ndD, upd_same], ?_⟩
      rw [upd_lock (h3' _) ndD]
      have hD' : H D = none := upd_back (upd_back hD)
      refine ⟨_, rfl, pm, _, rfl, mdp_listening (by rw [upd_ne npD, upd_same]), ?_⟩
      refine k D _ hD' ⟨?_, ?_, ?_⟩ ((((Frm.refl _ _).put (by simp)).new hD').put (by simp))
      · rw [upd_same, show sdV (some []) = V.str "" from congrArg V.str empty_S.symm]
      · rw [upd_ne npD.symm, upd_same]
      · rw [upd_ne npd.symm, upd_ne ndD, upd_ne npd.symm]
        exact h3
/-- a bit said on an own wire -/
def spSaid : Sp := fun vs H Q _ => ∃ (pm dt ml : Addr) (bit : Int) (W : Nat) (kvs : List (Str × Bool)) (lm : List Str) (l : List Nat) (lk : Int), vs = [.ref pm, .int bit] ∧ (bit = 0 ∨ bit = 1) ∧ MdAt H pm dt ml W kvs lm (some l) lk ∧ pm ≠ dt ∧ (∀ x ∈ lm, Num W x) ∧ lm.length ≤ 100 ∧ l.length < W ∧ W ≤ 12 ∧
  ∀ (ml' : Addr) (H' : Hp), H ml' = none → MdAt H' pm dt ml' W kvs (lm.filter (sg l.length (48 + bit.toNat))) (some (l ++ [48 + bit.toNat])) lk → Frm [pm] H H' → Q .non H'
theorem c_lsaid (T : Txt P w K mg base) : CalX CX0 P w K mg base 1 "_law_said" spSaid := by
  obtain ⟨fd, F⟩ := T.t.def_ 50 (d := d_lsaid)
  refine ⟨_, fd, _, F.ok sc_lsaid (fun vs H Q E h => ?_) (fun cdv A outer s H vs Q E hr h => ?_), He.glo_ok T.X T.G (T.t.fact 18), F.kp, F.bindsN fun _ _ _ _ _ _ us hl => match us, hl with | [_, _], _ => rfl⟩
  · obtain ⟨pm, dt, ml, bit, W, kvs, lm, l, lk, rfl, _⟩ := h
    rfl
  · obtain ⟨pm, dt, ml, bit, W, kvs, lm, l, lk, rfl, hbit, ⟨h1, h2, h3⟩, npd, hnum, hlen, hl, hW, k⟩ := h
    have hu := hu_of hr
    have sl : (S l).length ≤ sizeLine := by rw [SX.S_len]; exact size12 (by omega)
    have ls : ((S l).length : Int) = (l.length : Int) := by rw [SX.S_len]
    have lg : bit.natAbs.log2 < 1920 := by rcases hbit with rfl | rfl <;> decide
    refine ⟨_, PSs.nox (pss_cons (ps_set (i := 2) sc_lsaid.nd rfl (Or.inr rfl) (pe_callB call_len_str (by rfl) (n_len T) PySem.boot_len (pa_cons (pe_dget hu (pv 0) pe_str (fun _ _ => rfl)) pa_nil)))
    (pss_cons (ps_dput hu (pv 0) pe_str (pe_lc (own := [("_law_number_here", 3)]) (g := gName 3) rfl sc_lsaid.nd (pi_list (pe_dget hu (pv 0) pe_str (fun _ _ => rfl))) (blkOk_by (N := ["_law_m", "_law_bit", "_law_place", "_law_number_here"]) (sc := defScope s_lsaid) (own := [("_law_number_here", 3)]) (by decide +kernel)) (fun _ _ _ _ _ => pg_name (i := 3) sc_lsaid.nd rfl (Or.inl rfl)) (fun _ _ _ _ _ => pts_one (by exact (pt_cmpR op_eq (pe_ix ix_str (pv 3) (pv 2) (fun _ _ => rfl)) (pe_callTy call_str_int (by rfl) (n_str T) (by decide +kernel) (pa_cons (pv 1) pa_nil)) (nomark _)))) (fun _ _ _ _ _ => by exact (pv 3))) rfl)
    (pss_one (ps_dput hu (pv 0) pe_str (pe_op op_add_str (pe_dget hu (pv 0) pe_str (fun _ _ => rfl)) (pe_callTy call_str_int (by rfl) (n_str T) (by decide +kernel) (pa_cons (pv 1) pa_nil))) rfl)))), ?_⟩
    refine ⟨_, rfl, pm, _, rfl, md_said h1, S l, rfl, sl, ?_⟩
    refine ⟨_, rfl, pm, _, rfl, md_listening h1, ml, rfl, ⟨_, SqL.of h2⟩, fun D hD => ?_⟩
    have npD : pm ≠ D := ne_of_none h1 hD
    have nmD : ml ≠ D := ne_of_none h2 hD
    have ndD : dt ≠ D := ne_of_none h3 hD
    refine lc_list (K := K) (a := ml) (xs := lm.map V.str) (fun i H' => H' = upd H D (.lst (((lm.take i).filter (sg l.length (48 + bit.toNat))).map V.str))) rfl (fun i H' _ e => by rw [e]; exact SqL.of (by rw [upd_ne nmD]; exact h2)) ?_ ?_
    · rintro i y H1 hi e
      subst e
      obtain ⟨x, hx, rfl⟩ := at_map hi
      have hn := hnum x (List.mem_of_getElem? hx)
      obtain ⟨c, hc, g1, g2⟩ := num_at hn hl
      rw [← ls] at g2
      refine ⟨rfl, _, rfl, _, rfl, x, _, c, rfl, rfl, by rw [num_len hn]; exact size12 (by omega), g2, _, rfl, bit, rfl, lg, rfl, _, rfl, ?_⟩
      rw [dig_S bit hbit, sign_dec, ← sg_at g1]
      refine iteB (fun cb => ?_) (fun cb => ?_)
      · refine ⟨_, rfl, _, upd_same, ?_, ?_⟩
        · rw [List.length_map]
          have := List.length_filter_le (sg l.length (48 + bit.toNat)) (lm.take i)
          rw [List.length_take] at this
          exact small1000 (by omega)
        · show _ = _
          rw [upd_upd, filter_step _ hx, if_pos cb, List.map_append]
          rfl
      · show _ = _
        rw [filter_step _ hx, if_neg (by rw [cb]; exact Bool.false_ne_true), List.append_nil]
    · rintro H1 rfl
      rw [List.length_map, List.take_length]
      have h1' : (upd H D (.lst ((lm.filter (sg l.length (48 + bit.toNat))).map V.str))) pm = some (.dK (mkv W dt ml (sdV (some l)) lk)) := by rw [upd_ne npD]; exact h1
      refine ⟨_, rfl, pm, _, rfl, mdp_listening h1', ?_⟩
      refine ⟨_, rfl, pm, _, rfl, md_said upd_same, _, rfl, bit, rfl, lg, S l, _, rfl, rfl, ?_, ?_⟩
      · rw [dig_S bit hbit]
        have e2 := SX.S_len [48 + bit.toNat]
        have e3 : [48 + bit.toNat].length = 1 := rfl
        have e4 := SX.S_len l
        exact size12 (by omega)
      · rw [dig_S bit hbit, SX.S_cat]
        refine ⟨_, rfl, pm, _, rfl, mdp_said upd_same, ?_⟩
        refine k D _ hD ⟨upd_same, ?_, ?_⟩ ((((Frm.refl _ _).new hD).put (by simp)).put (by simp))
        · rw [upd_ne npD.symm, upd_ne npD.symm, upd_same]
        · rw [upd_ne npd.symm, upd_ne npd.symm, upd_ne ndD]
          exact h3
end
end B

set_option Elab.async false
set_option linter.all false
set_option maxRecDepth 100000
set_option maxHeartbeats 4000000
namespace B
open PySem PySem.Spec PyProof.Rows L2
open SX (S)
section
variable {P : Program} {w : World} {K : PySem.W.Frag} {mg : Str → Option Value} {base : Heap}
/-- something becomes of a thing of an own wire -/
def spDeed : Sp := fun vs H Q _ => ∃ (pm dt ml : Addr) (wd x : Str) (W : Nat) (kvs : List (Str × Bool)) (lm : List Str) (sd : Option (List Nat)) (lk : Int), vs = [.ref pm, .str wd, .str x] ∧ MdAt H pm dt ml W kvs lm sd lk ∧ pm ≠ dt ∧ kvs.length ≤ 100 ∧ lm.length ≤ 100 ∧
  ∀ (ml' : Addr) (H' : Hp), (ml' = ml ∨ H ml' = none) → MdAt H' pm dt ml' W (deedK kvs wd x) (deedL kvs lm wd x) sd lk → Frm [pm, dt] H H' → Q (.str (deedW kvs wd x)) H'
theorem c_ldeed (T : Txt P w K mg base) : CalX CX0 P w K mg base 1 "_law_deed" spDeed := by
  obtain ⟨fd, F⟩ := T.t.def_ 51 (d := d_ldeed)
  refine ⟨_, fd, _, F.ok sc_ldeed (fun vs H Q E h => ?_) (fun cdv A outer s H vs Q E hr h => ?_), He.glo_ok T.X T.G (T.t.fact 19), F.kp, F.bindsN fun _ _ _ _ _ _ us hl => match us, hl with | [_, _, _], _ => rfl⟩
  · obtain ⟨pm, dt, ml, wd, x, W, kvs, lm, sd, lk, rfl, _⟩ := h
    rfl
  · obtain ⟨pm, dt, ml, wd, x, W, kvs, lm, sd, lk, rfl, ⟨h1, h2, h3⟩, npd, hlen, hll, k⟩ := h
    have hu := hu_of hr
    have nmd : ml ≠ dt := ne_of h2 h3 (by intro z; cases z)
    have nmp : ml ≠ pm := ne_of h2 h1 (by intro z; cases z)
    refine ⟨_, PSs.nox (pss_cons (ps_if (pt_cmpR op_eq (pv 1) pe_str (nomark _))
      (pss_cons (ps_if (pt_cmp (pc_din hu (pv 2) (pe_dget hu (pv 0) pe_str (fun _ _ => rfl))))
        (pss_one (ps_ret pe_str))
        pss_nil)
      (pss_cons (ps_dput hu (pe_dget hu (pv 0) pe_str (fun _ _ => rfl)) (pv 2) pe_bl rfl)
      (pss_one (ps_ret pe_str))))
      pss_nil)
    (pss_cons (ps_if (pt_cmp (pc_dnotin hu (pv 2) (pe_dget hu (pv 0) pe_str (fun _ _ => rfl))))
      (pss_one (ps_ret pe_str))
      pss_nil)
    (pss_cons (ps_if (pt_cmpR op_eq (pv 1) pe_str (nomark _))
      (pss_cons (ps_expr (pe_dpop1 (pe_dget hu (pv 0) pe_str (fun _ _ => rfl)) (pv 2) ⟨rfl, rfl, rfl, rfl⟩))
      (pss_one (ps_dput hu (pv 0) pe_str (pe_lc (own := [("_law_one", 3)]) (g := gName 3) rfl sc_ldeed.nd (pi_list (pe_dget hu (pv 0) pe_str (fun _ _ => rfl))) (blkOk_by (N := ["_law_m", "_law_word_here", "_law_number_here", "_law_one"]) (sc := defScope s_ldeed) (own := [("_law_one", 3)]) (by decide +kernel)) (fun _ _ _ _ _ => pg_name (i := 3) sc_ldeed.nd rfl (Or.inl rfl)) (fun _ _ _ _ _ => pts_one (by exact (pt_cmpR op_ne (pv 3) (pv 2) (nomark _)))) (fun _ _ _ _ _ => by exact (pv 3))) rfl)))
      (pss_one (ps_dput hu (pe_dget hu (pv 0) pe_str (fun _ _ => rfl)) (pv 2) (pe_cmpR op_eq (pv 1) pe_str (nomark _)) rfl)))
    (pss_one (ps_ret pe_str))))), ?_⟩
    have dh : DGet H dt (.str x) ((getB kvs x).map V.bl) := dg_has (.inl h3) x
    have stay : MdAt H pm dt ml W kvs lm sd lk := ⟨h1, h2, h3⟩
    have upt : ∀ b, MdAt (upd H dt (.dK (kv (putB kvs x b)))) pm dt ml W (putB kvs x b) lm sd lk := fun b => ⟨by rw [upd_ne npd]; exact h1, by rw [upd_ne nmd]; exact h2, upd_same⟩
    have fput : ∀ o, Frm [pm, dt] H (upd H dt o) := fun o => (Frm.refl _ _).put (by simp)
    -- if word == "hang"
    refine ⟨_, rfl, rfl, _, rfl, ?_⟩
    rw [str_dec]
    refine iteB (fun c => ?_) (fun c => ?_)
    · have ew : wd = "hang" := of_decide_eq_true c
      refine ⟨_, rfl, _, rfl, pm, _, rfl, md_things h1, dt, _, rfl, dh, _, rfl, ?_⟩
      rw [some_map_bl, get_has]
      refine iteB (fun ch => ?_) (fun ch => ?_)
      · have := k ml H (.inl rfl) (by unfold deedK deedL; rw [if_pos ew, if_pos ch, if_neg (fun z => absurd (ew.symm.trans z.1) (by decide +kernel))]; exact stay) (Frm.refl _ _)
        unfold deedW at this
        rw [if_pos ew, if_pos ch] at this
        exact this
      · have nh : ¬ hasK kvs x = true := by rw [ch]; exact Bool.false_ne_true
        refine ⟨_, rfl, pm, _, rfl, md_things h1, _, rfl, dt, _, rfl, dp_put h3 (by omega) x false, ?_⟩
        have := k ml _ (.inl rfl) (by unfold deedK deedL; rw [if_pos ew, if_neg nh, if_neg (fun z => absurd (ew.symm.trans z.1) (by decide +kernel))]; exact upt false) (fput _)
        unfold deedW at this
        rw [if_pos ew, if_neg nh] at this
        exact this
    · have ew : ¬ wd = "hang" := of_decide_eq_false c
      refine ⟨_, rfl, _, rfl, pm, _, rfl, md_things h1, dt, _, rfl, dh, _, rfl, ?_⟩
      rw [some_map_bl, get_has]
      refine iteB (fun ch => ?_) (fun ch => ?_)
      · have nh : ¬ hasK kvs x = true := fun z => by rw [z] at ch; cases ch
        have := k ml H (.inl rfl) (by unfold deedK deedL; rw [if_neg ew, if_neg nh, if_neg (fun z => nh z.2)]; exact stay) (Frm.refl _ _)
        unfold deedW at this
        rw [if_neg ew, if_neg nh] at this
        exact this
      · have hh : hasK kvs x = true := by
          cases e : hasK kvs x with
          | true => rfl
          | false => rw [e] at ch; cases ch
        obtain ⟨b, hb⟩ := has_get hh
        refine ⟨_, rfl, rfl, _, rfl, ?_⟩
        rw [str_dec]
        refine iteB (fun co => ?_) (fun co => ?_)
        · have eo : wd = "off" := of_decide_eq_true co
          have ev : valV (kv kvs) (.inr x : Key) = some (.bl b) := by rw [val_kv, hb]; rfl
          refine ⟨_, rfl, pm, _, rfl, md_things h1, dt, rfl, .inl ⟨_, .inl h3⟩, _, rfl, kv kvs, .inr x, .bl b, h3, rfl, ev, ?_⟩
          rw [drop_kv]
          have h1' : (upd H dt (.dK (kv (dropB kvs x)))) pm = some (.dK (mkv W dt ml (sdV sd) lk)) := by rw [upd_ne npd]; exact h1
          have h2' : (upd H dt (.dK (kv (dropB kvs x)))) ml = some (.lst (lm.map V.str)) := by rw [upd_ne nmd]; exact h2
          refine ⟨_, rfl, pm, _, rfl, md_listening h1', ml, rfl, ⟨_, SqL.of h2'⟩, fun D hD => ?_⟩
          have npD : pm ≠ D := ne_of_none h1' hD
          have nmD : ml ≠ D := ne_of_none h2' hD
          have ndD : dt ≠ D := ne_of_none upd_same hD
          refine lc_list (K := K) (a := ml) (xs := lm.map V.str) (fun i H' => H' = upd (upd H dt (.dK (kv (dropB kvs x)))) D (.lst (((lm.take i).filter (fun y => decide (y ≠ x))).map V.str))) rfl (fun i H' _ e => by rw [e]; exact SqL.of (by rw [upd_ne nmD]; exact h2')) ?_ ?_
          · rintro i y H1 hi e
            subst e
            obtain ⟨z, hz, rfl⟩ := at_map hi
            refine ⟨rfl, _, rfl, _, rfl, rfl, _, rfl, ?_⟩
            rw [str_dec]
            have e1 : (!decide (z = x)) = decide (z ≠ x) := by
              by_cases q : z = x
              · rw [decide_eq_true q, decide_eq_false (fun n => n q)]; rfl
              · rw [decide_eq_false q, decide_eq_true q]; rfl
            rw [e1]
            refine iteB (fun cb => ?_) (fun cb => ?_)
            · refine ⟨_, rfl, _, upd_same, ?_, ?_⟩
              · rw [List.length_map]
                have := List.length_filter_le (fun y => decide (y ≠ x)) (lm.take i)
                rw [List.length_take] at this
                exact small1000 (by omega)
              · show _ = _
                rw [upd_upd, filter_step _ hz, if_pos cb, List.map_append]
                rfl
            · show _ = _
              rw [filter_step _ hz, if_neg (by rw [cb]; exact Bool.false_ne_true), List.append_nil]
          · rintro H1 rfl
            rw [List.length_map, List.take_length]
            have h1'' : (upd (upd H dt (.dK (kv (dropB kvs x)))) D (.lst ((lm.filter (fun y => decide (y ≠ x))).map V.str))) pm = some (.dK (mkv W dt ml (sdV sd) lk)) := by rw [upd_ne npD]; exact h1'
            refine ⟨_, rfl, pm, _, rfl, mdp_listening h1'', ?_⟩
            have hD' : H D = none := upd_back hD
            have := k D (upd (upd (upd H dt (.dK (kv (dropB kvs x)))) D (.lst ((lm.filter (fun y => decide (y ≠ x))).map V.str))) pm (.dK (mkv W dt D (sdV sd) lk))) (.inr hD')
              (by
                unfold deedK deedL
                rw [if_neg ew, if_pos hh, if_pos eo, if_pos ⟨eo, hh⟩]
                exact ⟨upd_same, by rw [upd_ne npD.symm, upd_same], by rw [upd_ne npd.symm, upd_ne ndD, upd_same]⟩)
              ((((fput _).new hD')).put (by simp))
            unfold deedW at this
            rw [if_neg ew, if_pos hh] at this
            exact this
        · have eo : ¬ wd = "off" := of_decide_eq_false co
          refine ⟨_, rfl, rfl, _, rfl, pm, _, rfl, md_things h1, _, rfl, dt, upd H dt (.dK (kv (putB kvs x (decide (wd = "alarm"))))), rfl, ?_, ?_⟩
          · rw [str_dec]
            exact dp_put h3 (by omega) x _
          · have := k ml _ (.inl rfl) (by unfold deedK deedL; rw [if_neg ew, if_pos hh, if_neg eo, if_neg (fun z => eo z.1)]; exact upt _) (fput _)
            unfold deedW at this
            rw [if_neg ew, if_pos hh] at this
            exact this
end
end B

set_option Elab.async false
set_option linter.all false
set_option maxRecDepth 100000
set_option maxHeartbeats 4000000
namespace B
open PySem PySem.Spec PyProof.Rows L2
open SX (S)
/-! ### code tables -/
def tabA (K : PySem.W.Frag) (p : He.Defn) : Addr := (He.cT K p).2
def TL (K : PySem.W.Frag) : List (Addr × Str) := lams.map fun z => (tabA K z.1, z.2)
/-- the tables stand well -/
def Tb (K : PySem.W.Frag) (H : Hp) : Prop := (∀ p ∈ gens, GxR.TabG H (tabA K p)) ∧ LamX.Tabs (TL K) H
/-- as Frm, but code tables may grow -/
structure FrT (K : PySem.W.Frag) (S : List Addr) (H H' : Hp) : Prop where
  k : ∀ b o, H b = some o → isT o = false → b ∉ S → H' b = some o
  b : ∀ b, H' b = none → H b = none
  t : Tb K H → Tb K H'
theorem FrT.refl (K : PySem.W.Frag) (S : List Addr) (H : Hp) : FrT K S H H := ⟨fun _ _ h _ _ => h, fun _ h => h, fun h => h⟩
theorem FrT.trans {K : PySem.W.Frag} {S : List Addr} {H H1 H2 : Hp} (a : FrT K S H H1) (b : FrT K S H1 H2) : FrT K S H H2 := ⟨fun c o h t n => b.k c o (a.k c o h t n) t n, fun c h => a.b c (b.b c h), fun h => b.t (a.t h)⟩
theorem FrT.mono {K : PySem.W.Frag} {S S' : List Addr} {H H1 : Hp} (a : FrT K S H H1) (h : ∀ x ∈ S, x ∈ S') : FrT K S' H H1 := ⟨fun c o e t n => a.k c o e t fun z => n (h c z), a.b, a.t⟩
theorem nl_codeO {c : Addr} {q : Str} : B.nl (LamX.CodeO c q) = false := rfl
theorem Frm.toT {K : PySem.W.Frag} {S : List Addr} {H H' : Hp} (f : Frm S H H') (n : NL S H) : FrT K S H H' := by
  have out : ∀ {p : Addr} {o : HO}, H p = some o → B.nl o = false → p ∉ S := fun {p o} e h z => by
    obtain ⟨u, e2, q⟩ := n p z
    rw [e] at e2
    cases e2
    rw [h] at q
    cases q
  have kp : ∀ {p : Addr} {o : HO}, H p = some o → B.nl o = false → H' p = some o := fun {p o} e h => f.k p o e rfl (out e h)
  refine ⟨fun b o e _ hb => f.k b o e rfl hb, f.b, fun ⟨h1, h2⟩ => ⟨fun p hp => ?_, fun p hp => ?_⟩⟩
  · obtain ⟨ps, e, t⟩ := h1 p hp
    exact ⟨ps, kp e rfl, t⟩
  obtain ⟨qs, e1, t1, a1⟩ := h2 p hp
  refine ⟨qs, kp e1 rfl, t1, fun pos cv hc => ?_⟩
  obtain ⟨c, e2, e3⟩ := a1 pos cv hc
  exact ⟨c, e2, kp e3 nl_codeO⟩
theorem FrT.at {K : PySem.W.Frag} {S : List Addr} {H H' : Hp} {p : Addr} {o : HO} (f : FrT K S H H') (n : NL S H) (h : H p = some o) (h1 : isT o = false) (h2 : B.nl o = false) : H' p = some o :=
  f.k p o h h1 fun z => by
    obtain ⟨u, e, q⟩ := n p z
    rw [h] at e
    cases e
    rw [h2] at q
    cases q
theorem FrT.scr {K : PySem.W.Frag} {S : List Addr} {H H' : Hp} {a : Addr} (f : FrT K S H H') (n : NL S H) (h : Scr K a H) : Scr K a H' := by
  obtain ⟨ns, (h | ⟨u, h⟩) | h⟩ := h
  · exact ⟨ns, .inl (.inl (f.at n h rfl (nl_ints ns)))⟩
  · exact ⟨ns, .inl (.inr ⟨u, f.at n h rfl rfl⟩)⟩
  · exact ⟨ns, .inr h⟩
theorem FrT.row {K : PySem.W.Frag} {S : List Addr} {H H' : Hp} {r a : Addr} (f : FrT K S H H') (hr : r ∉ S) (h : RowAt r a H) : RowAt r a H' := by
  obtain ⟨i, m, b, e, h0⟩ := h
  exact ⟨i, m, b, f.k r _ e rfl hr, h0⟩
section
theorem map_inj {α β : Type} {f : α → β} : ∀ {l : List α}, (l.map f).Nodup → ∀ a ∈ l, ∀ b ∈ l, f a = f b → a = b
  | [], _, a, ha, _, _, _ => absurd ha (by simp)
  | x :: r, h, a, ha, b, hb, e => by
    have n := List.nodup_cons.mp (show (f x :: r.map f).Nodup from h)
    rcases List.mem_cons.mp ha with rfl | ha2 <;> rcases List.mem_cons.mp hb with rfl | hb2
    · rfl
    · exact absurd (List.mem_map.mpr ⟨b, hb2, e.symm⟩) n.1
    · exact absurd (List.mem_map.mpr ⟨a, ha2, e⟩) n.1
    · exact map_inj n.2 a ha2 b hb2 e
theorem gens_tf : ∀ p ∈ gens, p ∈ tf := by decide +kernel
theorem lams_tf : ∀ z ∈ lams, z.1 ∈ tf := by decide +kernel
theorem gl_ne : ∀ p ∈ gens, ∀ z ∈ lams, p ≠ z.1 := by decide +kernel
theorem lams_fun : ∀ a ∈ lams, ∀ b ∈ lams, a.1 = b.1 → a.2 = b.2 := by decide +kernel
theorem tl_mem {K : PySem.W.Frag} {p : He.Defn} {q : Str} (h : (p, q) ∈ lams) : (tabA K p, q) ∈ TL K := List.mem_map.mpr ⟨(p, q), h, rfl⟩
theorem tb_empty {K : PySem.W.Frag} {H : Hp} (h : ∀ p ∈ tf.map (He.cT K), H p.2 = some (.tbl #[])) : Tb K H := by
  have z : ∀ p ∈ tf, H (tabA K p) = some (.tbl #[]) := fun p hp => h (He.cT K p) (List.mem_map.mpr ⟨p, hp, rfl⟩)
  refine ⟨fun p hp => ⟨#[], z p (gens_tf p hp), True.intro⟩, fun p hp => ?_⟩
  obtain ⟨y, hy, rfl⟩ := List.mem_map.mp hp
  exact .nil (z y.1 (lams_tf y hy))
variable {P : Program} {w : World} {K : PySem.W.Frag} {mg : Str → Option Value} {base : Heap}
theorem ex_nd (T : Txt P w K mg base) : (tf.map fun p => (He.cT K p).2).Nodup := of_decide_eq_true (He.ba T.m).1
theorem ex_tup (T : Txt P w K mg base) : exTup K = true := (He.ba (He.ba T.m).2).1
theorem ex_exc (T : Txt P w K mg base) : exExc K = true := (He.ba (He.ba T.m).2).2
theorem tab_inj (T : Txt P w K mg base) {p q : He.Defn} (hp : p ∈ tf) (hq : q ∈ tf) (e : tabA K p = tabA K q) : p = q := map_inj (f := fun p => (He.cT K p).2) (ex_nd T) p hp q hq e
theorem tb_g (T : Txt P w K mg base) {p : He.Defn} (hp : p ∈ tf) : GxR.TabB base mg (He.codeOf K p) (tabA K p) := by
  have h := T.tb p hp
  exact ⟨h.code, h.bm, h.gP⟩
/-- a generator's table grows -/
theorem tb_gen (T : Txt P w K mg base) {p : He.Defn} (hp : p ∈ gens) {H H1 : Hp} (ht : Tb K H) (hT : GxR.Tabbed (tabA K p) H H1) : FrT K [] H H1 ∧ Tb K H1 := by
  have off : ∀ {b : Addr}, b ≠ tabA K p → H1 b = H b := fun h => hT.2 _ h
  obtain ⟨ps0, e0, t0⟩ := ht.1 p hp
  have tb : Tb K H1 := by
    refine ⟨fun q hq => ?_, fun z hz => ?_⟩
    · by_cases c : tabA K q = tabA K p
      · rw [c]
        exact hT.1
      · obtain ⟨ps, e, t⟩ := ht.1 q hq
        exact ⟨ps, by rw [off c]; exact e, t⟩
    · obtain ⟨y, hy, rfl⟩ := List.mem_map.mp hz
      have ne : tabA K y.1 ≠ tabA K p := fun c => gl_ne p hp y hy (tab_inj T (gens_tf p hp) (lams_tf y hy) c.symm)
      obtain ⟨qs, e1, t1, a1⟩ := ht.2 _ hz
      refine ⟨qs, by rw [off ne]; exact e1, t1, fun pos cv hc => ?_⟩
      obtain ⟨c, e2, e3⟩ := a1 pos cv hc
      refine ⟨c, e2, ?_⟩
      rw [off (fun z => ?_)]
      · exact e3
      · rw [z, e0] at e3
        exact LamX.codeO_ne ps0 (Option.some.inj e3).symm
  refine ⟨⟨fun b o hb hto _ => ?_, fun b hb => ?_, fun _ => tb⟩, tb⟩
  · by_cases q : b = tabA K p
    · rw [q, e0] at hb
      cases hb
      cases hto
    · rw [off q]
      exact hb
  · by_cases q : b = tabA K p
    · obtain ⟨ps, z, _⟩ := hT.1
      rw [q, z] at hb
      cases hb
    · rw [off q] at hb
      exact hb
/-- a lambda's table grows -/
theorem tb_grow (T : Txt P w K mg base) {p : He.Defn} {q : Str} (hp : (p, q) ∈ lams) {H H1 : Hp} (ht : Tb K H) (f1 : ∀ b o, H b = some o → b ≠ tabA K p → H1 b = some o) (f2 : ∀ b, H1 b = none → H b = none) (t : LamX.TabS H1 (tabA K p) q) : FrT K [] H H1 ∧ Tb K H1 := by
  obtain ⟨qs0, e0, t0, a0⟩ := ht.2 _ (tl_mem hp)
  have tb : Tb K H1 := by
    refine ⟨fun g hg => ?_, fun z hz => ?_⟩
    · have ne : tabA K g ≠ tabA K p := fun c => gl_ne g hg (p, q) hp (tab_inj T (gens_tf g hg) (lams_tf _ hp) c)
      obtain ⟨ps, e, tr⟩ := ht.1 g hg
      exact ⟨ps, f1 _ _ e ne, tr⟩
    · obtain ⟨y, hy, rfl⟩ := List.mem_map.mp hz
      by_cases c : tabA K y.1 = tabA K p
      · have e := tab_inj T (lams_tf y hy) (lams_tf _ hp) c
        have e2 := lams_fun y hy (p, q) hp e
        show LamX.TabS H1 (tabA K y.1) y.2
        rw [c, e2]
        exact t
      · obtain ⟨qs, e1, t1, a1⟩ := ht.2 _ hz
        refine ⟨qs, f1 _ _ e1 c, t1, fun pos cv hc => ?_⟩
        obtain ⟨c', e2, e3⟩ := a1 pos cv hc
        refine ⟨c', e2, f1 _ _ e3 fun y => ?_⟩
        rw [y, e0] at e3
        exact LamX.codeO_ne qs0 (Option.some.inj e3).symm
  refine ⟨⟨fun b o e hb _ => f1 b o e fun y => ?_, f2, fun _ => tb⟩, tb⟩
  rw [y, e0] at e
  cases e
  cases hb
/-- a def whose code object is known -/
theorem okT {x qual : Str} {params : Arguments} {body : List Stmt} {scope : Scope} {dvs : List V} {kws : List (Str × V)} {p : He.Defn} {fd : FuncData} {CX : CXT} {N ps : List Str} {k : Nat} {sp : Sp} (F : FunD K x qual params body scope dvs kws (He.fAd K p) fd) (S : FnScope N ps scope)
    (len : ∀ vs H Q E, sp vs H Q E → vs.length = ps.length)
    (hbody : ∀ (A : Around) (outer : List Env) (s : Shared) (H : Hp) (vs : List V) (Q : VK) (E : XK), Room k (A.deeper (envOfC qual scope s.heap.objs.size (He.fAd K p) (.ref (He.codeOf K p)))) → sp vs H Q E →
      ∃ t, PSs (cxOf CX P w K mg base N qual scope (He.fAd K p) (.ref (He.codeOf K p)) A outer s H E) body t ∧ t { nx := fun _ H' => Q .non H', rt := Q } (L2.start N vs) H) : FnOk P w K mg base CX (k + 1) (He.fAd K p) fd ps sp := by
  obtain ⟨oc, od, dV, kV, doc, pm, an, cdv, ct, osl, rfl, lk, hcd, _, _⟩ := F.ex
  obtain ⟨c, rfl⟩ := He.codeIn_ref hcd
  have e : He.codeOf K p = c := He.codeOf_eq lk rfl
  subst e
  exact fn_of lk hcd S len hbody
def genB (scope : Scope) (x : Str) : Bool := (match scope.kind with | .function => true | _ => false) && (!scope.isCoroutine && (scope.names.all (fun y => match y.2 with | .cell => false | .free => false | _ => true) && (decide (scope.names.lookup (".0" : Str) = some NameKind.local) && decide (scope.names.lookup x = some NameKind.local))))
theorem gens_by {env : Env} {scope : Scope} {x : Str} (h : genB scope x = true) : GxR.GenS env scope x := by
  obtain ⟨h1, h⟩ := He.ba h
  obtain ⟨h2, h⟩ := He.ba h
  obtain ⟨h3, h⟩ := He.ba h
  obtain ⟨h4, h5⟩ := He.ba h
  have q := List.all_eq_true.mp h3
  refine ⟨?_, ?_, fun y hy e => ?_, of_decide_eq_true h4, of_decide_eq_true h5, fun y hy e => ?_⟩
  · split at h1
    · assumption
    · cases h1
  · simpa using h2
  · have := q y hy
    rw [e] at this
    cases this
  · have := q y hy
    rw [e] at this
    cases this
theorem elt_in {prog : Program} {w : World} {scope : Scope} {x k : Str} {j : Nat} {p1 p2 p3 : Pos} (hk : scope.kind = .function) (hl : scope.names.lookup x = some .local) (hd : (x == ("__debug__" : Str)) = false := by decide) :
    GxR.EltP prog w scope x (.Compare (.Name x p1) [.In] [.Constant (.str k) j p2] p3) (fun c => decide (c ∈ k.cps.toList)) := by
  intro cenv A' E' c t s2 m2 hs hn hm
  refine wpAny_Compare1 ?_
  refine wpAny_Name (wpAny_loadName_local (by rw [hs]; exact hk) (show cenv.scope.names.lookup x = some .local by rw [hs]; exact hl) hn hm ?_) hd
  refine Calls.Constant_str (PyProof.Rows.in_str ⟨?_, GxR.keeps_tok _ _⟩)
  exact congrArg Value.bool (PySem.StrLaws.found_one k c)
end
theorem FrT.fresh {K : PySem.W.Frag} {T : List Addr} {H H1 H2 : Hp} (a : FrT K [] H H1) (b : FrT K T H1 H2) (h : ∀ x ∈ T, H x = none) : FrT K [] H H2 :=
  ⟨fun c o e t _ => b.k c o (a.k c o e t (by simp)) t fun z => (by rw [h c z] at e; cases e), fun c z => a.b c (b.b c z), fun z => b.t (a.t z)⟩
theorem Frm.fresh {T : List Addr} {H H1 H2 : Hp} (a : Frm [] H H1) (b : Frm T H1 H2) (h : ∀ x ∈ T, H x = none) : Frm [] H H2 :=
  ⟨fun c o e t _ => b.k c o (a.k c o e t (by simp)) t fun z => (by rw [h c z] at e; cases e), fun c z => a.b c (b.b c z)⟩
theorem tb_upd {K : PySem.W.Frag} {H : Hp} {b : Addr} {xs : List V} {o : HO} (h : Tb K H) (hb : H b = some (.lst xs)) : Tb K (upd H b o) := by
  obtain ⟨h1, h2⟩ := h
  refine ⟨fun p hp => ?_, fun p hp => ?_⟩
  · obtain ⟨ps, e, t⟩ := h1 p hp
    refine ⟨ps, ?_, t⟩
    rw [upd_ne (ne_of e hb (by intro z; cases z))]
    exact e
  · obtain ⟨qs, e1, t1, a1⟩ := h2 p hp
    refine ⟨qs, ?_, t1, fun pos cv hc => ?_⟩
    · rw [upd_ne (ne_of e1 hb (by intro z; cases z))]
      exact e1
    · obtain ⟨c, e2, e3⟩ := a1 pos cv hc
      refine ⟨c, e2, ?_⟩
      rw [upd_ne (ne_of e3 hb (by intro z; cases z))]
      exact e3
theorem FrT.putN {K : PySem.W.Frag} {H H1 : Hp} {b : Addr} {xs : List V} {o : HO} (a : FrT K [] H H1) (h : H b = none) (hb : H1 b = some (.lst xs)) : FrT K [] H (upd H1 b o) :=
  ⟨fun c u e t n => by
    rw [upd_ne (ne_of_none e h)]
    exact a.k c u e t n, fun c z => a.b c (upd_back z), fun z => tb_upd (a.t z) hb⟩
end B

set_option Elab.async false
set_option linter.all false
set_option maxRecDepth 100000
set_option maxHeartbeats 4000000
namespace B
open PySem PySem.Spec PyProof.Rows L2
open SX (S)
section
variable {P : Program} {w : World} {K : PySem.W.Frag} {mg : Str → Option Value} {base : Heap}
theorem num_gen : pd_is_number ∈ gens := by decide +kernel
/-- a text of so many signs 0 and 1 is a number -/
def spIsNum (K : PySem.W.Frag) : Sp := fun vs H Q _ => ∃ (W : Nat) (x : Str), vs = [.int W, .str x] ∧ Num W x ∧ W ≤ 12 ∧ Tb K H ∧ ∀ H', FrT K [] H H' → Q (.bl true) H'
theorem c_is_number (T : Txt P w K mg base) : CalX CX0 P w K mg base 1 "is_number" (spIsNum K) := by
  obtain ⟨fd, F⟩ := T.t.def_ 2 (d := d_is_number)
  refine ⟨_, fd, _, okT (p := pd_is_number) F sc_is_number (fun vs H Q E h => ?_) (fun A outer s H vs Q E hr h => ?_), He.glo_ok T.X T.G (T.t.fact 2), F.kp, F.bindsN fun _ _ _ _ _ _ us hl => match us, hl with | [_, _], _ => rfl⟩
  · obtain ⟨W, x, rfl, _⟩ := h
    rfl
  · obtain ⟨W, x, rfl, hx, hW, ht, k⟩ := h
    refine ⟨_, PSs.nox (pss_cons (ps_if (PW.pt (pw_or (pt_not (pt_val (pe_callB call_isi (by rfl) (n_isinstance T) (by decide +kernel) (pa_cons (pv 1) (pa_cons (pe_bltn (v := .ty "str") (u := .type "str") rfl (n_str T) (by decide +kernel) rfl) pa_nil))))) (pw_or1 (pt_cmpR op_ne (pe_callB call_len_str (by rfl) (n_len T) PySem.boot_len (pa_cons (pv 1) pa_nil)) (pv 0) (nomark _)))))
      (pss_one (ps_ret pe_bl))
      pss_nil)
    (pss_one (ps_ret (GxR.pe_allS hr rfl (n_all T) (by decide +kernel) (tb_g T (p := pd_is_number) (by decide +kernel)) rfl (gens_by (by decide +kernel)) (pv 1) (elt_in rfl rfl) (fun _ => rfl))))), ?_⟩
    refine ⟨_, rfl, .str x, .ty "str", .type "str", .type "str", true, rfl, .ty "str", .base (.str x), kit_ty (by decide +kernel), true, rfl, ?_⟩
    refine ⟨_, rfl, x, rfl, by rw [num_len hx]; exact size12 (by omega), _, rfl, rfl, _, rfl, ?_⟩
    rw [num_len hx, decide_eq_true rfl]
    refine ⟨_, rfl, x, rfl, ht.1 _ num_gen, fun H2 hT => ?_⟩
    have e : x.cps.toList.all (fun c => decide (c ∈ ("01" : Str).cps.toList)) = true := by
      obtain ⟨l, rfl, _, b⟩ := hx
      refine List.all_eq_true.mpr fun c hc => ?_
      rcases b c hc with rfl | rfl <;> decide +kernel
    rw [e]
    exact k H2 (tb_gen T num_gen ht hT).1
end
end B

set_option Elab.async false
set_option linter.all false
set_option maxRecDepth 100000
set_option maxHeartbeats 4000000
namespace B
open PySem PySem.Spec PyProof.Rows L2
open SX (S)
/-! ### the wire's object -/
def wfl (W : Nat) (dh dl : Addr) (ms lk : Int) : List (Str × V) := [("width", .int W), ("_hanging", .ref dh), ("_listening", .ref dl), ("_many_said", .int ms), ("_many_looks", .int lk)]
abbrev WC (K : PySem.W.Frag) : Addr := He.ga K "Wire"
structure WiAt (K : PySem.W.Frag) (H : Hp) (pw dh dl : Addr) (W : Nat) (kvs : List (Str × Bool)) (lw : List Str) (ms lk : Int) : Prop where
  ob : ∃ dx, H pw = some (.ins (WC K) dx (wfl W dh dl ms lk))
  li : H dl = some (.lst (lw.map V.str))
  dc : H dh = some (.dK (kv kvs))
section
variable {W : Nat} {dh dl q : Addr} {ms lk z : Int}
theorem wl_width : (wfl W dh dl ms lk).lookup ("width" : Str) = some (.int W) := by kernel_rfl
theorem wl_hanging : (wfl W dh dl ms lk).lookup ("_hanging" : Str) = some (.ref dh) := by kernel_rfl
theorem wl_listening : (wfl W dh dl ms lk).lookup ("_listening" : Str) = some (.ref dl) := by kernel_rfl
theorem wl_said : (wfl W dh dl ms lk).lookup ("_many_said" : Str) = some (.int ms) := by kernel_rfl
theorem wl_looks : (wfl W dh dl ms lk).lookup ("_many_looks" : Str) = some (.int lk) := by kernel_rfl
theorem wp_listening : putF "_listening" (.ref q) (wfl W dh dl ms lk) = wfl W dh q ms lk := by kernel_rfl
theorem wp_said : putF "_many_said" (.int z) (wfl W dh dl ms lk) = wfl W dh dl z lk := by kernel_rfl
theorem wp_looks : putF "_many_looks" (.int z) (wfl W dh dl ms lk) = wfl W dh dl ms z := by kernel_rfl
theorem wp_new : putF "_many_looks" (.int 0) (putF "_many_said" (.int W) (putF "_listening" (.ref dl) (putF "_hanging" (.ref dh) (putF "width" (.int W) [])))) = wfl W dh dl W 0 := by kernel_rfl
theorem wl_len : (wfl W dh dl ms lk).length < 1000 := by show 5 < 1000; decide
end
section
variable {P : Program} {w : World} {K : PySem.W.Frag} {mg : Str → Option Value} {base : Heap}
theorem wcl (T : Txt P w K mg base) : Cls K (WC K) := He.cls_ok (T.t.fact 73 (f := .cls "Wire"))
theorem wn_width (T : Txt P w K mg base) : NoAttr K (WC K) "width" := He.noat_ok (T.t.fact 75 (f := .noat "Wire" "width"))
theorem wn_hanging (T : Txt P w K mg base) : NoAttr K (WC K) "_hanging" := He.noat_ok (T.t.fact 76 (f := .noat "Wire" "_hanging"))
theorem wn_listening (T : Txt P w K mg base) : NoAttr K (WC K) "_listening" := He.noat_ok (T.t.fact 77 (f := .noat "Wire" "_listening"))
theorem wn_said (T : Txt P w K mg base) : NoAttr K (WC K) "_many_said" := He.noat_ok (T.t.fact 78 (f := .noat "Wire" "_many_said"))
theorem wn_looks (T : Txt P w K mg base) : NoAttr K (WC K) "_many_looks" := He.noat_ok (T.t.fact 79 (f := .noat "Wire" "_many_looks"))
end
section
variable {X : Cx}
theorem mk_There (T : Txt X.prog X.w X.K X.mg X.base) {m : Str} {j : Nat} {p p2 pos : Pos} (hg : Gl X "There" := by rfl) : PMk X (.Call (.Name "There" p) [.Constant (.str m) j p2] [] pos) (fun _ H Q => Q (.ref (He.ga X.K "There")) none H) := by
  obtain ⟨a, b, c, d⟩ := He.exc_ok (T.t.fact 130 (f := .exc "There"))
  exact pmk_own PySem.F.excBase_ValueError a (g_There T) b (raises_own c d) hg
theorem mk_NotThere (T : Txt X.prog X.w X.K X.mg X.base) {m : Str} {j : Nat} {p p2 pos : Pos} (hg : Gl X "NotThere" := by rfl) : PMk X (.Call (.Name "NotThere" p) [.Constant (.str m) j p2] [] pos) (fun _ H Q => Q (.ref (He.ga X.K "NotThere")) none H) := by
  obtain ⟨a, b, c, d⟩ := He.exc_ok (T.t.fact 131 (f := .exc "NotThere"))
  exact pmk_own PySem.F.excBase_ValueError a (g_NotThere T) b (raises_own c d) hg
theorem mk_NoRound (T : Txt X.prog X.w X.K X.mg X.base) {m : Str} {j : Nat} {p p2 pos : Pos} (hg : Gl X "NoRound" := by rfl) : PMk X (.Call (.Name "NoRound" p) [.Constant (.str m) j p2] [] pos) (fun _ H Q => Q (.ref (He.ga X.K "NoRound")) none H) := by
  obtain ⟨a, b, c, d⟩ := He.exc_ok (T.t.fact 132 (f := .exc "NoRound"))
  exact pmk_own PySem.F.excBase_ValueError a (g_NoRound T) b (raises_own c d) hg
end
/-- what stands of a wire stands behind what changes other things -/
theorem WiAt.stay {K : PySem.W.Frag} {S : List Addr} {H H' : Hp} {pw dh dl : Addr} {W : Nat} {kvs : List (Str × Bool)} {lw : List Str} {ms lk : Int} (h : WiAt K H pw dh dl W kvs lw ms lk) (f : FrT K S H H') (n : NL S H) (h1 : pw ∉ S) (h2 : dh ∉ S) : WiAt K H' pw dh dl W kvs lw ms lk := by
  obtain ⟨⟨dx, a⟩, b, c⟩ := h
  exact ⟨⟨dx, f.k _ _ a rfl h1⟩, f.at n b rfl (nl_strs lw), f.k _ _ c rfl h2⟩
theorem WiAt.keep {K : PySem.W.Frag} {S : List Addr} {H H' : Hp} {pw dh dl : Addr} {W : Nat} {kvs : List (Str × Bool)} {lw : List Str} {ms lk : Int} (h : WiAt K H pw dh dl W kvs lw ms lk) (f : FrT K S H H') (h1 : pw ∉ S) (h2 : dh ∉ S) (h3 : dl ∉ S) : WiAt K H' pw dh dl W kvs lw ms lk := by
  obtain ⟨⟨dx, a⟩, b, c⟩ := h
  exact ⟨⟨dx, f.k _ _ a rfl h1⟩, f.k _ _ b rfl h3, f.k _ _ c rfl h2⟩
theorem MdAt.stay {K : PySem.W.Frag} {S : List Addr} {H H' : Hp} {pm dt ml : Addr} {W : Nat} {kvs : List (Str × Bool)} {lm : List Str} {sd : Option (List Nat)} {lk : Int} (h : MdAt H pm dt ml W kvs lm sd lk) (f : FrT K S H H') (n : NL S H) (h1 : pm ∉ S) (h2 : dt ∉ S) : MdAt H' pm dt ml W kvs lm sd lk := by
  obtain ⟨a, b, c⟩ := h
  exact ⟨f.k _ _ a rfl h1, f.at n b rfl (nl_strs lm), f.k _ _ c rfl h2⟩
theorem MdAt.keep {K : PySem.W.Frag} {S : List Addr} {H H' : Hp} {pm dt ml : Addr} {W : Nat} {kvs : List (Str × Bool)} {lm : List Str} {sd : Option (List Nat)} {lk : Int} (h : MdAt H pm dt ml W kvs lm sd lk) (f : FrT K S H H') (h1 : pm ∉ S) (h2 : dt ∉ S) (h3 : ml ∉ S) : MdAt H' pm dt ml W kvs lm sd lk := by
  obtain ⟨a, b, c⟩ := h
  exact ⟨f.k _ _ a rfl h1, f.k _ _ b rfl h3, f.k _ _ c rfl h2⟩
theorem WiAt.ne {K : PySem.W.Frag} {H : Hp} {pw dh dl : Addr} {W : Nat} {kvs : List (Str × Bool)} {lw : List Str} {ms lk : Int} (h : WiAt K H pw dh dl W kvs lw ms lk) : pw ≠ dh := by
  obtain ⟨⟨dx, a⟩, b, c⟩ := h
  exact ne_of a c (by intro z; cases z)
theorem WiAt.nl {K : PySem.W.Frag} {H : Hp} {pw dh dl : Addr} {W : Nat} {kvs : List (Str × Bool)} {lw : List Str} {ms lk : Int} (h : WiAt K H pw dh dl W kvs lw ms lk) : NL [pw, dh] H := by
  obtain ⟨⟨dx, a⟩, b, c⟩ := h
  exact .cons a rfl (.cons c rfl .nil)
theorem WiAt.nl1 {K : PySem.W.Frag} {H : Hp} {pw dh dl : Addr} {W : Nat} {kvs : List (Str × Bool)} {lw : List Str} {ms lk : Int} (h : WiAt K H pw dh dl W kvs lw ms lk) : NL [pw] H := by
  obtain ⟨⟨dx, a⟩, b, c⟩ := h
  exact .cons a rfl .nil
section
variable {P : Program} {w : World} {K : PySem.W.Frag} {mg : Str → Option Value} {base : Heap}
def spReqWidth : Sp := fun vs H Q _ => ∃ W : Nat, vs = [.int W] ∧ 1 ≤ W ∧ W ≤ 12 ∧ Q .non H
theorem c_require_width (T : Txt P w K mg base) : CalX CX0 P w K mg base 1 "require_width" spReqWidth := by
  obtain ⟨fd, F⟩ := T.t.def_ 0 (d := d_require_width)
  refine ⟨_, fd, _, F.ok sc_require_width (fun vs H Q E h => ?_) (fun cdv A outer s H vs Q E hr h => ?_), He.glo_ok T.X T.G (T.t.fact 0), F.kp, F.bindsN fun _ _ _ _ _ _ us hl => match us, hl with | [_], _ => rfl⟩
  · obtain ⟨W, rfl, _⟩ := h
    rfl
  · obtain ⟨W, rfl, h1, h2, k⟩ := h
    refine ⟨_, PSs.nox (pss_one (ps_if (PW.pt (pw_or (pt_val (pe_callB call_isi (by rfl) (n_isinstance T) (by decide +kernel) (pa_cons (pv 0) (pa_cons (pe_bltn (v := .ty "bool") (u := .type "bool") rfl (n_bool T) (by decide +kernel) rfl) pa_nil)))) (pw_or1 (pt_not (pt_chain op_le op_le (g_LEAST_WIDTH T) (pv 0) (g_GREATEST_WIDTH T))))))
      (pss_one ps_never)
      pss_nil)), ?_⟩
    refine ⟨_, rfl, .int W, .ty "bool", .type "int", .type "bool", false, rfl, .ty "bool", .base (.int W), kit_ty (by decide +kernel), false, rfl, ?_⟩
    refine ⟨_, rfl, 1, W, rfl, rfl, _, rfl, ?_⟩
    rw [decide_eq_true (show (1 : Int) ≤ (W : Int) by omega)]
    refine ⟨W, 12, rfl, rfl, _, rfl, ?_⟩
    rw [decide_eq_true (show (W : Int) ≤ 12 by omega)]
    exact k
def spReqNum (K : PySem.W.Frag) : Sp := fun vs H Q _ => ∃ (W : Nat) (x : Str), vs = [.int W, .str x] ∧ Num W x ∧ W ≤ 12 ∧ Tb K H ∧ ∀ H', FrT K [] H H' → Q .non H'
theorem c_require_number (T : Txt P w K mg base) : CalX CX0 P w K mg base 2 "require_number" (spReqNum K) := by
  obtain ⟨fd, F⟩ := T.t.def_ 1 (d := d_require_number)
  refine ⟨_, fd, _, F.ok sc_require_number (fun vs H Q E h => ?_) (fun cdv A outer s H vs Q E hr h => ?_), He.glo_ok T.X T.G (T.t.fact 1), F.kp, F.bindsN fun _ _ _ _ _ _ us hl => match us, hl with | [_, _], _ => rfl⟩
  · obtain ⟨W, x, rfl, _⟩ := h
    rfl
  · obtain ⟨W, x, rfl, hx, hW, ht, k⟩ := h
    refine ⟨_, PSs.nox (pss_one (ps_if (pt_not (pt_val (pe_cx (c_is_number T) hr (by decide) rfl pass0 (pa_cons (pv 0) (pa_cons (pv 1) pa_nil)))))
      (pss_one ps_never)
      pss_nil)), ?_⟩
    exact ⟨_, rfl, _, rfl, W, x, rfl, hx, hW, ht, fun H' f => ⟨true, rfl, k H' f⟩⟩
theorem tup_K {x : Str} {vs : List V} (h : tupB K x vs = true) (hl : vs.length ≤ sizeLine) (H : Hp) : SqT K H (He.ga K x) vs := by
  unfold tupB at h
  split at h
  · rename_i t dd its n sl e
    obtain ⟨h1, h2⟩ := He.ba h
    have e1 : t = "tuple" := of_decide_eq_true h1
    subst e1
    have rl := He.relAll_ok h2
    refine .inr ⟨_, its, n, e, rfl, rfl, ?_, rl⟩
    have z : vs.length = its.toList.length := Paired.length rl
    have y : its.toList.length = its.size := by simp
    omega
  · cases h
def spReqKind : Sp := fun vs H Q _ => ∃ k : Str, vs = [.str k] ∧ (k = "all" ∨ k = "alarm") ∧ Q .non H
theorem c_require_kind (T : Txt P w K mg base) : CalX CX0 P w K mg base 1 "require_kind" spReqKind := by
  obtain ⟨fd, F⟩ := T.t.def_ 3 (d := d_require_kind)
  refine ⟨_, fd, _, F.ok sc_require_kind (fun vs H Q E h => ?_) (fun cdv A outer s H vs Q E hr h => ?_), He.glo_ok T.X T.G (T.t.fact 3), F.kp, F.bindsN fun _ _ _ _ _ _ us hl => match us, hl with | [_], _ => rfl⟩
  · obtain ⟨x, rfl, _⟩ := h
    rfl
  · obtain ⟨x, rfl, hk, k⟩ := h
    refine ⟨_, PSs.nox (pss_one (ps_if (pt_cmpR op_notIn_seq (pv 0) (g_KINDS T) rfl)
      (pss_one ps_never)
      pss_nil)), ?_⟩
    refine ⟨_, rfl, _, _, rfl, .inr (tup_K (xc_KINDS T) (by show 2 ≤ sizeLine; decide) H), rfl, rfl, _, rfl, ?_⟩
    have e : inV (.str x) [V.str "all", V.str "alarm"] = true := by rcases hk with rfl | rfl <;> decide +kernel
    rw [e]
    exact k
/-! ### a wire made -/
def spInit (K : PySem.W.Frag) : Sp := fun vs H Q _ => ∃ (pw dx : Addr) (W : Nat), vs = [.ref pw, .int W] ∧ H pw = some (.ins (WC K) dx []) ∧ 1 ≤ W ∧ W ≤ 12 ∧ ∀ (dh dl : Addr) (H' : Hp), H dh = none → H dl = none → H' pw = some (.ins (WC K) dx (wfl W dh dl W 0)) → H' dl = some (.lst []) → H' dh = some (.dK []) → Frm [pw] H H' → Q .non H'
theorem c_init (T : Txt P w K mg base) : MakX CX0 P w K mg base 2 "Wire" (WC K) (spInit K) := by
  obtain ⟨fd, F⟩ := T.t.def_ 4 (d := d_Wire_init)
  refine ⟨_, fd, _, He.mkr_ok (T.t.fact 74 (f := .mkr "Wire")), F.ok sc_Wire_init (fun vs H Q E h => ?_) (fun cdv A outer s H vs Q E hr h => ?_), g_Wire T, F.bindsN fun _ _ _ _ _ _ us hl => match us, hl with | [_, _], _ => rfl⟩
  · obtain ⟨pw, dx, W, rfl, _⟩ := h
    rfl
  · obtain ⟨pw, dx, W, rfl, h1, hW1, hW, k⟩ := h
    refine ⟨_, PSs.nox (pss_cons (ps_expr (pe_cx (c_require_width T) hr (by decide) rfl pass0 (pa_cons (pv 1) pa_nil)))
    (pss_cons (ps_fld (pv 0) (pv 1) rfl)
    (pss_cons (ps_fld (pv 0) pe_dnewK rfl)
    (pss_cons (ps_fld (pv 0) (pe_lst pa_nil) rfl)
    (pss_cons (ps_fld (pv 0) (pv 1) rfl)
    (pss_one (ps_fld (pv 0) pe_int rfl))))))), ?_⟩
    refine ⟨_, rfl, W, rfl, hW1, hW, ?_⟩
    refine ⟨_, rfl, _, rfl, pw, _, dx, _, rfl, h1, wcl T, wn_width T, by show 0 < 1000; decide, fun dh hdh => ?_⟩
    have n1 : pw ≠ dh := ne_of_none upd_same hdh
    refine ⟨_, rfl, pw, _, dx, _, rfl, by rw [upd_ne n1]; exact upd_same, wcl T, wn_hanging T, by show 1 < 1000; decide, Nat.zero_le _, fun dl hdl => ?_⟩
    have n2 : pw ≠ dl := ne_of_none upd_same hdl
    have n3 : dh ≠ dl := ne_of_none (by rw [upd_ne n1.symm]; exact upd_same) hdl
    refine ⟨_, rfl, pw, _, dx, _, rfl, by rw [upd_ne n2]; exact upd_same, wcl T, wn_listening T, by show 2 < 1000; decide, ?_⟩
    refine ⟨_, rfl, _, rfl, pw, _, dx, _, rfl, upd_same, wcl T, wn_said T, by show 3 < 1000; decide, ?_⟩
    refine ⟨_, rfl, pw, _, dx, _, rfl, upd_same, wcl T, wn_looks T, by show 4 < 1000; decide, ?_⟩
    rw [wp_new]
    have hdh' : H dh = none := upd_back hdh
    have hdl' : H dl = none := upd_back (upd_back (upd_back hdl))
    refine k dh dl _ hdh' hdl' upd_same ?_ ?_ (((((((Frm.refl _ _).put (by simp)).new hdh').put (by simp)).new hdl').put (by simp)).put (by simp) |>.put (by simp))
    · rw [upd_ne n2.symm, upd_ne n2.symm, upd_ne n2.symm, upd_same]
    · rw [upd_ne n1.symm, upd_ne n1.symm, upd_ne n1.symm, upd_ne n3, upd_ne n1.symm, upd_same]
theorem k_Wire (T : Txt P w K mg base) : MakX CX0 P w K mg base 2 "Wire" (WC K) (spInit K) := c_init T
end
end B

set_option Elab.async false
set_option linter.all false
set_option maxRecDepth 100000
set_option maxHeartbeats 4000000
namespace B
open PySem PySem.Spec PyProof.Rows L2
open SX (S)
section
variable {W : Nat} {dh dl : Addr} {ms lk : Int}
theorem wx_hung : (wfl W dh dl ms lk).lookup ("hung" : Str) = none := by kernel_rfl
theorem wx_alarms : (wfl W dh dl ms lk).lookup ("alarms" : Str) = none := by kernel_rfl
theorem wx_reqh : (wfl W dh dl ms lk).lookup ("_require_hanging" : Str) = none := by kernel_rfl
theorem wx_reqr : (wfl W dh dl ms lk).lookup ("_require_round" : Str) = none := by kernel_rfl
theorem wx_hang : (wfl W dh dl ms lk).lookup ("hang" : Str) = none := by kernel_rfl
theorem wx_off : (wfl W dh dl ms lk).lookup ("off" : Str) = none := by kernel_rfl
theorem wx_alarm : (wfl W dh dl ms lk).lookup ("alarm" : Str) = none := by kernel_rfl
theorem wx_calm : (wfl W dh dl ms lk).lookup ("calm" : Str) = none := by kernel_rfl
theorem wx_begin : (wfl W dh dl ms lk).lookup ("begin" : Str) = none := by kernel_rfl
theorem wx_look : (wfl W dh dl ms lk).lookup ("look" : Str) = none := by kernel_rfl
theorem wx_say : (wfl W dh dl ms lk).lookup ("say" : Str) = none := by kernel_rfl
theorem wx_looks : (wfl W dh dl ms lk).lookup ("looks" : Str) = none := by kernel_rfl
end
theorem lisB_all (kvs : List (Str × Bool)) : lisB kvs true = kvs.map (·.1) := by
  unfold lisB
  have : kvs.filter (fun p => true || p.2) = kvs := List.filter_eq_self.mpr fun p _ => rfl
  rw [this]
theorem lisB_len (kvs : List (Str × Bool)) (b : Bool) : (lisB kvs b).length ≤ kvs.length := by
  unfold lisB
  rw [List.length_map]
  exact List.length_filter_le _ _
section
variable {P : Program} {w : World} {K : PySem.W.Frag} {mg : Str → Option Value} {base : Heap}
def spLooks (K : PySem.W.Frag) : Sp := fun vs H Q _ => ∃ (pw dh dl : Addr) (W : Nat) (kvs : List (Str × Bool)) (lw : List Str) (ms lk : Int), vs = [.ref pw] ∧ WiAt K H pw dh dl W kvs lw ms lk ∧ Q (.int lk) H
theorem m_Wire_looks (T : Txt P w K mg base) : MetX CX0 P w K mg base 1 (WC K) "looks" (spLooks K) := by
  obtain ⟨fd, F⟩ := T.t.def_ 14 (d := d_Wire_looks)
  refine ⟨_, fd, _, wcl T, He.meth_ok (T.t.fact 89 (f := .meth "Wire" "looks")), F.ok sc_Wire_looks (fun vs H Q E h => ?_) (fun cdv A outer s H vs Q E hr h => ?_), F.bindsN fun _ _ _ _ _ _ us hl => match us, hl with | [_], _ => rfl⟩
  · obtain ⟨pw, dh, dl, W, kvs, lw, ms, lk, rfl, _⟩ := h
    rfl
  · obtain ⟨pw, dh, dl, W, kvs, lw, ms, lk, rfl, ⟨⟨dx, h1⟩, h2, h3⟩, k⟩ := h
    refine ⟨_, PSs.nox (pss_one (ps_ret (pe_fld (pv 0) (by rfl)))), ?_⟩
    exact ⟨_, rfl, pw, _, dx, _, _, rfl, h1, wcl T, wn_looks T, wl_looks, k⟩
def spRound (K : PySem.W.Frag) : Sp := fun vs H Q E => ∃ (pw dh dl : Addr) (W : Nat) (kvs : List (Str × Bool)) (lw : List Str) (ms lk : Int), vs = [.ref pw] ∧ WiAt K H pw dh dl W kvs lw ms lk ∧ (ms = W → E (.ref (He.ga K "NoRound")) none H) ∧ (ms ≠ W → Q .non H)
theorem m_Wire__require_round (T : Txt P w K mg base) : MetX (L2.CX P w) P w K mg base 1 (WC K) "_require_round" (spRound K) := by
  obtain ⟨fd, F⟩ := T.t.def_ 16 (d := d_Wire__require_round)
  refine ⟨_, fd, _, wcl T, He.meth_ok (T.t.fact 91 (f := .meth "Wire" "_require_round")), F.ok sc_Wire__require_round (fun vs H Q E h => ?_) (fun cdv A outer s H vs Q E hr h => ?_), F.bindsN fun _ _ _ _ _ _ us hl => match us, hl with | [_], _ => rfl⟩
  · obtain ⟨pw, dh, dl, W, kvs, lw, ms, lk, rfl, _⟩ := h
    rfl
  · obtain ⟨pw, dh, dl, W, kvs, lw, ms, lk, rfl, ⟨⟨dx, h1⟩, h2, h3⟩, k1, k2⟩ := h
    refine ⟨_, (pss_one (ps_if (pt_cmpR op_eq (pe_fld (pv 0) (by rfl)) (pe_fld (pv 0) (by rfl)) (nomark _))
      (pss_one (ps_raise rfl (takes_of rfl rfl rfl rfl) (mk_NoRound T)))
      pss_nil)), ?_⟩
    refine ⟨_, rfl, pw, _, dx, _, _, rfl, h1, wcl T, wn_said T, wl_said, _, rfl, pw, _, dx, _, _, rfl, h1, wcl T, wn_width T, wl_width, rfl, _, rfl, ?_⟩
    rw [int_dec]
    exact iteB (fun c => k1 (of_decide_eq_true c)) (fun c => k2 (of_decide_eq_false c))
/-- all that hang, rising -/
def spHung (K : PySem.W.Frag) : Sp := fun vs H Q _ => ∃ (pw dh dl : Addr) (W : Nat) (kvs : List (Str × Bool)) (lw : List Str) (ms lk : Int), vs = [.ref pw] ∧ WiAt K H pw dh dl W kvs lw ms lk ∧ kvs.length < 64 ∧
  ∀ (ys : List Str) (p : Addr) (H' : Hp), ys.Perm (kvs.map (·.1)) → sortedS ys = true → H p = none → H' p = some (.lst (ys.map V.str)) → Frm [] H H' → Q (.ref p) H'
theorem m_Wire_hung (T : Txt P w K mg base) : MetX CX0 P w K mg base 1 (WC K) "hung" (spHung K) := by
  obtain ⟨fd, F⟩ := T.t.def_ 9 (d := d_Wire_hung)
  refine ⟨_, fd, _, wcl T, He.meth_ok (T.t.fact 84 (f := .meth "Wire" "hung")), F.ok sc_Wire_hung (fun vs H Q E h => ?_) (fun cdv A outer s H vs Q E hr h => ?_), F.bindsN fun _ _ _ _ _ _ us hl => match us, hl with | [_], _ => rfl⟩
  · obtain ⟨pw, dh, dl, W, kvs, lw, ms, lk, rfl, _⟩ := h
    rfl
  · obtain ⟨pw, dh, dl, W, kvs, lw, ms, lk, rfl, ⟨⟨dx, h1⟩, h2, h3⟩, hl, k⟩ := h
    refine ⟨_, PSs.nox (pss_one (ps_ret (pe_callB (call_sortedD rfl) (by rfl) (n_sorted T) (by decide +kernel) (pa_cons (pe_fld (pv 0) (by rfl)) pa_nil)))), ?_⟩
    exact ⟨_, rfl, pw, _, dx, _, _, rfl, h1, wcl T, wn_hanging T, wl_hanging, dh, kv kvs, kvs.map (·.1), rfl, .inl h3, keys_kv kvs, by rw [List.length_map]; exact hl, fun ys p pm srt hp => k ys p _ pm srt hp upd_same (Frm.of (same_upd hp))⟩
/-- all that have an alarm, rising -/
def spAlarms (K : PySem.W.Frag) : Sp := fun vs H Q _ => ∃ (pw dh dl : Addr) (W : Nat) (kvs : List (Str × Bool)) (lw : List Str) (ms lk : Int), vs = [.ref pw] ∧ WiAt K H pw dh dl W kvs lw ms lk ∧ kvs.length < 64 ∧ (kvs.map (·.1)).Nodup ∧
  ∀ (ys : List Str) (p : Addr) (H' : Hp), ys.Perm (lisB kvs false) → sortedS ys = true → H p = none → H' p = some (.lst (ys.map V.str)) → Frm [] H H' → Q (.ref p) H'
theorem m_Wire_alarms (T : Txt P w K mg base) : MetX CX0 P w K mg base 1 (WC K) "alarms" (spAlarms K) := by
  obtain ⟨fd, F⟩ := T.t.def_ 10 (d := d_Wire_alarms)
  refine ⟨_, fd, _, wcl T, He.meth_ok (T.t.fact 85 (f := .meth "Wire" "alarms")), F.ok sc_Wire_alarms (fun vs H Q E h => ?_) (fun cdv A outer s H vs Q E hr h => ?_), F.bindsN fun _ _ _ _ _ _ us hl => match us, hl with | [_], _ => rfl⟩
  · obtain ⟨pw, dh, dl, W, kvs, lw, ms, lk, rfl, _⟩ := h
    rfl
  · obtain ⟨pw, dh, dl, W, kvs, lw, ms, lk, rfl, wa, hl, hnd, k⟩ := h
    have npd := wa.ne
    obtain ⟨⟨dx, h1⟩, h2, h3⟩ := wa
    have hu := hu_of hr
    refine ⟨_, PSs.nox (pss_one (ps_ret (pe_callB cr_sortedS (by rfl) (n_sorted T) (by decide +kernel) (pa_cons (pe_lock (pe_lc (own := [("number", 1)]) (g := gName 1) rfl sc_Wire_alarms.nd (pi_keys (pe_fld (pv 0) (by rfl))) (blkOk_by (N := ["self", "number"]) (sc := defScope s_Wire_alarms) (own := [("number", 1)]) (by decide +kernel)) (fun _ _ _ _ _ => pg_name (i := 1) sc_Wire_alarms.nd rfl (Or.inl rfl)) (fun _ _ _ _ _ => pts_one (by exact (pt_val (pe_dget hu (pe_fldK (K := K) rfl (pv 0) (by rfl)) (pv 1) (fun _ _ => rfl))))) (fun _ _ _ _ _ => by exact (pv 1)))) pa_nil)))), ?_⟩
    refine ⟨dh, _, h3, trivial, fun od => ?_⟩
    have h1' : (upd H dh (.frz od (.dK (kv kvs)))) pw = some (.ins (WC K) dx (wfl W dh dl ms lk)) := by rw [upd_ne npd]; exact h1
    refine ⟨_, rfl, pw, _, dx, _, _, rfl, h1', wcl T, wn_hanging T, wl_hanging, dh, od, rfl, .inl ⟨_, upd_same, fun D hD => ?_⟩⟩
    have ndD : dh ≠ D := ne_of_none upd_same hD
    have npD : pw ≠ D := ne_of_none h1' hD
    refine lc_it walk_keys (fun i H' => H' = upd (upd H dh (.frz od (.dK (kv kvs)))) D (.lst ((lisB (kvs.take i) false).map V.str))) rfl (fun i H' _ e => by rw [e, upd_ne ndD, upd_same]) ?_ ?_
    · rintro i y H1 H2 hi e ⟨rfl, kk, v, hk, rfl⟩
      subst H2
      obtain ⟨x, b, hxb, rfl, rfl⟩ := kv_at hk
      have hg := get_at hnd hxb
      have hl' := lisB_len (kvs.take i) false
      rw [List.length_take] at hl'
      refine ⟨rfl, _, rfl, pw, _, dx, _, _, rfl, by rw [upd_ne npD]; exact h1', wcl T, wn_hanging T, wl_hanging, _, rfl, dh, _, rfl, dg_get (.inr ⟨od, by rw [upd_ne ndD, upd_same]⟩) hg, b, rfl, iteB (fun cb => ?_) (fun cb => ?_)⟩
      · refine ⟨_, rfl, _, upd_same, by rw [List.length_map]; exact small1000 (by omega), ?_⟩
        show _ = _
        rw [upd_upd]
        unfold lisB
        rw [filter_step _ hxb, if_pos (show (false || b) = true by rw [cb]; rfl), List.map_append, List.map_append]
        rfl
      · show _ = _
        unfold lisB
        rw [filter_step _ hxb, if_neg (show ¬ (false || b) = true by rw [cb]; exact Bool.false_ne_true), List.append_nil]
    · rintro H1 rfl
      have e : (kv kvs).length = kvs.length := by unfold kv; rw [List.length_map]
      rw [e, List.take_length]
      refine ⟨by rw [upd_ne ndD, upd_same], ?_⟩
      rw [upd_lock h3 ndD]
      have hD' : H D = none := upd_back hD
      have hl' := lisB_len kvs false
      exact ⟨D, lisB kvs false, rfl, SqL.of upd_same, by omega, fun ys p pm srt hp => k ys p _ pm srt (upd_back hp) upd_same ((Frm.of (same_upd hD')).trans (Frm.of (same_upd hp)))⟩
/-- a round begun -/
def spBegin (K : PySem.W.Frag) : Sp := fun vs H Q _ => ∃ (pw dh dl : Addr) (kind : Str) (W : Nat) (kvs : List (Str × Bool)) (lw : List Str) (ms lk : Int), vs = [.ref pw, .str kind] ∧ (kind = "all" ∨ kind = "alarm") ∧ WiAt K H pw dh dl W kvs lw ms lk ∧ kvs.length < 64 ∧ (kvs.map (·.1)).Nodup ∧
  ∀ (ys : List Str) (dl' : Addr) (H' : Hp), ys.Perm (lisB kvs (decide (kind = "all"))) → H dl' = none → WiAt K H' pw dh dl' W kvs ys 0 lk → Frm [pw] H H' → Q .non H'
theorem m_Wire_begin (T : Txt P w K mg base) : MetX CX0 P w K mg base 2 (WC K) "begin" (spBegin K) := by
  obtain ⟨fd, F⟩ := T.t.def_ 11 (d := d_Wire_begin)
  refine ⟨_, fd, _, wcl T, He.meth_ok (T.t.fact 86 (f := .meth "Wire" "begin")), F.ok sc_Wire_begin (fun vs H Q E h => ?_) (fun cdv A outer s H vs Q E hr h => ?_), F.bindsN fun _ _ _ _ _ _ us hl => match us, hl with | [_, _], _ => rfl⟩
  · obtain ⟨pw, dh, dl, kind, W, kvs, lw, ms, lk, rfl, _⟩ := h
    rfl
  · obtain ⟨pw, dh, dl, kind, W, kvs, lw, ms, lk, rfl, hk, wa, hl, hnd, k⟩ := h
    have npd := wa.ne
    have wa' := wa
    obtain ⟨⟨dx, h1⟩, h2, h3⟩ := wa
    refine ⟨_, PSs.nox (pss_cons (ps_expr (pe_cx (c_require_kind T) hr (by decide) rfl pass0 (pa_cons (pv 1) pa_nil)))
    (pss_cons (ps_fld (pv 0) (pe_ifExp (pt_cmpR op_eq (pv 1) pe_str (nomark _)) (pe_mx0 (m_Wire_hung T) hr (by decide) (pv 0) pass0) (pe_mx0 (m_Wire_alarms T) hr (by decide) (pv 0) pass0)) rfl)
    (pss_one (ps_fld (pv 0) pe_int rfl)))), ?_⟩
    refine ⟨_, rfl, kind, rfl, hk, ?_⟩
    have go : ∀ (ys : List Str) (p : Addr) (H' : Hp), ys.Perm (lisB kvs (decide (kind = "all"))) → sortedS ys = true → H p = none → H' p = some (.lst (ys.map V.str)) → Frm [] H H' →
        ∃ v, [some (V.ref pw), some (V.str kind)][0]? = some (some v) ∧ ∃ a C dx fs, v = .ref a ∧ H' a = some (.ins C dx fs) ∧ Cls K C ∧ NoAttr K C "_listening" ∧ fs.length < 1000 ∧
          tSeq (sFld K (tVar 0) (tC (.int 0)) "_many_said") tNext { nx := fun _ H' => Q .non H', rt := Q } [some (V.ref pw), some (V.str kind)] (upd H' a (.ins C dx (putF "_listening" (.ref p) fs))) := fun ys p H' pm _ hp hl' f => by
      have g1 : H' pw = some (.ins (WC K) dx (wfl W dh dl ms lk)) := f.k _ _ h1 rfl (by simp)
      have g3 : H' dh = some (.dK (kv kvs)) := f.k _ _ h3 rfl (by simp)
      have npp : pw ≠ p := ne_of_none h1 hp
      refine ⟨_, rfl, pw, _, dx, _, rfl, g1, wcl T, wn_listening T, wl_len, ?_⟩
      rw [wp_listening]
      refine ⟨_, rfl, pw, _, dx, _, rfl, upd_same, wcl T, wn_said T, wl_len, ?_⟩
      rw [wp_said]
      refine k ys p _ pm hp ⟨⟨dx, upd_same⟩, ?_, ?_⟩ (((f.mono (by simp)).put (by simp)).put (by simp))
      · rw [upd_ne npp.symm, upd_ne npp.symm]
        exact hl'
      · rw [upd_ne npd.symm, upd_ne npd.symm]
        exact g3
    refine ⟨_, rfl, rfl, _, rfl, ?_⟩
    rw [str_dec]
    refine iteB (fun c => ?_) (fun c => ?_)
    · refine ⟨_, rfl, pw, dx, _, rfl, h1, wx_hung, pw, dh, dl, W, kvs, lw, ms, lk, rfl, wa', hl, fun ys p H' pm srt hp hl' f => go ys p H' ?_ srt hp hl' f⟩
      rw [c, lisB_all]
      exact pm
    · refine ⟨_, rfl, pw, dx, _, rfl, h1, wx_alarms, pw, dh, dl, W, kvs, lw, ms, lk, rfl, wa', hl, hnd, fun ys p H' pm srt hp hl' f => go ys p H' ?_ srt hp hl' f⟩
      rw [c]
      exact pm
end
end B

set_option Elab.async false
set_option linter.all false
set_option maxRecDepth 100000
set_option maxHeartbeats 4000000
namespace B
open PySem PySem.Spec PyProof.Rows L2
open SX (S)
/-- the sign at a place -/
def sgn (n : Nat) (x : Str) : Nat := x.cps.toList.getD n 0
theorem sgn_at {n c : Nat} {x : Str} (h : x.cps.toList[n]? = some c) : sgn n x = c := by
  unfold sgn
  rw [List.getD_eq_getElem?_getD, h]
  rfl
theorem flat_sgn (n : Nat) (xs : List Str) : (xs.map fun x => V.str (S [sgn n x])).all flatV = true := by
  induction xs with
  | nil => rfl
  | cons x r ih => rw [List.map_cons, List.all_cons, ih]; rfl
theorem inV_sgn {W n d : Nat} (hn : n < W) : ∀ xs : List Str, (∀ x ∈ xs, Num W x) → inV (.str (S [d])) (xs.map fun x => V.str (S [sgn n x])) = xs.any (sg n d)
  | [], _ => rfl
  | x :: r, h => by
    have ih := inV_sgn (d := d) hn r fun y hy => h y (List.mem_cons_of_mem _ hy)
    obtain ⟨c, _, g1, _⟩ := num_at (h x List.mem_cons_self) hn
    show (eqV (.str (S [sgn n x])) (.str (S [d])) || inV (.str (S [d])) (r.map fun x => V.str (S [sgn n x]))) = (sg n d x || r.any (sg n d))
    rw [ih, sgn_at g1, sg_at g1]
    congr 1
    show (S [c] == S [d]) = decide (c = d)
    rw [SX.S_beq_eq]
    by_cases e : c = d
    · rw [decide_eq_true e, decide_eq_true (by rw [e])]
    · rw [decide_eq_false e, decide_eq_false (fun q => e (List.cons.inj q).1)]
section
variable {P : Program} {w : World} {K : PySem.W.Frag} {mg : Str → Option Value} {base : Heap}
/-- a look -/
def spLook (K : PySem.W.Frag) : Sp := fun vs H Q E => ∃ (pw dh dl : Addr) (W : Nat) (kvs : List (Str × Bool)) (lw : List Str) (ms lk : Int), vs = [.ref pw] ∧ WiAt K H pw dh dl W kvs lw ms lk ∧ W ≤ 12 ∧ 0 ≤ ms ∧ ms ≤ W ∧ (∀ x ∈ lw, Num W x) ∧ lw.length ≤ 100 ∧
  (ms = W → E (.ref (He.ga K "NoRound")) none H) ∧ (ms ≠ W → ∀ (p : Addr) (H' : Hp), H' p = some (.tup [.bl (lw.any (sg ms.toNat 48)), .bl (lw.any (sg ms.toNat 49))]) → WiAt K H' pw dh dl W kvs lw ms (lk + 1) → Frm [pw] H H' → Q (.ref p) H')
theorem m_Wire_look (T : Txt P w K mg base) : MetX (L2.CX P w) P w K mg base 2 (WC K) "look" (spLook K) := by
  obtain ⟨fd, F⟩ := T.t.def_ 12 (d := d_Wire_look)
  refine ⟨_, fd, _, wcl T, He.meth_ok (T.t.fact 87 (f := .meth "Wire" "look")), F.ok sc_Wire_look (fun vs H Q E h => ?_) (fun cdv A outer s H vs Q E hr h => ?_), F.bindsN fun _ _ _ _ _ _ us hl => match us, hl with | [_], _ => rfl⟩
  · obtain ⟨pw, dh, dl, W, kvs, lw, ms, lk, rfl, _⟩ := h
    rfl
  · obtain ⟨pw, dh, dl, W, kvs, lw, ms, lk, rfl, wa, hW, hm0, hm1, hn, hl, k1, k2⟩ := h
    have npd := wa.ne
    have wa' := wa
    obtain ⟨⟨dx, h1⟩, h2, h3⟩ := wa
    refine ⟨_, (pss_cons (ps_expr (pe_mx0 (m_Wire__require_round T) hr (by decide) (pv 0) (passes_call (takes_of rfl rfl rfl rfl) (fun _ _ _ _ h => h))))
    (pss_cons (ps_fldaug (pv 0) pe_int in_add)
    (pss_cons (ps_setLc (i := 1) (own := [("number", 2)]) (g := gName 2) rfl sc_Wire_look.nd rfl rfl (sw_true rfl rfl rfl (by decide +kernel)) (pi_list (pe_fld (pv 0) (by rfl))) (blkOk_by (N := ["self", "signs", "number"]) (sc := defScope s_Wire_look) (own := [("number", 2)]) (by decide +kernel)) (fun _ _ _ _ _ => pg_name (i := 2) sc_Wire_look.nd rfl (Or.inl rfl)) (fun _ _ _ _ _ => pts_nil) (fun _ _ _ _ _ => by exact (pe_ix ix_str (pv 2) (pe_fldK (K := K) rfl (pv 0) (by rfl)) (fun _ _ => rfl))))
    (pss_one (ps_ret (pe_tup (pa_cons (pe_cmpR op_in_seq pe_str (pv 1) rfl) (pa_cons (pe_cmpR op_in_seq pe_str (pv 1) rfl) pa_nil)))))))), ?_⟩
    refine ⟨_, rfl, pw, dx, _, rfl, h1, wx_reqr, pw, dh, dl, W, kvs, lw, ms, lk, rfl, wa', k1, fun hne => ?_⟩
    have k := k2 hne
    have hlt : ms.toNat < W := by omega
    refine ⟨_, rfl, pw, _, dx, _, _, rfl, h1, wcl T, wn_looks T, wl_looks, lk, 1, rfl, rfl, dx, _, h1, wl_len, ?_⟩
    rw [wp_looks]
    have ndl : dl ≠ pw := ne_of h2 h1 (by intro z; cases z)
    have h2' : (upd H pw (.ins (WC K) dx (wfl W dh dl ms (lk + 1)))) dl = some (.lst (lw.map V.str)) := by rw [upd_ne ndl]; exact h2
    refine ⟨_, rfl, pw, _, dx, _, _, rfl, upd_same, wcl T, wn_listening T, wl_listening, dl, rfl, ⟨_, SqL.of h2'⟩, fun D hD => ?_⟩
    have npD : pw ≠ D := ne_of_none upd_same hD
    have nlD : dl ≠ D := ne_of_none h2' hD
    refine lc_list (K := K) (a := dl) (xs := lw.map V.str) (fun i H' => H' = upd (upd H pw (.ins (WC K) dx (wfl W dh dl ms (lk + 1)))) D (.lst ((lw.take i).map fun x => V.str (S [sgn ms.toNat x])))) rfl (fun i H' _ e => by rw [e]; exact SqL.of (by rw [upd_ne nlD]; exact h2')) ?_ ?_
    · rintro i y H1 hi e
      subst e
      obtain ⟨x, hx, rfl⟩ := at_map hi
      obtain ⟨c, hc, g1, g2⟩ := num_at (hn x (List.mem_of_getElem? hx)) hlt
      rw [show ((ms.toNat : Nat) : Int) = ms by omega] at g2
      refine ⟨rfl, _, rfl, _, rfl, pw, _, dx, _, _, rfl, by rw [upd_ne npD]; exact upd_same, wcl T, wn_said T, wl_said, x, ms, c, rfl, rfl, by rw [num_len (hn x (List.mem_of_getElem? hx))]; exact size12 (by omega), g2, ?_⟩
      refine ⟨_, upd_same, by rw [List.length_map, List.length_take]; exact small1000 (by omega), ?_⟩
      show _ = _
      rw [upd_upd, take_snoc hx, List.map_append]
      have e : V.str (S [sgn ms.toNat x]) = V.str ⟨#[c]⟩ := by rw [sgn_at g1]
      rw [List.map_cons, List.map_nil, e]
    · rintro H1 rfl
      rw [List.length_map, List.take_length]
      refine ⟨_, rfl, D, _, rfl, .inl (SqL.of upd_same), rfl, flat_sgn _ _, _, rfl, D, _, rfl, .inl (SqL.of upd_same), rfl, flat_sgn _ _, by show 2 ≤ sizeLine; decide, fun p hp => ?_⟩
      have e0 := inV_sgn (d := 48) hlt lw hn
      have e1 := inV_sgn (d := 49) hlt lw hn
      rw [← zero_S] at e0
      rw [← one_S] at e1
      have hp1 : H p = none := upd_back (upd_back hp)
      have hD' : H D = none := upd_back hD
      have npp : pw ≠ p := ne_of_none h1 hp1
      have ndp : dh ≠ p := ne_of_none h3 hp1
      have nlp : dl ≠ p := ne_of_none h2 hp1
      have ndD : dh ≠ D := ne_of_none h3 hD'
      refine k p _ ?_ ⟨⟨dx, ?_⟩, ?_, ?_⟩ (((((Frm.refl _ _).put (by simp)).new hD')).new hp1)
      · rw [upd_same]
        show some (HO.tup [V.bl (if false = true then _ else inV (.str "0") _), V.bl (if false = true then _ else inV (.str "1") _)]) = _
        rw [if_neg Bool.false_ne_true, if_neg Bool.false_ne_true, e0, e1]
      · rw [upd_ne npp, upd_ne npD, upd_same]
      · rw [upd_ne nlp, upd_ne nlD]
        exact h2'
      · rw [upd_ne ndp, upd_ne ndD, upd_ne npd.symm]
        exact h3
/-- a bit said -/
def spSay (K : PySem.W.Frag) : Sp := fun vs H Q E => ∃ (pw dh dl : Addr) (bit : Int) (W : Nat) (kvs : List (Str × Bool)) (lw : List Str) (ms lk : Int), vs = [.ref pw, .int bit] ∧ (bit = 0 ∨ bit = 1) ∧ WiAt K H pw dh dl W kvs lw ms lk ∧ W ≤ 12 ∧ 0 ≤ ms ∧ ms ≤ W ∧ (∀ x ∈ lw, Num W x) ∧ lw.length ≤ 100 ∧
  (ms = W → E (.ref (He.ga K "NoRound")) none H) ∧ (ms ≠ W → ∀ (dl' : Addr) (H' : Hp), H dl' = none → WiAt K H' pw dh dl' W kvs (lw.filter (sg ms.toNat (48 + bit.toNat))) (ms + 1) lk → Frm [pw] H H' → Q .non H')
theorem m_Wire_say (T : Txt P w K mg base) : MetX (L2.CX P w) P w K mg base 2 (WC K) "say" (spSay K) := by
  obtain ⟨fd, F⟩ := T.t.def_ 13 (d := d_Wire_say)
  refine ⟨_, fd, _, wcl T, He.meth_ok (T.t.fact 88 (f := .meth "Wire" "say")), F.ok sc_Wire_say (fun vs H Q E h => ?_) (fun cdv A outer s H vs Q E hr h => ?_), F.bindsN fun _ _ _ _ _ _ us hl => match us, hl with | [_, _], _ => rfl⟩
  · obtain ⟨pw, dh, dl, bit, W, kvs, lw, ms, lk, rfl, _⟩ := h
    rfl
  · obtain ⟨pw, dh, dl, bit, W, kvs, lw, ms, lk, rfl, hbit, wa, hW, hm0, hm1, hn, hl, k1, k2⟩ := h
    have npd := wa.ne
    have wa' := wa
    obtain ⟨⟨dx, h1⟩, h2, h3⟩ := wa
    have lg : bit.natAbs.log2 < 1920 := by rcases hbit with rfl | rfl <;> decide
    refine ⟨_, (pss_cons (ps_expr (pe_mx0 (m_Wire__require_round T) hr (by decide) (pv 0) (passes_call (takes_of rfl rfl rfl rfl) (fun _ _ _ _ h => h))))
    (pss_cons (ps_if (PW.pt (pw_or (pt_val (pe_callB call_isi (by rfl) (n_isinstance T) (by decide +kernel) (pa_cons (pv 1) (pa_cons (pe_bltn (v := .ty "bool") (u := .type "bool") rfl (n_bool T) (by decide +kernel) rfl) pa_nil)))) (pw_or1 (pt_cmpR op_notIn_seq (pv 1) (pe_tup (pa_cons pe_int (pa_cons pe_int pa_nil))) rfl))))
      (pss_one ps_never)
      pss_nil)
    (pss_cons (ps_set (i := 2) sc_Wire_say.nd rfl (Or.inr rfl) (pe_callTy call_str_int (by rfl) (n_str T) (by decide +kernel) (pa_cons (pv 1) pa_nil)))
    (pss_cons (ps_fld (pv 0) (pe_lc (own := [("number", 3)]) (g := gName 3) rfl sc_Wire_say.nd (pi_list (pe_fld (pv 0) (by rfl))) (blkOk_by (N := ["self", "bit", "sign", "number"]) (sc := defScope s_Wire_say) (own := [("number", 3)]) (by decide +kernel)) (fun _ _ _ _ _ => pg_name (i := 3) sc_Wire_say.nd rfl (Or.inl rfl)) (fun _ _ _ _ _ => pts_one (by exact (pt_cmpR op_eq (pe_ix ix_str (pv 3) (pe_fldK (K := K) rfl (pv 0) (by rfl)) (fun _ _ => rfl)) (pv 2) (nomark _)))) (fun _ _ _ _ _ => by exact (pv 3))) rfl)
    (pss_one (ps_fldaug (pv 0) pe_int in_add)))))), ?_⟩
    refine ⟨_, rfl, pw, dx, _, rfl, h1, wx_reqr, pw, dh, dl, W, kvs, lw, ms, lk, rfl, wa', k1, fun hne => ?_⟩
    have k := k2 hne
    have hlt : ms.toNat < W := by omega
    refine ⟨_, rfl, .int bit, .ty "bool", .type "int", .type "bool", false, rfl, .ty "bool", .base (.int bit), kit_ty (by decide +kernel), false, rfl, ?_⟩
    refine ⟨_, rfl, by show 2 ≤ sizeLine; decide, fun t ht => ?_⟩
    have i1 : inV (.int bit) [V.int 0, V.int 1] = true := by rcases hbit with rfl | rfl <;> decide +kernel
    refine ⟨t, _, rfl, .inr (SqT.of upd_same), rfl, rfl, _, rfl, ?_⟩
    rw [i1]
    -- sign = str(bit)
    refine ⟨_, rfl, bit, rfl, lg, ?_⟩
    have npt : pw ≠ t := ne_of_none h1 ht
    have nlt : dl ≠ t := ne_of_none h2 ht
    have ndt : dh ≠ t := ne_of_none h3 ht
    have h1' : (upd H t (.tup [.int 0, .int 1])) pw = some (.ins (WC K) dx (wfl W dh dl ms lk)) := by rw [upd_ne npt]; exact h1
    have h2' : (upd H t (.tup [.int 0, .int 1])) dl = some (.lst (lw.map V.str)) := by rw [upd_ne nlt]; exact h2
    refine ⟨_, rfl, pw, _, dx, _, _, rfl, h1', wcl T, wn_listening T, wl_listening, dl, rfl, ⟨_, SqL.of h2'⟩, fun D hD => ?_⟩
    have npD : pw ≠ D := ne_of_none h1' hD
    have nlD : dl ≠ D := ne_of_none h2' hD
    have hD' : H D = none := upd_back hD
    have ndD : dh ≠ D := ne_of_none h3 hD'
    refine lc_list (K := K) (a := dl) (xs := lw.map V.str) (fun i H' => H' = upd (upd H t (.tup [.int 0, .int 1])) D (.lst (((lw.take i).filter (sg ms.toNat (48 + bit.toNat))).map V.str))) rfl (fun i H' _ e => by rw [e]; exact SqL.of (by rw [upd_ne nlD]; exact h2')) ?_ ?_
    · rintro i y H1 hi e
      subst e
      obtain ⟨x, hx, rfl⟩ := at_map hi
      have hnx := hn x (List.mem_of_getElem? hx)
      obtain ⟨c, hc, g1, g2⟩ := num_at hnx hlt
      rw [show ((ms.toNat : Nat) : Int) = ms by omega] at g2
      refine ⟨rfl, _, rfl, _, rfl, pw, _, dx, _, _, rfl, by rw [upd_ne npD]; exact h1', wcl T, wn_said T, wl_said, x, ms, c, rfl, rfl, by rw [num_len hnx]; exact size12 (by omega), g2, _, rfl, rfl, _, rfl, ?_⟩
      rw [dig_S bit hbit, sign_dec, ← sg_at g1]
      refine iteB (fun cb => ?_) (fun cb => ?_)
      · refine ⟨_, rfl, _, upd_same, ?_, ?_⟩
        · rw [List.length_map]
          have := List.length_filter_le (sg ms.toNat (48 + bit.toNat)) (lw.take i)
          rw [List.length_take] at this
          exact small1000 (by omega)
        · show _ = _
          rw [upd_upd, filter_step _ hx, if_pos cb, List.map_append]
          rfl
      · show _ = _
        rw [filter_step _ hx, if_neg (by rw [cb]; exact Bool.false_ne_true), List.append_nil]
    · rintro H1 rfl
      rw [List.length_map, List.take_length]
      have h1'' : (upd (upd H t (.tup [.int 0, .int 1])) D (.lst ((lw.filter (sg ms.toNat (48 + bit.toNat))).map V.str))) pw = some (.ins (WC K) dx (wfl W dh dl ms lk)) := by rw [upd_ne npD]; exact h1'
      refine ⟨_, rfl, pw, _, dx, _, rfl, h1'', wcl T, wn_listening T, wl_len, ?_⟩
      rw [wp_listening]
      refine ⟨_, rfl, pw, _, dx, _, _, rfl, upd_same, wcl T, wn_said T, wl_said, ms, 1, rfl, rfl, dx, _, upd_same, wl_len, ?_⟩
      rw [wp_said]
      refine k D _ hD' ⟨⟨dx, upd_same⟩, ?_, ?_⟩ ((((((Frm.refl _ _).new ht).new hD').put (by simp)).put (by simp)))
      · rw [upd_ne npD.symm, upd_ne npD.symm, upd_same]
      · rw [upd_ne npd.symm, upd_ne npd.symm, upd_ne ndD, upd_ne ndt]
        exact h3
end
end B

set_option Elab.async false
set_option linter.all false
set_option maxRecDepth 100000
set_option maxHeartbeats 4000000
namespace B
open PySem PySem.Spec PyProof.Rows L2
open SX (S)
/-- who refuses -/
def errOf (K : PySem.W.Frag) (wd : Str) : Addr := if wd = "hang" then He.ga K "There" else He.ga K "NotThere"
section
variable {P : Program} {w : World} {K : PySem.W.Frag} {mg : Str → Option Value} {base : Heap}
def spReqHang (K : PySem.W.Frag) : Sp := fun vs H Q E => ∃ (pw dh dl : Addr) (x : Str) (W : Nat) (kvs : List (Str × Bool)) (lw : List Str) (ms lk : Int), vs = [.ref pw, .str x] ∧ WiAt K H pw dh dl W kvs lw ms lk ∧ Num W x ∧ W ≤ 12 ∧ Tb K H ∧
  (hasK kvs x = false → ∀ H', FrT K [] H H' → E (.ref (He.ga K "NotThere")) none H') ∧ (hasK kvs x = true → ∀ H', FrT K [] H H' → Q .non H')
theorem m_Wire__require_hanging (T : Txt P w K mg base) : MetX (L2.CX P w) P w K mg base 3 (WC K) "_require_hanging" (spReqHang K) := by
  obtain ⟨fd, F⟩ := T.t.def_ 15 (d := d_Wire__require_hanging)
  refine ⟨_, fd, _, wcl T, He.meth_ok (T.t.fact 90 (f := .meth "Wire" "_require_hanging")), F.ok sc_Wire__require_hanging (fun vs H Q E h => ?_) (fun cdv A outer s H vs Q E hr h => ?_), F.bindsN fun _ _ _ _ _ _ us hl => match us, hl with | [_, _], _ => rfl⟩
  · obtain ⟨pw, dh, dl, x, W, kvs, lw, ms, lk, rfl, _⟩ := h
    rfl
  · obtain ⟨pw, dh, dl, x, W, kvs, lw, ms, lk, rfl, ⟨⟨dx, h1⟩, h2, h3⟩, hx, hW, ht, k1, k2⟩ := h
    have hu := hu_of hr
    refine ⟨_, (pss_cons (ps_expr (pe_cx (c_require_number T) hr (by decide) rfl pass0 (pa_cons (pe_fld (pv 0) (by rfl)) (pa_cons (pv 1) pa_nil))))
    (pss_one (ps_if (pt_cmp (pc_dnotin hu (pv 1) (pe_fld (pv 0) (by rfl))))
      (pss_one (ps_raise rfl (takes_of rfl rfl rfl rfl) (mk_NotThere T)))
      pss_nil))), ?_⟩
    refine ⟨_, rfl, pw, _, dx, _, _, rfl, h1, wcl T, wn_width T, wl_width, _, rfl, W, x, rfl, hx, hW, ht, fun H1 f => ?_⟩
    have g1 := f.k _ _ h1 rfl (by simp)
    have g3 := f.k _ _ h3 rfl (by simp)
    refine ⟨_, rfl, _, rfl, pw, _, dx, _, _, rfl, g1, wcl T, wn_hanging T, wl_hanging, dh, _, rfl, dg_has (.inl g3) x, _, rfl, ?_⟩
    rw [some_map_bl, get_has]
    refine iteB (fun c => ?_) (fun c => ?_)
    · refine k1 ?_ H1 f
      cases e : hasK kvs x with
      | false => rfl
      | true => rw [e] at c; cases c
    · refine k2 ?_ H1 f
      cases e : hasK kvs x with
      | true => rfl
      | false => rw [e] at c; cases c
/-- something becomes of a thing of a wire -/
def spWd (K : PySem.W.Frag) (wd : Str) : Sp := fun vs H Q E => ∃ (pw dh dl : Addr) (x : Str) (W : Nat) (kvs : List (Str × Bool)) (lw : List Str) (ms lk : Int), vs = [.ref pw, .str x] ∧ WiAt K H pw dh dl W kvs lw ms lk ∧ Num W x ∧ W ≤ 12 ∧ kvs.length ≤ 100 ∧ lw.length ≤ 100 ∧ Tb K H ∧
  (¬ deedW kvs wd x = "" → ∀ H', FrT K [] H H' → E (.ref (errOf K wd)) none H') ∧
  (deedW kvs wd x = "" → ∀ (dl' : Addr) (H' : Hp), (dl' = dl ∨ H dl' = none) → WiAt K H' pw dh dl' W (deedK kvs wd x) (deedL kvs lw wd x) ms lk → FrT K [pw, dh] H H' → Q .non H')
theorem m_Wire_hang (T : Txt P w K mg base) : MetX (L2.CX P w) P w K mg base 3 (WC K) "hang" (spWd K "hang") := by
  obtain ⟨fd, F⟩ := T.t.def_ 5 (d := d_Wire_hang)
  refine ⟨_, fd, _, wcl T, He.meth_ok (T.t.fact 80 (f := .meth "Wire" "hang")), F.ok sc_Wire_hang (fun vs H Q E h => ?_) (fun cdv A outer s H vs Q E hr h => ?_), F.bindsN fun _ _ _ _ _ _ us hl => match us, hl with | [_, _], _ => rfl⟩
  · obtain ⟨pw, dh, dl, x, W, kvs, lw, ms, lk, rfl, _⟩ := h
    rfl
  · obtain ⟨pw, dh, dl, x, W, kvs, lw, ms, lk, rfl, wa, hx, hW, hkl, hll, ht, k1, k2⟩ := h
    have npd := wa.ne
    obtain ⟨⟨dx, h1⟩, h2, h3⟩ := wa
    have hu := hu_of hr
    refine ⟨_, (pss_cons (ps_expr (pe_cx (c_require_number T) hr (by decide) rfl pass0 (pa_cons (pe_fld (pv 0) (by rfl)) (pa_cons (pv 1) pa_nil))))
    (pss_cons (ps_if (pt_cmp (pc_din hu (pv 1) (pe_fld (pv 0) (by rfl))))
      (pss_one (ps_raise rfl (takes_of rfl rfl rfl rfl) (mk_There T)))
      pss_nil)
    (pss_one (ps_dput hu (pe_fld (pv 0) (by rfl)) (pv 1) pe_bl rfl)))), ?_⟩
    refine ⟨_, rfl, pw, _, dx, _, _, rfl, h1, wcl T, wn_width T, wl_width, _, rfl, W, x, rfl, hx, hW, ht, fun H1 f => ?_⟩
    have g1 := f.k _ _ h1 rfl (by simp)
    have g2 := f.k _ _ h2 rfl (by simp)
    have g3 := f.k _ _ h3 rfl (by simp)
    refine ⟨_, rfl, _, rfl, pw, _, dx, _, _, rfl, g1, wcl T, wn_hanging T, wl_hanging, dh, _, rfl, dg_has (.inl g3) x, _, rfl, ?_⟩
    rw [some_map_bl, get_has]
    refine iteB (fun c => ?_) (fun c => ?_)
    · have := k1 (by unfold deedW; rw [if_pos rfl, if_pos c]; decide +kernel) H1 f
      unfold errOf at this
      rw [if_pos rfl] at this
      exact this
    · have nh : ¬ hasK kvs x = true := by rw [c]; exact Bool.false_ne_true
      refine ⟨_, rfl, pw, _, dx, _, _, rfl, g1, wcl T, wn_hanging T, wl_hanging, _, rfl, dh, _, rfl, dp_put g3 (by omega) x false, ?_⟩
      refine k2 (by unfold deedW; rw [if_pos rfl, if_neg nh]) dl _ (.inl rfl) ?_ ((f.mono (by simp)).trans (((Frm.refl [pw, dh] H1).put (by simp)).toT (.cons g1 rfl (.cons g3 rfl .nil))))
      unfold deedK deedL
      rw [if_pos rfl, if_neg nh, if_neg (fun z => absurd z.1 (by decide +kernel))]
      refine ⟨⟨dx, by rw [upd_ne npd]; exact g1⟩, by rw [upd_ne (ne_of g2 g3 (by intro z; cases z))]; exact g2, upd_same⟩
theorem m_Wire_alarm (T : Txt P w K mg base) : MetX (L2.CX P w) P w K mg base 4 (WC K) "alarm" (spWd K "alarm") := by
  obtain ⟨fd, F⟩ := T.t.def_ 7 (d := d_Wire_alarm)
  refine ⟨_, fd, _, wcl T, He.meth_ok (T.t.fact 82 (f := .meth "Wire" "alarm")), F.ok sc_Wire_alarm (fun vs H Q E h => ?_) (fun cdv A outer s H vs Q E hr h => ?_), F.bindsN fun _ _ _ _ _ _ us hl => match us, hl with | [_, _], _ => rfl⟩
  · obtain ⟨pw, dh, dl, x, W, kvs, lw, ms, lk, rfl, _⟩ := h
    rfl
  · obtain ⟨pw, dh, dl, x, W, kvs, lw, ms, lk, rfl, wa, hx, hW, hkl, hll, ht, k1, k2⟩ := h
    have npd := wa.ne
    have wa' := wa
    obtain ⟨⟨dx, h1⟩, h2, h3⟩ := wa
    have hu := hu_of hr
    have nw : ¬ ("alarm" : Str) = "hang" := by decide +kernel
    have no : ¬ ("alarm" : Str) = "off" := by decide +kernel
    refine ⟨_, (pss_cons (ps_expr (pe_mx (m_Wire__require_hanging T) hr (by decide) (pv 0) (passes_call (takes_of rfl rfl rfl rfl) (fun _ _ _ _ h => h)) (pa_cons (pv 1) pa_nil)))
    (pss_one (ps_dput hu (pe_fld (pv 0) (by rfl)) (pv 1) pe_bl rfl))), ?_⟩
    refine ⟨_, rfl, pw, dx, _, rfl, h1, wx_reqh, _, rfl, pw, dh, dl, x, W, kvs, lw, ms, lk, rfl, wa', hx, hW, ht, fun c H1 f => ?_, fun c H1 f => ?_⟩
    · have nh : ¬ hasK kvs x = true := by rw [c]; exact Bool.false_ne_true
      have := k1 (by unfold deedW; rw [if_neg nw, if_neg nh]; decide +kernel) H1 f
      unfold errOf at this
      rw [if_neg nw] at this
      exact this
    · have g1 := f.k _ _ h1 rfl (by simp)
      have g2 := f.k _ _ h2 rfl (by simp)
      have g3 := f.k _ _ h3 rfl (by simp)
      refine ⟨_, rfl, pw, _, dx, _, _, rfl, g1, wcl T, wn_hanging T, wl_hanging, _, rfl, dh, _, rfl, dp_put g3 (by omega) x true, ?_⟩
      refine k2 (by unfold deedW; rw [if_neg nw, if_pos c]) dl _ (.inl rfl) ?_ ((f.mono (by simp)).trans (((Frm.refl [pw, dh] H1).put (by simp)).toT (.cons g1 rfl (.cons g3 rfl .nil))))
      unfold deedK deedL
      rw [if_neg nw, if_pos c, if_neg no, if_neg (fun z => no z.1), decide_eq_true rfl]
      exact ⟨⟨dx, by rw [upd_ne npd]; exact g1⟩, by rw [upd_ne (ne_of g2 g3 (by intro z; cases z))]; exact g2, upd_same⟩
theorem m_Wire_calm (T : Txt P w K mg base) : MetX (L2.CX P w) P w K mg base 4 (WC K) "calm" (spWd K "calm") := by
  obtain ⟨fd, F⟩ := T.t.def_ 8 (d := d_Wire_calm)
  refine ⟨_, fd, _, wcl T, He.meth_ok (T.t.fact 83 (f := .meth "Wire" "calm")), F.ok sc_Wire_calm (fun vs H Q E h => ?_) (fun cdv A outer s H vs Q E hr h => ?_), F.bindsN fun _ _ _ _ _ _ us hl => match us, hl with | [_, _], _ => rfl⟩
  · obtain ⟨pw, dh, dl, x, W, kvs, lw, ms, lk, rfl, _⟩ := h
    rfl
  · obtain ⟨pw, dh, dl, x, W, kvs, lw, ms, lk, rfl, wa, hx, hW, hkl, hll, ht, k1, k2⟩ := h
    have npd := wa.ne
    have wa' := wa
    obtain ⟨⟨dx, h1⟩, h2, h3⟩ := wa
    have hu := hu_of hr
    have nw : ¬ ("calm" : Str) = "hang" := by decide +kernel
    have no : ¬ ("calm" : Str) = "off" := by decide +kernel
    have na : ¬ ("calm" : Str) = "alarm" := by decide +kernel
    refine ⟨_, (pss_cons (ps_expr (pe_mx (m_Wire__require_hanging T) hr (by decide) (pv 0) (passes_call (takes_of rfl rfl rfl rfl) (fun _ _ _ _ h => h)) (pa_cons (pv 1) pa_nil)))
    (pss_one (ps_dput hu (pe_fld (pv 0) (by rfl)) (pv 1) pe_bl rfl))), ?_⟩
    refine ⟨_, rfl, pw, dx, _, rfl, h1, wx_reqh, _, rfl, pw, dh, dl, x, W, kvs, lw, ms, lk, rfl, wa', hx, hW, ht, fun c H1 f => ?_, fun c H1 f => ?_⟩
    · have nh : ¬ hasK kvs x = true := by rw [c]; exact Bool.false_ne_true
      have := k1 (by unfold deedW; rw [if_neg nw, if_neg nh]; decide +kernel) H1 f
      unfold errOf at this
      rw [if_neg nw] at this
      exact this
    · have g1 := f.k _ _ h1 rfl (by simp)
      have g2 := f.k _ _ h2 rfl (by simp)
      have g3 := f.k _ _ h3 rfl (by simp)
      refine ⟨_, rfl, pw, _, dx, _, _, rfl, g1, wcl T, wn_hanging T, wl_hanging, _, rfl, dh, _, rfl, dp_put g3 (by omega) x false, ?_⟩
      refine k2 (by unfold deedW; rw [if_neg nw, if_pos c]) dl _ (.inl rfl) ?_ ((f.mono (by simp)).trans (((Frm.refl [pw, dh] H1).put (by simp)).toT (.cons g1 rfl (.cons g3 rfl .nil))))
      unfold deedK deedL
      rw [if_neg nw, if_pos c, if_neg no, if_neg (fun z => no z.1), decide_eq_false na]
      exact ⟨⟨dx, by rw [upd_ne npd]; exact g1⟩, by rw [upd_ne (ne_of g2 g3 (by intro z; cases z))]; exact g2, upd_same⟩
theorem m_Wire_off (T : Txt P w K mg base) : MetX (L2.CX P w) P w K mg base 4 (WC K) "off" (spWd K "off") := by
  obtain ⟨fd, F⟩ := T.t.def_ 6 (d := d_Wire_off)
  refine ⟨_, fd, _, wcl T, He.meth_ok (T.t.fact 81 (f := .meth "Wire" "off")), F.ok sc_Wire_off (fun vs H Q E h => ?_) (fun cdv A outer s H vs Q E hr h => ?_), F.bindsN fun _ _ _ _ _ _ us hl => match us, hl with | [_, _], _ => rfl⟩
  · obtain ⟨pw, dh, dl, x, W, kvs, lw, ms, lk, rfl, _⟩ := h
    rfl
  · obtain ⟨pw, dh, dl, x, W, kvs, lw, ms, lk, rfl, wa, hx, hW, hkl, hll, ht, k1, k2⟩ := h
    have npd := wa.ne
    have wa' := wa
    obtain ⟨⟨dx, h1⟩, h2, h3⟩ := wa
    have hu := hu_of hr
    have nw : ¬ ("off" : Str) = "hang" := by decide +kernel
    refine ⟨_, (pss_cons (ps_expr (pe_mx (m_Wire__require_hanging T) hr (by decide) (pv 0) (passes_call (takes_of rfl rfl rfl rfl) (fun _ _ _ _ h => h)) (pa_cons (pv 1) pa_nil)))
    (pss_cons (ps_ddel (pe_fld (pv 0) (by rfl)) (pv 1))
    (pss_one (ps_fld (pv 0) (pe_lc (own := [("other", 2)]) (g := gName 2) rfl sc_Wire_off.nd (pi_list (pe_fld (pv 0) (by rfl))) (blkOk_by (N := ["self", "number", "other"]) (sc := defScope s_Wire_off) (own := [("other", 2)]) (by decide +kernel)) (fun _ _ _ _ _ => pg_name (i := 2) sc_Wire_off.nd rfl (Or.inl rfl)) (fun _ _ _ _ _ => pts_one (by exact (pt_cmpR op_ne (pv 2) (pv 1) (nomark _)))) (fun _ _ _ _ _ => by exact (pv 2))) rfl)))), ?_⟩
    refine ⟨_, rfl, pw, dx, _, rfl, h1, wx_reqh, _, rfl, pw, dh, dl, x, W, kvs, lw, ms, lk, rfl, wa', hx, hW, ht, fun c H1 f => ?_, fun c H1 f => ?_⟩
    · have nh : ¬ hasK kvs x = true := by rw [c]; exact Bool.false_ne_true
      have := k1 (by unfold deedW; rw [if_neg nw, if_neg nh]; decide +kernel) H1 f
      unfold errOf at this
      rw [if_neg nw] at this
      exact this
    · have g1 := f.k _ _ h1 rfl (by simp)
      have g2 := f.k _ _ h2 rfl (by simp)
      have g3 := f.k _ _ h3 rfl (by simp)
      obtain ⟨b, hb⟩ := has_get c
      have ev : (valV (kv kvs) (.inr x : Key)).isSome = true := by rw [val_kv, hb]; rfl
      refine ⟨_, rfl, pw, _, dx, _, _, rfl, g1, wcl T, wn_hanging T, wl_hanging, _, rfl, dh, kv kvs, .inr x, rfl, g3, rfl, ev, ?_⟩
      rw [drop_kv]
      have nld : dl ≠ dh := ne_of g2 g3 (by intro z; cases z)
      have g1' : (upd H1 dh (.dK (kv (dropB kvs x)))) pw = some (.ins (WC K) dx (wfl W dh dl ms lk)) := by rw [upd_ne npd]; exact g1
      have g2' : (upd H1 dh (.dK (kv (dropB kvs x)))) dl = some (.lst (lw.map V.str)) := by rw [upd_ne nld]; exact g2
      refine ⟨_, rfl, pw, _, dx, _, _, rfl, g1', wcl T, wn_listening T, wl_listening, dl, rfl, ⟨_, SqL.of g2'⟩, fun D hD => ?_⟩
      have npD : pw ≠ D := ne_of_none g1' hD
      have nlD : dl ≠ D := ne_of_none g2' hD
      have ndD : dh ≠ D := ne_of_none upd_same hD
      refine lc_list (K := K) (a := dl) (xs := lw.map V.str) (fun i H' => H' = upd (upd H1 dh (.dK (kv (dropB kvs x)))) D (.lst (((lw.take i).filter (fun y => decide (y ≠ x))).map V.str))) rfl (fun i H' _ e => by rw [e]; exact SqL.of (by rw [upd_ne nlD]; exact g2')) ?_ ?_
      · rintro i y H3 hi e
        subst e
        obtain ⟨z, hz, rfl⟩ := at_map hi
        refine ⟨rfl, _, rfl, _, rfl, rfl, _, rfl, ?_⟩
        rw [str_dec]
        have e1 : (!decide (z = x)) = decide (z ≠ x) := by
          by_cases q : z = x
          · rw [decide_eq_true q, decide_eq_false (fun n => n q)]; rfl
          · rw [decide_eq_false q, decide_eq_true q]; rfl
        rw [e1]
        refine iteB (fun cb => ?_) (fun cb => ?_)
        · refine ⟨_, rfl, _, upd_same, ?_, ?_⟩
          · rw [List.length_map]
            have := List.length_filter_le (fun y => decide (y ≠ x)) (lw.take i)
            rw [List.length_take] at this
            exact small1000 (by omega)
          · show _ = _
            rw [upd_upd, filter_step _ hz, if_pos cb, List.map_append]
            rfl
        · show _ = _
          rw [filter_step _ hz, if_neg (by rw [cb]; exact Bool.false_ne_true), List.append_nil]
      · rintro H3 rfl
        rw [List.length_map, List.take_length]
        refine ⟨_, rfl, pw, _, dx, _, rfl, by rw [upd_ne npD]; exact g1', wcl T, wn_listening T, wl_len, ?_⟩
        rw [wp_listening]
        have hD' : H1 D = none := upd_back hD
        refine k2 (by unfold deedW; rw [if_neg nw, if_pos c]) D _ (.inr (f.b _ hD')) ?_ ((f.mono (by simp)).trans (((((Frm.refl [pw, dh] H1).put (by simp)).new hD').put (by simp)).toT (.cons g1 rfl (.cons g3 rfl .nil))))
        unfold deedK deedL
        rw [if_neg nw, if_pos c, if_pos rfl, if_pos ⟨rfl, c⟩]
        exact ⟨⟨dx, upd_same⟩, by rw [upd_ne npD.symm, upd_same], by rw [upd_ne npd.symm, upd_ne ndD, upd_same]⟩
end
end B

set_option Elab.async false
set_option linter.all false
set_option maxRecDepth 100000
set_option maxHeartbeats 4000000
namespace B
open PySem PySem.Spec PyProof.Rows L2
open PySem.W (kdv_obj kdv_fn kdv_tup)
/-! ### a lambda, all of whose parameters have written defaults, handed to a def -/
/-- what a lambda's making leaves: fr: all but the maker's table stands; ob: its function object; ext: the tuple of defaults -/
structure Made (X : Cx) (P : Addr) (q : Str) (params : Arguments) (body : Expr) (scope : Scope) (dV : Value) (ext : List (Addr × Obj)) (H H1 : Hp) (s1 : Shared) (f c1 : Addr) : Prop where
  fr : ∀ b o, H b = some o → b ≠ P → H1 b = some o
  bk : ∀ b, H1 b = none → H b = none
  tb : LamX.TabS H1 P q
  ob : ∃ doc pm ctv, s1.heap.get? f = some (kdv_obj "<lambda>" q params (.expr body) scope (cloFrom X.env.cells scope.names []) dV doc pm c1 ctv)
  fn : H1 f = none
  ff : f ∉ frs X.stack
  co : H1 c1 = some (LamX.CodeO c1 q)
  ex : ∀ p ∈ ext, s1.heap.get? p.1 = some p.2 ∧ H1 p.1 = none ∧ p.1 ∉ frs X.stack
section
variable {X : Cx} {pins : List (Addr × Obj)} {σ : L2.St} {H : Hp} {s : Shared}
theorem no_frame (I : Inv X pins σ H s) {b : Addr} (hb : s.heap.objs.size ≤ b) : b ∉ frs X.stack := fun z => by
  rcases List.mem_cons.mp (I.stkSub b z) with e | e
  · subst e
    exact absurd I.lt (Nat.not_lt.mpr hb)
  · exact I.nofs hb e
theorem made_tail {q : Str} {params : Arguments} {body : Expr} {scope : Scope} {pos : Pos} {c P : Addr} {dV : Value} {ext : List (Addr × Obj)} {E : Value → Shared → Prop} {Q : Value → Shared → Prop} (I : Inv X pins σ H s) (TB : LamX.TabB X.base X.mg c P) (hcode : X.env.code = .ref c)
    (hT : LamX.TabS H P q) (hfree : ∀ y ∈ scope.names, y.2 = .free → ∃ c, X.env.cells.lookup y.1 = some c) (hext : ∀ p ∈ ext, s.heap.get? p.1 = some p.2 ∧ H p.1 = none ∧ p.1 ∉ frs X.stack)
    (h : ∀ f c1 H1 s1, Inv X pins σ H1 s1 → Made X P q params body scope dV ext H H1 s1 f c1 → Q (.ref f) s1) :
    wpAny (model X.prog X.w) X.A (PySem.makeTail "<lambda>" q params (.expr body) scope X.env dV .none none pos pos.line) Q E s := by
  obtain ⟨ps, hP, trip, among⟩ := hT
  have heapP : s.heap.get? P = some { cls := .none, data := .fields ps } := I.hok P _ hP
  have glob : s.heap.Ns mainGlobals X.mg := I.mod.glob.keeps I.bk
  have bat : s.heap.BuiltinsAt X.mg P := TB.bm.keeps I.bk
  have hd : PySem.W.CodeHd s.heap c P := TB.code.keeps I.bk
  cases found : codeAmong pos ps.toList with
  | none =>
    refine PySem.W.kdv_makeTail (closure_ok hfree) I.ok.glob glob hcode hd heapP trip found TB.gP bat ?_
    intro c1 ctv doc h1 tk but ge lt rec_ tab
    obtain ⟨c2, oc, vs, t, eq2, got, dat, nth⟩ := rec_
    injection eq2 with eq2
    subst eq2
    have grow : s.heap.objs.size ≤ h1.objs.size := Nat.le_trans ge (Nat.le_of_lt lt)
    have freeC : H c1 = none := I.hok.fresh ge
    have neP : P ≠ c1 := ne_of_none hP freeC
    have old : ∀ b o, b ≠ P → s.heap.get? b = some o → (h1.push (kdv_obj "<lambda>" q params (.expr body) scope (cloFrom X.env.cells scope.names []) dV doc ((X.mg "__name__").getD .none) c1 ctv)).get? b = some o :=
      fun b o nb e => Heap.get?_push_of_some _ (but b o nb e)
    have I1 := LamX.inv_table (t' := tk) (more := #[rawInt pos.line, rawInt pos.col, .ref c1]) (q := q) I hP old (Heap.get?_push_of_some _ tab) ge ⟨oc, vs, t, Heap.get?_push_of_some _ got, dat, nth⟩
    have extP : ∀ p ∈ ext, p.1 ≠ P := fun p hp e => by
      have := (hext p hp).2.1
      rw [e, hP] at this
      cases this
    refine h h1.objs.size c1 _ _ I1 ⟨fun b o e nb => ?_, fun b e => upd_back (upd_back e), ⟨ps ++ #[rawInt pos.line, rawInt pos.col, .ref c1], ?_, ?_, fun pos2 cv hcv => ?_⟩, ⟨doc, _, ctv, Heap.get?_push_size _ rfl⟩, ?_, no_frame I grow, upd_same, fun p hp => ⟨old _ _ (extP p hp) (hext p hp).1, ?_, (hext p hp).2.2⟩⟩
    · rw [upd_ne (ne_of_none e freeC), upd_ne nb]
      exact e
    · rw [upd_ne neP, upd_same]
    · have e : (ps ++ #[rawInt pos.line, rawInt pos.col, .ref c1]).toList = ps.toList ++ [rawInt pos.line, rawInt pos.col, .ref c1] := by simp
      rw [e]
      exact PySem.TriplesOk_snoc _ _ _ _ trip
    · have e : (ps ++ #[rawInt pos.line, rawInt pos.col, .ref c1]).toList = ps.toList ++ [rawInt pos.line, rawInt pos.col, .ref c1] := by simp
      rw [e] at hcv
      rcases LamX.among_app _ trip hcv with z | z
      · obtain ⟨c0, e0, w0⟩ := among pos2 cv z
        refine ⟨c0, e0, ?_⟩
        rw [upd_ne (ne_of_none w0 freeC), upd_ne (fun y => ?_)]
        · exact w0
        · rw [y, hP] at w0
          exact LamX.codeO_ne ps (Option.some.inj w0).symm
      · exact ⟨c1, z, upd_same⟩
    · have n1 : h1.objs.size ≠ c1 := Nat.ne_of_gt lt
      have n2 : h1.objs.size ≠ P := Nat.ne_of_gt (Nat.lt_of_lt_of_le (Heap.lt_size heapP) grow)
      rw [upd_ne n1, upd_ne n2]
      exact I.hok.fresh grow
    · have n1 : p.1 ≠ c1 := Nat.ne_of_lt (Nat.lt_of_lt_of_le (Heap.lt_size (hext p hp).1) ge)
      rw [upd_ne n1, upd_ne (extP p hp)]
      exact (hext p hp).2.1
  | some cv =>
    obtain ⟨c1, e1, w1⟩ := among pos cv found
    subst e1
    refine PySem.W.kdv_makeTailHit (closure_ok hfree) I.ok.glob glob hcode hd heapP trip found bat ?_
    intro ctv doc h1 tk keep grow
    have I1 : Inv X pins σ H { s with heap := h1.push (kdv_obj "<lambda>" q params (.expr body) scope (cloFrom X.env.cells scope.names []) dV doc ((X.mg "__name__").getD .none) c1 ctv), toks := tk } :=
      I.kept fun b o e => Heap.get?_push_of_some _ (keep b o e)
    exact h h1.objs.size c1 H _ I1 ⟨fun b o e _ => e, fun b e => e, ⟨ps, hP, trip, among⟩, ⟨doc, _, ctv, Heap.get?_push_size _ rfl⟩, I.hok.fresh grow, no_frame I grow, w1,
      fun p hp => ⟨Heap.get?_push_of_some _ (keep _ _ (hext p hp).1), (hext p hp).2⟩⟩
/-- lambda: .. -/
theorem made0 {params : Arguments} {body : Expr} {scope : Scope} {pos : Pos} {c P : Addr} {E : Value → Shared → Prop} {Q : Value → Shared → Prop} (I : Inv X pins σ H s) (TB : LamX.TabB X.base X.mg c P) (hcode : X.env.code = .ref c)
    (hT : LamX.TabS H P (X.env.qual ++ "<lambda>")) (hfree : ∀ y ∈ scope.names, y.2 = .free → ∃ c, X.env.cells.lookup y.1 = some c) (h0 : params.defaults = []) (h1 : params.kw_defaults = [])
    (h : ∀ f c1 H1 s1, Inv X pins σ H1 s1 → Made X P (X.env.qual ++ "<lambda>") params body scope .none [] H H1 s1 f c1 → Q (.ref f) s1) :
    wpAny (model X.prog X.w) X.A (eval (.Lambda params body scope pos) X.env) Q E s := by
  have e : defaultsOf params X.env = ([], []) := by
    rw [defaultsOf_eq, h0, h1]
    rfl
  refine PySem.W.kla_eval e ?_
  rw [makeFunction_eq]
  simp only [List.zip_nil_right, List.filterMap_nil, List.isEmpty_nil, if_true, pure_bind]
  exact made_tail I TB hcode hT hfree (fun _ hp => absurd hp (by simp)) h
/-- lambda x=i: .. -/
theorem made1 {params : Arguments} {body : Expr} {scope : Scope} {pos dp : Pos} {i : Int} {j : Nat} {c P : Addr} {E : Value → Shared → Prop} {Q : Value → Shared → Prop} (I : Inv X pins σ H s) (TB : LamX.TabB X.base X.mg c P) (hcode : X.env.code = .ref c)
    (hT : LamX.TabS H P (X.env.qual ++ "<lambda>")) (hfree : ∀ y ∈ scope.names, y.2 = .free → ∃ c, X.env.cells.lookup y.1 = some c) (h0 : params.defaults = [.Constant (.int i) j dp]) (h1 : params.kw_defaults = [])
    (h : ∀ f c1 t0 tk H1 s1, Inv X pins σ H1 s1 → Made X P (X.env.qual ++ "<lambda>") params body scope (.ref t0) [(t0, kdv_tup [.int i tk])] H H1 s1 f c1 → Q (.ref f) s1) :
    wpAny (model X.prog X.w) X.A (eval (.Lambda params body scope pos) X.env) Q E s := by
  refine PySem.W.kdv_lam (by rw [h0]; rfl) h1 ?_
  rw [h0]
  refine PySem.W.kdv_all1 (wpAny_Constant_int (PySem.W.kdv_all0 ?_))
  rw [makeFunction_eq]
  simp only [List.zip_nil_right, List.filterMap_nil, List.isEmpty_nil, List.isEmpty_cons, if_true, pure_bind, Bool.false_eq_true, if_false]
  refine wpAny_bind (wpAny_newTextTuple ?_)
  have I1 := I.tok (s.toks + 1)
  have big : s.heap.objs.size ≤ s.heap.objs.size := Nat.le_refl _
  have I2 : Inv X pins σ H { s with heap := s.heap.push (kdv_tup [.int i s.toks]), toks := s.toks + 1 } := I.kept fun b o e => Heap.get?_push_of_some _ e
  refine made_tail I2 TB hcode hT hfree (ext := [(s.heap.objs.size, kdv_tup [.int i s.toks])]) (fun p hp => ?_) fun f c1 H1 s1 J M => h f c1 _ _ H1 s1 J M
  rw [List.mem_singleton.mp hp]
  exact ⟨Heap.get?_push_size _ rfl, I.hok.fresh big, no_frame I big⟩
end
end B

set_option Elab.async false
set_option linter.all false
set_option maxRecDepth 100000
set_option maxHeartbeats 4000000
namespace B
open PySem PySem.Spec PyProof.Rows L2
open PySem.W (kdv_obj kdv_fn kdv_tup)
/-- the lambda's names: none a cell; its own ones are none of the maker's -/
structure LamP (N : List Str) (sc scope : Scope) : Prop where
  kind : scope.kind = .function
  co : scope.isCoroutine = false
  gen : scope.isGenerator = false
  cell : ∀ y ∈ scope.names, y.2 ≠ .cell
  own : ∀ y ∈ scope.names, y.2 = .local → y.1 ∉ N
  free : ∀ y ∈ scope.names, y.2 = .free → sc.names.lookup y.1 = some .cell ∨ sc.names.lookup y.1 = some .free
def lamPB (N : List Str) (sc scope : Scope) : Bool :=
  (match scope.kind with | .function => true | _ => false) && (!scope.isCoroutine && (!scope.isGenerator && scope.names.all fun y => match y.2 with
    | .cell => false
    | .local => decide (y.1 ∉ N)
    | .free => (match sc.names.lookup y.1 with | some .cell => true | some .free => true | _ => false)
    | _ => true))
theorem lamP_by {N : List Str} {sc scope : Scope} (h : lamPB N sc scope = true) : LamP N sc scope := by
  obtain ⟨h1, h⟩ := He.ba h
  obtain ⟨h2, h⟩ := He.ba h
  obtain ⟨h3, h4⟩ := He.ba h
  have q := List.all_eq_true.mp h4
  refine ⟨?_, by simpa using h2, by simpa using h3, fun y hy e => ?_, fun y hy e => ?_, fun y hy e => ?_⟩
  · split at h1
    · assumption
    · cases h1
  · have := q y hy
    rw [e] at this
    cases this
  · have := q y hy
    rw [e] at this
    exact of_decide_eq_true this
  · have := q y hy
    rw [e] at this
    dsimp only at this
    split at this
    · exact .inl (by assumption)
    · exact .inr (by assumption)
    · cases this
section
variable {X : Cx} {pins : List (Addr × Obj)} {σ : L2.St} {H HZ : Hp} {s s2 : Shared}
theorem LamP.has {scope : Scope} (L : LamP X.N X.env.scope scope) (ok : X.Ok) : ∀ y ∈ scope.names, y.2 = .free → ∃ c, X.env.cells.lookup y.1 = some c := fun y hy e =>
  (L.free y hy e).elim (fun z => ok.has _ (.inl z)) (fun z => ok.has _ (.inr z))
theorem lam_enter {A : Around} {outer : List Env} {E : XK} {scope : Scope} {f c1 : Addr} {h2 : Heap} {tk : Nat} {m : Str → Option Value} (I : Inv X pins σ H s) (L : LamP X.N X.env.scope scope) (e0 : Env0 X.prog X.w X.K X.mg X.base A outer s2 HZ) (calm : A.handled = none)
    (un : Un (frs X.stack) [] H HZ s.heap s2.heap) (ns : h2.Ns s2.heap.objs.size m) (kp : ∀ b o, s2.heap.get? b = some o → h2.get? b = some o) :
    Inv (LamX.lamCx X A outer s2 HZ E scope f c1) [] σ HZ { s2 with heap := h2, toks := tk } := by
  have hfree := L.has I.ok
  -- a cell of the lambda is the maker's
  have up : ∀ {y : Str} {c : Addr}, (cloFrom X.env.cells scope.names []).lookup y = some c → X.env.cells.lookup y = some c := by
    intro y c e
    rcases cloFrom_mem (PySem.mem_of_lookup e) with z | ⟨z1, z2⟩
    · exact absurd z (by simp)
    · obtain ⟨d, hd⟩ := hfree _ z1 rfl
      have hd' : X.env.cells.lookup y = some d := hd
      rw [hd'] at z2
      have z3 : c = d := z2
      rw [z3]
      exact hd'
  have down : ∀ {y : Str}, scope.names.lookup y = some .free → ∃ c, (cloFrom X.env.cells scope.names []).lookup y = some c := by
    intro y e
    have mem : (y, NameKind.free) ∈ scope.names := PySem.mem_of_lookup e
    exact mem_lookup (cloFrom_has (cells := X.env.cells) (acc := []) mem)
  have noEx : ∀ b : Addr, b ∉ (LamX.lamCx X A outer s2 HZ E scope f c1).ex := fun b z => absurd (show b ∈ ([] : List Addr) from z) (by simp)
  have cellUp : ∀ {c : Addr} {v : Option Value}, H c = none → s.heap.IsCell c v → h2.IsCell c v := by
    rintro c v n ⟨o, ho, hd⟩
    obtain ⟨sl, e⟩ := un.any ho n (by simp)
    exact ⟨_, kp _ _ e, hd⟩
  have okI : (LamX.lamCx X A outer s2 HZ E scope f c1).Ok := by
    refine ⟨e0.mod, L.kind, rfl, rfl, Nat.le_refl _, fun y z c e1 e2 => I.ok.inj y z c (up e1) (up e2), ?_, ?_, fun _ => calm, Around.frames_deeper e0.frames, .inr ⟨rfl, rfl⟩, fun b z => absurd z (noEx b), e0.bs, e0.bsz, fun b _ _ => noEx b, fun b z => absurd z (noEx b), e0.funs, e0.frf⟩
    · intro y hy
      have hy2 : scope.names.lookup y = some .cell ∨ scope.names.lookup y = some .free := hy
      rcases hy2 with z | z
      · exact absurd rfl (L.cell _ (PySem.mem_of_lookup z))
      · exact down z
    · intro y c z
      exact absurd (show false = true from z) Bool.false_ne_true
  refine ⟨okI, rfl, e0.bare, Un.kept kp, ⟨m, ns, ?_⟩, ?_, e0.hok.fresh (Nat.le_refl _), ?_, fun p hp => absurd (show p ∈ ([] : List (Addr × Obj)) ++ [] from hp) (by simp), e0.hok.kept kp, I.len⟩
  · intro i y v hN hσ hV
    have hV2 : Vis scope y := hV
    rcases hV2 with z | z | z
    · exact absurd (List.mem_of_getElem? hN) (L.own _ (PySem.mem_of_lookup z) rfl)
    · exact absurd rfl (L.cell _ (PySem.mem_of_lookup z))
    · obtain ⟨m0, _, look⟩ := I.loc
      have fr := L.free _ (PySem.mem_of_lookup z) rfl
      have vis : Vis X.env.scope y := fr.elim (fun q => .inr (.inl q)) (fun q => .inr (.inr q))
      obtain ⟨u, ru, lk⟩ := look i y v hN hσ vis
      obtain ⟨c2, hc2⟩ := down z
      refine ⟨u, ru, .inr ⟨.inr z, c2, hc2, ?_⟩⟩
      have hc3 := up hc2
      rcases lk with ⟨q, _⟩ | ⟨_, c3, hc4, isC⟩
      · have q2 : X.env.scope.names.lookup y = some .local := q
        rcases fr with q3 | q3
        · have q3' : X.env.scope.names.lookup y = some .cell := q3
          rw [q3'] at q2
          cases q2
        · have q3' : X.env.scope.names.lookup y = some .free := q3
          rw [q3'] at q2
          cases q2
      · rw [hc3] at hc4
        cases hc4
        exact cellUp (I.freeC y _ hc3) isC
  · intro y c e
    obtain ⟨v, isC⟩ := I.cell y c (up e)
    exact ⟨v, cellUp (I.freeC y c (up e)) isC⟩
  · intro y c e
    obtain ⟨v, o, ho, _⟩ := I.cell y c (up e)
    exact un.free c o ho (I.freeC y c (up e)) (by simp)
/-- a(), a the parameter of the def at g that got the lambda -/
theorem pe_turn {CXg : CXT} {Eg : XK} {Ng : List Str} {qg : Str} {sg : Scope} {g f c1 P : Addr} {cdg dV : Value} {params : Arguments} {body : Expr} {scope : Scope} {k i : Nat} {a : Str} {pn : List (Addr × Obj)} {xe : Value → Shared → Prop} {W : WX} {tb : XK → TE} {p1 p2 : Pos} {ext : List (Addr × Obj)} {binds : List (Str × Value)} {H0 : Hp}
    (I : Inv X pins σ H s) (L : LamP X.N X.env.scope scope) (M : Made X P (X.env.qual ++ "<lambda>") params body scope dV ext H0 H s f c1)
    (bnd : ∀ (s' : Shared) (cl : List (Str × Addr)) (doc pm cv ctv : Value), (∀ p ∈ ext, s'.heap.get? p.1 = some p.2) → BindsTo s' (kdv_fn "<lambda>" (X.env.qual ++ "<lambda>") params (.expr body) scope cl dV doc pm cv ctv) ⟨[], []⟩ binds)
    (loc : ∀ y ∈ binds, scope.names.lookup y.1 = some .local)
    (tk : Takes ((cxOf CXg X.prog X.w X.K X.mg X.base Ng qg sg g cdg X.A X.stack s H Eg).tr pn xe) W) (hr : Room (k + 1) (X.A.deeper (envOfC qg sg s.heap.objs.size g cdg)))
    (hbody : ∀ (A : Around) (outer : List Env) (s : Shared) (H : Hp) (E : XK), Room k (A.deeper (LamX.lamEnv X scope s.heap.objs.size f c1)) → PE (LamX.lamCx X A outer s H E scope f c1) body (tb E))
    (hN : Ng[i]? = some a) (hv : Vis sg a) (hd : (a == ("__debug__" : Str)) = false := by decide) (hcd : (a == ("__classdict__" : Str)) = false := by decide) :
    PE ((cxOf CXg X.prog X.w X.K X.mg X.base Ng qg sg g cdg X.A X.stack s H Eg).tr pn xe) (.Call (.Name a p1) [] [] p2)
      (fun σZ HZ Q => σZ[i]? = some (some (.ref f)) ∧ HZ c1 = some (LamX.CodeO c1 (X.env.qual ++ "<lambda>")) ∧ ∃ E : XK, (∀ cls d H', E cls d H' → W cls d σZ H') ∧ tb E σ HZ Q) := by
  refine ⟨fun pinsZ sZ σZ HZ Q IZ h => ?_⟩
  obtain ⟨at_, code, E, hW, rd⟩ := h
  have name := (pe_var (X := (cxOf CXg X.prog X.w X.K X.mg X.base Ng qg sg g cdg X.A X.stack s H Eg).tr pn xe) (pos := p1) (i := i) hN hv hd hcd).run pinsZ sZ σZ HZ (fun v H1 => v = .ref f ∧ H1 = HZ) IZ ⟨.ref f, at_, rfl, rfl⟩
  refine wpAny_Call_Name_kw (thn name fun u s1 hu => ?_)
  obtain ⟨v, H1, I1, r1, ev, eH⟩ := hu
  subst ev
  rw [eH] at I1
  have eu : u = Value.ref f := r1
  subst eu
  obtain ⟨doc, pm, ctv, ob⟩ := M.ob
  have un : Un (frs X.stack) [] H HZ s.heap s1.heap := I1.base
  have ob1 := un.keep f _ ob M.fn M.ff (by simp)
  refine PySem.W.callWith_F0 ⟨_, _, _, _, ob1⟩ ?_
  obtain ⟨⟨oc, vs, t, got, dat, nth⟩, _, _⟩ := I1.hok c1 _ code
  have inner : codeAny (model X.prog X.w) (X.A.deeper (envOfC qg sg s.heap.objs.size g cdg)) (.call (.ref f) ⟨[], []⟩) (CR (L2.CX X.prog X.w) (envOfC qg sg s.heap.objs.size g cdg :: X.stack) X.prog X.w HZ s1 Q E) s1 := by
    refine PySem.W.kla_callFunE hr.depth ob1 rfl L.co L.gen rfl ⟨c1, oc, vs, t, rfl, got, dat, nth⟩ ?_
    refine bnd s1 _ doc pm _ ctv (fun p hp => un.keep p.1 p.2 (M.ex p hp).1 (M.ex p hp).2.1 (M.ex p hp).2.2 (by simp)) _ _ _ _ ?_
    refine wpAny_newFunctionEnv L.cell loc ?_ L.kind
    intro h2 ns but
    refine ⟨I1.nolimit.fresh _ but, ?_⟩
    have kp : ∀ b o, s1.heap.get? b = some o → h2.get? b = some o := fun b o e => but.extBut b o (Nat.ne_of_lt (Heap.lt_size e)) (Heap.get?_push_of_some _ e)
    have J := lam_enter (E := E) (f := f) (c1 := c1) (tk := s1.toks + binds.length) I L I1.env0 hr.hd un ns kp
    show codeAny _ _ (.expr body (LamX.lamEnv X scope s1.heap.objs.size f c1)) _ _
    refine PySem.W.kla_codeExpr (wpAny_mono ((hbody _ _ s1 HZ E (hr.deeper _)).run [] _ _ HZ Q J rd) ?_ fun e s' z => z)
    rintro v s' ⟨w', H', J', rv, q⟩
    exact ⟨w', H', J'.os, J'.bare, J'.base, J'.hok, rv, q⟩
  refine wpAny_call (codeAny_mono inner ?_)
  intro r s' hq
  match r, hq with
  | .error e, hq => exact tk e s' (XE.of_call I1 (fun cls d H' z => hW cls d H' z) hq)
  | .ok (.ret u), hq => exact I1.after hq
  | .ok .next, hq => exact False.elim hq
  | .ok .brk, hq => exact False.elim hq
  | .ok .cont, hq => exact False.elim hq
end
end B

set_option Elab.async false
set_option linter.all false
set_option maxRecDepth 100000
set_option maxHeartbeats 4000000
namespace B
open PySem PySem.Spec PyProof.Rows L2
open PySem.W (kdv_obj kdv_fn kdv_tup)
/-! ### the word of a refusal -/
theorem pe_never {X : Cx} {e : Expr} : PE X e (fun _ _ _ => False) := ⟨fun _ _ _ _ _ _ h => h.elim⟩
/-- how many of a list's flat items are alike -/
def rCntV (K : PySem.W.Frag) : V → List V → Hp → VK → Prop := fun x xs H Q => ∃ (p : Addr) (ys : List V) (y : V), x = .ref p ∧ xs = [y] ∧ SqL K H p ys ∧ flatV y = true ∧ ys.all flatV = true ∧ Q (.int (ys.countP (fun z => eqV z y) : Nat)) H
theorem count_U {y : V} : ∀ {ys : List V} {us : List Value}, Vals ys us → ys.all flatV = true → us.countP (eqU y) = ys.countP (fun z => eqV z y)
  | _, _, .nil, _ => rfl
  | z :: r, u :: t, .cons ru rt, h => by
    rw [List.all_cons, Bool.and_eq_true] at h
    rw [List.countP_cons, List.countP_cons, count_U rt h.2, eqU_of ru h.1]
theorem mt_cntV {X : Cx} : MtR X "list.count" (rCntV X.K) := by
  intro pins s σ H x xs v us Q I rx rxs h
  obtain ⟨p, ys, y, rfl, rfl, hs, fy, fys, q⟩ := h
  cases rx
  obtain ⟨u, rfl, ru⟩ := rxs.one
  obtain ⟨its, rv, ⟨⟨cls, dd, data, sl⟩, n, ho, hc, hdn, hd⟩, hlen⟩ := I.list hs
  simp only at hc hd
  subst hc hd
  refine call_meets PySem.F.slot_list_count ⟨_, ho, rfl⟩ PySem.F.entry_list_count (PySem.F.args_list_count_2 _ _)
    (SeqAt.list_countAt p its.toArray n dd sl u (eqU y)) ⟨ho, fun z hz => mem_eqAt ru fy rv fys z (by simpa using hz), ?_⟩
  have ec : its.toArray.toList.countP (eqU y) = ys.countP (fun z => eqV z y) := count_U rv fys
  refine ⟨.int (ys.countP (fun z => eqV z y) : Nat), H, I.tok _, ⟨s.toks, ?_⟩, q⟩
  show Value.int ((its.toArray.toList.countP (eqU y) : Nat) : Int) s.toks = _
  rw [ec]
/-- the fifteen answers, the n-th yes -/
def kindsV (n : Nat) : List V := (List.range 15).map fun i => V.bl (decide (i = n))
def wordsV : List Str := ["width", "number", "kind", "bit", "there", "not", "round", "over", "busy", "looks", "roster", "many", "plan", "step", "text"]
theorem kinds_count (n : Nat) (h : n < 15) : (kindsV n).countP (fun z => eqV z (.bl true)) = 1 := by
  have z : (List.range 15).all (fun n => (kindsV n).countP (fun z => eqV z (.bl true)) == 1) = true := by decide +kernel
  exact beq_iff_eq.mp (List.all_eq_true.mp z n (List.mem_range.mpr h))
theorem kinds_flat (n : Nat) : (kindsV n).all flatV = true := by
  unfold kindsV
  rw [List.all_map]
  exact List.all_eq_true.mpr fun _ _ => rfl
theorem kinds_at (n i : Nat) (h : i < 15) : (kindsV n)[i]? = some (.bl (decide (i = n))) := by
  unfold kindsV
  rw [List.getElem?_map, List.getElem?_range h]
  rfl
theorem kinds_none {n m : Nat} {z : V} (hn : n < 15) (hm : m < n) (h : (kindsV n)[m]? = some z) : eqV z (.bl true) = false := by
  rw [kinds_at n m (by omega)] at h
  have e := Option.some.inj h
  rw [← e, decide_eq_false (show ¬ m = n by omega)]
  rfl
/-- the class's word: the n-th of allErr, with no field -/
structure WordC (K : PySem.W.Frag) (cls : Value) (n : Nat) (wd : Str) : Prop where
  D : ∃ D, cls = .ref D ∧ ExcC K D ∧ (∀ i d, allErr[i]? = some d → PySem.W.kitOne K (.ref D) (.ref (He.ga K d)) = some (decide (i = n))) ∧ PySem.W.kitOne K (.ref D) (.type "ValueError") = some true ∧ PySem.W.exmOne K (.ref D) (.ref (He.ga K "BusError")) = some true
  lt : n < 15
  at_ : wordsV[n]? = some wd
  ne : inV (.str wd) [V.str "looks", V.str "step"] = false ∧ decide (V.str wd = V.str "text") = false
theorem PSs.imp {X : Cx} {st : List Stmt} {t t' : TS} (h : PSs X st t) (f : ∀ D σ H, t' D σ H → t D σ H) : PSs X st t' := ⟨fun pins s σ H D I q => h.run pins s σ H D I (f D σ H q)⟩
/-- the class of the n-th word -/
structure WordK (K : PySem.W.Frag) (D : Addr) (n : Nat) (wd : Str) : Prop where
  ex : ExcC K D
  kd : ∀ i d, allErr[i]? = some d → PySem.W.kitOne K (.ref D) (.ref (He.ga K d)) = some (decide (i = n))
  ve : PySem.W.kitOne K (.ref D) (.type "ValueError") = some true
  be : PySem.W.exmOne K (.ref D) (.ref (He.ga K "BusError")) = some true
  lt : n < 15
  at_ : wordsV[n]? = some wd
/-- what the word of a refusal is: a plain one, or with the value of a field -/
def Refd (K : PySem.W.Frag) (cls : Value) (d : Option Addr) (H : Hp) (Q : VK) : Prop := ∃ (D : Addr) (n : Nat) (wd : Str), cls = .ref D ∧ WordK K D n wd ∧
  ((d = none ∧ (inV (.str wd) [V.str "looks", V.str "step"] = false ∧ decide (V.str wd = V.str "text") = false) ∧ ∀ H3, Frm [] H H3 → Q (.str wd) H3) ∨
   ∃ (dd : Addr) (fs : List (Str × V)) (v : V), d = some dd ∧ H dd = some (.xd fs) ∧
    ((inV (.str wd) [V.str "looks", V.str "step"] = true ∧ PySem.W.findIn K (.ref D) "number" = some none ∧ fs.lookup ("number" : Str) = some v) ∨ (inV (.str wd) [V.str "looks", V.str "step"] = false ∧ decide (V.str wd = V.str "text") = true ∧ PySem.W.findIn K (.ref D) "row" = some none ∧ fs.lookup ("row" : Str) = some v)) ∧
    ∀ (p : Addr) (H3 : Hp), Frm [] H H3 → H p = none → H3 p = some (.tup [.str wd, v]) → Q (.ref p) H3)
/-- what the except suite asks -/
def tSuite (K : PySem.W.Frag) (a : Addr) (cls : Value) (d : Option Addr) : TS := fun D σ H => ∃ (v0 v2 v3 v4 : Option V), σ = [v0, some (.ref a), v2, v3, v4] ∧ Refd K cls d H D.rt
abbrev NW : List Str := ["_law_work", "e", "_law_kinds", "_law_words", "_law_word_here"]
/-- what the def makes of the lambda that it got -/
def TWord (K : PySem.W.Frag) : (XK → Hp → VK → Prop) → Hp → VK → Prop := fun tl H Q =>
  tl (fun cls d H2 => Refd K cls d H2 Q) H (fun _ H2 => Q (.str "") H2)
theorem Refd.plain {K : PySem.W.Frag} {cls : Value} {d : Option Addr} {H : Hp} {Q : VK} {n : Nat} {wd : Str} (h : WordC K cls n wd) (hd : d = none) (k : ∀ H3, Frm [] H H3 → Q (.str wd) H3) : Refd K cls d H Q := by
  obtain ⟨⟨D, rfl, h1, h2, h3, h4⟩, h5, h6, h7⟩ := h
  exact ⟨D, n, wd, rfl, ⟨h1, h2, h3, h4, h5, h6⟩, .inl ⟨hd, h7, k⟩⟩
theorem DicOk.mono {d : Option Addr} {H H' : Hp} (h : DicOk d H) (f : Frm [] H H') : DicOk d H' := by
  rcases h with h | ⟨dd, fs, h1, h2⟩
  · exact .inl h
  · exact .inr ⟨dd, fs, h1, f.k _ _ h2 rfl (by simp)⟩
theorem DicOk.new {d : Option Addr} {H : Hp} {p : Addr} {o : HO} (h : DicOk d H) (hp : H p = none) : DicOk d (upd H p o) := h.mono (Frm.of (same_upd hp))
section
variable {X : Cx} {cdg : Value} {s : Shared} {H0 : Hp}
abbrev WX0 (X : Cx) (cdg : Value) (s : Shared) (H0 : Hp) : Cx := (cxOf CX0 X.prog X.w X.K X.mg X.base NW "_law_word" (defScope s_lword) (He.ga X.K "_law_word") cdg X.A X.stack s H0 E0)
/-- the suite's statements -/
def suiteOf : List Stmt → List Stmt
  | .Try _ (.ExceptHandler _ _ b _ :: _) _ _ _ :: _ => b
  | _ => []
@[elab_as_elim] theorem gen_top {H0 H : Hp} {p : Addr} {o : HO} {P : Hp → Prop} (fr : Frm [] H0 (upd H p o)) (k : ∀ H7, Frm [] H0 H7 → H7 p = some o → P H7) : P (upd H p o) := k _ fr upd_same
theorem word_suite (T : Txt X.prog X.w X.K X.mg X.base) (a : Addr) (oe : Obj) (cls : Value) (d : Option Addr) (pn : List (Addr × Obj)) (hz : Zc cls d oe) (hf : ∃ vs, oe.data = .fields vs) :
    PSs ((WX0 X cdg s H0).suite a ((a, oe) :: pn)) (suiteOf (defBody s_lword)) (tSuite X.K a cls d) := by
  refine PSs.imp (pss_cons (ps_set (i := 2) sc_lword.nd rfl (Or.inl rfl) (pe_lst (pa_cons (pe_callB (call_isY hz hf) (by rfl) (n_isinstance T) (by decide +kernel) (pa_cons (pv 1) (pa_cons (pe_glob (v := .ref _) rfl (g_BadWidth T) rfl) pa_nil))) (pa_cons (pe_callB (call_isY hz hf) (by rfl) (n_isinstance T) (by decide +kernel) (pa_cons (pv 1) (pa_cons (pe_glob (v := .ref _) rfl (g_BadNumber T) rfl) pa_nil))) (pa_cons (pe_callB (call_isY hz hf) (by rfl) (n_isinstance T) (by decide +kernel) (pa_cons (pv 1) (pa_cons (pe_glob (v := .ref _) rfl (g_BadKind T) rfl) pa_nil))) (pa_cons (pe_callB (call_isY hz hf) (by rfl) (n_isinstance T) (by decide +kernel) (pa_cons (pv 1) (pa_cons (pe_glob (v := .ref _) rfl (g_BadBit T) rfl) pa_nil))) pa_nil))))))
    (pss_cons (ps_set (i := 2) sc_lword.nd rfl (Or.inl rfl) (pe_op op_cat (pv 2) (pe_lst (pa_cons (pe_callB (call_isY hz hf) (by rfl) (n_isinstance T) (by decide +kernel) (pa_cons (pv 1) (pa_cons (pe_glob (v := .ref _) rfl (g_There T) rfl) pa_nil))) (pa_cons (pe_callB (call_isY hz hf) (by rfl) (n_isinstance T) (by decide +kernel) (pa_cons (pv 1) (pa_cons (pe_glob (v := .ref _) rfl (g_NotThere T) rfl) pa_nil))) (pa_cons (pe_callB (call_isY hz hf) (by rfl) (n_isinstance T) (by decide +kernel) (pa_cons (pv 1) (pa_cons (pe_glob (v := .ref _) rfl (g_NoRound T) rfl) pa_nil))) (pa_cons (pe_callB (call_isY hz hf) (by rfl) (n_isinstance T) (by decide +kernel) (pa_cons (pv 1) (pa_cons (pe_glob (v := .ref _) rfl (g_Over T) rfl) pa_nil))) pa_nil)))))))
    (pss_cons (ps_set (i := 2) sc_lword.nd rfl (Or.inl rfl) (pe_op op_cat (pv 2) (pe_lst (pa_cons (pe_callB (call_isY hz hf) (by rfl) (n_isinstance T) (by decide +kernel) (pa_cons (pv 1) (pa_cons (pe_glob (v := .ref _) rfl (g_Busy T) rfl) pa_nil))) (pa_cons (pe_callB (call_isY hz hf) (by rfl) (n_isinstance T) (by decide +kernel) (pa_cons (pv 1) (pa_cons (pe_glob (v := .ref _) rfl (g_BadLooks T) rfl) pa_nil))) (pa_cons (pe_callB (call_isY hz hf) (by rfl) (n_isinstance T) (by decide +kernel) (pa_cons (pv 1) (pa_cons (pe_glob (v := .ref _) rfl (g_BadRoster T) rfl) pa_nil))) pa_nil))))))
    (pss_cons (ps_set (i := 2) sc_lword.nd rfl (Or.inl rfl) (pe_op op_cat (pv 2) (pe_lst (pa_cons (pe_callB (call_isY hz hf) (by rfl) (n_isinstance T) (by decide +kernel) (pa_cons (pv 1) (pa_cons (pe_glob (v := .ref _) rfl (g_TooMany T) rfl) pa_nil))) (pa_cons (pe_callB (call_isY hz hf) (by rfl) (n_isinstance T) (by decide +kernel) (pa_cons (pv 1) (pa_cons (pe_glob (v := .ref _) rfl (g_BadPlan T) rfl) pa_nil))) (pa_cons (pe_callB (call_isY hz hf) (by rfl) (n_isinstance T) (by decide +kernel) (pa_cons (pv 1) (pa_cons (pe_glob (v := .ref _) rfl (g_BadStep T) rfl) pa_nil))) (pa_cons (pe_callB (call_isY hz hf) (by rfl) (n_isinstance T) (by decide +kernel) (pa_cons (pv 1) (pa_cons (pe_glob (v := .ref _) rfl (g_BadText T) rfl) pa_nil))) pa_nil)))))))
    (pss_cons (ps_if (PW.pt (pw_or (pt_cmpR op_ne (pe_bm PySem.F.plainAttrs_list PySem.F.slot_list_count PySem.F.type_list_count mt_cntV (pv 2) (pa_cons pe_bl pa_nil)) pe_int (nomark _)) (pw_or1 (pt_not (pt_val (pe_callB (call_isY hz hf) (by rfl) (n_isinstance T) (by decide +kernel) (pa_cons (pv 1) (pa_cons (pe_bltn (v := .ty "ValueError") (u := .type "ValueError") rfl (n_ValueError T) (by decide +kernel) rfl) pa_nil))))))))
      (pss_one (ps_ret pe_str))
      pss_nil)
    (pss_cons (ps_set (i := 3) sc_lword.nd rfl (Or.inl rfl) (pe_lst (pa_cons pe_str (pa_cons pe_str (pa_cons pe_str (pa_cons pe_str (pa_cons pe_str (pa_cons pe_str (pa_cons pe_str (pa_cons pe_str (pa_cons pe_str (pa_cons pe_str (pa_cons pe_str (pa_cons pe_str pa_nil))))))))))))))
    (pss_cons (ps_set (i := 4) sc_lword.nd rfl (Or.inl rfl) (pe_ix ix_list (pe_op op_cat (pv 3) (pe_lst (pa_cons pe_str (pa_cons pe_str (pa_cons pe_str pa_nil))))) (pe_bm PySem.F.plainAttrs_list PySem.F.slot_list_index PySem.F.type_list_index mt_index (pv 2) (pa_cons pe_bl pa_nil)) (fun _ _ => rfl)))
    (pss_cons (ps_if (pt_cmpR op_in_seq (pv 4) (pe_tup (pa_cons pe_str (pa_cons pe_str pa_nil))) rfl)
      (pss_one (ps_ret (pe_tup (pa_cons (pv 4) (pa_cons (pe_xfA hz hf (pv 1)) pa_nil)))))
      pss_nil)
    (pss_one (ps_ret (pe_ifExp (pt_cmpR op_eq (pv 4) pe_str (nomark _)) (pe_tup (pa_cons (pv 4) (pa_cons (pe_xfA hz hf (pv 1)) pa_nil))) (pv 4)))))))))))) ?_
  rintro D σ H ⟨v0, v2, v3, v4, rfl, C, n, wd, rfl, ⟨hC, hk, hv, _, hn, hat⟩, hans⟩
  have hd : DicOk d H := by
    rcases hans with ⟨z, _⟩ | ⟨dd, fs, v, z1, z2, _⟩
    · exact .inl z
    · exact .inr ⟨dd, fs, z1, z2⟩
  refine ⟨_, rfl, C, _, _, _, rfl, hd, hC, rfl, fun u h => h, hk 0 _ rfl, ?_⟩
  refine ⟨_, rfl, C, _, _, _, rfl, hd, hC, rfl, fun u h => h, hk 1 _ rfl, ?_⟩
  refine ⟨_, rfl, C, _, _, _, rfl, hd, hC, rfl, fun u h => h, hk 2 _ rfl, ?_⟩
  refine ⟨_, rfl, C, _, _, _, rfl, hd, hC, rfl, fun u h => h, hk 3 _ rfl, ?_⟩
  refine ⟨by show 4 ≤ sizeLine; decide, fun p1 h1 => ?_⟩
  refine ⟨_, rfl, ?_⟩
  refine ⟨_, rfl, C, _, _, _, rfl, hd.new h1, hC, rfl, fun u h => h, hk 4 _ rfl, ?_⟩
  refine ⟨_, rfl, C, _, _, _, rfl, hd.new h1, hC, rfl, fun u h => h, hk 5 _ rfl, ?_⟩
  refine ⟨_, rfl, C, _, _, _, rfl, hd.new h1, hC, rfl, fun u h => h, hk 6 _ rfl, ?_⟩
  refine ⟨_, rfl, C, _, _, _, rfl, hd.new h1, hC, rfl, fun u h => h, hk 7 _ rfl, ?_⟩
  refine ⟨by show 4 ≤ sizeLine; decide, fun p2 h2 => ?_⟩
  have n12 : p1 ≠ p2 := ne_of_none upd_same h2
  refine ⟨p1, p2, _, _, rfl, rfl, by rw [upd_ne n12]; exact upd_same, upd_same, by show 8 ≤ sizeLine; decide, fun p3 h3 => ?_⟩
  refine ⟨_, rfl, ?_⟩
  refine ⟨_, rfl, C, _, _, _, rfl, ((hd.new h1).new h2).new h3, hC, rfl, fun u h => h, hk 8 _ rfl, ?_⟩
  refine ⟨_, rfl, C, _, _, _, rfl, ((hd.new h1).new h2).new h3, hC, rfl, fun u h => h, hk 9 _ rfl, ?_⟩
  refine ⟨_, rfl, C, _, _, _, rfl, ((hd.new h1).new h2).new h3, hC, rfl, fun u h => h, hk 10 _ rfl, ?_⟩
  refine ⟨by show 3 ≤ sizeLine; decide, fun p4 h4 => ?_⟩
  have n34 : p3 ≠ p4 := ne_of_none upd_same h4
  refine ⟨p3, p4, _, _, rfl, rfl, by rw [upd_ne n34]; exact upd_same, upd_same, by show 11 ≤ sizeLine; decide, fun p5 h5 => ?_⟩
  refine ⟨_, rfl, ?_⟩
  refine ⟨_, rfl, C, _, _, _, rfl, ((((hd.new h1).new h2).new h3).new h4).new h5, hC, rfl, fun u h => h, hk 11 _ rfl, ?_⟩
  refine ⟨_, rfl, C, _, _, _, rfl, ((((hd.new h1).new h2).new h3).new h4).new h5, hC, rfl, fun u h => h, hk 12 _ rfl, ?_⟩
  refine ⟨_, rfl, C, _, _, _, rfl, ((((hd.new h1).new h2).new h3).new h4).new h5, hC, rfl, fun u h => h, hk 13 _ rfl, ?_⟩
  refine ⟨_, rfl, C, _, _, _, rfl, ((((hd.new h1).new h2).new h3).new h4).new h5, hC, rfl, fun u h => h, hk 14 _ rfl, ?_⟩
  refine ⟨by show 4 ≤ sizeLine; decide, fun p6 h6 => ?_⟩
  have n56 : p5 ≠ p6 := ne_of_none upd_same h6
  refine ⟨p5, p6, _, _, rfl, rfl, by rw [upd_ne n56]; exact upd_same, upd_same, by show 15 ≤ sizeLine; decide, fun p7 h7 => ?_⟩
  show tSeq _ _ D _ (upd _ p7 (.lst (kindsV n)))
  refine gen_top (((((((Frm.of (same_upd h1)).trans (Frm.of (same_upd h2))).trans (Frm.of (same_upd h3))).trans (Frm.of (same_upd h4))).trans (Frm.of (same_upd h5))).trans (Frm.of (same_upd h6))).trans (Frm.of (same_upd (o := .lst (kindsV n)) h7))) ?_
  clear h7 n56 h6 h5 n34 h4 h3 n12 h2 h1
  intro H7 fr at7
  have hd7 := hd.mono fr
  refine ⟨_, rfl, .inl ⟨rfl, _, SqL.of at7⟩, p7, _, _, rfl, rfl, SqL.of at7, rfl, kinds_flat n, rfl, _, rfl, ?_⟩
  rw [kinds_count n hn]
  refine ⟨_, rfl, C, _, _, _, rfl, hd7, hC, rfl, fun u h => h, hv, true, rfl, ?_⟩
  refine ⟨by show 12 ≤ sizeLine; decide, fun p8 h8 => ?_⟩
  refine ⟨_, rfl, by show 3 ≤ sizeLine; decide, fun p9 h9 => ?_⟩
  have n89 : p8 ≠ p9 := ne_of_none upd_same h9
  refine ⟨p8, p9, _, _, rfl, rfl, by rw [upd_ne n89]; exact upd_same, upd_same, by show 15 ≤ sizeLine; decide, fun p10 h10 => ?_⟩
  have f10 : Frm [] H7 (upd (upd (upd H7 p8 (.lst [.str "width", .str "number", .str "kind", .str "bit", .str "there", .str "not", .str "round", .str "over", .str "busy", .str "looks", .str "roster", .str "many"])) p9 (.lst [.str "plan", .str "step", .str "text"])) p10 (.lst (wordsV.map V.str))) :=
    ((Frm.of (same_upd h8)).trans (Frm.of (same_upd h9))).trans (Frm.of (same_upd h10))
  have at7' := f10.k _ _ at7 rfl (by simp)
  refine ⟨_, rfl, .inl ⟨rfl, _, SqL.of at7'⟩, p7, _, _, n, _, rfl, rfl, SqL.of at7', rfl, kinds_flat n, kinds_at n n hn, by rw [decide_eq_true rfl]; rfl, fun m z hm hz => kinds_none hn hm hz, ?_⟩
  refine ⟨p10, wordsV.map V.str, _, .str wd, rfl, rfl, SqL.of upd_same, atI_nat (by rw [List.getElem?_map, hat]; rfl), ?_⟩
  refine ⟨_, rfl, by show 2 ≤ sizeLine; decide, fun p11 h11 => ?_⟩
  refine ⟨p11, _, rfl, .inr (SqT.of upd_same), rfl, rfl, _, rfl, ?_⟩
  have f11 := (fr.trans f10).trans (Frm.of (same_upd (o := .tup [.str "looks", .str "step"]) h11))
  rcases hans with ⟨_, ⟨ne1, ne2⟩, kk⟩ | ⟨dd, fs, v, rfl, hdd, ⟨i1, ff, ll⟩ | ⟨i1, i2, ff, ll⟩, kk⟩
  · rw [ne1]
    refine ⟨_, rfl, rfl, _, rfl, ?_⟩
    rw [ne2]
    exact ⟨_, rfl, kk _ f11⟩
  · rw [i1]
    refine ⟨_, rfl, C, ⟨hC.hg, hC.hk, hC.hs, hC.hd⟩, ff, _, rfl, rfl, rfl, dd, fs, v, rfl, f11.k _ _ hdd rfl (by simp), ll, by show 2 ≤ sizeLine; decide, fun p12 h12 => ?_⟩
    exact kk p12 _ (f11.trans (Frm.of (same_upd h12))) (f11.b _ h12) upd_same
  · rw [i1]
    refine ⟨_, rfl, rfl, _, rfl, ?_⟩
    rw [i2]
    refine ⟨_, rfl, C, ⟨hC.hg, hC.hk, hC.hs, hC.hd⟩, ff, _, rfl, rfl, rfl, dd, fs, v, rfl, f11.k _ _ hdd rfl (by simp), ll, by show 2 ≤ sizeLine; decide, fun p12 h12 => ?_⟩
    exact kk p12 _ (f11.trans (Frm.of (same_upd h12))) (f11.b _ h12) upd_same
theorem word_ok (T : Txt X.prog X.w X.K X.mg X.base) {f c1 : Addr} {q : Str} {tl : XK → Hp → VK → Prop} {Q : VK}
    (turn : ∀ (W : WX) (pn : List (Addr × Obj)) (xe : Value → Shared → Prop) (p1 p2 : Pos), Takes ((WX0 X cdg s H0).tr pn xe) W →
      PE ((WX0 X cdg s H0).tr pn xe) (.Call (.Name "_law_work" p1) [] [] p2) (fun σZ HZ Q => σZ[0]? = some (some (.ref f)) ∧ HZ c1 = some (LamX.CodeO c1 q) ∧ ∃ E : XK, (∀ cls d H', E cls d H' → W cls d σZ H') ∧ tl E HZ Q))
    (hc : H0 c1 = some (LamX.CodeO c1 q)) (h : TWord X.K tl H0 Q) :
    ∃ t, PSs (WX0 X cdg s H0) (defBody s_lword) t ∧ t { nx := fun _ H' => Q .non H', rt := Q } (L2.start NW [.ref f]) H0 := by
  refine ⟨_, pss_cons (ps_try_as (i := 1) (n := "e") (ts := tSuite X.K) (Wout := fun _ _ _ _ => False) (tb := fun W D σ H => σ[0]? = some (some (.ref f)) ∧ H c1 = some (LamX.CodeO c1 q) ∧ ∃ E : XK, (∀ cls d H', E cls d H' → W cls d σ H') ∧ tl E H (fun _ H' => D.nx σ H')) rfl rfl sc_lword.nd rfl rfl ⟨rfl, by decide, .inl (g_BusError T)⟩ L2.takes0
    (fun W pn xe tk _ => pss_one (ps_expr (turn W pn xe _ _ tk))) (fun a oe cls d pn hz hf => word_suite T a oe cls d pn hz hf)) (pss_one (ps_ret pe_str)), ?_⟩
  refine ⟨rfl, hc, _, fun cls d H' z => ?_, h⟩
  obtain ⟨D, n, wd, rfl, C, k⟩ := z
  exact ⟨true, C.be, fun _ a ha => ⟨_, _, _, _, rfl, D, n, wd, rfl, C, k⟩, fun z => nomatch z⟩
end
end B

set_option Elab.async false
set_option linter.all false
set_option maxRecDepth 100000
set_option maxHeartbeats 4000000
namespace B
open PySem PySem.Spec PyProof.Rows L2
open PySem.W (kdv_obj kdv_fn kdv_tup)
/-! ### word(lambda: ..) -/
section
variable {X : Cx} {pins : List (Addr × Obj)} {σ : L2.St} {H H1 : Hp} {s s1 : Shared}
theorem word_go (T : Txt X.prog X.w X.K X.mg X.base) {params : Arguments} {body : Expr} {scope : Scope} {f c1 P : Addr} {dV : Value} {k : Nat} {ext : List (Addr × Obj)} {binds : List (Str × Value)} {t : XK → TE} {Q : VK} (I : Inv X pins σ H1 s1) (L : LamP X.N X.env.scope scope)
    (M : Made X P (X.env.qual ++ "<lambda>") params body scope dV ext H H1 s1 f c1)
    (bnd : ∀ (s' : Shared) (cl : List (Str × Addr)) (doc pm cv ctv : Value), (∀ p ∈ ext, s'.heap.get? p.1 = some p.2) → BindsTo s' (kdv_fn "<lambda>" (X.env.qual ++ "<lambda>") params (.expr body) scope cl dV doc pm cv ctv) ⟨[], []⟩ binds)
    (loc : ∀ y ∈ binds, scope.names.lookup y.1 = some .local) (hr : Room (k + 2) X.A)
    (hbody : ∀ (A : Around) (outer : List Env) (s : Shared) (H : Hp) (E : XK) (f c1 : Addr), Room k (A.deeper (LamX.lamEnv X scope s.heap.objs.size f c1)) → PE (LamX.lamCx X A outer s H E scope f c1) body (t E))
    (h : TWord X.K (fun E H' Q' => t E σ H' Q') H1 Q) : codeAny (model X.prog X.w) X.A (.call (.ref (He.ga X.K "_law_word")) ⟨[.ref f], []⟩) (CR CX0 X.stack X.prog X.w H1 s1 Q E0) s1 := by
  obtain ⟨fd, F⟩ := T.t.def_ 42 (d := d_lword)
  have b : L2.Binds X.K fd ["_law_work"] [] := F.bindsN fun _ _ _ _ _ _ us hl => match us, hl with | [_], _ => rfl
  obtain ⟨oc, od, dV', kV, doc, pm, an, cdv, ct, osl, rfl, lk, hcd, _, _⟩ := F.ex
  refine LamX.run_ofS (N := NW) (ps := ["_law_work"]) (us := [.ref f]) (vs := [.ref f]) lk hcd sc_lword hr I.env0 (b s1 [.ref f] I.kIn rfl) (.cons rfl .nil) rfl fun hr' => ?_
  exact word_ok (X := X) (cdg := cdv) (s := s1) (H0 := H1) T (fun W pn xe p1 p2 tk => pe_turn (i := 0) (tb := t) I L M bnd loc tk hr' (fun A outer s H E hr2 => hbody A outer s H E f c1 hr2) rfl (.inl rfl)) M.co h
def tWordL (K : PySem.W.Frag) (P : Addr) (q : Str) (t : XK → TE) : TE := fun σ H Q => LamX.TabS H P q ∧ ∀ H1, (∀ b o, H b = some o → b ≠ P → H1 b = some o) → (∀ b, H1 b = none → H b = none) → LamX.TabS H1 P q → TWord K (fun E H' Q' => t E σ H' Q') H1 Q
theorem pe_word0 (T : Txt X.prog X.w X.K X.mg X.base) {params : Arguments} {body : Expr} {scope : Scope} {c P : Addr} {k : Nat} {t : XK → TE} {p lpos pos : Pos} (h0 : params.defaults = []) (h1 : params.kw_defaults = []) (hbind : ∀ (q : Str) (cl : List (Str × Addr)) (doc pm cv ctv : Value), bindArgs (kdv_fn "<lambda>" q params (.expr body) scope cl .none doc pm cv ctv) ⟨[], []⟩ = pure []) (TB : LamX.TabB X.base X.mg c P) (hcode : X.env.code = .ref c) (hr : Room (k + 2) X.A) (L : LamP X.N X.env.scope scope)
    (hbody : ∀ (A : Around) (outer : List Env) (s : Shared) (H : Hp) (E : XK) (f c1 : Addr), Room k (A.deeper (LamX.lamEnv X scope s.heap.objs.size f c1)) → PE (LamX.lamCx X A outer s H E scope f c1) body (t E)) (hg : Gl X "_law_word")
    (hst : starEach [.Lambda params body scope lpos] X.env = (false, eval (.Lambda params body scope lpos) X.env) :: starEach [] X.env := by rfl) (hpl : (backTo pos (starEach [] X.env)).any (·.1) = false := by rfl) :
    PE X (.Call (.Name "_law_word" p) [.Lambda params body scope lpos] [] pos) (tWordL X.K P (X.env.qual ++ "<lambda>") t) := by
  refine ⟨fun pins s σ H Q I h => ?_⟩
  obtain ⟨hT, h⟩ := h
  obtain ⟨fd, F⟩ := T.t.def_ 42 (d := d_lword)
  have hm : X.mg "_law_word" = some (.ref (He.ga X.K "_law_word")) := He.glo_ok T.X T.G (T.t.fact 10)
  have hk : PySem.W.keepIn X.K (.ref (He.ga X.K "_law_word")) = true := F.kp
  refine wpAny_Call_Name_kw (ld_glob I hg hm ?_)
  refine PySem.W.callWith_K (h₀ := X.base) I.ok.mod.kin hk ?_ (by rfl) (by rfl)
  show wpAny _ _ (spliced ((false, eval (.Lambda params body scope lpos) X.env) :: backTo pos (starEach [] X.env))) _ _ s
  refine Calls.spliced_cons (made0 I TB hcode hT (L.has I.ok) h0 h1 fun f c1 H1 s1 I1 M => ?_)
  refine Calls.spliced_nil ⟨I1.kIn, ?_⟩
  refine wpAny_call (codeAny_mono (word_go T I1 L M (binds := []) (fun s2 cl doc pm cv ctv _ => .of_eq (hbind _ _ _ _ _ _)) (fun _ hy => absurd hy (by simp)) hr hbody (h _ M.fr M.bk M.tb)) fun r s2 hq => ?_)
  match r, hq with
  | .error e, hq => exact (show False from hq).elim
  | .ok (.ret u), hq => exact I1.after hq
  | .ok .next, hq => exact False.elim hq
  | .ok .brk, hq => exact False.elim hq
  | .ok .cont, hq => exact False.elim hq
theorem pe_word1 (T : Txt X.prog X.w X.K X.mg X.base) {params : Arguments} {body : Expr} {scope : Scope} {c P : Addr} {k : Nat} {t : XK → TE} {p lpos pos : Pos} {i : Int} {j : Nat} {dp : Pos} {a : Str} (h0 : params.defaults = [.Constant (.int i) j dp]) (h1 : params.kw_defaults = []) (hloc : scope.names.lookup a = some .local) (hbind : ∀ (s : Shared) (q : Str) (cl : List (Str × Addr)) (t0 : Addr) (tk : Nat) (doc pm cv ctv : Value), s.heap.get? t0 = some (kdv_tup [.int i tk]) → BindsTo s (kdv_fn "<lambda>" q params (.expr body) scope cl (.ref t0) doc pm cv ctv) ⟨[], []⟩ [(a, .int i tk)]) (TB : LamX.TabB X.base X.mg c P) (hcode : X.env.code = .ref c) (hr : Room (k + 2) X.A) (L : LamP X.N X.env.scope scope)
    (hbody : ∀ (A : Around) (outer : List Env) (s : Shared) (H : Hp) (E : XK) (f c1 : Addr), Room k (A.deeper (LamX.lamEnv X scope s.heap.objs.size f c1)) → PE (LamX.lamCx X A outer s H E scope f c1) body (t E)) (hg : Gl X "_law_word")
    (hst : starEach [.Lambda params body scope lpos] X.env = (false, eval (.Lambda params body scope lpos) X.env) :: starEach [] X.env := by rfl) (hpl : (backTo pos (starEach [] X.env)).any (·.1) = false := by rfl) :
    PE X (.Call (.Name "_law_word" p) [.Lambda params body scope lpos] [] pos) (tWordL X.K P (X.env.qual ++ "<lambda>") t) := by
  refine ⟨fun pins s σ H Q I h => ?_⟩
  obtain ⟨hT, h⟩ := h
  obtain ⟨fd, F⟩ := T.t.def_ 42 (d := d_lword)
  have hm : X.mg "_law_word" = some (.ref (He.ga X.K "_law_word")) := He.glo_ok T.X T.G (T.t.fact 10)
  have hk : PySem.W.keepIn X.K (.ref (He.ga X.K "_law_word")) = true := F.kp
  refine wpAny_Call_Name_kw (ld_glob I hg hm ?_)
  refine PySem.W.callWith_K (h₀ := X.base) I.ok.mod.kin hk ?_ (by rfl) (by rfl)
  show wpAny _ _ (spliced ((false, eval (.Lambda params body scope lpos) X.env) :: backTo pos (starEach [] X.env))) _ _ s
  refine Calls.spliced_cons (made1 I TB hcode hT (L.has I.ok) h0 h1 fun f c1 t0 tk H1 s1 I1 M => ?_)
  refine Calls.spliced_nil ⟨I1.kIn, ?_⟩
  refine wpAny_call (codeAny_mono (word_go T I1 L M (binds := [(a, .int i tk)]) (fun s2 cl doc pm cv ctv e => hbind _ _ _ _ _ _ _ _ _ (e _ (List.mem_singleton.mpr rfl))) (fun y hy => by rw [List.mem_singleton.mp hy]; exact hloc) hr hbody (h _ M.fr M.bk M.tb)) fun r s2 hq => ?_)
  match r, hq with
  | .error e, hq => exact (show False from hq).elim
  | .ok (.ret u), hq => exact I1.after hq
  | .ok .next, hq => exact False.elim hq
  | .ok .brk, hq => exact False.elim hq
  | .ok .cont, hq => exact False.elim hq
end
end B

set_option Elab.async false
set_option linter.all false
set_option maxRecDepth 100000
set_option maxHeartbeats 4000000
namespace B
open PySem PySem.Spec PyProof.Rows L2
open SX (S)
/-! ### alike -/
theorem atI_nat' {xs : List V} {i : Nat} {v : V} (h : xs[i]? = some v) : atI xs (0 + (i : Int)) = some v := by
  rw [Int.zero_add]
  exact atI_nat h
/-- asked of two things that A calls alike -/
def spAl (A : V → V → Hp → Prop) : Sp := fun vs H Q _ => ∃ x y, vs = [x, y] ∧ A x y H ∧ ∀ H', Frm [] H H' → Q (.bl true) H'
def Atom (x y : V) : Prop := (∃ b, x = .bl b ∧ y = .bl b) ∨ (∃ s, x = .str s ∧ y = .str s) ∨ (∃ i, x = .int i ∧ y = .int i) ∨ (x = .non ∧ y = .non)
def AlStep (K : PySem.W.Frag) (A : V → V → Hp → Prop) (x y : V) (H : Hp) : Prop := Atom x y ∨ ∃ (p q : Addr) (xs ys : List V), x = .ref p ∧ y = .ref q ∧ ((H p = some (.lst xs) ∧ H q = some (.lst ys)) ∨ (H p = some (.tup xs) ∧ H q = some (.tup ys))) ∧ xs.length = ys.length ∧ ys.length ≤ 100000 ∧
  ∀ (i : Nat) a b, xs[i]? = some a → ys[i]? = some b → A a b H
def Steady (A : V → V → Hp → Prop) : Prop := ∀ x y H H', A x y H → Frm [] H H' → A x y H'
theorem steady0 : Steady (fun _ _ _ => False) := fun _ _ _ _ h _ => h
theorem steady_step {K : PySem.W.Frag} {A : V → V → Hp → Prop} (h : Steady A) : Steady (AlStep K A) := by
  rintro x y H H' (z | ⟨p, q, xs, ys, e1, e2, hs, hl, hn, hA⟩) f
  · exact .inl z
  · refine .inr ⟨p, q, xs, ys, e1, e2, ?_, hl, hn, fun i a b ha hb => h _ _ _ _ (hA i a b ha hb) f⟩
    rcases hs with ⟨h1, h2⟩ | ⟨h1, h2⟩
    · exact .inl ⟨f.k _ _ h1 rfl (by simp), f.k _ _ h2 rfl (by simp)⟩
    · exact .inr ⟨f.k _ _ h1 rfl (by simp), f.k _ _ h2 rfl (by simp)⟩
theorem al_strs {K : PySem.W.Frag} {A : V → V → Hp → Prop} {H : Hp} {p q : Addr} {xs : List Str} (hp : H p = some (.lst (xs.map V.str))) (hq : H q = some (.lst (xs.map V.str))) (hl : xs.length ≤ 100000) : AlStep K (AlStep K A) (.ref p) (.ref q) H := by
  refine .inr ⟨p, q, _, _, rfl, rfl, .inl ⟨hp, hq⟩, rfl, by rw [List.length_map]; exact hl, fun i a b ha hb => .inl ?_⟩
  rw [hb] at ha
  obtain rfl := Option.some.inj ha
  obtain ⟨z, hz, e⟩ := at_map hb
  exact .inr (.inl ⟨z, e, e⟩)
section
variable {P : Program} {w : World} {K : PySem.W.Frag} {mg : Str → Option Value} {base : Heap}
theorem alike0 (T : Txt P w K mg base) : CalX CX0 P w K mg base 1 "_law_alike" (spAl fun _ _ _ => False) := by
  obtain ⟨fd, F⟩ := T.t.def_ 41 (d := d_lalike)
  refine ⟨_, fd, _, F.ok sc_lalike (fun vs H Q E h => ?_) (fun cdv A outer s H vs Q E hr h => ?_), He.glo_ok T.X T.G (T.t.fact 9), F.kp, F.bindsN fun _ _ _ _ _ _ us hl => match us, hl with | [_, _], _ => rfl⟩
  · obtain ⟨_, _, _, z, _⟩ := h
    exact z.elim
  · obtain ⟨_, _, _, z, _⟩ := h
    exact z.elim
theorem alike_step (T : Txt P w K mg base) {A : V → V → Hp → Prop} {k : Nat} (sA : Steady A) (c : CalX CX0 P w K mg base k "_law_alike" (spAl A)) : CalX CX0 P w K mg base (k + 1) "_law_alike" (spAl (AlStep K A)) := by
  obtain ⟨fd, F⟩ := T.t.def_ 41 (d := d_lalike)
  refine ⟨_, fd, _, F.ok sc_lalike (fun vs H Q E h => ?_) (fun cdv A outer s H vs Q E hr h => ?_), He.glo_ok T.X T.G (T.t.fact 9), F.kp, F.bindsN fun _ _ _ _ _ _ us hl => match us, hl with | [_, _], _ => rfl⟩
  · obtain ⟨x, y, rfl, _⟩ := h
    rfl
  · obtain ⟨x, y, rfl, hA, k⟩ := h
    have hu := hu_of hr
    refine ⟨_, PSs.nox (pss_cons (ps_if (PW.pt (pw_or (pt_val (pe_callB call_isi (by rfl) (n_isinstance T) (by decide +kernel) (pa_cons (pv 1) (pa_cons (pe_bltn (v := .ty "tuple") (u := .type "tuple") rfl (n_tuple T) (by decide +kernel) rfl) pa_nil)))) (pw_or1 (pt_val (pe_callB call_isi (by rfl) (n_isinstance T) (by decide +kernel) (pa_cons (pv 1) (pa_cons (pe_bltn (v := .ty "list") (u := .type "list") rfl (n_list T) (by decide +kernel) rfl) pa_nil)))))))
      (pss_cons (ps_if (PW.pt (pw_or (pt_cmpR op_ne (pe_callB call_isi (by rfl) (n_isinstance T) (by decide +kernel) (pa_cons (pv 0) (pa_cons (pe_bltn (v := .ty "tuple") (u := .type "tuple") rfl (n_tuple T) (by decide +kernel) rfl) pa_nil))) (pe_callB call_isi (by rfl) (n_isinstance T) (by decide +kernel) (pa_cons (pv 1) (pa_cons (pe_bltn (v := .ty "tuple") (u := .type "tuple") rfl (n_tuple T) (by decide +kernel) rfl) pa_nil))) (nomark _)) (pw_or1 (pt_not (pt_val (pe_callB call_isiT (by rfl) (n_isinstance T) (by decide +kernel) (pa_cons (pv 0) (pa_cons (pe_tup (pa_cons (pe_bltn (v := .ty "tuple") (u := .type "tuple") rfl (n_tuple T) (by decide +kernel) rfl) (pa_cons (pe_bltn (v := .ty "list") (u := .type "list") rfl (n_list T) (by decide +kernel) rfl) pa_nil))) pa_nil))))))))
        (pss_one (ps_ret pe_bl))
        pss_nil)
      (pss_cons (ps_if (pt_cmpR op_ne (pe_callB call_len_seq (by rfl) (n_len T) PySem.boot_len (pa_cons (pv 0) pa_nil)) (pe_callB call_len_seq (by rfl) (n_len T) PySem.boot_len (pa_cons (pv 1) pa_nil)) (nomark _))
        (pss_one (ps_ret pe_bl))
        pss_nil)
      (pss_one (ps_ret (pe_cmpR (op_eqD hr.units) (pe_lc (own := [("_law_k", 2)]) (g := gName 2) rfl sc_lalike.nd (pi_range1 rfl (n_range T) (pa_cons (pe_callB call_len_seq (by rfl) (n_len T) PySem.boot_len (pa_cons (pv 1) pa_nil)) pa_nil)) (blkOk_by (N := ["_law_found", "_law_due", "_law_k"]) (sc := defScope s_lalike) (own := [("_law_k", 2)]) (by decide +kernel)) (fun _ _ _ _ _ => pg_name (i := 2) sc_lalike.nd rfl (Or.inl rfl)) (fun _ _ _ _ _ => pts_one (by exact (pt_not (pt_val (pe_cx c hr (Nat.le_refl _) rfl pass0 (pa_cons (pe_ix (ix_seqK (K := K) rfl) (pv 0) (pv 2) (fun _ _ => rfl)) (pa_cons (pe_ix (ix_seqK (K := K) rfl) (pv 1) (pv 2) (fun _ _ => rfl)) pa_nil))))))) (fun _ _ _ _ _ => by exact (pv 2))) (pe_lst pa_nil) (nomark _))))))
      pss_nil)
    (pss_cons (ps_if (PW.pt (pw_or (pt_cmpR op_isN (pv 1) pe_non (nomark _)) (pw_or1 (pt_cmpR op_isN (pv 0) pe_non (nomark _)))))
      (pss_one (ps_ret (pe_and (pe_cmpR op_isN (pv 1) pe_non (nomark _)) (pe_one (pe_cmpR op_isN (pv 0) pe_non (nomark _))))))
      pss_nil)
    (pss_cons (ps_if (PW.pt (pw_or (pt_val (pe_callB call_isi (by rfl) (n_isinstance T) (by decide +kernel) (pa_cons (pv 1) (pa_cons (pe_bltn (v := .ty "bool") (u := .type "bool") rfl (n_bool T) (by decide +kernel) rfl) pa_nil)))) (pw_or1 (pt_val (pe_callB call_isi (by rfl) (n_isinstance T) (by decide +kernel) (pa_cons (pv 0) (pa_cons (pe_bltn (v := .ty "bool") (u := .type "bool") rfl (n_bool T) (by decide +kernel) rfl) pa_nil)))))))
      (pss_one (ps_ret (pe_and (pe_callB call_isi (by rfl) (n_isinstance T) (by decide +kernel) (pa_cons (pv 1) (pa_cons (pe_bltn (v := .ty "bool") (u := .type "bool") rfl (n_bool T) (by decide +kernel) rfl) pa_nil))) (pe_and (pe_callB call_isi (by rfl) (n_isinstance T) (by decide +kernel) (pa_cons (pv 0) (pa_cons (pe_bltn (v := .ty "bool") (u := .type "bool") rfl (n_bool T) (by decide +kernel) rfl) pa_nil))) (pe_one (pe_cmpR op_eq (pv 0) (pv 1) (nomark _)))))))
      pss_nil)
    (pss_cons (ps_if (pt_val (pe_callB call_isi (by rfl) (n_isinstance T) (by decide +kernel) (pa_cons (pv 1) (pa_cons (pe_bltn (v := .ty "str") (u := .type "str") rfl (n_str T) (by decide +kernel) rfl) pa_nil))))
      (pss_one (ps_ret (pe_and (pe_callB call_isi (by rfl) (n_isinstance T) (by decide +kernel) (pa_cons (pv 0) (pa_cons (pe_bltn (v := .ty "str") (u := .type "str") rfl (n_str T) (by decide +kernel) rfl) pa_nil))) (pe_one (pe_cmpR op_eq (pv 0) (pv 1) (nomark _))))))
      pss_nil)
    (pss_one (ps_ret (pe_and (pe_callB call_isi (by rfl) (n_isinstance T) (by decide +kernel) (pa_cons (pv 0) (pa_cons (pe_bltn (v := .ty "int") (u := .type "int") rfl (n_int T) (by decide +kernel) rfl) pa_nil))) (pe_one (pe_cmpR op_eq (pv 0) (pv 1) (nomark _)))))))))), ?_⟩
    have kH := k H (Frm.refl _ _)
    rcases hA with (⟨b, rfl, rfl⟩ | ⟨z, rfl, rfl⟩ | ⟨i, rfl, rfl⟩ | ⟨rfl, rfl⟩) | ⟨p, q, xs, ys, rfl, rfl, hs, hl, hn, hA⟩
    · refine ⟨_, rfl, _, _, _, _, false, rfl, .ty _, .base (.bl b), kit_ty (by decide +kernel), false, rfl, ?_⟩
      refine ⟨_, rfl, _, _, _, _, false, rfl, .ty _, .base (.bl b), kit_ty (by decide +kernel), false, rfl, ?_⟩
      refine ⟨_, rfl, rfl, _, rfl, ?_⟩
      refine ⟨_, rfl, rfl, _, rfl, ?_⟩
      refine ⟨_, rfl, _, _, _, _, true, rfl, .ty _, .base (.bl b), kit_ty (by decide +kernel), true, rfl, ?_⟩
      refine ⟨_, rfl, _, _, _, _, true, rfl, .ty _, .base (.bl b), kit_ty (by decide +kernel), true, rfl, ?_⟩
      refine ⟨_, rfl, _, _, _, _, true, rfl, .ty _, .base (.bl b), kit_ty (by decide +kernel), true, rfl, ?_⟩
      refine ⟨_, rfl, _, rfl, rfl, ?_⟩
      have e : decide (V.bl b = V.bl b) = true := decide_eq_true rfl
      rw [e]
      exact kH
    · refine ⟨_, rfl, _, _, _, _, false, rfl, .ty _, .base (.str z), kit_ty (by decide +kernel), false, rfl, ?_⟩
      refine ⟨_, rfl, _, _, _, _, false, rfl, .ty _, .base (.str z), kit_ty (by decide +kernel), false, rfl, ?_⟩
      refine ⟨_, rfl, rfl, _, rfl, ?_⟩
      refine ⟨_, rfl, rfl, _, rfl, ?_⟩
      refine ⟨_, rfl, _, _, _, _, false, rfl, .ty _, .base (.str z), kit_ty (by decide +kernel), false, rfl, ?_⟩
      refine ⟨_, rfl, _, _, _, _, false, rfl, .ty _, .base (.str z), kit_ty (by decide +kernel), false, rfl, ?_⟩
      refine ⟨_, rfl, _, _, _, _, true, rfl, .ty _, .base (.str z), kit_ty (by decide +kernel), true, rfl, ?_⟩
      refine ⟨_, rfl, _, _, _, _, true, rfl, .ty _, .base (.str z), kit_ty (by decide +kernel), true, rfl, ?_⟩
      refine ⟨_, rfl, _, rfl, rfl, ?_⟩
      rw [str_dec, decide_eq_true rfl]
      exact kH
    · refine ⟨_, rfl, _, _, _, _, false, rfl, .ty _, .base (.int i), kit_ty (by decide +kernel), false, rfl, ?_⟩
      refine ⟨_, rfl, _, _, _, _, false, rfl, .ty _, .base (.int i), kit_ty (by decide +kernel), false, rfl, ?_⟩
      refine ⟨_, rfl, rfl, _, rfl, ?_⟩
      refine ⟨_, rfl, rfl, _, rfl, ?_⟩
      refine ⟨_, rfl, _, _, _, _, false, rfl, .ty _, .base (.int i), kit_ty (by decide +kernel), false, rfl, ?_⟩
      refine ⟨_, rfl, _, _, _, _, false, rfl, .ty _, .base (.int i), kit_ty (by decide +kernel), false, rfl, ?_⟩
      refine ⟨_, rfl, _, _, _, _, false, rfl, .ty _, .base (.int i), kit_ty (by decide +kernel), false, rfl, ?_⟩
      refine ⟨_, rfl, _, _, _, _, true, rfl, .ty _, .base (.int i), kit_ty (by decide +kernel), true, rfl, ?_⟩
      refine ⟨_, rfl, _, rfl, rfl, ?_⟩
      rw [int_dec, decide_eq_true rfl]
      exact kH
    · refine ⟨_, rfl, _, _, _, _, false, rfl, .ty _, .base .non, kit_ty (by decide +kernel), false, rfl, ?_⟩
      refine ⟨_, rfl, _, _, _, _, false, rfl, .ty _, .base .non, kit_ty (by decide +kernel), false, rfl, ?_⟩
      refine ⟨_, rfl, rfl, _, rfl, ?_⟩
      refine ⟨_, rfl, rfl, _, rfl, _, rfl, rfl, ?_⟩
      exact kH
    · rcases hs with ⟨h1, h2⟩ | ⟨h1, h2⟩
      · refine ⟨_, rfl, _, _, _, _, false, rfl, .ty _, .base (.lst h2), kit_ty (by decide +kernel), false, rfl, ?_⟩
        refine ⟨_, rfl, _, _, _, _, true, rfl, .ty _, .base (.lst h2), kit_ty (by decide +kernel), true, rfl, ?_⟩
        refine ⟨_, rfl, _, _, _, _, false, rfl, .ty _, .base (.lst h1), kit_ty (by decide +kernel), ?_⟩
        refine ⟨_, rfl, _, _, _, _, false, rfl, .ty _, .base (.lst h2), kit_ty (by decide +kernel), rfl, false, rfl, ?_⟩
        refine ⟨_, rfl, by show 2 ≤ sizeLine; decide, fun tp htp => ?_⟩
        have f1 : Frm [] H (upd H tp (.tup [.ty "tuple", .ty "list"])) := Frm.of (same_upd htp)
        have g1 := f1.k _ _ h1 rfl (by simp)
        have g2 := f1.k _ _ h2 rfl (by simp)
        refine ⟨_, tp, _, _, _, true, rfl, upd_same, .cons (.ty _) (.cons (.ty _) .nil), .base (.lst g1), kitAny_cons (b := false) (kit_ty (by decide +kernel)) (fun _ => kitAny_cons (b := true) (kit_ty (by decide +kernel)) (fun z => nomatch z) (fun _ => rfl)) (fun z => nomatch z), true, rfl, ?_⟩
        refine ⟨_, rfl, p, xs, rfl, .inl (SqL.of g1), _, rfl, q, ys, rfl, .inl (SqL.of g2), rfl, false, congrArg V.bl (by rw [hl, decide_eq_true rfl]; rfl), ?_⟩
        refine ⟨_, rfl, q, ys, rfl, .inl (SqL.of g2), _, rfl, by omega, by omega, fun D hD => ?_⟩
        have fD : Frm [] H (upd (upd H tp (.tup [.ty "tuple", .ty "list"])) D (.lst [])) := f1.trans (Frm.of (same_upd hD))
        refine lc_range (lo := 0) (n := ((ys.length : Nat) : Int).toNat) (fun i H' => Frm [] H H' ∧ H' D = some (.lst [])) ⟨fD, upd_same⟩ ?_ ?_
        · rintro i H1 hi ⟨fi, di⟩
          have hi' : i < ys.length := hi
          have hx : xs[i]? = some (xs[i]'(by omega)) := by simp [hl, hi']
          have hy : ys[i]? = some (ys[i]'hi') := by simp [hi']
          have k1 := fi.k _ _ h1 rfl (by simp)
          have k2 := fi.k _ _ h2 rfl (by simp)
          refine ⟨rfl, _, rfl, _, rfl, .inl ⟨p, xs, _, _, rfl, rfl, SqL.of k1, atI_nat' hx, _, rfl, _, rfl, .inl ⟨q, ys, _, _, rfl, rfl, SqL.of k2, atI_nat' hy, _, _, rfl, sA _ _ _ _ (hA i _ _ hx hy) fi, fun H2 f2 => ?_⟩⟩⟩
          refine ⟨true, rfl, fi.trans f2, f2.k _ _ di rfl (by simp)⟩
        · rintro H1 ⟨fi, di⟩
          refine ⟨Nat.zero_le _, fun D2 hD2 => ?_⟩
          refine ⟨_, _, .lst (SqL.of (same_upd hD2 _ _ di)) .nil, .lst (SqL.of upd_same) .nil, by decide +kernel, by decide +kernel, ?_⟩
          exact k _ (fi.trans (Frm.of (same_upd hD2)))
      · refine ⟨_, rfl, _, _, _, _, true, rfl, .ty _, .base (.tup h2), kit_ty (by decide +kernel), true, rfl, ?_⟩
        refine ⟨_, rfl, _, _, _, _, true, rfl, .ty _, .base (.tup h1), kit_ty (by decide +kernel), ?_⟩
        refine ⟨_, rfl, _, _, _, _, true, rfl, .ty _, .base (.tup h2), kit_ty (by decide +kernel), rfl, false, rfl, ?_⟩
        refine ⟨_, rfl, by show 2 ≤ sizeLine; decide, fun tp htp => ?_⟩
        have f1 : Frm [] H (upd H tp (.tup [.ty "tuple", .ty "list"])) := Frm.of (same_upd htp)
        have g1 := f1.k _ _ h1 rfl (by simp)
        have g2 := f1.k _ _ h2 rfl (by simp)
        refine ⟨_, tp, _, _, _, true, rfl, upd_same, .cons (.ty _) (.cons (.ty _) .nil), .base (.tup g1), kitAny_cons (b := true) (kit_ty (by decide +kernel)) (fun z => nomatch z) (fun _ => rfl), true, rfl, ?_⟩
        refine ⟨_, rfl, p, xs, rfl, .inr (SqT.of g1), _, rfl, q, ys, rfl, .inr (SqT.of g2), rfl, false, congrArg V.bl (by rw [hl, decide_eq_true rfl]; rfl), ?_⟩
        refine ⟨_, rfl, q, ys, rfl, .inr (SqT.of g2), _, rfl, by omega, by omega, fun D hD => ?_⟩
        have fD : Frm [] H (upd (upd H tp (.tup [.ty "tuple", .ty "list"])) D (.lst [])) := f1.trans (Frm.of (same_upd hD))
        refine lc_range (lo := 0) (n := ((ys.length : Nat) : Int).toNat) (fun i H' => Frm [] H H' ∧ H' D = some (.lst [])) ⟨fD, upd_same⟩ ?_ ?_
        · rintro i H1 hi ⟨fi, di⟩
          have hi' : i < ys.length := hi
          have hx : xs[i]? = some (xs[i]'(by omega)) := by simp [hl, hi']
          have hy : ys[i]? = some (ys[i]'hi') := by simp [hi']
          have k1 := fi.k _ _ h1 rfl (by simp)
          have k2 := fi.k _ _ h2 rfl (by simp)
          refine ⟨rfl, _, rfl, _, rfl, .inr (.inl ⟨p, xs, _, _, rfl, rfl, SqT.of k1, atI_nat' hx, _, rfl, _, rfl, .inr (.inl ⟨q, ys, _, _, rfl, rfl, SqT.of k2, atI_nat' hy, _, _, rfl, sA _ _ _ _ (hA i _ _ hx hy) fi, fun H2 f2 => ?_⟩)⟩)⟩
          refine ⟨true, rfl, fi.trans f2, f2.k _ _ di rfl (by simp)⟩
        · rintro H1 ⟨fi, di⟩
          refine ⟨Nat.zero_le _, fun D2 hD2 => ?_⟩
          refine ⟨_, _, .lst (SqL.of (same_upd hD2 _ _ di)) .nil, .lst (SqL.of upd_same) .nil, by decide +kernel, by decide +kernel, ?_⟩
          exact k _ (fi.trans (Frm.of (same_upd hD2)))
end
end B

set_option Elab.async false
set_option linter.all false
set_option maxRecDepth 100000
set_option maxHeartbeats 4000000
namespace B
open PySem PySem.Spec PyProof.Rows L2
open SX (S)
/-! ### the classes' words -/
section
variable {P : Program} {w : World} {K : PySem.W.Frag} {mg : Str → Option Value} {base : Heap}
theorem exc_all {c : Str} (h : excC K c = true) (hs : PySem.W.subIn K (.ref (He.ga K c)) (.type "BaseException") = some true) : ExcC K (He.ga K c) ∧ PySem.W.kitOne K (.ref (He.ga K c)) (.type "ValueError") = some true := by
  unfold excC at h
  obtain ⟨h, h8⟩ := He.ba h
  obtain ⟨h, h7⟩ := He.ba h
  obtain ⟨h, h6⟩ := He.ba h
  obtain ⟨h, h5⟩ := He.ba h
  obtain ⟨h, h4⟩ := He.ba h
  obtain ⟨h, h3⟩ := He.ba h
  obtain ⟨h1, h2⟩ := He.ba h
  exact ⟨⟨He.eqO_ok h1, He.eqO_ok h2, hs, h3, He.eqO_ok h4, of_decide_eq_true h5, of_decide_eq_true h6, of_decide_eq_true h7⟩, of_decide_eq_true h8⟩
theorem kit_all {c : Str} {n : Nat} (hc : allErr[n]? = some c) (h : (allErr.all fun d => kitC K c d (decide (c = d))) = true) (i : Nat) (d : Str) (hd : allErr[i]? = some d) : PySem.W.kitOne K (.ref (He.ga K c)) (.ref (He.ga K d)) = some (decide (i = n)) := by
  have q := of_decide_eq_true (List.all_eq_true.mp h d (List.mem_of_getElem? hd))
  rw [q]
  have hn := (List.getElem?_eq_some_iff.mp hc).1
  have hi := (List.getElem?_eq_some_iff.mp hd).1
  have z : (List.range 15).all (fun i => (List.range 15).all fun n => decide (allErr[n]? = allErr[i]?) == decide (i = n)) = true := by decide +kernel
  have z1 := beq_iff_eq.mp (List.all_eq_true.mp (List.all_eq_true.mp z i (List.mem_range.mpr hi)) n (List.mem_range.mpr hn))
  rw [hc, hd] at z1
  have e : decide (c = d) = decide (some c = some d) := by
    by_cases q : c = d
    · rw [decide_eq_true q, decide_eq_true (by rw [q])]
    · rw [decide_eq_false q, decide_eq_false (fun z => q (Option.some.inj z))]
  rw [e, z1]
theorem word_of (T : Txt P w K mg base) {c wd : Str} {n : Nat} (hr : c ∈ raised) (hs : PySem.W.subIn K (.ref (He.ga K c)) (.type "BaseException") = some true) (hm : PySem.W.exmOne K (.ref (He.ga K c)) (.ref (He.ga K "BusError")) = some true) (hn : n < 15) (hc : allErr[n]? = some c) (hw : wordsV[n]? = some wd)
    (ne : inV (.str wd) [V.str "looks", V.str "step"] = false ∧ decide (V.str wd = V.str "text") = false) : WordC K (.ref (He.ga K c)) n wd := by
  obtain ⟨h1, h2⟩ := He.ba (List.all_eq_true.mp (ex_exc T) c hr)
  obtain ⟨e1, e2⟩ := exc_all h1 hs
  exact ⟨⟨_, rfl, e1, kit_all hc h2, e2, hm⟩, hn, hw, ne⟩
theorem word_There (T : Txt P w K mg base) : WordC K (.ref (He.ga K "There")) 4 "there" := by
  obtain ⟨a, b, c, d⟩ := He.exc_ok (T.t.fact 130 (f := .exc "There"))
  exact word_of T (by decide) (by assumption) (He.exm_ok (T.t.fact 136)) (by decide) rfl rfl ⟨by decide +kernel, by decide +kernel⟩
theorem word_NotThere (T : Txt P w K mg base) : WordC K (.ref (He.ga K "NotThere")) 5 "not" := by
  obtain ⟨a, b, c, d⟩ := He.exc_ok (T.t.fact 131 (f := .exc "NotThere"))
  exact word_of T (by decide) (by assumption) (He.exm_ok (T.t.fact 137)) (by decide) rfl rfl ⟨by decide +kernel, by decide +kernel⟩
theorem word_NoRound (T : Txt P w K mg base) : WordC K (.ref (He.ga K "NoRound")) 6 "round" := by
  obtain ⟨a, b, c, d⟩ := He.exc_ok (T.t.fact 132 (f := .exc "NoRound"))
  exact word_of T (by decide) (by assumption) (He.exm_ok (T.t.fact 138)) (by decide) rfl rfl ⟨by decide +kernel, by decide +kernel⟩
end
end B

set_option Elab.async false
set_option linter.all false
set_option maxRecDepth 100000
set_option maxHeartbeats 4000000
namespace B
open PySem PySem.Spec PyProof.Rows L2
open SX (S)
section
variable {P : Program} {w : World} {K : PySem.W.Frag} {mg : Str → Option Value} {base : Heap}
/-- the word of a class of ours -/
theorem wordK_of (T : Txt P w K mg base) {c wd : Str} {n : Nat} (hr : c ∈ raised) (hs : PySem.W.subIn K (.ref (He.ga K c)) (.type "BaseException") = some true) (hm : PySem.W.exmOne K (.ref (He.ga K c)) (.ref (He.ga K "BusError")) = some true) (hn : n < 15) (hc : allErr[n]? = some c) (hw : wordsV[n]? = some wd) : WordK K (He.ga K c) n wd := by
  obtain ⟨h1, h2⟩ := He.ba (List.all_eq_true.mp (ex_exc T) c hr)
  obtain ⟨e1, e2⟩ := exc_all h1 hs
  exact ⟨e1, kit_all hc h2, e2, hm, hn, hw⟩
/-- what a refusal with a number tells: a tuple -/
def TupAt (wd : Str) (i : Int) (H : Hp) (Q : VK) : Prop := ∀ (p : Addr) (H' : Hp), Frm [] H H' → H' p = some (.tup [.str wd, .int i]) → Q (.ref p) H'
theorem refd_BadStep (T : Txt P w K mg base) {d : Addr} {i : Int} {H : Hp} {Q : VK} (h : H d = some (.xd [("number", .int i)])) (k : TupAt "step" i H Q) : Refd K (.ref (He.ga K "BadStep")) (some d) H Q := by
  obtain ⟨Sc, _⟩ := c_BadStep T
  exact ⟨_, 13, "step", rfl, wordK_of T (by decide) Sc.T.exC (He.exm_ok (T.t.fact 141)) (by decide) rfl rfl, .inr ⟨d, _, _, rfl, h, .inl ⟨by decide +kernel, Sc.fld, rfl⟩, fun p H3 f _ e => k p H3 f e⟩⟩
end
end B

set_option Elab.async false
set_option linter.all false
set_option maxRecDepth 100000
set_option maxHeartbeats 4000000
namespace B
open PySem PySem.Spec PyProof.Rows L2
open SX (S)
/-! ### small things -/
theorem atZ {α : Type} {zs : List (Addr × α)} {i : Nat} {y : V} (h : (zs.map fun z => V.ref z.1)[i]? = some y) : ∃ z, zs[i]? = some z ∧ y = .ref z.1 := by
  rw [List.getElem?_map] at h
  cases e : zs[i]? with
  | none => rw [e] at h; cases h
  | some z => rw [e] at h; exact ⟨z, rfl, (Option.some.inj h).symm⟩
theorem szL {n : Nat} (h : n ≤ 1000000) : n ≤ sizeLine := Nat.le_trans h (by decide)
theorem szLt {n : Nat} (h : n ≤ 1000000) : n < sizeLine := Nat.lt_of_le_of_lt h (by decide)
/-- a row tells so and so often: for i, x in enumerate(list) -/
theorem forE {K : PySem.W.Frag} {a : Addr} {xs : List V} {g : TG} {tb : TS} {D : Ends} {σ : L2.St} {H : Hp} (Pv : Nat → L2.St → Hp → Prop) (h0 : Pv 0 σ H) (hL : ∀ (i : Nat) (σ : L2.St) (H : Hp), i ≤ xs.length → Pv i σ H → SqL K H a xs)
    (hs : ∀ (i : Nat) (x : V) (T : Addr) (σ : L2.St) (H : Hp), xs[i]? = some x → Pv i σ H → H T = none → g (.ref T) σ (upd H T (.tup [.int i, x])) fun σ2 H2 => tb { nx := Pv (i + 1), rt := D.rt, bk := D.nx, ct := Pv (i + 1) } σ2 H2)
    (hd : ∀ (σ : L2.St) (H : Hp), Pv xs.length σ H → D.nx σ H) : ∃ W : Nat → Nat → L2.St → Hp → Prop, (∃ m, W 0 m σ H) ∧ ∀ (i m : Nat) (σ : L2.St) (H : Hp), W i m σ H →
      (Ite K a).stop i H ∧ D.nx σ H ∨ (Ite K a).go i H ∧ ∃ N : L2.St → Hp → Prop, (∀ (σ' : L2.St) (H' : Hp), N σ' H' → ∃ m', m' < m ∧ W (i + 1) m' σ' H') ∧
        ∀ (x : V) (H' : Hp), (Ite K a).yld i H x H' → g x σ H' fun σ2 H2 => tb { nx := N, rt := D.rt, bk := D.nx, ct := N } σ2 H2 := by
  refine ⟨fun i m σ H => i + m = xs.length ∧ Pv i σ H, ⟨xs.length, by omega, h0⟩, fun i m σ H ⟨e, p⟩ => ?_⟩
  have L := hL i σ H (by omega) p
  rcases Nat.lt_or_ge i xs.length with h | h
  · refine .inr ⟨⟨xs, xs[i], L, List.getElem?_eq_getElem h⟩, Pv (i + 1), fun σ' H' p' => ⟨m - 1, by omega, by omega, p'⟩, fun x H' ⟨T, y, e1, e2, e3, e4⟩ => ?_⟩
    subst e1 e3
    exact hs i y T σ H (e4 xs L) p e2
  · obtain rfl : i = xs.length := by omega
    exact .inl ⟨⟨xs, L, Nat.le_refl _⟩, hd _ _ p⟩
section
variable {X : Cx} {K : PySem.W.Frag}
theorem pe_joinK {o e : Expr} {to te : TE} {apos pos : Pos} (hK : X.K = K) (ho : PE X o to) (he : PE X e te) (hs : starEach [e] X.env = [(false, eval e X.env)] := by rfl) (hbase : attributeBase o "join" X.env (eval o X.env) = eval o X.env := by rfl) (hline : (apos.endLine == pos.line) = true := by rfl) :
    PE X (.Call (.Attribute o "join" apos) [e] [] pos) (tM1 (fun x xs H Q => ∃ a p, ∃ ys : List Str, x = .str a ∧ xs = [.ref p] ∧ (SqL K H p (ys.map V.str) ∨ SqT K H p (ys.map V.str)) ∧
      (ys.map (·.length)).sum + ys.length * a.length ≤ 16777216 ∧ Q (.str (Txt.join a ys)) H) to te) := by
  subst hK
  exact pe_join ho he hs hbase hline
end
/-- rows: a list of tuples of texts -/
def RZ (H : Hp) (p : Addr) (zs : List (Addr × List Str)) : Prop := H p = some (.lst (zs.map fun z => V.ref z.1)) ∧ ∀ z ∈ zs, H z.1 = some (.tup (z.2.map V.str))
theorem RZ.keep {K : PySem.W.Frag} {H H' : Hp} {p : Addr} {zs : List (Addr × List Str)} {T : List Addr} (h : RZ H p zs) (f : FrT K T H H') (hp : p ∉ T) (hz : ∀ z ∈ zs, z.1 ∉ T) : RZ H' p zs := ⟨f.k _ _ h.1 rfl hp, fun z m => f.k _ _ (h.2 z m) rfl (hz z m)⟩
theorem RZ.keep0 {K : PySem.W.Frag} {H H' : Hp} {p : Addr} {zs : List (Addr × List Str)} (h : RZ H p zs) (f : FrT K [] H H') : RZ H' p zs := h.keep f (by simp) (fun _ _ => by simp)
end B

set_option Elab.async false
set_option linter.all false
set_option maxRecDepth 100000
set_option maxHeartbeats 4000000
namespace B
open PySem PySem.Spec PyProof.Rows L2
open SX (S)
section
variable {X : Cx}
theorem g_MOST_STEPS (T : Txt X.prog X.w X.K X.mg X.base) {p : Pos} (hg : Gl X "MOST_STEPS" := by rfl) : PE X (.Name "MOST_STEPS" p) (tC (.int 200)) := by
  obtain ⟨t, e⟩ := He.int_ok T.X T.G (T.t.fact 55 (f := .int "MOST_STEPS" 200))
  exact pe_glob hg e ⟨t, rfl⟩
theorem g_WORDS_ALONE (T : Txt X.prog X.w X.K X.mg X.base) {p : Pos} (hg : Gl X "WORDS_ALONE" := by rfl) : PE X (.Name "WORDS_ALONE" p) (tC (.ref (He.ga X.K "WORDS_ALONE"))) :=
  pe_glob hg (He.glo_ok T.X T.G (T.t.fact 57)) rfl
theorem g_WORDS_OF_THINGS (T : Txt X.prog X.w X.K X.mg X.base) {p : Pos} (hg : Gl X "WORDS_OF_THINGS" := by rfl) : PE X (.Name "WORDS_OF_THINGS" p) (tC (.ref (He.ga X.K "WORDS_OF_THINGS"))) :=
  pe_glob hg (He.glo_ok T.X T.G (T.t.fact 58)) rfl
end
theorem tup_KQ {K : PySem.W.Frag} {x : Str} {vs : List V} (h : tupB K x vs = true) (hl : vs.length ≤ sizeLine) (H : Hp) : SqT K H (He.ga K x) vs := by
  unfold tupB at h
  split at h
  · rename_i t dd its n sl e
    obtain ⟨h1, h2⟩ := He.ba h
    have e1 : t = "tuple" := of_decide_eq_true h1
    subst e1
    have rl := He.relAll_ok h2
    refine .inr ⟨_, its, n, e, rfl, rfl, ?_, rl⟩
    have z : vs.length = its.toList.length := Paired.length rl
    have y : its.toList.length = its.size := by simp
    omega
  · cases h
/-- all signs 0 or 1 -/
def bitsB (x : Str) : Bool := x.cps.toList.all (fun c => decide (c ∈ ("01" : Str).cps.toList))
def someB (x : Str) : Bool := (decide (1 ≤ x.length) && decide (x.length ≤ 12)) && bitsB x
def aloneV : List Str := ["step", "round", "turn", "refresh"]
def thingV : List Str := ["hang", "off", "alarm", "calm"]
def kindV : List Str := ["all", "alarm"]
def stepB : List Str → Bool
  | [w] => inV (.str w) (aloneV.map V.str)
  | [w, x] => if w = "walk" then inV (.str x) (kindV.map V.str) else inV (.str w) (thingV.map V.str) && someB x
  | _ => false
section
variable {P : Program} {w : World} {K : PySem.W.Frag} {mg : Str → Option Value} {base : Heap}
theorem num_genQ : pd_is_number ∈ gens := by decide +kernel
def spIsNumQ (K : PySem.W.Frag) : Sp := fun vs H Q _ => ∃ (n : Nat) (x : Str), vs = [.int n, .str x] ∧ x.length = n ∧ n ≤ 1000000 ∧ Tb K H ∧ ∀ H', FrT K [] H H' → Q (.bl (bitsB x)) H'
theorem c_isnumQ (T : Txt P w K mg base) : CalX CX0 P w K mg base 1 "is_number" (spIsNumQ K) := by
  obtain ⟨fd, F⟩ := T.t.def_ 2 (d := d_is_number)
  refine ⟨_, fd, _, okT (p := pd_is_number) F sc_is_number (fun vs H Q E h => ?_) (fun A outer s H vs Q E hr h => ?_), He.glo_ok T.X T.G (T.t.fact 2), F.kp, F.bindsN fun _ _ _ _ _ _ us hl => match us, hl with | [_, _], _ => rfl⟩
  · obtain ⟨n, x, rfl, _⟩ := h
    rfl
  · obtain ⟨n, x, rfl, rfl, hn, ht, k⟩ := h
    refine ⟨_, PSs.nox (pss_cons (ps_if (PW.pt (pw_or (pt_not (pt_val (pe_callB call_isi (by rfl) (n_isinstance T) (by decide +kernel) (pa_cons (pv 1) (pa_cons (pe_bltn (v := .ty "str") (u := .type "str") rfl (n_str T) (by decide +kernel) rfl) pa_nil))))) (pw_or1 (pt_cmpR op_ne (pe_callB call_len_str (by rfl) (n_len T) PySem.boot_len (pa_cons (pv 1) pa_nil)) (pv 0) (nomark _)))))
      (pss_one (ps_ret pe_bl))
      pss_nil)
    (pss_one (ps_ret (GxR.pe_allS hr rfl (n_all T) (by decide +kernel) (tb_g T (p := pd_is_number) (by decide +kernel)) rfl (gens_by (by decide +kernel)) (pv 1) (elt_in rfl rfl) (fun _ => rfl))))), ?_⟩
    refine ⟨_, rfl, .str x, .ty "str", .type "str", .type "str", true, rfl, .ty "str", .base (.str x), kit_ty (by decide +kernel), true, rfl, ?_⟩
    refine ⟨_, rfl, x, rfl, szL hn, _, rfl, rfl, _, rfl, ?_⟩
    rw [decide_eq_true rfl]
    refine ⟨_, rfl, x, rfl, ht.1 _ num_genQ, fun H2 hT => ?_⟩
    exact k H2 (tb_gen T num_genQ ht hT).1
def spSome (K : PySem.W.Frag) : Sp := fun vs H Q _ => ∃ x : Str, vs = [.str x] ∧ x.length ≤ 1000000 ∧ Tb K H ∧ ∀ H', FrT K [] H H' → Q (.bl (someB x)) H'
theorem c_is_some_number (T : Txt P w K mg base) : CalX CX0 P w K mg base 2 "is_some_number" (spSome K) := by
  obtain ⟨fd, F⟩ := T.t.def_ 34 (d := d_is_some_number)
  refine ⟨_, fd, _, F.ok sc_is_some_number (fun vs H Q E h => ?_) (fun cdv A outer s H vs Q E hr h => ?_), He.glo_ok T.X T.G (T.t.fact 6), F.kp, F.bindsN fun _ _ _ _ _ _ us hl => match us, hl with | [_], _ => rfl⟩
  · obtain ⟨x, rfl, _⟩ := h
    rfl
  · obtain ⟨x, rfl, hn, ht, k⟩ := h
    refine ⟨_, PSs.nox (pss_cons (ps_if (PW.pt (pw_or (pt_not (pt_val (pe_callB call_isi (by rfl) (n_isinstance T) (by decide +kernel) (pa_cons (pv 0) (pa_cons (pe_bltn (v := .ty "str") (u := .type "str") rfl (n_str T) (by decide +kernel) rfl) pa_nil))))) (pw_or1 (pt_not (pt_chain op_le op_le (g_LEAST_WIDTH T) (pe_callB call_len_str (by rfl) (n_len T) PySem.boot_len (pa_cons (pv 0) pa_nil)) (g_GREATEST_WIDTH T))))))
      (pss_one (ps_ret pe_bl))
      pss_nil)
    (pss_one (ps_ret (pe_cx (c_isnumQ T) hr (by decide) rfl pass0 (pa_cons (pe_callB call_len_str (by rfl) (n_len T) PySem.boot_len (pa_cons (pv 0) pa_nil)) (pa_cons (pv 0) pa_nil)))))), ?_⟩
    refine ⟨_, rfl, .str x, .ty "str", .type "str", .type "str", true, rfl, .ty "str", .base (.str x), kit_ty (by decide +kernel), true, rfl, ?_⟩
    unfold someB at k
    refine ⟨_, rfl, x, rfl, szL hn, 1, x.length, rfl, rfl, _, rfl, ?_⟩
    have e1 : decide (1 ≤ x.length) = decide ((1 : Int) ≤ (x.length : Int)) := by rw [decide_eq_decide]; omega
    have e2 : decide (x.length ≤ 12) = decide ((x.length : Int) ≤ 12) := by rw [decide_eq_decide]; omega
    rw [e1, e2] at k
    refine iteB (fun c => ?_) (fun c => ?_)
    · rw [c] at k
      refine ⟨x.length, 12, rfl, rfl, _, rfl, ?_⟩
      refine iteB (fun c2 => ?_) (fun c2 => ?_)
      · rw [Bool.not_eq_true'] at c2
        rw [c2] at k
        exact k H (FrT.refl _ _ _)
      · rw [Bool.not_eq_false'] at c2
        rw [c2] at k
        refine ⟨_, rfl, x, rfl, szL hn, ?_⟩
        exact ⟨_, rfl, x.length, x, rfl, rfl, hn, ht, k⟩
    · rw [c] at k
      exact ⟨_, rfl, k H (FrT.refl _ _ _)⟩
def spStep1 (K : PySem.W.Frag) : Sp := fun vs H Q _ => ∃ (p : Addr) (xs : List Str), vs = [.ref p] ∧ H p = some (.tup (xs.map V.str)) ∧ (∀ x ∈ xs, x.length ≤ 1000000) ∧ Tb K H ∧ ∀ H', FrT K [] H H' → Q (.bl (stepB xs)) H'
theorem c_is_step (T : Txt P w K mg base) : CalX CX0 P w K mg base 3 "is_step" (spStep1 K) := by
  obtain ⟨fd, F⟩ := T.t.def_ 33 (d := d_is_step)
  refine ⟨_, fd, _, F.ok sc_is_step (fun vs H Q E h => ?_) (fun cdv A outer s H vs Q E hr h => ?_), He.glo_ok T.X T.G (T.t.fact 5), F.kp, F.bindsN fun _ _ _ _ _ _ us hl => match us, hl with | [_], _ => rfl⟩
  · obtain ⟨p, xs, rfl, _⟩ := h
    rfl
  · obtain ⟨p, xs, rfl, hp, hx, ht, k⟩ := h
    refine ⟨_, PSs.nox (pss_cons (ps_if (pt_cmpR op_eq (pe_callB call_len_seq (by rfl) (n_len T) PySem.boot_len (pa_cons (pv 0) pa_nil)) pe_int (nomark _))
      (pss_one (ps_ret (pe_cmpR op_in_seq (pe_ix ix_tup (pv 0) pe_int (fun _ _ => rfl)) (g_WORDS_ALONE T) rfl)))
      pss_nil)
    (pss_cons (ps_if (pt_cmpR op_ne (pe_callB call_len_seq (by rfl) (n_len T) PySem.boot_len (pa_cons (pv 0) pa_nil)) pe_int (nomark _))
      (pss_one (ps_ret pe_bl))
      pss_nil)
    (pss_cons (ps_asg (pv 0) (pg_tup rfl (pgs_cons (pg_name (i := 1) sc_is_step.nd rfl (Or.inl rfl)) (pgs_cons (pg_name (i := 2) sc_is_step.nd rfl (Or.inl rfl)) pgs_nil))))
    (pss_cons (ps_if (pt_cmpR op_eq (pv 1) pe_str (nomark _))
      (pss_one (ps_ret (pe_cmpR op_in_seq (pv 2) (g_KINDS T) rfl)))
      pss_nil)
    (pss_one (ps_ret (pe_and (pe_cmpR op_in_seq (pv 1) (g_WORDS_OF_THINGS T) rfl) (pe_one (pe_cx (c_is_some_number T) hr (by decide) rfl pass0 (pa_cons (pv 2) pa_nil)))))))))), ?_⟩
    have kH := k H (FrT.refl _ _ _)
    refine ⟨_, rfl, p, _, rfl, .inr (SqT.of hp), rfl, _, rfl, ?_⟩
    rw [int_dec]
    match xs, hp, hx, k, kH with
    | [], hp, hx, k, kH =>
      refine ⟨_, rfl, p, _, rfl, .inr (SqT.of hp), rfl, _, rfl, ?_⟩
      exact kH
    | [a], hp, hx, k, kH =>
      rw [decide_eq_true (by rfl)]
      refine ⟨_, rfl, p, _, 0, .str a, rfl, rfl, SqT.of hp, rfl, ?_⟩
      refine ⟨_, _, rfl, .inr (tup_KQ (xc_WORDS_ALONE T) (by show 4 ≤ sizeLine; decide) H), rfl, rfl, ?_⟩
      exact kH
    | [a, b], hp, hx, k, kH =>
      rw [decide_eq_false (show ¬ ((([a, b].map V.str).length : Nat) : Int) = 1 from (by decide : ¬ ((2 : Nat) : Int) = 1))]
      refine ⟨_, rfl, p, _, rfl, .inr (SqT.of hp), rfl, _, rfl, ?_⟩
      refine ⟨_, rfl, p, _, rfl, SqT.of hp, rfl, _, _, rfl, _, _, rfl, rfl, ?_⟩
      refine ⟨_, rfl, rfl, _, rfl, ?_⟩
      rw [str_dec]
      have es : stepB [a, b] = if a = "walk" then inV (.str b) (kindV.map V.str) else inV (.str a) (thingV.map V.str) && someB b := rfl
      rw [es] at k
      refine iteB (fun c => ?_) (fun c => ?_)
      · rw [if_pos (of_decide_eq_true c)] at k
        refine ⟨_, rfl, _, _, rfl, .inr (tup_KQ (xc_KINDS T) (by show 2 ≤ sizeLine; decide) H), rfl, rfl, ?_⟩
        exact k H (FrT.refl _ _ _)
      · rw [if_neg (of_decide_eq_false c)] at k
        refine ⟨_, rfl, _, _, rfl, .inr (tup_KQ (xc_WORDS_OF_THINGS T) (by show 4 ≤ sizeLine; decide) H), rfl, rfl, ?_⟩
        refine ⟨inV (.str a) (thingV.map V.str), rfl, iteB (fun c2 => ?_) (fun c2 => ?_)⟩
        · rw [c2] at k
          exact ⟨_, rfl, b, rfl, hx b (by simp), ht, k⟩
        · rw [c2] at k
          exact k H (FrT.refl _ _ _)
    | a :: b :: c :: r, hp, hx, k, kH =>
      rw [decide_eq_false (show ¬ ((((a :: b :: c :: r).map V.str).length : Nat) : Int) = 1 by rw [List.length_map, List.length_cons, List.length_cons, List.length_cons]; omega)]
      refine ⟨_, rfl, p, _, rfl, .inr (SqT.of hp), rfl, _, rfl, ?_⟩
      rw [int_dec, decide_eq_false (show ¬ ((((a :: b :: c :: r).map V.str).length : Nat) : Int) = 2 by rw [List.length_map, List.length_cons, List.length_cons, List.length_cons]; omega)]
      exact kH
end
end B

set_option Elab.async false
set_option linter.all false
set_option maxRecDepth 100000
set_option maxHeartbeats 4000000
namespace B
open PySem PySem.Spec PyProof.Rows L2
open SX (S)
/-- the i-th row can't be -/
def badB (i : Nat) (xs : List Str) : Bool := decide (i = 200) || !stepB xs
/-- the first row that can't be -/
def FstBad (rs : List (List Str)) (i : Nat) : Prop := (∃ x, rs[i]? = some x ∧ badB i x = true) ∧ ∀ j y, j < i → rs[j]? = some y → badB j y = false
def NoBad (rs : List (List Str)) : Prop := ∀ i x, rs[i]? = some x → badB i x = false
theorem FstBad.le {rs : List (List Str)} {i : Nat} (h : FstBad rs i) : i ≤ 200 := by
  obtain ⟨⟨x, hx, _⟩, h2⟩ := h
  rcases Nat.lt_or_ge 200 i with z | z
  · have hi := (List.getElem?_eq_some_iff.mp hx).1
    have q := h2 200 rs[200] z (List.getElem?_eq_getElem (by omega))
    unfold badB at q
    rw [decide_eq_true rfl] at q
    cases q
  · exact z
theorem NoBad.le {rs : List (List Str)} (h : NoBad rs) : rs.length ≤ 200 := by
  rcases Nat.lt_or_ge 200 rs.length with z | z
  · have q := h 200 rs[200] (List.getElem?_eq_getElem z)
    unfold badB at q
    rw [decide_eq_true rfl] at q
    cases q
  · exact z
section
variable {P : Program} {w : World} {K : PySem.W.Frag} {mg : Str → Option Value} {base : Heap}
/-- what a refusal of a step leaves -/
def ErrS (K : PySem.W.Frag) (C fld : Str) (i : Nat) (H : Hp) (E : XK) : Prop := ∀ (d : Addr) (H' : Hp), FrT K [] H H' → H' d = some (.xd [(fld, .int i)]) → E (.ref (He.ga K C)) (some d) H'
def spReqSteps (K : PySem.W.Frag) : Sp := fun vs H Q E => ∃ (p : Addr) (zs : List (Addr × List Str)), vs = [.ref p] ∧ RZ H p zs ∧ (∀ z ∈ zs, ∀ x ∈ z.2, x.length ≤ 1000000) ∧ Tb K H ∧
  (NoBad (zs.map (·.2)) → ∀ H', FrT K [] H H' → Q .non H') ∧ ∀ i, FstBad (zs.map (·.2)) i → ErrS K "BadStep" "number" i H E
theorem c_require_steps (T : Txt P w K mg base) : CalX (L2.CX P w) P w K mg base 4 "require_steps" (spReqSteps K) := by
  obtain ⟨fd, F⟩ := T.t.def_ 32 (d := d_require_steps)
  refine ⟨_, fd, _, F.ok sc_require_steps (fun vs H Q E h => ?_) (fun cdv A outer s H vs Q E hr h => ?_), He.glo_ok T.X T.G (T.t.fact 4), F.kp, F.bindsN fun _ _ _ _ _ _ us hl => match us, hl with | [_], _ => rfl⟩
  · obtain ⟨p, zs, rfl, _⟩ := h
    rfl
  · obtain ⟨p, zs, rfl, rz, hx, ht, k1, k2⟩ := h
    refine ⟨_, (pss_one (ps_for (passes_of rfl) rfl (pi_enum (by rfl) (n_enumerate T) (pa_cons (pv 0) pa_nil)) (pg_tup rfl (pgs_cons (pg_name (i := 1) sc_require_steps.nd rfl (Or.inl rfl)) (pgs_cons (pg_name (i := 2) sc_require_steps.nd rfl (Or.inl rfl)) pgs_nil)))
      (pss_one (ps_if (PW.pt (pw_or (pt_cmpR op_eq (pv 1) (g_MOST_STEPS T) (nomark _)) (pw_or1 (pt_not (pt_val (pe_cx (c_is_step T) hr (by decide) rfl pass0 (pa_cons (pv 2) pa_nil)))))))
        (pss_one (ps_raise rfl (takes_of rfl rfl rfl rfl) (mk_BadStep T (hr.mono (by decide)) (pa_cons (pv 1) pa_nil))))
        pss_nil)))), ?_⟩
    refine ⟨_, rfl, p, zs.map fun z => V.ref z.1, rfl, SqL.of rz.1, ?_⟩
    refine forE (K := K) (a := p) (xs := zs.map fun z => V.ref z.1) (fun j σ H' => ∃ (v1 v2 : Option V), σ = [some (.ref p), v1, v2] ∧ (∀ i y, i < j → (zs.map (·.2))[i]? = some y → badB i y = false) ∧ Tb K H' ∧ FrT K [] H H')
      ⟨_, _, rfl, fun i y z => absurd z (Nat.not_lt_zero _), ht, FrT.refl _ _ _⟩ (fun j σ H' _ ⟨_, _, _, _, _, f⟩ => SqL.of (rz.keep0 f).1) ?_ ?_
    · rintro j y T σ H7 hj ⟨v1, v2, rfl, hb7, ht7, f7⟩ hT
      obtain ⟨z, hz, rfl⟩ := atZ hj
      have hm := List.mem_of_getElem? hz
      have hz2 : (zs.map (·.2))[j]? = some z.2 := by rw [List.getElem?_map, hz]; rfl
      have g8 : Frm [] H7 (upd H7 T (.tup [.int j, .ref z.1])) := Frm.of (same_upd hT)
      have e8 : (upd H7 T (.tup [.int j, .ref z.1])) T = some (.tup [.int j, .ref z.1]) := upd_same
      have f8 := f7.trans (g8.toT .nil)
      have ht8 := (g8.toT (K := K) .nil).t ht7
      revert e8 f8 ht8
      generalize (upd H7 T (.tup [.int j, .ref z.1])) = H8
      intro e8 f8 ht8
      refine ⟨T, _, rfl, SqT.of e8, rfl, _, _, rfl, _, _, rfl, rfl, ?_⟩
      refine ⟨_, rfl, rfl, _, rfl, ?_⟩
      rw [int_dec]
      have bad : badB j z.2 = true → ∀ H9, FrT K [] H H9 → ErrS K "BadStep" "number" j H9 E := fun c H9 f9 d H' f e => k2 j ⟨⟨_, hz2, c⟩, hb7⟩ d H' (f9.trans f) e
      have go : badB j z.2 = true → ∀ H9, FrT K [] H H9 → [V.int (j : Int)].length ≤ 1000 ∧ ∀ a, H9 a = none → spOI (He.ga K "BadStep") "number" (.ref a :: ([V.int j] ++ [])) (upd H9 a (exo a (He.ga K "BadStep") none)) (fun v H2 => v = .non ∧ ∃ (d : Addr) (fs : List (Str × V)), H2 a = some (exo a (He.ga K "BadStep") (some d)) ∧ H2 d = some (exd d fs) ∧ H9 d = none ∧ E (.ref (He.ga K "BadStep")) (some d) (upd (del H2 a) d (.xd fs))) (fun _ _ _ => False) := fun c H9 f9 => by
        have := (show FstBad (zs.map (·.2)) j from ⟨⟨_, hz2, c⟩, hb7⟩).le
        exact oi_go (by omega) (by omega) fun d H2 f e _ => bad c H9 f9 d H2 (f.toT .nil) e
      refine iteB (fun c => ?_) (fun c => ?_)
      · refine ⟨_, rfl, go ?_ H8 f8⟩
        have : (j : Int) = 200 := of_decide_eq_true c
        unfold badB
        rw [decide_eq_true (show j = 200 by omega)]
        rfl
      · have nj : ¬ j = 200 := fun z => of_decide_eq_false c (by omega)
        refine ⟨_, rfl, z.1, z.2, rfl, (rz.keep0 f8).2 z hm, hx z hm, ht8, fun H9 f9 => ⟨_, rfl, ?_⟩⟩
        refine iteB (fun c2 => ?_) (fun c2 => ?_)
        · exact ⟨_, rfl, go (by unfold badB; rw [c2, Bool.or_true]) H9 (f8.trans f9)⟩
        · refine ⟨_, _, rfl, fun i y hi hy => ?_, f9.t ht8, f8.trans f9⟩
          rcases Nat.lt_or_eq_of_le (Nat.le_of_lt_succ hi) with q | q
          · exact hb7 i y q hy
          · subst q
            rw [hz2] at hy
            cases hy
            unfold badB
            rw [c2, decide_eq_false nj]
            rfl
    · rintro σ H7 ⟨v1, v2, rfl, hb7, _, f7⟩
      exact k1 (fun i x hx => hb7 i x (by have := (List.getElem?_eq_some_iff.mp hx).1; rw [List.length_map] at this ⊢; exact this) hx) _ f7
end
end B

set_option Elab.async false
set_option linter.all false
set_option maxRecDepth 100000
set_option maxHeartbeats 4000000
namespace B
open PySem PySem.Spec PyProof.Rows L2
/-! ### match of a tuple of texts: case ["word", name], case ["word"], case _ -/
/-- the ways of a match over a tuple that holds these texts -/
def TC : Type := List Str → TS
structure PCs (X : Cx) (cs : List MatchCase) (t : TC) : Prop where
  run : ∀ (pins : List (Addr × Obj)) (s : Shared) (σ : L2.St) (H : Hp) (D : Ends) (a : Addr) (ws : List Str) (first : Bool), Inv X pins σ H s → SqT X.K H a (ws.map V.str) → t ws D σ H → wpAny (model X.prog X.w) X.A (matchCases cs X.env (.ref a) first) (SP X pins D) X.xe s
def tWild (t : TS) : TC := fun _ => t
def tCase2 (lit : Str) (i : Nat) (t : TS) (u : TC) : TC := fun ws D σ H => (∃ x, ws = [lit, x] ∧ t D (σ.set i (some (.str x))) H) ∨ ((∀ x, ws ≠ [lit, x]) ∧ u ws D σ H)
def tCase1 (lit : Str) (t : TS) (u : TC) : TC := fun ws D σ H => (ws = [lit] ∧ t D σ H) ∨ (ws ≠ [lit] ∧ u ws D σ H)
def tMatch (K : PySem.W.Frag) (te : TE) (t : TC) : TS := fun D σ H => te σ H fun x H1 => ∃ (a : Addr) (ws : List Str), x = .ref a ∧ SqT K H1 a (ws.map V.str) ∧ t ws D σ H1
section
variable {X : Cx}
theorem ps_match {e : Expr} {te : TE} {cs : List MatchCase} {t : TC} {pos : Pos} (he : PE X e te) (hc : PCs X cs t) : PS X (.Match e cs pos) (tMatch X.K te t) := by
  refine ⟨fun pins s σ H D I h => ?_⟩
  refine wpAny_Match (thn (he.run pins s σ H _ I h) fun u s1 ⟨x, H1, I1, r1, a, ws, ex, hq, q⟩ => ?_)
  subst ex
  obtain rfl : u = Value.ref a := r1
  exact hc.run pins s1 σ H1 D a ws true I1 hq q
theorem pc_wild {body : List Stmt} {t : TS} {p : Pos} (hb : PSs X body t) : PCs X [⟨.MatchAs none none p, none, body⟩] (tWild t) := by
  refine ⟨fun pins s σ H D a ws first I hq h => ?_⟩
  refine wpAny_matchCases_cons (wpAny_matchPattern_Capture ?_)
  show wpAny _ _ (assignInOrder [] []) _ _ _
  exact assignInOrder_nil (hb.run pins s σ H D I h)
/-- a written text against a text -/
theorem eq_lit {pins : List (Addr × Obj)} {s : Shared} {σ : L2.St} {H : Hp} {lit x : Str} {k : Nat} {p q : Pos} {u : Value} {Q : Option (List (Str × Value)) → Shared → Prop} (I : Inv X pins σ H s) (ru : RelV (.str x) u)
    (h : ∀ s', Inv X pins σ H s' → Q (if x = lit then some [] else none) s') : wpAny (model X.prog X.w) X.A (matchPattern (.MatchValue (.Constant (.str lit) k p) q) X.env u) Q X.xe s := by
  refine wpAny_matchPattern_Value (Calls.Constant_str ?_)
  refine thn (op_eq pins _ σ H (.str x) (.str lit) u _ (fun v H1 => v = .bl (decide (x = lit)) ∧ H1 = H) (I.tok _) ru ⟨_, rfl⟩ ⟨rfl, by rw [str_dec], rfl⟩) fun c s2 ⟨v, H1, I1, r1, ev, eH⟩ => ?_
  subst ev
  rw [eH] at I1
  have ec : c = Value.bool (decide (x = lit)) := r1
  subst ec
  show wpAny _ _ (pure (decide (x = lit))) _ _ _
  refine wpAny_pure ?_
  have q := h s2 I1
  by_cases z : x = lit
  · rw [if_pos z] at q
    rw [decide_eq_true z]
    exact q
  · rw [if_neg z] at q
    rw [decide_eq_false z]
    exact q
theorem hit_of {ws : List Str} {its : List Value} (r : Vals (ws.map V.str) its) {h h' : Heap} {a : Addr} (ht : IsTup h a its.toArray) : its.toArray.size = ws.length := by
  have := Paired.length r
  rw [List.length_map] at this
  rw [List.size_toArray, ← this]
theorem pc_seq2 {lit x : Str} {i k : Nat} {p1 p2 p3 p4 : Pos} {body : List Stmt} {cs : List MatchCase} {t : TS} {u : TC} (hc : X.calm = true) (hN : X.N.Nodup) (hi : X.N[i]? = some x) (hx : X.env.scope.names.lookup x = some .local) (hb : PSs X body t) (hr : PCs X cs u) :
    PCs X (⟨.MatchSequence [.MatchValue (.Constant (.str lit) k p1) p2, .MatchAs none (some x) p3] p4, none, body⟩ :: cs) (tCase2 lit i t u) := by
  refine ⟨fun pins s σ H D a ws first I hq h => ?_⟩
  obtain ⟨its, rv, ht, hz⟩ := I.tuple hq
  have hsz := hit_of rv (h' := s.heap) ht
  have wl : ws.length ≤ sizeLine := by
    rw [List.length_map] at hz
    exact hz
  have fit : (its.toArray.size : Int) < 2 ^ 63 := by
    rw [hsz]
    have : sizeLine = 16777216 := sizeLine_eq
    omega
  refine wpAny_matchCases_cons ?_
  have miss : (∀ y, ws ≠ [lit, y]) → ∀ s', Inv X pins σ H s' → wpAny (model X.prog X.w) X.A (matchCases cs X.env (.ref a) false) (SP X pins D) X.xe s' := fun no s' I' => by
    rcases h with ⟨y, e, _⟩ | ⟨_, q⟩
    · exact absurd e (no y)
    · exact hr.run pins s' σ H D a ws false I' hq q
  by_cases e2 : ws.length = 2
  · refine matchSeq_tuple_hit ht fit (by rw [hsz, e2]; rfl) ?_
    have eu : [Pattern.MatchValue (.Constant (.str lit) k p1) p2, .MatchAs none (some x) p3].length = its.toArray.size := by rw [hsz, e2]; rfl
    rw [eu]
    refine unpackItems_tuple (I.ok.hd hc) ht fun h' hx' => ?_
    have I1 : Inv X pins σ H { s with heap := h', toks := s.toks + 1 + 1 } := I.kept (t' := s.toks + 1 + 1) fun b o e => hx' b o (Nat.ne_of_lt (Heap.lt_size e)) e
    obtain ⟨x0, x1, rfl⟩ : ∃ x0 x1, ws = [x0, x1] := by
      match ws, e2 with
      | [x0, x1], _ => exact ⟨x0, x1, rfl⟩
    clear ht fit hsz eu hx' e2
    cases rv with
    | @cons _ u0 _ _ r0 rv1 =>
      cases rv1 with
      | @cons _ u1 _ _ r1 rv2 =>
        cases rv2
        · show wpAny _ _ (matchEach _ X.env [u0, u1]) _ _ _
          refine wpAny_matchEach_cons (eq_lit I1 r0 fun s2 I2 => ?_)
          by_cases c : x0 = lit
          · rw [if_pos c]
            subst c
            refine wpAny_matchEach_cons (wpAny_matchPattern_Capture (wpAny_matchEach_nil ?_))
            show wpAny _ _ (assignInOrder [bindName X.env x] [u1]) _ _ _
            refine assignInOrder_cons (wpAny_bindName (store_ok I2 hN hi (.inl hx) r1 (fun s3 I3 => assignInOrder_nil ?_) (.inr hx)))
            rcases h with ⟨y, e, q⟩ | ⟨no, _⟩
            · cases e
              exact hb.run pins s3 _ H D I3 q
            · exact absurd rfl (no x1)
          · rw [if_neg c]
            exact miss (fun y z => c (by cases z; rfl)) s2 I2
  · refine matchSeq_tuple_miss ht fit (by rw [hsz]; exact e2) ?_
    exact miss (fun y z => e2 (by rw [z]; rfl)) _ (I.tok _)
theorem pc_seq1 {lit : Str} {k : Nat} {p1 p2 p4 : Pos} {body : List Stmt} {cs : List MatchCase} {t : TS} {u : TC} (hc : X.calm = true) (hb : PSs X body t) (hr : PCs X cs u) :
    PCs X (⟨.MatchSequence [.MatchValue (.Constant (.str lit) k p1) p2] p4, none, body⟩ :: cs) (tCase1 lit t u) := by
  refine ⟨fun pins s σ H D a ws first I hq h => ?_⟩
  obtain ⟨its, rv, ht, hz⟩ := I.tuple hq
  have hsz := hit_of rv (h' := s.heap) ht
  have fit : (its.toArray.size : Int) < 2 ^ 63 := by
    rw [List.length_map] at hz
    rw [hsz]
    have : sizeLine = 16777216 := sizeLine_eq
    omega
  refine wpAny_matchCases_cons ?_
  have miss : ws ≠ [lit] → ∀ s', Inv X pins σ H s' → wpAny (model X.prog X.w) X.A (matchCases cs X.env (.ref a) false) (SP X pins D) X.xe s' := fun no s' I' => by
    rcases h with ⟨e, _⟩ | ⟨_, q⟩
    · exact absurd e no
    · exact hr.run pins s' σ H D a ws false I' hq q
  by_cases e1 : ws.length = 1
  · refine matchSeq_tuple_hit ht fit (by rw [hsz, e1]; rfl) ?_
    have eu : [Pattern.MatchValue (.Constant (.str lit) k p1) p2].length = its.toArray.size := by rw [hsz, e1]; rfl
    rw [eu]
    refine unpackItems_tuple (I.ok.hd hc) ht fun h' hx' => ?_
    have I1 : Inv X pins σ H { s with heap := h', toks := s.toks + 1 + 1 } := I.kept (t' := s.toks + 1 + 1) fun b o e => hx' b o (Nat.ne_of_lt (Heap.lt_size e)) e
    obtain ⟨x0, rfl⟩ : ∃ x0, ws = [x0] := by
      match ws, e1 with
      | [x0], _ => exact ⟨x0, rfl⟩
    clear ht fit hsz eu hx' e1
    cases rv with
    | @cons _ u0 _ _ r0 rv1 =>
      cases rv1
      · show wpAny _ _ (matchEach _ X.env [u0]) _ _ _
        refine wpAny_matchEach_cons (eq_lit I1 r0 fun s2 I2 => ?_)
        by_cases c : x0 = lit
        · rw [if_pos c]
          subst c
          refine wpAny_matchEach_nil ?_
          show wpAny _ _ (assignInOrder [] []) _ _ _
          refine assignInOrder_nil ?_
          rcases h with ⟨_, q⟩ | ⟨no, _⟩
          · exact hb.run pins s2 σ H D I2 q
          · exact absurd rfl no
        · rw [if_neg c]
          exact miss (fun z => c (by cases z; rfl)) s2 I2
  · refine matchSeq_tuple_miss ht fit (by rw [hsz]; exact e1) ?_
    exact miss (fun z => e1 (by rw [z]; rfl)) _ (I.tok _)
end
end B

set_option Elab.async false
set_option linter.all false
set_option maxRecDepth 100000
set_option maxHeartbeats 4000000
namespace B
open PySem PySem.Spec PyProof.Rows L2
/-! ### a comprehension whose step may let an exception out -/
section
variable {M : Model} {A : Around} {E : Value → Shared → Prop} {s : Shared} {env : Env}
/-- behind the block, as compPost has it, the block's own env told -/
def postX (M : Model) (A : Around) (E : Value → Shared → Prop) (use : Option (Value → Sem Unit)) (Q : Value → Shared → Prop) (acc : Value) (ce : Env) : Result → Shared → Prop
  | .ok f, s' => compPost M A E use Q acc ce.locals (.ok f) s'
  | .error x, s' => ∃ m, s'.heap.Ns ce.locals m ∧ ∀ h', Heap.SameBut ce.locals s'.heap h' → wpAny M A (PySem.passOn "comprehension.variables-let-go" x ce : Sem Value) (fun _ _ => False) E { s' with heap := h' }
theorem compX {e : Expr} {scope : Scope} {pos : Pos} {newAcc first : Sem Value} {g : Comprehension} {gs : List Comprehension} {cl : List (Str × Addr)} {use : Option (Value → Sem Unit)} {Q : Value → Shared → Prop}
    (hcl : clausesOf e = g :: gs) (hs : ∀ x, foldedSetIterable g.iter env x = pure x) (hclos : closureFor scope env = pure cl) (hkind : scope.kind = .function) (hnames : ∀ y ∈ scope.names, y.2 = .local → scope.names.lookup y.1 = some .local)
    (h : wpAny M A first (fun x s1 => wpAny M A (pyIter x) (fun it s2 => wpAny M A newAcc (fun acc s3 => wpAny M A (newFunctionEnv scope env.globals cl [] env.qual none .none (some env)) (fun cenv s4 =>
      codeAny M A (.compStart e 0 it acc { cenv with scope := relabel scope env }) (postX M A E use Q acc { cenv with scope := relabel scope env }) s4) E s3) E s2) E s1) E s) :
    wpAny M A (comprehension e scope env pos newAcc false first use) Q E s := by
  unfold comprehension
  rw [hclos, hcl]
  refine wpAny_bind (thn h fun x s1 h1 => wpAny_bind (wpAny_standAt (wpAny_bind (wpAny_of_eq (hs x) ?_))))
  refine wpAny_bind (wpAny_holding (thn h1 fun it s2 h2 => wpAny_standIf (wpAny_bind ?_)))
  refine thn h2 fun acc s3 h3 => wpAny_bind (wpAny_pure (wpAny_bind (thn h3 fun cenv s4 h4 => ?_)))
  dsimp only
  have loc : ∀ y ∈ (scope.names.filter fun y => (y.2 == .local || y.2 == .cell) && y.1 != (".0" : Str)).reverse, y.2 = .local → Env.kindOf { cenv with scope := relabel scope env } y.1 = some .local := fun y hy hl =>
    lookup_relabel_local (hnames y (List.mem_filter.mp (List.mem_reverse.mp hy)).1 hl)
  refine wpAny_holding (wpAny_bind (wpAny_attempt (wpAny_holding (wpAny_run (codeAny_mono h4 fun r s5 hr => ?_)))))
  match r, use, hr with
  | .ok f, none, ⟨m, hn, k⟩ => exact wpAny_bind (wpAny_holding (wpAny_comp_letGo (cenv := { cenv with scope := relabel scope env }) hkind _ s5 m loc hn fun h' _ _ sb => wpAny_pure (k h' sb)))
  | .ok f, some u, hr =>
    refine wpAny_bind (wpAny_rule (wpAny_bind (wpAny_holding (thn hr fun _ s6 ⟨m, hn, k⟩ => ?_))))
    refine wpAny_bind (wpAny_comp_letGo (cenv := { cenv with scope := relabel scope env }) hkind _ s6 m (fun y hy hl => ?_) hn fun h' _ _ sb => wpAny_pure (k h' sb))
    exact (List.mem_append.mp hy).elim (fun z => loc y (List.mem_of_mem_drop z) hl) fun z => loc y (List.mem_of_mem_take z) hl
  | .error x, none, ⟨m, hn, k⟩ =>
    exact wpAny_bind (wpAny_holding (wpAny_comp_letGo (cenv := { cenv with scope := relabel scope env }) hkind _ s5 m loc hn fun h' _ _ sb => wpAny_mono (k h' sb) (fun _ _ z => z.elim) fun _ _ z => z))
  | .error x, some u, ⟨m, hn, k⟩ =>
    exact wpAny_bind (wpAny_holding (wpAny_comp_letGo (cenv := { cenv with scope := relabel scope env }) hkind _ s5 m loc hn fun h' _ _ sb => wpAny_mono (k h' sb) (fun _ _ z => z.elim) fun _ _ z => z))
end
theorem frames_but {base base' h h' : Heap} {C : Addr} (sb : Heap.SameBut C h h') : ∀ {l : List Env}, h.FunFrames base l → (∀ L ∈ frs l, base'.get? L = none ∧ L ≠ C) → h'.FunFrames base' l
  | [], _, _ => trivial
  | e :: l, x, k => by
    obtain ⟨y1, ⟨L, o, y2, _, y3, y4⟩, y5⟩ := x
    have z := k L (List.mem_filterMap.mpr ⟨e, .head _, y2⟩)
    refine ⟨y1, ⟨L, o, y2, z.1, (sb.2 L z.2).trans y3, y4⟩, frames_but sb y5 fun L' hL' => ?_⟩
    obtain ⟨e', he', q⟩ := List.mem_filterMap.mp hL'
    exact k L' (List.mem_filterMap.mpr ⟨e', .tail _ he', q⟩)
theorem note_same {x : Value} {e1 e2 : Env} (h : e1.frame = e2.frame) : noteFrame x e1 = noteFrame x e2 := by
  unfold noteFrame PySem.frameOf
  rw [h]
section
variable {X : Cx} {pins : List (Addr × Obj)} {σ : L2.St} {H H3 : Hp} {s s3 s' : Shared} {fp : List Addr} {E : XK} {W : WX} {u : Value} {ce : Env}
theorem airX (I3 : Inv X pins σ H3 s3) (f3 : ∀ b ∈ fp, FpOk X pins H3 b ∧ b < s3.heap.objs.size) (os3 : s.os = s3.os) (un : Un (frs X.stack) fp H3 H s3.heap s.heap) (nC : H s3.heap.objs.size = none) {m : Str → Option Value} (ns : s.heap.Ns s3.heap.objs.size m)
    (c : CX X.prog X.w X.stack H s E u s') (hs : X.stack = X.env :: X.outer) (hf : X.env.frame = some X.env.locals) (tk : Takes X W) (hW : ∀ cls d H', E cls d H' → W cls d σ H') (hl : ce.locals = s3.heap.objs.size) (hfr : ce.frame = X.env.frame) {use : Option (Value → Sem Unit)} {Q : Value → Shared → Prop} {acc : Value} :
    notedBy (model X.prog X.w) X.A ce (fun e s4 => postX (model X.prog X.w) X.A X.xe use Q acc ce (.error e) s4) u s' := by
  obtain ⟨a, B, H', cls, d, rfl, fl, hokB, ub, na, os, ag, hE⟩ := c
  generalize hC : s3.heap.objs.size = C at nC ns hl
  have inF : ∀ L ∈ frs X.stack, L ≠ C ∧ B.get? L = none := fun L hL => by
    obtain ⟨_, o, q, _⟩ := I3.stack.mem hL
    exact ⟨by rw [← hC]; exact Nat.ne_of_lt (Heap.lt_size q), (fl.2.2.1.mem hL).1⟩
  have nF : C ∉ frs X.stack := fun z => (inF C z).1 rfl
  obtain ⟨oC, eC⟩ : ∃ oC, s.heap.get? C = some oC := by obtain ⟨o, _, _, q, _⟩ := ns; exact ⟨o, q⟩
  have BC : B.get? C = some oC := ub.keep C oC eC nC nF
  have nCH : H' C = none := ub.free C oC eC nC
  unfold notedBy
  rw [note_same hfr]
  refine HandSPX.looks_onZ Zc.steady (by rw [I3.ok.frames, hs]) hf (by rw [← hs]; exact fl) fun h1 hd1 up1 => ?_
  refine ⟨m, by rw [hl]; exact ns.at' fun o q => hd1.1 C o (by rw [eC] at q; cases q; exact BC), fun h2 sb => ?_⟩
  rw [hl] at sb
  have B' : ∀ b o, (PySem.W.hideAll B [C]).get? b = some o → B.get? b = some o ∧ b ≠ C := fun b o e => ⟨PySem.W.of_hideAll _ e, fun z => by rw [z, PySem.W.hideAll_none [C] (.head _)] at e; cases e⟩
  have B'n : ∀ b, B.get? b = none → (PySem.W.hideAll B [C]).get? b = none := fun b e => by
    cases q : (PySem.W.hideAll B [C]).get? b with
    | none => rfl
    | some o => rw [(B' b o q).1] at e; cases e
  have B'i : ∀ b o, B.get? b = some o → b ≠ C → (PySem.W.hideAll B [C]).get? b = some o := fun b o e n => PySem.W.hideAll_get _ e fun z => n (by simpa using z)
  have neC : ∀ b, B.get? b = none → b ≠ C := fun b e z => by rw [z, BC] at e; cases e
  obtain ⟨d1, d2, d3, oe, vs, T, oT, ts, t1, t2, t3, t4, t5, t6, t7, t8, t9⟩ := hd1
  have hd2 : HandSPX.HeldZ (PySem.W.hideAll B [C]) (X.env :: X.outer) a (Zc cls d) X.env.locals h2 :=
    ⟨fun b o e => (sb.2 b (B' b o e).2).trans (d1 b o (B' b o e).1), B'n a d2, frames_but sb d3 fun L hL => by rw [← hs] at hL; exact ⟨B'n L (inF L hL).2, (inF L hL).1⟩,
      oe, vs, T, oT, ts, (sb.2 a (neC a d2)).trans t1, t2, t3, t4, B'n T t5, t6, (sb.2 T (neC T t5)).trans t7, t8, t9⟩
  unfold PySem.passOn
  refine wpAny_bind (wpAny_field ((sb.2 a (neC a d2)).trans t1) t3 t4 ?_)
  rw [if_neg (show ¬ ((Value.ref T == Value.none) = true) from by simp)]
  have fin : wpAny (model X.prog X.w) X.A (setFlight (.ref a) ce.frame) (fun _ s7 => wpAny (model X.prog X.w) X.A (throw (.ref a) : Sem Value) (fun _ _ => False) X.xe s7) X.xe { s' with heap := h2 } := by
    rw [hfr, hf]
    refine HandSPX.setFlight_onZ hd2 fun h3 hd3 up3 => wpAny_throw (tk _ _ ?_)
    obtain ⟨G, g1, g2⟩ := restrict s'.heap fun b => ((PySem.W.hideAll B [C]).get? b).isSome || decide (b ∈ frs X.stack)
    have og : ∀ b o, G.get? b = some o → s'.heap.get? b = some o ∧ (((PySem.W.hideAll B [C]).get? b).isSome = true ∨ b ∈ frs X.stack) := fun b o e => by
      cases q : (((PySem.W.hideAll B [C]).get? b).isSome || decide (b ∈ frs X.stack)) with
      | false => rw [g2 b q] at e; cases e
      | true =>
        rw [g1 b q] at e
        exact ⟨e, by simpa [Bool.or_eq_true] using q⟩
    have gB : ∀ b o, B.get? b = some o → b ≠ C → G.get? b = some o := fun b o e n => by
      rw [g1 b (by simp [B'i b o e n])]
      exact fl.1 b o e
    have gF : ∀ b, b ∈ frs X.stack → G.get? b = s'.heap.get? b := fun b hb => g1 b (by simp [hb])
    have lC : ∀ b o, s3.heap.get? b = some o → b ≠ C := fun b o e => by rw [← hC]; exact Nat.ne_of_lt (Heap.lt_size e)
    have hokG : HOk X.prog X.w H' G := fun b o q => (hokB b o q).stay (fun c v hc r => gB c v r fun z => by
      subst z
      rcases hc with z | z
      · rw [z, q] at nCH; cases nCH
      · rw [nCH] at z; cases z) (fun _ r => r) fun _ _ r => r
    refine ⟨a, PySem.W.hideAll B [C], { s' with heap := G }, pins, σ, H', cls, d, rfl, ?_, fun b o e hb => ?_, fun b o e nf => ?_, .inr (.inr (by rw [hs]; exact hd3)), na, rfl, ag, hW _ _ _ hE⟩
    · refine I3.call' (ch := fp) (show s'.os = s3.os from os.trans os3) ⟨fun b o e n hb hx => ?_, fun b o e n hb hx => ?_, fun b o e n hx => ?_, fun b o e hx => ?_, fun b xs e => ub.tups _ _ (un.tups b xs e), fun b o xs e => ub.frzs _ _ _ (un.frzs b o xs e), fun b ps e => ?_⟩ hokG ag
        fun b hb => ⟨(f3 b hb).1.2.2.2.1, (f3 b hb).1.2.1, (f3 b hb).1.2.2.2.2.1, (f3 b hb).1.2.2.2.2.2⟩
      · exact gB b o (ub.keep b o (un.keep b o e n hb hx) (un.free b o e n hx) hb) (lC b o e)
      · obtain ⟨sl, e1⟩ := un.slot b o e n hb hx
        obtain ⟨sl2, e2⟩ := ub.slot b _ e1 hb
        exact ⟨sl2, by show G.get? b = _; rw [gF b hb]; exact e2⟩
      · by_cases hb : b ∈ frs X.stack
        · obtain ⟨sl, e1⟩ := un.slot b o e n hb hx
          exact ub.free b _ e1 (un.free b o e n hx)
        · exact ub.free b o (un.keep b o e n hb hx) (un.free b o e n hx)
      · obtain ⟨o1, e1⟩ := un.there b o e hx
        by_cases hb : b ∈ frs X.stack
        · obtain ⟨sl, e2⟩ := ub.slot b o1 e1 hb
          exact ⟨_, by show G.get? b = _; rw [gF b hb]; exact e2⟩
        · obtain ⟨o2, e2⟩ := ub.there b o1 e1 hb
          exact ⟨o2, gB b o2 e2 (lC b o e)⟩
      · obtain ⟨m1, e1⟩ := un.tbls b ps e
        obtain ⟨m2, e2⟩ := ub.tbls b _ e1
        exact ⟨m1 ++ m2, by rw [e2, Array.append_assoc]⟩
    · obtain ⟨e1, e2⟩ := og b o e
      rcases e2 with e2 | e2
      · obtain ⟨o2, q⟩ := Option.isSome_iff_exists.mp e2
        have z := fl.1 b o2 (B' b o2 q).1
        rw [e1] at z; cases z
        exact q
      · exact absurd e2 hb
    · obtain ⟨e1, e2⟩ := og b o e
      have n : b ≠ C := by
        rcases e2 with e2 | e2
        · obtain ⟨o2, q⟩ := Option.isSome_iff_exists.mp e2
          exact (B' b o2 q).2
        · exact (inF b e2).1
      obtain ⟨sl, q1⟩ := up1 b o e1 nf
      obtain ⟨sl2, q2⟩ := up3 b { o with slots := sl } ((sb.2 b n).trans q1) nf
      exact ⟨sl2, q2⟩
  first
    | exact wpAny_bind (wpAny_pure (wpAny_bind fin))
    | exact wpAny_bind fin
end
/-- the block of a comprehension, what its step's call lets out with E told -/
abbrev blkE (X : Cx) (E : XK) (s : Shared) (H : Hp) (scope : Scope) (cenv : Env) (fp : List Addr) : Cx :=
  (X.blk s H scope cenv fp).wish fun u s' => ∃ pins σ H1 s1, Inv (X.blk s H scope cenv fp) pins σ H1 s1 ∧ L2.CX X.prog X.w X.stack H1 s1 E u s'
theorem pass_blk {X : Cx} {E : XK} {s0 : Shared} {H0 : Hp} {scope : Scope} {cenv : Env} {fp : List Addr} (pins : List (Addr × Obj)) (σ : L2.St) (H : Hp) (s : Shared) (e : Value) (s' : Shared) (I : Inv (blkE X E s0 H0 scope cenv fp) pins σ H s) (c : L2.CX X.prog X.w X.stack H s E e s') : (blkE X E s0 H0 scope cenv fp).xe e s' :=
  ⟨pins, σ, H, s, I.unwish, c⟩
section
variable {X : Cx} {E : XK} {W : WX} {elt tg iter : Expr} {ifs : List Expr} {scope : Scope} {own : List (Str × Nat)} {pos spos : Pos} {wi : TI} {g : TG} {tt : TT} {te : TE}
theorem coreX {pins : List (Addr × Obj)} {s : Shared} {σ : L2.St} {H : Hp} {Q : VK} {pos' : Pos} {use : Option (Value → Sem Unit)} {Qf : Value → Shared → Prop} (hs : X.stack = X.env :: X.outer) (hf : X.env.frame = some X.env.locals) (tk : Takes X W) (hW : ∀ cls d H', E cls d H' → W cls d σ H')
    (hc : X.calm = true) (hN : X.N.Nodup) (I : Inv X pins σ H s) (hi : PI X tg iter wi) (ok : BlkOk X.N X.env.scope scope own)
    (hg : ∀ (s : Shared) (H : Hp) (C : Addr) (cl : List (Str × Addr)) (fp : List Addr), PG (X.blk s H scope (compEnvC scope cl C X.env) fp) tg g) (ht : ∀ (s : Shared) (H : Hp) (C : Addr) (cl : List (Str × Addr)) (fp : List Addr), PTs (X.blk s H scope (compEnvC scope cl C X.env) fp) ifs tt)
    (he : ∀ (s : Shared) (H : Hp) (C : Addr) (cl : List (Str × Addr)) (fp : List Addr), PE (blkE X E s H scope (compEnvC scope cl C X.env) fp) elt te) (hsi : ∀ x, foldedSetIterable iter X.env x = pure x) (h : tLc wi g tt te (own.map (·.2)) σ H Q)
    (fin : ∀ D C s' m H', Inv X pins σ H' s' → Q (.ref D) H' → s'.heap.Ns C m → FpOk X pins H' C → compPost (model X.prog X.w) X.A X.xe use Qf (.ref D) C (.ok .next) s') :
    wpAny (model X.prog X.w) X.A (comprehension (.ListComp elt [⟨tg, iter, ifs, 0⟩] scope pos) scope X.env pos' (newList []) false (eval iter X.env) use) Qf X.xe s := by
  have fr : ∀ y ∈ scope.names, y.2 = .free → ∃ c, X.env.cells.lookup y.1 = some c := fun y hy e => (ok.free y hy e).elim (fun k => I.ok.has _ (.inl k)) fun k => I.ok.has _ (.inr k)
  refine compX (use := use) rfl hsi (closure_ok fr) ok.kind (fun y hy e => by rw [ok.uniq y hy, e]) (thn (hi.run pins s σ H _ I h) fun xv s1 hx => thn hx fun itv s2 h2 => ?_)
  obtain ⟨it, fp, tn, J, H2, rfl, I2, T, st2, f2, q⟩ := h2
  refine wpAny_newObj_type (newEnv_comp ?_) (by show 0 ≤ sizeLine; decide)
  generalize hD : s2.heap.objs.size = D
  obtain ⟨V, ⟨m0, v0⟩, turn⟩ := q D (I2.hok.fresh (Nat.le_of_eq hD))
  generalize hs3 : ({ s2 with heap := s2.heap.push { cls := .type "list", data := .seq ([] : List Value).toArray } } : Shared) = s3
  have p3 : s3.heap = s2.heap.push { cls := .type "list", data := .seq ([] : List Value).toArray } := by rw [← hs3]
  have I3 : Inv X pins σ (upd H2 D (.lst [])) s3 := by
    rw [← hs3]
    exact I2.laid (t' := s2.toks) (fun b o e => Heap.get?_push_of_some _ e) (Nat.le_of_eq hD) ⟨Nat.zero_le _, [], 0, .nil, by rw [← hD]; exact Heap.get?_push_size _ rfl⟩
  have f3 : ∀ b ∈ fp, FpOk X pins (upd H2 D (.lst [])) b ∧ b < s3.heap.objs.size := fun b hb => by
    obtain ⟨o, e, _⟩ := T.obj _ _ st2 b hb
    have lt := Heap.lt_size e
    exact ⟨⟨by rw [upd_ne (by rw [← hD]; exact Nat.ne_of_lt lt)]; exact (f2 b hb).1, (f2 b hb).2⟩, by rw [p3, Heap.size_push]; exact Nat.lt_succ_of_lt lt⟩
  have st3 : tn 0 s3.heap := T.keep _ _ _ st2 fun b _ o e => by rw [p3]; exact Heap.get?_push_of_some _ e
  have I4 := block_start I3 ok hN f3
  have P1 := hg s3 (upd H2 D (.lst [])) s3.heap.objs.size (cellsFrom (s3.heap.objs.size + 1) scope.names (cloFrom X.env.cells scope.names [])) fp
  have P2 := ht s3 (upd H2 D (.lst [])) s3.heap.objs.size (cellsFrom (s3.heap.objs.size + 1) scope.names (cloFrom X.env.cells scope.names [])) fp
  have P3 := he s3 (upd H2 D (.lst [])) s3.heap.objs.size (cellsFrom (s3.heap.objs.size + 1) scope.names (cloFrom X.env.cells scope.names [])) fp
  show codeAny _ _ (.compStart (.ListComp elt [⟨tg, iter, ifs, 0⟩] scope pos) 0 (.ref it) (.ref D) (compEnvC scope (cellsFrom (s3.heap.objs.size + 1) scope.names (cloFrom X.env.cells scope.names [])) s3.heap.objs.size X.env)) (postX (model X.prog X.w) X.A X.xe use Qf (.ref D) (compEnvC scope (cellsFrom (s3.heap.objs.size + 1) scope.names (cloFrom X.env.cells scope.names [])) s3.heap.objs.size X.env)) { s3 with heap := pushCells (s3.heap.push { cls := .type "dict", data := .dict #[] }) scope.names }
  have nfp : ∀ b ∈ fp, (upd H2 D (.lst [])) b = none := fun b hb => (f3 b hb).1.1
  generalize hce : compEnvC scope (cellsFrom (s3.heap.objs.size + 1) scope.names (cloFrom X.env.cells scope.names [])) s3.heap.objs.size X.env = ce at I4 P1 P2 P3 ⊢
  have cL : ce.locals = s3.heap.objs.size := by subst hce; rfl
  have cF : ce.frame = X.env.frame := by subst hce; rfl
  generalize hH3 : upd H2 D (.lst []) = H3 at I3 I4 P1 P2 P3 v0 nfp f3
  generalize hs4 : ({ s3 with heap := pushCells (s3.heap.push { cls := .type "dict", data := .dict #[] }) scope.names } : Shared) = s4 at I4 ⊢
  have st4 : tn 0 s4.heap := T.keep _ _ _ st3 fun b _ o e => by rw [← hs4]; exact pushCells_keeps _ _ _ _ (Heap.get?_push_of_some _ e)
  have stat : ∀ {σ' : L2.St} {H' : Hp} {s' : Shared}, Inv (X.blk s3 H3 scope ce fp) [] σ' H' s' → (∀ b ∈ fp, H' b = none) → ∀ b ∈ fp, FpOk (X.blk s3 H3 scope ce fp) [] H' b := fun {σ' H' s'} J hn b hb =>
    ⟨hn b hb, (J.ok.exf b hb).1, J.ok.exfs b hb, .inl hb, (J.ok.exf b hb).2, fun p hp => absurd (show p ∈ ([] : List (Addr × Obj)) ++ [] from hp) (by simp)⟩
  have loop : codeAny (model X.prog X.w) X.A (.compLoop (.ListComp elt [⟨tg, iter, ifs, 0⟩] scope pos) 0 (.ref it) (.ref D) ce) (postX (model X.prog X.w) X.A X.xe use Qf (.ref D) ce) s4 := by
    refine compLoop_any (fun n s' => ∃ i H', Inv (X.blk s3 H3 scope ce fp) [] (wipe σ (own.map (·.2))) H' s' ∧ tn i s'.heap ∧ (∀ b ∈ fp, H' b = none) ∧ V i n H') ?_ m0 ⟨0, H3, I4, st4, nfp, v0⟩
    rintro n s5 ⟨i, H5, I5, st5, n5, v5⟩
    rcases turn i n H5 v5 with ⟨stop, qq⟩ | ⟨go, Nx, hNx, step⟩
    · refine thnF (T.done (X.blk s3 H3 scope ce fp) rfl rfl rfl hc i [] s5 _ H5 (fun _ _ => False) I5 (stat I5 n5) st5 stop) fun r s6 ⟨hr, I6⟩ => ?_
      subst hr
      have I7 : Inv X pins σ H5 s6 := I3.call' (ch := fp) I6.os I6.base I6.hok I6.bare fun b hb => ⟨(f3 b hb).1.2.2.2.1, (f3 b hb).1.2.1, (f3 b hb).1.2.2.2.2.1, (f3 b hb).1.2.2.2.2.2⟩
      obtain ⟨m, hn, _⟩ := I6.loc
      have hn : s6.heap.Ns ce.locals m := hn
      have nC : H5 ce.locals = none := I6.free
      rw [cL] at hn nC
      show compPost _ _ _ _ _ _ ce.locals _ _
      rw [cL]
      exact fin D s3.heap.objs.size s6 m H5 I7 qq hn (I3.fpOk (Nat.le_refl _) nC)
    · refine thnF (T.item (X.blk s3 H3 scope ce fp) rfl rfl rfl hc i [] s5 _ H5 (fun _ _ => False) I5 (stat I5 n5) st5 go) fun r s6 ⟨u, hr, h6⟩ => ?_
      subst hr
      refine thnF h6 fun _ s7 ⟨x, H7, I7, r7, y7, st7, n7⟩ => ?_
      refine thnF (P1.run _ s7 _ H7 x u _ (I7.pinned (stat I7 n7) (T.obj _ _ st7)) r7 (step x H7 y7)) fun _ s8 ⟨σ8, H8, I8, hw8, q8⟩ => ?_
      refine thnF (P2.run _ s8 σ8 H8 _ I8 q8) fun b s9 ⟨H9, I9, q9⟩ => ?_
      have fin1 : ∀ {s' : Shared} {H' : Hp}, Inv (X.blk s3 H3 scope ce fp) ([] ++ pinsAt fp s7.heap) σ8 H' s' → Nx H' → ∃ m, m < n ∧ ∃ i H', Inv (X.blk s3 H3 scope ce fp) [] (wipe σ (own.map (·.2))) H' s' ∧ tn i s'.heap ∧ (∀ b ∈ fp, H' b = none) ∧ V i m H' := fun {s' H'} J nx => by
        obtain ⟨m1, lt, v1⟩ := hNx H' nx
        have pinned : ∀ b ∈ fp, ∀ o, s7.heap.get? b = some o → s'.heap.get? b = some o ∧ H' b = none := fun b hb o e =>
          have z := J.pin (b, o) (List.mem_append_right _ (List.mem_append_right _ (mem_pinsAt hb e))); ⟨z.1, z.2.1⟩
        refine ⟨m1, lt, i + 1, H', (J.unpinned (pins := [])).weak (by rw [← hw8, wipe_length]) (fun j v e => by rw [← hw8] at e; exact (wipe_some e).1), T.keep _ _ _ st7 fun b hb o e => (pinned b hb o e).1, fun b hb => ?_, v1⟩
        obtain ⟨o, e, _⟩ := T.obj _ _ st7 b hb
        exact (pinned b hb o e).2
      cases b with
      | false => simp only [Bool.false_eq_true, if_false] at q9 ⊢; exact fin1 I9 q9
      | true =>
        simp only [if_true] at q9 ⊢
        refine wpAny_mono (P3.run _ s9 σ8 H9 _ (I9.wish _) q9) (fun z s10 ⟨yv, H10, I10, r10, acc, hD10, hz10, nx⟩ => ?_) fun e s' ⟨pins', σ', H1, s1, I1, c⟩ => ?_
        · exact app_ok (X := X.blk s3 H3 scope ce fp) I10.unwish hD10 hz10 r10 fun s11 I11 => fin1 I11 nx
        · obtain ⟨m, hn, _⟩ := I1.loc
          have hn : s1.heap.Ns ce.locals m := hn
          have nC : H1 ce.locals = none := I1.free
          rw [cL] at hn nC
          exact airX I3 f3 I1.os I1.base nC hn c hs hf tk hW cL cF
  exact codeAny_compStart_list loop (T.self X.A 0 _ _ _ st4 loop)
/-- name = [..] on one line, the step may let an exception out -/
theorem ps_setLcX {i : Nat} {y : Str} {py : Pos} (hs : X.stack = X.env :: X.outer) (hf : X.env.frame = some X.env.locals) (tk : Takes X W) (hW : ∀ cls d σ H', E cls d H' → W cls d σ H') (hc : X.calm = true) (hN : X.N.Nodup) (hy : X.N[i]? = some y) (hyl : X.env.scope.names.lookup y = some .local)
    (hsw : swapsWith (.ListComp elt [⟨tg, iter, ifs, 0⟩] scope pos) (some (.Name y py)) spos.line X.env = pure true) (hi : PI X tg iter wi) (ok : BlkOk X.N X.env.scope scope own)
    (hg : ∀ (s : Shared) (H : Hp) (C : Addr) (cl : List (Str × Addr)) (fp : List Addr), PG (X.blk s H scope (compEnvC scope cl C X.env) fp) tg g) (ht : ∀ (s : Shared) (H : Hp) (C : Addr) (cl : List (Str × Addr)) (fp : List Addr), PTs (X.blk s H scope (compEnvC scope cl C X.env) fp) ifs tt)
    (he : ∀ (s : Shared) (H : Hp) (C : Addr) (cl : List (Str × Addr)) (fp : List Addr), PE (blkE X E s H scope (compEnvC scope cl C X.env) fp) elt te) (hsi : ∀ x, foldedSetIterable iter X.env x = pure x := by intro _; rfl) :
    PS X (.Assign [.Name y py] (.ListComp elt [⟨tg, iter, ifs, 0⟩] scope pos) spos) (tAsg (tLc wi g tt te (own.map (·.2))) (gName i)) := by
  refine ⟨fun pins s σ H D I h => ?_⟩
  rw [exec_Assign_Name_used _ _ _ _ hsw]
  refine wpAny_bind (wpAny_standAt (wpAny_bind ?_))
  show wpAny _ X.A (do let _ ← comprehension (.ListComp elt [⟨tg, iter, ifs, 0⟩] scope pos) scope X.env (firstIterPos [⟨tg, iter, ifs, 0⟩] pos) (newList []) false (eval iter X.env) (some (assign (.Name y py) X.env))) _ _ s
  have h : tLc wi g tt te (own.map (·.2)) σ H (fun x H1 => gName i x σ H1 D.nx) := h
  refine wpAny_bind (thn (coreX (E := E) (Qf := fun _ s' => SP X pins D .next s') hs hf tk (fun cls d H' z => hW cls d σ H' z) hc hN I hi ok hg ht he hsi h fun L C s' m H' J q hn f => ?_) fun _ s' hq => wpAny_pure (wpAny_pure hq))
  show wpAny _ _ (assign (.Name y py) X.env (.ref L)) _ _ _
  obtain ⟨f0, f1, f2, f3, f4, f5⟩ := f
  refine wpAny_assign_Name (store_ok2 (v := V.ref L) J hN hy (.inl hyl) rfl (fun s2 I2 ⟨a, sb, ha⟩ => ⟨m, hn.sameBut sb ?_, fun h3 sb3 => ⟨_, H', I2.turned (t' := s2.toks) (fun b o hb e => (sb3.2 b hb).trans e) f0 f1 f3 f4 f5, q⟩⟩) (.inr hyl))
  exact ha.elim (fun z => by rw [z]; exact f1) fun z e => f4 y a z e.symm
end
end B

set_option Elab.async false
set_option linter.all false
set_option maxRecDepth 100000
set_option maxHeartbeats 4000000
namespace B
open PySem PySem.Spec PyProof.Rows L2
open SX (S)
/-! ### an own walk -/
def wkv (kd : Str) (pr : Addr) (sd : V) (pf pp : Addr) : List (Key × V) := [(.inr "kind", .str kd), (.inr "rest", .ref pr), (.inr "said", sd), (.inr "found", .ref pf), (.inr "paper", .ref pp)]
section
variable {H : Hp} {pk pr pf pp : Addr} {kd : Str} {sd : V}
theorem kv_kind : valV (wkv kd pr sd pf pp) (.inr "kind" : Key) = some (.str kd) := by kernel_rfl
theorem kv_rest : valV (wkv kd pr sd pf pp) (.inr "rest" : Key) = some (.ref pr) := by kernel_rfl
theorem kv_said : valV (wkv kd pr sd pf pp) (.inr "said" : Key) = some sd := by kernel_rfl
theorem kv_found : valV (wkv kd pr sd pf pp) (.inr "found" : Key) = some (.ref pf) := by kernel_rfl
theorem kv_paper : valV (wkv kd pr sd pf pp) (.inr "paper" : Key) = some (.ref pp) := by kernel_rfl
theorem kp_said {v : V} : putK (wkv kd pr sd pf pp) (.inr "said" : Key) v = wkv kd pr v pf pp := by kernel_rfl
theorem wk_kind (h : H pk = some (.dK (wkv kd pr sd pf pp))) : DGet H pk (.str "kind") (some (.str kd)) := by rw [← kv_kind (kd := kd) (pr := pr) (sd := sd) (pf := pf) (pp := pp)]; exact DGet.k (k := Sum.inr "kind") h
theorem wk_rest (h : H pk = some (.dK (wkv kd pr sd pf pp))) : DGet H pk (.str "rest") (some (.ref pr)) := by rw [← kv_rest (kd := kd) (pr := pr) (sd := sd) (pf := pf) (pp := pp)]; exact DGet.k (k := Sum.inr "rest") h
theorem wk_said (h : H pk = some (.dK (wkv kd pr sd pf pp))) : DGet H pk (.str "said") (some sd) := by rw [← kv_said (kd := kd) (pr := pr) (sd := sd) (pf := pf) (pp := pp)]; exact DGet.k (k := Sum.inr "said") h
theorem wk_found (h : H pk = some (.dK (wkv kd pr sd pf pp))) : DGet H pk (.str "found") (some (.ref pf)) := by rw [← kv_found (kd := kd) (pr := pr) (sd := sd) (pf := pf) (pp := pp)]; exact DGet.k (k := Sum.inr "found") h
theorem wk_paper (h : H pk = some (.dK (wkv kd pr sd pf pp))) : DGet H pk (.str "paper") (some (.ref pp)) := by rw [← kv_paper (kd := kd) (pr := pr) (sd := sd) (pf := pf) (pp := pp)]; exact DGet.k (k := Sum.inr "paper") h
theorem wkp_said {v : V} (h : H pk = some (.dK (wkv kd pr sd pf pp))) : DPut H pk (.str "said") v (upd H pk (.dK (wkv kd pr v pf pp))) := by rw [← kp_said (sd := sd)]; exact DPut.k (k := Sum.inr "said") h (by show 5 < sizeLine; decide)
end
/-- a walk's state -/
structure WkS where
  kd : Str
  rest : List (List Nat)
  sd : Option (List Nat)
  found : List (List Nat)
  paper : List (List Nat × Bool × Bool)
def txV (l : List Nat) : V := .str (S l)
structure WkAt (H : Hp) (pk pr pf pp : Addr) (st : WkS) : Prop where
  ob : H pk = some (.dK (wkv st.kd pr (sdV st.sd) pf pp))
  rs : H pr = some (.lst (st.rest.map txV))
  fd : H pf = some (.lst (st.found.map txV))
  pa : ∃ ts : List Addr, H pp = some (.lst (ts.map V.ref)) ∧ ts.length = st.paper.length ∧ ∀ (i : Nat) (t : Addr) (q : List Nat × Bool × Bool), ts[i]? = some t → st.paper[i]? = some q → H t = some (.tup [txV q.1, .bl q.2.1, .bl q.2.2])
  ne : pr ≠ pf ∧ pr ≠ pp ∧ pf ≠ pp
section
variable {P : Program} {w : World} {K : PySem.W.Frag} {mg : Str → Option Value} {base : Heap}
/-- an own walk, new -/
def spPath : Sp := fun vs H Q _ => ∃ kd : Str, vs = [.str kd] ∧ ∀ (pk pr pf pp : Addr) (H' : Hp), H pk = none → H pr = none → H pf = none → H pp = none → WkAt H' pk pr pf pp ⟨kd, [[]], none, [], []⟩ → Frm [] H H' → Q (.ref pk) H'
theorem c_lpath (T : Txt P w K mg base) : CalX CX0 P w K mg base 1 "_law_path" spPath := by
  obtain ⟨fd, F⟩ := T.t.def_ 52 (d := d_lpath)
  refine ⟨_, fd, _, F.ok sc_lpath (fun vs H Q E h => ?_) (fun cdv A outer s H vs Q E hr h => ?_), He.glo_ok T.X T.G (T.t.fact 20), F.kp, F.bindsN fun _ _ _ _ _ _ us hl => match us, hl with | [_], _ => rfl⟩
  · obtain ⟨kd, rfl, _⟩ := h
    rfl
  · obtain ⟨kd, rfl, k⟩ := h
    refine ⟨_, PSs.nox (pss_one (ps_ret (pe_disp (pps_cons pe_str (pv 0) (pps_cons pe_str (pe_lst (pa_cons pe_str pa_nil)) (pps_cons pe_str pe_non (pps_cons pe_str (pe_lst pa_nil) (pps_cons pe_str (pe_lst pa_nil) pps_nil))))) (by rfl) (by rfl) (fun z => by cases z) (by decide)))), ?_⟩
    intro p hp
    refine ⟨_, rfl, by show 1 ≤ sizeLine; decide, fun r hr' => ⟨Nat.zero_le _, fun f hf => ⟨Nat.zero_le _, fun g hg => ?_⟩⟩⟩
    have npr : p ≠ r := ne_of_none upd_same hr'
    have h0 : (upd (upd H p (.dK [])) r (.lst [.str ""])) p = some (.dK []) := by rw [upd_ne npr, upd_same]
    have npf : p ≠ f := ne_of_none h0 hf
    have nrf : r ≠ f := ne_of_none upd_same hf
    have h1 : (upd (upd (upd H p (.dK [])) r (.lst [.str ""])) f (.lst [])) p = some (.dK []) := by rw [upd_ne npf]; exact h0
    have npg : p ≠ g := ne_of_none h1 hg
    have nfg : f ≠ g := ne_of_none upd_same hg
    have nrg : r ≠ g := ne_of_none (show (upd (upd (upd H p (.dK [])) r (.lst [.str ""])) f (.lst [])) r = some (.lst [.str ""]) by rw [upd_ne nrf, upd_same]) hg
    refine ⟨by rw [upd_ne npg]; exact h1, [(.inr "kind", .str kd), (.inr "rest", .ref r), (.inr "said", .non), (.inr "found", .ref f), (.inr "paper", .ref g)], rfl, by show 5 ≤ 15; decide, ?_⟩
    have em : mergeK [] [((.inr "kind" : Key), V.str kd), (.inr "rest", .ref r), (.inr "said", .non), (.inr "found", .ref f), (.inr "paper", .ref g)] = wkv kd r .non f g := by kernel_rfl
    rw [em]
    have hr2 : H r = none := upd_back hr'
    have hf2 : H f = none := upd_back (upd_back hf)
    have hg2 : H g = none := upd_back (upd_back (upd_back hg))
    have es : txV [] = V.str "" := congrArg V.str empty_S.symm
    refine k p r f g _ hp hr2 hf2 hg2 ⟨upd_same, ?_, ?_, ⟨[], ?_, rfl, fun i t q ht => by simp at ht⟩, nrf, nrg, nfg⟩ ((((((Frm.refl _ _).new hp).new hr2).new hf2).new hg2).new hp)
    · rw [upd_ne npr.symm, upd_ne nrg, upd_ne nrf, upd_same]
      show _ = some (HO.lst [txV []])
      rw [es]
    · rw [upd_ne npf.symm, upd_ne nfg, upd_same]
      rfl
    · rw [upd_ne npg.symm, upd_same]
      rfl
theorem big6 {n : Nat} (h : n < 1000000) : n < sizeLine := Nat.lt_of_lt_of_le h (by decide)
/-- what an own round comes to -/
inductive Tld where
  | no | lost | found (l : List Nat)
def TldAt (H : Hp) : Tld → V → Prop
  | .no, v => v = .non
  | .lost, v => ∃ t, v = .ref t ∧ H t = some (.tup [.str "lost"])
  | .found l, v => ∃ t, v = .ref t ∧ H t = some (.tup [.str "found", txV l])
/-- the round's end, if all bits are said -/
def overF (W : Nat) (st : WkS) (l : List Nat) : WkS × Tld := if l.length < W then ({ st with sd := some l }, .no) else ({ st with sd := none, found := st.found ++ [l] }, .found l)
def spOver : Sp := fun vs H Q _ => ∃ (pk pr pf pp pm dt ml : Addr) (W : Nat) (kvs : List (Str × Bool)) (lm : List Str) (sdm : Option (List Nat)) (lk : Int) (st : WkS) (l : List Nat), vs = [.ref pk, .ref pm] ∧ WkAt H pk pr pf pp st ∧ MdAt H pm dt ml W kvs lm sdm lk ∧ st.sd = some l ∧ l.length ≤ 100 ∧ st.found.length < 1000000 ∧
  ∀ (v : V) (H' : Hp), WkAt H' pk pr pf pp (overF W st l).1 → TldAt H' (overF W st l).2 v → Frm [pk, pf] H H' → Q v H'
theorem c_lover (T : Txt P w K mg base) : CalX CX0 P w K mg base 1 "_law_over" spOver := by
  obtain ⟨fd, F⟩ := T.t.def_ 53 (d := d_lover)
  refine ⟨_, fd, _, F.ok sc_lover (fun vs H Q E h => ?_) (fun cdv A outer s H vs Q E hr h => ?_), He.glo_ok T.X T.G (T.t.fact 21), F.kp, F.bindsN fun _ _ _ _ _ _ us hl => match us, hl with | [_, _], _ => rfl⟩
  · obtain ⟨pk, pr, pf, pp, pm, dt, ml, W, kvs, lm, sdm, lk, st, l, rfl, _⟩ := h
    rfl
  · obtain ⟨pk, pr, pf, pp, pm, dt, ml, W, kvs, lm, sdm, lk, st, l, rfl, wk, ma, hsd, hl, hf, k⟩ := h
    have hu := hu_of hr
    obtain ⟨o1, o2, o3, ⟨ts, o4, o5, o6⟩, n1, n2, n3⟩ := id wk
    rw [hsd] at o1
    have sl : (S l).length ≤ sizeLine := by rw [SX.S_len]; exact size12 hl
    refine ⟨_, PSs.nox (pss_cons (ps_if (pt_cmpR op_lt (pe_callB call_len_str (by rfl) (n_len T) PySem.boot_len (pa_cons (pe_dget hu (pv 0) pe_str (fun _ _ => rfl)) pa_nil)) (pe_dget hu (pv 1) pe_str (fun _ _ => rfl)) (nomark _))
      (pss_one (ps_ret pe_non))
      pss_nil)
    (pss_cons (ps_set (i := 2) sc_lover.nd rfl (Or.inl rfl) (pe_dget hu (pv 0) pe_str (fun _ _ => rfl)))
    (pss_cons (ps_dput hu (pv 0) pe_str pe_non rfl)
    (pss_cons (ps_expr (pe_bm PySem.F.plainAttrs_list PySem.F.slot_list_append PySem.F.type_list_append mt_append (pe_dget hu (pv 0) pe_str (fun _ _ => rfl)) (pa_cons (pv 2) pa_nil)))
    (pss_one (ps_ret (pe_tup (pa_cons pe_str (pa_cons (pv 2) pa_nil))))))))), ?_⟩
    refine ⟨_, rfl, pk, _, rfl, wk_said o1, S l, rfl, sl, _, rfl, pm, _, rfl, md_width ma.ob, _, _, rfl, rfl, _, rfl, ?_⟩
    rw [SX.S_len]
    refine iteB (fun c => ?_) (fun c => ?_)
    · have c' : l.length < W := by
        have := of_decide_eq_true c
        omega
      have := k .non H
      unfold overF at this
      rw [if_pos c'] at this
      refine this ?_ rfl (Frm.refl _ _)
      have e : ({ st with sd := some l } : WkS) = st := by rw [← hsd]
      rw [e]
      exact wk
    · have c' : ¬ l.length < W := by
        have := of_decide_eq_false c
        omega
      have nkf : pk ≠ pf := ne_of o1 o3 (by intro z; cases z)
      have nkr : pk ≠ pr := ne_of o1 o2 (by intro z; cases z)
      have nkp : pk ≠ pp := ne_of o1 o4 (by intro z; cases z)
      refine ⟨_, rfl, pk, _, rfl, wk_said o1, ?_⟩
      refine ⟨_, rfl, pk, _, rfl, wkp_said o1, ?_⟩
      have o3' : (upd H pk (.dK (wkv st.kd pr .non pf pp))) pf = some (.lst (st.found.map txV)) := by rw [upd_ne nkf.symm]; exact o3
      refine ⟨_, rfl, pk, _, rfl, wk_found upd_same, .inl ⟨rfl, _, SqL.of o3'⟩, _, rfl, pf, _, _, rfl, rfl, o3', by rw [List.length_map]; exact big6 hf, ?_⟩
      refine ⟨_, rfl, by show 2 ≤ sizeLine; decide, fun t ht => ?_⟩
      have fr : Frm [pk, pf] H (upd (upd (upd H pk (.dK (wkv st.kd pr .non pf pp))) pf (.lst (st.found.map txV ++ [V.str (S l)]))) t (.tup [.str "found", .str (S l)])) := (((Frm.refl _ _).put (by simp)).put (by simp)).trans (Frm.of (same_upd ht))
      have := k (.ref t) _ (by
        unfold overF
        rw [if_neg c']
        refine ⟨same_upd ht _ _ (by rw [upd_ne nkf, upd_same]; rfl), same_upd ht _ _ (by rw [upd_ne n1, upd_ne nkr.symm]; exact o2), same_upd ht _ _ (by rw [upd_same, List.map_append]; rfl), ⟨ts, same_upd ht _ _ (by rw [upd_ne n3.symm, upd_ne nkp.symm]; exact o4), o5, fun i t2 q h1 h2 => ?_⟩, n1, n2, n3⟩
        have z := o6 i t2 q h1 h2
        exact fr.k _ _ z rfl (by
          simp only [List.mem_cons, List.not_mem_nil, or_false, not_or]
          exact ⟨ne_of z o1 (by intro z; cases z), ne_of z o3 (by intro z; cases z)⟩)) (by
        unfold overF
        rw [if_neg c']
        exact ⟨t, rfl, upd_same⟩) fr
      exact this
end
end B

set_option Elab.async false
set_option linter.all false
set_option maxRecDepth 100000
set_option maxHeartbeats 4000000
namespace B
open PySem PySem.Spec PyProof.Rows L2
open SX (S)
/-- begins so -/
def starts (l : List Nat) (x : Str) : Bool := decide (x.cps.toList.take l.length = l)
/-- who listens behind a beginning -/
def begF (kvs : List (Str × Bool)) (kd : Str) (l : List Nat) : List Str := (lisB kvs (decide (kd = "all"))).filter (starts l)
theorem begF_nil {kvs : List (Str × Bool)} {kd : Str} : begF kvs kd [] = lisB kvs (decide (kd = "all")) := by
  unfold begF
  refine List.filter_eq_self.mpr fun x _ => ?_
  exact decide_eq_true rfl
theorem starts_snoc {l : List Nat} {c : Nat} {x : Str} : starts (l ++ [c]) x = (sg l.length c x && starts l x) := by
  unfold starts sg
  rw [Bool.eq_iff_iff, Bool.and_eq_true, decide_eq_true_eq, decide_eq_true_eq, decide_eq_true_eq]
  generalize x.cps.toList = m
  rw [List.length_append, List.length_singleton, List.take_succ]
  constructor
  · intro h
    have hl : (m.take l.length ++ m[l.length]?.toList).length = l.length + 1 := by rw [h]; simp
    cases q : m[l.length]? with
    | none =>
      rw [q] at hl
      simp only [Option.toList, List.append_nil, List.length_take] at hl
      omega
    | some d =>
      rw [q] at h
      have e := List.append_inj' h rfl
      exact ⟨congrArg some (List.singleton_inj.mp e.2), e.1⟩
  · rintro ⟨h1, h2⟩
    rw [h1, h2]
    rfl
theorem begF_snoc {kvs : List (Str × Bool)} {kd : Str} {l : List Nat} {c : Nat} : begF kvs kd (l ++ [c]) = (begF kvs kd l).filter (sg l.length c) := by
  unfold begF
  rw [List.filter_filter]
  apply List.filter_congr
  intro x _
  exact starts_snoc
theorem lisB_sub (kvs : List (Str × Bool)) (all : Bool) : (lisB kvs all).length ≤ kvs.length ∧ ∀ x ∈ lisB kvs all, x ∈ kvs.map (·.1) := by
  unfold lisB
  refine ⟨?_, fun x hx => ?_⟩
  · rw [List.length_map]
    exact List.length_filter_le _ _
  · obtain ⟨p, hp, e⟩ := List.mem_map.mp hx
    exact List.mem_map.mpr ⟨p, (List.mem_filter.mp hp).1, e⟩
theorem begF_sub {kvs : List (Str × Bool)} {kd : Str} {l : List Nat} : (begF kvs kd l).length ≤ kvs.length ∧ ∀ x ∈ begF kvs kd l, x ∈ kvs.map (·.1) ∧ starts l x = true := by
  have h := lisB_sub kvs (decide (kd = "all"))
  refine ⟨Nat.le_trans (List.length_filter_le _ _) h.1, fun x hx => ?_⟩
  obtain ⟨h1, h2⟩ := List.mem_filter.mp hx
  exact ⟨h.2 x h1, h2⟩
/-- a step told: the walk, what comes of its round, who listens, what is said on the wire, the looks -/
def stepF (W : Nat) (kvs : List (Str × Bool)) (lm : List Str) (lk : Int) (st : WkS) : (WkS × Tld) × List Str × Option (List Nat) × Int :=
  match st.sd with
  | none => (overF W { st with rest := st.rest.dropLast } (st.rest.getLast?.getD []), begF kvs st.kd (st.rest.getLast?.getD []), some (st.rest.getLast?.getD []), lk)
  | some l =>
    let z := lm.any (sg l.length 48)
    let o := lm.any (sg l.length 49)
    let st1 : WkS := { st with paper := st.paper ++ [(l, z, o)] }
    if z = false ∧ o = false then (({ st1 with sd := none }, .lost), lm, some l, lk + 1)
    else
      let b := if z = true then 48 else 49
      let st2 : WkS := if z = true ∧ o = true then { st1 with rest := st1.rest ++ [l ++ [49]] } else st1
      (overF W st2 (l ++ [b]), lm.filter (sg l.length b), some (l ++ [b]), lk + 1)
theorem WkAt.stay {T : List Addr} {H H' : Hp} {pk pr pf pp : Addr} {st : WkS} (h : WkAt H pk pr pf pp st) (f : Frm T H H') (n : NL T H) (h1 : pk ∉ T) (h2 : pr ∉ T) (h3 : pf ∉ T) (h4 : pp ∉ T) : WkAt H' pk pr pf pp st := by
  obtain ⟨o1, o2, o3, ⟨ts, o4, o5, o6⟩, n⟩ := h
  exact ⟨f.k _ _ o1 rfl h1, f.k _ _ o2 rfl h2, f.k _ _ o3 rfl h3, ⟨ts, f.k _ _ o4 rfl h4, o5, fun i t q a b => f.at ‹NL T H› (o6 i t q a b) rfl rfl⟩, n⟩
section
variable {P : Program} {w : World} {K : PySem.W.Frag} {mg : Str → Option Value} {base : Heap}
def spStep : Sp := fun vs H Q _ => ∃ (pk pr pf pp pm dt ml : Addr) (W : Nat) (kvs : List (Str × Bool)) (lm : List Str) (sdm : Option (List Nat)) (lk : Int) (st : WkS), vs = [.ref pk, .ref pm] ∧ WkAt H pk pr pf pp st ∧ MdAt H pm dt ml W kvs lm sdm lk ∧ pm ≠ dt ∧ pk ≠ pm ∧ pk ≠ dt ∧ (ml ≠ pr ∧ ml ≠ pf ∧ ml ≠ pp) ∧
  (kvs.map (·.1)).Nodup ∧ kvs.length ≤ 100 ∧ (∀ x ∈ kvs.map (·.1), Num W x) ∧ lm.length ≤ 100 ∧ W ≤ 12 ∧ st.rest.length < 999999 ∧ st.found.length < 999999 ∧ st.paper.length < 999999 ∧
  (st.sd = none → ∃ r g, st.rest = r ++ [g] ∧ g.length ≤ W ∧ Bits g) ∧ (∀ l, st.sd = some l → sdm = some l ∧ l.length < W ∧ Bits l ∧ ∀ x ∈ lm, Beg W l x) ∧
  ∀ (v : V) (ml' : Addr) (H' : Hp), (ml' = ml ∨ H ml' = none) → WkAt H' pk pr pf pp (stepF W kvs lm lk st).1.1 → TldAt H' (stepF W kvs lm lk st).1.2 v → MdAt H' pm dt ml' W kvs (stepF W kvs lm lk st).2.1 (stepF W kvs lm lk st).2.2.1 (stepF W kvs lm lk st).2.2.2 → Frm [pk, pr, pf, pp, pm] H H' → Q v H'
theorem c_lstep (T : Txt P w K mg base) : CalX CX0 P w K mg base 2 "_law_step" spStep := by
  obtain ⟨fd, F⟩ := T.t.def_ 54 (d := d_lstep)
  refine ⟨_, fd, _, F.ok sc_lstep (fun vs H Q E h => ?_) (fun cdv A outer s H vs Q E hr h => ?_), He.glo_ok T.X T.G (T.t.fact 22), F.kp, F.bindsN fun _ _ _ _ _ _ us hl => match us, hl with | [_, _], _ => rfl⟩
  · obtain ⟨pk, pr, pf, pp, pm, dt, ml, W, kvs, lm, sdm, lk, st, rfl, _⟩ := h
    rfl
  · obtain ⟨pk, pr, pf, pp, pm, dt, ml, W, kvs, lm, sdm, lk, ⟨kd, rest, sd, found, paper⟩, rfl, wk, ma, npd, nkm, nkd, ⟨nmr, nmf, nmp⟩, hnd, hkl, hkn, hll, hW, hrl, hfl, hpl, hnone, hsome, k⟩ := h
    have hu := hu_of hr
    obtain ⟨o1, o2, o3, ⟨ts, o4, o5, o6⟩, n1, n2, n3⟩ := id wk
    dsimp only at o1 o2 o3 o4 o5 o6 hrl hfl hpl hnone hsome
    have nkr : pk ≠ pr := ne_of o1 o2 (by intro z; cases z)
    have nkf : pk ≠ pf := ne_of o1 o3 (by intro z; cases z)
    have nkp : pk ≠ pp := ne_of o1 o4 (by intro z; cases z)
    have nPr : pm ≠ pr := ne_of ma.ob o2 (by intro z; cases z)
    have nPf : pm ≠ pf := ne_of ma.ob o3 (by intro z; cases z)
    have nPp : pm ≠ pp := ne_of ma.ob o4 (by intro z; cases z)
    have nDr : dt ≠ pr := ne_of ma.dc o2 (by intro z; cases z)
    have nDf : dt ≠ pf := ne_of ma.dc o3 (by intro z; cases z)
    have nDp : dt ≠ pp := ne_of ma.dc o4 (by intro z; cases z)
    have nmk : ml ≠ pk := ne_of ma.li o1 (by intro z; cases z)
    have sz : ∀ {n : Nat}, n ≤ 100 → n ≤ sizeLine := fun h => size12 h
    refine ⟨_, PSs.nox (pss_cons (ps_if (pt_cmpR op_isN (pe_dget hu (pv 0) pe_str (fun _ _ => rfl)) pe_non (nomark _))
      (pss_cons (ps_set (i := 2) sc_lstep.nd rfl (Or.inl rfl) (pe_bm0 PySem.F.plainAttrs_list PySem.F.slot_list_pop PySem.F.type_list_pop mt_pop (pe_dget hu (pv 0) pe_str (fun _ _ => rfl))))
      (pss_cons (ps_expr (pe_cx (c_lbegun T) hr (by decide) rfl pass0 (pa_cons (pv 1) (pa_cons (pe_dget hu (pv 0) pe_str (fun _ _ => rfl)) pa_nil))))
      (pss_cons (ps_for PassesOwn.never rfl (pi_str (pv 2)) (pg_name (i := 3) sc_lstep.nd rfl (Or.inl rfl))
        (pss_one (ps_expr (pe_cx (c_lsaid T) hr (by decide) rfl pass0 (pa_cons (pv 1) (pa_cons (pe_callTy call_int_str (by rfl) (n_int T) (by decide +kernel) (pa_cons (pv 3) pa_nil)) pa_nil))))))
      (pss_cons (ps_dput hu (pv 0) pe_str (pv 2) rfl)
      (pss_one (ps_ret (pe_cx (c_lover T) hr (by decide) rfl pass0 (pa_cons (pv 0) (pa_cons (pv 1) pa_nil)))))))))
      pss_nil)
    (pss_cons (ps_asg (pe_cx (c_llooked T) hr (by decide) rfl pass0 (pa_cons (pe_dget hu (pv 1) pe_str (fun _ _ => rfl)) (pa_cons (pe_dget hu (pv 0) pe_str (fun _ _ => rfl)) pa_nil))) (pg_tup rfl (pgs_cons (pg_name (i := 4) sc_lstep.nd rfl (Or.inl rfl)) (pgs_cons (pg_name (i := 5) sc_lstep.nd rfl (Or.inl rfl)) pgs_nil))))
    (pss_cons (ps_dput hu (pv 1) pe_str (pe_op op_add (pe_dget hu (pv 1) pe_str (fun _ _ => rfl)) pe_int) rfl)
    (pss_cons (ps_expr (pe_bm PySem.F.plainAttrs_list PySem.F.slot_list_append PySem.F.type_list_append mt_append (pe_dget hu (pv 0) pe_str (fun _ _ => rfl)) (pa_cons (pe_tup (pa_cons (pe_dget hu (pv 0) pe_str (fun _ _ => rfl)) (pa_cons (pv 4) (pa_cons (pv 5) pa_nil)))) pa_nil)))
    (pss_cons (ps_if (PW.pt (pw_and (pt_not (pt_val (pv 4))) (pw_and1 (pt_not (pt_val (pv 5))))))
      (pss_cons (ps_dput hu (pv 0) pe_str pe_non rfl)
      (pss_one (ps_ret (pe_tup (pa_cons pe_str pa_nil)))))
      pss_nil)
    (pss_cons (ps_if (PW.pt (pw_and (pt_val (pv 4)) (pw_and1 (pt_val (pv 5)))))
      (pss_one (ps_expr (pe_bm PySem.F.plainAttrs_list PySem.F.slot_list_append PySem.F.type_list_append mt_append (pe_dget hu (pv 0) pe_str (fun _ _ => rfl)) (pa_cons (pe_op op_add_str (pe_dget hu (pv 0) pe_str (fun _ _ => rfl)) pe_str) pa_nil))))
      pss_nil)
    (pss_cons (ps_expr (pe_cx (c_lsaid T) hr (by decide) rfl pass0 (pa_cons (pv 1) (pa_cons (pe_callTy call_int1 (by rfl) (n_int T) (by decide +kernel) (pa_cons (pe_not (pv 4)) pa_nil)) pa_nil))))
    (pss_cons (ps_dput hu (pv 0) pe_str (pe_op op_add_str (pe_dget hu (pv 0) pe_str (fun _ _ => rfl)) (pe_callTy call_str_int (by rfl) (n_str T) (by decide +kernel) (pa_cons (pe_callTy call_int1 (by rfl) (n_int T) (by decide +kernel) (pa_cons (pe_not (pv 4)) pa_nil)) pa_nil))) rfl)
    (pss_one (ps_ret (pe_cx (c_lover T) hr (by decide) rfl pass0 (pa_cons (pv 0) (pa_cons (pv 1) pa_nil))))))))))))), ?_⟩
    refine ⟨_, rfl, pk, _, rfl, wk_said o1, rfl, _, rfl, ?_⟩
    cases sd with
    | none =>
      obtain ⟨r0, g, hrest, hgl, hgb⟩ := hnone rfl
      subst hrest
      have hlast : ((r0 ++ [g]).map txV)[((r0 ++ [g]).map txV).length - 1]? = some (txV g) := by simp
      have hdrop : ((r0 ++ [g]).map txV).dropLast = r0.map txV := by simp
      refine ⟨_, rfl, pk, _, rfl, wk_rest o1, .inl ⟨rfl, _, SqL.of o2⟩, pr, _, txV g, rfl, rfl, o2, hlast, ?_⟩
      rw [hdrop]
      have e0 : stepF W kvs lm lk ⟨kd, r0 ++ [g], none, found, paper⟩ = (overF W ⟨kd, r0, none, found, paper⟩ g, begF kvs kd g, some g, lk) := by
        unfold stepF
        simp
      rw [e0] at k
      dsimp only at k
      have f1 : Frm [pr] H (upd H pr (.lst (r0.map txV))) := (Frm.refl _ _).put (by simp)
      have o1' : (upd H pr (.lst (r0.map txV))) pk = some (.dK (wkv kd pr .non pf pp)) := by rw [upd_ne nkr]; exact o1
      have ma1 : MdAt (upd H pr (.lst (r0.map txV))) pm dt ml W kvs lm sdm lk := ⟨by rw [upd_ne nPr]; exact ma.ob, by rw [upd_ne nmr]; exact ma.li, by rw [upd_ne nDr]; exact ma.dc⟩
      refine ⟨_, rfl, _, rfl, pk, _, rfl, wk_kind o1', pm, dt, ml, kd, W, kvs, lm, sdm, lk, rfl, ma1, npd, hnd, hkl, fun ml2 H2 hml2 ma2 f2 => ?_⟩
      have esz : (S g).cps.size = g.length := by rw [← SX.S_len]; rfl
      refine ⟨_, rfl, S g, rfl, for_it walk_str (fun i σ H' => ∃ (v3 : Option V) (ml' : Addr), σ = [some (.ref pk), some (.ref pm), some (txV g), v3, none, none] ∧ MdAt H' pm dt ml' W kvs (begF kvs kd (g.take i)) (some (g.take i)) lk ∧ Frm [pm] H2 H' ∧ (upd H pr (.lst (r0.map txV))) ml' = none)
        ⟨none, ml2, rfl, by rw [List.take_zero, begF_nil]; exact ma2, Frm.refl _ _, hml2⟩ (fun _ _ _ _ _ => trivial) ?_ ?_⟩
      · rintro i x σ H3 H4 hi ⟨v3, ml', rfl, ma3, f3, hm3⟩ ⟨rfl, c, hc, rfl⟩
        rw [esz] at hi
        have hc' : g[i]? = some c := by
          have z : (S g).cps.toList[i]? = some c := by rw [Array.getElem?_toList]; exact hc
          have e2 : (S g).cps.toList = g := by simp [SX.S]
          rw [e2] at z
          exact z
        have two : ∃ bit : Int, (bit = 0 ∨ bit = 1) ∧ PySem.intText? (S [c]) = some bit ∧ 48 + bit.toNat = c := by
          rcases hgb c (List.mem_of_getElem? hc') with rfl | rfl
          · exact ⟨0, .inl rfl, by decide +kernel, rfl⟩
          · exact ⟨1, .inr rfl, by decide +kernel, rfl⟩
        obtain ⟨bit, hbit, t1, t2⟩ := two
        have hbs := begF_sub (kvs := kvs) (kd := kd) (l := g.take i)
        have htl : (g.take i).length = i := by rw [List.length_take]; omega
        refine ⟨_, rfl, _, rfl, S [c], bit, rfl, t1, by rw [SX.S_len]; show 1 ≤ 640; decide, pm, dt, ml', bit, W, kvs, _, g.take i, lk, rfl, hbit, ma3, npd, fun x hx => hkn x (hbs.2 x hx).1, by omega, by omega, hW, fun ml4 H5 h4 ma4 f4 => ?_⟩
        refine ⟨_, ml4, rfl, ?_, f3.trans f4, f2.b _ (f3.b _ h4)⟩
        rw [t2, htl] at ma4
        rw [take_snoc hc', begF_snoc, htl]
        exact ma4
      · rintro σ H3 ⟨v3, ml', rfl, ma3, f3, hm3⟩
        rw [esz, List.take_length] at ma3
        have f23 := f2.trans f3
        have g1 := f23.k _ _ o1' rfl (by simpa using nkm)
        have g2 := f23.k pr _ upd_same rfl (by simpa using nPr.symm)
        have g3 := f23.k pf _ (by rw [upd_ne n1.symm]; exact o3) rfl (by simpa using nPf.symm)
        have g4 := f23.k pp _ (by rw [upd_ne n2.symm]; exact o4) rfl (by simpa using nPp.symm)
        refine ⟨_, rfl, _, rfl, pk, _, rfl, wkp_said g1, ?_⟩
        have f4 : Frm [pk, pr, pf, pp, pm] H (upd H3 pk (.dK (wkv kd pr (txV g) pf pp))) := (((f1.mono (by simp)).trans (f23.mono (by simp)))).put (by simp)
        have tu : ∀ (i : Nat) (t : Addr) (q : List Nat × Bool × Bool), ts[i]? = some t → paper[i]? = some q → (upd H3 pk (.dK (wkv kd pr (txV g) pf pp))) t = some (.tup [txV q.1, .bl q.2.1, .bl q.2.2]) := fun i t q h1 h2 => by
          have z := o6 i t q h1 h2
          refine f4.k _ _ z rfl ?_
          simp only [List.mem_cons, List.not_mem_nil, or_false, not_or]
          exact ⟨ne_of z o1 (by intro z; cases z), ne_of z o2 (by intro z; cases z), ne_of z o3 (by intro z; cases z), ne_of z o4 (by intro z; cases z), ne_of z ma.ob (by intro z; cases z)⟩
        have wkA : WkAt (upd H3 pk (.dK (wkv kd pr (txV g) pf pp))) pk pr pf pp ⟨kd, r0, some g, found, paper⟩ :=
          ⟨upd_same, by rw [upd_ne nkr.symm]; exact g2, by rw [upd_ne nkf.symm]; exact g3, ⟨ts, by rw [upd_ne nkp.symm]; exact g4, o5, tu⟩, n1, n2, n3⟩
        have nlk : ml' ≠ pk := (ne_of_none o1' hm3).symm
        have nlf : ml' ≠ pf := (ne_of_none (show (upd H pr (.lst (r0.map txV))) pf = _ by rw [upd_ne n1.symm]; exact o3) hm3).symm
        have maA : MdAt (upd H3 pk (.dK (wkv kd pr (txV g) pf pp))) pm dt ml' W kvs (begF kvs kd g) (some g) lk := ⟨by rw [upd_ne nkm.symm]; exact ma3.ob, by rw [upd_ne nlk]; exact ma3.li, by rw [upd_ne nkd.symm]; exact ma3.dc⟩
        refine ⟨_, rfl, _, rfl, pk, pr, pf, pp, pm, dt, ml', W, kvs, _, _, lk, ⟨kd, r0, some g, found, paper⟩, g, rfl, wkA, maA, rfl, by omega, Nat.lt_succ_of_lt hfl, fun v H5 wk5 tl5 f5 => ?_⟩
        refine k v ml' H5 (.inr (upd_back hm3)) wk5 tl5 ⟨f5.k _ _ maA.ob rfl ?_, f5.k _ _ maA.li rfl ?_, f5.k _ _ maA.dc rfl ?_⟩ (f4.trans (f5.mono (by simp)))
        · simp [nkm.symm, nPf]
        · simp [nlk, nlf]
        · simp [nkd.symm, nDf]
    | some l =>
      obtain ⟨hsm, hlt, hlb, hbeg⟩ := hsome l rfl
      subst hsm
      have o1 : H pk = some (.dK (wkv kd pr (.str (S l)) pf pp)) := o1
      refine ⟨_, rfl, pm, _, rfl, md_listening ma.ob, _, rfl, pk, _, rfl, wk_said o1, ml, W, l, lm, rfl, ma.li, hbeg, hlt, hW, fun p H1 hp f1 => ?_⟩
      refine ⟨p, _, rfl, SqT.of hp, rfl, _, _, rfl, _, _, rfl, rfl, ?_⟩
      have a1 := f1.k _ _ ma.ob rfl (by simp)
      have a2 := f1.k _ _ ma.li rfl (by simp)
      have a3 := f1.k _ _ ma.dc rfl (by simp)
      refine ⟨_, rfl, pm, _, rfl, md_looks a1, lk, 1, rfl, rfl, _, rfl, pm, _, rfl, mdp_looks a1, ?_⟩
      have c1 : (upd H1 pm (.dK (mkv W dt ml (sdV (some l)) (lk + 1)))) pk = some (.dK (wkv kd pr (.str (S l)) pf pp)) := by rw [upd_ne nkm]; exact f1.k _ _ o1 rfl (by simp)
      have c4 : (upd H1 pm (.dK (mkv W dt ml (sdV (some l)) (lk + 1)))) pp = some (.lst (ts.map V.ref)) := by rw [upd_ne nPp.symm]; exact f1.k _ _ o4 rfl (by simp)
      refine ⟨_, rfl, pk, _, rfl, wk_paper c1, .inl ⟨rfl, _, SqL.of c4⟩, _, rfl, pk, _, rfl, wk_said c1, _, rfl, _, rfl, by show 3 ≤ sizeLine; decide, fun t ht => ⟨pp, _, _, rfl, rfl, same_upd ht _ _ c4, by rw [List.length_map, o5]; exact big6 (Nat.lt_succ_of_lt hpl), ?_⟩⟩
      have F3 : Frm [pk, pr, pf, pp, pm] H (upd (upd (upd H1 pm (.dK (mkv W dt ml (sdV (some l)) (lk + 1)))) t (.tup [.str (S l), .bl (lm.any (sg l.length 48)), .bl (lm.any (sg l.length 49))])) pp (.lst (ts.map V.ref ++ [.ref t]))) :=
        ((((f1.mono (by simp)).put (by simp)).trans (Frm.of (same_upd ht)))).put (by simp)
      have d4 : (upd (upd (upd H1 pm (.dK (mkv W dt ml (sdV (some l)) (lk + 1)))) t (.tup [.str (S l), .bl (lm.any (sg l.length 48)), .bl (lm.any (sg l.length 49))])) pp (.lst (ts.map V.ref ++ [.ref t]))) pp = some (.lst (ts.map V.ref ++ [.ref t])) := upd_same
      have go : ∀ {b : Addr} {o : HO}, (upd H1 pm (.dK (mkv W dt ml (sdV (some l)) (lk + 1)))) b = some o → b ≠ pp → (upd (upd (upd H1 pm (.dK (mkv W dt ml (sdV (some l)) (lk + 1)))) t (.tup [.str (S l), .bl (lm.any (sg l.length 48)), .bl (lm.any (sg l.length 49))])) pp (.lst (ts.map V.ref ++ [.ref t]))) b = some o := fun h n => by
        rw [upd_ne n]
        exact same_upd ht _ _ h
      have d1 := go c1 nkp
      have d2 := go (b := pr) (by rw [upd_ne nPr.symm]; exact f1.k _ _ o2 rfl (by simp)) n2
      have d3 := go (b := pf) (by rw [upd_ne nPf.symm]; exact f1.k _ _ o3 rfl (by simp)) n3
      have e1 := go (b := pm) upd_same nPp
      have nml : ml ≠ pm := ne_of ma.li ma.ob (by intro z; cases z)
      have e2 := go (b := ml) (by rw [upd_ne nml]; exact a2) nmp
      have e3 := go (b := dt) (by rw [upd_ne npd.symm]; exact a3) nDp
      have ntp : t ≠ pp := (ne_of_none c4 ht).symm
      have dt3 : (upd (upd (upd H1 pm (.dK (mkv W dt ml (sdV (some l)) (lk + 1)))) t (.tup [.str (S l), .bl (lm.any (sg l.length 48)), .bl (lm.any (sg l.length 49))])) pp (.lst (ts.map V.ref ++ [.ref t]))) t = some (.tup [.str (S l), .bl (lm.any (sg l.length 48)), .bl (lm.any (sg l.length 49))]) := by rw [upd_ne ntp, upd_same]
      have ntn : H t = none := f1.b _ (upd_back ht)
      revert F3 d4 d1 d2 d3 e1 e2 e3 dt3
      generalize (upd (upd (upd H1 pm (.dK (mkv W dt ml (sdV (some l)) (lk + 1)))) t (.tup [.str (S l), .bl (lm.any (sg l.length 48)), .bl (lm.any (sg l.length 49))])) pp (.lst (ts.map V.ref ++ [.ref t]))) = H3
      intro F3 d4 d1 d2 d3 e1 e2 e3 dt3
      have ma3 : MdAt H3 pm dt ml W kvs lm (some l) (lk + 1) := ⟨e1, e2, e3⟩
      unfold stepF at k
      dsimp only at k
      -- the paper's rows
      have tu : ∀ (H4 : Hp), Frm [pk, pr, pf, pp, pm] H H4 → H4 t = H3 t → ∀ (i : Nat) (t' : Addr) (q : List Nat × Bool × Bool), (ts ++ [t])[i]? = some t' → (paper ++ [(l, lm.any (sg l.length 48), lm.any (sg l.length 49))])[i]? = some q → H4 t' = some (.tup [txV q.1, .bl q.2.1, .bl q.2.2]) := fun H4 f4 et i t' q h1 h2 => by
        by_cases hi : i < ts.length
        · rw [List.getElem?_append_left hi] at h1
          rw [List.getElem?_append_left (by rw [← o5]; exact hi)] at h2
          have z := o6 i t' q h1 h2
          refine f4.k _ _ z rfl ?_
          simp only [List.mem_cons, List.not_mem_nil, or_false, not_or]
          exact ⟨ne_of z o1 (by intro z; cases z), ne_of z o2 (by intro z; cases z), ne_of z o3 (by intro z; cases z), ne_of z o4 (by intro z; cases z), ne_of z ma.ob (by intro z; cases z)⟩
        · have e : i = ts.length := by
            have := (List.getElem?_eq_some_iff.mp h1).1
            rw [List.length_append, List.length_singleton] at this
            omega
          subst e
          rw [List.getElem?_append_right (Nat.le_refl _), Nat.sub_self] at h1
          rw [o5, List.getElem?_append_right (Nat.le_refl _), Nat.sub_self] at h2
          obtain rfl := Option.some.inj h1
          obtain rfl := Option.some.inj h2
          rw [et]
          exact dt3
      have tlen : (ts ++ [t]).length = (paper ++ [(l, lm.any (sg l.length 48), lm.any (sg l.length 49))]).length := by rw [List.length_append, List.length_append, o5]; rfl
      have trf : (ts ++ [t]).map V.ref = ts.map V.ref ++ [.ref t] := by rw [List.map_append]; rfl
      have ntk : t ≠ pk := (ne_of_none o1 ntn).symm
      have ntr : t ≠ pr := (ne_of_none o2 ntn).symm
      have htt : ∃ u, H3 t = some u := ⟨_, dt3⟩
      clear dt3
      revert k tu tlen
      generalize lm.any (sg l.length 48) = z
      generalize lm.any (sg l.length 49) = o
      intro k tu tlen
      cases z <;> cases o
      · refine ⟨_, rfl, false, rfl, _, rfl, false, rfl, ?_⟩
        refine ⟨_, rfl, pk, _, rfl, wkp_said d1, ?_⟩
        refine ⟨by show 1 ≤ sizeLine; decide, fun t2 ht2 => ?_⟩
        have fr : Frm [pk, pr, pf, pp, pm] H (upd (upd H3 pk (.dK (wkv kd pr .non pf pp))) t2 (.tup [.str "lost"])) := (F3.put (by simp)).trans (Frm.of (same_upd ht2))
        have et : (upd (upd H3 pk (.dK (wkv kd pr .non pf pp))) t2 (.tup [.str "lost"])) t = H3 t := by
          obtain ⟨u, hu2⟩ := htt
          rw [upd_ne (ne_of_none (show (upd H3 pk (.dK (wkv kd pr .non pf pp))) t = some u by rw [upd_ne ntk]; exact hu2) ht2), upd_ne ntk]
        exact k (.ref t2) ml _ (.inl rfl) ⟨same_upd ht2 _ _ upd_same, same_upd ht2 _ _ (by rw [upd_ne nkr.symm]; exact d2), same_upd ht2 _ _ (by rw [upd_ne nkf.symm]; exact d3), ⟨ts ++ [t], same_upd ht2 _ _ (by rw [upd_ne nkp.symm, trf]; exact d4), tlen, tu _ fr et⟩, n1, n2, n3⟩ ⟨t2, rfl, upd_same⟩
          ⟨same_upd ht2 _ _ (by rw [upd_ne nkm.symm]; exact e1), same_upd ht2 _ _ (by rw [upd_ne nmk]; exact e2), same_upd ht2 _ _ (by rw [upd_ne nkd.symm]; exact e3)⟩ fr
      · refine ⟨_, rfl, false, rfl, _, rfl, true, rfl, ?_⟩
        refine ⟨_, rfl, false, rfl, ?_⟩
        have F4 := F3
        have ma4 := ma3
        have et4 : H3 t = H3 t := rfl
        have num : ∀ x ∈ lm, Num W x := fun x hx => (hbeg x hx).num
        refine ⟨_, rfl, _, rfl, false, rfl, .inr ⟨_, rfl, pm, dt, ml, 1, W, kvs, lm, l, lk + 1, rfl, .inr rfl, ma4, npd, num, hll, hlt, hW, fun ml5 H5 hm5 ma5 f5 => ?_⟩⟩
        have g1 := f5.k _ _ d1 rfl (by simpa using nkm)
        have g2 := f5.k _ _ d2 rfl (by simpa using nPr.symm)
        have g3 := f5.k _ _ d3 rfl (by simpa using nPf.symm)
        have g4 := f5.k _ _ d4 rfl (by simpa using nPp.symm)
        have nml5 : ml5 ≠ pk ∧ ml5 ≠ pr ∧ ml5 ≠ pf ∧ ml5 ≠ pp := ⟨(ne_of_none d1 hm5).symm, (ne_of_none d2 hm5).symm, (ne_of_none d3 hm5).symm, (ne_of_none d4 hm5).symm⟩
        refine ⟨_, rfl, pk, _, rfl, wk_said g1, _, rfl, false, rfl, .inr ⟨_, rfl, 1, rfl, by decide, S l, _, rfl, rfl, ?_, ?_⟩⟩
        · have q1 : (Str.ofString (toString (1 : Int))).length = 1 := by decide +kernel
          have q2 := SX.S_len l
          exact sz (by omega)
        have q3 : Str.ofString (toString (1 : Int)) = S [49] := by decide +kernel
        rw [q3, SX.S_cat]
        refine ⟨_, rfl, pk, _, rfl, wkp_said g1, ?_⟩
        have F5 : Frm [pk, pr, pf, pp, pm] H (upd H5 pk (.dK (wkv kd pr (.str (S (l ++ [49]))) pf pp))) := (F4.trans (f5.mono (by simp))).put (by simp)
        have et5 : (upd H5 pk (.dK (wkv kd pr (.str (S (l ++ [49]))) pf pp))) t = H3 t := by
          obtain ⟨u, hu2⟩ := htt
          rw [upd_ne ntk, hu2]
          exact f5.k _ _ (by rw [et4]; exact hu2) rfl (by simpa using (ne_of_none ma.ob ntn).symm)
        have wk5 : WkAt (upd H5 pk (.dK (wkv kd pr (.str (S (l ++ [49]))) pf pp))) pk pr pf pp ⟨kd, rest, some (l ++ [49]), found, paper ++ [(l, false, true)]⟩ :=
          ⟨upd_same, by rw [upd_ne nkr.symm]; exact g2, by rw [upd_ne nkf.symm]; exact g3, ⟨ts ++ [t], by rw [upd_ne nkp.symm, trf]; exact g4, tlen, tu _ F5 et5⟩, n1, n2, n3⟩
        have ma6 : MdAt (upd H5 pk (.dK (wkv kd pr (.str (S (l ++ [49]))) pf pp))) pm dt ml5 W kvs (lm.filter (sg l.length 49)) (some (l ++ [49])) (lk + 1) := ⟨by rw [upd_ne nkm.symm]; exact ma5.ob, by rw [upd_ne nml5.1]; exact ma5.li, by rw [upd_ne nkd.symm]; exact ma5.dc⟩
        refine ⟨_, rfl, _, rfl, pk, pr, pf, pp, pm, dt, ml5, W, kvs, _, _, lk + 1, _, l ++ [49], rfl, wk5, ma6, rfl, by rw [List.length_append, List.length_singleton]; omega, Nat.lt_succ_of_lt hfl, fun v H6 wk6 tl6 f6 => ?_⟩
        refine k v ml5 H6 (.inr (F4.b _ hm5)) wk6 tl6 ⟨f6.k _ _ ma6.ob rfl ?_, f6.k _ _ ma6.li rfl ?_, f6.k _ _ ma6.dc rfl ?_⟩ (F5.trans (f6.mono (by simp)))
        · simp [nkm.symm, nPf]
        · simp [nml5.1, nml5.2.2.1]
        · simp [nkd.symm, nDf]
      · refine ⟨_, rfl, true, rfl, ?_⟩
        refine ⟨_, rfl, true, rfl, _, rfl, false, rfl, ?_⟩
        have F4 := F3
        have ma4 := ma3
        have et4 : H3 t = H3 t := rfl
        have num : ∀ x ∈ lm, Num W x := fun x hx => (hbeg x hx).num
        refine ⟨_, rfl, _, rfl, true, rfl, .inr ⟨_, rfl, pm, dt, ml, 0, W, kvs, lm, l, lk + 1, rfl, .inl rfl, ma4, npd, num, hll, hlt, hW, fun ml5 H5 hm5 ma5 f5 => ?_⟩⟩
        have g1 := f5.k _ _ d1 rfl (by simpa using nkm)
        have g2 := f5.k _ _ d2 rfl (by simpa using nPr.symm)
        have g3 := f5.k _ _ d3 rfl (by simpa using nPf.symm)
        have g4 := f5.k _ _ d4 rfl (by simpa using nPp.symm)
        have nml5 : ml5 ≠ pk ∧ ml5 ≠ pr ∧ ml5 ≠ pf ∧ ml5 ≠ pp := ⟨(ne_of_none d1 hm5).symm, (ne_of_none d2 hm5).symm, (ne_of_none d3 hm5).symm, (ne_of_none d4 hm5).symm⟩
        refine ⟨_, rfl, pk, _, rfl, wk_said g1, _, rfl, true, rfl, .inr ⟨_, rfl, 0, rfl, by decide, S l, _, rfl, rfl, ?_, ?_⟩⟩
        · have q1 : (Str.ofString (toString (0 : Int))).length = 1 := by decide +kernel
          have q2 := SX.S_len l
          exact sz (by omega)
        have q3 : Str.ofString (toString (0 : Int)) = S [48] := by decide +kernel
        rw [q3, SX.S_cat]
        refine ⟨_, rfl, pk, _, rfl, wkp_said g1, ?_⟩
        have F5 : Frm [pk, pr, pf, pp, pm] H (upd H5 pk (.dK (wkv kd pr (.str (S (l ++ [48]))) pf pp))) := (F4.trans (f5.mono (by simp))).put (by simp)
        have et5 : (upd H5 pk (.dK (wkv kd pr (.str (S (l ++ [48]))) pf pp))) t = H3 t := by
          obtain ⟨u, hu2⟩ := htt
          rw [upd_ne ntk, hu2]
          exact f5.k _ _ (by rw [et4]; exact hu2) rfl (by simpa using (ne_of_none ma.ob ntn).symm)
        have wk5 : WkAt (upd H5 pk (.dK (wkv kd pr (.str (S (l ++ [48]))) pf pp))) pk pr pf pp ⟨kd, rest, some (l ++ [48]), found, paper ++ [(l, true, false)]⟩ :=
          ⟨upd_same, by rw [upd_ne nkr.symm]; exact g2, by rw [upd_ne nkf.symm]; exact g3, ⟨ts ++ [t], by rw [upd_ne nkp.symm, trf]; exact g4, tlen, tu _ F5 et5⟩, n1, n2, n3⟩
        have ma6 : MdAt (upd H5 pk (.dK (wkv kd pr (.str (S (l ++ [48]))) pf pp))) pm dt ml5 W kvs (lm.filter (sg l.length 48)) (some (l ++ [48])) (lk + 1) := ⟨by rw [upd_ne nkm.symm]; exact ma5.ob, by rw [upd_ne nml5.1]; exact ma5.li, by rw [upd_ne nkd.symm]; exact ma5.dc⟩
        refine ⟨_, rfl, _, rfl, pk, pr, pf, pp, pm, dt, ml5, W, kvs, _, _, lk + 1, _, l ++ [48], rfl, wk5, ma6, rfl, by rw [List.length_append, List.length_singleton]; omega, Nat.lt_succ_of_lt hfl, fun v H6 wk6 tl6 f6 => ?_⟩
        refine k v ml5 H6 (.inr (F4.b _ hm5)) wk6 tl6 ⟨f6.k _ _ ma6.ob rfl ?_, f6.k _ _ ma6.li rfl ?_, f6.k _ _ ma6.dc rfl ?_⟩ (F5.trans (f6.mono (by simp)))
        · simp [nkm.symm, nPf]
        · simp [nml5.1, nml5.2.2.1]
        · simp [nkd.symm, nDf]
      · refine ⟨_, rfl, true, rfl, ?_⟩
        refine ⟨_, rfl, true, rfl, _, rfl, true, rfl, ?_⟩
        refine ⟨_, rfl, pk, _, rfl, wk_rest d1, .inl ⟨rfl, _, SqL.of d2⟩, _, rfl, pk, _, rfl, wk_said d1, S l, "1", rfl, rfl, ?_, pr, _, _, rfl, rfl, d2, by rw [List.length_map]; exact big6 (Nat.lt_succ_of_lt hrl), ?_⟩
        · have q1 : ("1" : Str).length = 1 := by decide +kernel
          have q2 := SX.S_len l
          exact sz (by omega)
        have q0 : S l ++ ("1" : Str) = S (l ++ [49]) := by
          rw [← SX.S_cat]
          rfl
        rw [q0]
        have F4 : Frm [pk, pr, pf, pp, pm] H (upd H3 pr (.lst (rest.map txV ++ [V.str (S (l ++ [49]))]))) := F3.put (by simp)
        have ma4 : MdAt (upd H3 pr (.lst (rest.map txV ++ [V.str (S (l ++ [49]))]))) pm dt ml W kvs lm (some l) (lk + 1) := ⟨by rw [upd_ne nPr]; exact e1, by rw [upd_ne nmr]; exact e2, by rw [upd_ne nDr]; exact e3⟩
        have et4 : (upd H3 pr (.lst (rest.map txV ++ [V.str (S (l ++ [49]))]))) t = H3 t := by rw [upd_ne ntr]
        have d1 : (upd H3 pr (.lst (rest.map txV ++ [V.str (S (l ++ [49]))]))) pk = some (.dK (wkv kd pr (.str (S l)) pf pp)) := by rw [upd_ne nkr]; exact d1
        have d2 : (upd H3 pr (.lst (rest.map txV ++ [V.str (S (l ++ [49]))]))) pr = some (.lst ((rest ++ [l ++ [49]]).map txV)) := by rw [upd_same, List.map_append]; rfl
        have d3 : (upd H3 pr (.lst (rest.map txV ++ [V.str (S (l ++ [49]))]))) pf = some (.lst (found.map txV)) := by rw [upd_ne n1.symm]; exact d3
        have d4 : (upd H3 pr (.lst (rest.map txV ++ [V.str (S (l ++ [49]))]))) pp = some (.lst (ts.map V.ref ++ [.ref t])) := by rw [upd_ne n2.symm]; exact d4
        have num : ∀ x ∈ lm, Num W x := fun x hx => (hbeg x hx).num
        refine ⟨_, rfl, _, rfl, true, rfl, .inr ⟨_, rfl, pm, dt, ml, 0, W, kvs, lm, l, lk + 1, rfl, .inl rfl, ma4, npd, num, hll, hlt, hW, fun ml5 H5 hm5 ma5 f5 => ?_⟩⟩
        have g1 := f5.k _ _ d1 rfl (by simpa using nkm)
        have g2 := f5.k _ _ d2 rfl (by simpa using nPr.symm)
        have g3 := f5.k _ _ d3 rfl (by simpa using nPf.symm)
        have g4 := f5.k _ _ d4 rfl (by simpa using nPp.symm)
        have nml5 : ml5 ≠ pk ∧ ml5 ≠ pr ∧ ml5 ≠ pf ∧ ml5 ≠ pp := ⟨(ne_of_none d1 hm5).symm, (ne_of_none d2 hm5).symm, (ne_of_none d3 hm5).symm, (ne_of_none d4 hm5).symm⟩
        refine ⟨_, rfl, pk, _, rfl, wk_said g1, _, rfl, true, rfl, .inr ⟨_, rfl, 0, rfl, by decide, S l, _, rfl, rfl, ?_, ?_⟩⟩
        · have q1 : (Str.ofString (toString (0 : Int))).length = 1 := by decide +kernel
          have q2 := SX.S_len l
          exact sz (by omega)
        have q3 : Str.ofString (toString (0 : Int)) = S [48] := by decide +kernel
        rw [q3, SX.S_cat]
        refine ⟨_, rfl, pk, _, rfl, wkp_said g1, ?_⟩
        have F5 : Frm [pk, pr, pf, pp, pm] H (upd H5 pk (.dK (wkv kd pr (.str (S (l ++ [48]))) pf pp))) := (F4.trans (f5.mono (by simp))).put (by simp)
        have et5 : (upd H5 pk (.dK (wkv kd pr (.str (S (l ++ [48]))) pf pp))) t = H3 t := by
          obtain ⟨u, hu2⟩ := htt
          rw [upd_ne ntk, hu2]
          exact f5.k _ _ (by rw [et4]; exact hu2) rfl (by simpa using (ne_of_none ma.ob ntn).symm)
        have wk5 : WkAt (upd H5 pk (.dK (wkv kd pr (.str (S (l ++ [48]))) pf pp))) pk pr pf pp ⟨kd, rest ++ [l ++ [49]], some (l ++ [48]), found, paper ++ [(l, true, true)]⟩ :=
          ⟨upd_same, by rw [upd_ne nkr.symm]; exact g2, by rw [upd_ne nkf.symm]; exact g3, ⟨ts ++ [t], by rw [upd_ne nkp.symm, trf]; exact g4, tlen, tu _ F5 et5⟩, n1, n2, n3⟩
        have ma6 : MdAt (upd H5 pk (.dK (wkv kd pr (.str (S (l ++ [48]))) pf pp))) pm dt ml5 W kvs (lm.filter (sg l.length 48)) (some (l ++ [48])) (lk + 1) := ⟨by rw [upd_ne nkm.symm]; exact ma5.ob, by rw [upd_ne nml5.1]; exact ma5.li, by rw [upd_ne nkd.symm]; exact ma5.dc⟩
        refine ⟨_, rfl, _, rfl, pk, pr, pf, pp, pm, dt, ml5, W, kvs, _, _, lk + 1, _, l ++ [48], rfl, wk5, ma6, rfl, by rw [List.length_append, List.length_singleton]; omega, Nat.lt_succ_of_lt hfl, fun v H6 wk6 tl6 f6 => ?_⟩
        refine k v ml5 H6 (.inr (F4.b _ hm5)) wk6 tl6 ⟨f6.k _ _ ma6.ob rfl ?_, f6.k _ _ ma6.li rfl ?_, f6.k _ _ ma6.dc rfl ?_⟩ (F5.trans (f6.mono (by simp)))
        · simp [nkm.symm, nPf]
        · simp [nml5.1, nml5.2.2.1]
        · simp [nkd.symm, nDf]
end
end B

set_option Elab.async false
set_option linter.all false
set_option maxRecDepth 100000
set_option maxHeartbeats 4000000
namespace B
open PySem PySem.Spec PyProof.Rows L2
open SX (S)
/-! ### a step keeps a walk well -/
theorem S_list (m : List Nat) : (S m).cps.toList = m := by simp [SX.S]
theorem beg_starts {W : Nat} {l : List Nat} {x : Str} (h : Num W x) (hs : starts l x = true) : Beg W l x := by
  obtain ⟨m, rfl, e, b⟩ := h
  have z := of_decide_eq_true hs
  rw [S_list] at z
  exact ⟨m, rfl, e, b, z⟩
theorem beg_next' {W : Nat} {l : List Nat} {x : Str} {c : Nat} (h : Beg W l x) (hc : sg l.length c x = true) : Beg W (l ++ [c]) x := by
  refine beg_starts h.num ?_
  rw [starts_snoc, hc]
  obtain ⟨m, rfl, e, b, t⟩ := h
  unfold starts
  rw [S_list, t, decide_eq_true rfl]
  rfl
structure WkOk (W : Nat) (lm : List Str) (sdm : Option (List Nat)) (st : WkS) (n : Nat) : Prop where
  rest : ∀ g ∈ st.rest, g.length ≤ W ∧ Bits g
  said : ∀ l, st.sd = some l → sdm = some l ∧ l.length < W ∧ Bits l ∧ ∀ x ∈ lm, Beg W l x
  len : st.rest.length ≤ n ∧ st.found.length ≤ n ∧ st.paper.length ≤ n
  lm : lm.length ≤ 100
theorem WkOk.none_ {W n : Nat} {lm : List Str} {sdm : Option (List Nat)} {st : WkS} (h : WkOk W lm sdm st n) (hr : st.rest ≠ []) : ∃ r g, st.rest = r ++ [g] ∧ g.length ≤ W ∧ Bits g := by
  refine ⟨st.rest.dropLast, st.rest.getLast hr, (List.dropLast_concat_getLast hr).symm, ?_⟩
  exact h.rest _ (List.getLast_mem hr)
theorem over_ok {W n : Nat} {lm : List Str} {st : WkS} {l : List Nat} (hr : ∀ g ∈ st.rest, g.length ≤ W ∧ Bits g) (hl : st.rest.length ≤ n ∧ st.found.length ≤ n - 1 ∧ st.paper.length ≤ n) (hn : 1 ≤ n) (hm : lm.length ≤ 100) (hb : Bits l) (hbeg : ∀ x ∈ lm, Beg W l x) : WkOk W lm (some l) (overF W st l).1 n := by
  unfold overF
  split
  · rename_i h
    exact ⟨hr, fun l' e => by cases e; exact ⟨rfl, h, hb, hbeg⟩, ⟨hl.1, by show st.found.length ≤ n; omega, hl.2.2⟩, hm⟩
  · refine ⟨hr, fun l' e => (by cases e), ⟨hl.1, ?_, hl.2.2⟩, hm⟩
    show (st.found ++ [l]).length ≤ n
    rw [List.length_append, List.length_singleton]
    omega
theorem step_ok {W n : Nat} {kvs : List (Str × Bool)} {lm : List Str} {sdm : Option (List Nat)} {lk : Int} {st : WkS} (h : WkOk W lm sdm st n) (hr : st.sd = none → st.rest ≠ []) (hk : kvs.length ≤ 100) (hkn : ∀ x ∈ kvs.map (·.1), Num W x) :
    WkOk W (stepF W kvs lm lk st).2.1 (stepF W kvs lm lk st).2.2.1 (stepF W kvs lm lk st).1.1 (n + 1) := by
  obtain ⟨kd, rest, sd, found, paper⟩ := st
  obtain ⟨h1, h2, ⟨h3, h4, h5⟩, h6⟩ := id h
  dsimp only at h1 h2 h3 h4 h5
  cases sd with
  | none =>
    obtain ⟨r, g, e, hg, hb⟩ := h.none_ (hr rfl)
    dsimp only at e
    subst e
    have e0 : stepF W kvs lm lk ⟨kd, r ++ [g], none, found, paper⟩ = (overF W ⟨kd, r, none, found, paper⟩ g, begF kvs kd g, some g, lk) := by
      unfold stepF
      simp
    rw [e0]
    have bs := begF_sub (kvs := kvs) (kd := kd) (l := g)
    rw [List.length_append, List.length_singleton] at h3
    refine over_ok (fun q hq => h1 q (List.mem_append_left _ hq)) ⟨?_, ?_, ?_⟩ (by omega) (by show (begF kvs kd g).length ≤ 100; omega) hb fun x hx => beg_starts (hkn x (bs.2 x hx).1) (bs.2 x hx).2
    · show r.length ≤ n + 1
      omega
    · show found.length ≤ n + 1 - 1
      omega
    · show paper.length ≤ n + 1
      omega
  | some l =>
    obtain ⟨e, hlt, hlb, hbeg⟩ := h2 l rfl
    subst e
    have hp : ∀ q : List Nat × Bool × Bool, (paper ++ [q]).length ≤ n + 1 := fun q => by
      rw [List.length_append, List.length_singleton]
      omega
    unfold stepF
    dsimp only
    split
    · exact ⟨h1, fun l' e => (by cases e), ⟨by show rest.length ≤ n + 1; omega, by show found.length ≤ n + 1; omega, hp _⟩, h6⟩
    · have hbit : ∀ z : Bool, (if z = true then 48 else 49) = 48 ∨ (if z = true then 48 else 49) = 49 := fun z => by cases z <;> simp
      have bb : ∀ c : Nat, c = 48 ∨ c = 49 → Bits (l ++ [c]) := fun c hc => hlb.snoc hc
      refine over_ok ?_ ⟨?_, ?_, ?_⟩ (by omega) ?_ (bb _ (hbit _)) ?_
      · split
        · intro g hg
          rcases List.mem_append.mp hg with z | z
          · exact h1 g z
          · rw [List.mem_singleton.mp z, List.length_append, List.length_singleton]
            exact ⟨by omega, bb 49 (.inr rfl)⟩
        · exact h1
      · split
        · show (rest ++ [l ++ [49]]).length ≤ n + 1
          rw [List.length_append, List.length_singleton]
          omega
        · show rest.length ≤ n + 1
          omega
      · split
        · show found.length ≤ n + 1 - 1
          omega
        · show found.length ≤ n + 1 - 1
          omega
      · split
        · exact hp _
        · exact hp _
      · exact Nat.le_trans (List.length_filter_le _ _) h6
      · intro x hx
        obtain ⟨x1, x2⟩ := List.mem_filter.mp hx
        exact beg_next' (hbeg x x1) x2
theorem over_no {W : Nat} {st : WkS} {l : List Nat} (h : (overF W st l).2 = .no) : (overF W st l).1.sd = some l ∧ l.length < W := by
  unfold overF at h ⊢
  split
  · rename_i c
    exact ⟨rfl, c⟩
  · rename_i c
    rw [if_neg c] at h
    cases h
theorem step_no {W : Nat} {kvs : List (Str × Bool)} {lm : List Str} {lk : Int} {st : WkS} (h : (stepF W kvs lm lk st).1.2 = .no) : ∃ l', (stepF W kvs lm lk st).1.1.sd = some l' ∧ l'.length < W ∧ ∀ l, st.sd = some l → l'.length = l.length + 1 := by
  obtain ⟨kd, rest, sd, found, paper⟩ := st
  cases sd with
  | none =>
    have q := over_no (W := W) (st := ⟨kd, rest.dropLast, none, found, paper⟩) (l := rest.getLast?.getD []) h
    exact ⟨_, q.1, q.2, fun l e => by cases e⟩
  | some l =>
    unfold stepF at h ⊢
    dsimp only at h ⊢
    split
    · rename_i c
      rw [if_pos c] at h
      cases h
    · rename_i c
      rw [if_neg c] at h
      have q := over_no h
      exact ⟨_, q.1, q.2, fun l' e => by cases e; rw [List.length_append, List.length_singleton]⟩
/-- steps till a round is over -/
def roundF (W : Nat) (kvs : List (Str × Bool)) : Nat → List Str → Int → WkS → (WkS × Tld) × List Str × Option (List Nat) × Int
  | 0, lm, lk, st => stepF W kvs lm lk st
  | n + 1, lm, lk, st => match (stepF W kvs lm lk st).1.2 with
    | .no => roundF W kvs n (stepF W kvs lm lk st).2.1 (stepF W kvs lm lk st).2.2.2 (stepF W kvs lm lk st).1.1
    | _ => stepF W kvs lm lk st
theorem round_no {W n : Nat} {kvs : List (Str × Bool)} {lm : List Str} {lk : Int} {st : WkS} (h : (stepF W kvs lm lk st).1.2 = .no) : roundF W kvs (n + 1) lm lk st = roundF W kvs n (stepF W kvs lm lk st).2.1 (stepF W kvs lm lk st).2.2.2 (stepF W kvs lm lk st).1.1 := by
  show (match (stepF W kvs lm lk st).1.2 with | .no => _ | _ => _) = _
  rw [h]
theorem round_yes {W n : Nat} {kvs : List (Str × Bool)} {lm : List Str} {lk : Int} {st : WkS} (h : (stepF W kvs lm lk st).1.2 ≠ .no) : roundF W kvs n lm lk st = stepF W kvs lm lk st := by
  cases n with
  | zero => rfl
  | succ n =>
    show (match (stepF W kvs lm lk st).1.2 with | .no => _ | _ => _) = _
    cases q : (stepF W kvs lm lk st).1.2 with
    | no => exact absurd q h
    | lost => rfl
    | found l => rfl
section
variable {P : Program} {w : World} {K : PySem.W.Frag} {mg : Str → Option Value} {base : Heap}
def spRound_ : Sp := fun vs H Q _ => ∃ (pk pr pf pp pm dt ml : Addr) (W n : Nat) (kvs : List (Str × Bool)) (lm : List Str) (sdm : Option (List Nat)) (lk : Int) (st : WkS), vs = [.ref pk, .ref pm] ∧ WkAt H pk pr pf pp st ∧ MdAt H pm dt ml W kvs lm sdm lk ∧ pm ≠ dt ∧ pk ≠ pm ∧ pk ≠ dt ∧ (ml ≠ pr ∧ ml ≠ pf ∧ ml ≠ pp) ∧
  (kvs.map (·.1)).Nodup ∧ kvs.length ≤ 100 ∧ (∀ x ∈ kvs.map (·.1), Num W x) ∧ W ≤ 12 ∧ WkOk W lm sdm st n ∧ n ≤ 900000 ∧ (st.sd = none → st.rest ≠ []) ∧
  ∀ (v : V) (ml' : Addr) (H' : Hp), (ml' = ml ∨ H ml' = none) → WkAt H' pk pr pf pp (roundF W kvs W lm lk st).1.1 → TldAt H' (roundF W kvs W lm lk st).1.2 v → MdAt H' pm dt ml' W kvs (roundF W kvs W lm lk st).2.1 (roundF W kvs W lm lk st).2.2.1 (roundF W kvs W lm lk st).2.2.2 → Frm [pk, pr, pf, pp, pm] H H' → Q v H'
theorem c_lround (T : Txt P w K mg base) : CalX CX0 P w K mg base 3 "_law_round" spRound_ := by
  obtain ⟨fd, F⟩ := T.t.def_ 55 (d := d_lround)
  refine ⟨_, fd, _, F.ok sc_lround (fun vs H Q E h => ?_) (fun cdv A outer s H vs Q E hr h => ?_), He.glo_ok T.X T.G (T.t.fact 23), F.kp, F.bindsN fun _ _ _ _ _ _ us hl => match us, hl with | [_, _], _ => rfl⟩
  · obtain ⟨pk, pr, pf, pp, pm, dt, ml, W, n, kvs, lm, sdm, lk, st, rfl, _⟩ := h
    rfl
  · obtain ⟨pk, pr, pf, pp, pm, dt, ml, W, n, kvs, lm, sdm, lk, st, rfl, wk, ma, npd, nkm, nkd, nml, hnd, hkl, hkn, hW, hok, hn, hne, k⟩ := h
    have hu := hu_of hr
    refine ⟨_, PSs.nox (pss_cons (ps_set (i := 2) sc_lround.nd rfl (Or.inl rfl) (pe_cx (c_lstep T) hr (by decide) rfl pass0 (pa_cons (pv 0) (pa_cons (pv 1) pa_nil))))
    (pss_cons (ps_while PassesOwn.never (pt_cmpR op_isN (pv 2) pe_non (nomark _))
      (pss_one (ps_set (i := 2) sc_lround.nd rfl (Or.inl rfl) (pe_cx (c_lstep T) hr (by decide) rfl pass0 (pa_cons (pv 0) (pa_cons (pv 1) pa_nil))))))
    (pss_one (ps_ret (pv 2))))), ?_⟩
    have lists : ∀ {b : Addr}, H b = none → b ≠ pr ∧ b ≠ pf ∧ b ≠ pp := fun hb => ⟨(ne_of_none wk.rs hb).symm, (ne_of_none wk.fd hb).symm, by obtain ⟨ts, e, _⟩ := wk.pa; exact (ne_of_none e hb).symm⟩
    -- one step from where one stands
    have one : ∀ (m : Nat) (H1 : Hp) (ml1 : Addr) (lm1 : List Str) (sd1 : Option (List Nat)) (lk1 : Int) (st1 : WkS) (Q' : VK), WkAt H1 pk pr pf pp st1 → MdAt H1 pm dt ml1 W kvs lm1 sd1 lk1 → (ml1 ≠ pr ∧ ml1 ≠ pf ∧ ml1 ≠ pp) → WkOk W lm1 sd1 st1 m → m ≤ 990000 → (st1.sd = none → st1.rest ≠ []) →
        (∀ (v : V) (ml' : Addr) (H' : Hp), (ml' = ml1 ∨ H1 ml' = none) → WkAt H' pk pr pf pp (stepF W kvs lm1 lk1 st1).1.1 → TldAt H' (stepF W kvs lm1 lk1 st1).1.2 v → MdAt H' pm dt ml' W kvs (stepF W kvs lm1 lk1 st1).2.1 (stepF W kvs lm1 lk1 st1).2.2.1 (stepF W kvs lm1 lk1 st1).2.2.2 → Frm [pk, pr, pf, pp, pm] H1 H' → Q' v H') →
        spStep ([V.ref pk, .ref pm] ++ []) H1 Q' E0 := fun m H1 ml1 lm1 sd1 lk1 st1 Q' a b c d e f g =>
      ⟨pk, pr, pf, pp, pm, dt, ml1, W, kvs, lm1, sd1, lk1, st1, rfl, a, b, npd, nkm, nkd, c, hnd, hkl, hkn, d.lm, hW, by have := d.len.1; omega, by have := d.len.2.1; omega, by have := d.len.2.2; omega, fun z => d.none_ (f z), d.said, g⟩
    refine ⟨_, rfl, _, rfl, one n H ml lm sdm lk st _ wk ma nml hok (by omega) hne fun v ml1 H1 hml1 wk1 tl1 ma1 f1 => ?_⟩
    generalize hR : roundF W kvs W lm lk st = R at k
    let Wd : Nat → L2.St → Hp → Prop := fun m σ H' => ∃ (v : V) (ml' : Addr) (r : (WkS × Tld) × List Str × Option (List Nat) × Int), σ = [some (.ref pk), some (.ref pm), some v] ∧ WkAt H' pk pr pf pp r.1.1 ∧ TldAt H' r.1.2 v ∧ MdAt H' pm dt ml' W kvs r.2.1 r.2.2.1 r.2.2.2 ∧
      (ml' ≠ pr ∧ ml' ≠ pf ∧ ml' ≠ pp) ∧ (ml' = ml ∨ H ml' = none) ∧ Frm [pk, pr, pf, pp, pm] H H' ∧
      ((r.1.2 ≠ .no ∧ r = R) ∨ (r.1.2 = .no ∧ ∃ (l' : List Nat) (j b : Nat), r.1.1.sd = some l' ∧ WkOk W r.2.1 r.2.2.1 r.1.1 b ∧ b + j ≤ n + 1 + W ∧ m = j + 1 ∧ W ≤ l'.length + j + 1 ∧ roundF W kvs j r.2.1 r.2.2.2 r.1.1 = R))
    refine ⟨Wd, ?_, ?_⟩
    · by_cases hno : (stepF W kvs lm lk st).1.2 = .no
      · obtain ⟨l', e1, e2, _⟩ := step_no hno
        obtain ⟨w', rfl⟩ : ∃ w', W = w' + 1 := ⟨W - 1, by omega⟩
        refine ⟨w' + 1, v, ml1, stepF (w' + 1) kvs lm lk st, rfl, wk1, tl1, ma1, ?_, hml1, f1, .inr ⟨hno, l', w', n + 1, e1, step_ok hok hne hkl hkn, by omega, rfl, by omega, ?_⟩⟩
        · exact hml1.elim (fun e => by rw [e]; exact nml) lists
        · rw [← hR, round_no hno]
      · exact ⟨0, v, ml1, stepF W kvs lm lk st, rfl, wk1, tl1, ma1, hml1.elim (fun e => by rw [e]; exact nml) lists, hml1, f1, .inl ⟨hno, by rw [← hR, round_yes hno]⟩⟩
    · rintro m σ H2 ⟨v2, ml2, r, rfl, wk2, tl2, ma2, nm2, hm2, f2, hc⟩
      refine ⟨_, rfl, rfl, _, rfl, ?_⟩
      rcases hc with ⟨hno, rfl⟩ | ⟨hno, l', j, b, e1, ok2, hb, rfl, hj, hroundR⟩
      · have ev : ∃ t, v2 = .ref t := by
          cases q : r.1.2 with
          | no => exact absurd q hno
          | lost =>
            rw [q] at tl2
            obtain ⟨t, e, _⟩ := tl2
            exact ⟨t, e⟩
          | found l =>
            rw [q] at tl2
            obtain ⟨t, e, _⟩ := tl2
            exact ⟨t, e⟩
        obtain ⟨t, rfl⟩ := ev
        exact ⟨_, rfl, k _ ml2 H2 hm2 wk2 tl2 ma2 f2⟩
      · rw [hno] at tl2
        obtain rfl : v2 = .non := tl2
        refine ⟨fun σ' H' => ∃ m', m' < j + 1 ∧ Wd m' σ' H', fun _ _ h => h, ?_⟩
        have hsd : r.1.1.sd = none → r.1.1.rest ≠ [] := fun z => by rw [e1] at z; cases z
        refine ⟨_, rfl, _, rfl, one b H2 ml2 r.2.1 r.2.2.1 r.2.2.2 r.1.1 _ wk2 ma2 nm2 ok2 (by omega) hsd fun v3 ml3 H3 hml3 wk3 tl3 ma3 f3 => ?_⟩
        have hm3 : ml3 = ml ∨ H ml3 = none := hml3.elim (fun e => by rw [e]; exact hm2) fun z => .inr (f2.b _ z)
        have nm3 : ml3 ≠ pr ∧ ml3 ≠ pf ∧ ml3 ≠ pp := hm3.elim (fun e => by rw [e]; exact nml) lists
        by_cases hno3 : (stepF W kvs r.2.1 r.2.2.2 r.1.1).1.2 = .no
        · obtain ⟨l3, g1, g2, g3⟩ := step_no hno3
          have g4 := g3 l' e1
          obtain ⟨j', rfl⟩ : ∃ j', j = j' + 1 := ⟨j - 1, by omega⟩
          refine ⟨j' + 1, by omega, v3, ml3, _, rfl, wk3, tl3, ma3, nm3, hm3, f2.trans f3, .inr ⟨hno3, l3, j', b + 1, g1, step_ok ok2 hsd hkl hkn, by omega, rfl, by omega, ?_⟩⟩
          rw [← hroundR, round_no hno3]
        · exact ⟨0, by omega, v3, ml3, _, rfl, wk3, tl3, ma3, nm3, hm3, f2.trans f3, .inl ⟨hno3, by rw [← hroundR, round_yes hno3]⟩⟩
end
end B

set_option Elab.async false
set_option linter.all false
set_option maxRecDepth 100000
set_option maxHeartbeats 4000000
namespace B
open PySem PySem.Spec PyProof.Rows L2
open SX (S)
/-! ### a walk ends -/
/-- of a beginning to go to; of what is said -/
def wR (W : Nat) (g : List Nat) : Nat := 2 ^ (W - g.length + 2) - 1
def wS (W : Nat) (l : List Nat) : Nat := 2 ^ (W - l.length + 2) - 2
def sumR (W : Nat) : List (List Nat) → Nat
  | [] => 0
  | g :: r => wR W g + sumR W r
theorem sumR_app {W : Nat} : ∀ {a b : List (List Nat)}, sumR W (a ++ b) = sumR W a + sumR W b
  | [], b => by show sumR W b = 0 + sumR W b; omega
  | g :: a, b => by
    have := sumR_app (W := W) (a := a) (b := b)
    show wR W g + sumR W (a ++ b) = wR W g + sumR W a + sumR W b
    omega
def meas (W : Nat) (st : WkS) : Nat := sumR W st.rest + (match st.sd with | none => 0 | some l => wS W l)
theorem two_pow {n : Nat} : 4 ≤ 2 ^ (n + 2) := by
  have := Nat.one_le_two_pow (n := n)
  rw [Nat.pow_add]
  omega
theorem over_meas {W : Nat} {st : WkS} {l : List Nat} : meas W (overF W st l).1 ≤ sumR W st.rest + wS W l := by
  unfold overF meas
  split
  · exact Nat.le_refl _
  · show sumR W st.rest + 0 ≤ _
    omega
theorem step_meas {W n : Nat} {kvs : List (Str × Bool)} {lm : List Str} {sdm : Option (List Nat)} {lk : Int} {st : WkS} (h : WkOk W lm sdm st n) (hr : st.sd = none → st.rest ≠ []) : meas W (stepF W kvs lm lk st).1.1 < meas W st := by
  obtain ⟨kd, rest, sd, found, paper⟩ := st
  cases sd with
  | none =>
    obtain ⟨r, g, e, hg, hb⟩ := h.none_ (hr rfl)
    dsimp only at e
    subst e
    have e0 : stepF W kvs lm lk ⟨kd, r ++ [g], none, found, paper⟩ = (overF W ⟨kd, r, none, found, paper⟩ g, begF kvs kd g, some g, lk) := by
      unfold stepF
      simp
    rw [e0]
    have q := over_meas (W := W) (st := ⟨kd, r, none, found, paper⟩) (l := g)
    refine Nat.lt_of_le_of_lt q ?_
    show sumR W r + wS W g < sumR W (r ++ [g]) + 0
    rw [sumR_app]
    show sumR W r + wS W g < sumR W r + (wR W g + 0) + 0
    have := two_pow (n := W - g.length)
    unfold wS wR
    omega
  | some l =>
    obtain ⟨_, hlt, _, _⟩ := h.said l rfl
    unfold stepF
    dsimp only
    have p1 := two_pow (n := W - l.length)
    split
    · show sumR W rest + 0 < sumR W rest + wS W l
      unfold wS
      omega
    · refine Nat.lt_of_le_of_lt over_meas ?_
      have en : W - l.length = (W - (l.length + 1)) + 1 := by omega
      have lc : ∀ c : Nat, (l ++ [c]).length = l.length + 1 := fun c => by rw [List.length_append, List.length_singleton]
      have p2 := two_pow (n := W - (l.length + 1))
      have ep : 2 ^ (W - l.length + 2) = 2 * 2 ^ (W - (l.length + 1) + 2) := by
        rw [en, show W - (l.length + 1) + 1 + 2 = (W - (l.length + 1) + 2) + 1 from by omega, Nat.pow_succ]
        omega
      show sumR W _ + wS W _ < sumR W rest + wS W l
      split
      · show sumR W (rest ++ [l ++ [49]]) + wS W _ < _
        rw [sumR_app]
        show sumR W rest + (wR W (l ++ [49]) + 0) + wS W _ < sumR W rest + wS W l
        unfold wS wR
        rw [lc, lc, ep]
        omega
      · show sumR W rest + wS W _ < sumR W rest + wS W l
        unfold wS
        rw [lc, ep]
        omega
end B

set_option Elab.async false
set_option linter.all false
set_option maxRecDepth 100000
set_option maxHeartbeats 4000000
namespace B
open PySem PySem.Spec PyProof.Rows L2
open SX (S)
theorem nodup_le {xs : List Str} : ∀ {ys : List Str}, xs.Nodup → (∀ x ∈ xs, x ∈ ys) → xs.length ≤ ys.length := by
  induction xs with
  | nil => intro ys _ _; exact Nat.zero_le _
  | cons x r ih =>
    intro ys hn hs
    have hx := hs x (List.mem_cons_self ..)
    have n := List.nodup_cons.mp hn
    have q := ih (ys := ys.erase x) n.2 fun z hz => by
      have ne : z ≠ x := fun e => n.1 (e ▸ hz)
      exact (List.mem_erase_of_ne ne).mpr (hs z (List.mem_cons_of_mem _ hz))
    rw [List.length_erase_of_mem hx] at q
    have := List.length_pos_of_mem hx
    rw [List.length_cons]
    omega
/-- what the wire counts of a round -/
def msOf (W : Nat) : Option (List Nat) → Int
  | none => W
  | some l => l.length
/-- a wire and an own one agree -/
structure SideX (K : PySem.W.Frag) (H : Hp) (pw dh dl pm dt ml : Addr) (W : Nat) (names : List Str) (kvs : List (Str × Bool)) (lw lm : List Str) (sd : Option (List Nat)) (lk : Int) : Prop where
  wa : WiAt K H pw dh dl W kvs lw (msOf W sd) lk
  ma : MdAt H pm dt ml W kvs lm sd lk
  perm : lw.Perm lm
  nd : (kvs.map (·.1)).Nodup
  sub : ∀ x ∈ kvs.map (·.1), x ∈ names
  len : lm.length ≤ 41
  num : ∀ x ∈ lm, Num W x
  beg : ∀ l, sd = some l → l.length ≤ W ∧ ∀ x ∈ lm, Beg W l x
  ne : pm ≠ dt ∧ dh ≠ pm ∧ dh ≠ dt
/-- the numbers that a side draws from -/
structure Pool (H : Hp) (pn : Addr) (W : Nat) (names : List Str) : Prop where
  at_ : H pn = some (.lst (names.map V.str))
  ne : names ≠ []
  len : names.length ≤ 41
  num : ∀ x ∈ names, Num W x
  w : 1 ≤ W ∧ W ≤ 12
theorem has_key {kvs : List (Str × Bool)} {x : Str} : hasK kvs x = true ↔ x ∈ kvs.map (·.1) := by
  unfold hasK
  rw [List.any_eq_true]
  constructor
  · rintro ⟨p, hp, e⟩
    exact List.mem_map.mpr ⟨p, hp, of_decide_eq_true e⟩
  · intro h
    obtain ⟨p, hp, e⟩ := List.mem_map.mp h
    exact ⟨p, hp, decide_eq_true e⟩
theorem keys_put {kvs : List (Str × Bool)} {x : Str} {b : Bool} : (putB kvs x b).map (·.1) = if hasK kvs x = true then kvs.map (·.1) else kvs.map (·.1) ++ [x] := by
  unfold putB
  split
  · rw [List.map_map]
    apply List.map_congr_left
    intro p _
    show (if p.1 = x then (p.1, b) else p).1 = p.1
    split <;> rfl
  · rw [List.map_append]
    rfl
theorem put_nodup {kvs : List (Str × Bool)} {x : Str} {b : Bool} (h : (kvs.map (·.1)).Nodup) : ((putB kvs x b).map (·.1)).Nodup := by
  rw [keys_put]
  split
  · exact h
  · rename_i nh
    rw [List.nodup_append]
    refine ⟨h, by simp, fun a ha c hc => ?_⟩
    rw [List.mem_singleton] at hc
    rw [hc]
    intro e
    exact nh (has_key.mpr (e ▸ ha))
theorem put_sub {kvs : List (Str × Bool)} {x : Str} {b : Bool} {names : List Str} (h : ∀ y ∈ kvs.map (·.1), y ∈ names) (hx : x ∈ names) : ∀ y ∈ (putB kvs x b).map (·.1), y ∈ names := by
  rw [keys_put]
  split
  · exact h
  · intro y hy
    rw [List.mem_append, List.mem_singleton] at hy
    rcases hy with z | rfl
    · exact h y z
    · exact hx
theorem drop_keys {kvs : List (Str × Bool)} {x : Str} : (dropB kvs x).map (·.1) = (kvs.map (·.1)).filter (fun y => decide (y ≠ x)) := by
  unfold dropB
  rw [List.filter_map]
  rfl
theorem deed_nodup {kvs : List (Str × Bool)} {wd x : Str} (h : (kvs.map (·.1)).Nodup) : ((deedK kvs wd x).map (·.1)).Nodup := by
  unfold deedK
  split
  · split
    · exact h
    · exact put_nodup h
  · split
    · split
      · rw [drop_keys]
        exact h.filter _
      · exact put_nodup h
    · exact h
theorem deed_sub {kvs : List (Str × Bool)} {wd x : Str} {names : List Str} (h : ∀ y ∈ kvs.map (·.1), y ∈ names) (hx : x ∈ names) : ∀ y ∈ (deedK kvs wd x).map (·.1), y ∈ names := by
  unfold deedK
  split
  · split
    · exact h
    · exact put_sub h hx
  · split
    · split
      · rw [drop_keys]
        intro y hy
        exact h y (List.mem_filter.mp hy).1
      · exact put_sub h hx
    · exact h
theorem deed_len {kvs : List (Str × Bool)} {lm : List Str} {wd x : Str} : (deedL kvs lm wd x).length ≤ lm.length ∧ ∀ y ∈ deedL kvs lm wd x, y ∈ lm := by
  unfold deedL
  split
  · exact ⟨List.length_filter_le _ _, fun y hy => (List.mem_filter.mp hy).1⟩
  · exact ⟨Nat.le_refl _, fun y hy => hy⟩
theorem deed_perm {kvs : List (Str × Bool)} {lw lm : List Str} {wd x : Str} (h : lw.Perm lm) : (deedL kvs lw wd x).Perm (deedL kvs lm wd x) := by
  unfold deedL
  split
  · exact h.filter _
  · exact h
theorem deed_no {kvs : List (Str × Bool)} {lm : List Str} {wd x : Str} (h : ¬ deedW kvs wd x = "") : deedK kvs wd x = kvs ∧ deedL kvs lm wd x = lm := by
  unfold deedW at h
  unfold deedK deedL
  split at h
  · rename_i e
    rw [if_pos e]
    split at h
    · rename_i k
      rw [if_pos k, if_neg (fun z => absurd (e.symm.trans z.1) (by decide +kernel))]
      exact ⟨rfl, rfl⟩
    · exact absurd rfl h
  · rename_i e
    rw [if_neg e]
    split at h
    · exact absurd rfl h
    · rename_i k
      rw [if_neg k, if_neg (fun z => k z.2)]
      exact ⟨rfl, rfl⟩
end B

set_option Elab.async false
set_option linter.all false
set_option maxRecDepth 100000
set_option maxHeartbeats 4000000
namespace B
open PySem PySem.Spec PyProof.Rows L2
open SX (S)
/-! ### the program's walk -/
abbrev VC (K : PySem.W.Frag) : Addr := He.ga K "Walk"
def vfl (pw : Addr) (kd : Str) (qr qf qp : Addr) (sd : V) : List (Str × V) := [("_wire", .ref pw), ("_kind", .str kd), ("_row", .ref qr), ("_found", .ref qf), ("_paper", .ref qp), ("_said", sd)]
structure VkAt (K : PySem.W.Frag) (H : Hp) (qk pw qr qf qp : Addr) (st : WkS) : Prop where
  ob : ∃ dx, H qk = some (.ins (VC K) dx (vfl pw st.kd qr qf qp (sdV st.sd)))
  rs : H qr = some (.lst (st.rest.map txV))
  fd : H qf = some (.lst (st.found.map txV))
  pa : ∃ ts : List Addr, H qp = some (.lst (ts.map V.ref)) ∧ ts.length = st.paper.length ∧ ∀ (i : Nat) (t : Addr) (q : List Nat × Bool × Bool), ts[i]? = some t → st.paper[i]? = some q → H t = some (.tup [txV q.1, .bl q.2.1, .bl q.2.2])
  ne : qr ≠ qf ∧ qr ≠ qp ∧ qf ≠ qp
section
variable {pw qr qf qp : Addr} {kd : Str} {sd v : V}
theorem vl_wire : (vfl pw kd qr qf qp sd).lookup ("_wire" : Str) = some (.ref pw) := by kernel_rfl
theorem vl_kind : (vfl pw kd qr qf qp sd).lookup ("_kind" : Str) = some (.str kd) := by kernel_rfl
theorem vl_row : (vfl pw kd qr qf qp sd).lookup ("_row" : Str) = some (.ref qr) := by kernel_rfl
theorem vl_found : (vfl pw kd qr qf qp sd).lookup ("_found" : Str) = some (.ref qf) := by kernel_rfl
theorem vl_paper : (vfl pw kd qr qf qp sd).lookup ("_paper" : Str) = some (.ref qp) := by kernel_rfl
theorem vl_said : (vfl pw kd qr qf qp sd).lookup ("_said" : Str) = some sd := by kernel_rfl
theorem vp_said : putF "_said" v (vfl pw kd qr qf qp sd) = vfl pw kd qr qf qp v := by kernel_rfl
theorem vp_new : putF "_said" .non (putF "_paper" (.ref qp) (putF "_found" (.ref qf) (putF "_row" (.ref qr) (putF "_kind" (.str kd) (putF "_wire" (.ref pw) []))))) = vfl pw kd qr qf qp .non := by kernel_rfl
theorem vl_len : (vfl pw kd qr qf qp sd).length < 1000 := by show 6 < 1000; decide
theorem vx_step : (vfl pw kd qr qf qp sd).lookup ("step" : Str) = none := by kernel_rfl
theorem vx_round : (vfl pw kd qr qf qp sd).lookup ("go_round" : Str) = none := by kernel_rfl
theorem vx_all : (vfl pw kd qr qf qp sd).lookup ("go_all" : Str) = none := by kernel_rfl
theorem vx_left : (vfl pw kd qr qf qp sd).lookup ("left" : Str) = none := by kernel_rfl
theorem vx_found : (vfl pw kd qr qf qp sd).lookup ("found" : Str) = none := by kernel_rfl
theorem vx_paper : (vfl pw kd qr qf qp sd).lookup ("paper" : Str) = none := by kernel_rfl
theorem vx_under : (vfl pw kd qr qf qp sd).lookup ("is_under_way" : Str) = none := by kernel_rfl
theorem vx_begin : (vfl pw kd qr qf qp sd).lookup ("_begin_round" : Str) = none := by kernel_rfl
theorem vx_say : (vfl pw kd qr qf qp sd).lookup ("_say" : Str) = none := by kernel_rfl
end
section
variable {P : Program} {w : World} {K : PySem.W.Frag} {mg : Str → Option Value} {base : Heap}
theorem vcl (T : Txt P w K mg base) : Cls K (VC K) := He.cls_ok (T.t.fact 92 (f := .cls "Walk"))
theorem vn_wire (T : Txt P w K mg base) : NoAttr K (VC K) "_wire" := He.noat_ok (T.t.fact 94 (f := .noat "Walk" "_wire"))
theorem vn_kind (T : Txt P w K mg base) : NoAttr K (VC K) "_kind" := He.noat_ok (T.t.fact 95 (f := .noat "Walk" "_kind"))
theorem vn_row (T : Txt P w K mg base) : NoAttr K (VC K) "_row" := He.noat_ok (T.t.fact 96 (f := .noat "Walk" "_row"))
theorem vn_found (T : Txt P w K mg base) : NoAttr K (VC K) "_found" := He.noat_ok (T.t.fact 97 (f := .noat "Walk" "_found"))
theorem vn_paper (T : Txt P w K mg base) : NoAttr K (VC K) "_paper" := He.noat_ok (T.t.fact 98 (f := .noat "Walk" "_paper"))
theorem vn_said (T : Txt P w K mg base) : NoAttr K (VC K) "_said" := He.noat_ok (T.t.fact 99 (f := .noat "Walk" "_said"))
end
section
variable {X : Cx}
theorem mk_Over (T : Txt X.prog X.w X.K X.mg X.base) {m : Str} {j : Nat} {p p2 pos : Pos} (hg : Gl X "Over" := by rfl) : PMk X (.Call (.Name "Over" p) [.Constant (.str m) j p2] [] pos) (fun _ H Q => Q (.ref (He.ga X.K "Over")) none H) := by
  obtain ⟨a, b, c, d⟩ := He.exc_ok (T.t.fact 133 (f := .exc "Over"))
  exact pmk_own PySem.F.excBase_ValueError a (g_Over T) b (raises_own c d) hg
end
theorem VkAt.keep {K : PySem.W.Frag} {S : List Addr} {H H' : Hp} {qk pw qr qf qp : Addr} {st : WkS} (h : VkAt K H qk pw qr qf qp st) (f : FrT K S H H') (n : NL S H) (h1 : qk ∉ S) (h2 : qr ∉ S) (h3 : qf ∉ S) (h4 : qp ∉ S) : VkAt K H' qk pw qr qf qp st := by
  obtain ⟨⟨dx, o1⟩, o2, o3, ⟨ts, o4, o5, o6⟩, ne⟩ := h
  exact ⟨⟨dx, f.k _ _ o1 rfl h1⟩, f.k _ _ o2 rfl h2, f.k _ _ o3 rfl h3, ⟨ts, f.k _ _ o4 rfl h4, o5, fun i t q a b => f.at n (o6 i t q a b) rfl rfl⟩, ne⟩
section
variable {P : Program} {w : World} {K : PySem.W.Frag} {mg : Str → Option Value} {base : Heap}
/-! ### a walk made -/
def spVNew (K : PySem.W.Frag) : Sp := fun vs H Q _ => ∃ (qk dx pw : Addr) (kd : Str), vs = [.ref qk, .ref pw, .str kd] ∧ (kd = "all" ∨ kd = "alarm") ∧ H qk = some (.ins (VC K) dx []) ∧ ∀ (qr qf qp : Addr) (H' : Hp), H qr = none → H qf = none → H qp = none → VkAt K H' qk pw qr qf qp ⟨kd, [[]], none, [], []⟩ → Frm [qk] H H' → Q .non H'
theorem k_Walk (T : Txt P w K mg base) : MakX CX0 P w K mg base 2 "Walk" (VC K) (spVNew K) := by
  obtain ⟨fd, F⟩ := T.t.def_ 17 (d := d_Walk_init)
  refine ⟨_, fd, _, He.mkr_ok (T.t.fact 93 (f := .mkr "Walk")), F.ok sc_Walk_init (fun vs H Q E h => ?_) (fun cdv A outer s H vs Q E hr h => ?_), g_Walk T, F.bindsN fun _ _ _ _ _ _ us hl => match us, hl with | [_, _, _], _ => rfl⟩
  · obtain ⟨qk, dx, pw, kd, rfl, _⟩ := h
    rfl
  · obtain ⟨qk, dx, pw, kd, rfl, hk, h1, k⟩ := h
    refine ⟨_, PSs.nox (pss_cons (ps_expr (pe_cx (c_require_kind T) hr (by decide) rfl pass0 (pa_cons (pv 2) pa_nil)))
    (pss_cons (ps_fld (pv 0) (pv 1) rfl)
    (pss_cons (ps_fld (pv 0) (pv 2) rfl)
    (pss_cons (ps_fld (pv 0) (pe_lst (pa_cons pe_str pa_nil)) rfl)
    (pss_cons (ps_fld (pv 0) (pe_lst pa_nil) rfl)
    (pss_cons (ps_fld (pv 0) (pe_lst pa_nil) rfl)
    (pss_one (ps_fld (pv 0) pe_non rfl)))))))), ?_⟩
    refine ⟨_, rfl, kd, rfl, hk, ?_⟩
    refine ⟨_, rfl, _, rfl, qk, _, dx, _, rfl, h1, vcl T, vn_wire T, by show 0 < 1000; decide, ?_⟩
    refine ⟨_, rfl, _, rfl, qk, _, dx, _, rfl, upd_same, vcl T, vn_kind T, by show 1 < 1000; decide, ?_⟩
    rw [upd_upd]
    refine ⟨by show 1 ≤ sizeLine; decide, fun qr hqr => ?_⟩
    have n1 : qk ≠ qr := ne_of_none upd_same hqr
    refine ⟨_, rfl, qk, _, dx, _, rfl, by rw [upd_ne n1]; exact upd_same, vcl T, vn_row T, by show 2 < 1000; decide, Nat.zero_le _, fun qf hqf => ?_⟩
    have n2 : qk ≠ qf := ne_of_none upd_same hqf
    have n3 : qr ≠ qf := ne_of_none (by rw [upd_ne n1.symm]; exact upd_same) hqf
    refine ⟨_, rfl, qk, _, dx, _, rfl, by rw [upd_ne n2]; exact upd_same, vcl T, vn_found T, by show 3 < 1000; decide, Nat.zero_le _, fun qp hqp => ?_⟩
    have n4 : qk ≠ qp := ne_of_none upd_same hqp
    have n5 : qf ≠ qp := ne_of_none (by rw [upd_ne n2.symm]; exact upd_same) hqp
    have n6 : qr ≠ qp := ne_of_none (by rw [upd_ne n1.symm, upd_ne n3, upd_ne n1.symm]; exact upd_same) hqp
    refine ⟨_, rfl, qk, _, dx, _, rfl, by rw [upd_ne n4]; exact upd_same, vcl T, vn_paper T, by show 4 < 1000; decide, ?_⟩
    refine ⟨_, rfl, qk, _, dx, _, rfl, upd_same, vcl T, vn_said T, by show 5 < 1000; decide, ?_⟩
    rw [vp_new]
    have r1 : H qr = none := upd_back hqr
    have r2 : H qf = none := upd_back (upd_back (upd_back hqf))
    have r3 : H qp = none := upd_back (upd_back (upd_back (upd_back (upd_back hqp))))
    have es : txV [] = V.str "" := congrArg V.str empty_S.symm
    refine k qr qf qp _ r1 r2 r3 ⟨⟨dx, upd_same⟩, ?_, ?_, ⟨[], ?_, rfl, fun i t q ht => by simp at ht⟩, n3, n6, n5⟩ (((((((((Frm.refl _ _).put (by simp)).new r1).put (by simp)).new r2).put (by simp)).new r3).put (by simp)).put (by simp))
    · rw [upd_ne n1.symm, upd_ne n1.symm, upd_ne n6, upd_ne n1.symm, upd_ne n3, upd_ne n1.symm, upd_same]
      show _ = some (HO.lst [txV []])
      rw [es]
    · rw [upd_ne n2.symm, upd_ne n2.symm, upd_ne n5, upd_ne n2.symm, upd_same]
      rfl
    · rw [upd_ne n4.symm, upd_ne n4.symm, upd_same]
      rfl
/-! ### what is told -/
def spVList (K : PySem.W.Frag) (f : WkS → List (List Nat)) : Sp := fun vs H Q _ => ∃ (qk pw qr qf qp : Addr) (st : WkS), vs = [.ref qk] ∧ VkAt K H qk pw qr qf qp st ∧ ∀ (p : Addr) (H' : Hp), H p = none → H' p = some (.lst ((f st).map txV)) → Frm [] H H' → Q (.ref p) H'
theorem m_Walk_left (T : Txt P w K mg base) : MetX CX0 P w K mg base 1 (VC K) "left" (spVList K WkS.rest) := by
  obtain ⟨fd, F⟩ := T.t.def_ 21 (d := d_Walk_left)
  refine ⟨_, fd, _, vcl T, He.meth_ok (T.t.fact 103 (f := .meth "Walk" "left")), F.ok sc_Walk_left (fun vs H Q E h => ?_) (fun cdv A outer s H vs Q E hr h => ?_), F.bindsN fun _ _ _ _ _ _ us hl => match us, hl with | [_], _ => rfl⟩
  · obtain ⟨qk, pw, qr, qf, qp, st, rfl, _⟩ := h
    rfl
  · obtain ⟨qk, pw, qr, qf, qp, st, rfl, ⟨⟨dx, o1⟩, o2, o3, o4, ne⟩, k⟩ := h
    refine ⟨_, PSs.nox (pss_one (ps_ret (pe_callTy call_list_of (by rfl) (n_list T) (by decide +kernel) (pa_cons (pe_fld (pv 0) (by rfl)) pa_nil)))), ?_⟩
    exact ⟨_, rfl, qk, _, dx, _, _, rfl, o1, vcl T, vn_row T, vl_row, qr, _, rfl, .inl (SqL.of o2), fun p hp => k p _ hp upd_same (Frm.of (same_upd hp))⟩
theorem m_Walk_found (T : Txt P w K mg base) : MetX CX0 P w K mg base 1 (VC K) "found" (spVList K WkS.found) := by
  obtain ⟨fd, F⟩ := T.t.def_ 22 (d := d_Walk_found)
  refine ⟨_, fd, _, vcl T, He.meth_ok (T.t.fact 104 (f := .meth "Walk" "found")), F.ok sc_Walk_found (fun vs H Q E h => ?_) (fun cdv A outer s H vs Q E hr h => ?_), F.bindsN fun _ _ _ _ _ _ us hl => match us, hl with | [_], _ => rfl⟩
  · obtain ⟨qk, pw, qr, qf, qp, st, rfl, _⟩ := h
    rfl
  · obtain ⟨qk, pw, qr, qf, qp, st, rfl, ⟨⟨dx, o1⟩, o2, o3, o4, ne⟩, k⟩ := h
    refine ⟨_, PSs.nox (pss_one (ps_ret (pe_callTy call_list_of (by rfl) (n_list T) (by decide +kernel) (pa_cons (pe_fld (pv 0) (by rfl)) pa_nil)))), ?_⟩
    exact ⟨_, rfl, qk, _, dx, _, _, rfl, o1, vcl T, vn_found T, vl_found, qf, _, rfl, .inl (SqL.of o3), fun p hp => k p _ hp upd_same (Frm.of (same_upd hp))⟩
/-- the paper, as a list of rows -/
def PapAt (H : Hp) (p : Addr) (pa : List (List Nat × Bool × Bool)) : Prop := ∃ ts : List Addr, H p = some (.lst (ts.map V.ref)) ∧ ts.length = pa.length ∧ ∀ (i : Nat) (t : Addr) (q : List Nat × Bool × Bool), ts[i]? = some t → pa[i]? = some q → H t = some (.tup [txV q.1, .bl q.2.1, .bl q.2.2])
def spVPaper (K : PySem.W.Frag) : Sp := fun vs H Q _ => ∃ (qk pw qr qf qp : Addr) (st : WkS), vs = [.ref qk] ∧ VkAt K H qk pw qr qf qp st ∧ ∀ (p : Addr) (H' : Hp), H p = none → PapAt H' p st.paper → Frm [] H H' → Q (.ref p) H'
theorem m_Walk_paper (T : Txt P w K mg base) : MetX CX0 P w K mg base 1 (VC K) "paper" (spVPaper K) := by
  obtain ⟨fd, F⟩ := T.t.def_ 23 (d := d_Walk_paper)
  refine ⟨_, fd, _, vcl T, He.meth_ok (T.t.fact 105 (f := .meth "Walk" "paper")), F.ok sc_Walk_paper (fun vs H Q E h => ?_) (fun cdv A outer s H vs Q E hr h => ?_), F.bindsN fun _ _ _ _ _ _ us hl => match us, hl with | [_], _ => rfl⟩
  · obtain ⟨qk, pw, qr, qf, qp, st, rfl, _⟩ := h
    rfl
  · obtain ⟨qk, pw, qr, qf, qp, st, rfl, ⟨⟨dx, o1⟩, o2, o3, ⟨ts, o4, o5, o6⟩, ne⟩, k⟩ := h
    refine ⟨_, PSs.nox (pss_one (ps_ret (pe_callTy call_list_of (by rfl) (n_list T) (by decide +kernel) (pa_cons (pe_fld (pv 0) (by rfl)) pa_nil)))), ?_⟩
    exact ⟨_, rfl, qk, _, dx, _, _, rfl, o1, vcl T, vn_paper T, vl_paper, qp, _, rfl, .inl (SqL.of o4), fun p hp => k p _ hp ⟨ts, upd_same, o5, fun i t q a b => same_upd hp _ _ (o6 i t q a b)⟩ (Frm.of (same_upd hp))⟩
def spVUnder (K : PySem.W.Frag) : Sp := fun vs H Q _ => ∃ (qk pw qr qf qp : Addr) (st : WkS), vs = [.ref qk] ∧ VkAt K H qk pw qr qf qp st ∧ Q (.bl st.sd.isSome) H
theorem m_Walk_is_under_way (T : Txt P w K mg base) : MetX CX0 P w K mg base 1 (VC K) "is_under_way" (spVUnder K) := by
  obtain ⟨fd, F⟩ := T.t.def_ 24 (d := d_Walk_is_under_way)
  refine ⟨_, fd, _, vcl T, He.meth_ok (T.t.fact 106 (f := .meth "Walk" "is_under_way")), F.ok sc_Walk_is_under_way (fun vs H Q E h => ?_) (fun cdv A outer s H vs Q E hr h => ?_), F.bindsN fun _ _ _ _ _ _ us hl => match us, hl with | [_], _ => rfl⟩
  · obtain ⟨qk, pw, qr, qf, qp, st, rfl, _⟩ := h
    rfl
  · obtain ⟨qk, pw, qr, qf, qp, ⟨kd, rest, sd, found, paper⟩, rfl, ⟨⟨dx, o1⟩, o2, o3, o4, ne⟩, k⟩ := h
    refine ⟨_, PSs.nox (pss_one (ps_ret (pe_cmpR op_notN (pe_fld (pv 0) (by rfl)) pe_non (nomark _)))), ?_⟩
    refine ⟨_, rfl, qk, _, dx, _, _, rfl, o1, vcl T, vn_said T, vl_said, rfl, ?_⟩
    cases sd with
    | none => exact k
    | some l => exact k
end
end B

set_option Elab.async false
set_option linter.all false
set_option maxRecDepth 100000
set_option maxHeartbeats 4000000
namespace B
open PySem PySem.Spec PyProof.Rows L2
open SX (S)
/-- has these signs from a place on -/
def behind (n : Nat) (g : List Nat) (x : Str) : Bool := decide ((x.cps.toList.drop n).take g.length = g)
theorem behind_nil {n : Nat} {x : Str} : behind n [] x = true := decide_eq_true rfl
theorem behind_snoc {n : Nat} {l : List Nat} {c : Nat} {x : Str} : behind n (l ++ [c]) x = (sg (n + l.length) c x && behind n l x) := by
  unfold behind sg
  rw [Bool.eq_iff_iff, Bool.and_eq_true, decide_eq_true_eq, decide_eq_true_eq, decide_eq_true_eq, ← List.getElem?_drop]
  generalize x.cps.toList.drop n = m
  rw [List.length_append, List.length_singleton, List.take_succ]
  constructor
  · intro h
    have hl : (m.take l.length ++ m[l.length]?.toList).length = l.length + 1 := by rw [h]; simp
    cases q : m[l.length]? with
    | none =>
      rw [q] at hl
      simp only [Option.toList, List.append_nil, List.length_take] at hl
      omega
    | some d =>
      rw [q] at h
      have e := List.append_inj' h rfl
      exact ⟨congrArg some (List.singleton_inj.mp e.2), e.1⟩
  · rintro ⟨h1, h2⟩
    rw [h1, h2]
    rfl
theorem behind_step {n : Nat} {l : List Nat} {c : Nat} {lw : List Str} : lw.filter (behind n (l ++ [c])) = (lw.filter (behind n l)).filter (sg (n + l.length) c) := by
  rw [List.filter_filter]
  exact List.filter_congr fun x _ => behind_snoc
theorem behind_all {n : Nat} {lw : List Str} : lw.filter (behind n []) = lw := List.filter_eq_self.mpr fun x _ => behind_nil
theorem behind_zero {g : List Nat} {x : Str} : behind 0 g x = starts g x := by
  unfold behind starts
  rw [List.drop_zero]
theorem behind_one {n c : Nat} {x : Str} : behind n [c] x = sg n c x := by
  have := behind_snoc (n := n) (l := []) (c := c) (x := x)
  rw [behind_nil, Bool.and_true] at this
  exact this
theorem vk_ne {K : PySem.W.Frag} {H : Hp} {qk pw qr qf qp dh dl : Addr} {st : WkS} {W : Nat} {kvs : List (Str × Bool)} {lw : List Str} {ms lk : Int} (h : VkAt K H qk pw qr qf qp st) (g : WiAt K H pw dh dl W kvs lw ms lk) : qk ≠ pw := by
  intro e
  obtain ⟨⟨dx, o1⟩, _⟩ := h
  obtain ⟨⟨dw, w1⟩, _⟩ := g
  subst e
  rw [o1] at w1
  have z := HO.ins.inj (Option.some.inj w1)
  have y := congrArg List.length z.2.2
  cases y
/-- tuples stay -/
def TupK (H H' : Hp) : Prop := ∀ t vs, H t = some (.tup vs) → H' t = some (.tup vs)
theorem TupK.put {H : Hp} {p : Addr} {o o' : HO} (h : H p = some o) (n : ∀ vs, o ≠ .tup vs) : TupK H (upd H p o') := fun t vs e => by
  rw [upd_ne (fun z => by rw [z, h] at e; exact n vs (Option.some.inj e))]
  exact e
theorem TupK.new {H : Hp} {p : Addr} {o' : HO} (h : H p = none) : TupK H (upd H p o') := fun t vs e => same_upd h _ _ e
theorem TupK.trans {H H1 H2 : Hp} (a : TupK H H1) (b : TupK H1 H2) : TupK H H2 := fun t vs e => b t vs (a t vs e)
theorem VkAt.set {K : PySem.W.Frag} {H H' : Hp} {qk pw qr qf qp : Addr} {st : WkS} (st' : WkS) (h : VkAt K H qk pw qr qf qp st) (h1 : ∃ dx, H' qk = some (.ins (VC K) dx (vfl pw st'.kd qr qf qp (sdV st'.sd)))) (h2 : H' qr = some (.lst (st'.rest.map txV))) (h3 : H' qf = some (.lst (st'.found.map txV))) (h4 : H' qp = H qp) (h5 : st'.paper = st.paper) (h6 : TupK H H') : VkAt K H' qk pw qr qf qp st' := by
  obtain ⟨_, _, _, ⟨ts, o4, o5, o6⟩, ne⟩ := h
  refine ⟨h1, h2, h3, ⟨ts, by rw [h4]; exact o4, by rw [h5]; exact o5, fun i t q a b => ?_⟩, ne⟩
  rw [h5] at b
  exact h6 _ _ (o6 i t q a b)
theorem VkAt.nek {K : PySem.W.Frag} {H : Hp} {qk pw qr qf qp : Addr} {st : WkS} (h : VkAt K H qk pw qr qf qp st) : qk ≠ qr ∧ qk ≠ qf ∧ qk ≠ qp := by
  obtain ⟨⟨dx, o1⟩, o2, o3, ⟨ts, o4, _⟩, _⟩ := h
  exact ⟨ne_of o1 o2 (by intro z; cases z), ne_of o1 o3 (by intro z; cases z), ne_of o1 o4 (by intro z; cases z)⟩
theorem VkAt.old {K : PySem.W.Frag} {H : Hp} {qk pw qr qf qp b : Addr} {st : WkS} (h : VkAt K H qk pw qr qf qp st) (hb : H b = none) : b ≠ qk ∧ b ≠ qr ∧ b ≠ qf ∧ b ≠ qp := by
  obtain ⟨⟨dx, o1⟩, o2, o3, ⟨ts, o4, _⟩, _⟩ := h
  exact ⟨(ne_of_none o1 hb).symm, (ne_of_none o2 hb).symm, (ne_of_none o3 hb).symm, (ne_of_none o4 hb).symm⟩
/-- what is said changed -/
theorem VkAt.say {K : PySem.W.Frag} {H : Hp} {qk pw qr qf qp dx : Addr} {st : WkS} {sd : Option (List Nat)} (h : VkAt K H qk pw qr qf qp st) : VkAt K (upd H qk (.ins (VC K) dx (vfl pw st.kd qr qf qp (sdV sd)))) qk pw qr qf qp { st with sd := sd } := by
  obtain ⟨n1, n2, n3⟩ := h.nek
  obtain ⟨⟨dx', o1⟩, o2, o3, _⟩ := id h
  exact h.set _ ⟨dx, upd_same⟩ (by rw [upd_ne n1.symm]; exact o2) (by rw [upd_ne n2.symm]; exact o3) (by rw [upd_ne n3.symm]) rfl (TupK.put o1 (by intro vs z; cases z))
theorem VkAt.row {K : PySem.W.Frag} {H : Hp} {qk pw qr qf qp : Addr} {st : WkS} {r : List (List Nat)} (h : VkAt K H qk pw qr qf qp st) : VkAt K (upd H qr (.lst (r.map txV))) qk pw qr qf qp { st with rest := r } := by
  obtain ⟨n1, n2, n3⟩ := h.nek
  obtain ⟨⟨dx', o1⟩, o2, o3, _, m1, m2, m3⟩ := id h
  exact h.set _ ⟨dx', by rw [upd_ne n1]; exact o1⟩ upd_same (by rw [upd_ne m1.symm]; exact o3) (by rw [upd_ne m2.symm]) rfl (TupK.put o2 (by intro vs z; cases z))
theorem VkAt.fnd {K : PySem.W.Frag} {H : Hp} {qk pw qr qf qp : Addr} {st : WkS} {r : List (List Nat)} (h : VkAt K H qk pw qr qf qp st) : VkAt K (upd H qf (.lst (r.map txV))) qk pw qr qf qp { st with found := r } := by
  obtain ⟨n1, n2, n3⟩ := h.nek
  obtain ⟨⟨dx', o1⟩, o2, o3, _, m1, m2, m3⟩ := id h
  exact h.set _ ⟨dx', by rw [upd_ne n2]; exact o1⟩ (by rw [upd_ne m1]; exact o2) upd_same (by rw [upd_ne m3.symm]) rfl (TupK.put o3 (by intro vs z; cases z))
theorem VkAt.new {K : PySem.W.Frag} {H : Hp} {qk pw qr qf qp p : Addr} {o : HO} {st : WkS} (h : VkAt K H qk pw qr qf qp st) (hp : H p = none) : VkAt K (upd H p o) qk pw qr qf qp st := by
  obtain ⟨⟨dx', o1⟩, o2, o3, ⟨ts, o4, _⟩, _⟩ := id h
  exact h.set _ ⟨dx', same_upd hp _ _ o1⟩ (same_upd hp _ _ o2) (same_upd hp _ _ o3) (by rw [same_upd hp _ _ o4, o4]) rfl (TupK.new hp)
/-- a look written down -/
theorem VkAt.pap {K : PySem.W.Frag} {H : Hp} {qk pw qr qf qp t : Addr} {st : WkS} {ts : List Addr} {q : List Nat × Bool × Bool} (h : VkAt K H qk pw qr qf qp st) (hts : H qp = some (.lst (ts.map V.ref))) (ht : H t = none) : VkAt K (upd (upd H t (.tup [txV q.1, .bl q.2.1, .bl q.2.2])) qp (.lst (ts.map V.ref ++ [.ref t]))) qk pw qr qf qp { st with paper := st.paper ++ [q] } := by
  obtain ⟨n1, n2, n3⟩ := h.nek
  obtain ⟨⟨dx', o1⟩, o2, o3, ⟨ts', o4, o5, o6⟩, m1, m2, m3⟩ := id h
  obtain ⟨_, _, _, ntp⟩ := h.old ht
  have e : ts' = ts := by
    rw [hts] at o4
    have z := HO.lst.inj (Option.some.inj o4)
    exact (List.map_inj_right (fun a b y => V.ref.inj y)).mp z.symm
  subst e
  refine ⟨⟨dx', by rw [upd_ne n3]; exact same_upd ht _ _ o1⟩, by rw [upd_ne m2]; exact same_upd ht _ _ o2, by rw [upd_ne m3]; exact same_upd ht _ _ o3, ⟨ts' ++ [t], by rw [upd_same, List.map_append]; rfl, by rw [List.length_append, List.length_append, o5]; rfl, fun i t' q' a b => ?_⟩, m1, m2, m3⟩
  by_cases hi : i < ts'.length
  · rw [List.getElem?_append_left hi] at a
    rw [List.getElem?_append_left (by rw [← o5]; exact hi)] at b
    have z := o6 i t' q' a b
    rw [upd_ne (ne_of z o4 (by intro z; cases z))]
    exact same_upd ht _ _ z
  · have e : i = ts'.length := by
      have := (List.getElem?_eq_some_iff.mp a).1
      rw [List.length_append, List.length_singleton] at this
      omega
    subst e
    rw [List.getElem?_append_right (Nat.le_refl _), Nat.sub_self] at a
    rw [o5, List.getElem?_append_right (Nat.le_refl _), Nat.sub_self] at b
    obtain rfl := Option.some.inj a
    obtain rfl := Option.some.inj b
    rw [upd_ne ntp, upd_same]
theorem VkAt.nl5 {K : PySem.W.Frag} {H : Hp} {qk pw qr qf qp dh dl : Addr} {st : WkS} {W : Nat} {kvs : List (Str × Bool)} {lw : List Str} {ms lk : Int} (h : VkAt K H qk pw qr qf qp st) (g : WiAt K H pw dh dl W kvs lw ms lk) : dh ≠ qk ∧ dh ≠ qr ∧ dh ≠ qf ∧ dh ≠ qp ∧ pw ≠ qr ∧ pw ≠ qf ∧ pw ≠ qp ∧ dl ≠ qk ∧ pw ≠ dl := by
  obtain ⟨⟨dx, o1⟩, o2, o3, ⟨ts, o4, _⟩, _⟩ := h
  obtain ⟨⟨dw, w1⟩, w2, w3⟩ := g
  exact ⟨ne_of w3 o1 (by intro z; cases z), ne_of w3 o2 (by intro z; cases z), ne_of w3 o3 (by intro z; cases z), ne_of w3 o4 (by intro z; cases z), ne_of w1 o2 (by intro z; cases z), ne_of w1 o3 (by intro z; cases z), ne_of w1 o4 (by intro z; cases z), ne_of w2 o1 (by intro z; cases z), ne_of w1 w2 (by intro z; cases z)⟩
section
variable {P : Program} {w : World} {K : PySem.W.Frag} {mg : Str → Option Value} {base : Heap}
/-- signs said -/
def spVSay (K : PySem.W.Frag) : Sp := fun vs H Q _ => ∃ (qk pw qr qf qp dh dl : Addr) (W : Nat) (kvs : List (Str × Bool)) (lw : List Str) (lk : Int) (st : WkS) (l g : List Nat), vs = [.ref qk, .str (S g)] ∧ VkAt K H qk pw qr qf qp st ∧ WiAt K H pw dh dl W kvs lw (l.length : Nat) lk ∧ st.sd = some l ∧ l.length + g.length ≤ W ∧ W ≤ 12 ∧ Bits g ∧ (∀ x ∈ lw, Num W x) ∧ lw.length ≤ 100 ∧ st.found.length < 1000000 ∧ (dl ≠ qr ∧ dl ≠ qf ∧ dl ≠ qp) ∧
  ∀ (v : V) (dl' : Addr) (H' : Hp), (dl' = dl ∨ H dl' = none) → VkAt K H' qk pw qr qf qp (overF W st (l ++ g)).1 → TldAt H' (overF W st (l ++ g)).2 v → WiAt K H' pw dh dl' W kvs (lw.filter (behind l.length g)) ((l ++ g).length : Nat) lk → Frm [qk, qf, pw] H H' → Q v H'
theorem m_Walk__say (T : Txt P w K mg base) : MetX CX0 P w K mg base 3 (VC K) "_say" (spVSay K) := by
  obtain ⟨fd, F⟩ := T.t.def_ 26 (d := d_Walk__say)
  refine ⟨_, fd, _, vcl T, He.meth_ok (T.t.fact 108 (f := .meth "Walk" "_say")), F.ok sc_Walk__say (fun vs H Q E h => ?_) (fun cdv A outer s H vs Q E hr h => ?_), F.bindsN fun _ _ _ _ _ _ us hl => match us, hl with | [_, _], _ => rfl⟩
  · obtain ⟨qk, pw, qr, qf, qp, dh, dl, W, kvs, lw, lk, st, l, g, rfl, _⟩ := h
    rfl
  · obtain ⟨qk, pw, qr, qf, qp, dh, dl, W, kvs, lw, lk, st, l, g, rfl, wk, wa, hsd, hlen, hW, hb, hnum, hll, hfl, ⟨nr, nf, np⟩, k⟩ := h
    have nkw := vk_ne wk wa
    obtain ⟨d1, d2, d3, d4, p2, p3, p4, d5, p5⟩ := wk.nl5 wa
    obtain ⟨⟨dx, o1⟩, o2, o3, _⟩ := id wk
    rw [hsd] at o1
    refine ⟨_, PSs.nox (pss_cons (ps_for PassesOwn.never rfl (pi_str (pv 1)) (pg_name (i := 2) sc_Walk__say.nd rfl (Or.inl rfl))
      (pss_one (ps_expr (pe_mx (m_Wire_say T) hr (by decide) (pe_fld (pv 0) (by rfl)) (passes_call (E := fun _ _ _ => False) L2.takes0 (fun _ _ _ _ h => h)) (pa_cons (pe_callTy call_int_str (by rfl) (n_int T) (by decide +kernel) (pa_cons (pv 2) pa_nil)) pa_nil)))))
    (pss_cons (ps_set (i := 3) sc_Walk__say.nd rfl (Or.inl rfl) (pe_op op_add_str (pe_fld (pv 0) (by rfl)) (pv 1)))
    (pss_cons (ps_if (pt_cmpR op_lt (pe_callB call_len_str (by rfl) (n_len T) PySem.boot_len (pa_cons (pv 3) pa_nil)) (pe_fld (pe_fld (pv 0) (by rfl)) (by rfl)) (nomark _))
      (pss_cons (ps_fld (pv 0) (pv 3) rfl)
      (pss_one (ps_ret pe_non)))
      pss_nil)
    (pss_cons (ps_fld (pv 0) pe_non rfl)
    (pss_cons (ps_expr (pe_bm PySem.F.plainAttrs_list PySem.F.slot_list_append PySem.F.type_list_append mt_append (pe_fld (pv 0) (by rfl)) (pa_cons (pv 3) pa_nil)))
    (pss_one (ps_ret (pe_tup (pa_cons pe_str (pa_cons (pv 3) pa_nil)))))))))), ?_⟩
    have esz : (S g).cps.size = g.length := by rw [← SX.S_len]; rfl
    refine ⟨_, rfl, S g, rfl, for_it walk_str (fun i σ H' => ∃ (v2 : Option V) (dl' : Addr), σ = [some (.ref qk), some (.str (S g)), v2, none] ∧ WiAt K H' pw dh dl' W kvs (lw.filter (behind l.length (g.take i))) ((l.length + i : Nat) : Int) lk ∧ Frm [pw] H H' ∧ (dl' = dl ∨ H dl' = none))
      ⟨none, dl, rfl, by rw [List.take_zero, behind_all]; exact wa, Frm.refl _ _, .inl rfl⟩ (fun _ _ _ _ _ => trivial) ?_ ?_⟩
    · rintro i x σ H3 H4 hi ⟨v2, dl', rfl, wa3, f3, hm3⟩ ⟨rfl, c, hc, rfl⟩
      rw [esz] at hi
      have hc' : g[i]? = some c := by
        have z : (S g).cps.toList[i]? = some c := by rw [Array.getElem?_toList]; exact hc
        have e2 : (S g).cps.toList = g := by simp [SX.S]
        rw [e2] at z
        exact z
      have two : ∃ bit : Int, (bit = 0 ∨ bit = 1) ∧ PySem.intText? (S [c]) = some bit ∧ 48 + bit.toNat = c := by
        rcases hb c (List.mem_of_getElem? hc') with rfl | rfl
        · exact ⟨0, .inl rfl, by decide +kernel, rfl⟩
        · exact ⟨1, .inr rfl, by decide +kernel, rfl⟩
      obtain ⟨bit, hbit, t1, t2⟩ := two
      have g1 := f3.k _ _ o1 rfl (by simpa using nkw)
      obtain ⟨⟨dw3, u1⟩, u2, u3⟩ := id wa3
      have htl : (g.take i).length = i := by rw [List.length_take]; omega
      have hfl := List.length_filter_le (behind l.length (g.take i)) lw
      refine ⟨_, rfl, qk, _, dx, _, _, rfl, g1, vcl T, vn_wire T, vl_wire, pw, dw3, _, rfl, u1, wx_say, _, rfl, S [c], bit, rfl, t1, by rw [SX.S_len]; show 1 ≤ 640; decide, pw, dh, dl', bit, W, kvs, _, _, lk, rfl, hbit, wa3, hW, by omega, by omega, fun x hx => hnum x (List.mem_filter.mp hx).1, by omega, fun z => absurd z (by omega), fun _ dl4 H5 h4 wa4 f4 => ?_⟩
      refine ⟨_, dl4, rfl, ?_, f3.trans f4, .inr (f3.b _ h4)⟩
      rw [Int.toNat_natCast, t2] at wa4
      rw [take_snoc hc', behind_step, htl]
      exact wa4
    · rintro σ H3 ⟨v2, dl', rfl, wa3, f3, hm3⟩
      rw [esz, List.take_length] at wa3
      have nl1 := wa.nl1
      have wk3 := wk.keep (f3.toT nl1 (K := K)) nl1 (by simpa using nkw) (by simpa using p2.symm) (by simpa using p3.symm) (by simpa using p4.symm)
      obtain ⟨⟨dx3, g1⟩, g2, g3, _⟩ := id wk3
      have g1 : H3 qk = some (.ins (VC K) dx3 (vfl pw st.kd qr qf qp (.str (S l)))) := by rw [hsd] at g1; exact g1
      obtain ⟨⟨dw3, u1⟩, u2, u3⟩ := id wa3
      have sl1 := SX.S_len l
      have sl2 := SX.S_len g
      refine ⟨_, rfl, qk, _, dx3, _, _, rfl, g1, vcl T, vn_said T, vl_said, _, rfl, S l, S g, rfl, rfl, size12 (by omega), ?_⟩
      rw [SX.S_cat]
      have sl3 := SX.S_len (l ++ g)
      have sl4 : (l ++ g).length = l.length + g.length := List.length_append
      refine ⟨_, rfl, S (l ++ g), rfl, size12 (by omega), _, rfl, qk, _, dx3, _, _, rfl, g1, vcl T, vn_wire T, vl_wire, pw, _, dw3, _, _, rfl, u1, wcl T, wn_width T, wl_width, _, _, rfl, rfl, _, rfl, ?_⟩
      rw [sl3]
      have nm3 : dl' ≠ qk ∧ dl' ≠ qf := hm3.elim (fun e => by rw [e]; exact ⟨d5, nf⟩) fun z => ⟨(wk.old z).1, (wk.old z).2.2.1⟩
      refine iteB (fun c => ?_) (fun c => ?_)
      · have c' : (l ++ g).length < W := by
          have := of_decide_eq_true c
          omega
        refine ⟨_, rfl, _, rfl, qk, _, dx3, _, rfl, g1, vcl T, vn_said T, vl_len, ?_⟩
        rw [vp_said]
        have kk := k .non dl' (upd H3 qk (.ins (VC K) dx3 (vfl pw st.kd qr qf qp (.str (S (l ++ g)))))) hm3
        unfold overF at kk
        rw [if_pos c'] at kk
        exact kk (wk3.say (sd := some (l ++ g))) rfl (by
          rw [sl4]
          exact ⟨⟨dw3, by rw [upd_ne nkw.symm]; exact u1⟩, by rw [upd_ne nm3.1]; exact u2, by rw [upd_ne d1]; exact u3⟩) ((f3.mono (by simp)).put (by simp))
      · have c' : ¬ (l ++ g).length < W := by
          have := of_decide_eq_false c
          omega
        refine ⟨_, rfl, qk, _, dx3, _, rfl, g1, vcl T, vn_said T, vl_len, ?_⟩
        rw [vp_said]
        have wk4 := wk3.say (dx := dx3) (sd := none)
        have f4 : Frm [qk, qf, pw] H (upd H3 qk (.ins (VC K) dx3 (vfl pw st.kd qr qf qp .non))) := (f3.mono (by simp)).put (by simp)
        have wa4 : WiAt K (upd H3 qk (.ins (VC K) dx3 (vfl pw st.kd qr qf qp .non))) pw dh dl' W kvs (lw.filter (behind l.length g)) ((l.length + g.length : Nat) : Int) lk := ⟨⟨dw3, by rw [upd_ne nkw.symm]; exact u1⟩, by rw [upd_ne nm3.1]; exact u2, by rw [upd_ne d1]; exact u3⟩
        revert wk4 f4 wa4
        generalize hH4 : (upd H3 qk (.ins (VC K) dx3 (vfl pw st.kd qr qf qp .non))) = H4
        have e4 : upd H3 qk (.ins (VC K) dx3 (vfl pw st.kd qr qf qp (sdV none))) = H4 := hH4
        rw [e4]
        intro wk4 f4 wa4
        obtain ⟨⟨dx4, i1⟩, i2, i3, _⟩ := id wk4
        obtain ⟨⟨dw4, j1⟩, j2, j3⟩ := id wa4
        refine ⟨_, rfl, qk, _, dx4, _, _, rfl, i1, vcl T, vn_found T, vl_found, .inl ⟨rfl, _, SqL.of i3⟩, _, rfl, qf, _, _, rfl, rfl, i3, by rw [List.length_map]; exact big6 hfl, ?_⟩
        have ef : (st.found.map txV ++ [V.str (S (l ++ g))]) = (st.found ++ [l ++ g]).map txV := by rw [List.map_append]; rfl
        refine ⟨_, rfl, by show 2 ≤ sizeLine; decide, fun t ht => ?_⟩
        have ef' : (({ st with sd := none } : WkS).found.map txV ++ [V.str (S (l ++ g))]) = (st.found ++ [l ++ g]).map txV := ef
        rw [ef'] at ht ⊢
        have wk5 := (wk4.fnd (r := st.found ++ [l ++ g])).new (o := .tup [.str "found", .str (S (l ++ g))]) ht
        have f5 := (f4.put (p := qf) (o := .lst ((st.found ++ [l ++ g]).map txV)) (by simp)).trans (Frm.of (same_upd (o := .tup [.str "found", .str (S (l ++ g))]) ht))
        have kk := k (.ref t) dl' _ hm3 (by
          unfold overF
          rw [if_neg c']
          exact wk5) (by
          unfold overF
          rw [if_neg c']
          exact ⟨t, rfl, upd_same⟩) (by
          rw [sl4]
          exact ⟨⟨dw4, same_upd ht _ _ (by rw [upd_ne p3]; exact j1)⟩, same_upd ht _ _ (by rw [upd_ne nm3.2]; exact j2), same_upd ht _ _ (by rw [upd_ne d3]; exact j3)⟩) f5
        exact kk
end
end B

set_option Elab.async false
set_option linter.all false
set_option maxRecDepth 100000
set_option maxHeartbeats 4000000
namespace B
open PySem PySem.Spec PyProof.Rows L2
open SX (S)
section
variable {P : Program} {w : World} {K : PySem.W.Frag} {mg : Str → Option Value} {base : Heap}
/-- a round begun -/
def spVBegin (K : PySem.W.Frag) : Sp := fun vs H Q E => ∃ (qk pw qr qf qp dh dl : Addr) (W : Nat) (kvs : List (Str × Bool)) (lw : List Str) (ms lk : Int) (st : WkS), vs = [.ref qk] ∧ VkAt K H qk pw qr qf qp st ∧ WiAt K H pw dh dl W kvs lw ms lk ∧ st.sd = none ∧ (st.kd = "all" ∨ st.kd = "alarm") ∧ W ≤ 12 ∧ kvs.length < 64 ∧ (kvs.map (·.1)).Nodup ∧ (∀ x ∈ kvs.map (·.1), Num W x) ∧ st.found.length < 1000000 ∧ (∀ g ∈ st.rest, g.length ≤ W ∧ Bits g) ∧
  (st.rest = [] → E (.ref (He.ga K "Over")) none H) ∧ (st.rest ≠ [] → ∀ (v : V) (ys : List Str) (dl' : Addr) (H' : Hp), H dl' = none → ys.Perm (begF kvs st.kd (st.rest.getLast?.getD [])) → VkAt K H' qk pw qr qf qp (overF W { st with rest := st.rest.dropLast } (st.rest.getLast?.getD [])).1 → TldAt H' (overF W { st with rest := st.rest.dropLast } (st.rest.getLast?.getD [])).2 v → WiAt K H' pw dh dl' W kvs ys ((st.rest.getLast?.getD []).length : Nat) lk → Frm [qk, qr, qf, pw] H H' → Q v H')
theorem m_Walk__begin_round (T : Txt P w K mg base) : MetX (L2.CX P w) P w K mg base 4 (VC K) "_begin_round" (spVBegin K) := by
  obtain ⟨fd, F⟩ := T.t.def_ 25 (d := d_Walk__begin_round)
  refine ⟨_, fd, _, vcl T, He.meth_ok (T.t.fact 107 (f := .meth "Walk" "_begin_round")), F.ok sc_Walk__begin_round (fun vs H Q E h => ?_) (fun cdv A outer s H vs Q E hr h => ?_), F.bindsN fun _ _ _ _ _ _ us hl => match us, hl with | [_], _ => rfl⟩
  · obtain ⟨qk, pw, qr, qf, qp, dh, dl, W, kvs, lw, ms, lk, st, rfl, _⟩ := h
    rfl
  · obtain ⟨qk, pw, qr, qf, qp, dh, dl, W, kvs, lw, ms, lk, ⟨kd, rest, sd, found, paper⟩, rfl, wk, wa, hsd, hkd, hW, hkl, hnd, hnum, hfl, hrest, k1, k2⟩ := h
    dsimp only at hsd hkd hfl hrest k1 k2
    subst hsd
    have nkw := vk_ne wk wa
    obtain ⟨d1, d2, d3, d4, p2, p3, p4, d5, p5⟩ := wk.nl5 wa
    obtain ⟨⟨dx, o1⟩, o2, o3, _⟩ := id wk
    obtain ⟨⟨dw, w1⟩, w2, w3⟩ := id wa
    obtain ⟨nkr, nkf, nkp⟩ := wk.nek
    refine ⟨_, (pss_cons (ps_if (pt_not (pt_truth (pe_fld (pv 0) (by rfl)) (by intro _; rfl)))
      (pss_one (ps_raise rfl (takes_of rfl rfl rfl rfl) (mk_Over T)))
      pss_nil)
    (pss_cons (ps_expr (pe_mx (m_Wire_begin T) hr (by decide) (pe_fld (pv 0) (by rfl)) pass0 (pa_cons (pe_fld (pv 0) (by rfl)) pa_nil)))
    (pss_cons (ps_fld (pv 0) pe_str rfl)
    (pss_one (ps_ret (pe_mx (m_Walk__say T) hr (by decide) (pv 0) pass0 (pa_cons (pe_bm0 PySem.F.plainAttrs_list PySem.F.slot_list_pop PySem.F.type_list_pop mt_pop (pe_fld (pv 0) (by rfl))) pa_nil))))))), ?_⟩
    refine ⟨_, rfl, qk, _, dx, _, _, rfl, o1, vcl T, vn_row T, vl_row, _, .inl ⟨_, SqL.of o2, rfl⟩, ?_⟩
    refine iteB (fun c => ?_) (fun c => ?_)
    · refine k1 ?_
      cases rest with
      | nil => rfl
      | cons g r => cases c
    · have hne : rest ≠ [] := fun e => by
        subst e
        cases c
      have k := k2 hne
      have e0 : rest = rest.dropLast ++ [rest.getLast hne] := (List.dropLast_concat_getLast hne).symm
      have eL : rest.getLast?.getD [] = rest.getLast hne := by rw [List.getLast?_eq_some_getLast hne]; rfl
      rw [eL] at k
      obtain ⟨hgl, hgb⟩ := hrest _ (List.getLast_mem hne)
      revert k hgl hgb e0
      generalize rest.getLast hne = g
      generalize rest.dropLast = r0
      intro k e0 hgl hgb
      subst e0
      refine ⟨_, rfl, qk, _, dx, _, _, rfl, o1, vcl T, vn_wire T, vl_wire, pw, dw, _, rfl, w1, wx_begin, _, rfl, qk, _, dx, _, _, rfl, o1, vcl T, vn_kind T, vl_kind, pw, dh, dl, kd, W, kvs, lw, ms, lk, rfl, hkd, wa, hkl, hnd, fun ys dl2 H2 pm hdl wa2 f2 => ?_⟩
      have nl1 := wa.nl1
      have wk2 := wk.keep (f2.toT nl1 (K := K)) nl1 (by simpa using nkw) (by simpa using p2.symm) (by simpa using p3.symm) (by simpa using p4.symm)
      obtain ⟨⟨dx2, g1⟩, g2, g3, _⟩ := id wk2
      refine ⟨_, rfl, qk, _, dx2, _, rfl, g1, vcl T, vn_said T, vl_len, ?_⟩
      rw [vp_said]
      have wk3 := wk2.say (dx := dx2) (sd := some [])
      have es : V.str "" = sdV (some []) := congrArg V.str empty_S
      rw [es]
      obtain ⟨⟨dw2, u1⟩, u2, u3⟩ := id wa2
      obtain ⟨m1, m2, m3, m4⟩ := wk.old hdl
      have wa3 : WiAt K (upd H2 qk (.ins (VC K) dx2 (vfl pw kd qr qf qp (sdV (some []))))) pw dh dl2 W kvs ys 0 lk := ⟨⟨dw2, by rw [upd_ne nkw.symm]; exact u1⟩, by rw [upd_ne m1]; exact u2, by rw [upd_ne d1]; exact u3⟩
      have f3 : Frm [qk, qr, qf, pw] H (upd H2 qk (.ins (VC K) dx2 (vfl pw kd qr qf qp (sdV (some []))))) := (f2.mono (by simp)).put (by simp)
      have wk3 : VkAt K (upd H2 qk (.ins (VC K) dx2 (vfl pw kd qr qf qp (sdV (some []))))) qk pw qr qf qp ⟨kd, r0 ++ [g], some [], found, paper⟩ := wk3
      revert wk3 wa3 f3
      generalize (upd H2 qk (.ins (VC K) dx2 (vfl pw kd qr qf qp (sdV (some []))))) = H3
      intro wa3 f3 wk3
      obtain ⟨⟨dx3, i1⟩, i2, i3, _⟩ := id wk3
      have hlast : ((r0 ++ [g]).map txV)[((r0 ++ [g]).map txV).length - 1]? = some (txV g) := by simp
      have hdrop : ((r0 ++ [g]).map txV).dropLast = r0.map txV := by simp
      refine ⟨_, rfl, qk, dx3, _, rfl, i1, vx_say, _, rfl, qk, _, dx3, _, _, rfl, i1, vcl T, vn_row T, vl_row, .inl ⟨rfl, _, SqL.of i2⟩, qr, _, txV g, rfl, rfl, i2, hlast, ?_⟩
      rw [hdrop]
      have wk4 := wk3.row (r := r0)
      obtain ⟨⟨dw3, j1⟩, j2, j3⟩ := id wa3
      have wa4 : WiAt K (upd H3 qr (.lst (r0.map txV))) pw dh dl2 W kvs ys 0 lk := ⟨⟨dw3, by rw [upd_ne p2]; exact j1⟩, by rw [upd_ne m2]; exact j2, by rw [upd_ne d2]; exact j3⟩
      have f4 : Frm [qk, qr, qf, pw] H (upd H3 qr (.lst (r0.map txV))) := f3.put (by simp)
      have hlis := lisB_sub kvs (decide (kd = "all"))
      have hys : ys.length ≤ 100 := by
        rw [pm.length_eq]
        omega
      refine ⟨qk, pw, qr, qf, qp, dh, dl2, W, kvs, ys, lk, _, [], g, rfl, wk4, wa4, rfl, by show 0 + g.length ≤ W; omega, hW, hgb, fun x hx => hnum x (hlis.2 x (pm.mem_iff.mp hx)), hys, hfl, ⟨m2, m3, m4⟩, fun v dl' H5 hd5 wk5 tl5 wa5 f5 => ?_⟩
      have eo : overF W ⟨kd, r0, some [], found, paper⟩ g = overF W ⟨kd, r0, none, found, paper⟩ g := by
        unfold overF
        split <;> rfl
      rw [List.nil_append] at wk5 tl5 wa5
      have wk5 : VkAt K H5 qk pw qr qf qp (overF W ⟨kd, r0, some [], found, paper⟩ g).1 := wk5
      have tl5 : TldAt H5 (overF W ⟨kd, r0, some [], found, paper⟩ g).2 v := tl5
      rw [eo] at wk5 tl5
      refine k v (ys.filter (behind 0 g)) dl' H5 (hd5.elim (fun e => by rw [e]; exact hdl) (fun z => f4.b _ z)) ?_ wk5 tl5 wa5 (f4.trans (f5.mono (by simp)))
      unfold begF
      have e1 : ys.filter (behind 0 g) = ys.filter (starts g) := List.filter_congr fun x _ => behind_zero
      rw [e1]
      exact pm.filter _
/-- a step -/
def spVStep (K : PySem.W.Frag) : Sp := fun vs H Q E => ∃ (qk pw qr qf qp dh dl : Addr) (W : Nat) (kvs : List (Str × Bool)) (lw : List Str) (ms lk : Int) (st : WkS), vs = [.ref qk] ∧ VkAt K H qk pw qr qf qp st ∧ WiAt K H pw dh dl W kvs lw ms lk ∧ (dl ≠ qr ∧ dl ≠ qf ∧ dl ≠ qp) ∧ (st.kd = "all" ∨ st.kd = "alarm") ∧ W ≤ 12 ∧ kvs.length < 64 ∧ (kvs.map (·.1)).Nodup ∧ (∀ x ∈ kvs.map (·.1), Num W x) ∧ lw.length ≤ 100 ∧ st.rest.length < 999999 ∧ st.found.length < 999999 ∧ st.paper.length < 999999 ∧ (∀ g ∈ st.rest, g.length ≤ W ∧ Bits g) ∧ (∀ l, st.sd = some l → ms = (l.length : Nat) ∧ l.length < W ∧ Bits l ∧ ∀ x ∈ lw, Num W x) ∧
  (st.sd = none → st.rest = [] → E (.ref (He.ga K "Over")) none H) ∧ ((st.sd = none → st.rest ≠ []) → ∀ (v : V) (lw' : List Str) (dl' : Addr) (H' : Hp), (dl' = dl ∨ H dl' = none) → lw'.Perm (stepF W kvs lw lk st).2.1 → VkAt K H' qk pw qr qf qp (stepF W kvs lw lk st).1.1 → TldAt H' (stepF W kvs lw lk st).1.2 v → WiAt K H' pw dh dl' W kvs lw' (msOf W (stepF W kvs lw lk st).2.2.1) (stepF W kvs lw lk st).2.2.2 → Frm [qk, qr, qf, qp, pw] H H' → Q v H')
theorem m_Walk_step (T : Txt P w K mg base) : MetX (L2.CX P w) P w K mg base 5 (VC K) "step" (spVStep K) := by
  obtain ⟨fd, F⟩ := T.t.def_ 18 (d := d_Walk_step)
  refine ⟨_, fd, _, vcl T, He.meth_ok (T.t.fact 100 (f := .meth "Walk" "step")), F.ok sc_Walk_step (fun vs H Q E h => ?_) (fun cdv A outer s H vs Q E hr h => ?_), F.bindsN fun _ _ _ _ _ _ us hl => match us, hl with | [_], _ => rfl⟩
  · obtain ⟨qk, pw, qr, qf, qp, dh, dl, W, kvs, lw, ms, lk, st, rfl, _⟩ := h
    rfl
  · obtain ⟨qk, pw, qr, qf, qp, dh, dl, W, kvs, lw, ms, lk, ⟨kd, rest, sd, found, paper⟩, rfl, wk, wa, ⟨nr, nf, np⟩, hkd, hW, hkl, hnd, hnum, hll, hrl, hfl, hpl, hrest, hsome, k1, k2⟩ := h
    dsimp only at hkd hrl hfl hpl hrest hsome k1
    have nkw := vk_ne wk wa
    obtain ⟨d1, d2, d3, d4, p2, p3, p4, d5, p5⟩ := wk.nl5 wa
    obtain ⟨⟨dx, o1⟩, o2, o3, ⟨ts, o4, o5, o6⟩, m1, m2, m3⟩ := id wk
    obtain ⟨⟨dw, w1⟩, w2, w3⟩ := id wa
    obtain ⟨nkr, nkf, nkp⟩ := wk.nek
    dsimp only at o1 o2 o3 o4 o5 o6
    refine ⟨_, (pss_cons (ps_if (pt_cmpR op_isN (pe_fld (pv 0) (by rfl)) pe_non (nomark _))
      (pss_one (ps_ret (pe_mx0 (m_Walk__begin_round T) hr (by decide) (pv 0) (passes_call (takes_of rfl rfl rfl rfl) (fun _ _ _ _ h => h)))))
      pss_nil)
    (pss_cons (ps_asg (pe_mx0 (m_Wire_look T) hr (by decide) (pe_fld (pv 0) (by rfl)) (passes_call (takes_of rfl rfl rfl rfl) (fun _ _ _ _ h => h))) (pg_tup rfl (pgs_cons (pg_name (i := 1) sc_Walk_step.nd rfl (Or.inl rfl)) (pgs_cons (pg_name (i := 2) sc_Walk_step.nd rfl (Or.inl rfl)) pgs_nil))))
    (pss_cons (ps_expr (pe_bm PySem.F.plainAttrs_list PySem.F.slot_list_append PySem.F.type_list_append mt_append (pe_fld (pv 0) (by rfl)) (pa_cons (pe_tup (pa_cons (pe_fld (pv 0) (by rfl)) (pa_cons (pv 1) (pa_cons (pv 2) pa_nil)))) pa_nil)))
    (pss_cons (ps_if (PW.pt (pw_and (pt_not (pt_val (pv 1))) (pw_and1 (pt_not (pt_val (pv 2))))))
      (pss_cons (ps_fld (pv 0) pe_non rfl)
      (pss_one (ps_ret (pe_tup (pa_cons pe_str pa_nil)))))
      pss_nil)
    (pss_cons (ps_if (PW.pt (pw_and (pt_val (pv 1)) (pw_and1 (pt_val (pv 2)))))
      (pss_one (ps_expr (pe_bm PySem.F.plainAttrs_list PySem.F.slot_list_append PySem.F.type_list_append mt_append (pe_fld (pv 0) (by rfl)) (pa_cons (pe_op op_add_str (pe_fld (pv 0) (by rfl)) pe_str) pa_nil))))
      pss_nil)
    (pss_one (ps_ret (pe_mx (m_Walk__say T) hr (by decide) (pv 0) pass0 (pa_cons (pe_ifExp (pt_val (pv 1)) pe_str pe_str) pa_nil))))))))), ?_⟩
    cases sd with
    | none =>
      refine ⟨_, rfl, qk, _, dx, _, _, rfl, o1, vcl T, vn_said T, vl_said, rfl, _, rfl, ?_⟩
      refine ⟨_, rfl, qk, dx, _, rfl, o1, vx_begin, qk, pw, qr, qf, qp, dh, dl, W, kvs, lw, ms, lk, _, rfl, wk, wa, rfl, hkd, hW, hkl, hnd, hnum, Nat.lt_succ_of_lt hfl, hrest, k1 rfl, fun hne v ys dl' H' hd pm wk' tl' wa' f' => ?_⟩
      have k := k2 (fun _ => hne) v ys dl' H' (.inr hd)
      have e0 : stepF W kvs lw lk ⟨kd, rest, none, found, paper⟩ = (overF W ⟨kd, rest.dropLast, none, found, paper⟩ (rest.getLast?.getD []), begF kvs kd (rest.getLast?.getD []), some (rest.getLast?.getD []), lk) := rfl
      rw [e0] at k
      exact k pm wk' tl' wa' (f'.mono (by simp))
    | some l =>
      obtain ⟨rfl, hlt, hlb, hnl⟩ := hsome l rfl
      have k := k2 (fun z => by cases z)
      clear k1 k2
      have o1 : H qk = some (.ins (VC K) dx (vfl pw kd qr qf qp (.str (S l)))) := o1
      refine ⟨_, rfl, qk, _, dx, _, _, rfl, o1, vcl T, vn_said T, vl_said, rfl, _, rfl, ?_⟩
      refine ⟨_, rfl, qk, _, dx, _, _, rfl, o1, vcl T, vn_wire T, vl_wire, pw, dw, _, rfl, w1, wx_look, pw, dh, dl, W, kvs, lw, _, lk, rfl, wa, hW, by omega, by omega, hnl, hll, fun z => absurd z (by omega), fun _ p H1 hp wa1 f1 => ?_⟩
      rw [Int.toNat_natCast] at hp
      refine ⟨p, _, rfl, SqT.of hp, rfl, _, _, rfl, _, _, rfl, rfl, ?_⟩
      have nl1 := wa.nl1
      have wk1 := wk.keep (f1.toT nl1 (K := K)) nl1 (by simpa using nkw) (by simpa using p2.symm) (by simpa using p3.symm) (by simpa using p4.symm)
      obtain ⟨⟨dx1, c1⟩, c2, c3, ⟨ts1, c4, c5, c6⟩, _⟩ := id wk1
      have c1 : H1 qk = some (.ins (VC K) dx1 (vfl pw kd qr qf qp (.str (S l)))) := c1
      have c5 : ts1.length = paper.length := c5
      refine ⟨_, rfl, qk, _, dx1, _, _, rfl, c1, vcl T, vn_paper T, vl_paper, .inl ⟨rfl, _, SqL.of c4⟩, _, rfl, qk, _, dx1, _, _, rfl, c1, vcl T, vn_said T, vl_said, _, rfl, _, rfl, by show 3 ≤ sizeLine; decide, fun t ht => ⟨qp, _, _, rfl, rfl, same_upd ht _ _ c4, by rw [List.length_map, c5]; exact big6 (Nat.lt_succ_of_lt hpl), ?_⟩⟩
      obtain ⟨t1, t2, t3, t4⟩ := wk1.old ht
      have wk2 := wk1.pap (q := (l, lw.any (sg l.length 48), lw.any (sg l.length 49))) c4 ht
      obtain ⟨⟨dw1, v1⟩, v2, v3⟩ := id wa1
      have wa2 : WiAt K (upd (upd H1 t (.tup [txV l, .bl (lw.any (sg l.length 48)), .bl (lw.any (sg l.length 49))])) qp (.lst (ts1.map V.ref ++ [.ref t]))) pw dh dl W kvs lw (l.length : Nat) (lk + 1) := ⟨⟨dw1, by rw [upd_ne p4]; exact same_upd ht _ _ v1⟩, by rw [upd_ne np]; exact same_upd ht _ _ v2, by rw [upd_ne d4]; exact same_upd ht _ _ v3⟩
      have F2 : Frm [qk, qr, qf, qp, pw] H (upd (upd H1 t (.tup [txV l, .bl (lw.any (sg l.length 48)), .bl (lw.any (sg l.length 49))])) qp (.lst (ts1.map V.ref ++ [.ref t]))) := ((f1.mono (by simp)).trans (Frm.of (same_upd ht))).put (by simp)
      have wk2 : VkAt K (upd (upd H1 t (.tup [txV l, .bl (lw.any (sg l.length 48)), .bl (lw.any (sg l.length 49))])) qp (.lst (ts1.map V.ref ++ [.ref t]))) qk pw qr qf qp ⟨kd, rest, some l, found, paper ++ [(l, lw.any (sg l.length 48), lw.any (sg l.length 49))]⟩ := wk2
      revert wk2 wa2 F2
      generalize hH2 : (upd (upd H1 t (.tup [txV l, .bl (lw.any (sg l.length 48)), .bl (lw.any (sg l.length 49))])) qp (.lst (ts1.map V.ref ++ [.ref t]))) = H2
      have hH2' : (upd (upd H1 t (.tup [.str (S l), .bl (lw.any (sg l.length 48)), .bl (lw.any (sg l.length 49))])) qp (.lst (ts1.map V.ref ++ [.ref t]))) = H2 := hH2
      rw [hH2']
      intro wa2 F2 wk2
      unfold stepF at k
      dsimp only at k
      -- the signs said
      have fin : ∀ (c : Nat) (r2 : List (List Nat)) (H4 : Hp), (c = 48 ∨ c = 49) → VkAt K H4 qk pw qr qf qp ⟨kd, r2, some l, found, paper ++ [(l, lw.any (sg l.length 48), lw.any (sg l.length 49))]⟩ → WiAt K H4 pw dh dl W kvs lw (l.length : Nat) (lk + 1) → Frm [qk, qr, qf, qp, pw] H H4 →
          (∀ (v : V) (lw' : List Str) (dl' : Addr) (H' : Hp), (dl' = dl ∨ H dl' = none) → lw'.Perm (lw.filter (sg l.length c)) → VkAt K H' qk pw qr qf qp (overF W ⟨kd, r2, some l, found, paper ++ [(l, lw.any (sg l.length 48), lw.any (sg l.length 49))]⟩ (l ++ [c])).1 → TldAt H' (overF W ⟨kd, r2, some l, found, paper ++ [(l, lw.any (sg l.length 48), lw.any (sg l.length 49))]⟩ (l ++ [c])).2 v → WiAt K H' pw dh dl' W kvs lw' ((l ++ [c]).length : Nat) (lk + 1) → Frm [qk, qr, qf, qp, pw] H H' → Q v H') →
          spVSay K ([V.ref qk, .str (S [c])] ++ []) H4 Q E0 := fun c r2 H4 hc a1 a2 a3 kk =>
        ⟨qk, pw, qr, qf, qp, dh, dl, W, kvs, lw, lk + 1, _, l, [c], rfl, a1, a2, rfl, by show l.length + 1 ≤ W; omega, hW, fun d hd => by rw [List.mem_singleton.mp hd]; exact hc, hnl, hll, Nat.lt_succ_of_lt hfl, ⟨nr, nf, np⟩, fun v dl' H' hd a4 a5 a6 a7 =>
          kk v _ dl' H' (hd.imp_right (a3.b _)) (by rw [List.filter_congr fun x _ => behind_one (n := l.length) (c := c) (x := x)]) a4 a5 a6 (a3.trans (a7.mono (by simp)))⟩
      obtain ⟨⟨dx2, e1⟩, e2, e3, _⟩ := id wk2
      obtain ⟨⟨dw2, y1⟩, y2, y3⟩ := id wa2
      revert k fin wk2
      generalize lw.any (sg l.length 48) = z
      generalize lw.any (sg l.length 49) = o
      intro k wk2 fin
      cases z <;> cases o
      · refine ⟨_, rfl, false, rfl, _, rfl, false, rfl, ?_⟩
        refine ⟨_, rfl, qk, _, dx2, _, rfl, e1, vcl T, vn_said T, vl_len, ?_⟩
        rw [vp_said]
        refine ⟨by show 1 ≤ sizeLine; decide, fun u hu => ?_⟩
        have wk3 := (wk2.say (dx := dx2) (sd := none)).new (o := .tup [.str "lost"]) hu
        refine k (.ref u) lw dl _ (.inl rfl) (List.Perm.refl _) wk3 ⟨u, rfl, upd_same⟩ ⟨⟨dw2, same_upd hu _ _ (by rw [upd_ne nkw.symm]; exact y1)⟩, same_upd hu _ _ (by rw [upd_ne d5]; exact y2), same_upd hu _ _ (by rw [upd_ne d1]; exact y3)⟩ ((F2.put (by simp)).trans (Frm.of (same_upd hu)))
      · refine ⟨_, rfl, false, rfl, _, rfl, true, rfl, ?_⟩
        refine ⟨_, rfl, false, rfl, ?_⟩
        refine ⟨_, rfl, qk, dx2, _, rfl, e1, vx_say, _, rfl, false, rfl, ?_⟩
        have s1 : V.str "1" = V.str (S [49]) := congrArg V.str one_S
        rw [s1]
        exact fin 49 rest H2 (.inr rfl) wk2 wa2 F2 k
      · refine ⟨_, rfl, true, rfl, ?_⟩
        refine ⟨_, rfl, true, rfl, _, rfl, false, rfl, ?_⟩
        refine ⟨_, rfl, qk, dx2, _, rfl, e1, vx_say, _, rfl, true, rfl, ?_⟩
        have s1 : V.str "0" = V.str (S [48]) := congrArg V.str zero_S
        rw [s1]
        exact fin 48 rest H2 (.inl rfl) wk2 wa2 F2 k
      · refine ⟨_, rfl, true, rfl, ?_⟩
        refine ⟨_, rfl, true, rfl, _, rfl, true, rfl, ?_⟩
        have q1 : ("1" : Str).length = 1 := by decide +kernel
        have q2 := SX.S_len l
        have q0 : S l ++ ("1" : Str) = S (l ++ [49]) := by
          rw [← SX.S_cat]
          rfl
        refine ⟨_, rfl, qk, _, dx2, _, _, rfl, e1, vcl T, vn_row T, vl_row, .inl ⟨rfl, _, SqL.of e2⟩, _, rfl, qk, _, dx2, _, _, rfl, e1, vcl T, vn_said T, vl_said, S l, "1", rfl, rfl, size12 (by omega), qr, _, _, rfl, rfl, e2, by rw [List.length_map]; exact big6 (Nat.lt_succ_of_lt hrl), ?_⟩
        rw [q0]
        have er : (({ kd := kd, rest := rest, sd := some l, found := found, paper := paper ++ [(l, true, true)] } : WkS).rest.map txV ++ [V.str (S (l ++ [49]))]) = (rest ++ [l ++ [49]]).map txV := by rw [List.map_append]; rfl
        rw [er]
        have wk3 := wk2.row (r := rest ++ [l ++ [49]])
        obtain ⟨⟨dx3, i1⟩, _⟩ := id wk3
        refine ⟨_, rfl, qk, dx3, _, rfl, i1, vx_say, _, rfl, true, rfl, ?_⟩
        have s1 : V.str "0" = V.str (S [48]) := congrArg V.str zero_S
        rw [s1]
        exact fin 48 _ _ (.inl rfl) wk3 ⟨⟨dw2, by rw [upd_ne p2]; exact y1⟩, by rw [upd_ne nr]; exact y2, by rw [upd_ne d2]; exact y3⟩ (F2.put (by simp)) k
end
end B

set_option Elab.async false
set_option linter.all false
set_option maxRecDepth 100000
set_option maxHeartbeats 4000000
namespace B
open PySem PySem.Spec PyProof.Rows L2
open SX (S)
theorem nil_of {σ : L2.St} {H : Hp} {Q : List V → Hp → Prop} (h : Q [] H) : tNil σ H Q := h
/-! ### a step of lists with the same things -/
theorem any_perm {a b : List Str} {f : Str → Bool} (h : a.Perm b) : a.any f = b.any f := by
  rw [Bool.eq_iff_iff, List.any_eq_true, List.any_eq_true]
  constructor
  · rintro ⟨x, hx, e⟩
    exact ⟨x, h.mem_iff.mp hx, e⟩
  · rintro ⟨x, hx, e⟩
    exact ⟨x, h.mem_iff.mpr hx, e⟩
theorem step_perm {W : Nat} {kvs : List (Str × Bool)} {lw lm : List Str} {lk : Int} {st : WkS} (h : lw.Perm lm) : (stepF W kvs lw lk st).1 = (stepF W kvs lm lk st).1 ∧ (stepF W kvs lw lk st).2.1.Perm (stepF W kvs lm lk st).2.1 ∧ (stepF W kvs lw lk st).2.2 = (stepF W kvs lm lk st).2.2 := by
  obtain ⟨kd, rest, sd, found, paper⟩ := st
  cases sd with
  | none => exact ⟨rfl, List.Perm.refl _, rfl⟩
  | some l =>
    unfold stepF
    dsimp only
    rw [any_perm h (f := sg l.length 48), any_perm h (f := sg l.length 49)]
    split
    · exact ⟨rfl, h, rfl⟩
    · exact ⟨rfl, h.filter _, rfl⟩
/-- steps till there is nowhere to go -/
def allF (W : Nat) (kvs : List (Str × Bool)) : Nat → WkS × List Str × Option (List Nat) × Int → WkS × List Str × Option (List Nat) × Int
  | 0, q => q
  | n + 1, q => if q.1.sd = none ∧ q.1.rest = [] then q else allF W kvs n ((stepF W kvs q.2.1 q.2.2.2 q.1).1.1, (stepF W kvs q.2.1 q.2.2.2 q.1).2)
theorem all_stop {W n : Nat} {kvs : List (Str × Bool)} {q : WkS × List Str × Option (List Nat) × Int} (h : q.1.sd = none ∧ q.1.rest = []) : allF W kvs n q = q := by
  cases n with
  | zero => rfl
  | succ n =>
    show (if _ then _ else _) = _
    rw [if_pos h]
theorem all_go {W n : Nat} {kvs : List (Str × Bool)} {q : WkS × List Str × Option (List Nat) × Int} (h : ¬ (q.1.sd = none ∧ q.1.rest = [])) : allF W kvs (n + 1) q = allF W kvs n ((stepF W kvs q.2.1 q.2.2.2 q.1).1.1, (stepF W kvs q.2.1 q.2.2.2 q.1).2) := by
  show (if _ then _ else _) = _
  rw [if_neg h]
theorem over_kd {W : Nat} {st : WkS} {l : List Nat} : (overF W st l).1.kd = st.kd := by
  unfold overF
  split <;> rfl
theorem step_kd {W : Nat} {kvs : List (Str × Bool)} {lm : List Str} {lk : Int} {st : WkS} : (stepF W kvs lm lk st).1.1.kd = st.kd := by
  obtain ⟨kd, rest, sd, found, paper⟩ := st
  cases sd with
  | none => exact over_kd
  | some l =>
    unfold stepF
    dsimp only
    split
    · rfl
    · refine over_kd.trans ?_
      split <;> rfl
section
variable {P : Program} {w : World} {K : PySem.W.Frag} {mg : Str → Option Value} {base : Heap}
/-- where a step may be done: a walk and its wire, the wire's list told up to its order -/
structure VkOk (K : PySem.W.Frag) (H : Hp) (qk pw qr qf qp dh dl : Addr) (W : Nat) (kvs : List (Str × Bool)) (lm : List Str) (sdm : Option (List Nat)) (lk : Int) (st : WkS) (n : Nat) : Prop where
  wk : VkAt K H qk pw qr qf qp st
  wa : ∃ lw, WiAt K H pw dh dl W kvs lw (msOf W sdm) lk ∧ lw.Perm lm
  nl : dl ≠ qr ∧ dl ≠ qf ∧ dl ≠ qp
  kd : st.kd = "all" ∨ st.kd = "alarm"
  w : W ≤ 12
  kl : kvs.length < 64
  nd : (kvs.map (·.1)).Nodup
  num : ∀ x ∈ kvs.map (·.1), Num W x
  ok : WkOk W lm sdm st n
theorem VkOk.stay {H H' : Hp} {S : List Addr} {qk pw qr qf qp dh dl : Addr} {W : Nat} {kvs : List (Str × Bool)} {lm : List Str} {sdm : Option (List Nat)} {lk : Int} {st : WkS} {n : Nat} (h : VkOk K H qk pw qr qf qp dh dl W kvs lm sdm lk st n) (f : FrT K S H H') (z : NL S H) (h1 : qk ∉ S) (h2 : qr ∉ S) (h3 : qf ∉ S) (h4 : qp ∉ S) (h5 : pw ∉ S) (h6 : dh ∉ S) : VkOk K H' qk pw qr qf qp dh dl W kvs lm sdm lk st n := by
  obtain ⟨a, ⟨lw, b1, b2⟩, c, d, e, g, i, j, o⟩ := h
  exact ⟨a.keep f z h1 h2 h3 h4, ⟨lw, b1.stay f z h5 h6, b2⟩, c, d, e, g, i, j, o⟩
/-- a step, the list up to its order -/
theorem VkOk.step {H : Hp} {qk pw qr qf qp dh dl : Addr} {W : Nat} {kvs : List (Str × Bool)} {lm : List Str} {sdm : Option (List Nat)} {lk : Int} {st : WkS} {n : Nat} (h : VkOk K H qk pw qr qf qp dh dl W kvs lm sdm lk st n) (hn : n < 999999) {Q : VK} {E : XK} (hO : st.sd = none → st.rest = [] → E (.ref (He.ga K "Over")) none H)
    (k : (st.sd = none → st.rest ≠ []) → ∀ (v : V) (dl' : Addr) (H' : Hp), (dl' = dl ∨ H dl' = none) → VkOk K H' qk pw qr qf qp dh dl' W kvs (stepF W kvs lm lk st).2.1 (stepF W kvs lm lk st).2.2.1 (stepF W kvs lm lk st).2.2.2 (stepF W kvs lm lk st).1.1 (n + 1) → TldAt H' (stepF W kvs lm lk st).1.2 v → Frm [qk, qr, qf, qp, pw] H H' → Q v H') : spVStep K [.ref qk] H Q E := by
  obtain ⟨wk, ⟨lw, wa, pm⟩, nl, kd, hw, hkl, hnd, hnum, ok⟩ := h
  obtain ⟨z1, z2, z3⟩ := ok.len
  have hb : ∀ l, st.sd = some l → msOf W sdm = (l.length : Nat) ∧ l.length < W ∧ Bits l ∧ ∀ x ∈ lw, Num W x := fun l e => by
    obtain ⟨a, b, c, d⟩ := ok.said l e
    exact ⟨by rw [a]; rfl, b, c, fun x hx => (d x (pm.mem_iff.mp hx)).num⟩
  refine ⟨qk, pw, qr, qf, qp, dh, dl, W, kvs, lw, _, lk, st, rfl, wk, wa, nl, kd, hw, hkl, hnd, hnum, by rw [pm.length_eq]; exact ok.lm, by omega, by omega, by omega, ok.rest, hb, hO, fun hne v lw' dl' H' hd pm' wk' tl' wa' f' => ?_⟩
  obtain ⟨s1, s2, s3⟩ := step_perm (W := W) (kvs := kvs) (lk := lk) (st := st) pm
  rw [s1] at wk' tl'
  rw [s3] at wa'
  refine k hne v dl' H' hd ⟨wk', ⟨lw', wa', pm'.trans s2⟩, ?_, by rw [step_kd]; exact kd, hw, hkl, hnd, hnum, step_ok ok hne (by omega) hnum⟩ tl' f'
  exact hd.elim (fun e => by rw [e]; exact nl) fun z => ⟨(wk.old z).2.1, (wk.old z).2.2.1, (wk.old z).2.2.2⟩
/-- a round -/
def spVRound (K : PySem.W.Frag) : Sp := fun vs H Q _ => ∃ (qk pw qr qf qp dh dl : Addr) (W : Nat) (kvs : List (Str × Bool)) (lm : List Str) (sdm : Option (List Nat)) (lk : Int) (st : WkS) (n : Nat), vs = [.ref qk] ∧ VkOk K H qk pw qr qf qp dh dl W kvs lm sdm lk st n ∧ n ≤ 900000 ∧ (st.sd = none → st.rest ≠ []) ∧
  ∀ (v : V) (dl' : Addr) (H' : Hp), (dl' = dl ∨ H dl' = none) → VkOk K H' qk pw qr qf qp dh dl' W kvs (roundF W kvs W lm lk st).2.1 (roundF W kvs W lm lk st).2.2.1 (roundF W kvs W lm lk st).2.2.2 (roundF W kvs W lm lk st).1.1 (n + 1 + W) → TldAt H' (roundF W kvs W lm lk st).1.2 v → Frm [qk, qr, qf, qp, pw] H H' → Q v H'
theorem WkOk.le {W n m : Nat} {lm : List Str} {sdm : Option (List Nat)} {st : WkS} (h : WkOk W lm sdm st n) (hm : n ≤ m) : WkOk W lm sdm st m := by
  obtain ⟨a, b, ⟨c, d, e⟩, f⟩ := h
  exact ⟨a, b, ⟨by omega, by omega, by omega⟩, f⟩
theorem VkOk.le {H : Hp} {qk pw qr qf qp dh dl : Addr} {W : Nat} {kvs : List (Str × Bool)} {lm : List Str} {sdm : Option (List Nat)} {lk : Int} {st : WkS} {n m : Nat} (h : VkOk K H qk pw qr qf qp dh dl W kvs lm sdm lk st n) (hm : n ≤ m) : VkOk K H qk pw qr qf qp dh dl W kvs lm sdm lk st m := by
  obtain ⟨a, b, c, d, e, g, i, j, o⟩ := h
  exact ⟨a, b, c, d, e, g, i, j, o.le hm⟩
theorem tld_ref {H : Hp} {r : Tld} {v : V} (h : TldAt H r v) (n : r ≠ .no) : ∃ t, v = .ref t := by
  cases r with
  | no => exact absurd rfl n
  | lost =>
    obtain ⟨t, e, _⟩ := h
    exact ⟨t, e⟩
  | found l =>
    obtain ⟨t, e, _⟩ := h
    exact ⟨t, e⟩
theorem m_Walk_go_round (T : Txt P w K mg base) : MetX CX0 P w K mg base 6 (VC K) "go_round" (spVRound K) := by
  obtain ⟨fd, F⟩ := T.t.def_ 19 (d := d_Walk_go_round)
  refine ⟨_, fd, _, vcl T, He.meth_ok (T.t.fact 101 (f := .meth "Walk" "go_round")), F.ok sc_Walk_go_round (fun vs H Q E h => ?_) (fun cdv A outer s H vs Q E hr h => ?_), F.bindsN fun _ _ _ _ _ _ us hl => match us, hl with | [_], _ => rfl⟩
  · obtain ⟨qk, pw, qr, qf, qp, dh, dl, W, kvs, lm, sdm, lk, st, n, rfl, _⟩ := h
    rfl
  · obtain ⟨qk, pw, qr, qf, qp, dh, dl, W, kvs, lm, sdm, lk, st, n, rfl, vk, hn, hne, k⟩ := h
    refine ⟨_, PSs.nox (pss_cons (ps_set (i := 1) sc_Walk_go_round.nd rfl (Or.inl rfl) (pe_mx0 (m_Walk_step T) hr (by decide) (pv 0) (passes_call (E := fun _ _ _ => False) L2.takes0 (fun _ _ _ _ h => h))))
    (pss_cons (ps_while PassesOwn.never (pt_cmpR op_isN (pv 1) pe_non (nomark _))
      (pss_one (ps_set (i := 1) sc_Walk_go_round.nd rfl (Or.inl rfl) (pe_mx0 (m_Walk_step T) hr (by decide) (pv 0) (passes_call (E := fun _ _ _ => False) L2.takes0 (fun _ _ _ _ h => h))))))
    (pss_one (ps_ret (pv 1))))), ?_⟩
    have old : ∀ {b : Addr}, H b = none → b ≠ qr ∧ b ≠ qf ∧ b ≠ qp := fun hb => (vk.wk.old hb).2
    obtain ⟨⟨dx, o1⟩, _⟩ := id vk.wk
    refine ⟨_, rfl, qk, dx, _, rfl, o1, vx_step, nil_of (vk.step (by omega) (fun a b => absurd b (hne a)) fun _ v dl1 H1 hdl1 vk1 tl1 f1 => ?_)⟩
    generalize hR : roundF W kvs W lm lk st = R at k
    let Wd : Nat → L2.St → Hp → Prop := fun m σ H' => ∃ (v : V) (dl' : Addr) (r : (WkS × Tld) × List Str × Option (List Nat) × Int) (b : Nat), σ = [some (.ref qk), some v] ∧ VkOk K H' qk pw qr qf qp dh dl' W kvs r.2.1 r.2.2.1 r.2.2.2 r.1.1 b ∧ TldAt H' r.1.2 v ∧ (dl' = dl ∨ H dl' = none) ∧ Frm [qk, qr, qf, qp, pw] H H' ∧
      ((r.1.2 ≠ .no ∧ r = R ∧ b ≤ n + 1 + W) ∨ (r.1.2 = .no ∧ ∃ (l' : List Nat) (j : Nat), r.1.1.sd = some l' ∧ b + j ≤ n + W ∧ m = j + 1 ∧ W ≤ l'.length + j + 1 ∧ roundF W kvs j r.2.1 r.2.2.2 r.1.1 = R))
    refine ⟨Wd, ?_, ?_⟩
    · by_cases hno : (stepF W kvs lm lk st).1.2 = .no
      · obtain ⟨l', e1, e2, _⟩ := step_no hno
        obtain ⟨w', rfl⟩ : ∃ w', W = w' + 1 := ⟨W - 1, by omega⟩
        exact ⟨w' + 1, v, dl1, stepF (w' + 1) kvs lm lk st, n + 1, rfl, vk1, tl1, hdl1, f1, .inr ⟨hno, l', w', e1, by omega, rfl, by omega, by rw [← hR, round_no hno]⟩⟩
      · exact ⟨0, v, dl1, stepF W kvs lm lk st, n + 1, rfl, vk1, tl1, hdl1, f1, .inl ⟨hno, by rw [← hR, round_yes hno], by omega⟩⟩
    · rintro m σ H2 ⟨v2, dl2, r, b, rfl, vk2, tl2, hd2, f2, hc⟩
      refine ⟨_, rfl, rfl, _, rfl, ?_⟩
      rcases hc with ⟨hno, rfl, hb⟩ | ⟨hno, l', j, e1, hb, rfl, hj, hroundR⟩
      · obtain ⟨t, rfl⟩ := tld_ref tl2 hno
        exact ⟨_, rfl, k _ dl2 H2 hd2 (vk2.le hb) tl2 f2⟩
      · rw [hno] at tl2
        obtain rfl : v2 = .non := tl2
        refine ⟨fun σ' H' => ∃ m', m' < j + 1 ∧ Wd m' σ' H', fun _ _ h => h, ?_⟩
        have hsd : r.1.1.sd = none → r.1.1.rest ≠ [] := fun z => by rw [e1] at z; cases z
        obtain ⟨⟨dx2, g1⟩, _⟩ := id vk2.wk
        refine ⟨_, rfl, qk, dx2, _, rfl, g1, vx_step, nil_of (vk2.step (by have := vk.w; omega) (fun a _ => by rw [e1] at a; cases a) fun _ v3 dl3 H3 hdl3 vk3 tl3 f3 => ?_)⟩
        have hd3 : dl3 = dl ∨ H dl3 = none := hdl3.elim (fun e => by rw [e]; exact hd2) fun z => .inr (f2.b _ z)
        by_cases hno3 : (stepF W kvs r.2.1 r.2.2.2 r.1.1).1.2 = .no
        · obtain ⟨l3, g1, g2, g3⟩ := step_no hno3
          have g4 := g3 l' e1
          obtain ⟨j', rfl⟩ : ∃ j', j = j' + 1 := ⟨j - 1, by omega⟩
          exact ⟨j' + 1, by omega, v3, dl3, _, b + 1, rfl, vk3, tl3, hd3, f2.trans f3, .inr ⟨hno3, l3, j', g1, by omega, rfl, by omega, by rw [← hroundR, round_no hno3]⟩⟩
        · exact ⟨0, by omega, v3, dl3, _, b + 1, rfl, vk3, tl3, hd3, f2.trans f3, .inl ⟨hno3, by rw [← hroundR, round_yes hno3], by omega⟩⟩
/-- all -/
def spVAll (K : PySem.W.Frag) : Sp := fun vs H Q _ => ∃ (qk pw qr qf qp dh dl : Addr) (W : Nat) (kvs : List (Str × Bool)) (lm : List Str) (sdm : Option (List Nat)) (lk : Int) (st : WkS) (n : Nat), vs = [.ref qk] ∧ VkOk K H qk pw qr qf qp dh dl W kvs lm sdm lk st n ∧ n + meas W st ≤ 900000 ∧
  ∀ (p dl' : Addr) (H' : Hp), (dl' = dl ∨ H dl' = none) → H p = none → VkOk K H' qk pw qr qf qp dh dl' W kvs (allF W kvs (meas W st) (st, lm, sdm, lk)).2.1 (allF W kvs (meas W st) (st, lm, sdm, lk)).2.2.1 (allF W kvs (meas W st) (st, lm, sdm, lk)).2.2.2 (allF W kvs (meas W st) (st, lm, sdm, lk)).1 (n + meas W st) → (allF W kvs (meas W st) (st, lm, sdm, lk)).1.sd = none → (allF W kvs (meas W st) (st, lm, sdm, lk)).1.rest = [] →
    H' p = some (.lst ((allF W kvs (meas W st) (st, lm, sdm, lk)).1.found.map txV)) → Frm [qk, qr, qf, qp, pw] H H' → Q (.ref p) H'
theorem meas_pos {W : Nat} {st : WkS} (h : ¬ (st.sd = none ∧ st.rest = [])) : 0 < meas W st := by
  obtain ⟨kd, rest, sd, found, paper⟩ := st
  unfold meas
  cases sd with
  | some l =>
    have := two_pow (n := W - l.length)
    show 0 < sumR W rest + wS W l
    unfold wS
    omega
  | none =>
    cases rest with
    | nil => exact absurd ⟨rfl, rfl⟩ h
    | cons g r =>
      have := two_pow (n := W - g.length)
      show 0 < (wR W g + sumR W r) + 0
      unfold wR
      omega
theorem m_Walk_go_all (T : Txt P w K mg base) : MetX CX0 P w K mg base 6 (VC K) "go_all" (spVAll K) := by
  obtain ⟨fd, F⟩ := T.t.def_ 20 (d := d_Walk_go_all)
  refine ⟨_, fd, _, vcl T, He.meth_ok (T.t.fact 102 (f := .meth "Walk" "go_all")), F.ok sc_Walk_go_all (fun vs H Q E h => ?_) (fun cdv A outer s H vs Q E hr h => ?_), F.bindsN fun _ _ _ _ _ _ us hl => match us, hl with | [_], _ => rfl⟩
  · obtain ⟨qk, pw, qr, qf, qp, dh, dl, W, kvs, lm, sdm, lk, st, n, rfl, _⟩ := h
    rfl
  · obtain ⟨qk, pw, qr, qf, qp, dh, dl, W, kvs, lm, sdm, lk, st, n, rfl, vk, hn, k⟩ := h
    refine ⟨_, PSs.nox (pss_cons (ps_while PassesOwn.never (PW.pt (pw_or (pt_cmpR op_notN (pe_fld (pv 0) (by rfl)) pe_non (nomark _)) (pw_or1 (pt_truth (pe_fld (pv 0) (by rfl)) (by intro _; rfl)))))
      (pss_one (ps_expr (pe_mx0 (m_Walk_step T) hr (by decide) (pv 0) (passes_call (E := fun _ _ _ => False) L2.takes0 (fun _ _ _ _ h => h))))))
    (pss_one (ps_ret (pe_mx0 (m_Walk_found T) hr (by decide) (pv 0) pass0)))), ?_⟩
    generalize hR : allF W kvs (meas W st) (st, lm, sdm, lk) = R at k
    let Wd : Nat → L2.St → Hp → Prop := fun m σ H' => ∃ (dl' : Addr) (q : WkS × List Str × Option (List Nat) × Int) (b : Nat), σ = [some (.ref qk)] ∧ VkOk K H' qk pw qr qf qp dh dl' W kvs q.2.1 q.2.2.1 q.2.2.2 q.1 b ∧ (dl' = dl ∨ H dl' = none) ∧ Frm [qk, qr, qf, qp, pw] H H' ∧ meas W q.1 ≤ m ∧ b + m ≤ n + meas W st ∧ allF W kvs m q = R
    refine ⟨Wd, ⟨meas W st, dl, (st, lm, sdm, lk), n, rfl, vk, .inl rfl, Frm.refl _ _, Nat.le_refl _, Nat.le_refl _, hR⟩, ?_⟩
    rintro m σ H2 ⟨dl2, ⟨st2, lm2, sd2, lk2⟩, b, rfl, vk2, hd2, f2, hm, hb, hq⟩
    dsimp only at vk2 hm
    obtain ⟨⟨dx2, g1⟩, g2, _⟩ := id vk2.wk
    have body : ¬ (st2.sd = none ∧ st2.rest = []) → ∃ (N : L2.St → Hp → Prop), (∀ σ' H', N σ' H' → ∃ m', m' < m ∧ Wd m' σ' H') ∧ spVStep K [.ref qk] H2 (fun _ H' => N [some (.ref qk)] H') (fun _ _ _ => False) := fun hst => by
      refine ⟨fun σ' H' => ∃ m', m' < m ∧ Wd m' σ' H', fun _ _ h => h, vk2.step (by omega) (fun a b => absurd ⟨a, b⟩ hst) fun hne v dl3 H3 hdl3 vk3 tl3 f3 => ?_⟩
      have hlt := step_meas (kvs := kvs) (lk := lk2) vk2.ok hne
      obtain ⟨m', rfl⟩ : ∃ m', m = m' + 1 := ⟨m - 1, by have := meas_pos (W := W) hst; omega⟩
      have hd3 : dl3 = dl ∨ H dl3 = none := hdl3.elim (fun e => by rw [e]; exact hd2) fun z => .inr (f2.b _ z)
      exact ⟨m', by omega, dl3, ((stepF W kvs lm2 lk2 st2).1.1, (stepF W kvs lm2 lk2 st2).2), b + 1, rfl, vk3, hd3, f2.trans f3, by show meas W (stepF W kvs lm2 lk2 st2).1.1 ≤ m'; omega, by omega, by rw [← hq, all_go hst]⟩
    have sdn : ∀ o : Option (List Nat), (decide (sdV o = V.non)) = o.isNone := fun o => by
      cases o with
      | none => rfl
      | some l => rfl
    refine ⟨_, rfl, qk, _, dx2, _, _, rfl, g1, vcl T, vn_said T, vl_said, rfl, _, rfl, ?_⟩
    rw [sdn]
    cases hs : st2.sd with
    | some l =>
      obtain ⟨N, n1, n2⟩ := body (fun z => by rw [hs] at z; cases z.1)
      refine ⟨N, n1, _, rfl, qk, dx2, _, rfl, g1, vx_step, n2⟩
    | none =>
      refine ⟨_, rfl, qk, _, dx2, _, _, rfl, g1, vcl T, vn_row T, vl_row, _, .inl ⟨_, SqL.of g2, rfl⟩, ?_⟩
      cases hr2 : st2.rest with
      | cons g r =>
        obtain ⟨N, n1, n2⟩ := body (fun z => by rw [hr2] at z; cases z.2)
        refine ⟨N, n1, _, rfl, qk, dx2, _, rfl, g1, vx_step, n2⟩
      | nil =>
        have e : (st2, lm2, sd2, lk2) = R := by rw [← hq, all_stop ⟨hs, hr2⟩]
        subst e
        refine ⟨_, rfl, qk, dx2, _, rfl, g1, vx_found, qk, pw, qr, qf, qp, st2, rfl, vk2.wk, fun p H3 hp hp3 f3 => ?_⟩
        exact k p dl2 H3 hd2 (f2.b _ hp) ((vk2.stay (f3.toT .nil (K := K)) .nil (by simp) (by simp) (by simp) (by simp) (by simp) (by simp)).le (by omega)) hs hr2 hp3 (f2.trans (f3.mono (by simp)))
end
end B

set_option Elab.async false
set_option linter.all false
set_option maxRecDepth 100000
set_option maxHeartbeats 4000000
namespace B
open PySem PySem.Spec PyProof.Rows L2
open SX (S)
/-! ### a walk over a pool ends soon -/
def cnt (names : List Str) (l : List Nat) : Nat := (names.filter (starts l)).length
theorem sg_one {n : Nat} {x : Str} (a : sg n 48 x = true) (b : sg n 49 x = true) : False := by
  have a' := of_decide_eq_true a
  have b' := of_decide_eq_true b
  rw [a'] at b'
  cases b'
theorem cnt_two {names : List Str} {l : List Nat} : cnt names (l ++ [48]) + cnt names (l ++ [49]) ≤ cnt names l := by
  unfold cnt
  induction names with
  | nil => exact Nat.le_refl _
  | cons x r ih =>
    rw [List.filter_cons, List.filter_cons, List.filter_cons, starts_snoc, starts_snoc]
    cases e : starts l x with
    | false =>
      rw [Bool.and_false, Bool.and_false]
      exact ih
    | true =>
      rw [Bool.and_true, Bool.and_true]
      cases a : sg l.length 48 x with
      | false =>
        cases b : sg l.length 49 x with
        | false =>
          rw [if_neg Bool.false_ne_true, if_neg Bool.false_ne_true, if_pos rfl, List.length_cons]
          omega
        | true =>
          rw [if_neg Bool.false_ne_true, if_pos rfl, if_pos rfl, List.length_cons, List.length_cons]
          omega
      | true =>
        cases b : sg l.length 49 x with
        | false =>
          rw [if_pos rfl, if_neg Bool.false_ne_true, if_pos rfl, List.length_cons, List.length_cons]
          omega
        | true => exact (sg_one a b).elim
theorem cnt_pos {names : List Str} {l : List Nat} {x : Str} (hx : x ∈ names) (h : starts l x = true) : 1 ≤ cnt names l := List.length_pos_of_mem (List.mem_filter.mpr ⟨hx, h⟩)
def vR (W : Nat) (names : List Str) (g : List Nat) : Nat := cnt names g * (W - g.length + 1)
def sumV (W : Nat) (names : List Str) : List (List Nat) → Nat
  | [] => 0
  | g :: r => vR W names g + sumV W names r
theorem sumV_app {W : Nat} {names : List Str} : ∀ {a b : List (List Nat)}, sumV W names (a ++ b) = sumV W names a + sumV W names b
  | [], b => by show sumV W names b = 0 + sumV W names b; omega
  | g :: a, b => by
    have := sumV_app (W := W) (names := names) (a := a) (b := b)
    show vR W names g + sumV W names (a ++ b) = vR W names g + sumV W names a + sumV W names b
    omega
def mv (W : Nat) (names : List Str) (st : WkS) : Nat := sumV W names st.rest + (match st.sd with | none => 0 | some l => vR W names l - 1)
structure Cnts (names : List Str) (st : WkS) : Prop where
  rest : ∀ g ∈ st.rest, 1 ≤ cnt names g
  said : ∀ l, st.sd = some l → 1 ≤ cnt names l
theorem over_mv {W : Nat} {names : List Str} {st : WkS} {l : List Nat} : mv W names (overF W st l).1 ≤ sumV W names st.rest + (vR W names l - 1) := by
  unfold overF mv
  split
  · exact Nat.le_refl _
  · show sumV W names st.rest + 0 ≤ _
    omega
theorem over_cnts {W : Nat} {names : List Str} {st : WkS} {l : List Nat} (h : ∀ g ∈ st.rest, 1 ≤ cnt names g) (hl : 1 ≤ cnt names l) : Cnts names (overF W st l).1 := by
  unfold overF
  split
  · exact ⟨h, fun l' e => by cases e; exact hl⟩
  · exact ⟨h, fun l' e => by cases e⟩
theorem beg_st {W : Nat} {l : List Nat} {x : Str} (h : Beg W l x) : starts l x = true := by
  obtain ⟨m, rfl, e, b, t⟩ := h
  unfold starts
  rw [S_list]
  exact decide_eq_true t
theorem heard_cnt {W c : Nat} {names lm : List Str} {l : List Nat} (h : lm.any (sg l.length c) = true) (hb : ∀ x ∈ lm, Beg W l x) (hs : ∀ x ∈ lm, x ∈ names) : 1 ≤ cnt names (l ++ [c]) := by
  obtain ⟨x, hx, e⟩ := List.any_eq_true.mp h
  refine cnt_pos (hs x hx) ?_
  rw [starts_snoc, e, beg_st (hb x hx)]
  rfl
theorem vR_snoc {W c : Nat} {names : List Str} {l : List Nat} (h : l.length < W) : vR W names (l ++ [c]) = cnt names (l ++ [c]) * (W - l.length) := by
  unfold vR
  rw [List.length_append, List.length_singleton, show W - (l.length + 1) + 1 = W - l.length by omega]
theorem step_mv {W n : Nat} {names : List Str} {kvs : List (Str × Bool)} {lm : List Str} {sdm : Option (List Nat)} {lk : Int} {st : WkS} (h : WkOk W lm sdm st n) (c : Cnts names st) (hs : ∀ x ∈ lm, x ∈ names) (hr : st.sd = none → st.rest ≠ []) : mv W names (stepF W kvs lm lk st).1.1 < mv W names st ∧ Cnts names (stepF W kvs lm lk st).1.1 := by
  obtain ⟨kd, rest, sd, found, paper⟩ := st
  obtain ⟨c1, c2⟩ := c
  dsimp only at c1 c2
  cases sd with
  | none =>
    obtain ⟨r, g, e, hg, hb⟩ := h.none_ (hr rfl)
    dsimp only at e
    subst e
    have e0 : stepF W kvs lm lk ⟨kd, r ++ [g], none, found, paper⟩ = (overF W ⟨kd, r, none, found, paper⟩ g, begF kvs kd g, some g, lk) := by
      unfold stepF
      simp
    rw [e0]
    have hg1 := c1 g (by simp)
    refine ⟨Nat.lt_of_le_of_lt over_mv ?_, over_cnts (fun q hq => c1 q (List.mem_append_left _ hq)) hg1⟩
    show sumV W names r + (vR W names g - 1) < sumV W names (r ++ [g]) + 0
    rw [sumV_app]
    show sumV W names r + (vR W names g - 1) < sumV W names r + (vR W names g + 0) + 0
    have : 1 * 1 ≤ vR W names g := Nat.mul_le_mul hg1 (by omega)
    omega
  | some l =>
    obtain ⟨_, hlt, _, hbeg⟩ := h.said l rfl
    have hl1 := c2 l rfl
    have hk : 1 ≤ W - l.length := by omega
    have v0 : vR W names l = cnt names l * (W - l.length) + cnt names l := Nat.mul_succ _ _
    have v1 : 1 * 1 ≤ cnt names l * (W - l.length) := Nat.mul_le_mul hl1 hk
    have v2 := vR_snoc (c := 48) (names := names) hlt
    have v3 := vR_snoc (c := 49) (names := names) hlt
    have v4 : (cnt names (l ++ [48]) + cnt names (l ++ [49])) * (W - l.length) ≤ cnt names l * (W - l.length) := Nat.mul_le_mul_right _ cnt_two
    rw [Nat.add_mul] at v4
    have q48 := fun z => heard_cnt (c := 48) z hbeg hs
    have q49 := fun z => heard_cnt (c := 49) z hbeg hs
    unfold stepF
    dsimp only
    revert q48 q49
    generalize lm.any (sg l.length 48) = z
    generalize lm.any (sg l.length 49) = o
    intro q48 q49
    cases z <;> cases o
    · rw [if_pos ⟨rfl, rfl⟩]
      refine ⟨?_, ⟨c1, fun l' e => by cases e⟩⟩
      show sumV W names rest + 0 < sumV W names rest + (vR W names l - 1)
      omega
    · rw [if_neg (fun z => Bool.noConfusion z.2), if_neg Bool.false_ne_true, if_neg (fun z => Bool.noConfusion z.1)]
      refine ⟨Nat.lt_of_le_of_lt over_mv ?_, over_cnts c1 (q49 rfl)⟩
      have := Nat.mul_le_mul (q49 rfl) hk
      show sumV W names rest + (vR W names (l ++ [49]) - 1) < sumV W names rest + (vR W names l - 1)
      omega
    · rw [if_neg (fun z => Bool.noConfusion z.1), if_pos rfl, if_neg (fun z => Bool.noConfusion z.2)]
      refine ⟨Nat.lt_of_le_of_lt over_mv ?_, over_cnts c1 (q48 rfl)⟩
      have := Nat.mul_le_mul (q48 rfl) hk
      show sumV W names rest + (vR W names (l ++ [48]) - 1) < sumV W names rest + (vR W names l - 1)
      omega
    · rw [if_neg (fun z => Bool.noConfusion z.1), if_pos rfl, if_pos ⟨rfl, rfl⟩]
      refine ⟨Nat.lt_of_le_of_lt over_mv ?_, over_cnts (fun g hg => ?_) (q48 rfl)⟩
      · have := Nat.mul_le_mul (q48 rfl) hk
        have := Nat.mul_le_mul (q49 rfl) hk
        show sumV W names (rest ++ [l ++ [49]]) + (vR W names (l ++ [48]) - 1) < sumV W names rest + (vR W names l - 1)
        rw [sumV_app]
        show sumV W names rest + (vR W names (l ++ [49]) + 0) + (vR W names (l ++ [48]) - 1) < sumV W names rest + (vR W names l - 1)
        omega
      · rcases List.mem_append.mp hg with z | z
        · exact c1 g z
        · rw [List.mem_singleton.mp z]
          exact q49 rfl
/-- what is said on a wire is what those that listen begin with -/
theorem step_beg {W n : Nat} {kvs : List (Str × Bool)} {lm : List Str} {sdm : Option (List Nat)} {lk : Int} {st : WkS} (h : WkOk W lm sdm st n) (hr : st.sd = none → st.rest ≠ []) (hkn : ∀ x ∈ kvs.map (·.1), Num W x) : ∀ l, (stepF W kvs lm lk st).2.2.1 = some l → l.length ≤ W ∧ ∀ x ∈ (stepF W kvs lm lk st).2.1, Beg W l x := by
  obtain ⟨kd, rest, sd, found, paper⟩ := st
  cases sd with
  | none =>
    obtain ⟨r, g, e, hg, hb⟩ := h.none_ (hr rfl)
    dsimp only at e
    subst e
    have e0 : stepF W kvs lm lk ⟨kd, r ++ [g], none, found, paper⟩ = (overF W ⟨kd, r, none, found, paper⟩ g, begF kvs kd g, some g, lk) := by
      unfold stepF
      simp
    rw [e0]
    intro l e
    cases e
    have bs := begF_sub (kvs := kvs) (kd := kd) (l := g)
    exact ⟨hg, fun x hx => beg_starts (hkn x (bs.2 x hx).1) (bs.2 x hx).2⟩
  | some l =>
    obtain ⟨_, hlt, _, hbeg⟩ := h.said l rfl
    unfold stepF
    dsimp only
    split
    · intro l' e
      cases e
      exact ⟨Nat.le_of_lt hlt, hbeg⟩
    · intro l' e
      cases e
      refine ⟨by rw [List.length_append, List.length_singleton]; omega, fun x hx => ?_⟩
      obtain ⟨x1, x2⟩ := List.mem_filter.mp hx
      exact beg_next' (hbeg x x1) x2
theorem step_sub {W : Nat} {kvs : List (Str × Bool)} {lm : List Str} {lk : Int} {st : WkS} {names : List Str} (hs : ∀ x ∈ lm, x ∈ names) (hk : ∀ x ∈ kvs.map (·.1), x ∈ names) : ∀ x ∈ (stepF W kvs lm lk st).2.1, x ∈ names := by
  obtain ⟨kd, rest, sd, found, paper⟩ := st
  cases sd with
  | none => exact fun x hx => hk x (begF_sub.2 x hx).1
  | some l =>
    unfold stepF
    dsimp only
    split
    · exact hs
    · exact fun x hx => hs x (List.mem_filter.mp hx).1
theorem step_len {W m : Nat} {kvs : List (Str × Bool)} {lm : List Str} {lk : Int} {st : WkS} (hs : lm.length ≤ m) (hk : kvs.length ≤ m) : (stepF W kvs lm lk st).2.1.length ≤ m := by
  obtain ⟨kd, rest, sd, found, paper⟩ := st
  cases sd with
  | none => exact Nat.le_trans begF_sub.1 hk
  | some l =>
    unfold stepF
    dsimp only
    split
    · exact hs
    · exact Nat.le_trans (List.length_filter_le _ _) hs
/-- a walk's state, who listens, what is said on the wire, the looks -/
abbrev Q4 := WkS × List Str × Option (List Nat) × Int
def stepQ (W : Nat) (kvs : List (Str × Bool)) (q : Q4) : Q4 := ((stepF W kvs q.2.1 q.2.2.2 q.1).1.1, (stepF W kvs q.2.1 q.2.2.2 q.1).2)
structure InvQ (names : List Str) (W : Nat) (q : Q4) (b : Nat) : Prop where
  ok : WkOk W q.2.1 q.2.2.1 q.1 b
  cn : Cnts names q.1
  sub : ∀ x ∈ q.2.1, x ∈ names
  beg : ∀ l, q.2.2.1 = some l → l.length ≤ W ∧ ∀ x ∈ q.2.1, Beg W l x
  len : q.2.1.length ≤ 41
  mz : b + meas W q.1 ≤ 20000
theorem inv_step {names : List Str} {W b : Nat} {kvs : List (Str × Bool)} {q : Q4} (h : InvQ names W q b) (hr : q.1.sd = none → q.1.rest ≠ []) (hk : kvs.length ≤ 41) (hkn : ∀ x ∈ kvs.map (·.1), x ∈ names) (hnn : ∀ x ∈ names, Num W x) : InvQ names W (stepQ W kvs q) (b + 1) ∧ mv W names (stepQ W kvs q).1 < mv W names q.1 := by
  obtain ⟨a1, a2, a3, a4, a5, a6⟩ := h
  have kn : ∀ x ∈ kvs.map (·.1), Num W x := fun x hx => hnn x (hkn x hx)
  have s1 := step_mv (kvs := kvs) (lk := q.2.2.2) a1 a2 a3 hr
  have s2 := step_meas (kvs := kvs) (lk := q.2.2.2) a1 hr
  refine ⟨⟨step_ok a1 hr (by omega) kn, s1.2, step_sub a3 hkn, step_beg a1 hr kn, step_len a5 hk, ?_⟩, s1.1⟩
  show b + 1 + meas W (stepF W kvs q.2.1 q.2.2.2 q.1).1.1 ≤ 20000
  omega
/-- some steps -/
inductive Stp (W : Nat) (kvs : List (Str × Bool)) : Q4 → Q4 → Prop where
  | refl (q : Q4) : Stp W kvs q q
  | step (q q' : Q4) : (q.1.sd = none → q.1.rest ≠ []) → Stp W kvs (stepQ W kvs q) q' → Stp W kvs q q'
theorem inv_stp {names : List Str} {W : Nat} {kvs : List (Str × Bool)} (hk : kvs.length ≤ 41) (hkn : ∀ x ∈ kvs.map (·.1), x ∈ names) (hnn : ∀ x ∈ names, Num W x) {q q' : Q4} (s : Stp W kvs q q') : ∀ {b : Nat}, InvQ names W q b → (∃ b', InvQ names W q' b') ∧ mv W names q'.1 ≤ mv W names q.1 := by
  induction s with
  | refl q => exact fun h => ⟨⟨_, h⟩, Nat.le_refl _⟩
  | step q q' hr _ ih =>
    intro b h
    have s1 := inv_step h hr hk hkn hnn
    have s2 := ih s1.1
    exact ⟨s2.1, by omega⟩
theorem round_stp {W : Nat} {kvs : List (Str × Bool)} : ∀ {n : Nat} {st : WkS} {lm : List Str} {sdm : Option (List Nat)} {lk : Int}, (st.sd = none → st.rest ≠ []) → Stp W kvs (stepQ W kvs (st, lm, sdm, lk)) ((roundF W kvs n lm lk st).1.1, (roundF W kvs n lm lk st).2)
  | 0, st, lm, sdm, lk, h => .refl _
  | n + 1, st, lm, sdm, lk, h => by
    by_cases hno : (stepF W kvs lm lk st).1.2 = .no
    · rw [round_no hno]
      obtain ⟨l', e, _⟩ := step_no hno
      have hc : (stepF W kvs lm lk st).1.1.sd = none → (stepF W kvs lm lk st).1.1.rest ≠ [] := fun z => by rw [e] at z; cases z
      exact .step _ _ hc (round_stp (sdm := (stepF W kvs lm lk st).2.2.1) hc)
    · rw [round_yes hno]
      exact .refl _
theorem all_stp {W : Nat} {kvs : List (Str × Bool)} : ∀ {n : Nat} {q : Q4}, Stp W kvs q (allF W kvs n q)
  | 0, q => .refl _
  | n + 1, q => by
    by_cases h : q.1.sd = none ∧ q.1.rest = []
    · rw [all_stop h]
      exact .refl _
    · rw [all_go h]
      exact .step _ _ (fun a b => h ⟨a, b⟩) all_stp
theorem cnt_nil {names : List Str} : cnt names [] = names.length := by
  have e : names.filter (starts []) = names := List.filter_eq_self.mpr fun x _ => decide_eq_true rfl
  unfold cnt
  rw [e]
/-- a walk begun -/
theorem inv_new {names : List Str} {W : Nat} {kd : Str} (hn : names ≠ []) (hW : W ≤ 12) (hl : names.length ≤ 41) : InvQ names W (⟨kd, [[]], none, [], []⟩, [], none, 0) 1 ∧ mv W names ⟨kd, [[]], none, [], []⟩ ≤ 533 := by
  have hp : 1 ≤ names.length := List.length_pos_iff.mpr hn
  refine ⟨⟨⟨fun g hg => ?_, fun l e => (by cases e), ⟨Nat.le_refl _, Nat.zero_le _, Nat.zero_le _⟩, Nat.zero_le _⟩, ⟨fun g hg => ?_, fun l e => (by cases e)⟩, fun x hx => absurd hx (by simp), fun l e => (by cases e), Nat.zero_le _, ?_⟩, ?_⟩
  · rw [List.mem_singleton.mp hg]
    exact ⟨Nat.zero_le _, Bits.nil⟩
  · rw [List.mem_singleton.mp hg, cnt_nil]
    exact hp
  · show 1 + (wR W [] + 0 + 0) ≤ 20000
    have : 2 ^ (W + 2) ≤ 2 ^ 14 := Nat.pow_le_pow_right (by decide) (by omega)
    have e : wR W [] = 2 ^ (W + 2) - 1 := rfl
    omega
  · show vR W names [] + 0 + 0 ≤ 533
    have e : vR W names [] = names.length * (W + 1) := by
      unfold vR
      rw [cnt_nil]
      rfl
    have := Nat.mul_le_mul hl (show W + 1 ≤ 13 by omega)
    omega
end B

set_option Elab.async false
set_option linter.all false
set_option maxRecDepth 100000
set_option maxHeartbeats 4000000
namespace B
open PySem PySem.Spec PyProof.Rows L2
open SX (S)
theorem deed_hang {kvs : List (Str × Bool)} {x : Str} {lw : List Str} (h : ¬ hasK kvs x = true) : deedW kvs "hang" x = "" ∧ deedK kvs "hang" x = putB kvs x false ∧ deedL kvs lw "hang" x = lw := by
  unfold deedW deedK deedL
  rw [if_pos rfl, if_pos rfl, if_neg h, if_neg h, if_neg (fun z => absurd z.1 (by decide +kernel))]
  exact ⟨rfl, rfl, rfl⟩
theorem deed_alarm {kvs : List (Str × Bool)} {x : Str} {lw : List Str} (h : hasK kvs x = true) : deedW kvs "alarm" x = "" ∧ deedK kvs "alarm" x = putB kvs x true ∧ deedL kvs lw "alarm" x = lw := by
  have nw : ¬ ("alarm" : Str) = "hang" := by decide +kernel
  have no : ¬ ("alarm" : Str) = "off" := by decide +kernel
  unfold deedW deedK deedL
  rw [if_neg nw, if_neg nw, if_pos h, if_pos h, if_neg no, if_neg (fun z => no z.1), decide_eq_true rfl]
  exact ⟨rfl, rfl, rfl⟩
theorem has_put {kvs : List (Str × Bool)} {x : Str} {b : Bool} : hasK (putB kvs x b) x = true := by
  rw [has_key, keys_put]
  split
  · rename_i h
    exact has_key.mp h
  · exact List.mem_append_right _ (by simp)
theorem nod_app {L G : List Addr} {H : Hp} (hL : L.Nodup) (hG : G.Nodup) (al : ∀ x ∈ L, H x ≠ none) (nn : ∀ x ∈ G, H x = none) : (L ++ G).Nodup := by
  rw [List.nodup_append]
  exact ⟨hL, hG, fun a ha c hc e => al a ha (by rw [e]; exact nn c hc)⟩
/-- a statement whose ways all lead to the same -/
theorem seq_merge {a b : TS} {D : Ends} {σ : L2.St} {H : Hp} (P : L2.St → Hp → Prop) (h1 : ∀ K : L2.St → Hp → Prop, (∀ σ' H', P σ' H' → K σ' H') → a { D with nx := K } σ H) (h2 : ∀ σ' H', P σ' H' → b D σ' H') : tSeq a b D σ H := h1 _ h2
theorem seq_merge2 {a b c : TS} {D : Ends} {σ : L2.St} {H : Hp} (P : L2.St → Hp → Prop) (h1 : ∀ K : L2.St → Hp → Prop, (∀ σ' H', P σ' H' → K σ' H') → tSeq a b { D with nx := K } σ H) (h2 : ∀ σ' H', P σ' H' → c D σ' H') : tSeq a (tSeq b c) D σ H := h1 _ h2
/-- a while whose test makes but new things: G tells whether it goes on -/
theorem while_go {α : Type} {c : TT} {tb : TS} {D : Ends} {σ : L2.St} {H : Hp} (Wd : α → Nat → L2.St → Hp → Prop) (G : α → Prop) (h0 : ∃ x m, Wd x m σ H)
    (hc : ∀ x m σ H, Wd x m σ H → ∀ K : Bool → Hp → Prop, (G x → ∀ H', Frm [] H H' → K true H') → (¬ G x → ∀ H', Frm [] H H' → K false H') → c σ H K)
    (hb : ∀ x m σ H H', Wd x m σ H → G x → Frm [] H H' → tb { D with nx := fun σ' H'' => ∃ m', m' < m ∧ ∃ x', Wd x' m' σ' H'', ct := fun σ' H'' => ∃ m', m' < m ∧ ∃ x', Wd x' m' σ' H'', bk := D.nx } σ H')
    (hd : ∀ x m σ H H', Wd x m σ H → ¬ G x → Frm [] H H' → D.nx σ H') : tWhile c tb D σ H := by
  obtain ⟨x0, m0, w0⟩ := h0
  refine ⟨fun m σ H => ∃ x, Wd x m σ H, ⟨m0, x0, w0⟩, ?_⟩
  rintro m σ H ⟨x, w⟩
  refine hc x m σ H w _ (fun g H' f => ?_) (fun g H' f => ?_)
  · rw [if_pos rfl]
    exact ⟨fun σ' H'' => ∃ m', m' < m ∧ ∃ x', Wd x' m' σ' H'', fun _ _ h => h, hb x m σ H H' w g f⟩
  · rw [if_neg Bool.false_ne_true]
    exact hd x m σ H H' w g f
theorem deed_off {kvs : List (Str × Bool)} {x : Str} {lw : List Str} (h : hasK kvs x = true) : deedW kvs "off" x = "" ∧ deedK kvs "off" x = dropB kvs x ∧ deedL kvs lw "off" x = lw.filter (fun y => decide (y ≠ x)) := by
  have nw : ¬ ("off" : Str) = "hang" := by decide +kernel
  unfold deedW deedK deedL
  rw [if_neg nw, if_neg nw, if_pos h, if_pos h, if_pos rfl, if_pos ⟨rfl, h⟩]
  exact ⟨rfl, rfl, rfl⟩
theorem inV_strs (x : Str) (xs : List Str) : inV (V.str x) (xs.map V.str) = decide (x ∈ xs) := by
  by_cases h : x ∈ xs
  · rw [decide_eq_true h]
    unfold inV
    rw [List.any_map, List.any_eq_true]
    exact ⟨x, h, by show eqV (V.str x) (V.str x) = true; simp [eqV]⟩
  · rw [decide_eq_false h]
    cases e : inV (V.str x) (xs.map V.str) with
    | false => rfl
    | true =>
      exfalso
      unfold inV at e
      rw [List.any_map, List.any_eq_true] at e
      obtain ⟨y, hy, q⟩ := e
      have q' : (y == x) = true := q
      exact h (eq_of_beq q' ▸ hy)
theorem keys_new {kvs : List (Str × Bool)} {x : Str} {b : Bool} (h : ¬ hasK kvs x = true) : (putB kvs x b).map (·.1) = kvs.map (·.1) ++ [x] := by rw [keys_put, if_neg h]
theorem keys_in {kvs : List (Str × Bool)} {x y : Str} {b : Bool} : y ∈ (putB kvs x b).map (·.1) ↔ y ∈ kvs.map (·.1) ∨ y = x := by
  rw [keys_put]
  split
  · rename_i h
    exact ⟨.inl, fun q => q.elim id fun e => by rw [e]; exact has_key.mp h⟩
  · rw [List.mem_append, List.mem_singleton]
theorem tld_dec {H : Hp} {r : Tld} {v : V} (h : TldAt H r v) : (v = V.non ↔ r = .no) := by
  cases r with
  | no => exact ⟨fun _ => rfl, fun _ => h⟩
  | lost =>
    obtain ⟨t, e, _⟩ := h
    exact ⟨fun z => (by rw [e] at z; cases z), fun z => (by cases z)⟩
  | found l =>
    obtain ⟨t, e, _⟩ := h
    exact ⟨fun z => (by rw [e] at z; cases z), fun z => (by cases z)⟩
end B

set_option Elab.async false
set_option linter.all false
set_option maxRecDepth 100000
set_option maxHeartbeats 4000000
namespace B
open PySem PySem.Spec PyProof.Rows L2
open SX (S)
/-! ### what changes is no tuple -/
def nt : HO → Bool
  | .ins _ _ _ => true
  | .dK _ => true
  | .lst _ => true
  | _ => false
def NT (T : List Addr) (H : Hp) : Prop := ∀ s ∈ T, ∃ o, H s = some o ∧ nt o = true
theorem NT.nil {H : Hp} : NT [] H := fun _ h => absurd h (by simp)
theorem NT.cons {T : List Addr} {H : Hp} {s : Addr} {o : HO} (h : H s = some o) (n : nt o = true) (t : NT T H) : NT (s :: T) H := fun c hc => by
  rcases List.mem_cons.mp hc with e | e
  · rw [e]
    exact ⟨o, h, n⟩
  · exact t c e
theorem NT.of {T : List Addr} {H : Hp} (h : NL T H) : NT T H := fun s hs => by
  obtain ⟨o, e, n⟩ := h s hs
  refine ⟨o, e, ?_⟩
  cases o <;> first | rfl | cases n
theorem NT.out {T : List Addr} {H : Hp} {p : Addr} {o : HO} (n : NT T H) (h : H p = some o) (h2 : nt o = false) : p ∉ T := fun z => by
  obtain ⟨u, e, q⟩ := n p z
  rw [h] at e
  cases e
  rw [h2] at q
  cases q
theorem nt_codeO {c : Addr} {q : Str} : nt (LamX.CodeO c q) = false := rfl
theorem Frm.toN {K : PySem.W.Frag} {T : List Addr} {H H' : Hp} (f : Frm T H H') (n : NT T H) : FrT K T H H' := by
  have kp : ∀ {p : Addr} {o : HO}, H p = some o → nt o = false → H' p = some o := fun {p o} e h => f.k p o e rfl (n.out e h)
  refine ⟨fun b o e _ hb => f.k b o e rfl hb, f.b, fun ⟨h1, h2⟩ => ⟨fun p hp => ?_, fun p hp => ?_⟩⟩
  · obtain ⟨ps, e, t⟩ := h1 p hp
    exact ⟨ps, kp e rfl, t⟩
  obtain ⟨qs, e1, t1, a1⟩ := h2 p hp
  refine ⟨qs, kp e1 rfl, t1, fun pos cv hc => ?_⟩
  obtain ⟨c, e2, e3⟩ := a1 pos cv hc
  exact ⟨c, e2, kp e3 nt_codeO⟩
theorem VkAt.keepT {K : PySem.W.Frag} {T : List Addr} {H H' : Hp} {qk pw qr qf qp : Addr} {st : WkS} (h : VkAt K H qk pw qr qf qp st) (f : FrT K T H H') (n : NT T H) (h1 : qk ∉ T) (h2 : qr ∉ T) (h3 : qf ∉ T) (h4 : qp ∉ T) : VkAt K H' qk pw qr qf qp st := by
  obtain ⟨⟨dx, o1⟩, o2, o3, ⟨ts, o4, o5, o6⟩, ne⟩ := h
  exact ⟨⟨dx, f.k _ _ o1 rfl h1⟩, f.k _ _ o2 rfl h2, f.k _ _ o3 rfl h3, ⟨ts, f.k _ _ o4 rfl h4, o5, fun i t q a b => f.k _ _ (o6 i t q a b) rfl (n.out (o6 i t q a b) rfl)⟩, ne⟩
theorem WkAt.keepT {K : PySem.W.Frag} {T : List Addr} {H H' : Hp} {pk pr pf pp : Addr} {st : WkS} (h : WkAt H pk pr pf pp st) (f : FrT K T H H') (n : NT T H) (h1 : pk ∉ T) (h2 : pr ∉ T) (h3 : pf ∉ T) (h4 : pp ∉ T) : WkAt H' pk pr pf pp st := by
  obtain ⟨o1, o2, o3, ⟨ts, o4, o5, o6⟩, ne⟩ := h
  exact ⟨f.k _ _ o1 rfl h1, f.k _ _ o2 rfl h2, f.k _ _ o3 rfl h3, ⟨ts, f.k _ _ o4 rfl h4, o5, fun i t q a b => f.k _ _ (o6 i t q a b) rfl (n.out (o6 i t q a b) rfl)⟩, ne⟩
theorem TldAt.keepT {K : PySem.W.Frag} {T : List Addr} {H H' : Hp} {r : Tld} {v : V} (h : TldAt H r v) (f : FrT K T H H') (n : NT T H) : TldAt H' r v := by
  cases r with
  | no => exact h
  | lost =>
    obtain ⟨t, e, z⟩ := h
    exact ⟨t, e, f.k _ _ z rfl (n.out z rfl)⟩
  | found l =>
    obtain ⟨t, e, z⟩ := h
    exact ⟨t, e, f.k _ _ z rfl (n.out z rfl)⟩
theorem VkOk.keepT {K : PySem.W.Frag} {H H' : Hp} {T : List Addr} {qk pw qr qf qp dh dl : Addr} {W : Nat} {kvs : List (Str × Bool)} {lm : List Str} {sdm : Option (List Nat)} {lk : Int} {st : WkS} {n : Nat} (h : VkOk K H qk pw qr qf qp dh dl W kvs lm sdm lk st n) (f : FrT K T H H') (z : NT T H) (h1 : qk ∉ T) (h2 : qr ∉ T) (h3 : qf ∉ T) (h4 : qp ∉ T) (h5 : pw ∉ T) (h6 : dh ∉ T) (h7 : dl ∉ T) : VkOk K H' qk pw qr qf qp dh dl W kvs lm sdm lk st n := by
  obtain ⟨a, ⟨lw, b1, b2⟩, c, d, e, g, i, j, o⟩ := h
  exact ⟨a.keepT f z h1 h2 h3 h4, ⟨lw, b1.keep f h5 h6 h7, b2⟩, c, d, e, g, i, j, o⟩
theorem Pool.keep {K : PySem.W.Frag} {T : List Addr} {H H' : Hp} {pn : Addr} {W : Nat} {names : List Str} (h : Pool H pn W names) (f : FrT K T H H') (n : pn ∉ T) : Pool H' pn W names :=
  ⟨f.k _ _ h.at_ rfl n, h.ne, h.len, h.num, h.w⟩
theorem txs (l : List (List Nat)) : l.map txV = (l.map S).map V.str := by
  rw [List.map_map]
  rfl
theorem eqv_txs (l : List (List Nat)) : PyData.eqv (.list ((l.map S).map .str)) (.list []) = l.isEmpty := by
  rw [eqv_empty]
  cases l <;> rfl
end B

set_option Elab.async false
set_option linter.all false
set_option maxRecDepth 100000
set_option maxHeartbeats 4000000
namespace B
open PySem PySem.Spec PyProof.Rows L2
/-! ### sets of texts that can be walked: made of a list, sorted, counted -/
/-- a table's row that holds a text -/
def TxRow (w : World) (e : Int × Value) : Prop := ∃ z t, e.2 = Value.str z t ∧ e.1 = hashStr w z
def txOf (e : Int × Value) : Str := match e.2 with
  | .str z _ => z
  | _ => Str.empty
structure STr (w : World) (h : Heap) (a : Addr) (T : Str → Bool) (n : Nat) (o : Obj) (es : Array (Int × Value)) (ep : Nat) (t : SetTable) : Prop where
  at_ : h.get? a = some o
  ex : o.ExactSet
  dt : o.data = .set es ep t
  row : ∀ e ∈ es.toList, TxRow w e
  nd : (es.toList.map txOf).Nodup
  mem : ∀ x, T x = true ↔ x ∈ es.toList.map txOf
  few : es.size < scanBound
  fit : t.fits es.size = true
  cnt : es.size = n
  ris : Ris t.place.toList
  led : w.params.followText "set-order" = true ∨ t.led = true
/-- the set of texts at a: its members, how many they are -/
def STx (w : World) (h : Heap) (a : Addr) (T : Str → Bool) (n : Nat) : Prop := ∃ o es ep t, STr w h a T n o es ep t
section
variable {P : Program} {w : World} {A : Around} {E : Value → Shared → Prop} {s : Shared} {h h' : Heap} {a : Addr} {T : Str → Bool} {n : Nat}
theorem STx.keep (R : STx w h a T n) (k : ∀ o, h.get? a = some o → h'.get? a = some o) : STx w h' a T n := by
  obtain ⟨o, es, ep, t, r⟩ := R
  exact ⟨o, es, ep, t, { r with at_ := k o r.at_ }⟩
theorem STx.like {T' : Str → Bool} {m : Nat} (R : STx w h a T n) (e : ∀ x, T' x = T x) (hm : m = n) : STx w h a T' m := by
  have q : T' = T := funext e
  rw [q, hm]
  exact R
theorem tx_elems {l : List (Int × Value)} (g : ∀ e ∈ l, TxRow w e) : ElemsOf (PySem.strKind P w) l := by
  intro e he
  obtain ⟨z, t, h1, h2⟩ := g e he
  refine ⟨⟨z, ?_, h2⟩, ?_⟩
  · rw [h1]
    exact strKind_is _ _ _ _
  · rw [h1] <;> rfl
theorem tx_is {e : Int × Value} (g : TxRow w e) (x : Str) : (PySem.strKind P w).is x e.2 = true ↔ txOf e = x := by
  obtain ⟨z, t, h1, _⟩ := g
  unfold txOf
  rw [h1]
  constructor
  · intro q
    have q' : Value.isStrOf x (.str z t) = true := q
    obtain ⟨t', q2⟩ := Value.isStrOf_shape q'
    injection q2
  · intro q
    have q' : z = x := q
    rw [q']
    exact strKind_is _ _ _ _
theorem tx_mem {l : List (Int × Value)} (g : ∀ e ∈ l, TxRow w e) (x : Str) : x ∈ l.map txOf ↔ ∃ e ∈ l, (PySem.strKind P w).is x e.2 = true := by
  rw [List.mem_map]
  exact ⟨fun ⟨e, he, q⟩ => ⟨e, he, (tx_is (g e he) x).mpr q⟩, fun ⟨e, he, q⟩ => ⟨e, he, (tx_is (g e he) x).mp q⟩⟩
theorem tx_put {h0 : Heap} {o : Obj} {es es' : Array (Int × Value)} {ep : Nat} {t t' : SetTable} (ho : h0.get? a = some o) (hd : o.data = .set es ep t) : (h0.update a (Obj.putSet es' t')).get? a = some { o with data := .set es' (ep + 1) t' } := L2.store_at ho hd
/-- the end of an add: the rows stored, the table laid anew if it is full -/
theorem stx_tail {g : Bool → Sem Unit} (hg : ∀ (b : Bool) (z : Shared) (Z : Unit → Shared → Prop), Z () z → wpAny (model P w) A (g b) Z E z) {o : Obj} {es ys : Array (Int × Value)} {ep : Nat} {t u : SetTable} {U : Str → Bool} (ho : s.heap.get? a = some o) (ex : o.ExactSet) (hd : o.data = .set es ep t)
    (g1 : ∀ e ∈ ys.toList, TxRow w e) (g2 : (ys.toList.map txOf).Nodup) (g3 : ∀ x, U x = true ↔ x ∈ ys.toList.map txOf) (g4 : ys.size < scanBound) (g5 : u.fits ys.size = true) (g6 : Ris u.place.toList) (g7 : w.params.followText "set-order" = true ∨ u.led = true) {wd : Bool} {Z : Option Bool → Shared → Prop}
    (k : ∀ h', Heap.SameBut a s.heap h' → STx w h' a U ys.size → Z (some true) { s with heap := h' }) :
    wpAny (model P w) A (do
      storeSet a ys u
      if (!wd && u.tooFull) = true then do
          g (relayAll u ys (SetTable.grown ys.size)).2.2
          storeSet a (relayAll u ys (SetTable.grown ys.size)).1 (relayAll u ys (SetTable.grown ys.size)).2.1
          pure (some true)
        else pure (some true)) Z E s := by
  have b1 := Heap.SameBut.update s.heap a (Obj.putSet ys u)
  have ho1 := tx_put (es' := ys) (t' := u) ho hd
  refine wpAny_bind (wpAny_storeSet_of ho hd ?_ (fits_of_scanBound g4))
  split
  · have y1 := relayAll_perm u ys (SetTable.grown ys.size)
    have y2 := relayAll_fits u ys (SetTable.grown ys.size)
    have y3 := L2.relayAll_ris u ys (SetTable.grown ys.size)
    have y4 := L2.relayAll_led u ys (SetTable.grown ys.size)
    generalize relayAll u ys (SetTable.grown ys.size) = N at y1 y2 y3 y4 ⊢
    obtain ⟨zs, v, gave⟩ := N
    dsimp only at y1 y2 y3 y4 ⊢
    have es2 : zs.size = ys.size := by
      have q := y1.length_eq
      rw [Array.length_toList, Array.length_toList] at q
      exact q
    have few2 : zs.size < scanBound := by omega
    refine wpAny_bind (hg _ _ _ (wpAny_bind (wpAny_storeSet_of ho1 rfl ?_ (fits_of_scanBound few2))))
    refine wpAny_pure (k _ (b1.trans (Heap.SameBut.update _ a _)) ⟨_, zs, _, v, tx_put (es' := zs) (t' := v) ho1 rfl, ex, rfl, fun e he => g1 e (y1.mem_iff.mp he), (y1.map txOf).nodup_iff.mpr g2, fun x => (g3 x).trans (y1.map txOf).mem_iff.symm, few2, y2, es2, y3, ?_⟩)
    exact g7.imp id fun q => y4.trans q
  · exact wpAny_pure (k _ b1 ⟨_, ys, _, u, ho1, ex, rfl, g1, g2, g3, g4, g5, rfl, g6, g7⟩)
theorem stx_add {x : Str} {tk : Tok} {Q : Bool → Shared → Prop} (R : STx w s.heap a T n) (room : n + 1 < scanBound) (k : ∀ h', Heap.SameBut a s.heap h' → STx w h' a (fun y => T y || decide (y = x)) (if T x = true then n else n + 1) → Q (!T x) { s with heap := h' }) :
    wpAny (model P w) A (setAddHashed a (.str x tk) ((PySem.strKind P w).hash x)) Q E s := by
  obtain ⟨o, es, ep, t, r⟩ := R
  have ix : (PySem.strKind P w).is x (.str x tk) = true := strKind_is _ _ _ _
  have sc : (Value.str x tk).scannable = true := rfl
  have el : ElemsOf (PySem.strKind P w) es.toList := tx_elems r.row
  unfold setAddHashed setAddHashedIn
  refine wpAny_holding (wpAny_bind (wpAny_setState_of r.at_ r.dt r.fit ?_))
  dsimp only
  rw [byScan_of sc r.few el]
  simp only [↓reduceIte]
  unfold setAddByScan
  refine wpAny_bind (wpAny_bind (wpAny_rule (wpAny_bind (wpAny_setScan_of ix r.at_ r.dt r.fit el ?_))))
  cases q : List.findIdx? (fun e => (PySem.strKind P w).is x e.2) es.toList with
  | some j =>
    dsimp only
    obtain ⟨hj, pj, _⟩ := List.findIdx?_eq_some_iff_getElem.mp q
    have hx : T x = true := (r.mem x).mpr ((tx_mem (P := P) r.row x).mpr ⟨_, List.getElem_mem hj, pj⟩)
    have z := k s.heap (Heap.SameBut.refl a s.heap) ⟨o, es, ep, t, { r with
      mem := fun y => by
        rw [Bool.or_eq_true, decide_eq_true_eq, ← r.mem y]
        constructor
        · rintro (c | rfl)
          · exact c
          · exact hx
        · exact Or.inl
      cnt := by rw [if_pos hx]; exact r.cnt }⟩
    rw [hx] at z
    exact wpAny_pure (wpAny_pure z)
  | none =>
    dsimp only
    have nx : x ∉ es.toList.map txOf := fun c => by
      obtain ⟨e, he, c1⟩ := (tx_mem (P := P) r.row x).mp c
      have c2 := List.findIdx?_eq_none_iff.mp q e he
      rw [c1] at c2
      cases c2
    have hx : T x = false := by
      cases c : T x with
      | false => rfl
      | true => exact absurd ((r.mem x).mp c) nx
    have gw : ∀ (b : Bool) {z : Shared} {Z : Unit → Shared → Prop}, Z () z → wpAny (model P w) A (match b with | true => rule "set.scan.the-table-gave-way" | false => pure ()) Z E z := by
      intro b z Z c
      cases b <;> first | exact wpAny_pure c | exact wpAny_rule c
    have y1 := layNew_perm t es ((PySem.strKind P w).hash x) (.str x tk)
    have y2 := layNew_fits t es ((PySem.strKind P w).hash x) (.str x tk)
    have y3 := L2.layNew_ris t es ((PySem.strKind P w).hash x) (.str x tk) r.ris
    have y4 := L2.layNew_led t es ((PySem.strKind P w).hash x) (.str x tk)
    generalize layNew t es ((PySem.strKind P w).hash x) (.str x tk) = N at y1 y2 y3 y4 ⊢
    obtain ⟨ys, u, wd, gave⟩ := N
    dsimp only at y1 y2 y3 y4 ⊢
    rw [Array.toList_push] at y1
    have pc : ys.toList.Perm (((PySem.strKind P w).hash x, Value.str x tk) :: es.toList) := y1.trans (List.perm_append_singleton _ _)
    have pk : (ys.toList.map txOf).Perm (x :: es.toList.map txOf) := pc.map txOf
    have sz : ys.size = n + 1 := by
      have c := pc.length_eq
      rw [List.length_cons, Array.length_toList, Array.length_toList, r.cnt] at c
      exact c
    have few : ys.size < scanBound := by omega
    have row : ∀ e ∈ ys.toList, TxRow w e := fun e he => by
      rcases List.mem_cons.mp (pc.mem_iff.mp he) with c | c
      · exact ⟨x, tk, by rw [c], by rw [c]; rfl⟩
      · exact r.row e c
    have nd : (ys.toList.map txOf).Nodup := pk.nodup_iff.mpr (List.nodup_cons.mpr ⟨nx, r.nd⟩)
    have mem : ∀ y, (T y || decide (y = x)) = true ↔ y ∈ ys.toList.map txOf := fun y => by
      rw [pk.mem_iff, List.mem_cons, Bool.or_eq_true, decide_eq_true_eq, r.mem y]
      exact Or.comm
    have led : w.params.followText "set-order" = true ∨ u.led = true := r.led.imp id fun c => y4.trans c
    have fin : ∀ h', Heap.SameBut a s.heap h' → STx w h' a (fun y => T y || decide (y = x)) ys.size → Q true { s with heap := h' } := fun h' sb c => by
      have z := k h' sb
      rw [hx] at z
      rw [sz] at c
      exact z c
    refine wpAny_bind (gw _ ?_)
    split
    · rw [hashByValue_scannable 8 sc]
      refine wpAny_bind (wpAny_pure ?_)
      refine stx_tail ?_ r.at_ r.ex r.dt row nd mem few ?_ ?_ ?_ ?_
      · intro b z Z c; cases b <;> first | exact wpAny_pure c | exact wpAny_rule c
      · first | (split <;> first | exact y2 | exact SetTable.fits_plain_off y2) | exact y2
      · first | (split <;> exact y3) | exact y3
      · first | (split <;> exact led) | exact led
      · intro h' sb c; dsimp only; exact wpAny_pure (fin h' sb c)
    · refine wpAny_bind (wpAny_pure ?_)
      simp only [↓reduceIte]
      refine stx_tail ?_ r.at_ r.ex r.dt row nd mem few y2 y3 led ?_
      · intro b z Z c; cases b <;> first | exact wpAny_pure c | exact wpAny_rule c
      · intro h' sb c; dsimp only; exact wpAny_pure (fin h' sb c)
theorem stx_none {o : Addr} (e : h.get? o = some { cls := .type "set", dict := none, data := .set #[] 0 (.fresh 0 0 (!w.params.followText "set-order")) }) : STx w h o (fun _ => false) 0 := by
  refine ⟨_, #[], 0, _, e, ⟨rfl, rfl, rfl⟩, rfl, fun e he => (by simp at he), (by simp), fun x => (by simp), (by decide), (by rfl), rfl, List.Pairwise.nil, ?_⟩
  show _ ∨ (!w.params.followText "set-order") = true
  cases w.params.followText "set-order" <;> simp
theorem snoc_ind {α : Type} {motive : List α → Prop} (h0 : motive []) (h1 : ∀ r x, motive r → motive (r ++ [x])) (l : List α) : motive l := by
  rw [← List.reverse_reverse l]
  induction l.reverse with
  | nil => exact h0
  | cons x r ih =>
    rw [List.reverse_cons]
    exact h1 _ _ ih
/-- the unlike ones of a list of texts, in turn -/
def dedT (xs : List Str) : List Str := xs.foldl (fun acc x => if x ∈ acc then acc else acc ++ [x]) []
theorem ded_snoc {xs : List Str} {x : Str} : dedT (xs ++ [x]) = if x ∈ dedT xs then dedT xs else dedT xs ++ [x] := by
  unfold dedT
  rw [List.foldl_append]
  rfl
theorem ded_mem (xs : List Str) (y : Str) : y ∈ dedT xs ↔ y ∈ xs := by
  induction xs using snoc_ind with
  | h0 => exact Iff.rfl
  | h1 r x ih =>
    rw [ded_snoc, List.mem_append, List.mem_singleton]
    split
    · rename_i hx
      constructor
      · exact fun q => .inl (ih.mp q)
      · rintro (q | rfl)
        · exact ih.mpr q
        · exact hx
    · rw [List.mem_append, List.mem_singleton, ih]
theorem ded_nodup (xs : List Str) : (dedT xs).Nodup := by
  induction xs using snoc_ind with
  | h0 => exact List.nodup_nil
  | h1 r x ih =>
    rw [ded_snoc]
    split
    · exact ih
    · rename_i hx
      exact nodup_snoc ih hx
theorem ded_len (xs : List Str) : (dedT xs).length ≤ xs.length := by
  induction xs using snoc_ind with
  | h0 => exact Nat.le_refl _
  | h1 r x ih =>
    rw [ded_snoc, List.length_append, List.length_singleton]
    split
    · omega
    · rw [List.length_append, List.length_singleton]
      omega
theorem ded_self {xs : List Str} (h : xs.Nodup) : dedT xs = xs := by
  induction xs using snoc_ind with
  | h0 => rfl
  | h1 r x ih =>
    rw [List.nodup_append] at h
    have hx : x ∉ r := fun z => h.2.2 x z x (by simp) rfl
    rw [ded_snoc, ih h.1, if_neg hx]
/-- all of a list put in -/
theorem stx_loop {I : Addr} {fp wr : List Addr} {G : Array GenState → Array GenState → Prop} {m : Nat} {Pv : Nat → Value → Prop} {St : Nat → Shared → Prop} {Z : Result → Shared → Prop} (W : WalksS P w A.in1 I fp wr G m Pv St) (D : Addr) (hD : D ∉ fp) (xs : List Str) (hm : m = xs.length) (few : xs.length + 1 < scanBound) (val : ∀ i v, Pv i v → ∃ z t, xs[i]? = some z ∧ v = .str z t) :
    ∀ (j i : Nat) (s : Shared), m - i = j → i ≤ m → St i s → STx w s.heap D (fun y => decide (y ∈ xs.take i)) (dedT (xs.take i)).length → (∀ s', Moved (D :: wr) G s s' → STx w s'.heap D (fun y => decide (y ∈ xs)) (dedT xs).length → Z (.ok (.ret .none)) s') →
      codeAny (model P w) A (.builtin "set.update.loop" ⟨[.ref D, .ref I], []⟩) Z s := by
  have out : D ∉ wr := fun q => hD (W.sub _ q)
  have more : ∀ b ∈ wr, b ∈ D :: wr := fun b q => List.mem_cons_of_mem _ q
  intro j
  induction j with
  | zero =>
    intro i s hj hi hst hS k
    obtain rfl : i = m := by omega
    refine codeAny_builtin PyProof.Rows.F.entry_set_update_loop ?_
    rw [Around.under_plainId PyProof.Rows.F.plain_set_update_loop _]
    show wpAny _ A.in1 (pyNext (.ref I) >>= _) _ _ s
    refine wpAny_bind (W.done s _ _ hst fun s' mv => ?_)
    show wpAny _ A.in1 (ret Value.none) _ _ s'
    rw [List.take_of_length_le (by omega)] at hS
    exact wpAny_pure (k s' (mv.mono more) (hS.keep fun o e => mv.heap D o out e))
  | succ j ih =>
    intro i s hj hi hst hS k
    refine codeAny_builtin PyProof.Rows.F.entry_set_update_loop ?_
    rw [Around.under_plainId PyProof.Rows.F.plain_set_update_loop _]
    show wpAny _ A.in1 (pyNext (.ref I) >>= _) _ _ s
    refine wpAny_bind (W.item i s _ _ (by omega) hst fun v s' hP hst' mv => ?_)
    obtain ⟨z, t, hz, rfl⟩ := val i v hP
    have hS' := hS.keep fun o e => mv.heap D o out e
    show wpAny _ A.in1 (holding [Value.str z t] (setAdd D (.str z t)) >>= _) _ _ s'
    refine wpAny_bind (wpAny_holding ?_)
    unfold setAdd
    refine wpAny_holding (wpAny_bind ((PySem.strKind P w).pyHash (k := z) (strKind_is _ _ _ _) ?_))
    have cnt := ded_len (xs.take i)
    rw [List.length_take] at cnt
    refine stx_add (s := { s' with toks := s'.toks + 1 }) hS' (by omega) fun h' sb hS2 => ?_
    have hS3 : STx w h' D (fun y => decide (y ∈ xs.take (i + 1))) (dedT (xs.take (i + 1))).length := hS2.like (fun y => by
      rw [take_snoc hz]
      simp [List.mem_append]) (by
      rw [take_snoc hz, ded_snoc]
      by_cases c : z ∈ xs.take i
      · rw [if_pos ((ded_mem _ _).mpr c), if_pos (decide_eq_true c)]
      · rw [if_neg (fun q => c ((ded_mem _ _).mp q)), if_neg (by rw [decide_eq_false c]; exact Bool.false_ne_true), List.length_append]
        rfl)
    refine wpAny_pure ⟨plainId_quiet PyProof.Rows.F.plain_set_update_loop _, ih (i + 1) _ (by omega) (by omega) (W.frame _ s' _ _ hst' (Nat.le_succ _) fun b hb o e => ?_) hS3 fun s'' mv2 hS4 => ?_⟩
    · rw [sb.2 b (fun q : b = D => hD (q ▸ hb))]
      exact e
    · refine k s'' (Moved.trans W.gtrans ((mv.mono more).then_heap (Nat.le_succ _) fun b o hb e => ?_) mv2) hS4
      rw [sb.2 b (fun q : b = D => hb (by rw [q]; exact List.mem_cons_self))]
      exact e
end
end B

set_option Elab.async false
set_option linter.all false
set_option maxRecDepth 100000
set_option maxHeartbeats 4000000
namespace B
open PySem PySem.Spec PyProof.Rows L2
section
variable {P : Program} {w : World} {A : Around} {E : Value → Shared → Prop} {s : Shared}
abbrev noneSet (w : World) : Obj := { cls := .type "set", dict := none, data := .set #[] 0 (.fresh 0 0 (!w.params.followText "set-order")) }
theorem txt_at : ∀ {us : List Value} {xs : List Str}, StrsAre us xs → ∀ (i : Nat) (v : Value), us[i]? = some v → ∃ z t, xs[i]? = some z ∧ v = .str z t
  | _, _, .nil, i, v, h => by simp at h
  | _, _, .cons z t r, 0, v, h => by
    rw [List.getElem?_cons_zero] at h
    exact ⟨z, t, rfl, (Option.some.inj h).symm⟩
  | _, _, .cons z t r, i + 1, v, h => by
    rw [List.getElem?_cons_succ] at h
    obtain ⟨y, u, h1, h2⟩ := txt_at r i v h
    exact ⟨y, u, by rw [List.getElem?_cons_succ]; exact h1, h2⟩
/-- set(list of texts) -/
theorem stx_of {l : Addr} {items : Array Value} (xs : List Str) {Q : Value → Shared → Prop} (hh : A.handled = none) (hl : s.heap.IsList l items) (hit : StrsAre items.toList xs) (few : xs.length + 1 < scanBound)
    (k : ∀ (h' : Heap) (tk : Nat), STx w h' s.heap.objs.size (fun y => decide (y ∈ xs)) (dedT xs).length → (∀ b o, s.heap.get? b = some o → h'.get? b = some o) → Q (.ref s.heap.objs.size) { s with heap := h', toks := tk }) :
    wpAny (model P w) A (call (.type "set") [.ref l]) Q E s := by
  have sz : items.size = xs.length := by
    have q := StrsAre.len_eq hit
    rw [Array.length_toList] at q
    exact q
  have made := PySem.F.called_set.made
  have sub := PySem.F.called_set.sub
  obtain ⟨c, tl, mro⟩ := PySem.F.called_set.mro
  refine wpAny_call (codeAny_of_tree ?_)
  show wpAny _ _ (callAny (.type "set") _) _ _ _
  refine wpAny_pure ⟨Code.quiet_builtin _ (by decide +kernel), codeAny_builtin PySem.F.entry_type_call ?_⟩
  rw [Around.under_plain (weight_type_call_type "set" [.ref l] []) rfl]
  have y1 := PySem.F.called_set.notType
  have y2 := PySem.F.called_set.canCreate
  have y3 := PySem.F.typeCall_set_1 (.ref l)
  repeat (any_goals (first | assumption | wp_step))
  refine codeAny_mono (L2.code_set_led1 (.ref l) (E := E) (Q₁ := fun v z => v = .ref s.heap.objs.size ∧ z = { s with heap := s.heap.push (noneSet w) }) ⟨rfl, rfl⟩) fun r z hr => ?_
  cases r with
  | error e => exact hr
  | ok fl =>
    cases fl with
    | ret v =>
      obtain ⟨rfl, rfl⟩ := hr
      have g0 : (s.heap.push (noneSet w)).get? s.heap.objs.size = some (noneSet w) := Heap.get?_push_size _ rfl
      have ty : Shared.TypeIs { s with heap := s.heap.push (noneSet w) } (.ref s.heap.objs.size) "set" := ⟨_, g0, rfl⟩
      have y4 := PySem.F.called_set.init.lookup
      have y5 := PySem.F.called_set.init.bind (.ref s.heap.objs.size)
      repeat (any_goals (first | assumption | wp_step))
      refine codeAny_mono (codeAny_call_builtin (R := wants (fun r u => r = .none ∧ ∃ h' tk, u = { s with heap := h', toks := tk } ∧ STx w h' s.heap.objs.size (fun y => decide (y ∈ xs)) (dedT xs).length ∧ ∀ b o, s.heap.get? b = some o → h'.get? b = some o) E) PySem.F.called_set.init.plain PySem.F.entry_set_init (check_set_init_1 ty ?_)) fun r2 u hr2 => ?_
      · obtain ⟨⟨ocls, odict, odata, oslots⟩, ol, hcl, nl, hdl⟩ := hl
        simp only at hcl hdl
        subst hcl hdl
        have ol2 : (s.heap.push (noneSet w)).get? l = some { cls := .type "list", dict := odict, data := .seq items nl, slots := oslots } := Heap.get?_push_of_some _ ol
        have y6 := PySem.F.sub_list_set
        have y7 := PySem.F.sub_list_frozenset
        have y8 : (Value.type "list" == Value.type "dict") = false := by decide
        have li : (s.heap.push (noneSet w)).IsList l items := ⟨_, ol2, rfl, nl, rfl⟩
        unfold Builtin.«set.__init__» noKeywords Builtin.Frozenset.updateFrom
        generalize hI : pyIter = itr
        wp_walk
        subst hI
        refine wpAny_pyIter_list li (wpAny_bind (wpAny_runValue ?_))
        have lt : l < s.heap.objs.size := Heap.lt_size ol
        have nI : l ≠ (s.heap.push (noneSet w)).objs.size := by
          rw [Heap.size_push]
          exact Nat.ne_of_lt (Nat.lt_succ_of_lt lt)
        have nS : s.heap.objs.size ∉ [(s.heap.push (noneSet w)).objs.size, l] := by
          rw [Heap.size_push, List.mem_cons, List.mem_singleton, not_or]
          exact ⟨Nat.ne_of_lt (Nat.lt_succ_self _), Nat.ne_of_gt lt⟩
        have val : ∀ (i : Nat) (v : Value), items[i]? = some v → ∃ z t, xs[i]? = some z ∧ v = .str z t := fun i v hv => by
          exact txt_at hit i v (by rw [Array.getElem?_toList]; exact hv)
        refine stx_loop ((Walks.list (show A.in1.in1.in1.handled = none by simp [hh]) _ l nI items).toS) s.heap.objs.size nS xs sz few val (items.size - 0) 0 _ (by omega) (Nat.zero_le _) ⟨⟨_, Heap.get?_push_size _ rfl, rfl, rfl⟩, (li.push _)⟩ ?first ?after
        case first => exact (stx_none (Heap.get?_push_of_some _ g0)).like (fun y => by simp) rfl
        case after =>
          intro z mv hS
          obtain ⟨h', g2, d', tk', os'⟩ := z
          obtain rfl : g2 = s.gens := mv.gens
          obtain rfl : d' = s.drawn := mv.drawn
          obtain rfl : os' = s.os := mv.os
          show wpAny _ _ _ _ _ _
          refine wpAny_pure ?_
          show wpAny _ _ (ret Value.none) _ _ _
          refine wpAny_pure ⟨rfl, h', tk', rfl, hS, fun b o e => ?_⟩
          have b0 : b < s.heap.objs.size := Heap.lt_size e
          refine mv.heap b o (fun q => ?_) (Heap.get?_push_of_some _ (Heap.get?_push_of_some _ e))
          rcases List.mem_cons.mp q with q | q
          · exact absurd b0 (by rw [q]; exact Nat.lt_irrefl _)
          · rw [List.mem_singleton, Heap.size_push] at q
            exact absurd b0 (by rw [q]; exact Nat.not_lt_of_le (Nat.le_succ _))
      · cases r2 with
        | error e => exact hr2
        | ok fl2 =>
          cases fl2 with
          | ret r =>
            obtain ⟨rfl, h', tk, rfl, hS, hk⟩ := hr2
            repeat (any_goals (first | assumption | wp_step))
            exact k _ _ hS hk
          | _ => exact hr2.elim
    | _ => exact hr.elim
theorem tx_strs : ∀ (l : List (Int × Value)), (∀ e ∈ l, TxRow w e) → StrsAre (l.map (·.2)) (l.map txOf)
  | [], _ => .nil
  | e :: r, h => by
    obtain ⟨z, t, h1, _⟩ := h e List.mem_cons_self
    have q := tx_strs r fun d hd => h d (List.mem_cons_of_mem _ hd)
    rw [List.map_cons, List.map_cons]
    have e1 : txOf e = z := by unfold txOf; rw [h1]
    rw [e1, h1]
    exact .cons z t q
def txtOf (v : Value) : Str := match v with
  | .str z _ => z
  | _ => Str.empty
theorem strs_txt : ∀ {us : List Value} {xs : List Str}, StrsAre us xs → us.map txtOf = xs
  | _, _, .nil => rfl
  | _, _, .cons z t h => by rw [List.map_cons, strs_txt h]; rfl
theorem strs_all : ∀ (us : List Value), (∀ v ∈ us, ∃ z t, v = Value.str z t) → StrsAre us (us.map txtOf)
  | [], _ => .nil
  | v :: r, h => by
    obtain ⟨z, t, rfl⟩ := h v List.mem_cons_self
    exact .cons z t (strs_all r fun u hu => h u (List.mem_cons_of_mem _ hu))
/-- sorted(set of texts) -/
theorem stx_sorted {a : Addr} {T : Str → Bool} {n : Nat} {Q : Value → Shared → Prop} (R : STx w s.heap a T n) (hh : A.handled = none)
    (k : ∀ s' p (out : Array Value) (c : Nat) (ys : List Str), (∀ b o, s.heap.get? b = some o → s'.heap.get? b = some o) → s'.gens = s.gens → s'.os = s.os → s.heap.objs.size ≤ p → s'.heap.get? p = some (seqObj "list" out c) → StrsAre out.toList ys → sortedS ys = true → ys.Nodup → (∀ y, y ∈ ys ↔ T y = true) → ys.length = n → Q (.ref p) s') :
    wpAny (model P w) A (call (.builtin "sorted") [.ref a]) Q E s := by
  obtain ⟨o, es, ep, t, r⟩ := R
  have fw := fits_of_scanBound r.few
  refine Calls.call_function_entry kind_sorted plain_sorted entry_sorted (args_sorted1 _) ?_
  unfold Builtin.«sorted»
  refine wpAny_bind (m := checkCount "sorted" 1 1 _) (wpAny_pure (wpAny_bind (L2.collect_set (A := A.in1) hh ⟨o, r.at_, r.ex.1, r.dt⟩ r.fit r.few r.ris r.led fun s1 vs k1 hz g1 o1 pm => ?_)))
  have vl : vs.length = es.size := by rw [pm.length_eq, List.length_map, Array.length_toList]
  have st := tx_strs es.toList r.row
  have sv : StrsAre vs (vs.map txtOf) := strs_all vs fun v hv => by
    obtain ⟨e, he, q⟩ := List.mem_map.mp (pm.mem_iff.mp hv)
    obtain ⟨z, t, h1, _⟩ := r.row e he
    exact ⟨z, t, by rw [← q]; exact h1⟩
  have pk : (vs.map txtOf).Perm (es.toList.map txOf) := by
    have q := pm.map txtOf
    rw [strs_txt st] at q
    exact q
  refine wpAny_bind (wpAny_newList ?_ (by rw [vl]; exact fw))
  have oL : (s1.heap.push (seqObj "list" vs.toArray 0)).get? s1.heap.objs.size = some (seqObj "list" vs.toArray 0) := Heap.get?_push_size _ rfl
  refine wpAny_bind (wpAny_holding (wpAny_call_entry slot_list_sort ⟨_, oL, rfl⟩ entry_list_sort (list_sort_treeKAny strKind_oneLt oL sv.keysOf (fun v₁ v₂ rest e => keyKind_strs (by rw [← e]; exact sv)) (by rw [vl]; exact fw) fun st' hp hs => ⟨_, rfl, ?_⟩) (args_list_sort _)))
  obtain ⟨ys, h1, h2, h3⟩ := sorted_out_str sv hp hs
  obtain ⟨c, hc⟩ := sortedHeap_at (vs := vs) (out := (arrOf st').map (·.2)) oL
  have py := h2.trans pk
  refine wpAny_pure ⟨_, rfl, k _ s1.heap.objs.size _ c ys (fun b u e => ?_) g1 o1 hz hc h1 h3 (py.nodup_iff.mpr r.nd) (fun y => by rw [py.mem_iff, ← r.mem y]) ?_⟩
  · have q := k1 b u e
    have lt := Heap.lt_size q
    show (sortedHeap (s1.heap.push (seqObj "list" vs.toArray 0)) s1.heap.objs.size vs _).get? b = some u
    rw [sortedHeap_old (Nat.ne_of_lt lt) (by rw [size_push']; exact Nat.lt_succ_of_lt lt)]
    exact Heap.get?_push_of_some _ q
  · rw [py.length_eq, List.length_map, Array.length_toList]
    exact r.cnt
end
/-! ### over the layer -/
def StxO (w : World) (a : Addr) (T : Str → Bool) (n : Nat) : HO := .ext fun h => STx w h a T n
theorem stxO_ok {w : World} {P : Program} {H : Hp} {h : Heap} {a : Addr} {T : Str → Bool} {n : Nat} (R : STx w h a T n) : ObjOk P w H h a (StxO w a T n) := by
  have ⟨o, _, _, _, r⟩ := R
  exact ⟨R, ⟨o, r.at_⟩, fun h1 h2 p k => STx.keep p k⟩
section
variable {X : Cx}
def rSetTx (K : PySem.W.Frag) (w : World) : List V → Hp → VK → Prop := fun xs H Q => ∃ (l : Addr) (zs : List Str), xs = [V.ref l] ∧ SqL K H l (zs.map V.str) ∧ zs.length + 1 < scanBound ∧ ∀ a, H a = none → Q (.ref a) (upd H a (StxO w a (fun y => decide (y ∈ zs)) (dedT zs).length))
theorem cr_setTx (hc : X.calm = true) : CallR X (.type "set") (rSetTx X.K X.w) := by
  intro pins s σ H xs us Q I r h
  obtain ⟨l, zs, rfl, hl, hf, q⟩ := h
  rw [Vals.ref1 r]
  obtain ⟨its, rv, pl, hz⟩ := I.list hl
  have hn : H s.heap.objs.size = none := I.hok.fresh (Nat.le_refl _)
  refine stx_of (P := X.prog) (w := X.w) zs (I.ok.hd hc) pl.isList (by simpa using rv.strs) hf fun h' tk R k => ?_
  exact ⟨.ref s.heap.objs.size, upd H s.heap.objs.size (StxO X.w s.heap.objs.size (fun y => decide (y ∈ zs)) (dedT zs).length), I.laid (t' := tk) k (Nat.le_refl _) (stxO_ok R), rfl, q _ hn⟩
def rSortedTx (w : World) : List V → Hp → VK → Prop := fun vs H Q => ∃ (a : Addr) (T : Str → Bool) (n : Nat), vs = [V.ref a] ∧ H a = some (StxO w a T n) ∧
  ∀ (ys : List Str) (p : Addr), sortedS ys = true → ys.Nodup → (∀ y, y ∈ ys ↔ T y = true) → ys.length = n → H p = none → Q (.ref p) (upd H p (.lst (ys.map V.str)))
theorem cr_sortedTx (hc : X.calm = true) : CallR X (.builtin "sorted") (rSortedTx X.w) := by
  intro pins s σ H vs us Q I r h
  obtain ⟨a, T, n, rfl, ha, q⟩ := h
  have R : STx X.w s.heap a T n := (I.hok a _ ha).1
  rw [Vals.ref1 r]
  obtain ⟨o0, es0, ep0, t0, r0⟩ := id R
  have fw := fits_of_scanBound r0.few
  refine stx_sorted R (I.ok.hd hc) fun s' p out c ys k g o hp hg hi hs hn hm hl => ?_
  have len : (ys.map V.str).length ≤ sizeLine := by
    rw [List.length_map, hl, ← r0.cnt]
    exact fw
  have fresh : H p = none := I.hok.fresh hp
  have J : Inv X pins σ (upd H p (.lst (ys.map V.str))) { s with heap := s'.heap, gens := s'.gens, drawn := s'.drawn, toks := s'.toks } :=
    I.call (ch := []) (Un.laid k hp fresh) (I.hok.laid k hp ⟨len, out.toList, c, vals_of_strs hi, hg⟩) (by rw [g]; exact I.bare) (fun _ z => nomatch z)
  have e : s' = { s with heap := s'.heap, gens := s'.gens, drawn := s'.drawn, toks := s'.toks } := by
    cases s'
    cases s
    cases o
    rfl
  rw [e]
  exact ⟨.ref p, _, J, rfl, q ys p hs hn hm hl fresh⟩
def rLenTx (w : World) : List V → Hp → VK → Prop := fun vs H Q => ∃ (a : Addr) (T : Str → Bool) (n : Nat), vs = [V.ref a] ∧ H a = some (StxO w a T n) ∧ Q (.int (n : Nat)) H
theorem call_lenTx : CallR X (.builtin "len") (rLenTx X.w) := by
  intro pins s σ H vs us Q I r h
  obtain ⟨a, T, n, rfl, ha, q⟩ := h
  obtain ⟨o, es, ep, t, r0⟩ := (show STx X.w s.heap a T n from (I.hok a _ ha).1)
  rw [Vals.ref1 r]
  have fw := fits_of_scanBound r0.few
  rw [sizeLine_eq] at fw
  refine PySem.call_len_set r0.at_ r0.ex r0.dt r0.fit (by omega) ?_
  rw [r0.cnt]
  exact ⟨.int ((n : Nat) : Int), H, I.tok _, ⟨_, rfl⟩, q⟩
end
end B

set_option Elab.async false
set_option linter.all false
set_option maxRecDepth 100000
set_option maxHeartbeats 4000000
namespace B
open PySem PySem.Spec PyProof.Rows L2
/-! ### a set of texts of two clauses without tests -/
abbrev SC2 (e t0 i0 t1 i1 : Expr) (sc : Scope) (po : Pos) : Expr := .SetComp e [⟨t0, i0, [], 0⟩, ⟨t1, i1, [], 0⟩] sc po
section
variable {P : Program} {w : World} {A : Around} {E : Value → Shared → Prop} {s : Shared} {a : Addr} {T : Str → Bool} {n : Nat}
theorem stx_call {x : Str} {tk : Tok} {Q : Value → Shared → Prop} (R : STx w s.heap a T n) (room : n + 1 < scanBound) (k : ∀ h', Heap.SameBut a s.heap h' → STx w h' a (fun y => T y || decide (y = x)) (if T x = true then n else n + 1) → Q .none { s with heap := h', toks := s.toks + 1 }) :
    wpAny (model P w) A (call (.builtin "set.add") [.ref a, .str x tk]) Q E s := by
  obtain ⟨o, es, ep, t, r⟩ := id R
  refine wpAny_call_entry PySem.F.slot_set_add ⟨o, r.at_, r.ex.1⟩ PySem.F.entry_set_add ?_ (PySem.F.args_set_add_2 _ _)
  unfold Builtin.«set.add» Builtin.Frozenset.oneOther Builtin.Frozenset.addrOf setAdd
  simp only [List.isEmpty_nil, bind_assoc]
  refine wpAny_bind (wpAny_pure ?_)
  refine wpAny_bind (wpAny_pure (wpAny_bind (wpAny_holding (wpAny_bind ((PySem.strKind P w).pyHash (k := x) (strKind_is _ _ _ _) ?_)))))
  exact stx_add (s := { s with toks := s.toks + 1 }) R room fun h' sb z => wpAny_pure ⟨_, rfl, k h' sb z⟩
theorem turn_first (e t0 i0 t1 i1 : Expr) (sc : Scope) (po : Pos) (I D : Value) (en : Env) :
    compTurn (SC2 e t0 i0 t1 i1 sc po) 0 I D en = (do
      standAt i0.pos
      match ← pyNext I with
      | none => pure (.done .next)
      | some v => do
        letOwnedTupleGo t0 I v
        assign t0 en v
        let x ← eval i1 en
        standAt i1.pos
        let y ← foldedSetIterable i1 en x
        let _ ← runOwn (.compStart (SC2 e t0 i0 t1 i1 sc po) 1 (← holding [y] (pyIter y)) D en) en
        again (.compLoop (SC2 e t0 i0 t1 i1 sc po) 0 I D en)) := by rfl
theorem turn_second (e t0 i0 t1 i1 : Expr) (sc : Scope) (po : Pos) (I D : Value) (en : Env) :
    compTurn (SC2 e t0 i0 t1 i1 sc po) 1 I D en = (do
      standAt i1.pos
      match ← pyNext I with
      | none => pure (.done .next)
      | some v => do
        letOwnedTupleGo t1 I v
        assign t1 en v
        (do let y ← eval e en; standAt e.pos; let _ ← call (.builtin "set.add") [D, y])
        again (.compLoop (SC2 e t0 i0 t1 i1 sc po) 1 I D en)) := by rfl
end
theorem st2_start {e t0 i0 t1 i1 : Expr} {sc : Scope} {po : Pos} {I D : Value} {en : Env} {P : Program} {w : World} {A : Around} {R : Result → Shared → Prop} {s : Shared} (go : codeAny (model P w) A (.compLoop (SC2 e t0 i0 t1 i1 sc po) 1 I D en) R s)
    (it : wpAny (model P w) A (pyIter I) (fun J s' => codeAny (model P w) A (.compLoop (SC2 e t0 i0 t1 i1 sc po) 1 J D en) R s') (notedBy (model P w) A en fun x s' => R (.error x) s') s) :
    codeAny (model P w) A (.compStart (SC2 e t0 i0 t1 i1 sc po) 1 I D en) R s := by
  refine codeAny_of_tree ?_
  show wpAny _ _ ((compStart (SC2 e t0 i0 t1 i1 sc po) 1 I D en).onRaise (fun x => do noteFrame x en; standAt theWindowsPlace)) _ _ s
  refine wpAny_notedAt ?_
  unfold compStart; show wpAny _ _ (ask >>= _) _ _ s
  refine wpAny_bind (wpAny_askSetting (wpAny_ite ?_))
  split
  · first | exact wpAny_bind (wpAny_pure (wpAny_pure (And.intro rfl go))) | exact wpAny_pure (And.intro rfl go)
  · refine wpAny_bind (wpAny_rule ?_)
    show wpAny _ _ (standAt i1.pos >>= _) _ _ s
    exact wpAny_bind (wpAny_standAt (wpAny_bind (wpAny_mono it (fun J s' h' => wpAny_pure (And.intro rfl h')) fun _ _ x => x)))
/-- what it comes to: D the new set, Nx the first loop's next turn, Ny the second's -/
def tSt2 (w : World) (wa : TI) (ga : TG) (wb : TI) (gb : TG) (te : TE) (va vb : List Nat) : TE := fun σ H Q => wa σ H fun J H1 => ∀ D, H1 D = none → ∃ W : Nat → Nat → Hp → Prop, (∃ m, W 0 m (upd H1 D (StxO w D (fun _ => false) 0))) ∧ ∀ i m H, W i m H →
  (J.stop i H ∧ Q (.ref D) H) ∨ (J.go i H ∧ ∃ Nx : Hp → Prop, (∀ H', Nx H' → ∃ m', m' < m ∧ W (i + 1) m' H') ∧ ∀ x H', J.yld i H x H' → ga x (wipe σ va) H' fun τ H2 => wipe τ va = wipe σ va ∧ wb τ H2 fun L H4 => ∃ U : Nat → Nat → Hp → Prop, (∃ m, U 0 m H4) ∧ ∀ j k H, U j k H →
    (L.stop j H ∧ Nx H) ∨ (L.go j H ∧ ∃ Ny : Hp → Prop, (∀ H', Ny H' → ∃ k', k' < k ∧ U (j + 1) k' H') ∧ ∀ x H', L.yld j H x H' → gb x (wipe τ vb) H' fun υ H5 => wipe υ vb = wipe τ vb ∧ te υ H5 fun y H7 =>
      ∃ (z : Str) (T : Str → Bool) (n : Nat), y = .str z ∧ H7 D = some (StxO w D T n) ∧ n + 1 < scanBound ∧ Ny (upd H7 D (StxO w D (fun y => T y || decide (y = z)) (if T z = true then n else n + 1)))))
section
variable {X : Cx}
/-- one text more, over the layer -/
theorem stx_put {pins : List (Addr × Obj)} {σ : L2.St} {H : Hp} {s : Shared} {E : Value → Shared → Prop} {D : Addr} {T : Str → Bool} {n : Nat} {x : Str} {v : Value} {Q : Value → Shared → Prop} (I : Inv X pins σ H s) (e : H D = some (StxO X.w D T n)) (room : n + 1 < scanBound) (rv : RelV (.str x) v)
    (k : ∀ s', Inv X pins σ (upd H D (StxO X.w D (fun y => T y || decide (y = x)) (if T x = true then n else n + 1))) s' → Q .none s') : wpAny (model X.prog X.w) X.A (call (.builtin "set.add") [.ref D, v]) Q E s := by
  obtain ⟨tk, rfl⟩ := rv
  refine stx_call (I.hok D _ e).1 room fun h' sb z => k _ ?_
  have ⟨o, _, _, _, r⟩ := id z
  exact I.write (e := D) (t' := s.toks + 1) (by rw [e]; trivial) (.inl rfl) (fun b u hb hu => (sb.2 b hb).trans hu) ⟨o, r.at_⟩ (stxO_ok z)
abbrev InBlk (X : Cx) (sc : Scope) (own : List (Str × Nat)) (p : Cx → Prop) : Prop := ∀ (s : Shared) (H : Hp) (C : Addr) (cl : List (Str × Addr)) (fp : List Addr), p (X.blk s H sc (compEnvC sc cl C X.env) fp)
theorem pe_st2 {e t0 i0 t1 i1 : Expr} {sc : Scope} {own : List (Str × Nat)} {vb : List Nat} {po : Pos} {wa wb : TI} {ga gb : TG} {te : TE} (calm : X.calm = true) (nn : X.N.Nodup) (p0 : PI X t0 i0 wa) (ok : BlkOk X.N X.env.scope sc own) (sub : ∀ i ∈ vb, i ∈ own.map (·.2))
    (q0 : InBlk X sc own fun Y => PG Y t0 ga) (p1 : InBlk X sc own fun Y => PI Y t1 i1 wb) (q1 : InBlk X sc own fun Y => PG Y t1 gb) (pv : InBlk X sc own fun Y => PE Y e te) (f0 : ∀ x, foldedSetIterable i0 X.env x = pure x := by intro _; rfl) (f1 : ∀ en x, foldedSetIterable i1 en x = pure x := by intro _ _; rfl) :
    PE X (SC2 e t0 i0 t1 i1 sc po) (tSt2 X.w wa ga wb gb te (own.map (·.2)) vb) := by
  refine ⟨fun pins s σ H Q I h => ?_⟩
  rw [show eval (SC2 e t0 i0 t1 i1 sc po) X.env = _ from PpSet.eval_SetComp _ _ _ _]
  have fr : ∀ y ∈ sc.names, y.2 = .free → ∃ c, X.env.cells.lookup y.1 = some c := fun y hy z => (ok.free y hy z).elim (fun k => I.ok.has _ (.inl k)) fun k => I.ok.has _ (.inr k)
  refine wpAny_comprehension_free (use := none) rfl f0 (closure_ok fr) ok.kind (fun y hy z => by rw [ok.uniq y hy, z]) (thn (p0.run pins s σ H _ I h) fun x1 s1 h1 => thn h1 fun x2 s2 h2 => ?_)
  obtain ⟨it, fp, tn, J, H2, rfl, I2, TR, st2, fo, q⟩ := h2
  refine PpSet.newSet_ok (newEnv_comp ?_)
  generalize hD : s2.heap.objs.size = D
  have dn : H2 D = none := I2.hok.fresh (Nat.le_of_eq hD)
  obtain ⟨W, ⟨m0, w0⟩, turn⟩ := q D dn
  generalize hs3 : ({ s2 with heap := s2.heap.push (noneSet X.w) } : Shared) = s3
  have e3 : s3.heap = s2.heap.push (noneSet X.w) := by rw [← hs3]
  generalize hH3 : upd H2 D (StxO X.w D (fun _ => false) 0) = H3 at w0
  have I3 : Inv X pins σ H3 s3 := by
    rw [← hs3, ← hH3]
    refine I2.laid (t' := s2.toks) (fun b o z => Heap.get?_push_of_some _ z) (Nat.le_of_eq hD) (stxO_ok (stx_none ?_))
    exact hD ▸ Heap.get?_push_size _ rfl
  have lt : ∀ b ∈ fp, b < s2.heap.objs.size := fun b hb => let ⟨o, z, _⟩ := TR.obj _ _ st2 b hb; Heap.lt_size z
  have f3 : ∀ b ∈ fp, FpOk X pins H3 b ∧ b < s3.heap.objs.size := fun b hb => ⟨⟨by rw [← hH3, upd_ne (by rw [← hD]; exact Nat.ne_of_lt (lt b hb))]; exact (fo b hb).1, (fo b hb).2⟩, by rw [e3, Heap.size_push]; exact Nat.lt_succ_of_lt (lt b hb)⟩
  have st3 : tn 0 s3.heap := TR.keep _ _ _ st2 fun b _ o z => by rw [e3, Heap.get?_push_of_some _ z]
  have I4 := block_start I3 ok nn f3
  have b0 := q0 s3 H3 s3.heap.objs.size (cellsFrom (s3.heap.objs.size + 1) sc.names (cloFrom X.env.cells sc.names [])) fp
  have b1 := p1 s3 H3 s3.heap.objs.size (cellsFrom (s3.heap.objs.size + 1) sc.names (cloFrom X.env.cells sc.names [])) fp
  have b2 := q1 s3 H3 s3.heap.objs.size (cellsFrom (s3.heap.objs.size + 1) sc.names (cloFrom X.env.cells sc.names [])) fp
  have b3 := pv s3 H3 s3.heap.objs.size (cellsFrom (s3.heap.objs.size + 1) sc.names (cloFrom X.env.cells sc.names [])) fp
  show codeAny _ _ (.compStart (SC2 e t0 i0 t1 i1 sc po) 0 (.ref it) (.ref D) (compEnvC sc (cellsFrom (s3.heap.objs.size + 1) sc.names (cloFrom X.env.cells sc.names [])) s3.heap.objs.size X.env)) (compPost (model X.prog X.w) X.A X.xe none _ (.ref D) s3.heap.objs.size) { s3 with heap := pushCells (s3.heap.push { cls := .type "dict", data := .dict #[] }) sc.names }
  have nf : ∀ b ∈ fp, H3 b = none := fun b hb => (f3 b hb).1.1
  generalize hce : compEnvC sc (cellsFrom (s3.heap.objs.size + 1) sc.names (cloFrom X.env.cells sc.names [])) s3.heap.objs.size X.env = ce at I4 b0 b1 b2 b3 ⊢
  have ec : ce.locals = s3.heap.objs.size := by rw [← hce]; rfl
  generalize hs4 : ({ s3 with heap := pushCells (s3.heap.push { cls := .type "dict", data := .dict #[] }) sc.names } : Shared) = s4 at I4 ⊢
  have st4 : tn 0 s4.heap := TR.keep _ _ _ st3 fun b _ o z => by rw [← hs4]; exact pushCells_keeps _ _ _ _ (Heap.get?_push_of_some _ z)
  have own0 : ∀ {τ : L2.St} {H' : Hp} {s' : Shared}, Inv (X.blk s3 H3 sc ce fp) [] τ H' s' → (∀ b ∈ fp, H' b = none) → ∀ b ∈ fp, FpOk (X.blk s3 H3 sc ce fp) [] H' b := fun {τ H' s'} I' hn b hb =>
    ⟨hn b hb, (I'.ok.exf b hb).1, I'.ok.exfs b hb, .inl hb, fun x c z => (I'.ok.exf b hb).2 x c z, fun p hp => absurd (show p ∈ ([] : List (Addr × Obj)) ++ [] from hp) (by simp)⟩
  generalize hR : compPost (model X.prog X.w) X.A X.xe none _ (.ref D) s3.heap.objs.size = R
  have loop : codeAny (model X.prog X.w) X.A (.compLoop (SC2 e t0 i0 t1 i1 sc po) 0 (.ref it) (.ref D) ce) R s4 := by
    refine codeAny_loop rfl (fun n s' => ∃ i H', Inv (X.blk s3 H3 sc ce fp) [] (wipe σ (own.map (·.2))) H' s' ∧ tn i s'.heap ∧ (∀ b ∈ fp, H' b = none) ∧ W i n H') ?_ m0 ⟨0, H3, I4, st4, nf, w0⟩
    rintro n s5 ⟨i, H5, I5, st5, n5, w5⟩
    show wpAny _ X.A ((compTurn (SC2 e t0 i0 t1 i1 sc po) 0 (.ref it) (.ref D) ce).onRaise (fun x => do noteFrame x ce; theTreesLotGoes x)) _ _ s5
    rw [turn_first]
    refine wpAny_noted (wpAny_bind (wpAny_standAt (wpAny_bind ?_)))
    rcases turn i n H5 w5 with ⟨stop, qq⟩ | ⟨go, Nx, hNx, step⟩
    · refine thnF (TR.done (X.blk s3 H3 sc ce fp) rfl rfl rfl calm i [] s5 _ H5 (fun _ _ => False) I5 (own0 I5 n5) st5 stop) fun r s6 ⟨hr, I6⟩ => ?_
      subst hr
      rw [← hR]
      have I7 : Inv X pins σ H5 s6 := I3.call' (ch := fp) I6.os I6.base I6.hok I6.bare fun b hb => let z := (f3 b hb).1; ⟨z.2.2.2.1, z.2.1, z.2.2.2.2.1, z.2.2.2.2.2⟩
      have fr0 : H5 ce.locals = none := I6.free
      rw [ec] at fr0
      obtain ⟨m, hm, _⟩ := I6.loc
      have hm : s6.heap.Ns ce.locals m := hm
      rw [ec] at hm
      obtain ⟨c0, c1, c2, c3, c4, c5⟩ := I3.fpOk (Nat.le_refl _) fr0
      refine wpAny_pure ⟨m, hm, fun h'' sb => ?_⟩
      exact ⟨.ref D, H5, I7.turned (t' := s6.toks) (fun b o hb z => (sb.2 b hb).trans z) c0 c1 c3 c4 c5, rfl, qq⟩
    · refine thnF (TR.item (X.blk s3 H3 sc ce fp) rfl rfl rfl calm i [] s5 _ H5 (fun _ _ => False) I5 (own0 I5 n5) st5 go) fun r s6 ⟨u, hr, h6⟩ => ?_
      subst hr
      refine wpAny_bind (thnF h6 fun _ s7 ⟨x, H7, I7, r7, y7, st7, n7⟩ => ?_)
      have I8 := I7.pinned (own0 I7 n7) (TR.obj _ _ st7)
      refine wpAny_bind (thnF (b0.run _ s7 _ H7 x u _ I8 r7 (step x H7 y7)) fun _ s8 ⟨τ, H8, I9, hw, g8⟩ => ?_)
      have len8 : (wipe σ (own.map (·.2))).length = τ.length := by rw [← hw, wipe_length]
      refine wpAny_bind (thnF (b1.run _ s8 τ H8 _ I9 g8) fun xv s10 hx => ?_)
      refine wpAny_bind (wpAny_standAt (wpAny_bind (wpAny_of_eq (f1 ce xv) (wpAny_bind (wpAny_holding (thnF hx fun itv s11 h11 => ?_))))))
      refine wpAny_bind (wpAny_runOwn ?_)
      rw [Around.mark_none]
      obtain ⟨jt, fq, tm, L, H11, rfl, I11, TL, st11, fo1, U, ⟨k0, u0⟩, turn1⟩ := h11
      have keep9 : ∀ (j : Nat) v, (wipe σ (own.map (·.2)))[j]? = some (some v) → (wipe τ vb)[j]? = some (some v) := fun j v z => by
        rw [← hw] at z
        obtain ⟨z1, z2⟩ := wipe_some z
        rw [wipe_out fun y => z2 (sub j y)]
        exact z1
      have own1 : ∀ {H' : Hp}, (∀ b ∈ fq, H' b = none) → ∀ b ∈ fq, FpOk (X.blk s3 H3 sc ce fp) ([] ++ pinsAt fp s7.heap) H' b := fun hn b hb => ⟨hn b hb, (fo1 b hb).2⟩
      have mid : codeAny (model X.prog X.w) X.A (.compLoop (SC2 e t0 i0 t1 i1 sc po) 1 (.ref jt) (.ref D) ce) (fun r s' => match r with
          | .ok _ => ∃ m, m < n ∧ ∃ i H', Inv (X.blk s3 H3 sc ce fp) [] (wipe σ (own.map (·.2))) H' s' ∧ tn i s'.heap ∧ (∀ b ∈ fp, H' b = none) ∧ W i m H'
          | .error _ => False) s11 := by
        refine codeAny_loop rfl (fun k s' => ∃ j H', Inv (X.blk s3 H3 sc ce fp) ([] ++ pinsAt fp s7.heap) (wipe τ vb) H' s' ∧ tm j s'.heap ∧ (∀ b ∈ fq, H' b = none) ∧ U j k H') ?_ k0 ⟨0, H11, I11.weak (wipe_length _ _) (fun j v z => (wipe_some z).1), st11, fun b hb => (fo1 b hb).1, u0⟩
        rintro k s12 ⟨j, H12, I12, st12, n12, u12⟩
        show wpAny _ X.A ((compTurn (SC2 e t0 i0 t1 i1 sc po) 1 (.ref jt) (.ref D) ce).onRaise (fun x => do noteFrame x ce; theTreesLotGoes x)) _ _ s12
        rw [turn_second]
        refine wpAny_noted (wpAny_bind (wpAny_standAt (wpAny_bind ?_)))
        rcases turn1 j k H12 u12 with ⟨stop1, nx⟩ | ⟨go1, Ny, hNy, step1⟩
        · refine thnF (TL.done (X.blk s3 H3 sc ce fp) rfl rfl rfl calm j _ s12 (wipe τ vb) H12 (fun _ _ => False) I12 (own1 n12) st12 stop1) fun r s13 ⟨hr, I13⟩ => ?_
          subst hr
          obtain ⟨m', lm, w'⟩ := hNx _ nx
          have pins' : ∀ b ∈ fp, ∀ o, s7.heap.get? b = some o → s13.heap.get? b = some o ∧ H12 b = none := fun b hb o z => let y := I13.pin (b, o) (List.mem_append_right _ (List.mem_append_right _ (mem_pinsAt hb z))); ⟨y.1, y.2.1⟩
          refine wpAny_pure ⟨m', lm, i + 1, H12, (I13.unpinned (pins := [])).weak (len8.trans (wipe_length τ vb).symm) keep9, TR.keep _ _ _ st7 fun b hb o z => (pins' b hb o z).1, fun b hb => ?_, w'⟩
          exact let ⟨o, z, _⟩ := TR.obj _ _ st7 b hb; (pins' b hb o z).2
        · refine thnF (TL.item (X.blk s3 H3 sc ce fp) rfl rfl rfl calm j _ s12 (wipe τ vb) H12 (fun _ _ => False) I12 (own1 n12) st12 go1) fun r s13 ⟨u1, hr, h13⟩ => ?_
          subst hr
          refine wpAny_bind (thnF h13 fun _ s14 ⟨x1, H14, I14, r14, y14, st14, n14⟩ => ?_)
          have I15 := I14.pinned (own1 n14) (TL.obj _ _ st14)
          refine wpAny_bind (thnF (b2.run _ s14 (wipe τ vb) H14 x1 u1 _ I15 r14 (step1 x1 H14 y14)) fun _ s15 ⟨υ, H15, I16, hw1, g15⟩ => ?_)
          refine wpAny_bind (wpAny_bind (thnF (b3.run _ s15 υ H15 _ I16 g15) fun z s17 ⟨yv, H17, I17, r17, zx, T, nT, ey, d17, room, nx⟩ => ?_))
          subst ey
          refine wpAny_bind (wpAny_standAt (wpAny_bind (stx_put (X := X.blk s3 H3 sc ce fp) I17 d17 room r17 fun s18 I18 => ?_)))
          obtain ⟨k', lk, u'⟩ := hNy _ nx
          have pins' : ∀ b ∈ fq, ∀ o, s14.heap.get? b = some o → s18.heap.get? b = some o ∧ _ := fun b hb o z => let y := I18.pin (b, o) (List.mem_append_right _ (List.mem_append_right _ (mem_pinsAt hb z))); ⟨y.1, y.2.1⟩
          refine wpAny_pure (wpAny_pure ⟨rfl, k', lk, j + 1, _, I18.unpinned.weak (by rw [← hw1, wipe_length]) (fun j v z => (wipe_some (hw1.symm ▸ z)).1), TL.keep _ _ _ st14 fun b hb o z => (pins' b hb o z).1, fun b hb => ?_, u'⟩)
          exact let ⟨o, z, _⟩ := TL.obj _ _ st14 b hb; (pins' b hb o z).2
      refine codeAny_mono (st2_start mid (TL.self X.A 0 _ _ _ st11 mid)) fun r s' hr => ?_
      cases r with
      | ok f => exact wpAny_bind (wpAny_pure (wpAny_pure ⟨rfl, hr⟩))
      | error z => exact hr.elim
  exact PpSet.codeAny_compStart_set loop (TR.self X.A 0 _ _ _ st4 loop)
end
/-- a walk over a list told by what holds at its turns; B: what a turn comes to -/
theorem walk_lst {K : PySem.W.Frag} {a : Addr} {xs : List V} {H0 : Hp} {Qd : Hp → Prop} {B : V → Hp → (Hp → Prop) → Prop} (Pv : Nat → Hp → Prop) (h0 : Pv 0 H0) (hl : ∀ i H, i ≤ xs.length → Pv i H → SqL K H a xs) (hs : ∀ i x H, xs[i]? = some x → Pv i H → B x H (Pv (i + 1))) (hd : ∀ H, Pv xs.length H → Qd H) :
    ∃ W : Nat → Nat → Hp → Prop, (∃ m, W 0 m H0) ∧ ∀ i m H, W i m H → ((Itl K a).stop i H ∧ Qd H) ∨ ((Itl K a).go i H ∧ ∃ Nx : Hp → Prop, (∀ H', Nx H' → ∃ m', m' < m ∧ W (i + 1) m' H') ∧ ∀ x H', (Itl K a).yld i H x H' → B x H' Nx) := by
  refine ⟨fun i m H => i + m = xs.length ∧ Pv i H, ⟨xs.length, by omega, h0⟩, fun i m H h => ?_⟩
  obtain ⟨e, p⟩ := h
  cases hx : xs[i]? with
  | none => exact .inl ⟨⟨xs, hl i H (by omega) p, List.getElem?_eq_none_iff.mp hx⟩, hd H (by rw [show xs.length = i by have := List.getElem?_eq_none_iff.mp hx; omega]; exact p)⟩
  | some x =>
    have lt := (List.getElem?_eq_some_iff.mp hx).1
    refine .inr ⟨⟨xs, x, hl i H (by omega) p, hx⟩, Pv (i + 1), fun H' p' => ⟨m - 1, by omega, by omega, p'⟩, fun y H' z => ?_⟩
    obtain ⟨rfl, z⟩ := z
    exact hs i y _ (z xs (hl i _ (by omega) p)) p
theorem walk_rng {lo : Int} {n : Nat} {H0 : Hp} {Qd : Hp → Prop} {B : V → Hp → (Hp → Prop) → Prop} (Pv : Nat → Hp → Prop) (h0 : Pv 0 H0) (hs : ∀ i H, i < n → Pv i H → B (.int (lo + i)) H (Pv (i + 1))) (hd : ∀ H, Pv n H → Qd H) :
    ∃ W : Nat → Nat → Hp → Prop, (∃ m, W 0 m H0) ∧ ∀ i m H, W i m H → ((Itr lo n).stop i H ∧ Qd H) ∨ ((Itr lo n).go i H ∧ ∃ Nx : Hp → Prop, (∀ H', Nx H' → ∃ m', m' < m ∧ W (i + 1) m' H') ∧ ∀ x H', (Itr lo n).yld i H x H' → B x H' Nx) := by
  refine ⟨fun i m H => i + m = n ∧ Pv i H, ⟨n, by omega, h0⟩, fun i m H h => ?_⟩
  obtain ⟨e, p⟩ := h
  by_cases lt : i < n
  · refine .inr ⟨lt, Pv (i + 1), fun H' p' => ⟨m - 1, by omega, by omega, p'⟩, fun y H' z => ?_⟩
    obtain ⟨rfl, rfl⟩ := z
    exact hs i _ lt p
  · exact .inl ⟨Nat.le_of_not_lt lt, hd H (by rw [show n = i by omega]; exact p)⟩
end B

set_option Elab.async false
set_option linter.all false
set_option maxRecDepth 100000
set_option maxHeartbeats 4000000
namespace B
open PySem PySem.Spec PyProof.Rows L2
open SX (S)
/-! ### what a walk has still to go to, and what it has behind it -/
/-- all with the one beginning stand ahead of all with the other -/
def LtP (p q : List Nat) : Prop := ∃ c u v, p = c ++ 48 :: u ∧ q = c ++ 49 :: v
theorem LtP.extL {p q a : List Nat} (h : LtP p q) : LtP (p ++ a) q := by
  obtain ⟨c, u, v, rfl, rfl⟩ := h
  exact ⟨c, u ++ a, v, by simp, rfl⟩
theorem LtP.extR {p q a : List Nat} (h : LtP p q) : LtP p (q ++ a) := by
  obtain ⟨c, u, v, rfl, rfl⟩ := h
  exact ⟨c, u, v ++ a, rfl, by simp⟩
theorem LtP.nilL {q : List Nat} : ¬ LtP [] q := by
  rintro ⟨c, u, v, h, _⟩
  cases c <;> cases h
theorem LtP.nilR {p : List Nat} : ¬ LtP p [] := by
  rintro ⟨c, u, v, _, h⟩
  cases c <;> cases h
theorem LtP.ne {p q : List Nat} (h : LtP p q) : p ≠ q := by
  obtain ⟨c, u, v, rfl, rfl⟩ := h
  intro e
  have := List.append_cancel_left e
  cases this
theorem LtP.split (l : List Nat) : LtP (l ++ [48]) (l ++ [49]) := ⟨l, [], [], rfl, rfl⟩
theorem starts_at {p : List Nat} {x : Str} (h : starts p x = true) {i : Nat} (hi : i < p.length) : x.cps.toList[i]? = p[i]? := by
  have e := of_decide_eq_true h
  have := congrArg (fun z : List Nat => z[i]?) e
  rw [List.getElem?_take_of_lt hi] at this
  exact this
theorem LtP.no {p q : List Nat} {x : Str} (h : LtP p q) (h1 : starts p x = true) (h2 : starts q x = true) : False := by
  obtain ⟨c, u, v, rfl, rfl⟩ := h
  have e1 := starts_at h1 (i := c.length) (by simp)
  have e2 := starts_at h2 (i := c.length) (by simp)
  rw [e1] at e2
  simp at e2
theorem starts_ext {l a : List Nat} {x : Str} (h : starts (l ++ a) x = true) : starts l x = true := by
  have e := of_decide_eq_true h
  refine decide_eq_true ?_
  have := congrArg (List.take l.length) e
  rw [List.take_take, List.take_left, List.length_append, Nat.min_eq_left (by omega)] at this
  exact this
theorem starts_num {W : Nat} {l : List Nat} {x : Str} (h : starts l x = true) (hx : Num W x) : ∃ a, x = S (l ++ a) ∧ (l ++ a).length = W ∧ Bits (l ++ a) := by
  obtain ⟨m, rfl, e, b⟩ := hx
  have z := of_decide_eq_true h
  rw [S_list] at z
  have em : l ++ m.drop l.length = m := by
    have := List.take_append_drop l.length m
    rw [z] at this
    exact this
  exact ⟨m.drop l.length, by rw [em], by rw [em]; exact e, by rw [em]; exact b⟩
theorem starts_full {W : Nat} {l : List Nat} {x : Str} (h : starts l x = true) (hx : Num W x) (hl : l.length = W) : x = S l := by
  obtain ⟨a, rfl, e, _⟩ := starts_num h hx
  rw [List.length_append] at e
  have : a = [] := List.length_eq_zero_iff.mp (by omega)
  rw [this, List.append_nil]
theorem starts_self {l : List Nat} : starts l (S l) = true := by
  refine decide_eq_true ?_
  rw [S_list, List.take_length]
theorem lt_app : ∀ (c : List Nat) {u v : List Nat}, c ++ 48 :: u ≤ c ++ 49 :: v
  | [], u, v => by
    rw [List.nil_append, List.nil_append, List.cons_le_cons_iff]
    exact .inl (by decide)
  | a :: c, u, v => by
    rw [List.cons_append, List.cons_append, List.cons_le_cons_iff]
    exact .inr ⟨rfl, lt_app c⟩
theorem LtP.le {p q : List Nat} (h : LtP p q) : leS (S p) (S q) := by
  obtain ⟨c, u, v, rfl, rfl⟩ := h
  unfold leS
  rw [S_list, S_list]
  exact lt_app c
/-- looked at ahead of -/
def Bef (l p : List Nat) : Prop := (∃ u, u ≠ [] ∧ p = l ++ u) ∨ LtP l p
theorem Bef.ext {l p a : List Nat} (h : Bef l p) : Bef l (p ++ a) := by
  rcases h with ⟨u, hu, rfl⟩ | h
  · exact .inl ⟨u ++ a, by simp [hu], by rw [List.append_assoc]⟩
  · exact .inr h.extR
theorem Bef.ne {l p : List Nat} (h : Bef l p) : l ≠ p := by
  rcases h with ⟨u, hu, rfl⟩ | h
  · intro e
    exact hu (List.self_eq_append_right.mp e)
  · exact h.ne
/-- where a walk goes still, the next one last -/
def pend (st : WkS) : List (List Nat) := match st.sd with
  | none => st.rest
  | some l => st.rest ++ [l]
/-- ever: all that may have been found; stay: all that must be found; cl: of each round that is over one of ever, that no other has -/
structure Wlk (ever stay : List Str) (st : WkS) (lm : List Str) (cl : List (List Nat)) : Prop where
  po : (pend st).Pairwise (fun a b => LtP b a)
  ff : st.found.Pairwise LtP
  fp : ∀ y ∈ st.found, ∀ p ∈ pend st, LtP y p
  fe : ∀ y ∈ st.found, S y ∈ ever
  pe : ∀ p ∈ pend st, p = [] ∨ ∃ x ∈ ever, starts p x = true
  pp : (st.paper.map (·.1)).Nodup
  pb : ∀ z ∈ st.paper, ∀ p ∈ pend st, Bef z.1 p
  cc : cl.Pairwise LtP
  ce : ∀ c ∈ cl, S c ∈ ever
  cp : ∀ c ∈ cl, ∀ p ∈ pend st, LtP c p
  ty : ∀ x ∈ stay, (∃ y ∈ st.found, S y = x) ∨ ∃ p ∈ pend st, starts p x = true
  tl : ∀ l, st.sd = some l → ∀ x ∈ stay, starts l x = true → x ∈ lm
  le : ∀ x ∈ lm, x ∈ ever
theorem Wlk.mono {ever stay ever' stay' : List Str} {st : WkS} {lm lm' : List Str} {cl : List (List Nat)} (h : Wlk ever stay st lm cl) (he : ∀ x ∈ ever, x ∈ ever') (hs : ∀ x ∈ stay', x ∈ stay) (hl : ∀ x ∈ lm', x ∈ lm) (ht : ∀ x ∈ stay', x ∈ lm → x ∈ lm') : Wlk ever' stay' st lm' cl := by
  obtain ⟨a1, a2, a3, a4, a5, a6, a7, a8, a9, b1, b2, b3, b4⟩ := h
  exact ⟨a1, a2, a3, fun y hy => he _ (a4 y hy), fun p hp => (a5 p hp).imp id fun ⟨x, hx, e⟩ => ⟨x, he x hx, e⟩, a6, a7, a8, fun c hc => he _ (a9 c hc), b1, fun x hx => b2 x (hs x hx), fun l e x hx hst => ht x hx (b3 l e x (hs x hx) hst), fun x hx => he x (b4 x (hl x hx))⟩
theorem wlk_new {ever stay : List Str} {kd : Str} : Wlk ever stay ⟨kd, [[]], none, [], []⟩ [] [] := by
  refine ⟨List.pairwise_singleton _ _, .nil, fun y hy => absurd hy (by simp), fun y hy => absurd hy (by simp), fun p hp => .inl (List.mem_singleton.mp hp), .nil, fun z hz => absurd hz (by simp), .nil, fun c hc => absurd hc (by simp), fun c hc => absurd hc (by simp), fun x hx => .inr ⟨[], List.mem_singleton.mpr rfl, decide_eq_true rfl⟩, fun l e => (by cases e), fun x hx => absurd hx (by simp)⟩
/-- how the claims stand to one another where something came of a round -/
def Clm (cl cl' : List (List Nat)) (st' : WkS) : Prop := cl'.length = cl.length + 1 ∨ (cl = [] ∧ cl' = [] ∧ st'.sd = none ∧ st'.rest = [] ∧ st'.found = [])
/-- what is said, complete or not -/
theorem wlk_over {W : Nat} {ever stay : List Str} {st : WkS} {l : List Nat} {lm : List Str} {cl : List (List Nat)} (h : Wlk ever stay { st with sd := some l } lm cl) (hW : 1 ≤ W) (hl : l.length ≤ W) (hev : ∀ x ∈ ever, Num W x) (hst : ∀ x ∈ stay, Num W x) :
    ∃ cl', Wlk ever stay (overF W st l).1 lm cl' ∧ ((overF W st l).2 = .no → cl' = cl) ∧ ((overF W st l).2 ≠ .no → Clm cl cl' (overF W st l).1) := by
  unfold overF
  split
  · exact ⟨cl, h, fun _ => rfl, fun z => absurd rfl z⟩
  · rename_i c
    have eW : l.length = W := by omega
    obtain ⟨a1, a2, a3, a4, a5, a6, a7, a8, a9, b1, b2, b3, b4⟩ := h
    have ep : pend { st with sd := some l } = st.rest ++ [l] := rfl
    rw [ep] at a1 a3 a5 a7 b1 b2
    have hin : l ∈ st.rest ++ [l] := by simp
    have hr : ∀ g ∈ st.rest, g ∈ st.rest ++ [l] := fun g hg => List.mem_append_left _ hg
    obtain ⟨p1, p2, p3⟩ := List.pairwise_append.mp a1
    have lne : l ≠ [] := fun e => by rw [e] at eW; simp at eW; omega
    have le : S l ∈ ever := by
      rcases a5 l hin with e | ⟨x, hx, e⟩
      · exact absurd e lne
      · rw [← starts_full e (hev x hx) eW]
        exact hx
    have lr : ∀ g ∈ st.rest, LtP l g := fun g hg => p3 g hg l (List.mem_singleton.mpr rfl)
    refine ⟨cl ++ [l], ⟨p1, List.pairwise_append.mpr ⟨a2, List.pairwise_singleton _ _, fun y hy z hz => by rw [List.mem_singleton.mp hz]; exact a3 y hy l hin⟩, fun y hy g hg => ?_, fun y hy => ?_, fun g hg => a5 g (hr g hg), a6, fun z hz g hg => a7 z hz g (hr g hg), List.pairwise_append.mpr ⟨a8, List.pairwise_singleton _ _, fun y hy z hz => by rw [List.mem_singleton.mp hz]; exact b1 y hy l hin⟩, fun c hc => ?_, fun c hc g hg => ?_, fun x hx => ?_, fun l' e => (by cases e), b4⟩, fun z => (by cases z), fun _ => .inl (by rw [List.length_append]; rfl)⟩
    · rcases List.mem_append.mp hy with z | z
      · exact a3 y z g (hr g hg)
      · rw [List.mem_singleton.mp z]
        exact lr g hg
    · rcases List.mem_append.mp hy with z | z
      · exact a4 y z
      · rw [List.mem_singleton.mp z]
        exact le
    · rcases List.mem_append.mp hc with z | z
      · exact a9 c z
      · rw [List.mem_singleton.mp z]
        exact le
    · rcases List.mem_append.mp hc with z | z
      · exact b1 c z g (hr g hg)
      · rw [List.mem_singleton.mp z]
        exact lr g hg
    · rcases b2 x hx with ⟨y, hy, e⟩ | ⟨p, hp, e⟩
      · exact .inl ⟨y, List.mem_append_left _ hy, e⟩
      · rcases List.mem_append.mp hp with z | z
        · exact .inr ⟨p, z, e⟩
        · rw [List.mem_singleton.mp z] at e
          exact .inl ⟨l, List.mem_append_right _ (by simp), (starts_full e (hst x hx) eW).symm⟩
/-- a look written down, a bit said -/
theorem wlk_bit {ever stay lm : List Str} {kd : Str} {rest found : List (List Nat)} {paper : List (List Nat × Bool × Bool)} {l : List Nat} {z o : Bool} {b : Nat} {W : Nat} {cl : List (List Nat)} (h : Wlk ever stay ⟨kd, rest, some l, found, paper⟩ lm cl) (hb : ∀ x ∈ lm, Beg W l x) (hl : l.length < W) (hst : ∀ x ∈ stay, Num W x)
    (hx : ∃ x ∈ lm, sg l.length b x = true) (hb2 : b = 48 ∨ b = 49) (only : ∀ x ∈ lm, sg l.length b x = true) : Wlk ever stay ⟨kd, rest, some (l ++ [b]), found, paper ++ [(l, z, o)]⟩ (lm.filter (sg l.length b)) cl := by
  obtain ⟨a1, a2, a3, a4, a5, a6, a7, a8, a9, b1, b2, b3, b4⟩ := h
  have ep : pend ⟨kd, rest, some l, found, paper⟩ = rest ++ [l] := rfl
  rw [ep] at a1 a3 a5 a7 b1 b2
  obtain ⟨p1, p2, p3⟩ := List.pairwise_append.mp a1
  have hin : l ∈ rest ++ [l] := by simp
  have lr : ∀ g ∈ rest, LtP l g := fun g hg => p3 g hg l (by simp)
  have to : ∀ {R : List Nat → Prop}, (∀ p ∈ rest ++ [l], R p) → (R l → R (l ++ [b])) → ∀ p ∈ rest ++ [l ++ [b]], R p := fun hR he p hp => by
    rcases List.mem_append.mp hp with q | q
    · exact hR p (List.mem_append_left _ q)
    · rw [List.mem_singleton.mp q]
      exact he (hR l hin)
  refine ⟨?_, a2, fun y hy => to (a3 y hy) fun q => q.extR, a4, to (R := fun p => p = [] ∨ ∃ x ∈ ever, starts p x = true) a5 fun _ => ?_, ?_, fun w hw => ?_, a8, a9, fun c hc => to (b1 c hc) fun q => q.extR, fun x hx => ?_, fun l' e x hx hs => ?_, fun x hx => b4 x (List.mem_filter.mp hx).1⟩
  · exact List.pairwise_append.mpr ⟨p1, List.pairwise_singleton _ _, fun g hg y hy => by rw [List.mem_singleton.mp hy]; exact (lr g hg).extL⟩
  · obtain ⟨x, hx1, hx2⟩ := hx
    refine .inr ⟨x, b4 x hx1, ?_⟩
    rw [starts_snoc, hx2, beg_st (hb x hx1)]
    rfl
  · rw [List.map_append]
    refine List.nodup_append.mpr ⟨a6, by simp, fun u hu v hv => ?_⟩
    obtain ⟨w, hw, rfl⟩ := List.mem_map.mp hu
    have hv' : v = l := by simpa using hv
    rw [hv']
    exact (a7 w hw l hin).ne
  · rcases List.mem_append.mp hw with q | q
    · exact to (a7 w q) fun z => z.ext
    · rw [List.mem_singleton.mp q]
      intro p hp
      rcases List.mem_append.mp hp with r | r
      · exact .inr (lr p r)
      · rw [List.mem_singleton.mp r]
        exact .inl ⟨[b], by simp, rfl⟩
  · rcases b2 x hx with q | ⟨p, hp, e⟩
    · exact .inl q
    · rcases List.mem_append.mp hp with r | r
      · exact .inr ⟨p, List.mem_append_left _ r, e⟩
      · rw [List.mem_singleton.mp r] at e
        refine .inr ⟨l ++ [b], List.mem_append_right _ (by simp), ?_⟩
        rw [starts_snoc, only x (b3 l rfl x hx e), e]
        rfl
  · cases e
    have := b3 l rfl x hx (starts_ext hs)
    exact List.mem_filter.mpr ⟨this, only x this⟩
/-- a look at which both are heard -/
theorem wlk_two {ever stay lm : List Str} {kd : Str} {rest found : List (List Nat)} {paper : List (List Nat × Bool × Bool)} {l : List Nat} {z o : Bool} {W : Nat} {cl : List (List Nat)} (h : Wlk ever stay ⟨kd, rest, some l, found, paper⟩ lm cl) (hb : ∀ x ∈ lm, Beg W l x) (hl : l.length < W) (hst : ∀ x ∈ stay, Num W x)
    (h0 : ∃ x ∈ lm, sg l.length 48 x = true) (h1 : ∃ x ∈ lm, sg l.length 49 x = true) : Wlk ever stay ⟨kd, rest ++ [l ++ [49]], some (l ++ [48]), found, paper ++ [(l, z, o)]⟩ (lm.filter (sg l.length 48)) cl := by
  obtain ⟨a1, a2, a3, a4, a5, a6, a7, a8, a9, b1, b2, b3, b4⟩ := h
  have ep : pend ⟨kd, rest, some l, found, paper⟩ = rest ++ [l] := rfl
  have ep' : pend ⟨kd, rest ++ [l ++ [49]], some (l ++ [48]), found, paper ++ [(l, z, o)]⟩ = rest ++ [l ++ [49]] ++ [l ++ [48]] := rfl
  rw [ep] at a1 a3 a5 a7 b1 b2
  obtain ⟨p1, p2, p3⟩ := List.pairwise_append.mp a1
  have hin : l ∈ rest ++ [l] := by simp
  have lr : ∀ g ∈ rest, LtP l g := fun g hg => p3 g hg l (by simp)
  have to : ∀ {R : List Nat → Prop}, (∀ p ∈ rest ++ [l], R p) → (R l → R (l ++ [49])) → (R l → R (l ++ [48])) → ∀ p ∈ rest ++ [l ++ [49]] ++ [l ++ [48]], R p := fun hR he he2 p hp => by
    rcases List.mem_append.mp hp with q | q
    · rcases List.mem_append.mp q with q | q
      · exact hR p (List.mem_append_left _ q)
      · rw [List.mem_singleton.mp q]
        exact he (hR l hin)
    · rw [List.mem_singleton.mp q]
      exact he2 (hR l hin)
  have ev : ∀ c, (∃ x ∈ lm, sg l.length c x = true) → ∃ x ∈ ever, starts (l ++ [c]) x = true := fun c ⟨x, hx1, hx2⟩ => ⟨x, b4 x hx1, by rw [starts_snoc, hx2, beg_st (hb x hx1)]; rfl⟩
  have bit : ∀ x ∈ stay, starts l x = true → sg l.length 48 x = true ∨ sg l.length 49 x = true := fun x hx _ => by
    obtain ⟨c, hc, g1, _⟩ := num_at (hst x hx) hl
    rcases hc with rfl | rfl
    · exact .inl (decide_eq_true g1)
    · exact .inr (decide_eq_true g1)
  refine ⟨?_, a2, fun y hy => ?_, a4, ?_, ?_, fun w hw => ?_, a8, a9, fun c hc => ?_, fun x hx => ?_, fun l' e x hx hs => ?_, fun x hx => b4 x (List.mem_filter.mp hx).1⟩
  · rw [ep']
    refine List.pairwise_append.mpr ⟨List.pairwise_append.mpr ⟨p1, List.pairwise_singleton _ _, fun g hg y hy => by rw [List.mem_singleton.mp hy]; exact (lr g hg).extL⟩, List.pairwise_singleton _ _, fun g hg y hy => ?_⟩
    rw [List.mem_singleton.mp hy]
    rcases List.mem_append.mp hg with q | q
    · exact (lr g q).extL
    · rw [List.mem_singleton.mp q]
      exact LtP.split l
  · exact to (a3 y hy) (fun q => q.extR) fun q => q.extR
  · exact to (R := fun p => p = [] ∨ ∃ x ∈ ever, starts p x = true) a5 (fun _ => .inr (ev 49 h1)) fun _ => .inr (ev 48 h0)
  · rw [List.map_append]
    refine List.nodup_append.mpr ⟨a6, by simp, fun u hu v hv => ?_⟩
    obtain ⟨w, hw, rfl⟩ := List.mem_map.mp hu
    have hv' : v = l := by simpa using hv
    rw [hv']
    exact (a7 w hw l hin).ne
  · rcases List.mem_append.mp hw with q | q
    · exact to (a7 w q) (fun z => z.ext) fun z => z.ext
    · rw [List.mem_singleton.mp q]
      intro p hp
      rw [ep'] at hp
      rcases List.mem_append.mp hp with r | r
      · rcases List.mem_append.mp r with r | r
        · exact .inr (lr p r)
        · rw [List.mem_singleton.mp r]
          exact .inl ⟨[49], by simp, rfl⟩
      · rw [List.mem_singleton.mp r]
        exact .inl ⟨[48], by simp, rfl⟩
  · exact to (b1 c hc) (fun q => q.extR) fun q => q.extR
  · rcases b2 x hx with q | ⟨p, hp, e⟩
    · exact .inl q
    · rcases List.mem_append.mp hp with r | r
      · exact .inr ⟨p, by rw [ep']; simp [r], e⟩
      · rw [List.mem_singleton.mp r] at e
        rcases bit x hx e with c | c
        · exact .inr ⟨l ++ [48], by rw [ep']; simp, by rw [starts_snoc, c, e]; rfl⟩
        · exact .inr ⟨l ++ [49], by rw [ep']; simp, by rw [starts_snoc, c, e]; rfl⟩
  · cases e
    have h2 := b3 l rfl x hx (starts_ext hs)
    rw [starts_snoc, Bool.and_eq_true] at hs
    exact List.mem_filter.mpr ⟨h2, hs.1⟩
/-- nobody answers -/
theorem wlk_lost {ever stay lm : List Str} {kd : Str} {rest found : List (List Nat)} {paper : List (List Nat × Bool × Bool)} {l : List Nat} {z o : Bool} {W : Nat} {cl : List (List Nat)} (h : Wlk ever stay ⟨kd, rest, some l, found, paper⟩ lm cl) (hl : l.length < W) (hst : ∀ x ∈ stay, Num W x) (hev : ∀ x ∈ ever, Num W x)
    (h0 : lm.any (sg l.length 48) = false) (h1 : lm.any (sg l.length 49) = false) : ∃ cl', Wlk ever stay ⟨kd, rest, none, found, paper ++ [(l, z, o)]⟩ lm cl' ∧ Clm cl cl' ⟨kd, rest, none, found, paper ++ [(l, z, o)]⟩ := by
  obtain ⟨a1, a2, a3, a4, a5, a6, a7, a8, a9, b1, b2, b3, b4⟩ := h
  have ep : pend ⟨kd, rest, some l, found, paper⟩ = rest ++ [l] := rfl
  rw [ep] at a1 a3 a5 a7 b1 b2
  obtain ⟨p1, p2, p3⟩ := List.pairwise_append.mp a1
  have hin : l ∈ rest ++ [l] := by simp
  have hr : ∀ g ∈ rest, g ∈ rest ++ [l] := fun g hg => List.mem_append_left _ hg
  have lr : ∀ g ∈ rest, LtP l g := fun g hg => p3 g hg l (by simp)
  have none_ : ∀ x ∈ stay, starts l x = true → False := fun x hx e => by
    have hm := b3 l rfl x hx e
    obtain ⟨c, hc, g1, _⟩ := num_at (hst x hx) hl
    have n0 := List.any_eq_false.mp h0 x hm
    have n1 := List.any_eq_false.mp h1 x hm
    rcases hc with rfl | rfl
    · exact n0 (decide_eq_true g1)
    · exact n1 (decide_eq_true g1)
  have base : ∀ cl', cl'.Pairwise LtP → (∀ c ∈ cl', S c ∈ ever) → (∀ c ∈ cl', ∀ g ∈ rest, LtP c g) → Wlk ever stay ⟨kd, rest, none, found, paper ++ [(l, z, o)]⟩ lm cl' := fun cl' q1 q2 q3 => by
    refine ⟨p1, a2, fun y hy g hg => a3 y hy g (hr g hg), a4, fun g hg => a5 g (hr g hg), ?_, fun w hw g hg => ?_, q1, q2, q3, fun x hx => ?_, fun l' e => (by cases e), b4⟩
    · rw [List.map_append]
      refine List.nodup_append.mpr ⟨a6, by simp, fun u hu v hv => ?_⟩
      obtain ⟨w, hw, rfl⟩ := List.mem_map.mp hu
      have hv' : v = l := by simpa using hv
      rw [hv']
      exact (a7 w hw l hin).ne
    · rcases List.mem_append.mp hw with q | q
      · exact a7 w q g (hr g hg)
      · rw [List.mem_singleton.mp q]
        exact .inr (lr g hg)
    · rcases b2 x hx with q | ⟨p, hp, e⟩
      · exact .inl q
      · rcases List.mem_append.mp hp with r | r
        · exact .inr ⟨p, r, e⟩
        · rw [List.mem_singleton.mp r] at e
          exact (none_ x hx e).elim
  rcases a5 l hin with e | ⟨x, hx, e⟩
  · have e1 : rest = [] := by
      cases rest with
      | nil => rfl
      | cons g r => exact (LtP.nilL (by rw [← e]; exact lr g (by simp))).elim
    have e2 : found = [] := by
      cases found with
      | nil => rfl
      | cons y r => exact (LtP.nilR (by rw [← e]; exact a3 y (by simp) l hin)).elim
    have e3 : cl = [] := by
      cases cl with
      | nil => rfl
      | cons y r => exact (LtP.nilR (by rw [← e]; exact b1 y (by simp) l hin)).elim
    exact ⟨[], base [] .nil (fun c hc => absurd hc (by simp)) (fun c hc => absurd hc (by simp)), .inr ⟨e3, rfl, rfl, e1, e2⟩⟩
  · obtain ⟨a, rfl, e1, e2⟩ := starts_num e (hev x hx)
    refine ⟨cl ++ [l ++ a], base _ (List.pairwise_append.mpr ⟨a8, List.pairwise_singleton _ _, fun c hc y hy => by rw [List.mem_singleton.mp hy]; exact (b1 c hc l hin).extR⟩) (fun c hc => ?_) (fun c hc g hg => ?_), .inl (by rw [List.length_append]; rfl)⟩
    · rcases List.mem_append.mp hc with q | q
      · exact a9 c q
      · rw [List.mem_singleton.mp q]
        exact hx
    · rcases List.mem_append.mp hc with q | q
      · exact b1 c q g (hr g hg)
      · rw [List.mem_singleton.mp q]
        exact (lr g hg).extL
/-- a step -/
theorem wlk_step {W n : Nat} {kvs : List (Str × Bool)} {lm : List Str} {sdm : Option (List Nat)} {lk : Int} {st : WkS} {ever stay : List Str} {cl : List (List Nat)} (h : Wlk ever stay st lm cl) (ok : WkOk W lm sdm st n) (hr : st.sd = none → st.rest ≠ []) (hW : 1 ≤ W) (hev : ∀ x ∈ ever, Num W x) (hst : ∀ x ∈ stay, Num W x) (he : ∀ x ∈ lisB kvs (decide (st.kd = "all")), x ∈ ever) (hs : ∀ x ∈ stay, x ∈ lisB kvs (decide (st.kd = "all"))) :
    ∃ cl', Wlk ever stay (stepF W kvs lm lk st).1.1 (stepF W kvs lm lk st).2.1 cl' ∧ ((stepF W kvs lm lk st).1.2 = .no → cl' = cl) ∧ ((stepF W kvs lm lk st).1.2 ≠ .no → Clm cl cl' (stepF W kvs lm lk st).1.1) := by
  obtain ⟨kd, rest, sd, found, paper⟩ := st
  cases sd with
  | none =>
    obtain ⟨r, g, e, hg, hb⟩ := ok.none_ (hr rfl)
    dsimp only at e he hs
    subst e
    have e0 : stepF W kvs lm lk ⟨kd, r ++ [g], none, found, paper⟩ = (overF W ⟨kd, r, none, found, paper⟩ g, begF kvs kd g, some g, lk) := by
      unfold stepF
      simp
    rw [e0]
    obtain ⟨a1, a2, a3, a4, a5, a6, a7, a8, a9, b1, b2, b3, b4⟩ := h
    refine wlk_over (st := ⟨kd, r, none, found, paper⟩) (l := g) ⟨a1, a2, a3, a4, a5, a6, a7, a8, a9, b1, b2, fun l e x hx hq => ?_, fun x hx => he x (List.mem_filter.mp hx).1⟩ hW hg hev hst
    cases e
    exact List.mem_filter.mpr ⟨hs x hx, hq⟩
  | some l =>
    obtain ⟨_, hlt, hlb, hbeg⟩ := ok.said l rfl
    have lc : ∀ c : Nat, (l ++ [c]).length ≤ W := fun c => by rw [List.length_append, List.length_singleton]; omega
    have bits : ∀ x ∈ lm, sg l.length 48 x = true ∨ sg l.length 49 x = true := fun x hx => by
      obtain ⟨c, hc, g1, _⟩ := num_at (hbeg x hx).num hlt
      rcases hc with rfl | rfl
      · exact .inl (decide_eq_true g1)
      · exact .inr (decide_eq_true g1)
    have wl := fun z o => wlk_lost (z := z) (o := o) h hlt hst hev
    have w2 := fun z o => wlk_two (z := z) (o := o) h hbeg hlt hst
    have w1 := fun z o b => wlk_bit (z := z) (o := o) (b := b) h hbeg hlt hst
    unfold stepF
    dsimp only
    cases hz : lm.any (sg l.length 48) <;> cases ho : lm.any (sg l.length 49)
    · rw [if_pos ⟨rfl, rfl⟩]
      obtain ⟨cl', q1, q2⟩ := wl false false hz ho
      exact ⟨cl', q1, fun z => (by cases z), fun _ => q2⟩
    · rw [if_neg (fun z => Bool.noConfusion z.2), if_neg Bool.false_ne_true, if_neg (fun z => Bool.noConfusion z.1)]
      refine wlk_over (w1 false true 49 (List.any_eq_true.mp ho) (.inr rfl) fun x hx => (bits x hx).resolve_left fun q => ?_) hW (lc _) hev hst
      exact absurd (List.any_eq_true.mpr ⟨x, hx, q⟩) (by rw [hz]; exact Bool.false_ne_true)
    · rw [if_neg (fun z => Bool.noConfusion z.1), if_pos rfl, if_neg (fun z => Bool.noConfusion z.2)]
      refine wlk_over (w1 true false 48 (List.any_eq_true.mp hz) (.inl rfl) fun x hx => (bits x hx).resolve_right fun q => ?_) hW (lc _) hev hst
      exact absurd (List.any_eq_true.mpr ⟨x, hx, q⟩) (by rw [ho]; exact Bool.false_ne_true)
    · rw [if_neg (fun z => Bool.noConfusion z.1), if_pos rfl, if_pos ⟨rfl, rfl⟩]
      exact wlk_over (w2 true true (List.any_eq_true.mp hz) (List.any_eq_true.mp ho)) hW (lc _) hev hst
end B

set_option Elab.async false
set_option linter.all false
set_option maxRecDepth 100000
set_option maxHeartbeats 4000000
namespace B
open PySem PySem.Spec PyProof.Rows L2
open SX (S)
/-! ### the beginnings that some numbers have -/
/-- y is one of the beginnings, fewer signs than W, of some of xs, or the empty one -/
def MetS (W : Nat) (xs : List Str) (y : Str) : Prop := y = "" ∨ ∃ x ∈ xs, ∃ i, i < W ∧ y = S (x.cps.toList.take i)
/-- told: each once, rising -/
structure MetL (W : Nat) (xs ys : List Str) : Prop where
  srt : sortedS ys = true
  nd : ys.Nodup
  mem : ∀ y, y ∈ ys ↔ MetS W xs y
theorem MetL.one {W : Nat} {xs ys zs : List Str} (h : MetL W xs ys) (g : MetL W xs zs) : ys = zs :=
  sorted_eq h.srt g.srt ((List.perm_ext_iff_of_nodup h.nd g.nd).mpr fun y => (h.mem y).trans (g.mem y).symm)
theorem S_cps (x : Str) : S x.cps.toList = x := by
  cases x
  simp [SX.S]
def MetP (W : Nat) (ts : List Str) (y : Str) : Prop := ∃ x ∈ ts, ∃ i, i < W ∧ y = S (x.cps.toList.take i)
theorem metP_all {W : Nat} {xs : List Str} {y : Str} (hW : 1 ≤ W) : MetP W (xs ++ [("" : Str)]) y ↔ MetS W xs y := by
  unfold MetP MetS
  constructor
  · rintro ⟨x, hx, i, hi, e⟩
    rcases List.mem_append.mp hx with q | q
    · exact .inr ⟨x, q, i, hi, e⟩
    · rw [List.mem_singleton.mp q] at e
      refine .inl (e.trans ?_)
      rw [show ("" : Str).cps.toList = [] by decide +kernel, List.take_nil]
      exact empty_S.symm
  · rintro (e | ⟨x, hx, i, hi, e⟩)
    · refine ⟨"", by simp, 0, by omega, ?_⟩
      rw [e, List.take_zero]
      exact empty_S
    · exact ⟨x, List.mem_append_left _ hx, i, hi, e⟩
section
variable {P : Program} {w : World} {K : PySem.W.Frag} {mg : Str → Option Value} {base : Heap}
def spMet (K : PySem.W.Frag) : Sp := fun vs H Q _ => ∃ (W : Nat) (p : Addr) (xs : List Str), vs = [.int W, .ref p] ∧ H p = some (.lst (xs.map V.str)) ∧ (∀ x ∈ xs, Num W x) ∧ 1 ≤ W ∧ W ≤ 12 ∧ xs.length ≤ 41 ∧ Tb K H ∧
  ∀ (ys : List Str) (q : Addr) (H' : Hp), MetL W xs ys → H q = none → H' q = some (.lst (ys.map V.str)) → FrT K [] H H' → Q (.ref q) H'
end
end B

set_option Elab.async false
set_option linter.all false
set_option maxRecDepth 100000
set_option maxHeartbeats 4000000
namespace B
open PySem PySem.Spec PyProof.Rows L2
open SX (S)
/-! ### a walk while nothing changes -/
/-- what stands on its paper -/
structure Pap (W : Nat) (due : List Str) (st : WkS) : Prop where
  pa : ∀ z ∈ st.paper, z.1.length < W ∧ (z.1 = [] ∨ ∃ x ∈ due, starts z.1 x = true)
  fb : ∀ y ∈ st.found, ∀ i, i < W → y.take i ∈ st.paper.map (·.1)
  pb : ∀ p ∈ pend st, ∀ i, i < p.length → p.take i ∈ st.paper.map (·.1)
  nl : [] ∈ pend st ∨ [] ∈ st.paper.map (·.1)
theorem pap_new {W : Nat} {due : List Str} {kd : Str} : Pap W due ⟨kd, [[]], none, [], []⟩ := by
  refine ⟨fun z hz => absurd hz (by simp), fun y hy => absurd hy (by simp), fun p hp i hi => ?_, .inl (List.mem_singleton.mpr rfl)⟩
  rw [List.mem_singleton.mp hp] at hi
  exact absurd hi (Nat.not_lt_zero _)
theorem pap_over {W : Nat} {due : List Str} {st : WkS} {l : List Nat} (h : Pap W due { st with sd := some l }) (hW : 1 ≤ W) (hl : l.length ≤ W) : Pap W due (overF W st l).1 := by
  unfold overF
  split
  · exact h
  · rename_i c
    have eW : l.length = W := by omega
    obtain ⟨a, b, c, d⟩ := h
    have ep : pend { st with sd := some l } = st.rest ++ [l] := rfl
    rw [ep] at c d
    refine ⟨a, fun y hy i hi => ?_, fun p hp => c p (List.mem_append_left _ hp), ?_⟩
    · rcases List.mem_append.mp hy with q | q
      · exact b y q i hi
      · rw [List.mem_singleton.mp q]
        exact c l (by simp) i (by omega)
    · rcases d with q | q
      · rcases List.mem_append.mp q with q | q
        · exact .inl q
        · have e0 : l.length = 0 := by rw [← List.mem_singleton.mp q]; rfl
          omega
      · exact .inr q
theorem pap_look {W : Nat} {due : List Str} {kd : Str} {rest rest' found : List (List Nat)} {l : List Nat} {paper : List (List Nat × Bool × Bool)} {z o : Bool} {sd : Option (List Nat)} (h : Pap W due ⟨kd, rest, some l, found, paper⟩) (hl : l.length < W) (ev : l = [] ∨ ∃ x ∈ due, starts l x = true)
    (hp : ∀ p ∈ pend ⟨kd, rest', sd, found, paper ++ [(l, z, o)]⟩, p ∈ rest ∨ ∃ b, p = l ++ [b]) (hr : ∀ p ∈ rest, p ∈ pend ⟨kd, rest', sd, found, paper ++ [(l, z, o)]⟩) : Pap W due ⟨kd, rest', sd, found, paper ++ [(l, z, o)]⟩ := by
  obtain ⟨a, b, c, d⟩ := h
  have ep : pend ⟨kd, rest, some l, found, paper⟩ = rest ++ [l] := rfl
  rw [ep] at c d
  have old : ∀ {y : List Nat}, y ∈ paper.map (·.1) → y ∈ (paper ++ [(l, z, o)]).map (·.1) := fun q => by
    rw [List.map_append]
    exact List.mem_append_left _ q
  have new : l ∈ (paper ++ [(l, z, o)]).map (·.1) := by
    rw [List.map_append]
    exact List.mem_append_right _ (by simp)
  refine ⟨fun y hy => ?_, fun y hy i hi => old (b y hy i hi), fun p q i hi => ?_, ?_⟩
  · rcases List.mem_append.mp hy with q | q
    · exact a y q
    · rw [List.mem_singleton.mp q]
      exact ⟨hl, ev⟩
  · rcases hp p q with q | ⟨b', rfl⟩
    · exact old (c p (List.mem_append_left _ q) i hi)
    · rw [List.length_append, List.length_singleton] at hi
      rw [List.take_append_of_le_length (by omega)]
      by_cases e : i = l.length
      · rw [e, List.take_length]
        exact new
      · exact old (c l (by simp) i (by omega))
  · rcases d with q | q
    · rcases List.mem_append.mp q with q | q
      · exact .inl (hr _ q)
      · refine .inr ?_
        rw [List.mem_singleton.mp q]
        exact new
    · exact .inr (old q)
theorem over_tld {W : Nat} {st : WkS} {l : List Nat} : (overF W st l).2 ≠ .lost ∧ (∀ l', (overF W st l).2 = .found l' → (overF W st l).1.found = st.found ++ [l'] ∧ (overF W st l).1.sd = none) ∧ ((overF W st l).2 = .no → (overF W st l).1.found = st.found) ∧ (overF W st l).1.paper = st.paper := by
  unfold overF
  split
  · exact ⟨fun z => (by cases z), fun l' z => (by cases z), fun _ => rfl, rfl⟩
  · refine ⟨fun z => (by cases z), fun l' z => ?_, fun z => (by cases z), rfl⟩
    cases z
    exact ⟨rfl, rfl⟩
/-- what a step on a still wire comes to -/
structure Stll (W : Nat) (due : List Str) (st : WkS) (lk : Int) (r : (WkS × Tld) × List Str × Option (List Nat) × Int) : Prop where
  pp : Pap W due r.1.1
  lost : r.1.2 = .lost → due = [] ∧ r.1.1.rest = [] ∧ r.1.1.sd = none
  fnd : ∀ l, r.1.2 = .found l → r.1.1.found = st.found ++ [l] ∧ r.1.1.sd = none
  no : r.1.2 = .no → r.1.1.found = st.found
  lk : r.2.2.2 = lk + (r.1.1.paper.length : Int) - (st.paper.length : Int)
theorem step_still {W n : Nat} {kvs : List (Str × Bool)} {lm : List Str} {sdm : Option (List Nat)} {lk : Int} {st : WkS} {due : List Str} {cl : List (List Nat)} (h : Wlk due due st lm cl) (p : Pap W due st) (ok : WkOk W lm sdm st n) (hr : st.sd = none → st.rest ≠ []) (hW : 1 ≤ W) (hd : ∀ x ∈ due, Num W x) : Stll W due st lk (stepF W kvs lm lk st) := by
  obtain ⟨kd, rest, sd, found, paper⟩ := st
  cases sd with
  | none =>
    obtain ⟨r, g, e, hg, hb⟩ := ok.none_ (hr rfl)
    dsimp only at e
    subst e
    have e0 : stepF W kvs lm lk ⟨kd, r ++ [g], none, found, paper⟩ = (overF W ⟨kd, r, none, found, paper⟩ g, begF kvs kd g, some g, lk) := by
      unfold stepF
      simp
    rw [e0]
    obtain ⟨t1, t2, t3, t4⟩ := over_tld (W := W) (st := ⟨kd, r, none, found, paper⟩) (l := g)
    exact ⟨pap_over (st := ⟨kd, r, none, found, paper⟩) (l := g) ⟨p.pa, p.fb, p.pb, p.nl⟩ hW hg, fun z => absurd z t1, t2, t3, by rw [show (overF W ⟨kd, r, none, found, paper⟩ g).1.paper = paper from t4]; show lk = lk + (paper.length : Int) - (paper.length : Int); omega⟩
  | some l =>
    obtain ⟨_, hlt, hlb, hbeg⟩ := ok.said l rfl
    have lc : ∀ c : Nat, (l ++ [c]).length ≤ W := fun c => by rw [List.length_append, List.length_singleton]; omega
    have hin : l ∈ rest ++ [l] := by simp
    have ev : l = [] ∨ ∃ x ∈ due, starts l x = true := h.pe l hin
    have plen : ∀ (z o : Bool), lk + 1 = lk + ((paper ++ [(l, z, o)]).length : Int) - (paper.length : Int) := fun z o => by
      rw [List.length_append]
      show lk + 1 = lk + ((paper.length + 1 : Nat) : Int) - (paper.length : Int)
      omega
    have fin : ∀ (rest' : List (List Nat)) (z o : Bool) (b : Nat) (lm' : List Str), (∀ q ∈ rest, q ∈ rest') → (∀ q ∈ rest', q ∈ rest ∨ ∃ b, q = l ++ [b]) → Stll W due ⟨kd, rest, some l, found, paper⟩ lk (overF W ⟨kd, rest', some l, found, paper ++ [(l, z, o)]⟩ (l ++ [b]), lm', some (l ++ [b]), lk + 1) := fun rest' z o b lm' h1 h2 => by
      obtain ⟨t1, t2, t3, t4⟩ := over_tld (W := W) (st := ⟨kd, rest', some l, found, paper ++ [(l, z, o)]⟩) (l := l ++ [b])
      refine ⟨pap_over (st := ⟨kd, rest', some l, found, paper ++ [(l, z, o)]⟩) (pap_look (sd := some (l ++ [b])) p hlt ev (fun q hq => ?_) fun q hq => List.mem_append_left _ (h1 q hq)) hW (lc b), fun y => absurd y t1, t2, t3, ?_⟩
      · rcases List.mem_append.mp hq with y | y
        · exact h2 q y
        · exact .inr ⟨b, List.mem_singleton.mp y⟩
      · show lk + 1 = lk + ((overF W ⟨kd, rest', some l, found, paper ++ [(l, z, o)]⟩ (l ++ [b])).1.paper.length : Int) - (paper.length : Int)
        rw [t4]
        exact plen z o
    unfold stepF
    dsimp only
    cases hz : lm.any (sg l.length 48) <;> cases ho : lm.any (sg l.length 49)
    · rw [if_pos ⟨rfl, rfl⟩]
      have none_ : ∀ x ∈ due, starts l x = true → False := fun x hx e => by
        have hm := h.tl l rfl x hx e
        obtain ⟨c, hc, g1, _⟩ := num_at (hd x hx) hlt
        rcases hc with rfl | rfl
        · exact List.any_eq_false.mp hz x hm (decide_eq_true g1)
        · exact List.any_eq_false.mp ho x hm (decide_eq_true g1)
      have e0 : l = [] := ev.resolve_right fun ⟨x, hx, e⟩ => none_ x hx e
      have ed : due = [] := by
        cases hdue : due with
        | nil => rfl
        | cons x r => exact (none_ x (by rw [hdue]; simp) (by rw [e0]; exact decide_eq_true rfl)).elim
      have er : rest = [] := by
        cases hrest : rest with
        | nil => rfl
        | cons g r =>
          have po := h.po
          have ep : pend ⟨kd, rest, some l, found, paper⟩ = rest ++ [l] := rfl
          rw [ep] at po
          have := (List.pairwise_append.mp po).2.2 g (by rw [hrest]; simp) l (by simp)
          rw [e0] at this
          exact (LtP.nilL this).elim
      refine ⟨pap_look (sd := none) p hlt ev (fun q hq => .inl hq) fun q hq => hq, fun _ => ⟨ed, er, rfl⟩, fun l' y => (by cases y), fun y => (by cases y), plen _ _⟩
    · rw [if_neg (fun z => Bool.noConfusion z.2), if_neg Bool.false_ne_true, if_neg (fun z => Bool.noConfusion z.1)]
      exact fin rest false true 49 _ (fun q hq => hq) fun q hq => .inl hq
    · rw [if_neg (fun z => Bool.noConfusion z.1), if_pos rfl, if_neg (fun z => Bool.noConfusion z.2)]
      exact fin rest true false 48 _ (fun q hq => hq) fun q hq => .inl hq
    · rw [if_neg (fun z => Bool.noConfusion z.1), if_pos rfl, if_pos ⟨rfl, rfl⟩]
      exact fin (rest ++ [l ++ [49]]) true true 48 _ (fun q hq => List.mem_append_left _ hq) fun q hq => (List.mem_append.mp hq).imp id fun y => ⟨49, List.mem_singleton.mp y⟩
/-- a round -/
structure Rnd (names : List Str) (W : Nat) (due : List Str) (st : WkS) (lk : Int) (r : (WkS × Tld) × List Str × Option (List Nat) × Int) : Prop where
  wl : ∃ cl, Wlk due due r.1.1 r.2.1 cl
  sl : Stll W due st lk r
  iv : ∃ b, InvQ names W (r.1.1, r.2) b
  ms : mv W names r.1.1 < mv W names st
  kd : r.1.1.kd = st.kd
theorem round_still {W : Nat} {kvs : List (Str × Bool)} {names due : List Str} (hW : 1 ≤ W) (hd : ∀ x ∈ due, Num W x) (hk : kvs.length ≤ 41) (hkn : ∀ x ∈ kvs.map (·.1), x ∈ names) (hnn : ∀ x ∈ names, Num W x) :
    ∀ {n : Nat} {lm : List Str} {sdm : Option (List Nat)} {lk : Int} {st : WkS} {b : Nat} {cl : List (List Nat)}, Wlk due due st lm cl → Pap W due st → InvQ names W (st, lm, sdm, lk) b → (st.sd = none → st.rest ≠ []) → (∀ x, x ∈ lisB kvs (decide (st.kd = "all")) ↔ x ∈ due) →
      Rnd names W due st lk (roundF W kvs n lm lk st) ∧ ((∀ l, st.sd = some l → W ≤ l.length + n + 1) → (st.sd = none → W ≤ n) → (roundF W kvs n lm lk st).1.2 ≠ .no) := by
  intro n
  induction n with
  | zero =>
    intro lm sdm lk st b cl h p iv hr he
    obtain ⟨cl', w1, _⟩ := wlk_step (kvs := kvs) (lk := lk) h iv.ok hr hW hd hd (fun x hx => (he x).mp hx) fun x hx => (he x).mpr hx
    have s1 := step_still (kvs := kvs) (lk := lk) h p iv.ok hr hW hd
    have i1 := inv_step (kvs := kvs) iv hr hk hkn hnn
    refine ⟨⟨⟨cl', w1⟩, s1, ⟨_, i1.1⟩, i1.2, step_kd⟩, fun q1 q2 z => ?_⟩
    obtain ⟨l', e1, e2, e3⟩ := step_no z
    cases hs : st.sd with
    | none => have := q2 hs; omega
    | some l =>
      have := q1 l hs
      have := e3 l hs
      omega
  | succ n ih =>
    intro lm sdm lk st b cl h p iv hr he
    obtain ⟨cl', w1, _⟩ := wlk_step (kvs := kvs) (lk := lk) h iv.ok hr hW hd hd (fun x hx => (he x).mp hx) fun x hx => (he x).mpr hx
    have s1 := step_still (kvs := kvs) (lk := lk) h p iv.ok hr hW hd
    have i1 := inv_step (kvs := kvs) iv hr hk hkn hnn
    by_cases hno : (stepF W kvs lm lk st).1.2 = .no
    · rw [round_no hno]
      obtain ⟨l', e1, e2, e3⟩ := step_no hno
      have hc : (stepF W kvs lm lk st).1.1.sd = none → (stepF W kvs lm lk st).1.1.rest ≠ [] := fun z => by rw [e1] at z; cases z
      have i2 : InvQ names W ((stepF W kvs lm lk st).1.1, (stepF W kvs lm lk st).2.1, (stepF W kvs lm lk st).2.2.1, (stepF W kvs lm lk st).2.2.2) (b + 1) := i1.1
      have i3 : mv W names (stepF W kvs lm lk st).1.1 < mv W names st := i1.2
      obtain ⟨⟨r1, r2, r3, r4, r5⟩, r6⟩ := ih (sdm := (stepF W kvs lm lk st).2.2.1) w1 s1.pp i2 hc (fun x => by rw [step_kd]; exact he x)
      have fs := s1.no hno
      have lk1 := s1.lk
      have lk2 := r2.lk
      refine ⟨⟨r1, ⟨r2.pp, r2.lost, fun l z => by rw [← fs]; exact r2.fnd l z, fun z => (r2.no z).trans fs, by omega⟩, r3, Nat.lt_trans r4 i3, r5.trans step_kd⟩, fun q1 q2 => r6 (fun l e => ?_) fun e => by rw [e1] at e; cases e⟩
      rw [e1] at e
      cases e
      cases hs : st.sd with
      | none =>
        have := q2 hs
        omega
      | some l =>
        have := q1 l hs
        have := e3 l hs
        omega
    · rw [round_yes hno]
      exact ⟨⟨⟨cl', w1⟩, s1, ⟨_, i1.1⟩, i1.2, step_kd⟩, fun _ _ => hno⟩
/-- what is found is due, in its order -/
theorem due_split {W : Nat} {due : List Str} {st : WkS} {lm : List Str} {cl : List (List Nat)} (h : Wlk due due st lm cl) (hd : ∀ x ∈ due, Num W x) (srt : sortedS due = true) (nd : due.Nodup) : due = st.found.map S ++ due.filter (fun x => decide (x ∉ st.found.map S)) := by
  have finj : ∀ {a b : List Nat}, S a = S b → a = b := fun e => by
    have := congrArg (fun z : Str => z.cps.toList) e
    simpa [S_list] using this
  have fnd : (st.found.map S).Nodup := List.Pairwise.map S (fun a b h e => h.ne (finj e)) h.ff
  have sub : ∀ x ∈ st.found.map S, x ∈ due := fun x hx => by
    obtain ⟨y, hy, rfl⟩ := List.mem_map.mp hx
    exact h.fe y hy
  refine sorted_eq srt (pw_sorted (List.pairwise_append.mpr ⟨List.Pairwise.map S (fun a b h => h.le) h.ff, (sorted_pw srt).filter _, fun y hy x hx => ?_⟩)) ?_
  · obtain ⟨l, hl, rfl⟩ := List.mem_map.mp hy
    obtain ⟨hx1, hx2⟩ := List.mem_filter.mp hx
    rcases h.ty x hx1 with ⟨z, hz, e⟩ | ⟨p, hp, e⟩
    · exact absurd (List.mem_map.mpr ⟨z, hz, e⟩) (of_decide_eq_true hx2)
    · obtain ⟨a, rfl, _⟩ := starts_num e (hd x hx1)
      exact (h.fp l hl p hp).extR.le
  · refine (List.perm_ext_iff_of_nodup nd (List.nodup_append.mpr ⟨fnd, nd.filter _, fun a ha b hb e => absurd (e ▸ ha) (of_decide_eq_true (List.mem_filter.mp hb).2)⟩)).mpr fun x => ?_
    rw [List.mem_append, List.mem_filter, decide_eq_true_eq]
    constructor
    · intro hx
      by_cases q : x ∈ st.found.map S
      · exact .inl q
      · exact .inr ⟨hx, q⟩
    · rintro (q | q)
      · exact sub x q
      · exact q.1
theorem due_end {W : Nat} {due : List Str} {st : WkS} {lm : List Str} {cl : List (List Nat)} (h : Wlk due due st lm cl) (hd : ∀ x ∈ due, Num W x) (srt : sortedS due = true) (nd : due.Nodup) (he : pend st = []) : due = st.found.map S := by
  have e := due_split h hd srt nd
  have : due.filter (fun x => decide (x ∉ st.found.map S)) = [] := List.filter_eq_nil_iff.mpr fun x hx z => by
    rcases h.ty x hx with ⟨y, hy, e⟩ | ⟨p, hp, _⟩
    · exact of_decide_eq_true z (List.mem_map.mpr ⟨y, hy, e⟩)
    · rw [he] at hp
      cases hp
  rw [this, List.append_nil] at e
  exact e
/-- the paper at the end -/
theorem pap_end {W : Nat} {due : List Str} {st : WkS} {lm : List Str} {cl : List (List Nat)} (h : Wlk due due st lm cl) (p : Pap W due st) (hd : ∀ x ∈ due, Num W x) (srt : sortedS due = true) (nd : due.Nodup) (he : pend st = []) : ((st.paper.map (·.1)).map S).Nodup ∧ ∀ y, y ∈ (st.paper.map (·.1)).map S ↔ MetS W due y := by
  have finj : ∀ {a b : List Nat}, S a = S b → a = b := fun e => by
    have := congrArg (fun z : Str => z.cps.toList) e
    simpa [S_list] using this
  refine ⟨List.Pairwise.map S (fun a b h e => h (finj e)) h.pp, fun y => ?_⟩
  have de := due_end h hd srt nd he
  constructor
  · intro hy
    obtain ⟨l, hl, rfl⟩ := List.mem_map.mp hy
    obtain ⟨z, hz, rfl⟩ := List.mem_map.mp hl
    obtain ⟨a, b⟩ := p.pa z hz
    rcases b with b | ⟨x, hx, b⟩
    · exact .inl (by rw [b]; exact empty_S.symm)
    · exact .inr ⟨x, hx, z.1.length, a, by rw [of_decide_eq_true b]⟩
  · rintro (e | ⟨x, hx, i, hi, e⟩)
    · rcases p.nl with q | q
      · rw [he] at q
        cases q
      · exact List.mem_map.mpr ⟨_, q, by rw [e]; exact empty_S.symm⟩
    · rw [de] at hx
      obtain ⟨l, hl, rfl⟩ := List.mem_map.mp hx
      rw [S_list] at e
      exact List.mem_map.mpr ⟨_, p.fb l hl i hi, e.symm⟩
end B

set_option Elab.async false
set_option linter.all false
set_option maxRecDepth 100000
set_option maxHeartbeats 4000000
namespace B
open PySem PySem.Spec PyProof.Rows L2
open SX (S)
theorem FrT.drop {K : PySem.W.Frag} {U T : List Addr} {H H' : Hp} (f : FrT K U H H') (h : ∀ x ∈ U, x ∈ T ∨ H x = none) : FrT K T H H' := ⟨fun b o e t n => f.k b o e t fun z => (h b z).elim n (fun q => absurd (q.symm.trans e) (by simp)), f.b, f.t⟩
theorem eqv_strs {xs : List Str} (h : ∀ x ∈ xs, PyData.strOk x = true) : PyData.eqv (.list (xs.map .str)) (.list (xs.map .str)) = true := by
  have q := shaped_strs h
  have q' : ((PyData.list (xs.map .str)).canLay0 && decide ((PyData.list (xs.map .str)).depth ≤ 64)) = true := q
  rw [Bool.and_eq_true] at q'
  exact SeqAt.eqv_refl _ q'.1
section
variable {X : Cx}
def rSortedAny (K : PySem.W.Frag) : List V → Hp → VK → Prop := fun vs H Q => ∃ (a : Addr) (xs : List Str), vs = [V.ref a] ∧ SqL K H a (xs.map V.str) ∧ xs.length ≤ sizeLine ∧ ∀ (ys : List Str) (p : Addr), ys.Perm xs → sortedS ys = true → H p = none → Q (.ref p) (upd H p (.lst (ys.map V.str)))
theorem cr_sortedAny : CallR X (.builtin "sorted") (rSortedAny X.K) := by
  intro pins s σ H vs us Q I r h
  obtain ⟨a, xs, rfl, hs, big, q⟩ := h
  rw [Vals.ref1 r]
  obtain ⟨its, rv, hl, _⟩ := I.list hs
  have il := rv.length
  rw [List.length_map] at il
  refine sorted_strsAny hl.isList rv.strs (by rw [← il]; exact big) fun out ys h1 h2 h3 => ?_
  obtain ⟨c, hc⟩ := sortedAll_at s.heap its out
  refine ⟨.ref _, upd H (s.heap.objs.size + 1) (.lst (ys.map V.str)), I.laid (t' := s.toks) (fun _ _ => sortedAll_old) (Nat.le_succ _) ⟨?_, out.toList, c, vals_of_strs h1, hc⟩, rfl, q ys _ h2 h3 (I.hok.fresh (Nat.le_succ _))⟩
  rw [List.length_map, h2.length_eq]
  exact big
end
section
variable {P : Program} {w : World} {K : PySem.W.Frag} {mg : Str → Option Value} {base : Heap}
abbrev AL2 (K : PySem.W.Frag) : V → V → Hp → Prop := AlStep K (AlStep K (AlStep K fun _ _ _ => False))
theorem c_lalike (T : Txt P w K mg base) : CalX CX0 P w K mg base 4 "_law_alike" (spAl (AL2 K)) :=
  alike_step T (steady_step (steady_step steady0)) (alike_step T (steady_step steady0) (alike_step T steady0 (alike0 T)))
end
/-- all steps on a still wire -/
structure Als (names : List Str) (W : Nat) (due : List Str) (q r : Q4) : Prop where
  wl : ∃ cl, Wlk due due r.1 r.2.1 cl
  pp : Pap W due r.1
  iv : ∃ b, InvQ names W r b
  lk : r.2.2.2 = q.2.2.2 + (r.1.paper.length : Int) - (q.1.paper.length : Int)
theorem all_still {W : Nat} {kvs : List (Str × Bool)} {names due : List Str} (hW : 1 ≤ W) (hd : ∀ x ∈ due, Num W x) (hk : kvs.length ≤ 41) (hkn : ∀ x ∈ kvs.map (·.1), x ∈ names) (hnn : ∀ x ∈ names, Num W x) :
    ∀ {n : Nat} {q : Q4} {b : Nat} {cl : List (List Nat)}, Wlk due due q.1 q.2.1 cl → Pap W due q.1 → InvQ names W q b → (∀ x, x ∈ lisB kvs (decide (q.1.kd = "all")) ↔ x ∈ due) → Als names W due q (allF W kvs n q) := by
  intro n
  induction n with
  | zero => exact fun {q b cl} h p iv he => ⟨⟨cl, h⟩, p, ⟨b, iv⟩, by show q.2.2.2 = q.2.2.2 + (q.1.paper.length : Int) - (q.1.paper.length : Int); omega⟩
  | succ n ih =>
    intro q b cl h p iv he
    by_cases hst : q.1.sd = none ∧ q.1.rest = []
    · rw [all_stop hst]
      exact ⟨⟨cl, h⟩, p, ⟨b, iv⟩, by omega⟩
    · rw [all_go hst]
      have hr : q.1.sd = none → q.1.rest ≠ [] := fun a b => hst ⟨a, b⟩
      obtain ⟨cl', w1, _⟩ := wlk_step (kvs := kvs) (lk := q.2.2.2) h iv.ok hr hW hd hd (fun x hx => (he x).mp hx) fun x hx => (he x).mpr hx
      have s1 := step_still (kvs := kvs) (lk := q.2.2.2) h p iv.ok hr hW hd
      have i1 := inv_step (kvs := kvs) iv hr hk hkn hnn
      have r := ih (q := stepQ W kvs q) w1 s1.pp i1.1 (fun x => by
        show x ∈ lisB kvs (decide ((stepF W kvs q.2.1 q.2.2.2 q.1).1.1.kd = "all")) ↔ _
        rw [step_kd]
        exact he x)
      have l1 := r.lk
      have l2 := s1.lk
      refine ⟨r.wl, r.pp, r.iv, ?_⟩
      show (allF W kvs n (stepQ W kvs q)).2.2.2 = q.2.2.2 + ((allF W kvs n (stepQ W kvs q)).1.paper.length : Int) - (q.1.paper.length : Int)
      have e1 : (stepQ W kvs q).2.2.2 = (stepF W kvs q.2.1 q.2.2.2 q.1).2.2.2 := rfl
      have e2 : (stepQ W kvs q).1 = (stepF W kvs q.2.1 q.2.2.2 q.1).1.1 := rfl
      rw [e1, e2] at l1
      omega
theorem all_lm {W n : Nat} {kvs : List (Str × Bool)} {lm : List Str} {sdm : Option (List Nat)} {lk : Int} {st : WkS} (h : st.sd = none) (hr : st.rest ≠ []) : allF W kvs (n + 1) (st, lm, sdm, lk) = allF W kvs (n + 1) (st, [], none, lk) := by
  have e : stepF W kvs lm lk st = stepF W kvs [] lk st := by
    obtain ⟨kd, rest, sd, found, paper⟩ := st
    dsimp only at h
    subst h
    rfl
  rw [all_go (q := (st, lm, sdm, lk)) (fun z => hr z.2), all_go (q := (st, [], none, lk)) (fun z => hr z.2)]
  dsimp only
  rw [e]
/-- what a new walk finds -/
theorem all_new {W : Nat} {kvs : List (Str × Bool)} {names due : List Str} {kd : Str} {lm : List Str} {sdm : Option (List Nat)} {lk : Int} (hW : 1 ≤ W) (hW2 : W ≤ 12) (hn : names ≠ []) (hl : names.length ≤ 41) (hd : ∀ x ∈ due, Num W x) (srt : sortedS due = true) (nd : due.Nodup) (hk : kvs.length ≤ 41) (hkn : ∀ x ∈ kvs.map (·.1), x ∈ names) (hnn : ∀ x ∈ names, Num W x)
    (he : ∀ x, x ∈ lisB kvs (decide (kd = "all")) ↔ x ∈ due) {R : Q4} (eR : R = allF W kvs (meas W ⟨kd, [[]], none, [], []⟩) (⟨kd, [[]], none, [], []⟩, lm, sdm, lk)) (h1 : R.1.sd = none) (h2 : R.1.rest = []) :
    R.1.found.map S = due ∧ R.2.1.length ≤ 41 ∧ ∃ m : Nat, R.2.2.2 = lk + (m : Int) ∧ ∀ ys, MetL W due ys → ys.length = m := by
  have hp : 0 < meas W ⟨kd, [[]], none, [], []⟩ := meas_pos (fun z => by cases z.2)
  obtain ⟨m0, hm0⟩ : ∃ m0, meas W ⟨kd, [[]], none, [], []⟩ = m0 + 1 := ⟨meas W ⟨kd, [[]], none, [], []⟩ - 1, by omega⟩
  rw [hm0, all_lm rfl (by simp)] at eR
  have i0 := (inv_new (kd := kd) hn hW2 hl).1
  have iv : InvQ names W (⟨kd, [[]], none, [], []⟩, [], none, lk) 1 := ⟨i0.ok, i0.cn, i0.sub, i0.beg, i0.len, i0.mz⟩
  have A := all_still (n := m0 + 1) (kvs := kvs) hW hd hk hkn hnn (q := (⟨kd, [[]], none, [], []⟩, [], none, lk)) wlk_new pap_new iv he
  rw [← eR] at A
  obtain ⟨⟨cl, wl⟩, pp, ⟨b, iv2⟩, l⟩ := A
  have ep : pend R.1 = [] := by
    obtain ⟨⟨k1, rest, sd, fo, pa⟩, R2⟩ := R
    dsimp only at h1 h2
    subst h1
    exact h2
  have df := due_end wl hd srt nd ep
  obtain ⟨q1, q2⟩ := pap_end wl pp hd srt nd ep
  refine ⟨df.symm, iv2.len, R.1.paper.length, ?_, fun ys hy => ?_⟩
  · have e : R.2.2.2 = lk + (R.1.paper.length : Int) - ((0 : Nat) : Int) := l
    omega
  · have pm := (List.perm_ext_iff_of_nodup q1 hy.nd).mpr fun y => (q2 y).trans (hy.mem y).symm
    have := pm.length_eq
    rw [List.length_map, List.length_map] at this
    exact this.symm
end B

set_option Elab.async false
set_option linter.all false
set_option maxRecDepth 100000
set_option maxHeartbeats 4000000
namespace B
open PySem PySem.Spec PyProof.Rows L2
open SX (S)
/-! ### a keeper -/
abbrev PC (K : PySem.W.Frag) : Addr := He.ga K "Keeper"
def pfl (pw pl : Addr) : List (Str × V) := [("_wire", .ref pw), ("_last", .ref pl)]
structure KpAt (K : PySem.W.Frag) (H : Hp) (pk pw pl : Addr) (xs : List Str) : Prop where
  ob : ∃ dx, H pk = some (.ins (PC K) dx (pfl pw pl))
  ls : H pl = some (.lst (xs.map V.str))
section
variable {pw pl q : Addr}
theorem pl_wire : (pfl pw pl).lookup ("_wire" : Str) = some (.ref pw) := by kernel_rfl
theorem pl_last : (pfl pw pl).lookup ("_last" : Str) = some (.ref pl) := by kernel_rfl
theorem pp_last : putF "_last" (.ref q) (pfl pw pl) = pfl pw q := by kernel_rfl
theorem pp_new : putF "_last" (.ref pl) (putF "_wire" (.ref pw) []) = pfl pw pl := by kernel_rfl
theorem pl_len : (pfl pw pl).length < 1000 := by show 2 < 1000; decide
theorem px_refresh : (pfl pw pl).lookup ("refresh" : Str) = none := by kernel_rfl
theorem px_last : (pfl pw pl).lookup ("last" : Str) = none := by kernel_rfl
end
section
variable {P : Program} {w : World} {K : PySem.W.Frag} {mg : Str → Option Value} {base : Heap}
theorem pcl (T : Txt P w K mg base) : Cls K (PC K) := He.cls_ok (T.t.fact 114 (f := .cls "Keeper"))
theorem pn_wire (T : Txt P w K mg base) : NoAttr K (PC K) "_wire" := He.noat_ok (T.t.fact 116 (f := .noat "Keeper" "_wire"))
theorem pn_last (T : Txt P w K mg base) : NoAttr K (PC K) "_last" := He.noat_ok (T.t.fact 117 (f := .noat "Keeper" "_last"))
theorem KpAt.keep {H H' : Hp} {T : List Addr} {pk pw pl : Addr} {xs : List Str} (h : KpAt K H pk pw pl xs) (f : FrT K T H H') (h1 : pk ∉ T) (h2 : pl ∉ T) : KpAt K H' pk pw pl xs := by
  obtain ⟨⟨dx, o1⟩, o2⟩ := h
  exact ⟨⟨dx, f.k _ _ o1 rfl h1⟩, f.k _ _ o2 rfl h2⟩
theorem KpAt.stay {H H' : Hp} {T : List Addr} {pk pw pl : Addr} {xs : List Str} (h : KpAt K H pk pw pl xs) (f : FrT K T H H') (n : NL T H) (h1 : pk ∉ T) : KpAt K H' pk pw pl xs := by
  obtain ⟨⟨dx, o1⟩, o2⟩ := h
  exact ⟨⟨dx, f.k _ _ o1 rfl h1⟩, f.at n o2 rfl (nl_strs xs)⟩
def spPNew (K : PySem.W.Frag) : Sp := fun vs H Q _ => ∃ (pk dx pw : Addr), vs = [.ref pk, .ref pw] ∧ H pk = some (.ins (PC K) dx []) ∧ ∀ (pl : Addr) (H' : Hp), H pl = none → KpAt K H' pk pw pl [] → Frm [pk] H H' → Q .non H'
theorem k_Keeper (T : Txt P w K mg base) : MakX CX0 P w K mg base 1 "Keeper" (PC K) (spPNew K) := by
  obtain ⟨fd, F⟩ := T.t.def_ 29 (d := d_Keeper_init)
  refine ⟨_, fd, _, He.mkr_ok (T.t.fact 115 (f := .mkr "Keeper")), F.ok sc_Keeper_init (fun vs H Q E h => ?_) (fun cdv A outer s H vs Q E hr h => ?_), g_Keeper T, F.bindsN fun _ _ _ _ _ _ us hl => match us, hl with | [_, _], _ => rfl⟩
  · obtain ⟨pk, dx, pw, rfl, _⟩ := h
    rfl
  · obtain ⟨pk, dx, pw, rfl, h1, k⟩ := h
    refine ⟨_, PSs.nox (pss_cons (ps_fld (pv 0) (pv 1) rfl)
    (pss_one (ps_fld (pv 0) (pe_lst pa_nil) rfl))), ?_⟩
    refine ⟨_, rfl, _, rfl, pk, _, dx, _, rfl, h1, pcl T, pn_wire T, by show 0 < 1000; decide, ?_⟩
    refine ⟨Nat.zero_le _, fun pl hpl => ?_⟩
    have n1 : pk ≠ pl := ne_of_none upd_same hpl
    refine ⟨_, rfl, pk, _, dx, _, rfl, by rw [upd_ne n1]; exact upd_same, pcl T, pn_last T, by show 1 < 1000; decide, ?_⟩
    rw [pp_new]
    have r1 : H pl = none := upd_back hpl
    refine k pl _ r1 ⟨⟨dx, upd_same⟩, ?_⟩ ((((Frm.refl _ _).put (by simp)).new r1).put (by simp))
    rw [upd_ne n1.symm, upd_same]
    rfl
def spPLast (K : PySem.W.Frag) : Sp := fun vs H Q _ => ∃ (pk pw pl : Addr) (xs : List Str), vs = [.ref pk] ∧ KpAt K H pk pw pl xs ∧ ∀ (p : Addr) (H' : Hp), H p = none → H' p = some (.lst (xs.map V.str)) → Frm [] H H' → Q (.ref p) H'
theorem m_Keeper_last (T : Txt P w K mg base) : MetX CX0 P w K mg base 1 (PC K) "last" (spPLast K) := by
  obtain ⟨fd, F⟩ := T.t.def_ 31 (d := d_Keeper_last)
  refine ⟨_, fd, _, pcl T, He.meth_ok (T.t.fact 119 (f := .meth "Keeper" "last")), F.ok sc_Keeper_last (fun vs H Q E h => ?_) (fun cdv A outer s H vs Q E hr h => ?_), F.bindsN fun _ _ _ _ _ _ us hl => match us, hl with | [_], _ => rfl⟩
  · obtain ⟨pk, pw, pl, xs, rfl, _⟩ := h
    rfl
  · obtain ⟨pk, pw, pl, xs, rfl, ⟨⟨dx, o1⟩, o2⟩, k⟩ := h
    refine ⟨_, PSs.nox (pss_one (ps_ret (pe_callTy call_list_of (by rfl) (n_list T) (by decide +kernel) (pa_cons (pe_fld (pv 0) (by rfl)) pa_nil)))), ?_⟩
    exact ⟨_, rfl, pk, _, dx, _, _, rfl, o1, pcl T, pn_last T, pl_last, pl, _, rfl, .inl (SqL.of o2), fun p hp => k p _ hp upd_same (Frm.of (same_upd hp))⟩
/-- what is told: who came and who went -/
def spPRefresh (K : PySem.W.Frag) : Sp := fun vs H Q _ => ∃ (pk pw pl dh dl : Addr) (W : Nat) (names : List Str) (kvs : List (Str × Bool)) (lw : List Str) (sdm : Option (List Nat)) (lk : Int) (xs due : List Str), vs = [.ref pk] ∧ KpAt K H pk pw pl xs ∧ WiAt K H pw dh dl W kvs lw (msOf W sdm) lk ∧ pl ≠ pw ∧ lw.length ≤ 41 ∧ 1 ≤ W ∧ W ≤ 12 ∧ names ≠ [] ∧ names.length ≤ 41 ∧ (∀ x ∈ names, Num W x) ∧ (kvs.map (·.1)).Nodup ∧ (∀ x ∈ kvs.map (·.1), x ∈ names) ∧ due.Perm (kvs.map (·.1)) ∧ sortedS due = true ∧ xs.length ≤ 100 ∧
  ∀ (t c z pl' dl' : Addr) (lw' : List Str) (sdm' : Option (List Nat)) (m : Nat) (H' : Hp), H t = none → H c = none → H z = none → H pl' = none → c ≠ z → c ≠ pl' → z ≠ pl' → c ≠ dl' → z ≠ dl' → (dl' = dl ∨ H dl' = none) → lw'.length ≤ 41 → (∀ ys, MetL W due ys → ys.length = m) → H' t = some (.tup [.ref c, .ref z]) → H' c = some (.lst ((due.filter fun x => !decide (x ∈ xs)).map V.str)) → H' z = some (.lst ((xs.filter fun x => !decide (x ∈ due)).map V.str)) → KpAt K H' pk pw pl' due → WiAt K H' pw dh dl' W kvs lw' (msOf W sdm') (lk + m) → FrT K [pk, pw] H H' → Q (.ref t) H'
theorem m_Keeper_refresh (T : Txt P w K mg base) : MetX CX0 P w K mg base 7 (PC K) "refresh" (spPRefresh K) := by
  obtain ⟨fd, F⟩ := T.t.def_ 30 (d := d_Keeper_refresh)
  refine ⟨_, fd, _, pcl T, He.meth_ok (T.t.fact 118 (f := .meth "Keeper" "refresh")), F.ok sc_Keeper_refresh (fun vs H Q E h => ?_) (fun cdv A outer s H vs Q E hr h => ?_), F.bindsN fun _ _ _ _ _ _ us hl => match us, hl with | [_], _ => rfl⟩
  · obtain ⟨pk, pw, pl, dh, dl, W, names, kvs, lw, sdm, lk, xs, due, rfl, _⟩ := h
    rfl
  · obtain ⟨pk, pw, pl, dh, dl, W, names, kvs, lw, sdm, lk, xs, due, rfl, kp, wa, nlw, hlw, w1, w2, nne, nlen, nnum, knd, ksub, dpm, dsrt, xlen, k⟩ := h
    refine ⟨_, PSs.nox (pss_cons (ps_set (i := 1) sc_Keeper_refresh.nd rfl (Or.inr rfl) (pe_mx0 (m_Walk_go_all T) hr (by decide) (pe_mkx (k_Walk T) hr (by decide) rfl pass0 (pa_cons (pe_fld (pv 0) (by rfl)) (pa_cons pe_str pa_nil))) pass0))
    (pss_cons (ps_setLc (i := 2) (own := [("number", 4)]) (g := gName 4) rfl sc_Keeper_refresh.nd rfl rfl (sw_true rfl rfl rfl (by decide +kernel)) (pi_list (pv 1)) (blkOk_by (N := ["self", "hung", "came", "went", "number"]) (sc := defScope s_Keeper_refresh) (own := [("number", 4)]) (by decide +kernel)) (fun _ _ _ _ _ => pg_name (i := 4) sc_Keeper_refresh.nd rfl (Or.inl rfl)) (fun _ _ _ _ _ => pts_one (by exact (pt_cmpR (notIn_seqK (K := K) rfl) (pv 4) (pe_fldK (K := K) rfl (pv 0) (by rfl)) rfl))) (fun _ _ _ _ _ => by exact (pv 4)))
    (pss_cons (ps_setLc (i := 3) (own := [("number", 4)]) (g := gName 4) rfl sc_Keeper_refresh.nd rfl rfl (sw_true rfl rfl rfl (by decide +kernel)) (pi_list (pe_fld (pv 0) (by rfl))) (blkOk_by (N := ["self", "hung", "came", "went", "number"]) (sc := defScope s_Keeper_refresh) (own := [("number", 4)]) (by decide +kernel)) (fun _ _ _ _ _ => pg_name (i := 4) sc_Keeper_refresh.nd rfl (Or.inl rfl)) (fun _ _ _ _ _ => pts_one (by exact (pt_cmpR (notIn_seqK (K := K) rfl) (pv 4) (pv 1) rfl))) (fun _ _ _ _ _ => by exact (pv 4)))
    (pss_cons (ps_fld (pv 0) (pv 1) rfl)
    (pss_one (ps_ret (pe_tup (pa_cons (pv 2) (pa_cons (pv 3) pa_nil))))))))), ?_⟩
    obtain ⟨⟨dx, o1⟩, o2⟩ := id kp
    refine ⟨_, rfl, pk, _, dx, _, _, rfl, o1, pcl T, pn_wire T, pl_wire, ?_⟩
    refine fun qk dxq hqk hdxq hnxq => ⟨qk, dxq, pw, "all", rfl, .inl rfl, upd_same, fun qr qf qp H1 hqr hqf hqp vk1 f1 => ⟨rfl, ?_⟩⟩
    have f01 : Frm [] H H1 := Frm.fresh (((Frm.refl _ _).new hdxq).new hqk) f1 (by simpa using hqk)
    have hqr0 : H qr = none := upd_back (upd_back hqr)
    have hqf0 : H qf = none := upd_back (upd_back hqf)
    have hqp0 : H qp = none := upd_back (upd_back hqp)
    have wa1 := wa.stay (f01.toT .nil (K := K)) .nil (by simp) (by simp)
    have kp1 := kp.stay (f01.toT .nil) .nil (by simp)
    have nlq : dl ≠ qr ∧ dl ≠ qf ∧ dl ≠ qp := ⟨ne_of_none wa.li hqr0, ne_of_none wa.li hqf0, ne_of_none wa.li hqp0⟩
    have hkl : kvs.length ≤ 41 := by
      have := nodup_le knd ksub
      rw [List.length_map] at this
      omega
    have knum : ∀ x ∈ kvs.map (·.1), Num W x := fun x hx => nnum x (ksub x hx)
    have ok0 : WkOk W lw sdm ⟨"all", [[]], none, [], []⟩ 1 := by
      have i0 := (inv_new (kd := "all") nne w2 nlen).1
      exact ⟨i0.ok.rest, fun l e => (by cases e), ⟨Nat.le_refl _, Nat.zero_le _, Nat.zero_le _⟩, by omega⟩
    have vk2 : VkOk K H1 qk pw qr qf qp dh dl W kvs lw sdm lk ⟨"all", [[]], none, [], []⟩ 1 := ⟨vk1, ⟨lw, wa1, List.Perm.refl _⟩, nlq, .inl rfl, w2, by omega, knd, knum, ok0⟩
    obtain ⟨⟨dxq1, oq⟩, o3, o4, ⟨ts, o5, _⟩, _⟩ := id vk1
    have mz : 1 + meas W ⟨"all", [[]], none, [], []⟩ ≤ 20000 := (inv_new (kd := "all") nne w2 nlen).1.mz
    refine ⟨qk, dxq1, _, rfl, oq, vx_all, ?_⟩
    refine ⟨qk, pw, qr, qf, qp, dh, dl, W, kvs, lw, sdm, lk, _, 1, rfl, vk2, by omega, fun p dl2 H2 hdl2 hp vk3 e1 e2 hp2 f2 => ?_⟩
    generalize hR : allF W kvs (meas W ⟨"all", [[]], none, [], []⟩) (⟨"all", [[]], none, [], []⟩, lw, sdm, lk) = R at vk3 e1 e2 hp2
    have dnum : ∀ x ∈ due, Num W x := fun x hx => knum x (dpm.mem_iff.mp hx)
    have dnd : due.Nodup := dpm.nodup_iff.mpr knd
    obtain ⟨a1, a2, m, a3, a4⟩ := all_new w1 w2 nne nlen dnum dsrt dnd hkl ksub nnum (fun x => by rw [decide_eq_true rfl, lisB_all]; exact dpm.mem_iff.symm) hR.symm e1 e2
    rw [txs, a1] at hp2
    obtain ⟨⟨dww, w11⟩, w12, w13⟩ := id wa1
    have npw : pk ≠ pw := fun e => by
      obtain ⟨⟨dww, w1⟩, _⟩ := id wa
      rw [e, w1] at o1
      have := congrArg List.length (HO.ins.inj (Option.some.inj o1)).2.2
      cases this
    have nT : NT [qk, qr, qf, qp, pw] H1 := .cons oq rfl (.cons o3 rfl (.cons o4 rfl (.cons o5 rfl (.cons w11 rfl .nil))))
    have fH2 : FrT K [pw] H H2 := (((f01.toT .nil (K := K)).mono (by simp)).trans (f2.toN nT)).drop fun x hx => by
      simp only [List.mem_cons, List.not_mem_nil, or_false] at hx
      rcases hx with rfl | rfl | rfl | rfl | rfl
      · exact .inr hqk
      · exact .inr hqr0
      · exact .inr hqf0
      · exact .inr hqp0
      · exact .inl (List.mem_singleton.mpr rfl)
    have kp2 := kp.keep fH2 (by simpa using npw) (by simpa using nlw)
    obtain ⟨⟨dx2, q1⟩, q2⟩ := id kp2
    -- who came
    refine ⟨_, rfl, p, rfl, ⟨_, SqL.of hp2⟩, fun c hc => ?_⟩
    have ncp : pk ≠ c := ne_of_none q1 hc
    have ncl : pl ≠ c := ne_of_none q2 hc
    have npc : p ≠ c := ne_of_none hp2 hc
    have dlen : due.length ≤ 41 := by
      rw [dpm.length_eq, List.length_map]
      exact hkl
    refine lc_list (K := K) (a := p) (xs := due.map V.str) (fun i H' => H' = upd H2 c (.lst (((due.take i).filter (fun x => !decide (x ∈ xs))).map V.str))) rfl (fun i H' _ e => by rw [e]; exact SqL.of (by rw [upd_ne npc]; exact hp2)) ?_ ?_
    · rintro i y H3 hi e
      subst e
      obtain ⟨x, hx, rfl⟩ := at_map hi
      refine ⟨rfl, _, rfl, _, rfl, pk, _, dx2, _, _, rfl, by rw [upd_ne ncp]; exact q1, pcl T, pn_last T, pl_last, pl, _, rfl, .inl (SqL.of (by rw [upd_ne ncl]; exact q2)), rfl, flat_strs xs, _, rfl, ?_⟩
      show if (if true = true then !inV (V.str x) (xs.map V.str) else _) = true then _ else _
      rw [if_pos rfl, inV_strs]
      refine iteB (fun cb => ?_) (fun cb => ?_)
      · refine ⟨_, rfl, _, upd_same, ?_, ?_⟩
        · rw [List.length_map]
          have := List.length_filter_le (fun x => !decide (x ∈ xs)) (due.take i)
          rw [List.length_take] at this
          exact small1000 (by omega)
        · rw [upd_upd, filter_step _ hx, if_pos cb, List.map_append]
          rfl
      · show _ = _
        rw [filter_step _ hx, if_neg (by rw [cb]; exact Bool.false_ne_true), List.append_nil]
    rintro H3 e3
    rw [List.length_map, List.take_length] at e3
    have f23 : Frm [] H2 H3 := by
      rw [e3]
      exact Frm.of (same_upd hc)
    have hc3 : H3 c = some (.lst ((due.filter fun x => !decide (x ∈ xs)).map V.str)) := by
      rw [e3]
      exact upd_same
    clear e3
    have kp3 := kp2.keep (f23.toT .nil (K := K)) (by simp) (by simp)
    have hp3 := f23.k _ _ hp2 rfl (by simp)
    obtain ⟨⟨dx3, r1⟩, r2⟩ := id kp3
    -- who went
    refine ⟨_, rfl, pk, _, dx3, _, _, rfl, r1, pcl T, pn_last T, pl_last, pl, rfl, ⟨_, SqL.of r2⟩, fun z hz => ?_⟩
    have nzk : pk ≠ z := ne_of_none r1 hz
    have nzl : pl ≠ z := ne_of_none r2 hz
    have nzp : p ≠ z := ne_of_none hp3 hz
    have nzc : c ≠ z := ne_of_none hc3 hz
    refine lc_list (K := K) (a := pl) (xs := xs.map V.str) (fun i H' => H' = upd H3 z (.lst (((xs.take i).filter (fun x => !decide (x ∈ due))).map V.str))) rfl (fun i H' _ e => by rw [e]; exact SqL.of (by rw [upd_ne nzl]; exact r2)) ?_ ?_
    · rintro i y H4 hi e
      subst e
      obtain ⟨x, hx, rfl⟩ := at_map hi
      refine ⟨rfl, _, rfl, _, rfl, p, _, rfl, .inl (SqL.of (by rw [upd_ne nzp]; exact hp3)), rfl, flat_strs due, _, rfl, ?_⟩
      show if (if true = true then !inV (V.str x) (due.map V.str) else _) = true then _ else _
      rw [if_pos rfl, inV_strs]
      refine iteB (fun cb => ?_) (fun cb => ?_)
      · refine ⟨_, rfl, _, upd_same, ?_, ?_⟩
        · rw [List.length_map]
          have := List.length_filter_le (fun x => !decide (x ∈ due)) (xs.take i)
          rw [List.length_take] at this
          exact small1000 (by omega)
        · rw [upd_upd, filter_step _ hx, if_pos cb, List.map_append]
          rfl
      · show _ = _
        rw [filter_step _ hx, if_neg (by rw [cb]; exact Bool.false_ne_true), List.append_nil]
    rintro H4 e4
    rw [List.length_map, List.take_length] at e4
    have f34 : Frm [] H3 H4 := by
      rw [e4]
      exact Frm.of (same_upd hz)
    have hz4 : H4 z = some (.lst ((xs.filter fun x => !decide (x ∈ due)).map V.str)) := by
      rw [e4]
      exact upd_same
    clear e4
    have kp4 := kp3.keep (f34.toT .nil (K := K)) (by simp) (by simp)
    have hp4 := f34.k _ _ hp3 rfl (by simp)
    have hc4 := f34.k _ _ hc3 rfl (by simp)
    obtain ⟨⟨dx4, s1⟩, s2⟩ := id kp4
    have npk : pk ≠ p := ne_of s1 hp4 (by intro y; cases y)
    have nck : pk ≠ c := ne_of s1 hc4 (by intro y; cases y)
    refine ⟨_, rfl, _, rfl, pk, _, dx4, _, rfl, s1, pcl T, pn_last T, pl_len, ?_⟩
    rw [pp_last]
    refine ⟨_, rfl, _, rfl, by show 2 ≤ sizeLine; decide, fun t ht => ?_⟩
    have f24 := f23.trans f34
    have f4 : FrT K [pk] H4 (upd H4 pk (.ins (PC K) dx4 (pfl pw p))) := ((Frm.refl [pk] H4).put (List.mem_singleton.mpr rfl)).toT (.cons s1 rfl .nil)
    obtain ⟨lw3, wa3, pm3⟩ := id vk3.wa
    have wa3' := wa3.stay (f24.toT .nil (K := K)) .nil (by simp) (by simp)
    have ndk : pk ≠ dh := ne_of s1 wa3'.dc (by intro y; cases y)
    have wa4 := wa3'.stay f4 (.cons s1 rfl .nil) (by simpa using npw.symm) (by simpa using ndk.symm)
    have hH2 : ∀ {b : Addr}, H2 b = none → H b = none := fun y => fH2.b _ y
    have ht4 : H4 t = none := upd_back ht
    have f5 : Frm [] (upd H4 pk (.ins (PC K) dx4 (pfl pw p))) (upd (upd H4 pk (.ins (PC K) dx4 (pfl pw p))) t (.tup [.ref c, .ref z])) := Frm.of (same_upd ht)
    rw [a3] at wa4
    have m1 : R.2.1.length ≤ 41 := a2
    have hpH : H p = none := f01.b _ hp
    have ncp2 : c ≠ p := fun e => by rw [e, hp2] at hc; cases hc
    have nzp2 : z ≠ p := nzp.symm
    have ncd : c ≠ dl2 := fun e => by rw [e, wa3.li] at hc; cases hc
    have nzd : z ≠ dl2 := fun e => by rw [e, f23.k _ _ wa3.li rfl (by simp)] at hz; cases hz
    exact k t c z p dl2 lw3 R.2.2.1 m _ (hH2 (f24.b _ ht4)) (hH2 hc) (hH2 (f23.b _ hz)) hpH nzc ncp2 nzp2 ncd nzd (hdl2.imp_right fun y => f01.b _ y) (by rw [pm3.length_eq]; exact m1) a4 upd_same (f5.k _ _ (by rw [upd_ne nck.symm]; exact hc4) rfl (by simp)) (f5.k _ _ (by rw [upd_ne (ne_of hz4 s1 (by intro y; cases y))]; exact hz4) rfl (by simp))
      ⟨⟨dx4, f5.k _ _ upd_same rfl (by simp)⟩, f5.k _ _ (by rw [upd_ne npk.symm]; exact hp4) rfl (by simp)⟩ (wa4.stay (f5.toT .nil (K := K)) .nil (by simp) (by simp)) (((fH2.trans ((f24.toT .nil (K := K)).mono (by simp))).mono (by simp)).trans ((f4.mono (by simp)).trans ((f5.toT .nil (K := K)).mono (by simp))))
end
end B

set_option Elab.async false
set_option linter.all false
set_option maxRecDepth 100000
set_option maxHeartbeats 4000000
namespace B
open PySem PySem.Spec PyProof.Rows L2
open SX (S)
/-! ### rounds -/
structure D4 where
  dl : Addr
  lm : List Str
  sdm : Option (List Nat)
  lk : Int
  st : WkS
  b : Nat
  rd : Nat
/-- between two rounds -/
structure Bt (names : List Str) (W : Nat) (due : List Str) (l0 : Int) (d : D4) : Prop where
  wl : ∃ cl, Wlk due due d.st [] cl
  pp : Pap W due d.st
  iv : ∃ b, InvQ names W (d.st, [], none, d.lk) b
  sd : d.st.sd = none
  lm : d.lm.length ≤ 41
  lk : d.lk = l0 + (d.st.paper.length : Int)
  rd : (due ≠ [] ∧ d.rd = d.st.found.length) ∨ (due = [] ∧ ((d.rd = 0 ∧ d.st.rest ≠ []) ∨ (d.rd = 1 ∧ d.st.rest = [])))
theorem round_lm {W n : Nat} {kvs : List (Str × Bool)} {lm : List Str} {lk : Int} {st : WkS} (h : st.sd = none) : roundF W kvs n lm lk st = roundF W kvs n [] lk st := by
  have e : stepF W kvs lm lk st = stepF W kvs [] lk st := by
    obtain ⟨kd, rest, sd, found, paper⟩ := st
    dsimp only at h
    subst h
    rfl
  cases n with
  | zero => exact e
  | succ n =>
    show (match (stepF W kvs lm lk st).1.2 with | .no => _ | _ => _) = (match (stepF W kvs [] lk st).1.2 with | .no => _ | _ => _)
    rw [e]
theorem bt_new {names due : List Str} {W : Nat} {kd : Str} {l0 : Int} {dl : Addr} {lm : List Str} {sdm : Option (List Nat)} {b : Nat} (hn : names ≠ []) (hW : W ≤ 12) (hl : names.length ≤ 41) (hm : lm.length ≤ 41) : Bt names W due l0 ⟨dl, lm, sdm, l0, ⟨kd, [[]], none, [], []⟩, b, 0⟩ := by
  have i0 := (inv_new (kd := kd) hn hW hl).1
  refine ⟨⟨[], wlk_new⟩, pap_new, ⟨1, i0.ok, i0.cn, i0.sub, i0.beg, i0.len, i0.mz⟩, rfl, hm, by show l0 = l0 + ((0 : Nat) : Int); omega, ?_⟩
  by_cases e : due = []
  · exact .inr ⟨e, .inl ⟨rfl, by simp⟩⟩
  · exact .inl ⟨e, rfl⟩
/-- behind a round -/
theorem bt_round {names due : List Str} {W : Nat} {l0 : Int} {d : D4} {kvs : List (Str × Bool)} (h : Bt names W due l0 d) (hr : d.st.rest ≠ []) (hW : 1 ≤ W) (hd : ∀ x ∈ due, Num W x) (srt : sortedS due = true) (nd : due.Nodup) (hk : kvs.length ≤ 41) (hkn : ∀ x ∈ kvs.map (·.1), x ∈ names) (hnn : ∀ x ∈ names, Num W x) (he : ∀ x, x ∈ lisB kvs (decide (d.st.kd = "all")) ↔ x ∈ due) {R : (WkS × Tld) × List Str × Option (List Nat) × Int} (eR : R = roundF W kvs W [] d.lk d.st) :
    ∃ b, b ≤ 20000 ∧ WkOk W R.2.1 R.2.2.1 R.1.1 b ∧ mv W names R.1.1 < mv W names d.st ∧ R.1.1.kd = d.st.kd ∧ (∀ dl, Bt names W due l0 ⟨dl, R.2.1, R.2.2.1, R.2.2.2, R.1.1, b, d.rd + 1⟩) ∧ ((R.1.2 = .lost ∧ due = [] ∧ d.rd = 0) ∨ ∃ l, R.1.2 = .found l ∧ due ≠ [] ∧ due[d.rd]? = some (S l) ∧ d.rd < due.length) := by
  obtain ⟨⟨cl, wl⟩, pp, ⟨b0, iv⟩, sd, lm, lk, rd⟩ := h
  obtain ⟨⟨⟨cl', r1⟩, r2, ⟨b, r3⟩, r4, r5⟩, r6⟩ := round_still (n := W) (kvs := kvs) hW hd hk hkn hnn wl pp iv (fun _ => hr) he
  rw [← eR] at r1 r2 r3 r4 r5 r6
  have told := r6 (fun l e => by rw [sd] at e; cases e) (fun _ => Nat.le_refl _)
  have mz := r3.mz
  have lk2 := r2.lk
  have sdn : R.1.1.sd = none := by
    cases q : R.1.2 with
    | no => exact absurd q told
    | lost => exact (r2.lost q).2.2
    | found l => exact (r2.fnd l q).2
  have wl2 : Wlk due due R.1.1 [] cl' := by
    obtain ⟨a1, a2, a3, a4, a5, a6, a7, a8, a9, b1, b2, b3, b4⟩ := r1
    exact ⟨a1, a2, a3, a4, a5, a6, a7, a8, a9, b1, b2, fun l e => (by rw [sdn] at e; cases e), fun x hx => absurd hx (by simp)⟩
  have iv2 : InvQ names W (R.1.1, [], none, R.2.2.2) b := by
    obtain ⟨⟨c1, c2, c3, c4⟩, e2, e3, e4, e5, e6⟩ := r3
    exact ⟨⟨c1, fun l e => (by rw [show (R.1.1, ([] : List Str), (none : Option (List Nat)), R.2.2.2).1 = R.1.1 from rfl, sdn] at e; cases e), c3, Nat.zero_le _⟩, e2, fun x hx => absurd hx (by simp), fun l e => (by cases e), Nat.zero_le _, e6⟩
  have mk : ((due ≠ [] ∧ d.rd + 1 = R.1.1.found.length) ∨ (due = [] ∧ ((d.rd + 1 = 0 ∧ R.1.1.rest ≠ []) ∨ (d.rd + 1 = 1 ∧ R.1.1.rest = [])))) → ∀ dl, Bt names W due l0 ⟨dl, R.2.1, R.2.2.1, R.2.2.2, R.1.1, b, d.rd + 1⟩ := fun z dl => ⟨⟨cl', wl2⟩, r2.pp, ⟨b, iv2⟩, sdn, r3.len, by show R.2.2.2 = l0 + (R.1.1.paper.length : Int); omega, z⟩
  refine ⟨b, Nat.le_trans (Nat.le_add_right _ _) mz, r3.ok, r4, r5, ?_⟩
  cases q : R.1.2 with
  | no => exact absurd q told
  | lost =>
    obtain ⟨e1, e2, e3⟩ := r2.lost q
    have z0 : d.rd = 0 := by
      rcases rd with ⟨z, _⟩ | ⟨_, ⟨z, _⟩ | ⟨_, z⟩⟩
      · exact absurd e1 z
      · exact z
      · exact absurd z hr
    exact ⟨mk (.inr ⟨e1, .inr ⟨by omega, e2⟩⟩), .inl ⟨rfl, e1, z0⟩⟩
  | found l =>
    obtain ⟨e1, e2⟩ := r2.fnd l q
    have hin : S l ∈ due := wl2.fe l (by rw [e1]; simp)
    have ne : due ≠ [] := fun z => by rw [z] at hin; cases hin
    have z0 : d.rd = d.st.found.length := by
      rcases rd with ⟨_, z⟩ | ⟨z, _⟩
      · exact z
      · exact absurd z ne
    have at_ : due[d.rd]? = some (S l) := by
      rw [due_split wl2 hd srt nd, e1, z0, List.map_append, List.append_assoc, List.getElem?_append_right (by rw [List.length_map]; exact Nat.le_refl _), List.length_map, Nat.sub_self]
      rfl
    exact ⟨mk (.inl ⟨ne, by rw [e1, List.length_append, z0]; rfl⟩), .inr ⟨l, rfl, ne, at_, (List.getElem?_eq_some_iff.mp at_).1⟩⟩
/-- a round ends -/
theorem round_done {W : Nat} {kvs : List (Str × Bool)} : ∀ {n : Nat} {lm : List Str} {lk : Int} {st : WkS}, (∀ l, st.sd = some l → W ≤ l.length + n + 1) → (st.sd = none → W ≤ n) → (roundF W kvs n lm lk st).1.2 ≠ .no := by
  intro n
  induction n with
  | zero =>
    intro lm lk st q1 q2 z
    obtain ⟨l', e1, e2, e3⟩ := step_no (show (stepF W kvs lm lk st).1.2 = .no from z)
    cases hs : st.sd with
    | none => have := q2 hs; omega
    | some l =>
      have := q1 l hs
      have := e3 l hs
      omega
  | succ n ih =>
    intro lm lk st q1 q2
    by_cases hno : (stepF W kvs lm lk st).1.2 = .no
    · rw [round_no hno]
      obtain ⟨l', e1, e2, e3⟩ := step_no hno
      refine ih (fun l e => ?_) fun e => by rw [e1] at e; cases e
      rw [e1] at e
      cases e
      cases hs : st.sd with
      | none =>
        have := q2 hs
        omega
      | some l =>
        have := q1 l hs
        have := e3 l hs
        omega
    · rw [round_yes hno]
      exact hno
theorem step_sdn {W : Nat} {kvs : List (Str × Bool)} {lm : List Str} {lk : Int} {st : WkS} (h : (stepF W kvs lm lk st).1.2 ≠ .no) : (stepF W kvs lm lk st).1.1.sd = none := by
  have ov : ∀ {s : WkS} {l : List Nat}, (overF W s l).2 ≠ .no → (overF W s l).1.sd = none := fun {s l} z => by
    unfold overF at z ⊢
    split
    · rename_i c
      rw [if_pos c] at z
      exact absurd rfl z
    · rfl
  obtain ⟨kd, rest, sd, found, paper⟩ := st
  cases sd with
  | none => exact ov h
  | some l =>
    unfold stepF at h ⊢
    dsimp only at h ⊢
    split
    · rfl
    · rename_i c
      rw [if_neg c] at h
      exact ov h
theorem round_sdn {W : Nat} {kvs : List (Str × Bool)} : ∀ {n : Nat} {lm : List Str} {lk : Int} {st : WkS}, (roundF W kvs n lm lk st).1.2 ≠ .no → (roundF W kvs n lm lk st).1.1.sd = none := by
  intro n
  induction n with
  | zero => exact fun h => step_sdn h
  | succ n ih =>
    intro lm lk st h
    by_cases hno : (stepF W kvs lm lk st).1.2 = .no
    · rw [round_no hno] at h ⊢
      exact ih h
    · rw [round_yes hno]
      exact step_sdn hno
theorem round_kd {W : Nat} {kvs : List (Str × Bool)} : ∀ {n : Nat} {lm : List Str} {lk : Int} {st : WkS}, (roundF W kvs n lm lk st).1.1.kd = st.kd := by
  intro n
  induction n with
  | zero => exact step_kd
  | succ n ih =>
    intro lm lk st
    by_cases hno : (stepF W kvs lm lk st).1.2 = .no
    · rw [round_no hno]
      exact ih.trans step_kd
    · rw [round_yes hno]
      exact step_kd
theorem round_len {W m : Nat} {kvs : List (Str × Bool)} (hk : kvs.length ≤ m) : ∀ {n : Nat} {lm : List Str} {lk : Int} {st : WkS}, lm.length ≤ m → (roundF W kvs n lm lk st).2.1.length ≤ m := by
  intro n
  induction n with
  | zero => exact fun h => step_len h hk
  | succ n ih =>
    intro lm lk st h
    by_cases hno : (stepF W kvs lm lk st).1.2 = .no
    · rw [round_no hno]
      exact ih (step_len h hk)
    · rw [round_yes hno]
      exact step_len h hk
theorem step_lk {W : Nat} {kvs : List (Str × Bool)} {lm : List Str} {lk : Int} {st : WkS} {l : List Nat} (h : st.sd = some l) : (stepF W kvs lm lk st).2.2.2 = lk + 1 := by
  obtain ⟨kd, rest, sd, found, paper⟩ := st
  dsimp only at h
  subst h
  unfold stepF
  dsimp only
  split <;> rfl
theorem step_fnd {W : Nat} {kvs : List (Str × Bool)} {lm : List Str} {lk : Int} {st : WkS} {l l' : List Nat} (h : st.sd = some l) (hl : l.length < W) (q : (stepF W kvs lm lk st).1.2 = .found l') : l.length + 1 = W := by
  obtain ⟨kd, rest, sd, found, paper⟩ := st
  dsimp only at h
  subst h
  have ov : ∀ {s : WkS} {m : List Nat}, (overF W s m).2 = .found l' → W ≤ m.length := fun {s m} z => by
    unfold overF at z
    split at z
    · cases z
    · rename_i c
      omega
  unfold stepF at q
  dsimp only at q
  by_cases c : lm.any (sg l.length 48) = false ∧ lm.any (sg l.length 49) = false
  · rw [if_pos c] at q
    cases q
  · rw [if_neg c] at q
    have := ov q
    rw [List.length_append, List.length_singleton] at this
    omega
theorem round_lk {W : Nat} {kvs : List (Str × Bool)} : ∀ {n : Nat} {lm : List Str} {lk : Int} {st : WkS} {l l' : List Nat}, st.sd = some l → l.length < W → (roundF W kvs n lm lk st).1.2 = .found l' → (roundF W kvs n lm lk st).2.2.2 = lk + (W : Int) - (l.length : Int) := by
  intro n
  induction n with
  | zero =>
    intro lm lk st l l' h hl q
    have e1 := step_lk (W := W) (kvs := kvs) (lm := lm) (lk := lk) h
    have e2 := step_fnd (kvs := kvs) (lm := lm) (lk := lk) h hl q
    show (stepF W kvs lm lk st).2.2.2 = _
    omega
  | succ n ih =>
    intro lm lk st l l' h hl q
    have e1 := step_lk (W := W) (kvs := kvs) (lm := lm) (lk := lk) h
    by_cases hno : (stepF W kvs lm lk st).1.2 = .no
    · rw [round_no hno] at q ⊢
      obtain ⟨l2, g1, g2, g3⟩ := step_no hno
      have := g3 l h
      rw [ih g1 g2 q]
      omega
    · rw [round_yes hno] at q ⊢
      have e2 := step_fnd (kvs := kvs) (lm := lm) (lk := lk) h hl q
      omega
theorem first_no {W : Nat} {kvs : List (Str × Bool)} {lm : List Str} {lk : Int} {kd : Str} (hW : 1 ≤ W) : stepF W kvs lm lk ⟨kd, [[]], none, [], []⟩ = ((⟨kd, [], some [], [], []⟩, .no), begF kvs kd [], some [], lk) := by
  show (overF W ⟨kd, [], none, [], []⟩ [], begF kvs kd [], some [], lk) = _
  unfold overF
  rw [if_pos (show ([] : List Nat).length < W from hW)]
/-- a round of a new walk for alarms: the least of them, by a look for each bit; else a look -/
theorem alarm_round {names due : List Str} {W : Nat} {lk : Int} {kvs : List (Str × Bool)} {R : (WkS × Tld) × List Str × Option (List Nat) × Int} (hn : names ≠ []) (hW : 1 ≤ W) (hW2 : W ≤ 12) (hl : names.length ≤ 41) (hd : ∀ x ∈ due, Num W x) (srt : sortedS due = true) (nd : due.Nodup) (hk : kvs.length ≤ 41) (hkn : ∀ x ∈ kvs.map (·.1), x ∈ names) (hnn : ∀ x ∈ names, Num W x) (he : ∀ x, x ∈ lisB kvs false ↔ x ∈ due) (eR : R = roundF W kvs W [] lk ⟨"alarm", [[]], none, [], []⟩) :
    R.2.1.length ≤ 41 ∧ ((due = [] ∧ R.1.2 = .lost ∧ R.2.2.2 = lk + 1) ∨ ∃ (l : List Nat) (r : List Str), due = S l :: r ∧ R.1.2 = .found l ∧ R.2.2.2 = lk + (W : Int)) := by
  have he' : ∀ x, x ∈ lisB kvs (decide (("alarm" : Str) = "all")) ↔ x ∈ due := fun x => by rw [decide_eq_false (by decide +kernel)]; exact he x
  have bt0 : Bt names W due lk ⟨0, [], none, lk, ⟨"alarm", [[]], none, [], []⟩, 1, 0⟩ := bt_new hn hW2 hl (Nat.zero_le _)
  obtain ⟨b, hb, ok, mvR, kdR, btR, told⟩ := bt_round bt0 (by simp) hW hd srt nd hk hkn hnn he' eR
  refine ⟨(btR 0).lm, ?_⟩
  obtain ⟨w, rfl⟩ : ∃ w, W = w + 1 := ⟨W - 1, by omega⟩
  rw [round_no (by rw [first_no hW]), first_no hW] at eR
  rcases told with ⟨q1, q2, _⟩ | ⟨l, q1, q2, q3, _⟩
  · refine .inl ⟨q2, q1, ?_⟩
    have el : begF kvs "alarm" [] = [] := by
      rw [begF_nil, decide_eq_false (by decide +kernel)]
      exact List.eq_nil_iff_forall_not_mem.mpr fun x hx => by
        have := (he x).mp hx
        rw [q2] at this
        cases this
    rw [el] at eR
    have e1 : stepF (w + 1) kvs [] lk ⟨"alarm", [], some [], [], []⟩ = ((⟨"alarm", [], none, [], [([], false, false)]⟩, .lost), [], some [], lk + 1) := rfl
    rw [round_yes (by rw [e1]; intro z; cases z), e1] at eR
    rw [eR]
  · cases hdue : due with
    | nil => exact absurd hdue q2
    | cons x r =>
      rw [hdue] at q3
      obtain rfl : x = S l := Option.some.inj q3
      refine .inr ⟨l, r, rfl, q1, ?_⟩
      rw [eR] at q1 ⊢
      have := round_lk (l := []) rfl hW q1
      rw [this]
      show lk + ((w + 1 : Nat) : Int) - ((0 : Nat) : Int) = _
      omega
end B

set_option Elab.async false
set_option linter.all false
set_option maxRecDepth 100000
set_option maxHeartbeats 4000000
namespace B
open PySem PySem.Spec PyProof.Rows L2
open SX (S)
/-! ### a desk -/
abbrev DC (K : PySem.W.Frag) : Addr := He.ga K "Desk"
def dfl (pw pz : Addr) : List (Str × V) := [("_wire", .ref pw), ("_walk", .ref pz)]
def DkAt (K : PySem.W.Frag) (H : Hp) (pd pw pz : Addr) : Prop := ∃ dx, H pd = some (.ins (DC K) dx (dfl pw pz))
section
variable {pw pz q : Addr}
theorem dl_wire : (dfl pw pz).lookup ("_wire" : Str) = some (.ref pw) := by kernel_rfl
theorem dl_walk : (dfl pw pz).lookup ("_walk" : Str) = some (.ref pz) := by kernel_rfl
theorem dp_new : putF "_walk" (.ref pz) (putF "_wire" (.ref pw) []) = dfl pw pz := by kernel_rfl
theorem dx_turn : (dfl pw pz).lookup ("turn" : Str) = none := by kernel_rfl
end
section
variable {P : Program} {w : World} {K : PySem.W.Frag} {mg : Str → Option Value} {base : Heap}
theorem dcl (T : Txt P w K mg base) : Cls K (DC K) := He.cls_ok (T.t.fact 109 (f := .cls "Desk"))
theorem dn_wire (T : Txt P w K mg base) : NoAttr K (DC K) "_wire" := He.noat_ok (T.t.fact 111 (f := .noat "Desk" "_wire"))
theorem dn_walk (T : Txt P w K mg base) : NoAttr K (DC K) "_walk" := He.noat_ok (T.t.fact 112 (f := .noat "Desk" "_walk"))
theorem DkAt.keep {H H' : Hp} {T : List Addr} {pd pw pz : Addr} (h : DkAt K H pd pw pz) (f : FrT K T H H') (h1 : pd ∉ T) : DkAt K H' pd pw pz := by
  obtain ⟨dx, o1⟩ := h
  exact ⟨dx, f.k _ _ o1 rfl h1⟩
theorem deed_calm {kvs : List (Str × Bool)} {x : Str} {lw : List Str} (h : hasK kvs x = true) : deedW kvs "calm" x = "" ∧ deedK kvs "calm" x = putB kvs x false ∧ deedL kvs lw "calm" x = lw := by
  have nw : ¬ ("calm" : Str) = "hang" := by decide +kernel
  have no : ¬ ("calm" : Str) = "off" := by decide +kernel
  have na : ¬ ("calm" : Str) = "alarm" := by decide +kernel
  unfold deedW deedK deedL
  rw [if_neg nw, if_neg nw, if_pos h, if_pos h, if_neg no, if_neg (fun z => no z.1), decide_eq_false na]
  exact ⟨rfl, rfl, rfl⟩
def spDNew (K : PySem.W.Frag) : Sp := fun vs H Q _ => ∃ (pd dx pw : Addr), vs = [.ref pd, .ref pw] ∧ H pd = some (.ins (DC K) dx []) ∧ ∀ (pz qr qf qp : Addr) (H' : Hp), H pz = none → H qr = none → H qf = none → H qp = none → DkAt K H' pd pw pz → VkAt K H' pz pw qr qf qp ⟨"all", [[]], none, [], []⟩ → Frm [pd] H H' → Q .non H'
theorem k_Desk (T : Txt P w K mg base) : MakX CX0 P w K mg base 4 "Desk" (DC K) (spDNew K) := by
  obtain ⟨fd, F⟩ := T.t.def_ 27 (d := d_Desk_init)
  refine ⟨_, fd, _, He.mkr_ok (T.t.fact 110 (f := .mkr "Desk")), F.ok sc_Desk_init (fun vs H Q E h => ?_) (fun cdv A outer s H vs Q E hr h => ?_), g_Desk T, F.bindsN fun _ _ _ _ _ _ us hl => match us, hl with | [_, _], _ => rfl⟩
  · obtain ⟨pd, dx, pw, rfl, _⟩ := h
    rfl
  · obtain ⟨pd, dx, pw, rfl, h1, k⟩ := h
    refine ⟨_, PSs.nox (pss_cons (ps_fld (pv 0) (pv 1) rfl)
    (pss_one (ps_fld (pv 0) (pe_mkx (k_Walk T) hr (by decide) rfl pass0 (pa_cons (pv 1) (pa_cons pe_str pa_nil))) rfl))), ?_⟩
    refine ⟨_, rfl, _, rfl, pd, _, dx, _, rfl, h1, dcl T, dn_wire T, by show 0 < 1000; decide, ?_⟩
    have f1 : Frm [pd] H (upd H pd (.ins (DC K) dx (putF "_wire" (.ref pw) []))) := (Frm.refl _ _).put (by simp)
    have e1 : (upd H pd (.ins (DC K) dx (putF "_wire" (.ref pw) []))) pd = some (.ins (DC K) dx (putF "_wire" (.ref pw) [])) := upd_same
    revert f1 e1
    generalize (upd H pd _) = H1
    intro f1 e1
    refine ⟨_, rfl, fun pz dxv hpv hdxv hnv => ⟨pz, dxv, pw, "all", rfl, .inl rfl, upd_same, fun qr qf qp H2 hqr hqf hqp vk2 f2 => ⟨rfl, ?_⟩⟩⟩
    have f12 : Frm [] H1 H2 := Frm.fresh (((Frm.refl _ _).new hdxv).new hpv) f2 (by simpa using hpv)
    have e2 := f12.k _ _ e1 rfl (by simp)
    refine ⟨_, rfl, pd, _, dx, _, rfl, e2, dcl T, dn_walk T, by show 1 < 1000; decide, ?_⟩
    rw [dp_new]
    have b : ∀ {x : Addr}, H1 x = none → H x = none := fun z => f1.b _ z
    have u : ∀ {x : Addr}, upd (upd H1 dxv (.own pz)) pz (.ins (VC K) dxv []) x = none → H1 x = none := fun z => upd_back (upd_back z)
    have npd : pd ≠ pz := ne_of_none e1 hpv
    have f3 : FrT K [pd] H2 (upd H2 pd (.ins (DC K) dx (dfl pw pz))) := ((Frm.refl [pd] H2).put (by simp)).toT (.cons e2 rfl .nil)
    obtain ⟨⟨dxq, o1⟩, o2, o3, ⟨ts, o4, _⟩, _⟩ := id vk2
    refine k pz qr qf qp _ (b hpv) (b (u hqr)) (b (u hqf)) (b (u hqp)) ⟨dx, upd_same⟩ (vk2.keepT f3 (.cons e2 rfl .nil) (by simpa using npd.symm) ?_ ?_ ?_) ((f1.trans (f12.mono (by simp))).trans ((Frm.refl [pd] H2).put (by simp)))
    · simpa using ne_of o2 e2 (by intro z; cases z)
    · simpa using ne_of o3 e2 (by intro z; cases z)
    · simpa using ne_of o4 e2 (by intro z; cases z)
/-- what a turn comes to -/
def spDTurn (K : PySem.W.Frag) : Sp := fun vs H Q _ => ∃ (pd pz pw qr qf qp dh dl : Addr) (W : Nat) (names : List Str) (kvs : List (Str × Bool)) (lw : List Str) (sdm : Option (List Nat)) (lk : Int) (st : WkS) (b : Nat) (ring : List Str), vs = [.ref pd] ∧ DkAt K H pd pw pz ∧ VkAt K H pz pw qr qf qp st ∧ WiAt K H pw dh dl W kvs lw (msOf W sdm) lk ∧ Tb K H ∧ st.sd = none ∧ st.kd = "all" ∧ WkOk W [] none st b ∧ b ≤ 800000 ∧ lw.length ≤ 41 ∧ 1 ≤ W ∧ W ≤ 12 ∧ names ≠ [] ∧ names.length ≤ 41 ∧ (∀ x ∈ names, Num W x) ∧ (kvs.map (·.1)).Nodup ∧ (∀ x ∈ kvs.map (·.1), x ∈ names) ∧ ring.Perm (lisB kvs false) ∧ sortedS ring = true ∧ (dl ≠ qr ∧ dl ≠ qf ∧ dl ≠ qp) ∧ pd ≠ pw ∧ pd ≠ dh ∧ pz ≠ pw ∧ pz ≠ dh ∧
  (∀ (x : Str) (r : List Str), ring = x :: r → ∀ (t dl' : Addr) (lw' : List Str) (sdm' : Option (List Nat)) (H' : Hp), H t = none → (dl' = dl ∨ H dl' = none) → lw'.length ≤ 41 → H' t = some (.tup [.str "alarm", .str x]) → WiAt K H' pw dh dl' W (putB kvs x false) lw' (msOf W sdm') (lk + W) → FrT K [pw, dh] H H' → Q (.ref t) H') ∧
  (ring = [] → st.rest = [] → ∀ (t dl' : Addr) (lw' : List Str) (sdm' : Option (List Nat)) (H' : Hp), H t = none → (dl' = dl ∨ H dl' = none) → lw'.length ≤ 41 → H' t = some (.tup [.str "done"]) → WiAt K H' pw dh dl' W kvs lw' (msOf W sdm') (lk + 1) → FrT K [pw] H H' → Q (.ref t) H') ∧
  (ring = [] → st.rest ≠ [] → ∀ (R : (WkS × Tld) × List Str × Option (List Nat) × Int) (v : V) (dl' : Addr) (lw' : List Str) (H' : Hp), R = roundF W kvs W [] (lk + 1) st → (dl' = dl ∨ H dl' = none) → lw'.length ≤ 41 → TldAt H' R.1.2 v → VkAt K H' pz pw qr qf qp R.1.1 → R.1.1.sd = none → R.1.2 ≠ .no → R.1.1.kd = "all" → WkOk W [] none R.1.1 (b + 1 + W) → WiAt K H' pw dh dl' W kvs lw' (msOf W R.2.2.1) R.2.2.2 → FrT K [pz, qr, qf, qp, pw] H H' → Q v H')
theorem m_Desk_turn (T : Txt P w K mg base) : MetX CX0 P w K mg base 7 (DC K) "turn" (spDTurn K) := by
  obtain ⟨fd, F⟩ := T.t.def_ 28 (d := d_Desk_turn)
  refine ⟨_, fd, _, dcl T, He.meth_ok (T.t.fact 113 (f := .meth "Desk" "turn")), F.ok sc_Desk_turn (fun vs H Q E h => ?_) (fun cdv A outer s H vs Q E hr h => ?_), F.bindsN fun _ _ _ _ _ _ us hl => match us, hl with | [_], _ => rfl⟩
  · obtain ⟨pd, pz, pw, qr, qf, qp, dh, dl, W, names, kvs, lw, sdm, lk, st, b, ring, rfl, _⟩ := h
    rfl
  · obtain ⟨pd, pz, pw, qr, qf, qp, dh, dl, W, names, kvs, lw, sdm, lk, st, b, ring, rfl, dk, vk, wa, ht, sdn, kd, ok, hb, hlw, w1, w2, nne, nlen, nnum, knd, ksub, rpm, rsrt, nlq, npw, npd, nvw, nvd, k1, k2, k3⟩ := h
    refine ⟨_, PSs.nox (pss_cons (ps_set (i := 1) sc_Desk_turn.nd rfl (Or.inl rfl) (pe_mx0 (m_Walk_go_round T) hr (by decide) (pe_mkx (k_Walk T) hr (by decide) rfl pass0 (pa_cons (pe_fld (pv 0) (by rfl)) (pa_cons pe_str pa_nil))) pass0))
    (pss_cons (ps_if (pt_cmpR op_eq (pe_ix ix_tup (pv 1) pe_int (fun _ _ => rfl)) pe_str (nomark _))
      (pss_cons (ps_set (i := 2) sc_Desk_turn.nd rfl (Or.inl rfl) (pe_ix ix_tup (pv 1) pe_int (fun _ _ => rfl)))
      (pss_cons (ps_expr (pe_mx (m_Wire_calm T) hr (by decide) (pe_fld (pv 0) (by rfl)) (passes_call (E := fun _ _ _ => False) L2.takes0 (fun _ _ _ _ h => h)) (pa_cons (pv 2) pa_nil)))
      (pss_one (ps_ret (pe_tup (pa_cons pe_str (pa_cons (pv 2) pa_nil)))))))
      pss_nil)
    (pss_cons (ps_if (pt_not (pt_truth (pe_mx0 (m_Walk_left T) hr (by decide) (pe_fld (pv 0) (by rfl)) pass0) (by intro _; rfl)))
      (pss_one (ps_ret (pe_tup (pa_cons pe_str pa_nil))))
      pss_nil)
    (pss_one (ps_ret (pe_mx0 (m_Walk_go_round T) hr (by decide) (pe_fld (pv 0) (by rfl)) pass0)))))), ?_⟩
    obtain ⟨dx, o1⟩ := id dk
    refine ⟨_, rfl, pd, _, dx, _, _, rfl, o1, dcl T, dn_wire T, dl_wire, ?_⟩
    refine fun ak dxa hak hdxa hna => ⟨ak, dxa, pw, "alarm", rfl, .inr rfl, upd_same, fun ar af ap H1 har haf hap ak1 f1 => ⟨rfl, ?_⟩⟩
    have f01 : Frm [] H H1 := Frm.fresh (((Frm.refl _ _).new hdxa).new hak) f1 (by simpa using hak)
    have har0 : H ar = none := upd_back (upd_back har)
    have haf0 : H af = none := upd_back (upd_back haf)
    have hap0 : H ap = none := upd_back (upd_back hap)
    have wa1 := wa.stay (f01.toT .nil (K := K)) .nil (by simp) (by simp)
    have nla : dl ≠ ar ∧ dl ≠ af ∧ dl ≠ ap := ⟨ne_of_none wa.li har0, ne_of_none wa.li haf0, ne_of_none wa.li hap0⟩
    have hkl : kvs.length ≤ 41 := by
      have := nodup_le knd ksub
      rw [List.length_map] at this
      omega
    have knum : ∀ x ∈ kvs.map (·.1), Num W x := fun x hx => nnum x (ksub x hx)
    have ok0 : WkOk W lw sdm ⟨"alarm", [[]], none, [], []⟩ 1 := by
      have i0 := (inv_new (kd := "alarm") nne w2 nlen).1
      exact ⟨i0.ok.rest, fun l e => (by cases e), ⟨Nat.le_refl _, Nat.zero_le _, Nat.zero_le _⟩, by omega⟩
    have vk1 : VkOk K H1 ak pw ar af ap dh dl W kvs lw sdm lk ⟨"alarm", [[]], none, [], []⟩ 1 := ⟨ak1, ⟨lw, wa1, List.Perm.refl _⟩, nla, .inr rfl, w2, by omega, knd, knum, ok0⟩
    obtain ⟨⟨dxa1, p1⟩, p2, p3, ⟨ts, p4, _⟩, _⟩ := id ak1
    obtain ⟨⟨dww, w11⟩, w12, w13⟩ := id wa1
    refine ⟨ak, dxa1, _, rfl, p1, vx_round, ?_⟩
    refine ⟨ak, pw, ar, af, ap, dh, dl, W, kvs, lw, sdm, lk, _, 1, rfl, vk1, by omega, fun _ => by simp, fun v dl2 H2 hdl2 vk2 tl2 f2 => ?_⟩
    rw [round_lm rfl] at vk2 tl2
    generalize hR : roundF W kvs W [] lk ⟨"alarm", [[]], none, [], []⟩ = R at vk2 tl2
    have rsub : ∀ x, x ∈ lisB kvs false ↔ x ∈ ring := fun x => rpm.mem_iff.symm
    have lsub : ∀ x ∈ lisB kvs false, x ∈ kvs.map (·.1) := fun x hx => by
      unfold lisB at hx
      obtain ⟨z, hz, e⟩ := List.mem_map.mp hx
      exact List.mem_map.mpr ⟨z, (List.mem_filter.mp hz).1, e⟩
    have rnum : ∀ x ∈ ring, Num W x := fun x hx => knum x (lsub x ((rsub x).mpr hx))
    have rnd : ring.Nodup := by
      refine rpm.nodup_iff.mpr ?_
      unfold lisB
      exact knd.sublist (List.Sublist.map _ List.filter_sublist)
    obtain ⟨a1, told⟩ := alarm_round nne w1 w2 nlen rnum rsrt rnd hkl ksub nnum rsub hR.symm
    have nT : NT [ak, ar, af, ap, pw] H1 := .cons p1 rfl (.cons p2 rfl (.cons p3 rfl (.cons p4 rfl (.cons w11 rfl .nil))))
    have fH2 : FrT K [pw] H H2 := (((f01.toT .nil (K := K)).mono (by simp)).trans (f2.toN nT)).drop fun x hx => by
      simp only [List.mem_cons, List.not_mem_nil, or_false] at hx
      rcases hx with rfl | rfl | rfl | rfl | rfl
      · exact .inr hak
      · exact .inr har0
      · exact .inr haf0
      · exact .inr hap0
      · exact .inl (List.mem_singleton.mpr rfl)
    obtain ⟨lw2, wa2, pm2⟩ := id vk2.wa
    have hlw2 : lw2.length ≤ 41 := by
      rw [pm2.length_eq]
      exact a1
    have hdl0 : dl2 = dl ∨ H dl2 = none := hdl2.imp_right fun y => f01.b _ y
    have dk2 := dk.keep fH2 (by simpa using npw)
    obtain ⟨dx2, q1⟩ := id dk2
    have nTw : NT [pw] H := .cons wa.ob.choose_spec rfl .nil
    obtain ⟨⟨dxz, z1⟩, z2, z3, ⟨zs, z4, _⟩, _⟩ := id vk
    obtain ⟨dw0, w01⟩ := id wa.ob
    have vkz := vk.keepT fH2 nTw (by simpa using nvw) (by simpa using ne_of z2 w01 (by intro y; cases y)) (by simpa using ne_of z3 w01 (by intro y; cases y)) (by simpa using ne_of z4 w01 (by intro y; cases y))
    obtain ⟨⟨dxz2, y1⟩, y2, y3, ⟨zs2, y4, _⟩, _⟩ := id vkz
    obtain ⟨⟨dw2, w21⟩, w22, w23⟩ := id wa2
    rcases told with ⟨e1, e2, e3⟩ | ⟨l, r, e1, e2, e3⟩
    · rw [e2] at tl2
      obtain ⟨t0, rfl, et0⟩ := tl2
      refine ⟨_, rfl, t0, _, 0, _, rfl, rfl, SqT.of et0, rfl, rfl, _, rfl, ?_⟩
      rw [str_dec, decide_eq_false (by decide +kernel)]
      refine ⟨_, rfl, pd, _, dx2, _, _, rfl, q1, dcl T, dn_walk T, dl_walk, pz, dxz2, _, rfl, y1, vx_left, pz, pw, qr, qf, qp, st, rfl, vkz, fun p H3 hp hp3 f3 => ?_⟩
      have h23 := f3.toT .nil (K := K)
      have wa3 := wa2.stay h23 .nil (by simp) (by simp)
      rw [e3] at wa3
      refine ⟨_, .inl ⟨_, SqL.of hp3, rfl⟩, ?_⟩
      cases hr2 : st.rest with
      | nil =>
        refine ⟨by show 1 ≤ sizeLine; decide, fun t htt => ?_⟩
        have g4 : Frm [] H3 (upd H3 t (.tup [.str "done"])) := Frm.of (same_upd htt)
        exact k2 e1 hr2 t dl2 lw2 R.2.2.1 _ (fH2.b _ (f3.b _ htt)) hdl0 hlw2 upd_same (wa3.stay (g4.toT .nil (K := K)) .nil (by simp) (by simp)) (fH2.trans (((f3.trans g4).toT .nil (K := K)).mono (by simp)))
      | cons g gr =>
        have hne : st.rest ≠ [] := fun z => by rw [z] at hr2; cases hr2
        have vk3 := vkz.keepT h23 .nil (by simp) (by simp) (by simp) (by simp)
        have dk3 := dk2.keep h23 (by simp)
        obtain ⟨dx3, q3⟩ := id dk3
        obtain ⟨⟨dxz3, x1⟩, x2, x3, ⟨zs3, x4, _⟩, _⟩ := id vk3
        obtain ⟨⟨dw3, w31⟩, w32, w33⟩ := id wa3
        have nl2 : dl2 ≠ qr ∧ dl2 ≠ qf ∧ dl2 ≠ qp := hdl0.elim (fun e => by rw [e]; exact nlq) fun e => ⟨(ne_of_none z2 e).symm, (ne_of_none z3 e).symm, (ne_of_none z4 e).symm⟩
        have ok3 : WkOk W lw2 R.2.2.1 st b := ⟨ok.rest, fun l e => (by rw [sdn] at e; cases e), ok.len, by omega⟩
        have vko : VkOk K H3 pz pw qr qf qp dh dl2 W kvs lw2 R.2.2.1 (lk + 1) st b := ⟨vk3, ⟨lw2, wa3, List.Perm.refl _⟩, nl2, .inl kd, w2, by omega, knd, knum, ok3⟩
        refine ⟨_, rfl, pd, _, dx3, _, _, rfl, q3, dcl T, dn_walk T, dl_walk, pz, dxz3, _, rfl, x1, vx_round, pz, pw, qr, qf, qp, dh, dl2, W, kvs, lw2, _, _, st, b, rfl, vko, by omega, fun _ => hne, fun v dl4 H4 hdl4 vk4 tl4 f4 => ?_⟩
        rw [round_lm sdn] at vk4 tl4
        have done := round_done (W := W) (kvs := kvs) (n := W) (lm := []) (lk := lk + 1) (st := st) (fun l e => by rw [sdn] at e; cases e) (fun _ => Nat.le_refl _)
        have len4 := round_len (W := W) (m := 41) hkl (n := W) (lm := []) (lk := lk + 1) (st := st) (Nat.zero_le _)
        have kd4 := round_kd (W := W) (kvs := kvs) (n := W) (lm := []) (lk := lk + 1) (st := st)
        have sd4 := round_sdn done
        generalize hR2 : roundF W kvs W [] (lk + 1) st = R2 at vk4 tl4 done len4 kd4 sd4
        obtain ⟨lw4, wa4, pm4⟩ := id vk4.wa
        have nT4 : NT [pz, qr, qf, qp, pw] H3 := .cons x1 rfl (.cons x2 rfl (.cons x3 rfl (.cons x4 rfl (.cons w31 rfl .nil))))
        exact k3 e1 hne R2 v dl4 lw4 H4 hR2.symm (hdl4.elim (fun e => by rw [e]; exact hdl0) fun e => .inr (fH2.b _ (f3.b _ e))) (by rw [pm4.length_eq]; exact len4) tl4 vk4.wk sd4 done (kd4.trans kd) ⟨vk4.ok.rest, fun l e => (by rw [sd4] at e; cases e), vk4.ok.len, Nat.zero_le _⟩ wa4 ((fH2.mono (by simp)).trans ((h23.mono (by simp)).trans (f4.toN nT4)))
    · rw [e2] at tl2
      obtain ⟨t0, rfl, et0⟩ := tl2
      refine ⟨_, rfl, t0, _, 0, _, rfl, rfl, SqT.of et0, rfl, rfl, _, rfl, ?_⟩
      rw [str_dec, decide_eq_true rfl]
      refine ⟨_, rfl, t0, _, 1, .str (S l), rfl, rfl, SqT.of et0, rfl, ?_⟩
      have hx : S l ∈ ring := by rw [e1]; simp
      have hk : hasK kvs (S l) = true := has_key.mpr (lsub _ ((rsub _).mpr hx))
      obtain ⟨d1, d2, d3⟩ := deed_calm (lw := lw2) hk
      refine ⟨_, rfl, pd, _, dx2, _, _, rfl, q1, dcl T, dn_wire T, dl_wire, pw, dw2, _, rfl, w21, wx_calm, _, rfl, pw, dh, dl2, S l, W, kvs, lw2, _, _, rfl, wa2, rnum _ hx, w2, by omega, by omega, fH2.t ht, fun z => absurd d1 z, fun _ dl3 H3 hdl3 wa3 f3 => ?_⟩
      rw [d2, d3, e3] at wa3
      refine ⟨_, rfl, by show 2 ≤ sizeLine; decide, fun t htt => ?_⟩
      have g4 : Frm [] H3 (upd H3 t (.tup [.str "alarm", .str (S l)])) := Frm.of (same_upd htt)
      exact k1 (S l) r e1 t dl3 lw2 R.2.2.1 _ (fH2.b _ (f3.b _ htt)) (hdl3.elim (fun e => by rw [e]; exact hdl0) fun e => .inr (fH2.b _ e)) hlw2 upd_same (wa3.stay (g4.toT .nil (K := K)) .nil (by simp) (by simp)) ((fH2.mono (by simp)).trans (f3.trans ((g4.toT .nil (K := K)).mono (by simp))))
end
end B

set_option Elab.async false
set_option linter.all false
set_option maxRecDepth 100000
set_option maxHeartbeats 4000000
namespace B
open PySem PySem.Spec PyProof.Rows L2
open SX (S)
/-! ### numbers of another length; a round of a walk that is over -/
section
variable {X : Cx}
theorem mk_BadNumber (T : Txt X.prog X.w X.K X.mg X.base) {m : Str} {j : Nat} {p p2 pos : Pos} (hg : Gl X "BadNumber" := by rfl) : PMk X (.Call (.Name "BadNumber" p) [.Constant (.str m) j p2] [] pos) (fun _ H Q => Q (.ref (He.ga X.K "BadNumber")) none H) := by
  obtain ⟨a, b, c, d⟩ := He.exc_ok (T.t.fact 129 (f := .exc "BadNumber"))
  exact pmk_own PySem.F.excBase_ValueError a (g_BadNumber T) b (raises_own c d) hg
theorem mk_Busy (T : Txt X.prog X.w X.K X.mg X.base) {m : Str} {j : Nat} {p p2 pos : Pos} (hg : Gl X "Busy" := by rfl) : PMk X (.Call (.Name "Busy" p) [.Constant (.str m) j p2] [] pos) (fun _ H Q => Q (.ref (He.ga X.K "Busy")) none H) := by
  obtain ⟨a, b, c, d⟩ := He.exc_ok (T.t.fact 134 (f := .exc "Busy"))
  exact pmk_own PySem.F.excBase_ValueError a (g_Busy T) b (raises_own c d) hg
end
section
variable {P : Program} {w : World} {K : PySem.W.Frag} {mg : Str → Option Value} {base : Heap}
def spIsNumB : Sp := fun vs H Q _ => ∃ (W : Nat) (x : Str), vs = [.int W, .str x] ∧ x.length ≠ W ∧ x.length ≤ 1000000 ∧ Q (.bl false) H
theorem c_isnumB (T : Txt P w K mg base) : CalX CX0 P w K mg base 1 "is_number" spIsNumB := by
  obtain ⟨fd, F⟩ := T.t.def_ 2 (d := d_is_number)
  refine ⟨_, fd, _, okT (p := pd_is_number) F sc_is_number (fun vs H Q E h => ?_) (fun A outer s H vs Q E hr h => ?_), He.glo_ok T.X T.G (T.t.fact 2), F.kp, F.bindsN fun _ _ _ _ _ _ us hl => match us, hl with | [_, _], _ => rfl⟩
  · obtain ⟨n, x, rfl, _⟩ := h
    rfl
  · obtain ⟨W, x, rfl, hx, hn, k⟩ := h
    refine ⟨_, PSs.nox (pss_cons (ps_if (PW.pt (pw_or (pt_not (pt_val (pe_callB call_isi (by rfl) (n_isinstance T) (by decide +kernel) (pa_cons (pv 1) (pa_cons (pe_bltn (v := .ty "str") (u := .type "str") rfl (n_str T) (by decide +kernel) rfl) pa_nil))))) (pw_or1 (pt_cmpR op_ne (pe_callB call_len_str (by rfl) (n_len T) PySem.boot_len (pa_cons (pv 1) pa_nil)) (pv 0) (nomark _)))))
      (pss_one (ps_ret pe_bl))
      pss_nil)
    (pss_one (ps_ret (GxR.pe_allS hr rfl (n_all T) (by decide +kernel) (tb_g T (p := pd_is_number) (by decide +kernel)) rfl (gens_by (by decide +kernel)) (pv 1) (elt_in rfl rfl) (fun _ => rfl))))), ?_⟩
    refine ⟨_, rfl, .str x, .ty "str", .type "str", .type "str", true, rfl, .ty "str", .base (.str x), kit_ty (by decide +kernel), true, rfl, ?_⟩
    refine ⟨_, rfl, x, rfl, szL hn, _, rfl, rfl, _, rfl, ?_⟩
    rw [int_dec, decide_eq_false (show ¬ (x.length : Int) = (W : Int) by omega)]
    exact k
def spReqNumB (K : PySem.W.Frag) : Sp := fun vs H _ E => ∃ (W : Nat) (x : Str), vs = [.int W, .str x] ∧ x.length ≠ W ∧ x.length ≤ 1000000 ∧ E (.ref (He.ga K "BadNumber")) none H
theorem c_require_numberB (T : Txt P w K mg base) : CalX (L2.CX P w) P w K mg base 2 "require_number" (spReqNumB K) := by
  obtain ⟨fd, F⟩ := T.t.def_ 1 (d := d_require_number)
  refine ⟨_, fd, _, F.ok sc_require_number (fun vs H Q E h => ?_) (fun cdv A outer s H vs Q E hr h => ?_), He.glo_ok T.X T.G (T.t.fact 1), F.kp, F.bindsN fun _ _ _ _ _ _ us hl => match us, hl with | [_, _], _ => rfl⟩
  · obtain ⟨W, x, rfl, _⟩ := h
    rfl
  · obtain ⟨W, x, rfl, hx, hn, k⟩ := h
    refine ⟨_, (pss_one (ps_if (pt_not (pt_val (pe_cx (c_isnumB T) hr (by decide) rfl pass0 (pa_cons (pv 0) (pa_cons (pv 1) pa_nil)))))
      (pss_one (ps_raise rfl (takes_of rfl rfl rfl rfl) (mk_BadNumber T)))
      pss_nil)), ?_⟩
    exact ⟨_, rfl, _, rfl, W, x, rfl, hx, hn, ⟨_, rfl, k⟩⟩
def spNumB (K : PySem.W.Frag) : Sp := fun vs H _ E => ∃ (pw dh dl : Addr) (x : Str) (W : Nat) (kvs : List (Str × Bool)) (lw : List Str) (ms lk : Int), vs = [.ref pw, .str x] ∧ WiAt K H pw dh dl W kvs lw ms lk ∧ x.length ≠ W ∧ x.length ≤ 1000000 ∧ E (.ref (He.ga K "BadNumber")) none H
theorem m_Wire__require_hangingB (T : Txt P w K mg base) : MetX (L2.CX P w) P w K mg base 3 (WC K) "_require_hanging" (spNumB K) := by
  obtain ⟨fd, F⟩ := T.t.def_ 15 (d := d_Wire__require_hanging)
  refine ⟨_, fd, _, wcl T, He.meth_ok (T.t.fact 90 (f := .meth "Wire" "_require_hanging")), F.ok sc_Wire__require_hanging (fun vs H Q E h => ?_) (fun cdv A outer s H vs Q E hr h => ?_), F.bindsN fun _ _ _ _ _ _ us hl => match us, hl with | [_, _], _ => rfl⟩
  · obtain ⟨pw, dh, dl, x, W, kvs, lw, ms, lk, rfl, _⟩ := h
    rfl
  · obtain ⟨pw, dh, dl, x, W, kvs, lw, ms, lk, rfl, ⟨⟨dx, h1⟩, h2, h3⟩, hx, hn, k⟩ := h
    have hu := hu_of hr
    refine ⟨_, (pss_cons (ps_expr (pe_cx (c_require_numberB T) hr (by decide) rfl (passes_call (takes_of rfl rfl rfl rfl) (fun _ _ _ _ h => h)) (pa_cons (pe_fld (pv 0) (by rfl)) (pa_cons (pv 1) pa_nil))))
    (pss_one (ps_if (pt_cmp (pc_dnotin hu (pv 1) (pe_fld (pv 0) (by rfl))))
      (pss_one (ps_raise rfl (takes_of rfl rfl rfl rfl) (mk_NotThere T)))
      pss_nil))), ?_⟩
    exact ⟨_, rfl, pw, _, dx, _, _, rfl, h1, wcl T, wn_width T, wl_width, _, rfl, W, x, rfl, hx, hn, k⟩
theorem m_Wire_hangB (T : Txt P w K mg base) : MetX (L2.CX P w) P w K mg base 3 (WC K) "hang" (spNumB K) := by
  obtain ⟨fd, F⟩ := T.t.def_ 5 (d := d_Wire_hang)
  refine ⟨_, fd, _, wcl T, He.meth_ok (T.t.fact 80 (f := .meth "Wire" "hang")), F.ok sc_Wire_hang (fun vs H Q E h => ?_) (fun cdv A outer s H vs Q E hr h => ?_), F.bindsN fun _ _ _ _ _ _ us hl => match us, hl with | [_, _], _ => rfl⟩
  · obtain ⟨pw, dh, dl, x, W, kvs, lw, ms, lk, rfl, _⟩ := h
    rfl
  · obtain ⟨pw, dh, dl, x, W, kvs, lw, ms, lk, rfl, ⟨⟨dx, h1⟩, h2, h3⟩, hx, hn, k⟩ := h
    have hu := hu_of hr
    refine ⟨_, (pss_cons (ps_expr (pe_cx (c_require_numberB T) hr (by decide) rfl (passes_call (takes_of rfl rfl rfl rfl) (fun _ _ _ _ h => h)) (pa_cons (pe_fld (pv 0) (by rfl)) (pa_cons (pv 1) pa_nil))))
    (pss_cons (ps_if (pt_cmp (pc_din hu (pv 1) (pe_fld (pv 0) (by rfl))))
      (pss_one (ps_raise rfl (takes_of rfl rfl rfl rfl) (mk_There T)))
      pss_nil)
    (pss_one (ps_dput hu (pe_fld (pv 0) (by rfl)) (pv 1) pe_bl rfl)))), ?_⟩
    exact ⟨_, rfl, pw, _, dx, _, _, rfl, h1, wcl T, wn_width T, wl_width, _, rfl, W, x, rfl, hx, hn, k⟩
theorem m_Wire_offB (T : Txt P w K mg base) : MetX (L2.CX P w) P w K mg base 4 (WC K) "off" (spNumB K) := by
  obtain ⟨fd, F⟩ := T.t.def_ 6 (d := d_Wire_off)
  refine ⟨_, fd, _, wcl T, He.meth_ok (T.t.fact 81 (f := .meth "Wire" "off")), F.ok sc_Wire_off (fun vs H Q E h => ?_) (fun cdv A outer s H vs Q E hr h => ?_), F.bindsN fun _ _ _ _ _ _ us hl => match us, hl with | [_, _], _ => rfl⟩
  · obtain ⟨pw, dh, dl, x, W, kvs, lw, ms, lk, rfl, _⟩ := h
    rfl
  · obtain ⟨pw, dh, dl, x, W, kvs, lw, ms, lk, rfl, wa, hx, hn, k⟩ := h
    obtain ⟨⟨dx, h1⟩, h2, h3⟩ := id wa
    have hu := hu_of hr
    refine ⟨_, (pss_cons (ps_expr (pe_mx (m_Wire__require_hangingB T) hr (by decide) (pv 0) (passes_call (takes_of rfl rfl rfl rfl) (fun _ _ _ _ h => h)) (pa_cons (pv 1) pa_nil)))
    (pss_cons (ps_ddel (pe_fld (pv 0) (by rfl)) (pv 1))
    (pss_one (ps_fld (pv 0) (pe_lc (own := [("other", 2)]) (g := gName 2) rfl sc_Wire_off.nd (pi_list (pe_fld (pv 0) (by rfl))) (blkOk_by (N := ["self", "number", "other"]) (sc := defScope s_Wire_off) (own := [("other", 2)]) (by decide +kernel)) (fun _ _ _ _ _ => pg_name (i := 2) sc_Wire_off.nd rfl (Or.inl rfl)) (fun _ _ _ _ _ => pts_one (by exact (pt_cmpR op_ne (pv 2) (pv 1) (nomark _)))) (fun _ _ _ _ _ => by exact (pv 2))) rfl)))), ?_⟩
    exact ⟨_, rfl, pw, dx, _, rfl, h1, wx_reqh, _, rfl, pw, dh, dl, x, W, kvs, lw, ms, lk, rfl, wa, hx, hn, k⟩
theorem m_Wire_alarmB (T : Txt P w K mg base) : MetX (L2.CX P w) P w K mg base 4 (WC K) "alarm" (spNumB K) := by
  obtain ⟨fd, F⟩ := T.t.def_ 7 (d := d_Wire_alarm)
  refine ⟨_, fd, _, wcl T, He.meth_ok (T.t.fact 82 (f := .meth "Wire" "alarm")), F.ok sc_Wire_alarm (fun vs H Q E h => ?_) (fun cdv A outer s H vs Q E hr h => ?_), F.bindsN fun _ _ _ _ _ _ us hl => match us, hl with | [_, _], _ => rfl⟩
  · obtain ⟨pw, dh, dl, x, W, kvs, lw, ms, lk, rfl, _⟩ := h
    rfl
  · obtain ⟨pw, dh, dl, x, W, kvs, lw, ms, lk, rfl, wa, hx, hn, k⟩ := h
    obtain ⟨⟨dx, h1⟩, h2, h3⟩ := id wa
    have hu := hu_of hr
    refine ⟨_, (pss_cons (ps_expr (pe_mx (m_Wire__require_hangingB T) hr (by decide) (pv 0) (passes_call (takes_of rfl rfl rfl rfl) (fun _ _ _ _ h => h)) (pa_cons (pv 1) pa_nil)))
    (pss_one (ps_dput hu (pe_fld (pv 0) (by rfl)) (pv 1) pe_bl rfl))), ?_⟩
    exact ⟨_, rfl, pw, dx, _, rfl, h1, wx_reqh, _, rfl, pw, dh, dl, x, W, kvs, lw, ms, lk, rfl, wa, hx, hn, k⟩
theorem m_Wire_calmB (T : Txt P w K mg base) : MetX (L2.CX P w) P w K mg base 4 (WC K) "calm" (spNumB K) := by
  obtain ⟨fd, F⟩ := T.t.def_ 8 (d := d_Wire_calm)
  refine ⟨_, fd, _, wcl T, He.meth_ok (T.t.fact 83 (f := .meth "Wire" "calm")), F.ok sc_Wire_calm (fun vs H Q E h => ?_) (fun cdv A outer s H vs Q E hr h => ?_), F.bindsN fun _ _ _ _ _ _ us hl => match us, hl with | [_, _], _ => rfl⟩
  · obtain ⟨pw, dh, dl, x, W, kvs, lw, ms, lk, rfl, _⟩ := h
    rfl
  · obtain ⟨pw, dh, dl, x, W, kvs, lw, ms, lk, rfl, wa, hx, hn, k⟩ := h
    obtain ⟨⟨dx, h1⟩, h2, h3⟩ := id wa
    have hu := hu_of hr
    refine ⟨_, (pss_cons (ps_expr (pe_mx (m_Wire__require_hangingB T) hr (by decide) (pv 0) (passes_call (takes_of rfl rfl rfl rfl) (fun _ _ _ _ h => h)) (pa_cons (pv 1) pa_nil)))
    (pss_one (ps_dput hu (pe_fld (pv 0) (by rfl)) (pv 1) pe_bl rfl))), ?_⟩
    exact ⟨_, rfl, pw, dx, _, rfl, h1, wx_reqh, _, rfl, pw, dh, dl, x, W, kvs, lw, ms, lk, rfl, wa, hx, hn, k⟩
/-- a round of a walk that has nowhere to go -/
def spVRoundB (K : PySem.W.Frag) : Sp := fun vs H _ E => ∃ (qk pw qr qf qp dh dl : Addr) (W : Nat) (kvs : List (Str × Bool)) (lm : List Str) (sdm : Option (List Nat)) (lk : Int) (st : WkS) (n : Nat), vs = [.ref qk] ∧ VkOk K H qk pw qr qf qp dh dl W kvs lm sdm lk st n ∧ n ≤ 900000 ∧ st.sd = none ∧ st.rest = [] ∧ E (.ref (He.ga K "Over")) none H
theorem m_Walk_go_roundB (T : Txt P w K mg base) : MetX (L2.CX P w) P w K mg base 6 (VC K) "go_round" (spVRoundB K) := by
  obtain ⟨fd, F⟩ := T.t.def_ 19 (d := d_Walk_go_round)
  refine ⟨_, fd, _, vcl T, He.meth_ok (T.t.fact 101 (f := .meth "Walk" "go_round")), F.ok sc_Walk_go_round (fun vs H Q E h => ?_) (fun cdv A outer s H vs Q E hr h => ?_), F.bindsN fun _ _ _ _ _ _ us hl => match us, hl with | [_], _ => rfl⟩
  · obtain ⟨qk, pw, qr, qf, qp, dh, dl, W, kvs, lm, sdm, lk, st, n, rfl, _⟩ := h
    rfl
  · obtain ⟨qk, pw, qr, qf, qp, dh, dl, W, kvs, lm, sdm, lk, st, n, rfl, ok, hn, s1, s2, k⟩ := h
    refine ⟨_, (pss_cons (ps_set (i := 1) sc_Walk_go_round.nd rfl (Or.inl rfl) (pe_mx0 (m_Walk_step T) hr (by decide) (pv 0) (passes_call (takes_of rfl rfl rfl rfl) (fun _ _ _ _ h => h))))
    (pss_cons (ps_while (passes_of rfl) (pt_cmpR op_isN (pv 1) pe_non (nomark _))
      (pss_one (ps_set (i := 1) sc_Walk_go_round.nd rfl (Or.inl rfl) (pe_mx0 (m_Walk_step T) hr (by decide) (pv 0) (passes_call (takes_of rfl rfl rfl rfl) (fun _ _ _ _ h => h))))))
    (pss_one (ps_ret (pv 1))))), ?_⟩
    obtain ⟨lw, wa, pm⟩ := id ok.wa
    obtain ⟨⟨dx, o1⟩, _⟩ := id ok.wk
    have hl := ok.ok.len
    have hlm := ok.ok.lm
    refine ⟨_, rfl, qk, dx, _, rfl, o1, vx_step, qk, pw, qr, qf, qp, dh, dl, W, kvs, lw, _, lk, st, rfl, ok.wk, wa, ok.nl, ok.kd, ok.w, ok.kl, ok.nd, ok.num, by rw [pm.length_eq]; exact hlm, by omega, by omega, by omega, ok.ok.rest, fun l e => (by rw [s1] at e; cases e), fun _ _ => k, fun z => absurd s2 (z s1)⟩
end
end B

set_option Elab.async false
set_option linter.all false
set_option maxRecDepth 100000
set_option maxHeartbeats 4000000
namespace B
open PySem PySem.Spec PyProof.Rows L2
open SX (S)
/-! ### the law's own turn -/
def rg (kvs : List (Str × Bool)) (x : Str) : Bool := (getB kvs x).getD false
theorem rg_lis {kvs : List (Str × Bool)} (hn : (kvs.map (·.1)).Nodup) : lisB kvs false = (kvs.map (·.1)).filter (rg kvs) := by
  unfold lisB
  rw [List.filter_map]
  congr 1
  refine List.filter_congr fun p hp => ?_
  obtain ⟨i, hi⟩ := List.getElem?_of_mem hp
  show (false || p.2) = (getB kvs p.1).getD false
  rw [get_at hn (i := i) (x := p.1) (b := p.2) hi]
  rfl
theorem flt_go {H : Hp} {D : Addr} {xs : List Str} {f : Str → Bool} {i : Nat} {x : Str} (hx : xs[i]? = some x) (hl : xs.length ≤ 100000) (c : f x = true) : ∃ acc, (upd H D (.lst (((xs.take i).filter f).map V.str))) D = some (.lst acc) ∧ acc.length < sizeLine ∧ upd (upd H D (.lst (((xs.take i).filter f).map V.str))) D (.lst (acc ++ [V.str x])) = upd H D (.lst (((xs.take (i + 1)).filter f).map V.str)) := by
  refine ⟨_, upd_same, ?_, ?_⟩
  · rw [List.length_map]
    have h1 := List.length_filter_le f (xs.take i)
    rw [List.length_take] at h1
    exact Nat.lt_of_le_of_lt (show _ ≤ 100000 by omega) (by decide)
  · rw [upd_upd, filter_step _ hx, if_pos c, List.map_append]
    rfl
theorem flt_no {H : Hp} {D : Addr} {xs : List Str} {f : Str → Bool} {i : Nat} {x : Str} (hx : xs[i]? = some x) (c : f x = false) : upd H D (.lst (((xs.take i).filter f).map V.str)) = upd H D (.lst (((xs.take (i + 1)).filter f).map V.str)) := by
  rw [filter_step _ hx, if_neg (by rw [c]; exact Bool.false_ne_true), List.append_nil]
section
variable {P : Program} {w : World} {K : PySem.W.Frag} {mg : Str → Option Value} {base : Heap}
def spLTurn : Sp := fun vs H Q _ => ∃ (pk pr pf pp pm dt ml : Addr) (W : Nat) (kvs : List (Str × Bool)) (lm : List Str) (sdm : Option (List Nat)) (lk : Int) (st : WkS) (n : Nat) (ring : List Str), vs = [.ref pm, .ref pk] ∧ WkAt H pk pr pf pp st ∧ MdAt H pm dt ml W kvs lm sdm lk ∧ pm ≠ dt ∧ pk ≠ pm ∧ pk ≠ dt ∧ (ml ≠ pr ∧ ml ≠ pf ∧ ml ≠ pp) ∧ (kvs.map (·.1)).Nodup ∧ kvs.length ≤ 41 ∧ (∀ x ∈ kvs.map (·.1), Num W x) ∧ W ≤ 12 ∧ WkOk W [] none st n ∧ n ≤ 800000 ∧ st.sd = none ∧ lm.length ≤ 100 ∧ ring.Perm (lisB kvs false) ∧ sortedS ring = true ∧
  (∀ (x : Str) (r : List Str), ring = x :: r → ∀ (t : Addr) (H' : Hp), H t = none → H' t = some (.tup [.str "alarm", .str x]) → MdAt H' pm dt ml W (putB kvs x false) lm sdm (lk + W) → Frm [pm, dt] H H' → Q (.ref t) H') ∧
  (ring = [] → st.rest = [] → ∀ (t : Addr) (H' : Hp), H t = none → H' t = some (.tup [.str "done"]) → MdAt H' pm dt ml W kvs lm sdm (lk + 1) → Frm [pm] H H' → Q (.ref t) H') ∧
  (ring = [] → st.rest ≠ [] → ∀ (R : (WkS × Tld) × List Str × Option (List Nat) × Int) (v : V) (ml' : Addr) (H' : Hp), R = roundF W kvs W [] (lk + 1) st → (ml' = ml ∨ H ml' = none) → WkAt H' pk pr pf pp R.1.1 → TldAt H' R.1.2 v → MdAt H' pm dt ml' W kvs R.2.1 R.2.2.1 R.2.2.2 → Frm [pk, pr, pf, pp, pm] H H' → Q v H')
theorem c_lturn (T : Txt P w K mg base) : CalX CX0 P w K mg base 4 "_law_turn" spLTurn := by
  obtain ⟨fd, F⟩ := T.t.def_ 58 (d := d_lturn)
  refine ⟨_, fd, _, F.ok sc_lturn (fun vs H Q E h => ?_) (fun cdv A outer s H vs Q E hr h => ?_), He.glo_ok T.X T.G (T.t.fact 26), F.kp, F.bindsN fun _ _ _ _ _ _ us hl => match us, hl with | [_, _], _ => rfl⟩
  · obtain ⟨pk, pr, pf, pp, pm, dt, ml, W, kvs, lm, sdm, lk, st, n, ring, rfl, _⟩ := h
    rfl
  · obtain ⟨pk, pr, pf, pp, pm, dt, ml, W, kvs, lm, sdm, lk, st, n, ring, rfl, wk, ma, npd, nkm, nkd, nml, hnd, hkl, hnum, hW, ok, hn, sdn, hlm, rpm, rsrt, k1, k2, k3⟩ := h
    have hu := hu_of hr
    refine ⟨_, PSs.nox (pss_cons (ps_setLc (i := 2) (own := [("_law_number_here", 3)]) (g := gName 3) rfl sc_lturn.nd rfl rfl (sw_true rfl rfl rfl (by decide +kernel)) (pi_list (pe_callB (call_sortedD rfl) (by rfl) (n_sorted T) (by decide +kernel) (pa_cons (pe_dget hu (pv 0) pe_str (fun _ _ => rfl)) pa_nil))) (blkOk_by (N := ["_law_m", "_law_w", "_law_ringing", "_law_number_here"]) (sc := defScope s_lturn) (own := [("_law_number_here", 3)]) (by decide +kernel)) (fun _ _ _ _ _ => pg_name (i := 3) sc_lturn.nd rfl (Or.inl rfl)) (fun _ _ _ _ _ => pts_one (by exact (pt_val (pe_dget hu (pe_dget hu (pv 0) pe_str (fun _ _ => rfl)) (pv 3) (fun _ _ => rfl))))) (fun _ _ _ _ _ => by exact (pv 3)))
    (pss_cons (ps_dput hu (pv 0) pe_str (pe_op op_add (pe_dget hu (pv 0) pe_str (fun _ _ => rfl)) pe_int) rfl)
    (pss_cons (ps_if (pt_cmpR (op_neD hr.units) (pv 2) (pe_lst pa_nil) (nomark _))
      (pss_cons (ps_dput hu (pv 0) pe_str (pe_op op_sub (pe_op op_add (pe_dget hu (pv 0) pe_str (fun _ _ => rfl)) (pe_dget hu (pv 0) pe_str (fun _ _ => rfl))) pe_int) rfl)
      (pss_cons (ps_dput hu (pe_dget hu (pv 0) pe_str (fun _ _ => rfl)) (pe_ix ix_list (pv 2) pe_int (fun _ _ => rfl)) pe_bl rfl)
      (pss_one (ps_ret (pe_tup (pa_cons pe_str (pa_cons (pe_ix ix_list (pv 2) pe_int (fun _ _ => rfl)) pa_nil)))))))
      pss_nil)
    (pss_one (ps_ret (pe_ifExp (pt_cmpR (op_eqD hr.units) (pe_dget hu (pv 1) pe_str (fun _ _ => rfl)) (pe_lst pa_nil) (nomark _)) (pe_tup (pa_cons pe_str pa_nil)) (pe_cx (c_lround T) hr (by decide) rfl pass0 (pa_cons (pv 1) (pa_cons (pv 0) pa_nil))))))))), ?_⟩
    obtain ⟨m1, m2, m3⟩ := id ma
    refine ⟨_, rfl, pm, _, rfl, md_things m1, dt, kv kvs, kvs.map (·.1), rfl, .inl m3, keys_kv kvs, by rw [List.length_map]; omega, fun ys p pys sys hp => ?_⟩
    have npp : pm ≠ p := ne_of_none m1 hp
    have ndp : dt ≠ p := ne_of_none m3 hp
    have nlp : ml ≠ p := ne_of_none m2 hp
    refine ⟨p, rfl, ⟨_, SqL.of upd_same⟩, fun D hD => ?_⟩
    have npD : p ≠ D := ne_of_none upd_same hD
    have g1 : (upd H p (.lst (ys.map V.str))) pm = some (.dK (mkv W dt ml (sdV sdm) lk)) := by rw [upd_ne npp]; exact m1
    have g3 : (upd H p (.lst (ys.map V.str))) dt = some (.dK (kv kvs)) := by rw [upd_ne ndp]; exact m3
    have nmD : pm ≠ D := ne_of_none g1 hD
    have ndD : dt ≠ D := ne_of_none g3 hD
    have yl : ys.length ≤ 41 := by
      rw [pys.length_eq, List.length_map]
      exact hkl
    refine lc_list (K := K) (a := p) (xs := ys.map V.str) (fun i H' => H' = upd (upd H p (.lst (ys.map V.str))) D (.lst (((ys.take i).filter (rg kvs)).map V.str))) rfl (fun i H' _ e => by rw [e]; exact SqL.of (by rw [upd_ne npD]; exact upd_same)) ?_ ?_
    · rintro i y H3 hi e
      subst e
      obtain ⟨x, hx, rfl⟩ := at_map hi
      have hh : hasK kvs x = true := has_key.mpr (pys.mem_iff.mp (List.mem_of_getElem? hx))
      obtain ⟨b, hb⟩ := has_get hh
      have er : rg kvs x = b := by
        unfold rg
        rw [hb]
        rfl
      refine ⟨rfl, _, rfl, pm, _, rfl, md_things (by rw [upd_ne nmD]; exact g1), _, rfl, dt, _, rfl, dg_get (.inl (by rw [upd_ne ndD]; exact g3)) hb, b, rfl, iteB (fun cb => ⟨_, rfl, flt_go hx (by omega) (er.trans cb)⟩) (fun cb => flt_no hx (er.trans cb))⟩
    rintro H3 e3
    rw [List.length_map, List.take_length] at e3
    have eR : ys.filter (rg kvs) = ring := by
      refine sorted_eq (pw_sorted ((sorted_pw sys).filter _)) rsrt ?_
      refine (pys.filter _).trans ?_
      rw [← rg_lis hnd]
      exact rpm.symm
    rw [eR] at e3
    have f03 : Frm [] H H3 := by
      rw [e3]
      exact (Frm.of (same_upd hp)).trans (Frm.of (same_upd hD))
    have hD3 : H3 D = some (.lst (ring.map V.str)) := by
      rw [e3]
      exact upd_same
    clear e3
    have ma3 := ma.stay (f03.toT .nil (K := K)) .nil (by simp) (by simp)
    have wk3 := wk.stay f03 .nil (by simp) (by simp) (by simp) (by simp)
    -- looks
    refine ⟨_, rfl, pm, _, rfl, md_looks ma3.ob, _, 1, rfl, rfl, _, rfl, pm, _, rfl, mdp_looks ma3.ob, ?_⟩
    have f34 : Frm [pm] H3 (upd H3 pm (.dK (mkv W dt ml (sdV sdm) (lk + 1)))) := (Frm.refl _ _).put (by simp)
    have nl3 : NL [pm] H3 := .cons ma3.ob rfl .nil
    have e4 : (upd H3 pm (.dK (mkv W dt ml (sdV sdm) (lk + 1)))) pm = some (.dK (mkv W dt ml (sdV sdm) (lk + 1))) := upd_same
    revert f34 e4
    generalize (upd H3 pm _) = H4
    intro f34 e4
    have npD0 : D ≠ pm := (ne_of_none m1 (upd_back hD)).symm
    have ma4 : MdAt H4 pm dt ml W kvs lm sdm (lk + 1) := ⟨e4, f34.at nl3 ma3.li rfl (nl_strs lm), f34.k _ _ ma3.dc rfl (by simpa using npd.symm)⟩
    have hD4 := f34.k _ _ hD3 rfl (by simpa using npD0)
    have wk4 := wk3.stay f34 nl3 (by simpa using nkm) (by simpa using ne_of wk3.rs ma3.ob (by intro y; cases y)) (by simpa using ne_of wk3.fd ma3.ob (by intro y; cases y)) (by
      obtain ⟨ts, e, _⟩ := wk3.pa
      simpa using ne_of e ma3.ob (by intro y; cases y))
    have rok : ∀ x ∈ ring, PyData.strOk x = true := fun x hx => strOk_num (hnum x (by
      have := rpm.mem_iff.mp hx
      rw [rg_lis hnd] at this
      exact (List.mem_filter.mp this).1))
    -- some ring
    refine ⟨_, rfl, Nat.zero_le _, fun E1 hE1 => ?_⟩
    have g5 : Frm [] H4 (upd H4 E1 (.lst [])) := Frm.of (same_upd hE1)
    refine ⟨_, _, .lst (SqL.of (same_upd hE1 _ _ hD4)) (dp_strs ring), .lst (SqL.of upd_same) .nil, shaped_strs rok, by decide +kernel, _, rfl, ?_⟩
    rw [eqv_empty]
    have ma5 := ma4.stay (g5.toT .nil (K := K)) .nil (by simp) (by simp)
    have wk5 := wk4.stay g5 .nil (by simp) (by simp) (by simp) (by simp)
    have hD5 := g5.k _ _ hD4 rfl (by simp)
    have f05 : Frm [pm] H (upd H4 E1 (.lst [])) := ((f03.mono (by simp)).trans f34).trans (g5.mono (by simp))
    revert ma5 wk5 hD5 f05
    generalize (upd H4 E1 (.lst [])) = H5
    intro ma5 wk5 hD5 f05
    cases ring with
    | nil =>
      refine ⟨_, rfl, pk, _, rfl, wk_rest wk5.ob, Nat.zero_le _, fun E2 hE2 => ?_⟩
      have okb : ∀ x ∈ st.rest.map S, PyData.strOk x = true := fun x hx => by
        obtain ⟨g, hg, rfl⟩ := List.mem_map.mp hx
        exact strOk_bits (ok.rest g hg).2
      have g6 : Frm [] H5 (upd H5 E2 (.lst [])) := Frm.of (same_upd hE2)
      refine ⟨_, _, .lst (SqL.of (same_upd hE2 _ _ (by rw [← txs]; exact wk5.rs))) (dp_strs (st.rest.map S)), .lst (SqL.of upd_same) .nil, shaped_strs okb, by decide +kernel, _, rfl, ?_⟩
      rw [eqv_txs]
      have ma6 := ma5.stay (g6.toT .nil (K := K)) .nil (by simp) (by simp)
      have wk6 := wk5.stay g6 .nil (by simp) (by simp) (by simp) (by simp)
      have f06 := f05.trans (g6.mono (by simp))
      revert ma6 wk6 f06
      generalize (upd H5 E2 (.lst [])) = H6
      intro ma6 wk6 f06
      cases hr2 : st.rest with
      | nil =>
        refine ⟨by show 1 ≤ sizeLine; decide, fun t htt => ?_⟩
        have g7 : Frm [] H6 (upd H6 t (.tup [.str "done"])) := Frm.of (same_upd htt)
        exact k2 rfl hr2 t _ (f06.b _ htt) upd_same (ma6.stay (g7.toT .nil (K := K)) .nil (by simp) (by simp)) (f06.trans (g7.mono (by simp)))
      | cons g gr =>
        have hne : st.rest ≠ [] := fun z => by rw [z] at hr2; cases hr2
        have ok6 : WkOk W lm sdm st n := ⟨ok.rest, fun l e => (by rw [sdn] at e; cases e), ok.len, hlm⟩
        refine ⟨_, rfl, _, rfl, pk, pr, pf, pp, pm, dt, ml, W, n, kvs, lm, sdm, _, st, rfl, wk6, ma6, npd, nkm, nkd, nml, hnd, by omega, hnum, hW, ok6, by omega, fun _ => hne, fun v ml' H7 hml' wk7 tl7 ma7 f7 => ?_⟩
        rw [round_lm sdn] at wk7 tl7 ma7
        exact k3 rfl hne _ v ml' H7 rfl (hml'.imp_right fun e => f06.b _ e) wk7 tl7 ma7 ((f06.mono (by simp)).trans f7)
    | cons x r =>
      refine ⟨_, rfl, pm, _, rfl, md_looks ma5.ob, _, rfl, pm, _, rfl, md_width ma5.ob, _, _, rfl, rfl, _, 1, rfl, rfl, _, rfl, pm, _, rfl, mdp_looks ma5.ob, ?_⟩
      have f56 : Frm [pm] H5 (upd H5 pm (.dK (mkv W dt ml (sdV sdm) (lk + 1 + W - 1)))) := (Frm.refl _ _).put (by simp)
      have nl5 : NL [pm] H5 := .cons ma5.ob rfl .nil
      have e6 : (upd H5 pm (.dK (mkv W dt ml (sdV sdm) (lk + 1 + W - 1)))) pm = some (.dK (mkv W dt ml (sdV sdm) (lk + 1 + W - 1))) := upd_same
      revert f56 e6
      generalize (upd H5 pm _) = H6
      intro f56 e6
      rw [show lk + 1 + (W : Int) - 1 = lk + W by omega] at e6
      have ma6 : MdAt H6 pm dt ml W kvs lm sdm (lk + W) := ⟨e6, f56.at nl5 ma5.li rfl (nl_strs lm), f56.k _ _ ma5.dc rfl (by simpa using npd.symm)⟩
      have hD6 := f56.k _ _ hD5 rfl (by simpa using npD0)
      have nDd : D ≠ dt := ne_of hD6 ma6.dc (by intro y; cases y)
      have nmd : ml ≠ dt := ne_of ma6.li ma6.dc (by intro y; cases y)
      have hat : atI ((x :: r).map V.str) 0 = some (.str x) := atI_nat (j := 0) rfl
      refine ⟨_, rfl, pm, _, rfl, md_things ma6.ob, _, rfl, D, _, 0, .str x, rfl, rfl, SqL.of hD6, hat, dt, _, rfl, dp_put ma6.dc (by omega) x false, ?_⟩
      refine ⟨_, rfl, D, _, 0, .str x, rfl, rfl, SqL.of (by rw [upd_ne nDd]; exact hD6), hat, by show 2 ≤ sizeLine; decide, fun t htt => ?_⟩
      have ma7 : MdAt (upd H6 dt (.dK (kv (putB kvs x false)))) pm dt ml W (putB kvs x false) lm sdm (lk + W) := ⟨by rw [upd_ne npd]; exact ma6.ob, by rw [upd_ne nmd]; exact ma6.li, upd_same⟩
      have f67 : Frm [pm, dt] H6 (upd H6 dt (.dK (kv (putB kvs x false)))) := (Frm.refl _ _).put (by simp)
      have g8 : Frm [] (upd H6 dt (.dK (kv (putB kvs x false)))) (upd (upd H6 dt (.dK (kv (putB kvs x false)))) t (.tup [.str "alarm", .str x])) := Frm.of (same_upd htt)
      have f06 : Frm [pm, dt] H (upd H6 dt (.dK (kv (putB kvs x false)))) := ((f05.trans f56).mono (by simp)).trans f67
      exact k1 x r rfl t _ (f06.b _ htt) upd_same (ma7.stay (g8.toT .nil (K := K)) .nil (by simp) (by simp)) (f06.trans (g8.mono (by simp)))
end
end B

set_option Elab.async false
set_option linter.all false
set_option maxRecDepth 100000
set_option maxHeartbeats 4000000
namespace B
open PySem PySem.Spec PyProof.Rows L2
open SX (S)
/-! ### rows that may hold a whole number -/
inductive RowV where
  | txt (xs : List Str)
  | one (n : Int)
  | two (a : Str) (n : Int)
def RowV.vs : RowV → List V
  | .txt xs => xs.map V.str
  | .one n => [.int n]
  | .two a n => [.str a, .int n]
def RowV.ok : RowV → Bool
  | .txt xs => stepB xs
  | _ => false
def RowV.sz : RowV → Prop
  | .txt xs => ∀ x ∈ xs, x.length ≤ 1000000
  | _ => True
section
variable {P : Program} {w : World} {K : PySem.W.Frag} {mg : Str → Option Value} {base : Heap}
def spSomeI : Sp := fun vs H Q _ => ∃ n : Int, vs = [.int n] ∧ Q (.bl false) H
theorem c_is_some_numberI (T : Txt P w K mg base) : CalX CX0 P w K mg base 2 "is_some_number" spSomeI := by
  obtain ⟨fd, F⟩ := T.t.def_ 34 (d := d_is_some_number)
  refine ⟨_, fd, _, F.ok sc_is_some_number (fun vs H Q E h => ?_) (fun cdv A outer s H vs Q E hr h => ?_), He.glo_ok T.X T.G (T.t.fact 6), F.kp, F.bindsN fun _ _ _ _ _ _ us hl => match us, hl with | [_], _ => rfl⟩
  · obtain ⟨x, rfl, _⟩ := h
    rfl
  · obtain ⟨n, rfl, k⟩ := h
    refine ⟨_, PSs.nox (pss_cons (ps_if (PW.pt (pw_or (pt_not (pt_val (pe_callB call_isi (by rfl) (n_isinstance T) (by decide +kernel) (pa_cons (pv 0) (pa_cons (pe_bltn (v := .ty "str") (u := .type "str") rfl (n_str T) (by decide +kernel) rfl) pa_nil))))) (pw_or1 (pt_not (pt_chain op_le op_le (g_LEAST_WIDTH T) (pe_callB call_len_str (by rfl) (n_len T) PySem.boot_len (pa_cons (pv 0) pa_nil)) (g_GREATEST_WIDTH T))))))
      (pss_one (ps_ret pe_bl))
      pss_nil)
    (pss_one (ps_ret (pe_cx (c_isnumQ T) hr (by decide) rfl pass0 (pa_cons (pe_callB call_len_str (by rfl) (n_len T) PySem.boot_len (pa_cons (pv 0) pa_nil)) (pa_cons (pv 0) pa_nil)))))), ?_⟩
    refine ⟨_, rfl, .int n, .ty "str", .type "int", .type "str", false, rfl, .ty "str", .base (.int n), kit_ty (by decide +kernel), false, rfl, ?_⟩
    exact k
def spStepV (K : PySem.W.Frag) : Sp := fun vs H Q _ => ∃ (p : Addr) (r : RowV), vs = [.ref p] ∧ H p = some (.tup r.vs) ∧ r.sz ∧ Tb K H ∧ ∀ H', FrT K [] H H' → Q (.bl r.ok) H'
theorem c_is_stepV (T : Txt P w K mg base) : CalX CX0 P w K mg base 3 "is_step" (spStepV K) := by
  obtain ⟨fd, F⟩ := T.t.def_ 33 (d := d_is_step)
  refine ⟨_, fd, _, F.ok sc_is_step (fun vs H Q E h => ?_) (fun cdv A outer s H vs Q E hr h => ?_), He.glo_ok T.X T.G (T.t.fact 5), F.kp, F.bindsN fun _ _ _ _ _ _ us hl => match us, hl with | [_], _ => rfl⟩
  · obtain ⟨p, r, rfl, _⟩ := h
    rfl
  · obtain ⟨p, r, rfl, hp, hx, ht, k⟩ := h
    have kH := k H (FrT.refl _ _ _)
    match r, hp, hx, k, kH with
    | .one n, hp, hx, k, kH =>
      have hp : H p = some (.tup [V.int n]) := hp
      refine ⟨_, PSs.nox (pss_cons (ps_if (pt_cmpR op_eq (pe_callB call_len_seq (by rfl) (n_len T) PySem.boot_len (pa_cons (pv 0) pa_nil)) pe_int (nomark _))
      (pss_one (ps_ret (pe_cmpR op_in_seq (pe_ix ix_tup (pv 0) pe_int (fun _ _ => rfl)) (g_WORDS_ALONE T) rfl)))
      pss_nil)
    (pss_cons (ps_if (pt_cmpR op_ne (pe_callB call_len_seq (by rfl) (n_len T) PySem.boot_len (pa_cons (pv 0) pa_nil)) pe_int (nomark _))
      (pss_one (ps_ret pe_bl))
      pss_nil)
    (pss_cons (ps_asg (pv 0) (pg_tup rfl (pgs_cons (pg_name (i := 1) sc_is_step.nd rfl (Or.inl rfl)) (pgs_cons (pg_name (i := 2) sc_is_step.nd rfl (Or.inl rfl)) pgs_nil))))
    (pss_cons (ps_if (pt_cmpR op_eq (pv 1) pe_str (nomark _))
      (pss_one (ps_ret (pe_cmpR op_in_seq (pv 2) (g_KINDS T) rfl)))
      pss_nil)
    (pss_one (ps_ret (pe_and (pe_cmpR op_in_seq (pv 1) (g_WORDS_OF_THINGS T) rfl) (pe_one (pe_cx (c_is_some_number T) hr (by decide) rfl pass0 (pa_cons (pv 2) pa_nil)))))))))), ?_⟩
      refine ⟨_, rfl, p, _, rfl, .inr (SqT.of hp), rfl, _, rfl, ?_⟩
      rw [int_dec, decide_eq_true (by rfl)]
      refine ⟨_, rfl, p, _, 0, .int n, rfl, rfl, SqT.of hp, rfl, ?_⟩
      refine ⟨_, _, rfl, .inr (tup_KQ (xc_WORDS_ALONE T) (by show 4 ≤ sizeLine; decide) H), rfl, rfl, ?_⟩
      exact kH
    | .two a n, hp, hx, k, kH =>
      have hp : H p = some (.tup [V.str a, V.int n]) := hp
      refine ⟨_, PSs.nox (pss_cons (ps_if (pt_cmpR op_eq (pe_callB call_len_seq (by rfl) (n_len T) PySem.boot_len (pa_cons (pv 0) pa_nil)) pe_int (nomark _))
      (pss_one (ps_ret (pe_cmpR op_in_seq (pe_ix ix_tup (pv 0) pe_int (fun _ _ => rfl)) (g_WORDS_ALONE T) rfl)))
      pss_nil)
    (pss_cons (ps_if (pt_cmpR op_ne (pe_callB call_len_seq (by rfl) (n_len T) PySem.boot_len (pa_cons (pv 0) pa_nil)) pe_int (nomark _))
      (pss_one (ps_ret pe_bl))
      pss_nil)
    (pss_cons (ps_asg (pv 0) (pg_tup rfl (pgs_cons (pg_name (i := 1) sc_is_step.nd rfl (Or.inl rfl)) (pgs_cons (pg_name (i := 2) sc_is_step.nd rfl (Or.inl rfl)) pgs_nil))))
    (pss_cons (ps_if (pt_cmpR op_eq (pv 1) pe_str (nomark _))
      (pss_one (ps_ret (pe_cmpR op_in_seq (pv 2) (g_KINDS T) rfl)))
      pss_nil)
    (pss_one (ps_ret (pe_and (pe_cmpR op_in_seq (pv 1) (g_WORDS_OF_THINGS T) rfl) (pe_one (pe_cx (c_is_some_numberI T) hr (by decide) rfl pass0 (pa_cons (pv 2) pa_nil)))))))))), ?_⟩
      refine ⟨_, rfl, p, _, rfl, .inr (SqT.of hp), rfl, _, rfl, ?_⟩
      rw [int_dec, decide_eq_false (show ¬ ((([V.str a, V.int n]).length : Nat) : Int) = 1 from (by decide : ¬ ((2 : Nat) : Int) = 1))]
      refine ⟨_, rfl, p, _, rfl, .inr (SqT.of hp), rfl, _, rfl, ?_⟩
      refine ⟨_, rfl, p, _, rfl, SqT.of hp, rfl, _, _, rfl, _, _, rfl, rfl, ?_⟩
      refine ⟨_, rfl, rfl, _, rfl, ?_⟩
      rw [str_dec]
      refine iteB (fun c => ?_) (fun c => ?_)
      · refine ⟨_, rfl, _, _, rfl, .inr (tup_KQ (xc_KINDS T) (by show 2 ≤ sizeLine; decide) H), rfl, rfl, ?_⟩
        exact kH
      · refine ⟨_, rfl, _, _, rfl, .inr (tup_KQ (xc_WORDS_OF_THINGS T) (by show 4 ≤ sizeLine; decide) H), rfl, rfl, ?_⟩
        refine ⟨inV (.str a) (thingV.map V.str), rfl, iteB (fun c2 => ?_) (fun c2 => ?_)⟩
        · exact ⟨_, rfl, n, rfl, kH⟩
        · exact kH
    | .txt xs, hp, hx, k, kH =>
      have hp : H p = some (.tup (xs.map V.str)) := hp
      have hx : ∀ x ∈ xs, x.length ≤ 1000000 := hx
      refine ⟨_, PSs.nox (pss_cons (ps_if (pt_cmpR op_eq (pe_callB call_len_seq (by rfl) (n_len T) PySem.boot_len (pa_cons (pv 0) pa_nil)) pe_int (nomark _))
      (pss_one (ps_ret (pe_cmpR op_in_seq (pe_ix ix_tup (pv 0) pe_int (fun _ _ => rfl)) (g_WORDS_ALONE T) rfl)))
      pss_nil)
    (pss_cons (ps_if (pt_cmpR op_ne (pe_callB call_len_seq (by rfl) (n_len T) PySem.boot_len (pa_cons (pv 0) pa_nil)) pe_int (nomark _))
      (pss_one (ps_ret pe_bl))
      pss_nil)
    (pss_cons (ps_asg (pv 0) (pg_tup rfl (pgs_cons (pg_name (i := 1) sc_is_step.nd rfl (Or.inl rfl)) (pgs_cons (pg_name (i := 2) sc_is_step.nd rfl (Or.inl rfl)) pgs_nil))))
    (pss_cons (ps_if (pt_cmpR op_eq (pv 1) pe_str (nomark _))
      (pss_one (ps_ret (pe_cmpR op_in_seq (pv 2) (g_KINDS T) rfl)))
      pss_nil)
    (pss_one (ps_ret (pe_and (pe_cmpR op_in_seq (pv 1) (g_WORDS_OF_THINGS T) rfl) (pe_one (pe_cx (c_is_some_number T) hr (by decide) rfl pass0 (pa_cons (pv 2) pa_nil)))))))))), ?_⟩
      refine ⟨_, rfl, p, _, rfl, .inr (SqT.of hp), rfl, _, rfl, ?_⟩
      rw [int_dec]
      match xs, hp, hx, k, kH with
      | [], hp, hx, k, kH =>
        refine ⟨_, rfl, p, _, rfl, .inr (SqT.of hp), rfl, _, rfl, ?_⟩
        exact kH
      | [a], hp, hx, k, kH =>
        rw [decide_eq_true (by rfl)]
        refine ⟨_, rfl, p, _, 0, .str a, rfl, rfl, SqT.of hp, rfl, ?_⟩
        refine ⟨_, _, rfl, .inr (tup_KQ (xc_WORDS_ALONE T) (by show 4 ≤ sizeLine; decide) H), rfl, rfl, ?_⟩
        exact kH
      | [a, b], hp, hx, k, kH =>
        rw [decide_eq_false (show ¬ ((([a, b].map V.str).length : Nat) : Int) = 1 from (by decide : ¬ ((2 : Nat) : Int) = 1))]
        refine ⟨_, rfl, p, _, rfl, .inr (SqT.of hp), rfl, _, rfl, ?_⟩
        refine ⟨_, rfl, p, _, rfl, SqT.of hp, rfl, _, _, rfl, _, _, rfl, rfl, ?_⟩
        refine ⟨_, rfl, rfl, _, rfl, ?_⟩
        rw [str_dec]
        have es : (RowV.txt [a, b]).ok = if a = "walk" then inV (.str b) (kindV.map V.str) else inV (.str a) (thingV.map V.str) && someB b := rfl
        rw [es] at k
        refine iteB (fun c => ?_) (fun c => ?_)
        · rw [if_pos (of_decide_eq_true c)] at k
          refine ⟨_, rfl, _, _, rfl, .inr (tup_KQ (xc_KINDS T) (by show 2 ≤ sizeLine; decide) H), rfl, rfl, ?_⟩
          exact k H (FrT.refl _ _ _)
        · rw [if_neg (of_decide_eq_false c)] at k
          refine ⟨_, rfl, _, _, rfl, .inr (tup_KQ (xc_WORDS_OF_THINGS T) (by show 4 ≤ sizeLine; decide) H), rfl, rfl, ?_⟩
          refine ⟨inV (.str a) (thingV.map V.str), rfl, iteB (fun c2 => ?_) (fun c2 => ?_)⟩
          · rw [c2] at k
            exact ⟨_, rfl, b, rfl, hx b (by simp), ht, k⟩
          · rw [c2] at k
            exact k H (FrT.refl _ _ _)
      | a :: b :: c :: r, hp, hx, k, kH =>
        rw [decide_eq_false (show ¬ ((((a :: b :: c :: r).map V.str).length : Nat) : Int) = 1 by rw [List.length_map, List.length_cons, List.length_cons, List.length_cons]; omega)]
        refine ⟨_, rfl, p, _, rfl, .inr (SqT.of hp), rfl, _, rfl, ?_⟩
        rw [int_dec, decide_eq_false (show ¬ ((((a :: b :: c :: r).map V.str).length : Nat) : Int) = 2 by rw [List.length_map, List.length_cons, List.length_cons, List.length_cons]; omega)]
        exact kH
/-- rows at a list -/
def RV (H : Hp) (p : Addr) (zs : List (Addr × RowV)) : Prop := H p = some (.lst (zs.map fun z => V.ref z.1)) ∧ ∀ z ∈ zs, H z.1 = some (.tup z.2.vs)
theorem RV.keep {H H' : Hp} {S : List Addr} {p : Addr} {zs : List (Addr × RowV)} (h : RV H p zs) (f : FrT K S H H') (hp : p ∉ S) (hz : ∀ z ∈ zs, z.1 ∉ S) : RV H' p zs := ⟨f.k _ _ h.1 rfl hp, fun z m => f.k _ _ (h.2 z m) rfl (hz z m)⟩
theorem RV.keep0 {H H' : Hp} {p : Addr} {zs : List (Addr × RowV)} (h : RV H p zs) (f : FrT K [] H H') : RV H' p zs := h.keep f (by simp) (fun _ _ => by simp)
def badV (i : Nat) (r : RowV) : Bool := decide (i = 200) || !r.ok
def FstV (rs : List RowV) (i : Nat) : Prop := (∃ x, rs[i]? = some x ∧ badV i x = true) ∧ ∀ j y, j < i → rs[j]? = some y → badV j y = false
def NoV (rs : List RowV) : Prop := ∀ i x, rs[i]? = some x → badV i x = false
theorem FstV.le {rs : List RowV} {i : Nat} (h : FstV rs i) : i ≤ 200 := by
  obtain ⟨⟨x, hx, _⟩, h2⟩ := h
  rcases Nat.lt_or_ge 200 i with z | z
  · have hi := (List.getElem?_eq_some_iff.mp hx).1
    have q := h2 200 rs[200] z (List.getElem?_eq_getElem (by omega))
    unfold badV at q
    rw [decide_eq_true rfl] at q
    cases q
  · exact z
theorem NoV.le {rs : List RowV} (h : NoV rs) : rs.length ≤ 200 := by
  rcases Nat.lt_or_ge 200 rs.length with z | z
  · have q := h 200 rs[200] (List.getElem?_eq_getElem z)
    unfold badV at q
    rw [decide_eq_true rfl] at q
    cases q
  · exact z
def spReqStepsV (K : PySem.W.Frag) : Sp := fun vs H Q E => ∃ (p : Addr) (zs : List (Addr × RowV)), vs = [.ref p] ∧ RV H p zs ∧ (∀ z ∈ zs, z.2.sz) ∧ Tb K H ∧
  (NoV (zs.map (·.2)) → ∀ H', FrT K [] H H' → Q .non H') ∧ ∀ i, FstV (zs.map (·.2)) i → ErrS K "BadStep" "number" i H E
theorem c_require_stepsV (T : Txt P w K mg base) : CalX (L2.CX P w) P w K mg base 4 "require_steps" (spReqStepsV K) := by
  obtain ⟨fd, F⟩ := T.t.def_ 32 (d := d_require_steps)
  refine ⟨_, fd, _, F.ok sc_require_steps (fun vs H Q E h => ?_) (fun cdv A outer s H vs Q E hr h => ?_), He.glo_ok T.X T.G (T.t.fact 4), F.kp, F.bindsN fun _ _ _ _ _ _ us hl => match us, hl with | [_], _ => rfl⟩
  · obtain ⟨p, zs, rfl, _⟩ := h
    rfl
  · obtain ⟨p, zs, rfl, rz, hx, ht, k1, k2⟩ := h
    refine ⟨_, (pss_one (ps_for (passes_of rfl) rfl (pi_enum (by rfl) (n_enumerate T) (pa_cons (pv 0) pa_nil)) (pg_tup rfl (pgs_cons (pg_name (i := 1) sc_require_steps.nd rfl (Or.inl rfl)) (pgs_cons (pg_name (i := 2) sc_require_steps.nd rfl (Or.inl rfl)) pgs_nil)))
      (pss_one (ps_if (PW.pt (pw_or (pt_cmpR op_eq (pv 1) (g_MOST_STEPS T) (nomark _)) (pw_or1 (pt_not (pt_val (pe_cx (c_is_stepV T) hr (by decide) rfl pass0 (pa_cons (pv 2) pa_nil)))))))
        (pss_one (ps_raise rfl (takes_of rfl rfl rfl rfl) (mk_BadStep T (hr.mono (by decide)) (pa_cons (pv 1) pa_nil))))
        pss_nil)))), ?_⟩
    refine ⟨_, rfl, p, zs.map fun z => V.ref z.1, rfl, SqL.of rz.1, ?_⟩
    refine forE (K := K) (a := p) (xs := zs.map fun z => V.ref z.1) (fun j σ H' => ∃ (v1 v2 : Option V), σ = [some (.ref p), v1, v2] ∧ (∀ i y, i < j → (zs.map (·.2))[i]? = some y → badV i y = false) ∧ Tb K H' ∧ FrT K [] H H')
      ⟨_, _, rfl, fun i y z => absurd z (Nat.not_lt_zero _), ht, FrT.refl _ _ _⟩ (fun j σ H' _ ⟨_, _, _, _, _, f⟩ => SqL.of (rz.keep0 f).1) ?_ ?_
    · rintro j y T σ H7 hj ⟨v1, v2, rfl, hb7, ht7, f7⟩ hT
      obtain ⟨z, hz, rfl⟩ := atZ hj
      have hm := List.mem_of_getElem? hz
      have hz2 : (zs.map (·.2))[j]? = some z.2 := by rw [List.getElem?_map, hz]; rfl
      have g8 : Frm [] H7 (upd H7 T (.tup [.int j, .ref z.1])) := Frm.of (same_upd hT)
      have e8 : (upd H7 T (.tup [.int j, .ref z.1])) T = some (.tup [.int j, .ref z.1]) := upd_same
      have f8 := f7.trans (g8.toT .nil)
      have ht8 := (g8.toT (K := K) .nil).t ht7
      revert e8 f8 ht8
      generalize (upd H7 T (.tup [.int j, .ref z.1])) = H8
      intro e8 f8 ht8
      refine ⟨T, _, rfl, SqT.of e8, rfl, _, _, rfl, _, _, rfl, rfl, ?_⟩
      refine ⟨_, rfl, rfl, _, rfl, ?_⟩
      rw [int_dec]
      have bad : badV j z.2 = true → ∀ H9, FrT K [] H H9 → ErrS K "BadStep" "number" j H9 E := fun c H9 f9 d H' f e => k2 j ⟨⟨_, hz2, c⟩, hb7⟩ d H' (f9.trans f) e
      have go : badV j z.2 = true → ∀ H9, FrT K [] H H9 → [V.int (j : Int)].length ≤ 1000 ∧ ∀ a, H9 a = none → spOI (He.ga K "BadStep") "number" (.ref a :: ([V.int j] ++ [])) (upd H9 a (exo a (He.ga K "BadStep") none)) (fun v H2 => v = .non ∧ ∃ (d : Addr) (fs : List (Str × V)), H2 a = some (exo a (He.ga K "BadStep") (some d)) ∧ H2 d = some (exd d fs) ∧ H9 d = none ∧ E (.ref (He.ga K "BadStep")) (some d) (upd (del H2 a) d (.xd fs))) (fun _ _ _ => False) := fun c H9 f9 => by
        have := (show FstV (zs.map (·.2)) j from ⟨⟨_, hz2, c⟩, hb7⟩).le
        exact oi_go (by omega) (by omega) fun d H2 f e _ => bad c H9 f9 d H2 (f.toT .nil) e
      refine iteB (fun c => ?_) (fun c => ?_)
      · refine ⟨_, rfl, go ?_ H8 f8⟩
        have : (j : Int) = 200 := of_decide_eq_true c
        unfold badV
        rw [decide_eq_true (show j = 200 by omega)]
        rfl
      · have nj : ¬ j = 200 := fun z => of_decide_eq_false c (by omega)
        refine ⟨_, rfl, z.1, z.2, rfl, (rz.keep0 f8).2 z hm, hx z hm, ht8, fun H9 f9 => ⟨_, rfl, ?_⟩⟩
        refine iteB (fun c2 => ?_) (fun c2 => ?_)
        · exact ⟨_, rfl, go (by unfold badV; rw [c2, Bool.or_true]) H9 (f8.trans f9)⟩
        · refine ⟨_, _, rfl, fun i y hi hy => ?_, f9.t ht8, f8.trans f9⟩
          rcases Nat.lt_or_eq_of_le (Nat.le_of_lt_succ hi) with q | q
          · exact hb7 i y q hy
          · subst q
            rw [hz2] at hy
            cases hy
            unfold badV
            rw [c2, decide_eq_false nj]
            rfl
    · rintro σ H7 ⟨v1, v2, rfl, hb7, _, f7⟩
      exact k1 (fun i x hx => hb7 i x (by have := (List.getElem?_eq_some_iff.mp hx).1; rw [List.length_map] at this ⊢; exact this) hx) _ f7
end
end B

set_option Elab.async false
set_option linter.all false
set_option maxRecDepth 100000
set_option maxHeartbeats 4000000
namespace B
open PySem PySem.Spec PyProof.Rows L2
open SX (S)
/-! ### a day: what each step comes to -/
instance leS_dec (x y : Str) : Decidable (leS x y) := inferInstanceAs (Decidable (x.cps.toList ≤ y.cps.toList))
theorem ex_srt (xs : List Str) : ∃ ys : List Str, ys.Perm xs ∧ sortedS ys = true := by
  refine ⟨xs.mergeSort (fun a b => decide (leS a b)), List.mergeSort_perm _ _, pw_sorted ?_⟩
  have h := List.pairwise_mergeSort (le := fun (a b : Str) => decide (leS a b)) (fun a b c h1 h2 => decide_eq_true (leS_trans (of_decide_eq_true h1) (of_decide_eq_true h2))) (fun a b => by
    rw [Bool.or_eq_true, decide_eq_true_eq, decide_eq_true_eq]
    exact List.le_total _ _) xs
  exact h.imp of_decide_eq_true
noncomputable def srt (xs : List Str) : List Str := Classical.choose (ex_srt xs)
theorem srt_perm (xs : List Str) : (srt xs).Perm xs := (Classical.choose_spec (ex_srt xs)).1
theorem srt_srt (xs : List Str) : sortedS (srt xs) = true := (Classical.choose_spec (ex_srt xs)).2
theorem srt_one {xs ys : List Str} (h : ys.Perm xs) (s : sortedS ys = true) : ys = srt xs := sorted_eq s (srt_srt xs) (h.trans (srt_perm xs).symm)
theorem ex_once : ∀ ps : List Str, ∃ ys : List Str, ys.Nodup ∧ ∀ y, y ∈ ys ↔ y ∈ ps
  | [] => ⟨[], .nil, fun _ => Iff.rfl⟩
  | p :: ps => by
    obtain ⟨ys, h1, h2⟩ := ex_once ps
    by_cases c : p ∈ ys
    · exact ⟨ys, h1, fun y => by rw [h2, List.mem_cons]; exact ⟨.inr, fun z => z.elim (fun e => by rw [e]; exact (h2 p).mp c) id⟩⟩
    · exact ⟨p :: ys, List.nodup_cons.mpr ⟨c, h1⟩, fun y => by rw [List.mem_cons, List.mem_cons, h2]⟩
theorem ex_met (W : Nat) (xs : List Str) : ∃ ys, MetL W xs ys := by
  obtain ⟨ys, h1, h2⟩ := ex_once ("" :: xs.flatMap fun x => (List.range W).map fun i => S (x.cps.toList.take i))
  refine ⟨srt ys, srt_srt ys, (srt_perm ys).nodup_iff.mpr h1, fun y => ?_⟩
  rw [(srt_perm ys).mem_iff, h2, List.mem_cons, List.mem_flatMap]
  refine or_congr Iff.rfl (exists_congr fun x => and_congr Iff.rfl ?_)
  rw [List.mem_map]
  exact exists_congr fun i => and_congr List.mem_range ⟨fun e => e.symm, fun e => e.symm⟩
noncomputable def metN (W : Nat) (xs : List Str) : Nat := (Classical.choose (ex_met W xs)).length
theorem metN_of {W m : Nat} {xs : List Str} (h : ∀ ys, MetL W xs ys → ys.length = m) : m = metN W xs := (h _ (Classical.choose_spec (ex_met W xs))).symm
structure DyS where
  kvs : List (Str × Bool)
  lm : List Str
  lk : Int
  wk : WkS
  tour : WkS
  kept : List Str
inductive TV where
  | tl (t : Tld)
  | alarm (x : Str)
  | done
  | went (c z : List Str)
def newW (kd : Str) : WkS := ⟨kd, [[]], none, [], []⟩
def dy0 : DyS := ⟨[], [], 0, newW "all", newW "all", []⟩
noncomputable def turnF (W : Nat) (d : DyS) : Str × TV × DyS := match srt (lisB d.kvs false) with
  | y :: _ => ("", .alarm y, { d with kvs := putB d.kvs y false, lk := d.lk + W })
  | [] => if d.tour.rest = [] then ("", .done, { d with lk := d.lk + 1 }) else ("", .tl (roundF W d.kvs W [] (d.lk + 1) d.tour).1.2, { d with tour := (roundF W d.kvs W [] (d.lk + 1) d.tour).1.1, lk := (roundF W d.kvs W [] (d.lk + 1) d.tour).2.2.2 })
noncomputable def refF (W : Nat) (d : DyS) : Str × TV × DyS :=
  ("", .went ((srt (d.kvs.map (·.1))).filter fun x => !decide (x ∈ d.kept)) (d.kept.filter fun x => !decide (x ∈ srt (d.kvs.map (·.1)))), { d with kept := srt (d.kvs.map (·.1)), lk := d.lk + metN W (srt (d.kvs.map (·.1))) })
def Done (s : WkS) : Prop := s.sd = none ∧ s.rest = []
instance (s : WkS) : Decidable (Done s) := inferInstanceAs (Decidable (_ ∧ _))
noncomputable def doF (W : Nat) (d : DyS) (w x : Str) : Str × TV × DyS :=
  if w = "walk" then ("", .tl .no, { d with wk := newW x })
  else if w = "step" then (if Done d.wk then ("over", .tl .no, d) else ("", .tl (stepF W d.kvs d.lm d.lk d.wk).1.2, { d with wk := (stepF W d.kvs d.lm d.lk d.wk).1.1, lm := (stepF W d.kvs d.lm d.lk d.wk).2.1, lk := (stepF W d.kvs d.lm d.lk d.wk).2.2.2 }))
  else if w = "round" then (if Done d.wk then ("over", .tl .no, d) else ("", .tl (roundF W d.kvs W d.lm d.lk d.wk).1.2, { d with wk := (roundF W d.kvs W d.lm d.lk d.wk).1.1, lm := (roundF W d.kvs W d.lm d.lk d.wk).2.1, lk := (roundF W d.kvs W d.lm d.lk d.wk).2.2.2 }))
  else if w = "turn" then (if d.wk.sd = none then turnF W d else ("busy", .tl .no, d))
  else if w = "refresh" then (if d.wk.sd = none then refF W d else ("busy", .tl .no, d))
  else if x.length ≠ W then ("number", .tl .no, d)
  else if deedW d.kvs w x = "" then ("", .tl .no, { d with kvs := deedK d.kvs w x, lm := deedL d.kvs d.lm w x })
  else (deedW d.kvs w x, .tl .no, d)
/-- a pool of a width -/
structure PoolS (W : Nat) (names : List Str) : Prop where
  ne : names ≠ []
  len : names.length ≤ 41
  num : ∀ x ∈ names, Num W x
  w1 : 1 ≤ W
  w2 : W ≤ 12
structure DInv (names : List Str) (W b : Nat) (d : DyS) : Prop where
  nd : (d.kvs.map (·.1)).Nodup
  sub : ∀ x ∈ d.kvs.map (·.1), x ∈ names
  wk : WkOk W d.lm d.wk.sd d.wk b
  kd : d.wk.kd = "all" ∨ d.wk.kd = "alarm"
  lm : d.lm.length ≤ 41
  tour : WkOk W [] none d.tour b
  tsd : d.tour.sd = none
  tkd : d.tour.kd = "all"
  kept : d.kept.length ≤ 41
/-- the words of a step, and what they go with -/
def Legal (names : List Str) (W : Nat) (w x : Str) : Prop := (w = "walk" ∧ (x = "all" ∨ x = "alarm")) ∨ w ∈ aloneV ∨ (w ∈ thingV ∧ x.length ≤ 12 ∧ (x.length = W → x ∈ names))
theorem DInv.kl {names : List Str} {W b : Nat} {d : DyS} (h : DInv names W b d) (p : PoolS W names) : d.kvs.length ≤ 41 := by
  have := nodup_le h.nd h.sub
  rw [List.length_map] at this
  have := p.len
  omega
theorem DInv.num {names : List Str} {W b : Nat} {d : DyS} (h : DInv names W b d) (p : PoolS W names) : ∀ x ∈ d.kvs.map (·.1), Num W x := fun x hx => p.num x (h.sub x hx)
theorem dinv0 {names : List Str} {W : Nat} : DInv names W 1 dy0 := by
  have ok : WkOk W [] none (newW "all") 1 := ⟨fun g hg => by
    rw [List.mem_singleton.mp hg]
    exact ⟨Nat.zero_le _, fun c hc => absurd hc (by simp)⟩, fun l e => (by cases e), ⟨Nat.le_refl _, Nat.zero_le _, Nat.zero_le _⟩, Nat.zero_le _⟩
  exact ⟨by simp [dy0], fun x hx => absurd hx (by simp [dy0]), ok, .inl rfl, Nat.zero_le _, ok, rfl, rfl, Nat.zero_le _⟩
theorem wkok_new {W b : Nat} {lm : List Str} {kd : Str} (hl : lm.length ≤ 41) (hb : 1 ≤ b) : WkOk W lm none (newW kd) b := ⟨fun g hg => by
    rw [List.mem_singleton.mp hg]
    exact ⟨Nat.zero_le _, fun c hc => absurd hc (by simp)⟩, fun l e => (by cases e), ⟨hb, Nat.zero_le _, Nat.zero_le _⟩, by omega⟩
theorem round_okW {W : Nat} {kvs : List (Str × Bool)} (hk : kvs.length ≤ 100) (hkn : ∀ x ∈ kvs.map (·.1), Num W x) : ∀ {n b : Nat} {lm : List Str} {sdm : Option (List Nat)} {lk : Int} {st : WkS}, WkOk W lm sdm st b → (st.sd = none → st.rest ≠ []) →
    WkOk W (roundF W kvs n lm lk st).2.1 (roundF W kvs n lm lk st).2.2.1 (roundF W kvs n lm lk st).1.1 (b + 1 + n) := by
  intro n
  induction n with
  | zero => exact fun h hr => step_ok h hr hk hkn
  | succ n ih =>
    intro b lm sdm lk st h hr
    by_cases c : (stepF W kvs lm lk st).1.2 = .no
    · rw [round_no c]
      obtain ⟨l, e1, _, _⟩ := step_no c
      exact (ih (step_ok h hr hk hkn) fun e => by rw [e1] at e; cases e).le (by omega)
    · rw [round_yes c]
      exact (step_ok h hr hk hkn).le (by omega)
/-- what the model says is said is what the walk has -/
theorem step_sd {W : Nat} {kvs : List (Str × Bool)} {lm : List Str} {lk : Int} {st : WkS} {b : Nat} {sdm : Option (List Nat)} (h : WkOk W (stepF W kvs lm lk st).2.1 (stepF W kvs lm lk st).2.2.1 (stepF W kvs lm lk st).1.1 b) : WkOk W (stepF W kvs lm lk st).2.1 (stepF W kvs lm lk st).1.1.sd (stepF W kvs lm lk st).1.1 b :=
  ⟨h.rest, fun l e => ⟨e, (h.said l e).2⟩, h.len, h.lm⟩
theorem WkOk.own {W b : Nat} {lm : List Str} {sdm : Option (List Nat)} {st : WkS} (h : WkOk W lm sdm st b) : WkOk W lm st.sd st b := ⟨h.rest, fun l e => ⟨e, (h.said l e).2⟩, h.len, h.lm⟩
theorem WkOk.idle {W b : Nat} {lm lm' : List Str} {sdm sdm' : Option (List Nat)} {st : WkS} (h : WkOk W lm sdm st b) (e : st.sd = none) (hl : lm'.length ≤ 100) : WkOk W lm' sdm' st b := ⟨h.rest, fun l z => (by rw [e] at z; cases z), h.len, hl⟩
theorem WkOk.cut {W b : Nat} {lm : List Str} {sdm : Option (List Nat)} {st : WkS} (h : WkOk W lm sdm st b) (f : Str → Bool) : WkOk W (lm.filter f) sdm st b :=
  ⟨h.rest, fun l e => have z := h.said l e; ⟨z.1, z.2.1, z.2.2.1, fun x hx => z.2.2.2 x (List.mem_filter.mp hx).1⟩, h.len, Nat.le_trans (List.length_filter_le _ _) h.lm⟩
theorem doF_inv {names : List Str} {W b : Nat} {d : DyS} {w x : Str} (p : PoolS W names) (h : DInv names W b d) (hb : 1 ≤ b) (l : Legal names W w x) : DInv names W (b + 14) (doF W d w x).2.2 := by
  have same : DInv names W (b + 14) d := ⟨h.nd, h.sub, h.wk.le (by omega), h.kd, h.lm, h.tour.le (by omega), h.tsd, h.tkd, h.kept⟩
  have kl := h.kl p
  have num := h.num p
  have w2 := p.w2
  unfold doF
  by_cases c1 : w = "walk"
  · rw [if_pos c1]
    have hx : x = "all" ∨ x = "alarm" := by
      rcases l with z | z | z
      · exact z.2
      · rw [c1] at z; exact absurd z (by decide +kernel)
      · rw [c1] at z; exact absurd z.1 (by decide +kernel)
    exact ⟨same.nd, same.sub, wkok_new h.lm (by omega), hx, h.lm, same.tour, same.tsd, same.tkd, same.kept⟩
  rw [if_neg c1]
  by_cases c2 : w = "step"
  · rw [if_pos c2]
    by_cases c : Done d.wk
    · rw [if_pos c]; exact same
    rw [if_neg c]
    have ok := step_ok (lk := d.lk) h.wk (fun e z => c ⟨e, z⟩) (by omega) num
    exact ⟨same.nd, same.sub, (WkOk.own ok).le (by omega), h.kd.imp step_kd.trans step_kd.trans, step_len h.lm kl, same.tour, same.tsd, same.tkd, same.kept⟩
  rw [if_neg c2]
  by_cases c3 : w = "round"
  · rw [if_pos c3]
    by_cases c : Done d.wk
    · rw [if_pos c]; exact same
    rw [if_neg c]
    have ok := round_okW (n := W) (lk := d.lk) (by omega) num h.wk (fun e z => c ⟨e, z⟩)
    exact ⟨same.nd, same.sub, (WkOk.own ok).le (by omega), h.kd.imp round_kd.trans round_kd.trans, round_len kl h.lm, same.tour, same.tsd, same.tkd, same.kept⟩
  rw [if_neg c3]
  by_cases c4 : w = "turn"
  · rw [if_pos c4]
    by_cases c : d.wk.sd = none
    · rw [if_pos c]
      unfold turnF
      cases q : srt (lisB d.kvs false) with
      | cons y r =>
        have hy : y ∈ lisB d.kvs false := (srt_perm _).mem_iff.mp (by rw [q]; simp)
        have hyn : y ∈ names := h.sub y (by
          unfold lisB at hy
          obtain ⟨z, hz, e⟩ := List.mem_map.mp hy
          exact List.mem_map.mpr ⟨z, (List.mem_filter.mp hz).1, e⟩)
        exact ⟨put_nodup h.nd, put_sub h.sub hyn, same.wk, same.kd, same.lm, same.tour, same.tsd, same.tkd, same.kept⟩
      | nil =>
        dsimp only
        by_cases e : d.tour.rest = []
        · rw [if_pos e]; exact ⟨same.nd, same.sub, same.wk, same.kd, same.lm, same.tour, same.tsd, same.tkd, same.kept⟩
        rw [if_neg e]
        have ok := round_okW (n := W) (lk := d.lk + 1) (by omega) num h.tour (fun _ => e)
        have dn := round_done (W := W) (kvs := d.kvs) (n := W) (lm := []) (lk := d.lk + 1) (st := d.tour) (fun l z => by rw [h.tsd] at z; cases z) (fun _ => Nat.le_refl _)
        exact ⟨same.nd, same.sub, same.wk, same.kd, same.lm, (ok.idle (round_sdn dn) (Nat.zero_le _)).le (by omega), round_sdn dn, round_kd.trans h.tkd, same.kept⟩
    · rw [if_neg c]; exact same
  rw [if_neg c4]
  by_cases c5 : w = "refresh"
  · rw [if_pos c5]
    by_cases c : d.wk.sd = none
    · rw [if_pos c]
      refine ⟨same.nd, same.sub, same.wk, same.kd, same.lm, same.tour, same.tsd, same.tkd, ?_⟩
      show (srt (d.kvs.map (·.1))).length ≤ 41
      rw [(srt_perm _).length_eq, List.length_map]
      exact kl
    · rw [if_neg c]; exact same
  rw [if_neg c5]
  by_cases c6 : x.length ≠ W
  · rw [if_pos c6]; exact same
  rw [if_neg c6]
  by_cases c7 : deedW d.kvs w x = ""
  · rw [if_pos c7]
    have hx : x ∈ names := by
      rcases l with z | z | z
      · exact absurd z.1 c1
      · simp only [aloneV, List.mem_cons, List.not_mem_nil, or_false] at z
        rcases z with z | z | z | z
        · exact absurd z c2
        · exact absurd z c3
        · exact absurd z c4
        · exact absurd z c5
      · exact z.2.2 (Classical.not_not.mp c6)
    have dl : WkOk W (deedL d.kvs d.lm w x) d.wk.sd d.wk (b + 14) ∧ (deedL d.kvs d.lm w x).length ≤ 41 := by
      unfold deedL
      split
      · exact ⟨same.wk.cut _, Nat.le_trans (List.length_filter_le _ _) h.lm⟩
      · exact ⟨same.wk, h.lm⟩
    refine ⟨deed_nodup h.nd, deed_sub h.sub hx, dl.1, same.kd, dl.2, same.tour, same.tsd, same.tkd, same.kept⟩
  · rw [if_neg c7]; exact same
end B

set_option Elab.async false
set_option linter.all false
set_option maxRecDepth 100000
set_option maxHeartbeats 4000000
namespace B
open PySem PySem.Spec PyProof.Rows L2
open SX (S)
/-! ### a day's object -/
abbrev YC (K : PySem.W.Frag) : Addr := He.ga K "Day"
def yfl (pw pk pd pe : Addr) : List (Str × V) := [("_wire", .ref pw), ("_walk", .ref pk), ("_desk", .ref pd), ("_keeper", .ref pe)]
structure DyA (K : PySem.W.Frag) (H : Hp) (y pw dh dl pk qr qf qp pd pz zr zf zp pe pl : Addr) (W : Nat) (d : DyS) (lw : List Str) (sdm : Option (List Nat)) : Prop where
  ob : ∃ dx, H y = some (.ins (YC K) dx (yfl pw pk pd pe))
  wa : WiAt K H pw dh dl W d.kvs lw (msOf W sdm) d.lk
  len : lw.length ≤ 41
  on : d.wk.sd ≠ none → lw.Perm d.lm ∧ sdm = d.wk.sd
  wk : VkAt K H pk pw qr qf qp d.wk
  dk : DkAt K H pd pw pz
  tour : VkAt K H pz pw zr zf zp d.tour
  kp : KpAt K H pe pw pl d.kept
  nd : [y, pw, dh, pk, qr, qf, qp, pd, pz, zr, zf, zp, pe].Nodup
  ndl : dl ∉ [qr, qf, qp, zr, zf, zp]
  npl : pl ∉ [y, pw, dh, pk, qr, qf, qp, pd, pz, zr, zf, zp, pe]
def DAt (K : PySem.W.Frag) (H : Hp) (y : Addr) (M : List Addr) (W : Nat) (d : DyS) : Prop := ∃ (pw dh dl pk qr qf qp pd pz zr zf zp pe pl : Addr) (lw : List Str) (sdm : Option (List Nat)), M = [y, pw, dh, pk, qr, qf, qp, pd, pz, zr, zf, zp, pe, dl, pl] ∧ DyA K H y pw dh dl pk qr qf qp pd pz zr zf zp pe pl W d lw sdm
def TVAt (H : Hp) (M : List Addr) : TV → V → Prop
  | .tl t, v => TldAt H t v
  | .alarm x, v => ∃ t, v = .ref t ∧ H t = some (.tup [.str "alarm", .str x])
  | .done, v => ∃ t, v = .ref t ∧ H t = some (.tup [.str "done"])
  | .went c z, v => ∃ t p q, v = .ref t ∧ H t = some (.tup [.ref p, .ref q]) ∧ H p = some (.lst (c.map V.str)) ∧ H q = some (.lst (z.map V.str)) ∧ p ∉ M ∧ q ∉ M
section
variable {pw pk pd pe q : Addr}
theorem yl_wire : (yfl pw pk pd pe).lookup ("_wire" : Str) = some (.ref pw) := by kernel_rfl
theorem yl_walk : (yfl pw pk pd pe).lookup ("_walk" : Str) = some (.ref pk) := by kernel_rfl
theorem yl_desk : (yfl pw pk pd pe).lookup ("_desk" : Str) = some (.ref pd) := by kernel_rfl
theorem yl_keeper : (yfl pw pk pd pe).lookup ("_keeper" : Str) = some (.ref pe) := by kernel_rfl
theorem yp_walk : putF "_walk" (.ref q) (yfl pw pk pd pe) = yfl pw q pd pe := by kernel_rfl
theorem yp_new : putF "_keeper" (.ref pe) (putF "_desk" (.ref pd) (putF "_walk" (.ref pk) (putF "_wire" (.ref pw) []))) = yfl pw pk pd pe := by kernel_rfl
theorem yl_len : (yfl pw pk pd pe).length < 1000 := by show 4 < 1000; decide
theorem y1_wire : (putF "_wire" (.ref pw) []).lookup ("_wire" : Str) = some (V.ref pw) := by kernel_rfl
theorem y2_wire : (putF "_walk" (.ref pk) (putF "_wire" (.ref pw) [])).lookup ("_wire" : Str) = some (V.ref pw) := by kernel_rfl
theorem y3_wire : (putF "_desk" (.ref pd) (putF "_walk" (.ref pk) (putF "_wire" (.ref pw) []))).lookup ("_wire" : Str) = some (V.ref pw) := by kernel_rfl
theorem yx_do : (yfl pw pk pd pe).lookup ("do" : Str) = none := by kernel_rfl
theorem yx_end : (yfl pw pk pd pe).lookup ("end" : Str) = none := by kernel_rfl
theorem yx_no : (yfl pw pk pd pe).lookup ("_require_no_round" : Str) = none := by kernel_rfl
end
section
variable {K : PySem.W.Frag} {H H' : Hp} {y pw dh dl pk qr qf qp pd pz zr zf zp pe pl : Addr} {W : Nat} {d : DyS} {lw : List Str} {sdm : Option (List Nat)}
theorem DyA.nt (h : DyA K H y pw dh dl pk qr qf qp pd pz zr zf zp pe pl W d lw sdm) : NT [y, pw, dh, pk, qr, qf, qp, pd, pz, zr, zf, zp, pe] H := by
  obtain ⟨⟨dx, a⟩, ⟨⟨dw, b⟩, _, c⟩, _, _, ⟨⟨dq, e⟩, f, g, ⟨ts, i, _⟩, _⟩, ⟨dk, j⟩, ⟨⟨dz, k⟩, l, m, ⟨us, n, _⟩, _⟩, ⟨⟨dp, o⟩, _⟩, _⟩ := h
  exact .cons a rfl (.cons b rfl (.cons c rfl (.cons e rfl (.cons f rfl (.cons g rfl (.cons i rfl (.cons j rfl (.cons k rfl (.cons l rfl (.cons m rfl (.cons n rfl (.cons o rfl .nil))))))))))))
theorem DAt.nt {M : List Addr} (h : DAt K H y M W d) : NT M H := by
  obtain ⟨pw, dh, dl, pk, qr, qf, qp, pd, pz, zr, zf, zp, pe, pl, _, _, rfl, h⟩ := h
  exact fun a ha => (List.mem_append.mp (show a ∈ [y, pw, dh, pk, qr, qf, qp, pd, pz, zr, zf, zp, pe] ++ [dl, pl] from ha)).elim (h.nt a) (NT.cons h.wa.li rfl (.cons h.kp.ls rfl .nil) a)
theorem NT.sub {A B : List Addr} (h : NT A H) (s : ∀ x ∈ B, x ∈ A) : NT B H := fun x hx => h x (s x hx)
theorem DyA.stay {T : List Addr} (h : DyA K H y pw dh dl pk qr qf qp pd pz zr zf zp pe pl W d lw sdm) (f : FrT K T H H') (n : NT T H) (o : ∀ x ∈ [y, pw, dh, pk, qr, qf, qp, pd, pz, zr, zf, zp, pe], x ∉ T) (hd : dl ∉ T) (hp : pl ∉ T) : DyA K H' y pw dh dl pk qr qf qp pd pz zr zf zp pe pl W d lw sdm := by
  obtain ⟨⟨dx, a⟩, wa, c, d, wk, dk, tour, kp, g, i, j⟩ := h
  exact ⟨⟨dx, f.k _ _ a rfl (o y (by simp))⟩, wa.keep f (o pw (by simp)) (o dh (by simp)) hd, c, d, wk.keepT f n (o pk (by simp)) (o qr (by simp)) (o qf (by simp)) (o qp (by simp)), dk.keep f (o pd (by simp)), tour.keepT f n (o pz (by simp)) (o zr (by simp)) (o zf (by simp)) (o zp (by simp)), kp.keep f (o pe (by simp)) hp, g, i, j⟩
theorem DyA.stay0 (h : DyA K H y pw dh dl pk qr qf qp pd pz zr zf zp pe pl W d lw sdm) (f : FrT K [] H H') : DyA K H' y pw dh dl pk qr qf qp pd pz zr zf zp pe pl W d lw sdm := h.stay f .nil (fun _ _ => by simp) (by simp) (by simp)
theorem DAt.stay0 {M : List Addr} (h : DAt K H y M W d) (f : FrT K [] H H') : DAt K H' y M W d := by
  obtain ⟨pw, dh, dl, pk, qr, qf, qp, pd, pz, zr, zf, zp, pe, pl, lw, sdm, e, h⟩ := h
  exact ⟨pw, dh, dl, pk, qr, qf, qp, pd, pz, zr, zf, zp, pe, pl, lw, sdm, e, h.stay0 f⟩
theorem TVAt.keep {M M' : List Addr} {tv : TV} {v : V} (h : TVAt H M tv v) (f : FrT K M H H') (n : NT M H) (s : ∀ a ∈ M', a ∈ M ∨ H a = none) : TVAt H' M' tv v := by
  have out : ∀ {p : Addr} {o : HO}, H p = some o → p ∉ M → p ∉ M' := fun {p o} e q z => (s p z).elim q fun r => by rw [e] at r; cases r
  cases tv with
  | tl t => exact TldAt.keepT h f n
  | alarm x =>
    obtain ⟨t, e, z⟩ := h
    exact ⟨t, e, f.k _ _ z rfl (n.out z rfl)⟩
  | done =>
    obtain ⟨t, e, z⟩ := h
    exact ⟨t, e, f.k _ _ z rfl (n.out z rfl)⟩
  | went c z =>
    obtain ⟨t, p, q, e, e1, e2, e3, e4, e5⟩ := h
    exact ⟨t, p, q, e, f.k _ _ e1 rfl (n.out e1 rfl), f.k _ _ e2 rfl e4, f.k _ _ e3 rfl e5, out e2 e4, out e3 e5⟩
end
section
variable {P : Program} {w : World} {K : PySem.W.Frag} {mg : Str → Option Value} {base : Heap}
theorem ycl (T : Txt P w K mg base) : Cls K (YC K) := He.cls_ok (T.t.fact 120 (f := .cls "Day"))
theorem yn_wire (T : Txt P w K mg base) : NoAttr K (YC K) "_wire" := He.noat_ok (T.t.fact 122 (f := .noat "Day" "_wire"))
theorem yn_walk (T : Txt P w K mg base) : NoAttr K (YC K) "_walk" := He.noat_ok (T.t.fact 123 (f := .noat "Day" "_walk"))
theorem yn_desk (T : Txt P w K mg base) : NoAttr K (YC K) "_desk" := He.noat_ok (T.t.fact 124 (f := .noat "Day" "_desk"))
theorem yn_keeper (T : Txt P w K mg base) : NoAttr K (YC K) "_keeper" := He.noat_ok (T.t.fact 125 (f := .noat "Day" "_keeper"))
def spYNo (K : PySem.W.Frag) : Sp := fun vs H Q E => ∃ (y : Addr) (M : List Addr) (W : Nat) (d : DyS), vs = [.ref y] ∧ DAt K H y M W d ∧ (d.wk.sd = none → Q .non H) ∧ (d.wk.sd ≠ none → E (.ref (He.ga K "Busy")) none H)
theorem m_Day__require_no_round (T : Txt P w K mg base) : MetX (L2.CX P w) P w K mg base 2 (YC K) "_require_no_round" (spYNo K) := by
  obtain ⟨fd, F⟩ := T.t.def_ 38 (d := d_Day__require_no_round)
  refine ⟨_, fd, _, ycl T, He.meth_ok (T.t.fact 128 (f := .meth "Day" "_require_no_round")), F.ok sc_Day__require_no_round (fun vs H Q E h => ?_) (fun cdv A outer s H vs Q E hr h => ?_), F.bindsN fun _ _ _ _ _ _ us hl => match us, hl with | [_], _ => rfl⟩
  · obtain ⟨y, M, W, d, rfl, _⟩ := h
    rfl
  · obtain ⟨y, M, W, d, rfl, ⟨pw, dh, dl, pk, qr, qf, qp, pd, pz, zr, zf, zp, pe, pl, lw, sdm, rfl, da⟩, k1, k2⟩ := h
    refine ⟨_, (pss_one (ps_if (pt_val (pe_mx0 (m_Walk_is_under_way T) hr (by decide) (pe_fld (pv 0) (by rfl)) pass0))
      (pss_one (ps_raise rfl (takes_of rfl rfl rfl rfl) (mk_Busy T)))
      pss_nil)), ?_⟩
    obtain ⟨dx, o1⟩ := id da.ob
    obtain ⟨⟨dk, o2⟩, _⟩ := id da.wk
    refine ⟨_, rfl, y, _, dx, _, _, rfl, o1, ycl T, yn_walk T, yl_walk, pk, dk, _, rfl, o2, vx_under, pk, pw, qr, qf, qp, d.wk, rfl, da.wk, ?_⟩
    refine ⟨_, rfl, ?_⟩
    cases q : d.wk.sd with
    | none => exact k1 q
    | some l => exact k2 (by rw [q]; exact nofun)
def spYEnd (K : PySem.W.Frag) : Sp := fun vs H Q _ => ∃ (y : Addr) (M : List Addr) (W : Nat) (d : DyS), vs = [.ref y] ∧ DAt K H y M W d ∧ d.kvs.length ≤ 41 ∧ ∀ (t p : Addr) (H' : Hp), H t = none → H p = none → H' t = some (.tup [.ref p, .int d.lk]) → H' p = some (.lst ((srt (d.kvs.map (·.1))).map V.str)) → Frm [] H H' → Q (.ref t) H'
theorem m_Day_end (T : Txt P w K mg base) : MetX CX0 P w K mg base 2 (YC K) "end" (spYEnd K) := by
  obtain ⟨fd, F⟩ := T.t.def_ 37 (d := d_Day_end)
  refine ⟨_, fd, _, ycl T, He.meth_ok (T.t.fact 127 (f := .meth "Day" "end")), F.ok sc_Day_end (fun vs H Q E h => ?_) (fun cdv A outer s H vs Q E hr h => ?_), F.bindsN fun _ _ _ _ _ _ us hl => match us, hl with | [_], _ => rfl⟩
  · obtain ⟨y, M, W, d, rfl, _⟩ := h
    rfl
  · obtain ⟨y, M, W, d, rfl, ⟨pw, dh, dl, pk, qr, qf, qp, pd, pz, zr, zf, zp, pe, pl, lw, sdm, rfl, da⟩, hl, k⟩ := h
    refine ⟨_, PSs.nox (pss_one (ps_ret (pe_tup (pa_cons (pe_mx0 (m_Wire_hung T) hr (by decide) (pe_fld (pv 0) (by rfl)) pass0) (pa_cons (pe_mx0 (m_Wire_looks T) hr (by decide) (pe_fld (pv 0) (by rfl)) pass0) pa_nil))))), ?_⟩
    obtain ⟨dx, o1⟩ := id da.ob
    obtain ⟨⟨dw, o2⟩, _⟩ := id da.wa
    refine ⟨_, rfl, y, _, dx, _, _, rfl, o1, ycl T, yn_wire T, yl_wire, pw, dw, _, rfl, o2, wx_hung, pw, dh, dl, W, d.kvs, lw, _, d.lk, rfl, da.wa, by omega, fun ys p H1 pm srt1 hp hp1 f1 => ?_⟩
    have da1 := da.stay0 (f1.toT .nil)
    obtain ⟨dx1, p1⟩ := id da1.ob
    obtain ⟨⟨dw1, p2⟩, _⟩ := id da1.wa
    refine ⟨_, rfl, y, _, dx1, _, _, rfl, p1, ycl T, yn_wire T, yl_wire, pw, dw1, _, rfl, p2, wx_looks, pw, dh, dl, W, d.kvs, lw, _, d.lk, rfl, da1.wa, by show 2 ≤ sizeLine; decide, fun t ht => ?_⟩
    have f2 : Frm [] H1 (upd H1 t (.tup [.ref p, .int d.lk])) := Frm.of (same_upd ht)
    exact k t p _ (f1.b _ ht) hp upd_same (by rw [← srt_one pm srt1]; exact f2.k _ _ hp1 rfl (by simp)) (f1.trans f2)
def spYNew (K : PySem.W.Frag) : Sp := fun vs H Q _ => ∃ (y dx : Addr) (W : Nat), vs = [.ref y, .int W] ∧ H y = some (.ins (YC K) dx []) ∧ 1 ≤ W ∧ W ≤ 12 ∧ ∀ (M : List Addr) (H' : Hp), (∀ a ∈ M, a = y ∨ H a = none) → DAt K H' y M W dy0 → Frm [y] H H' → Q .non H'
theorem k_Day (T : Txt P w K mg base) : MakX CX0 P w K mg base 6 "Day" (YC K) (spYNew K) := by
  obtain ⟨fd, F⟩ := T.t.def_ 35 (d := d_Day_init)
  refine ⟨_, fd, _, He.mkr_ok (T.t.fact 121 (f := .mkr "Day")), F.ok sc_Day_init (fun vs H Q E h => ?_) (fun cdv A outer s H vs Q E hr h => ?_), g_Day T, F.bindsN fun _ _ _ _ _ _ us hl => match us, hl with | [_, _], _ => rfl⟩
  · obtain ⟨y, dx, W, rfl, _⟩ := h
    rfl
  · obtain ⟨y, dx, W, rfl, h1, w1, w2, k⟩ := h
    refine ⟨_, PSs.nox (pss_cons (ps_fld (pv 0) (pe_mkx (k_Wire T) hr (by decide) rfl pass0 (pa_cons (pv 1) pa_nil)) rfl)
    (pss_cons (ps_fld (pv 0) (pe_mkx (k_Walk T) hr (by decide) rfl pass0 (pa_cons (pe_fld (pv 0) (by rfl)) (pa_cons pe_str pa_nil))) rfl)
    (pss_cons (ps_fld (pv 0) (pe_mkx (k_Desk T) hr (by decide) rfl pass0 (pa_cons (pe_fld (pv 0) (by rfl)) pa_nil)) rfl)
    (pss_one (ps_fld (pv 0) (pe_mkx (k_Keeper T) hr (by decide) rfl pass0 (pa_cons (pe_fld (pv 0) (by rfl)) pa_nil)) rfl))))), ?_⟩
    refine ⟨_, rfl, fun pw dxw hpw hdxw hnw => ⟨pw, dxw, W, rfl, upd_same, w1, w2, fun dh dl H1 hdh hdl k1 k2 k3 f1 => ⟨rfl, ?_⟩⟩⟩
    have f01 : Frm [] H H1 := Frm.fresh (((Frm.refl _ _).new hdxw).new hpw) f1 (by simpa using hpw)
    have hdh0 : H dh = none := upd_back (upd_back hdh)
    have hdl0 : H dl = none := upd_back (upd_back hdl)
    have e1 := f01.k _ _ h1 rfl (by simp)
    have wa1 : WiAt K H1 pw dh dl W [] [] (msOf W none) 0 := ⟨⟨dxw, k1⟩, k2, k3⟩
    refine ⟨_, rfl, y, _, dx, _, rfl, e1, ycl T, yn_wire T, by show 0 < 1000; decide, ?_⟩
    have g1 : Frm [y] H1 (upd H1 y (.ins (YC K) dx (putF "_wire" (.ref pw) []))) := (Frm.refl _ _).put (by simp)
    have e2 : (upd H1 y (.ins (YC K) dx (putF "_wire" (.ref pw) []))) y = some (.ins (YC K) dx (putF "_wire" (.ref pw) [])) := upd_same
    revert g1 e2
    generalize (upd H1 y (.ins (YC K) dx (putF "_wire" (.ref pw) []))) = A2
    intro g1 e2
    refine ⟨_, rfl, y, _, dx, _, _, rfl, e2, ycl T, yn_wire T, y1_wire, fun pk dxk hpk hdxk hnk => ⟨pk, dxk, pw, "all", rfl, .inl rfl, upd_same, fun qr qf qp H2 hqr hqf hqp vk2 f2 => ⟨rfl, ?_⟩⟩⟩
    have f22 : Frm [] A2 H2 := Frm.fresh (((Frm.refl _ _).new hdxk).new hpk) f2 (by simpa using hpk)
    have hqr2 : A2 qr = none := upd_back (upd_back hqr)
    have hqf2 : A2 qf = none := upd_back (upd_back hqf)
    have hqp2 : A2 qp = none := upd_back (upd_back hqp)
    have e3 := f22.k _ _ e2 rfl (by simp)
    refine ⟨_, rfl, y, _, dx, _, rfl, e3, ycl T, yn_walk T, by show 1 < 1000; decide, ?_⟩
    have g2 : Frm [y] H2 (upd H2 y (.ins (YC K) dx (putF "_walk" (.ref pk) (putF "_wire" (.ref pw) [])))) := (Frm.refl _ _).put (by simp)
    have e4 : (upd H2 y (.ins (YC K) dx (putF "_walk" (.ref pk) (putF "_wire" (.ref pw) [])))) y = some (.ins (YC K) dx (putF "_walk" (.ref pk) (putF "_wire" (.ref pw) []))) := upd_same
    revert g2 e4
    generalize (upd H2 y (.ins (YC K) dx (putF "_walk" (.ref pk) (putF "_wire" (.ref pw) [])))) = A3
    intro g2 e4
    refine ⟨_, rfl, y, _, dx, _, _, rfl, e4, ycl T, yn_wire T, y2_wire, fun pd dxd hpd hdxd hnd => ⟨pd, dxd, pw, rfl, upd_same, fun pz zr zf zp H3 hpz hzr hzf hzp dk3 vk3 f3 => ⟨rfl, ?_⟩⟩⟩
    have f33 : Frm [] A3 H3 := Frm.fresh (((Frm.refl _ _).new hdxd).new hpd) f3 (by simpa using hpd)
    have hpz3 : A3 pz = none := upd_back (upd_back hpz)
    have hzr3 : A3 zr = none := upd_back (upd_back hzr)
    have hzf3 : A3 zf = none := upd_back (upd_back hzf)
    have hzp3 : A3 zp = none := upd_back (upd_back hzp)
    have e5 := f33.k _ _ e4 rfl (by simp)
    refine ⟨_, rfl, y, _, dx, _, rfl, e5, ycl T, yn_desk T, by show 2 < 1000; decide, ?_⟩
    have g3 : Frm [y] H3 (upd H3 y (.ins (YC K) dx (putF "_desk" (.ref pd) (putF "_walk" (.ref pk) (putF "_wire" (.ref pw) []))))) := (Frm.refl _ _).put (by simp)
    have e6 : (upd H3 y (.ins (YC K) dx (putF "_desk" (.ref pd) (putF "_walk" (.ref pk) (putF "_wire" (.ref pw) []))))) y = some (.ins (YC K) dx (putF "_desk" (.ref pd) (putF "_walk" (.ref pk) (putF "_wire" (.ref pw) [])))) := upd_same
    revert g3 e6
    generalize (upd H3 y (.ins (YC K) dx (putF "_desk" (.ref pd) (putF "_walk" (.ref pk) (putF "_wire" (.ref pw) []))))) = A4
    intro g3 e6
    refine ⟨_, rfl, y, _, dx, _, _, rfl, e6, ycl T, yn_wire T, y3_wire, fun pe dxe hpe hdxe hne => ⟨pe, dxe, pw, rfl, upd_same, fun pl H4 hpl kp4 f4 => ⟨rfl, ?_⟩⟩⟩
    have f44 : Frm [] A4 H4 := Frm.fresh (((Frm.refl _ _).new hdxe).new hpe) f4 (by simpa using hpe)
    have hpl4 : A4 pl = none := upd_back (upd_back hpl)
    have e7 := f44.k _ _ e6 rfl (by simp)
    refine ⟨_, rfl, y, _, dx, _, rfl, e7, ycl T, yn_keeper T, by show 3 < 1000; decide, ?_⟩
    rw [yp_new]
    have g4 : Frm [y] H4 (upd H4 y (.ins (YC K) dx (yfl pw pk pd pe))) := (Frm.refl _ _).put (by simp)
    have e8 : (upd H4 y (.ins (YC K) dx (yfl pw pk pd pe))) y = some (.ins (YC K) dx (yfl pw pk pd pe)) := upd_same
    revert g4 e8
    generalize (upd H4 y (.ins (YC K) dx (yfl pw pk pd pe))) = H5
    intro g4 e8
    have h45 : Frm [y] A4 H5 := (f44.mono (by simp)).trans g4
    have h35 : Frm [y] H3 H5 := g3.trans h45
    have h25 : Frm [y] H2 H5 := (g2.trans (f33.mono (by simp))).trans h35
    have h15 : Frm [y] H1 H5 := (g1.trans (f22.mono (by simp))).trans h25
    have b1 : ∀ {x : Addr}, A2 x = none → H x = none := fun z => f01.b _ (g1.b _ z)
    have b2 : ∀ {x : Addr}, A3 x = none → A2 x = none := fun z => f22.b _ (g2.b _ z)
    have b3 : ∀ {x : Addr}, A4 x = none → A3 x = none := fun z => f33.b _ (g3.b _ z)
    have some1 : ∀ x ∈ [y], H x ≠ none := fun x hx e => by rw [List.mem_singleton.mp hx, h1] at e; cases e
    have nD1 : ([y] ++ [pw, dh]).Nodup := nod_app (by simp) (by simp [wa1.ne]) some1 (fun x hx => by
      simp only [List.mem_cons, List.not_mem_nil, or_false] at hx
      rcases hx with rfl | rfl
      · exact hpw
      · exact hdh0)
    have some2 : ∀ x ∈ [y] ++ [pw, dh], A2 x ≠ none := fun x hx e => by
      have e' := g1.b _ e
      simp only [List.mem_append, List.mem_cons, List.not_mem_nil, or_false] at hx
      rcases hx with rfl | rfl | rfl
      · rw [e1] at e'; cases e'
      · rw [k1] at e'; cases e'
      · rw [k3] at e'; cases e'
    have nD2 : (([y] ++ [pw, dh]) ++ [pk, qr, qf, qp]).Nodup := nod_app nD1 (by
      obtain ⟨a1, a2, a3⟩ := vk2.nek
      obtain ⟨a4, a5, a6⟩ := vk2.ne
      simp [a1, a2, a3, a4, a5, a6]) some2 (fun x hx => by
      simp only [List.mem_cons, List.not_mem_nil, or_false] at hx
      rcases hx with rfl | rfl | rfl | rfl
      · exact hpk
      · exact hqr2
      · exact hqf2
      · exact hqp2)
    obtain ⟨⟨dxv, v1⟩, v2, v3, ⟨ts, v4, _⟩, _⟩ := id vk2
    have some3 : ∀ x ∈ ([y] ++ [pw, dh]) ++ [pk, qr, qf, qp], A3 x ≠ none := fun x hx e => by
      rcases List.mem_append.mp hx with hx | hx
      · exact some2 x hx (b2 e)
      have e' := g2.b _ e
      simp only [List.mem_cons, List.not_mem_nil, or_false] at hx
      rcases hx with rfl | rfl | rfl | rfl
      · rw [v1] at e'; cases e'
      · rw [v2] at e'; cases e'
      · rw [v3] at e'; cases e'
      · rw [v4] at e'; cases e'
    obtain ⟨⟨dxz, z1⟩, z2, z3, ⟨us, z4, _⟩, _⟩ := id vk3
    obtain ⟨dxd3, d1⟩ := id dk3
    have nD3 : ((([y] ++ [pw, dh]) ++ [pk, qr, qf, qp]) ++ [pd, pz, zr, zf, zp]).Nodup := nod_app nD2 (by
      obtain ⟨a1, a2, a3⟩ := vk3.nek
      obtain ⟨a4, a5, a6⟩ := vk3.ne
      have c1 : pd ≠ pz := ne_of_none upd_same hpz
      have c2 : pd ≠ zr := ne_of_none upd_same hzr
      have c3 : pd ≠ zf := ne_of_none upd_same hzf
      have c4 : pd ≠ zp := ne_of_none upd_same hzp
      simp [a1, a2, a3, a4, a5, a6, c1, c2, c3, c4]) some3 (fun x hx => by
      simp only [List.mem_cons, List.not_mem_nil, or_false] at hx
      rcases hx with rfl | rfl | rfl | rfl | rfl
      · exact hpd
      · exact hpz3
      · exact hzr3
      · exact hzf3
      · exact hzp3)
    have some4 : ∀ x ∈ (([y] ++ [pw, dh]) ++ [pk, qr, qf, qp]) ++ [pd, pz, zr, zf, zp], A4 x ≠ none := fun x hx e => by
      rcases List.mem_append.mp hx with hx | hx
      · exact some3 x hx (b3 e)
      have e' := g3.b _ e
      simp only [List.mem_cons, List.not_mem_nil, or_false] at hx
      rcases hx with rfl | rfl | rfl | rfl | rfl
      · rw [d1] at e'; cases e'
      · rw [z1] at e'; cases e'
      · rw [z2] at e'; cases e'
      · rw [z3] at e'; cases e'
      · rw [z4] at e'; cases e'
    have nD4 : (((([y] ++ [pw, dh]) ++ [pk, qr, qf, qp]) ++ [pd, pz, zr, zf, zp]) ++ [pe]).Nodup := nod_app nD3 (by simp) some4 (fun x hx => by rw [List.mem_singleton.mp hx]; exact hpe)
    have ny : ∀ {x : Addr}, H x = none → x ∉ [y] := fun {x} e z => some1 x z e
    refine k _ H5 ?_ ⟨pw, dh, dl, pk, qr, qf, qp, pd, pz, zr, zf, zp, pe, pl, [], none, rfl, ⟨dx, e8⟩, ?_, Nat.zero_le _, fun z => absurd rfl z, ?_, ?_, ?_, ?_, nD4, ?_, ?_⟩ (((f01.mono (by simp)).trans h15))
    · intro a ha
      simp only [List.mem_cons, List.not_mem_nil, or_false] at ha
      rcases ha with rfl | rfl | rfl | rfl | rfl | rfl | rfl | rfl | rfl | rfl | rfl | rfl | rfl | rfl | rfl
      · exact .inl rfl
      all_goals right
      · exact hpw
      · exact hdh0
      · exact b1 hpk
      · exact b1 hqr2
      · exact b1 hqf2
      · exact b1 hqp2
      · exact b1 (b2 hpd)
      · exact b1 (b2 hpz3)
      · exact b1 (b2 hzr3)
      · exact b1 (b2 hzf3)
      · exact b1 (b2 hzp3)
      · exact b1 (b2 (b3 hpe))
      · exact hdl0
      · exact b1 (b2 (b3 hpl4))
    · exact wa1.keep (h15.toT (K := K) (.cons e1 rfl .nil)) (ny hpw) (ny hdh0) (ny hdl0)
    · exact vk2.keepT (h25.toT (K := K) (.cons e3 rfl .nil)) (.cons e3 rfl .nil) (ny (b1 hpk)) (ny (b1 hqr2)) (ny (b1 hqf2)) (ny (b1 hqp2))
    · exact dk3.keep (h35.toT (K := K) (.cons e5 rfl .nil)) (ny (b1 (b2 hpd)))
    · exact vk3.keepT (h35.toT (K := K) (.cons e5 rfl .nil)) (.cons e5 rfl .nil) (ny (b1 (b2 hpz3))) (ny (b1 (b2 hzr3))) (ny (b1 (b2 hzf3))) (ny (b1 (b2 hzp3)))
    · exact kp4.keep (g4.toT (K := K) (.cons e7 rfl .nil)) (ny (b1 (b2 (b3 hpe)))) (ny (b1 (b2 (b3 hpl4))))
    · have o2 : A2 dl ≠ none := fun e => by rw [g1.b _ e] at k2; cases k2
      have o3 : A3 dl ≠ none := fun e => o2 (b2 e)
      intro z
      simp only [List.mem_cons, List.not_mem_nil, or_false] at z
      rcases z with z | z | z | z | z | z
      · exact o2 (by rw [z]; exact hqr2)
      · exact o2 (by rw [z]; exact hqf2)
      · exact o2 (by rw [z]; exact hqp2)
      · exact o3 (by rw [z]; exact hzr3)
      · exact o3 (by rw [z]; exact hzf3)
      · exact o3 (by rw [z]; exact hzp3)
    · intro z
      rcases List.mem_append.mp (show pl ∈ ((([y] ++ [pw, dh]) ++ [pk, qr, qf, qp]) ++ [pd, pz, zr, zf, zp]) ++ [pe] from z) with z | z
      · exact some4 pl z hpl4
      · exact ne_of_none upd_same hpl (List.mem_singleton.mp z).symm
end
end B

set_option Elab.async false
set_option linter.all false
set_option maxRecDepth 100000
set_option maxHeartbeats 4000000
namespace B
open PySem PySem.Spec PyProof.Rows L2
open SX (S)
/-! ### a day does a step -/
def rowOf (w x : Str) : List Str := if w ∈ aloneV then [w] else [w, x]
def errD (K : PySem.W.Frag) (wd : Str) : Addr := if wd = "there" then He.ga K "There" else if wd = "not" then He.ga K "NotThere" else if wd = "number" then He.ga K "BadNumber" else if wd = "over" then He.ga K "Over" else He.ga K "Busy"
theorem errD_deed {K : PySem.W.Frag} {kvs : List (Str × Bool)} {w x : Str} (h : ¬ deedW kvs w x = "") : errD K (deedW kvs w x) = errOf K w := by
  unfold deedW at h ⊢
  unfold errOf errD
  by_cases c : w = "hang"
  · rw [if_pos c] at h ⊢
    by_cases c2 : hasK kvs x = true
    · rw [if_pos c2, if_pos rfl, if_pos c]
    · rw [if_neg c2] at h
      exact absurd rfl h
  · rw [if_neg c] at h ⊢
    by_cases c2 : hasK kvs x = true
    · rw [if_pos c2] at h
      exact absurd rfl h
    · rw [if_neg c2, if_neg (by decide +kernel), if_pos rfl, if_neg c]
theorem idx_out {M T : List Addr} {i : Nat} {a : Addr} (nd : M.Nodup) (hi : M[i]? = some a) (js : List Nat) (hT : T = js.filterMap (M[·]?)) (hn : i ∉ js) : a ∉ T := by
  intro z
  rw [hT] at z
  obtain ⟨j, hj, e⟩ := List.mem_filterMap.mp z
  have := (List.getElem?_inj (List.getElem?_eq_some_iff.mp hi).1 nd).mp (hi.trans e.symm)
  exact hn (this ▸ hj)
theorem ne2 {a b x : Str} (h : a ≠ b) : ∀ y, [a, x] ≠ [b, y] := fun y z => h (List.cons.inj z).1
theorem ne12 {a x : Str} {bs : List Str} (h : bs.length = 1) : [a, x] ≠ bs := fun z => by rw [← z] at h; cases h
theorem ne21 {a : Str} {b : Str} : ∀ y : Str, [a] ≠ [b, y] := fun y z => by cases z
theorem ne11 {a b : Str} (h : a ≠ b) : [a] ≠ [b] := fun z => h (List.cons.inj z).1
theorem step_lmN {W : Nat} {kvs : List (Str × Bool)} {lm : List Str} {lk : Int} {st : WkS} (h : st.sd = none) : stepF W kvs lm lk st = stepF W kvs [] lk st := by
  obtain ⟨kd, rest, sd, found, paper⟩ := st
  dsimp only at h
  subst h
  rfl
theorem idx_ne {M : List Addr} {i j : Nat} {a c : Addr} (nd : M.Nodup) (hi : M[i]? = some a) (hj : M[j]? = some c) (hn : i ≠ j) : a ≠ c := fun e => by
  subst e
  exact hn ((List.getElem?_inj (List.getElem?_eq_some_iff.mp hi).1 nd).mp (hi.trans hj.symm))
def spDo (K : PySem.W.Frag) : Sp := fun vs H Q E => ∃ (y p : Addr) (M X : List Addr) (W : Nat) (names : List Str) (b : Nat) (d : DyS) (w x : Str), vs = [.ref y, .ref p] ∧ H p = some (.tup ((rowOf w x).map V.str)) ∧ DAt K H y M W d ∧ DInv names W b d ∧ PoolS W names ∧ 1 ≤ b ∧ b ≤ 700000 ∧ Legal names W w x ∧ Tb K H ∧ (∀ a ∈ X, H a ≠ none) ∧
  (¬ (doF W d w x).1 = "" → ∀ H', FrT K [] H H' → E (.ref (errD K (doF W d w x).1)) none H') ∧
  ((doF W d w x).1 = "" → ∀ (v : V) (M' : List Addr) (H' : Hp), (∀ a ∈ M', a ∈ M ∨ H a = none) → DAt K H' y M' W (doF W d w x).2.2 → TVAt H' (M' ++ X) (doF W d w x).2.1 v → FrT K M H H' → Q v H')
section
variable {P : Program} {w : World} {K : PySem.W.Frag} {mg : Str → Option Value} {base : Heap}
theorem m_Day_do (T : Txt P w K mg base) : MetX (L2.CX P w) P w K mg base 8 (YC K) "do" (spDo K) := by
  obtain ⟨fd, F⟩ := T.t.def_ 36 (d := d_Day_do)
  refine ⟨_, fd, _, ycl T, He.meth_ok (T.t.fact 126 (f := .meth "Day" "do")), F.ok sc_Day_do (fun vs H Q E h => ?_) (fun cdv A outer s H vs Q E hr h => ?_), F.bindsN fun _ _ _ _ _ _ us hl => match us, hl with | [_, _], _ => rfl⟩
  · obtain ⟨y, p, M, X, W, names, b, d, w, x, rfl, _⟩ := h
    rfl
  · obtain ⟨y, p, M, XX, W, names, b, d, w, x, rfl, hp, ⟨pw, dh, dl, pk, qr, qf, qp, pd, pz, zr, zf, zp, pe, pl, lw, sdm, rfl, da⟩, inv, pool, hb1, hb, leg, ht, hX, kE, kQ⟩ := h
    have nt := da.nt
    have nd := da.nd
    have kl := inv.kl pool
    have num := inv.num pool
    obtain ⟨w1, w2⟩ := And.intro pool.w1 pool.w2
    obtain ⟨dx, o1⟩ := id da.ob
    obtain ⟨⟨dw, o2⟩, oli, odh⟩ := id da.wa
    obtain ⟨⟨dk, k1⟩, k2, k3, ⟨ks, k4, _⟩, _⟩ := id da.wk
    have dlN : ∀ {t : Addr}, H t = none → t ≠ dl := fun e z => by rw [z, oli] at e; cases e
    have inM : ∀ {a : Addr}, H a = none → a ∉ [y, pw, dh, pk, qr, qf, qp, pd, pz, zr, zf, zp, pe] := fun {a} e z => by
      obtain ⟨o, q, _⟩ := nt a z
      rw [e] at q; cases q
    have keepM : ∀ {dl' : Addr}, (dl' = dl ∨ H dl' = none) → ∀ a ∈ [y, pw, dh, pk, qr, qf, qp, pd, pz, zr, zf, zp, pe, dl', pl], a ∈ [y, pw, dh, pk, qr, qf, qp, pd, pz, zr, zf, zp, pe, dl, pl] ∨ H a = none := fun {dl'} hd a ha => by
      rcases List.mem_append.mp (show a ∈ [y, pw, dh, pk, qr, qf, qp, pd, pz, zr, zf, zp, pe] ++ [dl', pl] from ha) with z | z
      · exact .inl (List.mem_append_left [dl, pl] z)
      · simp only [List.mem_cons, List.not_mem_nil, or_false] at z
        rcases z with rfl | rfl
        · exact hd.imp_left fun e => by rw [e]; simp
        · exact .inl (by simp)
    have up15 : ∀ {T : List Addr}, (∀ a ∈ T, a ∈ [y, pw, dh, pk, qr, qf, qp, pd, pz, zr, zf, zp, pe]) → ∀ a ∈ T, a ∈ [y, pw, dh, pk, qr, qf, qp, pd, pz, zr, zf, zp, pe, dl, pl] := fun s a ha => List.mem_append_left [dl, pl] (s a ha)
    have ndlN : ∀ {dl' : Addr}, (dl' = dl ∨ H dl' = none) → dl' ∉ [qr, qf, qp, zr, zf, zp] := fun {dl'} hd z => hd.elim (fun e => da.ndl (by rw [← e]; exact z)) fun e => inM e (by
      simp only [List.mem_cons, List.not_mem_nil, or_false] at z ⊢
      rcases z with z | z | z | z | z | z <;> simp [z])
    -- the walk as the wire has it: lm0 is what listens, up to its order
    have nlk : dl ≠ qr ∧ dl ≠ qf ∧ dl ≠ qp := ⟨fun e => da.ndl (by simp [e]), fun e => da.ndl (by simp [e]), fun e => da.ndl (by simp [e])⟩
    have nlz : dl ≠ zr ∧ dl ≠ zf ∧ dl ≠ zp := ⟨fun e => da.ndl (by simp [e]), fun e => da.ndl (by simp [e]), fun e => da.ndl (by simp [e])⟩
    by_cases c1 : w = "walk"
    · subst c1
      have eD : doF W d "walk" x = (("" : Str), TV.tl .no, ({ d with wk := newW x } : DyS)) := by unfold doF; rw [if_pos rfl]
      rw [eD] at kQ
      have er : rowOf "walk" x = [("walk" : Str), x] := by unfold rowOf; rw [if_neg (by decide +kernel)]
      rw [er] at hp
      have hx : x = "all" ∨ x = "alarm" := by
        rcases leg with z | z | z
        · exact z.2
        · exact absurd z (by decide +kernel)
        · exact absurd z.1 (by decide +kernel)
      refine ⟨_, (pss_one (ps_match (pv 1)
      (pc_seq2 (i := 2) rfl sc_Day_do.nd rfl rfl (pss_one (ps_ret (pe_mx (m_Wire_hang T) hr (by decide) (pe_fld (pv 0) (by rfl)) (passes_call (takes_of rfl rfl rfl rfl) (fun _ _ _ _ h => h)) (pa_cons (pv 2) pa_nil))))
      (pc_seq2 (i := 2) rfl sc_Day_do.nd rfl rfl (pss_one (ps_ret (pe_mx (m_Wire_off T) hr (by decide) (pe_fld (pv 0) (by rfl)) (passes_call (takes_of rfl rfl rfl rfl) (fun _ _ _ _ h => h)) (pa_cons (pv 2) pa_nil))))
      (pc_seq2 (i := 2) rfl sc_Day_do.nd rfl rfl (pss_one (ps_ret (pe_mx (m_Wire_alarm T) hr (by decide) (pe_fld (pv 0) (by rfl)) (passes_call (takes_of rfl rfl rfl rfl) (fun _ _ _ _ h => h)) (pa_cons (pv 2) pa_nil))))
      (pc_seq2 (i := 2) rfl sc_Day_do.nd rfl rfl (pss_one (ps_ret (pe_mx (m_Wire_calm T) hr (by decide) (pe_fld (pv 0) (by rfl)) (passes_call (takes_of rfl rfl rfl rfl) (fun _ _ _ _ h => h)) (pa_cons (pv 2) pa_nil))))
      (pc_seq2 (i := 3) rfl sc_Day_do.nd rfl rfl (pss_cons (ps_fld (pv 0) (pe_mkx (k_Walk T) hr (by decide) rfl pass0 (pa_cons (pe_fld (pv 0) (by rfl)) (pa_cons (pv 3) pa_nil))) rfl)
      (pss_one (ps_ret pe_non)))
      (pc_seq1 rfl (pss_one (ps_ret (pe_mx0 (m_Walk_step T) hr (by decide) (pe_fld (pv 0) (by rfl)) (passes_call (takes_of rfl rfl rfl rfl) (fun _ _ _ _ h => h)))))
      (pc_seq1 rfl (pss_one (ps_ret (pe_mx0 (m_Walk_go_round T) hr (by decide) (pe_fld (pv 0) (by rfl)) pass0)))
      (pc_seq1 rfl (pss_cons (ps_expr (pe_mx0 (m_Day__require_no_round T) hr (by decide) (pv 0) (passes_call (takes_of rfl rfl rfl rfl) (fun _ _ _ _ h => h))))
      (pss_one (ps_ret (pe_mx0 (m_Desk_turn T) hr (by decide) (pe_fld (pv 0) (by rfl)) pass0))))
      (pc_wild (pss_cons (ps_expr (pe_mx0 (m_Day__require_no_round T) hr (by decide) (pv 0) (passes_call (takes_of rfl rfl rfl rfl) (fun _ _ _ _ h => h))))
      (pss_one (ps_ret (pe_mx0 (m_Keeper_refresh T) hr (by decide) (pe_fld (pv 0) (by rfl)) pass0))))))))))))))), ?_⟩
      refine ⟨_, rfl, p, _, rfl, SqT.of hp, Or.inr ⟨ne2 (by decide +kernel), Or.inr ⟨ne2 (by decide +kernel), Or.inr ⟨ne2 (by decide +kernel), Or.inr ⟨ne2 (by decide +kernel), Or.inl ⟨x, rfl, ?_⟩⟩⟩⟩⟩⟩
      refine ⟨_, rfl, y, _, dx, _, _, rfl, o1, ycl T, yn_wire T, yl_wire, _, rfl, fun qk dxq hqk hdxq hnq => ⟨qk, dxq, pw, x, rfl, hx, upd_same, fun ar af ap H1 har haf hap vk1 f1 => ⟨rfl, ?_⟩⟩⟩
      have f01 : Frm [] H H1 := Frm.fresh (((Frm.refl _ _).new hdxq).new hqk) f1 (by simpa using hqk)
      have har0 : H ar = none := upd_back (upd_back har)
      have haf0 : H af = none := upd_back (upd_back haf)
      have hap0 : H ap = none := upd_back (upd_back hap)
      have da1 := da.stay0 (f01.toT (K := K) .nil)
      obtain ⟨dx1, p1⟩ := id da1.ob
      refine ⟨_, rfl, y, _, dx1, _, rfl, p1, ycl T, yn_walk T, yl_len, ?_⟩
      rw [yp_walk]
      have g2 : FrT K [y] H1 (upd H1 y (.ins (YC K) dx1 (yfl pw qk pd pe))) := ((Frm.refl [y] H1).put (by simp)).toT (.cons p1 rfl .nil)
      have e2 : (upd H1 y (.ins (YC K) dx1 (yfl pw qk pd pe))) y = some (.ins (YC K) dx1 (yfl pw qk pd pe)) := upd_same
      revert g2 e2
      generalize (upd H1 y (.ins (YC K) dx1 (yfl pw qk pd pe))) = H2
      intro g2 e2
      have nt1 : NT [y] H1 := .cons p1 rfl .nil
      have O : ∀ {a : Addr} (i : Nat), [y, pw, dh, pk, qr, qf, qp, pd, pz, zr, zf, zp, pe][i]? = some a → i ≠ 0 → a ∉ [y] := fun {a} i hi hn => idx_out nd hi [0] rfl (by simpa using hn)
      have ny : ∀ {a : Addr}, H a = none → a ∉ [y] := fun {a} e z => inM e (by simp [List.mem_singleton.mp z])
      have nAC : ([y, pw, dh] ++ [pd, pz, zr, zf, zp, pe]).Nodup := nd.sublist (List.Sublist.append (List.Sublist.refl [y, pw, dh]) (List.sublist_append_right [pk, qr, qf, qp] [pd, pz, zr, zf, zp, pe]))
      have nB : ([qk, ar, af, ap] : List Addr).Nodup := by
        obtain ⟨a1, a2, a3⟩ := vk1.nek
        obtain ⟨a4, a5, a6⟩ := vk1.ne
        simp [a1, a2, a3, a4, a5, a6]
      have nM : ([y, pw, dh] ++ ([qk, ar, af, ap] ++ [pd, pz, zr, zf, zp, pe])).Nodup := by
        have z := nod_app nAC nB (H := H) (fun a ha e => inM e (by
          simp only [List.mem_append, List.mem_cons, List.not_mem_nil, or_false] at ha ⊢
          rcases ha with (ha | ha | ha) | (ha | ha | ha | ha | ha | ha) <;> simp [ha])) (fun a ha => by
          simp only [List.mem_cons, List.not_mem_nil, or_false] at ha
          rcases ha with rfl | rfl | rfl | rfl
          · exact hqk
          · exact har0
          · exact haf0
          · exact hap0)
        rw [List.append_assoc] at z
        exact (List.Perm.append_left _ List.perm_append_comm).nodup_iff.mp z
      refine kQ rfl .non _ H2 ?_ ⟨pw, dh, dl, qk, ar, af, ap, pd, pz, zr, zf, zp, pe, pl, lw, sdm, rfl, ⟨dx1, e2⟩, da1.wa.keep g2 (O 1 rfl (by decide)) (O 2 rfl (by decide)) ?_, da.len, fun z => absurd rfl z, vk1.keepT g2 nt1 (ny hqk) (ny har0) (ny haf0) (ny hap0), da1.dk.keep g2 (O 7 rfl (by decide)), da1.tour.keepT g2 nt1 (O 8 rfl (by decide)) (O 9 rfl (by decide)) (O 10 rfl (by decide)) (O 11 rfl (by decide)), da1.kp.keep g2 (O 12 rfl (by decide)) ?_, nM, ?_, ?_⟩ rfl (((f01.toT (K := K) .nil).mono (by simp)).trans (g2.mono (by simp)))
      · intro a ha
        simp only [List.mem_cons, List.not_mem_nil, or_false] at ha
        rcases ha with rfl | rfl | rfl | rfl | rfl | rfl | rfl | ha
        · exact .inl (by simp)
        · exact .inl (by simp)
        · exact .inl (by simp)
        · exact .inr hqk
        · exact .inr har0
        · exact .inr haf0
        · exact .inr hap0
        · refine .inl ?_
          rcases ha with rfl | rfl | rfl | rfl | rfl | rfl | rfl | rfl <;> simp
      · intro z
        rw [List.mem_singleton.mp z, o1] at oli
        cases oli
      · intro z
        exact da.npl (by simp [List.mem_singleton.mp z])
      · intro z
        simp only [List.mem_cons, List.not_mem_nil, or_false] at z
        rcases z with z | z | z | z | z | z
        · exact dlN har0 z.symm
        · exact dlN haf0 z.symm
        · exact dlN hap0 z.symm
        · exact nlz.1 z
        · exact nlz.2.1 z
        · exact nlz.2.2 z
      · have hpl := da.kp.ls
        intro z
        simp only [List.mem_cons, List.not_mem_nil, or_false] at z
        rcases z with z | z | z | z | z | z | z | z | z | z | z | z | z
        · exact da.npl (by simp [z])
        · exact da.npl (by simp [z])
        · exact da.npl (by simp [z])
        · rw [z, hqk] at hpl; cases hpl
        · rw [z, har0] at hpl; cases hpl
        · rw [z, haf0] at hpl; cases hpl
        · rw [z, hap0] at hpl; cases hpl
        all_goals exact da.npl (by simp [z])
    -- the same walk, other parts as they were: what a step or a round of it leaves
    have O6 : ∀ {a : Addr} (i : Nat), [y, pw, dh, pk, qr, qf, qp, pd, pz, zr, zf, zp, pe][i]? = some a → i ∉ [3, 4, 5, 6, 1] → a ∉ [pk, qr, qf, qp, pw] := fun {a} i hi hn => idx_out nd hi [3, 4, 5, 6, 1] rfl hn
    have nt6 : NT [pk, qr, qf, qp, pw] H := nt.sub fun a ha => by
      simp only [List.mem_cons, List.not_mem_nil, or_false] at ha ⊢
      rcases ha with rfl | rfl | rfl | rfl | rfl <;> simp
    have np6 : pl ∉ [pk, qr, qf, qp, pw] := fun z => da.npl (by
      simp only [List.mem_cons, List.not_mem_nil, or_false] at z ⊢
      rcases z with z | z | z | z | z <;> simp [z])
    have after : ∀ {lm0 lw' : List Str} {sd' : Option (List Nat)} {lk' : Int} {st' : WkS} {dl' : Addr} {H' : Hp}, (dl' = dl ∨ H dl' = none) → VkAt K H' pk pw qr qf qp st' → WiAt K H' pw dh dl' W d.kvs lw' (msOf W sd') lk' → lw'.length ≤ 41 → (st'.sd ≠ none → lw'.Perm lm0 ∧ sd' = st'.sd) → FrT K [pk, qr, qf, qp, pw] H H' →
        DAt K H' y [y, pw, dh, pk, qr, qf, qp, pd, pz, zr, zf, zp, pe, dl', pl] W { d with wk := st', lm := lm0, lk := lk' } := fun {lm0 lw' sd' lk' st' dl' H'} hd vk wa hl on f =>
      ⟨pw, dh, dl', pk, qr, qf, qp, pd, pz, zr, zf, zp, pe, pl, lw', sd', rfl, ⟨dx, f.k _ _ o1 rfl (O6 0 rfl (by decide))⟩, wa, hl, on, vk, da.dk.keep f (O6 7 rfl (by decide)), da.tour.keepT f nt6 (O6 8 rfl (by decide)) (O6 9 rfl (by decide)) (O6 10 rfl (by decide)) (O6 11 rfl (by decide)), da.kp.keep f (O6 12 rfl (by decide)) np6, nd, ndlN hd, da.npl⟩
    have sub6 : ∀ a ∈ [pk, qr, qf, qp, pw], a ∈ [y, pw, dh, pk, qr, qf, qp, pd, pz, zr, zf, zp, pe] := fun a ha => by
      simp only [List.mem_cons, List.not_mem_nil, or_false] at ha ⊢
      rcases ha with rfl | rfl | rfl | rfl | rfl <;> simp
    have wl := inv.wk.len
    by_cases c2 : w = "step"
    · subst c2
      have er : rowOf "step" x = [("step" : Str)] := by unfold rowOf; rw [if_pos (by decide +kernel)]
      rw [er] at hp
      have eD : doF W d "step" x = (if Done d.wk then (("over" : Str), TV.tl .no, d) else ("", TV.tl (stepF W d.kvs d.lm d.lk d.wk).1.2, ({ d with wk := (stepF W d.kvs d.lm d.lk d.wk).1.1, lm := (stepF W d.kvs d.lm d.lk d.wk).2.1, lk := (stepF W d.kvs d.lm d.lk d.wk).2.2.2 } : DyS))) := by
        unfold doF
        rw [if_neg (by decide +kernel), if_pos rfl]
      rw [eD] at kQ kE
      refine ⟨_, (pss_one (ps_match (pv 1)
      (pc_seq2 (i := 2) rfl sc_Day_do.nd rfl rfl (pss_one (ps_ret (pe_mx (m_Wire_hang T) hr (by decide) (pe_fld (pv 0) (by rfl)) (passes_call (takes_of rfl rfl rfl rfl) (fun _ _ _ _ h => h)) (pa_cons (pv 2) pa_nil))))
      (pc_seq2 (i := 2) rfl sc_Day_do.nd rfl rfl (pss_one (ps_ret (pe_mx (m_Wire_off T) hr (by decide) (pe_fld (pv 0) (by rfl)) (passes_call (takes_of rfl rfl rfl rfl) (fun _ _ _ _ h => h)) (pa_cons (pv 2) pa_nil))))
      (pc_seq2 (i := 2) rfl sc_Day_do.nd rfl rfl (pss_one (ps_ret (pe_mx (m_Wire_alarm T) hr (by decide) (pe_fld (pv 0) (by rfl)) (passes_call (takes_of rfl rfl rfl rfl) (fun _ _ _ _ h => h)) (pa_cons (pv 2) pa_nil))))
      (pc_seq2 (i := 2) rfl sc_Day_do.nd rfl rfl (pss_one (ps_ret (pe_mx (m_Wire_calm T) hr (by decide) (pe_fld (pv 0) (by rfl)) (passes_call (takes_of rfl rfl rfl rfl) (fun _ _ _ _ h => h)) (pa_cons (pv 2) pa_nil))))
      (pc_seq2 (i := 3) rfl sc_Day_do.nd rfl rfl (pss_cons (ps_fld (pv 0) (pe_mkx (k_Walk T) hr (by decide) rfl pass0 (pa_cons (pe_fld (pv 0) (by rfl)) (pa_cons (pv 3) pa_nil))) rfl)
      (pss_one (ps_ret pe_non)))
      (pc_seq1 rfl (pss_one (ps_ret (pe_mx0 (m_Walk_step T) hr (by decide) (pe_fld (pv 0) (by rfl)) (passes_call (takes_of rfl rfl rfl rfl) (fun _ _ _ _ h => h)))))
      (pc_seq1 rfl (pss_one (ps_ret (pe_mx0 (m_Walk_go_round T) hr (by decide) (pe_fld (pv 0) (by rfl)) pass0)))
      (pc_seq1 rfl (pss_cons (ps_expr (pe_mx0 (m_Day__require_no_round T) hr (by decide) (pv 0) (passes_call (takes_of rfl rfl rfl rfl) (fun _ _ _ _ h => h))))
      (pss_one (ps_ret (pe_mx0 (m_Desk_turn T) hr (by decide) (pe_fld (pv 0) (by rfl)) pass0))))
      (pc_wild (pss_cons (ps_expr (pe_mx0 (m_Day__require_no_round T) hr (by decide) (pv 0) (passes_call (takes_of rfl rfl rfl rfl) (fun _ _ _ _ h => h))))
      (pss_one (ps_ret (pe_mx0 (m_Keeper_refresh T) hr (by decide) (pe_fld (pv 0) (by rfl)) pass0))))))))))))))), ?_⟩
      refine ⟨_, rfl, p, _, rfl, SqT.of hp, Or.inr ⟨ne21, Or.inr ⟨ne21, Or.inr ⟨ne21, Or.inr ⟨ne21, Or.inr ⟨ne21, Or.inl ⟨rfl, ?_⟩⟩⟩⟩⟩⟩⟩
      refine ⟨_, rfl, y, _, dx, _, _, rfl, o1, ycl T, yn_walk T, yl_walk, pk, dk, _, rfl, k1, vx_step, pk, pw, qr, qf, qp, dh, dl, W, d.kvs, lw, _, d.lk, d.wk, rfl, da.wk, da.wa, nlk, inv.kd, w2, by omega, inv.nd, num, by have := da.len; omega, by omega, by omega, by omega, inv.wk.rest, fun l e => ?_, fun e1 e2 => ?_, fun hne v lw' dl' H1 hdl pm vk tl wa f => ?_⟩
      · obtain ⟨pm, es⟩ := da.on (by rw [e]; exact nofun)
        obtain ⟨_, a2, a3, a4⟩ := inv.wk.said l e
        rw [es, e]
        exact ⟨rfl, a2, a3, fun z hz => (a4 z (pm.mem_iff.mp hz)).num⟩
      · have c : Done d.wk := ⟨e1, e2⟩
        have z := kE (by rw [if_pos c]; show ¬ ("over" : Str) = ""; decide +kernel) H (FrT.refl _ _ _)
        rw [if_pos c] at z
        exact z
      · have c : ¬ Done d.wk := fun z => hne z.1 z.2
        rw [if_neg c] at kQ
        have ef : (stepF W d.kvs lw d.lk d.wk).1 = (stepF W d.kvs d.lm d.lk d.wk).1 ∧ (stepF W d.kvs lw d.lk d.wk).2.1.Perm (stepF W d.kvs d.lm d.lk d.wk).2.1 ∧ (stepF W d.kvs lw d.lk d.wk).2.2 = (stepF W d.kvs d.lm d.lk d.wk).2.2 := by
          by_cases e : d.wk.sd = none
          · rw [step_lmN e (lm := lw), ← step_lmN e (lm := d.lm)]
            exact ⟨rfl, List.Perm.refl _, rfl⟩
          · exact step_perm (da.on e).1
        rw [ef.1] at vk tl
        rw [ef.2.2] at wa
        have ok := step_ok (lk := d.lk) inv.wk (fun e => hne e) (by omega) num
        have fT := f.toN (K := K) nt6
        exact kQ rfl v _ H1 (keepM hdl) (after hdl vk wa (by rw [pm.length_eq, ef.2.1.length_eq]; exact step_len inv.lm kl) (fun z => ⟨pm.trans ef.2.1, by
          cases q : (stepF W d.kvs d.lm d.lk d.wk).1.1.sd with
          | none => exact absurd q z
          | some l => exact (ok.said l q).1⟩) fT) tl (fT.mono (up15 sub6))
    by_cases c3 : w = "round"
    · subst c3
      have er : rowOf "round" x = [("round" : Str)] := by unfold rowOf; rw [if_pos (by decide +kernel)]
      rw [er] at hp
      have eD : doF W d "round" x = (if Done d.wk then (("over" : Str), TV.tl .no, d) else ("", TV.tl (roundF W d.kvs W d.lm d.lk d.wk).1.2, ({ d with wk := (roundF W d.kvs W d.lm d.lk d.wk).1.1, lm := (roundF W d.kvs W d.lm d.lk d.wk).2.1, lk := (roundF W d.kvs W d.lm d.lk d.wk).2.2.2 } : DyS))) := by
        unfold doF
        rw [if_neg (by decide +kernel), if_neg (by decide +kernel), if_pos rfl]
      rw [eD] at kQ kE
      -- what listens
      obtain ⟨l0, sd0, wa0, pm0, ok0, er0⟩ : ∃ (l0 : List Str) (sd0 : Option (List Nat)), WiAt K H pw dh dl W d.kvs lw (msOf W sd0) d.lk ∧ lw.Perm l0 ∧ WkOk W l0 sd0 d.wk b ∧ roundF W d.kvs W l0 d.lk d.wk = roundF W d.kvs W d.lm d.lk d.wk := by
        by_cases e : d.wk.sd = none
        · exact ⟨lw, sdm, da.wa, List.Perm.refl _, inv.wk.idle e (by have := da.len; omega), by rw [round_lm e, ← round_lm e (lm := d.lm)]⟩
        · obtain ⟨pm, es⟩ := da.on e
          exact ⟨d.lm, d.wk.sd, es ▸ da.wa, pm, inv.wk, rfl⟩
      have vko : VkOk K H pk pw qr qf qp dh dl W d.kvs l0 sd0 d.lk d.wk b := ⟨da.wk, ⟨lw, wa0, pm0⟩, nlk, inv.kd, w2, by omega, inv.nd, num, ok0⟩
      by_cases c : Done d.wk
      · have z := kE (by rw [if_pos c]; show ¬ ("over" : Str) = ""; decide +kernel) H (FrT.refl _ _ _)
        rw [if_pos c] at z
        refine ⟨_, (pss_one (ps_match (pv 1)
      (pc_seq2 (i := 2) rfl sc_Day_do.nd rfl rfl (pss_one (ps_ret (pe_mx (m_Wire_hangB T) hr (by decide) (pe_fld (pv 0) (by rfl)) (passes_call (takes_of rfl rfl rfl rfl) (fun _ _ _ _ h => h)) (pa_cons (pv 2) pa_nil))))
      (pc_seq2 (i := 2) rfl sc_Day_do.nd rfl rfl (pss_one (ps_ret (pe_mx (m_Wire_offB T) hr (by decide) (pe_fld (pv 0) (by rfl)) (passes_call (takes_of rfl rfl rfl rfl) (fun _ _ _ _ h => h)) (pa_cons (pv 2) pa_nil))))
      (pc_seq2 (i := 2) rfl sc_Day_do.nd rfl rfl (pss_one (ps_ret (pe_mx (m_Wire_alarmB T) hr (by decide) (pe_fld (pv 0) (by rfl)) (passes_call (takes_of rfl rfl rfl rfl) (fun _ _ _ _ h => h)) (pa_cons (pv 2) pa_nil))))
      (pc_seq2 (i := 2) rfl sc_Day_do.nd rfl rfl (pss_one (ps_ret (pe_mx (m_Wire_calmB T) hr (by decide) (pe_fld (pv 0) (by rfl)) (passes_call (takes_of rfl rfl rfl rfl) (fun _ _ _ _ h => h)) (pa_cons (pv 2) pa_nil))))
      (pc_seq2 (i := 3) rfl sc_Day_do.nd rfl rfl (pss_cons (ps_fld (pv 0) (pe_mkx (k_Walk T) hr (by decide) rfl pass0 (pa_cons (pe_fld (pv 0) (by rfl)) (pa_cons (pv 3) pa_nil))) rfl)
      (pss_one (ps_ret pe_non)))
      (pc_seq1 rfl (pss_one (ps_ret (pe_mx0 (m_Walk_step T) hr (by decide) (pe_fld (pv 0) (by rfl)) (passes_call (takes_of rfl rfl rfl rfl) (fun _ _ _ _ h => h)))))
      (pc_seq1 rfl (pss_one (ps_ret (pe_mx0 (m_Walk_go_roundB T) hr (by decide) (pe_fld (pv 0) (by rfl)) (passes_call (takes_of rfl rfl rfl rfl) (fun _ _ _ _ h => h)))))
      (pc_seq1 rfl (pss_cons (ps_expr (pe_mx0 (m_Day__require_no_round T) hr (by decide) (pv 0) (passes_call (takes_of rfl rfl rfl rfl) (fun _ _ _ _ h => h))))
      (pss_one (ps_ret (pe_mx0 (m_Desk_turn T) hr (by decide) (pe_fld (pv 0) (by rfl)) pass0))))
      (pc_wild (pss_cons (ps_expr (pe_mx0 (m_Day__require_no_round T) hr (by decide) (pv 0) (passes_call (takes_of rfl rfl rfl rfl) (fun _ _ _ _ h => h))))
      (pss_one (ps_ret (pe_mx0 (m_Keeper_refresh T) hr (by decide) (pe_fld (pv 0) (by rfl)) pass0))))))))))))))), ?_⟩
        refine ⟨_, rfl, p, _, rfl, SqT.of hp, Or.inr ⟨ne21, Or.inr ⟨ne21, Or.inr ⟨ne21, Or.inr ⟨ne21, Or.inr ⟨ne21, Or.inr ⟨ne11 (by decide +kernel), Or.inl ⟨rfl, ?_⟩⟩⟩⟩⟩⟩⟩⟩
        exact ⟨_, rfl, y, _, dx, _, _, rfl, o1, ycl T, yn_walk T, yl_walk, pk, dk, _, rfl, k1, vx_round, pk, pw, qr, qf, qp, dh, dl, W, d.kvs, l0, sd0, d.lk, d.wk, b, rfl, vko, by omega, c.1, c.2, z⟩
      · rw [if_neg c] at kQ
        refine ⟨_, (pss_one (ps_match (pv 1)
      (pc_seq2 (i := 2) rfl sc_Day_do.nd rfl rfl (pss_one (ps_ret (pe_mx (m_Wire_hang T) hr (by decide) (pe_fld (pv 0) (by rfl)) (passes_call (takes_of rfl rfl rfl rfl) (fun _ _ _ _ h => h)) (pa_cons (pv 2) pa_nil))))
      (pc_seq2 (i := 2) rfl sc_Day_do.nd rfl rfl (pss_one (ps_ret (pe_mx (m_Wire_off T) hr (by decide) (pe_fld (pv 0) (by rfl)) (passes_call (takes_of rfl rfl rfl rfl) (fun _ _ _ _ h => h)) (pa_cons (pv 2) pa_nil))))
      (pc_seq2 (i := 2) rfl sc_Day_do.nd rfl rfl (pss_one (ps_ret (pe_mx (m_Wire_alarm T) hr (by decide) (pe_fld (pv 0) (by rfl)) (passes_call (takes_of rfl rfl rfl rfl) (fun _ _ _ _ h => h)) (pa_cons (pv 2) pa_nil))))
      (pc_seq2 (i := 2) rfl sc_Day_do.nd rfl rfl (pss_one (ps_ret (pe_mx (m_Wire_calm T) hr (by decide) (pe_fld (pv 0) (by rfl)) (passes_call (takes_of rfl rfl rfl rfl) (fun _ _ _ _ h => h)) (pa_cons (pv 2) pa_nil))))
      (pc_seq2 (i := 3) rfl sc_Day_do.nd rfl rfl (pss_cons (ps_fld (pv 0) (pe_mkx (k_Walk T) hr (by decide) rfl pass0 (pa_cons (pe_fld (pv 0) (by rfl)) (pa_cons (pv 3) pa_nil))) rfl)
      (pss_one (ps_ret pe_non)))
      (pc_seq1 rfl (pss_one (ps_ret (pe_mx0 (m_Walk_step T) hr (by decide) (pe_fld (pv 0) (by rfl)) (passes_call (takes_of rfl rfl rfl rfl) (fun _ _ _ _ h => h)))))
      (pc_seq1 rfl (pss_one (ps_ret (pe_mx0 (m_Walk_go_round T) hr (by decide) (pe_fld (pv 0) (by rfl)) pass0)))
      (pc_seq1 rfl (pss_cons (ps_expr (pe_mx0 (m_Day__require_no_round T) hr (by decide) (pv 0) (passes_call (takes_of rfl rfl rfl rfl) (fun _ _ _ _ h => h))))
      (pss_one (ps_ret (pe_mx0 (m_Desk_turn T) hr (by decide) (pe_fld (pv 0) (by rfl)) pass0))))
      (pc_wild (pss_cons (ps_expr (pe_mx0 (m_Day__require_no_round T) hr (by decide) (pv 0) (passes_call (takes_of rfl rfl rfl rfl) (fun _ _ _ _ h => h))))
      (pss_one (ps_ret (pe_mx0 (m_Keeper_refresh T) hr (by decide) (pe_fld (pv 0) (by rfl)) pass0))))))))))))))), ?_⟩
        refine ⟨_, rfl, p, _, rfl, SqT.of hp, Or.inr ⟨ne21, Or.inr ⟨ne21, Or.inr ⟨ne21, Or.inr ⟨ne21, Or.inr ⟨ne21, Or.inr ⟨ne11 (by decide +kernel), Or.inl ⟨rfl, ?_⟩⟩⟩⟩⟩⟩⟩⟩
        refine ⟨_, rfl, y, _, dx, _, _, rfl, o1, ycl T, yn_walk T, yl_walk, pk, dk, _, rfl, k1, vx_round, pk, pw, qr, qf, qp, dh, dl, W, d.kvs, l0, sd0, d.lk, d.wk, b, rfl, vko, by omega, fun e z => c ⟨e, z⟩, fun v dl' H1 hdl vk tl f => ?_⟩
        rw [er0] at vk tl
        obtain ⟨lw', wa, pm⟩ := id vk.wa
        have fT := f.toN (K := K) nt6
        exact kQ rfl v _ H1 (keepM hdl) (after hdl vk.wk wa (by rw [pm.length_eq]; exact round_len kl inv.lm) (fun z => ⟨pm, by
          cases q : (roundF W d.kvs W d.lm d.lk d.wk).1.1.sd with
          | none => exact absurd q z
          | some l => exact (vk.ok.said l q).1⟩) fT) tl (fT.mono (up15 sub6))
    have dat : DAt K H y [y, pw, dh, pk, qr, qf, qp, pd, pz, zr, zf, zp, pe, dl, pl] W d := ⟨pw, dh, dl, pk, qr, qf, qp, pd, pz, zr, zf, zp, pe, pl, lw, sdm, rfl, da⟩
    -- the wire alone
    have O2 : ∀ {a : Addr} (i : Nat), [y, pw, dh, pk, qr, qf, qp, pd, pz, zr, zf, zp, pe][i]? = some a → i ∉ [1, 2] → a ∉ [pw, dh] := fun {a} i hi hn => idx_out nd hi [1, 2] rfl hn
    have nt2 : NT [pw, dh] H := .cons o2 rfl (.cons odh rfl .nil)
    have sub2 : ∀ a ∈ [pw, dh], a ∈ [y, pw, dh, pk, qr, qf, qp, pd, pz, zr, zf, zp, pe] := fun a ha => by
      simp only [List.mem_cons, List.not_mem_nil, or_false] at ha ⊢
      rcases ha with rfl | rfl <;> simp
    have np2 : pl ∉ [pw, dh] := fun z => da.npl (sub2 _ z)
    have after2 : ∀ {kvs' : List (Str × Bool)} {lm' lw' : List Str} {sd' : Option (List Nat)} {lk' : Int} {dl' : Addr} {H' : Hp}, (dl' = dl ∨ H dl' = none) → WiAt K H' pw dh dl' W kvs' lw' (msOf W sd') lk' → lw'.length ≤ 41 → (d.wk.sd ≠ none → lw'.Perm lm' ∧ sd' = d.wk.sd) → FrT K [pw, dh] H H' →
        DAt K H' y [y, pw, dh, pk, qr, qf, qp, pd, pz, zr, zf, zp, pe, dl', pl] W { d with kvs := kvs', lm := lm', lk := lk' } := fun {kvs' lm' lw' sd' lk' dl' H'} hd wa hl on f =>
      ⟨pw, dh, dl', pk, qr, qf, qp, pd, pz, zr, zf, zp, pe, pl, lw', sd', rfl, ⟨dx, f.k _ _ o1 rfl (O2 0 rfl (by decide))⟩, wa, hl, on, da.wk.keepT f nt2 (O2 3 rfl (by decide)) (O2 4 rfl (by decide)) (O2 5 rfl (by decide)) (O2 6 rfl (by decide)), da.dk.keep f (O2 7 rfl (by decide)), da.tour.keepT f nt2 (O2 8 rfl (by decide)) (O2 9 rfl (by decide)) (O2 10 rfl (by decide)) (O2 11 rfl (by decide)), da.kp.keep f (O2 12 rfl (by decide)) np2, nd, ndlN hd, da.npl⟩
    by_cases c4 : w = "turn"
    · subst c4
      have er : rowOf "turn" x = [("turn" : Str)] := by unfold rowOf; rw [if_pos (by decide +kernel)]
      rw [er] at hp
      have eD : doF W d "turn" x = (if d.wk.sd = none then turnF W d else (("busy" : Str), TV.tl .no, d)) := by
        unfold doF
        rw [if_neg (by decide +kernel), if_neg (by decide +kernel), if_neg (by decide +kernel), if_pos rfl]
      rw [eD] at kQ kE
      refine ⟨_, (pss_one (ps_match (pv 1)
      (pc_seq2 (i := 2) rfl sc_Day_do.nd rfl rfl (pss_one (ps_ret (pe_mx (m_Wire_hang T) hr (by decide) (pe_fld (pv 0) (by rfl)) (passes_call (takes_of rfl rfl rfl rfl) (fun _ _ _ _ h => h)) (pa_cons (pv 2) pa_nil))))
      (pc_seq2 (i := 2) rfl sc_Day_do.nd rfl rfl (pss_one (ps_ret (pe_mx (m_Wire_off T) hr (by decide) (pe_fld (pv 0) (by rfl)) (passes_call (takes_of rfl rfl rfl rfl) (fun _ _ _ _ h => h)) (pa_cons (pv 2) pa_nil))))
      (pc_seq2 (i := 2) rfl sc_Day_do.nd rfl rfl (pss_one (ps_ret (pe_mx (m_Wire_alarm T) hr (by decide) (pe_fld (pv 0) (by rfl)) (passes_call (takes_of rfl rfl rfl rfl) (fun _ _ _ _ h => h)) (pa_cons (pv 2) pa_nil))))
      (pc_seq2 (i := 2) rfl sc_Day_do.nd rfl rfl (pss_one (ps_ret (pe_mx (m_Wire_calm T) hr (by decide) (pe_fld (pv 0) (by rfl)) (passes_call (takes_of rfl rfl rfl rfl) (fun _ _ _ _ h => h)) (pa_cons (pv 2) pa_nil))))
      (pc_seq2 (i := 3) rfl sc_Day_do.nd rfl rfl (pss_cons (ps_fld (pv 0) (pe_mkx (k_Walk T) hr (by decide) rfl pass0 (pa_cons (pe_fld (pv 0) (by rfl)) (pa_cons (pv 3) pa_nil))) rfl)
      (pss_one (ps_ret pe_non)))
      (pc_seq1 rfl (pss_one (ps_ret (pe_mx0 (m_Walk_step T) hr (by decide) (pe_fld (pv 0) (by rfl)) (passes_call (takes_of rfl rfl rfl rfl) (fun _ _ _ _ h => h)))))
      (pc_seq1 rfl (pss_one (ps_ret (pe_mx0 (m_Walk_go_round T) hr (by decide) (pe_fld (pv 0) (by rfl)) pass0)))
      (pc_seq1 rfl (pss_cons (ps_expr (pe_mx0 (m_Day__require_no_round T) hr (by decide) (pv 0) (passes_call (takes_of rfl rfl rfl rfl) (fun _ _ _ _ h => h))))
      (pss_one (ps_ret (pe_mx0 (m_Desk_turn T) hr (by decide) (pe_fld (pv 0) (by rfl)) pass0))))
      (pc_wild (pss_cons (ps_expr (pe_mx0 (m_Day__require_no_round T) hr (by decide) (pv 0) (passes_call (takes_of rfl rfl rfl rfl) (fun _ _ _ _ h => h))))
      (pss_one (ps_ret (pe_mx0 (m_Keeper_refresh T) hr (by decide) (pe_fld (pv 0) (by rfl)) pass0))))))))))))))), ?_⟩
      refine ⟨_, rfl, p, _, rfl, SqT.of hp, Or.inr ⟨ne21, Or.inr ⟨ne21, Or.inr ⟨ne21, Or.inr ⟨ne21, Or.inr ⟨ne21, Or.inr ⟨ne11 (by decide +kernel), Or.inr ⟨ne11 (by decide +kernel), Or.inl ⟨rfl, ?_⟩⟩⟩⟩⟩⟩⟩⟩⟩
      refine ⟨_, rfl, y, dx, _, rfl, o1, yx_no, y, _, W, d, rfl, dat, fun e => ?_, fun e => ?_⟩
      · rw [if_pos e] at kQ
        obtain ⟨dxd, d1⟩ := id da.dk
        obtain ⟨⟨dxz, z1⟩, z2, z3, ⟨zs, z4, _⟩, _⟩ := id da.tour
        have O8 : ∀ {a : Addr} (i : Nat), [y, pw, dh, pk, qr, qf, qp, pd, pz, zr, zf, zp, pe][i]? = some a → i ∉ [8, 9, 10, 11, 1] → a ∉ [pz, zr, zf, zp, pw] := fun {a} i hi hn => idx_out nd hi [8, 9, 10, 11, 1] rfl hn
        have sub8 : ∀ a ∈ [pz, zr, zf, zp, pw], a ∈ [y, pw, dh, pk, qr, qf, qp, pd, pz, zr, zf, zp, pe] := fun a ha => by
          simp only [List.mem_cons, List.not_mem_nil, or_false] at ha ⊢
          rcases ha with rfl | rfl | rfl | rfl | rfl <;> simp
        have nt8 : NT [pz, zr, zf, zp, pw] H := nt.sub sub8
        refine ⟨_, rfl, y, _, dx, _, _, rfl, o1, ycl T, yn_desk T, yl_desk, pd, dxd, _, rfl, d1, dx_turn, pd, pz, pw, zr, zf, zp, dh, dl, W, names, d.kvs, lw, sdm, d.lk, d.tour, b, srt (lisB d.kvs false), rfl, da.dk, da.tour, da.wa, ht, inv.tsd, inv.tkd, inv.tour, by omega, da.len, w1, w2, pool.ne, pool.len, pool.num, inv.nd, inv.sub, srt_perm _, srt_srt _, nlz,
          idx_ne nd (i := 7) (j := 1) rfl rfl (by decide), idx_ne nd (i := 7) (j := 2) rfl rfl (by decide), idx_ne nd (i := 8) (j := 1) rfl rfl (by decide), idx_ne nd (i := 8) (j := 2) rfl rfl (by decide), fun z r es t dl' lw' sd' H1 htt hdl hlw et wa f => ?_, fun es er2 t dl' lw' sd' H1 htt hdl hlw et wa f => ?_, fun es er2 R v dl' lw' H1 eR hdl hlw tl vk sdn _ _ _ wa f => ?_⟩
        · have eT : turnF W d = (("" : Str), TV.alarm z, ({ d with kvs := putB d.kvs z false, lk := d.lk + W } : DyS)) := by unfold turnF; rw [es]
          rw [eT] at kQ
          exact kQ rfl (.ref t) _ H1 (keepM hdl) (after2 hdl wa hlw (fun z => absurd e z) f) ⟨t, rfl, et⟩ (f.mono (up15 sub2))
        · have eT : turnF W d = (("" : Str), TV.done, ({ d with lk := d.lk + 1 } : DyS)) := by unfold turnF; rw [es]; exact if_pos er2
          rw [eT] at kQ
          have f' : FrT K [pw, dh] H H1 := f.mono (by simp)
          exact kQ rfl (.ref t) _ H1 (keepM hdl) (after2 hdl wa hlw (fun z => absurd e z) f') ⟨t, rfl, et⟩ (f'.mono (up15 sub2))
        · have eT : turnF W d = (("" : Str), TV.tl R.1.2, ({ d with tour := R.1.1, lk := R.2.2.2 } : DyS)) := by unfold turnF; rw [es, eR]; exact if_neg er2
          rw [eT] at kQ
          exact kQ rfl v _ H1 (keepM hdl) ⟨pw, dh, dl', pk, qr, qf, qp, pd, pz, zr, zf, zp, pe, pl, lw', R.2.2.1, rfl, ⟨dx, f.k _ _ o1 rfl (O8 0 rfl (by decide))⟩, wa, hlw, fun z => absurd e z, da.wk.keepT f nt8 (O8 3 rfl (by decide)) (O8 4 rfl (by decide)) (O8 5 rfl (by decide)) (O8 6 rfl (by decide)), da.dk.keep f (O8 7 rfl (by decide)), vk, da.kp.keep f (O8 12 rfl (by decide)) (fun z => da.npl (sub8 _ z)), nd, ndlN hdl, da.npl⟩ tl (f.mono (up15 sub8))
      · have z := kE (by rw [if_neg e]; show ¬ ("busy" : Str) = ""; decide +kernel) H (FrT.refl _ _ _)
        rw [if_neg e] at z
        exact z
    by_cases c5 : w = "refresh"
    · subst c5
      have er : rowOf "refresh" x = [("refresh" : Str)] := by unfold rowOf; rw [if_pos (by decide +kernel)]
      rw [er] at hp
      have eD : doF W d "refresh" x = (if d.wk.sd = none then refF W d else (("busy" : Str), TV.tl .no, d)) := by
        unfold doF
        rw [if_neg (by decide +kernel), if_neg (by decide +kernel), if_neg (by decide +kernel), if_neg (by decide +kernel), if_pos rfl]
      rw [eD] at kQ kE
      refine ⟨_, (pss_one (ps_match (pv 1)
      (pc_seq2 (i := 2) rfl sc_Day_do.nd rfl rfl (pss_one (ps_ret (pe_mx (m_Wire_hang T) hr (by decide) (pe_fld (pv 0) (by rfl)) (passes_call (takes_of rfl rfl rfl rfl) (fun _ _ _ _ h => h)) (pa_cons (pv 2) pa_nil))))
      (pc_seq2 (i := 2) rfl sc_Day_do.nd rfl rfl (pss_one (ps_ret (pe_mx (m_Wire_off T) hr (by decide) (pe_fld (pv 0) (by rfl)) (passes_call (takes_of rfl rfl rfl rfl) (fun _ _ _ _ h => h)) (pa_cons (pv 2) pa_nil))))
      (pc_seq2 (i := 2) rfl sc_Day_do.nd rfl rfl (pss_one (ps_ret (pe_mx (m_Wire_alarm T) hr (by decide) (pe_fld (pv 0) (by rfl)) (passes_call (takes_of rfl rfl rfl rfl) (fun _ _ _ _ h => h)) (pa_cons (pv 2) pa_nil))))
      (pc_seq2 (i := 2) rfl sc_Day_do.nd rfl rfl (pss_one (ps_ret (pe_mx (m_Wire_calm T) hr (by decide) (pe_fld (pv 0) (by rfl)) (passes_call (takes_of rfl rfl rfl rfl) (fun _ _ _ _ h => h)) (pa_cons (pv 2) pa_nil))))
      (pc_seq2 (i := 3) rfl sc_Day_do.nd rfl rfl (pss_cons (ps_fld (pv 0) (pe_mkx (k_Walk T) hr (by decide) rfl pass0 (pa_cons (pe_fld (pv 0) (by rfl)) (pa_cons (pv 3) pa_nil))) rfl)
      (pss_one (ps_ret pe_non)))
      (pc_seq1 rfl (pss_one (ps_ret (pe_mx0 (m_Walk_step T) hr (by decide) (pe_fld (pv 0) (by rfl)) (passes_call (takes_of rfl rfl rfl rfl) (fun _ _ _ _ h => h)))))
      (pc_seq1 rfl (pss_one (ps_ret (pe_mx0 (m_Walk_go_round T) hr (by decide) (pe_fld (pv 0) (by rfl)) pass0)))
      (pc_seq1 rfl (pss_cons (ps_expr (pe_mx0 (m_Day__require_no_round T) hr (by decide) (pv 0) (passes_call (takes_of rfl rfl rfl rfl) (fun _ _ _ _ h => h))))
      (pss_one (ps_ret (pe_mx0 (m_Desk_turn T) hr (by decide) (pe_fld (pv 0) (by rfl)) pass0))))
      (pc_wild (pss_cons (ps_expr (pe_mx0 (m_Day__require_no_round T) hr (by decide) (pv 0) (passes_call (takes_of rfl rfl rfl rfl) (fun _ _ _ _ h => h))))
      (pss_one (ps_ret (pe_mx0 (m_Keeper_refresh T) hr (by decide) (pe_fld (pv 0) (by rfl)) pass0))))))))))))))), ?_⟩
      refine ⟨_, rfl, p, _, rfl, SqT.of hp, Or.inr ⟨ne21, Or.inr ⟨ne21, Or.inr ⟨ne21, Or.inr ⟨ne21, Or.inr ⟨ne21, Or.inr ⟨ne11 (by decide +kernel), Or.inr ⟨ne11 (by decide +kernel), Or.inr ⟨ne11 (by decide +kernel), ?_⟩⟩⟩⟩⟩⟩⟩⟩⟩
      refine ⟨_, rfl, y, dx, _, rfl, o1, yx_no, y, _, W, d, rfl, dat, fun e => ?_, fun e => ?_⟩
      · rw [if_pos e] at kQ
        obtain ⟨⟨dxp, p1⟩, p2⟩ := id da.kp
        have Oc : ∀ {a : Addr} (i : Nat), [y, pw, dh, pk, qr, qf, qp, pd, pz, zr, zf, zp, pe][i]? = some a → i ∉ [12, 1] → a ∉ [pe, pw] := fun {a} i hi hn => idx_out nd hi [12, 1] rfl hn
        have subc : ∀ a ∈ [pe, pw], a ∈ [y, pw, dh, pk, qr, qf, qp, pd, pz, zr, zf, zp, pe] := fun a ha => by
          simp only [List.mem_cons, List.not_mem_nil, or_false] at ha ⊢
          rcases ha with rfl | rfl <;> simp
        have ntc : NT [pe, pw] H := nt.sub subc
        refine ⟨_, rfl, y, _, dx, _, _, rfl, o1, ycl T, yn_keeper T, yl_keeper, pe, dxp, _, rfl, p1, px_refresh, pe, pw, pl, dh, dl, W, names, d.kvs, lw, sdm, d.lk, d.kept, srt (d.kvs.map (·.1)), rfl, da.kp, da.wa, fun z => da.npl (by simp [z]), da.len, w1, w2, pool.ne, pool.len, pool.num, inv.nd, inv.sub, srt_perm _, srt_srt _, by have := inv.kept; omega, fun t c z pl' dl' lw' sd' m H1 htt hc hz hpl ncz ncp nzp ncd nzd hdl hlw hm et ec ez kp wa f => ?_⟩
        rw [metN_of hm] at wa
        have nin : ∀ {a : Addr}, H a = none → a ≠ dl' → a ≠ pl' → a ∉ [y, pw, dh, pk, qr, qf, qp, pd, pz, zr, zf, zp, pe, dl', pl'] ++ XX := fun {a} e1 e2 e3 z => by
          rcases List.mem_append.mp z with z | z
          case inr => exact hX a z e1
          rcases List.mem_append.mp (show a ∈ [y, pw, dh, pk, qr, qf, qp, pd, pz, zr, zf, zp, pe] ++ [dl', pl'] from z) with z | z
          · exact inM e1 z
          · simp only [List.mem_cons, List.not_mem_nil, or_false] at z
            exact z.elim e2 e3
        exact kQ rfl (.ref t) _ H1 (fun a ha => by
          rcases List.mem_append.mp (show a ∈ [y, pw, dh, pk, qr, qf, qp, pd, pz, zr, zf, zp, pe] ++ [dl', pl'] from ha) with z | z
          · exact .inl (List.mem_append_left [dl, pl] z)
          · simp only [List.mem_cons, List.not_mem_nil, or_false] at z
            rcases z with rfl | rfl
            · exact hdl.imp_left fun e => by rw [e]; simp
            · exact .inr hpl) ⟨pw, dh, dl', pk, qr, qf, qp, pd, pz, zr, zf, zp, pe, pl', lw', sd', rfl, ⟨dx, f.k _ _ o1 rfl (Oc 0 rfl (by decide))⟩, wa, hlw, fun z => absurd e z, da.wk.keepT f ntc (Oc 3 rfl (by decide)) (Oc 4 rfl (by decide)) (Oc 5 rfl (by decide)) (Oc 6 rfl (by decide)), da.dk.keep f (Oc 7 rfl (by decide)), da.tour.keepT f ntc (Oc 8 rfl (by decide)) (Oc 9 rfl (by decide)) (Oc 10 rfl (by decide)) (Oc 11 rfl (by decide)), kp, nd, ndlN hdl, inM hpl⟩ ⟨t, c, z, rfl, et, ec, ez, nin hc ncd ncp, nin hz nzd nzp⟩ (f.mono (up15 subc))
      · have z := kE (by rw [if_neg e]; show ¬ ("busy" : Str) = ""; decide +kernel) H (FrT.refl _ _ _)
        rw [if_neg e] at z
        exact z
    -- a word with a number
    have lg : w ∈ thingV ∧ x.length ≤ 12 ∧ (x.length = W → x ∈ names) := by
      rcases leg with z | z | z
      · exact absurd z.1 c1
      · simp only [aloneV, List.mem_cons, List.not_mem_nil, or_false] at z
        rcases z with z | z | z | z
        · exact absurd z c2
        · exact absurd z c3
        · exact absurd z c4
        · exact absurd z c5
      · exact z
    have eD : doF W d w x = (if x.length ≠ W then (("number" : Str), TV.tl .no, d) else if deedW d.kvs w x = "" then ("", TV.tl .no, ({ d with kvs := deedK d.kvs w x, lm := deedL d.kvs d.lm w x } : DyS)) else (deedW d.kvs w x, TV.tl .no, d)) := by
      unfold doF
      rw [if_neg c1, if_neg c2, if_neg c3, if_neg c4, if_neg c5]
    rw [eD] at kQ kE
    have lx : x.length ≤ 1000000 := by omega
    by_cases c6 : x.length ≠ W
    · have z := kE (by rw [if_pos c6]; show ¬ ("number" : Str) = ""; decide +kernel) H (FrT.refl _ _ _)
      rw [if_pos c6] at z
      have lw4 := lg.1
      simp only [thingV, List.mem_cons, List.not_mem_nil, or_false] at lw4
      refine ⟨_, (pss_one (ps_match (pv 1)
      (pc_seq2 (i := 2) rfl sc_Day_do.nd rfl rfl (pss_one (ps_ret (pe_mx (m_Wire_hangB T) hr (by decide) (pe_fld (pv 0) (by rfl)) (passes_call (takes_of rfl rfl rfl rfl) (fun _ _ _ _ h => h)) (pa_cons (pv 2) pa_nil))))
      (pc_seq2 (i := 2) rfl sc_Day_do.nd rfl rfl (pss_one (ps_ret (pe_mx (m_Wire_offB T) hr (by decide) (pe_fld (pv 0) (by rfl)) (passes_call (takes_of rfl rfl rfl rfl) (fun _ _ _ _ h => h)) (pa_cons (pv 2) pa_nil))))
      (pc_seq2 (i := 2) rfl sc_Day_do.nd rfl rfl (pss_one (ps_ret (pe_mx (m_Wire_alarmB T) hr (by decide) (pe_fld (pv 0) (by rfl)) (passes_call (takes_of rfl rfl rfl rfl) (fun _ _ _ _ h => h)) (pa_cons (pv 2) pa_nil))))
      (pc_seq2 (i := 2) rfl sc_Day_do.nd rfl rfl (pss_one (ps_ret (pe_mx (m_Wire_calmB T) hr (by decide) (pe_fld (pv 0) (by rfl)) (passes_call (takes_of rfl rfl rfl rfl) (fun _ _ _ _ h => h)) (pa_cons (pv 2) pa_nil))))
      (pc_seq2 (i := 3) rfl sc_Day_do.nd rfl rfl (pss_cons (ps_fld (pv 0) (pe_mkx (k_Walk T) hr (by decide) rfl pass0 (pa_cons (pe_fld (pv 0) (by rfl)) (pa_cons (pv 3) pa_nil))) rfl)
      (pss_one (ps_ret pe_non)))
      (pc_seq1 rfl (pss_one (ps_ret (pe_mx0 (m_Walk_step T) hr (by decide) (pe_fld (pv 0) (by rfl)) (passes_call (takes_of rfl rfl rfl rfl) (fun _ _ _ _ h => h)))))
      (pc_seq1 rfl (pss_one (ps_ret (pe_mx0 (m_Walk_go_roundB T) hr (by decide) (pe_fld (pv 0) (by rfl)) (passes_call (takes_of rfl rfl rfl rfl) (fun _ _ _ _ h => h)))))
      (pc_seq1 rfl (pss_cons (ps_expr (pe_mx0 (m_Day__require_no_round T) hr (by decide) (pv 0) (passes_call (takes_of rfl rfl rfl rfl) (fun _ _ _ _ h => h))))
      (pss_one (ps_ret (pe_mx0 (m_Desk_turn T) hr (by decide) (pe_fld (pv 0) (by rfl)) pass0))))
      (pc_wild (pss_cons (ps_expr (pe_mx0 (m_Day__require_no_round T) hr (by decide) (pv 0) (passes_call (takes_of rfl rfl rfl rfl) (fun _ _ _ _ h => h))))
      (pss_one (ps_ret (pe_mx0 (m_Keeper_refresh T) hr (by decide) (pe_fld (pv 0) (by rfl)) pass0))))))))))))))), ?_⟩
      rcases lw4 with rfl | rfl | rfl | rfl
      · have er : rowOf "hang" x = [("hang" : Str), x] := by unfold rowOf; rw [if_neg (by decide +kernel)]
        rw [er] at hp
        refine ⟨_, rfl, p, _, rfl, SqT.of hp, Or.inl ⟨x, rfl, ?_⟩⟩
        exact ⟨_, rfl, y, _, dx, _, _, rfl, o1, ycl T, yn_wire T, yl_wire, pw, dw, _, rfl, o2, wx_hang, _, rfl, pw, dh, dl, x, W, d.kvs, lw, _, d.lk, rfl, da.wa, c6, lx, z⟩
      · have er : rowOf "off" x = [("off" : Str), x] := by unfold rowOf; rw [if_neg (by decide +kernel)]
        rw [er] at hp
        refine ⟨_, rfl, p, _, rfl, SqT.of hp, Or.inr ⟨ne2 (by decide +kernel), Or.inl ⟨x, rfl, ?_⟩⟩⟩
        exact ⟨_, rfl, y, _, dx, _, _, rfl, o1, ycl T, yn_wire T, yl_wire, pw, dw, _, rfl, o2, wx_off, _, rfl, pw, dh, dl, x, W, d.kvs, lw, _, d.lk, rfl, da.wa, c6, lx, z⟩
      · have er : rowOf "alarm" x = [("alarm" : Str), x] := by unfold rowOf; rw [if_neg (by decide +kernel)]
        rw [er] at hp
        refine ⟨_, rfl, p, _, rfl, SqT.of hp, Or.inr ⟨ne2 (by decide +kernel), Or.inr ⟨ne2 (by decide +kernel), Or.inl ⟨x, rfl, ?_⟩⟩⟩⟩
        exact ⟨_, rfl, y, _, dx, _, _, rfl, o1, ycl T, yn_wire T, yl_wire, pw, dw, _, rfl, o2, wx_alarm, _, rfl, pw, dh, dl, x, W, d.kvs, lw, _, d.lk, rfl, da.wa, c6, lx, z⟩
      · have er : rowOf "calm" x = [("calm" : Str), x] := by unfold rowOf; rw [if_neg (by decide +kernel)]
        rw [er] at hp
        refine ⟨_, rfl, p, _, rfl, SqT.of hp, Or.inr ⟨ne2 (by decide +kernel), Or.inr ⟨ne2 (by decide +kernel), Or.inr ⟨ne2 (by decide +kernel), Or.inl ⟨x, rfl, ?_⟩⟩⟩⟩⟩
        exact ⟨_, rfl, y, _, dx, _, _, rfl, o1, ycl T, yn_wire T, yl_wire, pw, dw, _, rfl, o2, wx_calm, _, rfl, pw, dh, dl, x, W, d.kvs, lw, _, d.lk, rfl, da.wa, c6, lx, z⟩
    · rw [if_neg c6] at kQ kE
      have hx : x ∈ names := lg.2.2 (Classical.not_not.mp c6)
      have hn := pool.num x hx
      have ke : ¬ deedW d.kvs w x = "" → ∀ H', FrT K [] H H' → E (.ref (errOf K w)) none H' := fun q H' f => by
        have z := kE (by rw [if_neg q]; exact q) H' f
        rw [if_neg q] at z
        rw [errD_deed q] at z
        exact z
      have kd : deedW d.kvs w x = "" → ∀ (dl' : Addr) (H' : Hp), (dl' = dl ∨ H dl' = none) → WiAt K H' pw dh dl' W (deedK d.kvs w x) (deedL d.kvs lw w x) (msOf W sdm) d.lk → FrT K [pw, dh] H H' → Q .non H' := fun q dl' H' hd wa f => by
        rw [if_pos q] at kQ
        exact kQ rfl .non _ H' (keepM hd) (after2 hd wa (Nat.le_trans deed_len.1 da.len) (fun z => ⟨deed_perm (da.on z).1, (da.on z).2⟩) f) rfl (f.mono (up15 sub2))
      have ll : lw.length ≤ 100 := by have := da.len; omega
      have lw4 := lg.1
      simp only [thingV, List.mem_cons, List.not_mem_nil, or_false] at lw4
      refine ⟨_, (pss_one (ps_match (pv 1)
      (pc_seq2 (i := 2) rfl sc_Day_do.nd rfl rfl (pss_one (ps_ret (pe_mx (m_Wire_hang T) hr (by decide) (pe_fld (pv 0) (by rfl)) (passes_call (takes_of rfl rfl rfl rfl) (fun _ _ _ _ h => h)) (pa_cons (pv 2) pa_nil))))
      (pc_seq2 (i := 2) rfl sc_Day_do.nd rfl rfl (pss_one (ps_ret (pe_mx (m_Wire_off T) hr (by decide) (pe_fld (pv 0) (by rfl)) (passes_call (takes_of rfl rfl rfl rfl) (fun _ _ _ _ h => h)) (pa_cons (pv 2) pa_nil))))
      (pc_seq2 (i := 2) rfl sc_Day_do.nd rfl rfl (pss_one (ps_ret (pe_mx (m_Wire_alarm T) hr (by decide) (pe_fld (pv 0) (by rfl)) (passes_call (takes_of rfl rfl rfl rfl) (fun _ _ _ _ h => h)) (pa_cons (pv 2) pa_nil))))
      (pc_seq2 (i := 2) rfl sc_Day_do.nd rfl rfl (pss_one (ps_ret (pe_mx (m_Wire_calm T) hr (by decide) (pe_fld (pv 0) (by rfl)) (passes_call (takes_of rfl rfl rfl rfl) (fun _ _ _ _ h => h)) (pa_cons (pv 2) pa_nil))))
      (pc_seq2 (i := 3) rfl sc_Day_do.nd rfl rfl (pss_cons (ps_fld (pv 0) (pe_mkx (k_Walk T) hr (by decide) rfl pass0 (pa_cons (pe_fld (pv 0) (by rfl)) (pa_cons (pv 3) pa_nil))) rfl)
      (pss_one (ps_ret pe_non)))
      (pc_seq1 rfl (pss_one (ps_ret (pe_mx0 (m_Walk_step T) hr (by decide) (pe_fld (pv 0) (by rfl)) (passes_call (takes_of rfl rfl rfl rfl) (fun _ _ _ _ h => h)))))
      (pc_seq1 rfl (pss_one (ps_ret (pe_mx0 (m_Walk_go_round T) hr (by decide) (pe_fld (pv 0) (by rfl)) pass0)))
      (pc_seq1 rfl (pss_cons (ps_expr (pe_mx0 (m_Day__require_no_round T) hr (by decide) (pv 0) (passes_call (takes_of rfl rfl rfl rfl) (fun _ _ _ _ h => h))))
      (pss_one (ps_ret (pe_mx0 (m_Desk_turn T) hr (by decide) (pe_fld (pv 0) (by rfl)) pass0))))
      (pc_wild (pss_cons (ps_expr (pe_mx0 (m_Day__require_no_round T) hr (by decide) (pv 0) (passes_call (takes_of rfl rfl rfl rfl) (fun _ _ _ _ h => h))))
      (pss_one (ps_ret (pe_mx0 (m_Keeper_refresh T) hr (by decide) (pe_fld (pv 0) (by rfl)) pass0))))))))))))))), ?_⟩
      rcases lw4 with rfl | rfl | rfl | rfl
      · have er : rowOf "hang" x = [("hang" : Str), x] := by unfold rowOf; rw [if_neg (by decide +kernel)]
        rw [er] at hp
        refine ⟨_, rfl, p, _, rfl, SqT.of hp, Or.inl ⟨x, rfl, ?_⟩⟩
        exact ⟨_, rfl, y, _, dx, _, _, rfl, o1, ycl T, yn_wire T, yl_wire, pw, dw, _, rfl, o2, wx_hang, _, rfl, pw, dh, dl, x, W, d.kvs, lw, _, d.lk, rfl, da.wa, hn, w2, by omega, ll, ht, ke, kd⟩
      · have er : rowOf "off" x = [("off" : Str), x] := by unfold rowOf; rw [if_neg (by decide +kernel)]
        rw [er] at hp
        refine ⟨_, rfl, p, _, rfl, SqT.of hp, Or.inr ⟨ne2 (by decide +kernel), Or.inl ⟨x, rfl, ?_⟩⟩⟩
        exact ⟨_, rfl, y, _, dx, _, _, rfl, o1, ycl T, yn_wire T, yl_wire, pw, dw, _, rfl, o2, wx_off, _, rfl, pw, dh, dl, x, W, d.kvs, lw, _, d.lk, rfl, da.wa, hn, w2, by omega, ll, ht, ke, kd⟩
      · have er : rowOf "alarm" x = [("alarm" : Str), x] := by unfold rowOf; rw [if_neg (by decide +kernel)]
        rw [er] at hp
        refine ⟨_, rfl, p, _, rfl, SqT.of hp, Or.inr ⟨ne2 (by decide +kernel), Or.inr ⟨ne2 (by decide +kernel), Or.inl ⟨x, rfl, ?_⟩⟩⟩⟩
        exact ⟨_, rfl, y, _, dx, _, _, rfl, o1, ycl T, yn_wire T, yl_wire, pw, dw, _, rfl, o2, wx_alarm, _, rfl, pw, dh, dl, x, W, d.kvs, lw, _, d.lk, rfl, da.wa, hn, w2, by omega, ll, ht, ke, kd⟩
      · have er : rowOf "calm" x = [("calm" : Str), x] := by unfold rowOf; rw [if_neg (by decide +kernel)]
        rw [er] at hp
        refine ⟨_, rfl, p, _, rfl, SqT.of hp, Or.inr ⟨ne2 (by decide +kernel), Or.inr ⟨ne2 (by decide +kernel), Or.inr ⟨ne2 (by decide +kernel), Or.inl ⟨x, rfl, ?_⟩⟩⟩⟩⟩
        exact ⟨_, rfl, y, _, dx, _, _, rfl, o1, ycl T, yn_wire T, yl_wire, pw, dw, _, rfl, o2, wx_calm, _, rfl, pw, dh, dl, x, W, d.kvs, lw, _, d.lk, rfl, da.wa, hn, w2, by omega, ll, ht, ke, kd⟩
end
end B

set_option Elab.async false
set_option linter.all false
set_option maxRecDepth 100000
set_option maxHeartbeats 4000000
namespace B
open PySem PySem.Spec PyProof.Rows L2
open SX (S)
/-! ### steps played -/
noncomputable def stL (W : Nat) (rs : List (Str × Str)) : DyS := rs.foldl (fun d s => (doF W d s.1 s.2).2.2) dy0
theorem stL_snoc {W : Nat} {rs : List (Str × Str)} {s : Str × Str} : stL W (rs ++ [s]) = (doF W (stL W rs) s.1 s.2).2.2 := by
  unfold stL
  rw [List.foldl_append]
  rfl
theorem stL_take {W i : Nat} {rs : List (Str × Str)} {s : Str × Str} (h : rs[i]? = some s) : stL W (rs.take (i + 1)) = (doF W (stL W (rs.take i)) s.1 s.2).2.2 := by
  rw [take_snoc h, stL_snoc]
/-- what the i-th step comes to -/
noncomputable def toF (W : Nat) (rs : List (Str × Str)) (i : Nat) (s : Str × Str) : Str × TV × DyS := doF W (stL W (rs.take i)) s.1 s.2
def AllOk (W : Nat) (rs : List (Str × Str)) : Prop := ∀ (i : Nat) (s : Str × Str), rs[i]? = some s → (toF W rs i s).1 = ""
theorem stL_inv {names : List Str} {W : Nat} {rs : List (Str × Str)} (p : PoolS W names) (l : ∀ s ∈ rs, Legal names W s.1 s.2) : ∀ i, i ≤ rs.length → DInv names W (1 + 14 * i) (stL W (rs.take i)) := by
  intro i
  induction i with
  | zero => exact fun _ => by rw [List.take_zero]; exact dinv0
  | succ i ih =>
    intro hi
    have hs : rs[i]? = some (rs[i]'hi) := List.getElem?_eq_getElem hi
    rw [stL_take hs]
    have := doF_inv p (ih (Nat.le_of_lt hi)) (by omega) (l _ (List.getElem_mem hi))
    rw [show 1 + 14 * (i + 1) = 1 + 14 * i + 14 by omega]
    exact this
/-- what is told, value by value -/
def ToldL (H : Hp) (M : List Addr) (W : Nat) (rs : List (Str × Str)) (vs : List V) : Prop := ∀ (i : Nat) (s : Str × Str) (v : V), rs[i]? = some s → vs[i]? = some v → TVAt H M (toF W rs i s).2.1 v
def spPlayed (K : PySem.W.Frag) : Sp := fun vs H Q E => ∃ (W : Nat) (p : Addr) (zs : List (Addr × RowV)), vs = [.int W, .ref p] ∧ 1 ≤ W ∧ W ≤ 12 ∧ RV H p zs ∧ (∀ z ∈ zs, z.2.sz) ∧ Tb K H ∧
  ((∃ i, FstV (zs.map (·.2)) i ∧ ErrS K "BadStep" "number" i H E) ∨
   (NoV (zs.map (·.2)) ∧ ∃ (names : List Str) (rs : List (Str × Str)), PoolS W names ∧ zs.map (·.2) = rs.map (fun s => RowV.txt (rowOf s.1 s.2)) ∧ (∀ s ∈ rs, Legal names W s.1 s.2) ∧
     ((∃ i s, rs[i]? = some s ∧ (∀ j s', j < i → rs[j]? = some s' → (toF W rs j s').1 = "") ∧ ¬ (toF W rs i s).1 = "" ∧ ∀ H', FrT K [] H H' → E (.ref (errD K (toF W rs i s).1)) none H') ∨
      (AllOk W rs ∧ ∀ (t c h : Addr) (vs : List V) (H' : Hp), H t = none → H c = none → H h = none → c ≠ h → H' t = some (.tup [.ref c, .ref h, .int (stL W rs).lk]) → H' c = some (.lst vs) → H' h = some (.lst ((srt ((stL W rs).kvs.map (·.1))).map V.str)) → vs.length = rs.length → ToldL H' [] W rs vs → FrT K [] H H' → Q (.ref t) H'))))
theorem DAt.put {K : PySem.W.Frag} {H : Hp} {y D : Addr} {M : List Addr} {W : Nat} {d : DyS} {xs : List V} {o : HO} (h : DAt K H y M W d) (n : D ∉ M) (hD : H D = some (.lst xs)) : DAt K (upd H D o) y M W d := by
  obtain ⟨pw, dh, dl, pk, qr, qf, qp, pd, pz, zr, zf, zp, pe, pl, lw, sdm, rfl, h⟩ := h
  have nt : NT [D] H := .cons hD rfl .nil
  have f : FrT K [D] H (upd H D o) := ((Frm.refl [D] H).put (by simp)).toN nt
  exact ⟨pw, dh, dl, pk, qr, qf, qp, pd, pz, zr, zf, zp, pe, pl, lw, sdm, rfl, h.stay f nt (fun x hx z => n (by rw [← List.mem_singleton.mp z]; exact List.mem_append_left [dl, pl] hx)) (fun z => n (by simp [List.mem_singleton.mp z])) (fun z => n (by simp [List.mem_singleton.mp z]))⟩
theorem DAt.out {K : PySem.W.Frag} {H : Hp} {y D : Addr} {M : List Addr} {W : Nat} {d : DyS} (h : DAt K H y M W d) (hD : H D = none) : D ∉ M := fun z => by
  obtain ⟨o, e, _⟩ := h.nt D z
  rw [hD] at e; cases e
theorem TVAt.none_ {H : Hp} {M : List Addr} {tv : TV} {v : V} (h : TVAt H M tv v) : TVAt H [] tv v := by
  cases tv with
  | tl t => exact h
  | alarm x => exact h
  | done => exact h
  | went c z =>
    obtain ⟨t, p, q, e, e1, e2, e3, _, _⟩ := h
    exact ⟨t, p, q, e, e1, e2, e3, by simp, by simp⟩
section
variable {P : Program} {w : World} {K : PySem.W.Frag} {mg : Str → Option Value} {base : Heap}
theorem c_played (T : Txt P w K mg base) : CalX (L2.CX P w) P w K mg base 9 "played" (spPlayed K) := by
  obtain ⟨fd, F⟩ := T.t.def_ 39 (d := d_played)
  refine ⟨_, fd, _, F.ok sc_played (fun vs H Q E h => ?_) (fun cdv A outer s H vs Q E hr h => ?_), He.glo_ok T.X T.G (T.t.fact 7), F.kp, F.bindsN fun _ _ _ _ _ _ us hl => match us, hl with | [_, _], _ => rfl⟩
  · obtain ⟨W, p, zs, rfl, _⟩ := h
    rfl
  · obtain ⟨W, p, zs, rfl, w1, w2, rz, sz, ht, h⟩ := h
    refine ⟨_, (pss_cons (ps_expr (pe_cx (c_require_width T) hr (by decide) rfl pass0 (pa_cons (pv 0) pa_nil)))
    (pss_cons (ps_expr (pe_cx (c_require_stepsV T) hr (by decide) rfl (passes_call (takes_of rfl rfl rfl rfl) (fun _ _ _ _ h => h)) (pa_cons (pv 1) pa_nil)))
    (pss_cons (ps_set (i := 2) sc_played.nd rfl (Or.inr rfl) (pe_mkx (k_Day T) hr (by decide) rfl pass0 (pa_cons (pv 0) pa_nil)))
    (pss_cons (ps_setLcX (E := E) (i := 3) (own := [("step", 6)]) (g := gName 6) rfl rfl (takes_of rfl rfl rfl rfl) (fun _ _ _ _ h => h) rfl sc_played.nd rfl rfl (sw_true rfl rfl rfl (by decide +kernel)) (pi_list (pv 1)) (blkOk_by (N := ["width", "steps", "day", "told", "hung", "looks", "step"]) (sc := defScope s_played) (own := [("step", 6)]) (by decide +kernel)) (fun _ _ _ _ _ => pg_name (i := 6) sc_played.nd rfl (Or.inl rfl)) (fun _ _ _ _ _ => pts_nil) (fun _ _ _ _ _ => by exact (pe_mx (m_Day_do T) hr (by decide) (pv 2) pass_blk (pa_cons (pv 6) pa_nil))))
    (pss_cons (ps_asg (pe_mx0 (m_Day_end T) hr (by decide) (pv 2) pass0) (pg_tup rfl (pgs_cons (pg_name (i := 4) sc_played.nd rfl (Or.inl rfl)) (pgs_cons (pg_name (i := 5) sc_played.nd rfl (Or.inl rfl)) pgs_nil))))
    (pss_one (ps_ret (pe_tup (pa_cons (pv 3) (pa_cons (pv 4) (pa_cons (pv 5) pa_nil))))))))))), ?_⟩
    refine ⟨_, rfl, W, rfl, w1, w2, ?_⟩
    refine ⟨_, rfl, p, zs, rfl, rz, sz, ht, fun no H1 f1 => ?_, fun i hi => ?_⟩
    · rcases h with ⟨i, hi, _⟩ | ⟨_, names, rs, pool, ezs, leg, hh⟩
      · obtain ⟨⟨x, hx, bx⟩, _⟩ := hi
        rw [no i x hx] at bx
        cases bx
      refine ⟨_, rfl, fun y dxy hy hdxy hny => ⟨y, dxy, W, rfl, upd_same, w1, w2, fun M H2 hM dat f2 => ⟨rfl, ?_⟩⟩⟩
      have f02 : FrT K [] H H2 := f1.trans (Frm.toT (Frm.fresh (((Frm.refl _ _).new hdxy).new hy) f2 (by simpa using hy)) .nil)
      have b2 : ∀ {a : Addr}, H2 a = none → H a = none := fun z => f02.b _ z
      have hM0 : ∀ a ∈ M, H a = none := fun a ha => (hM a ha).elim (fun e => by rw [e]; exact f1.b _ hy) fun e => f1.b _ (upd_back (upd_back e))
      have zl : zs.length = rs.length := by
        have := congrArg List.length ezs
        rw [List.length_map, List.length_map] at this
        exact this
      have len : rs.length ≤ 200 := by
        have := no.le
        rw [List.length_map, zl] at this
        exact this
      have rowAt : ∀ {i : Nat} {z : Addr × RowV}, zs[i]? = some z → ∃ s, rs[i]? = some s ∧ z.2 = .txt (rowOf s.1 s.2) := fun {i z} hz => by
        have e := congrArg (·[i]?) ezs
        have e : (zs.map (·.2))[i]? = (rs.map (fun s => RowV.txt (rowOf s.1 s.2)))[i]? := e
        rw [List.getElem?_map, List.getElem?_map, hz] at e
        cases q : rs[i]? with
        | none => rw [q] at e; cases e
        | some s => rw [q] at e; exact ⟨s, rfl, Option.some.inj e⟩
      refine ⟨_, rfl, p, rfl, ⟨_, SqL.of (rz.keep0 f02).1⟩, fun D hD => ?_⟩
      have hD0 := b2 hD
      refine lc_list (K := K) (a := p) (xs := zs.map fun z => V.ref z.1) (fun i H' => ∃ (M' : List Addr) (vs : List V), H' D = some (.lst vs) ∧ vs.length = i ∧ DAt K H' y M' W (stL W (rs.take i)) ∧ (∀ a ∈ M', H a = none) ∧ D ∉ M' ∧ ToldL H' (M' ++ [D]) W rs vs ∧ (∀ j s', j < i → rs[j]? = some s' → (toF W rs j s').1 = "") ∧ FrT K [] H H')
        ⟨M, [], upd_same, rfl, ?_, hM0, dat.out hD, fun i s v _ z => (by cases z), fun j s' z => absurd z (Nat.not_lt_zero _), f02.trans ((Frm.of (same_upd hD)).toT .nil)⟩ (fun i H' _ ⟨_, _, _, _, _, _, _, _, _, f⟩ => SqL.of (rz.keep0 f).1) ?_ ?_
      · rw [List.take_zero]
        exact dat.stay0 ((Frm.of (same_upd hD)).toT .nil)
      · rintro i yv H3 hi ⟨M', vs, hD3, hvl, dat3, hM3, nD3, told3, ok3, f3⟩
        obtain ⟨z, hz, rfl⟩ := atZ hi
        obtain ⟨s, hs, ez⟩ := rowAt hz
        have hrow := (rz.keep0 f3).2 z (List.mem_of_getElem? hz)
        rw [ez] at hrow
        have il : i < rs.length := (List.getElem?_eq_some_iff.mp hs).1
        have inv := stL_inv pool leg i (Nat.le_of_lt il)
        have dat3' := id dat3
        obtain ⟨pw, dh, dl, pk, qr, qf, qp, pd, pz, zr, zf, zp, pe, pl, lw, sdm, eM, da⟩ := dat3'
        obtain ⟨dx3, o1⟩ := da.ob
        refine ⟨rfl, _, rfl, y, dx3, _, rfl, o1, yx_do, _, rfl, y, z.1, M', [D], W, names, 1 + 14 * i, stL W (rs.take i), s.1, s.2, rfl, hrow, dat3, inv, pool, by omega, by omega, leg s (List.mem_of_getElem? hs), f3.t ht, fun a ha e => (by rw [List.mem_singleton.mp ha, hD3] at e; cases e), fun hno H4 f4 => ?_, fun hok v M4 H4 hM4 dat4 tv4 f4 => ?_⟩
        · rcases hh with ⟨i0, s0, hs0, okb, bad, k⟩ | ⟨ok, _⟩
          · have e : i = i0 := by
              rcases Nat.lt_trichotomy i i0 with q | q | q
              · exact absurd (okb i s q hs) hno
              · exact q
              · exact absurd (ok3 i0 s0 q hs0) bad
            subst e
            rw [hs] at hs0
            cases hs0
            exact k H4 (f3.trans f4)
          · exact absurd (ok i s hs) hno
        · have hD4 := f4.k _ _ hD3 rfl nD3
          have nD4 : D ∉ M4 := fun z => (hM4 D z).elim nD3 fun e => by rw [hD3] at e; cases e
          have ntM : NT (M' ++ [D]) H3 := fun a ha => (List.mem_append.mp ha).elim (dat3.nt a) (NT.cons hD3 rfl .nil a)
          have told4 : ToldL H4 (M4 ++ [D]) W rs vs := fun j s' v' a b => (told3 j s' v' a b).keep (f4.mono fun a ha => List.mem_append_left _ ha) ntM fun a ha => (List.mem_append.mp ha).elim (fun z => (hM4 a z).imp_left (List.mem_append_left _)) fun z => .inl (List.mem_append_right _ z)
          have ntM4 : NT (M4 ++ [D]) H4 := fun a ha => (List.mem_append.mp ha).elim (dat4.nt a) (NT.cons hD4 rfl .nil a)
          have ntD : NT [D] H4 := .cons hD4 rfl .nil
          have f5 : FrT K [D] H4 (upd H4 D (.lst (vs ++ [v]))) := ((Frm.refl [D] H4).put (by simp)).toN ntD
          have f04 : FrT K [] H H4 := f3.fresh f4 hM3
          refine ⟨vs, hD4, by rw [hvl]; exact Nat.lt_of_lt_of_le (show i < 201 by omega) (by decide), M4, vs ++ [v], upd_same, by rw [List.length_append, hvl]; rfl, ?_, fun a ha => (hM4 a ha).elim (hM3 a) (fun e => f3.b _ e), nD4, ?_, fun j s' hj hs' => ?_, f04.fresh f5 (by simpa using hD0)⟩
          · rw [stL_take hs]
            exact dat4.put nD4 hD4
          · intro j s' v' hs' hv'
            have keep : ∀ {tv : TV}, TVAt H4 (M4 ++ [D]) tv v' → TVAt (upd H4 D (.lst (vs ++ [v]))) (M4 ++ [D]) tv v' := fun t => t.keep (f5.mono (by simp)) ntM4 fun a ha => .inl ha
            rcases Nat.lt_or_ge j vs.length with q | q
            · rw [List.getElem?_append_left q] at hv'
              exact keep (told4 j s' v' hs' hv')
            · rw [List.getElem?_append_right q] at hv'
              have : j - vs.length = 0 := by
                have := (List.getElem?_eq_some_iff.mp hv').1
                simp only [List.length_singleton] at this
                omega
              have ej : j = i := by omega
              rw [this] at hv'
              cases hv'
              subst ej
              rw [hs] at hs'
              cases hs'
              exact keep tv4
          · rcases Nat.lt_or_eq_of_le (Nat.le_of_lt_succ hj) with q | q
            · exact ok3 j s' q hs'
            · subst q
              rw [hs] at hs'
              cases hs'
              exact hok
      · rintro H3 ⟨M', vs, hD3, hvl, dat3, hM3, nD3, told3, ok3, f3⟩
        rw [List.length_map, zl] at hvl dat3 ok3
        rw [List.take_length] at dat3
        have allok : AllOk W rs := fun j s' hs' => ok3 j s' (List.getElem?_eq_some_iff.mp hs').1 hs'
        rcases hh with ⟨i0, s0, hs0, okb, bad, k⟩ | ⟨_, k⟩
        · exact absurd (allok i0 s0 hs0) bad
        have inv := stL_inv pool leg rs.length (Nat.le_refl _)
        rw [List.take_length] at inv
        have dat3' := id dat3
        obtain ⟨pw, dh, dl, pk, qr, qf, qp, pd, pz, zr, zf, zp, pe, pl, lw, sdm, eM, da⟩ := dat3'
        obtain ⟨dx3, o1⟩ := da.ob
        refine ⟨_, rfl, y, dx3, _, rfl, o1, yx_end, y, M', W, stL W rs, rfl, dat3, inv.kl pool, fun t h H4 htt hhh et eh f4 => ?_⟩
        refine ⟨t, _, rfl, SqT.of et, rfl, _, _, rfl, _, _, rfl, rfl, ?_⟩
        refine ⟨_, rfl, _, rfl, _, rfl, by show 3 ≤ sizeLine; decide, fun r hr0 => ?_⟩
        have f5 : Frm [] H4 (upd H4 r (.tup [.ref D, .ref h, .int (stL W rs).lk])) := Frm.of (same_upd hr0)
        have f35 := f4.trans f5
        exact k r D h vs _ (f3.b _ (f4.b _ hr0)) hD0 (f3.b _ hhh) (ne_of_none hD3 hhh) upd_same (f35.k _ _ hD3 rfl (by simp)) (f5.k _ _ eh rfl (by simp)) hvl (fun j s' v' a b => ((told3 j s' v' a b).none_).keep (f35.toT (K := K) .nil) .nil fun a ha => absurd ha (by simp)) (f3.trans (f35.toT .nil))
    · rcases h with ⟨i', hi', k⟩ | ⟨no, _⟩
      · have e : i = i' := by
          obtain ⟨⟨x, hx, bx⟩, b2⟩ := hi
          obtain ⟨⟨x', hx', bx'⟩, b2'⟩ := hi'
          rcases Nat.lt_trichotomy i i' with q | q | q
          · rw [b2' i x q hx] at bx; cases bx
          · exact q
          · rw [b2 i' x' q hx'] at bx'; cases bx'
        subst e
        exact k
      · obtain ⟨⟨x, hx, bx⟩, _⟩ := hi
        rw [no i x hx] at bx
        cases bx
end
end B

set_option Elab.async false
set_option linter.all false
set_option maxRecDepth 100000
set_option maxHeartbeats 4000000
namespace B
open PySem PySem.Spec PyProof.Rows L2
open SX (S)
/-! ### the law's own day -/
def oyv (pm pk pz pl : Addr) : List (Key × V) := [(.inr "m", .ref pm), (.inr "path", .ref pk), (.inr "tour", .ref pz), (.inr "kept", .ref pl)]
section
variable {H : Hp} {y pm pk pz pl q : Addr}
theorem ov_m : valV (oyv pm pk pz pl) (.inr "m" : Key) = some (.ref pm) := by kernel_rfl
theorem ov_path : valV (oyv pm pk pz pl) (.inr "path" : Key) = some (.ref pk) := by kernel_rfl
theorem ov_tour : valV (oyv pm pk pz pl) (.inr "tour" : Key) = some (.ref pz) := by kernel_rfl
theorem ov_kept : valV (oyv pm pk pz pl) (.inr "kept" : Key) = some (.ref pl) := by kernel_rfl
theorem oy_m (h : H y = some (.dK (oyv pm pk pz pl))) : DGet H y (.str "m") (some (.ref pm)) := by rw [← ov_m (pm := pm) (pk := pk) (pz := pz) (pl := pl)]; exact DGet.k (k := Sum.inr "m") h
theorem oy_path (h : H y = some (.dK (oyv pm pk pz pl))) : DGet H y (.str "path") (some (.ref pk)) := by rw [← ov_path (pm := pm) (pk := pk) (pz := pz) (pl := pl)]; exact DGet.k (k := Sum.inr "path") h
theorem oy_tour (h : H y = some (.dK (oyv pm pk pz pl))) : DGet H y (.str "tour") (some (.ref pz)) := by rw [← ov_tour (pm := pm) (pk := pk) (pz := pz) (pl := pl)]; exact DGet.k (k := Sum.inr "tour") h
theorem oy_kept (h : H y = some (.dK (oyv pm pk pz pl))) : DGet H y (.str "kept") (some (.ref pl)) := by rw [← ov_kept (pm := pm) (pk := pk) (pz := pz) (pl := pl)]; exact DGet.k (k := Sum.inr "kept") h
theorem op_path : putK (oyv pm pk pz pl) (.inr "path") (.ref q) = oyv pm q pz pl := by kernel_rfl
theorem op_kept : putK (oyv pm pk pz pl) (.inr "kept") (.ref q) = oyv pm pk pz q := by kernel_rfl
theorem oyp_path (h : H y = some (.dK (oyv pm pk pz pl))) : DPut H y (.str "path") (.ref q) (upd H y (.dK (oyv pm q pz pl))) := by rw [← op_path (pk := pk)]; exact DPut.k (k := Sum.inr "path") h (by show 4 < sizeLine; decide)
theorem oyp_kept (h : H y = some (.dK (oyv pm pk pz pl))) : DPut H y (.str "kept") (.ref q) (upd H y (.dK (oyv pm pk pz q))) := by rw [← op_kept (pl := pl)]; exact DPut.k (k := Sum.inr "kept") h (by show 4 < sizeLine; decide)
end
structure OyA (H : Hp) (y pm dt ml pk pr pf pp pz zr zf zp pl : Addr) (W : Nat) (d : DyS) (lw : List Str) (sdm : Option (List Nat)) : Prop where
  ob : H y = some (.dK (oyv pm pk pz pl))
  ma : MdAt H pm dt ml W d.kvs lw sdm d.lk
  len : lw.length ≤ 41
  on : d.wk.sd ≠ none → lw = d.lm ∧ sdm = d.wk.sd
  wk : WkAt H pk pr pf pp d.wk
  tour : WkAt H pz zr zf zp d.tour
  ls : H pl = some (.lst (d.kept.map V.str))
  nd : [y, pm, dt, pk, pr, pf, pp, pz, zr, zf, zp].Nodup
  ndl : ml ∉ [pr, pf, pp, zr, zf, zp]
  npl : pl ∉ [y, pm, dt, pk, pr, pf, pp, pz, zr, zf, zp]
def OAt (H : Hp) (y : Addr) (M : List Addr) (W : Nat) (d : DyS) : Prop := ∃ (pm dt ml pk pr pf pp pz zr zf zp pl : Addr) (lw : List Str) (sdm : Option (List Nat)), M = [y, pm, dt, pk, pr, pf, pp, pz, zr, zf, zp, ml, pl] ∧ OyA H y pm dt ml pk pr pf pp pz zr zf zp pl W d lw sdm
section
variable {K : PySem.W.Frag} {H H' : Hp} {y pm dt ml pk pr pf pp pz zr zf zp pl : Addr} {W : Nat} {d : DyS} {lw : List Str} {sdm : Option (List Nat)}
theorem OyA.nt (h : OyA H y pm dt ml pk pr pf pp pz zr zf zp pl W d lw sdm) : NT [y, pm, dt, pk, pr, pf, pp, pz, zr, zf, zp] H := by
  obtain ⟨a, ⟨b, _, c⟩, _, _, ⟨e, f, g, ⟨ts, i, _⟩, _⟩, ⟨k, l, m, ⟨us, n, _⟩, _⟩, _⟩ := h
  exact .cons a rfl (.cons b rfl (.cons c rfl (.cons e rfl (.cons f rfl (.cons g rfl (.cons i rfl (.cons k rfl (.cons l rfl (.cons m rfl (.cons n rfl .nil))))))))))
theorem OAt.nt {M : List Addr} (h : OAt H y M W d) : NT M H := by
  obtain ⟨pm, dt, ml, pk, pr, pf, pp, pz, zr, zf, zp, pl, _, _, rfl, h⟩ := h
  exact fun a ha => (List.mem_append.mp (show a ∈ [y, pm, dt, pk, pr, pf, pp, pz, zr, zf, zp] ++ [ml, pl] from ha)).elim (h.nt a) (NT.cons h.ma.li rfl (.cons h.ls rfl .nil) a)
theorem OyA.stay {T : List Addr} (h : OyA H y pm dt ml pk pr pf pp pz zr zf zp pl W d lw sdm) (f : FrT K T H H') (n : NT T H) (o : ∀ x ∈ [y, pm, dt, pk, pr, pf, pp, pz, zr, zf, zp], x ∉ T) (hd : ml ∉ T) (hp : pl ∉ T) : OyA H' y pm dt ml pk pr pf pp pz zr zf zp pl W d lw sdm := by
  obtain ⟨a, ma, c, e, wk, tour, ls, g, i, j⟩ := h
  exact ⟨f.k _ _ a rfl (o y (by simp)), ma.keep f (o pm (by simp)) (o dt (by simp)) hd, c, e, wk.keepT f n (o pk (by simp)) (o pr (by simp)) (o pf (by simp)) (o pp (by simp)), tour.keepT f n (o pz (by simp)) (o zr (by simp)) (o zf (by simp)) (o zp (by simp)), f.k _ _ ls rfl hp, g, i, j⟩
theorem OAt.put (K : PySem.W.Frag) {D : Addr} {M : List Addr} {xs : List V} {o : HO} (h : OAt H y M W d) (n : D ∉ M) (hD : H D = some (.lst xs)) : OAt (upd H D o) y M W d := by
  obtain ⟨pm, dt, ml, pk, pr, pf, pp, pz, zr, zf, zp, pl, lw, sdm, rfl, h⟩ := h
  have nt : NT [D] H := .cons hD rfl .nil
  have f : FrT K [D] H (upd H D o) := ((Frm.refl [D] H).put (by simp)).toN nt
  exact ⟨pm, dt, ml, pk, pr, pf, pp, pz, zr, zf, zp, pl, lw, sdm, rfl, h.stay f nt (fun x hx z => n (by rw [← List.mem_singleton.mp z]; exact List.mem_append_left [ml, pl] hx)) (fun z => n (by simp [List.mem_singleton.mp z])) (fun z => n (by simp [List.mem_singleton.mp z]))⟩
theorem OAt.stay0 {M : List Addr} (h : OAt H y M W d) (f : FrT K [] H H') : OAt H' y M W d := by
  obtain ⟨pm, dt, ml, pk, pr, pf, pp, pz, zr, zf, zp, pl, lw, sdm, e, h⟩ := h
  exact ⟨pm, dt, ml, pk, pr, pf, pp, pz, zr, zf, zp, pl, lw, sdm, e, h.stay f .nil (fun _ _ => by simp) (by simp) (by simp)⟩
end
section
variable {P : Program} {w : World} {K : PySem.W.Frag} {mg : Str → Option Value} {base : Heap}
/-- a new own walk gone all -/
def spWalked : Sp := fun vs H Q _ => ∃ (pk pr pf pp pm dt ml : Addr) (W n : Nat) (kvs : List (Str × Bool)) (lm : List Str) (sdm : Option (List Nat)) (lk : Int) (st : WkS), vs = [.ref pk, .ref pm] ∧ WkAt H pk pr pf pp st ∧ MdAt H pm dt ml W kvs lm sdm lk ∧ pm ≠ dt ∧ pk ≠ pm ∧ pk ≠ dt ∧ (ml ≠ pr ∧ ml ≠ pf ∧ ml ≠ pp) ∧
  (kvs.map (·.1)).Nodup ∧ kvs.length ≤ 100 ∧ (∀ x ∈ kvs.map (·.1), Num W x) ∧ W ≤ 12 ∧ WkOk W lm sdm st n ∧ n + meas W st ≤ 900000 ∧
  ∀ (p ml' : Addr) (H' : Hp) (R : Q4), R = allF W kvs (meas W st) (st, lm, sdm, lk) → R.1.sd = none → R.1.rest = [] → (ml' = ml ∨ H ml' = none) → H p = none → p ≠ ml' → H' p = some (.lst (R.1.found.map txV)) → MdAt H' pm dt ml' W kvs R.2.1 R.2.2.1 R.2.2.2 → Frm [pk, pr, pf, pp, pm] H H' → Q (.ref p) H'
theorem c_lwalked (T : Txt P w K mg base) : CalX CX0 P w K mg base 3 "_law_walked" spWalked := by
  obtain ⟨fd, F⟩ := T.t.def_ 59 (d := d_lwalked)
  refine ⟨_, fd, _, F.ok sc_lwalked (fun vs H Q E h => ?_) (fun cdv A outer s H vs Q E hr h => ?_), He.glo_ok T.X T.G (T.t.fact 27), F.kp, F.bindsN fun _ _ _ _ _ _ us hl => match us, hl with | [_, _], _ => rfl⟩
  · obtain ⟨pk, pr, pf, pp, pm, dt, ml, W, n, kvs, lm, sdm, lk, st, rfl, _⟩ := h
    rfl
  · obtain ⟨pk, pr, pf, pp, pm, dt, ml, W, n, kvs, lm, sdm, lk, st, rfl, wk, ma, npd, nkm, nkd, nml, hnd, hkl, hkn, hW, hok, hn, k⟩ := h
    have hu := hu_of hr
    refine ⟨_, PSs.nox (pss_cons (ps_while PassesOwn.never (PW.pt (pw_or (pt_cmpR op_notN (pe_dget hu (pv 0) pe_str (fun _ _ => rfl)) pe_non (nomark _)) (pw_or1 (pt_cmpR (op_neD hr.units) (pe_dget hu (pv 0) pe_str (fun _ _ => rfl)) (pe_lst pa_nil) (nomark _)))))
      (pss_one (ps_expr (pe_cx (c_lstep T) hr (by decide) rfl pass0 (pa_cons (pv 0) (pa_cons (pv 1) pa_nil))))))
    (pss_one (ps_ret (pe_callTy call_list_of (by rfl) (n_list T) (by decide +kernel) (pa_cons (pe_dget hu (pv 0) pe_str (fun _ _ => rfl)) pa_nil))))), ?_⟩
    have lists : ∀ {b : Addr}, H b = none → b ≠ pr ∧ b ≠ pf ∧ b ≠ pp := fun hb => ⟨(ne_of_none wk.rs hb).symm, (ne_of_none wk.fd hb).symm, by obtain ⟨ts, e, _⟩ := wk.pa; exact (ne_of_none e hb).symm⟩
    generalize hR : allF W kvs (meas W st) (st, lm, sdm, lk) = R at k
    let Wd : Nat → L2.St → Hp → Prop := fun m σ H' => ∃ (ml' : Addr) (q : Q4) (b : Nat), σ = [some (.ref pk), some (.ref pm)] ∧ WkAt H' pk pr pf pp q.1 ∧ MdAt H' pm dt ml' W kvs q.2.1 q.2.2.1 q.2.2.2 ∧ WkOk W q.2.1 q.2.2.1 q.1 b ∧ (ml' = ml ∨ H ml' = none) ∧ Frm [pk, pr, pf, pp, pm] H H' ∧ meas W q.1 ≤ m ∧ b + m ≤ n + meas W st ∧ allF W kvs m q = R
    refine ⟨Wd, ⟨meas W st, ml, (st, lm, sdm, lk), n, rfl, wk, ma, hok, .inl rfl, Frm.refl _ _, Nat.le_refl _, Nat.le_refl _, hR⟩, ?_⟩
    rintro m σ H2 ⟨ml2, ⟨st2, lm2, sd2, lk2⟩, b, rfl, wk2, ma2, ok2, hd2, f2, hm, hb, hq⟩
    dsimp only at wk2 ma2 ok2 hm
    have body : ∀ H2 : Hp, WkAt H2 pk pr pf pp st2 → MdAt H2 pm dt ml2 W kvs lm2 sd2 lk2 → Frm [pk, pr, pf, pp, pm] H H2 → ¬ (st2.sd = none ∧ st2.rest = []) → ∃ (N : L2.St → Hp → Prop), (∀ σ' H', N σ' H' → ∃ m', m' < m ∧ Wd m' σ' H') ∧ spStep [.ref pk, .ref pm] H2 (fun _ H' => N [some (.ref pk), some (.ref pm)] H') (fun _ _ _ => False) := fun H2 wk2 ma2 f2 hst => by
      have hne : st2.sd = none → st2.rest ≠ [] := fun a z => hst ⟨a, z⟩
      refine ⟨fun σ' H' => ∃ m', m' < m ∧ Wd m' σ' H', fun _ _ h => h, pk, pr, pf, pp, pm, dt, ml2, W, kvs, lm2, sd2, lk2, st2, rfl, wk2, ma2, npd, nkm, nkd, hd2.elim (fun e => by rw [e]; exact nml) lists, hnd, hkl, hkn, ok2.lm, hW, by have := ok2.len.1; omega, by have := ok2.len.2.1; omega, by have := ok2.len.2.2; omega, fun z => ok2.none_ (hne z), ok2.said, fun v ml3 H3 hml3 wk3 tl3 ma3 f3 => ?_⟩
      have hlt := step_meas (kvs := kvs) (lk := lk2) ok2 hne
      obtain ⟨m', rfl⟩ : ∃ m', m = m' + 1 := ⟨m - 1, by have := meas_pos (W := W) hst; omega⟩
      exact ⟨m', by omega, ml3, ((stepF W kvs lm2 lk2 st2).1.1, (stepF W kvs lm2 lk2 st2).2), b + 1, rfl, wk3, ma3, step_ok ok2 hne hkl hkn, hml3.elim (fun e => by rw [e]; exact hd2) (fun z => .inr (f2.b _ z)), f2.trans f3, by show meas W (stepF W kvs lm2 lk2 st2).1.1 ≤ m'; omega, by omega, by rw [← hq, all_go hst]⟩
    have sdn : ∀ o : Option (List Nat), (decide (sdV o = V.non)) = o.isNone := fun o => by
      cases o with
      | none => rfl
      | some l => rfl
    refine ⟨_, rfl, pk, _, rfl, wk_said wk2.ob, rfl, _, rfl, ?_⟩
    rw [sdn]
    cases hs : st2.sd with
    | some l =>
      obtain ⟨N, n1, n2⟩ := body H2 wk2 ma2 f2 (fun z => by rw [hs] at z; cases z.1)
      exact ⟨N, n1, _, rfl, _, rfl, n2⟩
    | none =>
      refine ⟨_, rfl, pk, _, rfl, wk_rest wk2.ob, Nat.zero_le _, fun E1 hE1 => ?_⟩
      have okb : ∀ x ∈ st2.rest.map S, PyData.strOk x = true := fun x hx => by
        obtain ⟨g, hg, rfl⟩ := List.mem_map.mp hx
        exact strOk_bits (ok2.rest g hg).2
      have g3 : Frm [] H2 (upd H2 E1 (.lst [])) := Frm.of (same_upd hE1)
      refine ⟨_, _, .lst (SqL.of (same_upd hE1 _ _ (by rw [← txs]; exact wk2.rs))) (dp_strs (st2.rest.map S)), .lst (SqL.of upd_same) .nil, shaped_strs okb, by decide +kernel, _, rfl, ?_⟩
      rw [eqv_txs]
      have wk3 := wk2.stay g3 .nil (by simp) (by simp) (by simp) (by simp)
      have ma3 := ma2.stay (g3.toT .nil (K := K)) .nil (by simp) (by simp)
      have f3 := f2.trans (g3.mono (by simp))
      revert wk3 ma3 f3
      generalize (upd H2 E1 (.lst [])) = H3
      intro wk3 ma3 f3
      cases hr2 : st2.rest with
      | cons g r =>
        obtain ⟨N, n1, n2⟩ := body H3 wk3 ma3 f3 (fun z => by rw [hr2] at z; cases z.2)
        exact ⟨N, n1, _, rfl, _, rfl, n2⟩
      | nil =>
        have e : (st2, lm2, sd2, lk2) = R := by rw [← hq, all_stop ⟨hs, hr2⟩]
        subst e
        refine ⟨_, rfl, pk, _, rfl, wk_found wk3.ob, pf, _, rfl, .inl (SqL.of wk3.fd), fun p hp => ?_⟩
        have g4 : Frm [] H3 (upd H3 p (.lst (st2.found.map txV))) := Frm.of (same_upd hp)
        exact k p ml2 _ _ rfl hs hr2 hd2 (f3.b _ hp) (fun e => by rw [e, ma3.li] at hp; cases hp) upd_same (ma3.stay (g4.toT .nil (K := K)) .nil (by simp) (by simp)) (f3.trans (g4.mono (by simp)))
end
end B

set_option Elab.async false
set_option linter.all false
set_option maxRecDepth 100000
set_option maxHeartbeats 4000000
namespace B
open PySem PySem.Spec PyProof.Rows L2
open SX (S)
section
variable {P : Program} {w : World} {K : PySem.W.Frag} {mg : Str → Option Value} {base : Heap}
theorem oy_new {pm pk pz pl : Addr} : mergeK [] [((.inr "m" : Key), V.ref pm), (.inr "path", .ref pk), (.inr "tour", .ref pz), (.inr "kept", .ref pl)] = oyv pm pk pz pl := by kernel_rfl
theorem Frm.drop {U T : List Addr} {H H' : Hp} (f : Frm U H H') (h : ∀ x ∈ U, x ∈ T ∨ H x = none) : Frm T H H' := ⟨fun b o e t n => f.k b o e t fun z => (h b z).elim n (fun q => absurd (q.symm.trans e) (by simp)), f.b⟩
def spODay : Sp := fun vs H Q _ => ∃ W : Nat, vs = [.int W] ∧ ∀ (y : Addr) (M : List Addr) (H' : Hp), (∀ a ∈ M, H a = none) → OAt H' y M W dy0 → Frm [] H H' → Q (.ref y) H'
theorem c_lday (T : Txt P w K mg base) : CalX CX0 P w K mg base 2 "_law_day" spODay := by
  obtain ⟨fd, F⟩ := T.t.def_ 57 (d := d_lday)
  refine ⟨_, fd, _, F.ok sc_lday (fun vs H Q E h => ?_) (fun cdv A outer s H vs Q E hr h => ?_), He.glo_ok T.X T.G (T.t.fact 25), F.kp, F.bindsN fun _ _ _ _ _ _ us hl => match us, hl with | [_], _ => rfl⟩
  · obtain ⟨W, rfl, _⟩ := h
    rfl
  · obtain ⟨W, rfl, k⟩ := h
    refine ⟨_, PSs.nox (pss_one (ps_ret (pe_disp (pps_cons pe_str (pe_cx (c_lmodel T) hr (by decide) rfl pass0 (pa_cons (pv 0) pa_nil)) (pps_cons pe_str (pe_cx (c_lpath T) hr (by decide) rfl pass0 (pa_cons pe_str pa_nil)) (pps_cons pe_str (pe_cx (c_lpath T) hr (by decide) rfl pass0 (pa_cons pe_str pa_nil)) (pps_cons pe_str (pe_lst pa_nil) pps_nil)))) (by rfl) (by rfl) (fun z => by cases z) (by decide)))), ?_⟩
    intro y hy
    refine ⟨_, rfl, W, rfl, fun pm dt ml H1 hpm hdt hml npd m1 m2 m3 f1 => ?_⟩
    refine ⟨"all", rfl, fun pk pr pf pp H2 hpk hpr hpf hpp wk2 f2 => ?_⟩
    refine ⟨"all", rfl, fun pz zr zf zp H3 hpz hzr hzf hzp wk3 f3 => ?_⟩
    refine ⟨Nat.zero_le _, fun pl hpl => ?_⟩
    have e0 : (upd H y (.dK [])) y = some (.dK []) := upd_same
    have e1 := f1.k _ _ e0 rfl (by simp)
    have e2 := f2.k _ _ e1 rfl (by simp)
    have e3 := f3.k _ _ e2 rfl (by simp)
    have f4 : Frm [] H3 (upd H3 pl (.lst [])) := Frm.of (same_upd hpl)
    have e4 := f4.k _ _ e3 rfl (by simp)
    refine ⟨e4, [(.inr "m", .ref pm), (.inr "path", .ref pk), (.inr "tour", .ref pz), (.inr "kept", .ref pl)], rfl, by show 4 ≤ 15; decide, ?_⟩
    rw [oy_new]
    have ls4 : (upd H3 pl (.lst [])) pl = some (.lst []) := upd_same
    revert f4 e4 ls4
    generalize (upd H3 pl (.lst [])) = H4
    intro f4 e4 ls4
    have g5 : Frm [y] H4 (upd H4 y (.dK (oyv pm pk pz pl))) := (Frm.refl _ _).put (by simp)
    have e5 : (upd H4 y (.dK (oyv pm pk pz pl))) y = some (.dK (oyv pm pk pz pl)) := upd_same
    revert g5 e5
    generalize (upd H4 y (.dK (oyv pm pk pz pl))) = H5
    intro g5 e5
    have b0 : ∀ {x : Addr}, (upd H y (.dK [])) x = none → H x = none := fun z => upd_back z
    have ma1 : MdAt H1 pm dt ml W [] [] none 0 := ⟨m1, m2, m3⟩
    have f15 : Frm [y] H1 H5 := (((f2.trans f3).trans f4).mono (by simp)).trans g5
    have f25 : Frm [y] H2 H5 := ((f3.trans f4).mono (by simp)).trans g5
    have f35 : Frm [y] H3 H5 := (f4.mono (by simp)).trans g5
    have some0 : ∀ x ∈ [y], (upd H y (.dK [])) x ≠ none := fun x hx e => by rw [List.mem_singleton.mp hx, e0] at e; cases e
    have nD1 : ([y] ++ [pm, dt]).Nodup := nod_app (by simp) (by simp [npd]) some0 (fun x hx => by
      simp only [List.mem_cons, List.not_mem_nil, or_false] at hx
      rcases hx with rfl | rfl
      · exact hpm
      · exact hdt)
    have some1 : ∀ x ∈ [y] ++ [pm, dt], H1 x ≠ none := fun x hx e => by
      simp only [List.mem_append, List.mem_cons, List.not_mem_nil, or_false] at hx
      rcases hx with rfl | rfl | rfl
      · rw [e1] at e; cases e
      · rw [m1] at e; cases e
      · rw [m3] at e; cases e
    obtain ⟨v1, v2, v3, ⟨ts, v4, _⟩, v5, v6, v7⟩ := id wk2
    have nD2 : (([y] ++ [pm, dt]) ++ [pk, pr, pf, pp]).Nodup := nod_app nD1 (by
      have a1 : pk ≠ pr := ne_of v1 v2 (by intro z; cases z)
      have a2 : pk ≠ pf := ne_of v1 v3 (by intro z; cases z)
      have a3 : pk ≠ pp := ne_of v1 v4 (by intro z; cases z)
      simp [a1, a2, a3, v5, v6, v7]) some1 (fun x hx => by
      simp only [List.mem_cons, List.not_mem_nil, or_false] at hx
      rcases hx with rfl | rfl | rfl | rfl
      · exact hpk
      · exact hpr
      · exact hpf
      · exact hpp)
    have some2 : ∀ x ∈ ([y] ++ [pm, dt]) ++ [pk, pr, pf, pp], H2 x ≠ none := fun x hx e => by
      rcases List.mem_append.mp hx with hx | hx
      · exact some1 x hx (f2.b _ e)
      simp only [List.mem_cons, List.not_mem_nil, or_false] at hx
      rcases hx with rfl | rfl | rfl | rfl
      · rw [v1] at e; cases e
      · rw [v2] at e; cases e
      · rw [v3] at e; cases e
      · rw [v4] at e; cases e
    obtain ⟨z1, z2, z3, ⟨us, z4, _⟩, z5, z6, z7⟩ := id wk3
    have nD3 : ((([y] ++ [pm, dt]) ++ [pk, pr, pf, pp]) ++ [pz, zr, zf, zp]).Nodup := nod_app nD2 (by
      have a1 : pz ≠ zr := ne_of z1 z2 (by intro z; cases z)
      have a2 : pz ≠ zf := ne_of z1 z3 (by intro z; cases z)
      have a3 : pz ≠ zp := ne_of z1 z4 (by intro z; cases z)
      simp [a1, a2, a3, z5, z6, z7]) some2 (fun x hx => by
      simp only [List.mem_cons, List.not_mem_nil, or_false] at hx
      rcases hx with rfl | rfl | rfl | rfl
      · exact hpz
      · exact hzr
      · exact hzf
      · exact hzp)
    have some3 : ∀ x ∈ (([y] ++ [pm, dt]) ++ [pk, pr, pf, pp]) ++ [pz, zr, zf, zp], H3 x ≠ none := fun x hx e => by
      rcases List.mem_append.mp hx with hx | hx
      · exact some2 x hx (f3.b _ e)
      simp only [List.mem_cons, List.not_mem_nil, or_false] at hx
      rcases hx with rfl | rfl | rfl | rfl
      · rw [z1] at e; cases e
      · rw [z2] at e; cases e
      · rw [z3] at e; cases e
      · rw [z4] at e; cases e
    have ny : ∀ {x : Addr}, (upd H y (.dK [])) x = none → x ∉ [y] := fun {x} e z => some0 x z e
    have h2 : ∀ {x : Addr}, H2 x = none → (upd H y (.dK [])) x = none := fun z => f1.b _ (f2.b _ z)
    have mlS : ∀ {Hx : Hp} {x : Addr}, H1 ml = Hx ml → Hx x = none → ml ≠ x := fun {Hx x} q e z => by rw [m2] at q; rw [z, e] at q; cases q
    have ml1 : ∀ {x : Addr}, H1 x = none → ml ≠ x := fun {x} e z => by rw [z, e] at m2; cases m2
    have ml2 : ∀ {x : Addr}, H2 x = none → ml ≠ x := fun {x} e => ml1 (f2.b _ e)
    refine k y _ H5 ?_ ⟨pm, dt, ml, pk, pr, pf, pp, pz, zr, zf, zp, pl, [], none, rfl, e5, ma1.keep (f15.toT (K := K) (.cons e1 rfl .nil)) (ny hpm) (ny hdt) (ny hml), Nat.zero_le _, fun z => absurd rfl z, wk2.keepT (f25.toT (K := K) (.cons e2 rfl .nil)) (.cons e2 rfl .nil) (ny (f1.b _ hpk)) (ny (f1.b _ hpr)) (ny (f1.b _ hpf)) (ny (f1.b _ hpp)), wk3.keepT (f35.toT (K := K) (.cons e3 rfl .nil)) (.cons e3 rfl .nil) (ny (h2 hpz)) (ny (h2 hzr)) (ny (h2 hzf)) (ny (h2 hzp)), g5.k _ _ ls4 rfl (ny (h2 (f3.b _ hpl))), nD3, ?_, ?_⟩ (Frm.fresh ((((Frm.of (same_upd hy)).trans f1).trans f2).trans (f3.trans f4)) g5 (by simpa using hy))
    · intro a ha
      simp only [List.mem_cons, List.not_mem_nil, or_false] at ha
      rcases ha with rfl | rfl | rfl | rfl | rfl | rfl | rfl | rfl | rfl | rfl | rfl | rfl | rfl
      · exact hy
      · exact b0 hpm
      · exact b0 hdt
      · exact b0 (f1.b _ hpk)
      · exact b0 (f1.b _ hpr)
      · exact b0 (f1.b _ hpf)
      · exact b0 (f1.b _ hpp)
      · exact b0 (h2 hpz)
      · exact b0 (h2 hzr)
      · exact b0 (h2 hzf)
      · exact b0 (h2 hzp)
      · exact b0 hml
      · exact b0 (h2 (f3.b _ hpl))
    · intro z
      simp only [List.mem_cons, List.not_mem_nil, or_false] at z
      rcases z with z | z | z | z | z | z
      · exact ml1 hpr z
      · exact ml1 hpf z
      · exact ml1 hpp z
      · exact ml2 hzr z
      · exact ml2 hzf z
      · exact ml2 hzp z
    · intro z
      exact some3 pl z hpl
def spODo : Sp := fun vs H Q _ => ∃ (y p : Addr) (M X : List Addr) (W : Nat) (names : List Str) (b : Nat) (d : DyS) (w x : Str), vs = [.ref y, .ref p] ∧ H p = some (.tup ((rowOf w x).map V.str)) ∧ OAt H y M W d ∧ DInv names W b d ∧ PoolS W names ∧ 1 ≤ b ∧ b ≤ 700000 ∧ Legal names W w x ∧ (∀ a ∈ X, H a ≠ none) ∧
  ∀ (t : Addr) (v : V) (M' : List Addr) (H' : Hp), (∀ a ∈ M', a ∈ M ∨ H a = none) → H t = none → H' t = some (.tup [.str (doF W d w x).1, v]) → OAt H' y M' W (doF W d w x).2.2 → TVAt H' (M' ++ X) (doF W d w x).2.1 v → Frm M H H' → Q (.ref t) H'
theorem c_ldo (T : Txt P w K mg base) : CalX CX0 P w K mg base 5 "_law_do" spODo := by
  obtain ⟨fd, F⟩ := T.t.def_ 60 (d := d_ldo)
  refine ⟨_, fd, _, F.ok sc_ldo (fun vs H Q E h => ?_) (fun cdv A outer s H vs Q E hr h => ?_), He.glo_ok T.X T.G (T.t.fact 28), F.kp, F.bindsN fun _ _ _ _ _ _ us hl => match us, hl with | [_, _], _ => rfl⟩
  · obtain ⟨y, p, M, X, W, names, b, d, w, x, rfl, _⟩ := h
    rfl
  · obtain ⟨y, p, M, XX, W, names, b, d, w, x, rfl, hp, ⟨pm, dt, ml, pk, pr, pf, pp, pz, zr, zf, zp, pl, lw, sdm, rfl, oa⟩, inv, pool, hb1, hb, leg, hX, kQ⟩ := h
    have hu := hu_of hr
    refine ⟨_, PSs.nox (pss_cons (ps_par (i := 2) (j := 3) (by rfl) sc_ldo.nd rfl rfl (by decide) rfl rfl (pa_cons (pe_dget hu (pv 0) pe_str (fun _ _ => rfl)) (pa_cons (pe_dget hu (pv 0) pe_str (fun _ _ => rfl)) pa_nil)) (by rfl))
    (pss_cons (ps_set (i := 4) sc_ldo.nd rfl (Or.inl rfl) (pe_ix ix_tup (pv 1) pe_int (fun _ _ => rfl)))
    (pss_cons (ps_if (pt_cmpR op_eq (pv 4) pe_str (nomark _))
      (pss_cons (ps_dput hu (pv 0) pe_str (pe_cx (c_lpath T) hr (by decide) rfl pass0 (pa_cons (pe_ix ix_tup (pv 1) pe_int (fun _ _ => rfl)) pa_nil)) rfl)
      (pss_one (ps_ret (pe_tup (pa_cons pe_str (pa_cons pe_non pa_nil))))))
      pss_nil)
    (pss_cons (ps_if (pt_cmpR op_in_seq (pv 4) (pe_tup (pa_cons pe_str (pa_cons pe_str pa_nil))) rfl)
      (pss_cons (ps_if (PW.pt (pw_and (pt_cmpR op_isN (pe_dget hu (pv 3) pe_str (fun _ _ => rfl)) pe_non (nomark _)) (pw_and1 (pt_cmpR (op_eqD hr.units) (pe_dget hu (pv 3) pe_str (fun _ _ => rfl)) (pe_lst pa_nil) (nomark _)))))
        (pss_one (ps_ret (pe_tup (pa_cons pe_str (pa_cons pe_non pa_nil)))))
        pss_nil)
      (pss_one (ps_ret (pe_tup (pa_cons pe_str (pa_cons (pe_ifExp (pt_cmpR op_eq (pv 4) pe_str (nomark _)) (pe_cx (c_lstep T) hr (by decide) rfl pass0 (pa_cons (pv 3) (pa_cons (pv 2) pa_nil))) (pe_cx (c_lround T) hr (by decide) rfl pass0 (pa_cons (pv 3) (pa_cons (pv 2) pa_nil)))) pa_nil))))))
      pss_nil)
    (pss_cons (ps_if (pt_cmpR op_in_seq (pv 4) (pe_tup (pa_cons pe_str (pa_cons pe_str pa_nil))) rfl)
      (pss_cons (ps_if (pt_cmpR op_notN (pe_dget hu (pv 3) pe_str (fun _ _ => rfl)) pe_non (nomark _))
        (pss_one (ps_ret (pe_tup (pa_cons pe_str (pa_cons pe_non pa_nil)))))
        pss_nil)
      (pss_cons (ps_if (pt_cmpR op_eq (pv 4) pe_str (nomark _))
        (pss_one (ps_ret (pe_tup (pa_cons pe_str (pa_cons (pe_cx (c_lturn T) hr (by decide) rfl pass0 (pa_cons (pv 2) (pa_cons (pe_dget hu (pv 0) pe_str (fun _ _ => rfl)) pa_nil))) pa_nil)))))
        pss_nil)
      (pss_cons (ps_set (i := 5) sc_ldo.nd rfl (Or.inr rfl) (pe_cx (c_lwalked T) hr (by decide) rfl pass0 (pa_cons (pe_cx (c_lpath T) hr (by decide) rfl pass0 (pa_cons pe_str pa_nil)) (pa_cons (pv 2) pa_nil))))
      (pss_cons (ps_set (i := 6) sc_ldo.nd rfl (Or.inr rfl) (pe_dget hu (pv 0) pe_str (fun _ _ => rfl)))
      (pss_cons (ps_dput hu (pv 0) pe_str (pv 5) rfl)
      (pss_one (ps_ret (pe_tup (pa_cons pe_str (pa_cons (pe_tup (pa_cons (pe_lc (own := [("_law_one", 7)]) (g := gName 7) rfl sc_ldo.nd (pi_list (pv 5)) (blkOk_by (N := ["_law_day_here", "_law_step_here", "_law_m", "_law_w", "_law_word_here", "_law_now", "_law_ahead", "_law_one"]) (sc := defScope s_ldo) (own := [("_law_one", 7)]) (by decide +kernel)) (fun _ _ _ _ _ => pg_name (i := 7) sc_ldo.nd rfl (Or.inl rfl)) (fun _ _ _ _ _ => pts_one (by exact (pt_cmpR (notIn_seqK (K := K) rfl) (pv 7) (pv 6) rfl))) (fun _ _ _ _ _ => by exact (pv 7))) (pa_cons (pe_lc (own := [("_law_one", 7)]) (g := gName 7) rfl sc_ldo.nd (pi_list (pv 6)) (blkOk_by (N := ["_law_day_here", "_law_step_here", "_law_m", "_law_w", "_law_word_here", "_law_now", "_law_ahead", "_law_one"]) (sc := defScope s_ldo) (own := [("_law_one", 7)]) (by decide +kernel)) (fun _ _ _ _ _ => pg_name (i := 7) sc_ldo.nd rfl (Or.inl rfl)) (fun _ _ _ _ _ => pts_one (by exact (pt_cmpR (notIn_seqK (K := K) rfl) (pv 7) (pv 5) rfl))) (fun _ _ _ _ _ => by exact (pv 7))) pa_nil))) pa_nil))))))))))
      pss_nil)
    (pss_cons (ps_if (pt_cmpR op_ne (pe_callB call_len_str (by rfl) (n_len T) PySem.boot_len (pa_cons (pe_ix ix_tup (pv 1) pe_int (fun _ _ => rfl)) pa_nil)) (pe_dget hu (pv 2) pe_str (fun _ _ => rfl)) (nomark _))
      (pss_one (ps_ret (pe_tup (pa_cons pe_str (pa_cons pe_non pa_nil)))))
      pss_nil)
    (pss_one (ps_ret (pe_tup (pa_cons (pe_cx (c_ldeed T) hr (by decide) rfl pass0 (pa_cons (pv 2) (pa_cons (pv 4) (pa_cons (pe_ix ix_tup (pv 1) pe_int (fun _ _ => rfl)) pa_nil)))) (pa_cons pe_non pa_nil))))))))))), ?_⟩
    have nd := oa.nd
    have kl := inv.kl pool
    have num := inv.num pool
    obtain ⟨w1, w2⟩ := And.intro pool.w1 pool.w2
    have wl := inv.wk.len
    have npd : pm ≠ dt := idx_ne nd (i := 1) (j := 2) rfl rfl (by decide)
    have nkm : pk ≠ pm := idx_ne nd (i := 3) (j := 1) rfl rfl (by decide)
    have nkd : pk ≠ dt := idx_ne nd (i := 3) (j := 2) rfl rfl (by decide)
    have nzm : pz ≠ pm := idx_ne nd (i := 7) (j := 1) rfl rfl (by decide)
    have nzd : pz ≠ dt := idx_ne nd (i := 7) (j := 2) rfl rfl (by decide)
    have nml : ml ≠ pr ∧ ml ≠ pf ∧ ml ≠ pp := ⟨fun e => oa.ndl (by simp [e]), fun e => oa.ndl (by simp [e]), fun e => oa.ndl (by simp [e])⟩
    have nmz : ml ≠ zr ∧ ml ≠ zf ∧ ml ≠ zp := ⟨fun e => oa.ndl (by simp [e]), fun e => oa.ndl (by simp [e]), fun e => oa.ndl (by simp [e])⟩
    have l41 := oa.len
    have sdn : ∀ o : Option (List Nat), (decide (sdV o = V.non)) = o.isNone := fun o => by
      cases o with
      | none => rfl
      | some l => rfl
    have inM : ∀ {a : Addr}, H a = none → a ∉ [y, pm, dt, pk, pr, pf, pp, pz, zr, zf, zp] := fun {a} e z => by
      obtain ⟨o, q, _⟩ := oa.nt a z
      rw [e] at q; cases q
    have ndlN : ∀ {ml' : Addr}, (ml' = ml ∨ H ml' = none) → ml' ∉ [pr, pf, pp, zr, zf, zp] := fun {ml'} hd z => hd.elim (fun e => oa.ndl (by rw [← e]; exact z)) fun e => inM e (by
      simp only [List.mem_cons, List.not_mem_nil, or_false] at z ⊢
      rcases z with z | z | z | z | z | z <;> simp [z])
    have keepM : ∀ {ml' : Addr}, (ml' = ml ∨ H ml' = none) → ∀ a ∈ [y, pm, dt, pk, pr, pf, pp, pz, zr, zf, zp, ml', pl], a ∈ [y, pm, dt, pk, pr, pf, pp, pz, zr, zf, zp, ml, pl] ∨ H a = none := fun {ml'} hd a ha => by
      rcases List.mem_append.mp (show a ∈ [y, pm, dt, pk, pr, pf, pp, pz, zr, zf, zp] ++ [ml', pl] from ha) with z | z
      · exact .inl (List.mem_append_left [ml, pl] z)
      · simp only [List.mem_cons, List.not_mem_nil, or_false] at z
        rcases z with rfl | rfl
        · exact hd.imp_left fun e => by rw [e]; simp
        · exact .inl (by simp)
    have up13 : ∀ {T : List Addr}, (∀ a ∈ T, a ∈ [y, pm, dt, pk, pr, pf, pp, pz, zr, zf, zp]) → ∀ a ∈ T, a ∈ [y, pm, dt, pk, pr, pf, pp, pz, zr, zf, zp, ml, pl] := fun s a ha => List.mem_append_left [ml, pl] (s a ha)
    have sub6 : ∀ a ∈ [pk, pr, pf, pp, pm], a ∈ [y, pm, dt, pk, pr, pf, pp, pz, zr, zf, zp] := fun a ha => by
      simp only [List.mem_cons, List.not_mem_nil, or_false] at ha ⊢
      rcases ha with rfl | rfl | rfl | rfl | rfl <;> simp
    have sub2 : ∀ a ∈ [pm, dt], a ∈ [y, pm, dt, pk, pr, pf, pp, pz, zr, zf, zp] := fun a ha => by
      simp only [List.mem_cons, List.not_mem_nil, or_false] at ha ⊢
      rcases ha with rfl | rfl <;> simp
    have sub8 : ∀ a ∈ [pz, zr, zf, zp, pm], a ∈ [y, pm, dt, pk, pr, pf, pp, pz, zr, zf, zp] := fun a ha => by
      simp only [List.mem_cons, List.not_mem_nil, or_false] at ha ⊢
      rcases ha with rfl | rfl | rfl | rfl | rfl <;> simp
    have O6 : ∀ {a : Addr} (i : Nat), [y, pm, dt, pk, pr, pf, pp, pz, zr, zf, zp][i]? = some a → i ∉ [3, 4, 5, 6, 1] → a ∉ [pk, pr, pf, pp, pm] := fun {a} i hi hn => idx_out nd hi [3, 4, 5, 6, 1] rfl hn
    have O2 : ∀ {a : Addr} (i : Nat), [y, pm, dt, pk, pr, pf, pp, pz, zr, zf, zp][i]? = some a → i ∉ [1, 2] → a ∉ [pm, dt] := fun {a} i hi hn => idx_out nd hi [1, 2] rfl hn
    have O8 : ∀ {a : Addr} (i : Nat), [y, pm, dt, pk, pr, pf, pp, pz, zr, zf, zp][i]? = some a → i ∉ [7, 8, 9, 10, 1] → a ∉ [pz, zr, zf, zp, pm] := fun {a} i hi hn => idx_out nd hi [7, 8, 9, 10, 1] rfl hn
    -- the walk, the wire, the tour changed from a heap on that keeps all of H
    have afterW : ∀ {Hc H' : Hp} {lm0 lw' : List Str} {sd' : Option (List Nat)} {lk' : Int} {st' : WkS} {ml' : Addr}, Frm [] H Hc → (ml' = ml ∨ H ml' = none) → WkAt H' pk pr pf pp st' → MdAt H' pm dt ml' W d.kvs lw' sd' lk' → lw'.length ≤ 41 → (st'.sd ≠ none → lw' = lm0 ∧ sd' = st'.sd) → Frm [pk, pr, pf, pp, pm] Hc H' →
        OAt H' y [y, pm, dt, pk, pr, pf, pp, pz, zr, zf, zp, ml', pl] W { d with wk := st', lm := lm0, lk := lk' } := fun {Hc H' lm0 lw' sd' lk' st' ml'} f0 hd wk ma hl on f => by
      have oc := oa.stay (f0.toT (K := K) .nil) .nil (fun _ _ => by simp) (by simp) (by simp)
      have nt6 := oc.nt.sub sub6
      have fT := f.toN (K := K) nt6
      exact ⟨pm, dt, ml', pk, pr, pf, pp, pz, zr, zf, zp, pl, lw', sd', rfl, f.k _ _ oc.ob rfl (O6 0 rfl (by decide)), ma, hl, on, wk, oc.tour.keepT fT nt6 (O6 7 rfl (by decide)) (O6 8 rfl (by decide)) (O6 9 rfl (by decide)) (O6 10 rfl (by decide)), f.k _ _ oc.ls rfl (fun z => oa.npl (sub6 _ z)), nd, ndlN hd, oa.npl⟩
    have afterM : ∀ {Hc H' : Hp} {kvs' : List (Str × Bool)} {lm0 lw' : List Str} {sd' : Option (List Nat)} {lk' : Int} {ml' : Addr}, Frm [] H Hc → (ml' = ml ∨ H ml' = none) → MdAt H' pm dt ml' W kvs' lw' sd' lk' → lw'.length ≤ 41 → (d.wk.sd ≠ none → lw' = lm0 ∧ sd' = d.wk.sd) → Frm [pm, dt] Hc H' →
        OAt H' y [y, pm, dt, pk, pr, pf, pp, pz, zr, zf, zp, ml', pl] W { d with kvs := kvs', lm := lm0, lk := lk' } := fun {Hc H' kvs' lm0 lw' sd' lk' ml'} f0 hd ma hl on f => by
      have oc := oa.stay (f0.toT (K := K) .nil) .nil (fun _ _ => by simp) (by simp) (by simp)
      have nt2 := oc.nt.sub sub2
      have fT := f.toN (K := K) nt2
      exact ⟨pm, dt, ml', pk, pr, pf, pp, pz, zr, zf, zp, pl, lw', sd', rfl, f.k _ _ oc.ob rfl (O2 0 rfl (by decide)), ma, hl, on, oc.wk.keepT fT nt2 (O2 3 rfl (by decide)) (O2 4 rfl (by decide)) (O2 5 rfl (by decide)) (O2 6 rfl (by decide)), oc.tour.keepT fT nt2 (O2 7 rfl (by decide)) (O2 8 rfl (by decide)) (O2 9 rfl (by decide)) (O2 10 rfl (by decide)), f.k _ _ oc.ls rfl (fun z => oa.npl (sub2 _ z)), nd, ndlN hd, oa.npl⟩
    -- a tuple told at last
    have tell : ∀ {Hc H3 : Hp} {T : List Addr} {t : Addr} {v : V} {ml' : Addr}, Frm [] H Hc → Frm T Hc H3 → (∀ a ∈ T, a ∈ [y, pm, dt, pk, pr, pf, pp, pz, zr, zf, zp, ml, pl]) → (ml' = ml ∨ H ml' = none) → H3 t = none → OAt H3 y [y, pm, dt, pk, pr, pf, pp, pz, zr, zf, zp, ml', pl] W (doF W d w x).2.2 → TVAt (upd H3 t (.tup [.str (doF W d w x).1, v])) ([y, pm, dt, pk, pr, pf, pp, pz, zr, zf, zp, ml', pl] ++ XX) (doF W d w x).2.1 v → Q (.ref t) (upd H3 t (.tup [.str (doF W d w x).1, v])) := fun {Hc H3 T t v ml'} f0 f sb hd ht o tv => by
      have g : Frm [] H3 (upd H3 t (.tup [.str (doF W d w x).1, v])) := Frm.of (same_upd ht)
      exact kQ t v _ _ (keepM hd) (f0.b _ (f.b _ ht)) upd_same (o.stay0 (K := K) (g.toT .nil)) tv (((f0.mono (by simp)).trans (f.mono sb)).trans (g.mono (by simp)))
    have tlT : ∀ {Hx : Hp} {t : Addr} {o : HO} {r : Tld} {v : V}, TldAt Hx r v → Hx t = none → TldAt (upd Hx t o) r v := fun {Hx t o r v} h ht => TldAt.keepT (K := K) h ((Frm.of (same_upd ht)).toT .nil) .nil
    have row0 : atI ((rowOf w x).map V.str) 0 = some (.str w) := by
      unfold rowOf
      split <;> exact atI_nat (j := 0) rfl
    refine ⟨_, rfl, y, _, rfl, oy_m oa.ob, _, rfl, y, _, rfl, oy_path oa.ob, ?_⟩
    refine ⟨_, _, rfl, _, rfl, p, _, 0, .str w, rfl, rfl, SqT.of hp, row0, ?_⟩
    refine ⟨_, rfl, rfl, _, rfl, ?_⟩
    rw [str_dec]
    by_cases c1 : w = "walk"
    · subst c1
      have eD : doF W d "walk" x = (("" : Str), TV.tl .no, ({ d with wk := newW x } : DyS)) := by unfold doF; rw [if_pos rfl]
      rw [eD] at kQ tell
      have er : rowOf "walk" x = [("walk" : Str), x] := by unfold rowOf; rw [if_neg (by decide +kernel)]
      rw [er] at hp
      rw [decide_eq_true rfl]
      refine ⟨_, rfl, p, _, 1, .str x, rfl, rfl, SqT.of hp, atI_nat (j := 1) rfl, x, rfl, fun qk ar af ap H1 hqk har haf hap wk1 f1 => ?_⟩
      have o1 := oa.stay (f1.toT (K := K) .nil) .nil (fun _ _ => by simp) (by simp) (by simp)
      refine ⟨_, rfl, y, _, rfl, oyp_path o1.ob, ?_⟩
      have g2 : Frm [y] H1 (upd H1 y (.dK (oyv pm qk pz pl))) := (Frm.refl _ _).put (by simp)
      have e2 : (upd H1 y (.dK (oyv pm qk pz pl))) y = some (.dK (oyv pm qk pz pl)) := upd_same
      have nty : NT [y] H1 := .cons o1.ob rfl .nil
      revert g2 e2
      generalize (upd H1 y (.dK (oyv pm qk pz pl))) = H2
      intro g2 e2
      refine ⟨by show 2 ≤ sizeLine; decide, fun t htt => ?_⟩
      have g2T := g2.toN (K := K) nty
      have O : ∀ {a : Addr} (i : Nat), [y, pm, dt, pk, pr, pf, pp, pz, zr, zf, zp][i]? = some a → i ≠ 0 → a ∉ [y] := fun {a} i hi hn => idx_out nd hi [0] rfl (by simpa using hn)
      have ny : ∀ {a : Addr}, H a = none → a ∉ [y] := fun {a} e z => inM e (by simp [List.mem_singleton.mp z])
      have nAC : ([y, pm, dt] ++ [pz, zr, zf, zp]).Nodup := nd.sublist (List.Sublist.append (List.Sublist.refl [y, pm, dt]) (List.sublist_append_right [pk, pr, pf, pp] [pz, zr, zf, zp]))
      obtain ⟨v1, v2, v3, ⟨ts, v4, _⟩, v5, v6, v7⟩ := id wk1
      have nB : ([qk, ar, af, ap] : List Addr).Nodup := by
        have a1 : qk ≠ ar := ne_of v1 v2 (by intro z; cases z)
        have a2 : qk ≠ af := ne_of v1 v3 (by intro z; cases z)
        have a3 : qk ≠ ap := ne_of v1 v4 (by intro z; cases z)
        simp [a1, a2, a3, v5, v6, v7]
      have nM : ([y, pm, dt] ++ ([qk, ar, af, ap] ++ [pz, zr, zf, zp])).Nodup := by
        have z := nod_app nAC nB (H := H) (fun a ha e => inM e (by
          simp only [List.mem_append, List.mem_cons, List.not_mem_nil, or_false] at ha ⊢
          rcases ha with (ha | ha | ha) | (ha | ha | ha | ha) <;> simp [ha])) (fun a ha => by
          simp only [List.mem_cons, List.not_mem_nil, or_false] at ha
          rcases ha with rfl | rfl | rfl | rfl
          · exact hqk
          · exact har
          · exact haf
          · exact hap)
        rw [List.append_assoc] at z
        exact (List.Perm.append_left _ List.perm_append_comm).nodup_iff.mp z
      have mlN : ∀ {b : Addr}, H b = none → ml ≠ b := fun e z => by have q := oa.ma.li; rw [z, e] at q; cases q
      have plN : ∀ {b : Addr}, H b = none → pl ≠ b := fun e z => by have q := oa.ls; rw [z, e] at q; cases q
      have mly : ml ∉ [y] := fun z => by have q := oa.ma.li; rw [List.mem_singleton.mp z, oa.ob] at q; cases q
      have o2 : OAt H2 y [y, pm, dt, qk, ar, af, ap, pz, zr, zf, zp, ml, pl] W { d with wk := newW x } := ⟨pm, dt, ml, qk, ar, af, ap, pz, zr, zf, zp, pl, lw, sdm, rfl, e2, o1.ma.keep g2T (O 1 rfl (by decide)) (O 2 rfl (by decide)) mly, l41, fun z => absurd rfl z, wk1.keepT g2T nty (ny hqk) (ny har) (ny haf) (ny hap), o1.tour.keepT g2T nty (O 7 rfl (by decide)) (O 8 rfl (by decide)) (O 9 rfl (by decide)) (O 10 rfl (by decide)), g2.k _ _ o1.ls rfl (fun z => oa.npl (by simp [List.mem_singleton.mp z])), nM, by
        intro z
        simp only [List.mem_cons, List.not_mem_nil, or_false] at z
        rcases z with z | z | z | z | z | z
        · exact mlN har z
        · exact mlN haf z
        · exact mlN hap z
        · exact nmz.1 z
        · exact nmz.2.1 z
        · exact nmz.2.2 z, by
        intro z
        simp only [List.mem_cons, List.not_mem_nil, or_false] at z
        rcases z with z | z | z | z | z | z | z | z | z | z | z
        · exact oa.npl (by simp [z])
        · exact oa.npl (by simp [z])
        · exact oa.npl (by simp [z])
        · exact plN hqk z
        · exact plN har z
        · exact plN haf z
        · exact plN hap z
        all_goals exact oa.npl (by simp [z])⟩
      have g3 : Frm [] H2 (upd H2 t (.tup [.str "", .non])) := Frm.of (same_upd htt)
      exact kQ t .non _ _ (fun a ha => by
        simp only [List.mem_cons, List.not_mem_nil, or_false] at ha
        rcases ha with rfl | rfl | rfl | rfl | rfl | rfl | rfl | ha
        · exact .inl (by simp)
        · exact .inl (by simp)
        · exact .inl (by simp)
        · exact .inr hqk
        · exact .inr har
        · exact .inr haf
        · exact .inr hap
        · refine .inl ?_
          rcases ha with rfl | rfl | rfl | rfl | rfl | rfl <;> simp) (f1.b _ (g2.b _ htt)) upd_same (o2.stay0 (K := K) (g3.toT .nil)) rfl (((f1.mono (by simp)).trans (g2.mono (by simp))).trans (g3.mono (by simp)))
    rw [decide_eq_false c1]
    refine ⟨_, rfl, by show 2 ≤ sizeLine; decide, fun tp htp => ⟨tp, _, rfl, .inr (SqT.of upd_same), rfl, rfl, _, rfl, ?_⟩⟩
    have f1 : Frm [] H (upd H tp (.tup [.str "step", .str "round"])) := Frm.of (same_upd htp)
    revert f1
    generalize (upd H tp (.tup [.str "step", .str "round"])) = H1
    intro f1
    have i2 : ∀ {a b : Str}, inV (.str w) [.str a, .str b] = decide (w ∈ [a, b]) := fun {a b} => inV_strs w [a, b]
    rw [i2]
    have o1 := oa.stay (f1.toT (K := K) .nil) .nil (fun _ _ => by simp) (by simp) (by simp)
    by_cases c2 : w ∈ [("step" : Str), "round"]
    · rw [decide_eq_true c2]
      have ef : stepF W d.kvs lw d.lk d.wk = stepF W d.kvs d.lm d.lk d.wk := by
        by_cases e : d.wk.sd = none
        · rw [step_lmN e (lm := lw), ← step_lmN e (lm := d.lm)]
        · rw [(oa.on e).1]
      have er : roundF W d.kvs W lw d.lk d.wk = roundF W d.kvs W d.lm d.lk d.wk := by
        by_cases e : d.wk.sd = none
        · rw [round_lm e, ← round_lm e (lm := d.lm)]
        · rw [(oa.on e).1]
      have sayd : ∀ l, d.wk.sd = some l → sdm = some l ∧ l.length < W ∧ Bits l ∧ ∀ z ∈ lw, Beg W l z := fun l e => by
        obtain ⟨q1, q2⟩ := oa.on (by rw [e]; exact nofun)
        rw [q1, q2]
        obtain ⟨a1, a2⟩ := inv.wk.said l e
        exact ⟨e, a2⟩
      have eS : w = "step" → ¬ Done d.wk → doF W d w x = (("" : Str), TV.tl (stepF W d.kvs d.lm d.lk d.wk).1.2, ({ d with wk := (stepF W d.kvs d.lm d.lk d.wk).1.1, lm := (stepF W d.kvs d.lm d.lk d.wk).2.1, lk := (stepF W d.kvs d.lm d.lk d.wk).2.2.2 } : DyS)) := fun e n => by
        unfold doF
        rw [if_neg c1, if_pos e, if_neg n]
      have eR : w = "round" → ¬ Done d.wk → doF W d w x = (("" : Str), TV.tl (roundF W d.kvs W d.lm d.lk d.wk).1.2, ({ d with wk := (roundF W d.kvs W d.lm d.lk d.wk).1.1, lm := (roundF W d.kvs W d.lm d.lk d.wk).2.1, lk := (roundF W d.kvs W d.lm d.lk d.wk).2.2.2 } : DyS)) := fun e n => by
        subst e
        unfold doF
        rw [if_neg c1, if_neg (by decide +kernel), if_pos rfl, if_neg n]
      have eO : Done d.wk → doF W d w x = (("over" : Str), TV.tl .no, d) := fun c => by
        simp only [List.mem_cons, List.not_mem_nil, or_false] at c2
        unfold doF
        rcases c2 with e | e
        · rw [if_neg c1, if_pos e, if_pos c]
        · subst e
          rw [if_neg c1, if_neg (by decide +kernel), if_pos rfl, if_pos c]
      refine ⟨_, rfl, pk, _, rfl, wk_said o1.wk.ob, rfl, _, rfl, ?_⟩
      rw [sdn]
      cases hsd : d.wk.sd with
      | some l =>
        have ndn : ¬ Done d.wk := fun z => by rw [z.1] at hsd; cases hsd
        have hne : d.wk.sd = none → d.wk.rest ≠ [] := fun e => by rw [e] at hsd; cases hsd
        refine ⟨_, rfl, rfl, _, rfl, ?_⟩
        rw [str_dec]
        by_cases c3 : w = "step"
        · rw [decide_eq_true c3]
          refine ⟨_, rfl, _, rfl, pk, pr, pf, pp, pm, dt, ml, W, d.kvs, lw, sdm, d.lk, d.wk, rfl, o1.wk, o1.ma, npd, nkm, nkd, nml, inv.nd, by omega, num, by omega, w2, by omega, by omega, by omega, fun z => inv.wk.none_ (hne z), sayd, fun v ml' H3 hml wk3 tl3 ma3 f3 => ?_⟩
          rw [ef] at wk3 tl3 ma3
          have eD := eS c3 ndn
          rw [eD] at tell
          refine ⟨by show 2 ≤ sizeLine; decide, fun t htt => ?_⟩
          have ok := step_ok (lk := d.lk) inv.wk hne (by omega) num
          exact tell f1 f3 (up13 sub6) (hml.imp_right (f1.b _)) htt (afterW f1 (hml.imp_right (f1.b _)) wk3 ma3 (step_len inv.lm kl) (fun z => ⟨rfl, by
            cases q : (stepF W d.kvs d.lm d.lk d.wk).1.1.sd with
            | none => exact absurd q z
            | some l => exact (ok.said l q).1⟩) f3) (tlT tl3 htt)
        · rw [decide_eq_false c3]
          have c4 : w = "round" := by
            simp only [List.mem_cons, List.not_mem_nil, or_false] at c2
            exact c2.resolve_left c3
          have ok0 : WkOk W lw sdm d.wk b := by
            by_cases e : d.wk.sd = none
            · exact inv.wk.idle e (by omega)
            · obtain ⟨q1, q2⟩ := oa.on e
              rw [q1, q2]
              exact inv.wk
          refine ⟨_, rfl, _, rfl, pk, pr, pf, pp, pm, dt, ml, W, b, d.kvs, lw, sdm, d.lk, d.wk, rfl, o1.wk, o1.ma, npd, nkm, nkd, nml, inv.nd, by omega, num, w2, ok0, by omega, hne, fun v ml' H3 hml wk3 tl3 ma3 f3 => ?_⟩
          rw [er] at wk3 tl3 ma3
          have eD := eR c4 ndn
          rw [eD] at tell
          refine ⟨by show 2 ≤ sizeLine; decide, fun t htt => ?_⟩
          have ok := round_okW (n := W) (lk := d.lk) (by omega) num inv.wk hne
          exact tell f1 f3 (up13 sub6) (hml.imp_right (f1.b _)) htt (afterW f1 (hml.imp_right (f1.b _)) wk3 ma3 (round_len kl inv.lm) (fun z => ⟨rfl, by
            cases q : (roundF W d.kvs W d.lm d.lk d.wk).1.1.sd with
            | none => exact absurd q z
            | some l => exact (ok.said l q).1⟩) f3) (tlT tl3 htt)
      | none =>
        refine ⟨_, rfl, pk, _, rfl, wk_rest o1.wk.ob, Nat.zero_le _, fun E1 hE1 => ?_⟩
        have okb : ∀ z ∈ d.wk.rest.map S, PyData.strOk z = true := fun z hz => by
          obtain ⟨g, hg, rfl⟩ := List.mem_map.mp hz
          exact strOk_bits (inv.wk.rest g hg).2
        have g2 : Frm [] H1 (upd H1 E1 (.lst [])) := Frm.of (same_upd hE1)
        refine ⟨_, _, .lst (SqL.of (same_upd hE1 _ _ (by rw [← txs]; exact o1.wk.rs))) (dp_strs (d.wk.rest.map S)), .lst (SqL.of upd_same) .nil, shaped_strs okb, by decide +kernel, _, rfl, ?_⟩
        rw [eqv_txs]
        have f2 := f1.trans g2
        revert f2
        generalize (upd H1 E1 (.lst [])) = H2
        intro f2
        have o2 := oa.stay (f2.toT (K := K) .nil) .nil (fun _ _ => by simp) (by simp) (by simp)
        cases hrs : d.wk.rest with
        | nil =>
          have eD := eO ⟨hsd, hrs⟩
          rw [eD] at kQ
          refine ⟨by show 2 ≤ sizeLine; decide, fun t htt => ?_⟩
          have g3 : Frm [] H2 (upd H2 t (.tup [.str "over", .non])) := Frm.of (same_upd htt)
          exact kQ t .non _ _ (keepM (.inl rfl)) (f2.b _ htt) upd_same (show OAt _ y _ W d from ⟨pm, dt, ml, pk, pr, pf, pp, pz, zr, zf, zp, pl, lw, sdm, rfl, o2.stay (g3.toT (K := K) .nil) .nil (fun _ _ => by simp) (by simp) (by simp)⟩) rfl ((f2.trans g3).mono (by simp))
        | cons g r =>
          have ndn : ¬ Done d.wk := fun z => by rw [z.2] at hrs; cases hrs
          have hne : d.wk.sd = none → d.wk.rest ≠ [] := fun _ e => by rw [e] at hrs; cases hrs
          refine ⟨_, rfl, rfl, _, rfl, ?_⟩
          rw [str_dec]
          by_cases c3 : w = "step"
          · rw [decide_eq_true c3]
            refine ⟨_, rfl, _, rfl, pk, pr, pf, pp, pm, dt, ml, W, d.kvs, lw, sdm, d.lk, d.wk, rfl, o2.wk, o2.ma, npd, nkm, nkd, nml, inv.nd, by omega, num, by omega, w2, by omega, by omega, by omega, fun z => inv.wk.none_ (hne z), sayd, fun v ml' H3 hml wk3 tl3 ma3 f3 => ?_⟩
            rw [ef] at wk3 tl3 ma3
            have eD := eS c3 ndn
            rw [eD] at tell
            refine ⟨by show 2 ≤ sizeLine; decide, fun t htt => ?_⟩
            have ok := step_ok (lk := d.lk) inv.wk hne (by omega) num
            exact tell f2 f3 (up13 sub6) (hml.imp_right (f2.b _)) htt (afterW f2 (hml.imp_right (f2.b _)) wk3 ma3 (step_len inv.lm kl) (fun z => ⟨rfl, by
              cases q : (stepF W d.kvs d.lm d.lk d.wk).1.1.sd with
              | none => exact absurd q z
              | some l => exact (ok.said l q).1⟩) f3) (tlT tl3 htt)
          · rw [decide_eq_false c3]
            have c4 : w = "round" := by
              simp only [List.mem_cons, List.not_mem_nil, or_false] at c2
              exact c2.resolve_left c3
            have ok0 : WkOk W lw sdm d.wk b := by
              by_cases e : d.wk.sd = none
              · exact inv.wk.idle e (by omega)
              · obtain ⟨q1, q2⟩ := oa.on e
                rw [q1, q2]
                exact inv.wk
            refine ⟨_, rfl, _, rfl, pk, pr, pf, pp, pm, dt, ml, W, b, d.kvs, lw, sdm, d.lk, d.wk, rfl, o2.wk, o2.ma, npd, nkm, nkd, nml, inv.nd, by omega, num, w2, ok0, by omega, hne, fun v ml' H3 hml wk3 tl3 ma3 f3 => ?_⟩
            rw [er] at wk3 tl3 ma3
            have eD := eR c4 ndn
            rw [eD] at tell
            refine ⟨by show 2 ≤ sizeLine; decide, fun t htt => ?_⟩
            have ok := round_okW (n := W) (lk := d.lk) (by omega) num inv.wk hne
            exact tell f2 f3 (up13 sub6) (hml.imp_right (f2.b _)) htt (afterW f2 (hml.imp_right (f2.b _)) wk3 ma3 (round_len kl inv.lm) (fun z => ⟨rfl, by
              cases q : (roundF W d.kvs W d.lm d.lk d.wk).1.1.sd with
              | none => exact absurd q z
              | some l => exact (ok.said l q).1⟩) f3) (tlT tl3 htt)
    rw [decide_eq_false c2]
    have n2 : ¬ w = "step" ∧ ¬ w = "round" := by
      simp only [List.mem_cons, List.not_mem_nil, or_false, not_or] at c2
      exact c2
    refine ⟨_, rfl, by show 2 ≤ sizeLine; decide, fun tq htq => ⟨tq, _, rfl, .inr (SqT.of upd_same), rfl, rfl, _, rfl, ?_⟩⟩
    have f2 : Frm [] H (upd H1 tq (.tup [.str "turn", .str "refresh"])) := f1.trans (Frm.of (same_upd htq))
    revert f2
    generalize (upd H1 tq (.tup [.str "turn", .str "refresh"])) = H2
    intro f2
    rw [i2]
    have o2 := oa.stay (f2.toT (K := K) .nil) .nil (fun _ _ => by simp) (by simp) (by simp)
    by_cases c3 : w ∈ [("turn" : Str), "refresh"]
    · rw [decide_eq_true c3]
      refine ⟨_, rfl, pk, _, rfl, wk_said o2.wk.ob, rfl, _, rfl, ?_⟩
      rw [sdn]
      cases hsd : d.wk.sd with
      | some l =>
        have eD : doF W d w x = (("busy" : Str), TV.tl .no, d) := by
          have ne : ¬ d.wk.sd = none := by rw [hsd]; exact nofun
          simp only [List.mem_cons, List.not_mem_nil, or_false] at c3
          unfold doF
          rw [if_neg c1, if_neg n2.1, if_neg n2.2]
          rcases c3 with e | e
          · rw [if_pos e, if_neg ne]
          · subst e
            rw [if_neg (by decide +kernel), if_pos rfl, if_neg ne]
        rw [eD] at kQ
        refine ⟨by show 2 ≤ sizeLine; decide, fun t htt => ?_⟩
        have g3 : Frm [] H2 (upd H2 t (.tup [.str "busy", .non])) := Frm.of (same_upd htt)
        exact kQ t .non _ _ (keepM (.inl rfl)) (f2.b _ htt) upd_same (show OAt _ y _ W d from ⟨pm, dt, ml, pk, pr, pf, pp, pz, zr, zf, zp, pl, lw, sdm, rfl, o2.stay (g3.toT (K := K) .nil) .nil (fun _ _ => by simp) (by simp) (by simp)⟩) rfl ((f2.trans g3).mono (by simp))
      | none =>
        refine ⟨_, rfl, rfl, _, rfl, ?_⟩
        rw [str_dec]
        by_cases c4 : w = "turn"
        · rw [decide_eq_true c4]
          have eD : doF W d w x = turnF W d := by
            unfold doF
            rw [if_neg c1, if_neg n2.1, if_neg n2.2, if_pos c4, if_pos hsd]
          refine ⟨_, rfl, _, rfl, y, _, rfl, oy_tour o2.ob, pz, zr, zf, zp, pm, dt, ml, W, d.kvs, lw, sdm, d.lk, d.tour, b, srt (lisB d.kvs false), rfl, o2.tour, o2.ma, npd, nzm, nzd, nmz, inv.nd, kl, num, w2, inv.tour, by omega, inv.tsd, by omega, srt_perm _, srt_srt _, fun z r es t1 H3 ht1 et ma3 f3 => ?_, fun es er2 t1 H3 ht1 et ma3 f3 => ?_, fun es er2 R v ml' H3 eR hml wk3 tl3 ma3 f3 => ?_⟩
          · have eT : doF W d w x = (("" : Str), TV.alarm z, ({ d with kvs := putB d.kvs z false, lk := d.lk + W } : DyS)) := by rw [eD]; unfold turnF; rw [es]
            rw [eT] at tell
            refine ⟨by show 2 ≤ sizeLine; decide, fun t htt => ?_⟩
            exact tell f2 f3 (up13 sub2) (.inl rfl) htt (afterM f2 (.inl rfl) ma3 l41 (fun z => absurd hsd z) f3) ⟨t1, rfl, same_upd htt _ _ et⟩
          · have eT : doF W d w x = (("" : Str), TV.done, ({ d with lk := d.lk + 1 } : DyS)) := by rw [eD]; unfold turnF; rw [es]; exact if_pos er2
            rw [eT] at tell
            refine ⟨by show 2 ≤ sizeLine; decide, fun t htt => ?_⟩
            have f3' : Frm [pm, dt] H2 H3 := f3.mono (by simp)
            exact tell f2 f3' (up13 sub2) (.inl rfl) htt (afterM f2 (.inl rfl) ma3 l41 (fun z => absurd hsd z) f3') ⟨t1, rfl, same_upd htt _ _ et⟩
          · have eT : doF W d w x = (("" : Str), TV.tl R.1.2, ({ d with tour := R.1.1, lk := R.2.2.2 } : DyS)) := by rw [eD]; unfold turnF; rw [es, eR]; exact if_neg er2
            rw [eT] at tell
            refine ⟨by show 2 ≤ sizeLine; decide, fun t htt => ?_⟩
            have nt8 := o2.nt.sub sub8
            have fT := f3.toN (K := K) nt8
            have hml0 : ml' = ml ∨ H ml' = none := hml.imp_right (f2.b _)
            have len := round_len (W := W) (m := 41) kl (n := W) (lm := []) (lk := d.lk + 1) (st := d.tour) (Nat.zero_le _)
            rw [← eR] at len
            exact tell f2 f3 (up13 sub8) hml0 htt ⟨pm, dt, ml', pk, pr, pf, pp, pz, zr, zf, zp, pl, R.2.1, R.2.2.1, rfl, f3.k _ _ o2.ob rfl (O8 0 rfl (by decide)), ma3, len, fun z => absurd hsd z, o2.wk.keepT fT nt8 (O8 3 rfl (by decide)) (O8 4 rfl (by decide)) (O8 5 rfl (by decide)) (O8 6 rfl (by decide)), wk3, f3.k _ _ o2.ls rfl (fun z => oa.npl (sub8 _ z)), nd, ndlN hml0, oa.npl⟩ (tlT tl3 htt)
        · rw [decide_eq_false c4]
          have c5 : w = "refresh" := by
            simp only [List.mem_cons, List.not_mem_nil, or_false] at c3
            exact c3.resolve_left c4
          have eD : doF W d w x = refF W d := by
            unfold doF
            rw [if_neg c1, if_neg n2.1, if_neg n2.2, if_neg c4, if_pos c5, if_pos hsd]
          refine ⟨"all", rfl, fun qk ar af ap H3 hqk har haf hap wk3 f3 => ?_⟩
          have ma3 := o2.ma.stay (f3.toT .nil (K := K)) .nil (by simp) (by simp)
          have mz : 1 + meas W ⟨"all", [[]], none, [], []⟩ ≤ 20000 := (inv_new (kd := "all") pool.ne w2 pool.len).1.mz
          have ok3 : WkOk W lw sdm ⟨"all", [[]], none, [], []⟩ 1 := (wkok_new (kd := "all") l41 (Nat.le_refl 1)).idle rfl (by omega)
          have mlN : ∀ {a : Addr}, H2 a = none → ml ≠ a := fun e z => by have q := o2.ma.li; rw [z, e] at q; cases q
          refine ⟨_, rfl, qk, ar, af, ap, pm, dt, ml, W, 1, d.kvs, lw, sdm, d.lk, _, rfl, wk3, ma3, npd, (ne_of_none o2.ma.ob hqk).symm, (ne_of_none o2.ma.dc hqk).symm, ⟨mlN har, mlN haf, mlN hap⟩, inv.nd, by omega, num, w2, ok3, by omega, fun q ml' H4 R eR rs1 rs2 hml hq nql eq4 ma4 f4 => ?_⟩
          have dnum : ∀ z ∈ srt (d.kvs.map (·.1)), Num W z := fun z hz => num z ((srt_perm _).mem_iff.mp hz)
          obtain ⟨a1, a2, m, a3, a4⟩ := all_new w1 w2 pool.ne pool.len dnum (srt_srt _) ((srt_perm _).nodup_iff.mpr inv.nd) kl inv.sub pool.num (fun z => by rw [decide_eq_true rfl, lisB_all]; exact (srt_perm _).mem_iff.symm) eR rs1 rs2
          rw [txs, a1] at eq4
          rw [a3, metN_of a4] at ma4
          have eT : doF W d w x = (("" : Str), TV.went ((srt (d.kvs.map (·.1))).filter fun z => !decide (z ∈ d.kept)) (d.kept.filter fun z => !decide (z ∈ srt (d.kvs.map (·.1)))), ({ d with kept := srt (d.kvs.map (·.1)), lk := d.lk + metN W (srt (d.kvs.map (·.1))) } : DyS)) := eD
          have dl : (srt (d.kvs.map (·.1))).length ≤ 41 := by
            rw [(srt_perm _).length_eq, List.length_map]
            exact kl
          generalize srt (d.kvs.map (·.1)) = due at eT a1 eq4 ma4 dl
          have kpl := inv.kept
          have f24 : Frm [pm] H2 H4 := Frm.drop ((f3.mono (by simp)).trans f4) fun a ha => by
            simp only [List.mem_cons, List.not_mem_nil, or_false] at ha
            rcases ha with rfl | rfl | rfl | rfl | rfl
            · exact .inr hqk
            · exact .inr har
            · exact .inr haf
            · exact .inr hap
            · exact .inl (by simp)
          have ntm : NT [pm] H2 := o2.nt.sub fun a ha => by simp [List.mem_singleton.mp ha]
          have f24T := f24.toN (K := K) ntm
          have Om : ∀ {a : Addr} (i : Nat), [y, pm, dt, pk, pr, pf, pp, pz, zr, zf, zp][i]? = some a → i ≠ 1 → a ∉ [pm] := fun {a} i hi hn => idx_out nd hi [1] rfl (by simpa using hn)
          have ob4 := f24.k _ _ o2.ob rfl (Om 0 rfl (by decide))
          have ls4 := f24.k _ _ o2.ls rfl (fun z => oa.npl (by simp [List.mem_singleton.mp z]))
          have wk4 := o2.wk.keepT f24T ntm (Om 3 rfl (by decide)) (Om 4 rfl (by decide)) (Om 5 rfl (by decide)) (Om 6 rfl (by decide))
          have tr4 := o2.tour.keepT f24T ntm (Om 7 rfl (by decide)) (Om 8 rfl (by decide)) (Om 9 rfl (by decide)) (Om 10 rfl (by decide))
          have hq0 : H q = none := f2.b _ (f3.b _ hq)
          have hml0 : ml' = ml ∨ H ml' = none := hml.imp_right fun z => f2.b _ (f3.b _ z)
          refine ⟨_, rfl, y, _, rfl, oy_kept ob4, _, rfl, _, rfl, y, _, rfl, oyp_kept ob4, ?_⟩
          have nty : NT [y] H4 := .cons ob4 rfl .nil
          have g5 : Frm [y] H4 (upd H4 y (.dK (oyv pm pk pz q))) := (Frm.refl _ _).put (by simp)
          have e5 : (upd H4 y (.dK (oyv pm pk pz q))) y = some (.dK (oyv pm pk pz q)) := upd_same
          revert g5 e5
          generalize (upd H4 y (.dK (oyv pm pk pz q))) = H5
          intro g5 e5
          have g5T := g5.toN (K := K) nty
          have Oy : ∀ {a : Addr} (i : Nat), [y, pm, dt, pk, pr, pf, pp, pz, zr, zf, zp][i]? = some a → i ≠ 0 → a ∉ [y] := fun {a} i hi hn => idx_out nd hi [0] rfl (by simpa using hn)
          have eq5 := g5.k _ _ eq4 rfl (fun z => by rw [List.mem_singleton.mp z, ob4] at eq4; cases eq4)
          have ls5 := g5.k _ _ ls4 rfl (fun z => oa.npl (by simp [List.mem_singleton.mp z]))
          have o5 : OAt H5 y [y, pm, dt, pk, pr, pf, pp, pz, zr, zf, zp, ml', q] W { d with kept := due, lk := d.lk + metN W due } := ⟨pm, dt, ml', pk, pr, pf, pp, pz, zr, zf, zp, q, R.2.1, R.2.2.1, rfl, e5, ma4.keep g5T (Oy 1 rfl (by decide)) (Oy 2 rfl (by decide)) (fun z => by have r := ma4.li; rw [List.mem_singleton.mp z, ob4] at r; cases r), a2, fun z => absurd hsd z, wk4.keepT g5T nty (Oy 3 rfl (by decide)) (Oy 4 rfl (by decide)) (Oy 5 rfl (by decide)) (Oy 6 rfl (by decide)), tr4.keepT g5T nty (Oy 7 rfl (by decide)) (Oy 8 rfl (by decide)) (Oy 9 rfl (by decide)) (Oy 10 rfl (by decide)), eq5, nd, ndlN hml0, inM hq0⟩
          have li5 : H5 ml' = some (.lst (R.2.1.map V.str)) := g5.k _ _ ma4.li rfl (fun z => by have r := ma4.li; rw [List.mem_singleton.mp z, ob4] at r; cases r)
          refine ⟨_, rfl, q, rfl, ⟨_, SqL.of eq5⟩, fun c hc => ?_⟩
          have n1c : q ≠ c := ne_of_none eq5 hc
          have n2c : pl ≠ c := ne_of_none ls5 hc
          refine lc_list (K := K) (a := q) (xs := due.map V.str) (fun i H' => H' = upd H5 c (.lst (((due.take i).filter (fun z => !decide (z ∈ d.kept))).map V.str))) rfl (fun i H' _ e => by rw [e]; exact SqL.of (by rw [upd_ne n1c]; exact eq5)) ?_ ?_
          · rintro i v H' hi e
            subst e
            obtain ⟨z, hz, rfl⟩ := at_map hi
            refine ⟨rfl, _, rfl, _, rfl, pl, _, rfl, .inl (SqL.of (by rw [upd_ne n2c]; exact ls5)), rfl, flat_strs d.kept, _, rfl, ?_⟩
            show if (if true = true then !inV (V.str z) (d.kept.map V.str) else _) = true then _ else _
            rw [if_pos rfl, inV_strs]
            refine iteB (fun cb => ?_) (fun cb => ?_)
            · refine ⟨_, rfl, _, upd_same, ?_, ?_⟩
              · rw [List.length_map]
                have := List.length_filter_le (fun z => !decide (z ∈ d.kept)) (due.take i)
                rw [List.length_take] at this
                exact small1000 (by omega)
              · rw [upd_upd, filter_step _ hz, if_pos cb, List.map_append]
                rfl
            · show _ = _
              rw [filter_step _ hz, if_neg (by rw [cb]; exact Bool.false_ne_true), List.append_nil]
          rintro H6 ec
          rw [List.length_map, List.take_length] at ec
          have fc : Frm [] H5 H6 := by
            rw [ec]
            exact Frm.of (same_upd hc)
          have lc : H6 c = some (.lst ((due.filter fun z => !decide (z ∈ d.kept)).map V.str)) := by
            rw [ec]
            exact upd_same
          clear ec
          have eq6 := fc.k _ _ eq5 rfl (by simp)
          have ls6 := fc.k _ _ ls5 rfl (by simp)
          refine ⟨_, rfl, pl, rfl, ⟨_, SqL.of ls6⟩, fun z0 hz0 => ?_⟩
          have n1z0 : pl ≠ z0 := ne_of_none ls6 hz0
          have n2z0 : q ≠ z0 := ne_of_none eq6 hz0
          refine lc_list (K := K) (a := pl) (xs := d.kept.map V.str) (fun i H' => H' = upd H6 z0 (.lst (((d.kept.take i).filter (fun z => !decide (z ∈ due))).map V.str))) rfl (fun i H' _ e => by rw [e]; exact SqL.of (by rw [upd_ne n1z0]; exact ls6)) ?_ ?_
          · rintro i v H' hi e
            subst e
            obtain ⟨z, hz, rfl⟩ := at_map hi
            refine ⟨rfl, _, rfl, _, rfl, q, _, rfl, .inl (SqL.of (by rw [upd_ne n2z0]; exact eq6)), rfl, flat_strs due, _, rfl, ?_⟩
            show if (if true = true then !inV (V.str z) (due.map V.str) else _) = true then _ else _
            rw [if_pos rfl, inV_strs]
            refine iteB (fun cb => ?_) (fun cb => ?_)
            · refine ⟨_, rfl, _, upd_same, ?_, ?_⟩
              · rw [List.length_map]
                have := List.length_filter_le (fun z => !decide (z ∈ due)) (d.kept.take i)
                rw [List.length_take] at this
                exact small1000 (by omega)
              · rw [upd_upd, filter_step _ hz, if_pos cb, List.map_append]
                rfl
            · show _ = _
              rw [filter_step _ hz, if_neg (by rw [cb]; exact Bool.false_ne_true), List.append_nil]
          rintro H7 ez0
          rw [List.length_map, List.take_length] at ez0
          have fz0 : Frm [] H6 H7 := by
            rw [ez0]
            exact Frm.of (same_upd hz0)
          have lz0 : H7 z0 = some (.lst ((d.kept.filter fun z => !decide (z ∈ due)).map V.str)) := by
            rw [ez0]
            exact upd_same
          clear ez0
          have lc7 := fz0.k _ _ lc rfl (by simp)
          refine ⟨by show 2 ≤ sizeLine; decide, fun t1 ht1 => ?_⟩
          have g8 : Frm [] H7 (upd H7 t1 (.tup [.ref c, .ref z0])) := Frm.of (same_upd ht1)
          have e8 : (upd H7 t1 (.tup [.ref c, .ref z0])) t1 = some (.tup [.ref c, .ref z0]) := upd_same
          revert g8 e8
          generalize (upd H7 t1 (.tup [.ref c, .ref z0])) = H8
          intro g8 e8
          refine ⟨by show 2 ≤ sizeLine; decide, fun t htt => ?_⟩
          rw [eT] at kQ
          have g9 : Frm [] H8 (upd H8 t (.tup [.str "", .ref t1])) := Frm.of (same_upd htt)
          have f59 : Frm [] H5 (upd H8 t (.tup [.str "", .ref t1])) := (fc.trans fz0).trans (g8.trans g9)
          have b5 : ∀ {a : Addr}, H5 a = none → H a = none := fun z => f2.b _ (f24.b _ (g5.b _ z))
          have hc0 := b5 hc
          have hz0' := b5 (fc.b _ hz0)
          have nin : ∀ {a : Addr}, H a = none → a ≠ ml' → a ≠ q → a ∉ [y, pm, dt, pk, pr, pf, pp, pz, zr, zf, zp, ml', q] ++ XX := fun {a} e1 e2 e3 z => by
            rcases List.mem_append.mp z with z | z
            case inr => exact hX a z e1
            rcases List.mem_append.mp (show a ∈ [y, pm, dt, pk, pr, pf, pp, pz, zr, zf, zp] ++ [ml', q] from z) with z | z
            · exact inM e1 z
            · simp only [List.mem_cons, List.not_mem_nil, or_false] at z
              exact z.elim e2 e3
          exact kQ t (.ref t1) _ _ (fun a ha => by
            rcases List.mem_append.mp (show a ∈ [y, pm, dt, pk, pr, pf, pp, pz, zr, zf, zp] ++ [ml', q] from ha) with z | z
            · exact .inl (List.mem_append_left [ml, pl] z)
            · simp only [List.mem_cons, List.not_mem_nil, or_false] at z
              rcases z with rfl | rfl
              · exact hml0.imp_left fun e => by rw [e]; simp
              · exact .inr hq0) (b5 (fc.b _ (fz0.b _ (g8.b _ htt)))) upd_same (o5.stay0 (K := K) (f59.toT .nil)) ⟨t1, c, z0, rfl, g9.k _ _ e8 rfl (by simp), (g8.trans g9).k _ _ lc7 rfl (by simp), (g8.trans g9).k _ _ lz0 rfl (by simp), nin hc0 (fun e => by rw [e, li5] at hc; cases hc) (fun e => n1c e.symm), nin hz0' (fun e => by rw [e, fc.k _ _ li5 rfl (by simp)] at hz0; cases hz0) (fun e => n2z0 e.symm)⟩ ((((f2.mono (by simp)).trans (f24.mono (by simp))).trans (g5.mono (by simp))).trans (f59.mono (by simp)))
    rw [decide_eq_false c3]
    have n3 : ¬ w = "turn" ∧ ¬ w = "refresh" := by
      simp only [List.mem_cons, List.not_mem_nil, or_false, not_or] at c3
      exact c3
    have lg : w ∈ thingV ∧ x.length ≤ 12 ∧ (x.length = W → x ∈ names) := by
      rcases leg with z | z | z
      · exact absurd z.1 c1
      · simp only [aloneV, List.mem_cons, List.not_mem_nil, or_false] at z
        rcases z with z | z | z | z
        · exact absurd z n2.1
        · exact absurd z n2.2
        · exact absurd z n3.1
        · exact absurd z n3.2
      · exact z
    have eD : doF W d w x = (if x.length ≠ W then (("number" : Str), TV.tl .no, d) else if deedW d.kvs w x = "" then ("", TV.tl .no, ({ d with kvs := deedK d.kvs w x, lm := deedL d.kvs d.lm w x } : DyS)) else (deedW d.kvs w x, TV.tl .no, d)) := by
      unfold doF
      rw [if_neg c1, if_neg n2.1, if_neg n2.2, if_neg n3.1, if_neg n3.2]
    have er : rowOf w x = [w, x] := by
      unfold rowOf
      refine if_neg fun z => ?_
      simp only [aloneV, List.mem_cons, List.not_mem_nil, or_false] at z
      rcases z with z | z | z | z
      · exact absurd z n2.1
      · exact absurd z n2.2
      · exact absurd z n3.1
      · exact absurd z n3.2
    rw [er] at hp
    have hp2 := f2.k _ _ hp rfl (by simp)
    refine ⟨_, rfl, p, _, 1, .str x, rfl, rfl, SqT.of hp2, atI_nat (j := 1) rfl, x, rfl, szL (by omega), _, rfl, pm, _, rfl, md_width o2.ma.ob, rfl, _, rfl, ?_⟩
    rw [int_dec]
    by_cases c6 : x.length = W
    · rw [decide_eq_true (show (x.length : Int) = (W : Int) by omega)]
      rw [if_neg (fun z => z c6)] at eD
      refine ⟨_, rfl, _, rfl, _, rfl, p, _, 1, .str x, rfl, rfl, SqT.of hp2, atI_nat (j := 1) rfl, pm, dt, ml, w, x, W, d.kvs, lw, sdm, d.lk, rfl, o2.ma, npd, by omega, by omega, fun ml' H3 hml ma3 f3 => ?_⟩
      have hml0 : ml' = ml ∨ H ml' = none := hml.imp_right (f2.b _)
      refine ⟨by show 2 ≤ sizeLine; decide, fun t htt => ?_⟩
      by_cases c7 : deedW d.kvs w x = ""
      · rw [if_pos c7] at eD
        rw [eD] at tell
        rw [c7]
        exact tell f2 f3 (up13 sub2) hml0 htt (afterM f2 hml0 ma3 (Nat.le_trans deed_len.1 l41) (fun z => ⟨by rw [(oa.on z).1], (oa.on z).2⟩) f3) rfl
      · rw [if_neg c7] at eD
        rw [eD] at tell
        obtain ⟨q1, q2⟩ := deed_no (lm := lw) c7
        rw [q1, q2] at ma3
        exact tell f2 f3 (up13 sub2) hml0 htt (afterM f2 hml0 ma3 l41 oa.on f3) rfl
    · rw [decide_eq_false (show ¬ (x.length : Int) = (W : Int) by omega)]
      rw [if_pos c6] at eD
      rw [eD] at kQ
      refine ⟨by show 2 ≤ sizeLine; decide, fun t htt => ?_⟩
      have g3 : Frm [] H2 (upd H2 t (.tup [.str "number", .non])) := Frm.of (same_upd htt)
      exact kQ t .non _ _ (keepM (.inl rfl)) (f2.b _ htt) upd_same (show OAt _ y _ W d from ⟨pm, dt, ml, pk, pr, pf, pp, pz, zr, zf, zp, pl, lw, sdm, rfl, o2.stay (g3.toT (K := K) .nil) .nil (fun _ _ => by simp) (by simp) (by simp)⟩) rfl ((f2.trans g3).mono (by simp))
end
end B

set_option Elab.async false
set_option linter.all false
set_option maxRecDepth 100000
set_option maxHeartbeats 4000000
namespace B
open PySem PySem.Spec PyProof.Rows L2
open SX (S)
/-! ### steps drawn, and odd rows -/
def wordsD : List Str := ["hang", "hang", "hang", "off", "alarm", "calm", "step", "step", "round", "turn", "refresh", "walk"]
theorem wordsD_else : ∀ w ∈ wordsD, w ≠ "walk" → w ∉ aloneV → w ∈ thingV := by decide +kernel
def DrawnOk (names : List Str) (W : Nat) (w x : Str) : Prop := (w = "walk" ∧ (x = "all" ∨ x = "alarm")) ∨ w ∈ aloneV ∨ (w ∈ thingV ∧ (x ∈ names ∨ ∃ l, x = S (l ++ [49]) ∧ l.length = W ∧ Bits l))
theorem at_twoD {x y : Str} {v : Int} (h0 : 0 ≤ v) (h1 : v < 2) : ∃ u, (u = x ∨ u = y) ∧ atI [V.str x, V.str y] v = some (.str u) := by
  have : v = 0 ∨ v = 1 := by omega
  rcases this with rfl | rfl
  · exact ⟨x, .inl rfl, rfl⟩
  · exact ⟨y, .inr rfl, rfl⟩
theorem row_neD {r a p : Addr} {H : Hp} {xs : List Str} (h : RowAt r a H) (e : H p = some (.lst (xs.map V.str))) : p ≠ r := fun z => by
  obtain ⟨_, _, _, e1, _⟩ := h
  rw [← z, e] at e1
  match xs, e1 with
  | [], e1 => cases e1
  | x :: xr, e1 => cases e1
section
variable {P : Program} {w : World} {K : PySem.W.Frag} {mg : Str → Option Value} {base : Heap}
def spDrawn (K : PySem.W.Frag) : Sp := fun vs H Q _ => ∃ (r a pn : Addr) (W : Nat) (names : List Str), vs = [.ref r, .ref pn] ∧ RowAt r a H ∧ Scr K a H ∧ H pn = some (.lst (names.map V.str)) ∧ PoolS W names ∧
  ∀ (t : Addr) (w x : Str) (H' : Hp), H t = none → H' t = some (.tup ((rowOf w x).map V.str)) → DrawnOk names W w x → RowAt r a H' → Frm [r] H H' → Q (.ref t) H'
theorem c_ldrawn (T : Txt P w K mg base) : CalX CX0 P w K mg base 2 "_law_drawn" (spDrawn K) := by
  obtain ⟨fd, F⟩ := T.t.def_ 61 (d := d_ldrawn)
  refine ⟨_, fd, _, F.ok sc_ldrawn (fun vs H Q E h => ?_) (fun cdv A outer s H vs Q E hr h => ?_), He.glo_ok T.X T.G (T.t.fact 29), F.kp, F.bindsN fun _ _ _ _ _ _ us hl => match us, hl with | [_, _], _ => rfl⟩
  · obtain ⟨r, a, pn, W, names, rfl, _⟩ := h
    rfl
  · obtain ⟨r, a, pn, W, names, rfl, hR, hS, hp, pool, k⟩ := h
    refine ⟨_, PSs.nox (pss_cons (ps_set (i := 2) sc_ldrawn.nd rfl (Or.inl rfl) (pe_lst (pa_cons pe_str (pa_cons pe_str (pa_cons pe_str (pa_cons pe_str (pa_cons pe_str (pa_cons pe_str (pa_cons pe_str (pa_cons pe_str (pa_cons pe_str (pa_cons pe_str (pa_cons pe_str (pa_cons pe_str pa_nil))))))))))))))
    (pss_cons (ps_set (i := 2) sc_ldrawn.nd rfl (Or.inl rfl) (pe_ix ix_list (pv 2) (pe_cx (c_ltaken T) hr (by decide) rfl pass0 (pa_cons (pv 0) (pa_cons pe_int pa_nil))) (fun _ _ => rfl)))
    (pss_cons (ps_if (pt_cmpR op_eq (pv 2) pe_str (nomark _))
      (pss_one (ps_ret (pe_tup (pa_cons (pv 2) (pa_cons (pe_ix ix_list (pe_lst (pa_cons pe_str (pa_cons pe_str pa_nil))) (pe_cx (c_ltaken T) hr (by decide) rfl pass0 (pa_cons (pv 0) (pa_cons pe_int pa_nil))) (fun _ _ => rfl)) pa_nil)))))
      pss_nil)
    (pss_cons (ps_if (pt_cmpR op_in_seq (pv 2) (pe_tup (pa_cons pe_str (pa_cons pe_str (pa_cons pe_str (pa_cons pe_str pa_nil))))) rfl)
      (pss_one (ps_ret (pe_tup (pa_cons (pv 2) pa_nil))))
      pss_nil)
    (pss_cons (ps_set (i := 3) sc_ldrawn.nd rfl (Or.inl rfl) (pe_ix ix_list (pv 1) (pe_cx (c_ltaken T) hr (by decide) rfl pass0 (pa_cons (pv 0) (pa_cons (pe_callB call_len_seq (by rfl) (n_len T) PySem.boot_len (pa_cons (pv 1) pa_nil)) pa_nil))) (fun _ _ => rfl)))
    (pss_one (ps_ret (pe_tup (pa_cons (pv 2) (pa_cons (pe_ifExp (pt_cmpR op_gt (pe_cx (c_ltaken T) hr (by decide) rfl pass0 (pa_cons (pv 0) (pa_cons pe_int pa_nil))) pe_int (nomark _)) (pv 3) (pe_op op_add_str (pv 3) pe_str)) pa_nil)))))))))), ?_⟩
    refine ⟨by show 12 ≤ sizeLine; decide, fun D hD => ?_⟩
    have nrD := hR.out hD
    have nrp : pn ≠ r := row_neD hR hp
    have g1 : Frm [] H (upd H D (.lst (wordsD.map V.str))) := Frm.of (same_upd hD)
    have d1 : (upd H D (.lst (wordsD.map V.str))) D = some (.lst (wordsD.map V.str)) := upd_same
    have hR1 : RowAt r a (upd H D (.lst (wordsD.map V.str))) := hR.ne nrD
    have hp1 := g1.k _ _ hp rfl (by simp)
    have f1 : Frm [r] H (upd H D (.lst (wordsD.map V.str))) := g1.mono (by simp)
    refine ⟨_, rfl, _, rfl, r, a, 12, rfl, hR1, f1.scr hR.nl hS, by decide, by decide, fun v H2 v0 v1 hR2 f2 => ?_⟩
    have d2 : H2 D = some (.lst (wordsD.map V.str)) := f2.k _ _ d1 rfl (by simpa using nrD.symm)
    have hp2 := f2.k _ _ hp1 rfl (by simpa using nrp)
    have f02 := f1.trans f2
    obtain ⟨wd, hwd, hat⟩ := at_strs (xs := wordsD) v0 (by show v < 12; exact v1)
    refine ⟨D, wordsD.map V.str, v, .str wd, rfl, rfl, SqL.of d2, hat, ?_⟩
    refine ⟨_, rfl, rfl, _, rfl, ?_⟩
    rw [str_dec]
    refine iteB (fun c => ?_) (fun c => ?_)
    · obtain rfl : wd = "walk" := of_decide_eq_true c
      refine ⟨_, rfl, by show 2 ≤ sizeLine; decide, fun D2 hD2 => ?_⟩
      have g3 : Frm [] H2 (upd H2 D2 (.lst [.str "all", .str "alarm"])) := Frm.of (same_upd hD2)
      have hR3 : RowAt r a (upd H2 D2 (.lst [.str "all", .str "alarm"])) := hR2.ne (hR2.out hD2)
      have nrD2 := hR2.out hD2
      have f03 := f02.trans (g3.mono (by simp))
      refine ⟨_, rfl, r, a, 2, rfl, hR3, f03.scr hR.nl hS, by decide, by decide, fun u H4 u0 u1 hR4 f4 => ?_⟩
      have d4 : H4 D2 = some (.lst [.str "all", .str "alarm"]) := f4.k _ _ upd_same rfl (by simpa using nrD2.symm)
      obtain ⟨kd, hkd, hat2⟩ := at_twoD (x := "all") (y := "alarm") u0 u1
      refine ⟨D2, _, u, .str kd, rfl, rfl, SqL.of d4, hat2, ?_⟩
      refine ⟨by show 2 ≤ sizeLine; decide, fun t ht => ?_⟩
      have f04 := f03.trans f4
      have g : Frm [] H4 (upd H4 t (.tup [.str "walk", .str kd])) := Frm.of (same_upd ht)
      exact k t "walk" kd _ (f04.b _ ht) upd_same (.inl ⟨rfl, hkd⟩) (hR4.ne (hR4.out ht)) (f04.trans (g.mono (by simp)))
    · refine ⟨_, rfl, by show 4 ≤ sizeLine; decide, fun D2 hD2 => ⟨D2, _, rfl, .inr (SqT.of upd_same), rfl, rfl, _, rfl, ?_⟩⟩
      have g3 : Frm [] H2 (upd H2 D2 (.tup [.str "step", .str "round", .str "turn", .str "refresh"])) := Frm.of (same_upd hD2)
      have hR3 : RowAt r a (upd H2 D2 (.tup [.str "step", .str "round", .str "turn", .str "refresh"])) := hR2.ne (hR2.out hD2)
      have f03 := f02.trans (g3.mono (by simp))
      have hp3 := g3.k _ _ hp2 rfl (by simp)
      revert hR3 f03 hp3
      generalize (upd H2 D2 (.tup [.str "step", .str "round", .str "turn", .str "refresh"])) = H3
      intro hR3 f03 hp3
      rw [show inV (.str wd) [.str "step", .str "round", .str "turn", .str "refresh"] = decide (wd ∈ aloneV) from inV_strs wd aloneV]
      refine iteB (fun c2 => ?_) (fun c2 => ?_)
      · have ha : wd ∈ aloneV := of_decide_eq_true c2
        refine ⟨_, rfl, by show 1 ≤ sizeLine; decide, fun t ht => ?_⟩
        have g : Frm [] H3 (upd H3 t (.tup [.str wd])) := Frm.of (same_upd ht)
        exact k t wd "" _ (f03.b _ ht) (by unfold rowOf; rw [if_pos ha]; exact upd_same) (.inr (.inl ha)) (hR3.ne (hR3.out ht)) (f03.trans (g.mono (by simp)))
      · have ha : wd ∉ aloneV := of_decide_eq_false c2
        have hw := wordsD_else wd hwd (of_decide_eq_false c) ha
        have er : ∀ x, rowOf wd x = [wd, x] := fun x => by unfold rowOf; rw [if_neg ha]
        have npos : 0 < names.length := List.length_pos_iff.mpr pool.ne
        have plen := pool.len
        refine ⟨_, rfl, _, rfl, _, rfl, pn, _, rfl, .inl (SqL.of hp3), r, a, names.length, by rw [List.length_map]; rfl, hR3, f03.scr hR.nl hS, by omega, by omega, fun v H4 v0 v1 hR4 f4 => ?_⟩
        have hp4 := f4.k _ _ hp3 rfl (by simpa using nrp)
        obtain ⟨x, hx, hat2⟩ := at_strs (xs := names) v0 v1
        refine ⟨pn, names.map V.str, v, .str x, rfl, rfl, SqL.of hp4, hat2, ?_⟩
        have f04 := f03.trans f4
        obtain ⟨l, ex, el, eb⟩ := pool.num x hx
        refine ⟨_, rfl, _, rfl, r, a, 40, rfl, hR4, f04.scr hR.nl hS, by decide, by decide, fun u H5 u0 u1 hR5 f5 => ⟨_, _, rfl, rfl, _, rfl, ?_⟩⟩
        have f05 := f04.trans f5
        refine iteB (fun c3 => ?_) (fun c3 => ?_)
        · refine ⟨_, rfl, by show 2 ≤ sizeLine; decide, fun t ht => ?_⟩
          have g : Frm [] H5 (upd H5 t (.tup [.str wd, .str x])) := Frm.of (same_upd ht)
          exact k t wd x _ (f05.b _ ht) (by rw [er]; exact upd_same) (.inr (.inr ⟨hw, .inl hx⟩)) (hR5.ne (hR5.out ht)) (f05.trans (g.mono (by simp)))
        · have q1 : ("1" : Str).length = 1 := by decide +kernel
          have q2 : x.length = W := by rw [ex]; exact (SX.S_len l).trans el
          have w2 := pool.w2
          have q0 : x ++ ("1" : Str) = S (l ++ [49]) := by
            rw [ex, ← SX.S_cat]
            rfl
          refine ⟨_, rfl, x, "1", rfl, rfl, by rw [q1, q2]; exact szL (by omega), by show 2 ≤ sizeLine; decide, fun t ht => ?_⟩
          rw [q0]
          have g : Frm [] H5 (upd H5 t (.tup [.str wd, .str (S (l ++ [49]))])) := Frm.of (same_upd ht)
          exact k t wd (S (l ++ [49])) _ (f05.b _ ht) (by rw [er]; exact upd_same) (.inr (.inr ⟨hw, .inr ⟨l, rfl, el, eb⟩⟩)) (hR5.ne (hR5.out ht)) (f05.trans (g.mono (by simp)))
end
end B

set_option Elab.async false
set_option linter.all false
set_option maxRecDepth 100000
set_option maxHeartbeats 4000000
namespace B
open PySem PySem.Spec PyProof.Rows L2
open SX (S)
/-! ### rows that are no steps -/
def TupsAt (H : Hp) (zs : List (Addr × RowV)) : Prop := ∀ z ∈ zs, H z.1 = some (.tup z.2.vs)
theorem TupsAt.nil {H : Hp} : TupsAt H [] := fun _ h => absurd h (by simp)
theorem TupsAt.new {H : Hp} {t : Addr} {o : HO} {zs : List (Addr × RowV)} (h : TupsAt H zs) (ht : H t = none) : TupsAt (upd H t o) zs := fun z hz => same_upd ht _ _ (h z hz)
theorem TupsAt.snoc {H : Hp} {t : Addr} {zs : List (Addr × RowV)} (h : TupsAt H zs) (ht : H t = none) (r : RowV) : TupsAt (upd H t (.tup r.vs)) (zs ++ [(t, r)]) := fun z hz => by
  rcases List.mem_append.mp hz with c | c
  · exact h.new ht z c
  · rw [List.mem_singleton.mp c]
    exact upd_same
structure Lay (H H' : Hp) (zs : List (Addr × RowV)) : Prop where
  f : Frm [] H H'
  t : TupsAt H' zs
  n : ∀ z ∈ zs, H z.1 = none
theorem Lay.refl {H : Hp} : Lay H H [] := ⟨Frm.refl _ _, .nil, fun _ h => absurd h (by simp)⟩
theorem Lay.new {H H' : Hp} {t : Addr} {o : HO} {zs : List (Addr × RowV)} (h : Lay H H' zs) (ht : H' t = none) : Lay H (upd H' t o) zs := ⟨h.f.trans (Frm.of (same_upd ht)), h.t.new ht, h.n⟩
theorem Lay.snoc {H H' : Hp} {t : Addr} {zs : List (Addr × RowV)} (h : Lay H H' zs) (ht : H' t = none) (r : RowV) : Lay H (upd H' t (.tup r.vs)) (zs ++ [(t, r)]) := ⟨h.f.trans (Frm.of (same_upd ht)), h.t.snoc ht r, fun z hz => by
  rcases List.mem_append.mp hz with c | c
  · exact h.n z c
  · rw [List.mem_singleton.mp c]
    exact h.f.b _ ht⟩
def OddR (far : Int) : List RowV := [.txt [], .txt ["hang"], .txt ["hang", "2"], .txt ["off", ""], .txt ["alarm", Txt.mul "0" 13], .txt ["step", "0"], .txt ["walk", "any"], .txt ["walk"], .txt ["Hang", "0"], .one far, .two "calm" far, .txt ["round", "all"], .txt ["", "0"], .txt ["hang", "0", "1"], .two "turn" far]
def oddW : List (List Str) := [[], ["hang"], ["hang", "2"], ["off", ""], ["alarm", Txt.mul "0" 13], ["step", "0"], ["walk", "any"], ["walk"], ["Hang", "0"], ["round", "all"], ["", "0"], ["hang", "0", "1"]]
theorem oddW_bad : ∀ w ∈ oddW, stepB w = false ∧ ∀ x ∈ w, x.length ≤ 100 := by decide +kernel
theorem oddR_bad {far : Int} {r : RowV} (h : r ∈ OddR far) : r.ok = false ∧ r.sz := by
  have tx : ∀ w ∈ oddW, (RowV.txt w).ok = false ∧ (RowV.txt w).sz := fun w hw => ⟨(oddW_bad w hw).1, fun x hx => Nat.le_trans ((oddW_bad w hw).2 x hx) (by decide)⟩
  simp only [OddR, List.mem_cons, List.not_mem_nil, or_false] at h
  rcases h with rfl | rfl | rfl | rfl | rfl | rfl | rfl | rfl | rfl | rfl | rfl | rfl | rfl | rfl | rfl <;> first | exact ⟨rfl, trivial⟩ | exact tx _ (by simp [oddW])
theorem at_rv {zs : List (Addr × RowV)} {v : Int} (h0 : 0 ≤ v) (h1 : v < (zs.length : Int)) : ∃ z ∈ zs, atI (zs.map fun z => V.ref z.1) v = some (.ref z.1) := by
  obtain ⟨n, rfl⟩ : ∃ n : Nat, v = n := ⟨v.toNat, by omega⟩
  have hlt : n < zs.length := by omega
  exact ⟨zs[n], List.getElem_mem hlt, atI_nat (by rw [List.getElem?_map, List.getElem?_eq_getElem hlt]; rfl)⟩
theorem zeros13 : PySem.MulOk "0" 13 := ⟨by decide, fun _ _ => by decide +kernel, fun _ _ => by decide +kernel⟩
section
variable {P : Program} {w : World} {K : PySem.W.Frag} {mg : Str → Option Value} {base : Heap}
def spOdd (K : PySem.W.Frag) : Sp := fun vs H Q _ => ∃ (r a : Addr), vs = [.ref r] ∧ RowAt r a H ∧ Scr K a H ∧
  ∀ (t : Addr) (o : RowV) (H' : Hp), o.ok = false → o.sz → H t = none → H' t = some (.tup o.vs) → RowAt r a H' → Frm [r] H H' → Q (.ref t) H'
theorem c_lodd (T : Txt P w K mg base) : CalX CX0 P w K mg base 2 "_law_odd" (spOdd K) := by
  obtain ⟨fd, F⟩ := T.t.def_ 62 (d := d_lodd)
  refine ⟨_, fd, _, F.ok sc_lodd (fun vs H Q E h => ?_) (fun cdv A outer s H vs Q E hr h => ?_), He.glo_ok T.X T.G (T.t.fact 30), F.kp, F.bindsN fun _ _ _ _ _ _ us hl => match us, hl with | [_], _ => rfl⟩
  · obtain ⟨r, a, rfl, _⟩ := h
    rfl
  · obtain ⟨r, a, rfl, hR, hS, k⟩ := h
    refine ⟨_, PSs.nox (pss_cons (ps_set (i := 1) sc_lodd.nd rfl (Or.inl rfl) (pe_cx (c_ltaken T) hr (by decide) rfl pass0 (pa_cons (pv 0) (pa_cons (pe_op op_pow pe_int pe_int) pa_nil))))
    (pss_cons (ps_set (i := 2) sc_lodd.nd rfl (Or.inl rfl) (pe_lst (pa_cons (pe_tup pa_nil) (pa_cons (pe_tup (pa_cons pe_str pa_nil)) (pa_cons (pe_tup (pa_cons pe_str (pa_cons pe_str pa_nil))) (pa_cons (pe_tup (pa_cons pe_str (pa_cons pe_str pa_nil))) (pa_cons (pe_tup (pa_cons pe_str (pa_cons (pe_op op_rep_str pe_str pe_int) pa_nil))) (pa_cons (pe_tup (pa_cons pe_str (pa_cons pe_str pa_nil))) (pa_cons (pe_tup (pa_cons pe_str (pa_cons pe_str pa_nil))) (pa_cons (pe_tup (pa_cons pe_str pa_nil)) pa_nil))))))))))
    (pss_cons (ps_set (i := 2) sc_lodd.nd rfl (Or.inl rfl) (pe_op op_cat (pv 2) (pe_lst (pa_cons (pe_tup (pa_cons pe_str (pa_cons pe_str pa_nil))) (pa_cons (pe_tup (pa_cons (pv 1) pa_nil)) (pa_cons (pe_tup (pa_cons pe_str (pa_cons (pv 1) pa_nil))) (pa_cons (pe_tup (pa_cons pe_str (pa_cons pe_str pa_nil))) (pa_cons (pe_tup (pa_cons pe_str (pa_cons pe_str pa_nil))) (pa_cons (pe_tup (pa_cons pe_str (pa_cons pe_str (pa_cons pe_str pa_nil)))) (pa_cons (pe_tup (pa_cons pe_str (pa_cons (pv 1) pa_nil))) pa_nil))))))))))
    (pss_one (ps_ret (pe_ix ix_list (pv 2) (pe_cx (c_ltaken T) hr (by decide) rfl pass0 (pa_cons (pv 0) (pa_cons pe_int pa_nil))) (fun _ _ => rfl))))))), ?_⟩
    refine ⟨_, rfl, 10, 6, rfl, rfl, ⟨by decide, by decide, by decide⟩, r, a, 1000000, rfl, hR, hS, by decide, by decide, fun far H1 v0 v1 hR1 f1 => ?_⟩
    refine ⟨Nat.zero_le _, fun t1 h1 => ⟨by show 1 ≤ sizeLine; decide, fun t2 h2 => ⟨by show 2 ≤ sizeLine; decide, fun t3 h3 => ⟨by show 2 ≤ sizeLine; decide, fun t4 h4 => ⟨"0", 13, rfl, rfl, zeros13, by show 2 ≤ sizeLine; decide, fun t5 h5 => ⟨by show 2 ≤ sizeLine; decide, fun t6 h6 => ⟨by show 2 ≤ sizeLine; decide, fun t7 h7 => ⟨by show 1 ≤ sizeLine; decide, fun t8 h8 => ⟨by show 8 ≤ sizeLine; decide, fun L1 hL1 => ?_⟩⟩⟩⟩⟩⟩⟩⟩⟩
    have Y2 : Lay H1 (upd (upd (upd (upd (upd (upd (upd (upd (upd H1 t1 (.tup [])) t2 (.tup [.str "hang"])) t3 (.tup [.str "hang", .str "2"])) t4 (.tup [.str "off", .str ""])) t5 (.tup [.str "alarm", .str (Txt.mul "0" 13)])) t6 (.tup [.str "step", .str "0"])) t7 (.tup [.str "walk", .str "any"])) t8 (.tup [.str "walk"])) L1 (.lst [.ref t1, .ref t2, .ref t3, .ref t4, .ref t5, .ref t6, .ref t7, .ref t8])) [(t1, RowV.txt []), (t2, RowV.txt ["hang"]), (t3, RowV.txt ["hang", "2"]), (t4, RowV.txt ["off", ""]), (t5, RowV.txt ["alarm", Txt.mul "0" 13]), (t6, RowV.txt ["step", "0"]), (t7, RowV.txt ["walk", "any"]), (t8, RowV.txt ["walk"])] := (Lay.new (Lay.snoc (Lay.snoc (Lay.snoc (Lay.snoc (Lay.snoc (Lay.snoc (Lay.snoc (Lay.snoc Lay.refl h1 (.txt [])) h2 (.txt ["hang"])) h3 (.txt ["hang", "2"])) h4 (.txt ["off", ""])) h5 (.txt ["alarm", Txt.mul "0" 13])) h6 (.txt ["step", "0"])) h7 (.txt ["walk", "any"])) h8 (.txt ["walk"])) hL1)
    have l2 : (upd (upd (upd (upd (upd (upd (upd (upd (upd H1 t1 (.tup [])) t2 (.tup [.str "hang"])) t3 (.tup [.str "hang", .str "2"])) t4 (.tup [.str "off", .str ""])) t5 (.tup [.str "alarm", .str (Txt.mul "0" 13)])) t6 (.tup [.str "step", .str "0"])) t7 (.tup [.str "walk", .str "any"])) t8 (.tup [.str "walk"])) L1 (.lst [.ref t1, .ref t2, .ref t3, .ref t4, .ref t5, .ref t6, .ref t7, .ref t8])) L1 = some (.lst [V.ref t1, V.ref t2, V.ref t3, V.ref t4, V.ref t5, V.ref t6, V.ref t7, V.ref t8]) := upd_same
    revert Y2 l2
    generalize (upd (upd (upd (upd (upd (upd (upd (upd (upd H1 t1 (.tup [])) t2 (.tup [.str "hang"])) t3 (.tup [.str "hang", .str "2"])) t4 (.tup [.str "off", .str ""])) t5 (.tup [.str "alarm", .str (Txt.mul "0" 13)])) t6 (.tup [.str "step", .str "0"])) t7 (.tup [.str "walk", .str "any"])) t8 (.tup [.str "walk"])) L1 (.lst [.ref t1, .ref t2, .ref t3, .ref t4, .ref t5, .ref t6, .ref t7, .ref t8])) = H2
    intro Y2 l2
    refine ⟨_, rfl, ?_⟩
    refine ⟨by show 2 ≤ sizeLine; decide, fun t9 h9 => ⟨_, rfl, by show 1 ≤ sizeLine; decide, fun t10 h10 => ⟨_, rfl, by show 2 ≤ sizeLine; decide, fun t11 h11 => ⟨by show 2 ≤ sizeLine; decide, fun t12 h12 => ⟨by show 2 ≤ sizeLine; decide, fun t13 h13 => ⟨by show 3 ≤ sizeLine; decide, fun t14 h14 => ⟨_, rfl, by show 2 ≤ sizeLine; decide, fun t15 h15 => ⟨by show 7 ≤ sizeLine; decide, fun L2 hL2 => ?_⟩⟩⟩⟩⟩⟩⟩⟩
    have Y3 : Lay H1 (upd (upd (upd (upd (upd (upd (upd (upd H2 t9 (.tup [.str "Hang", .str "0"])) t10 (.tup [.int far])) t11 (.tup [.str "calm", .int far])) t12 (.tup [.str "round", .str "all"])) t13 (.tup [.str "", .str "0"])) t14 (.tup [.str "hang", .str "0", .str "1"])) t15 (.tup [.str "turn", .int far])) L2 (.lst [.ref t9, .ref t10, .ref t11, .ref t12, .ref t13, .ref t14, .ref t15])) [(t1, RowV.txt []), (t2, RowV.txt ["hang"]), (t3, RowV.txt ["hang", "2"]), (t4, RowV.txt ["off", ""]), (t5, RowV.txt ["alarm", Txt.mul "0" 13]), (t6, RowV.txt ["step", "0"]), (t7, RowV.txt ["walk", "any"]), (t8, RowV.txt ["walk"]), (t9, RowV.txt ["Hang", "0"]), (t10, RowV.one far), (t11, RowV.two "calm" far), (t12, RowV.txt ["round", "all"]), (t13, RowV.txt ["", "0"]), (t14, RowV.txt ["hang", "0", "1"]), (t15, RowV.two "turn" far)] := (Lay.new (Lay.snoc (Lay.snoc (Lay.snoc (Lay.snoc (Lay.snoc (Lay.snoc (Lay.snoc Y2 h9 (.txt ["Hang", "0"])) h10 (.one far)) h11 (.two "calm" far)) h12 (.txt ["round", "all"])) h13 (.txt ["", "0"])) h14 (.txt ["hang", "0", "1"])) h15 (.two "turn" far)) hL2)
    have l3 : (upd (upd (upd (upd (upd (upd (upd (upd H2 t9 (.tup [.str "Hang", .str "0"])) t10 (.tup [.int far])) t11 (.tup [.str "calm", .int far])) t12 (.tup [.str "round", .str "all"])) t13 (.tup [.str "", .str "0"])) t14 (.tup [.str "hang", .str "0", .str "1"])) t15 (.tup [.str "turn", .int far])) L2 (.lst [.ref t9, .ref t10, .ref t11, .ref t12, .ref t13, .ref t14, .ref t15])) L2 = some (.lst [V.ref t9, V.ref t10, V.ref t11, V.ref t12, V.ref t13, V.ref t14, V.ref t15]) := upd_same
    have m3 : (upd (upd (upd (upd (upd (upd (upd (upd H2 t9 (.tup [.str "Hang", .str "0"])) t10 (.tup [.int far])) t11 (.tup [.str "calm", .int far])) t12 (.tup [.str "round", .str "all"])) t13 (.tup [.str "", .str "0"])) t14 (.tup [.str "hang", .str "0", .str "1"])) t15 (.tup [.str "turn", .int far])) L2 (.lst [.ref t9, .ref t10, .ref t11, .ref t12, .ref t13, .ref t14, .ref t15])) L1 = some (.lst [V.ref t1, V.ref t2, V.ref t3, V.ref t4, V.ref t5, V.ref t6, V.ref t7, V.ref t8]) := by
      have z : Lay H2 (upd (upd (upd (upd (upd (upd (upd (upd H2 t9 (.tup [.str "Hang", .str "0"])) t10 (.tup [.int far])) t11 (.tup [.str "calm", .int far])) t12 (.tup [.str "round", .str "all"])) t13 (.tup [.str "", .str "0"])) t14 (.tup [.str "hang", .str "0", .str "1"])) t15 (.tup [.str "turn", .int far])) L2 (.lst [.ref t9, .ref t10, .ref t11, .ref t12, .ref t13, .ref t14, .ref t15])) _ := (Lay.new (Lay.snoc (Lay.snoc (Lay.snoc (Lay.snoc (Lay.snoc (Lay.snoc (Lay.snoc (show Lay H2 H2 [] from Lay.refl) h9 (.txt ["Hang", "0"])) h10 (.one far)) h11 (.two "calm" far)) h12 (.txt ["round", "all"])) h13 (.txt ["", "0"])) h14 (.txt ["hang", "0", "1"])) h15 (.two "turn" far)) hL2)
      exact z.f.k _ _ l2 rfl (by simp)
    revert Y3 l3 m3
    generalize (upd (upd (upd (upd (upd (upd (upd (upd H2 t9 (.tup [.str "Hang", .str "0"])) t10 (.tup [.int far])) t11 (.tup [.str "calm", .int far])) t12 (.tup [.str "round", .str "all"])) t13 (.tup [.str "", .str "0"])) t14 (.tup [.str "hang", .str "0", .str "1"])) t15 (.tup [.str "turn", .int far])) L2 (.lst [.ref t9, .ref t10, .ref t11, .ref t12, .ref t13, .ref t14, .ref t15])) = H3
    intro Y3 l3 m3
    refine ⟨L1, L2, _, _, rfl, rfl, m3, l3, by show 15 ≤ sizeLine; decide, fun L3 hL3 => ?_⟩
    have Y4 : Lay H1 (upd H3 L3 (.lst ([V.ref t1, V.ref t2, V.ref t3, V.ref t4, V.ref t5, V.ref t6, V.ref t7, V.ref t8] ++ [V.ref t9, V.ref t10, V.ref t11, V.ref t12, V.ref t13, V.ref t14, V.ref t15]))) [(t1, RowV.txt []), (t2, RowV.txt ["hang"]), (t3, RowV.txt ["hang", "2"]), (t4, RowV.txt ["off", ""]), (t5, RowV.txt ["alarm", Txt.mul "0" 13]), (t6, RowV.txt ["step", "0"]), (t7, RowV.txt ["walk", "any"]), (t8, RowV.txt ["walk"]), (t9, RowV.txt ["Hang", "0"]), (t10, RowV.one far), (t11, RowV.two "calm" far), (t12, RowV.txt ["round", "all"]), (t13, RowV.txt ["", "0"]), (t14, RowV.txt ["hang", "0", "1"]), (t15, RowV.two "turn" far)] := Y3.new hL3
    have l4 : (upd H3 L3 (.lst ([V.ref t1, V.ref t2, V.ref t3, V.ref t4, V.ref t5, V.ref t6, V.ref t7, V.ref t8] ++ [V.ref t9, V.ref t10, V.ref t11, V.ref t12, V.ref t13, V.ref t14, V.ref t15]))) L3 = some (.lst (([(t1, RowV.txt []), (t2, RowV.txt ["hang"]), (t3, RowV.txt ["hang", "2"]), (t4, RowV.txt ["off", ""]), (t5, RowV.txt ["alarm", Txt.mul "0" 13]), (t6, RowV.txt ["step", "0"]), (t7, RowV.txt ["walk", "any"]), (t8, RowV.txt ["walk"]), (t9, RowV.txt ["Hang", "0"]), (t10, RowV.one far), (t11, RowV.two "calm" far), (t12, RowV.txt ["round", "all"]), (t13, RowV.txt ["", "0"]), (t14, RowV.txt ["hang", "0", "1"]), (t15, RowV.two "turn" far)] : List (Addr × RowV)).map fun z => V.ref z.1)) := upd_same
    revert Y4 l4
    generalize (upd H3 L3 (.lst ([V.ref t1, V.ref t2, V.ref t3, V.ref t4, V.ref t5, V.ref t6, V.ref t7, V.ref t8] ++ [V.ref t9, V.ref t10, V.ref t11, V.ref t12, V.ref t13, V.ref t14, V.ref t15]))) = H4
    intro Y4 l4
    have f14 : Frm [r] H H4 := f1.trans (Y4.f.mono (by simp))
    have hR4 : RowAt r a H4 := Y4.f.row (by simp) hR1
    refine ⟨_, rfl, _, rfl, r, a, 15, rfl, hR4, f14.scr hR.nl hS, by decide, by decide, fun v H5 u0 u1 hR5 f5 => ?_⟩
    have nL : L3 ≠ r := fun e => by
      obtain ⟨_, _, _, q, _⟩ := hR4
      rw [← e, l4] at q
      cases q
    obtain ⟨z, hz, hat⟩ := at_rv (zs := [(t1, RowV.txt []), (t2, RowV.txt ["hang"]), (t3, RowV.txt ["hang", "2"]), (t4, RowV.txt ["off", ""]), (t5, RowV.txt ["alarm", Txt.mul "0" 13]), (t6, RowV.txt ["step", "0"]), (t7, RowV.txt ["walk", "any"]), (t8, RowV.txt ["walk"]), (t9, RowV.txt ["Hang", "0"]), (t10, RowV.one far), (t11, RowV.two "calm" far), (t12, RowV.txt ["round", "all"]), (t13, RowV.txt ["", "0"]), (t14, RowV.txt ["hang", "0", "1"]), (t15, RowV.two "turn" far)]) u0 (by show v < 15; exact u1)
    have bad := oddR_bad (far := far) (r := z.2) (List.mem_map_of_mem (f := fun z : Addr × RowV => z.2) hz)
    have ez := Y4.t z hz
    have nz : z.1 ≠ r := fun e => by
      obtain ⟨_, _, _, q, _⟩ := hR4
      rw [← e, ez] at q
      cases q
    refine ⟨L3, _, v, .ref z.1, rfl, rfl, SqL.of (f5.k _ _ l4 rfl (by simpa using nL)), hat, ?_⟩
    exact k z.1 z.2 H5 bad.1 bad.2 (f1.b _ (Y4.n z hz)) (f5.k _ _ ez rfl (by simpa using nz)) hR5 (f14.trans f5)
end
end B

set_option Elab.async false
set_option linter.all false
set_option maxRecDepth 100000
set_option maxHeartbeats 4000000
namespace B
open PySem PySem.Spec PyProof.Rows L2
open SX (S)
/-! ### three names at once -/
def tPar3 (i j k : Nat) (ta : TA) : TS := fun D σ H => ta σ H fun vs H1 => ∃ v w z, vs = [v, w, z] ∧ D.nx (((σ.set i (some v)).set j (some w)).set k (some z)) H1
theorem set3 {α : Type} (σ : List α) {i j k : Nat} {a b c : α} (h1 : i ≠ j) (h2 : i ≠ k) (h3 : j ≠ k) : ((σ.set k c).set j b).set i a = ((σ.set i a).set j b).set k c := by
  rw [List.set_comm _ _ h1.symm, List.set_comm _ _ h2.symm, List.set_comm _ _ h3.symm]
theorem ps_par3 {X : Cx} {i j k : Nat} {x y z : Str} {a b c : Expr} {ta : TA} {pos px py pz pt : Pos} {kt k2 pt2} (hc : X.calm = true) (hN : X.N.Nodup) (hi : X.N[i]? = some x) (hj : X.N[j]? = some y) (hk : X.N[k]? = some z) (h1 : i ≠ j) (h2 : i ≠ k) (h3 : j ≠ k)
    (hx : X.env.scope.names.lookup x = some .local) (hy : X.env.scope.names.lookup y = some .local) (hz : X.env.scope.names.lookup z = some .local) (ha : PA X [a, b, c] ta) (hw : swappedStores [.Tuple [.Name x px, .Name y py, .Name z pz] kt pt] (.Tuple [a, b, c] k2 pt2) X.env = pure (some [x, y, z]))
    (hs : swapsWithSole [.Tuple [.Name x px, .Name y py, .Name z pz] kt pt] (.Tuple [a, b, c] k2 pt2) pos.line X.env = pure false := by rfl) : PS X (.Assign [.Tuple [.Name x px, .Name y py, .Name z pz] kt pt] (.Tuple [a, b, c] k2 pt2) pos) (tPar3 i j k ta) := by
  refine ⟨fun pins s σ H D I h => ?_⟩
  rw [exec_Assign_arm]
  refine wpAny_bind (wpAny_standAt ?_); rw [hs]; refine wpAny_bind (wpAny_pure ?_); rw [if_neg (by decide)]
  refine wpAny_bind (Tuple_ (thn (ha.run _ pins s σ H _ I h) fun us s1 ⟨vs, H1, I1, r1, v, w, q, e1, q1⟩ => ?_))
  subst e1
  obtain ⟨u1, u2, u3, rfl, p, p', p''⟩ : ∃ u1 u2 u3, us = [u1, u2, u3] ∧ RelV v u1 ∧ RelV w u2 ∧ RelV q u3 := by
    cases r1 with
    | cons p r2 => cases r2 with
      | cons p' r3 => cases r3 with
        | cons p'' r4 =>
          cases r4
          exact ⟨_, _, _, rfl, p, p', p''⟩
  refine wpAny_newObj_type ?_ (by show 3 ≤ sizeLine; decide)
  have I2 : Inv X pins σ H1 { s1 with heap := s1.heap.push { cls := .type "tuple", data := .seq [u1, u2, u3].toArray } } := I1.kept (t' := s1.toks) fun b o e => Heap.get?_push_of_some _ e
  rw [hw]
  refine wpAny_bind (wpAny_pure ?_)
  show wpAny (model X.prog X.w) X.A (do rule "assign.swapped-stores"; let its ← unpackItems (.ref s1.heap.objs.size) 3 none; assignInOrder [fun v => bindName X.env z v, fun v => bindName X.env y v, fun v => bindName X.env x v] its.reverse; pure Flow.next) _ _ _
  refine wpAny_bind (wpAny_rule (wpAny_bind (unpackItems_tuple (items := #[u1, u2, u3]) (I.ok.hd hc) (IsTup.new s1.heap _) fun h' hx' => ?_)))
  have I3 := I2.kept (h' := h') (t' := s1.toks) fun b o e => hx' b o (Nat.ne_of_lt (Heap.lt_size e)) e
  show wpAny _ _ (assignInOrder [fun v => bindName X.env z v, fun v => bindName X.env y v, fun v => bindName X.env x v] [u3, u2, u1] >>= fun _ => pure Flow.next) _ _ _
  refine wpAny_bind (assignInOrder_cons (wpAny_bindName (store_ok I3 hN hk (.inl hz) p'' (fun s2 I4 => ?_) (.inr hz))))
  refine assignInOrder_cons (wpAny_bindName (store_ok I4 hN hj (.inl hy) p' (fun s3 I5 => ?_) (.inr hy)))
  refine assignInOrder_cons (wpAny_bindName (store_ok I5 hN hi (.inl hx) p (fun s4 I6 => assignInOrder_nil (wpAny_pure ?_)) (.inr hx)))
  rw [set3 σ h1 h2 h3] at I6
  exact ⟨_, H1, I6, q1⟩
/-! ### the law's parts: what is told compared, what is drawn a step -/
def TV.small : TV → Prop
  | .went c z => c.length ≤ 100000 ∧ z.length ≤ 100000
  | _ => True
theorem al_same {K : PySem.W.Frag} {A : V → V → Hp → Prop} {H : Hp} {p q : Addr} {xs : List Str} (hp : H p = some (.tup (xs.map V.str))) (hq : H q = some (.tup (xs.map V.str))) (hl : xs.length ≤ 100000) : AlStep K (AlStep K A) (.ref p) (.ref q) H := by
  refine .inr ⟨p, q, _, _, rfl, rfl, .inr ⟨hp, hq⟩, rfl, by rw [List.length_map]; exact hl, fun i a b ha hb => .inl ?_⟩
  rw [hb] at ha
  obtain rfl := Option.some.inj ha
  obtain ⟨z, hz, e⟩ := at_map hb
  exact .inr (.inl ⟨z, e, e⟩)
theorem al_tv {K : PySem.W.Frag} {H : Hp} {M M' : List Addr} {tv : TV} {x y : V} (h1 : TVAt H M tv x) (h2 : TVAt H M' tv y) (sm : tv.small) : AL2 K x y H := by
  cases tv with
  | tl t =>
    cases t with
    | no =>
      have a : x = .non := h1
      have b : y = .non := h2
      exact .inl (.inr (.inr (.inr ⟨a, b⟩)))
    | lost =>
      obtain ⟨p, rfl, a⟩ := h1
      obtain ⟨q, rfl, b⟩ := h2
      exact al_same (xs := ["lost"]) a b (by decide)
    | found l =>
      obtain ⟨p, rfl, a⟩ := h1
      obtain ⟨q, rfl, b⟩ := h2
      exact al_same (xs := ["found", S l]) a b (by show 2 ≤ 100000; decide)
  | alarm z =>
    obtain ⟨p, rfl, a⟩ := h1
    obtain ⟨q, rfl, b⟩ := h2
    exact al_same (xs := ["alarm", z]) a b (by show 2 ≤ 100000; decide)
  | done =>
    obtain ⟨p, rfl, a⟩ := h1
    obtain ⟨q, rfl, b⟩ := h2
    exact al_same (xs := ["done"]) a b (by decide)
  | went c z =>
    obtain ⟨t, p, q, rfl, a1, a2, a3, _, _⟩ := h1
    obtain ⟨t', p', q', rfl, b1, b2, b3, _, _⟩ := h2
    refine .inr ⟨t, t', _, _, rfl, rfl, .inr ⟨a1, b1⟩, rfl, by show 2 ≤ 100000; decide, fun i a b ha hb => ?_⟩
    match i, ha, hb with
    | 0, ha, hb => cases ha; cases hb; exact al_strs a2 b2 sm.1
    | 1, ha, hb => cases ha; cases hb; exact al_strs a3 b3 sm.2
abbrev AL4 (K : PySem.W.Frag) : V → V → Hp → Prop := AlStep K (AlStep K (AL2 K))
theorem al_told {K : PySem.W.Frag} {H : Hp} {p q : Addr} {xs ys : List V} {M M' : List Addr} {W : Nat} {rs : List (Str × Str)} (hp : H p = some (.lst xs)) (hq : H q = some (.lst ys)) (l1 : xs.length = rs.length) (l2 : ys.length = rs.length) (hl : rs.length ≤ 100000) (t1 : ToldL H M W rs xs) (t2 : ToldL H M' W rs ys) (sm : ∀ i s, rs[i]? = some s → (toF W rs i s).2.1.small) : AlStep K (AL2 K) (.ref p) (.ref q) H := by
  refine .inr ⟨p, q, xs, ys, rfl, rfl, .inl ⟨hp, hq⟩, by omega, by omega, fun i a b ha hb => ?_⟩
  have hi : i < rs.length := by
    have := (List.getElem?_eq_some_iff.mp ha).1
    omega
  have hs : rs[i]? = some rs[i] := List.getElem?_eq_getElem hi
  exact al_tv (t1 i _ a hs ha) (t2 i _ b hs hb) (sm i _ hs)
theorem al_end {K : PySem.W.Frag} {H : Hp} {t t' c c' h h' : Addr} {xs ys : List V} {hs : List Str} {M M' : List Addr} {W : Nat} {lk : Int} {rs : List (Str × Str)} (ht : H t = some (.tup [.ref c, .ref h, .int lk])) (ht' : H t' = some (.tup [.ref c', .ref h', .int lk])) (hp : H c = some (.lst xs)) (hq : H c' = some (.lst ys)) (hh : H h = some (.lst (hs.map V.str))) (hh' : H h' = some (.lst (hs.map V.str))) (hl2 : hs.length ≤ 100000)
    (l1 : xs.length = rs.length) (l2 : ys.length = rs.length) (hl : rs.length ≤ 100000) (t1 : ToldL H M W rs xs) (t2 : ToldL H M' W rs ys) (sm : ∀ i s, rs[i]? = some s → (toF W rs i s).2.1.small) : AL4 K (.ref t) (.ref t') H := by
  refine .inr ⟨t, t', _, _, rfl, rfl, .inr ⟨ht, ht'⟩, rfl, by show 3 ≤ 100000; decide, fun i a b ha hb => ?_⟩
  match i, ha, hb with
  | 0, ha, hb => cases ha; cases hb; exact al_told hp hq l1 l2 hl t1 t2 sm
  | 1, ha, hb => cases ha; cases hb; exact al_strs hh hh' hl2
  | 2, ha, hb => cases ha; cases hb; exact .inl (.inr (.inr (.inl ⟨lk, rfl, rfl⟩)))
section
variable {P : Program} {w : World} {K : PySem.W.Frag} {mg : Str → Option Value} {base : Heap}
theorem c_lalike4 (T : Txt P w K mg base) : CalX CX0 P w K mg base 6 "_law_alike" (spAl (AL4 K)) :=
  alike_step T (steady_step (steady_step (steady_step (steady_step steady0)))) (alike_step T (steady_step (steady_step (steady_step steady0))) (c_lalike T))
end
/-- what is told is small -/
theorem told_small {names : List Str} {W b : Nat} {d : DyS} {w x : Str} (p : PoolS W names) (h : DInv names W b d) : (doF W d w x).2.1.small := by
  have kl := h.kl p
  have due : (srt (d.kvs.map (·.1))).length ≤ 41 := by
    rw [(srt_perm _).length_eq, List.length_map]
    exact kl
  have kp := h.kept
  have ref : (refF W d).2.1.small := by
    have q1 := List.length_filter_le (fun z => !decide (z ∈ d.kept)) (srt (d.kvs.map (·.1)))
    have q2 := List.length_filter_le (fun z => !decide (z ∈ srt (d.kvs.map (·.1)))) d.kept
    exact ⟨by omega, by omega⟩
  have tur : (turnF W d).2.1.small := by
    unfold turnF
    split
    · trivial
    · split <;> trivial
  unfold doF
  split
  · trivial
  split
  · split <;> trivial
  split
  · split <;> trivial
  split
  · split
    · exact tur
    · trivial
  split
  · split
    · exact ref
    · trivial
  split
  · trivial
  split <;> trivial
/-- what is refused changes nothing -/
theorem doF_ref {W : Nat} {d : DyS} {w x : Str} (h : ¬ (doF W d w x).1 = "") : (doF W d w x).2.2 = d := by
  revert h
  unfold doF turnF refF
  repeat' split
  all_goals first | exact fun _ => rfl | exact fun h => absurd rfl h
/-- a step drawn is a step -/
theorem bits_S {l : List Nat} (h : Bits l) : bitsB (S l) = true := by
  unfold bitsB
  rw [show (S l).cps.toList = l by simp [SX.S]]
  refine List.all_eq_true.mpr fun c hc => ?_
  rcases h c hc with rfl | rfl <;> decide +kernel
theorem drawn_step {names : List Str} {W : Nat} {w x : Str} (p : PoolS W names) (h : DrawnOk names W w x) (hx : w ∈ thingV → x.length ≤ 12) : Legal names W w x ∧ stepB (rowOf w x) = true := by
  rcases h with ⟨rfl, h⟩ | h | ⟨h, h2⟩
  · refine ⟨.inl ⟨rfl, h⟩, ?_⟩
    rcases h with rfl | rfl <;> decide +kernel
  · refine ⟨.inr (.inl h), ?_⟩
    unfold rowOf
    rw [if_pos h]
    show inV (.str w) (aloneV.map V.str) = true
    rw [inV_strs]
    exact decide_eq_true h
  · have lx := hx h
    have na : w ∉ aloneV := fun z => by
      simp only [thingV, List.mem_cons, List.not_mem_nil, or_false] at h
      rcases h with rfl | rfl | rfl | rfl <;> revert z <;> decide +kernel
    have nw : ¬ w = "walk" := fun z => by subst z; revert h; decide +kernel
    have sb : someB x = true ∧ (x.length = W → x ∈ names) := by
      rcases h2 with hn | ⟨l, rfl, el, eb⟩
      · obtain ⟨l, rfl, el, eb⟩ := p.num x hn
        have e := SX.S_len l
        have w1 := p.w1
        refine ⟨?_, fun _ => hn⟩
        unfold someB
        rw [bits_S eb, decide_eq_true (show 1 ≤ (S l).length by omega), decide_eq_true lx]
        rfl
      · have e := SX.S_len (l ++ [49])
        rw [List.length_append, List.length_singleton] at e
        refine ⟨?_, fun z => by omega⟩
        unfold someB
        rw [bits_S (eb.snoc (.inr rfl)), decide_eq_true (show 1 ≤ (S (l ++ [49])).length by omega), decide_eq_true lx]
        rfl
    refine ⟨.inr (.inr ⟨h, lx, sb.2⟩), ?_⟩
    unfold rowOf
    rw [if_neg na]
    show (if w = "walk" then _ else inV (.str w) (thingV.map V.str) && someB x) = true
    rw [if_neg nw, sb.1, inV_strs, decide_eq_true h]
    rfl
end B

set_option Elab.async false
set_option linter.all false
set_option maxRecDepth 100000
set_option maxHeartbeats 4000000
namespace B
open PySem PySem.Spec PyProof.Rows L2
open SX (S)
theorem OAt.far {K : PySem.W.Frag} {H H' : Hp} {y : Addr} {M T : List Addr} {W : Nat} {d : DyS} (h : OAt H y M W d) (f : FrT K T H H') (n : NT T H) (o : ∀ x ∈ M, x ∉ T) : OAt H' y M W d := by
  obtain ⟨pm, dt, ml, pk, pr, pf, pp, pz, zr, zf, zp, pl, lw, sdm, rfl, h⟩ := h
  exact ⟨pm, dt, ml, pk, pr, pf, pp, pz, zr, zf, zp, pl, lw, sdm, rfl, h.stay f n (fun x hx => o x (List.mem_append_left [ml, pl] hx)) (o ml (by simp)) (o pl (by simp))⟩
theorem frm2 {H : Hp} {b c : Addr} {o o' : HO} : Frm [b, c] H (upd (upd H b o) c o') := ((Frm.refl _ _).put (by simp)).put (by simp)
theorem toF_app {W i : Nat} {rs : List (Str × Str)} {s t : Str × Str} (h : i < rs.length) : toF W (rs ++ [t]) i s = toF W rs i s := by
  unfold toF
  rw [List.take_append_of_le_length (Nat.le_of_lt h)]
theorem toF_last {W : Nat} {rs : List (Str × Str)} {s t : Str × Str} : toF W (rs ++ [t]) rs.length s = doF W (stL W rs) s.1 s.2 := by
  unfold toF
  rw [List.take_append_of_le_length (Nat.le_refl _), List.take_length]
theorem way2 {c : Prop} {G : Prop} {C R : Addr → Hp → Prop} (go : ∀ p H, C p H → R p H) (h1 : (∀ p H, C p H → R p H) → c → G) (h2 : (∀ p H, C p H → R p H) → ¬ c → G) : G := Classical.byCases (h1 go) (h2 go)
/-- where the loop over steps stands -/
structure Lin (H : Hp) (r a pn y st du : Addr) (names : List Str) (W k : Nat) (wd : Str) (zs : List (Addr × Str × Str)) (vs : List V) (M : List Addr) (d : DyS) : Prop where
  row : RowAt r a H
  pool : H pn = some (.lst (names.map V.str))
  own : OAt H y M W d
  inv : DInv names W (1 + 14 * k) d
  stp : H st = some (.lst (zs.map fun z => V.ref z.1))
  tup : ∀ z ∈ zs, H z.1 = some (.tup ((rowOf z.2.1 z.2.2).map V.str))
  due : H du = some (.lst vs)
  vl : vs.length = zs.length
  leg : ∀ z ∈ zs, Legal names W z.2.1 z.2.2 ∧ stepB (rowOf z.2.1 z.2.2) = true
  len : zs.length ≤ k
  ne : st ≠ du ∧ st ≠ r ∧ du ≠ r ∧ pn ≠ st ∧ pn ≠ du ∧ pn ≠ r
  out : ∀ x ∈ [r, st, du, pn], x ∉ M
  run : (wd = "" ∧ AllOk W (zs.map (·.2)) ∧ d = stL W (zs.map (·.2)) ∧ ToldL H (M ++ [r, st, du, pn]) W (zs.map (·.2)) vs) ∨ (¬ wd = "" ∧ ∃ rs0 s, zs.map (·.2) = rs0 ++ [s] ∧ AllOk W rs0 ∧ (doF W (stL W rs0) s.1 s.2).1 = wd)
section
variable {K : PySem.W.Frag} {H9 H12 H13 : Hp} {r a pn y st du : Addr} {names : List Str} {W j : Nat} {wd w x : Str} {zs : List (Addr × Str × Str)} {vs : List V} {M' M2 : List Addr} {d : DyS}
/-- where the loop stands behind a step done, before anything is appended -/
structure Mid (H13 : Hp) (r a pn y st du : Addr) (names : List Str) (W j : Nat) (zs : List (Addr × Str × Str)) (vs : List V) (M2 : List Addr) (d : DyS) : Prop where
  row : RowAt r a H13
  pool : H13 pn = some (.lst (names.map V.str))
  own : OAt H13 y M2 W d
  inv : DInv names W (1 + 14 * (j + 1)) d
  stp : H13 st = some (.lst (zs.map fun z => V.ref z.1))
  tup : ∀ z ∈ zs, H13 z.1 = some (.tup ((rowOf z.2.1 z.2.2).map V.str))
  due : H13 du = some (.lst vs)
  out : ∀ x ∈ [r, st, du, pn], x ∉ M2
theorem Lin.mid (l : Lin H9 r a pn y st du names W j wd zs vs M' d) (pool : PoolS W names) (leg : Legal names W w x) (f12 : Frm [r] H9 H12) (hR12 : RowAt r a H12) (f13 : Frm M' H12 H13) (nt12 : NT M' H12) (hM2 : ∀ x ∈ M2, x ∈ M' ∨ H12 x = none) (o13 : OAt H13 y M2 W (doF W d w x).2.2) : Mid H13 r a pn y st du names W j zs vs M2 (doF W d w x).2.2 := by
  have o := l.out
  have e := l.ne
  have p12 := f12.k _ _ l.pool rfl (by simpa using e.2.2.2.2.2)
  have s12 := f12.k _ _ l.stp rfl (by simpa using e.2.1)
  have d12 := f12.k _ _ l.due rfl (by simpa using e.2.2.1)
  have t12 : ∀ z ∈ zs, H12 z.1 = some (.tup ((rowOf z.2.1 z.2.2).map V.str)) := fun z hz => f12.k _ _ (l.tup z hz) rfl (fun q => by
    obtain ⟨_, _, _, z1, _⟩ := l.row
    have z2 := l.tup z hz
    rw [List.mem_singleton.mp q, z1] at z2
    cases z2)
  have some12 : ∀ x ∈ [r, st, du, pn], H12 x ≠ none := fun x hx z => by
    simp only [List.mem_cons, List.not_mem_nil, or_false] at hx
    rcases hx with rfl | rfl | rfl | rfl
    · obtain ⟨_, _, _, z1, _⟩ := hR12
      rw [z] at z1; cases z1
    · rw [s12] at z; cases z
    · rw [d12] at z; cases z
    · rw [p12] at z; cases z
  refine ⟨f13.row (o r (by simp)) hR12, f13.k _ _ p12 rfl (o pn (by simp)), o13, ?_, f13.k _ _ s12 rfl (o st (by simp)), fun z hz => f13.k _ _ (t12 z hz) rfl (nt12.out (t12 z hz) rfl), f13.k _ _ d12 rfl (o du (by simp)), fun x hx z => (hM2 x z).elim (o x hx) (some12 x hx)⟩
  have := doF_inv pool l.inv (by omega) leg
  rw [show 1 + 14 * (j + 1) = 1 + 14 * j + 14 by omega]
  exact this
theorem Mid.app (K : PySem.W.Frag) {v : V} {pS : Addr} (m : Mid H13 r a pn y st du names W j zs vs M2 d) (e : st ≠ du ∧ st ≠ r ∧ du ≠ r ∧ pn ≠ st ∧ pn ≠ du ∧ pn ≠ r) (vl : vs.length = zs.length) (len : zs.length ≤ j) (lg : ∀ z ∈ zs, Legal names W z.2.1 z.2.2 ∧ stepB (rowOf z.2.1 z.2.2) = true) (eS : H13 pS = some (.tup ((rowOf w x).map V.str))) (leg : Legal names W w x) (sok : stepB (rowOf w x) = true)
    (run : (wd = "" ∧ AllOk W (zs.map (·.2) ++ [(w, x)]) ∧ d = stL W (zs.map (·.2) ++ [(w, x)]) ∧ ToldL H13 (M2 ++ [r, st, du, pn]) W (zs.map (·.2) ++ [(w, x)]) (vs ++ [v])) ∨ (¬ wd = "" ∧ AllOk W (zs.map (·.2)) ∧ (doF W (stL W (zs.map (·.2))) w x).1 = wd)) :
    Lin (upd (upd H13 st (.lst ((zs.map fun z => V.ref z.1) ++ [.ref pS]))) du (.lst (vs ++ [v]))) r a pn y st du names W (j + 1) wd (zs ++ [(pS, w, x)]) (vs ++ [v]) M2 d := by
  have em : (zs ++ [(pS, w, x)]).map (·.2) = zs.map (·.2) ++ [(w, x)] := by rw [List.map_append]; rfl
  have du1 : (upd H13 st (.lst ((zs.map fun z => V.ref z.1) ++ [.ref pS]))) du = some (.lst vs) := by rw [upd_ne e.1.symm]; exact m.due
  have o1 := m.own.put K (o := .lst ((zs.map fun z => V.ref z.1) ++ [.ref pS])) (m.out st (by simp)) m.stp
  have o2 := o1.put K (o := .lst (vs ++ [v])) (m.out du (by simp)) du1
  have tp : ∀ {p : Addr} {xs : List V}, H13 p = some (.tup xs) → (upd (upd H13 st (.lst ((zs.map fun z => V.ref z.1) ++ [.ref pS]))) du (.lst (vs ++ [v]))) p = some (.tup xs) := fun {p xs} q => by
    rw [upd_ne (ne_of q m.due (by intro z; cases z)), upd_ne (ne_of q m.stp (by intro z; cases z))]
    exact q
  refine ⟨(m.row.ne e.2.1.symm).ne e.2.2.1.symm, by rw [upd_ne e.2.2.2.2.1, upd_ne e.2.2.2.1]; exact m.pool, o2, m.inv, by rw [upd_ne e.1, upd_same, List.map_append]; rfl, fun z hz => ?_, upd_same, by rw [List.length_append, List.length_append, vl]; rfl, fun z hz => ?_, by rw [List.length_append]; exact Nat.succ_le_succ len, e, m.out, ?_⟩
  · rcases List.mem_append.mp hz with c | c
    · exact tp (m.tup z c)
    · rw [List.mem_singleton.mp c]
      exact tp eS
  · rcases List.mem_append.mp hz with c | c
    · exact lg z c
    · rw [List.mem_singleton.mp c]
      exact ⟨leg, sok⟩
  · rw [em]
    rcases run with ⟨r1, r2, r3, r4⟩ | ⟨r1, r2, r3⟩
    · refine .inl ⟨r1, r2, r3, fun i s v' q1 q2 => ?_⟩
      obtain ⟨_, _, _, zr, _⟩ := m.row
      have nt : NT (M2 ++ [r, st, du, pn]) H13 := fun b hb => (List.mem_append.mp hb).elim (m.own.nt b) (NT.cons zr rfl (.cons m.stp rfl (.cons m.due rfl (.cons m.pool rfl .nil))) b)
      have f : Frm (M2 ++ [r, st, du, pn]) H13 (upd (upd H13 st (.lst ((zs.map fun z => V.ref z.1) ++ [.ref pS]))) du (.lst (vs ++ [v]))) := ((Frm.refl _ _).put (by simp)).put (by simp)
      exact (r4 i s v' q1 q2).keep (f.toN (K := K) nt) nt fun b hb => .inl hb
    · exact .inr ⟨r1, _, _, rfl, r2, r3⟩
theorem Lin.told (K : PySem.W.Frag) (l : Lin H9 r a pn y st du names W j wd zs vs M' d) (t : ToldL H9 (M' ++ [r, st, du, pn]) W (zs.map (·.2)) vs) (f12 : Frm [r] H9 H12) (f13 : Frm M' H12 H13) (nt12 : NT (M' ++ [r, st, du, pn]) H12) (nt9 : NT (M' ++ [r, st, du, pn]) H9) (hM2 : ∀ x ∈ M2, x ∈ M' ∨ H12 x = none) : ToldL H13 (M2 ++ [r, st, du, pn]) W (zs.map (·.2)) vs := fun i s v a b => by
  have g12 : FrT K (M' ++ [r, st, du, pn]) H9 H12 := (f12.mono (by simp)).toN nt9
  have g13 : FrT K (M' ++ [r, st, du, pn]) H12 H13 := (f13.mono fun x hx => List.mem_append_left _ hx).toN nt12
  exact ((t i s v a b).keep g12 nt9 fun x hx => .inl hx).keep g13 nt12 fun x hx => (List.mem_append.mp hx).elim (fun z => (hM2 x z).imp_left (List.mem_append_left _)) fun z => .inl (List.mem_append_right _ z)
end
theorem cut_to (xs : List V) (n : Nat) : cutV xs none (some (n : Int)) = xs.take n := by
  show (xs.drop 0).take (min n xs.length - 0) = xs.take n
  rw [List.drop_zero, Nat.sub_zero]
  rcases Nat.le_total n xs.length with h | h
  · rw [Nat.min_eq_left h]
  · rw [Nat.min_eq_right h, List.take_of_length_le (Nat.le_refl _), List.take_of_length_le h]
theorem cut_from {xs : List V} {n : Nat} (h : n ≤ xs.length) : cutV xs (some (n : Int)) none = xs.drop n := by
  show (xs.drop (min n xs.length)).take _ = _
  rw [Nat.min_eq_left h]
  refine List.take_of_length_le ?_
  rw [List.length_drop]
  show _ ≤ xs.length - min n xs.length
  rw [Nat.min_eq_left h]
  exact Nat.le_refl _
def rwD (r : List Str) : PyData := .tuple (r.map .str)
theorem dp_rw {K : PySem.W.Frag} {H : Hp} : ∀ {zs : List (Addr × List Str)}, (∀ z ∈ zs, H z.1 = some (.tup (z.2.map V.str))) → DpAll K H (zs.map fun z => V.ref z.1) (zs.map fun z => rwD z.2)
  | [], _ => .nil
  | z :: r, h => .cons (.tup (SqT.of (h z (by simp))) (dp_strs z.2)) (dp_rw fun y hy => h y (List.mem_cons_of_mem _ hy))
theorem lay_strs {r : List Str} (h : ∀ x ∈ r, PyData.strOk x = true) : PyData.canLayAll0 (r.map .str) = true := by
  rw [canLayAll_strs']
  exact List.all_eq_true.mpr h
theorem lay_rw {rs : List (List Str)} (h : ∀ r ∈ rs, ∀ x ∈ r, PyData.strOk x = true) : PyData.canLayAll0 (rs.map rwD) = true := by
  induction rs with
  | nil => rfl
  | cons q r ih =>
    have e1 : (rwD q).canLay0 = true := by
      show PyData.canLayAll0 (q.map .str) = true
      exact lay_strs (h q (by simp))
    have e2 := ih fun y hy => h y (List.mem_cons_of_mem _ hy)
    show ((rwD q).canLay0 && PyData.canLayAll0 (r.map rwD)) = true
    rw [e1, e2]
    rfl
theorem dep_strs (r : List Str) : PyData.depthAll (r.map .str) ≤ 1 := by
  rw [depthAll_strs']
  exact Nat.zero_le _
theorem dep_rw {rs : List (List Str)} : PyData.depthAll (rs.map rwD) ≤ 10 := by
  induction rs with
  | nil => exact Nat.zero_le _
  | cons q r ih =>
    show max ((rwD q).depth) (PyData.depthAll (r.map rwD)) ≤ 10
    have : (rwD q).depth ≤ 10 := by
      show PyData.depthAll (q.map .str) + 1 ≤ 10
      have := dep_strs q
      omega
    omega
theorem shaped_rw {rs : List (List Str)} (h : ∀ r ∈ rs, ∀ x ∈ r, PyData.strOk x = true) : SeqAt.shaped (.list (rs.map rwD)) = true := by
  have e1 : (PyData.list (rs.map rwD)).canLay0 = true := lay_rw h
  have e2 : (PyData.list (rs.map rwD)).depth ≤ 64 := by
    show PyData.depthAll (rs.map rwD) + 1 ≤ 64
    have := dep_rw (rs := rs)
    omega
  show ((PyData.list (rs.map rwD)).canLay0 && decide ((PyData.list (rs.map rwD)).depth ≤ 64)) = true
  rw [e1, decide_eq_true e2]
  rfl
theorem eqv_rw {rs : List (List Str)} (h : ∀ r ∈ rs, ∀ x ∈ r, PyData.strOk x = true) : PyData.eqv (.list (rs.map rwD)) (.list (rs.map rwD)) = true := SeqAt.eqv_refl _ (show (PyData.list (rs.map rwD)).canLay0 = true from lay_rw h)
theorem rowB_ok {r : List Str} (h : stepB r = true) : ∀ x ∈ r, PyData.strOk x = true := by
  have cA : ∀ x ∈ aloneV ++ thingV ++ kindV ++ [("walk" : Str)], PyData.strOk x = true := by decide +kernel
  match r, h with
  | [a], h =>
    have h' : inV (.str a) (aloneV.map V.str) = true := h
    rw [inV_strs, decide_eq_true_eq] at h'
    intro x hx
    rw [List.mem_singleton.mp hx]
    exact cA a (by simp [h'])
  | [a, b], h =>
    have h' : (if a = "walk" then inV (.str b) (kindV.map V.str) else inV (.str a) (thingV.map V.str) && someB b) = true := h
    intro x hx
    by_cases e : a = "walk"
    · rw [if_pos e, inV_strs, decide_eq_true_eq] at h'
      simp only [List.mem_cons, List.not_mem_nil, or_false] at hx
      rcases hx with rfl | rfl
      · exact cA _ (by simp [e])
      · exact cA _ (by simp [h'])
    · rw [if_neg e, Bool.and_eq_true, inV_strs, decide_eq_true_eq] at h'
      simp only [List.mem_cons, List.not_mem_nil, or_false] at hx
      rcases hx with rfl | rfl
      · exact cA _ (by simp [h'.1])
      · have z := h'.2
        unfold someB bitsB at z
        rw [Bool.and_eq_true, List.all_eq_true] at z
        show x.cps.all (· < 0x110000) = true
        rw [Array.all_eq_true']
        intro c hc
        have q := of_decide_eq_true (z.2 c (by simpa using hc))
        have e2 : ("01" : Str).cps.toList = [48, 49] := by decide +kernel
        rw [e2] at q
        simp only [List.mem_cons, List.not_mem_nil, or_false] at q
        rcases q with rfl | rfl <;> rfl
theorem shaped_si (x : Str) (i : Int) (h : PyData.strOk x = true) : SeqAt.shaped (.tuple [.str x, .int i]) = true := by
  show ((PyData.strOk x && (true && true)) && decide ((PyData.tuple [.str x, .int i]).depth ≤ 64)) = true
  rw [h]
  rfl
theorem eqv_si (x : Str) (i : Int) (h : PyData.strOk x = true) : PyData.eqv (.tuple [.str x, .int i]) (.tuple [.str x, .int i]) = true := SeqAt.eqv_refl _ (by
  show (PyData.strOk x && (true && true)) = true
  rw [h]
  rfl)
/-! ### the text, row by row -/
theorem fstV_one {rs : List RowV} {i j : Nat} (h : FstV rs i) (g : FstV rs j) : i = j := by
  obtain ⟨⟨x, hx, bx⟩, b2⟩ := h
  obtain ⟨⟨x', hx', bx'⟩, b2'⟩ := g
  rcases Nat.lt_trichotomy i j with q | q | q
  · rw [b2' i x q hx] at bx; cases bx
  · exact q
  · rw [b2 j x' q hx'] at bx'; cases bx'
/-- an odd row in the midst -/
theorem spoilt_fst {zs : List (Addr × RowV)} {z0 : Addr × RowV} {n : Nat} (hn : n ≤ zs.length) (n2 : n < 200) (good : ∀ z ∈ zs, z.2.ok = true) (bad : z0.2.ok = false) : FstV ((zs.take n ++ [z0] ++ zs.drop n).map (·.2)) n := by
  have tl : (zs.take n).length = n := by rw [List.length_take]; omega
  refine ⟨⟨z0.2, ?_, ?_⟩, fun j y hj hy => ?_⟩
  · rw [List.getElem?_map, List.append_assoc, List.getElem?_append_right (by omega), tl, Nat.sub_self]
    rfl
  · unfold badV
    rw [bad]
    simp
  · rw [List.getElem?_map, List.append_assoc, List.getElem?_append_left (by omega)] at hy
    cases e : (zs.take n)[j]? with
    | none => rw [e] at hy; cases hy
    | some z =>
      rw [e] at hy
      obtain rfl := Option.some.inj hy
      unfold badV
      rw [good z (List.mem_of_mem_take (List.mem_of_getElem? e)), decide_eq_false (by omega)]
      rfl
theorem if_nt {A B : Prop} (h : B) : if (!true) = true then A else B := h
theorem way3 {c : Prop} {G : Prop} {C R : Option V → Option V → Option V → Hp → Prop} (go : ∀ u v w H, C u v w H → R u v w H) (h1 : (∀ u v w H, C u v w H → R u v w H) → c → G) (h2 : (∀ u v w H, C u v w H → R u v w H) → ¬ c → G) : G := Classical.byCases (h1 go) (h2 go)
/-! ### the steps as rows -/
def zV (zs : List (Addr × Str × Str)) : List (Addr × RowV) := zs.map fun z => (z.1, .txt (rowOf z.2.1 z.2.2))
theorem zV_ref (zs : List (Addr × Str × Str)) : ((zV zs).map fun z => V.ref z.1) = zs.map fun z => V.ref z.1 := by
  unfold zV
  rw [List.map_map]
  rfl
theorem zV_eq (zs : List (Addr × Str × Str)) : (zV zs).map (·.2) = (zs.map (·.2)).map fun s => RowV.txt (rowOf s.1 s.2) := by
  unfold zV
  rw [List.map_map, List.map_map]
  rfl
theorem zV_rv {H : Hp} {p : Addr} {zs : List (Addr × Str × Str)} (h : H p = some (.lst (zs.map fun z => V.ref z.1))) (t : ∀ z ∈ zs, H z.1 = some (.tup ((rowOf z.2.1 z.2.2).map V.str))) : RV H p (zV zs) := by
  refine ⟨by rw [zV_ref]; exact h, fun z hz => ?_⟩
  obtain ⟨q, hq, rfl⟩ := List.mem_map.mp hz
  exact t q hq
theorem legal_sz {names : List Str} {W : Nat} {w x : Str} (h : Legal names W w x) : ∀ y ∈ rowOf w x, y.length ≤ 1000000 := by
  have ca : ∀ y ∈ aloneV ++ thingV ++ kindV ++ [("walk" : Str)], y.length ≤ 1000000 := by decide +kernel
  intro y hy
  unfold rowOf at hy
  rcases h with ⟨rfl, h⟩ | h | ⟨h, h2, _⟩
  · rw [if_neg (by decide +kernel)] at hy
    simp only [List.mem_cons, List.not_mem_nil, or_false] at hy
    rcases hy with rfl | rfl
    · decide +kernel
    · rcases h with rfl | rfl <;> decide +kernel
  · rw [if_pos h] at hy
    rw [List.mem_singleton.mp hy]
    exact ca w (by simp [h])
  · have hy' : y = w ∨ y = x := by
      split at hy
      · exact .inl (List.mem_singleton.mp hy)
      · simpa using hy
    rcases hy' with rfl | rfl
    · exact ca y (by simp [h])
    · omega
theorem zV_sz {names : List Str} {W : Nat} {zs : List (Addr × Str × Str)} (h : ∀ z ∈ zs, Legal names W z.2.1 z.2.2 ∧ stepB (rowOf z.2.1 z.2.2) = true) : ∀ z ∈ zV zs, z.2.sz := fun z hz => by
  obtain ⟨q, hq, rfl⟩ := List.mem_map.mp hz
  exact legal_sz (h q hq).1
theorem zV_ok {names : List Str} {W : Nat} {zs : List (Addr × Str × Str)} (h : ∀ z ∈ zs, Legal names W z.2.1 z.2.2 ∧ stepB (rowOf z.2.1 z.2.2) = true) : ∀ z ∈ zV zs, z.2.ok = true := fun z hz => by
  obtain ⟨q, hq, rfl⟩ := List.mem_map.mp hz
  exact (h q hq).2
theorem zV_no {names : List Str} {W : Nat} {zs : List (Addr × Str × Str)} (h : ∀ z ∈ zs, Legal names W z.2.1 z.2.2 ∧ stepB (rowOf z.2.1 z.2.2) = true) (hl : zs.length ≤ 200) : NoV ((zV zs).map (·.2)) := fun i x hx => by
  have hi := (List.getElem?_eq_some_iff.mp hx).1
  have le : (zV zs).length = zs.length := List.length_map ..
  rw [List.length_map, le] at hi
  obtain ⟨z, hz, e⟩ := List.mem_map.mp (List.mem_of_getElem? hx)
  unfold badV
  rw [decide_eq_false (show ¬ i = 200 by omega), ← e, zV_ok h z hz]
  rfl
/-! ### the words of what a day refuses -/
def refW : List Str := ["there", "not", "number", "over", "busy"]
theorem deedW_in {kvs : List (Str × Bool)} {w x : Str} (h : ¬ deedW kvs w x = "") : deedW kvs w x ∈ refW := by
  revert h
  unfold deedW
  repeat' split
  all_goals first | exact fun h => absurd rfl h | exact fun _ => by simp [refW]
theorem doF_word {W : Nat} {d : DyS} {w x : Str} (h : ¬ (doF W d w x).1 = "") : (doF W d w x).1 ∈ refW := by
  revert h
  have tur : ¬ (turnF W d).1 = "" → (turnF W d).1 ∈ refW := by
    unfold turnF
    repeat' split
    all_goals exact fun h => absurd rfl h
  have ref : ¬ (refF W d).1 = "" → (refF W d).1 ∈ refW := fun h => absurd rfl h
  unfold doF
  repeat' split
  all_goals first | exact fun h => absurd rfl h | exact tur | exact ref | exact fun h => deedW_in h | exact fun _ => by simp [refW]
section
variable {P : Program} {w : World} {K : PySem.W.Frag} {mg : Str → Option Value} {base : Heap}
theorem word_BadNumber (T : Txt P w K mg base) : WordC K (.ref (He.ga K "BadNumber")) 1 "number" := by
  obtain ⟨a, b, c, d⟩ := He.exc_ok (T.t.fact 129 (f := .exc "BadNumber"))
  exact word_of T (by decide) (by assumption) (He.exm_ok (T.t.fact 135)) (by decide) rfl rfl ⟨by decide +kernel, by decide +kernel⟩
theorem word_Over (T : Txt P w K mg base) : WordC K (.ref (He.ga K "Over")) 7 "over" := by
  obtain ⟨a, b, c, d⟩ := He.exc_ok (T.t.fact 133 (f := .exc "Over"))
  exact word_of T (by decide) (by assumption) (He.exm_ok (T.t.fact 139)) (by decide) rfl rfl ⟨by decide +kernel, by decide +kernel⟩
theorem word_Busy (T : Txt P w K mg base) : WordC K (.ref (He.ga K "Busy")) 8 "busy" := by
  obtain ⟨a, b, c, d⟩ := He.exc_ok (T.t.fact 134 (f := .exc "Busy"))
  exact word_of T (by decide) (by assumption) (He.exm_ok (T.t.fact 140)) (by decide) rfl rfl ⟨by decide +kernel, by decide +kernel⟩
theorem refd_D (T : Txt P w K mg base) {wd : Str} {H : Hp} {Q : VK} (h : wd ∈ refW) (k : ∀ H3, Frm [] H H3 → Q (.str wd) H3) : Refd K (.ref (errD K wd)) none H Q := by
  simp only [refW, List.mem_cons, List.not_mem_nil, or_false] at h
  rcases h with rfl | rfl | rfl | rfl | rfl
  · exact Refd.plain (word_There T) rfl k
  · exact Refd.plain (word_NotThere T) rfl k
  · exact Refd.plain (word_BadNumber T) rfl k
  · exact Refd.plain (word_Over T) rfl k
  · exact Refd.plain (word_Busy T) rfl k
end
/-! ### turns alone -/
def turnsZ (t : Addr) (n : Nat) : List (Addr × Str × Str) := List.replicate n (t, ("turn" : Str), ("" : Str))
theorem turnsZ_ref (t : Addr) (n : Nat) : (List.replicate n [V.ref t]).flatten = (turnsZ t n).map fun z => V.ref z.1 := by
  unfold turnsZ
  rw [List.map_replicate]
  induction n with
  | zero => rfl
  | succ n ih => rw [List.replicate_succ, List.replicate_succ, List.flatten_cons, ih]; rfl
theorem turn_row : rowOf "turn" "" = [("turn" : Str)] := by unfold rowOf; rw [if_pos (by decide +kernel)]
theorem turn_step : stepB [("turn" : Str)] = true := by decide +kernel
theorem turnsZ_mem {t : Addr} {n : Nat} {z : Addr × Str × Str} (h : z ∈ turnsZ t n) : z = (t, ("turn" : Str), ("" : Str)) := List.eq_of_mem_replicate h
theorem turn_do {W : Nat} {d : DyS} {x : Str} (h : d.wk.sd = none) : (doF W d "turn" x).1 = "" ∧ (doF W d "turn" x).2.2.wk = d.wk := by
  have e : doF W d "turn" x = turnF W d := by
    unfold doF
    rw [if_neg (by decide +kernel), if_neg (by decide +kernel), if_neg (by decide +kernel), if_pos rfl, if_pos h]
  rw [e]
  unfold turnF
  split
  · exact ⟨rfl, rfl⟩
  · split <;> exact ⟨rfl, rfl⟩
theorem turns_wk {W : Nat} : ∀ n : Nat, (stL W (List.replicate n (("turn" : Str), ("" : Str)))).wk.sd = none
  | 0 => rfl
  | n + 1 => by
    rw [List.replicate_succ', stL_snoc, (turn_do (turns_wk n)).2]
    exact turns_wk n
theorem turns_ok {W n : Nat} : AllOk W (List.replicate n (("turn" : Str), ("" : Str))) := fun i s hs => by
  have e := List.eq_of_mem_replicate (List.mem_of_getElem? hs)
  subst e
  unfold toF
  rw [List.take_replicate]
  exact (turn_do (turns_wk _)).1
theorem pool3 : PoolS 3 [("000" : Str)] := ⟨by simp, by decide, fun x hx => ⟨[48, 48, 48], by rw [List.mem_singleton.mp hx]; decide +kernel, rfl, fun c hc => by simp only [List.mem_cons, List.not_mem_nil, or_false] at hc; rcases hc with rfl | rfl | rfl <;> exact .inl rfl⟩, by decide, by decide⟩
theorem turns_leg {t : Addr} {n : Nat} : ∀ z ∈ turnsZ t n, Legal ["000"] 3 z.2.1 z.2.2 ∧ stepB (rowOf z.2.1 z.2.2) = true := fun z hz => by
  rw [turnsZ_mem hz, turn_row]
  exact ⟨.inr (.inl (show ("turn" : Str) ∈ aloneV by decide +kernel)), turn_step⟩
theorem turns_fst {t : Addr} {n : Nat} (h : 200 < n) : FstV ((zV (turnsZ t n)).map (·.2)) 200 := by
  have e : (zV (turnsZ t n)).map (·.2) = List.replicate n (RowV.txt ["turn"]) := by
    unfold zV turnsZ
    rw [List.map_replicate, List.map_replicate, turn_row]
  rw [e]
  refine ⟨⟨.txt ["turn"], by rw [List.getElem?_replicate, if_pos h], by unfold badV; rw [decide_eq_true rfl]; rfl⟩, fun j y hj hy => ?_⟩
  have ey := List.eq_of_mem_replicate (List.mem_of_getElem? hy)
  subst ey
  unfold badV
  rw [decide_eq_false (by omega)]
  show (!stepB [("turn" : Str)]) = false
  rw [turn_step]
  rfl
end B

set_option Elab.async false
set_option linter.all false
set_option maxRecDepth 100000
set_option maxHeartbeats 4000000
namespace B
open PySem PySem.Spec PyProof.Rows L2
open SX (S)
section
variable {P : Program} {w : World} {K : PySem.W.Frag} {mg : Str → Option Value} {base : Heap}
def spLaw (K : PySem.W.Frag) : Sp := fun vs H Q _ => ∃ a : Addr, vs = [.ref a] ∧ Scr K a H ∧ Tb K H ∧ ∀ H', Q (.bl true) H'
theorem lam_law : (pd_law, ("law.<locals>.<lambda>" : Str)) ∈ lams := by decide +kernel
theorem law_ok (T : Txt P w K mg base) {fd : FuncData} (F : FunD K d_law.name d_law.qual d_law.params d_law.body d_law.scope (He.DefD.dvs K d_law) (He.DefD.kws K d_law) (He.fAd K d_law.at_) fd) : FnOk P w K mg base CX0 14 (He.fAd K d_law.at_) fd ["_law_script"] (spLaw K) := by
  refine okT (p := pd_law) F sc_law (fun vs H Q E h => ?_) (fun A outer s H vs Q E hr h => ?_)
  · obtain ⟨a, rfl, _⟩ := h
    rfl
  · obtain ⟨a, rfl, hS, ht, k⟩ := h
    have hu := hu_of hr
    refine ⟨_, PSs.nox (pss_cons (ps_set (i := 1) sc_law.nd rfl (Or.inl rfl) (pe_lst (pa_cons (pv 0) (pa_cons pe_int (pa_cons pe_int (pa_cons pe_int pa_nil))))))
    (pss_cons (ps_for PassesOwn.never rfl (pi_range1 rfl (n_range T) (pa_cons pe_int pa_nil)) (pg_name (i := 2) sc_law.nd rfl (Or.inl rfl))
      (pss_cons (ps_set (i := 3) sc_law.nd rfl (Or.inr rfl) (pe_cx (c_lwidth T) hr (by decide) rfl pass0 (pa_cons (pv 1) pa_nil)))
      (pss_cons (ps_set (i := 4) sc_law.nd rfl (Or.inl rfl) (pe_cx (c_lpool T) hr (by decide) rfl pass0 (pa_cons (pv 1) (pa_cons (pv 3) pa_nil))))
      (pss_cons (ps_set (i := 5) sc_law.nd rfl (Or.inl rfl) (pe_cx (c_lday T) hr (by decide) rfl pass0 (pa_cons (pv 3) pa_nil)))
      (pss_cons (ps_par3 (i := 6) (j := 7) (k := 8) (by rfl) sc_law.nd rfl rfl rfl (by decide) (by decide) (by decide) rfl rfl rfl (pa_cons (pe_lst pa_nil) (pa_cons (pe_lst pa_nil) (pa_cons pe_str pa_nil))) (by rfl))
      (pss_cons (ps_for PassesOwn.never rfl (pi_range1 rfl (n_range T) (pa_cons (pe_ix ix_list (pe_lst (pa_cons (pe_cx (c_ltaken T) hr (by decide) rfl pass0 (pa_cons (pv 1) (pa_cons pe_int pa_nil))) (pa_cons pe_int pa_nil))) (pe_callTy call_int1 (by rfl) (n_int T) (by decide +kernel) (pa_cons (pe_cmpR op_eq (pe_cx (c_ltaken T) hr (by decide) rfl pass0 (pa_cons (pv 1) (pa_cons pe_int pa_nil))) pe_int (nomark _)) pa_nil)) (fun _ _ => rfl)) pa_nil)) (pg_name (i := 9) sc_law.nd rfl (Or.inl rfl))
        (pss_cons (ps_set (i := 10) sc_law.nd rfl (Or.inl rfl) (pe_slice sl_tupA (pe_cx (c_ldrawn T) hr (by decide) rfl pass0 (pa_cons (pv 1) (pa_cons (pv 4) pa_nil))) po_none (po_some pe_int)))
        (pss_cons (ps_if (PW.pt (pw_and (pt_cmpR op_eq (pe_callB call_len_seq (by rfl) (n_len T) PySem.boot_len (pa_cons (pv 10) pa_nil)) pe_int (nomark _)) (pw_and1 (pt_cmpR op_gt (pe_callB call_len_str (by rfl) (n_len T) PySem.boot_len (pa_cons (pe_ix ix_tup (pv 10) pe_int (fun _ _ => rfl)) pa_nil)) pe_int (nomark _)))))
          (pss_one (ps_set (i := 10) sc_law.nd rfl (Or.inl rfl) (pe_tup (pa_cons pe_str pa_nil))))
          pss_nil)
        (pss_cons (ps_asg (pe_cx (c_ldo T) hr (by decide) rfl pass0 (pa_cons (pv 5) (pa_cons (pv 10) pa_nil))) (pg_tup rfl (pgs_cons (pg_name (i := 11) sc_law.nd rfl (Or.inl rfl)) (pgs_cons (pg_name (i := 12) sc_law.nd rfl (Or.inl rfl)) pgs_nil))))
        (pss_one (ps_if (PW.pt (pw_and (pt_cmpR op_eq (pv 8) pe_str (nomark _)) (pw_and1 (PW.pt (pw_or (pt_cmpR op_eq (pv 11) pe_str (nomark _)) (pw_or1 (pt_cmpR op_eq (pe_cx (c_ltaken T) hr (by decide) rfl pass0 (pa_cons (pv 1) (pa_cons pe_int pa_nil))) pe_int (nomark _))))))))
          (pss_cons (ps_expr (pe_bm PySem.F.plainAttrs_list PySem.F.slot_list_append PySem.F.type_list_append mt_append (pv 6) (pa_cons (pv 10) pa_nil)))
          (pss_cons (ps_expr (pe_bm PySem.F.plainAttrs_list PySem.F.slot_list_append PySem.F.type_list_append mt_append (pv 7) (pa_cons (pv 12) pa_nil)))
          (pss_one (ps_set (i := 8) sc_law.nd rfl (Or.inl rfl) (pv 11)))))
          pss_nil))))))
      (pss_cons (ps_set (i := 13) sc_law.nd rfl (Or.inr rfl) (pe_callTy call_list_of (by rfl) (n_list T) (by decide +kernel) (pa_cons (pv 6) pa_nil)))
      (pss_cons (ps_if (pt_cmpR op_ne (pv 8) pe_str (nomark _))
        (pss_one (ps_if (pt_cmpR op_ne (pe_word0 (k := 10) T rfl rfl (fun _ _ _ _ _ _ => rfl) (T.tb pd_law (by decide +kernel)) rfl (hr.mono (by decide)) (lamP_by (N := ["_law_script", "_law_row", "_law_turn_here", "_law_width_here", "_law_names", "_law_day_here", "_law_steps", "_law_due", "_law_word_here", "_law_k", "_law_step_here", "_law_refused", "_law_told", "_law_handed", "_law_again", "_law_found", "_law_at", "_law_odd_here", "_law_spoilt", "_law_many"]) (sc := defScope s_law) (by decide +kernel)) (fun _ _ _ _ _ _ _ hr => (pe_cx (c_played T) hr (by decide) rfl (passes_call (takes_of rfl rfl rfl rfl) (fun _ _ _ _ h => h)) (pa_cons (pv 3) (pa_cons (pv 13) pa_nil)))) rfl) (pv 8) (nomark _))
          (pss_one (ps_ret pe_bl))
          pss_nil))
        (pss_cons (ps_set (i := 7) sc_law.nd rfl (Or.inl rfl) (pe_tup (pa_cons (pv 7) (pa_cons (pe_callB (call_sortedD rfl) (by rfl) (n_sorted T) (by decide +kernel) (pa_cons (pe_dget hu (pe_dget hu (pv 5) pe_str (fun _ _ => rfl)) pe_str (fun _ _ => rfl)) pa_nil)) (pa_cons (pe_dget hu (pe_dget hu (pv 5) pe_str (fun _ _ => rfl)) pe_str (fun _ _ => rfl)) pa_nil)))))
        (pss_one (ps_for PassesOwn.never rfl (pi_range1 rfl (n_range T) (pa_cons pe_int pa_nil)) (pg_name (i := 14) sc_law.nd rfl (Or.inl rfl))
          (pss_cons (ps_set (i := 15) sc_law.nd rfl (Or.inl rfl) (pe_cx (c_played T) hr (by decide) rfl (passes_call (E := fun _ _ _ => False) L2.takes0 (fun _ _ _ _ h => h)) (pa_cons (pv 3) (pa_cons (pv 13) pa_nil))))
          (pss_cons (ps_if (PW.pt (pw_or (pt_not (pt_val (pe_cx (c_lalike4 T) hr (by decide) rfl pass0 (pa_cons (pv 15) (pa_cons (pv 7) pa_nil))))) (pw_or1 (pt_cmpR (op_neD hr.units) (pv 13) (pv 6) (nomark _)))))
            (pss_one (ps_ret pe_bl))
            pss_nil)
          (pss_cons (ps_expr (pe_bm PySem.F.plainAttrs_list PySem.F.slot_list_append PySem.F.type_list_append mt_append (pe_ix ix_tup (pv 15) pe_int (fun _ _ => rfl)) (pa_cons pe_non pa_nil)))
          (pss_one (ps_expr (pe_bm PySem.F.plainAttrs_list PySem.F.slot_list_append PySem.F.type_list_append mt_append (pe_ix ix_tup (pv 15) pe_int (fun _ _ => rfl)) (pa_cons pe_str pa_nil)))))))))))
      (pss_cons (ps_set (i := 16) sc_law.nd rfl (Or.inl rfl) (pe_cx (c_ltaken T) hr (by decide) rfl pass0 (pa_cons (pv 1) (pa_cons (pe_op op_add (pe_callB call_len_seq (by rfl) (n_len T) PySem.boot_len (pa_cons (pv 6) pa_nil)) pe_int) pa_nil))))
      (pss_cons (ps_set (i := 17) sc_law.nd rfl (Or.inl rfl) (pe_cx (c_lodd T) hr (by decide) rfl pass0 (pa_cons (pv 1) pa_nil)))
      (pss_cons (ps_set (i := 18) sc_law.nd rfl (Or.inr rfl) (pe_op op_cat (pe_op op_cat (pe_slice sl_list (pv 6) po_none (po_some (pv 16))) (pe_lst (pa_cons (pv 17) pa_nil))) (pe_slice sl_list (pv 6) (po_some (pv 16)) po_none)))
      (pss_one (ps_if (PW.pt (pw_and (pt_cmpR op_lt (pv 16) pe_int (nomark _)) (pw_and1 (pt_cmpR (op_neD hr.units) (pe_word0 (k := 10) T rfl rfl (fun _ _ _ _ _ _ => rfl) (T.tb pd_law (by decide +kernel)) rfl (hr.mono (by decide)) (lamP_by (N := ["_law_script", "_law_row", "_law_turn_here", "_law_width_here", "_law_names", "_law_day_here", "_law_steps", "_law_due", "_law_word_here", "_law_k", "_law_step_here", "_law_refused", "_law_told", "_law_handed", "_law_again", "_law_found", "_law_at", "_law_odd_here", "_law_spoilt", "_law_many"]) (sc := defScope s_law) (by decide +kernel)) (fun _ _ _ _ _ _ _ hr => (pe_cx (c_played T) hr (by decide) rfl (passes_call (takes_of rfl rfl rfl rfl) (fun _ _ _ _ h => h)) (pa_cons (pv 3) (pa_cons (pv 18) pa_nil)))) rfl) (pe_tup (pa_cons pe_str (pa_cons (pv 16) pa_nil))) (nomark _)))))
        (pss_one (ps_ret pe_bl))
        pss_nil)))))))))))))
    (pss_cons (ps_set (i := 19) sc_law.nd rfl (Or.inr rfl) (pe_op op_rep (pe_lst (pa_cons (pe_tup (pa_cons pe_str pa_nil)) pa_nil)) (pe_op op_add pe_int (pe_cx (c_ltaken T) hr (by decide) rfl pass0 (pa_cons (pv 1) (pa_cons pe_int pa_nil))))))
    (pss_cons (ps_if (pt_cmpR (op_neD hr.units) (pe_word0 (k := 10) T rfl rfl (fun _ _ _ _ _ _ => rfl) (T.tb pd_law (by decide +kernel)) rfl (hr.mono (by decide)) (lamP_by (N := ["_law_script", "_law_row", "_law_turn_here", "_law_width_here", "_law_names", "_law_day_here", "_law_steps", "_law_due", "_law_word_here", "_law_k", "_law_step_here", "_law_refused", "_law_told", "_law_handed", "_law_again", "_law_found", "_law_at", "_law_odd_here", "_law_spoilt", "_law_many"]) (sc := defScope s_law) (by decide +kernel)) (fun _ _ _ _ _ _ _ hr => (pe_cx (c_played T) hr (by decide) rfl (passes_call (takes_of rfl rfl rfl rfl) (fun _ _ _ _ h => h)) (pa_cons pe_int (pa_cons (pv 19) pa_nil)))) rfl) (pe_tup (pa_cons pe_str (pa_cons pe_int pa_nil))) (nomark _))
      (pss_one (ps_ret pe_bl))
      pss_nil)
    (pss_one (ps_ret (pe_cmpR op_eq (pe_callB call_len_seq (by rfl) (n_len T) PySem.boot_len (pa_cons (pe_ix ix_tup (pe_cx (c_played T) hr (by decide) rfl (passes_call (E := fun _ _ _ => False) L2.takes0 (fun _ _ _ _ h => h)) (pa_cons pe_int (pa_cons (pe_slice sl_list (pv 19) po_none (po_some pe_int)) pa_nil))) pe_int (fun _ _ => rfl)) pa_nil)) pe_int (nomark _)))))))), ?_⟩
    refine ⟨_, rfl, by show 4 ≤ sizeLine; decide, fun r hr0 => ?_⟩
    have hR0 : RowAt r a (upd H r (.lst [.ref a, .int 0, .int 0, .int 0])) := ⟨0, 0, 0, upd_same, by decide⟩
    have f0 : Frm [] H (upd H r (.lst [.ref a, .int 0, .int 0, .int 0])) := Frm.of (same_upd hr0)
    refine ⟨3, rfl, by decide, by decide, ?_⟩
    refine for_range (lo := 0) (n := (3 : Int).toNat) (fun i σ H' => ∃ (v2 v3 v4 v5 v6 v7 v8 v9 v10 v11 v12 v13 v14 v15 v16 v17 v18 v19 : Option V), σ = [some (.ref a), some (.ref r), v2, v3, v4, v5, v6, v7, v8, v9, v10, v11, v12, v13, v14, v15, v16, v17, v18, v19] ∧ RowAt r a H' ∧ FrT K [] H H')
      ⟨none, none, none, none, none, none, none, none, none, none, none, none, none, none, none, none, none, none, rfl, hR0, f0.toT .nil⟩ ?_ ?_
    · rintro i σ H1 hi ⟨v2, v3, v4, v5, v6, v7, v8, v9, v10, v11, v12, v13, v14, v15, v16, v17, v18, v19, rfl, hR1, fb⟩
      refine ⟨_, rfl, r, a, rfl, hR1, fb.scr .nil hS, fun W H2 w1 w2 hR2 f2 => ?_⟩
      have fb2 := fb.fresh (f2.toT hR1.nl) (by simpa using hr0)
      refine ⟨_, rfl, _, rfl, r, a, W, rfl, hR2, fb2.scr .nil hS, w2, fun names pn H3 hne hnum hlen hnd _ hpn hR3 f3 => ?_⟩
      have fb3 := fb2.fresh (f3.toT hR2.nl) (by simpa using hr0)
      have pool : PoolS W names := ⟨hne, by omega, hnum, w1, w2⟩
      refine ⟨_, rfl, W, rfl, fun y M H4 hM oa4 f4 => ?_⟩
      have fb4 := fb3.trans (f4.toT .nil)
      have hR4 : RowAt r a H4 := f4.row (by simp) hR3
      have hp4 := f4.k _ _ hpn rfl (by simp)
      refine ⟨Nat.zero_le _, fun st hst => ⟨Nat.zero_le _, fun du hdu => ⟨_, _, _, rfl, ?_⟩⟩⟩
      have n1 : st ≠ du := ne_of_none upd_same hdu
      have g5 : Frm [] H4 (upd (upd H4 st (.lst [])) du (.lst [])) := (Frm.of (same_upd hst)).trans (Frm.of (same_upd hdu))
      have st5 : (upd (upd H4 st (.lst [])) du (.lst [])) st = some (.lst []) := by rw [upd_ne n1]; exact upd_same
      have du5 : (upd (upd H4 st (.lst [])) du (.lst [])) du = some (.lst []) := upd_same
      have hdu4 : H4 du = none := upd_back hdu
      revert g5 st5 du5
      generalize (upd (upd H4 st (.lst [])) du (.lst [])) = H5
      intro g5 st5 du5
      have hR5 : RowAt r a H5 := g5.row (by simp) hR4
      have fb5 := fb4.trans (g5.toT .nil)
      have hp5 := g5.k _ _ hp4 rfl (by simp)
      have oa5 := oa4.stay0 (K := K) (g5.toT .nil)
      have npr : pn ≠ r := row_neD hR3 hpn
      have rNone : ∀ {x : Addr}, H4 x = none → x ≠ r := fun e z => by
        obtain ⟨_, _, _, q, _⟩ := hR4
        rw [← z, e] at q
        cases q
      have M4 : ∀ x ∈ M, H3 x = none := hM
      have outM : ∀ x ∈ [r, st, du, pn], x ∉ M := fun x hx z => by
        have e := M4 x z
        simp only [List.mem_cons, List.not_mem_nil, or_false] at hx
        rcases hx with rfl | rfl | rfl | rfl
        · obtain ⟨_, _, _, q, _⟩ := hR3
          rw [e] at q
          cases q
        · obtain ⟨o, q, _⟩ := oa4.nt x z
          rw [hst] at q
          cases q
        · obtain ⟨o, q, _⟩ := oa4.nt x z
          rw [hdu4] at q
          cases q
        · rw [hpn] at e
          cases e
      -- how many steps
      refine ⟨_, rfl, r, a, 41, rfl, hR5, fb5.scr .nil hS, by decide, by decide, fun n0 H6 m0 m1 hR6 f6 => ?_⟩
      have fb6 := fb5.fresh (f6.toT hR5.nl) (by simpa using hr0)
      refine ⟨by show 2 ≤ sizeLine; decide, fun L hL => ?_⟩
      have g7 : Frm [] H6 (upd H6 L (.lst [.int n0, .int 200])) := Frm.of (same_upd hL)
      have l7 : (upd H6 L (.lst [.int n0, .int 200])) L = some (.lst [.int n0, .int 200]) := upd_same
      have nLr : L ≠ r := fun z => by
        obtain ⟨_, _, _, q, _⟩ := hR6
        rw [← z, hL] at q
        cases q
      revert g7 l7
      generalize (upd H6 L (.lst [.int n0, .int 200])) = H7
      intro g7 l7
      have hR7 : RowAt r a H7 := g7.row (by simp) hR6
      have fb7 := fb6.trans (g7.toT .nil)
      refine ⟨_, rfl, r, a, 8, rfl, hR7, fb7.scr .nil hS, by decide, by decide, fun u H8 u0 u1 hR8 f8 => ⟨rfl, .inr ⟨_, rfl, ?_⟩⟩⟩
      have fb8 := fb7.fresh (f8.toT hR7.nl) (by simpa using hr0)
      generalize decide (V.int u = V.int 7) = bb
      obtain ⟨n, hn, hat⟩ : ∃ n : Nat, n ≤ 200 ∧ atI [V.int n0, V.int 200] (if bb = true then 1 else 0) = some (.int n) := by
        cases bb with
        | false => exact ⟨n0.toNat, by omega, by rw [Int.toNat_of_nonneg m0]; rfl⟩
        | true => exact ⟨200, Nat.le_refl _, rfl⟩
      refine ⟨L, _, _, .int n, rfl, rfl, SqL.of (f8.k _ _ l7 rfl (by simpa using nLr)), hat, ?_⟩
      refine ⟨n, rfl, by omega, by omega, ?_⟩
      have f58 : Frm [r] H5 H8 := (f6.trans (g7.mono (by simp))).trans f8
      have strn : st ≠ r := rNone hst
      have dutn : du ≠ r := rNone hdu4
      have pst : pn ≠ st := ne_of_none hp4 hst
      have pdu : pn ≠ du := ne_of_none hp4 hdu4
      have nrM : ∀ x ∈ M, x ∉ [r] := fun x hx z => outM r (by simp) (by rw [← List.mem_singleton.mp z]; exact hx)
      have oa8 : OAt H8 y M W dy0 := oa5.far (f58.toT (K := K) hR5.nl) (NT.of hR5.nl) (fun x hx z => outM r (by simp) (by rw [← List.mem_singleton.mp z]; exact hx))
      have lin0 : Lin H8 r a pn y st du names W 0 "" [] [] M dy0 := ⟨hR8, f58.k _ _ hp5 rfl (by simpa using npr), oa8, dinv0, f58.k _ _ st5 rfl (by simpa using strn), fun z hz => absurd hz (by simp), f58.k _ _ du5 rfl (by simpa using dutn), rfl, fun z hz => absurd hz (by simp), Nat.le_refl _, ⟨n1, strn, dutn, pst, pdu, npr⟩, outM, .inl ⟨rfl, fun i s h => (by cases h), rfl, fun i s v h => (by cases h)⟩⟩
      have mutb : ∀ x ∈ M ++ [r, st, du], H x = none := fun x hx => by
        rcases List.mem_append.mp hx with hx | hx
        · exact fb3.b _ (M4 x hx)
        · simp only [List.mem_cons, List.not_mem_nil, or_false] at hx
          rcases hx with rfl | rfl | rfl
          · exact hr0
          · exact fb4.b _ hst
          · exact fb4.b _ hdu4
      refine for_range (lo := 0) (n := n) (fun j σ H' => ∃ (v9 v10 v11 v12 : Option V) (wd : Str) (zs : List (Addr × Str × Str)) (vs : List V) (M' : List Addr) (d : DyS), σ = [some (.ref a), some (.ref r), some (.int (0 + (i : Int))), some (.int W), some (.ref pn), some (.ref y), some (.ref st), some (.ref du), some (.str wd), v9, v10, v11, v12, v13, v14, v15, v16, v17, v18, v19] ∧ Lin H' r a pn y st du names W j wd zs vs M' d ∧ (∀ x ∈ M', H x = none) ∧ (∀ z ∈ zs, H z.1 = none) ∧ FrT K [] H H')
        ⟨v9, v10, v11, v12, "", [], [], M, dy0, rfl, lin0, fun x hx => mutb x (List.mem_append_left _ hx), fun z hz => absurd hz (by simp), fb8⟩ ?_ ?_
      · rintro j σ H9 hj ⟨v9, v10, v11, v12, wd, zs, vs, M', d, rfl, lin, hM', hz9, fb9⟩
        refine ⟨_, rfl, _, rfl, r, a, pn, W, names, rfl, lin.row, fb9.scr .nil hS, lin.pool, pool, fun t w x H10 htt et dr hR10 f10 => ?_⟩
        refine ⟨2, rfl, t, _, rfl, SqT.of et, fun _ => ?_, fun no => absurd (by unfold rowOf; split <;> exact ⟨rfl, rfl⟩) no⟩
        have hp9 := htt
        refine @way2 (w ∈ aloneV) _ (fun p H' => ∃ w x, H9 p = none ∧ H' p = some (.tup ((rowOf w x).map V.str)) ∧ Legal names W w x ∧ stepB (rowOf w x) = true ∧ RowAt r a H' ∧ Frm [r] H9 H') ?R ?go ?h1 ?h2
        case h2 =>
          intro go ha
          have er : rowOf w x = [w, x] := by unfold rowOf; rw [if_neg ha]
          rw [er] at et
          have lx : x.length ≤ 13 := by
            rcases dr with ⟨_, z | z⟩ | z | ⟨_, z | ⟨l, e, el, _⟩⟩
            · rw [z]; decide +kernel
            · rw [z]; decide +kernel
            · exact absurd z ha
            · obtain ⟨l, e, el, _⟩ := hnum x z
              rw [e, SX.S_len]
              omega
            · rw [e, SX.S_len, List.length_append, List.length_singleton]
              omega
          refine ⟨_, rfl, t, _, rfl, .inr (SqT.of et), rfl, _, rfl, ?_⟩
          rw [int_dec, decide_eq_true (show ((([w, x].map V.str).length : Nat) : Int) = 2 from rfl)]
          refine ⟨_, rfl, t, _, 1, .str x, rfl, rfl, SqT.of et, atI_nat (j := 1) rfl, x, rfl, szL (by omega), x.length, 12, rfl, rfl, _, rfl, ?_⟩
          refine iteB (fun c => ?_) (fun c => ?_)
          · refine ⟨by show 1 ≤ sizeLine; decide, fun p2 hp2 => ?_⟩
            have g11 : Frm [] H10 (upd H10 p2 (.tup [.str "step"])) := Frm.of (same_upd hp2)
            have e11 : (upd H10 p2 (.tup [.str "step"])) p2 = some (.tup [.str "step"]) := upd_same
            have hp29 : H9 p2 = none := f10.b _ hp2
            revert g11 e11
            generalize (upd H10 p2 (.tup [.str "step"])) = H11
            intro g11 e11
            have as : ("step" : Str) ∈ aloneV := by decide +kernel
            exact go p2 H11 ⟨"step", "", hp29, by unfold rowOf; rw [if_pos as]; exact e11, .inr (.inl as), by unfold rowOf; rw [if_pos as]; decide +kernel, g11.row (by simp) hR10, f10.trans (g11.mono (by simp))⟩
          · have ds := drawn_step pool dr (fun _ => by have := of_decide_eq_false c; omega)
            exact go t H10 ⟨w, x, hp9, by rw [er]; exact et, ds.1, ds.2, hR10, f10⟩
        case h1 =>
          intro go ha
          have er : rowOf w x = [w] := by unfold rowOf; rw [if_pos ha]
          rw [er] at et
          have ds := drawn_step pool dr (fun z => absurd ha (by revert z; simp only [thingV, aloneV]; intro z q; revert z q; simp only [List.mem_cons, List.not_mem_nil, or_false]; rintro (rfl | rfl | rfl | rfl) <;> decide +kernel))
          refine ⟨_, rfl, t, _, rfl, .inr (SqT.of et), rfl, _, rfl, ?_⟩
          rw [int_dec, decide_eq_false (show ¬ ((([w].map V.str).length : Nat) : Int) = 2 from (by decide : ¬ ((1 : Nat) : Int) = 2))]
          exact go t H10 ⟨w, x, hp9, by rw [er]; exact et, ds.1, ds.2, hR10, f10⟩
        case go =>
          rintro pS H12 ⟨w, x, hpS, eS, leg, sok, hR12, f12⟩
          have e := lin.ne
          have own12 : OAt H12 y M' W d := lin.own.far (f12.toT (K := K) lin.row.nl) (NT.of lin.row.nl) (fun x hx z => lin.out r (by simp) (by rw [← List.mem_singleton.mp z]; exact hx))
          have p12 := f12.k _ _ lin.pool rfl (by simpa using e.2.2.2.2.2)
          have s12 := f12.k _ _ lin.stp rfl (by simpa using e.2.1)
          have d12 := f12.k _ _ lin.due rfl (by simpa using e.2.2.1)
          have ntX : ∀ {Hx : Hp}, RowAt r a Hx → Hx st = some (.lst (zs.map fun z => V.ref z.1)) → Hx du = some (.lst vs) → Hx pn = some (.lst (names.map V.str)) → NT [r, st, du, pn] Hx := fun {Hx} q1 q2 q3 q4 => by
            obtain ⟨_, _, _, z1, _⟩ := q1
            exact .cons z1 rfl (.cons q2 rfl (.cons q3 rfl (.cons q4 rfl .nil)))
          have nt12 : NT (M' ++ [r, st, du, pn]) H12 := fun b hb => (List.mem_append.mp hb).elim (own12.nt b) (ntX hR12 s12 d12 p12 b)
          have nt9 : NT (M' ++ [r, st, du, pn]) H9 := fun b hb => (List.mem_append.mp hb).elim (lin.own.nt b) (ntX lin.row lin.stp lin.due lin.pool b)
          have fb12 := fb9.fresh (f12.toT lin.row.nl) (by simpa using hr0)
          refine ⟨_, rfl, _, rfl, y, pS, M', [r, st, du, pn], W, names, 1 + 14 * j, d, w, x, rfl, eS, own12, lin.inv, pool, by omega, by omega, leg, fun b hb z => ?_, fun t1 v M2 H13 hM2 ht1 et1 o13 tv13 f13 => ?_⟩
          · obtain ⟨o, q, _⟩ := nt12 b (List.mem_append_right _ hb)
            rw [z] at q
            cases q
          have mid := lin.mid pool leg f12 hR12 f13 own12.nt hM2 o13
          have fM := f13.toN (K := K) own12.nt
          have fb13 := fb12.fresh fM hM'
          have hM2' : ∀ b ∈ M2, H b = none := fun b hb => (hM2 b hb).elim (hM' b) fun z => fb12.b _ z
          have eS13 := f13.k _ _ eS rfl (own12.nt.out eS rfl)
          have hpS0 : H pS = none := fb9.b _ hpS
          refine ⟨t1, _, rfl, SqT.of et1, rfl, _, _, rfl, _, _, rfl, rfl, ?_⟩
          refine ⟨_, rfl, rfl, _, rfl, ?_⟩
          rw [str_dec]
          by_cases cw : wd = ""
          · rw [decide_eq_true cw]
            rcases lin.run with ⟨_, ok, ed, told⟩ | ⟨bad, _⟩
            case inr => exact absurd cw bad
            have told13 := lin.told K told f12 f13 nt12 nt9 hM2
            subst cw
            refine ⟨_, rfl, rfl, _, rfl, ?_⟩
            rw [str_dec]
            by_cases cr : (doF W d w x).1 = ""
            · rw [decide_eq_true cr]
              have il := lin.len
              refine ⟨_, rfl, .inl ⟨rfl, _, SqL.of mid.stp⟩, _, rfl, st, _, _, rfl, rfl, mid.stp, by rw [List.length_map]; exact szLt (by omega), ?_⟩
              refine ⟨_, rfl, .inl ⟨rfl, _, SqL.of (by rw [upd_ne e.1.symm]; exact mid.due)⟩, _, rfl, du, _, _, rfl, rfl, by rw [upd_ne e.1.symm]; exact mid.due, by rw [lin.vl]; exact szLt (by omega), _, rfl, ?_⟩
              have g14 := mid.app K (v := v) (wd := (doF W d w x).1) e lin.vl lin.len lin.leg eS13 leg sok (.inl ⟨cr, ?_, ?_, ?_⟩)
              · have f14 : FrT K [st, du] H13 _ := (frm2 (H := H13) (o := .lst ((zs.map fun z => V.ref z.1) ++ [.ref pS])) (o' := .lst (vs ++ [v]))).toN (.cons mid.stp rfl (.cons mid.due rfl .nil))
                exact ⟨_, _, _, _, _, _, _, M2, _, rfl, g14, hM2', fun z hz => (List.mem_append.mp hz).elim (hz9 z) fun c => (by rw [List.mem_singleton.mp c]; exact hpS0), fb13.fresh f14 (by simpa using ⟨mutb st (by simp), mutb du (by simp)⟩)⟩
              · intro i' s' hs'
                rcases Nat.lt_or_ge i' (zs.map (·.2)).length with q | q
                · rw [List.getElem?_append_left q] at hs'
                  have := ok i' s' hs'
                  unfold toF at this ⊢
                  rw [List.take_append_of_le_length (Nat.le_of_lt q)]
                  exact this
                · rw [List.getElem?_append_right q] at hs'
                  have z0 : i' - (zs.map (·.2)).length = 0 := by
                    have := (List.getElem?_eq_some_iff.mp hs').1
                    simp only [List.length_singleton] at this
                    omega
                  rw [z0] at hs'
                  cases hs'
                  unfold toF
                  rw [List.take_append_of_le_length (by omega), List.take_of_length_le q, ← ed]
                  exact cr
              · rw [stL_snoc, ← ed]
              · intro i' s' v' q1 q2
                have lv := lin.vl
                have lz : (zs.map (·.2)).length = zs.length := List.length_map ..
                rcases Nat.lt_or_ge i' zs.length with q | q
                · rw [List.getElem?_append_left (by rw [lz]; exact q)] at q1
                  rw [List.getElem?_append_left (by omega)] at q2
                  rw [toF_app (by rw [lz]; exact q)]
                  exact told13 i' s' v' q1 q2
                · rw [List.getElem?_append_right (by omega)] at q1 q2
                  have z1 : i' - (zs.map (·.2)).length = 0 := by
                    have := (List.getElem?_eq_some_iff.mp q1).1
                    simp only [List.length_singleton] at this
                    omega
                  have z2 : i' - vs.length = 0 := by omega
                  rw [z1] at q1
                  rw [z2] at q2
                  cases q1
                  cases q2
                  have ei : i' = (zs.map (·.2)).length := by omega
                  subst ei
                  rw [toF_last, ← ed]
                  exact tv13
            · rw [decide_eq_false cr]
              rw [doF_ref cr] at mid
              refine ⟨_, rfl, r, a, 25, rfl, mid.row, fb13.scr .nil hS, by decide, by decide, fun u H14 u0 u1 hR14 f14 => ⟨rfl, _, rfl, ?_⟩⟩
              have nlr := mid.row.nl
              have fr : FrT K [r] H13 H14 := f14.toT nlr
              have fb14 := fb13.fresh fr (by simpa using hr0)
              have mid14 : Mid H14 r a pn y st du names W j zs vs M2 d := ⟨hR14, f14.k _ _ mid.pool rfl (by simpa using e.2.2.2.2.2), mid.own.far fr (NT.of nlr) (fun b hb z => mid.out r (by simp) (by rw [← List.mem_singleton.mp z]; exact hb)), mid.inv, f14.k _ _ mid.stp rfl (by simpa using e.2.1), fun z hz => f14.k _ _ (mid.tup z hz) rfl (fun q => (NT.of nlr).out (mid.tup z hz) rfl q), f14.k _ _ mid.due rfl (by simpa using e.2.2.1), mid.out⟩
              have eS14 := f14.k _ _ eS13 rfl (fun q => (NT.of nlr).out eS13 rfl q)
              refine iteB (fun c => ?_) (fun c => ?_)
              · have il := lin.len
                refine ⟨_, rfl, .inl ⟨rfl, _, SqL.of mid14.stp⟩, _, rfl, st, _, _, rfl, rfl, mid14.stp, by rw [List.length_map]; exact szLt (by omega), ?_⟩
                refine ⟨_, rfl, .inl ⟨rfl, _, SqL.of (by rw [upd_ne e.1.symm]; exact mid14.due)⟩, _, rfl, du, _, _, rfl, rfl, by rw [upd_ne e.1.symm]; exact mid14.due, by rw [lin.vl]; exact szLt (by omega), _, rfl, ?_⟩
                have g15 := mid14.app K (v := v) (wd := (doF W d w x).1) e lin.vl lin.len lin.leg eS14 leg sok (.inr ⟨cr, ok, by rw [← ed]⟩)
                have f15 : FrT K [st, du] H14 _ := (frm2 (H := H14) (o := .lst ((zs.map fun z => V.ref z.1) ++ [.ref pS])) (o' := .lst (vs ++ [v]))).toN (.cons mid14.stp rfl (.cons mid14.due rfl .nil))
                exact ⟨_, _, _, _, _, _, _, M2, _, rfl, g15, hM2', fun z hz => (List.mem_append.mp hz).elim (hz9 z) fun c => (by rw [List.mem_singleton.mp c]; exact hpS0), fb14.fresh f15 (by simpa using ⟨mutb st (by simp), mutb du (by simp)⟩)⟩
              · have told14 : ToldL H14 (M2 ++ [r, st, du, pn]) W (zs.map (·.2)) vs := fun i' s' v' q1 q2 => (told13 i' s' v' q1 q2).keep (fr.mono (by simp)) (fun b hb => (List.mem_append.mp hb).elim (mid.own.nt b) (ntX mid.row mid.stp mid.due mid.pool b)) fun b hb => .inl hb
                exact ⟨_, _, _, _, "", zs, vs, M2, d, rfl, ⟨mid14.row, mid14.pool, mid14.own, mid14.inv, mid14.stp, mid14.tup, mid14.due, lin.vl, lin.leg, Nat.le_succ_of_le lin.len, lin.ne, mid14.out, .inl ⟨rfl, ok, ed, told14⟩⟩, hM2', hz9, fb14⟩
          · rw [decide_eq_false cw]
            rcases lin.run with ⟨z, _⟩ | ⟨_, run⟩
            · exact absurd z cw
            exact ⟨_, _, _, _, wd, zs, vs, M2, _, rfl, ⟨mid.row, mid.pool, mid.own, mid.inv, mid.stp, mid.tup, mid.due, lin.vl, lin.leg, Nat.le_succ_of_le lin.len, lin.ne, mid.out, .inr ⟨cw, run⟩⟩, hM2', hz9, fb13⟩
      · rintro σ H9 ⟨v9, v10, v11, v12, wd, zs, vs, M', d, rfl, lin, hM', hz9, fb9⟩
        have e := lin.ne
        have ll := lin.len
        refine ⟨_, rfl, st, _, rfl, .inl (SqL.of lin.stp), fun hd hhd => ?_⟩
        have g10 : Frm [] H9 (upd H9 hd (.lst (zs.map fun z => V.ref z.1))) := Frm.of (same_upd hhd)
        have e10 : (upd H9 hd (.lst (zs.map fun z => V.ref z.1))) hd = some (.lst (zs.map fun z => V.ref z.1)) := upd_same
        revert g10 e10
        generalize (upd H9 hd (.lst (zs.map fun z => V.ref z.1))) = H10
        intro g10 e10
        have fb10 := fb9.trans (g10.toT .nil)
        have tup10 : ∀ z ∈ zs, H10 z.1 = some (.tup ((rowOf z.2.1 z.2.2).map V.str)) := fun z hz => g10.k _ _ (lin.tup z hz) rfl (by simp)
        have rv10 := zV_rv e10 tup10
        have leg : ∀ s ∈ zs.map (·.2), Legal names W s.1 s.2 := fun s hs => by
          obtain ⟨z, hz, rfl⟩ := List.mem_map.mp hs
          exact (lin.leg z hz).1
        have eq : ((cxOf CX0 P w K mg base ["_law_script", "_law_row", "_law_turn_here", "_law_width_here", "_law_names", "_law_day_here", "_law_steps", "_law_due", "_law_word_here", "_law_k", "_law_step_here", "_law_refused", "_law_told", "_law_handed", "_law_again", "_law_found", "_law_at", "_law_odd_here", "_law_spoilt", "_law_many"] d_law.qual d_law.scope (He.fAd K pd_law) (Value.ref (He.codeOf K pd_law)) A outer s H E).env.qual ++ ("<lambda>" : Str) : Str) = "law.<locals>.<lambda>" := by kernel_rfl
        refine @way3 (wd = "") _ (fun _ _ _ H' => FrT K [] H10 H') ?R3 ?go3 ?p1 ?p2
        case p2 =>
          intro go cw
          refine ⟨_, rfl, rfl, _, rfl, ?_⟩
          rw [str_dec, decide_eq_false cw]
          rcases lin.run with ⟨z, _⟩ | ⟨_, rs0, s0, er, ok0, ew⟩
          · exact absurd z cw
          have ht10 := fb10.t ht
          refine ⟨by rw [eq]; exact ht10.2 _ (tl_mem lam_law), fun H11 q1 q2 q3 => ?_⟩
          rw [eq] at q3
          obtain ⟨f11, ht11⟩ := tb_grow T lam_law ht10 q1 q2 q3
          refine ⟨_, rfl, _, rfl, W, hd, zV zs, rfl, w1, w2, rv10.keep0 f11, zV_sz lin.leg, ht11, .inr ⟨zV_no lin.leg (by omega), names, zs.map (·.2), pool, zV_eq zs, leg, .inl ⟨rs0.length, s0, ?_, fun j' s' hj hs' => ?_, ?_, fun H12 f12 => ?_⟩⟩⟩
          · rw [er, List.getElem?_append_right (Nat.le_refl _), Nat.sub_self]
            rfl
          · rw [er, List.getElem?_append_left hj] at hs'
            rw [er, toF_app hj]
            exact ok0 j' s' hs'
          · rw [er, toF_last, ew]
            exact cw
          · rw [er, toF_last, ew]
            refine refd_D T (by rw [← ew]; exact doF_word (by rw [ew]; exact cw)) fun H13 f13 => ?_
            refine ⟨_, rfl, rfl, _, rfl, ?_⟩
            rw [str_dec, decide_eq_true rfl]
            refine if_nt ?_
            generalize some (V.ref du) = d7
            generalize v14 = u14
            generalize v15 = u15
            exact go d7 u14 u15 H13 ((f11.trans f12).trans (f13.toT .nil))
        case p1 =>
          intro go cw
          rcases lin.run with ⟨_, ok, ed, told⟩ | ⟨z, _⟩
          case inr => exact absurd cw z
          refine ⟨_, rfl, rfl, _, rfl, ?_⟩
          rw [str_dec, decide_eq_true cw]
          refine if_nt ?_
          obtain ⟨pm, dt, ml, pk, pr, pf, pp, pz, zr, zf, zp, pl, lw, sdm, eM, oa⟩ := id lin.own
          have oa10 := oa.stay (g10.toT (K := K) .nil) .nil (fun _ _ => by simp) (by simp) (by simp)
          have kl := lin.inv.kl pool
          have rl : (zs.map (·.2)).length = zs.length := List.length_map ..
          refine ⟨_, rfl, _, rfl, y, _, rfl, oy_m oa10.ob, pm, _, rfl, md_things oa10.ma.ob, dt, kv d.kvs, d.kvs.map (·.1), rfl, .inl oa10.ma.dc, keys_kv d.kvs, by rw [List.length_map]; omega, fun ys pS pys sys hpS => ?_⟩
          have g11 : Frm [] H10 (upd H10 pS (.lst (ys.map V.str))) := Frm.of (same_upd hpS)
          have e11 : (upd H10 pS (.lst (ys.map V.str))) pS = some (.lst (ys.map V.str)) := upd_same
          revert g11 e11
          generalize (upd H10 pS (.lst (ys.map V.str))) = H11
          intro g11 e11
          have oa11 := oa10.stay (g11.toT (K := K) .nil) .nil (fun _ _ => by simp) (by simp) (by simp)
          refine ⟨_, rfl, y, _, rfl, oy_m oa11.ob, pm, _, rfl, md_looks oa11.ma.ob, by show 3 ≤ sizeLine; decide, fun dT hdT => ?_⟩
          have g12 : Frm [] H11 (upd H11 dT (.tup [.ref du, .ref pS, .int d.lk])) := Frm.of (same_upd hdT)
          have e12 : (upd H11 dT (.tup [.ref du, .ref pS, .int d.lk])) dT = some (.tup [.ref du, .ref pS, .int d.lk]) := upd_same
          revert g12 e12
          generalize (upd H11 dT (.tup [.ref du, .ref pS, .int d.lk])) = H12
          intro g12 e12
          have g912 := (g10.trans g11).trans g12
          have hd12 := (g11.trans g12).k _ _ e10 rfl (by simp)
          have st12 := g912.k _ _ lin.stp rfl (by simp)
          have du12 := g912.k _ _ lin.due rfl (by simp)
          have pS12 := g12.k _ _ e11 rfl (by simp)
          have tup12 : ∀ z ∈ zs, H12 z.1 = some (.tup ((rowOf z.2.1 z.2.2).map V.str)) := fun z hz => g912.k _ _ (lin.tup z hz) rfl (by simp)
          have told12 : ToldL H12 [] W (zs.map (·.2)) vs := fun i' s' v' q1 q2 => ((told i' s' v' q1 q2).none_).keep (g912.toT (K := K) .nil) .nil fun b hb => absurd hb (by simp)
          have ysd : ys = srt ((stL W (zs.map (·.2))).kvs.map (·.1)) := by rw [← ed]; exact srt_one pys sys
          have eld : d.lk = (stL W (zs.map (·.2))).lk := by rw [← ed]
          have ylen : ys.length ≤ 41 := by rw [pys.length_eq, List.length_map]; exact kl
          have oks : ∀ q ∈ (zs.map fun z => rowOf z.2.1 z.2.2), ∀ x ∈ q, PyData.strOk x = true := fun q hq => by
            obtain ⟨z, hz, rfl⟩ := List.mem_map.mp hq
            exact rowB_ok (lin.leg z hz).2
          have sm : ∀ i' s', (zs.map (·.2))[i']? = some s' → (toF W (zs.map (·.2)) i' s').2.1.small := fun i' s' hs' => by
            have hi' := (List.getElem?_eq_some_iff.mp hs').1
            exact told_small pool (stL_inv pool leg i' (Nat.le_of_lt hi'))
          refine ⟨2, rfl, by decide, by decide, ?_⟩
          refine for_range (lo := 0) (n := (2 : Int).toNat) (fun q σ H' => ∃ (u14 u15 : Option V), σ = [some (.ref a), some (.ref r), some (.int (0 + (i : Int))), some (.int W), some (.ref pn), some (.ref y), some (.ref st), some (.ref dT), some (.str wd), v9, v10, v11, v12, some (.ref hd), u14, u15, v16, v17, v18, v19] ∧ FrT K [] H12 H')
            ⟨v14, v15, rfl, FrT.refl _ _ _⟩ ?_ ?_
          · rintro q σ H13 hq ⟨u14, u15, rfl, f13⟩
            have fb13 := (fb10.trans ((g11.trans g12).toT .nil)).trans f13
            have rv13 : RV H13 hd (zV zs) := zV_rv (f13.k _ _ hd12 rfl (by simp)) fun z hz => f13.k _ _ (tup12 z hz) rfl (by simp)
            refine ⟨_, rfl, _, rfl, W, hd, zV zs, rfl, w1, w2, rv13, zV_sz lin.leg, fb13.t ht, .inr ⟨zV_no lin.leg (by omega), names, zs.map (·.2), pool, zV_eq zs, leg, .inr ⟨ok, fun t c h xs H14 ht0 hc0 hh0 nch et ec eh lx told14 f14 => ?_⟩⟩⟩
            have f124 := f13.trans f14
            have told12' : ToldL H14 [] W (zs.map (·.2)) vs := fun i' s' v' q1 q2 => (told12 i' s' v' q1 q2).keep f124 .nil fun b hb => absurd hb (by simp)
            refine ⟨_, rfl, _, rfl, .ref t, .ref dT, rfl, al_end (K := K) et (by rw [← eld]; exact f124.k _ _ e12 rfl (by simp)) ec (f124.k _ _ du12 rfl (by simp)) eh (by rw [← ysd]; exact f124.k _ _ pS12 rfl (by simp)) (by rw [← ysd]; omega) lx (by rw [rl]; exact lin.vl) (by rw [rl]; omega) told14 told12' sm, fun H15 f15 => ⟨true, rfl, ?_⟩⟩
            have f1215 : FrT K [] H12 H15 := f124.trans (f15.toT .nil)
            have t15 : ∀ z ∈ zs, H15 z.1 = some (.tup ((rowOf z.2.1 z.2.2).map V.str)) := fun z hz => f1215.k _ _ (tup12 z hz) rfl (by simp)
            have hd15 := f1215.k _ _ hd12 rfl (by simp)
            have st15 := f1215.k _ _ st12 rfl (by simp)
            have em : (zs.map fun z => V.ref z.1) = ((zs.map fun z => (z.1, rowOf z.2.1 z.2.2)).map fun z => V.ref z.1) := by rw [List.map_map]; rfl
            have dp15 : DpAll K H15 (zs.map fun z => V.ref z.1) ((zs.map fun z => rowOf z.2.1 z.2.2).map rwD) := by
              have := dp_rw (K := K) (H := H15) (zs := zs.map fun z => (z.1, rowOf z.2.1 z.2.2)) (fun z hz => by
                obtain ⟨q, hq, rfl⟩ := List.mem_map.mp hz
                exact t15 q hq)
              rw [List.map_map, List.map_map] at this
              rw [List.map_map]
              exact this
            refine ⟨_, rfl, _, rfl, _, _, .lst (SqL.of hd15) dp15, .lst (SqL.of st15) dp15, shaped_rw oks, shaped_rw oks, _, rfl, ?_⟩
            rw [eqv_rw oks]
            have ec15 := f15.k _ _ ec rfl (by simp)
            have eh15 := f15.k _ _ eh rfl (by simp)
            have et15 := f15.k _ _ et rfl (by simp)
            have hc12 : H12 c = none := f13.b _ hc0
            have hh12 : H12 h = none := f13.b _ hh0
            refine ⟨_, rfl, t, _, 0, .ref c, rfl, rfl, SqT.of et15, atI_nat (j := 0) rfl, .inl ⟨rfl, _, SqL.of ec15⟩, c, _, _, rfl, rfl, ec15, by rw [lx, rl]; exact szLt (by omega), ?_⟩
            have et16 : (upd H15 c (.lst (xs ++ [V.non]))) t = some (.tup [.ref c, .ref h, .int (stL W (zs.map (·.2))).lk]) := by rw [upd_ne (ne_of et15 ec15 (by intro z; cases z))]; exact et15
            have eh16 : (upd H15 c (.lst (xs ++ [V.non]))) h = some (.lst ((srt ((stL W (zs.map (·.2))).kvs.map (·.1))).map V.str)) := by rw [upd_ne nch.symm]; exact eh15
            refine ⟨_, rfl, t, _, 1, .ref h, rfl, rfl, SqT.of et16, atI_nat (j := 1) rfl, .inl ⟨rfl, _, SqL.of eh16⟩, h, _, _, rfl, rfl, eh16, by rw [List.length_map, ← ysd]; exact szLt (by omega), ?_⟩
            exact ⟨_, _, rfl, f1215.fresh ((frm2 (H := H15)).toN (.cons ec15 rfl (.cons eh15 rfl .nil))) (by simpa using ⟨hc12, hh12⟩)⟩
          · rintro σ H13 ⟨u14, u15, rfl, f13⟩
            exact go _ u14 u15 H13 (((g11.trans g12).toT .nil).trans f13)
        case go3 =>
          intro d7 u14 u15 H11 f11
          have fb11 := fb10.trans f11
          have hR10 : RowAt r a H10 := (g10.toT .nil (K := K)).row (by simp) lin.row
          have hR11 : RowAt r a H11 := f11.row (by simp) hR10
          have st11 := f11.k _ _ (g10.k _ _ lin.stp rfl (by simp)) rfl (by simp)
          have tup11 : ∀ z ∈ zs, H11 z.1 = some (.tup ((rowOf z.2.1 z.2.2).map V.str)) := fun z hz => f11.k _ _ (tup10 z hz) rfl (by simp)
          refine ⟨_, rfl, _, rfl, st, _, rfl, .inl (SqL.of st11), (zs.length : Int), 1, by rw [List.length_map], rfl, ?_⟩
          refine ⟨r, a, (zs.length : Int) + 1, rfl, hR11, fb11.scr .nil hS, by omega, by omega, fun at1 H12 a0 a1 hR12 f12 => ?_⟩
          obtain ⟨m, rfl⟩ : ∃ m : Nat, at1 = m := ⟨at1.toNat, by omega⟩
          have nz : m ≤ zs.length := by omega
          have nl11 := hR11.nl
          have st12 := f12.k _ _ st11 rfl (by simpa using e.2.1)
          have tup12 : ∀ z ∈ zs, H12 z.1 = some (.tup ((rowOf z.2.1 z.2.2).map V.str)) := fun z hz => f12.k _ _ (tup11 z hz) rfl (fun q => (NT.of nl11).out (tup11 z hz) rfl q)
          have fb12 := fb11.fresh (f12.toT nl11) (by simpa using hr0)
          refine ⟨_, rfl, r, a, rfl, hR12, fb12.scr .nil hS, fun t0 o H13 ob osz ht0 et0 hR13 f13 => ?_⟩
          have nl12 := hR12.nl
          have st13 := f13.k _ _ st12 rfl (by simpa using e.2.1)
          have tup13 : ∀ z ∈ zs, H13 z.1 = some (.tup ((rowOf z.2.1 z.2.2).map V.str)) := fun z hz => f13.k _ _ (tup12 z hz) rfl (fun q => (NT.of nl12).out (tup12 z hz) rfl q)
          have fb13 := fb12.fresh (f13.toT nl12) (by simpa using hr0)
          refine ⟨_, rfl, _, rfl, (m : Int), rfl, st, _, rfl, SqL.of st13, fun p1 hp1 => ?_⟩
          rw [cut_to]
          refine ⟨_, rfl, by show 1 ≤ sizeLine; decide, fun p2 hp2 => ?_⟩
          have n12 : p1 ≠ p2 := ne_of_none upd_same hp2
          refine ⟨p1, p2, _, _, rfl, rfl, by rw [upd_ne n12]; exact upd_same, upd_same, by rw [List.length_take, List.length_map]; exact szL (by show min m zs.length + 1 ≤ 1000000; omega), fun p3 hp3 => ?_⟩
          have g3 : Frm [] H13 (upd (upd (upd H13 p1 (.lst ((zs.map fun z => V.ref z.1).take m))) p2 (.lst [.ref t0])) p3 (.lst ((zs.map fun z => V.ref z.1).take m ++ [.ref t0]))) := ((Frm.of (same_upd hp1)).trans (Frm.of (same_upd hp2))).trans (Frm.of (same_upd hp3))
          have e3 : (upd (upd (upd H13 p1 (.lst ((zs.map fun z => V.ref z.1).take m))) p2 (.lst [.ref t0])) p3 (.lst ((zs.map fun z => V.ref z.1).take m ++ [.ref t0]))) p3 = some (.lst ((zs.map fun z => V.ref z.1).take m ++ [.ref t0])) := upd_same
          revert g3 e3
          generalize (upd (upd (upd H13 p1 (.lst ((zs.map fun z => V.ref z.1).take m))) p2 (.lst [.ref t0])) p3 (.lst ((zs.map fun z => V.ref z.1).take m ++ [.ref t0]))) = H14
          intro g3 e3
          refine ⟨_, rfl, _, rfl, (m : Int), rfl, st, _, rfl, SqL.of (g3.k _ _ st13 rfl (by simp)), fun p4 hp4 => ?_⟩
          rw [cut_from (by rw [List.length_map]; exact nz)]
          have n34 : p3 ≠ p4 := ne_of_none e3 hp4
          refine ⟨p3, p4, _, _, rfl, rfl, by rw [upd_ne n34]; exact e3, upd_same, by rw [List.length_append, List.length_take, List.length_drop, List.length_map]; exact szL (by show min m zs.length + 1 + (zs.length - m) ≤ 1000000; omega), fun p5 hp5 => ?_⟩
          have hspl : (zs.map fun z => V.ref z.1).take m ++ [V.ref t0] ++ (zs.map fun z => V.ref z.1).drop m = ((zV zs).take m ++ [(t0, o)] ++ (zV zs).drop m).map fun z => V.ref z.1 := by
            rw [List.map_append, List.map_append, List.map_take, List.map_drop, zV_ref]
            rfl
          rw [hspl]
          have g5 : Frm [] H14 (upd (upd H14 p4 (.lst ((zs.map fun z => V.ref z.1).drop m))) p5 (.lst (((zV zs).take m ++ [(t0, o)] ++ (zV zs).drop m).map fun z => V.ref z.1))) := (Frm.of (same_upd hp4)).trans (Frm.of (same_upd hp5))
          have e5 : (upd (upd H14 p4 (.lst ((zs.map fun z => V.ref z.1).drop m))) p5 (.lst (((zV zs).take m ++ [(t0, o)] ++ (zV zs).drop m).map fun z => V.ref z.1))) p5 = some (.lst (((zV zs).take m ++ [(t0, o)] ++ (zV zs).drop m).map fun z => V.ref z.1)) := upd_same
          revert g5 e5
          generalize (upd (upd H14 p4 (.lst ((zs.map fun z => V.ref z.1).drop m))) p5 (.lst (((zV zs).take m ++ [(t0, o)] ++ (zV zs).drop m).map fun z => V.ref z.1))) = H15
          intro g5 e5
          have g35 := g3.trans g5
          have fb15 := fb13.trans (g35.toT .nil)
          have hR15 : RowAt r a H15 := (g35.toT .nil (K := K)).row (by simp) hR13
          have zt13 : ∀ z ∈ zV zs, H13 z.1 = some (.tup z.2.vs) := fun z hz => by
            obtain ⟨q, hq, rfl⟩ := List.mem_map.mp hz
            exact tup13 q hq
          have rs15 : RV H15 p5 ((zV zs).take m ++ [(t0, o)] ++ (zV zs).drop m) := ⟨e5, fun z hz => by
            rw [List.mem_append, List.mem_append] at hz
            rcases hz with (hz | hz) | hz
            · exact g35.k _ _ (zt13 z (List.mem_of_mem_take hz)) rfl (by simp)
            · rw [List.mem_singleton.mp hz]
              exact g35.k _ _ et0 rfl (by simp)
            · exact g35.k _ _ (zt13 z (List.mem_of_mem_drop hz)) rfl (by simp)⟩
          have next : ∀ H16, FrT K [] H15 H16 → ∃ (v2' v3' v4' v5' v6' v7' v8' v9' v10' v11' v12' v13' v14' v15' v16' v17' v18' v19' : Option V), [some (V.ref a), some (.ref r), some (.int (0 + (i : Int))), some (.int W), some (.ref pn), some (.ref y), some (.ref st), d7, some (.str wd), v9, v10, v11, v12, some (.ref hd), u14, u15, some (.int (m : Int)), some (.ref t0), some (.ref p5), v19] = [some (.ref a), some (.ref r), v2', v3', v4', v5', v6', v7', v8', v9', v10', v11', v12', v13', v14', v15', v16', v17', v18', v19'] ∧ RowAt r a H16 ∧ FrT K [] H H16 := fun H16 f16 => ⟨_, _, _, _, _, _, _, _, _, _, _, _, _, _, _, _, _, _, rfl, f16.row (by simp) hR15, fb15.trans f16⟩
          refine ⟨_, rfl, (m : Int), 200, rfl, rfl, _, rfl, iteB (fun c => ?_) (fun c => next _ (FrT.refl _ _ _))⟩
          have m200 : m < 200 := by have := of_decide_eq_true c; omega
          have ht15 := fb15.t ht
          refine ⟨by rw [eq]; exact ht15.2 _ (tl_mem lam_law), fun H16 q1 q2 q3 => ?_⟩
          rw [eq] at q3
          obtain ⟨f16, ht16⟩ := tb_grow T lam_law ht15 q1 q2 q3
          have good := zV_ok lin.leg
          have spw : ∀ z ∈ (zV zs).take m ++ [(t0, o)] ++ (zV zs).drop m, z.2.sz := fun z hz => by
            rw [List.mem_append, List.mem_append] at hz
            rcases hz with (hz | hz) | hz
            · exact zV_sz lin.leg z (List.mem_of_mem_take hz)
            · rw [List.mem_singleton.mp hz]
              exact osz
            · exact zV_sz lin.leg z (List.mem_of_mem_drop hz)
          have zl : (zV zs).length = zs.length := List.length_map ..
          have fb := spoilt_fst (zs := zV zs) (z0 := (t0, o)) (n := m) (by omega) m200 good ob
          refine ⟨_, rfl, _, rfl, W, p5, _, rfl, w1, w2, rs15.keep0 f16, spw, ht16, .inl ⟨m, fb, fun d' H17 f17 e17 => ?_⟩⟩
          refine refd_BadStep T e17 fun p6 H18 f18 e18 => ?_
          refine ⟨_, rfl, by show 2 ≤ sizeLine; decide, fun p7 hp7 => ?_⟩
          have g19 : Frm [] H18 (upd H18 p7 (.tup [.str "step", .int (m : Int)])) := Frm.of (same_upd hp7)
          refine ⟨.tuple [.str "step", .int (m : Int)], .tuple [.str "step", .int (m : Int)], .tup (SqT.of (g19.k _ _ e18 rfl (by simp))) (.cons (.str _) (.cons (.int _) .nil)), .tup (SqT.of upd_same) (.cons (.str _) (.cons (.int _) .nil)), shaped_si "step" m (by decide +kernel), shaped_si "step" m (by decide +kernel), _, rfl, ?_⟩
          rw [eqv_si "step" m (by decide +kernel)]
          exact next _ ((f16.trans f17).trans ((f18.trans g19).toT .nil))
    · rintro σ H1 ⟨v2, v3, v4, v5, v6, v7, v8, v9, v10, v11, v12, v13, v14, v15, v16, v17, v18, v19, rfl, hR1, fb⟩
      refine ⟨by show 1 ≤ sizeLine; decide, fun t htt => ⟨by show 1 ≤ sizeLine; decide, fun L hL => ?_⟩⟩
      have g3 : Frm [] H1 (upd (upd H1 t (.tup [.str "turn"])) L (.lst [.ref t])) := (Frm.of (same_upd htt)).trans (Frm.of (same_upd hL))
      have t3 : (upd (upd H1 t (.tup [.str "turn"])) L (.lst [.ref t])) t = some (.tup [.str "turn"]) := same_upd hL _ _ upd_same
      have l3 : (upd (upd H1 t (.tup [.str "turn"])) L (.lst [.ref t])) L = some (.lst [.ref t]) := upd_same
      revert g3 t3 l3
      generalize (upd (upd H1 t (.tup [.str "turn"])) L (.lst [.ref t])) = H3
      intro g3 t3 l3
      have hR3 : RowAt r a H3 := g3.row (by simp) hR1
      have fb3 := fb.trans (g3.toT .nil)
      refine ⟨_, rfl, r, a, 2, rfl, hR3, fb3.scr .nil hS, by decide, by decide, fun v H4 v0 v1 hR4 f4 => ⟨201, v, rfl, rfl, ?_⟩⟩
      have nlr := hR3.nl
      have nLr : L ≠ r := fun z => by
        obtain ⟨_, _, _, q, _⟩ := hR3
        rw [← z, l3] at q
        cases q
      have l4 := f4.k _ _ l3 rfl (by simpa using nLr)
      have t4 := f4.k _ _ t3 rfl (fun q => (NT.of nlr).out t3 rfl q)
      have fb4 := fb3.fresh (f4.toT nlr) (by simpa using hr0)
      have hk : (201 + v).toNat = 201 ∨ (201 + v).toNat = 202 := by omega
      refine ⟨L, 201 + v, _, rfl, rfl, l4, by omega, by omega, by show 1 * (201 + v).toNat ≤ sizeLine; exact szL (by omega), fun mM hmM => ?_⟩
      generalize hN : (201 + v).toNat = N at hk hmM
      rw [turnsZ_ref]
      have g5 : Frm [] H4 (upd H4 mM (.lst ((turnsZ t N).map fun z => V.ref z.1))) := Frm.of (same_upd hmM)
      have m5 : (upd H4 mM (.lst ((turnsZ t N).map fun z => V.ref z.1))) mM = some (.lst ((turnsZ t N).map fun z => V.ref z.1)) := upd_same
      revert g5 m5
      generalize (upd H4 mM (.lst ((turnsZ t N).map fun z => V.ref z.1))) = H5
      intro g5 m5
      have t5 := g5.k _ _ t4 rfl (by simp)
      have fb5 := fb4.trans (g5.toT .nil)
      have tup5 : ∀ n, ∀ z ∈ turnsZ t n, H5 z.1 = some (.tup ((rowOf z.2.1 z.2.2).map V.str)) := fun n z hz => by
        rw [turnsZ_mem hz, turn_row]
        exact t5
      have eq : ((cxOf CX0 P w K mg base ["_law_script", "_law_row", "_law_turn_here", "_law_width_here", "_law_names", "_law_day_here", "_law_steps", "_law_due", "_law_word_here", "_law_k", "_law_step_here", "_law_refused", "_law_told", "_law_handed", "_law_again", "_law_found", "_law_at", "_law_odd_here", "_law_spoilt", "_law_many"] d_law.qual d_law.scope (He.fAd K pd_law) (Value.ref (He.codeOf K pd_law)) A outer s H E).env.qual ++ ("<lambda>" : Str) : Str) = "law.<locals>.<lambda>" := by kernel_rfl
      have ht5 := fb5.t ht
      refine ⟨by rw [eq]; exact ht5.2 _ (tl_mem lam_law), fun H6 q1 q2 q3 => ?_⟩
      rw [eq] at q3
      obtain ⟨f6, ht6⟩ := tb_grow T lam_law ht5 q1 q2 q3
      refine ⟨_, rfl, 3, mM, zV (turnsZ t N), rfl, by decide, by decide, (zV_rv m5 (tup5 N)).keep0 f6, zV_sz turns_leg, ht6, .inl ⟨200, turns_fst (by omega), fun d' H7 f7 e7 => ?_⟩⟩
      refine refd_BadStep T e7 fun p6 H8 f8 e8 => ?_
      refine ⟨by show 2 ≤ sizeLine; decide, fun p7 hp7 => ?_⟩
      have g9 : Frm [] H8 (upd H8 p7 (.tup [.str "step", .int 200])) := Frm.of (same_upd hp7)
      refine ⟨.tuple [.str "step", .int 200], .tuple [.str "step", .int 200], .tup (SqT.of (g9.k _ _ e8 rfl (by simp))) (.cons (.str _) (.cons (.int _) .nil)), .tup (SqT.of upd_same) (.cons (.str _) (.cons (.int _) .nil)), shaped_si "step" 200 (by decide +kernel), shaped_si "step" 200 (by decide +kernel), _, rfl, ?_⟩
      rw [eqv_si "step" 200 (by decide +kernel)]
      have f59 : FrT K [] H5 (upd H8 p7 (.tup [.str "step", .int 200])) := (f6.trans f7).trans ((f8.trans g9).toT .nil)
      revert f59
      generalize (upd H8 p7 (.tup [.str "step", .int 200])) = H9
      intro f59
      have m9 := f59.k _ _ m5 rfl (by simp)
      have t9 := f59.k _ _ t5 rfl (by simp)
      have fb9 := fb5.trans f59
      refine ⟨_, rfl, 200, rfl, mM, _, rfl, SqL.of m9, fun p1 hp1 => ?_⟩
      have ec : cutV ((turnsZ t N).map fun z => V.ref z.1) none (some (200 : Int)) = (turnsZ t 200).map fun z => V.ref z.1 := by
        refine (cut_to _ 200).trans ?_
        rw [← List.map_take]
        unfold turnsZ
        rw [List.take_replicate, Nat.min_eq_left (by omega)]
      rw [ec]
      have g10 : Frm [] H9 (upd H9 p1 (.lst ((turnsZ t 200).map fun z => V.ref z.1))) := Frm.of (same_upd hp1)
      have e10 : (upd H9 p1 (.lst ((turnsZ t 200).map fun z => V.ref z.1))) p1 = some (.lst ((turnsZ t 200).map fun z => V.ref z.1)) := upd_same
      revert g10 e10
      generalize (upd H9 p1 (.lst ((turnsZ t 200).map fun z => V.ref z.1))) = H10
      intro g10 e10
      have t10 := g10.k _ _ t9 rfl (by simp)
      have fb10 := fb9.trans (g10.toT .nil)
      have tup10 : ∀ z ∈ turnsZ t 200, H10 z.1 = some (.tup ((rowOf z.2.1 z.2.2).map V.str)) := fun z hz => by
        rw [turnsZ_mem hz, turn_row]
        exact t10
      have er : (turnsZ t 200).map (·.2) = List.replicate 200 (("turn" : Str), ("" : Str)) := by
        unfold turnsZ
        rw [List.map_replicate]
      refine ⟨3, p1, zV (turnsZ t 200), rfl, by decide, by decide, zV_rv e10 tup10, zV_sz turns_leg, fb10.t ht, .inr ⟨zV_no turns_leg (by unfold turnsZ; rw [List.length_replicate]; exact Nat.le_refl _), ["000"], (turnsZ t 200).map (·.2), pool3, zV_eq _, fun s hs => ?_, .inr ⟨by rw [er]; exact turns_ok, fun tt c hh xs H11 _ _ _ _ et ecc _ lx _ f11 => ?_⟩⟩⟩
      · obtain ⟨z, hz, rfl⟩ := List.mem_map.mp hs
        exact (turns_leg z hz).1
      · rw [er, List.length_replicate] at lx
        have fin : Q (V.bl (decide (V.int (xs.length : Int) = V.int 200))) H11 := by
          rw [lx]
          exact k _
        exact ⟨tt, _, 0, .ref c, rfl, rfl, SqT.of et, atI_nat (j := 0) rfl, c, xs, rfl, .inl (SqL.of ecc), rfl, fin⟩
end
end B

set_option Elab.async false
set_option linter.all false
set_option maxRecDepth 100000
set_option maxHeartbeats 4000000
namespace B
open PySem PySem.Spec PyProof.Rows L2
abbrev cs (K : PySem.W.Frag) : List (Addr × Addr) := tf.map (He.cT K)
theorem law_at {w : World} {mg : Str → Option Value} {fa0 : Addr} {h : Heap} {K : PySem.W.Frag} (KX : K.In h) (G : h.Ns mainGlobals mg) (hmg : mg ("law" : Str) = some (.ref fa0)) (c : He.SaysX fa fn [] tf ex w h K) (hcs : ∀ d ∈ fs, fnS K d.at_ = sVal d) :
    LamX.LawAtS PySem.Challenge.rw_busfind_k18_days_played w K CX0 14 63 "_law_script" mg fa0 h := by
  obtain ⟨fd, F⟩ := c.t.d.def_ 63 (d := d_law)
  have e := hmg.symm.trans (He.glo_ok KX G (c.t.d.fact 31))
  cases e
  have b := FunD.bindsA (ps := ["_law_script"]) F fun _ _ _ _ _ _ us hl => match us, hl with | [_], _ => rfl
  have cm : ∀ {p : Addr × Addr}, p ∈ cs K → ∃ q ∈ tf, p = He.cT K q := fun hp => by
    obtain ⟨q, hq, e⟩ := List.mem_map.mp hp
    exact ⟨q, hq, e.symm⟩
  refine ⟨fd, cs K, spLaw K, fun p hp => ?_, fun p hp => ?_, fun p hp => ?_, fun s u => b s [u] rfl, fun H a ns hl _ hT hS => ?_, fun base X2 G2 tb => ?_⟩
  · obtain ⟨q, hq, rfl⟩ := cm hp
    exact c.empty q hq
  · obtain ⟨q, hq, rfl⟩ := cm hp
    exact c.out q hq
  · obtain ⟨q, hq, rfl⟩ := cm hp
    exact PySem.W.codeHd_of_K KX (c.hd q hq)
  · exact ⟨a, rfl, ⟨ns, hS⟩, tb_empty hT, fun _ => rfl⟩
  · have T : Txt (PySem.Challenge.rw_busfind_k18_days_played).prog w K mg base := ⟨X2, G2, c.t.d, c.more, fun p hp => tb (He.cT K p) (List.mem_map.mpr ⟨p, hp, rfl⟩), hcs, rfl⟩
    exact law_ok T F
end B

set_option Elab.async false
set_option linter.all false
set_option maxRecDepth 100000
open PySem PySem.W PySem.Calls PyProof.Rows
set_option maxHeartbeats 0 in
theorem PySem.Challenge.cw_busfind_k18_days_played_holds : PySem.Challenge.rw_busfind_k18_days_played.Holds := by
  w_on; o_law
  refine HandSHeadRun.head_any (r := B.R) (q := view B.R.prog [67]) (H := B.hk) (ob := B.ob) (M := 16000) (loose := B.names) (d := HandSHeadRun.topDef B.R.prog 67) (kwd := []) B.ob_eq (by kernel_rfl) (fun s => by kernel_rfl) B.run (by kernel_rfl) (by kernel_rfl) (by kernel_rfl) (by rfl) (by first | assumption | decide +kernel) (by decide +kernel) ⟨rfl, rfl, rfl, rfl, rfl, by decide +kernel⟩ ?hw ?hc
  case hw => w_witness2
  case hc =>
    refine LamX.walk_ofTsE (l := PySem.Challenge.rw_busfind_k18_days_played) (n := 63) (k := 14) (x := "_law_script") (CX := fun _ => L2.CX0) rfl (by decide) (by kernel_rfl) ⟨rfl, by decide, by decide⟩ ?F (fun _ _ _ _ _ z => z)
    intro w mg fa h Y G hmg0
    obtain ⟨K, KX, c, cs⟩ := Y
    have hmg : mg ("law" : PySem.Str) = some (.ref fa) := by
      have e : (HandSHeadRun.topDef B.R.prog 67).name = ("law" : PySem.Str) := by kernel_rfl
      rw [← e]
      exact hmg0
    exact ⟨K, KX, B.law_at KX G hmg c cs⟩
