import PyProof.Rows.All
import Wide.All
import OpenK.AllK
import Wide.FinOn
import HandS.ExcInit
import HandS.ExcSuper
import KE.KExcSuper
import KE.KSuper
import HandS.HeadHook4
import HandS.HeadWalk
import HandS.Exc
import HandS.ExcIs
import HandS.ExcField
import KE.KIsAll
import KE.KTryMore
import HandS.ForMost
import HandS.ExcOwn
import HandS.WordsExc
import HandS.IsInst
import HandS.Lambda
import HandS.AnyAll
import HandS.EndTab
import HandS.Codes
import HandS.Defaults
import HandS.Head0
import HandS.Head1
import HandS.Head2
import HandS.HeadEnd
import HandS.HeadHook1
import HandS.HeadHook2
import HandS.HeadHook3
import HandS.Walk
import HandS.More
import HandS.FStr
import KE.KDflt
import HandS.Text
import HandS.Conv
import HandS.ReplaceLit
import HandS.ReplaceList
import PyProof.ToksMono
import PyProof.Rows.StrMadeLen
import PySem.Challenge.RW_busfind_k20_texts_refused
set_option Elab.async false
set_option linter.all false
set_option maxRecDepth 100000
set_option maxHeartbeats 4000000
namespace B
open PySem PySem.Spec PyProof.Rows L2
/-! ### the head's facts of a def with the name __class__ free in it -/
abbrev FnS : Type := Option (Str × Str × Arguments × FuncBody × Scope × Addr × Addr)
def fnS (K : PySem.W.Frag) (p : Str × Option Str) : FnS := match K.lookup (He.fAd K p) with
  | some ⟨_, _, .func fd, _⟩ => some (fd.name, fd.qualname, fd.params, fd.body, fd.scope, fd.globals, fd.builtins)
  | _ => none
def sVal (d : He.DefD) : FnS := some (d.name, d.qual, d.params, .stmts d.body, d.scope, mainGlobals, builtinsNs)
def noneB (v : Value) : Bool := match v with
  | .none => true
  | _ => false
def strB (file : Str) (o : Option Value) : Bool := match o with
  | some (.str fl _) => decide (fl = file)
  | _ => false
theorem strB_ok {file : Str} {o : Option Value} (h : strB file o = true) : ∃ tf, o = some (.str file tf) := by
  unfold strB at h
  split at h
  · rename_i fl tf
    exact ⟨tf, by rw [of_decide_eq_true h]⟩
  · cases h
def cellB (K : PySem.W.Frag) (c : Str) (cc : Addr) : Bool := match K.lookup cc with
  | some ⟨_, _, .cell (some (.ref D)), _⟩ => decide (D = He.ga K c)
  | _ => false
def fileB (K : PySem.W.Frag) (file : Str) (v : Value) : Bool := match v with
  | .ref cda => match K.lookup cda with
    | some ⟨_, _, .fields vs, _⟩ => strB file vs[2]?
    | _ => false
  | _ => false
def cloB (K : PySem.W.Frag) (c : Str) (l : List (Str × Addr)) : Bool := match l with
  | [(n, cc)] => decide (n = "__class__") && cellB K c cc
  | _ => false
def cloOk (K : PySem.W.Frag) (file : Str) (d : He.DefD) (c : Str) : Bool := match K.lookup (He.fAd K d.at_) with
  | some ⟨_, _, .func fd, _⟩ => PySem.W.codeIn K fd.code d.qual && (cloB K c fd.closure && (fileB K file fd.code && noneB fd.defaults))
  | _ => false
theorem cellB_ok {K : PySem.W.Frag} {c : Str} {cc : Addr} (h : cellB K c cc = true) : ∃ cl cld csl, K.lookup cc = some ⟨cl, cld, .cell (some (.ref (He.ga K c))), csl⟩ := by
  unfold cellB at h
  split at h
  · rename_i cl cld D csl e
    exact ⟨cl, cld, csl, by rw [e, of_decide_eq_true h]⟩
  · cases h
theorem fileB_ok {K : PySem.W.Frag} {file : Str} {v : Value} (h : fileB K file v = true) : ∃ (cda : Addr) (ccl : Value) (cdd : Option Addr) (vs : Array Value) (ccs : Array (Option Value)) (tf : Tok), v = .ref cda ∧ K.lookup cda = some ⟨ccl, cdd, .fields vs, ccs⟩ ∧ vs[2]? = some (.str file tf) := by
  unfold fileB at h
  split at h
  · rename_i cda
    split at h
    · rename_i ccl cdd vs ccs e
      obtain ⟨tf, e2⟩ := strB_ok h
      exact ⟨cda, ccl, cdd, vs, ccs, tf, rfl, e, e2⟩
    · cases h
  · cases h
theorem sdef {K : PySem.W.Frag} {file : Str} {d : He.DefD} {c : Str} (e : fnS K d.at_ = sVal d) (h : cloOk K file d c = true) : ∃ (oc : Value) (od : Option Addr) (kV doc pm : Value) (an : Option Addr) (ct : Value) (osl : Array (Option Value)) (cc : Addr) (cl : Value) (cld : Option Addr) (csl : Array (Option Value)) (cda : Addr) (ccl : Value) (cdd : Option Addr) (vs : Array Value) (ccs : Array (Option Value)) (tf : Tok),
    K.lookup (He.fAd K d.at_) = some ⟨oc, od, .func (PySem.W.ksFn d.name d.qual d.params d.body d.scope .none kV doc pm an (.ref cda) ct cc), osl⟩ ∧ PySem.W.codeIn K (.ref cda) d.qual = true ∧ K.lookup cda = some ⟨ccl, cdd, .fields vs, ccs⟩ ∧ vs[2]? = some (.str file tf) ∧ K.lookup cc = some ⟨cl, cld, .cell (some (.ref (He.ga K c))), csl⟩ := by
  unfold fnS at e
  unfold cloOk at h
  cases q : K.lookup (He.fAd K d.at_) with
  | none =>
    rw [q] at h
    cases h
  | some o =>
    obtain ⟨oc, od, dt, osl⟩ := o
    rw [q] at h e
    cases dt with
    | func fd =>
      obtain ⟨n1, n2, n3, n4, n5, n6, n7, n8, n9, n10, n11, n12, n13, n14, n15⟩ := fd
      have e2 : (some (n1, n2, n3, n4, n5, n6, n15) : FnS) = some (d.name, d.qual, d.params, .stmts d.body, d.scope, mainGlobals, builtinsNs) := e
      simp only [Option.some.injEq, Prod.mk.injEq] at e2
      obtain ⟨h1, h2, h3, h4, h5, h6, h8⟩ := e2
      subst h1 h2 h3 h4 h5 h6 h8
      have c3 : (PySem.W.codeIn K n13 d.qual && (cloB K c n7 && (fileB K file n13 && noneB n8))) = true := h
      obtain ⟨k1, k2⟩ := He.ba c3
      obtain ⟨k3, k4⟩ := He.ba k2
      obtain ⟨k5, k6⟩ := He.ba k4
      obtain ⟨cda, ccl, cdd, vs, ccs, tf, rfl, a1, a2⟩ := fileB_ok k5
      unfold cloB at k3
      split at k3
      · rename_i n cc
        obtain ⟨k7, k8⟩ := He.ba k3
        obtain ⟨cl, cld, csl, a3⟩ := cellB_ok k8
        have en := of_decide_eq_true k7
        subst en
        cases n8 with
        | none => exact ⟨oc, od, n9, n10, n11, n12, n14, osl, cc, cl, cld, csl, cda, ccl, cdd, vs, ccs, tf, rfl, k1, a1, a2, a3⟩
        | _ => cases k6
      · cases k3
    | _ => cases h
/-- the written part, from the globals and the statics on -/
def asS (g : Addr → Option Obj) : Nat → List Addr
  | 0 => [mainGlobals, cStatics]
  | n + 1 => He.growD g (asS g n)
abbrev frS (n : Nat) (g : Addr → Option Obj) : PySem.W.Frag := He.frT g (asS g n)
theorem saysS_of {fa : List He.Fa} {fn : List He.DefD} {ts : List He.Tab} {tf : List He.Defn} {ex : PySem.W.Frag → Bool} {w : World} {h : Heap} {as : List Addr} (e1 : He.obsT fa fn ts (He.frT h.get? as) = He.valT fn ts w) (e2 : (ex (He.frT h.get? as) && He.tabsB h.get? tf (He.frT h.get? as)) = true) : He.SaysX fa fn ts tf ex w h (He.frT h.get? as) := by
  have tab := List.all_eq_true.mp (He.ba e2).2
  have one : ∀ p ∈ tf, ∃ o, h.get? (He.cT (He.frT h.get? as) p).2 = some o ∧ He.emptyTab o = true := fun p hp => by
    have t2 := (He.ba (tab p hp)).2
    split at t2
    · exact ⟨_, by assumption, t2⟩
    · cases t2
  constructor
  · exact e1
  · exact (He.ba e2).1
  · exact fun p hp => (He.ba (tab p hp)).1
  · intro p hp
    obtain ⟨o, q, z⟩ := one p hp
    exact He.frT_none q z
  · intro p hp
    obtain ⟨o, q, z⟩ := one p hp
    rw [q, He.emptyTab_eq z]
def hookS (n : Nat) (fa : List He.Fa) (fn : List He.DefD) (ts : List He.Tab) (tf : List He.Defn) (ex : PySem.W.Frag → Bool) (fs : List He.DefD) : PySem.W.Hook where
  α := He.AlX × List FnS
  obs := fun s => ((He.obsT fa fn ts (frS n s.heap.get?), ex (frS n s.heap.get?) && He.tabsB s.heap.get? tf (frS n s.heap.get?)), fs.map fun d => fnS (frS n s.heap.get?) d.at_)
  val := fun w => (He.valX fn ts w, fs.map sVal)
  says := fun w h => ∃ K : PySem.W.Frag, K.In h ∧ He.SaysX fa fn ts tf ex w h K ∧ ∀ d ∈ fs, fnS K d.at_ = sVal d
  of := fun _ _ e => ⟨_, He.frT_in, saysS_of (congrArg (fun z => z.1.1) e) (congrArg (fun z => z.1.2) e), fun d hd => by
    have e2 := congrArg (fun z : He.AlX × List FnS => z.2) e
    exact List.map_inj_left.mp e2 d hd⟩
  keeps := fun _ _ _ ⟨K, hK, c, m⟩ k => ⟨K, PySem.W.Frag.In.keeps hK k, ⟨c.t, c.more, c.hd, c.out, fun p hp => k _ _ (c.empty p hp)⟩, m⟩
/-- what the written part says of an own error over ValueError with an __init__ of its own -/
def oexHd (K : PySem.W.Frag) (C : Addr) : Bool := match K.lookup C with
  | some ⟨.type "type", _, .cls cd, sl⟩ => (match cd.mro, sl.toList with
    | .ref C' :: bm, [_, _, _, _, some (.builtin n), _] => decide (C' = C) && (decide (n = "ValueError.__new__") && (!cd.hasDel && (cd.hasDict && PySem.HandSPX.refsVE bm)))
    | _, _ => false)
  | _ => false
theorem oexHd_ok {K : PySem.W.Frag} {C : Addr} (h : oexHd K C = true) : ∃ nm q N bs bm sn sub ab col dd k0 k1 k2 k3 k5, K.lookup C = some (excClassObj nm q C N bs bm true sn sub ab col dd k0 k1 k2 k3 k5 "ValueError.__new__") ∧ PySem.HandSPX.refsVE bm = true := by
  unfold oexHd at h
  split at h
  · rename_i dd cd sl ho
    split at h
    · rename_i C' bm k0 k1 k2 k3 n k5 hm hs
      obtain ⟨h1, h⟩ := He.ba h
      obtain ⟨h2, h⟩ := He.ba h
      obtain ⟨h3, h⟩ := He.ba h
      obtain ⟨h4, h5⟩ := He.ba h
      have e1 := of_decide_eq_true h1
      have e2 := of_decide_eq_true h2
      subst e1 e2
      obtain ⟨nm, bs, mro, ns, qn, hd, sn, sub, ab, col, del⟩ := cd
      dsimp only at hm h3 h4
      have h3' : del = false := by simpa using h3
      subst hm h3' h4
      obtain ⟨l⟩ := sl
      have hs' : l = [k0, k1, k2, k3, some (.builtin "ValueError.__new__"), k5] := hs
      subst hs'
      exact ⟨nm, qn, ns, bs, bm, sn, sub, ab, col, dd, k0, k1, k2, k3, k5, ho, h5⟩
    · cases h
  · cases h
def oexB (K : PySem.W.Frag) (C : Addr) : Bool := oexHd K C && (He.eqO (PySem.W.findIn K (.ref C) "__setattr__") (some (some (.builtin "object.__setattr__"))) && (decide (PySem.W.subIn K (.ref C) (.type "BaseException") = some true) && (decide (PySem.W.typeIn K (.ref C) = some (.type "type")) && PySem.W.keepIn K (.ref C))))
theorem oexB_ok {K : PySem.W.Frag} {C : Addr} (h : oexB K C = true) : OexC K C := by
  obtain ⟨h1, h⟩ := He.ba h
  obtain ⟨h2, h⟩ := He.ba h
  obtain ⟨h3, h⟩ := He.ba h
  obtain ⟨h4, h5⟩ := He.ba h
  exact ⟨oexHd_ok h1, He.eqO_ok h2, of_decide_eq_true h3, of_decide_eq_true h4, h5⟩
/-- the class that the cell of its __init__ holds, its __init__ and its field -/
def scB (K : PySem.W.Frag) (C f : Addr) (fld : Str) : Bool := oexB K C && (decide (PySem.W.mroIn K C (.ref C) = some true) && (He.eqO (PySem.W.ks_superIn K C C "__init__") (some (some (.builtin "ValueError.__init__"))) && (decide (PySem.W.subIn K (.ref C) (.type "ValueError") = some true) &&
  ((PySem.W.clsIn K C).isSome && (He.eqO (PySem.W.nsIn K cStatics "thirdparty.any") (some none) && (He.eqO (PySem.W.findIn K (.ref C) fld) (some none) && (He.eqO (PySem.W.findIn K (.ref C) "__init__") (some (some (.ref f))) && decide (PySem.W.typeIn K (.ref f) = some (.type "function")))))))))
structure ScC (K : PySem.W.Frag) (C f : Addr) (fld : Str) : Prop where
  T : OexC K C
  mro : PySem.W.mroIn K C (.ref C) = some true
  sup : PySem.W.ks_superIn K C C "__init__" = some (some (.builtin "ValueError.__init__"))
  sub : PySem.W.subIn K (.ref C) (.type "ValueError") = some true
  cls : ∃ cd, PySem.W.clsIn K C = some cd
  any : PySem.W.nsIn K cStatics "thirdparty.any" = some none
  fld : PySem.W.findIn K (.ref C) fld = some none
  ini : PySem.W.findIn K (.ref C) "__init__" = some (some (.ref f))
  ty : PySem.W.typeIn K (.ref f) = some (.type "function")
theorem scB_ok {K : PySem.W.Frag} {C f : Addr} {fld : Str} (h : scB K C f fld = true) : ScC K C f fld := by
  obtain ⟨h1, h⟩ := He.ba h
  obtain ⟨h2, h⟩ := He.ba h
  obtain ⟨h3, h⟩ := He.ba h
  obtain ⟨h4, h⟩ := He.ba h
  obtain ⟨h5, h⟩ := He.ba h
  obtain ⟨h6, h⟩ := He.ba h
  obtain ⟨h7, h⟩ := He.ba h
  obtain ⟨h8, h9⟩ := He.ba h
  exact ⟨oexB_ok h1, of_decide_eq_true h2, He.eqO_ok h3, of_decide_eq_true h4, Option.isSome_iff_exists.mp h5, He.eqO_ok h6, He.eqO_ok h7, He.eqO_ok h8, of_decide_eq_true h9⟩
end B

set_option Elab.async false
set_option linter.all false
set_option maxRecDepth 100000
set_option maxHeartbeats 4000000
namespace B
open PySem PySem.Spec PyProof.Rows L2
/-- super().__init__, bound to one that is being made, called -/
theorem mw_call {X : Cx} {A : Around} {E : Value → Shared → Prop} {pins : List (Addr × Obj)} {σ : L2.St} {H : Hp} {s : Shared} {u a C : Addr} {us : List Value} {Q : Value → Shared → Prop} (T : OexC X.K C) (I : Inv X pins σ H s) (hu : s.heap.get? u = some (PySem.W.kxs_mw "ValueError.__init__" a)) (e : H a = some (exo a C none)) (hl : us.length ≤ sizeLine) (h : ∀ s', Inv X pins σ H s' → Q .none s') :
    wpAny (model X.prog X.w) A (call (.ref u) us) Q E s := by
  obtain ⟨nm, q, N, bs, bm, sn, sub, ab, col, dd, k0, k1, k2, k3, k5, hC, hbm⟩ := T.cls
  obtain ⟨t1, ho⟩ := exo_at I.hok e
  obtain ⟨hp, g, d, t, os⟩ := s
  have fin : ∀ h' : Heap, (∀ b o, b ≠ a → hp.get? b = some o → h'.get? b = some o) → (∃ t2 : Addr, h'.get? a = some ({ cls := .ref C, dict := none, data := .fields #[.ref t2, .none, .none, .none, .bool false, .none] } : Obj)) → Q .none ⟨h', g, d, t, os⟩ := fun h' k ⟨t2, hx⟩ => by
    have J := I.write (t' := t) (x := a) (e := a) (o := exo a C none) (by rw [e]; exact True.intro) (.inl rfl) k ⟨_, hx⟩ (exo_ok hx)
    have eu : upd H a (exo a C none) = H := by
      funext b
      by_cases hb : b = a
      · rw [hb, upd_same, e]
      · rw [upd_ne hb]
    rw [eu] at J
    exact h _ J
  refine wpAny_call (codeAny_of_tree ?_)
  show wpAny _ A.in1 (callAny (.ref u) ⟨us, []⟩) _ _ _
  simp only [callAny]
  refine wpAny_bind (wpAny_load hu ?_)
  simp only [PySem.W.kxs_mw, show (Value.type "method-wrapper" == Value.type "method" || Value.type "method-wrapper" == Value.type "builtin_function_or_method" || Value.type "method-wrapper" == Value.type "method-wrapper") = true by decide, if_true]
  refine PySem.W.KFB.if_so (by decide) ?_
  refine wpAny_bind (PySem.ESX.check_bound F.excBase_ValueError (I.kIn _ _ hC) ho rfl ?_)
  refine wpAny_bind (wpAny_pure (wpAny_pure ?_))
  refine ⟨Code.quiet_builtin _ (by decide +kernel), codeAny_builtin F.excBase_ValueError.initEntry ?_⟩
  rw [Around.under_plainId F.excBase_ValueError.init.plain _]
  wp_walk
  refine fin _ (fun b o hb hbo => ?_) ⟨hp.objs.size, ?_⟩
  · rw [Heap.get?_update_other _ _ (Ne.symm hb)]
    exact Heap.get?_push_of_some _ hbo
  · rw [Heap.get?_update_self _ (Heap.get?_push_of_some _ ho) rfl]
    rfl
/-- super().__init__(e), in an exception's own __init__ -/
theorem at_superinit {X : Cx} {body : List Stmt} {p0 p1 apos pos : Pos} {e : Expr} {ta : TA} {f cc cda D a C : Addr} {fd : FuncData} {ar : Arg} {vs : Array Value} {file : Str} {tf : Tok} {oc ccl cl : Value} {od cdd cld : Option Addr} {osl ccs csl : Array (Option Value)} {cdD : ClassData} {pl : Sem Bool}
    (hfn : X.env.func = some f) (hcd : X.env.code = .ref cda) (lkf : X.K.lookup f = some ⟨oc, od, .func fd, osl⟩) (hp : (fd.params.posonlyargs ++ fd.params.args).head? = some ar)
    (lkc : X.K.lookup cda = some ⟨ccl, cdd, .fields vs, ccs⟩) (hvs : vs[2]? = some (.str file tf)) (hfile : ((X.prog.main.file : Str) == file) = true) (htop : (X.prog.main.scope.names.lookup ("super" : Str)).isSome = false)
    (hcells : X.env.cells.lookup ("__class__" : Str) = some cc) (lkcell : X.K.lookup cc = some ⟨cl, cld, .cell (some (.ref D)), csl⟩) (hD : PySem.W.clsIn X.K D = some cdD)
    (hks : X.env.kindOf "super" = some .globalImplicit) (hkc : X.env.kindOf "__class__" = some .free) (hka : X.env.kindOf ar.arg = some .local) (hm : X.mg "super" = none) (ho : PySem.W.nsIn X.K cStatics "thirdparty.any" = some none)
    (hN : X.N[0]? = some ar.arg) (ha : PA X [e] ta) (T : OexC X.K C) (hsub : PySem.W.mroIn X.K C (.ref D) = some true) (hmi : PySem.W.ks_superIn X.K C D "__init__" = some (some (.builtin "ValueError.__init__"))) (hB : PySem.W.subIn X.K (.ref C) (.type "ValueError") = some true)
    (hev : eval (.Call (.Attribute (.Call (.Name "super" p0) [] [] p1) "__init__" apos) [e] [] pos) X.env = (do
      let ov ← attributeBase (.Call (.Name "super" p0) [] [] p1) "__init__" X.env (eval (.Call (.Name "super" p0) [] [] p1) X.env)
      standAt apos.atName
      let (f, first) ← holding [ov] (getMethod ov "__init__" pl)
      callWith pos f first (backTo pos (starEach [e] X.env)) []))
    (hse : starEach [e] X.env = (false, eval e X.env) :: starEach [] X.env)
    {pins : List (Addr × Obj)} {s : Shared} {σ : L2.St} {H : Hp} {Q' : Hp → Prop} {Q : Value → Shared → Prop} (I : Inv X pins σ H s) (hσ : σ[0]? = some (some (.ref a))) (ea : H a = some (exo a C none))
    (hte : ta σ H fun ws H1 => ws.length ≤ 1000 ∧ H1 a = some (exo a C none) ∧ Q' H1) (hq : ∀ s' H1, Inv X pins σ H1 s' → Q' H1 → Q .none s') :
    PySem.wpAt (model X.prog X.w) X.A (.func body X.env) (eval (.Call (.Attribute (.Call (.Name "super" p0) [] [] p1) "__init__" apos) [e] [] pos) X.env) Q X.xe s := by
  obtain ⟨t1, hoa⟩ := exo_at I.hok ea
  obtain ⟨oD, hD1, hD2⟩ : ∃ oD, s.heap.get? D = some oD ∧ oD.data = .cls cdD := by
    unfold PySem.W.clsIn at hD
    split at hD
    · rename_i c d cd' sl hx
      cases hD
      exact ⟨_, I.kIn _ _ hx, rfl⟩
    · cases hD
  obtain ⟨mL, ns, look⟩ := I.loc
  obtain ⟨u0, ru, lk⟩ := look 0 ar.arg (.ref a) hN hσ (.inl hka)
  obtain rfl : u0 = Value.ref a := ru
  have hv : mL ar.arg = some (.ref a) := by
    rcases lk with ⟨_, z⟩ | ⟨z | z, _⟩
    · exact z
    · rw [hka] at z; cases z
    · rw [hka] at z; cases z
  obtain ⟨mb, b1, b2⟩ := I.mod.blt
  refine PySem.ks_wpAt_MethodCall (pl := pl) ?_ hev
  refine PySem.ks_wpAt_super_base hks hkc (by decide) hfn (I.kIn _ _ lkf) rfl hp hcd (I.kIn _ _ lkc) rfl hvs hfile htop ?_
  refine PySem.W.ks_loadName_global I.ok.kind hks (Calls.loadGlobal_builtin (by rw [I.ok.glob]; exact I.mod.glob.keeps I.bk) hm (by rw [I.ok.blt]; exact b1.keeps I.bk) ((b2 _ (by decide)).trans PyProof.Rows.Boot.«super») ⟨rfl, ?_⟩)
  refine wpAny_loadName_free I.ok.kind hkc hcells ⟨_, I.kIn _ _ lkcell, rfl⟩ ?_
  refine wpAny_loadName_local I.ok.kind hka ns hv ?_
  obtain ⟨hh, g, d, t, os⟩ := s
  refine PySem.ks_wpAny_isType_cls hD1 hD2 ⟨rfl, ?_⟩
  refine PySem.ks_wpAny_call_super hD1 hD2 hoa rfl (fun c z => by cases z) (PySem.W.looks_mroIn I.kIn hsub) (fun h' es k => ?_)
  have I1 : Inv X pins σ H ⟨h', g, d, t, os⟩ := I.kept k
  have hoa1 := k _ _ hoa
  cases hc : PySem.W.clsIn X.K C with
  | none =>
    unfold PySem.W.ks_superIn at hmi
    rw [hc] at hmi
    cases hmi
  | some cd =>
    unfold PySem.W.ks_superIn at hmi
    rw [hc] at hmi
    have inst : PySem.W.InstAt h' a _ C none := ⟨hoa1, rfl, rfl, trivial⟩
    have hI : PySem.W.Looks (model X.prog X.w) h' (isInstance (.ref a) (.type "ValueError")) true := inst.type.andThen (PySem.W.looks_subIn I1.kIn hB)
    refine PySem.W.kxs_getMethod PySem.W.kxs_ValueError es (PySem.W.looks_opaque I1.kIn ho) (l₀ := cd.mro) (fun A Q E s k q => wpAny_bind ((PySem.W.looks_clsIn I1.kIn hc) A _ E s k (wpAny_pure q))) rfl I1.kIn hmi hI (PySem.W.ks_ne I1.kIn inst hc) (by decide) ?_
    have I2 : Inv X pins σ H ⟨h'.push (PySem.W.kxs_mw "ValueError.__init__" a), g, d, t + 1, os⟩ := I1.kept fun b o => Heap.get?_push_of_some _
    have hu : (h'.push (PySem.W.kxs_mw "ValueError.__init__" a)).get? h'.objs.size = some (PySem.W.kxs_mw "ValueError.__init__" a) := Heap.get?_push_at rfl rfl
    have I3 : Inv X ((h'.objs.size, PySem.W.kxs_mw "ValueError.__init__" a) :: pins) σ H ⟨h'.push (PySem.W.kxs_mw "ValueError.__init__" a), g, d, t + 1, os⟩ := by
      refine I2.pins_of fun p hp => ?_
      rcases List.mem_cons.mp hp with rfl | hp
      · exact ⟨hu, I1.hok.fresh (Nat.le_refl _), Nat.ne_of_gt I1.lt, I1.nofs (Nat.le_refl _), fun v z => by cases z⟩
      · exact I2.pin p (List.mem_append_right _ hp)
    have N2 : PyProof.Rows.News X.base X.env.locals (h'.push (PySem.W.kxs_mw "ValueError.__init__" a)) [(h'.objs.size, PySem.W.kxs_mw "ValueError.__init__" a)] := fun p hp => by
      rw [List.mem_singleton.mp hp]
      refine ⟨hu, Nat.ne_of_gt I1.lt, ?_⟩
      cases z : X.base.get? h'.objs.size with
      | none => rfl
      | some o => exact absurd (Heap.lt_size (I1.bk _ _ z)) (Nat.lt_irrefl _)
    refine PySem.W.kxs_callWith1 (i := "ValueError.__init__") (x := a) N2 (by simp) (thn (ha.run pos _ _ σ H _ I3 hte) fun us s1 ⟨ws, H1, J, r1, hl, e1, q1⟩ => ⟨(J.pin (h'.objs.size, PySem.W.kxs_mw "ValueError.__init__" a) (List.mem_append_right _ (by simp))).1, ?_⟩) hse rfl
    have J1 : Inv X pins σ H1 s1 := J.pins_of fun p hp => J.pin p (List.mem_append_right _ (List.mem_cons_of_mem _ hp))
    refine mw_call T J1 (J.pin (h'.objs.size, PySem.W.kxs_mw "ValueError.__init__" a) (List.mem_append_right _ (by simp))).1 e1 ?_ fun s' J2 => hq s' H1 J2 q1
    rw [← Paired.length r1, sizeLine_eq]
    omega
theorem lk_mem {x : Str} {u : Value} : ∀ {l : List (Str × Value)}, (l.map (·.1)).Nodup → (x, u) ∈ l → l.lookup x = some u
  | (y, v) :: r, nd, h => by
    rw [List.map_cons] at nd
    obtain ⟨n1, n2⟩ := List.pairwise_cons.mp nd
    rcases List.mem_cons.mp h with e | e
    · cases e
      rw [List.lookup_cons, beq_self_eq_true]
    · have ne : (x == y) = false := by
        rw [beq_eq_false_iff_ne]
        exact fun z => n1 x (List.mem_map.mpr ⟨(x, u), e, rfl⟩) z.symm
      rw [List.lookup_cons, ne]
      exact lk_mem n2 e
theorem zip_nd : ∀ {ps : List Str} {us : List Value}, ps.Nodup → ((ps.zip us).map (·.1)).Nodup
  | [], _, _ => by simp
  | _ :: _, [], _ => by simp
  | x :: r, u :: us, h => by
    obtain ⟨h1, h2⟩ := List.pairwise_cons.mp h
    rw [List.zip_cons_cons, List.map_cons]
    refine List.pairwise_cons.mpr ⟨fun y hy => ?_, zip_nd h2⟩
    obtain ⟨z, hz, rfl⟩ := List.mem_map.mp hy
    exact h1 _ (List.of_mem_zip hz).1
theorem zip_lk {ps : List Str} {us : List Value} {i : Nat} {x : Str} {u : Value} (nd : ps.Nodup) (hx : ps[i]? = some x) (hu : us[i]? = some u) : (ps.zip us).reverse.lookup x = some u := by
  refine lk_mem ?_ (List.mem_reverse.mpr (List.mem_of_getElem? (i := i) ?_))
  · rw [List.map_reverse]
    exact List.pairwise_reverse.mpr ((zip_nd nd).imp fun h => Ne.symm h)
  · rw [List.getElem?_zip_eq_some]
    exact ⟨hx, hu⟩
abbrev cxS (CX : CXT) (P : Program) (w : World) (K : PySem.W.Frag) (mg : Str → Option Value) (base : Heap) (N : List Str) (qual : Str) (scope : Scope) (f : Addr) (cd : Value) (cc : Addr) (A : Around) (outer : List Env) (s : Shared) (H : Hp) (E : XK) : Cx :=
  { prog := P, w := w, K := K, mg := mg, base := base, A := A.deeper (PySem.W.ksEnv qual scope s.heap.objs.size f cd cc), N := N, s_0 := s, H_0 := H, env := PySem.W.ksEnv qual scope s.heap.objs.size f cd cc, outer := outer,
    stack := PySem.W.ksEnv qual scope s.heap.objs.size f cd cc :: outer, ex := [], fn := fun _ => false, calm := true, pn := [],
    xe := fun e s' => wpAny (model P w) (A.deeper (PySem.W.ksEnv qual scope s.heap.objs.size f cd cc)) (leaving (PySem.W.ksEnv qual scope s.heap.objs.size f cd cc) e) (fun _ s'' => CX outer H s E e s'') (fun e' s'' => CX outer H s E e' s'') s' }
/-- a def of a class, with the name __class__ free in it, by its body -/
theorem fn_sinit {CX : CXT} {P : Program} {w : World} {K : PySem.W.Frag} {mg : Str → Option Value} {base : Heap} {k : Nat} {f cc D : Addr} {name qual : Str} {params : Arguments} {body : List Stmt} {scope : Scope} {dV kV doc pm cdv ct oc cl : Value} {an od cld : Option Addr} {osl csl : Array (Option Value)} {ps : List Str} {sp : Sp}
    (lk : K.lookup f = some ⟨oc, od, .func (PySem.W.ksFn name qual params body scope dV kV doc pm an cdv ct cc), osl⟩) (hcd : PySem.W.codeIn K cdv qual = true) (hkind : scope.kind = .function) (hco : scope.isCoroutine = false) (hgen : scope.isGenerator = false)
    (hcell : ∀ x ∈ scope.names, x.2 ≠ .cell) (hfree : ∀ x ∈ scope.names, x.2 = .free → x.1 = "__class__") (hloc : ∀ x ∈ ps, scope.names.lookup x = some .local) (nd : ps.Nodup) (lkcell : K.lookup cc = some ⟨cl, cld, .cell (some (.ref D)), csl⟩)
    (len : ∀ vs H Q E, sp vs H Q E → vs.length = ps.length)
    (hbody : ∀ (A : Around) (outer : List Env) (s : Shared) (H : Hp) (vs : List V) (Q : VK) (E : XK), Room k (A.deeper (PySem.W.ksEnv qual scope s.heap.objs.size f cdv cc)) → sp vs H Q E → ∀ s1, Inv (cxS CX P w K mg base ps qual scope f cdv cc A outer s H E) [] (L2.start ps vs) H s1 →
      PySem.wpAt (model P w) (A.deeper (PySem.W.ksEnv qual scope s.heap.objs.size f cdv cc)) (.func body (PySem.W.ksEnv qual scope s.heap.objs.size f cdv cc)) (execs body (PySem.W.ksEnv qual scope s.heap.objs.size f cdv cc))
        (SP (cxS CX P w K mg base ps qual scope f cdv cc A outer s H E) [] { nx := fun _ H' => Q .non H', rt := Q }) (cxS CX P w K mg base ps qual scope f cdv cc A outer s H E).xe s1) :
    FnOk P w K mg base CX (k + 1) f (PySem.W.ksFn name qual params body scope dV kV doc pm an cdv ct cc) ps sp := by
  refine ⟨len, fun A outer s H args us vs Q E hr e0 hb r hsp => ?_⟩
  have hl := len _ _ _ _ hsp
  have KX : K.In s.heap := e0.mod.kin.keeps fun b o e => (e0.bs b o e).1
  have lim : s.heap.NoLimit := e0.mod.nolimit.keeps fun b o e => (e0.bs b o e).1
  refine PySem.ks_codeAny_call_defAt (fd := PySem.W.ksFn name qual params body scope dV kV doc pm an cdv ct cc) (body := body) (binds := ps.zip us) hr.depth (KX _ _ lk) rfl lim (PySem.W.codeRec_of KX hcd) rfl hb hcell (fun x hx => hloc x.1 (List.of_mem_zip hx).1) (fun h1 ns kp => ?_) hco hgen hkind
  have ccn : H cc = none := (e0.bs cc _ (e0.mod.kin _ _ lkcell)).2
  have one : ∀ {x : Str} {c : Addr}, ([(("__class__" : Str), cc)] : List (Str × Addr)).lookup x = some c → x = "__class__" ∧ c = cc := fun {x c} h => by
    rw [List.lookup_cons] at h
    by_cases z : x = "__class__"
    · rw [z, beq_self_eq_true] at h
      exact ⟨z, (Option.some.inj h).symm⟩
    · rw [beq_eq_false_iff_ne.mpr z] at h
      cases h
  have noEx : ∀ b : Addr, b ∉ (cxS CX P w K mg base ps qual scope f cdv cc A outer s H E).ex := fun b z => absurd (show b ∈ ([] : List Addr) from z) (by simp)
  have okI : (cxS CX P w K mg base ps qual scope f cdv cc A outer s H E).Ok := by
    refine ⟨e0.mod, hkind, rfl, rfl, Nat.le_refl _, fun y z c e1 e2 => (one e1).1.trans (one e2).1.symm, fun y hy => ?_, fun y c z => absurd (show false = true from z) Bool.false_ne_true, fun _ => hr.hd, Around.frames_deeper e0.frames, .inr ⟨rfl, rfl⟩, fun b z => absurd z (noEx b), e0.bs, e0.bsz, fun b _ _ => noEx b, fun b z => absurd z (noEx b), e0.funs, e0.frf⟩
    have hy2 : scope.names.lookup y = some .cell ∨ scope.names.lookup y = some .free := hy
    rcases hy2 with z | z
    · exact absurd rfl (hcell _ (PySem.mem_of_lookup z))
    · have := hfree _ (PySem.mem_of_lookup z) rfl
      dsimp only at this
      refine ⟨cc, ?_⟩
      show ([(("__class__" : Str), cc)] : List (Str × Addr)).lookup y = some cc
      rw [this, List.lookup_cons, beq_self_eq_true]
  have I : Inv (cxS CX P w K mg base ps qual scope f cdv cc A outer s H E) [] (L2.start ps vs) H { s with heap := h1, toks := s.toks + (ps.zip us).length } := by
    refine ⟨okI, rfl, e0.bare, Un.kept kp, ⟨_, ns, fun i y v hN hσ hV => ?_⟩, fun y c e => ?_, e0.hok.fresh (Nat.le_refl _), fun y c e => ?_, fun p hp => absurd (show p ∈ ([] : List (Addr × Obj)) ++ [] from hp) (by simp), e0.hok.kept kp, ?_⟩
    · have hN' : ps[i]? = some y := hN
      have hv : vs[i]? = some v := by
        unfold L2.start at hσ
        by_cases hi : i < vs.length
        · rw [List.getElem?_append_left (by simpa using hi), List.getElem?_map] at hσ
          cases e : vs[i]? with
          | none => rw [e] at hσ; cases hσ
          | some z =>
            rw [e] at hσ
            exact Option.some.inj hσ
        · rw [List.getElem?_append_right (by simpa using hi), List.getElem?_replicate] at hσ
          split at hσ <;> cases hσ
      obtain ⟨u, hu, rv⟩ := r.get hv
      exact ⟨u, rv, .inl ⟨hloc y (List.mem_of_getElem? hN'), zip_lk nd hN' hu⟩⟩
    · obtain ⟨_, rfl⟩ := one e
      exact ⟨_, _, kp _ _ (KX _ _ lkcell), rfl⟩
    · obtain ⟨_, rfl⟩ := one e
      exact ccn
    · unfold L2.start
      simp [hl]
  refine PySem.ks_wpAt_mono (hbody A outer s H vs Q E (hr.deeper _) hsp _ I) (fun fl s' hs => ?_) fun e s' hs => hs
  have fin : ∀ {σ' : L2.St} {H' : Hp} {v : V} {u : Value}, Inv (cxS CX P w K mg base ps qual scope f cdv cc A outer s H E) [] σ' H' s' → L2.RelV v u → Q v H' → CE outer P w H s Q u s' :=
    fun {σ' H' v u} J rv q => ⟨v, H', J.os, J.bare, J.base, J.hok, rv, q⟩
  cases fl with
  | ret u =>
    obtain ⟨v, σ', H', J, rv, q⟩ := hs
    exact fin J rv q
  | next =>
    obtain ⟨σ', H', J, q⟩ := hs
    exact fin (v := V.non) (u := Value.none) J rfl q
  | brk =>
    obtain ⟨_, _, _, q⟩ := hs
    exact False.elim q
  | cont =>
    obtain ⟨_, _, _, q⟩ := hs
    exact False.elim q
/-- the two statements of such an __init__ -/
theorem at_two {X : Cx} {body : List Stmt} {p0 p1 apos pos : Pos} {e : Expr} {ta : TA} {f cc cda D a C : Addr} {fd : FuncData} {ar : Arg} {vs : Array Value} {file : Str} {tf : Tok} {oc ccl cl : Value} {od cdd cld : Option Addr} {osl ccs csl : Array (Option Value)} {cdD : ClassData} {pl : Sem Bool} {st2 : Stmt} {t2 : TS} {pp : Pos}
    (hfn : X.env.func = some f) (hcd : X.env.code = .ref cda) (lkf : X.K.lookup f = some ⟨oc, od, .func fd, osl⟩) (hp : (fd.params.posonlyargs ++ fd.params.args).head? = some ar)
    (lkc : X.K.lookup cda = some ⟨ccl, cdd, .fields vs, ccs⟩) (hvs : vs[2]? = some (.str file tf)) (hfile : ((X.prog.main.file : Str) == file) = true) (htop : (X.prog.main.scope.names.lookup ("super" : Str)).isSome = false)
    (hcells : X.env.cells.lookup ("__class__" : Str) = some cc) (lkcell : X.K.lookup cc = some ⟨cl, cld, .cell (some (.ref D)), csl⟩) (hD : PySem.W.clsIn X.K D = some cdD)
    (hks : X.env.kindOf "super" = some .globalImplicit) (hkc : X.env.kindOf "__class__" = some .free) (hka : X.env.kindOf ar.arg = some .local) (hm : X.mg "super" = none) (ho : PySem.W.nsIn X.K cStatics "thirdparty.any" = some none)
    (hN : X.N[0]? = some ar.arg) (ha : PA X [e] ta) (T : OexC X.K C) (hsub : PySem.W.mroIn X.K C (.ref D) = some true) (hmi : PySem.W.ks_superIn X.K C D "__init__" = some (some (.builtin "ValueError.__init__"))) (hB : PySem.W.subIn X.K (.ref C) (.type "ValueError") = some true)
    (hev : eval (.Call (.Attribute (.Call (.Name "super" p0) [] [] p1) "__init__" apos) [e] [] pos) X.env = (do
      let ov ← attributeBase (.Call (.Name "super" p0) [] [] p1) "__init__" X.env (eval (.Call (.Name "super" p0) [] [] p1) X.env)
      standAt apos.atName
      let (f, first) ← holding [ov] (getMethod ov "__init__" pl)
      callWith pos f first (backTo pos (starEach [e] X.env)) []))
    (hse : starEach [e] X.env = (false, eval e X.env) :: starEach [] X.env)
    (hsw : swapsWith (.Call (.Attribute (.Call (.Name "super" p0) [] [] p1) "__init__" apos) [e] [] pos) none pp.line X.env = pure false) (hs2 : PS X st2 t2)
    {pins : List (Addr × Obj)} {s : Shared} {σ : L2.St} {H : Hp} {D' : Ends} (I : Inv X pins σ H s) (hσ : σ[0]? = some (some (.ref a))) (ea : H a = some (exo a C none))
    (hte : ta σ H fun ws H1 => ws.length ≤ 1000 ∧ H1 a = some (exo a C none) ∧ t2 D' σ H1) :
    PySem.wpAt (model X.prog X.w) X.A (.func body X.env) (execs [.Expr (.Call (.Attribute (.Call (.Name "super" p0) [] [] p1) "__init__" apos) [e] [] pos) pp, st2] X.env) (SP X pins D') X.xe s := by
  refine PySem.ks_wpAt_execs_cons (PySem.ks_wpAt_Expr_any (at_superinit hfn hcd lkf hp lkc hvs hfile htop hcells lkcell hD hks hkc hka hm ho hN ha T hsub hmi hB hev hse I hσ ea hte fun s' H1 J q => ?_) I.quiet hsw)
  show PySem.wpAt (model X.prog X.w) X.A (.func body X.env) (execs [st2] X.env) (SP X pins D') X.xe s'
  refine PySem.ks_wpAt_execs_cons (wpAt_of_wpAny (wpAny_mono (hs2.run pins s' σ H1 D' J q) (fun fl s2 hs => ?_) fun _ _ h => h))
  cases fl with
  | next =>
    obtain ⟨σ', H', J2, q2⟩ := hs
    exact wpAt_of_wpAny (pss_nil.run pins s2 σ' H' D' J2 q2)
  | ret u => exact hs
  | brk => exact hs
  | cont => exact hs
end B

set_option Elab.async false
set_option linter.all false
set_option maxRecDepth 100000
set_option maxHeartbeats 4000000
namespace B
open PySem PySem.Spec PyProof.Rows L2
open PySem.W (findObj Looks looks_find looks_findIn looks_subIn KitX)
open PySem.Calls Builtin Builtin.ObjectAttr
/-! ### isinstance of a caught error with a dict of its own; its fields -/
theorem fo_data {K : PySem.W.Frag} {C : Addr} {od : Option Obj} {name : Str} {a g : Value} (hc : ∃ cd, PySem.W.clsIn K C = some cd) (ha : PySem.W.findIn K (.ref C) name = some (some a)) (hg : PySem.W.specialIn K a "__get__" = some (some g)) (ht : PySem.W.takesIn K a = some true) : findObj K C od name = some (.bind g a) := by
  obtain ⟨cd, hc⟩ := hc
  unfold findObj; rw [hc, Option.bind_some, ha, Option.bind_some]; simp [hg, ht]
theorem cls_any {prog : Program} {w : World} {A : Around} {E : Value → Shared → Prop} {s : Shared} {K : PySem.W.Frag} {x D : Addr} {ox : Obj} {od : Option Obj} {Q : Option Value → Shared → Prop} (C : ExcC K D)
    (X : K.In s.heap) (I : PySem.W.InstAt s.heap x ox D od) (h : Q (some (.ref D)) { s with toks := s.toks + 1 }) : wpAny (model prog w) A (getAttr? (.ref x) "__class__") Q E s := by
  have hc : ∃ cd, PySem.W.clsIn K D = some cd := by obtain ⟨cd, hc, _⟩ := PySem.W.any_some C.hd; exact ⟨cd, hc⟩
  have hf : findObj K D od "__class__" = some (.bind (.builtin "getset_descriptor.__get__") (.builtin "object.__class__")) := fo_data hc C.ha C.hn C.ht
  obtain ⟨hp, g, d, t, os⟩ := s
  have J1 := I.type (M := model prog w); have J2 := looks_findIn (M := model prog w) X C.hg
  have J3 := looks_findIn (M := model prog w) X C.hk; have J4 := looks_find (M := model prog w) X I hf
  have sub : Looks (model prog w) hp (isInstance (.ref x) (.type "BaseException")) true := J1.andThen (looks_subIn X C.hs)
  have e2 : (Value.builtin "BaseException.__getattribute__" == Value.builtin "object.__getattribute__") = false := by decide +kernel
  unfold getAttr? getAttrBy? getAttrBy; refine wpAny_bind (wpAny_mkText (wpAny_bind (wpAny_attempt (wpAny_holding (wpAny_bind (J1.at (wpAny_bind (J2.at ?_))))))))
  show wpAny _ _ (if (onTheHeap (Value.ref D) && Value.builtin "BaseException.__getattribute__" == Value.builtin "object.__getattribute__") = true then _ else _) _ _ _; rw [e2, Bool.and_false, if_neg Bool.false_ne_true]
  unfold getAttrByItsOwn hookBefore; refine wpAny_bind ?_; rw [if_pos (show onTheHeap (Value.ref D) = true from rfl)]; refine J3.at ?_
  refine wpAny_bind (wpAny_attempt (wpAny_holding ?_)); unfold callGetattribute; rw [Bool.false_and, if_neg Bool.false_ne_true]; unfold boundAndCalled
  rw [PySem.F.excAttr_ValueError.ga.bind (.ref x)]; refine wpAny_bind (wpAny_pure ?_)
  show wpAny _ _ (call (.builtin "BaseException.__getattribute__") [.ref x, .str "__class__" t]) _ _ _; refine wpAny_call (codeAny_call_builtin PySem.F.excAttr_ValueError.ga.plain PySem.F.entry_bexc_ga ?_)
  refine @PySem.W.check_slot (model prog w) _ _ ⟨hp, g, d, t + 1, os⟩ "BaseException.__getattribute__" "BaseException" "__getattribute__" (.ref x) [.str "__class__" t] [] _ (by decide +kernel) (by decide +kernel) sub (PySem.F.args_bexc_ga (.ref x) (.str "__class__" t)) ?_
  unfold Builtin.«object.__getattribute__»; refine wpAny_bind (wpAny_of_eq (a := ((Value.ref x : Value), [Value.str "__class__" t])) (by first | rfl | (simp only [slotArgs]; rfl)) ?_)
  refine wpAny_bind (wpAny_pure (wpAny_bind (J1.at (wpAny_bind (J4.at ?_)))))
  show wpAny _ _ (holding [Value.builtin "object.__class__"] (call (.builtin "getset_descriptor.__get__") [.builtin "object.__class__", .ref x, .ref D]) >>= ret) _ _ _
  refine wpAny_bind (wpAny_holding (wpAny_call (PySem.W.class_get (s := ⟨hp, g, d, t + 1, os⟩) (ox := ox) (od := od) X I C.hm ?_))); refine wpAny_pure ?_
  show wpAny _ _ (handedOut (.ref D)) _ _ _; rw [PySem.W.handedOut_of (v := .ref D) rfl]
  first
    | exact wpAny_pure (wpAny_pure h)
    | exact wpAny_pure h
    | exact wpAny_pure (wpAny_bind (wpAny_pure (wpAny_pure h)))
theorem kit_exd {K : PySem.W.Frag} {x D : Addr} {ox : Obj} (C : ExcC K D) : KitX K (.ref x) (.ref D) (fun h => ∃ od, PySem.W.InstAt h x ox D od) where
  ty := fun _ _ _ ⟨_, I⟩ => I.type
  it := fun _ _ X _ => by
    obtain ⟨cd, hc, _⟩ := PySem.W.any_some C.hd; unfold PySem.W.clsIn at hc
    split at hc
    · rename_i c' d' cd' sl' ho
      intro A' Q' E' s' k q; unfold isType loadHead; exact wpAny_bind (wpAny_loadPart (k _ _ (X _ _ ho)) (wpAny_pure q))
    · cases hc
  ne := fun h tp dd its n sl X htp => by
    obtain ⟨cd, hc, _⟩ := PySem.W.any_some C.hd
    refine Bool.eq_false_iff.mpr fun q => ?_; have e : D = tp := Value.ref.inj (beq_iff_eq.mp q); subst e; unfold PySem.W.clsIn at hc
    split at hc
    · rename_i c' d' cd' sl' ho
      have z := (X _ _ ho).symm.trans htp; cases z
    · cases hc
  ca := fun X ⟨_, I⟩ k => cls_any C X I k
/-- no dict, or a dict that is told -/
def DicOk (d : Option Addr) (H : Hp) : Prop := d = none ∨ ∃ dd fs, d = some dd ∧ H dd = some (.xd fs)
/-- isinstance(e, c), e the exception that the suite holds, its dict told -/
def rIsY (K : PySem.W.Frag) (cls : Value) (d : Option Addr) (a : Addr) : List V → Hp → VK → Prop := fun xs H Q =>
  ∃ (D : Addr) (c : V) (cv : Value) (b : Bool), cls = .ref D ∧ DicOk d H ∧ ExcC K D ∧ xs = [.ref a, c] ∧ (∀ u, RelV c u → u = cv) ∧ PySem.W.kitOne K (.ref D) cv = some b ∧ Q (.bl b) H
theorem call_isY {X : Cx} {a : Addr} {cls : Value} {d : Option Addr} {oe : Obj} {pn : List (Addr × Obj)} (hz : Zc cls d oe) (hf : ∃ vs, oe.data = .fields vs) : CallR (X.suite a ((a, oe) :: pn)) (.builtin "isinstance") (rIsY X.K cls d a) := by
  intro pins s σ H xs us Q I r h
  obtain ⟨D, c, cv, b, rfl, hd, C, rfl, hcv, e, q⟩ := h
  cases r with
  | cons rx rr =>
    cases rr with
    | cons rt rr =>
      cases rr
      cases rx
      have ec := hcv _ rt
      subst ec
      obtain ⟨hget, _⟩ := I.pin (a, oe) (List.mem_append.mpr (.inl List.mem_cons_self))
      obtain ⟨vs, hv⟩ := hf
      obtain ⟨h1, h2⟩ := hz
      have nc : ∀ od, (match oe.dict, od with | some dx, some o => s.heap.get? dx = some o | none, none => True | _, _ => False) → PySem.W.InstAt s.heap a oe D od := fun od z => ⟨hget, h1, by unfold PySem.W.notCls; rw [hv] <;> rfl, z⟩
      have J : ∃ od, PySem.W.InstAt s.heap a oe D od := by
        rcases hd with z | ⟨dd, fs, z, hx⟩
        · exact ⟨none, nc none (by rw [h2, z]; exact True.intro)⟩
        · have hx2 : ObjOk X.prog X.w H s.heap dd (.xd fs) := I.hok dd _ hx
          obtain ⟨mA, hns, hr⟩ := hx2
          obtain ⟨od, ho, hl⟩ := lookIn_ns hns
          exact ⟨some od, nc (some od) (by rw [h2, z]; exact ho)⟩
      exact PySem.W.kia_one (kit_exd C) I.kIn J e (fun z => nomatch z) fun tk => ⟨.bl b, H, I.kept (t' := tk) fun _ _ z => z, rfl, q⟩
/-- err.f in an except suite, its class told in the reading -/
theorem pe_xfA {X : Cx} {a : Addr} {oe : Obj} {cls : Value} {d : Option Addr} {pn : List (Addr × Obj)} {e : Expr} {te : TE} {pos : Pos} {n : Str}
    (hz : Zc cls d oe) (hf : ∃ vs, oe.data = .fields vs) (he : PE (X.suite a ((a, oe) :: pn)) e te) (hb : attributeBase e n X.env (eval e X.env) = eval e X.env := by rfl) :
    PE (X.suite a ((a, oe) :: pn)) (.Attribute e n pos) (fun σ H Q => ∃ C : Addr, XfC X.K C ∧ PySem.W.findIn X.K (.ref C) n = some none ∧ tXf a cls d C n te σ H Q) :=
  ⟨fun pins s σ H Q I ⟨C, T, hno, h⟩ => (pe_xf T hno hz hf he hb).run pins s σ H Q I h⟩
end B

set_option Elab.async false
set_option linter.all false
set_option maxRecDepth 100000
set_option maxHeartbeats 4000000
namespace B
open PySem PySem.Spec PyProof.Rows L2
def topS (i : Nat) : Stmt := PySem.Challenge.pw_busfind_k20_texts_refused.main.body.getD i (.Pass ⟨0, 0, 0, 0⟩)
abbrev s_BadLooks_init : Stmt := inClass (topS 11) 0
abbrev s_BadStep_init : Stmt := inClass (topS 15) 0
abbrev s_BadText_init : Stmt := inClass (topS 16) 0
abbrev s_is_number : Stmt := topS 20
abbrev s_is_step : Stmt := topS 26
abbrev s_is_some_number : Stmt := topS 27
abbrev s_read : Stmt := topS 29
abbrev s_ltaken : Stmt := topS 31
abbrev s_lalike : Stmt := topS 32
abbrev s_lword : Stmt := topS 33
abbrev s_lnumber : Stmt := topS 34
abbrev s_lsteps : Stmt := topS 35
abbrev s_lread : Stmt := topS 36
abbrev s_lspoilt : Stmt := topS 37
abbrev s_law : Stmt := topS 38
theorem sc_is_number : FnScope ["width", "number", "sign"] ["width", "number"] (defScope s_is_number) := ⟨rfl, rfl, rfl, by decide +kernel, rfl, by decide +kernel, by decide +kernel⟩
theorem sc_is_step : FnScope ["step", "word", "what"] ["step"] (defScope s_is_step) := ⟨rfl, rfl, rfl, by decide +kernel, rfl, by decide +kernel, by decide +kernel⟩
theorem sc_is_some_number : FnScope ["number"] ["number"] (defScope s_is_some_number) := ⟨rfl, rfl, rfl, by decide +kernel, rfl, by decide +kernel, by decide +kernel⟩
theorem sc_read : FnScope ["text", "rows", "steps", "number", "row", "step"] ["text"] (defScope s_read) := ⟨rfl, rfl, rfl, by decide +kernel, rfl, by decide +kernel, by decide +kernel⟩
theorem sc_ltaken : FnScope ["_law_row", "_law_many", "_law_found", "_law_cell"] ["_law_row", "_law_many"] (defScope s_ltaken) := ⟨rfl, rfl, rfl, by decide +kernel, rfl, by decide +kernel, by decide +kernel⟩
theorem sc_lalike : FnScope ["_law_found", "_law_due", "_law_k"] ["_law_found", "_law_due"] (defScope s_lalike) := ⟨rfl, rfl, rfl, by decide +kernel, rfl, by decide +kernel, by decide +kernel⟩
theorem sc_lword : FnScope ["_law_work", "e", "_law_kinds", "_law_words", "_law_word_here"] ["_law_work"] (defScope s_lword) := ⟨rfl, rfl, rfl, by decide +kernel, rfl, by decide +kernel, by decide +kernel⟩
theorem sc_lnumber : FnScope ["_law_row", "_law_width", "_law_k"] ["_law_row", "_law_width"] (defScope s_lnumber) := ⟨rfl, rfl, rfl, by decide +kernel, rfl, by decide +kernel, by decide +kernel⟩
theorem sc_lsteps : FnScope ["_law_row", "_law_most", "_law_found", "_law_k", "_law_word_here"] ["_law_row", "_law_most"] (defScope s_lsteps) := ⟨rfl, rfl, rfl, by decide +kernel, rfl, by decide +kernel, by decide +kernel⟩
theorem sc_lread : FnScope ["_law_line", "_law_words", "_law_good"] ["_law_line"] (defScope s_lread) := ⟨rfl, rfl, rfl, by decide +kernel, rfl, by decide +kernel, by decide +kernel⟩
theorem sc_lspoilt : FnScope ["_law_row", "_law_text", "_law_way", "_law_at", "_law_signs", "_law_sign", "_law_lines", "_law_k", "_law_words", "_law_j", "_law_odd"] ["_law_row", "_law_text"] (defScope s_lspoilt) := ⟨rfl, rfl, rfl, by decide +kernel, rfl, by decide +kernel, by decide +kernel⟩
theorem sc_law : FnScope ["_law_script", "_law_row", "_law_some", "_law_turn", "_law_text", "_law_change", "_law_one", "_law_found", "_law_bad", "_law_step", "_law_line", "_law_k"] ["_law_script"] (defScope s_law) := ⟨rfl, rfl, rfl, by decide +kernel, rfl, by decide +kernel, by decide +kernel⟩
def d_is_number : He.DefD := ⟨("is_number", none), "is_number", "is_number", defArgs s_is_number, defBody s_is_number, defScope s_is_number, [], []⟩
def d_is_step : He.DefD := ⟨("is_step", none), "is_step", "is_step", defArgs s_is_step, defBody s_is_step, defScope s_is_step, [], []⟩
def d_is_some_number : He.DefD := ⟨("is_some_number", none), "is_some_number", "is_some_number", defArgs s_is_some_number, defBody s_is_some_number, defScope s_is_some_number, [], []⟩
def d_read : He.DefD := ⟨("read", none), "read", "read", defArgs s_read, defBody s_read, defScope s_read, [], []⟩
def d_ltaken : He.DefD := ⟨("_law_taken", none), "_law_taken", "_law_taken", defArgs s_ltaken, defBody s_ltaken, defScope s_ltaken, [], []⟩
def d_lalike : He.DefD := ⟨("_law_alike", none), "_law_alike", "_law_alike", defArgs s_lalike, defBody s_lalike, defScope s_lalike, [], []⟩
def d_lword : He.DefD := ⟨("_law_word", none), "_law_word", "_law_word", defArgs s_lword, defBody s_lword, defScope s_lword, [], []⟩
def d_lnumber : He.DefD := ⟨("_law_number", none), "_law_number", "_law_number", defArgs s_lnumber, defBody s_lnumber, defScope s_lnumber, [], []⟩
def d_lsteps : He.DefD := ⟨("_law_steps", none), "_law_steps", "_law_steps", defArgs s_lsteps, defBody s_lsteps, defScope s_lsteps, [], []⟩
def d_lread : He.DefD := ⟨("_law_read", none), "_law_read", "_law_read", defArgs s_lread, defBody s_lread, defScope s_lread, [], []⟩
def d_lspoilt : He.DefD := ⟨("_law_spoilt", none), "_law_spoilt", "_law_spoilt", defArgs s_lspoilt, defBody s_lspoilt, defScope s_lspoilt, [], []⟩
def d_law : He.DefD := ⟨("law", none), "law", "law", defArgs s_law, defBody s_law, defScope s_law, [], []⟩
def d_BadText_init : He.DefD := ⟨("BadText", some "__init__"), "__init__", "BadText.__init__", defArgs s_BadText_init, defBody s_BadText_init, defScope s_BadText_init, [], []⟩
def fs : List He.DefD := [d_BadText_init]
def fa : List He.Fa := [.glo "is_number", .glo "is_step", .glo "is_some_number", .glo "read", .glo "_law_taken", .glo "_law_alike", .glo "_law_word", .glo "_law_number", .glo "_law_steps", .glo "_law_read", .glo "_law_spoilt", .glo "law", .glo "BusError", .glo "BadWidth", .glo "BadNumber", .glo "BadKind", .glo "BadBit", .glo "There", .glo "NotThere", .glo "NoRound", .glo "Over", .glo "Busy", .glo "BadLooks", .glo "BadRoster", .glo "TooMany", .glo "BadPlan", .glo "BadStep", .glo "BadText", .int "LEAST_WIDTH" 1, .int "GREATEST_WIDTH" 12, .int "MOST_STEPS" 200, .glo "KINDS", .glo "WORDS_ALONE", .glo "WORDS_OF_THINGS", .free "super", .free "all", .free "isinstance", .free "str", .free "len", .free "enumerate", .free "tuple", .free "list", .free "bool", .free "int", .free "range", .free "ValueError", .exm "BadText" "BusError" true]
def fn : List He.DefD := [d_is_number, d_is_step, d_is_some_number, d_read, d_ltaken, d_lalike, d_lword, d_lnumber, d_lsteps, d_lread, d_lspoilt, d_law]
def pd_is_number : He.Defn := ("is_number", none)
def pd_law : He.Defn := ("law", none)
def gens : List He.Defn := [pd_is_number]
def lams : List (He.Defn × Str) := [(pd_law, "law.<locals>.<lambda>")]
def tf : List He.Defn := [pd_is_number, pd_law]
def kitC (K : PySem.W.Frag) (c d : Str) (b : Bool) : Bool := decide (PySem.W.kitOne K (.ref (He.ga K c)) (.ref (He.ga K d)) = some b)
def excC (K : PySem.W.Frag) (c : Str) : Bool :=
  He.eqO (PySem.W.findIn K (.ref (He.ga K c)) "__getattribute__") (some (some (.builtin "BaseException.__getattribute__"))) &&
  He.eqO (PySem.W.findIn K (.ref (He.ga K c)) "__getattr__") (some none) && PySem.W.hasDictIn K (He.ga K c) &&
  He.eqO (PySem.W.findIn K (.ref (He.ga K c)) "__class__") (some (some (.builtin "object.__class__"))) &&
  decide (PySem.W.specialIn K (.builtin "object.__class__") "__get__" = some (some (.builtin "getset_descriptor.__get__"))) &&
  decide (PySem.W.takesIn K (.builtin "object.__class__") = some true) && decide (PySem.W.mroIn K (He.ga K c) (.type "object") = some true) &&
  decide (PySem.W.kitOne K (.ref (He.ga K c)) (.type "ValueError") = some true)
def tupB (K : PySem.W.Frag) (x : Str) (vs : List V) : Bool := match K.lookup (He.ga K x) with
  | some ⟨.type t, _, .seq its _, _⟩ => decide (t = "tuple") && He.relAll vs its.toList
  | _ => false
def allErr : List Str := ["BadWidth", "BadNumber", "BadKind", "BadBit", "There", "NotThere", "NoRound", "Over", "Busy", "BadLooks", "BadRoster", "TooMany", "BadPlan", "BadStep", "BadText"]
def raised : List Str := ["BadText"]
def exExc (K : PySem.W.Frag) : Bool := raised.all fun c => excC K c && allErr.all fun d => kitC K c d (decide (c = d))
def exS_BadText (K : PySem.W.Frag) : Bool := cloOk K (PySem.Challenge.rw_busfind_k20_texts_refused).prog.main.file d_BadText_init "BadText" && scB K (He.ga K "BadText") (He.fAd K d_BadText_init.at_) "row"
def exTup (K : PySem.W.Frag) : Bool := (exS_BadText K && (tupB K "KINDS" [.str "all", .str "alarm"] && (tupB K "WORDS_ALONE" [.str "step", .str "round", .str "turn", .str "refresh"] && tupB K "WORDS_OF_THINGS" [.str "hang", .str "off", .str "alarm", .str "calm"])))
def ex (K : PySem.W.Frag) : Bool := decide ((tf.map fun p => (He.cT K p).2).Nodup) && (exTup K && exExc K)
abbrev R : PySem.W.OpenRow := PySem.W.OpenLaw.row PySem.Challenge.rw_busfind_k20_texts_refused
abbrev hk : PySem.W.Hook := hookS 5 fa fn [] tf ex fs
def ob (s : PySem.W.SharedT) : He.AlX × List FnS := ((He.obsT fa fn [] (frS 5 (HandSHeadRun.getT s)), ex (frS 5 (HandSHeadRun.getT s)) && He.tabsB (HandSHeadRun.getT s) tf (frS 5 (HandSHeadRun.getT s))), fs.map fun d => fnS (frS 5 (HandSHeadRun.getT s)) d.at_)
theorem ob_eq (s : PySem.W.SharedT) : ob s = hk.obs s.abs := by
  have e : HandSHeadRun.getT s = s.abs.heap.get? := funext (HandSHeadRun.getT_eq s)
  unfold ob
  rw [e] <;> rfl
def names : List Str := (["BusError", "BadWidth", "BadNumber", "BadKind", "BadBit", "There", "NotThere", "NoRound", "Over", "Busy", "BadLooks", "BadRoster", "TooMany", "BadPlan", "BadStep"] : List Str) ++ (["BadText", "LEAST_WIDTH", "GREATEST_WIDTH", "is_number", "KINDS", "MOST_STEPS", "WORDS_ALONE", "WORDS_OF_THINGS", "is_step", "is_some_number", "read", "_law_taken", "_law_alike", "_law_word", "_law_number"] : List Str) ++ (["_law_steps", "_law_read", "_law_spoilt"] : List Str)
set_option maxHeartbeats 0 in
theorem run (w : World) : HandSHeadRun.RunEq R (PySem.W.view R.prog [38]) hk ob 6000 names w := by
  intro os
  kernel_rfl
end B

set_option Elab.async false
set_option linter.all false
set_option maxRecDepth 100000
set_option maxHeartbeats 4000000
namespace B
open PySem PySem.Spec PyProof.Rows L2
/-- what the defs lean on: the written part, the names, the code tables -/
structure Txt (P : Program) (w : World) (K : PySem.W.Frag) (mg : Str → Option Value) (base : Heap) : Prop where
  X : K.In base
  G : base.Ns mainGlobals mg
  t : He.SaysD fa fn K
  m : ex K = true
  tb : ∀ p ∈ tf, LamX.TabB base mg (He.cT K p).1 (He.cT K p).2
  s : ∀ d ∈ fs, fnS K d.at_ = sVal d
  p : P = R.prog
/-- a def that may be called by its name -/
structure CalX (CX : CXT) (P : Program) (w : World) (K : PySem.W.Frag) (mg : Str → Option Value) (base : Heap) (k : Nat) (x : Str) (sp : Sp) : Prop where
  ex : ∃ (f : Addr) (fd : FuncData) (ps : List Str), FnOk P w K mg base CX k f fd ps sp ∧ mg x = some (.ref f) ∧ PySem.W.keepIn K (.ref f) = true ∧ Binds K fd ps []
structure MetX (CX : CXT) (P : Program) (w : World) (K : PySem.W.Frag) (mg : Str → Option Value) (base : Heap) (k : Nat) (C : Addr) (m : Str) (sp : Sp) : Prop where
  ex : ∃ (f : Addr) (fd : FuncData) (ps : List Str), Cls K C ∧ Meth K C m f ∧ FnOk P w K mg base CX k f fd ps sp ∧ Binds K fd ps []
structure MakX (CX : CXT) (P : Program) (w : World) (K : PySem.W.Frag) (mg : Str → Option Value) (base : Heap) (k : Nat) (x : Str) (C : Addr) (sp : Sp) : Prop where
  ex : ∃ (f : Addr) (fd : FuncData) (ps : List Str), Mk K C f ∧ FnOk P w K mg base CX k f fd ps sp ∧ mg x = some (.ref C) ∧ Binds K fd ps []
section
variable {X : Cx} {CX : CXT} {k j : Nat} {C : Addr} {x m : Str} {sp : Sp} {p pos apos : Pos} {e o : Expr} {es : List Expr} {ta : TE} {t : TA} {E : XK}
theorem pe_cx (c : CalX CX X.prog X.w X.K X.mg X.base k x sp) (hr : Room j X.A) (hk : k ≤ j) (hg : Gl X x) (hx : Passes CX X E) (ha : PA X (e :: es) t)
    (hdb : (x == ("__debug__" : Str)) = false := by decide) (he : starEach (e :: es) X.env = (false, eval e X.env) :: starEach es X.env := by rfl) (hpl : (backTo pos (starEach es X.env)).any (·.1) = false := by rfl) :
    PE X (.Call (.Name x p) (e :: es) [] pos) (tCall sp [] E t) := by
  obtain ⟨f, fd, ps, F, hm, hkp, hb⟩ := c.ex
  exact pe_call F (hr.mono hk) hg hm hkp hb .nil hx ha hdb he hpl
theorem pe_mx {pl : Sem Bool} (c : MetX CX X.prog X.w X.K X.mg X.base k C m sp) (hr : Room j X.A) (hk : k ≤ j) (he : PE X o ta) (hx : Passes CX X E) (ha : PA X (e :: es) t)
    (hst : starEach (e :: es) X.env = (false, eval e X.env) :: starEach es X.env := by rfl) (hpl : (backTo pos (starEach es X.env)).any (·.1) = false := by rfl)
    (ht : eval (.Call (.Attribute o m apos) (e :: es) [] pos) X.env = (do
      let ov ← eval o X.env
      standAt apos.atName
      let (f, first) ← holding [ov] (getMethod ov m pl)
      callWith pos f first (backTo pos (starEach (e :: es) X.env)) (backToKw pos (keywordEach [] X.env))) := by rfl) :
    PE X (.Call (.Attribute o m apos) (e :: es) [] pos) (tMeth C m sp [] E ta t) := by
  obtain ⟨f, fd, ps, hc, hm, F, b⟩ := c.ex
  exact pe_meth (pl := pl) he hc hm F (hr.mono hk) b .nil hx ha hst hpl ht
theorem pe_mx0 {pl : Sem Bool} (c : MetX CX X.prog X.w X.K X.mg X.base k C m sp) (hr : Room j X.A) (hk : k ≤ j) (he : PE X o ta) (hx : Passes CX X E)
    (ht : eval (.Call (.Attribute o m apos) [] [] pos) X.env = (do
      let ov ← eval o X.env
      standAt apos.atName
      let (f, first) ← holding [ov] (getMethod ov m pl)
      callWith pos f first (backTo pos (starEach [] X.env)) (backToKw pos (keywordEach [] X.env))) := by rfl) :
    PE X (.Call (.Attribute o m apos) [] [] pos) (tMeth C m sp [] E ta tNil) := by
  obtain ⟨f, fd, ps, hc, hm, F, b⟩ := c.ex
  exact pe_meth0 (pl := pl) he hc hm F (hr.mono hk) b .nil hx ht
/-- a field, the written part by its own name (within a comprehension) -/
theorem pe_fldK {K : PySem.W.Frag} {f : Str} (hK : X.K = K) (ha : PE X e ta) (hb : attributeBase e f X.env (eval e X.env) = eval e X.env := by rfl) : PE X (.Attribute e f pos) (tFld K ta f) := by
  subst hK
  exact pe_fld ha hb
theorem pe_mkx (c : MakX CX X.prog X.w X.K X.mg X.base k x C sp) (hr : Room j X.A) (hk : k + 1 ≤ j) (hg : Gl X x) (hx : Passes CX X E) (ha : PA X (e :: es) t)
    (hdb : (x == ("__debug__" : Str)) = false := by decide) (he : starEach (e :: es) X.env = (false, eval e X.env) :: starEach es X.env := by rfl) (hpl : (backTo pos (starEach es X.env)).any (·.1) = false := by rfl) :
    PE X (.Call (.Name x p) (e :: es) [] pos) (tMake C sp [] E t) := by
  obtain ⟨f, fd, ps, M, F, hm, b⟩ := c.ex
  exact pe_make M F (hr.mono hk) hg hm b .nil hx ha hdb he hpl
end
section
variable {P : Program} {w : World} {K : PySem.W.Frag} {mg : Str → Option Value} {base : Heap}
theorem g_BusError (T : Txt P w K mg base) : mg "BusError" = some (.ref (He.ga K "BusError")) := He.glo_ok T.X T.G (T.t.fact 12)
theorem g_BadWidth (T : Txt P w K mg base) : mg "BadWidth" = some (.ref (He.ga K "BadWidth")) := He.glo_ok T.X T.G (T.t.fact 13)
theorem g_BadNumber (T : Txt P w K mg base) : mg "BadNumber" = some (.ref (He.ga K "BadNumber")) := He.glo_ok T.X T.G (T.t.fact 14)
theorem g_BadKind (T : Txt P w K mg base) : mg "BadKind" = some (.ref (He.ga K "BadKind")) := He.glo_ok T.X T.G (T.t.fact 15)
theorem g_BadBit (T : Txt P w K mg base) : mg "BadBit" = some (.ref (He.ga K "BadBit")) := He.glo_ok T.X T.G (T.t.fact 16)
theorem g_There (T : Txt P w K mg base) : mg "There" = some (.ref (He.ga K "There")) := He.glo_ok T.X T.G (T.t.fact 17)
theorem g_NotThere (T : Txt P w K mg base) : mg "NotThere" = some (.ref (He.ga K "NotThere")) := He.glo_ok T.X T.G (T.t.fact 18)
theorem g_NoRound (T : Txt P w K mg base) : mg "NoRound" = some (.ref (He.ga K "NoRound")) := He.glo_ok T.X T.G (T.t.fact 19)
theorem g_Over (T : Txt P w K mg base) : mg "Over" = some (.ref (He.ga K "Over")) := He.glo_ok T.X T.G (T.t.fact 20)
theorem g_Busy (T : Txt P w K mg base) : mg "Busy" = some (.ref (He.ga K "Busy")) := He.glo_ok T.X T.G (T.t.fact 21)
theorem g_BadLooks (T : Txt P w K mg base) : mg "BadLooks" = some (.ref (He.ga K "BadLooks")) := He.glo_ok T.X T.G (T.t.fact 22)
theorem g_BadRoster (T : Txt P w K mg base) : mg "BadRoster" = some (.ref (He.ga K "BadRoster")) := He.glo_ok T.X T.G (T.t.fact 23)
theorem g_TooMany (T : Txt P w K mg base) : mg "TooMany" = some (.ref (He.ga K "TooMany")) := He.glo_ok T.X T.G (T.t.fact 24)
theorem g_BadPlan (T : Txt P w K mg base) : mg "BadPlan" = some (.ref (He.ga K "BadPlan")) := He.glo_ok T.X T.G (T.t.fact 25)
theorem g_BadStep (T : Txt P w K mg base) : mg "BadStep" = some (.ref (He.ga K "BadStep")) := He.glo_ok T.X T.G (T.t.fact 26)
theorem g_BadText (T : Txt P w K mg base) : mg "BadText" = some (.ref (He.ga K "BadText")) := He.glo_ok T.X T.G (T.t.fact 27)
theorem n_super (T : Txt P w K mg base) : mg "super" = none := He.free_ok T.X T.G (T.t.fact 34)
theorem n_all (T : Txt P w K mg base) : mg "all" = none := He.free_ok T.X T.G (T.t.fact 35)
theorem n_isinstance (T : Txt P w K mg base) : mg "isinstance" = none := He.free_ok T.X T.G (T.t.fact 36)
theorem n_str (T : Txt P w K mg base) : mg "str" = none := He.free_ok T.X T.G (T.t.fact 37)
theorem n_len (T : Txt P w K mg base) : mg "len" = none := He.free_ok T.X T.G (T.t.fact 38)
theorem n_enumerate (T : Txt P w K mg base) : mg "enumerate" = none := He.free_ok T.X T.G (T.t.fact 39)
theorem n_tuple (T : Txt P w K mg base) : mg "tuple" = none := He.free_ok T.X T.G (T.t.fact 40)
theorem n_list (T : Txt P w K mg base) : mg "list" = none := He.free_ok T.X T.G (T.t.fact 41)
theorem n_bool (T : Txt P w K mg base) : mg "bool" = none := He.free_ok T.X T.G (T.t.fact 42)
theorem n_int (T : Txt P w K mg base) : mg "int" = none := He.free_ok T.X T.G (T.t.fact 43)
theorem n_range (T : Txt P w K mg base) : mg "range" = none := He.free_ok T.X T.G (T.t.fact 44)
theorem n_ValueError (T : Txt P w K mg base) : mg "ValueError" = none := He.free_ok T.X T.G (T.t.fact 45)
theorem xs_BadText (T : Txt P w K mg base) : exS_BadText K = true := (He.ba (He.ba (He.ba T.m).2).1).1
theorem xc_KINDS (T : Txt P w K mg base) : tupB K "KINDS" [.str "all", .str "alarm"] = true := (He.ba (He.ba (He.ba (He.ba T.m).2).1).2).1
theorem xc_WORDS_ALONE (T : Txt P w K mg base) : tupB K "WORDS_ALONE" [.str "step", .str "round", .str "turn", .str "refresh"] = true := (He.ba (He.ba (He.ba (He.ba (He.ba T.m).2).1).2).2).1
theorem xc_WORDS_OF_THINGS (T : Txt P w K mg base) : tupB K "WORDS_OF_THINGS" [.str "hang", .str "off", .str "alarm", .str "calm"] = true := (He.ba (He.ba (He.ba (He.ba (He.ba T.m).2).1).2).2).2
end
section
variable {X : Cx}
theorem g_LEAST_WIDTH (T : Txt X.prog X.w X.K X.mg X.base) {p : Pos} (hg : Gl X "LEAST_WIDTH" := by rfl) : PE X (.Name "LEAST_WIDTH" p) (tC (.int 1)) := by
  obtain ⟨t, e⟩ := He.int_ok T.X T.G (T.t.fact 28 (f := .int "LEAST_WIDTH" 1))
  exact pe_glob hg e ⟨t, rfl⟩
theorem g_GREATEST_WIDTH (T : Txt X.prog X.w X.K X.mg X.base) {p : Pos} (hg : Gl X "GREATEST_WIDTH" := by rfl) : PE X (.Name "GREATEST_WIDTH" p) (tC (.int 12)) := by
  obtain ⟨t, e⟩ := He.int_ok T.X T.G (T.t.fact 29 (f := .int "GREATEST_WIDTH" 12))
  exact pe_glob hg e ⟨t, rfl⟩
theorem g_KINDS (T : Txt X.prog X.w X.K X.mg X.base) {p : Pos} (hg : Gl X "KINDS" := by rfl) : PE X (.Name "KINDS" p) (tC (.ref (He.ga X.K "KINDS"))) :=
  pe_glob hg (He.glo_ok T.X T.G (T.t.fact 31)) rfl
end
/-- a test whose answer is open -/
theorem iteB {b : Bool} {A B : Prop} (h1 : b = true → A) (h2 : b = false → B) : if b = true then A else B := by
  cases b with
  | true => exact iteT (h1 rfl)
  | false => exact iteF (h2 rfl)
/-! ### drawing -/
/-- the row of a draw -/
abbrev rowO (a : Addr) (i m b : Int) : HO := .lst [.ref a, .int i, .int m, .int b]
/-- the row at r stands over the script at a -/
def RowAt (r a : Addr) (H : Hp) : Prop := ∃ i m b : Int, H r = some (rowO a i m b) ∧ 0 ≤ i
/-- the script stands at a -/
def Scr (K : PySem.W.Frag) (a : Addr) (H : Hp) : Prop := ∃ ns : List Int, SqL K H a (ns.map V.int)
/-- no list but of objects, no tuple -/
def nl : HO → Bool
  | .ins _ _ _ => true
  | .dK _ => true
  | .lst (.ref _ :: _) => true
  | _ => false
def NL (S : List Addr) (H : Hp) : Prop := ∀ s ∈ S, ∃ o, H s = some o ∧ nl o = true
theorem NL.nil {H : Hp} : NL [] H := fun _ h => absurd h (by simp)
theorem NL.cons {S : List Addr} {H : Hp} {s : Addr} {o : HO} (h : H s = some o) (n : nl o = true) (t : NL S H) : NL (s :: S) H := fun c hc => by
  rcases List.mem_cons.mp hc with e | e
  · rw [e]
    exact ⟨o, h, n⟩
  · exact t c e
theorem RowAt.nl {r a : Addr} {H : Hp} (h : RowAt r a H) : NL [r] H := by
  obtain ⟨i, m, b, e, _⟩ := h
  exact .cons e rfl .nil
/-- a code table: only its own rules say what becomes of it -/
def isT : HO → Bool
  | .tbl _ => true
  | _ => false
/-- what stood stands, but for the objects of S; nothing goes -/
structure Frm (S : List Addr) (H H' : Hp) : Prop where
  k : ∀ b o, H b = some o → 0 = 0 → b ∉ S → H' b = some o
  b : ∀ b, H' b = none → H b = none
theorem Frm.refl (S : List Addr) (H : Hp) : Frm S H H := ⟨fun _ _ h _ _ => h, fun _ h => h⟩
theorem Frm.trans {S : List Addr} {H H1 H2 : Hp} (a : Frm S H H1) (b : Frm S H1 H2) : Frm S H H2 := ⟨fun c o h t n => b.k c o (a.k c o h t n) t n, fun c h => a.b c (b.b c h)⟩
theorem Frm.mono {S S' : List Addr} {H H1 : Hp} (a : Frm S H H1) (h : ∀ x ∈ S, x ∈ S') : Frm S' H H1 := ⟨fun c o e t n => a.k c o e t fun z => n (h c z), a.b⟩
theorem Frm.of {S : List Addr} {H H1 : Hp} (a : Same H H1) : Frm S H H1 := ⟨fun c o e _ _ => a c o e, fun c h => a.free h⟩
theorem upd_back {H : Hp} {p b : Addr} {o : HO} (h : upd H p o b = none) : H b = none := by
  by_cases e : b = p
  · rw [e, upd_same] at h
    cases h
  · rw [upd_ne e] at h
    exact h
theorem Frm.new {S : List Addr} {H H1 : Hp} {p : Addr} {o : HO} (a : Frm S H H1) (h : H p = none) : Frm S H (upd H1 p o) := ⟨fun c u e t n => by
  rw [upd_ne (ne_of_none e h)]
  exact a.k c u e t n, fun c z => a.b c (upd_back z)⟩
theorem Frm.put {S : List Addr} {H H1 : Hp} {p : Addr} {o : HO} (a : Frm S H H1) (h : p ∈ S) : Frm S H (upd H1 p o) := ⟨fun c u e t n => by
  rw [upd_ne (fun z => n (by rw [z]; exact h))]
  exact a.k c u e t n, fun c z => a.b c (upd_back z)⟩
theorem same_upd {H : Hp} {p : Addr} {o : HO} (h : H p = none) : Same H (upd H p o) := fun b x e => by
  rw [upd_ne (ne_of_none e h)]
  exact e
/-- what is no nl stands -/
theorem Frm.at {S : List Addr} {H H' : Hp} {p : Addr} {o : HO} (f : Frm S H H') (n : NL S H) (h : H p = some o) (h1 : isT o = false) (h2 : B.nl o = false) : H' p = some o :=
  f.k p o h rfl fun z => by
    obtain ⟨u, e, q⟩ := n p z
    rw [h] at e
    cases e
    rw [h2] at q
    cases q
theorem nl_strs (xs : List Str) : B.nl (.lst (xs.map V.str)) = false := by
  cases xs <;> rfl
theorem nl_ints (xs : List Int) : B.nl (.lst (xs.map V.int)) = false := by
  cases xs <;> rfl
theorem Frm.scr {K : PySem.W.Frag} {S : List Addr} {H H' : Hp} {a : Addr} (f : Frm S H H') (n : NL S H) (h : Scr K a H) : Scr K a H' := by
  obtain ⟨ns, (h | ⟨u, h⟩) | h⟩ := h
  · exact ⟨ns, .inl (.inl (f.at n h rfl (nl_ints ns)))⟩
  · exact ⟨ns, .inl (.inr ⟨u, f.at n h rfl rfl⟩)⟩
  · exact ⟨ns, .inr h⟩
theorem Frm.row {S : List Addr} {H H' : Hp} {r a : Addr} (f : Frm S H H') (hr : r ∉ S) (h : RowAt r a H) : RowAt r a H' := by
  obtain ⟨i, m, b, e, h0⟩ := h
  exact ⟨i, m, b, f.k r _ e rfl hr, h0⟩
/-- a number below n; the row turned -/
def spTaken (K : PySem.W.Frag) : Sp := fun vs H Q _ => ∃ (r a : Addr) (n : Int), vs = [.ref r, .int n] ∧ RowAt r a H ∧ Scr K a H ∧ 0 < n ∧ n < 1073741824 ∧
  ∀ (v : Int) (H' : Hp), 0 ≤ v → v < n → RowAt r a H' → Frm [r] H H' → Q (.int v) H'
theorem fmod_in {x n : Int} (h : 0 < n) : 0 ≤ x.fmod n ∧ x.fmod n < n := by
  rw [Int.fmod_eq_emod_of_nonneg _ (by omega)]
  exact ⟨Int.emod_nonneg _ (by omega), Int.emod_lt_of_pos _ h⟩
section
variable {P : Program} {w : World} {K : PySem.W.Frag} {mg : Str → Option Value} {base : Heap}
theorem c_ltaken (T : Txt P w K mg base) : CalX CX0 P w K mg base 1 "_law_taken" (spTaken K) := by
  obtain ⟨fd, F⟩ := T.t.def_ 4 (d := d_ltaken)
  refine ⟨_, fd, _, F.ok sc_ltaken (fun vs H Q E h => ?_) (fun cdv A outer s H vs Q E hr h => ?_), He.glo_ok T.X T.G (T.t.fact 4), F.kp, F.bindsN fun _ _ _ _ _ _ us hl => match us, hl with | [_, _], _ => rfl⟩
  · obtain ⟨r, a, n, rfl, _⟩ := h
    rfl
  · obtain ⟨r, a, n, rfl, ⟨i, m, b, h1, hi⟩, ⟨ns, hS⟩, hn, hn2, k0⟩ := h
    have f1 : ∀ o', Frm [r] H (upd H r o') := fun o' => (Frm.refl _ _).put (List.mem_singleton.mpr rfl)
    have k : ∀ v i' m' b' : Int, 0 ≤ i' → 0 ≤ v → v < n → Q (.int v) (upd H r (rowO a i' m' b')) := fun v i' m' b' h2 h3 h4 =>
      k0 v _ h3 h4 ⟨i', m', b', upd_same, h2⟩ (f1 _)
    refine ⟨_, PSs.nox (pss_cons (ps_if (pt_cmpR op_gt (pe_ix ix_list (pv 0) pe_int (fun _ _ => rfl)) pe_int (nomark _))
      (pss_cons (ps_set (i := 2) sc_ltaken.nd rfl (Or.inl rfl) (pe_op op_modN (pe_ix ix_list (pv 0) pe_int (fun _ _ => rfl)) (pv 1)))
      (pss_cons (ps_asg (pe_op op_fdivN (pe_ix ix_list (pv 0) pe_int (fun _ _ => rfl)) (pv 1)) (pg_sub (pv 0) pe_int set_list))
      (pss_one (ps_ret (pv 2)))))
      pss_nil)
    (pss_cons (ps_asg (pe_op op_add (pe_ix ix_list (pv 0) pe_int (fun _ _ => rfl)) pe_int) (pg_sub (pv 0) pe_int set_list))
    (pss_cons (ps_if (pt_cmpR op_gt (pe_ix ix_list (pv 0) pe_int (fun _ _ => rfl)) (pe_callB call_len_seq (by rfl) (n_len T) PySem.boot_len (pa_cons (pe_ix ix_list (pv 0) pe_int (fun _ _ => rfl)) pa_nil)) (nomark _))
      (pss_cons (ps_asg (pe_op op_mod (pe_op op_add (pe_op op_mul (pe_ix ix_list (pv 0) pe_int (fun _ _ => rfl)) pe_int) pe_int) pe_int) (pg_sub (pv 0) pe_int set_list))
      (pss_one (ps_ret (pe_op op_modN (pe_op op_fdiv (pe_ix ix_list (pv 0) pe_int (fun _ _ => rfl)) pe_int) (pv 1)))))
      pss_nil)
    (pss_cons (ps_set (i := 3) sc_ltaken.nd rfl (Or.inl rfl) (pe_ix ix_list (pe_ix ix_list (pv 0) pe_int (fun _ _ => rfl)) (pe_op op_sub (pe_ix ix_list (pv 0) pe_int (fun _ _ => rfl)) pe_int) (fun _ _ => rfl)))
    (pss_cons (ps_asg (pe_op op_mod (pe_op op_add (pe_op op_add (pe_op op_mul (pe_ix ix_list (pv 0) pe_int (fun _ _ => rfl)) pe_int) (pv 3)) pe_int) pe_int) (pg_sub (pv 0) pe_int set_list))
    (pss_cons (ps_if (pt_cmpR op_ge (pv 3) (pe_op op_pow pe_int pe_int) (nomark _))
      (pss_one (ps_asg (pe_op op_fdivN (pv 3) (pv 1)) (pg_sub (pv 0) pe_int set_list)))
      pss_nil)
    (pss_one (ps_ret (pe_op op_modN (pv 3) (pv 1)))))))))), ?_⟩
    have hd : n ≠ 0 ∧ n.natAbs < 1073741824 := by omega
    -- if row[3] > 0
    refine ⟨_, rfl, r, _, 3, .int b, rfl, rfl, SqL.of h1, rfl, b, 0, rfl, rfl, _, rfl, iteB (fun c => ?_) (fun c => ?_)⟩
    · refine ⟨_, rfl, r, _, 3, .int b, rfl, rfl, SqL.of h1, rfl, _, rfl, b, n, rfl, rfl, (by omega), ?_⟩
      refine ⟨_, rfl, r, _, 3, .int b, rfl, rfl, SqL.of h1, rfl, _, rfl, b, n, rfl, rfl, hd, ?_⟩
      refine ⟨_, rfl, r, _, 3, 3, rfl, rfl, h1, rfl, ?_⟩
      refine ⟨_, rfl, ?_⟩
      exact k _ i m _ hi (fmod_in hn).1 (fmod_in hn).2
    · -- row[1] = row[1] + 1
      refine ⟨_, rfl, r, _, 1, .int i, rfl, rfl, SqL.of h1, rfl, i, 1, rfl, rfl, ?_⟩
      refine ⟨_, rfl, r, _, 1, 1, rfl, rfl, h1, rfl, ?_⟩
      have h2 : (upd H r (rowO a (i + 1) m b)) r = some (rowO a (i + 1) m b) := upd_same
      have S2 : SqL K (upd H r (rowO a (i + 1) m b)) a (ns.map V.int) := by
        rcases hS with (z | ⟨u, z⟩) | z
        · exact .inl (.inl ((f1 _).at (RowAt.nl ⟨i, m, b, h1, hi⟩) z rfl (nl_ints ns)))
        · exact .inl (.inr ⟨u, (f1 _).at (RowAt.nl ⟨i, m, b, h1, hi⟩) z rfl rfl⟩)
        · exact .inr z
      -- if row[1] > len(row[0])
      refine ⟨_, rfl, r, _, 1, .int (i + 1), rfl, rfl, SqL.of h2, rfl, _, rfl, r, _, 0, .ref a, rfl, rfl, SqL.of h2, rfl, a, _, rfl, .inl S2, _, _, rfl, rfl, _, rfl, iteB (fun c => ?_) (fun c => ?_)⟩
      · refine ⟨_, rfl, r, _, 2, .int m, rfl, rfl, SqL.of h2, rfl, m, 48271, rfl, rfl, .inr (by decide), _, 11, rfl, rfl, _, 2147483647, rfl, rfl, (by show (0 : Int) < 2147483647; decide), ?_⟩
        refine ⟨_, rfl, r, _, 2, 2, rfl, rfl, h2, rfl, ?_⟩
        refine ⟨_, rfl, r, _, 2, _, rfl, rfl, SqL.of upd_same, rfl, _, 7, rfl, rfl, ⟨by decide, by decide⟩, _, rfl, _, n, rfl, rfl, (by omega), ?_⟩
        rw [upd_upd]
        exact k _ (i + 1) _ b (by omega) (fmod_in hn).1 (fmod_in hn).2
      · have hlt : i.toNat < ns.length := by
          have c' := of_decide_eq_false c
          rw [List.length_map] at c'
          omega
        have hat : atI (ns.map V.int) (i + 1 - 1) = some (.int ns[i.toNat]) := by
          have e : i + 1 - 1 = ((i.toNat : Nat) : Int) := by omega
          rw [e]
          exact atI_nat (by rw [List.getElem?_map, List.getElem?_eq_getElem hlt]; rfl)
        refine ⟨_, rfl, r, _, 0, .ref a, rfl, rfl, SqL.of h2, rfl, _, rfl, r, _, 1, .int (i + 1), rfl, rfl, SqL.of h2, rfl, _, 1, rfl, rfl, a, _, _, _, rfl, rfl, S2, hat, ?_⟩
        refine ⟨_, rfl, r, _, 2, .int m, rfl, rfl, SqL.of h2, rfl, m, 48271, rfl, rfl, .inr (by decide), _, rfl, _, _, rfl, rfl, _, 11, rfl, rfl, _, 2147483647, rfl, rfl, (by show (0 : Int) < 2147483647; decide), ?_⟩
        refine ⟨_, rfl, r, _, 2, 2, rfl, rfl, h2, rfl, ?_⟩
        refine ⟨_, rfl, 10, 18, rfl, rfl, ⟨by decide, by decide, by decide⟩, _, _, rfl, rfl, _, rfl, iteB (fun c => ?_) (fun c => ?_)⟩
        · refine ⟨_, rfl, _, rfl, _, n, rfl, rfl, hd, _, rfl, r, _, 3, 3, rfl, rfl, upd_same, rfl, ?_⟩
          refine ⟨_, rfl, _, rfl, _, n, rfl, rfl, (by omega), ?_⟩
          rw [upd_upd, upd_upd]
          exact k _ (i + 1) _ _ (by omega) (fmod_in hn).1 (fmod_in hn).2
        · refine ⟨_, rfl, _, rfl, _, n, rfl, rfl, (by omega), ?_⟩
          rw [upd_upd]
          exact k _ (i + 1) _ b (by omega) (fmod_in hn).1 (fmod_in hn).2
end
end B

set_option Elab.async false
set_option linter.all false
set_option maxRecDepth 100000
set_option maxHeartbeats 4000000
namespace B
open PySem PySem.Spec PyProof.Rows L2
def spOI (C : Addr) (fld : Str) : Sp := fun vs H Q _ => ∃ (a : Addr) (n : Int), vs = [.ref a, .int n] ∧ 0 ≤ n ∧ n ≤ 1000 ∧ H a = some (exo a C none) ∧ ∀ dx, H dx = none → dx ≠ a → Q .non (upd (upd H dx (exd dx [(fld, .int n)])) a (exo a C (some dx)))
/-- what a made one leaves: its dict, new; the rest stands -/
theorem oi_go {C : Addr} {fld : Str} {n : Int} {H1 : Hp} {Q : XK} (h0 : 0 ≤ n) (h1 : n ≤ 1000) (k : ∀ d H2, Frm [] H1 H2 → H2 d = some (.xd [(fld, .int n)]) → H1 d = none → Q (.ref C) (some d) H2) :
    [V.int n].length ≤ 1000 ∧ ∀ a, H1 a = none → spOI C fld (.ref a :: ([V.int n] ++ [])) (upd H1 a (exo a C none)) (fun v H2 => v = .non ∧ ∃ (d : Addr) (fs : List (Str × V)), H2 a = some (exo a C (some d)) ∧ H2 d = some (exd d fs) ∧ H1 d = none ∧ Q (.ref C) (some d) (upd (del H2 a) d (.xd fs))) (fun _ _ _ => False) := by
  refine ⟨by show 1 ≤ 1000; decide, fun a ha => ⟨a, n, rfl, h0, h1, upd_same, fun dx h2 h3 => ⟨rfl, dx, _, upd_same, by rw [upd_ne h3, upd_same], ?_, ?_⟩⟩⟩
  · rw [upd_ne h3] at h2
    exact h2
  · rw [upd_ne h3] at h2
    refine k dx _ ⟨fun b o e _ _ => ?_, fun b e => ?_⟩ upd_same h2
    · have n1 : b ≠ dx := ne_of_none e h2
      have n2 : b ≠ a := ne_of_none e ha
      rw [upd_ne n1, del_ne n2, upd_ne n2, upd_ne n1, upd_ne n2]
      exact e
    · have e1 := upd_back e
      by_cases z : b = a
      · rw [z]
        exact ha
      · rw [del_ne z, upd_ne z] at e1
        have e2 := upd_back e1
        rw [upd_ne z] at e2
        exact e2
theorem ln_BadText (n : Int) (h0 : 0 ≤ n) (h1 : n ≤ 1000) : n.natAbs.log2 < 1920 ∧ ((Str.empty ++ "row ") ++ (toString n : Str)).length ≤ sizeLine ∧ (((Str.empty ++ "row ") ++ (toString n : Str)) ++ " writes no step").length ≤ sizeLine := by
  obtain ⟨m, rfl⟩ : ∃ m : Nat, n = m := ⟨n.toNat, by omega⟩
  have z : (List.range 1001).all (fun m => decide (((m : Int).natAbs.log2 < 1920) ∧ ((Str.empty ++ "row ") ++ (toString (m : Int) : Str)).length ≤ 1000 ∧ (((Str.empty ++ "row ") ++ (toString (m : Int) : Str)) ++ " writes no step").length ≤ 1000)) = true := by decide +kernel
  have := of_decide_eq_true (List.all_eq_true.mp z m (List.mem_range.mpr (by omega)))
  exact ⟨this.1, Nat.le_trans this.2.1 (by decide), Nat.le_trans this.2.2 (by decide)⟩
section
variable {P : Program} {w : World} {K : PySem.W.Frag} {mg : Str → Option Value} {base : Heap}
theorem own_BadText (e : fnS K d_BadText_init.at_ = sVal d_BadText_init) (h : cloOk K P.main.file d_BadText_init "BadText" = true) (Sc : ScC K (He.ga K "BadText") (He.fAd K d_BadText_init.at_) "row") (hm : mg "super" = none) (htop : (P.main.scope.names.lookup ("super" : Str)).isSome = false) :
    ∃ fd, FnOk P w K mg base CX0 1 (He.fAd K d_BadText_init.at_) fd ["self", "row"] (spOI (He.ga K "BadText") "row") ∧ L2.Binds K fd ["self", "row"] [] := by
  obtain ⟨oc, od, kV, doc, pm, an, ct, osl, cc, cl, cld, csl, cda, ccl, cdd, vs0, ccs, tf, lk, hcd, lkc, hvs, lkcell⟩ := sdef e h
  obtain ⟨cd, hD⟩ := Sc.cls
  refine ⟨_, fn_sinit (k := 0) lk hcd rfl rfl rfl (by decide +kernel) (by decide +kernel) (by decide +kernel) (by decide +kernel) lkcell (fun vs H Q E z => ?_) (fun A outer s H vs Q E hr hsp s1 I => ?_), .all fun us hl => match us, hl with | [_, _], _ => rfl⟩
  · obtain ⟨a, n, rfl, _⟩ := z
    rfl
  · obtain ⟨a, n, rfl, h0, h1, ea, kq⟩ := hsp
    refine at_two (ar := ⟨"self", none, _⟩) rfl rfl lk rfl lkc hvs (beq_self_eq_true _) htop rfl lkcell hD rfl rfl rfl hm Sc.any rfl (pa_cons (pe_joined (.cons pe_str (.cons (pe_fmt (pe_var (i := 1) rfl (.inl rfl))) (.cons pe_str .nil)))) pa_nil) Sc.T Sc.mro Sc.sup Sc.sub rfl rfl rfl (ps_ost (pe_var (i := 0) rfl (.inl rfl)) (pe_var (i := 1) rfl (.inl rfl))) I rfl ea ?_
    have f := ln_BadText n h0 h1
    refine ⟨_, rfl, by decide +kernel, _, rfl, .inr ⟨n, rfl, f.1, _, rfl, ?_, _, rfl, ?_, by show 1 ≤ 1000; decide, ea, ?_⟩⟩
    · exact f.2.1
    · exact f.2.2
    · exact ⟨_, rfl, _, rfl, a, He.ga K "BadText", rfl, Sc.T, Sc.fld, .inl ⟨ea, fun dx h1 h2 => kq dx h1 h2⟩⟩
theorem c_BadText (T : Txt P w K mg base) : ScC K (He.ga K "BadText") (He.fAd K d_BadText_init.at_) "row" ∧ ∃ fd, FnOk P w K mg base CX0 1 (He.fAd K d_BadText_init.at_) fd ["self", "row"] (spOI (He.ga K "BadText") "row") ∧ L2.Binds K fd ["self", "row"] [] := by
  obtain ⟨h1, h2⟩ := He.ba (xs_BadText T)
  have Sc := scB_ok h2
  refine ⟨Sc, own_BadText (T.s _ (by simp [fs])) ?_ Sc (n_super T) ?_⟩
  · rw [T.p]
    exact h1
  · rw [T.p]
    kernel_rfl
end
section
variable {X : Cx}
theorem mk_BadText (T : Txt X.prog X.w X.K X.mg X.base) {e : Expr} {ta : TA} {p pos : Pos} (hr : Room 2 X.A) (ha : PA X [e] ta) (hg : Gl X "BadText" := by rfl) (he : starEach [e] X.env = (false, eval e X.env) :: starEach [] X.env := by rfl) (hpl : (backTo pos (starEach [] X.env)).any (·.1) = false := by rfl) :
    PMk X (.Call (.Name "BadText" p) [e] [] pos) (tMkO (He.ga X.K "BadText") (spOI (He.ga X.K "BadText") "row") [] ta) := by
  obtain ⟨Sc, fd, F1, b⟩ := c_BadText T
  exact pmk_oex Sc.T Sc.ini Sc.ty F1 hr b .nil pass0 hg (g_BadText T) ha (by decide +kernel) he hpl
end
end B

set_option Elab.async false
set_option linter.all false
set_option maxRecDepth 100000
set_option maxHeartbeats 4000000
namespace B
open PySem PySem.Spec PyProof.Rows L2
open SX (S)
/-! ### texts of signs 0 and 1 -/
def Bits (l : List Nat) : Prop := ∀ c ∈ l, c = 48 ∨ c = 49
/-- a number of the width W -/
def Num (W : Nat) (x : Str) : Prop := ∃ l, x = S l ∧ l.length = W ∧ Bits l
theorem Bits.nil : Bits [] := fun _ h => absurd h (by simp)
theorem Bits.snoc {l : List Nat} {c : Nat} (h : Bits l) (hc : c = 48 ∨ c = 49) : Bits (l ++ [c]) := fun d hd => by
  rcases List.mem_append.mp hd with z | z
  · exact h d z
  · rw [List.mem_singleton.mp z]
    exact hc
theorem Bits.app {l m : List Nat} (h : Bits l) (h2 : Bits m) : Bits (l ++ m) := fun d hd => by
  rcases List.mem_append.mp hd with z | z
  · exact h d z
  · exact h2 d z
theorem Bits.take {l : List Nat} (n : Nat) (h : Bits l) : Bits (l.take n) := fun d hd => h d (List.mem_of_mem_take hd)
theorem Bits.drop {l : List Nat} (n : Nat) (h : Bits l) : Bits (l.drop n) := fun d hd => h d (List.mem_of_mem_drop hd)
theorem joinL_signs : ∀ cs : List Nat, TL.joinL [] (cs.map fun c => [c]) = cs
  | [] => rfl
  | [c] => rfl
  | c :: d :: r => by
    show [c] ++ ([] ++ TL.joinL [] ((d :: r).map fun c => [c])) = c :: d :: r
    rw [joinL_signs (d :: r)]
    rfl
theorem empty_S : ("" : Str) = S [] := by decide +kernel
theorem join_signs (cs : List Nat) : Txt.join "" (cs.map fun c => S [c]) = S cs := by
  have e : cs.map (fun c => S [c]) = (cs.map fun c => [c]).map S := by rw [List.map_map]; rfl
  rw [empty_S, e, SX.join_S, joinL_signs]
theorem sum_signs (cs : List Nat) : ((cs.map fun c => S [c]).map (·.length)).sum = cs.length := by
  induction cs with
  | nil => rfl
  | cons c r ih =>
    rw [List.map_cons, List.map_cons, List.sum_cons, ih, SX.S_len, List.length_cons]
    show 1 + r.length = r.length + 1
    omega
theorem op_rep_str {X : Cx} : OpR X (binaryOp .Mult) (fun x y H Q => ∃ z k, x = .str z ∧ y = .int k ∧ PySem.MulOk z k ∧ Q (.str (Txt.mul z k)) H) := by
  intro pins s σ H x y v u Q I rx ry h
  obtain ⟨z, k, rfl, rfl, ok, q⟩ := h
  obtain ⟨t, rfl⟩ := rx
  obtain ⟨t', rfl⟩ := ry
  exact PySem.SB.mul ok fun t' tk => ⟨.str _, H, I.tok _, ⟨_, rfl⟩, q⟩
theorem zeros_ok : ∀ n : Nat, n ≤ 12 → PySem.MulOk "0" (n : Int) := fun n hn => by
  have z : (List.range 13).all (fun n => (decide (((n : Nat) : Int) < -(2 ^ 63 : Int)) || decide (((n : Nat) : Int) ≥ 2 ^ 63)) == false && (decide (((n : Nat) : Int) < 1) || (!decide ((("0" : Str).length : Int) > (2 ^ 63 - 1) / ((n : Nat) : Int)) && (Builtin.Str.tooLong (("0" : Str).length * n) == false)))) = true := by decide +kernel
  have q := List.all_eq_true.mp z n (List.mem_range.mpr (by omega))
  simp only [Bool.and_eq_true, Bool.or_eq_true, decide_eq_true_eq, beq_iff_eq, Bool.not_eq_true', decide_eq_false_iff_not] at q
  refine ⟨q.1, fun h1 _ => ?_, fun h1 _ => ?_⟩
  · rcases q.2 with a | a
    · exact absurd a h1
    · exact a.1
  · rcases q.2 with a | a
    · exact absurd a h1
    · rw [Int.toNat_natCast]
      exact a.2
theorem zeros_is : ∀ n : Nat, n ≤ 12 → Txt.mul "0" (n : Int) = S (List.replicate n 48) := fun n hn => by
  have z : (List.range 13).all (fun n => decide (Txt.mul "0" ((n : Nat) : Int) = S (List.replicate n 48))) = true := by decide +kernel
  exact of_decide_eq_true (List.all_eq_true.mp z n (List.mem_range.mpr (by omega)))
section
variable {P : Program} {w : World} {K : PySem.W.Frag} {mg : Str → Option Value} {base : Heap}
theorem RowAt.ne {r a p : Addr} {H : Hp} {o : HO} (h : RowAt r a H) (n : r ≠ p) : RowAt r a (upd H p o) := by
  obtain ⟨i, m, b, z, h0⟩ := h
  exact ⟨i, m, b, by rw [upd_ne n]; exact z, h0⟩
theorem RowAt.out {r a p : Addr} {H : Hp} (h : RowAt r a H) (n : H p = none) : r ≠ p := by
  obtain ⟨i, m, b, z, h0⟩ := h
  exact ne_of_none z n
/-- a number, each sign drawn -/
def spNumber (K : PySem.W.Frag) : Sp := fun vs H Q _ => ∃ (r a : Addr) (W : Nat), vs = [.ref r, .int W] ∧ RowAt r a H ∧ Scr K a H ∧ W ≤ 12 ∧
  ∀ (x : Str) (H' : Hp), Num W x → RowAt r a H' → Frm [r] H H' → Q (.str x) H'
theorem c_lnumber (T : Txt P w K mg base) : CalX CX0 P w K mg base 2 "_law_number" (spNumber K) := by
  obtain ⟨fd, F⟩ := T.t.def_ 7 (d := d_lnumber)
  refine ⟨_, fd, _, F.ok sc_lnumber (fun vs H Q E h => ?_) (fun cdv A outer s H vs Q E hr h => ?_), He.glo_ok T.X T.G (T.t.fact 7), F.kp, F.bindsN fun _ _ _ _ _ _ us hl => match us, hl with | [_, _], _ => rfl⟩
  · obtain ⟨r, a, W, rfl, _⟩ := h
    rfl
  · obtain ⟨r, a, W, rfl, hR, hS, hW, k⟩ := h
    refine ⟨_, PSs.nox (pss_one (ps_ret (pe_join pe_str (pe_lc (own := [("_law_k", 2)]) (g := gName 2) rfl sc_lnumber.nd (pi_range1 rfl (n_range T) (pa_cons (pv 1) pa_nil)) (blkOk_by (N := ["_law_row", "_law_width", "_law_k"]) (sc := defScope s_lnumber) (own := [("_law_k", 2)]) (by decide +kernel)) (fun _ _ _ _ _ => pg_name (i := 2) sc_lnumber.nd rfl (Or.inl rfl)) (fun _ _ _ _ _ => pts_nil) (fun _ _ _ _ _ => by exact (pe_ix ix_str pe_str (pe_cx (c_ltaken T) hr (by decide) rfl pass0 (pa_cons (pv 0) (pa_cons pe_int pa_nil))) (fun _ _ => rfl))))))), ?_⟩
    refine ⟨⟨_, rfl⟩, _, rfl, (W : Int), rfl, by omega, by omega, fun D hD => ?_⟩
    have nDr : r ≠ D := hR.out hD
    refine lc_range (lo := 0) (n := (W : Int).toNat) (fun i H' => ∃ cs : List Nat, cs.length = i ∧ Bits cs ∧ H' D = some (.lst ((cs.map fun c => S [c]).map V.str)) ∧ RowAt r a H' ∧ Frm [r] H H')
      ⟨[], rfl, Bits.nil, upd_same, hR.ne nDr, (Frm.refl _ _).new hD⟩ ?_ ?_
    · rintro i H1 hi ⟨cs, hl, hb, hD1, hR1, f1⟩
      refine ⟨rfl, _, rfl, r, a, 2, rfl, hR1, f1.scr hR.nl hS, by decide, by decide, fun v H2 h0 h1 hR2 f2 => ?_⟩
      have hD2 : H2 D = some (.lst ((cs.map fun c => S [c]).map V.str)) := f2.k D _ hD1 rfl (by simpa using nDr.symm)
      have hv : v = 0 ∨ v = 1 := by omega
      have fin : ∀ c : Nat, c = 48 ∨ c = 49 → ∃ acc, H2 D = some (.lst acc) ∧ acc.length < sizeLine ∧ ∃ cs : List Nat, cs.length = i + 1 ∧ Bits cs ∧ (upd H2 D (.lst (acc ++ [V.str ⟨#[c]⟩]))) D = some (.lst ((cs.map fun c => S [c]).map V.str)) ∧ RowAt r a (upd H2 D (.lst (acc ++ [V.str ⟨#[c]⟩]))) ∧ Frm [r] H (upd H2 D (.lst (acc ++ [V.str ⟨#[c]⟩]))) := fun c hc => by
        refine ⟨_, hD2, by rw [List.length_map, List.length_map]; exact small1000 (by omega), cs ++ [c], by rw [List.length_append, hl]; rfl, hb.snoc hc, ?_, ?_, (f1.trans f2).new hD⟩
        · rw [upd_same, List.map_append, List.map_append]
          rfl
        · exact hR2.ne nDr
      rcases hv with rfl | rfl
      · exact ⟨_, _, 48, rfl, rfl, by decide +kernel, by decide +kernel, fin 48 (.inl rfl)⟩
      · exact ⟨_, _, 49, rfl, rfl, by decide +kernel, by decide +kernel, fin 49 (.inr rfl)⟩
    · rintro H1 ⟨cs, hl, hb, hD1, hR1, f1⟩
      refine ⟨_, D, cs.map fun c => S [c], rfl, rfl, .inl (SqL.of hD1), ?_, ?_⟩
      · rw [sum_signs, empty_S, SX.S_len]
        show cs.length + _ * 0 ≤ 16777216
        omega
      · rw [join_signs]
        exact k _ H1 ⟨cs, rfl, by omega, hb⟩ hR1 f1
end
end B

set_option Elab.async false
set_option linter.all false
set_option maxRecDepth 100000
set_option maxHeartbeats 4000000
namespace B
open PySem PySem.Spec PyProof.Rows L2
open SX (S)
/-! ### the order of texts -/
def leS (x y : Str) : Prop := x.cps.toList ≤ y.cps.toList
theorem leS_of {x y : Str} (h : ltCps y.cps.toList x.cps.toList = false) : leS x y := by
  rw [ltCps_eq] at h
  exact of_decide_eq_false h
theorem of_leS {x y : Str} (h : leS x y) : ltCps y.cps.toList x.cps.toList = false := by
  rw [ltCps_eq]
  exact decide_eq_false h
theorem leS_trans {x y z : Str} (h1 : leS x y) (h2 : leS y z) : leS x z := List.le_trans h1 h2
theorem leS_antisymm {x y : Str} (h1 : leS x y) (h2 : leS y x) : x = y := TL.ext_tl (List.le_antisymm h1 h2)
theorem rising_pw : ∀ (r : List Str) (x : Str), risingS x r = true → (x :: r).Pairwise leS
  | [], x, _ => by simp
  | y :: r, x, h => by
    have h' : (!ltCps y.cps.toList x.cps.toList && risingS y r) = true := h
    rw [Bool.and_eq_true, Bool.not_eq_true'] at h'
    have ih := rising_pw r y h'.2
    refine List.pairwise_cons.mpr ⟨fun z hz => ?_, ih⟩
    have hxy : leS x y := leS_of h'.1
    rcases List.mem_cons.mp hz with e | e
    · rw [e]
      exact hxy
    · exact leS_trans hxy ((List.pairwise_cons.mp ih).1 z e)
theorem sorted_pw : ∀ {l : List Str}, sortedS l = true → l.Pairwise leS
  | [], _ => .nil
  | x :: r, h => rising_pw r x h
theorem pw_sorted {l : List Str} (h : l.Pairwise leS) : sortedS l = true := sortedS_of_pairwise l (h.imp of_leS)
theorem pw_perm_eq : ∀ {l m : List Str}, l.Pairwise leS → m.Pairwise leS → l.Perm m → l = m
  | [], m, _, _, p => (List.perm_nil.mp p.symm).symm
  | x :: r, [], _, _, p => absurd (List.perm_nil.mp p) (by simp)
  | x :: r, y :: t, h1, h2, p => by
    have a1 := List.pairwise_cons.mp h1
    have a2 := List.pairwise_cons.mp h2
    have e : x = y := by
      have hx : x ∈ y :: t := p.mem_iff.mp List.mem_cons_self
      have hy : y ∈ x :: r := p.mem_iff.mpr List.mem_cons_self
      rcases List.mem_cons.mp hx with e | e
      · exact e
      · rcases List.mem_cons.mp hy with e' | e'
        · exact e'.symm
        · exact leS_antisymm (a1.1 y e') (a2.1 x e)
    subst e
    rw [pw_perm_eq a1.2 a2.2 (List.Perm.cons_inv p)]
theorem sorted_eq {l m : List Str} (h1 : sortedS l = true) (h2 : sortedS m = true) (p : l.Perm m) : l = m := pw_perm_eq (sorted_pw h1) (sorted_pw h2) p
/-- a sorted list, some left out -/
theorem sorted_filter {l : List Str} (f : Str → Bool) (h : sortedS l = true) : sortedS (l.filter f) = true := pw_sorted ((sorted_pw h).filter f)
/-! ### data: lists of texts -/
theorem strOk_bits {l : List Nat} (h : Bits l) : PyData.strOk (S l) = true := by
  show (S l).cps.all (· < 0x110000) = true
  rw [Array.all_eq_true']
  intro c hc
  have z : c ∈ l := by simpa [SX.S] using hc
  rcases h c z with e | e <;> (subst e; rfl)
theorem strOk_num {W : Nat} {x : Str} (h : Num W x) : PyData.strOk x = true := by
  obtain ⟨l, rfl, _, b⟩ := h
  exact strOk_bits b
theorem shaped_strs {xs : List Str} (h : ∀ x ∈ xs, PyData.strOk x = true) : SeqAt.shaped (.list (xs.map .str)) = true := by
  have e1 : (PyData.list (xs.map .str)).canLay0 = true := by
    show PyData.canLayAll0 (xs.map .str) = true
    rw [canLayAll_strs']
    exact List.all_eq_true.mpr h
  have e2 : (PyData.list (xs.map .str)).depth ≤ 64 := by
    show PyData.depthAll (xs.map .str) + 1 ≤ 64
    rw [depthAll_strs']
    decide
  show ((PyData.list (xs.map .str)).canLay0 && decide ((PyData.list (xs.map .str)).depth ≤ 64)) = true
  rw [e1, decide_eq_true e2]
  rfl
theorem dp_strs {K : PySem.W.Frag} {H : Hp} : ∀ (xs : List Str), DpAll K H (xs.map V.str) (xs.map .str)
  | [] => .nil
  | x :: r => .cons (.str x) (dp_strs r)
theorem eqv_empty (xs : List Str) : PyData.eqv (.list (xs.map .str)) (.list []) = xs.isEmpty := by
  cases xs <;> rfl
end B

set_option Elab.async false
set_option linter.all false
set_option maxRecDepth 100000
set_option maxHeartbeats 4000000
namespace B
open PySem PySem.Spec PyProof.Rows L2
open SX (S)
/-- a part of a list is of its items -/
theorem cutV_strs (xs : List Str) (lo hi : Option Int) : ∃ ys : List Str, cutV (xs.map V.str) lo hi = ys.map V.str ∧ (∀ y ∈ ys, y ∈ xs) ∧ ys.length ≤ xs.length ∧ ys.Sublist xs := by
  refine ⟨(xs.drop (HT.sIx (xs.map V.str).length 0 lo)).take (HT.sIx (xs.map V.str).length (xs.map V.str).length hi - HT.sIx (xs.map V.str).length 0 lo), ?_, fun y h => List.mem_of_mem_drop (List.mem_of_mem_take h), ?_, (List.take_sublist _ _).trans (List.drop_sublist _ _)⟩
  · unfold cutV
    rw [List.map_take, List.map_drop]
  · rw [List.length_take, List.length_drop]
    omega
theorem num_len {W : Nat} {x : Str} (h : Num W x) : x.length = W := by
  obtain ⟨l, rfl, e, _⟩ := h
  rw [SX.S_len, e]
theorem size12 {n : Nat} (h : n ≤ 100) : n ≤ sizeLine := Nat.le_trans h (by decide)
/-- an item of a list at a place below its length -/
theorem at_strs {xs : List Str} {v : Int} (h0 : 0 ≤ v) (h1 : v < (xs.length : Int)) : ∃ x ∈ xs, atI (xs.map V.str) v = some (.str x) := by
  obtain ⟨n, rfl⟩ : ∃ n : Nat, v = (n : Int) := ⟨v.toNat, by omega⟩
  have hlt : n < xs.length := by omega
  exact ⟨xs[n], List.getElem_mem hlt, atI_nat (by rw [List.getElem?_map, List.getElem?_eq_getElem hlt]; rfl)⟩
/-- the front of one number, the rest of another -/
theorem num_mix {W : Nat} {x y : Str} (hx : Num W x) (hy : Num W y) {i : Int} (h0 : 0 ≤ i) : Num W (Txt.slice x none (some i) ++ Txt.slice y (some i) none) := by
  obtain ⟨l, rfl, e1, b1⟩ := hx
  obtain ⟨m, rfl, e2, b2⟩ := hy
  rw [SX.slice_to h0, SX.slice_from h0, SX.S_cat]
  refine ⟨_, rfl, ?_, (b1.take _).app (b2.drop _)⟩
  rw [List.length_append, List.length_take, List.length_drop]
  omega
theorem slice_len {W : Nat} {x : Str} (hx : Num W x) {i : Int} (h0 : 0 ≤ i) : (Txt.slice x none (some i)).length ≤ W ∧ (Txt.slice x (some i) none).length ≤ W := by
  obtain ⟨l, rfl, e1, b1⟩ := hx
  rw [SX.slice_to h0, SX.slice_from h0, SX.S_len, SX.S_len, List.length_take, List.length_drop]
  omega
section
variable {P : Program} {w : World} {K : PySem.W.Frag} {mg : Str → Option Value} {base : Heap}
/-- a number; some: a list of such -/
def spNear (K : PySem.W.Frag) : Sp := fun vs H Q _ => ∃ (r a p : Addr) (W : Nat) (xs : List Str), vs = [.ref r, .int W, .ref p] ∧ RowAt r a H ∧ Scr K a H ∧ W ≤ 12 ∧ H p = some (.lst (xs.map V.str)) ∧ (∀ x ∈ xs, Num W x) ∧ xs.length ≤ 100 ∧
  ∀ (x : Str) (H' : Hp), Num W x → RowAt r a H' → Frm [r] H H' → Q (.str x) H'
/-- a width -/
def spWidth (K : PySem.W.Frag) : Sp := fun vs H Q _ => ∃ (r a : Addr), vs = [.ref r] ∧ RowAt r a H ∧ Scr K a H ∧ ∀ (W : Nat) (H' : Hp), 1 ≤ W → W ≤ 12 → RowAt r a H' → Frm [r] H H' → Q (.int W) H'
end
end B

set_option Elab.async false
set_option linter.all false
set_option maxRecDepth 100000
set_option maxHeartbeats 4000000
namespace B
open PySem PySem.Spec PyProof.Rows L2
open SX (S)
theorem ix_seqK {X : Cx} {K : PySem.W.Frag} (hK : X.K = K) : IxR X (rIx K) := by
  subst hK
  exact ix_seq
theorem in_seqK {X : Cx} {K : PySem.W.Frag} (hK : X.K = K) : OpR X (compareOp .In) (rIn K false) := by
  subst hK
  exact op_in_seq
theorem notIn_seqK {X : Cx} {K : PySem.W.Frag} (hK : X.K = K) : OpR X (compareOp .NotIn) (rIn K true) := by
  subst hK
  exact op_notIn_seq
theorem flat_strs (xs : List Str) : (xs.map V.str).all flatV = true := by
  induction xs with
  | nil => rfl
  | cons x r ih => rw [List.map_cons, List.all_cons, ih]; rfl
/-- one sign of a number turned, the signs behind it of another -/
theorem num_flip {W i c : Nat} {x y : Str} (hx : Num W x) (hy : Num W y) (hi : i < W) (hc : c = 48 ∨ c = 49) : Num W (Txt.slice x none (some (0 + (i : Int))) ++ S [c] ++ Txt.slice y (some (0 + (i : Int) + 1)) none) := by
  obtain ⟨l, rfl, e1, b1⟩ := hx
  obtain ⟨m, rfl, e2, b2⟩ := hy
  rw [SX.slice_to (by omega), SX.slice_from (by omega), SX.S_cat, SX.S_cat]
  refine ⟨_, rfl, ?_, ((b1.take _).snoc hc).app (b2.drop _)⟩
  rw [List.length_append, List.length_append, List.length_take, List.length_drop]
  show min _ _ + 1 + _ = W
  omega
theorem num_sign {W i : Nat} {x : Str} (hx : Num W x) (hi : i < W) : ∃ c, (c = 48 ∨ c = 49) ∧ atI x.cps.toList (0 + (i : Int)) = some c := by
  obtain ⟨l, rfl, e1, b1⟩ := hx
  have hl : i < l.length := by omega
  refine ⟨l[i], b1 _ (List.getElem_mem hl), ?_⟩
  have e : (0 : Int) + (i : Int) = ((i : Nat) : Int) := by omega
  rw [e]
  exact atI_nat (List.getElem?_eq_getElem hl)
theorem in_strs {x : Str} {xs : List Str} (h : inV (V.str x) (xs.map V.str) = false) : x ∉ xs := fun hx => by
  have : inV (V.str x) (xs.map V.str) = true := by
    unfold inV
    rw [List.any_map, List.any_eq_true]
    exact ⟨x, hx, by show eqV (V.str x) (V.str x) = true; simp [eqV]⟩
  rw [this] at h
  cases h
theorem nodup_snoc {xs : List Str} {x : Str} (h : xs.Nodup) (hx : x ∉ xs) : (xs ++ [x]).Nodup := by
  rw [List.nodup_append]
  refine ⟨h, by simp, fun a ha c hc => ?_⟩
  rw [List.mem_singleton] at hc
  rw [hc]
  intro e
  exact hx (e ▸ ha)
/-- parts from b at the place i, not before -/
def Parts (b z : Str) (i : Nat) : Prop := z.cps.toList[i]? ≠ b.cps.toList[i]? ∧ ∀ m, m < i → z.cps.toList[m]? = b.cps.toList[m]?
theorem flip_parts {W i c d : Nat} {x y : Str} (hx : Num W x) (hy : Num W y) (hi : i < W) (hc : atI x.cps.toList (0 + (i : Int)) = some c) (hd : d ≠ c) : Parts x (Txt.slice x none (some (0 + (i : Int))) ++ S [d] ++ Txt.slice y (some (0 + (i : Int) + 1)) none) i := by
  obtain ⟨l, rfl, e1, b1⟩ := hx
  obtain ⟨m, rfl, e2, b2⟩ := hy
  have hil : i < l.length := by omega
  have e0 : (0 : Int) + (i : Int) = ((i : Nat) : Int) := by omega
  rw [SX.slice_to (by omega), SX.slice_from (by omega), SX.S_cat, SX.S_cat]
  have el : ∀ q : List Nat, (S q).cps.toList = q := fun q => by simp [SX.S]
  have et : (0 + (i : Int)).toNat = i := by omega
  rw [et]
  unfold Parts
  rw [el, el]
  rw [el, e0, atI_nat (List.getElem?_eq_getElem hil)] at hc
  have tl : (l.take i).length = i := by rw [List.length_take]; omega
  refine ⟨?_, fun q hq => ?_⟩
  · rw [List.append_assoc, List.getElem?_append_right (by omega), tl, Nat.sub_self, List.getElem?_eq_getElem hil, hc]
    intro z
    exact hd (Option.some.inj z)
  · rw [List.append_assoc, List.getElem?_append_left (by omega), List.getElem?_take_of_lt hq]
theorem parts_ne {b z : Str} {xs : List Str} (h : ∀ j y, xs[j]? = some y → Parts b y j) (hz : Parts b z xs.length) : z ∉ xs ∧ b ∉ xs := by
  refine ⟨fun e => ?_, fun e => ?_⟩
  · obtain ⟨j, hj⟩ := List.getElem?_of_mem e
    have hl := (List.getElem?_eq_some_iff.mp hj).1
    exact (h j z hj).1 (hz.2 j hl)
  · obtain ⟨j, hj⟩ := List.getElem?_of_mem e
    exact (h j b hj).1 rfl
section
variable {P : Program} {w : World} {K : PySem.W.Frag} {mg : Str → Option Value} {base : Heap}
def spThings (K : PySem.W.Frag) : Sp := fun vs H Q _ => ∃ (r a : Addr) (W : Nat) (most : Int), vs = [.ref r, .int W, .int most] ∧ RowAt r a H ∧ Scr K a H ∧ W ≤ 12 ∧ 0 ≤ most ∧ most ≤ 40 ∧
  ∀ (xs : List Str) (p : Addr) (H' : Hp), (∀ x ∈ xs, Num W x) → xs.length ≤ 41 → xs.Nodup → sortedS xs = true → H' p = some (.lst (xs.map V.str)) → RowAt r a H' → Frm [r] H H' → Q (.ref p) H'
/-- numbers that may be hung -/
def spPool (K : PySem.W.Frag) : Sp := fun vs H Q _ => ∃ (r a : Addr) (W : Nat), vs = [.ref r, .int W] ∧ RowAt r a H ∧ Scr K a H ∧ W ≤ 12 ∧
  ∀ (xs : List Str) (p : Addr) (H' : Hp), xs ≠ [] → (∀ x ∈ xs, Num W x) → xs.length ≤ 41 → xs.Nodup → sortedS xs = true → H' p = some (.lst (xs.map V.str)) → RowAt r a H' → Frm [r] H H' → Q (.ref p) H'
end
end B

set_option Elab.async false
set_option linter.all false
set_option maxRecDepth 100000
set_option maxHeartbeats 4000000
namespace B
open PySem PySem.Spec PyProof.Rows L2
open SX (S)
/-! ### dicts of things: texts to truths -/
def kv (kvs : List (Str × Bool)) : List (Key × V) := kvs.map fun p => (Sum.inr p.1, V.bl p.2)
def hasK (kvs : List (Str × Bool)) (x : Str) : Bool := kvs.any fun p => decide (p.1 = x)
def getB (kvs : List (Str × Bool)) (x : Str) : Option Bool := (kvs.find? fun p => decide (p.1 = x)).map (·.2)
def putB (kvs : List (Str × Bool)) (x : Str) (b : Bool) : List (Str × Bool) := if hasK kvs x = true then kvs.map (fun p => if p.1 = x then (p.1, b) else p) else kvs ++ [(x, b)]
def dropB (kvs : List (Str × Bool)) (x : Str) : List (Str × Bool) := kvs.filter fun p => decide (p.1 ≠ x)
theorem inr_dec (a b : Str) : decide ((Sum.inr a : Key) = Sum.inr b) = decide (a = b) := by
  by_cases h : a = b
  · rw [decide_eq_true h, decide_eq_true (by rw [h])]
  · rw [decide_eq_false h, decide_eq_false (fun q => h (Sum.inr.inj q))]
theorem val_kv (kvs : List (Str × Bool)) (x : Str) : valV (kv kvs) (.inr x : Key) = (getB kvs x).map V.bl := by
  induction kvs with
  | nil => rfl
  | cons p r ih =>
    by_cases h : p.1 = x
    · have e1 : valV (kv (p :: r)) (.inr x : Key) = some (.bl p.2) := valV_pos (p := ((Sum.inr p.1 : Key), V.bl p.2)) (r := kv r) (by rw [h])
      rw [e1]
      unfold getB
      rw [List.find?_cons, decide_eq_true h]
      rfl
    · have e1 : valV (kv (p :: r)) (.inr x : Key) = valV (kv r) (.inr x : Key) := valV_neg (p := ((Sum.inr p.1 : Key), V.bl p.2)) (r := kv r) (fun q => h (Sum.inr.inj q))
      rw [e1, ih]
      unfold getB
      rw [List.find?_cons, decide_eq_false h]
theorem any_kv (kvs : List (Str × Bool)) (x : Str) : ((kv kvs).any fun q => decide (q.1 = (Sum.inr x : Key))) = hasK kvs x := by
  induction kvs with
  | nil => rfl
  | cons p r ih =>
    show (decide ((Sum.inr p.1 : Key) = Sum.inr x) || _) = (decide (p.1 = x) || hasK r x)
    rw [inr_dec, ← ih]
    rfl
theorem put_kv (kvs : List (Str × Bool)) (x : Str) (b : Bool) : putK (kv kvs) (.inr x : Key) (.bl b) = kv (putB kvs x b) := by
  unfold putK putB
  rw [any_kv]
  by_cases h : hasK kvs x = true
  · rw [if_pos h, if_pos h]
    unfold kv
    rw [List.map_map, List.map_map]
    refine List.map_congr_left fun p _ => ?_
    by_cases e : p.1 = x
    · show (if (Sum.inr p.1 : Key) = Sum.inr x then _ else _) = ((Sum.inr (if p.1 = x then (p.1, b) else p).1 : Key), V.bl (if p.1 = x then (p.1, b) else p).2)
      rw [if_pos e, if_pos (by rw [e])]
    · show (if (Sum.inr p.1 : Key) = Sum.inr x then _ else _) = ((Sum.inr (if p.1 = x then (p.1, b) else p).1 : Key), V.bl (if p.1 = x then (p.1, b) else p).2)
      rw [if_neg e, if_neg (fun q => e (Sum.inr.inj q))]
  · rw [if_neg h, if_neg h]
    unfold kv
    rw [List.map_append]
    rfl
theorem drop_kv (kvs : List (Str × Bool)) (x : Str) : dropK (kv kvs) (.inr x : Key) = kv (dropB kvs x) := by
  unfold dropK dropB kv
  rw [List.filter_map]
  congr 1
  refine List.filter_congr fun p _ => ?_
  show decide (¬ (Sum.inr p.1 : Key) = Sum.inr x) = decide (¬ p.1 = x)
  by_cases h : p.1 = x
  · simp [h]
  · simp [h]
theorem get_has (kvs : List (Str × Bool)) (x : Str) : (getB kvs x).isSome = hasK kvs x := by
  induction kvs with
  | nil => rfl
  | cons p r ih =>
    unfold getB hasK
    rw [List.find?_cons, List.any_cons]
    by_cases h : p.1 = x
    · rw [decide_eq_true h]
      rfl
    · rw [decide_eq_false h]
      exact ih
theorem some_map_bl (o : Option Bool) : (o.map V.bl).isSome = o.isSome := by cases o <;> rfl
/-- x in the dict at d (it may be locked) -/
theorem dg_has {H : Hp} {d : Addr} {kvs : List (Str × Bool)} (h : Rd H d (.dK (kv kvs))) (x : Str) : DGet H d (.str x) ((getB kvs x).map V.bl) := .inl ⟨kv kvs, .inr x, h, rfl, (val_kv kvs x).symm⟩
theorem dg_get {H : Hp} {d : Addr} {kvs : List (Str × Bool)} {x : Str} {b : Bool} (h : Rd H d (.dK (kv kvs))) (e : getB kvs x = some b) : DGet H d (.str x) (some (.bl b)) := by
  have := dg_has h x
  rw [e] at this
  exact this
theorem dp_put {H : Hp} {d : Addr} {kvs : List (Str × Bool)} (h : H d = some (.dK (kv kvs))) (hl : kvs.length ≤ 1000) (x : Str) (b : Bool) : DPut H d (.str x) (.bl b) (upd H d (.dK (kv (putB kvs x b)))) := by
  have := DPut.k (k := Sum.inr x) (v := V.bl b) h (by unfold kv; rw [List.length_map]; exact small1000 hl)
  rw [put_kv] at this
  exact this
theorem keys_kv (kvs : List (Str × Bool)) : (kv kvs).map (·.1) = (kvs.map (·.1)).map Sum.inr := by
  unfold kv
  rw [List.map_map, List.map_map]
  rfl
/-- a thing of the list is found by its number -/
theorem get_at {kvs : List (Str × Bool)} (hn : (kvs.map (·.1)).Nodup) {i : Nat} {x : Str} {b : Bool} (h : kvs[i]? = some (x, b)) : getB kvs x = some b := by
  induction kvs generalizing i with
  | nil => simp at h
  | cons p r ih =>
    rw [List.map_cons, List.nodup_cons] at hn
    cases i with
    | zero =>
      have e : p = (x, b) := by simpa using h
      subst e
      unfold getB
      rw [List.find?_cons, decide_eq_true rfl]
      rfl
    | succ i =>
      have h' : r[i]? = some (x, b) := by simpa using h
      have hm : x ∈ r.map (·.1) := List.mem_map.mpr ⟨(x, b), List.mem_of_getElem? h', rfl⟩
      have ne : ¬ p.1 = x := fun e => hn.1 (by rw [e]; exact hm)
      unfold getB
      rw [List.find?_cons, decide_eq_false ne]
      exact ih hn.2 h'
theorem kv_at {kvs : List (Str × Bool)} {i : Nat} {k : Key} {v : V} (h : (kv kvs)[i]? = some (k, v)) : ∃ x b, kvs[i]? = some (x, b) ∧ k = Sum.inr x ∧ v = .bl b := by
  unfold kv at h
  rw [List.getElem?_map] at h
  cases e : kvs[i]? with
  | none => rw [e] at h; cases h
  | some p =>
    rw [e] at h
    have := Option.some.inj h
    cases this
    exact ⟨p.1, p.2, rfl, rfl, rfl⟩
theorem take_snoc {α : Type} {l : List α} {i : Nat} {x : α} (h : l[i]? = some x) : l.take (i + 1) = l.take i ++ [x] := by
  rw [List.take_add_one, h]
  rfl
/-- a dict locked, a list made within, the dict free again -/
theorem upd_lock {H : Hp} {d D : Addr} {u f o : HO} (h : H d = some u) (n : d ≠ D) : upd (upd (upd H d f) D o) d u = upd H D o := by
  funext b
  by_cases e1 : b = d
  · rw [e1, upd_same, upd_ne n, h]
  · rw [upd_ne e1]
    by_cases e2 : b = D
    · rw [e2, upd_same, upd_same]
    · rw [upd_ne e2, upd_ne e2, upd_ne e1]
/-! ### the own wire -/
def mkv (W : Nat) (dt ml : Addr) (sd : V) (lk : Int) : List (Key × V) := [(.inr "width", .int W), (.inr "things", .ref dt), (.inr "listening", .ref ml), (.inr "said", sd), (.inr "looks", .int lk)]
def sdV : Option (List Nat) → V
  | none => .non
  | some l => .str (S l)
structure MdAt (H : Hp) (pm dt ml : Addr) (W : Nat) (kvs : List (Str × Bool)) (lm : List Str) (sd : Option (List Nat)) (lk : Int) : Prop where
  ob : H pm = some (.dK (mkv W dt ml (sdV sd) lk))
  li : H ml = some (.lst (lm.map V.str))
  dc : H dt = some (.dK (kv kvs))
section
variable {H : Hp} {pm dt ml : Addr} {W : Nat} {sd : V} {lk : Int}
theorem mv_width : valV (mkv W dt ml sd lk) (.inr "width" : Key) = some (.int W) := by kernel_rfl
theorem mv_things : valV (mkv W dt ml sd lk) (.inr "things" : Key) = some (.ref dt) := by kernel_rfl
theorem mv_listening : valV (mkv W dt ml sd lk) (.inr "listening" : Key) = some (.ref ml) := by kernel_rfl
theorem mv_said : valV (mkv W dt ml sd lk) (.inr "said" : Key) = some sd := by kernel_rfl
theorem mv_looks : valV (mkv W dt ml sd lk) (.inr "looks" : Key) = some (.int lk) := by kernel_rfl
theorem mp_listening {q : Addr} : putK (mkv W dt ml sd lk) (.inr "listening" : Key) (.ref q) = mkv W dt q sd lk := by kernel_rfl
theorem mp_said {v : V} : putK (mkv W dt ml sd lk) (.inr "said" : Key) v = mkv W dt ml v lk := by kernel_rfl
theorem mp_looks {z : Int} : putK (mkv W dt ml sd lk) (.inr "looks" : Key) (.int z) = mkv W dt ml sd z := by kernel_rfl
theorem md_width (h : H pm = some (.dK (mkv W dt ml sd lk))) : DGet H pm (.str "width") (some (.int W)) := by rw [← mv_width (dt := dt) (ml := ml) (sd := sd) (lk := lk)]; exact DGet.k (k := Sum.inr "width") h
theorem md_things (h : H pm = some (.dK (mkv W dt ml sd lk))) : DGet H pm (.str "things") (some (.ref dt)) := by rw [← mv_things (W := W) (dt := dt) (ml := ml) (sd := sd) (lk := lk)]; exact DGet.k (k := Sum.inr "things") h
theorem md_listening (h : H pm = some (.dK (mkv W dt ml sd lk))) : DGet H pm (.str "listening") (some (.ref ml)) := by rw [← mv_listening (W := W) (dt := dt) (ml := ml) (sd := sd) (lk := lk)]; exact DGet.k (k := Sum.inr "listening") h
theorem md_said (h : H pm = some (.dK (mkv W dt ml sd lk))) : DGet H pm (.str "said") (some sd) := by rw [← mv_said (W := W) (dt := dt) (ml := ml) (sd := sd) (lk := lk)]; exact DGet.k (k := Sum.inr "said") h
theorem md_looks (h : H pm = some (.dK (mkv W dt ml sd lk))) : DGet H pm (.str "looks") (some (.int lk)) := by rw [← mv_looks (W := W) (dt := dt) (ml := ml) (sd := sd) (lk := lk)]; exact DGet.k (k := Sum.inr "looks") h
theorem mdp_listening {q : Addr} (h : H pm = some (.dK (mkv W dt ml sd lk))) : DPut H pm (.str "listening") (.ref q) (upd H pm (.dK (mkv W dt q sd lk))) := by rw [← mp_listening (ml := ml)]; exact DPut.k (k := Sum.inr "listening") h (by show 5 < sizeLine; decide)
theorem mdp_said {v : V} (h : H pm = some (.dK (mkv W dt ml sd lk))) : DPut H pm (.str "said") v (upd H pm (.dK (mkv W dt ml v lk))) := by rw [← mp_said (sd := sd)]; exact DPut.k (k := Sum.inr "said") h (by show 5 < sizeLine; decide)
theorem mdp_looks {z : Int} (h : H pm = some (.dK (mkv W dt ml sd lk))) : DPut H pm (.str "looks") (.int z) (upd H pm (.dK (mkv W dt ml sd z))) := by rw [← mp_looks (lk := lk)]; exact DPut.k (k := Sum.inr "looks") h (by show 5 < sizeLine; decide)
theorem mk_merge {u q : Addr} : mergeK [] ([(.inr "width", .int W), (.inr "things", .ref u), (.inr "listening", .ref q), (.inr "said", .non), (.inr "looks", .int 0)] : List (Key × V)) = mkv W u q .non 0 := by kernel_rfl
end
end B

set_option Elab.async false
set_option linter.all false
set_option maxRecDepth 100000
set_option maxHeartbeats 4000000
namespace B
open PySem PySem.Spec PyProof.Rows L2
open SX (S)
/-- the sign at the place n is c -/
def sg (n c : Nat) (x : Str) : Bool := decide (x.cps.toList[n]? = some c)
theorem int_dec (a b : Int) : decide (V.int a = V.int b) = decide (a = b) := by
  by_cases h : a = b
  · rw [decide_eq_true h, decide_eq_true (by rw [h])]
  · rw [decide_eq_false h, decide_eq_false (fun q => h (V.int.inj q))]
theorem str_dec (a b : Str) : decide (V.str a = V.str b) = decide (a = b) := by
  by_cases h : a = b
  · rw [decide_eq_true h, decide_eq_true (by rw [h])]
  · rw [decide_eq_false h, decide_eq_false (fun q => h (V.str.inj q))]
theorem sign_dec (c d : Nat) : decide (V.str ⟨#[c]⟩ = V.str (S [d])) = decide (c = d) := by
  rw [str_dec]
  by_cases h : c = d
  · rw [decide_eq_true h, decide_eq_true (by rw [h])]
  · rw [decide_eq_false h, decide_eq_false (fun q => h (by
      have := SX.S_inj (a := [c]) (b := [d]) q
      exact (List.cons.inj this).1))]
theorem zero_S : ("0" : Str) = S [48] := by decide +kernel
theorem one_S : ("1" : Str) = S [49] := by decide +kernel
theorem sg_at {n c : Nat} {x : Str} (h : x.cps.toList[n]? = some c) (d : Nat) : sg n d x = decide (c = d) := by
  unfold sg
  rw [h]
  by_cases e : c = d
  · rw [decide_eq_true e, decide_eq_true (by rw [e])]
  · rw [decide_eq_false e, decide_eq_false (fun q => e (Option.some.inj q))]
theorem any_step {α : Type} {l : List α} {i : Nat} {x : α} (f : α → Bool) (h : l[i]? = some x) : (l.take (i + 1)).any f = ((l.take i).any f || f x) := by
  rw [take_snoc h, List.any_append]
  simp
theorem at_map {xs : List Str} {i : Nat} {y : V} (h : (xs.map V.str)[i]? = some y) : ∃ x, xs[i]? = some x ∧ y = .str x := by
  rw [List.getElem?_map] at h
  cases e : xs[i]? with
  | none => rw [e] at h; cases h
  | some x =>
    rw [e] at h
    exact ⟨x, rfl, (Option.some.inj h).symm⟩
/-- a number that begins as l does -/
def Beg (W : Nat) (l : List Nat) (x : Str) : Prop := ∃ m, x = S m ∧ m.length = W ∧ Bits m ∧ m.take l.length = l
theorem Beg.num {W : Nat} {l : List Nat} {x : Str} (h : Beg W l x) : Num W x := by
  obtain ⟨m, e, h1, h2, _⟩ := h
  exact ⟨m, e, h1, h2⟩
theorem num_at {W n : Nat} {x : Str} (h : Num W x) (hn : n < W) : ∃ c, (c = 48 ∨ c = 49) ∧ x.cps.toList[n]? = some c ∧ atI x.cps.toList ((n : Nat) : Int) = some c := by
  obtain ⟨l, rfl, e1, b1⟩ := h
  have hl : n < l.length := by omega
  exact ⟨l[n], b1 _ (List.getElem_mem hl), List.getElem?_eq_getElem hl, atI_nat (List.getElem?_eq_getElem hl)⟩
section
variable {P : Program} {w : World} {K : PySem.W.Frag} {mg : Str → Option Value} {base : Heap}
/-- whether some go on with a 0, with a 1 -/
def spLooked (K : PySem.W.Frag) : Sp := fun vs H Q _ => ∃ (ml : Addr) (W : Nat) (l : List Nat) (xs : List Str), vs = [.ref ml, .str (S l)] ∧ H ml = some (.lst (xs.map V.str)) ∧ (∀ x ∈ xs, Beg W l x) ∧ l.length < W ∧ W ≤ 12 ∧
  ∀ (p : Addr) (H' : Hp), H' p = some (.tup [.bl (xs.any (sg l.length 48)), .bl (xs.any (sg l.length 49))]) → Frm [] H H' → Q (.ref p) H'
/-- an own wire -/
def spModel : Sp := fun vs H Q _ => ∃ W : Nat, vs = [.int W] ∧ ∀ (pm dt ml : Addr) (H' : Hp), H pm = none → H dt = none → H ml = none → pm ≠ dt → H' pm = some (.dK (mkv W dt ml .non 0)) → H' ml = some (.lst []) → H' dt = some (.dK []) → Frm [] H H' → Q (.ref pm) H'
end
end B

set_option Elab.async false
set_option linter.all false
set_option maxRecDepth 100000
set_option maxHeartbeats 4000000
namespace B
open PySem PySem.Spec PyProof.Rows L2
open SX (S)
/-- who listens in a new round -/
def lisB (kvs : List (Str × Bool)) (all : Bool) : List Str := (kvs.filter fun p => all || p.2).map (·.1)
def wordsB : List Str := ["hang", "off", "alarm", "calm"]
/-- what becomes of a thing: the word of a refusal, the things -/
def deedW (kvs : List (Str × Bool)) (wd x : Str) : Str := if wd = "hang" then (if hasK kvs x = true then "there" else "") else (if hasK kvs x = true then "" else "not")
def deedK (kvs : List (Str × Bool)) (wd x : Str) : List (Str × Bool) :=
  if wd = "hang" then (if hasK kvs x = true then kvs else putB kvs x false) else (if hasK kvs x = true then (if wd = "off" then dropB kvs x else putB kvs x (decide (wd = "alarm"))) else kvs)
def deedL (kvs : List (Str × Bool)) (lm : List Str) (wd x : Str) : List Str := if wd = "off" ∧ hasK kvs x = true then lm.filter (fun y => decide (y ≠ x)) else lm
theorem dig_S (bit : Int) (h : bit = 0 ∨ bit = 1) : Str.ofString (toString bit) = S [48 + bit.toNat] := by
  rcases h with rfl | rfl <;> decide +kernel
theorem filter_step {α : Type} {l : List α} {i : Nat} {x : α} (f : α → Bool) (h : l[i]? = some x) : (l.take (i + 1)).filter f = (l.take i).filter f ++ (if f x = true then [x] else []) := by
  rw [take_snoc h, List.filter_append, List.filter_cons, List.filter_nil]
theorem has_get {kvs : List (Str × Bool)} {x : Str} (h : hasK kvs x = true) : ∃ b, getB kvs x = some b := by
  rw [← get_has] at h
  exact Option.isSome_iff_exists.mp h
section
variable {P : Program} {w : World} {K : PySem.W.Frag} {mg : Str → Option Value} {base : Heap}
/-- a round begun on an own wire -/
def spBegun : Sp := fun vs H Q _ => ∃ (pm dt ml : Addr) (kind : Str) (W : Nat) (kvs : List (Str × Bool)) (lm : List Str) (sd : Option (List Nat)) (lk : Int), vs = [.ref pm, .str kind] ∧ MdAt H pm dt ml W kvs lm sd lk ∧ pm ≠ dt ∧ (kvs.map (·.1)).Nodup ∧ kvs.length ≤ 100 ∧
  ∀ (ml' : Addr) (H' : Hp), H ml' = none → MdAt H' pm dt ml' W kvs (lisB kvs (decide (kind = "all"))) (some []) lk → Frm [pm] H H' → Q .non H'
/-- a bit said on an own wire -/
def spSaid : Sp := fun vs H Q _ => ∃ (pm dt ml : Addr) (bit : Int) (W : Nat) (kvs : List (Str × Bool)) (lm : List Str) (l : List Nat) (lk : Int), vs = [.ref pm, .int bit] ∧ (bit = 0 ∨ bit = 1) ∧ MdAt H pm dt ml W kvs lm (some l) lk ∧ pm ≠ dt ∧ (∀ x ∈ lm, Num W x) ∧ lm.length ≤ 100 ∧ l.length < W ∧ W ≤ 12 ∧
  ∀ (ml' : Addr) (H' : Hp), H ml' = none → MdAt H' pm dt ml' W kvs (lm.filter (sg l.length (48 + bit.toNat))) (some (l ++ [48 + bit.toNat])) lk → Frm [pm] H H' → Q .non H'
end
end B

set_option Elab.async false
set_option linter.all false
set_option maxRecDepth 100000
set_option maxHeartbeats 4000000
namespace B
open PySem PySem.Spec PyProof.Rows L2
open SX (S)
section
variable {P : Program} {w : World} {K : PySem.W.Frag} {mg : Str → Option Value} {base : Heap}
/-- something becomes of a thing of an own wire -/
def spDeed : Sp := fun vs H Q _ => ∃ (pm dt ml : Addr) (wd x : Str) (W : Nat) (kvs : List (Str × Bool)) (lm : List Str) (sd : Option (List Nat)) (lk : Int), vs = [.ref pm, .str wd, .str x] ∧ MdAt H pm dt ml W kvs lm sd lk ∧ pm ≠ dt ∧ kvs.length ≤ 100 ∧ lm.length ≤ 100 ∧
  ∀ (ml' : Addr) (H' : Hp), (ml' = ml ∨ H ml' = none) → MdAt H' pm dt ml' W (deedK kvs wd x) (deedL kvs lm wd x) sd lk → Frm [pm, dt] H H' → Q (.str (deedW kvs wd x)) H'
end
end B

set_option Elab.async false
set_option linter.all false
set_option maxRecDepth 100000
set_option maxHeartbeats 4000000
namespace B
open PySem PySem.Spec PyProof.Rows L2
open SX (S)
/-! ### code tables -/
def tabA (K : PySem.W.Frag) (p : He.Defn) : Addr := (He.cT K p).2
def TL (K : PySem.W.Frag) : List (Addr × Str) := lams.map fun z => (tabA K z.1, z.2)
/-- the tables stand well -/
def Tb (K : PySem.W.Frag) (H : Hp) : Prop := (∀ p ∈ gens, GxR.TabG H (tabA K p)) ∧ LamX.Tabs (TL K) H
/-- as Frm, but code tables may grow -/
structure FrT (K : PySem.W.Frag) (S : List Addr) (H H' : Hp) : Prop where
  k : ∀ b o, H b = some o → isT o = false → b ∉ S → H' b = some o
  b : ∀ b, H' b = none → H b = none
  t : Tb K H → Tb K H'
theorem FrT.refl (K : PySem.W.Frag) (S : List Addr) (H : Hp) : FrT K S H H := ⟨fun _ _ h _ _ => h, fun _ h => h, fun h => h⟩
theorem FrT.trans {K : PySem.W.Frag} {S : List Addr} {H H1 H2 : Hp} (a : FrT K S H H1) (b : FrT K S H1 H2) : FrT K S H H2 := ⟨fun c o h t n => b.k c o (a.k c o h t n) t n, fun c h => a.b c (b.b c h), fun h => b.t (a.t h)⟩
theorem FrT.mono {K : PySem.W.Frag} {S S' : List Addr} {H H1 : Hp} (a : FrT K S H H1) (h : ∀ x ∈ S, x ∈ S') : FrT K S' H H1 := ⟨fun c o e t n => a.k c o e t fun z => n (h c z), a.b, a.t⟩
theorem nl_codeO {c : Addr} {q : Str} : B.nl (LamX.CodeO c q) = false := rfl
theorem Frm.toT {K : PySem.W.Frag} {S : List Addr} {H H' : Hp} (f : Frm S H H') (n : NL S H) : FrT K S H H' := by
  have out : ∀ {p : Addr} {o : HO}, H p = some o → B.nl o = false → p ∉ S := fun {p o} e h z => by
    obtain ⟨u, e2, q⟩ := n p z
    rw [e] at e2
    cases e2
    rw [h] at q
    cases q
  have kp : ∀ {p : Addr} {o : HO}, H p = some o → B.nl o = false → H' p = some o := fun {p o} e h => f.k p o e rfl (out e h)
  refine ⟨fun b o e _ hb => f.k b o e rfl hb, f.b, fun ⟨h1, h2⟩ => ⟨fun p hp => ?_, fun p hp => ?_⟩⟩
  · obtain ⟨ps, e, t⟩ := h1 p hp
    exact ⟨ps, kp e rfl, t⟩
  obtain ⟨qs, e1, t1, a1⟩ := h2 p hp
  refine ⟨qs, kp e1 rfl, t1, fun pos cv hc => ?_⟩
  obtain ⟨c, e2, e3⟩ := a1 pos cv hc
  exact ⟨c, e2, kp e3 nl_codeO⟩
theorem FrT.at {K : PySem.W.Frag} {S : List Addr} {H H' : Hp} {p : Addr} {o : HO} (f : FrT K S H H') (n : NL S H) (h : H p = some o) (h1 : isT o = false) (h2 : B.nl o = false) : H' p = some o :=
  f.k p o h h1 fun z => by
    obtain ⟨u, e, q⟩ := n p z
    rw [h] at e
    cases e
    rw [h2] at q
    cases q
theorem FrT.scr {K : PySem.W.Frag} {S : List Addr} {H H' : Hp} {a : Addr} (f : FrT K S H H') (n : NL S H) (h : Scr K a H) : Scr K a H' := by
  obtain ⟨ns, (h | ⟨u, h⟩) | h⟩ := h
  · exact ⟨ns, .inl (.inl (f.at n h rfl (nl_ints ns)))⟩
  · exact ⟨ns, .inl (.inr ⟨u, f.at n h rfl rfl⟩)⟩
  · exact ⟨ns, .inr h⟩
theorem FrT.row {K : PySem.W.Frag} {S : List Addr} {H H' : Hp} {r a : Addr} (f : FrT K S H H') (hr : r ∉ S) (h : RowAt r a H) : RowAt r a H' := by
  obtain ⟨i, m, b, e, h0⟩ := h
  exact ⟨i, m, b, f.k r _ e rfl hr, h0⟩
section
theorem map_inj {α β : Type} {f : α → β} : ∀ {l : List α}, (l.map f).Nodup → ∀ a ∈ l, ∀ b ∈ l, f a = f b → a = b
  | [], _, a, ha, _, _, _ => absurd ha (by simp)
  | x :: r, h, a, ha, b, hb, e => by
    have n := List.nodup_cons.mp (show (f x :: r.map f).Nodup from h)
    rcases List.mem_cons.mp ha with rfl | ha2 <;> rcases List.mem_cons.mp hb with rfl | hb2
    · rfl
    · exact absurd (List.mem_map.mpr ⟨b, hb2, e.symm⟩) n.1
    · exact absurd (List.mem_map.mpr ⟨a, ha2, e⟩) n.1
    · exact map_inj n.2 a ha2 b hb2 e
theorem gens_tf : ∀ p ∈ gens, p ∈ tf := by decide +kernel
theorem lams_tf : ∀ z ∈ lams, z.1 ∈ tf := by decide +kernel
theorem gl_ne : ∀ p ∈ gens, ∀ z ∈ lams, p ≠ z.1 := by decide +kernel
theorem lams_fun : ∀ a ∈ lams, ∀ b ∈ lams, a.1 = b.1 → a.2 = b.2 := by decide +kernel
theorem tl_mem {K : PySem.W.Frag} {p : He.Defn} {q : Str} (h : (p, q) ∈ lams) : (tabA K p, q) ∈ TL K := List.mem_map.mpr ⟨(p, q), h, rfl⟩
theorem tb_empty {K : PySem.W.Frag} {H : Hp} (h : ∀ p ∈ tf.map (He.cT K), H p.2 = some (.tbl #[])) : Tb K H := by
  have z : ∀ p ∈ tf, H (tabA K p) = some (.tbl #[]) := fun p hp => h (He.cT K p) (List.mem_map.mpr ⟨p, hp, rfl⟩)
  refine ⟨fun p hp => ⟨#[], z p (gens_tf p hp), True.intro⟩, fun p hp => ?_⟩
  obtain ⟨y, hy, rfl⟩ := List.mem_map.mp hp
  exact .nil (z y.1 (lams_tf y hy))
variable {P : Program} {w : World} {K : PySem.W.Frag} {mg : Str → Option Value} {base : Heap}
theorem ex_nd (T : Txt P w K mg base) : (tf.map fun p => (He.cT K p).2).Nodup := of_decide_eq_true (He.ba T.m).1
theorem ex_tup (T : Txt P w K mg base) : exTup K = true := (He.ba (He.ba T.m).2).1
theorem ex_exc (T : Txt P w K mg base) : exExc K = true := (He.ba (He.ba T.m).2).2
theorem tab_inj (T : Txt P w K mg base) {p q : He.Defn} (hp : p ∈ tf) (hq : q ∈ tf) (e : tabA K p = tabA K q) : p = q := map_inj (f := fun p => (He.cT K p).2) (ex_nd T) p hp q hq e
theorem tb_g (T : Txt P w K mg base) {p : He.Defn} (hp : p ∈ tf) : GxR.TabB base mg (He.codeOf K p) (tabA K p) := by
  have h := T.tb p hp
  exact ⟨h.code, h.bm, h.gP⟩
/-- a generator's table grows -/
theorem tb_gen (T : Txt P w K mg base) {p : He.Defn} (hp : p ∈ gens) {H H1 : Hp} (ht : Tb K H) (hT : GxR.Tabbed (tabA K p) H H1) : FrT K [] H H1 ∧ Tb K H1 := by
  have off : ∀ {b : Addr}, b ≠ tabA K p → H1 b = H b := fun h => hT.2 _ h
  obtain ⟨ps0, e0, t0⟩ := ht.1 p hp
  have tb : Tb K H1 := by
    refine ⟨fun q hq => ?_, fun z hz => ?_⟩
    · by_cases c : tabA K q = tabA K p
      · rw [c]
        exact hT.1
      · obtain ⟨ps, e, t⟩ := ht.1 q hq
        exact ⟨ps, by rw [off c]; exact e, t⟩
    · obtain ⟨y, hy, rfl⟩ := List.mem_map.mp hz
      have ne : tabA K y.1 ≠ tabA K p := fun c => gl_ne p hp y hy (tab_inj T (gens_tf p hp) (lams_tf y hy) c.symm)
      obtain ⟨qs, e1, t1, a1⟩ := ht.2 _ hz
      refine ⟨qs, by rw [off ne]; exact e1, t1, fun pos cv hc => ?_⟩
      obtain ⟨c, e2, e3⟩ := a1 pos cv hc
      refine ⟨c, e2, ?_⟩
      rw [off (fun z => ?_)]
      · exact e3
      · rw [z, e0] at e3
        exact LamX.codeO_ne ps0 (Option.some.inj e3).symm
  refine ⟨⟨fun b o hb hto _ => ?_, fun b hb => ?_, fun _ => tb⟩, tb⟩
  · by_cases q : b = tabA K p
    · rw [q, e0] at hb
      cases hb
      cases hto
    · rw [off q]
      exact hb
  · by_cases q : b = tabA K p
    · obtain ⟨ps, z, _⟩ := hT.1
      rw [q, z] at hb
      cases hb
    · rw [off q] at hb
      exact hb
/-- a lambda's table grows -/
theorem tb_grow (T : Txt P w K mg base) {p : He.Defn} {q : Str} (hp : (p, q) ∈ lams) {H H1 : Hp} (ht : Tb K H) (f1 : ∀ b o, H b = some o → b ≠ tabA K p → H1 b = some o) (f2 : ∀ b, H1 b = none → H b = none) (t : LamX.TabS H1 (tabA K p) q) : FrT K [] H H1 ∧ Tb K H1 := by
  obtain ⟨qs0, e0, t0, a0⟩ := ht.2 _ (tl_mem hp)
  have tb : Tb K H1 := by
    refine ⟨fun g hg => ?_, fun z hz => ?_⟩
    · have ne : tabA K g ≠ tabA K p := fun c => gl_ne g hg (p, q) hp (tab_inj T (gens_tf g hg) (lams_tf _ hp) c)
      obtain ⟨ps, e, tr⟩ := ht.1 g hg
      exact ⟨ps, f1 _ _ e ne, tr⟩
    · obtain ⟨y, hy, rfl⟩ := List.mem_map.mp hz
      by_cases c : tabA K y.1 = tabA K p
      · have e := tab_inj T (lams_tf y hy) (lams_tf _ hp) c
        have e2 := lams_fun y hy (p, q) hp e
        show LamX.TabS H1 (tabA K y.1) y.2
        rw [c, e2]
        exact t
      · obtain ⟨qs, e1, t1, a1⟩ := ht.2 _ hz
        refine ⟨qs, f1 _ _ e1 c, t1, fun pos cv hc => ?_⟩
        obtain ⟨c', e2, e3⟩ := a1 pos cv hc
        refine ⟨c', e2, f1 _ _ e3 fun y => ?_⟩
        rw [y, e0] at e3
        exact LamX.codeO_ne qs0 (Option.some.inj e3).symm
  refine ⟨⟨fun b o e hb _ => f1 b o e fun y => ?_, f2, fun _ => tb⟩, tb⟩
  rw [y, e0] at e
  cases e
  cases hb
/-- a def whose code object is known -/
theorem okT {x qual : Str} {params : Arguments} {body : List Stmt} {scope : Scope} {dvs : List V} {kws : List (Str × V)} {p : He.Defn} {fd : FuncData} {CX : CXT} {N ps : List Str} {k : Nat} {sp : Sp} (F : FunD K x qual params body scope dvs kws (He.fAd K p) fd) (S : FnScope N ps scope)
    (len : ∀ vs H Q E, sp vs H Q E → vs.length = ps.length)
    (hbody : ∀ (A : Around) (outer : List Env) (s : Shared) (H : Hp) (vs : List V) (Q : VK) (E : XK), Room k (A.deeper (envOfC qual scope s.heap.objs.size (He.fAd K p) (.ref (He.codeOf K p)))) → sp vs H Q E →
      ∃ t, PSs (cxOf CX P w K mg base N qual scope (He.fAd K p) (.ref (He.codeOf K p)) A outer s H E) body t ∧ t { nx := fun _ H' => Q .non H', rt := Q } (L2.start N vs) H) : FnOk P w K mg base CX (k + 1) (He.fAd K p) fd ps sp := by
  obtain ⟨oc, od, dV, kV, doc, pm, an, cdv, ct, osl, rfl, lk, hcd, _, _⟩ := F.ex
  obtain ⟨c, rfl⟩ := He.codeIn_ref hcd
  have e : He.codeOf K p = c := He.codeOf_eq lk rfl
  subst e
  exact fn_of lk hcd S len hbody
def genB (scope : Scope) (x : Str) : Bool := (match scope.kind with | .function => true | _ => false) && (!scope.isCoroutine && (scope.names.all (fun y => match y.2 with | .cell => false | .free => false | _ => true) && (decide (scope.names.lookup (".0" : Str) = some NameKind.local) && decide (scope.names.lookup x = some NameKind.local))))
theorem gens_by {env : Env} {scope : Scope} {x : Str} (h : genB scope x = true) : GxR.GenS env scope x := by
  obtain ⟨h1, h⟩ := He.ba h
  obtain ⟨h2, h⟩ := He.ba h
  obtain ⟨h3, h⟩ := He.ba h
  obtain ⟨h4, h5⟩ := He.ba h
  have q := List.all_eq_true.mp h3
  refine ⟨?_, ?_, fun y hy e => ?_, of_decide_eq_true h4, of_decide_eq_true h5, fun y hy e => ?_⟩
  · split at h1
    · assumption
    · cases h1
  · simpa using h2
  · have := q y hy
    rw [e] at this
    cases this
  · have := q y hy
    rw [e] at this
    cases this
theorem elt_in {prog : Program} {w : World} {scope : Scope} {x k : Str} {j : Nat} {p1 p2 p3 : Pos} (hk : scope.kind = .function) (hl : scope.names.lookup x = some .local) (hd : (x == ("__debug__" : Str)) = false := by decide) :
    GxR.EltP prog w scope x (.Compare (.Name x p1) [.In] [.Constant (.str k) j p2] p3) (fun c => decide (c ∈ k.cps.toList)) := by
  intro cenv A' E' c t s2 m2 hs hn hm
  refine wpAny_Compare1 ?_
  refine wpAny_Name (wpAny_loadName_local (by rw [hs]; exact hk) (show cenv.scope.names.lookup x = some .local by rw [hs]; exact hl) hn hm ?_) hd
  refine Calls.Constant_str (PyProof.Rows.in_str ⟨?_, GxR.keeps_tok _ _⟩)
  exact congrArg Value.bool (PySem.StrLaws.found_one k c)
end
theorem FrT.fresh {K : PySem.W.Frag} {T : List Addr} {H H1 H2 : Hp} (a : FrT K [] H H1) (b : FrT K T H1 H2) (h : ∀ x ∈ T, H x = none) : FrT K [] H H2 :=
  ⟨fun c o e t _ => b.k c o (a.k c o e t (by simp)) t fun z => (by rw [h c z] at e; cases e), fun c z => a.b c (b.b c z), fun z => b.t (a.t z)⟩
theorem Frm.fresh {T : List Addr} {H H1 H2 : Hp} (a : Frm [] H H1) (b : Frm T H1 H2) (h : ∀ x ∈ T, H x = none) : Frm [] H H2 :=
  ⟨fun c o e t _ => b.k c o (a.k c o e t (by simp)) t fun z => (by rw [h c z] at e; cases e), fun c z => a.b c (b.b c z)⟩
theorem tb_upd {K : PySem.W.Frag} {H : Hp} {b : Addr} {xs : List V} {o : HO} (h : Tb K H) (hb : H b = some (.lst xs)) : Tb K (upd H b o) := by
  obtain ⟨h1, h2⟩ := h
  refine ⟨fun p hp => ?_, fun p hp => ?_⟩
  · obtain ⟨ps, e, t⟩ := h1 p hp
    refine ⟨ps, ?_, t⟩
    rw [upd_ne (ne_of e hb (by intro z; cases z))]
    exact e
  · obtain ⟨qs, e1, t1, a1⟩ := h2 p hp
    refine ⟨qs, ?_, t1, fun pos cv hc => ?_⟩
    · rw [upd_ne (ne_of e1 hb (by intro z; cases z))]
      exact e1
    · obtain ⟨c, e2, e3⟩ := a1 pos cv hc
      refine ⟨c, e2, ?_⟩
      rw [upd_ne (ne_of e3 hb (by intro z; cases z))]
      exact e3
theorem FrT.putN {K : PySem.W.Frag} {H H1 : Hp} {b : Addr} {xs : List V} {o : HO} (a : FrT K [] H H1) (h : H b = none) (hb : H1 b = some (.lst xs)) : FrT K [] H (upd H1 b o) :=
  ⟨fun c u e t n => by
    rw [upd_ne (ne_of_none e h)]
    exact a.k c u e t n, fun c z => a.b c (upd_back z), fun z => tb_upd (a.t z) hb⟩
end B

set_option Elab.async false
set_option linter.all false
set_option maxRecDepth 100000
set_option maxHeartbeats 4000000
namespace B
open PySem PySem.Spec PyProof.Rows L2
open PySem.W (kdv_obj kdv_fn kdv_tup)
/-! ### a lambda, all of whose parameters have written defaults, handed to a def -/
/-- what a lambda's making leaves: fr: all but the maker's table stands; ob: its function object; ext: the tuple of defaults -/
structure Made (X : Cx) (P : Addr) (q : Str) (params : Arguments) (body : Expr) (scope : Scope) (dV : Value) (ext : List (Addr × Obj)) (H H1 : Hp) (s1 : Shared) (f c1 : Addr) : Prop where
  fr : ∀ b o, H b = some o → b ≠ P → H1 b = some o
  bk : ∀ b, H1 b = none → H b = none
  tb : LamX.TabS H1 P q
  ob : ∃ doc pm ctv, s1.heap.get? f = some (kdv_obj "<lambda>" q params (.expr body) scope (cloFrom X.env.cells scope.names []) dV doc pm c1 ctv)
  fn : H1 f = none
  ff : f ∉ frs X.stack
  co : H1 c1 = some (LamX.CodeO c1 q)
  ex : ∀ p ∈ ext, s1.heap.get? p.1 = some p.2 ∧ H1 p.1 = none ∧ p.1 ∉ frs X.stack
section
variable {X : Cx} {pins : List (Addr × Obj)} {σ : L2.St} {H : Hp} {s : Shared}
theorem no_frame (I : Inv X pins σ H s) {b : Addr} (hb : s.heap.objs.size ≤ b) : b ∉ frs X.stack := fun z => by
  rcases List.mem_cons.mp (I.stkSub b z) with e | e
  · subst e
    exact absurd I.lt (Nat.not_lt.mpr hb)
  · exact I.nofs hb e
theorem made_tail {q : Str} {params : Arguments} {body : Expr} {scope : Scope} {pos : Pos} {c P : Addr} {dV : Value} {ext : List (Addr × Obj)} {E : Value → Shared → Prop} {Q : Value → Shared → Prop} (I : Inv X pins σ H s) (TB : LamX.TabB X.base X.mg c P) (hcode : X.env.code = .ref c)
    (hT : LamX.TabS H P q) (hfree : ∀ y ∈ scope.names, y.2 = .free → ∃ c, X.env.cells.lookup y.1 = some c) (hext : ∀ p ∈ ext, s.heap.get? p.1 = some p.2 ∧ H p.1 = none ∧ p.1 ∉ frs X.stack)
    (h : ∀ f c1 H1 s1, Inv X pins σ H1 s1 → Made X P q params body scope dV ext H H1 s1 f c1 → Q (.ref f) s1) :
    wpAny (model X.prog X.w) X.A (PySem.makeTail "<lambda>" q params (.expr body) scope X.env dV .none none pos pos.line) Q E s := by
  obtain ⟨ps, hP, trip, among⟩ := hT
  have heapP : s.heap.get? P = some { cls := .none, data := .fields ps } := I.hok P _ hP
  have glob : s.heap.Ns mainGlobals X.mg := I.mod.glob.keeps I.bk
  have bat : s.heap.BuiltinsAt X.mg P := TB.bm.keeps I.bk
  have hd : PySem.W.CodeHd s.heap c P := TB.code.keeps I.bk
  cases found : codeAmong pos ps.toList with
  | none =>
    refine PySem.W.kdv_makeTail (closure_ok hfree) I.ok.glob glob hcode hd heapP trip found TB.gP bat ?_
    intro c1 ctv doc h1 tk but ge lt rec_ tab
    obtain ⟨c2, oc, vs, t, eq2, got, dat, nth⟩ := rec_
    injection eq2 with eq2
    subst eq2
    have grow : s.heap.objs.size ≤ h1.objs.size := Nat.le_trans ge (Nat.le_of_lt lt)
    have freeC : H c1 = none := I.hok.fresh ge
    have neP : P ≠ c1 := ne_of_none hP freeC
    have old : ∀ b o, b ≠ P → s.heap.get? b = some o → (h1.push (kdv_obj "<lambda>" q params (.expr body) scope (cloFrom X.env.cells scope.names []) dV doc ((X.mg "__name__").getD .none) c1 ctv)).get? b = some o :=
      fun b o nb e => Heap.get?_push_of_some _ (but b o nb e)
    have I1 := LamX.inv_table (t' := tk) (more := #[rawInt pos.line, rawInt pos.col, .ref c1]) (q := q) I hP old (Heap.get?_push_of_some _ tab) ge ⟨oc, vs, t, Heap.get?_push_of_some _ got, dat, nth⟩
    have extP : ∀ p ∈ ext, p.1 ≠ P := fun p hp e => by
      have := (hext p hp).2.1
      rw [e, hP] at this
      cases this
    refine h h1.objs.size c1 _ _ I1 ⟨fun b o e nb => ?_, fun b e => upd_back (upd_back e), ⟨ps ++ #[rawInt pos.line, rawInt pos.col, .ref c1], ?_, ?_, fun pos2 cv hcv => ?_⟩, ⟨doc, _, ctv, Heap.get?_push_size _ rfl⟩, ?_, no_frame I grow, upd_same, fun p hp => ⟨old _ _ (extP p hp) (hext p hp).1, ?_, (hext p hp).2.2⟩⟩
    · rw [upd_ne (ne_of_none e freeC), upd_ne nb]
      exact e
    · rw [upd_ne neP, upd_same]
    · have e : (ps ++ #[rawInt pos.line, rawInt pos.col, .ref c1]).toList = ps.toList ++ [rawInt pos.line, rawInt pos.col, .ref c1] := by simp
      rw [e]
      exact PySem.TriplesOk_snoc _ _ _ _ trip
    · have e : (ps ++ #[rawInt pos.line, rawInt pos.col, .ref c1]).toList = ps.toList ++ [rawInt pos.line, rawInt pos.col, .ref c1] := by simp
      rw [e] at hcv
      rcases LamX.among_app _ trip hcv with z | z
      · obtain ⟨c0, e0, w0⟩ := among pos2 cv z
        refine ⟨c0, e0, ?_⟩
        rw [upd_ne (ne_of_none w0 freeC), upd_ne (fun y => ?_)]
        · exact w0
        · rw [y, hP] at w0
          exact LamX.codeO_ne ps (Option.some.inj w0).symm
      · exact ⟨c1, z, upd_same⟩
    · have n1 : h1.objs.size ≠ c1 := Nat.ne_of_gt lt
      have n2 : h1.objs.size ≠ P := Nat.ne_of_gt (Nat.lt_of_lt_of_le (Heap.lt_size heapP) grow)
      rw [upd_ne n1, upd_ne n2]
      exact I.hok.fresh grow
    · have n1 : p.1 ≠ c1 := Nat.ne_of_lt (Nat.lt_of_lt_of_le (Heap.lt_size (hext p hp).1) ge)
      rw [upd_ne n1, upd_ne (extP p hp)]
      exact (hext p hp).2.1
  | some cv =>
    obtain ⟨c1, e1, w1⟩ := among pos cv found
    subst e1
    refine PySem.W.kdv_makeTailHit (closure_ok hfree) I.ok.glob glob hcode hd heapP trip found bat ?_
    intro ctv doc h1 tk keep grow
    have I1 : Inv X pins σ H { s with heap := h1.push (kdv_obj "<lambda>" q params (.expr body) scope (cloFrom X.env.cells scope.names []) dV doc ((X.mg "__name__").getD .none) c1 ctv), toks := tk } :=
      I.kept fun b o e => Heap.get?_push_of_some _ (keep b o e)
    exact h h1.objs.size c1 H _ I1 ⟨fun b o e _ => e, fun b e => e, ⟨ps, hP, trip, among⟩, ⟨doc, _, ctv, Heap.get?_push_size _ rfl⟩, I.hok.fresh grow, no_frame I grow, w1,
      fun p hp => ⟨Heap.get?_push_of_some _ (keep _ _ (hext p hp).1), (hext p hp).2⟩⟩
/-- lambda: .. -/
theorem made0 {params : Arguments} {body : Expr} {scope : Scope} {pos : Pos} {c P : Addr} {E : Value → Shared → Prop} {Q : Value → Shared → Prop} (I : Inv X pins σ H s) (TB : LamX.TabB X.base X.mg c P) (hcode : X.env.code = .ref c)
    (hT : LamX.TabS H P (X.env.qual ++ "<lambda>")) (hfree : ∀ y ∈ scope.names, y.2 = .free → ∃ c, X.env.cells.lookup y.1 = some c) (h0 : params.defaults = []) (h1 : params.kw_defaults = [])
    (h : ∀ f c1 H1 s1, Inv X pins σ H1 s1 → Made X P (X.env.qual ++ "<lambda>") params body scope .none [] H H1 s1 f c1 → Q (.ref f) s1) :
    wpAny (model X.prog X.w) X.A (eval (.Lambda params body scope pos) X.env) Q E s := by
  have e : defaultsOf params X.env = ([], []) := by
    rw [defaultsOf_eq, h0, h1]
    rfl
  refine PySem.W.kla_eval e ?_
  rw [makeFunction_eq]
  simp only [List.zip_nil_right, List.filterMap_nil, List.isEmpty_nil, if_true, pure_bind]
  exact made_tail I TB hcode hT hfree (fun _ hp => absurd hp (by simp)) h
/-- lambda x=i: .. -/
theorem made1 {params : Arguments} {body : Expr} {scope : Scope} {pos dp : Pos} {i : Int} {j : Nat} {c P : Addr} {E : Value → Shared → Prop} {Q : Value → Shared → Prop} (I : Inv X pins σ H s) (TB : LamX.TabB X.base X.mg c P) (hcode : X.env.code = .ref c)
    (hT : LamX.TabS H P (X.env.qual ++ "<lambda>")) (hfree : ∀ y ∈ scope.names, y.2 = .free → ∃ c, X.env.cells.lookup y.1 = some c) (h0 : params.defaults = [.Constant (.int i) j dp]) (h1 : params.kw_defaults = [])
    (h : ∀ f c1 t0 tk H1 s1, Inv X pins σ H1 s1 → Made X P (X.env.qual ++ "<lambda>") params body scope (.ref t0) [(t0, kdv_tup [.int i tk])] H H1 s1 f c1 → Q (.ref f) s1) :
    wpAny (model X.prog X.w) X.A (eval (.Lambda params body scope pos) X.env) Q E s := by
  refine PySem.W.kdv_lam (by rw [h0]; rfl) h1 ?_
  rw [h0]
  refine PySem.W.kdv_all1 (wpAny_Constant_int (PySem.W.kdv_all0 ?_))
  rw [makeFunction_eq]
  simp only [List.zip_nil_right, List.filterMap_nil, List.isEmpty_nil, List.isEmpty_cons, if_true, pure_bind, Bool.false_eq_true, if_false]
  refine wpAny_bind (wpAny_newTextTuple ?_)
  have I1 := I.tok (s.toks + 1)
  have big : s.heap.objs.size ≤ s.heap.objs.size := Nat.le_refl _
  have I2 : Inv X pins σ H { s with heap := s.heap.push (kdv_tup [.int i s.toks]), toks := s.toks + 1 } := I.kept fun b o e => Heap.get?_push_of_some _ e
  refine made_tail I2 TB hcode hT hfree (ext := [(s.heap.objs.size, kdv_tup [.int i s.toks])]) (fun p hp => ?_) fun f c1 H1 s1 J M => h f c1 _ _ H1 s1 J M
  rw [List.mem_singleton.mp hp]
  exact ⟨Heap.get?_push_size _ rfl, I.hok.fresh big, no_frame I big⟩
end
end B

set_option Elab.async false
set_option linter.all false
set_option maxRecDepth 100000
set_option maxHeartbeats 4000000
namespace B
open PySem PySem.Spec PyProof.Rows L2
open PySem.W (kdv_obj kdv_fn kdv_tup)
/-- the lambda's names: none a cell; its own ones are none of the maker's -/
structure LamP (N : List Str) (sc scope : Scope) : Prop where
  kind : scope.kind = .function
  co : scope.isCoroutine = false
  gen : scope.isGenerator = false
  cell : ∀ y ∈ scope.names, y.2 ≠ .cell
  own : ∀ y ∈ scope.names, y.2 = .local → y.1 ∉ N
  free : ∀ y ∈ scope.names, y.2 = .free → sc.names.lookup y.1 = some .cell ∨ sc.names.lookup y.1 = some .free
def lamPB (N : List Str) (sc scope : Scope) : Bool :=
  (match scope.kind with | .function => true | _ => false) && (!scope.isCoroutine && (!scope.isGenerator && scope.names.all fun y => match y.2 with
    | .cell => false
    | .local => decide (y.1 ∉ N)
    | .free => (match sc.names.lookup y.1 with | some .cell => true | some .free => true | _ => false)
    | _ => true))
theorem lamP_by {N : List Str} {sc scope : Scope} (h : lamPB N sc scope = true) : LamP N sc scope := by
  obtain ⟨h1, h⟩ := He.ba h
  obtain ⟨h2, h⟩ := He.ba h
  obtain ⟨h3, h4⟩ := He.ba h
  have q := List.all_eq_true.mp h4
  refine ⟨?_, by simpa using h2, by simpa using h3, fun y hy e => ?_, fun y hy e => ?_, fun y hy e => ?_⟩
  · split at h1
    · assumption
    · cases h1
  · have := q y hy
    rw [e] at this
    cases this
  · have := q y hy
    rw [e] at this
    exact of_decide_eq_true this
  · have := q y hy
    rw [e] at this
    dsimp only at this
    split at this
    · exact .inl (by assumption)
    · exact .inr (by assumption)
    · cases this
section
variable {X : Cx} {pins : List (Addr × Obj)} {σ : L2.St} {H HZ : Hp} {s s2 : Shared}
theorem LamP.has {scope : Scope} (L : LamP X.N X.env.scope scope) (ok : X.Ok) : ∀ y ∈ scope.names, y.2 = .free → ∃ c, X.env.cells.lookup y.1 = some c := fun y hy e =>
  (L.free y hy e).elim (fun z => ok.has _ (.inl z)) (fun z => ok.has _ (.inr z))
theorem lam_enter {A : Around} {outer : List Env} {E : XK} {scope : Scope} {f c1 : Addr} {h2 : Heap} {tk : Nat} {m : Str → Option Value} (I : Inv X pins σ H s) (L : LamP X.N X.env.scope scope) (e0 : Env0 X.prog X.w X.K X.mg X.base A outer s2 HZ) (calm : A.handled = none)
    (un : Un (frs X.stack) [] H HZ s.heap s2.heap) (ns : h2.Ns s2.heap.objs.size m) (kp : ∀ b o, s2.heap.get? b = some o → h2.get? b = some o) :
    Inv (LamX.lamCx X A outer s2 HZ E scope f c1) [] σ HZ { s2 with heap := h2, toks := tk } := by
  have hfree := L.has I.ok
  -- a cell of the lambda is the maker's
  have up : ∀ {y : Str} {c : Addr}, (cloFrom X.env.cells scope.names []).lookup y = some c → X.env.cells.lookup y = some c := by
    intro y c e
    rcases cloFrom_mem (PySem.mem_of_lookup e) with z | ⟨z1, z2⟩
    · exact absurd z (by simp)
    · obtain ⟨d, hd⟩ := hfree _ z1 rfl
      have hd' : X.env.cells.lookup y = some d := hd
      rw [hd'] at z2
      have z3 : c = d := z2
      rw [z3]
      exact hd'
  have down : ∀ {y : Str}, scope.names.lookup y = some .free → ∃ c, (cloFrom X.env.cells scope.names []).lookup y = some c := by
    intro y e
    have mem : (y, NameKind.free) ∈ scope.names := PySem.mem_of_lookup e
    exact mem_lookup (cloFrom_has (cells := X.env.cells) (acc := []) mem)
  have noEx : ∀ b : Addr, b ∉ (LamX.lamCx X A outer s2 HZ E scope f c1).ex := fun b z => absurd (show b ∈ ([] : List Addr) from z) (by simp)
  have cellUp : ∀ {c : Addr} {v : Option Value}, H c = none → s.heap.IsCell c v → h2.IsCell c v := by
    rintro c v n ⟨o, ho, hd⟩
    obtain ⟨sl, e⟩ := un.any ho n (by simp)
    exact ⟨_, kp _ _ e, hd⟩
  have okI : (LamX.lamCx X A outer s2 HZ E scope f c1).Ok := by
    refine ⟨e0.mod, L.kind, rfl, rfl, Nat.le_refl _, fun y z c e1 e2 => I.ok.inj y z c (up e1) (up e2), ?_, ?_, fun _ => calm, Around.frames_deeper e0.frames, .inr ⟨rfl, rfl⟩, fun b z => absurd z (noEx b), e0.bs, e0.bsz, fun b _ _ => noEx b, fun b z => absurd z (noEx b), e0.funs, e0.frf⟩
    · intro y hy
      have hy2 : scope.names.lookup y = some .cell ∨ scope.names.lookup y = some .free := hy
      rcases hy2 with z | z
      · exact absurd rfl (L.cell _ (PySem.mem_of_lookup z))
      · exact down z
    · intro y c z
      exact absurd (show false = true from z) Bool.false_ne_true
  refine ⟨okI, rfl, e0.bare, Un.kept kp, ⟨m, ns, ?_⟩, ?_, e0.hok.fresh (Nat.le_refl _), ?_, fun p hp => absurd (show p ∈ ([] : List (Addr × Obj)) ++ [] from hp) (by simp), e0.hok.kept kp, I.len⟩
  · intro i y v hN hσ hV
    have hV2 : Vis scope y := hV
    rcases hV2 with z | z | z
    · exact absurd (List.mem_of_getElem? hN) (L.own _ (PySem.mem_of_lookup z) rfl)
    · exact absurd rfl (L.cell _ (PySem.mem_of_lookup z))
    · obtain ⟨m0, _, look⟩ := I.loc
      have fr := L.free _ (PySem.mem_of_lookup z) rfl
      have vis : Vis X.env.scope y := fr.elim (fun q => .inr (.inl q)) (fun q => .inr (.inr q))
      obtain ⟨u, ru, lk⟩ := look i y v hN hσ vis
      obtain ⟨c2, hc2⟩ := down z
      refine ⟨u, ru, .inr ⟨.inr z, c2, hc2, ?_⟩⟩
      have hc3 := up hc2
      rcases lk with ⟨q, _⟩ | ⟨_, c3, hc4, isC⟩
      · have q2 : X.env.scope.names.lookup y = some .local := q
        rcases fr with q3 | q3
        · have q3' : X.env.scope.names.lookup y = some .cell := q3
          rw [q3'] at q2
          cases q2
        · have q3' : X.env.scope.names.lookup y = some .free := q3
          rw [q3'] at q2
          cases q2
      · rw [hc3] at hc4
        cases hc4
        exact cellUp (I.freeC y _ hc3) isC
  · intro y c e
    obtain ⟨v, isC⟩ := I.cell y c (up e)
    exact ⟨v, cellUp (I.freeC y c (up e)) isC⟩
  · intro y c e
    obtain ⟨v, o, ho, _⟩ := I.cell y c (up e)
    exact un.free c o ho (I.freeC y c (up e)) (by simp)
/-- a(), a the parameter of the def at g that got the lambda -/
theorem pe_turn {CXg : CXT} {Eg : XK} {Ng : List Str} {qg : Str} {sg : Scope} {g f c1 P : Addr} {cdg dV : Value} {params : Arguments} {body : Expr} {scope : Scope} {k i : Nat} {a : Str} {pn : List (Addr × Obj)} {xe : Value → Shared → Prop} {W : WX} {tb : XK → TE} {p1 p2 : Pos} {ext : List (Addr × Obj)} {binds : List (Str × Value)} {H0 : Hp}
    (I : Inv X pins σ H s) (L : LamP X.N X.env.scope scope) (M : Made X P (X.env.qual ++ "<lambda>") params body scope dV ext H0 H s f c1)
    (bnd : ∀ (s' : Shared) (cl : List (Str × Addr)) (doc pm cv ctv : Value), (∀ p ∈ ext, s'.heap.get? p.1 = some p.2) → BindsTo s' (kdv_fn "<lambda>" (X.env.qual ++ "<lambda>") params (.expr body) scope cl dV doc pm cv ctv) ⟨[], []⟩ binds)
    (loc : ∀ y ∈ binds, scope.names.lookup y.1 = some .local)
    (tk : Takes ((cxOf CXg X.prog X.w X.K X.mg X.base Ng qg sg g cdg X.A X.stack s H Eg).tr pn xe) W) (hr : Room (k + 1) (X.A.deeper (envOfC qg sg s.heap.objs.size g cdg)))
    (hbody : ∀ (A : Around) (outer : List Env) (s : Shared) (H : Hp) (E : XK), Room k (A.deeper (LamX.lamEnv X scope s.heap.objs.size f c1)) → PE (LamX.lamCx X A outer s H E scope f c1) body (tb E))
    (hN : Ng[i]? = some a) (hv : Vis sg a) (hd : (a == ("__debug__" : Str)) = false := by decide) (hcd : (a == ("__classdict__" : Str)) = false := by decide) :
    PE ((cxOf CXg X.prog X.w X.K X.mg X.base Ng qg sg g cdg X.A X.stack s H Eg).tr pn xe) (.Call (.Name a p1) [] [] p2)
      (fun σZ HZ Q => σZ[i]? = some (some (.ref f)) ∧ HZ c1 = some (LamX.CodeO c1 (X.env.qual ++ "<lambda>")) ∧ ∃ E : XK, (∀ cls d H', E cls d H' → W cls d σZ H') ∧ tb E σ HZ Q) := by
  refine ⟨fun pinsZ sZ σZ HZ Q IZ h => ?_⟩
  obtain ⟨at_, code, E, hW, rd⟩ := h
  have name := (pe_var (X := (cxOf CXg X.prog X.w X.K X.mg X.base Ng qg sg g cdg X.A X.stack s H Eg).tr pn xe) (pos := p1) (i := i) hN hv hd hcd).run pinsZ sZ σZ HZ (fun v H1 => v = .ref f ∧ H1 = HZ) IZ ⟨.ref f, at_, rfl, rfl⟩
  refine wpAny_Call_Name_kw (thn name fun u s1 hu => ?_)
  obtain ⟨v, H1, I1, r1, ev, eH⟩ := hu
  subst ev
  rw [eH] at I1
  have eu : u = Value.ref f := r1
  subst eu
  obtain ⟨doc, pm, ctv, ob⟩ := M.ob
  have un : Un (frs X.stack) [] H HZ s.heap s1.heap := I1.base
  have ob1 := un.keep f _ ob M.fn M.ff (by simp)
  refine PySem.W.callWith_F0 ⟨_, _, _, _, ob1⟩ ?_
  obtain ⟨⟨oc, vs, t, got, dat, nth⟩, _, _⟩ := I1.hok c1 _ code
  have inner : codeAny (model X.prog X.w) (X.A.deeper (envOfC qg sg s.heap.objs.size g cdg)) (.call (.ref f) ⟨[], []⟩) (CR (L2.CX X.prog X.w) (envOfC qg sg s.heap.objs.size g cdg :: X.stack) X.prog X.w HZ s1 Q E) s1 := by
    refine PySem.W.kla_callFunE hr.depth ob1 rfl L.co L.gen rfl ⟨c1, oc, vs, t, rfl, got, dat, nth⟩ ?_
    refine bnd s1 _ doc pm _ ctv (fun p hp => un.keep p.1 p.2 (M.ex p hp).1 (M.ex p hp).2.1 (M.ex p hp).2.2 (by simp)) _ _ _ _ ?_
    refine wpAny_newFunctionEnv L.cell loc ?_ L.kind
    intro h2 ns but
    refine ⟨I1.nolimit.fresh _ but, ?_⟩
    have kp : ∀ b o, s1.heap.get? b = some o → h2.get? b = some o := fun b o e => but.extBut b o (Nat.ne_of_lt (Heap.lt_size e)) (Heap.get?_push_of_some _ e)
    have J := lam_enter (E := E) (f := f) (c1 := c1) (tk := s1.toks + binds.length) I L I1.env0 hr.hd un ns kp
    show codeAny _ _ (.expr body (LamX.lamEnv X scope s1.heap.objs.size f c1)) _ _
    refine PySem.W.kla_codeExpr (wpAny_mono ((hbody _ _ s1 HZ E (hr.deeper _)).run [] _ _ HZ Q J rd) ?_ fun e s' z => z)
    rintro v s' ⟨w', H', J', rv, q⟩
    exact ⟨w', H', J'.os, J'.bare, J'.base, J'.hok, rv, q⟩
  refine wpAny_call (codeAny_mono inner ?_)
  intro r s' hq
  match r, hq with
  | .error e, hq => exact tk e s' (XE.of_call I1 (fun cls d H' z => hW cls d H' z) hq)
  | .ok (.ret u), hq => exact I1.after hq
  | .ok .next, hq => exact False.elim hq
  | .ok .brk, hq => exact False.elim hq
  | .ok .cont, hq => exact False.elim hq
end
end B

set_option Elab.async false
set_option linter.all false
set_option maxRecDepth 100000
set_option maxHeartbeats 4000000
namespace B
open PySem PySem.Spec PyProof.Rows L2
open PySem.W (kdv_obj kdv_fn kdv_tup)
/-! ### the word of a refusal -/
theorem pe_never {X : Cx} {e : Expr} : PE X e (fun _ _ _ => False) := ⟨fun _ _ _ _ _ _ h => h.elim⟩
/-- how many of a list's flat items are alike -/
def rCntV (K : PySem.W.Frag) : V → List V → Hp → VK → Prop := fun x xs H Q => ∃ (p : Addr) (ys : List V) (y : V), x = .ref p ∧ xs = [y] ∧ SqL K H p ys ∧ flatV y = true ∧ ys.all flatV = true ∧ Q (.int (ys.countP (fun z => eqV z y) : Nat)) H
theorem count_U {y : V} : ∀ {ys : List V} {us : List Value}, Vals ys us → ys.all flatV = true → us.countP (eqU y) = ys.countP (fun z => eqV z y)
  | _, _, .nil, _ => rfl
  | z :: r, u :: t, .cons ru rt, h => by
    rw [List.all_cons, Bool.and_eq_true] at h
    rw [List.countP_cons, List.countP_cons, count_U rt h.2, eqU_of ru h.1]
theorem mt_cntV {X : Cx} : MtR X "list.count" (rCntV X.K) := by
  intro pins s σ H x xs v us Q I rx rxs h
  obtain ⟨p, ys, y, rfl, rfl, hs, fy, fys, q⟩ := h
  cases rx
  obtain ⟨u, rfl, ru⟩ := rxs.one
  obtain ⟨its, rv, ⟨⟨cls, dd, data, sl⟩, n, ho, hc, hdn, hd⟩, hlen⟩ := I.list hs
  simp only at hc hd
  subst hc hd
  refine call_meets PySem.F.slot_list_count ⟨_, ho, rfl⟩ PySem.F.entry_list_count (PySem.F.args_list_count_2 _ _)
    (SeqAt.list_countAt p its.toArray n dd sl u (eqU y)) ⟨ho, fun z hz => mem_eqAt ru fy rv fys z (by simpa using hz), ?_⟩
  have ec : its.toArray.toList.countP (eqU y) = ys.countP (fun z => eqV z y) := count_U rv fys
  refine ⟨.int (ys.countP (fun z => eqV z y) : Nat), H, I.tok _, ⟨s.toks, ?_⟩, q⟩
  show Value.int ((its.toArray.toList.countP (eqU y) : Nat) : Int) s.toks = _
  rw [ec]
/-- the fifteen answers, the n-th yes -/
def kindsV (n : Nat) : List V := (List.range 15).map fun i => V.bl (decide (i = n))
def wordsV : List Str := ["width", "number", "kind", "bit", "there", "not", "round", "over", "busy", "looks", "roster", "many", "plan", "step", "text"]
theorem kinds_count (n : Nat) (h : n < 15) : (kindsV n).countP (fun z => eqV z (.bl true)) = 1 := by
  have z : (List.range 15).all (fun n => (kindsV n).countP (fun z => eqV z (.bl true)) == 1) = true := by decide +kernel
  exact beq_iff_eq.mp (List.all_eq_true.mp z n (List.mem_range.mpr h))
theorem kinds_flat (n : Nat) : (kindsV n).all flatV = true := by
  unfold kindsV
  rw [List.all_map]
  exact List.all_eq_true.mpr fun _ _ => rfl
theorem kinds_at (n i : Nat) (h : i < 15) : (kindsV n)[i]? = some (.bl (decide (i = n))) := by
  unfold kindsV
  rw [List.getElem?_map, List.getElem?_range h]
  rfl
theorem kinds_none {n m : Nat} {z : V} (hn : n < 15) (hm : m < n) (h : (kindsV n)[m]? = some z) : eqV z (.bl true) = false := by
  rw [kinds_at n m (by omega)] at h
  have e := Option.some.inj h
  rw [← e, decide_eq_false (show ¬ m = n by omega)]
  rfl
/-- the class's word: the n-th of allErr, with no field -/
structure WordC (K : PySem.W.Frag) (cls : Value) (n : Nat) (wd : Str) : Prop where
  D : ∃ D, cls = .ref D ∧ ExcC K D ∧ (∀ i d, allErr[i]? = some d → PySem.W.kitOne K (.ref D) (.ref (He.ga K d)) = some (decide (i = n))) ∧ PySem.W.kitOne K (.ref D) (.type "ValueError") = some true ∧ PySem.W.exmOne K (.ref D) (.ref (He.ga K "BusError")) = some true
  lt : n < 15
  at_ : wordsV[n]? = some wd
  ne : inV (.str wd) [V.str "looks", V.str "step"] = false ∧ decide (V.str wd = V.str "text") = false
theorem PSs.imp {X : Cx} {st : List Stmt} {t t' : TS} (h : PSs X st t) (f : ∀ D σ H, t' D σ H → t D σ H) : PSs X st t' := ⟨fun pins s σ H D I q => h.run pins s σ H D I (f D σ H q)⟩
/-- the class of the n-th word -/
structure WordK (K : PySem.W.Frag) (D : Addr) (n : Nat) (wd : Str) : Prop where
  ex : ExcC K D
  kd : ∀ i d, allErr[i]? = some d → PySem.W.kitOne K (.ref D) (.ref (He.ga K d)) = some (decide (i = n))
  ve : PySem.W.kitOne K (.ref D) (.type "ValueError") = some true
  be : PySem.W.exmOne K (.ref D) (.ref (He.ga K "BusError")) = some true
  lt : n < 15
  at_ : wordsV[n]? = some wd
/-- what the word of a refusal is: a plain one, or with the value of a field -/
def Refd (K : PySem.W.Frag) (cls : Value) (d : Option Addr) (H : Hp) (Q : VK) : Prop := ∃ (D : Addr) (n : Nat) (wd : Str), cls = .ref D ∧ WordK K D n wd ∧
  ((d = none ∧ (inV (.str wd) [V.str "looks", V.str "step"] = false ∧ decide (V.str wd = V.str "text") = false) ∧ ∀ H3, Frm [] H H3 → Q (.str wd) H3) ∨
   ∃ (dd : Addr) (fs : List (Str × V)) (v : V), d = some dd ∧ H dd = some (.xd fs) ∧
    ((inV (.str wd) [V.str "looks", V.str "step"] = true ∧ PySem.W.findIn K (.ref D) "number" = some none ∧ fs.lookup ("number" : Str) = some v) ∨ (inV (.str wd) [V.str "looks", V.str "step"] = false ∧ decide (V.str wd = V.str "text") = true ∧ PySem.W.findIn K (.ref D) "row" = some none ∧ fs.lookup ("row" : Str) = some v)) ∧
    ∀ (p : Addr) (H3 : Hp), Frm [] H H3 → H p = none → H3 p = some (.tup [.str wd, v]) → Q (.ref p) H3)
/-- what the except suite asks -/
def tSuite (K : PySem.W.Frag) (a : Addr) (cls : Value) (d : Option Addr) : TS := fun D σ H => ∃ (v0 v2 v3 v4 : Option V), σ = [v0, some (.ref a), v2, v3, v4] ∧ Refd K cls d H D.rt
abbrev NW : List Str := ["_law_work", "e", "_law_kinds", "_law_words", "_law_word_here"]
/-- what the def makes of the lambda that it got -/
def TWord (K : PySem.W.Frag) : (XK → Hp → VK → Prop) → Hp → VK → Prop := fun tl H Q =>
  tl (fun cls d H2 => Refd K cls d H2 Q) H (fun _ H2 => Q (.str "") H2)
theorem Refd.plain {K : PySem.W.Frag} {cls : Value} {d : Option Addr} {H : Hp} {Q : VK} {n : Nat} {wd : Str} (h : WordC K cls n wd) (hd : d = none) (k : ∀ H3, Frm [] H H3 → Q (.str wd) H3) : Refd K cls d H Q := by
  obtain ⟨⟨D, rfl, h1, h2, h3, h4⟩, h5, h6, h7⟩ := h
  exact ⟨D, n, wd, rfl, ⟨h1, h2, h3, h4, h5, h6⟩, .inl ⟨hd, h7, k⟩⟩
theorem DicOk.mono {d : Option Addr} {H H' : Hp} (h : DicOk d H) (f : Frm [] H H') : DicOk d H' := by
  rcases h with h | ⟨dd, fs, h1, h2⟩
  · exact .inl h
  · exact .inr ⟨dd, fs, h1, f.k _ _ h2 rfl (by simp)⟩
theorem DicOk.new {d : Option Addr} {H : Hp} {p : Addr} {o : HO} (h : DicOk d H) (hp : H p = none) : DicOk d (upd H p o) := h.mono (Frm.of (same_upd hp))
section
variable {X : Cx} {cdg : Value} {s : Shared} {H0 : Hp}
abbrev WX0 (X : Cx) (cdg : Value) (s : Shared) (H0 : Hp) : Cx := (cxOf CX0 X.prog X.w X.K X.mg X.base NW "_law_word" (defScope s_lword) (He.ga X.K "_law_word") cdg X.A X.stack s H0 E0)
/-- the suite's statements -/
def suiteOf : List Stmt → List Stmt
  | .Try _ (.ExceptHandler _ _ b _ :: _) _ _ _ :: _ => b
  | _ => []
@[elab_as_elim] theorem gen_top {H0 H : Hp} {p : Addr} {o : HO} {P : Hp → Prop} (fr : Frm [] H0 (upd H p o)) (k : ∀ H7, Frm [] H0 H7 → H7 p = some o → P H7) : P (upd H p o) := k _ fr upd_same
theorem word_suite (T : Txt X.prog X.w X.K X.mg X.base) (a : Addr) (oe : Obj) (cls : Value) (d : Option Addr) (pn : List (Addr × Obj)) (hz : Zc cls d oe) (hf : ∃ vs, oe.data = .fields vs) :
    PSs ((WX0 X cdg s H0).suite a ((a, oe) :: pn)) (suiteOf (defBody s_lword)) (tSuite X.K a cls d) := by
  refine PSs.imp (pss_cons (ps_set (i := 2) sc_lword.nd rfl (Or.inl rfl) (pe_lst (pa_cons (pe_callB (call_isY hz hf) (by rfl) (n_isinstance T) (by decide +kernel) (pa_cons (pv 1) (pa_cons (pe_glob (v := .ref _) rfl (g_BadWidth T) rfl) pa_nil))) (pa_cons (pe_callB (call_isY hz hf) (by rfl) (n_isinstance T) (by decide +kernel) (pa_cons (pv 1) (pa_cons (pe_glob (v := .ref _) rfl (g_BadNumber T) rfl) pa_nil))) (pa_cons (pe_callB (call_isY hz hf) (by rfl) (n_isinstance T) (by decide +kernel) (pa_cons (pv 1) (pa_cons (pe_glob (v := .ref _) rfl (g_BadKind T) rfl) pa_nil))) (pa_cons (pe_callB (call_isY hz hf) (by rfl) (n_isinstance T) (by decide +kernel) (pa_cons (pv 1) (pa_cons (pe_glob (v := .ref _) rfl (g_BadBit T) rfl) pa_nil))) pa_nil))))))
    (pss_cons (ps_set (i := 2) sc_lword.nd rfl (Or.inl rfl) (pe_op op_cat (pv 2) (pe_lst (pa_cons (pe_callB (call_isY hz hf) (by rfl) (n_isinstance T) (by decide +kernel) (pa_cons (pv 1) (pa_cons (pe_glob (v := .ref _) rfl (g_There T) rfl) pa_nil))) (pa_cons (pe_callB (call_isY hz hf) (by rfl) (n_isinstance T) (by decide +kernel) (pa_cons (pv 1) (pa_cons (pe_glob (v := .ref _) rfl (g_NotThere T) rfl) pa_nil))) (pa_cons (pe_callB (call_isY hz hf) (by rfl) (n_isinstance T) (by decide +kernel) (pa_cons (pv 1) (pa_cons (pe_glob (v := .ref _) rfl (g_NoRound T) rfl) pa_nil))) (pa_cons (pe_callB (call_isY hz hf) (by rfl) (n_isinstance T) (by decide +kernel) (pa_cons (pv 1) (pa_cons (pe_glob (v := .ref _) rfl (g_Over T) rfl) pa_nil))) pa_nil)))))))
    (pss_cons (ps_set (i := 2) sc_lword.nd rfl (Or.inl rfl) (pe_op op_cat (pv 2) (pe_lst (pa_cons (pe_callB (call_isY hz hf) (by rfl) (n_isinstance T) (by decide +kernel) (pa_cons (pv 1) (pa_cons (pe_glob (v := .ref _) rfl (g_Busy T) rfl) pa_nil))) (pa_cons (pe_callB (call_isY hz hf) (by rfl) (n_isinstance T) (by decide +kernel) (pa_cons (pv 1) (pa_cons (pe_glob (v := .ref _) rfl (g_BadLooks T) rfl) pa_nil))) (pa_cons (pe_callB (call_isY hz hf) (by rfl) (n_isinstance T) (by decide +kernel) (pa_cons (pv 1) (pa_cons (pe_glob (v := .ref _) rfl (g_BadRoster T) rfl) pa_nil))) pa_nil))))))
    (pss_cons (ps_set (i := 2) sc_lword.nd rfl (Or.inl rfl) (pe_op op_cat (pv 2) (pe_lst (pa_cons (pe_callB (call_isY hz hf) (by rfl) (n_isinstance T) (by decide +kernel) (pa_cons (pv 1) (pa_cons (pe_glob (v := .ref _) rfl (g_TooMany T) rfl) pa_nil))) (pa_cons (pe_callB (call_isY hz hf) (by rfl) (n_isinstance T) (by decide +kernel) (pa_cons (pv 1) (pa_cons (pe_glob (v := .ref _) rfl (g_BadPlan T) rfl) pa_nil))) (pa_cons (pe_callB (call_isY hz hf) (by rfl) (n_isinstance T) (by decide +kernel) (pa_cons (pv 1) (pa_cons (pe_glob (v := .ref _) rfl (g_BadStep T) rfl) pa_nil))) (pa_cons (pe_callB (call_isY hz hf) (by rfl) (n_isinstance T) (by decide +kernel) (pa_cons (pv 1) (pa_cons (pe_glob (v := .ref _) rfl (g_BadText T) rfl) pa_nil))) pa_nil)))))))
    (pss_cons (ps_if (PW.pt (pw_or (pt_cmpR op_ne (pe_bm PySem.F.plainAttrs_list PySem.F.slot_list_count PySem.F.type_list_count mt_cntV (pv 2) (pa_cons pe_bl pa_nil)) pe_int (nomark _)) (pw_or1 (pt_not (pt_val (pe_callB (call_isY hz hf) (by rfl) (n_isinstance T) (by decide +kernel) (pa_cons (pv 1) (pa_cons (pe_bltn (v := .ty "ValueError") (u := .type "ValueError") rfl (n_ValueError T) (by decide +kernel) rfl) pa_nil))))))))
      (pss_one (ps_ret pe_str))
      pss_nil)
    (pss_cons (ps_set (i := 3) sc_lword.nd rfl (Or.inl rfl) (pe_lst (pa_cons pe_str (pa_cons pe_str (pa_cons pe_str (pa_cons pe_str (pa_cons pe_str (pa_cons pe_str (pa_cons pe_str (pa_cons pe_str (pa_cons pe_str (pa_cons pe_str (pa_cons pe_str (pa_cons pe_str pa_nil))))))))))))))
    (pss_cons (ps_set (i := 4) sc_lword.nd rfl (Or.inl rfl) (pe_ix ix_list (pe_op op_cat (pv 3) (pe_lst (pa_cons pe_str (pa_cons pe_str (pa_cons pe_str pa_nil))))) (pe_bm PySem.F.plainAttrs_list PySem.F.slot_list_index PySem.F.type_list_index mt_index (pv 2) (pa_cons pe_bl pa_nil)) (fun _ _ => rfl)))
    (pss_cons (ps_if (pt_cmpR op_in_seq (pv 4) (pe_tup (pa_cons pe_str (pa_cons pe_str pa_nil))) rfl)
      (pss_one (ps_ret (pe_tup (pa_cons (pv 4) (pa_cons (pe_xfA hz hf (pv 1)) pa_nil)))))
      pss_nil)
    (pss_one (ps_ret (pe_ifExp (pt_cmpR op_eq (pv 4) pe_str (nomark _)) (pe_tup (pa_cons (pv 4) (pa_cons (pe_xfA hz hf (pv 1)) pa_nil))) (pv 4)))))))))))) ?_
  rintro D σ H ⟨v0, v2, v3, v4, rfl, C, n, wd, rfl, ⟨hC, hk, hv, _, hn, hat⟩, hans⟩
  have hd : DicOk d H := by
    rcases hans with ⟨z, _⟩ | ⟨dd, fs, v, z1, z2, _⟩
    · exact .inl z
    · exact .inr ⟨dd, fs, z1, z2⟩
  refine ⟨_, rfl, C, _, _, _, rfl, hd, hC, rfl, fun u h => h, hk 0 _ rfl, ?_⟩
  refine ⟨_, rfl, C, _, _, _, rfl, hd, hC, rfl, fun u h => h, hk 1 _ rfl, ?_⟩
  refine ⟨_, rfl, C, _, _, _, rfl, hd, hC, rfl, fun u h => h, hk 2 _ rfl, ?_⟩
  refine ⟨_, rfl, C, _, _, _, rfl, hd, hC, rfl, fun u h => h, hk 3 _ rfl, ?_⟩
  refine ⟨by show 4 ≤ sizeLine; decide, fun p1 h1 => ?_⟩
  refine ⟨_, rfl, ?_⟩
  refine ⟨_, rfl, C, _, _, _, rfl, hd.new h1, hC, rfl, fun u h => h, hk 4 _ rfl, ?_⟩
  refine ⟨_, rfl, C, _, _, _, rfl, hd.new h1, hC, rfl, fun u h => h, hk 5 _ rfl, ?_⟩
  refine ⟨_, rfl, C, _, _, _, rfl, hd.new h1, hC, rfl, fun u h => h, hk 6 _ rfl, ?_⟩
  refine ⟨_, rfl, C, _, _, _, rfl, hd.new h1, hC, rfl, fun u h => h, hk 7 _ rfl, ?_⟩
  refine ⟨by show 4 ≤ sizeLine; decide, fun p2 h2 => ?_⟩
  have n12 : p1 ≠ p2 := ne_of_none upd_same h2
  refine ⟨p1, p2, _, _, rfl, rfl, by rw [upd_ne n12]; exact upd_same, upd_same, by show 8 ≤ sizeLine; decide, fun p3 h3 => ?_⟩
  refine ⟨_, rfl, ?_⟩
  refine ⟨_, rfl, C, _, _, _, rfl, ((hd.new h1).new h2).new h3, hC, rfl, fun u h => h, hk 8 _ rfl, ?_⟩
  refine ⟨_, rfl, C, _, _, _, rfl, ((hd.new h1).new h2).new h3, hC, rfl, fun u h => h, hk 9 _ rfl, ?_⟩
  refine ⟨_, rfl, C, _, _, _, rfl, ((hd.new h1).new h2).new h3, hC, rfl, fun u h => h, hk 10 _ rfl, ?_⟩
  refine ⟨by show 3 ≤ sizeLine; decide, fun p4 h4 => ?_⟩
  have n34 : p3 ≠ p4 := ne_of_none upd_same h4
  refine ⟨p3, p4, _, _, rfl, rfl, by rw [upd_ne n34]; exact upd_same, upd_same, by show 11 ≤ sizeLine; decide, fun p5 h5 => ?_⟩
  refine ⟨_, rfl, ?_⟩
  refine ⟨_, rfl, C, _, _, _, rfl, ((((hd.new h1).new h2).new h3).new h4).new h5, hC, rfl, fun u h => h, hk 11 _ rfl, ?_⟩
  refine ⟨_, rfl, C, _, _, _, rfl, ((((hd.new h1).new h2).new h3).new h4).new h5, hC, rfl, fun u h => h, hk 12 _ rfl, ?_⟩
  refine ⟨_, rfl, C, _, _, _, rfl, ((((hd.new h1).new h2).new h3).new h4).new h5, hC, rfl, fun u h => h, hk 13 _ rfl, ?_⟩
  refine ⟨_, rfl, C, _, _, _, rfl, ((((hd.new h1).new h2).new h3).new h4).new h5, hC, rfl, fun u h => h, hk 14 _ rfl, ?_⟩
  refine ⟨by show 4 ≤ sizeLine; decide, fun p6 h6 => ?_⟩
  have n56 : p5 ≠ p6 := ne_of_none upd_same h6
  refine ⟨p5, p6, _, _, rfl, rfl, by rw [upd_ne n56]; exact upd_same, upd_same, by show 15 ≤ sizeLine; decide, fun p7 h7 => ?_⟩
  show tSeq _ _ D _ (upd _ p7 (.lst (kindsV n)))
  refine gen_top (((((((Frm.of (same_upd h1)).trans (Frm.of (same_upd h2))).trans (Frm.of (same_upd h3))).trans (Frm.of (same_upd h4))).trans (Frm.of (same_upd h5))).trans (Frm.of (same_upd h6))).trans (Frm.of (same_upd (o := .lst (kindsV n)) h7))) ?_
  clear h7 n56 h6 h5 n34 h4 h3 n12 h2 h1
  intro H7 fr at7
  have hd7 := hd.mono fr
  refine ⟨_, rfl, .inl ⟨rfl, _, SqL.of at7⟩, p7, _, _, rfl, rfl, SqL.of at7, rfl, kinds_flat n, rfl, _, rfl, ?_⟩
  rw [kinds_count n hn]
  refine ⟨_, rfl, C, _, _, _, rfl, hd7, hC, rfl, fun u h => h, hv, true, rfl, ?_⟩
  refine ⟨by show 12 ≤ sizeLine; decide, fun p8 h8 => ?_⟩
  refine ⟨_, rfl, by show 3 ≤ sizeLine; decide, fun p9 h9 => ?_⟩
  have n89 : p8 ≠ p9 := ne_of_none upd_same h9
  refine ⟨p8, p9, _, _, rfl, rfl, by rw [upd_ne n89]; exact upd_same, upd_same, by show 15 ≤ sizeLine; decide, fun p10 h10 => ?_⟩
  have f10 : Frm [] H7 (upd (upd (upd H7 p8 (.lst [.str "width", .str "number", .str "kind", .str "bit", .str "there", .str "not", .str "round", .str "over", .str "busy", .str "looks", .str "roster", .str "many"])) p9 (.lst [.str "plan", .str "step", .str "text"])) p10 (.lst (wordsV.map V.str))) :=
    ((Frm.of (same_upd h8)).trans (Frm.of (same_upd h9))).trans (Frm.of (same_upd h10))
  have at7' := f10.k _ _ at7 rfl (by simp)
  refine ⟨_, rfl, .inl ⟨rfl, _, SqL.of at7'⟩, p7, _, _, n, _, rfl, rfl, SqL.of at7', rfl, kinds_flat n, kinds_at n n hn, by rw [decide_eq_true rfl]; rfl, fun m z hm hz => kinds_none hn hm hz, ?_⟩
  refine ⟨p10, wordsV.map V.str, _, .str wd, rfl, rfl, SqL.of upd_same, atI_nat (by rw [List.getElem?_map, hat]; rfl), ?_⟩
  refine ⟨_, rfl, by show 2 ≤ sizeLine; decide, fun p11 h11 => ?_⟩
  refine ⟨p11, _, rfl, .inr (SqT.of upd_same), rfl, rfl, _, rfl, ?_⟩
  have f11 := (fr.trans f10).trans (Frm.of (same_upd (o := .tup [.str "looks", .str "step"]) h11))
  rcases hans with ⟨_, ⟨ne1, ne2⟩, kk⟩ | ⟨dd, fs, v, rfl, hdd, ⟨i1, ff, ll⟩ | ⟨i1, i2, ff, ll⟩, kk⟩
  · rw [ne1]
    refine ⟨_, rfl, rfl, _, rfl, ?_⟩
    rw [ne2]
    exact ⟨_, rfl, kk _ f11⟩
  · rw [i1]
    refine ⟨_, rfl, C, ⟨hC.hg, hC.hk, hC.hs, hC.hd⟩, ff, _, rfl, rfl, rfl, dd, fs, v, rfl, f11.k _ _ hdd rfl (by simp), ll, by show 2 ≤ sizeLine; decide, fun p12 h12 => ?_⟩
    exact kk p12 _ (f11.trans (Frm.of (same_upd h12))) (f11.b _ h12) upd_same
  · rw [i1]
    refine ⟨_, rfl, rfl, _, rfl, ?_⟩
    rw [i2]
    refine ⟨_, rfl, C, ⟨hC.hg, hC.hk, hC.hs, hC.hd⟩, ff, _, rfl, rfl, rfl, dd, fs, v, rfl, f11.k _ _ hdd rfl (by simp), ll, by show 2 ≤ sizeLine; decide, fun p12 h12 => ?_⟩
    exact kk p12 _ (f11.trans (Frm.of (same_upd h12))) (f11.b _ h12) upd_same
theorem word_ok (T : Txt X.prog X.w X.K X.mg X.base) {f c1 : Addr} {q : Str} {tl : XK → Hp → VK → Prop} {Q : VK}
    (turn : ∀ (W : WX) (pn : List (Addr × Obj)) (xe : Value → Shared → Prop) (p1 p2 : Pos), Takes ((WX0 X cdg s H0).tr pn xe) W →
      PE ((WX0 X cdg s H0).tr pn xe) (.Call (.Name "_law_work" p1) [] [] p2) (fun σZ HZ Q => σZ[0]? = some (some (.ref f)) ∧ HZ c1 = some (LamX.CodeO c1 q) ∧ ∃ E : XK, (∀ cls d H', E cls d H' → W cls d σZ H') ∧ tl E HZ Q))
    (hc : H0 c1 = some (LamX.CodeO c1 q)) (h : TWord X.K tl H0 Q) :
    ∃ t, PSs (WX0 X cdg s H0) (defBody s_lword) t ∧ t { nx := fun _ H' => Q .non H', rt := Q } (L2.start NW [.ref f]) H0 := by
  refine ⟨_, pss_cons (ps_try_as (i := 1) (n := "e") (ts := tSuite X.K) (Wout := fun _ _ _ _ => False) (tb := fun W D σ H => σ[0]? = some (some (.ref f)) ∧ H c1 = some (LamX.CodeO c1 q) ∧ ∃ E : XK, (∀ cls d H', E cls d H' → W cls d σ H') ∧ tl E H (fun _ H' => D.nx σ H')) rfl rfl sc_lword.nd rfl rfl ⟨rfl, by decide, .inl (g_BusError T)⟩ L2.takes0
    (fun W pn xe tk _ => pss_one (ps_expr (turn W pn xe _ _ tk))) (fun a oe cls d pn hz hf => word_suite T a oe cls d pn hz hf)) (pss_one (ps_ret pe_str)), ?_⟩
  refine ⟨rfl, hc, _, fun cls d H' z => ?_, h⟩
  obtain ⟨D, n, wd, rfl, C, k⟩ := z
  exact ⟨true, C.be, fun _ a ha => ⟨_, _, _, _, rfl, D, n, wd, rfl, C, k⟩, fun z => nomatch z⟩
end
end B

set_option Elab.async false
set_option linter.all false
set_option maxRecDepth 100000
set_option maxHeartbeats 4000000
namespace B
open PySem PySem.Spec PyProof.Rows L2
open PySem.W (kdv_obj kdv_fn kdv_tup)
/-! ### word(lambda: ..) -/
section
variable {X : Cx} {pins : List (Addr × Obj)} {σ : L2.St} {H H1 : Hp} {s s1 : Shared}
theorem word_go (T : Txt X.prog X.w X.K X.mg X.base) {params : Arguments} {body : Expr} {scope : Scope} {f c1 P : Addr} {dV : Value} {k : Nat} {ext : List (Addr × Obj)} {binds : List (Str × Value)} {t : XK → TE} {Q : VK} (I : Inv X pins σ H1 s1) (L : LamP X.N X.env.scope scope)
    (M : Made X P (X.env.qual ++ "<lambda>") params body scope dV ext H H1 s1 f c1)
    (bnd : ∀ (s' : Shared) (cl : List (Str × Addr)) (doc pm cv ctv : Value), (∀ p ∈ ext, s'.heap.get? p.1 = some p.2) → BindsTo s' (kdv_fn "<lambda>" (X.env.qual ++ "<lambda>") params (.expr body) scope cl dV doc pm cv ctv) ⟨[], []⟩ binds)
    (loc : ∀ y ∈ binds, scope.names.lookup y.1 = some .local) (hr : Room (k + 2) X.A)
    (hbody : ∀ (A : Around) (outer : List Env) (s : Shared) (H : Hp) (E : XK) (f c1 : Addr), Room k (A.deeper (LamX.lamEnv X scope s.heap.objs.size f c1)) → PE (LamX.lamCx X A outer s H E scope f c1) body (t E))
    (h : TWord X.K (fun E H' Q' => t E σ H' Q') H1 Q) : codeAny (model X.prog X.w) X.A (.call (.ref (He.ga X.K "_law_word")) ⟨[.ref f], []⟩) (CR CX0 X.stack X.prog X.w H1 s1 Q E0) s1 := by
  obtain ⟨fd, F⟩ := T.t.def_ 6 (d := d_lword)
  have b : L2.Binds X.K fd ["_law_work"] [] := F.bindsN fun _ _ _ _ _ _ us hl => match us, hl with | [_], _ => rfl
  obtain ⟨oc, od, dV', kV, doc, pm, an, cdv, ct, osl, rfl, lk, hcd, _, _⟩ := F.ex
  refine LamX.run_ofS (N := NW) (ps := ["_law_work"]) (us := [.ref f]) (vs := [.ref f]) lk hcd sc_lword hr I.env0 (b s1 [.ref f] I.kIn rfl) (.cons rfl .nil) rfl fun hr' => ?_
  exact word_ok (X := X) (cdg := cdv) (s := s1) (H0 := H1) T (fun W pn xe p1 p2 tk => pe_turn (i := 0) (tb := t) I L M bnd loc tk hr' (fun A outer s H E hr2 => hbody A outer s H E f c1 hr2) rfl (.inl rfl)) M.co h
def tWordL (K : PySem.W.Frag) (P : Addr) (q : Str) (t : XK → TE) : TE := fun σ H Q => LamX.TabS H P q ∧ ∀ H1, (∀ b o, H b = some o → b ≠ P → H1 b = some o) → (∀ b, H1 b = none → H b = none) → LamX.TabS H1 P q → TWord K (fun E H' Q' => t E σ H' Q') H1 Q
theorem pe_word0 (T : Txt X.prog X.w X.K X.mg X.base) {params : Arguments} {body : Expr} {scope : Scope} {c P : Addr} {k : Nat} {t : XK → TE} {p lpos pos : Pos} (h0 : params.defaults = []) (h1 : params.kw_defaults = []) (hbind : ∀ (q : Str) (cl : List (Str × Addr)) (doc pm cv ctv : Value), bindArgs (kdv_fn "<lambda>" q params (.expr body) scope cl .none doc pm cv ctv) ⟨[], []⟩ = pure []) (TB : LamX.TabB X.base X.mg c P) (hcode : X.env.code = .ref c) (hr : Room (k + 2) X.A) (L : LamP X.N X.env.scope scope)
    (hbody : ∀ (A : Around) (outer : List Env) (s : Shared) (H : Hp) (E : XK) (f c1 : Addr), Room k (A.deeper (LamX.lamEnv X scope s.heap.objs.size f c1)) → PE (LamX.lamCx X A outer s H E scope f c1) body (t E)) (hg : Gl X "_law_word")
    (hst : starEach [.Lambda params body scope lpos] X.env = (false, eval (.Lambda params body scope lpos) X.env) :: starEach [] X.env := by rfl) (hpl : (backTo pos (starEach [] X.env)).any (·.1) = false := by rfl) :
    PE X (.Call (.Name "_law_word" p) [.Lambda params body scope lpos] [] pos) (tWordL X.K P (X.env.qual ++ "<lambda>") t) := by
  refine ⟨fun pins s σ H Q I h => ?_⟩
  obtain ⟨hT, h⟩ := h
  obtain ⟨fd, F⟩ := T.t.def_ 6 (d := d_lword)
  have hm : X.mg "_law_word" = some (.ref (He.ga X.K "_law_word")) := He.glo_ok T.X T.G (T.t.fact 6)
  have hk : PySem.W.keepIn X.K (.ref (He.ga X.K "_law_word")) = true := F.kp
  refine wpAny_Call_Name_kw (ld_glob I hg hm ?_)
  refine PySem.W.callWith_K (h₀ := X.base) I.ok.mod.kin hk ?_ (by rfl) (by rfl)
  show wpAny _ _ (spliced ((false, eval (.Lambda params body scope lpos) X.env) :: backTo pos (starEach [] X.env))) _ _ s
  refine Calls.spliced_cons (made0 I TB hcode hT (L.has I.ok) h0 h1 fun f c1 H1 s1 I1 M => ?_)
  refine Calls.spliced_nil ⟨I1.kIn, ?_⟩
  refine wpAny_call (codeAny_mono (word_go T I1 L M (binds := []) (fun s2 cl doc pm cv ctv _ => .of_eq (hbind _ _ _ _ _ _)) (fun _ hy => absurd hy (by simp)) hr hbody (h _ M.fr M.bk M.tb)) fun r s2 hq => ?_)
  match r, hq with
  | .error e, hq => exact (show False from hq).elim
  | .ok (.ret u), hq => exact I1.after hq
  | .ok .next, hq => exact False.elim hq
  | .ok .brk, hq => exact False.elim hq
  | .ok .cont, hq => exact False.elim hq
theorem pe_word1 (T : Txt X.prog X.w X.K X.mg X.base) {params : Arguments} {body : Expr} {scope : Scope} {c P : Addr} {k : Nat} {t : XK → TE} {p lpos pos : Pos} {i : Int} {j : Nat} {dp : Pos} {a : Str} (h0 : params.defaults = [.Constant (.int i) j dp]) (h1 : params.kw_defaults = []) (hloc : scope.names.lookup a = some .local) (hbind : ∀ (s : Shared) (q : Str) (cl : List (Str × Addr)) (t0 : Addr) (tk : Nat) (doc pm cv ctv : Value), s.heap.get? t0 = some (kdv_tup [.int i tk]) → BindsTo s (kdv_fn "<lambda>" q params (.expr body) scope cl (.ref t0) doc pm cv ctv) ⟨[], []⟩ [(a, .int i tk)]) (TB : LamX.TabB X.base X.mg c P) (hcode : X.env.code = .ref c) (hr : Room (k + 2) X.A) (L : LamP X.N X.env.scope scope)
    (hbody : ∀ (A : Around) (outer : List Env) (s : Shared) (H : Hp) (E : XK) (f c1 : Addr), Room k (A.deeper (LamX.lamEnv X scope s.heap.objs.size f c1)) → PE (LamX.lamCx X A outer s H E scope f c1) body (t E)) (hg : Gl X "_law_word")
    (hst : starEach [.Lambda params body scope lpos] X.env = (false, eval (.Lambda params body scope lpos) X.env) :: starEach [] X.env := by rfl) (hpl : (backTo pos (starEach [] X.env)).any (·.1) = false := by rfl) :
    PE X (.Call (.Name "_law_word" p) [.Lambda params body scope lpos] [] pos) (tWordL X.K P (X.env.qual ++ "<lambda>") t) := by
  refine ⟨fun pins s σ H Q I h => ?_⟩
  obtain ⟨hT, h⟩ := h
  obtain ⟨fd, F⟩ := T.t.def_ 6 (d := d_lword)
  have hm : X.mg "_law_word" = some (.ref (He.ga X.K "_law_word")) := He.glo_ok T.X T.G (T.t.fact 6)
  have hk : PySem.W.keepIn X.K (.ref (He.ga X.K "_law_word")) = true := F.kp
  refine wpAny_Call_Name_kw (ld_glob I hg hm ?_)
  refine PySem.W.callWith_K (h₀ := X.base) I.ok.mod.kin hk ?_ (by rfl) (by rfl)
  show wpAny _ _ (spliced ((false, eval (.Lambda params body scope lpos) X.env) :: backTo pos (starEach [] X.env))) _ _ s
  refine Calls.spliced_cons (made1 I TB hcode hT (L.has I.ok) h0 h1 fun f c1 t0 tk H1 s1 I1 M => ?_)
  refine Calls.spliced_nil ⟨I1.kIn, ?_⟩
  refine wpAny_call (codeAny_mono (word_go T I1 L M (binds := [(a, .int i tk)]) (fun s2 cl doc pm cv ctv e => hbind _ _ _ _ _ _ _ _ _ (e _ (List.mem_singleton.mpr rfl))) (fun y hy => by rw [List.mem_singleton.mp hy]; exact hloc) hr hbody (h _ M.fr M.bk M.tb)) fun r s2 hq => ?_)
  match r, hq with
  | .error e, hq => exact (show False from hq).elim
  | .ok (.ret u), hq => exact I1.after hq
  | .ok .next, hq => exact False.elim hq
  | .ok .brk, hq => exact False.elim hq
  | .ok .cont, hq => exact False.elim hq
end
end B

set_option Elab.async false
set_option linter.all false
set_option maxRecDepth 100000
set_option maxHeartbeats 4000000
namespace B
open PySem PySem.Spec PyProof.Rows L2
open SX (S)
/-! ### alike -/
theorem atI_nat' {xs : List V} {i : Nat} {v : V} (h : xs[i]? = some v) : atI xs (0 + (i : Int)) = some v := by
  rw [Int.zero_add]
  exact atI_nat h
/-- asked of two things that A calls alike -/
def spAl (A : V → V → Hp → Prop) : Sp := fun vs H Q _ => ∃ x y, vs = [x, y] ∧ A x y H ∧ ∀ H', Frm [] H H' → Q (.bl true) H'
def Atom (x y : V) : Prop := (∃ b, x = .bl b ∧ y = .bl b) ∨ (∃ s, x = .str s ∧ y = .str s) ∨ (∃ i, x = .int i ∧ y = .int i) ∨ (x = .non ∧ y = .non)
def AlStep (K : PySem.W.Frag) (A : V → V → Hp → Prop) (x y : V) (H : Hp) : Prop := Atom x y ∨ ∃ (p q : Addr) (xs ys : List V), x = .ref p ∧ y = .ref q ∧ ((H p = some (.lst xs) ∧ H q = some (.lst ys)) ∨ (H p = some (.tup xs) ∧ H q = some (.tup ys))) ∧ xs.length = ys.length ∧ ys.length ≤ 100000 ∧
  ∀ (i : Nat) a b, xs[i]? = some a → ys[i]? = some b → A a b H
def Steady (A : V → V → Hp → Prop) : Prop := ∀ x y H H', A x y H → Frm [] H H' → A x y H'
theorem steady0 : Steady (fun _ _ _ => False) := fun _ _ _ _ h _ => h
theorem steady_step {K : PySem.W.Frag} {A : V → V → Hp → Prop} (h : Steady A) : Steady (AlStep K A) := by
  rintro x y H H' (z | ⟨p, q, xs, ys, e1, e2, hs, hl, hn, hA⟩) f
  · exact .inl z
  · refine .inr ⟨p, q, xs, ys, e1, e2, ?_, hl, hn, fun i a b ha hb => h _ _ _ _ (hA i a b ha hb) f⟩
    rcases hs with ⟨h1, h2⟩ | ⟨h1, h2⟩
    · exact .inl ⟨f.k _ _ h1 rfl (by simp), f.k _ _ h2 rfl (by simp)⟩
    · exact .inr ⟨f.k _ _ h1 rfl (by simp), f.k _ _ h2 rfl (by simp)⟩
theorem al_strs {K : PySem.W.Frag} {A : V → V → Hp → Prop} {H : Hp} {p q : Addr} {xs : List Str} (hp : H p = some (.lst (xs.map V.str))) (hq : H q = some (.lst (xs.map V.str))) (hl : xs.length ≤ 100000) : AlStep K (AlStep K A) (.ref p) (.ref q) H := by
  refine .inr ⟨p, q, _, _, rfl, rfl, .inl ⟨hp, hq⟩, rfl, by rw [List.length_map]; exact hl, fun i a b ha hb => .inl ?_⟩
  rw [hb] at ha
  obtain rfl := Option.some.inj ha
  obtain ⟨z, hz, e⟩ := at_map hb
  exact .inr (.inl ⟨z, e, e⟩)
section
variable {P : Program} {w : World} {K : PySem.W.Frag} {mg : Str → Option Value} {base : Heap}
theorem alike0 (T : Txt P w K mg base) : CalX CX0 P w K mg base 1 "_law_alike" (spAl fun _ _ _ => False) := by
  obtain ⟨fd, F⟩ := T.t.def_ 5 (d := d_lalike)
  refine ⟨_, fd, _, F.ok sc_lalike (fun vs H Q E h => ?_) (fun cdv A outer s H vs Q E hr h => ?_), He.glo_ok T.X T.G (T.t.fact 5), F.kp, F.bindsN fun _ _ _ _ _ _ us hl => match us, hl with | [_, _], _ => rfl⟩
  · obtain ⟨_, _, _, z, _⟩ := h
    exact z.elim
  · obtain ⟨_, _, _, z, _⟩ := h
    exact z.elim
theorem alike_step (T : Txt P w K mg base) {A : V → V → Hp → Prop} {k : Nat} (sA : Steady A) (c : CalX CX0 P w K mg base k "_law_alike" (spAl A)) : CalX CX0 P w K mg base (k + 1) "_law_alike" (spAl (AlStep K A)) := by
  obtain ⟨fd, F⟩ := T.t.def_ 5 (d := d_lalike)
  refine ⟨_, fd, _, F.ok sc_lalike (fun vs H Q E h => ?_) (fun cdv A outer s H vs Q E hr h => ?_), He.glo_ok T.X T.G (T.t.fact 5), F.kp, F.bindsN fun _ _ _ _ _ _ us hl => match us, hl with | [_, _], _ => rfl⟩
  · obtain ⟨x, y, rfl, _⟩ := h
    rfl
  · obtain ⟨x, y, rfl, hA, k⟩ := h
    have hu := hu_of hr
    refine ⟨_, PSs.nox (pss_cons (ps_if (PW.pt (pw_or (pt_val (pe_callB call_isi (by rfl) (n_isinstance T) (by decide +kernel) (pa_cons (pv 1) (pa_cons (pe_bltn (v := .ty "tuple") (u := .type "tuple") rfl (n_tuple T) (by decide +kernel) rfl) pa_nil)))) (pw_or1 (pt_val (pe_callB call_isi (by rfl) (n_isinstance T) (by decide +kernel) (pa_cons (pv 1) (pa_cons (pe_bltn (v := .ty "list") (u := .type "list") rfl (n_list T) (by decide +kernel) rfl) pa_nil)))))))
      (pss_cons (ps_if (PW.pt (pw_or (pt_cmpR op_ne (pe_callB call_isi (by rfl) (n_isinstance T) (by decide +kernel) (pa_cons (pv 0) (pa_cons (pe_bltn (v := .ty "tuple") (u := .type "tuple") rfl (n_tuple T) (by decide +kernel) rfl) pa_nil))) (pe_callB call_isi (by rfl) (n_isinstance T) (by decide +kernel) (pa_cons (pv 1) (pa_cons (pe_bltn (v := .ty "tuple") (u := .type "tuple") rfl (n_tuple T) (by decide +kernel) rfl) pa_nil))) (nomark _)) (pw_or1 (pt_not (pt_val (pe_callB call_isiT (by rfl) (n_isinstance T) (by decide +kernel) (pa_cons (pv 0) (pa_cons (pe_tup (pa_cons (pe_bltn (v := .ty "tuple") (u := .type "tuple") rfl (n_tuple T) (by decide +kernel) rfl) (pa_cons (pe_bltn (v := .ty "list") (u := .type "list") rfl (n_list T) (by decide +kernel) rfl) pa_nil))) pa_nil))))))))
        (pss_one (ps_ret pe_bl))
        pss_nil)
      (pss_cons (ps_if (pt_cmpR op_ne (pe_callB call_len_seq (by rfl) (n_len T) PySem.boot_len (pa_cons (pv 0) pa_nil)) (pe_callB call_len_seq (by rfl) (n_len T) PySem.boot_len (pa_cons (pv 1) pa_nil)) (nomark _))
        (pss_one (ps_ret pe_bl))
        pss_nil)
      (pss_one (ps_ret (pe_cmpR (op_eqD hr.units) (pe_lc (own := [("_law_k", 2)]) (g := gName 2) rfl sc_lalike.nd (pi_range1 rfl (n_range T) (pa_cons (pe_callB call_len_seq (by rfl) (n_len T) PySem.boot_len (pa_cons (pv 1) pa_nil)) pa_nil)) (blkOk_by (N := ["_law_found", "_law_due", "_law_k"]) (sc := defScope s_lalike) (own := [("_law_k", 2)]) (by decide +kernel)) (fun _ _ _ _ _ => pg_name (i := 2) sc_lalike.nd rfl (Or.inl rfl)) (fun _ _ _ _ _ => pts_one (by exact (pt_not (pt_val (pe_cx c hr (Nat.le_refl _) rfl pass0 (pa_cons (pe_ix (ix_seqK (K := K) rfl) (pv 0) (pv 2) (fun _ _ => rfl)) (pa_cons (pe_ix (ix_seqK (K := K) rfl) (pv 1) (pv 2) (fun _ _ => rfl)) pa_nil))))))) (fun _ _ _ _ _ => by exact (pv 2))) (pe_lst pa_nil) (nomark _))))))
      pss_nil)
    (pss_cons (ps_if (PW.pt (pw_or (pt_cmpR op_isN (pv 1) pe_non (nomark _)) (pw_or1 (pt_cmpR op_isN (pv 0) pe_non (nomark _)))))
      (pss_one (ps_ret (pe_and (pe_cmpR op_isN (pv 1) pe_non (nomark _)) (pe_one (pe_cmpR op_isN (pv 0) pe_non (nomark _))))))
      pss_nil)
    (pss_cons (ps_if (PW.pt (pw_or (pt_val (pe_callB call_isi (by rfl) (n_isinstance T) (by decide +kernel) (pa_cons (pv 1) (pa_cons (pe_bltn (v := .ty "bool") (u := .type "bool") rfl (n_bool T) (by decide +kernel) rfl) pa_nil)))) (pw_or1 (pt_val (pe_callB call_isi (by rfl) (n_isinstance T) (by decide +kernel) (pa_cons (pv 0) (pa_cons (pe_bltn (v := .ty "bool") (u := .type "bool") rfl (n_bool T) (by decide +kernel) rfl) pa_nil)))))))
      (pss_one (ps_ret (pe_and (pe_callB call_isi (by rfl) (n_isinstance T) (by decide +kernel) (pa_cons (pv 1) (pa_cons (pe_bltn (v := .ty "bool") (u := .type "bool") rfl (n_bool T) (by decide +kernel) rfl) pa_nil))) (pe_and (pe_callB call_isi (by rfl) (n_isinstance T) (by decide +kernel) (pa_cons (pv 0) (pa_cons (pe_bltn (v := .ty "bool") (u := .type "bool") rfl (n_bool T) (by decide +kernel) rfl) pa_nil))) (pe_one (pe_cmpR op_eq (pv 0) (pv 1) (nomark _)))))))
      pss_nil)
    (pss_cons (ps_if (pt_val (pe_callB call_isi (by rfl) (n_isinstance T) (by decide +kernel) (pa_cons (pv 1) (pa_cons (pe_bltn (v := .ty "str") (u := .type "str") rfl (n_str T) (by decide +kernel) rfl) pa_nil))))
      (pss_one (ps_ret (pe_and (pe_callB call_isi (by rfl) (n_isinstance T) (by decide +kernel) (pa_cons (pv 0) (pa_cons (pe_bltn (v := .ty "str") (u := .type "str") rfl (n_str T) (by decide +kernel) rfl) pa_nil))) (pe_one (pe_cmpR op_eq (pv 0) (pv 1) (nomark _))))))
      pss_nil)
    (pss_one (ps_ret (pe_and (pe_callB call_isi (by rfl) (n_isinstance T) (by decide +kernel) (pa_cons (pv 0) (pa_cons (pe_bltn (v := .ty "int") (u := .type "int") rfl (n_int T) (by decide +kernel) rfl) pa_nil))) (pe_one (pe_cmpR op_eq (pv 0) (pv 1) (nomark _)))))))))), ?_⟩
    have kH := k H (Frm.refl _ _)
    rcases hA with (⟨b, rfl, rfl⟩ | ⟨z, rfl, rfl⟩ | ⟨i, rfl, rfl⟩ | ⟨rfl, rfl⟩) | ⟨p, q, xs, ys, rfl, rfl, hs, hl, hn, hA⟩
    · refine ⟨_, rfl, _, _, _, _, false, rfl, .ty _, .base (.bl b), kit_ty (by decide +kernel), false, rfl, ?_⟩
      refine ⟨_, rfl, _, _, _, _, false, rfl, .ty _, .base (.bl b), kit_ty (by decide +kernel), false, rfl, ?_⟩
      refine ⟨_, rfl, rfl, _, rfl, ?_⟩
      refine ⟨_, rfl, rfl, _, rfl, ?_⟩
      refine ⟨_, rfl, _, _, _, _, true, rfl, .ty _, .base (.bl b), kit_ty (by decide +kernel), true, rfl, ?_⟩
      refine ⟨_, rfl, _, _, _, _, true, rfl, .ty _, .base (.bl b), kit_ty (by decide +kernel), true, rfl, ?_⟩
      refine ⟨_, rfl, _, _, _, _, true, rfl, .ty _, .base (.bl b), kit_ty (by decide +kernel), true, rfl, ?_⟩
      refine ⟨_, rfl, _, rfl, rfl, ?_⟩
      have e : decide (V.bl b = V.bl b) = true := decide_eq_true rfl
      rw [e]
      exact kH
    · refine ⟨_, rfl, _, _, _, _, false, rfl, .ty _, .base (.str z), kit_ty (by decide +kernel), false, rfl, ?_⟩
      refine ⟨_, rfl, _, _, _, _, false, rfl, .ty _, .base (.str z), kit_ty (by decide +kernel), false, rfl, ?_⟩
      refine ⟨_, rfl, rfl, _, rfl, ?_⟩
      refine ⟨_, rfl, rfl, _, rfl, ?_⟩
      refine ⟨_, rfl, _, _, _, _, false, rfl, .ty _, .base (.str z), kit_ty (by decide +kernel), false, rfl, ?_⟩
      refine ⟨_, rfl, _, _, _, _, false, rfl, .ty _, .base (.str z), kit_ty (by decide +kernel), false, rfl, ?_⟩
      refine ⟨_, rfl, _, _, _, _, true, rfl, .ty _, .base (.str z), kit_ty (by decide +kernel), true, rfl, ?_⟩
      refine ⟨_, rfl, _, _, _, _, true, rfl, .ty _, .base (.str z), kit_ty (by decide +kernel), true, rfl, ?_⟩
      refine ⟨_, rfl, _, rfl, rfl, ?_⟩
      rw [str_dec, decide_eq_true rfl]
      exact kH
    · refine ⟨_, rfl, _, _, _, _, false, rfl, .ty _, .base (.int i), kit_ty (by decide +kernel), false, rfl, ?_⟩
      refine ⟨_, rfl, _, _, _, _, false, rfl, .ty _, .base (.int i), kit_ty (by decide +kernel), false, rfl, ?_⟩
      refine ⟨_, rfl, rfl, _, rfl, ?_⟩
      refine ⟨_, rfl, rfl, _, rfl, ?_⟩
      refine ⟨_, rfl, _, _, _, _, false, rfl, .ty _, .base (.int i), kit_ty (by decide +kernel), false, rfl, ?_⟩
      refine ⟨_, rfl, _, _, _, _, false, rfl, .ty _, .base (.int i), kit_ty (by decide +kernel), false, rfl, ?_⟩
      refine ⟨_, rfl, _, _, _, _, false, rfl, .ty _, .base (.int i), kit_ty (by decide +kernel), false, rfl, ?_⟩
      refine ⟨_, rfl, _, _, _, _, true, rfl, .ty _, .base (.int i), kit_ty (by decide +kernel), true, rfl, ?_⟩
      refine ⟨_, rfl, _, rfl, rfl, ?_⟩
      rw [int_dec, decide_eq_true rfl]
      exact kH
    · refine ⟨_, rfl, _, _, _, _, false, rfl, .ty _, .base .non, kit_ty (by decide +kernel), false, rfl, ?_⟩
      refine ⟨_, rfl, _, _, _, _, false, rfl, .ty _, .base .non, kit_ty (by decide +kernel), false, rfl, ?_⟩
      refine ⟨_, rfl, rfl, _, rfl, ?_⟩
      refine ⟨_, rfl, rfl, _, rfl, _, rfl, rfl, ?_⟩
      exact kH
    · rcases hs with ⟨h1, h2⟩ | ⟨h1, h2⟩
      · refine ⟨_, rfl, _, _, _, _, false, rfl, .ty _, .base (.lst h2), kit_ty (by decide +kernel), false, rfl, ?_⟩
        refine ⟨_, rfl, _, _, _, _, true, rfl, .ty _, .base (.lst h2), kit_ty (by decide +kernel), true, rfl, ?_⟩
        refine ⟨_, rfl, _, _, _, _, false, rfl, .ty _, .base (.lst h1), kit_ty (by decide +kernel), ?_⟩
        refine ⟨_, rfl, _, _, _, _, false, rfl, .ty _, .base (.lst h2), kit_ty (by decide +kernel), rfl, false, rfl, ?_⟩
        refine ⟨_, rfl, by show 2 ≤ sizeLine; decide, fun tp htp => ?_⟩
        have f1 : Frm [] H (upd H tp (.tup [.ty "tuple", .ty "list"])) := Frm.of (same_upd htp)
        have g1 := f1.k _ _ h1 rfl (by simp)
        have g2 := f1.k _ _ h2 rfl (by simp)
        refine ⟨_, tp, _, _, _, true, rfl, upd_same, .cons (.ty _) (.cons (.ty _) .nil), .base (.lst g1), kitAny_cons (b := false) (kit_ty (by decide +kernel)) (fun _ => kitAny_cons (b := true) (kit_ty (by decide +kernel)) (fun z => nomatch z) (fun _ => rfl)) (fun z => nomatch z), true, rfl, ?_⟩
        refine ⟨_, rfl, p, xs, rfl, .inl (SqL.of g1), _, rfl, q, ys, rfl, .inl (SqL.of g2), rfl, false, congrArg V.bl (by rw [hl, decide_eq_true rfl]; rfl), ?_⟩
        refine ⟨_, rfl, q, ys, rfl, .inl (SqL.of g2), _, rfl, by omega, by omega, fun D hD => ?_⟩
        have fD : Frm [] H (upd (upd H tp (.tup [.ty "tuple", .ty "list"])) D (.lst [])) := f1.trans (Frm.of (same_upd hD))
        refine lc_range (lo := 0) (n := ((ys.length : Nat) : Int).toNat) (fun i H' => Frm [] H H' ∧ H' D = some (.lst [])) ⟨fD, upd_same⟩ ?_ ?_
        · rintro i H1 hi ⟨fi, di⟩
          have hi' : i < ys.length := hi
          have hx : xs[i]? = some (xs[i]'(by omega)) := by simp [hl, hi']
          have hy : ys[i]? = some (ys[i]'hi') := by simp [hi']
          have k1 := fi.k _ _ h1 rfl (by simp)
          have k2 := fi.k _ _ h2 rfl (by simp)
          refine ⟨rfl, _, rfl, _, rfl, .inl ⟨p, xs, _, _, rfl, rfl, SqL.of k1, atI_nat' hx, _, rfl, _, rfl, .inl ⟨q, ys, _, _, rfl, rfl, SqL.of k2, atI_nat' hy, _, _, rfl, sA _ _ _ _ (hA i _ _ hx hy) fi, fun H2 f2 => ?_⟩⟩⟩
          refine ⟨true, rfl, fi.trans f2, f2.k _ _ di rfl (by simp)⟩
        · rintro H1 ⟨fi, di⟩
          refine ⟨Nat.zero_le _, fun D2 hD2 => ?_⟩
          refine ⟨_, _, .lst (SqL.of (same_upd hD2 _ _ di)) .nil, .lst (SqL.of upd_same) .nil, by decide +kernel, by decide +kernel, ?_⟩
          exact k _ (fi.trans (Frm.of (same_upd hD2)))
      · refine ⟨_, rfl, _, _, _, _, true, rfl, .ty _, .base (.tup h2), kit_ty (by decide +kernel), true, rfl, ?_⟩
        refine ⟨_, rfl, _, _, _, _, true, rfl, .ty _, .base (.tup h1), kit_ty (by decide +kernel), ?_⟩
        refine ⟨_, rfl, _, _, _, _, true, rfl, .ty _, .base (.tup h2), kit_ty (by decide +kernel), rfl, false, rfl, ?_⟩
        refine ⟨_, rfl, by show 2 ≤ sizeLine; decide, fun tp htp => ?_⟩
        have f1 : Frm [] H (upd H tp (.tup [.ty "tuple", .ty "list"])) := Frm.of (same_upd htp)
        have g1 := f1.k _ _ h1 rfl (by simp)
        have g2 := f1.k _ _ h2 rfl (by simp)
        refine ⟨_, tp, _, _, _, true, rfl, upd_same, .cons (.ty _) (.cons (.ty _) .nil), .base (.tup g1), kitAny_cons (b := true) (kit_ty (by decide +kernel)) (fun z => nomatch z) (fun _ => rfl), true, rfl, ?_⟩
        refine ⟨_, rfl, p, xs, rfl, .inr (SqT.of g1), _, rfl, q, ys, rfl, .inr (SqT.of g2), rfl, false, congrArg V.bl (by rw [hl, decide_eq_true rfl]; rfl), ?_⟩
        refine ⟨_, rfl, q, ys, rfl, .inr (SqT.of g2), _, rfl, by omega, by omega, fun D hD => ?_⟩
        have fD : Frm [] H (upd (upd H tp (.tup [.ty "tuple", .ty "list"])) D (.lst [])) := f1.trans (Frm.of (same_upd hD))
        refine lc_range (lo := 0) (n := ((ys.length : Nat) : Int).toNat) (fun i H' => Frm [] H H' ∧ H' D = some (.lst [])) ⟨fD, upd_same⟩ ?_ ?_
        · rintro i H1 hi ⟨fi, di⟩
          have hi' : i < ys.length := hi
          have hx : xs[i]? = some (xs[i]'(by omega)) := by simp [hl, hi']
          have hy : ys[i]? = some (ys[i]'hi') := by simp [hi']
          have k1 := fi.k _ _ h1 rfl (by simp)
          have k2 := fi.k _ _ h2 rfl (by simp)
          refine ⟨rfl, _, rfl, _, rfl, .inr (.inl ⟨p, xs, _, _, rfl, rfl, SqT.of k1, atI_nat' hx, _, rfl, _, rfl, .inr (.inl ⟨q, ys, _, _, rfl, rfl, SqT.of k2, atI_nat' hy, _, _, rfl, sA _ _ _ _ (hA i _ _ hx hy) fi, fun H2 f2 => ?_⟩)⟩)⟩
          refine ⟨true, rfl, fi.trans f2, f2.k _ _ di rfl (by simp)⟩
        · rintro H1 ⟨fi, di⟩
          refine ⟨Nat.zero_le _, fun D2 hD2 => ?_⟩
          refine ⟨_, _, .lst (SqL.of (same_upd hD2 _ _ di)) .nil, .lst (SqL.of upd_same) .nil, by decide +kernel, by decide +kernel, ?_⟩
          exact k _ (fi.trans (Frm.of (same_upd hD2)))
end
end B

set_option Elab.async false
set_option linter.all false
set_option maxRecDepth 100000
set_option maxHeartbeats 4000000
namespace B
open PySem PySem.Spec PyProof.Rows L2
open SX (S)
/-! ### the classes' words -/
section
variable {P : Program} {w : World} {K : PySem.W.Frag} {mg : Str → Option Value} {base : Heap}
theorem exc_all {c : Str} (h : excC K c = true) (hs : PySem.W.subIn K (.ref (He.ga K c)) (.type "BaseException") = some true) : ExcC K (He.ga K c) ∧ PySem.W.kitOne K (.ref (He.ga K c)) (.type "ValueError") = some true := by
  unfold excC at h
  obtain ⟨h, h8⟩ := He.ba h
  obtain ⟨h, h7⟩ := He.ba h
  obtain ⟨h, h6⟩ := He.ba h
  obtain ⟨h, h5⟩ := He.ba h
  obtain ⟨h, h4⟩ := He.ba h
  obtain ⟨h, h3⟩ := He.ba h
  obtain ⟨h1, h2⟩ := He.ba h
  exact ⟨⟨He.eqO_ok h1, He.eqO_ok h2, hs, h3, He.eqO_ok h4, of_decide_eq_true h5, of_decide_eq_true h6, of_decide_eq_true h7⟩, of_decide_eq_true h8⟩
theorem kit_all {c : Str} {n : Nat} (hc : allErr[n]? = some c) (h : (allErr.all fun d => kitC K c d (decide (c = d))) = true) (i : Nat) (d : Str) (hd : allErr[i]? = some d) : PySem.W.kitOne K (.ref (He.ga K c)) (.ref (He.ga K d)) = some (decide (i = n)) := by
  have q := of_decide_eq_true (List.all_eq_true.mp h d (List.mem_of_getElem? hd))
  rw [q]
  have hn := (List.getElem?_eq_some_iff.mp hc).1
  have hi := (List.getElem?_eq_some_iff.mp hd).1
  have z : (List.range 15).all (fun i => (List.range 15).all fun n => decide (allErr[n]? = allErr[i]?) == decide (i = n)) = true := by decide +kernel
  have z1 := beq_iff_eq.mp (List.all_eq_true.mp (List.all_eq_true.mp z i (List.mem_range.mpr hi)) n (List.mem_range.mpr hn))
  rw [hc, hd] at z1
  have e : decide (c = d) = decide (some c = some d) := by
    by_cases q : c = d
    · rw [decide_eq_true q, decide_eq_true (by rw [q])]
    · rw [decide_eq_false q, decide_eq_false (fun z => q (Option.some.inj z))]
  rw [e, z1]
theorem word_of (T : Txt P w K mg base) {c wd : Str} {n : Nat} (hr : c ∈ raised) (hs : PySem.W.subIn K (.ref (He.ga K c)) (.type "BaseException") = some true) (hm : PySem.W.exmOne K (.ref (He.ga K c)) (.ref (He.ga K "BusError")) = some true) (hn : n < 15) (hc : allErr[n]? = some c) (hw : wordsV[n]? = some wd)
    (ne : inV (.str wd) [V.str "looks", V.str "step"] = false ∧ decide (V.str wd = V.str "text") = false) : WordC K (.ref (He.ga K c)) n wd := by
  obtain ⟨h1, h2⟩ := He.ba (List.all_eq_true.mp (ex_exc T) c hr)
  obtain ⟨e1, e2⟩ := exc_all h1 hs
  exact ⟨⟨_, rfl, e1, kit_all hc h2, e2, hm⟩, hn, hw, ne⟩
end
end B

set_option Elab.async false
set_option linter.all false
set_option maxRecDepth 100000
set_option maxHeartbeats 4000000
namespace B
open PySem PySem.Spec PyProof.Rows L2
open SX (S)
section
variable {P : Program} {w : World} {K : PySem.W.Frag} {mg : Str → Option Value} {base : Heap}
/-- the word of a class of ours -/
theorem wordK_of (T : Txt P w K mg base) {c wd : Str} {n : Nat} (hr : c ∈ raised) (hs : PySem.W.subIn K (.ref (He.ga K c)) (.type "BaseException") = some true) (hm : PySem.W.exmOne K (.ref (He.ga K c)) (.ref (He.ga K "BusError")) = some true) (hn : n < 15) (hc : allErr[n]? = some c) (hw : wordsV[n]? = some wd) : WordK K (He.ga K c) n wd := by
  obtain ⟨h1, h2⟩ := He.ba (List.all_eq_true.mp (ex_exc T) c hr)
  obtain ⟨e1, e2⟩ := exc_all h1 hs
  exact ⟨e1, kit_all hc h2, e2, hm, hn, hw⟩
/-- what a refusal with a number tells: a tuple -/
def TupAt (wd : Str) (i : Int) (H : Hp) (Q : VK) : Prop := ∀ (p : Addr) (H' : Hp), Frm [] H H' → H' p = some (.tup [.str wd, .int i]) → Q (.ref p) H'
theorem refd_BadText (T : Txt P w K mg base) {d : Addr} {i : Int} {H : Hp} {Q : VK} (h : H d = some (.xd [("row", .int i)])) (k : TupAt "text" i H Q) : Refd K (.ref (He.ga K "BadText")) (some d) H Q := by
  obtain ⟨Sc, _⟩ := c_BadText T
  exact ⟨_, 14, "text", rfl, wordK_of T (by decide) Sc.T.exC (He.exm_ok (T.t.fact 46)) (by decide) rfl rfl, .inr ⟨d, _, _, rfl, h, .inr ⟨by decide +kernel, by decide +kernel, Sc.fld, rfl⟩, fun p H3 f _ e => k p H3 f e⟩⟩
end
end B

set_option Elab.async false
set_option linter.all false
set_option maxRecDepth 100000
set_option maxHeartbeats 4000000
namespace B
open PySem PySem.Spec PyProof.Rows L2
open SX (S)
/-! ### small things -/
theorem atZ {α : Type} {zs : List (Addr × α)} {i : Nat} {y : V} (h : (zs.map fun z => V.ref z.1)[i]? = some y) : ∃ z, zs[i]? = some z ∧ y = .ref z.1 := by
  rw [List.getElem?_map] at h
  cases e : zs[i]? with
  | none => rw [e] at h; cases h
  | some z => rw [e] at h; exact ⟨z, rfl, (Option.some.inj h).symm⟩
theorem szL {n : Nat} (h : n ≤ 1000000) : n ≤ sizeLine := Nat.le_trans h (by decide)
theorem szLt {n : Nat} (h : n ≤ 1000000) : n < sizeLine := Nat.lt_of_le_of_lt h (by decide)
/-- a row tells so and so often: for i, x in enumerate(list) -/
theorem forE {K : PySem.W.Frag} {a : Addr} {xs : List V} {g : TG} {tb : TS} {D : Ends} {σ : L2.St} {H : Hp} (Pv : Nat → L2.St → Hp → Prop) (h0 : Pv 0 σ H) (hL : ∀ (i : Nat) (σ : L2.St) (H : Hp), i ≤ xs.length → Pv i σ H → SqL K H a xs)
    (hs : ∀ (i : Nat) (x : V) (T : Addr) (σ : L2.St) (H : Hp), xs[i]? = some x → Pv i σ H → H T = none → g (.ref T) σ (upd H T (.tup [.int i, x])) fun σ2 H2 => tb { nx := Pv (i + 1), rt := D.rt, bk := D.nx, ct := Pv (i + 1) } σ2 H2)
    (hd : ∀ (σ : L2.St) (H : Hp), Pv xs.length σ H → D.nx σ H) : ∃ W : Nat → Nat → L2.St → Hp → Prop, (∃ m, W 0 m σ H) ∧ ∀ (i m : Nat) (σ : L2.St) (H : Hp), W i m σ H →
      (Ite K a).stop i H ∧ D.nx σ H ∨ (Ite K a).go i H ∧ ∃ N : L2.St → Hp → Prop, (∀ (σ' : L2.St) (H' : Hp), N σ' H' → ∃ m', m' < m ∧ W (i + 1) m' σ' H') ∧
        ∀ (x : V) (H' : Hp), (Ite K a).yld i H x H' → g x σ H' fun σ2 H2 => tb { nx := N, rt := D.rt, bk := D.nx, ct := N } σ2 H2 := by
  refine ⟨fun i m σ H => i + m = xs.length ∧ Pv i σ H, ⟨xs.length, by omega, h0⟩, fun i m σ H ⟨e, p⟩ => ?_⟩
  have L := hL i σ H (by omega) p
  rcases Nat.lt_or_ge i xs.length with h | h
  · refine .inr ⟨⟨xs, xs[i], L, List.getElem?_eq_getElem h⟩, Pv (i + 1), fun σ' H' p' => ⟨m - 1, by omega, by omega, p'⟩, fun x H' ⟨T, y, e1, e2, e3, e4⟩ => ?_⟩
    subst e1 e3
    exact hs i y T σ H (e4 xs L) p e2
  · obtain rfl : i = xs.length := by omega
    exact .inl ⟨⟨xs, L, Nat.le_refl _⟩, hd _ _ p⟩
section
variable {X : Cx} {K : PySem.W.Frag}
theorem pe_joinK {o e : Expr} {to te : TE} {apos pos : Pos} (hK : X.K = K) (ho : PE X o to) (he : PE X e te) (hs : starEach [e] X.env = [(false, eval e X.env)] := by rfl) (hbase : attributeBase o "join" X.env (eval o X.env) = eval o X.env := by rfl) (hline : (apos.endLine == pos.line) = true := by rfl) :
    PE X (.Call (.Attribute o "join" apos) [e] [] pos) (tM1 (fun x xs H Q => ∃ a p, ∃ ys : List Str, x = .str a ∧ xs = [.ref p] ∧ (SqL K H p (ys.map V.str) ∨ SqT K H p (ys.map V.str)) ∧
      (ys.map (·.length)).sum + ys.length * a.length ≤ 16777216 ∧ Q (.str (Txt.join a ys)) H) to te) := by
  subst hK
  exact pe_join ho he hs hbase hline
end
/-- rows: a list of tuples of texts -/
def RZ (H : Hp) (p : Addr) (zs : List (Addr × List Str)) : Prop := H p = some (.lst (zs.map fun z => V.ref z.1)) ∧ ∀ z ∈ zs, H z.1 = some (.tup (z.2.map V.str))
theorem RZ.keep {K : PySem.W.Frag} {H H' : Hp} {p : Addr} {zs : List (Addr × List Str)} {T : List Addr} (h : RZ H p zs) (f : FrT K T H H') (hp : p ∉ T) (hz : ∀ z ∈ zs, z.1 ∉ T) : RZ H' p zs := ⟨f.k _ _ h.1 rfl hp, fun z m => f.k _ _ (h.2 z m) rfl (hz z m)⟩
theorem RZ.keep0 {K : PySem.W.Frag} {H H' : Hp} {p : Addr} {zs : List (Addr × List Str)} (h : RZ H p zs) (f : FrT K [] H H') : RZ H' p zs := h.keep f (by simp) (fun _ _ => by simp)
end B

set_option Elab.async false
set_option linter.all false
set_option maxRecDepth 100000
set_option maxHeartbeats 4000000
namespace B
open PySem PySem.Spec PyProof.Rows L2
open SX (S)
section
variable {X : Cx}
theorem g_MOST_STEPS (T : Txt X.prog X.w X.K X.mg X.base) {p : Pos} (hg : Gl X "MOST_STEPS" := by rfl) : PE X (.Name "MOST_STEPS" p) (tC (.int 200)) := by
  obtain ⟨t, e⟩ := He.int_ok T.X T.G (T.t.fact 30 (f := .int "MOST_STEPS" 200))
  exact pe_glob hg e ⟨t, rfl⟩
theorem g_WORDS_ALONE (T : Txt X.prog X.w X.K X.mg X.base) {p : Pos} (hg : Gl X "WORDS_ALONE" := by rfl) : PE X (.Name "WORDS_ALONE" p) (tC (.ref (He.ga X.K "WORDS_ALONE"))) :=
  pe_glob hg (He.glo_ok T.X T.G (T.t.fact 32)) rfl
theorem g_WORDS_OF_THINGS (T : Txt X.prog X.w X.K X.mg X.base) {p : Pos} (hg : Gl X "WORDS_OF_THINGS" := by rfl) : PE X (.Name "WORDS_OF_THINGS" p) (tC (.ref (He.ga X.K "WORDS_OF_THINGS"))) :=
  pe_glob hg (He.glo_ok T.X T.G (T.t.fact 33)) rfl
end
theorem tup_KQ {K : PySem.W.Frag} {x : Str} {vs : List V} (h : tupB K x vs = true) (hl : vs.length ≤ sizeLine) (H : Hp) : SqT K H (He.ga K x) vs := by
  unfold tupB at h
  split at h
  · rename_i t dd its n sl e
    obtain ⟨h1, h2⟩ := He.ba h
    have e1 : t = "tuple" := of_decide_eq_true h1
    subst e1
    have rl := He.relAll_ok h2
    refine .inr ⟨_, its, n, e, rfl, rfl, ?_, rl⟩
    have z : vs.length = its.toList.length := Paired.length rl
    have y : its.toList.length = its.size := by simp
    omega
  · cases h
/-- all signs 0 or 1 -/
def bitsB (x : Str) : Bool := x.cps.toList.all (fun c => decide (c ∈ ("01" : Str).cps.toList))
def someB (x : Str) : Bool := (decide (1 ≤ x.length) && decide (x.length ≤ 12)) && bitsB x
def aloneV : List Str := ["step", "round", "turn", "refresh"]
def thingV : List Str := ["hang", "off", "alarm", "calm"]
def kindV : List Str := ["all", "alarm"]
def stepB : List Str → Bool
  | [w] => inV (.str w) (aloneV.map V.str)
  | [w, x] => if w = "walk" then inV (.str x) (kindV.map V.str) else inV (.str w) (thingV.map V.str) && someB x
  | _ => false
section
variable {P : Program} {w : World} {K : PySem.W.Frag} {mg : Str → Option Value} {base : Heap}
theorem num_genQ : pd_is_number ∈ gens := by decide +kernel
def spIsNumQ (K : PySem.W.Frag) : Sp := fun vs H Q _ => ∃ (n : Nat) (x : Str), vs = [.int n, .str x] ∧ x.length = n ∧ n ≤ 1000000 ∧ Tb K H ∧ ∀ H', FrT K [] H H' → Q (.bl (bitsB x)) H'
theorem c_isnumQ (T : Txt P w K mg base) : CalX CX0 P w K mg base 1 "is_number" (spIsNumQ K) := by
  obtain ⟨fd, F⟩ := T.t.def_ 0 (d := d_is_number)
  refine ⟨_, fd, _, okT (p := pd_is_number) F sc_is_number (fun vs H Q E h => ?_) (fun A outer s H vs Q E hr h => ?_), He.glo_ok T.X T.G (T.t.fact 0), F.kp, F.bindsN fun _ _ _ _ _ _ us hl => match us, hl with | [_, _], _ => rfl⟩
  · obtain ⟨n, x, rfl, _⟩ := h
    rfl
  · obtain ⟨n, x, rfl, rfl, hn, ht, k⟩ := h
    refine ⟨_, PSs.nox (pss_cons (ps_if (PW.pt (pw_or (pt_not (pt_val (pe_callB call_isi (by rfl) (n_isinstance T) (by decide +kernel) (pa_cons (pv 1) (pa_cons (pe_bltn (v := .ty "str") (u := .type "str") rfl (n_str T) (by decide +kernel) rfl) pa_nil))))) (pw_or1 (pt_cmpR op_ne (pe_callB call_len_str (by rfl) (n_len T) PySem.boot_len (pa_cons (pv 1) pa_nil)) (pv 0) (nomark _)))))
      (pss_one (ps_ret pe_bl))
      pss_nil)
    (pss_one (ps_ret (GxR.pe_allS hr rfl (n_all T) (by decide +kernel) (tb_g T (p := pd_is_number) (by decide +kernel)) rfl (gens_by (by decide +kernel)) (pv 1) (elt_in rfl rfl) (fun _ => rfl))))), ?_⟩
    refine ⟨_, rfl, .str x, .ty "str", .type "str", .type "str", true, rfl, .ty "str", .base (.str x), kit_ty (by decide +kernel), true, rfl, ?_⟩
    refine ⟨_, rfl, x, rfl, szL hn, _, rfl, rfl, _, rfl, ?_⟩
    rw [decide_eq_true rfl]
    refine ⟨_, rfl, x, rfl, ht.1 _ num_genQ, fun H2 hT => ?_⟩
    exact k H2 (tb_gen T num_genQ ht hT).1
def spSome (K : PySem.W.Frag) : Sp := fun vs H Q _ => ∃ x : Str, vs = [.str x] ∧ x.length ≤ 1000000 ∧ Tb K H ∧ ∀ H', FrT K [] H H' → Q (.bl (someB x)) H'
theorem c_is_some_number (T : Txt P w K mg base) : CalX CX0 P w K mg base 2 "is_some_number" (spSome K) := by
  obtain ⟨fd, F⟩ := T.t.def_ 2 (d := d_is_some_number)
  refine ⟨_, fd, _, F.ok sc_is_some_number (fun vs H Q E h => ?_) (fun cdv A outer s H vs Q E hr h => ?_), He.glo_ok T.X T.G (T.t.fact 2), F.kp, F.bindsN fun _ _ _ _ _ _ us hl => match us, hl with | [_], _ => rfl⟩
  · obtain ⟨x, rfl, _⟩ := h
    rfl
  · obtain ⟨x, rfl, hn, ht, k⟩ := h
    refine ⟨_, PSs.nox (pss_cons (ps_if (PW.pt (pw_or (pt_not (pt_val (pe_callB call_isi (by rfl) (n_isinstance T) (by decide +kernel) (pa_cons (pv 0) (pa_cons (pe_bltn (v := .ty "str") (u := .type "str") rfl (n_str T) (by decide +kernel) rfl) pa_nil))))) (pw_or1 (pt_not (pt_chain op_le op_le (g_LEAST_WIDTH T) (pe_callB call_len_str (by rfl) (n_len T) PySem.boot_len (pa_cons (pv 0) pa_nil)) (g_GREATEST_WIDTH T))))))
      (pss_one (ps_ret pe_bl))
      pss_nil)
    (pss_one (ps_ret (pe_cx (c_isnumQ T) hr (by decide) rfl pass0 (pa_cons (pe_callB call_len_str (by rfl) (n_len T) PySem.boot_len (pa_cons (pv 0) pa_nil)) (pa_cons (pv 0) pa_nil)))))), ?_⟩
    refine ⟨_, rfl, .str x, .ty "str", .type "str", .type "str", true, rfl, .ty "str", .base (.str x), kit_ty (by decide +kernel), true, rfl, ?_⟩
    unfold someB at k
    refine ⟨_, rfl, x, rfl, szL hn, 1, x.length, rfl, rfl, _, rfl, ?_⟩
    have e1 : decide (1 ≤ x.length) = decide ((1 : Int) ≤ (x.length : Int)) := by rw [decide_eq_decide]; omega
    have e2 : decide (x.length ≤ 12) = decide ((x.length : Int) ≤ 12) := by rw [decide_eq_decide]; omega
    rw [e1, e2] at k
    refine iteB (fun c => ?_) (fun c => ?_)
    · rw [c] at k
      refine ⟨x.length, 12, rfl, rfl, _, rfl, ?_⟩
      refine iteB (fun c2 => ?_) (fun c2 => ?_)
      · rw [Bool.not_eq_true'] at c2
        rw [c2] at k
        exact k H (FrT.refl _ _ _)
      · rw [Bool.not_eq_false'] at c2
        rw [c2] at k
        refine ⟨_, rfl, x, rfl, szL hn, ?_⟩
        exact ⟨_, rfl, x.length, x, rfl, rfl, hn, ht, k⟩
    · rw [c] at k
      exact ⟨_, rfl, k H (FrT.refl _ _ _)⟩
def spStep1 (K : PySem.W.Frag) : Sp := fun vs H Q _ => ∃ (p : Addr) (xs : List Str), vs = [.ref p] ∧ H p = some (.tup (xs.map V.str)) ∧ (∀ x ∈ xs, x.length ≤ 1000000) ∧ Tb K H ∧ ∀ H', FrT K [] H H' → Q (.bl (stepB xs)) H'
theorem c_is_step (T : Txt P w K mg base) : CalX CX0 P w K mg base 3 "is_step" (spStep1 K) := by
  obtain ⟨fd, F⟩ := T.t.def_ 1 (d := d_is_step)
  refine ⟨_, fd, _, F.ok sc_is_step (fun vs H Q E h => ?_) (fun cdv A outer s H vs Q E hr h => ?_), He.glo_ok T.X T.G (T.t.fact 1), F.kp, F.bindsN fun _ _ _ _ _ _ us hl => match us, hl with | [_], _ => rfl⟩
  · obtain ⟨p, xs, rfl, _⟩ := h
    rfl
  · obtain ⟨p, xs, rfl, hp, hx, ht, k⟩ := h
    refine ⟨_, PSs.nox (pss_cons (ps_if (pt_cmpR op_eq (pe_callB call_len_seq (by rfl) (n_len T) PySem.boot_len (pa_cons (pv 0) pa_nil)) pe_int (nomark _))
      (pss_one (ps_ret (pe_cmpR op_in_seq (pe_ix ix_tup (pv 0) pe_int (fun _ _ => rfl)) (g_WORDS_ALONE T) rfl)))
      pss_nil)
    (pss_cons (ps_if (pt_cmpR op_ne (pe_callB call_len_seq (by rfl) (n_len T) PySem.boot_len (pa_cons (pv 0) pa_nil)) pe_int (nomark _))
      (pss_one (ps_ret pe_bl))
      pss_nil)
    (pss_cons (ps_asg (pv 0) (pg_tup rfl (pgs_cons (pg_name (i := 1) sc_is_step.nd rfl (Or.inl rfl)) (pgs_cons (pg_name (i := 2) sc_is_step.nd rfl (Or.inl rfl)) pgs_nil))))
    (pss_cons (ps_if (pt_cmpR op_eq (pv 1) pe_str (nomark _))
      (pss_one (ps_ret (pe_cmpR op_in_seq (pv 2) (g_KINDS T) rfl)))
      pss_nil)
    (pss_one (ps_ret (pe_and (pe_cmpR op_in_seq (pv 1) (g_WORDS_OF_THINGS T) rfl) (pe_one (pe_cx (c_is_some_number T) hr (by decide) rfl pass0 (pa_cons (pv 2) pa_nil)))))))))), ?_⟩
    have kH := k H (FrT.refl _ _ _)
    refine ⟨_, rfl, p, _, rfl, .inr (SqT.of hp), rfl, _, rfl, ?_⟩
    rw [int_dec]
    match xs, hp, hx, k, kH with
    | [], hp, hx, k, kH =>
      refine ⟨_, rfl, p, _, rfl, .inr (SqT.of hp), rfl, _, rfl, ?_⟩
      exact kH
    | [a], hp, hx, k, kH =>
      rw [decide_eq_true (by rfl)]
      refine ⟨_, rfl, p, _, 0, .str a, rfl, rfl, SqT.of hp, rfl, ?_⟩
      refine ⟨_, _, rfl, .inr (tup_KQ (xc_WORDS_ALONE T) (by show 4 ≤ sizeLine; decide) H), rfl, rfl, ?_⟩
      exact kH
    | [a, b], hp, hx, k, kH =>
      rw [decide_eq_false (show ¬ ((([a, b].map V.str).length : Nat) : Int) = 1 from (by decide : ¬ ((2 : Nat) : Int) = 1))]
      refine ⟨_, rfl, p, _, rfl, .inr (SqT.of hp), rfl, _, rfl, ?_⟩
      refine ⟨_, rfl, p, _, rfl, SqT.of hp, rfl, _, _, rfl, _, _, rfl, rfl, ?_⟩
      refine ⟨_, rfl, rfl, _, rfl, ?_⟩
      rw [str_dec]
      have es : stepB [a, b] = if a = "walk" then inV (.str b) (kindV.map V.str) else inV (.str a) (thingV.map V.str) && someB b := rfl
      rw [es] at k
      refine iteB (fun c => ?_) (fun c => ?_)
      · rw [if_pos (of_decide_eq_true c)] at k
        refine ⟨_, rfl, _, _, rfl, .inr (tup_KQ (xc_KINDS T) (by show 2 ≤ sizeLine; decide) H), rfl, rfl, ?_⟩
        exact k H (FrT.refl _ _ _)
      · rw [if_neg (of_decide_eq_false c)] at k
        refine ⟨_, rfl, _, _, rfl, .inr (tup_KQ (xc_WORDS_OF_THINGS T) (by show 4 ≤ sizeLine; decide) H), rfl, rfl, ?_⟩
        refine ⟨inV (.str a) (thingV.map V.str), rfl, iteB (fun c2 => ?_) (fun c2 => ?_)⟩
        · rw [c2] at k
          exact ⟨_, rfl, b, rfl, hx b (by simp), ht, k⟩
        · rw [c2] at k
          exact k H (FrT.refl _ _ _)
    | a :: b :: c :: r, hp, hx, k, kH =>
      rw [decide_eq_false (show ¬ ((((a :: b :: c :: r).map V.str).length : Nat) : Int) = 1 by rw [List.length_map, List.length_cons, List.length_cons, List.length_cons]; omega)]
      refine ⟨_, rfl, p, _, rfl, .inr (SqT.of hp), rfl, _, rfl, ?_⟩
      rw [int_dec, decide_eq_false (show ¬ ((((a :: b :: c :: r).map V.str).length : Nat) : Int) = 2 by rw [List.length_map, List.length_cons, List.length_cons, List.length_cons]; omega)]
      exact kH
end
end B

set_option Elab.async false
set_option linter.all false
set_option maxRecDepth 100000
set_option maxHeartbeats 4000000
namespace B
open PySem PySem.Spec PyProof.Rows L2
open SX (S)
/-- the i-th row can't be -/
def badB (i : Nat) (xs : List Str) : Bool := decide (i = 200) || !stepB xs
/-- the first row that can't be -/
def FstBad (rs : List (List Str)) (i : Nat) : Prop := (∃ x, rs[i]? = some x ∧ badB i x = true) ∧ ∀ j y, j < i → rs[j]? = some y → badB j y = false
def NoBad (rs : List (List Str)) : Prop := ∀ i x, rs[i]? = some x → badB i x = false
theorem FstBad.le {rs : List (List Str)} {i : Nat} (h : FstBad rs i) : i ≤ 200 := by
  obtain ⟨⟨x, hx, _⟩, h2⟩ := h
  rcases Nat.lt_or_ge 200 i with z | z
  · have hi := (List.getElem?_eq_some_iff.mp hx).1
    have q := h2 200 rs[200] z (List.getElem?_eq_getElem (by omega))
    unfold badB at q
    rw [decide_eq_true rfl] at q
    cases q
  · exact z
theorem NoBad.le {rs : List (List Str)} (h : NoBad rs) : rs.length ≤ 200 := by
  rcases Nat.lt_or_ge 200 rs.length with z | z
  · have q := h 200 rs[200] (List.getElem?_eq_getElem z)
    unfold badB at q
    rw [decide_eq_true rfl] at q
    cases q
  · exact z
section
variable {P : Program} {w : World} {K : PySem.W.Frag} {mg : Str → Option Value} {base : Heap}
/-- what a refusal of a step leaves -/
def ErrS (K : PySem.W.Frag) (C fld : Str) (i : Nat) (H : Hp) (E : XK) : Prop := ∀ (d : Addr) (H' : Hp), FrT K [] H H' → H' d = some (.xd [(fld, .int i)]) → E (.ref (He.ga K C)) (some d) H'
def spReqSteps (K : PySem.W.Frag) : Sp := fun vs H Q E => ∃ (p : Addr) (zs : List (Addr × List Str)), vs = [.ref p] ∧ RZ H p zs ∧ (∀ z ∈ zs, ∀ x ∈ z.2, x.length ≤ 1000000) ∧ Tb K H ∧
  (NoBad (zs.map (·.2)) → ∀ H', FrT K [] H H' → Q .non H') ∧ ∀ i, FstBad (zs.map (·.2)) i → ErrS K "BadStep" "number" i H E
end
end B

set_option Elab.async false
set_option linter.all false
set_option maxRecDepth 100000
set_option maxHeartbeats 4000000
namespace B
open PySem PySem.Spec PyProof.Rows L2
open SX (S)
open TL (tl joinL spl)
/-! ### rows as texts: joined, split -/
theorem inS (x : Str) (xs : List Str) : inV (V.str x) (xs.map V.str) = decide (x ∈ xs) := by
  unfold inV
  induction xs with
  | nil => rfl
  | cons y r ih =>
    rw [List.map_cons, List.any_cons, ih]
    show (decide (y = x) || _) = _
    by_cases h : y = x
    · subst h
      rw [decide_eq_true rfl, Bool.true_or]
      exact (decide_eq_true List.mem_cons_self).symm
    · rw [decide_eq_false h, Bool.false_or, decide_eq_decide, List.mem_cons]
      constructor
      · exact .inr
      · rintro (z | z)
        · exact absurd z.symm h
        · exact z
theorem joinL_len (S : List Nat) : ∀ ps : List (List Nat), (joinL S ps).length ≤ (ps.map (·.length)).sum + ps.length * S.length
  | [] => Nat.zero_le _
  | [p] => by
    show p.length ≤ (p.length + 0) + 1 * S.length
    omega
  | p :: q :: r => by
    have ih := joinL_len S (q :: r)
    show (p ++ (S ++ joinL S (q :: r))).length ≤ _
    rw [List.length_append, List.length_append, List.map_cons, List.sum_cons, List.length_cons, Nat.add_mul]
    omega
theorem joinL_snoc (S : List Nat) : ∀ (ps : List (List Nat)) (p : List Nat), joinL S (ps ++ [p]) = if ps = [] then p else joinL S ps ++ (S ++ p)
  | [], p => rfl
  | [q], p => by
    rw [if_neg (by simp)]
    rfl
  | q :: z :: r, p => by
    rw [if_neg (by simp)]
    show q ++ (S ++ joinL S (z :: r ++ [p])) = (q ++ (S ++ joinL S (z :: r))) ++ (S ++ p)
    rw [joinL_snoc S (z :: r) p, if_neg (by simp)]
    simp [List.append_assoc]
theorem join_len (y : Str) (ps : List Str) : (Txt.join y ps).length ≤ (ps.map (·.length)).sum + ps.length * y.length := by
  rw [TL.len_tl, TL.join_eq, TL.tl_join, TL.len_tl y]
  have h := joinL_len (tl y) (ps.map tl)
  rw [List.map_map, List.length_map] at h
  have e : ps.map ((·.length) ∘ tl) = ps.map (·.length) := List.map_congr_left fun x _ => (TL.len_tl x).symm
  rw [e] at h
  exact h
theorem join_snoc (y : Str) (ps : List Str) (p : Str) : Txt.join y (ps ++ [p]) = if ps = [] then p else Txt.join y ps ++ y ++ p := by
  refine TL.ext_tl ?_
  rw [TL.join_eq, TL.tl_join, List.map_append, List.map_singleton, joinL_snoc]
  by_cases h : ps = []
  · rw [if_pos h, if_pos (by rw [h]; rfl)]
  · rw [if_neg h, if_neg (fun z => h (List.map_eq_nil_iff.mp z)), TL.tl_append, TL.tl_append, TL.join_eq, TL.tl_join, List.append_assoc]
theorem spl_le (S : List Nat) : ∀ (l : List Nat) (k : Nat) (acc : List Nat), ∀ p ∈ spl S k acc l, p.length ≤ acc.length + l.length
  | [], k, acc, p, h => by
    rw [TL.spl_nil, List.mem_singleton] at h
    rw [h]
    omega
  | c :: r, 0, acc, p, h => by
    cases e : TL.pre S (c :: r) with
    | true =>
      rw [TL.spl_hit e, List.mem_cons] at h
      rcases h with rfl | h
      · omega
      · have := spl_le S r (S.length - 1) [] p h
        rw [List.length_nil] at this
        rw [List.length_cons]
        omega
    | false =>
      rw [TL.spl_miss e] at h
      have := spl_le S r 0 (acc ++ [c]) p h
      rw [List.length_append, List.length_singleton] at this
      rw [List.length_cons]
      omega
  | c :: r, k + 1, acc, p, h => by
    have h' : p ∈ spl S k acc r := h
    have := spl_le S r k acc p h'
    rw [List.length_cons]
    omega
theorem spl_cnt (S : List Nat) : ∀ (l : List Nat) (k : Nat) (acc : List Nat), (spl S k acc l).length ≤ l.length + 1
  | [], k, acc => by
    rw [TL.spl_nil]
    exact Nat.le_refl 1
  | c :: r, 0, acc => by
    cases e : TL.pre S (c :: r) with
    | true =>
      rw [TL.spl_hit e, List.length_cons, List.length_cons]
      have := spl_cnt S r (S.length - 1) []
      omega
    | false =>
      rw [TL.spl_miss e, List.length_cons]
      have := spl_cnt S r 0 (acc ++ [c])
      omega
  | c :: r, k + 1, acc => by
    have := spl_cnt S r k acc
    rw [List.length_cons]
    show (spl S k acc r).length ≤ _
    omega
theorem tl_blank : tl (" " : Str) = [32] := by decide +kernel
theorem tl_nl : tl ("\n" : Str) = [10] := by decide +kernel
theorem split_le {a b : Str} {s : Nat} (hb : tl b = [s]) (hk : b.cps.all (· < 256) = true) : ∀ p ∈ Txt.split a b, p.length ≤ a.length := fun p hp => by
  have e := TL.split_spl a b (by rw [hb]; simp) (TL.kind_ok hk)
  have h : tl p ∈ spl (tl b) 0 [] (tl a) := by
    rw [← e]
    exact List.mem_map.mpr ⟨p, hp, rfl⟩
  have := spl_le (tl b) (tl a) 0 [] _ h
  rw [TL.len_tl, TL.len_tl a]
  simpa using this
theorem split_cnt {a b : Str} {s : Nat} (hb : tl b = [s]) (hk : b.cps.all (· < 256) = true) : (Txt.split a b).length ≤ a.length + 1 := by
  have e := congrArg List.length (TL.split_spl a b (by rw [hb]; simp) (TL.kind_ok hk))
  rw [List.length_map] at e
  rw [e, TL.len_tl]
  exact spl_cnt _ _ _ _
/-- a row, and rows, as a text -/
def rowS (r : List Str) : Str := Txt.join " " r
def textR (rs : List (List Str)) : Str := Txt.join "\n" (rs.map rowS)
/-- the rows of a text -/
def linesT (t : Str) : List Str := if t.length = 0 then [] else Txt.split t "\n"
def rowsT (t : Str) : List (List Str) := (linesT t).map fun l => Txt.split l " "
theorem step_words {r : List Str} (h : stepB r = true) : r ≠ [] ∧ r.length ≤ 2 ∧ ∀ x ∈ r, x.length ≤ 12 ∧ 32 ∉ tl x ∧ 10 ∉ tl x ∧ x.length ≠ 0 := by
  have cA : ∀ x ∈ aloneV ++ thingV ++ kindV ++ [("walk" : Str)], x.length ≤ 12 ∧ 32 ∉ tl x ∧ 10 ∉ tl x ∧ x.length ≠ 0 := by decide +kernel
  match r, h with
  | [a], h =>
    have h' : inV (.str a) (aloneV.map V.str) = true := h
    rw [inS, decide_eq_true_eq] at h'
    exact ⟨by simp, by simp, fun x hx => by
      rw [List.mem_singleton.mp hx]
      exact cA a (by simp [h'])⟩
  | [a, b], h =>
    have h' : (if a = "walk" then inV (.str b) (kindV.map V.str) else inV (.str a) (thingV.map V.str) && someB b) = true := h
    refine ⟨by simp, by simp, fun x hx => ?_⟩
    by_cases e : a = "walk"
    · rw [if_pos e, inS, decide_eq_true_eq] at h'
      simp only [List.mem_cons, List.not_mem_nil, or_false] at hx
      rcases hx with rfl | rfl
      · exact cA _ (by simp [e])
      · exact cA _ (by simp [h'])
    · rw [if_neg e, Bool.and_eq_true, inS, decide_eq_true_eq] at h'
      simp only [List.mem_cons, List.not_mem_nil, or_false] at hx
      rcases hx with rfl | rfl
      · exact cA _ (by simp [h'.1])
      · have z := h'.2
        unfold someB bitsB at z
        rw [Bool.and_eq_true, Bool.and_eq_true, decide_eq_true_eq, decide_eq_true_eq, List.all_eq_true] at z
        have no : ∀ c, c ∉ ("01" : Str).cps.toList → c ∉ tl x := fun c hc hm => hc (of_decide_eq_true (z.2 c hm))
        exact ⟨z.1.2, no 32 (by decide +kernel), no 10 (by decide +kernel), by omega⟩
theorem tl_row {r : List Str} : tl (rowS r) = joinL [32] (r.map tl) := by
  unfold rowS
  rw [TL.join_eq, TL.tl_join, tl_blank]
theorem joinL_mem {S : List Nat} {c : Nat} : ∀ {ps : List (List Nat)}, c ∈ joinL S ps → c ∈ S ∨ ∃ p ∈ ps, c ∈ p
  | [], h => absurd h (by simp [joinL])
  | [p], h => .inr ⟨p, by simp, h⟩
  | p :: q :: r, h => by
    have h' : c ∈ p ++ (S ++ joinL S (q :: r)) := h
    rw [List.mem_append, List.mem_append] at h'
    rcases h' with z | z | z
    · exact .inr ⟨p, by simp, z⟩
    · exact .inl z
    · rcases joinL_mem z with y | ⟨u, hu, y⟩
      · exact .inl y
      · exact .inr ⟨u, List.mem_cons_of_mem _ hu, y⟩
theorem joinL_ne {S : List Nat} : ∀ {ps : List (List Nat)}, (∃ p ∈ ps, p ≠ []) → joinL S ps ≠ []
  | [], h => by
    obtain ⟨p, hp, _⟩ := h
    exact absurd hp (by simp)
  | [p], h => by
    obtain ⟨q, hq, hn⟩ := h
    rw [List.mem_singleton.mp hq] at hn
    exact hn
  | p :: q :: r, h => by
    intro e
    have e' : p ++ (S ++ joinL S (q :: r)) = [] := e
    rw [List.append_eq_nil_iff, List.append_eq_nil_iff] at e'
    obtain ⟨u, hu, hn⟩ := h
    rcases List.mem_cons.mp hu with z | z
    · exact hn (z.trans e'.1)
    · exact joinL_ne ⟨u, z, hn⟩ e'.2.2
/-- what good rows write reads back -/
theorem rowsT_textR {rs : List (List Str)} (h : ∀ r ∈ rs, stepB r = true) : rowsT (textR rs) = rs := by
  unfold rowsT linesT
  by_cases e : rs = []
  · subst e
    rw [if_pos (by decide +kernel)]
    rfl
  · have nl : ∀ p ∈ rs.map rowS, (10 : Nat) ∉ tl p := fun p hp hm => by
      obtain ⟨r, hr, rfl⟩ := List.mem_map.mp hp
      rw [tl_row] at hm
      rcases joinL_mem hm with z | ⟨u, hu, z⟩
      · simp at z
      · obtain ⟨x, hx, rfl⟩ := List.mem_map.mp hu
        exact ((step_words (h r hr)).2.2 x hx).2.2.1 z
    have ne : ¬ (textR rs).length = 0 := fun z => by
      rw [TL.len0_tl] at z
      unfold textR at z
      rw [TL.join_eq, TL.tl_join] at z
      obtain ⟨r, hr⟩ := List.exists_mem_of_ne_nil _ e
      refine joinL_ne ⟨tl (rowS r), List.mem_map.mpr ⟨_, List.mem_map.mpr ⟨r, hr, rfl⟩, rfl⟩, ?_⟩ z
      rw [tl_row]
      have w := step_words (h r hr)
      obtain ⟨x, hx⟩ := List.exists_mem_of_ne_nil _ w.1
      exact joinL_ne ⟨tl x, List.mem_map.mpr ⟨x, hx, rfl⟩, fun y => (w.2.2 x hx).2.2.2 ((TL.len0_tl x).mpr y)⟩
    rw [if_neg ne]
    unfold textR
    rw [TL.split_join tl_nl (by decide +kernel) (fun z => e (List.map_eq_nil_iff.mp z)) nl, List.map_map]
    have : rs.map ((fun l => Txt.split l " ") ∘ rowS) = rs.map id := List.map_congr_left fun r hr => by
      have w := step_words (h r hr)
      show Txt.split (Txt.join " " r) " " = r
      exact TL.split_join tl_blank (by decide +kernel) w.1 fun x hx => (w.2.2 x hx).2.1
    rw [this, List.map_id]
theorem row_len {r : List Str} (h : stepB r = true) : (rowS r).length ≤ 30 := by
  have w := step_words h
  have j := join_len " " r
  have e1 : (" " : Str).length = 1 := by decide +kernel
  rw [e1] at j
  have s : (r.map (·.length)).sum ≤ 24 := by
    match r, w with
    | [], w => exact Nat.zero_le _
    | [a], w =>
      have := (w.2.2 a (by simp)).1
      show a.length + 0 ≤ 24
      omega
    | [a, b], w =>
      have h1 := (w.2.2 a (by simp)).1
      have h2 := (w.2.2 b (by simp)).1
      show a.length + (b.length + 0) ≤ 24
      omega
    | a :: b :: c :: r, w => exact absurd w.2.1 (by simp)
  unfold rowS
  omega
theorem sum_le {α : Type} {f : α → Nat} {n : Nat} : ∀ {l : List α}, (∀ x ∈ l, f x ≤ n) → (l.map f).sum ≤ l.length * n
  | [], _ => Nat.zero_le _
  | x :: r, h => by
    have ih := sum_le fun y hy => h y (List.mem_cons_of_mem x hy)
    have := h x List.mem_cons_self
    rw [List.map_cons, List.sum_cons, List.length_cons, Nat.add_mul]
    omega
theorem rows_sum {rs : List (List Str)} (h : ∀ r ∈ rs, stepB r = true) : ((rs.map rowS).map (·.length)).sum ≤ rs.length * 30 := by
  rw [List.map_map]
  exact sum_le fun r hr => row_len (h r hr)
theorem text_len {rs : List (List Str)} (h : ∀ r ∈ rs, stepB r = true) : (textR rs).length ≤ rs.length * 31 := by
  have j := join_len "\n" (rs.map rowS)
  have e1 : ("\n" : Str).length = 1 := by decide +kernel
  have := rows_sum h
  rw [e1, List.length_map] at j
  unfold textR
  omega
end B

set_option Elab.async false
set_option linter.all false
set_option maxRecDepth 100000
set_option maxHeartbeats 4000000
namespace B
open PySem PySem.Spec PyProof.Rows L2
open SX (S)
open TL (tl joinL spl)
theorem NoBad.all {rs : List (List Str)} (h : NoBad rs) : ∀ r ∈ rs, stepB r = true := fun r hr => by
  obtain ⟨i, hi⟩ := List.mem_iff_getElem?.mp hr
  have q := h i r hi
  unfold badB at q
  rw [Bool.or_eq_false_iff, Bool.not_eq_false'] at q
  exact q.2
theorem FrT.putL {K : PySem.W.Frag} {S : List Addr} {H H1 : Hp} {b : Addr} {xs : List V} {o : HO} (a : FrT K S H H1) (h : b ∈ S) (hb : H1 b = some (.lst xs)) : FrT K S H (upd H1 b o) :=
  ⟨fun c u e t n => by
    rw [upd_ne (fun z => n (by rw [z]; exact h))]
    exact a.k c u e t n, fun c z => a.b c (upd_back z), fun z => tb_upd (a.t z) hb⟩
/-- two ways to the same -/
theorem ite2 {c : Bool} {A B : Prop} {H : Hp} {R : Addr → Prop} (go : ∀ p, H p = none → R p) (h1 : (∀ p, H p = none → R p) → c = true → A) (h2 : (∀ p, H p = none → R p) → c = false → B) : if c = true then A else B := iteB (h1 go) (h2 go)
section
variable {P : Program} {w : World} {K : PySem.W.Frag} {mg : Str → Option Value} {base : Heap}
def spWritten (K : PySem.W.Frag) : Sp := fun vs H Q E => ∃ (p : Addr) (zs : List (Addr × List Str)), vs = [.ref p] ∧ RZ H p zs ∧ (∀ z ∈ zs, ∀ x ∈ z.2, x.length ≤ 1000000) ∧ Tb K H ∧
  (NoBad (zs.map (·.2)) → ∀ H', FrT K [] H H' → Q (.str (textR (zs.map (·.2)))) H') ∧ ∀ i, FstBad (zs.map (·.2)) i → ErrS K "BadStep" "number" i H E
def spRead (K : PySem.W.Frag) : Sp := fun vs H Q E => ∃ (t : Str), vs = [.str t] ∧ t.length ≤ 100000 ∧ Tb K H ∧
  (NoBad (rowsT t) → ∀ (q : Addr) (zs : List (Addr × List Str)) (H' : Hp), zs.map (·.2) = rowsT t → H q = none → (∀ z ∈ zs, H z.1 = none) → RZ H' q zs → FrT K [] H H' → Q (.ref q) H') ∧ ∀ i, FstBad (rowsT t) i → ErrS K "BadText" "row" i H E
theorem c_read (T : Txt P w K mg base) : CalX (L2.CX P w) P w K mg base 4 "read" (spRead K) := by
  obtain ⟨fd, F⟩ := T.t.def_ 3 (d := d_read)
  refine ⟨_, fd, _, F.ok sc_read (fun vs H Q E h => ?_) (fun cdv A outer s H vs Q E hr h => ?_), He.glo_ok T.X T.G (T.t.fact 3), F.kp, F.bindsN fun _ _ _ _ _ _ us hl => match us, hl with | [_], _ => rfl⟩
  · obtain ⟨t, rfl, _⟩ := h
    rfl
  · obtain ⟨t, rfl, hl, ht, k1, k2⟩ := h
    refine ⟨_, (pss_cons (ps_set (i := 1) sc_read.nd rfl (Or.inl rfl) (pe_ifExp (pt_truth (pv 0) (by intro _; rfl)) (pe_split (pv 0) pe_str) (pe_lst pa_nil)))
    (pss_cons (ps_set (i := 2) sc_read.nd rfl (Or.inl rfl) (pe_lst pa_nil))
    (pss_cons (ps_for (passes_of rfl) rfl (pi_enum (by rfl) (n_enumerate T) (pa_cons (pv 1) pa_nil)) (pg_tup rfl (pgs_cons (pg_name (i := 3) sc_read.nd rfl (Or.inl rfl)) (pgs_cons (pg_name (i := 4) sc_read.nd rfl (Or.inl rfl)) pgs_nil)))
      (pss_cons (ps_set (i := 5) sc_read.nd rfl (Or.inl rfl) (pe_tupleOf rfl (n_tuple T) (pe_split (pv 4) pe_str)))
      (pss_cons (ps_if (PW.pt (pw_or (pt_cmpR op_eq (pv 3) (g_MOST_STEPS T) (nomark _)) (pw_or1 (pt_not (pt_val (pe_cx (c_is_step T) hr (by decide) rfl pass0 (pa_cons (pv 5) pa_nil)))))))
        (pss_one (ps_raise rfl (takes_of rfl rfl rfl rfl) (mk_BadText T (hr.mono (by decide)) (pa_cons (pv 3) pa_nil))))
        pss_nil)
      (pss_one (ps_expr (pe_bm PySem.F.plainAttrs_list PySem.F.slot_list_append PySem.F.type_list_append mt_append (pv 2) (pa_cons (pv 5) pa_nil)))))))
    (pss_one (ps_ret (pv 2)))))), ?_⟩
    refine ⟨_, rfl, _, ⟨szL (by omega), rfl⟩, ?_⟩
    have e1 : ("\n" : Str).length = 1 := by decide +kernel
    have e2 : (" " : Str).length = 1 := by decide +kernel
    refine @ite2 _ _ _ H ?R ?go ?h1 ?h2
    case h1 =>
      intro go c
      refine ⟨_, rfl, ⟨_, rfl⟩, t, "\n", rfl, rfl, by rw [e1]; rfl, Nat.le_trans (show t.length + 2 ≤ 100002 by omega) (by decide), fun q hq => ?_⟩
      have e : Txt.split t "\n" = linesT t := by
        unfold linesT
        rw [if_neg (fun z => by rw [z] at c; cases c)]
      rw [e]
      exact go q hq
    case h2 =>
      intro go c
      refine ⟨Nat.zero_le _, fun q hq => ?_⟩
      have e : ([] : List V) = (linesT t).map V.str := by
        unfold linesT
        rw [if_pos (by have := (bne_eq_false_iff_eq.mp c); omega)]
        rfl
      have e3 : upd H q (.lst []) = upd H q (.lst ((linesT t).map V.str)) := by rw [e]
      rw [e3]
      exact go q hq
    case go =>
      intro q hq
      refine ⟨Nat.zero_le _, fun st hst => ?_⟩
      have nq : q ≠ st := ne_of_none upd_same hst
      have hst0 : H st = none := upd_back hst
      have g2 : Frm [] H (upd (upd H q (.lst ((linesT t).map V.str))) st (.lst [])) := (Frm.of (same_upd hq)).trans (Frm.of (same_upd hst))
      have q2 : (upd (upd H q (.lst ((linesT t).map V.str))) st (.lst [])) q = some (.lst ((linesT t).map V.str)) := by rw [upd_ne nq, upd_same]
      have s2 : (upd (upd H q (.lst ((linesT t).map V.str))) st (.lst [])) st = some (.lst []) := upd_same
      revert g2 q2 s2
      generalize (upd (upd H q (.lst ((linesT t).map V.str))) st (.lst [])) = H2
      intro g2 q2 s2
      have f2 := g2.toT (K := K) .nil
      have ll : ∀ l ∈ linesT t, l.length ≤ 100000 := fun l hl2 => by
        unfold linesT at hl2
        split at hl2
        · cases hl2
        · exact Nat.le_trans (split_le tl_nl (by decide +kernel) l hl2) hl
      have lc : (linesT t).length ≤ 100001 := by
        unfold linesT
        split
        · exact Nat.zero_le _
        · exact Nat.le_trans (split_cnt tl_nl (by decide +kernel)) (by omega)
      refine ⟨_, rfl, q, (linesT t).map V.str, rfl, SqL.of q2, ?_⟩
      refine forE (K := K) (a := q) (xs := (linesT t).map V.str) (fun j σ H' => ∃ (v3 v4 v5 : Option V) (zs : List (Addr × List Str)), σ = [some (.str t), some (.ref q), some (.ref st), v3, v4, v5] ∧ (∀ i y, i < j → (rowsT t)[i]? = some y → badB i y = false) ∧ zs.map (·.2) = (rowsT t).take j ∧ RZ H' st zs ∧ (∀ z ∈ zs, H z.1 = none) ∧ Tb K H' ∧ FrT K [st] H2 H')
        ⟨_, _, _, [], rfl, fun i y z => absurd z (Nat.not_lt_zero _), rfl, ⟨s2, fun z hz => absurd hz (by simp)⟩, fun z hz => absurd hz (by simp), f2.t ht, FrT.refl _ _ _⟩ (fun j σ H' _ ⟨_, _, _, _, _, _, _, _, _, _, f⟩ => SqL.of (f.k _ _ q2 rfl (by simpa using nq))) ?_ ?_
      · rintro j y T σ H7 hj ⟨v3, v4, v5, zs, rfl, hb7, hzs, rz7, hz7, ht7, f7⟩ hT
        obtain ⟨l, hl3, rfl⟩ := at_map hj
        have hm := List.mem_of_getElem? hl3
        have jl := (List.getElem?_eq_some_iff.mp hl3).1
        have hr : (rowsT t)[j]? = some (Txt.split l " ") := by
          unfold rowsT
          rw [List.getElem?_map, hl3]
          rfl
        have g8 : Frm [] H7 (upd H7 T (.tup [.int j, .str l])) := Frm.of (same_upd hT)
        have e8 : (upd H7 T (.tup [.int j, .str l])) T = some (.tup [.int j, .str l]) := upd_same
        revert e8 g8
        generalize (upd H7 T (.tup [.int j, .str l])) = H8
        intro g8 e8
        refine ⟨T, _, rfl, SqT.of e8, rfl, _, _, rfl, _, _, rfl, rfl, ?_⟩
        refine ⟨_, rfl, ⟨_, rfl⟩, l, " ", rfl, rfl, by rw [e2]; rfl, Nat.le_trans (show l.length + 2 ≤ 100002 by have := ll l hm; omega) (by decide), fun p hp => ?_⟩
        have g9 : Frm [] H8 (upd H8 p (.lst ((Txt.split l " ").map V.str))) := Frm.of (same_upd hp)
        have e9 : (upd H8 p (.lst ((Txt.split l " ").map V.str))) p = some (.lst ((Txt.split l " ").map V.str)) := upd_same
        revert e9 g9
        generalize (upd H8 p (.lst ((Txt.split l " ").map V.str))) = H9
        intro g9 e9
        refine .inl ⟨p, _, rfl, SqL.of e9, fun u hu => ?_⟩
        have g10 : Frm [] H9 (upd H9 u (.tup ((Txt.split l " ").map V.str))) := Frm.of (same_upd hu)
        have e10 : (upd H9 u (.tup ((Txt.split l " ").map V.str))) u = some (.tup ((Txt.split l " ").map V.str)) := upd_same
        have u7 : H7 u = none := g8.b _ (g9.b _ hu)
        have u0 : H u = none := f2.b _ (f7.b _ u7)
        revert e10 g10
        generalize (upd H9 u (.tup ((Txt.split l " ").map V.str))) = H10
        intro g10 e10
        have f10 : FrT K [] H7 H10 := ((g8.trans g9).trans g10).toT .nil
        have ht10 := f10.t ht7
        refine ⟨_, rfl, rfl, _, rfl, ?_⟩
        rw [int_dec]
        have fH : FrT K [] H H10 := (f2.fresh f7 (by simpa using hst0)).trans f10
        have go : badB j (Txt.split l " ") = true → ∀ H9, FrT K [] H H9 → [V.int (j : Int)].length ≤ 1000 ∧ ∀ a, H9 a = none → spOI (He.ga K "BadText") "row" (.ref a :: ([V.int j] ++ [])) (upd H9 a (exo a (He.ga K "BadText") none)) (fun v H2 => v = .non ∧ ∃ (d : Addr) (fs : List (Str × V)), H2 a = some (exo a (He.ga K "BadText") (some d)) ∧ H2 d = some (exd d fs) ∧ H9 d = none ∧ E (.ref (He.ga K "BadText")) (some d) (upd (del H2 a) d (.xd fs))) (fun _ _ _ => False) := fun c H9 f9 => by
          have fb : FstBad (rowsT t) j := ⟨⟨_, hr, c⟩, hb7⟩
          have := fb.le
          exact oi_go (by omega) (by omega) fun d H2 f e _ => k2 j fb d H2 (f9.trans (f.toT .nil)) e
        refine iteB (fun c => ?_) (fun c => ?_)
        · refine ⟨_, rfl, go ?_ H10 fH⟩
          have : (j : Int) = 200 := of_decide_eq_true c
          unfold badB
          rw [decide_eq_true (show j = 200 by omega)]
          rfl
        · have nj : ¬ j = 200 := fun z => of_decide_eq_false c (by omega)
          refine ⟨_, rfl, u, Txt.split l " ", rfl, e10, fun x hx => Nat.le_trans (split_le tl_blank (by decide +kernel) x hx) (Nat.le_trans (ll l hm) (by decide)), ht10, fun H11 f11 => ⟨_, rfl, ?_⟩⟩
          refine iteB (fun c2 => ?_) (fun c2 => ?_)
          · exact ⟨_, rfl, go (by unfold badB; rw [c2, Bool.or_true]) H11 (fH.trans f11)⟩
          · have f711 : FrT K [] H7 H11 := f10.trans f11
            have rz11 := rz7.keep0 f711
            have zl : zs.length ≤ 100001 := by
              have := congrArg List.length hzs
              rw [List.length_map, List.length_take] at this
              have : (rowsT t).length = (linesT t).length := by unfold rowsT; rw [List.length_map]
              omega
            refine ⟨_, rfl, .inl ⟨rfl, _, SqL.of rz11.1⟩, _, rfl, st, _, _, rfl, rfl, rz11.1, by rw [List.length_map]; exact szLt (by omega), ?_⟩
            have uns : u ≠ st := fun z => by
              rw [z, rz7.1] at u7
              cases u7
            refine ⟨_, _, _, zs ++ [(u, Txt.split l " ")], rfl, fun i y hi hy => ?_, ?_, ⟨?_, fun z hz => ?_⟩, fun z hz => ?_, ?_, ?_⟩
            · rcases Nat.lt_or_eq_of_le (Nat.le_of_lt_succ hi) with q | q
              · exact hb7 i y q hy
              · subst q
                rw [hr] at hy
                cases hy
                unfold badB
                rw [c2, decide_eq_false nj]
                rfl
            · rw [List.map_append, hzs, List.take_add_one, hr]
              rfl
            · rw [upd_same, List.map_append]
              rfl
            · rcases List.mem_append.mp hz with z1 | z1
              · rw [upd_ne (fun y => by
                  have := rz11.2 z z1
                  rw [y, rz11.1] at this
                  cases this)]
                exact rz11.2 z z1
              · rw [List.mem_singleton.mp z1, upd_ne uns]
                exact f11.k _ _ e10 rfl (by simp)
            · rcases List.mem_append.mp hz with z1 | z1
              · exact hz7 z z1
              · rw [List.mem_singleton.mp z1]
                exact u0
            · exact tb_upd (f11.t ht10) rz11.1
            · exact (f7.trans (f711.mono (by simp))).putL (by simp) rz11.1
      · rintro σ H7 ⟨v3, v4, v5, zs, rfl, hb7, hzs, rz7, hz7, ht7, f7⟩
        have e4 : (rowsT t).take ((linesT t).map V.str).length = rowsT t := List.take_of_length_le (by unfold rowsT; rw [List.length_map, List.length_map]; exact Nat.le_refl _)
        rw [e4] at hzs
        refine ⟨_, rfl, k1 (fun i x hx => hb7 i x ?_ hx) st zs H7 hzs hst0 hz7 rz7 (f2.fresh f7 (by simpa using hst0))⟩
        have := (List.getElem?_eq_some_iff.mp hx).1
        unfold rowsT at this
        rw [List.length_map] at this ⊢
        exact this
end
end B

set_option Elab.async false
set_option linter.all false
set_option maxRecDepth 100000
set_option maxHeartbeats 4000000
namespace B
open PySem PySem.Spec PyProof.Rows L2
open SX (S)
open TL (tl joinL spl)
theorem some_num {W : Nat} {x : Str} (h : Num W x) (w1 : 1 ≤ W) (w2 : W ≤ 12) : someB x = true := by
  obtain ⟨l, rfl, hl, hb⟩ := h
  unfold someB bitsB
  rw [SX.S_len, hl, decide_eq_true w1, decide_eq_true w2]
  refine List.all_eq_true.mpr fun c hc => ?_
  rcases hb c hc with rfl | rfl <;> decide +kernel
theorem RZ.row {H H' : Hp} {p r a : Addr} {zs : List (Addr × List Str)} (h : RZ H p zs) (f : Frm [r] H H') (hr : RowAt r a H) (n : p ≠ r) : RZ H' p zs := by
  obtain ⟨i, j, k, e, _⟩ := hr
  exact ⟨f.k _ _ h.1 rfl (by simpa using n), fun z hz => f.k _ _ (h.2 z hz) rfl (by simpa using ne_of (h.2 z hz) e (by intro y; cases y))⟩
theorem RZ.snoc {H : Hp} {p t : Addr} {zs : List (Addr × List Str)} {r : List Str} (h : RZ H p zs) (ht : H t = some (.tup (r.map V.str))) : RZ (upd H p (.lst ((zs.map fun z => V.ref z.1) ++ [.ref t]))) p (zs ++ [(t, r)]) := by
  refine ⟨by rw [upd_same, List.map_append]; rfl, fun z hz => ?_⟩
  have hz' : H z.1 = some (.tup (z.2.map V.str)) := by
    rcases List.mem_append.mp hz with c | c
    · exact h.2 z c
    · rw [List.mem_singleton.mp c]
      exact ht
  rw [upd_ne (ne_of hz' h.1 (by intro y; cases y))]
  exact hz'
theorem at_two2 {x y : Str} {v : Int} (h0 : 0 ≤ v) (h1 : v < 2) : ∃ u, (u = x ∨ u = y) ∧ atI [V.str x, V.str y] v = some (.str u) := by
  have : v = 0 ∨ v = 1 := by omega
  rcases this with rfl | rfl
  · exact ⟨x, .inl rfl, rfl⟩
  · exact ⟨y, .inr rfl, rfl⟩
section
variable {P : Program} {w : World} {K : PySem.W.Frag} {mg : Str → Option Value} {base : Heap}
def nineV : List Str := ["hang", "off", "alarm", "calm", "walk", "step", "round", "turn", "refresh"]
theorem nine_else : ∀ x ∈ nineV, x ≠ "walk" → x ∉ thingV → x ∈ aloneV := by decide +kernel
def spSteps (K : PySem.W.Frag) : Sp := fun vs H Q _ => ∃ (r a : Addr) (n : Int), vs = [.ref r, .int n] ∧ RowAt r a H ∧ Scr K a H ∧ 0 ≤ n ∧ n ≤ 200 ∧
  ∀ (q : Addr) (zs : List (Addr × List Str)) (H' : Hp), RZ H' q zs → (∀ z ∈ zs, stepB z.2 = true) → zs.length ≤ n → H q = none → (∀ z ∈ zs, H z.1 = none) → RowAt r a H' → Frm [r] H H' → Q (.ref q) H'
theorem c_lsteps (T : Txt P w K mg base) : CalX CX0 P w K mg base 3 "_law_steps" (spSteps K) := by
  obtain ⟨fd, F⟩ := T.t.def_ 8 (d := d_lsteps)
  refine ⟨_, fd, _, F.ok sc_lsteps (fun vs H Q E h => ?_) (fun cdv A outer s H vs Q E hr h => ?_), He.glo_ok T.X T.G (T.t.fact 8), F.kp, F.bindsN fun _ _ _ _ _ _ us hl => match us, hl with | [_, _], _ => rfl⟩
  · obtain ⟨r, a, n, rfl, _⟩ := h
    rfl
  · obtain ⟨r, a, n, rfl, hR, hS, n0, n1, k⟩ := h
    refine ⟨_, PSs.nox (pss_cons (ps_set (i := 2) sc_lsteps.nd rfl (Or.inl rfl) (pe_lst pa_nil))
    (pss_cons (ps_for PassesOwn.never rfl (pi_range1 rfl (n_range T) (pa_cons (pe_cx (c_ltaken T) hr (by decide) rfl pass0 (pa_cons (pv 0) (pa_cons (pe_op op_add (pv 1) pe_int) pa_nil))) pa_nil)) (pg_name (i := 3) sc_lsteps.nd rfl (Or.inl rfl))
      (pss_cons (ps_set (i := 4) sc_lsteps.nd rfl (Or.inl rfl) (pe_ix ix_list (pe_lst (pa_cons pe_str (pa_cons pe_str (pa_cons pe_str (pa_cons pe_str (pa_cons pe_str (pa_cons pe_str (pa_cons pe_str (pa_cons pe_str (pa_cons pe_str pa_nil)))))))))) (pe_cx (c_ltaken T) hr (by decide) rfl pass0 (pa_cons (pv 0) (pa_cons pe_int pa_nil))) (fun _ _ => rfl)))
      (pss_one (ps_if (pt_cmpR op_eq (pv 4) pe_str (nomark _))
        (pss_one (ps_expr (pe_bm PySem.F.plainAttrs_list PySem.F.slot_list_append PySem.F.type_list_append mt_append (pv 2) (pa_cons (pe_tup (pa_cons (pv 4) (pa_cons (pe_ix ix_list (pe_lst (pa_cons pe_str (pa_cons pe_str pa_nil))) (pe_cx (c_ltaken T) hr (by decide) rfl pass0 (pa_cons (pv 0) (pa_cons pe_int pa_nil))) (fun _ _ => rfl)) pa_nil))) pa_nil))))
        (pss_one (ps_if (pt_cmpR op_in_seq (pv 4) (pe_tup (pa_cons pe_str (pa_cons pe_str (pa_cons pe_str (pa_cons pe_str pa_nil))))) rfl)
          (pss_one (ps_expr (pe_bm PySem.F.plainAttrs_list PySem.F.slot_list_append PySem.F.type_list_append mt_append (pv 2) (pa_cons (pe_tup (pa_cons (pv 4) (pa_cons (pe_cx (c_lnumber T) hr (by decide) rfl pass0 (pa_cons (pv 0) (pa_cons (pe_op op_add pe_int (pe_cx (c_ltaken T) hr (by decide) rfl pass0 (pa_cons (pv 0) (pa_cons pe_int pa_nil)))) pa_nil))) pa_nil))) pa_nil))))
          (pss_one (ps_expr (pe_bm PySem.F.plainAttrs_list PySem.F.slot_list_append PySem.F.type_list_append mt_append (pv 2) (pa_cons (pe_tup (pa_cons (pv 4) pa_nil)) pa_nil))))))))))
    (pss_one (ps_ret (pv 2))))), ?_⟩
    refine ⟨Nat.zero_le _, fun f hf => ?_⟩
    have nrf : r ≠ f := hR.out hf
    have g1 : Frm [r] H (upd H f (.lst [])) := (Frm.refl _ _).new hf
    have f1 : (upd H f (.lst [])) f = some (.lst []) := upd_same
    have hR1 : RowAt r a (upd H f (.lst [])) := hR.ne nrf
    revert g1 f1 hR1
    generalize (upd H f (.lst [])) = H1
    intro g1 f1 hR1
    refine ⟨_, rfl, _, rfl, n, 1, rfl, rfl, r, a, n + 1, rfl, hR1, g1.scr hR.nl hS, by omega, by omega, fun m H2 m0 m1 hR2 f2 => ?_⟩
    refine ⟨m, rfl, by omega, by omega, ?_⟩
    refine for_range (lo := 0) (n := m.toNat) (fun i σ H' => ∃ (v3 v4 : Option V) (zs : List (Addr × List Str)), σ = [some (.ref r), some (.int n), some (.ref f), v3, v4] ∧ zs.length = i ∧ RZ H' f zs ∧ (∀ z ∈ zs, stepB z.2 = true) ∧ (∀ z ∈ zs, H z.1 = none) ∧ RowAt r a H' ∧ Frm [r] H H')
      ⟨_, _, [], rfl, rfl, ⟨f2.k _ _ f1 rfl (by simpa using nrf.symm), fun z hz => absurd hz (by simp)⟩, fun z hz => absurd hz (by simp), fun z hz => absurd hz (by simp), hR2, g1.trans f2⟩ ?_ ?_
    · rintro i σ H3 hi ⟨v3, v4, zs, rfl, hl, rz3, hz3, hn3, hR3, f3⟩
      refine ⟨by show 9 ≤ sizeLine; decide, fun D hD => ?_⟩
      have g4 : Frm [] H3 (upd H3 D (.lst (nineV.map V.str))) := Frm.of (same_upd hD)
      have d4 : (upd H3 D (.lst (nineV.map V.str))) D = some (.lst (nineV.map V.str)) := upd_same
      have hR4 : RowAt r a (upd H3 D (.lst (nineV.map V.str))) := hR3.ne (hR3.out hD)
      have nrD := hR3.out hD
      have f4 := f3.trans (g4.mono (by simp))
      refine ⟨_, rfl, r, a, 9, rfl, hR4, f4.scr hR.nl hS, by decide, by decide, fun v H5 v0 v1 hR5 f5 => ?_⟩
      have d5 : H5 D = some (.lst (nineV.map V.str)) := f5.k _ _ d4 rfl (by simpa using nrD.symm)
      obtain ⟨wd, hwd, hat⟩ := at_strs (xs := nineV) v0 (by show v < 9; exact v1)
      have ff5 := f4.trans f5
      have rz5 : RZ H5 f zs := (rz3.keep0 (g4.toT .nil (K := K))).row f5 hR4 nrf.symm
      refine ⟨D, nineV.map V.str, v, .str wd, rfl, rfl, SqL.of d5, hat, ?_⟩
      refine ⟨_, rfl, rfl, _, rfl, ?_⟩
      rw [str_dec]
      -- a further row
      have go : ∀ (ws : List Str) (H6 : Hp), stepB ws = true → RZ H6 f zs → RowAt r a H6 → Frm [r] H H6 → ∀ t, H6 t = none → ∃ (l' : Addr) (xs' : List V) (y' : V), V.ref f = .ref l' ∧ [V.ref t] = [y'] ∧ (upd H6 t (.tup (ws.map V.str))) l' = some (.lst xs') ∧ xs'.length < sizeLine ∧ (∃ (v3 v4 : Option V) (zs' : List (Addr × List Str)), [some (V.ref r), some (.int n), some (.ref f), some (.int (0 + (i : Int))), some (.str wd)] = [some (.ref r), some (.int n), some (.ref f), v3, v4] ∧ zs'.length = i + 1 ∧ RZ (upd (upd H6 t (.tup (ws.map V.str))) l' (.lst (xs' ++ [y']))) f zs' ∧ (∀ z ∈ zs', stepB z.2 = true) ∧ (∀ z ∈ zs', H z.1 = none) ∧ RowAt r a (upd (upd H6 t (.tup (ws.map V.str))) l' (.lst (xs' ++ [y']))) ∧ Frm [r] H (upd (upd H6 t (.tup (ws.map V.str))) l' (.lst (xs' ++ [y'])))) := fun ws H6 hws rz6 hR6 f6 t ht => by
        have rz7 := rz6.keep0 ((Frm.of (same_upd (o := .tup (ws.map V.str)) ht)).toT .nil (K := K))
        have hR7 : RowAt r a (upd H6 t (.tup (ws.map V.str))) := hR6.ne (hR6.out ht)
        refine ⟨f, _, _, rfl, rfl, rz7.1, by rw [List.length_map]; exact szLt (by omega), _, _, zs ++ [(t, ws)], rfl, by rw [List.length_append, hl]; rfl, rz7.snoc upd_same, fun z hz => ?_, fun z hz => ?_, hR7.ne nrf, (f6.trans (Frm.of (same_upd ht))).new hf⟩
        · rcases List.mem_append.mp hz with c | c
          · exact hz3 z c
          · rw [List.mem_singleton.mp c]
            exact hws
        · rcases List.mem_append.mp hz with c | c
          · exact hn3 z c
          · rw [List.mem_singleton.mp c]
            exact f6.b _ ht
      refine iteB (fun c => ?_) (fun c => ?_)
      · obtain rfl : wd = "walk" := of_decide_eq_true c
        refine ⟨_, rfl, .inl ⟨rfl, _, SqL.of rz5.1⟩, _, rfl, by show 2 ≤ sizeLine; decide, fun D2 hD2 => ?_⟩
        have g6 : Frm [] H5 (upd H5 D2 (.lst [.str "all", .str "alarm"])) := Frm.of (same_upd hD2)
        have hR6 : RowAt r a (upd H5 D2 (.lst [.str "all", .str "alarm"])) := hR5.ne (hR5.out hD2)
        have nrD2 := hR5.out hD2
        have ff6 := ff5.trans (g6.mono (by simp))
        refine ⟨_, rfl, r, a, 2, rfl, hR6, ff6.scr hR.nl hS, by decide, by decide, fun u H7 u0 u1 hR7 f7 => ?_⟩
        have d7 : H7 D2 = some (.lst [.str "all", .str "alarm"]) := f7.k _ _ upd_same rfl (by simpa using nrD2.symm)
        obtain ⟨kd, hkd, hat2⟩ := at_two2 (x := "all") (y := "alarm") u0 u1
        have rz7 : RZ H7 f zs := (rz5.keep0 (g6.toT .nil (K := K))).row f7 hR6 nrf.symm
        refine ⟨D2, _, u, .str kd, rfl, rfl, SqL.of d7, hat2, ?_⟩
        refine ⟨by show 2 ≤ sizeLine; decide, fun t ht => ?_⟩
        refine go ["walk", kd] H7 ?_ rz7 hR7 (ff6.trans f7) t ht
        rcases hkd with rfl | rfl <;> decide +kernel
      · refine ⟨_, rfl, by show 4 ≤ sizeLine; decide, fun D2 hD2 => ?_⟩
        have g6 : Frm [] H5 (upd H5 D2 (.tup (thingV.map V.str))) := Frm.of (same_upd hD2)
        have d6 : (upd H5 D2 (.tup (thingV.map V.str))) D2 = some (.tup (thingV.map V.str)) := upd_same
        have hR6 : RowAt r a (upd H5 D2 (.tup (thingV.map V.str))) := hR5.ne (hR5.out hD2)
        have ff6 := ff5.trans (g6.mono (by simp))
        have rz6 := rz5.keep0 (g6.toT .nil (K := K))
        refine ⟨D2, thingV.map V.str, rfl, .inr (SqT.of d6), rfl, rfl, _, rfl, ?_⟩
        have nw : wd ≠ "walk" := of_decide_eq_false c
        rw [inS]
        refine iteB (fun c2 => ?_) (fun c2 => ?_)
        · refine ⟨_, rfl, .inl ⟨rfl, _, SqL.of rz6.1⟩, _, rfl, _, rfl, ?_⟩
          refine ⟨_, rfl, r, a, 12, rfl, hR6, ff6.scr hR.nl hS, by decide, by decide, fun u H7 u0 u1 hR7 f7 => ?_⟩
          have rz7 : RZ H7 f zs := rz6.row f7 hR6 nrf.symm
          have ff7 := ff6.trans f7
          refine ⟨1, u, rfl, rfl, r, a, (1 + u).toNat, by show [V.ref r, V.int (1 + u)] = _; rw [Int.toNat_of_nonneg (by omega)], hR7, ff7.scr hR.nl hS, by omega, fun x H8 hx hR8 f8 => ?_⟩
          have rz8 : RZ H8 f zs := rz7.row f8 hR7 nrf.symm
          refine ⟨by show 2 ≤ sizeLine; decide, fun t ht => ?_⟩
          refine go [wd, x] H8 ?_ rz8 hR8 (ff7.trans f8) t ht
          show (if wd = "walk" then _ else inV (.str wd) (thingV.map V.str) && someB x) = true
          rw [if_neg nw, inS, some_num hx (by omega) (by omega), Bool.and_true]
          exact c2
        · refine ⟨_, rfl, .inl ⟨rfl, _, SqL.of rz6.1⟩, _, rfl, by show 1 ≤ sizeLine; decide, fun t ht => ?_⟩
          refine go [wd] _ ?_ rz6 hR6 ff6 t ht
          show inV (.str wd) (aloneV.map V.str) = true
          rw [inS]
          exact decide_eq_true (nine_else wd hwd nw (of_decide_eq_false c2))
    · rintro σ H3 ⟨v3, v4, zs, rfl, hl, rz3, hz3, hn3, hR3, f3⟩
      exact ⟨_, rfl, k f zs H3 rz3 hz3 (by omega) hf hn3 hR3 f3⟩
end
end B

set_option Elab.async false
set_option linter.all false
set_option maxRecDepth 100000
set_option maxHeartbeats 4000000
namespace B
open PySem PySem.Spec PyProof.Rows L2
open SX (S)
open TL (tl joinL spl)
/-! ### rows compared -/
def rwD (r : List Str) : PyData := .tuple (r.map .str)
theorem dp_rw {K : PySem.W.Frag} {H : Hp} : ∀ {zs : List (Addr × List Str)}, (∀ z ∈ zs, H z.1 = some (.tup (z.2.map V.str))) → DpAll K H (zs.map fun z => V.ref z.1) (zs.map fun z => rwD z.2)
  | [], _ => .nil
  | z :: r, h => .cons (.tup (SqT.of (h z (by simp))) (dp_strs z.2)) (dp_rw fun y hy => h y (List.mem_cons_of_mem _ hy))
theorem lay_strs {r : List Str} (h : ∀ x ∈ r, PyData.strOk x = true) : PyData.canLayAll0 (r.map .str) = true := by
  rw [canLayAll_strs']
  exact List.all_eq_true.mpr h
theorem lay_rw {rs : List (List Str)} (h : ∀ r ∈ rs, ∀ x ∈ r, PyData.strOk x = true) : PyData.canLayAll0 (rs.map rwD) = true := by
  induction rs with
  | nil => rfl
  | cons q r ih =>
    have e1 : (rwD q).canLay0 = true := by
      show PyData.canLayAll0 (q.map .str) = true
      exact lay_strs (h q (by simp))
    have e2 := ih fun y hy => h y (List.mem_cons_of_mem _ hy)
    show ((rwD q).canLay0 && PyData.canLayAll0 (r.map rwD)) = true
    rw [e1, e2]
    rfl
theorem dep_strs (r : List Str) : PyData.depthAll (r.map .str) ≤ 1 := by
  rw [depthAll_strs']
  exact Nat.zero_le _
theorem dep_rw {rs : List (List Str)} : PyData.depthAll (rs.map rwD) ≤ 10 := by
  induction rs with
  | nil => exact Nat.zero_le _
  | cons q r ih =>
    show max ((rwD q).depth) (PyData.depthAll (r.map rwD)) ≤ 10
    have : (rwD q).depth ≤ 10 := by
      show PyData.depthAll (q.map .str) + 1 ≤ 10
      have := dep_strs q
      omega
    omega
theorem shaped_rw {rs : List (List Str)} (h : ∀ r ∈ rs, ∀ x ∈ r, PyData.strOk x = true) : SeqAt.shaped (.list (rs.map rwD)) = true := by
  have e1 : (PyData.list (rs.map rwD)).canLay0 = true := lay_rw h
  have e2 : (PyData.list (rs.map rwD)).depth ≤ 64 := by
    show PyData.depthAll (rs.map rwD) + 1 ≤ 64
    have := dep_rw (rs := rs)
    omega
  show ((PyData.list (rs.map rwD)).canLay0 && decide ((PyData.list (rs.map rwD)).depth ≤ 64)) = true
  rw [e1, decide_eq_true e2]
  rfl
theorem eqv_rw {rs : List (List Str)} (h : ∀ r ∈ rs, ∀ x ∈ r, PyData.strOk x = true) : PyData.eqv (.list (rs.map rwD)) (.list (rs.map rwD)) = true := SeqAt.eqv_refl _ (show (PyData.list (rs.map rwD)).canLay0 = true from lay_rw h)
theorem step_ok {r : List Str} (h : stepB r = true) : ∀ x ∈ r, PyData.strOk x = true := by
  have cA : ∀ x ∈ aloneV ++ thingV ++ kindV ++ [("walk" : Str)], PyData.strOk x = true := by decide +kernel
  match r, h with
  | [a], h =>
    have h' : inV (.str a) (aloneV.map V.str) = true := h
    rw [inS, decide_eq_true_eq] at h'
    intro x hx
    rw [List.mem_singleton.mp hx]
    exact cA a (by simp [h'])
  | [a, b], h =>
    have h' : (if a = "walk" then inV (.str b) (kindV.map V.str) else inV (.str a) (thingV.map V.str) && someB b) = true := h
    intro x hx
    by_cases e : a = "walk"
    · rw [if_pos e, inS, decide_eq_true_eq] at h'
      simp only [List.mem_cons, List.not_mem_nil, or_false] at hx
      rcases hx with rfl | rfl
      · exact cA _ (by simp [e])
      · exact cA _ (by simp [h'])
    · rw [if_neg e, Bool.and_eq_true, inS, decide_eq_true_eq] at h'
      simp only [List.mem_cons, List.not_mem_nil, or_false] at hx
      rcases hx with rfl | rfl
      · exact cA _ (by simp [h'.1])
      · have z := h'.2
        unfold someB bitsB at z
        rw [Bool.and_eq_true, List.all_eq_true] at z
        show x.cps.all (· < 0x110000) = true
        rw [Array.all_eq_true']
        intro c hc
        have q := of_decide_eq_true (z.2 c (by simpa using hc))
        have e2 : ("01" : Str).cps.toList = [48, 49] := by decide +kernel
        rw [e2] at q
        simp only [List.mem_cons, List.not_mem_nil, or_false] at q
        rcases q with rfl | rfl <;> rfl
theorem shaped_si (x : Str) (i : Int) (h : PyData.strOk x = true) : SeqAt.shaped (.tuple [.str x, .int i]) = true := by
  show ((PyData.strOk x && (true && true)) && decide ((PyData.tuple [.str x, .int i]).depth ≤ 64)) = true
  rw [h]
  rfl
theorem eqv_si (x : Str) (i : Int) (h : PyData.strOk x = true) : PyData.eqv (.tuple [.str x, .int i]) (.tuple [.str x, .int i]) = true := SeqAt.eqv_refl _ (by
  show (PyData.strOk x && (true && true)) = true
  rw [h]
  rfl)
/-! ### the text, row by row -/
theorem slen (a b : Str) : (a ++ b).length = a.length + b.length := by
  rw [TL.len_tl, TL.tl_append, List.length_append, TL.len_tl, TL.len_tl]
def extS (t : Str) (ps : List Str) : Str := ps.foldl (fun t p => t ++ " " ++ p) t
theorem row_one (a : Str) : rowS [a] = a := TL.ext_tl (by rw [tl_row]; rfl)
theorem row_two (a b : Str) : rowS [a, b] = a ++ " " ++ b := TL.ext_tl (by
  rw [tl_row, TL.tl_append, TL.tl_append, tl_blank, List.append_assoc]
  rfl)
theorem ext_row {t w : Str} {ps : List Str} (h : stepB (w :: ps) = true) : extS (t ++ w) ps = t ++ rowS (w :: ps) := by
  match ps, h with
  | [], _ =>
    rw [row_one]
    rfl
  | [b], _ =>
    rw [row_two]
    refine TL.ext_tl ?_
    show tl (t ++ w ++ " " ++ b) = _
    simp only [TL.tl_append, List.append_assoc]
  | b :: c :: r, h => exact absurd (step_words h).2.1 (by simp)
theorem text_snoc (rs : List (List Str)) (r : List Str) : textR (rs ++ [r]) = if rs = [] then rowS r else textR rs ++ "\n" ++ rowS r := by
  unfold textR
  rw [List.map_append, List.map_singleton, join_snoc]
  by_cases h : rs = []
  · rw [if_pos h, if_pos (by rw [h]; rfl)]
  · rw [if_neg h, if_neg (fun z => h (List.map_eq_nil_iff.mp z))]
theorem text_nil : textR [] = "" := by decide +kernel
theorem ext_len {t : Str} {ps : List Str} (h : ∀ p ∈ ps, p.length ≤ 12) : (extS t ps).length ≤ t.length + ps.length * 13 := by
  induction ps generalizing t with
  | nil => exact Nat.le_add_right _ _
  | cons p r ih =>
    have := ih (t := t ++ " " ++ p) fun y hy => h y (List.mem_cons_of_mem _ hy)
    have e1 : (" " : Str).length = 1 := by decide +kernel
    rw [slen, slen, e1] at this
    have := h p (by simp)
    show (extS (t ++ " " ++ p) r).length ≤ _
    rw [List.length_cons, Nat.add_mul]
    omega
theorem nobad_fst {rs : List (List Str)} {i : Nat} (h : NoBad rs) (b : FstBad rs i) : False := by
  obtain ⟨⟨x, hx, e⟩, _⟩ := b
  rw [h i x hx] at e
  cases e
/-- the text, one row on -/
theorem text_step {rs : List (List Str)} {i : Nat} {w : Str} {ps : List Str} (hi : rs[i]? = some (w :: ps)) (h : stepB (w :: ps) = true) : extS (textR (rs.take i) ++ (if i = 0 then ("" : Str) else "\n") ++ w) ps = textR (rs.take (i + 1)) := by
  rw [ext_row h, List.take_add_one, hi]
  show _ = textR (rs.take i ++ [w :: ps])
  rw [text_snoc]
  have hl := (List.getElem?_eq_some_iff.mp hi).1
  by_cases e : i = 0
  · subst e
    rw [if_pos rfl, if_pos (by simp), List.take_zero, text_nil]
    refine TL.ext_tl ?_
    have e0 : tl ("" : Str) = [] := by decide +kernel
    simp only [TL.tl_append, e0, List.nil_append]
  · rw [if_neg e, if_neg (fun z => by
      have := congrArg List.length z
      rw [List.length_take, List.length_nil] at this
      omega)]
end B

set_option Elab.async false
set_option linter.all false
set_option maxRecDepth 100000
set_option maxHeartbeats 4000000
namespace B
open PySem PySem.Spec PyProof.Rows L2
open SX (S)
open TL (tl joinL spl)
/-! ### x[i].replace(y, z) of written texts: a written index leaves a token -/
/-- an expression behind which a token is out -/
def PEP (X : Cx) (e : Expr) (t : TE) : Prop := ∀ (pins : List (Addr × Obj)) (s : Shared) (σ : L2.St) (H : Hp) (Q : VK), Inv X pins σ H s → t σ H Q → wpAny (model X.prog X.w) X.A (eval e X.env) (fun v s' => 1 ≤ s'.toks ∧ EP X pins σ Q v s') X.xe s
section
variable {X : Cx} {o a : Expr} {to ta : TE} {y z : Str} {j k : Nat} {i : Int} {c0 c1 apos pos p : Pos}
theorem PEP.pe (h : PEP X o to) : PE X o to := ⟨fun pins s σ H Q I q => wpAny_mono (h pins s σ H Q I q) (fun _ _ z => z.2) fun _ _ z => z⟩
theorem pep_ix {r : R2} (hr : IxR X r) (ha : PE X a ta) (hs : PlainIx (.Constant (.int i) j p)) : PEP X (.Subscript a (.Constant (.int i) j p) pos) (tOp r ta (tC (.int i))) := by
  intro pins s σ H Q I h
  refine Subscript_ (thn (ha.run pins s σ H _ I h) fun v s1 ⟨x, H1, I1, r1, q1⟩ => wpAny_Constant_int ?_)
  exact wpAny_mono (wpAny_toks_of (n := 1) (show 1 ≤ s1.toks + 1 by omega) (hr a _ pins { s1 with toks := s1.toks + 1 } σ H1 x (.int i) v _ Q (I1.tok _) r1 ⟨_, rfl⟩ q1 (hs _ _))) (fun _ _ z => z) fun _ _ z => z.2
theorem pep_repl (ho : PEP X o to) (hyz : (y == z) = false := by decide)
    (hst : starEach [.Constant (.str y) j c0, .Constant (.str z) k c1] X.env = [(false, eval (.Constant (.str y) j c0) X.env), (false, eval (.Constant (.str z) k c1) X.env)] := by rfl)
    (hbase : attributeBase o "replace" X.env (eval o X.env) = eval o X.env := by rfl) (hline : (apos.endLine == pos.line) = true := by rfl) : PEP X (.Call (.Attribute o "replace" apos) [.Constant (.str y) j c0, .Constant (.str z) k c1] [] pos) (CwR.tReplC to y z) := by
  intro pins s σ H Q I h
  refine PySem.Call_method2 hbase hst hline (thn (ho pins s σ H _ I h) fun v s1 q => ?_)
  obtain ⟨h1, v', H1, I1, r1, x, e1, hb, q⟩ := q
  subst e1; obtain ⟨tx, e2⟩ := r1; subst e2
  refine ⟨"str", _, PySem.F.plainAttrs_str, PySem.F.slot_str_replace, PySem.F.type_str_replace, typeIs_str _ _ _, (fun _ e => nomatch e), ?_⟩; refine Calls.callWith_builtin rfl (Calls.evalArgs_plain (Calls.spliced_cons ?_))
  refine Calls.Constant_str (Calls.spliced_cons ?_); refine Calls.Constant_str (Calls.spliced_nil ?_)
  refine wpAny_mono (wpAny_toks_of (n := 1) (s := { s1 with toks := s1.toks + 1 + 1 }) (show 1 ≤ s1.toks + 1 + 1 by omega) (PySem.SC.replace (x := x) (Q := fun v s' => EP X pins σ Q v s') (by show s1.toks ≠ 0; omega) (by show s1.toks + 1 ≠ 0; omega) (by show s1.toks ≠ s1.toks + 1; omega) hyz hb fun t' k => ?_)) (fun _ _ z => z) fun _ _ z => z.2
  exact ⟨.str (Txt.replace x y z), H1, I1.tok k, ⟨t', rfl⟩, q⟩
theorem cr_listK {K : PySem.W.Frag} (hK : X.K = K) : CallR X (.type "list") (fun xs H Q => ∃ p ys, xs = [.ref p] ∧ (SqL K H p ys ∨ SqT K H p ys) ∧ ∀ l, H l = none → Q (.ref l) (upd H l (.lst ys))) := by
  subst hK
  exact call_list_of
end
theorem repl_out (c : Nat) : ∀ l : List Nat, StrLaws.replL [c] [] l = l.filter fun d => !decide (d = c)
  | [] => StrLaws.replL_nil
  | d :: r => by
    by_cases e : d = c
    · subst e
      rw [StrLaws.replL_hit (by simp) (by simp), List.nil_append, List.filter_cons_of_neg (by simp)]
      show StrLaws.replL [d] [] r = _
      exact repl_out d r
    · rw [StrLaws.replL_miss (by simpa using e), List.filter_cons_of_pos (by simpa using e), repl_out c r]
theorem tl_repl (x : Str) {y : Str} {c : Nat} (hy : tl y = [c]) : tl (Txt.replace x y "") = (tl x).filter fun d => !decide (d = c) := by
  have e0 : ("" : Str).cps.toList = [] := by decide +kernel
  have h := StrLaws.replace_list (x := x) (y := y) (z := "") (by rw [TL.len_tl, hy]; exact Nat.le_refl 1)
  rw [e0] at h
  show (Txt.replace x y "").cps.toList = _
  rw [h, show y.cps.toList = [c] from hy, repl_out]
theorem repl_len (x : Str) {y : Str} {c : Nat} (hy : tl y = [c]) : (Txt.replace x y "").length ≤ x.length := by
  rw [TL.len_tl, tl_repl x hy, TL.len_tl]
  exact List.length_filter_le _ _
theorem tl_0 : tl ("0" : Str) = [48] := by decide +kernel
theorem tl_1 : tl ("1" : Str) = [49] := by decide +kernel
theorem repl_bits (x : Str) : decide (Txt.replace (Txt.replace x "0" "") "1" "" = "") = bitsB x := by
  rw [Bool.eq_iff_iff, decide_eq_true_eq]
  have e0 : tl ("" : Str) = [] := by decide +kernel
  have e1 : ("01" : Str).cps.toList = [48, 49] := by decide +kernel
  unfold bitsB
  rw [List.all_eq_true, e1]
  constructor
  · intro h c hc
    have q := congrArg tl h
    rw [tl_repl _ tl_1, tl_repl _ tl_0, e0, List.filter_filter, List.filter_eq_nil_iff] at q
    have := q c hc
    simp at this
    simp
    by_cases z : c = 48
    · exact .inl z
    · exact .inr (Classical.byContradiction fun y => z (this y))
  · intro h
    refine TL.ext_tl ?_
    rw [tl_repl _ tl_1, tl_repl _ tl_0, e0, List.filter_filter, List.filter_eq_nil_iff]
    intro c hc
    have := h c hc
    simp at this
    simp
    intro z
    rcases this with y | y
    · exact y
    · exact absurd y z
theorem split_ne {a b : Str} {s : Nat} (hb : tl b = [s]) (hk : b.cps.all (· < 256) = true) : Txt.split a b ≠ [] := fun e => by
  have h := TL.split_spl a b (by rw [hb]; simp) (TL.kind_ok hk)
  rw [e] at h
  have go : ∀ (l : List Nat) (k : Nat) (acc : List Nat), spl (tl b) k acc l ≠ [] := by
    intro l
    induction l with
    | nil =>
      intro k acc
      rw [TL.spl_nil]
      simp
    | cons c r ih =>
      intro k acc
      cases k with
      | zero =>
        cases e : TL.pre (tl b) (c :: r) with
        | true =>
          rw [TL.spl_hit e]
          simp
        | false =>
          rw [TL.spl_miss e]
          exact ih _ _
      | succ k => exact ih k acc
  exact go _ _ _ h.symm
end B

set_option Elab.async false
set_option linter.all false
set_option maxRecDepth 100000
set_option maxHeartbeats 4000000
namespace B
open PySem PySem.Spec PyProof.Rows L2
open SX (S)
open TL (tl joinL spl)
section
variable {P : Program} {w : World} {K : PySem.W.Frag} {mg : Str → Option Value} {base : Heap}
/-- the step that a row writes, None for none -/
def spLread : Sp := fun vs H Q _ => ∃ l : Str, vs = [.str l] ∧ l.length ≤ 100000 ∧
  (stepB (Txt.split l " ") = true → ∀ (t : Addr) (H' : Hp), H t = none → H' t = some (.tup ((Txt.split l " ").map V.str)) → Frm [] H H' → Q (.ref t) H') ∧
  (stepB (Txt.split l " ") = false → ∀ H', Frm [] H H' → Q .non H')
theorem alone_not {w : Str} : w ∈ aloneV → w ≠ "walk" ∧ w ∉ thingV := by
  have : ∀ w ∈ aloneV, w ≠ "walk" ∧ w ∉ thingV := by decide +kernel
  exact this w
theorem c_lread (T : Txt P w K mg base) : CalX CX0 P w K mg base 1 "_law_read" spLread := by
  obtain ⟨fd, F⟩ := T.t.def_ 9 (d := d_lread)
  refine ⟨_, fd, _, F.ok sc_lread (fun vs H Q E h => ?_) (fun cdv A outer s H vs Q E hr h => ?_), He.glo_ok T.X T.G (T.t.fact 9), F.kp, F.bindsN fun _ _ _ _ _ _ us hl => match us, hl with | [_], _ => rfl⟩
  · obtain ⟨l, rfl, _⟩ := h
    rfl
  · obtain ⟨l, rfl, hl, kt, kf⟩ := h
    refine ⟨_, PSs.nox (pss_cons (ps_set (i := 1) sc_lread.nd rfl (Or.inl rfl) (pe_split (pv 0) pe_str))
    (pss_cons (ps_if (pt_cmpR op_in_seq (pe_ix ix_list (pv 1) pe_int (fun _ _ => rfl)) (pe_tup (pa_cons pe_str (pa_cons pe_str (pa_cons pe_str (pa_cons pe_str pa_nil))))) rfl)
      (pss_one (ps_ret (pe_ifExp (pt_cmpR op_eq (pe_callB call_len_seq (by rfl) (n_len T) PySem.boot_len (pa_cons (pv 1) pa_nil)) pe_int (nomark _)) (pe_tup (pa_cons (pe_ix ix_list (pv 1) pe_int (fun _ _ => rfl)) pa_nil)) pe_non)))
      pss_nil)
    (pss_cons (ps_if (pt_cmpR op_ne (pe_callB call_len_seq (by rfl) (n_len T) PySem.boot_len (pa_cons (pv 1) pa_nil)) pe_int (nomark _))
      (pss_one (ps_ret pe_non))
      pss_nil)
    (pss_cons (ps_if (pt_cmpR op_eq (pe_ix ix_list (pv 1) pe_int (fun _ _ => rfl)) pe_str (nomark _))
      (pss_one (ps_ret (pe_ifExp (pt_cmpR op_in_seq (pe_ix ix_list (pv 1) pe_int (fun _ _ => rfl)) (pe_tup (pa_cons pe_str (pa_cons pe_str pa_nil))) rfl) (pe_tupleOf rfl (n_tuple T) (pv 1)) pe_non)))
      pss_nil)
    (pss_cons (ps_set (i := 2) sc_lread.nd rfl (Or.inl rfl) (pe_and (pe_cmpR op_in_seq (pe_ix ix_list (pv 1) pe_int (fun _ _ => rfl)) (pe_tup (pa_cons pe_str (pa_cons pe_str (pa_cons pe_str (pa_cons pe_str pa_nil))))) rfl) (pe_one (pe_chain op_lt op_lt pe_int (pe_callB call_len_str (by rfl) (n_len T) PySem.boot_len (pa_cons (pe_ix ix_list (pv 1) pe_int (fun _ _ => rfl)) pa_nil)) pe_int))))
    (pss_one (ps_ret (pe_ifExp (PW.pt (pw_and (pt_val (pv 2)) (pw_and1 (pt_cmpR op_eq (PEP.pe (pep_repl (pep_repl (pep_ix ix_list (pv 1) (fun _ _ => rfl))))) pe_str (nomark _))))) (pe_tupleOf rfl (n_tuple T) (pv 1)) pe_non)))))))), ?_⟩
    have e2 : (" " : Str).length = 1 := by decide +kernel
    refine ⟨_, rfl, ⟨_, rfl⟩, l, " ", rfl, rfl, by rw [e2]; rfl, Nat.le_trans (show l.length + 2 ≤ 100002 by omega) (by decide), fun p hp => ?_⟩
    have wl : ∀ x ∈ Txt.split l " ", x.length ≤ 100000 := fun x hx => Nat.le_trans (split_le tl_blank (by decide +kernel) x hx) hl
    have wn := split_ne (a := l) tl_blank (by decide +kernel)
    revert wl wn kt kf
    generalize Txt.split l " " = ws
    intro kt kf wl wn
    obtain ⟨w0, r, rfl⟩ : ∃ w0 r, ws = w0 :: r := by
      cases ws with
      | nil => exact absurd rfl wn
      | cons x y => exact ⟨x, y, rfl⟩
    have g1 : Frm [] H (upd H p (.lst ((w0 :: r).map V.str))) := Frm.of (same_upd hp)
    have d1 : (upd H p (.lst ((w0 :: r).map V.str))) p = some (.lst ((w0 :: r).map V.str)) := upd_same
    revert g1 d1
    generalize (upd H p (.lst ((w0 :: r).map V.str))) = H1
    intro g1 d1
    refine ⟨_, rfl, p, _, 0, .str w0, rfl, rfl, SqL.of d1, atI_nat (j := 0) rfl, ?_⟩
    refine ⟨by show 4 ≤ sizeLine; decide, fun t ht => ?_⟩
    have g2 : Frm [] H1 (upd H1 t (.tup (aloneV.map V.str))) := Frm.of (same_upd ht)
    have t2 : (upd H1 t (.tup (aloneV.map V.str))) t = some (.tup (aloneV.map V.str)) := upd_same
    refine ⟨t, aloneV.map V.str, rfl, .inr (SqT.of t2), rfl, rfl, _, rfl, ?_⟩
    have d2 := g2.k _ _ d1 rfl (by simp)
    have f2 := g1.trans g2
    obtain ⟨H2, eH⟩ : ∃ H2, H2 = upd H1 t (.tup [.str "step", .str "round", .str "turn", .str "refresh"]) := ⟨_, rfl⟩
    rw [← eH]
    replace d2 : H2 p = some (.lst ((w0 :: r).map V.str)) := by
      rw [eH]
      exact d2
    replace f2 : Frm [] H H2 := by
      rw [eH]
      exact f2
    rw [inS]
    have len : ∀ {m : Int}, decide (V.int (((w0 :: r).map V.str).length : Nat) = V.int m) = decide (((r.length + 1 : Nat) : Int) = m) := fun {m} => by
      rw [int_dec, List.length_map, List.length_cons]
    -- alone
    refine iteB (fun c => ?_) (fun c => ?_)
    · have ca : w0 ∈ aloneV := of_decide_eq_true c
      refine ⟨_, rfl, p, _, rfl, .inl (SqL.of d2), rfl, _, rfl, ?_⟩
      rw [len]
      cases r with
      | nil =>
        refine ⟨_, rfl, p, _, 0, .str w0, rfl, rfl, SqL.of d2, atI_nat (j := 0) rfl, by show 1 ≤ sizeLine; decide, fun t ht => ?_⟩
        have q : stepB [w0] = true := by
          show inV (.str w0) (aloneV.map V.str) = true
          rw [inS]
          exact c
        exact kt q t _ (f2.b _ ht) upd_same (f2.trans (Frm.of (same_upd ht)))
      | cons x y =>
        rw [decide_eq_false (by rw [List.length_cons]; omega)]
        refine kf ?_ _ f2
        obtain ⟨n1, n2⟩ := alone_not ca
        cases y with
        | nil =>
          show (if w0 = "walk" then _ else inV (.str w0) (thingV.map V.str) && someB x) = false
          rw [if_neg n1, inS, decide_eq_false n2]
          rfl
        | cons z u => rfl
    · have na : w0 ∉ aloneV := of_decide_eq_false c
      refine ⟨_, rfl, p, _, rfl, .inl (SqL.of d2), rfl, _, rfl, ?_⟩
      rw [len]
      clear len
      match r, wl, wn, kt, kf, d1, d2 with
      | [], wl, wn, kt, kf, d1, d2 =>
        refine kf ?_ _ f2
        show inV (.str w0) (aloneV.map V.str) = false
        rw [inS]
        exact c
      | x :: y :: z, wl, wn, kt, kf, d1, d2 =>
        rw [decide_eq_false (by rw [List.length_cons, List.length_cons]; omega)]
        exact kf rfl _ f2
      | [x], wl, wn, kt, kf, d1, d2 =>
        have es : stepB [w0, x] = if w0 = "walk" then inV (.str x) (kindV.map V.str) else inV (.str w0) (thingV.map V.str) && someB x := rfl
        rw [es] at kt kf
        refine ⟨_, rfl, p, _, 0, .str w0, rfl, rfl, SqL.of d2, atI_nat (j := 0) rfl, rfl, _, rfl, ?_⟩
        rw [str_dec]
        refine iteB (fun c2 => ?_) (fun c2 => ?_)
        · rw [if_pos (of_decide_eq_true c2)] at kt kf
          refine ⟨_, rfl, p, _, 1, .str x, rfl, rfl, SqL.of d2, atI_nat (j := 1) rfl, by show 2 ≤ sizeLine; decide, fun t ht => ?_⟩
          have g3 : Frm [] H2 (upd H2 t (.tup (kindV.map V.str))) := Frm.of (same_upd ht)
          refine ⟨t, kindV.map V.str, rfl, .inr (SqT.of upd_same), rfl, rfl, _, rfl, ?_⟩
          refine iteB (fun c3 => ?_) (fun c3 => ?_)
          · refine ⟨_, rfl, .inl ⟨p, _, rfl, SqL.of (g3.k _ _ d2 rfl (by simp)), fun u hu => ?_⟩⟩
            exact kt c3 u _ (f2.b _ (g3.b _ hu)) upd_same ((f2.trans g3).trans (Frm.of (same_upd hu)))
          · exact kf c3 _ (f2.trans g3)
        · rw [if_neg (of_decide_eq_false c2)] at kt kf
          refine ⟨_, rfl, p, _, 0, .str w0, rfl, rfl, SqL.of d2, atI_nat (j := 0) rfl, by show 4 ≤ sizeLine; decide, fun t ht => ?_⟩
          have g3 : Frm [] H2 (upd H2 t (.tup (thingV.map V.str))) := Frm.of (same_upd ht)
          refine ⟨t, thingV.map V.str, rfl, .inr (SqT.of upd_same), rfl, rfl, inV (.str w0) (thingV.map V.str), rfl, ?_⟩
          have d3 := g3.k _ _ d2 rfl (by simp)
          have f3 := f2.trans g3
          rw [inS] at kt kf
          have e1 : decide (1 ≤ x.length) = decide ((0 : Int) < (x.length : Int)) := by rw [decide_eq_decide]; omega
          have e2 : decide (x.length ≤ 12) = decide ((x.length : Int) < 13) := by rw [decide_eq_decide]; omega
          unfold someB at kt kf
          rw [e1, e2] at kt kf
          rw [inS]
          refine iteB (fun c3 => ?_) (fun c3 => ?_)
          · rw [c3, Bool.true_and] at kt kf
            refine ⟨_, rfl, p, _, 1, .str x, rfl, rfl, SqL.of d3, atI_nat (j := 1) rfl, x, rfl, szL (Nat.le_trans (wl x (by simp)) (by decide)), 0, x.length, rfl, rfl, _, rfl, ?_⟩
            refine iteB (fun c4 => ?_) (fun c4 => ?_)
            · rw [c4, Bool.true_and] at kt kf
              refine ⟨_, _, rfl, rfl, ?_⟩
              refine ⟨_, rfl, _, rfl, iteB (fun c5 => ?_) (fun c5 => ?_)⟩
              · rw [c5, Bool.true_and] at kt kf
                have xl := wl x (by simp)
                have e0 : ("" : Str).length = 0 := by decide +kernel
                refine ⟨_, rfl, p, _, 1, .str x, rfl, rfl, SqL.of d3, atI_nat (j := 1) rfl, x, rfl, by rw [e0]; omega, Txt.replace x "0" "", rfl, by rw [e0]; have := repl_len x tl_0; omega, rfl, _, rfl, ?_⟩
                rw [str_dec, repl_bits]
                refine iteB (fun c6 => ?_) (fun c6 => ?_)
                · refine ⟨_, rfl, .inl ⟨p, _, rfl, SqL.of d3, fun u hu => ?_⟩⟩
                  exact kt c6 u _ (f2.b _ (g3.b _ hu)) upd_same (f3.trans (Frm.of (same_upd hu)))
                · exact kf c6 _ f3
              · rw [c5] at kf
                exact kf rfl _ f3
            · rw [c4] at kf
              exact ⟨_, rfl, _, rfl, kf rfl _ f3⟩
          · rw [c3] at kf
            exact ⟨_, rfl, _, rfl, kf rfl _ f3⟩
end
end B

set_option Elab.async false
set_option linter.all false
set_option maxRecDepth 100000
set_option maxHeartbeats 4000000
namespace B
open PySem PySem.Spec PyProof.Rows L2
open SX (S)
open TL (tl joinL spl)
/-! ### a text spoilt: how long it is -/
def wt (xs : List Str) : Nat := (xs.map (·.length)).sum + xs.length
theorem wt_app (xs ys : List Str) : wt (xs ++ ys) = wt xs + wt ys := by
  unfold wt
  rw [List.map_append, List.sum_append, List.length_append]
  omega
theorem wt_take (xs : List Str) (n : Nat) : wt (xs.take n) ≤ wt xs := by
  have h := wt_app (xs.take n) (xs.drop n)
  rw [List.take_append_drop] at h
  omega
theorem wt_drop (xs : List Str) (n : Nat) : wt (xs.drop n) ≤ wt xs := by
  have h := wt_app (xs.take n) (xs.drop n)
  rw [List.take_append_drop] at h
  omega
theorem wt_out (xs : List Str) (n : Nat) : wt (xs.take n) + wt (xs.drop (n + 1)) ≤ wt xs := by
  have h := wt_app (xs.take n) (xs.drop n)
  rw [List.take_append_drop] at h
  have q := wt_drop (xs.drop n) 1
  rw [List.drop_drop] at q
  omega
theorem wt_mem {xs : List Str} {x : Str} (h : x ∈ xs) : x.length + 1 ≤ wt xs := by
  obtain ⟨s, t, rfl⟩ := List.append_of_mem h
  rw [wt_app]
  unfold wt
  rw [List.map_cons, List.sum_cons, List.length_cons]
  omega
theorem join_wt {y : Str} {c : Nat} (hy : tl y = [c]) (xs : List Str) : (Txt.join y xs).length ≤ wt xs := by
  have h := join_len y xs
  have e : y.length = 1 := by rw [TL.len_tl, hy]; rfl
  rw [e] at h
  unfold wt
  omega
theorem spl_wt (s : Nat) : ∀ (l : List Nat) (acc : List Nat), ((spl [s] 0 acc l).map (·.length)).sum + (spl [s] 0 acc l).length ≤ acc.length + l.length + 1
  | [], acc => by
    rw [TL.spl_nil]
    simp
  | c :: r, acc => by
    cases e : TL.pre [s] (c :: r) with
    | true =>
      rw [TL.spl_hit e]
      have := spl_wt s r []
      show acc.length + (((spl [s] 0 [] r).map (·.length)).sum) + ((spl [s] 0 [] r).length + 1) ≤ acc.length + (r.length + 1) + 1
      rw [List.length_nil] at this
      omega
    | false =>
      rw [TL.spl_miss e]
      have := spl_wt s r (acc ++ [c])
      rw [List.length_append, List.length_singleton] at this
      rw [List.length_cons]
      omega
theorem split_wt {a b : Str} {s : Nat} (hb : tl b = [s]) (hk : b.cps.all (· < 256) = true) : wt (Txt.split a b) ≤ a.length + 1 := by
  have h := TL.split_spl a b (by rw [hb]; simp) (TL.kind_ok hk)
  have q := spl_wt s (tl a) []
  rw [hb] at h
  rw [← h, List.map_map, List.length_map, List.length_nil] at q
  have e : (Txt.split a b).map ((·.length) ∘ tl) = (Txt.split a b).map (·.length) := List.map_congr_left fun x _ => (TL.len_tl x).symm
  rw [e, ← TL.len_tl] at q
  unfold wt
  omega
theorem sum_wt (xs : List Str) : (xs.map (·.length)).sum + xs.length * 1 = wt xs := by
  unfold wt
  omega
theorem frm_last {H H1 : Hp} {p : Addr} {o : HO} (f : Frm [] H (upd H1 p o)) : (upd H1 p o) p = some o := upd_same
def sgnS : Str := "01 \nabcdefghijklmnopqrstuvwxyz23456789!#$&'()*+,-./:;<=>?@ABCDEFGHIJKLMNOPQRSTUVWXYZ[]^_{|}~"
def oddW : List Str := ["", "0", "01", "2", "all", "alarm", "any", "hang", "off", "step", "walk", "Turn", Txt.mul "0" 12, Txt.mul "1" 13]
theorem oddW_len : ∀ x ∈ oddW, x.length ≤ 13 := by decide +kernel
theorem rep12 : PySem.MulOk "0" 12 := ⟨by decide, fun _ _ => by decide +kernel, fun _ _ => by decide +kernel⟩
theorem rep13 : PySem.MulOk "1" 13 := ⟨by decide, fun _ _ => by decide +kernel, fun _ _ => by decide +kernel⟩
theorem cutS_to (xs : List Str) (n : Nat) : cutV (xs.map V.str) none (some (n : Int)) = (xs.take n).map V.str := by
  show ((xs.map V.str).drop 0).take (min n (xs.map V.str).length - 0) = _
  rw [List.drop_zero, Nat.sub_zero, List.map_take]
  rcases Nat.le_total n (xs.map V.str).length with h | h
  · rw [Nat.min_eq_left h]
  · rw [Nat.min_eq_right h, List.take_of_length_le (Nat.le_refl _), List.take_of_length_le h]
theorem cutS_from (xs : List Str) (n : Nat) : cutV (xs.map V.str) (some (n : Int)) none = (xs.drop n).map V.str := by
  show ((xs.map V.str).drop (min n (xs.map V.str).length)).take _ = _
  rw [List.map_drop]
  have e : (xs.map V.str).drop (min n (xs.map V.str).length) = (xs.map V.str).drop n := by
    rcases Nat.le_total n (xs.map V.str).length with h | h
    · rw [Nat.min_eq_left h]
    · rw [Nat.min_eq_right h, List.drop_eq_nil_of_le (Nat.le_refl _), List.drop_eq_nil_of_le h]
  rw [e]
  refine List.take_of_length_le ?_
  rw [List.length_drop]
  show _ ≤ (xs.map V.str).length - min n (xs.map V.str).length
  omega
section
variable {P : Program} {w : World} {K : PySem.W.Frag} {mg : Str → Option Value} {base : Heap}
def spSpo (K : PySem.W.Frag) : Sp := fun vs H Q _ => ∃ (r a : Addr) (t : Str), vs = [.ref r, .str t] ∧ RowAt r a H ∧ Scr K a H ∧ t.length ≤ 20000 ∧
  ∀ (t' : Str) (H' : Hp), t'.length ≤ 4 * t.length + 40 → RowAt r a H' → Frm [r] H H' → Q (.str t') H'
theorem c_lspoilt (T : Txt P w K mg base) : CalX CX0 P w K mg base 2 "_law_spoilt" (spSpo K) := by
  obtain ⟨fd, F⟩ := T.t.def_ 10 (d := d_lspoilt)
  refine ⟨_, fd, _, F.ok sc_lspoilt (fun vs H Q E h => ?_) (fun cdv A outer s H vs Q E hr h => ?_), He.glo_ok T.X T.G (T.t.fact 10), F.kp, F.bindsN fun _ _ _ _ _ _ us hl => match us, hl with | [_, _], _ => rfl⟩
  · obtain ⟨r, a, t, rfl, _⟩ := h
    rfl
  · obtain ⟨r, a, t, rfl, hR, hS, hl, k⟩ := h
    refine ⟨_, PSs.nox (pss_cons (ps_set (i := 2) sc_lspoilt.nd rfl (Or.inl rfl) (pe_cx (c_ltaken T) hr (by decide) rfl pass0 (pa_cons (pv 0) (pa_cons pe_int pa_nil))))
    (pss_cons (ps_set (i := 3) sc_lspoilt.nd rfl (Or.inl rfl) (pe_cx (c_ltaken T) hr (by decide) rfl pass0 (pa_cons (pv 0) (pa_cons (pe_op op_add (pe_callB call_len_str (by rfl) (n_len T) PySem.boot_len (pa_cons (pv 1) pa_nil)) pe_int) pa_nil))))
    (pss_cons (ps_set (i := 4) sc_lspoilt.nd rfl (Or.inl rfl) pe_str)
    (pss_cons (ps_set (i := 5) sc_lspoilt.nd rfl (Or.inl rfl) (pe_ix ix_str (pv 4) (pe_cx (c_ltaken T) hr (by decide) rfl pass0 (pa_cons (pv 0) (pa_cons (pe_ix ix_list (pe_lst (pa_cons pe_int (pa_cons (pe_callB call_len_str (by rfl) (n_len T) PySem.boot_len (pa_cons (pv 4) pa_nil)) pa_nil))) (pe_cx (c_ltaken T) hr (by decide) rfl pass0 (pa_cons (pv 0) (pa_cons pe_int pa_nil))) (fun _ _ => rfl)) pa_nil))) (fun _ _ => rfl)))
    (pss_cons (ps_if (pt_cmpR op_lt (pv 2) pe_int (nomark _))
      (pss_one (ps_ret (pe_op op_add_str (pe_op op_add_str (pe_slice C8.sl_txt (pv 1) po_none (po_some (pv 3))) (pe_ix ix_list (pe_lst (pa_cons (pv 5) (pa_cons pe_str (pa_cons (pv 5) pa_nil)))) (pv 2) (fun _ _ => rfl))) (pe_slice C8.sl_txt (pv 1) (po_some (pe_op op_add (pv 3) (pe_callTy call_int1 (by rfl) (n_int T) (by decide +kernel) (pa_cons (pe_cmpR op_gt (pv 2) pe_int (nomark _)) pa_nil)))) po_none))))
      pss_nil)
    (pss_cons (ps_set (i := 6) sc_lspoilt.nd rfl (Or.inl rfl) (pe_split (pv 1) pe_str))
    (pss_cons (ps_set (i := 7) sc_lspoilt.nd rfl (Or.inl rfl) (pe_cx (c_ltaken T) hr (by decide) rfl pass0 (pa_cons (pv 0) (pa_cons (pe_callB call_len_seq (by rfl) (n_len T) PySem.boot_len (pa_cons (pv 6) pa_nil)) pa_nil))))
    (pss_cons (ps_if (pt_cmpR op_lt (pv 2) pe_int (nomark _))
      (pss_one (ps_ret (pe_join pe_str (pe_ix ix_list (pe_lst (pa_cons (pe_op op_cat (pe_slice sl_list (pv 6) po_none (po_some (pv 7))) (pe_slice sl_list (pv 6) (po_some (pe_op op_add (pv 7) pe_int)) po_none)) (pa_cons (pe_op op_cat (pe_slice sl_list (pv 6) po_none (po_some (pe_op op_add (pv 7) pe_int))) (pe_slice sl_list (pv 6) (po_some (pv 7)) po_none)) (pa_cons (pe_op op_cat (pe_slice sl_list (pv 6) (po_some (pv 7)) po_none) (pe_slice sl_list (pv 6) po_none (po_some (pv 7)))) pa_nil)))) (pe_op op_sub (pv 2) pe_int) (fun _ _ => rfl)))))
      pss_nil)
    (pss_cons (ps_set (i := 8) sc_lspoilt.nd rfl (Or.inl rfl) (pe_split (pe_ix ix_list (pv 6) (pv 7) (fun _ _ => rfl)) pe_str))
    (pss_cons (ps_set (i := 9) sc_lspoilt.nd rfl (Or.inl rfl) (pe_cx (c_ltaken T) hr (by decide) rfl pass0 (pa_cons (pv 0) (pa_cons (pe_callB call_len_seq (by rfl) (n_len T) PySem.boot_len (pa_cons (pv 8) pa_nil)) pa_nil))))
    (pss_cons (ps_set (i := 10) sc_lspoilt.nd rfl (Or.inl rfl) (pe_lst (pa_cons pe_str (pa_cons pe_str (pa_cons pe_str (pa_cons pe_str (pa_cons pe_str (pa_cons pe_str (pa_cons pe_str (pa_cons pe_str (pa_cons pe_str (pa_cons pe_str (pa_cons pe_str (pa_cons pe_str (pa_cons (pe_op op_rep_str pe_str pe_int) (pa_cons (pe_op op_rep_str pe_str pe_int) pa_nil))))))))))))))))
    (pss_cons (ps_set (i := 8) sc_lspoilt.nd rfl (Or.inl rfl) (pe_op op_cat (pe_op op_cat (pe_slice sl_list (pv 8) po_none (po_some (pv 9))) (pe_ix ix_list (pe_lst (pa_cons (pe_lst pa_nil) (pa_cons (pe_op op_rep (pe_lst (pa_cons (pe_ix ix_list (pv 8) (pv 9) (fun _ _ => rfl)) pa_nil)) pe_int) (pa_cons (pe_lst (pa_cons (pe_ix ix_list (pv 10) (pe_cx (c_ltaken T) hr (by decide) rfl pass0 (pa_cons (pv 0) (pa_cons pe_int pa_nil))) (fun _ _ => rfl)) pa_nil)) pa_nil)))) (pe_op op_sub (pv 2) pe_int) (fun _ _ => rfl))) (pe_slice sl_list (pv 8) (po_some (pe_op op_add (pv 9) pe_int)) po_none)))
    (pss_one (ps_ret (pe_join pe_str (pe_op op_cat (pe_op op_cat (pe_slice sl_list (pv 6) po_none (po_some (pv 7))) (pe_lst (pa_cons (pe_join pe_str (pv 8)) pa_nil))) (pe_slice sl_list (pv 6) (po_some (pe_op op_add (pv 7) pe_int)) po_none))))))))))))))))), ?_⟩
    refine ⟨_, rfl, r, a, 9, rfl, hR, hS, by decide, by decide, fun way H1 y0 y1 hR1 f1 => ?_⟩
    refine ⟨_, rfl, _, rfl, t, rfl, szL (by omega), t.length, 1, rfl, rfl, r, a, (t.length : Int) + 1, rfl, hR1, f1.scr hR.nl hS, by omega, by omega, fun at1 H2 a0 a1 hR2 f2 => ?_⟩
    have f2 := f1.trans f2
    obtain ⟨n, rfl⟩ : ∃ n : Nat, at1 = n := ⟨at1.toNat, by omega⟩
    -- the sign
    have sl : sgnS.length ≤ 100 ∧ 4 ≤ sgnS.length := by decide +kernel
    refine ⟨_, rfl, _, rfl, _, rfl, sgnS, rfl, szL (by omega), by show 2 ≤ sizeLine; decide, fun D hD => ?_⟩
    have hR3 : RowAt r a (upd H2 D (.lst [.int 4, .int (sgnS.length : Nat)])) := hR2.ne (hR2.out hD)
    have f3 : Frm [r] H (upd H2 D (.lst [.int 4, .int (sgnS.length : Nat)])) := f2.trans (Frm.of (same_upd hD))
    refine ⟨_, rfl, r, a, 2, rfl, hR3, f3.scr hR.nl hS, by decide, by decide, fun v H4 v0 v1 hR4 f4 => ?_⟩
    have d4 : H4 D = some (.lst [.int 4, .int (sgnS.length : Nat)]) := f4.k _ _ upd_same rfl (by simpa using (hR2.out hD).symm)
    have f4 := f3.trans f4
    obtain ⟨m, m0, m1, hat⟩ : ∃ m : Int, 0 < m ∧ m ≤ (sgnS.length : Nat) ∧ atI [V.int 4, .int (sgnS.length : Nat)] v = some (.int m) := by
      have hv : v = 0 ∨ v = 1 := by omega
      rcases hv with rfl | rfl
      · exact ⟨4, by decide, by omega, rfl⟩
      · exact ⟨_, by omega, Int.le_refl _, rfl⟩
    refine ⟨D, _, v, _, rfl, rfl, SqL.of d4, hat, ?_⟩
    refine ⟨r, a, m, rfl, hR4, f4.scr hR.nl hS, m0, by omega, fun u H5 u0 u1 hR5 f5 => ?_⟩
    have f5 := f4.trans f5
    obtain ⟨c, hc⟩ : ∃ c, atI sgnS.cps.toList u = some c := by
      obtain ⟨j, rfl⟩ : ∃ j : Nat, u = j := ⟨u.toNat, by omega⟩
      have hj : j < sgnS.cps.toList.length := by
        have : sgnS.length = sgnS.cps.toList.length := TL.len_tl _
        omega
      exact ⟨_, atI_nat (List.getElem?_eq_getElem hj)⟩
    refine ⟨sgnS, u, c, rfl, rfl, szL (by omega), hc, ?_⟩
    -- a sign put in, left out, put in another's place
    refine ⟨_, rfl, _, _, rfl, rfl, _, rfl, iteB (fun c1 => ?_) (fun c1 => ?_)⟩
    · have w3 : way < 3 := of_decide_eq_true c1
      refine ⟨_, rfl, _, rfl, (n : Int), rfl, t, rfl, szL (by omega), ?_⟩
      have hRL : ∀ {L o}, H5 L = none → RowAt r a (upd H5 L o) := fun h => hR5.ne (hR5.out h)
      refine ⟨_, rfl, _, rfl, by show 3 ≤ sizeLine; decide, fun L hL => ?_⟩
      obtain ⟨x, hx, hat2⟩ : ∃ x : Str, x.length ≤ 1 ∧ atI [V.str (⟨#[c]⟩ : Str), V.str "", V.str (⟨#[c]⟩ : Str)] way = some (.str x) := by
        have hv : way = 0 ∨ way = 1 ∨ way = 2 := by omega
        rcases hv with rfl | rfl | rfl
        · exact ⟨⟨#[c]⟩, Nat.le_refl 1, rfl⟩
        · exact ⟨"", by decide +kernel, rfl⟩
        · exact ⟨⟨#[c]⟩, Nat.le_refl 1, rfl⟩
      have s1 := PyProof.Txt.length_slice_le t none (some (n : Int))
      refine ⟨_, rfl, L, _, way, .str x, rfl, rfl, SqL.of upd_same, hat2, ?_⟩
      refine ⟨_, _, rfl, rfl, szL (by omega), ?_⟩
      refine ⟨_, rfl, _, rfl, _, rfl, way, 0, rfl, rfl, .inr ⟨_, rfl, (n : Int), _, rfl, rfl, _, rfl, t, rfl, szL (by omega), ?_⟩⟩
      have s2 := PyProof.Txt.length_slice_le t (some ((n : Int) + (if decide (0 < way) = true then 1 else 0))) none
      refine ⟨_, _, rfl, rfl, szL (by rw [slen]; omega), ?_⟩
      exact k _ _ (by rw [slen, slen]; omega) (hRL hL) (f5.trans (Frm.of (same_upd hL)))
    have e1 : ("\n" : Str).length = 1 := by decide +kernel
    have e2 : (" " : Str).length = 1 := by decide +kernel
    refine ⟨_, rfl, ⟨_, rfl⟩, t, "\n", rfl, rfl, by rw [e1]; rfl, Nat.le_trans (show t.length + 2 ≤ 20002 by omega) (by decide), fun pl hpl => ?_⟩
    have lw := split_wt (a := t) tl_nl (by decide +kernel)
    have ln := split_ne (a := t) tl_nl (by decide +kernel)
    revert lw ln
    generalize Txt.split t "\n" = ls
    intro lw ln
    have lpos := List.length_pos_iff.mpr ln
    have lmax : ls.length ≤ wt ls := Nat.le_add_left _ _
    have l6 : (upd H5 pl (.lst (ls.map V.str))) pl = some (.lst (ls.map V.str)) := upd_same
    have f6 : Frm [r] H (upd H5 pl (.lst (ls.map V.str))) := f5.trans (Frm.of (same_upd hpl))
    have hR6 : RowAt r a (upd H5 pl (.lst (ls.map V.str))) := hR5.ne (hR5.out hpl)
    have npr : pl ≠ r := (hR5.out hpl).symm
    revert l6 f6 hR6
    generalize (upd H5 pl (.lst (ls.map V.str))) = H6
    intro l6 f6 hR6
    refine ⟨_, rfl, _, rfl, pl, _, rfl, .inl (SqL.of l6), ?_⟩
    refine ⟨r, a, (ls.length : Int), by rw [List.length_map]; rfl, hR6, f6.scr hR.nl hS, by omega, by omega, fun k1 H7 k0 kl hR7 f7 => ?_⟩
    obtain ⟨q, rfl⟩ : ∃ q : Nat, k1 = q := ⟨k1.toNat, by omega⟩
    have l7 := f7.k _ _ l6 rfl (by simpa using npr)
    have f7 := f6.trans f7
    -- rows left out, told twice, turned
    refine ⟨_, rfl, _, _, rfl, rfl, _, rfl, iteB (fun c2 => ?_) (fun c2 => ?_)⟩
    · have w3 : ¬ way < 3 := of_decide_eq_false c1
      have w6 : way < 6 := of_decide_eq_true c2
      have eq1 : (q : Int) + 1 = ((q + 1 : Nat) : Int) := by omega
      have tk : ∀ n, (ls.take n).length ≤ ls.length := fun n => by rw [List.length_take]; omega
      have dk : ∀ n, (ls.drop n).length ≤ ls.length := fun n => by rw [List.length_drop]; omega
      have cl : ∀ A B : List Str, A.length ≤ ls.length → B.length ≤ ls.length → (A.map V.str).length + (B.map V.str).length ≤ sizeLine := fun A B h1 h2 => by
        rw [List.length_map, List.length_map]
        exact szL (by omega)
      refine ⟨⟨_, rfl⟩, _, rfl, _, rfl, (q : Int), rfl, pl, _, rfl, SqL.of l7, fun p1 h1 => ?_⟩
      rw [cutS_to]
      refine ⟨_, rfl, _, rfl, (q : Int), 1, rfl, rfl, _, rfl, pl, _, rfl, SqL.of (same_upd h1 _ _ l7), fun p2 h2 => ?_⟩
      rw [eq1, cutS_from]
      refine ⟨p1, p2, _, _, rfl, rfl, same_upd h2 _ _ upd_same, upd_same, cl _ _ (tk _) (dk _), fun ca hca => ?_⟩
      rw [← List.map_append]
      have m1 := (same_upd (o := .lst ((ls.take q ++ ls.drop (q + 1)).map V.str)) hca _ _ (same_upd h2 _ _ (same_upd h1 _ _ l7)))
      refine ⟨_, rfl, _, rfl, (q : Int), 1, rfl, rfl, _, rfl, pl, _, rfl, SqL.of m1, fun p3 h3 => ?_⟩
      rw [eq1, cutS_to]
      refine ⟨_, rfl, _, rfl, (q : Int), rfl, pl, _, rfl, SqL.of (same_upd h3 _ _ m1), fun p4 h4 => ?_⟩
      rw [cutS_from]
      refine ⟨p3, p4, _, _, rfl, rfl, same_upd h4 _ _ upd_same, upd_same, cl _ _ (tk _) (dk _), fun cb hcb => ?_⟩
      rw [← List.map_append]
      have m2 := (same_upd (o := .lst ((ls.take (q + 1) ++ ls.drop q).map V.str)) hcb _ _ (same_upd h4 _ _ (same_upd h3 _ _ m1)))
      refine ⟨_, rfl, _, rfl, (q : Int), rfl, pl, _, rfl, SqL.of m2, fun p5 h5 => ?_⟩
      rw [cutS_from]
      refine ⟨_, rfl, _, rfl, (q : Int), rfl, pl, _, rfl, SqL.of (same_upd h5 _ _ m2), fun p6 h6 => ?_⟩
      rw [cutS_to]
      refine ⟨p5, p6, _, _, rfl, rfl, same_upd h6 _ _ upd_same, upd_same, cl _ _ (dk _) (tk _), fun cc hcc => ?_⟩
      rw [← List.map_append]
      refine ⟨by show 3 ≤ sizeLine; decide, fun L hL => ?_⟩
      have gA : Frm [] H7 _ := (((((((((Frm.of (same_upd h1)).trans (Frm.of (same_upd h2))).trans (Frm.of (same_upd hca))).trans (Frm.of (same_upd h3))).trans (Frm.of (same_upd h4))).trans (Frm.of (same_upd hcb))).trans (Frm.of (same_upd h5))).trans (Frm.of (same_upd h6))).trans (Frm.of (same_upd hcc))).trans (Frm.of (same_upd (o := .lst [.ref ca, .ref cb, .ref cc]) hL))
      have fine : ∀ xs, wt xs ≤ 2 * wt ls → (xs.map (·.length)).sum + xs.length * ("\n" : Str).length ≤ 16777216 ∧ (Txt.join "\n" xs).length ≤ 4 * t.length + 40 := fun xs h => by
        have := join_wt tl_nl xs
        rw [e1, sum_wt]
        omega
      have fr := f7.trans (gA.mono (by simp))
      have rr : RowAt r a _ := (gA.toT .nil (K := K)).row (by simp) hR7
      have w1 := wt_take ls q
      have w2 := wt_take ls (q + 1)
      have w3' := wt_drop ls q
      have w4 := wt_drop ls (q + 1)
      have hv : way = 3 ∨ way = 4 ∨ way = 5 := by omega
      rcases hv with rfl | rfl | rfl
      · have b := fine (ls.take q ++ ls.drop (q + 1)) (by rw [wt_app]; omega)
        exact ⟨_, rfl, 3, 3, rfl, rfl, L, _, 0, .ref ca, rfl, rfl, SqL.of upd_same, rfl, "\n", ca, _, rfl, rfl, .inl (SqL.of (same_upd hL _ _ (same_upd hcc _ _ (same_upd h6 _ _ (same_upd h5 _ _ (same_upd hcb _ _ (same_upd h4 _ _ (same_upd h3 _ _ upd_same)))))))), b.1, k _ _ b.2 rr fr⟩
      · have b := fine (ls.take (q + 1) ++ ls.drop q) (by rw [wt_app]; omega)
        exact ⟨_, rfl, 4, 3, rfl, rfl, L, _, 1, .ref cb, rfl, rfl, SqL.of upd_same, rfl, "\n", cb, _, rfl, rfl, .inl (SqL.of (same_upd hL _ _ (same_upd hcc _ _ (same_upd h6 _ _ (same_upd h5 _ _ upd_same))))), b.1, k _ _ b.2 rr fr⟩
      · have b := fine (ls.drop q ++ ls.take q) (by rw [wt_app]; omega)
        exact ⟨_, rfl, 5, 3, rfl, rfl, L, _, 2, .ref cc, rfl, rfl, SqL.of upd_same, rfl, "\n", cc, _, rfl, rfl, .inl (SqL.of (same_upd hL _ _ upd_same)), b.1, k _ _ b.2 rr fr⟩
    · have w6 : ¬ way < 6 := of_decide_eq_false c2
      -- a row's words
      obtain ⟨l0, hl0, hatl⟩ := at_strs (xs := ls) (v := (q : Int)) (by omega) kl
      have lw0 := wt_mem hl0
      refine ⟨_, rfl, _, rfl, pl, _, (q : Int), .str l0, rfl, rfl, SqL.of l7, hatl, ⟨_, rfl⟩, l0, " ", rfl, rfl, by rw [e2]; rfl, Nat.le_trans (show l0.length + 2 ≤ 30000 by omega) (by decide), fun pw hpw => ?_⟩
      have ww := split_wt (a := l0) tl_blank (by decide +kernel)
      have wn := split_ne (a := l0) tl_blank (by decide +kernel)
      revert ww wn
      generalize Txt.split l0 " " = ws
      intro ww wn
      have wpos := List.length_pos_iff.mpr wn
      have wmax : ws.length ≤ wt ws := Nat.le_add_left _ _
      have l8 := same_upd (o := .lst (ws.map V.str)) hpw _ _ l7
      have u8 : (upd H7 pw (.lst (ws.map V.str))) pw = some (.lst (ws.map V.str)) := upd_same
      have f8 : Frm [r] H (upd H7 pw (.lst (ws.map V.str))) := f7.trans (Frm.of (same_upd hpw))
      have hR8 : RowAt r a (upd H7 pw (.lst (ws.map V.str))) := hR7.ne (hR7.out hpw)
      have nwr : pw ≠ r := (hR7.out hpw).symm
      revert l8 u8 f8 hR8
      generalize (upd H7 pw (.lst (ws.map V.str))) = H8
      intro l8 u8 f8 hR8
      refine ⟨_, rfl, _, rfl, pw, _, rfl, .inl (SqL.of u8), ?_⟩
      refine ⟨r, a, (ws.length : Int), by rw [List.length_map]; rfl, hR8, f8.scr hR.nl hS, by omega, by omega, fun j1 H9 j0 jl hR9 f9 => ?_⟩
      obtain ⟨m, rfl⟩ : ∃ m : Nat, j1 = m := ⟨j1.toNat, by omega⟩
      have l9 := f9.k _ _ l8 rfl (by simpa using npr)
      have u9 := f9.k _ _ u8 rfl (by simpa using nwr)
      have f9 := f8.trans f9
      obtain ⟨w0, hw0, hatw⟩ := at_strs (xs := ws) (v := (m : Int)) (by omega) jl
      have ww0 := wt_mem hw0
      refine ⟨"0", 12, rfl, rfl, rep12, "1", 13, rfl, rfl, rep13, by show 14 ≤ sizeLine; decide, fun D2 hD2 => ?_⟩
      refine ⟨_, rfl, _, rfl, (m : Int), rfl, pw, _, rfl, SqL.of (same_upd hD2 _ _ u9), fun p1 h1 => ?_⟩
      rw [cutS_to]
      refine ⟨Nat.zero_le _, fun p2 h2 => ?_⟩
      refine ⟨_, rfl, _, rfl, pw, _, (m : Int), .str w0, rfl, rfl, SqL.of (same_upd h2 _ _ (same_upd h1 _ _ (same_upd hD2 _ _ u9))), hatw, by show 1 ≤ sizeLine; decide, fun p3 h3 => ?_⟩
      refine ⟨p3, 2, _, rfl, rfl, upd_same, by decide, by decide, by show 1 * 2 ≤ sizeLine; decide, fun p4 h4 => ?_⟩
      have gx : Frm [] H9 _ := ((((Frm.of (same_upd hD2)).trans (Frm.of (same_upd h1))).trans (Frm.of (same_upd h2))).trans (Frm.of (same_upd h3))).trans (Frm.of (same_upd (o := .lst (List.replicate (2 : Int).toNat [V.str w0]).flatten) h4))
      have xD := same_upd (o := .lst (List.replicate (2 : Int).toNat [V.str w0]).flatten) h4 _ _ (same_upd h3 _ _ (same_upd h2 _ _ (same_upd h1 _ _ upd_same)))
      have x1 := same_upd (o := .lst (List.replicate (2 : Int).toNat [V.str w0]).flatten) h4 _ _ (same_upd h3 _ _ (same_upd h2 _ _ upd_same))
      have x2 := same_upd (o := .lst (List.replicate (2 : Int).toNat [V.str w0]).flatten) h4 _ _ (same_upd h3 _ _ upd_same)
      have xw := gx.k _ _ u9 rfl (by simp)
      have xl := gx.k _ _ l9 rfl (by simp)
      have hRX := (gx.toT .nil (K := K)).row (by simp) hR9
      have fX := f9.trans (gx.mono (by simp))
      have x4 := frm_last gx
      have nD : D2 ≠ r := (hR9.out hD2).symm
      have nx : ∀ {p : Addr}, H9 p = none → p ≠ r := fun h => (hR9.out h).symm
      have n1 : p1 ≠ r := nx (upd_back h1)
      have n2 : p2 ≠ r := nx (upd_back (upd_back h2))
      have n4 : p4 ≠ r := nx (upd_back (upd_back (upd_back (upd_back h4))))
      clear gx
      revert xD x1 x2 x4 xw xl hRX fX
      generalize (upd (upd (upd (upd (upd H9 D2 _) p1 _) p2 _) p3 _) p4 _) = HX
      intro xD x1 x2 xw xl hRX fX x4
      replace xD : HX D2 = some (.lst (oddW.map V.str)) := xD
      replace x4 : HX p4 = some (.lst ([w0, w0].map V.str)) := x4
      refine ⟨_, rfl, _, rfl, r, a, 14, rfl, hRX, fX.scr hR.nl hS, by decide, by decide, fun z H10 z0 z1 hR10 f10 => ?_⟩
      have yD := f10.k _ _ xD rfl (by simpa using nD)
      have y1 := f10.k _ _ x1 rfl (by simpa using n1)
      have y2 := f10.k _ _ x2 rfl (by simpa using n2)
      have y4 := f10.k _ _ x4 rfl (by simpa using n4)
      have yw := f10.k _ _ xw rfl (by simpa using nwr)
      have yl := f10.k _ _ xl rfl (by simpa using npr)
      have f10 := fX.trans f10
      obtain ⟨o0, ho0, hato⟩ := at_strs (xs := oddW) z0 (by show z < 14; exact z1)
      have ol := oddW_len o0 ho0
      refine ⟨D2, oddW.map V.str, z, .str o0, rfl, rfl, SqL.of yD, hato, by show 1 ≤ sizeLine; decide, fun p5 h5 => ?_⟩
      refine ⟨by show 3 ≤ sizeLine; decide, fun L hL => ?_⟩
      have gL : Frm [] H10 _ := (Frm.of (same_upd h5)).trans (Frm.of (same_upd (o := .lst [.ref p2, .ref p4, .ref p5]) hL))
      have v1 := gL.k _ _ y1 rfl (by simp)
      have v2 := gL.k _ _ y2 rfl (by simp)
      have v4 := gL.k _ _ y4 rfl (by simp)
      have vw := gL.k _ _ yw rfl (by simp)
      have vl := gL.k _ _ yl rfl (by simp)
      have v5 := same_upd (o := .lst [.ref p2, .ref p4, .ref p5]) hL _ _ (upd_same (a := p5) (o := .lst [.str o0]))
      have vL := frm_last gL
      have hRL := (gL.toT .nil (K := K)).row (by simp) hR10
      have fL := f10.trans (gL.mono (by simp))
      clear gL
      revert v1 v2 v4 vw vl v5 vL hRL fL
      generalize (upd (upd H10 p5 _) L _) = HL
      intro v1 v2 v4 vw vl v5 vL hRL fL
      obtain ⟨cx, mid, hatc, hmid, wm⟩ : ∃ (cx : Addr) (mid : List Str), atI [V.ref p2, V.ref p4, V.ref p5] (way - 6) = some (.ref cx) ∧ HL cx = some (.lst (mid.map V.str)) ∧ wt mid ≤ 2 * wt ws + 14 := by
        have hv : way = 6 ∨ way = 7 ∨ way = 8 := by omega
        rcases hv with rfl | rfl | rfl
        · exact ⟨p2, [], rfl, v2, Nat.zero_le _⟩
        · exact ⟨p4, [w0, w0], rfl, v4, by show (w0.length + (w0.length + 0)) + 2 ≤ _; omega⟩
        · exact ⟨p5, [o0], rfl, v5, by show (o0.length + 0) + 1 ≤ _; omega⟩
      have eqm : (m : Int) + 1 = ((m + 1 : Nat) : Int) := by omega
      have eqq : (q : Int) + 1 = ((q + 1 : Nat) : Int) := by omega
      have mmax : mid.length ≤ wt mid := Nat.le_add_left _ _
      have wo := wt_out ws m
      have lo := wt_out ls q
      have t1 : (ws.take m).length ≤ ws.length := by rw [List.length_take]; omega
      have t2 : (ws.drop (m + 1)).length ≤ ws.length := by rw [List.length_drop]; omega
      have t3 : (ls.take q).length ≤ ls.length := by rw [List.length_take]; omega
      have t4 : (ls.drop (q + 1)).length ≤ ls.length := by rw [List.length_drop]; omega
      refine ⟨_, rfl, way, 6, rfl, rfl, L, _, way - 6, .ref cx, rfl, rfl, SqL.of vL, hatc, ?_⟩
      refine ⟨p1, cx, _, _, rfl, rfl, v1, hmid, by rw [List.length_map, List.length_map]; exact szL (by omega), fun p6 h6 => ?_⟩
      rw [← List.map_append]
      refine ⟨_, rfl, _, rfl, (m : Int), 1, rfl, rfl, _, rfl, pw, _, rfl, SqL.of (same_upd h6 _ _ vw), fun p7 h7 => ?_⟩
      rw [eqm, cutS_from]
      refine ⟨p6, p7, _, _, rfl, rfl, same_upd h7 _ _ upd_same, upd_same, by rw [List.length_map, List.length_map, List.length_append]; exact szL (by omega), fun p8 h8 => ?_⟩
      rw [← List.map_append]
      have W2 : wt (ws.take m ++ mid ++ ws.drop (m + 1)) ≤ 3 * wt ws + 14 := by
        rw [wt_app, wt_app]
        omega
      revert W2
      generalize ws.take m ++ mid ++ ws.drop (m + 1) = W2
      intro W2w
      have gN : Frm [] HL _ := ((Frm.of (same_upd h6)).trans (Frm.of (same_upd h7))).trans (Frm.of (same_upd (o := .lst (W2.map V.str)) h8))
      have vl8 := gN.k _ _ vl rfl (by simp)
      have v8 := frm_last gN
      refine ⟨⟨_, rfl⟩, _, rfl, _, rfl, (q : Int), rfl, pl, _, rfl, SqL.of vl8, fun p9 h9 => ?_⟩
      rw [cutS_to]
      have jb := join_wt tl_blank W2
      refine ⟨⟨_, rfl⟩, _, rfl, " ", p8, W2, rfl, rfl, .inl (SqL.of (same_upd h9 _ _ v8)), by rw [e2, sum_wt]; omega, by show 1 ≤ sizeLine; decide, fun p10 h10 => ?_⟩
      refine ⟨p9, p10, _, _, rfl, rfl, same_upd h10 _ _ upd_same, upd_same, by rw [List.length_map]; exact szL (by show (ls.take q).length + 1 ≤ 1000000; omega), fun p11 h11 => ?_⟩
      refine ⟨_, rfl, _, rfl, (q : Int), 1, rfl, rfl, _, rfl, pl, _, rfl, SqL.of (same_upd h11 _ _ (same_upd h10 _ _ (same_upd h9 _ _ vl8))), fun p12 h12 => ?_⟩
      rw [eqq, cutS_from]
      refine ⟨p11, p12, _, _, rfl, rfl, same_upd h12 _ _ upd_same, upd_same, by rw [List.length_append, List.length_map, List.length_map]; exact szL (by show (ls.take q).length + 1 + (ls.drop (q + 1)).length ≤ 1000000; omega), fun p13 h13 => ?_⟩
      have em : (ls.take q).map V.str ++ [V.str (Txt.join " " W2)] ++ (ls.drop (q + 1)).map V.str = (ls.take q ++ [Txt.join " " W2] ++ ls.drop (q + 1)).map V.str := by
        rw [List.map_append, List.map_append]
        rfl
      rw [em]
      have w3 : wt (ls.take q ++ [Txt.join " " W2] ++ ls.drop (q + 1)) ≤ wt ls + (3 * wt ws + 15) := by
        rw [wt_app, wt_app]
        have : wt [Txt.join " " W2] = (Txt.join " " W2).length + 1 := rfl
        omega
      have jb2 := join_wt tl_nl (ls.take q ++ [Txt.join " " W2] ++ ls.drop (q + 1))
      have gZ : Frm [] HL _ := ((((gN.trans (Frm.of (same_upd h9))).trans (Frm.of (same_upd h10))).trans (Frm.of (same_upd h11))).trans (Frm.of (same_upd h12))).trans (Frm.of (same_upd (o := .lst ((ls.take q ++ [Txt.join " " W2] ++ ls.drop (q + 1)).map V.str)) h13))
      exact ⟨"\n", p13, _, rfl, rfl, .inl (SqL.of upd_same), by rw [e1, sum_wt]; omega, k _ _ (by omega) ((gZ.toT .nil (K := K)).row (by simp) hRL) (fL.trans (gZ.mono (by simp)))⟩
end
end B

set_option Elab.async false
set_option linter.all false
set_option maxRecDepth 100000
set_option maxHeartbeats 4000000
namespace B
open PySem PySem.Spec PyProof.Rows L2
open SX (S)
open TL (tl joinL spl)
abbrev AL2 (K : PySem.W.Frag) : V → V → Hp → Prop := AlStep K (AlStep K (AlStep K fun _ _ _ => False))
theorem al_rows {K : PySem.W.Frag} {H : Hp} {p q : Addr} {xs ys : List (Addr × List Str)} (hp : RZ H p xs) (hq : RZ H q ys) (e : xs.map (·.2) = ys.map (·.2)) (hl : ys.length ≤ 100000) (hw : ∀ y ∈ ys, y.2.length ≤ 100000) : AL2 K (.ref p) (.ref q) H := by
  have le := congrArg List.length e
  rw [List.length_map, List.length_map] at le
  refine .inr ⟨p, q, _, _, rfl, rfl, .inl ⟨hp.1, hq.1⟩, by rw [List.length_map, List.length_map]; exact le, by rw [List.length_map]; exact hl, fun i a b ha hb => ?_⟩
  obtain ⟨x, hx, rfl⟩ := atZ ha
  obtain ⟨y, hy, rfl⟩ := atZ hb
  have exy : x.2 = y.2 := by
    have z := congrArg (fun l => l[i]?) e
    simp only [List.getElem?_map, hx, hy] at z
    exact Option.some.inj z
  have mx := List.mem_of_getElem? hx
  have my := List.mem_of_getElem? hy
  refine .inr ⟨x.1, y.1, _, _, rfl, rfl, .inr ⟨hp.2 x mx, hq.2 y my⟩, by rw [exy], by rw [List.length_map]; exact hw y my, fun j a b ha hb => .inl ?_⟩
  rw [exy, hb] at ha
  obtain rfl := Option.some.inj ha
  obtain ⟨s, _, rfl⟩ := at_map hb
  exact .inr (.inl ⟨s, rfl, rfl⟩)
/-- what was read of the rows rs: a step or None for each -/
def FoundR (H : Hp) (rs : List (List Str)) (fs : List V) : Prop := fs.length = rs.length ∧ ∀ (i : Nat) (r : List Str), rs[i]? = some r → (stepB r = true ∧ ∃ t, fs[i]? = some (V.ref t) ∧ H t = some (.tup (r.map V.str))) ∨ (stepB r = false ∧ fs[i]? = some V.non)
theorem FoundR.keep {H H' : Hp} {rs : List (List Str)} {fs : List V} (h : FoundR H rs fs) (f : ∀ b xs, H b = some (.tup xs) → H' b = some (.tup xs)) : FoundR H' rs fs := ⟨h.1, fun i r hi => by
  rcases h.2 i r hi with ⟨a, t, b, c⟩ | z
  · exact .inl ⟨a, t, b, f _ _ c⟩
  · exact .inr z⟩
/-- all are steps: rows -/
theorem FoundR.rows {H : Hp} : ∀ {rs : List (List Str)} {fs : List V}, FoundR H rs fs → (∀ r ∈ rs, stepB r = true) → ∃ zs : List (Addr × List Str), zs.map (·.2) = rs ∧ fs = zs.map (fun z => V.ref z.1) ∧ ∀ z ∈ zs, H z.1 = some (.tup (z.2.map V.str))
  | [], fs, h, _ => by
    have e : fs = [] := List.length_eq_zero_iff.mp h.1
    exact ⟨[], rfl, e, fun z hz => absurd hz (by simp)⟩
  | r :: rs, [], h, _ => by
    have := h.1
    simp at this
  | r :: rs, f :: fs, h, hr => by
    have h0 := h.2 0 r rfl
    rcases h0 with ⟨_, t, e1, e2⟩ | ⟨z, _⟩
    · obtain ⟨zs, a1, a2, a3⟩ := FoundR.rows (rs := rs) (fs := fs) ⟨by have := h.1; simpa using this, fun i x hi => h.2 (i + 1) x hi⟩ fun x hx => hr x (List.mem_cons_of_mem _ hx)
      refine ⟨(t, r) :: zs, by rw [List.map_cons, a1], by rw [List.map_cons, ← a2]; exact congrArg (· :: fs) (Option.some.inj e1), fun z hz => ?_⟩
      rcases List.mem_cons.mp hz with rfl | hz
      · exact e2
      · exact a3 z hz
    · rw [hr r (by simp)] at z
      cases z
theorem FoundR.nil (H : Hp) : FoundR H [] [] := ⟨rfl, fun i r h => by simp at h⟩
theorem FoundR.snoc {H : Hp} {rs : List (List Str)} {fs : List V} {r : List Str} {v : V} (h : FoundR H rs fs) (hv : (stepB r = true ∧ ∃ t, v = V.ref t ∧ H t = some (.tup (r.map V.str))) ∨ (stepB r = false ∧ v = V.non)) : FoundR H (rs ++ [r]) (fs ++ [v]) := by
  refine ⟨by rw [List.length_append, List.length_append, h.1]; rfl, fun i x hi => ?_⟩
  rcases Nat.lt_or_ge i rs.length with z | z
  · rw [List.getElem?_append_left z] at hi
    rw [List.getElem?_append_left (by rw [h.1]; exact z)]
    exact h.2 i x hi
  · rw [List.getElem?_append_right z] at hi
    rw [List.getElem?_append_right (by rw [h.1]; exact z), h.1]
    have e : i - rs.length = 0 := by
      have := (List.getElem?_eq_some_iff.mp hi).1
      rw [List.length_singleton] at this
      omega
    rw [e] at hi ⊢
    obtain rfl := Option.some.inj hi
    rcases hv with ⟨a, t, b, c⟩ | ⟨a, b⟩
    · exact .inl ⟨a, t, by rw [b]; rfl, c⟩
    · exact .inr ⟨a, by rw [b]; rfl⟩
/-- the law's first bad row is the one that is refused -/
def BadsR (rs : List (List Str)) (i : Nat) (bs : List Nat) : Prop := (bs = [] ∧ ∀ (j : Nat) (y : List Str), j < i → rs[j]? = some y → badB j y = false) ∨ ∃ j tl, bs = j :: tl ∧ FstBad rs j
theorem BadsR.none {rs : List (List Str)} (h : BadsR rs rs.length []) : NoBad rs := by
  rcases h with ⟨_, h⟩ | ⟨_, _, z, _⟩
  · exact fun i x hx => h i x (List.getElem?_eq_some_iff.mp hx).1 hx
  · cases z
theorem dp_nats {K : PySem.W.Frag} {H : Hp} : ∀ bs : List Nat, DpAll K H (bs.map fun n : Nat => V.int n) (bs.map fun n : Nat => PyData.int n)
  | [] => .nil
  | b :: r => .cons (.int _) (dp_nats r)
theorem lay_nats : ∀ bs : List Nat, PyData.canLayAll0 (bs.map fun n : Nat => PyData.int n) = true
  | [] => rfl
  | b :: r => by
    show (true && PyData.canLayAll0 (r.map fun n : Nat => PyData.int n)) = true
    rw [lay_nats r]
    rfl
theorem dep_nats : ∀ bs : List Nat, PyData.depthAll (bs.map fun n : Nat => PyData.int n) = 0
  | [] => rfl
  | b :: r => by
    show max 0 (PyData.depthAll (r.map fun n : Nat => PyData.int n)) = 0
    rw [dep_nats r]
    rfl
theorem shaped_nats (bs : List Nat) : SeqAt.shaped (.list (bs.map fun n : Nat => PyData.int n)) = true := by
  show (PyData.canLayAll0 (bs.map fun n : Nat => PyData.int n) && decide (PyData.depthAll (bs.map fun n : Nat => PyData.int n) + 1 ≤ 64)) = true
  rw [lay_nats, dep_nats]
  rfl
theorem eqv_nats (bs : List Nat) : PyData.eqv (.list (bs.map fun n : Nat => PyData.int n)) (.list []) = bs.isEmpty := by
  cases bs <;> rfl
theorem rep_flat (n : Nat) (x : Str) : (List.replicate n [V.str x]).flatten = (List.replicate n x).map V.str := by
  induction n with
  | zero => rfl
  | succ n ih =>
    rw [List.replicate_succ, List.flatten_cons, ih, List.replicate_succ, List.map_cons]
    rfl
/-- two ways to the same, the heap told -/
theorem ite4 {c : Bool} {A B : Prop} {Pf R : Addr → Hp → Prop} (go : ∀ p H', Pf p H' → R p H') (h1 : (∀ p H', Pf p H' → R p H') → c = true → A) (h2 : (∀ p H', Pf p H' → R p H') → c = false → B) : if c = true then A else B := iteB (h1 go) (h2 go)
theorem fst_one {rs : List (List Str)} {i j : Nat} (h : FstBad rs i) (g : FstBad rs j) : i = j := by
  obtain ⟨⟨x, hx, bx⟩, h2⟩ := h
  obtain ⟨⟨y, hy, cy⟩, g2⟩ := g
  rcases Nat.lt_trichotomy i j with z | z | z
  · rw [g2 i x z hx] at bx
    cases bx
  · exact z
  · rw [h2 j y z hy] at cy
    cases cy
section
variable {P : Program} {w : World} {K : PySem.W.Frag} {mg : Str → Option Value} {base : Heap}
theorem c_lalike (T : Txt P w K mg base) : CalX CX0 P w K mg base 4 "_law_alike" (spAl (AL2 K)) :=
  alike_step T (steady_step (steady_step steady0)) (alike_step T (steady_step steady0) (alike_step T steady0 (alike0 T)))
theorem lam_law : (pd_law, ("law.<locals>.<lambda>" : Str)) ∈ lams := by decide +kernel
def turns (x : Str) (n : Nat) : List Str := List.replicate n x
def some1 : List Str := ["", "\n", "step", "step\n", " step", "step ", "hang 01", "hang  01", "hang", "hang 012", "walk all", "walk"]
def some2 : List Str := ["walk alarm 0", "Step", "off 0 1", "calm " ++ Txt.mul "0" 12, "calm " ++ Txt.mul "0" 13, "turn 0", "hang \n0"]
theorem some12 : ∀ x ∈ some1 ++ some2, x.length ≤ 100 := by decide +kernel
theorem rep0 : PySem.MulOk "0" 13 := ⟨by decide, fun _ _ => by decide +kernel, fun _ _ => by decide +kernel⟩
def some3 : List Str := [Txt.join "\n" (List.replicate 200 ("turn" : Str)), Txt.join "\n" (List.replicate 201 ("turn" : Str)), Txt.join "\n" (List.replicate 200 ("round" : Str) ++ [("x" : Str)])]
theorem some3_len : ∀ x ∈ some3, x.length ≤ 2000 := by
  have wT : wt (List.replicate 201 ("turn" : Str)) ≤ 2000 := by decide +kernel
  have wT2 : wt (List.replicate 200 ("turn" : Str)) ≤ 2000 := by decide +kernel
  have wR : wt (List.replicate 200 ("round" : Str) ++ [("x" : Str)]) ≤ 2000 := by decide +kernel
  intro x hx
  unfold some3 at hx
  simp only [List.mem_cons, List.not_mem_nil, or_false] at hx
  rcases hx with rfl | rfl | rfl
  · exact Nat.le_trans (join_wt tl_nl _) wT2
  · exact Nat.le_trans (join_wt tl_nl _) wT
  · exact Nat.le_trans (join_wt tl_nl _) wR
def someA : List Str := some1 ++ some2 ++ some3
theorem someA_len : ∀ x ∈ someA, x.length ≤ 2000 := fun x hx => by
  rcases List.mem_append.mp hx with h | h
  · exact Nat.le_trans (some12 x h) (by decide)
  · exact some3_len x h
def spLaw (K : PySem.W.Frag) : Sp := fun vs H Q _ => ∃ a : Addr, vs = [.ref a] ∧ Scr K a H ∧ Tb K H ∧ ∀ H', Q (.bl true) H'
theorem law_ok (T : Txt P w K mg base) {fd : FuncData} (F : FunD K d_law.name d_law.qual d_law.params d_law.body d_law.scope (He.DefD.dvs K d_law) (He.DefD.kws K d_law) (He.fAd K d_law.at_) fd) : FnOk P w K mg base CX0 9 (He.fAd K d_law.at_) fd ["_law_script"] (spLaw K) := by
  refine okT (p := pd_law) F sc_law (fun vs H Q E h => ?_) (fun A outer s H vs Q E hr h => ?_)
  · obtain ⟨a, rfl, _⟩ := h
    rfl
  · obtain ⟨a, rfl, hS, ht, k⟩ := h
    have hu := hu_of hr
    refine ⟨_, PSs.nox (pss_cons (ps_set (i := 1) sc_law.nd rfl (Or.inl rfl) (pe_lst (pa_cons (pv 0) (pa_cons pe_int (pa_cons pe_int (pa_cons pe_int pa_nil))))))
    (pss_cons (ps_set (i := 2) sc_law.nd rfl (Or.inl rfl) (pe_lst (pa_cons pe_str (pa_cons pe_str (pa_cons pe_str (pa_cons pe_str (pa_cons pe_str (pa_cons pe_str (pa_cons pe_str (pa_cons pe_str (pa_cons pe_str (pa_cons pe_str (pa_cons pe_str (pa_cons pe_str pa_nil))))))))))))))
    (pss_cons (ps_set (i := 2) sc_law.nd rfl (Or.inl rfl) (pe_op op_cat (pv 2) (pe_lst (pa_cons pe_str (pa_cons pe_str (pa_cons pe_str (pa_cons (pe_op op_add_str pe_str (pe_op op_rep_str pe_str pe_int)) (pa_cons (pe_op op_add_str pe_str (pe_op op_rep_str pe_str pe_int)) (pa_cons pe_str (pa_cons pe_str pa_nil))))))))))
    (pss_cons (ps_set (i := 2) sc_law.nd rfl (Or.inl rfl) (pe_op op_cat (pv 2) (pe_lst (pa_cons (pe_join pe_str (pe_op op_rep (pe_lst (pa_cons pe_str pa_nil)) pe_int)) (pa_cons (pe_join pe_str (pe_op op_rep (pe_lst (pa_cons pe_str pa_nil)) pe_int)) (pa_cons (pe_join pe_str (pe_op op_cat (pe_op op_rep (pe_lst (pa_cons pe_str pa_nil)) pe_int) (pe_lst (pa_cons pe_str pa_nil)))) pa_nil))))))
    (pss_cons (ps_for PassesOwn.never rfl (pi_range1 rfl (n_range T) (pa_cons pe_int pa_nil)) (pg_name (i := 3) sc_law.nd rfl (Or.inl rfl))
      (pss_cons (ps_set (i := 4) sc_law.nd rfl (Or.inl rfl) (pe_join pe_str (pe_lc (own := [("_law_step", 9)]) (g := gName 9) rfl sc_law.nd (pi_list (pe_cx (c_lsteps T) hr (by decide) rfl pass0 (pa_cons (pv 1) (pa_cons pe_int pa_nil)))) (blkOk_by (N := ["_law_script", "_law_row", "_law_some", "_law_turn", "_law_text", "_law_change", "_law_one", "_law_found", "_law_bad", "_law_step", "_law_line", "_law_k"]) (sc := defScope s_law) (own := [("_law_step", 9)]) (by decide +kernel)) (fun _ _ _ _ _ => pg_name (i := 9) sc_law.nd rfl (Or.inl rfl)) (fun _ _ _ _ _ => pts_nil) (fun _ _ _ _ _ => by exact (pe_joinK (K := K) rfl pe_str (pe_callTy (cr_listK (K := K) rfl) (by rfl) (n_list T) (by decide +kernel) (pa_cons (pv 9) pa_nil)))))))
      (pss_cons (ps_for PassesOwn.never rfl (pi_range1 rfl (n_range T) (pa_cons (pe_cx (c_ltaken T) hr (by decide) rfl pass0 (pa_cons (pv 1) (pa_cons pe_int pa_nil))) pa_nil)) (pg_name (i := 5) sc_law.nd rfl (Or.inl rfl))
        (pss_one (ps_set (i := 4) sc_law.nd rfl (Or.inl rfl) (pe_cx (c_lspoilt T) hr (by decide) rfl pass0 (pa_cons (pv 1) (pa_cons (pv 4) pa_nil))))))
      (pss_one (ps_for PassesOwn.never rfl (pi_list (pe_lst (pa_cons (pv 4) (pa_cons (pe_ix ix_list (pv 2) (pe_cx (c_ltaken T) hr (by decide) rfl pass0 (pa_cons (pv 1) (pa_cons pe_int pa_nil))) (fun _ _ => rfl)) pa_nil)))) (pg_name (i := 6) sc_law.nd rfl (Or.inr rfl))
        (pss_cons (ps_set (i := 7) sc_law.nd rfl (Or.inr rfl) (pe_ifExp (pt_cmpR op_ne (pv 6) pe_str (nomark _)) (pe_lc (own := [("_law_line", 10)]) (g := gName 10) rfl sc_law.nd (pi_list (pe_split (pv 6) pe_str)) (blkOk_by (N := ["_law_script", "_law_row", "_law_some", "_law_turn", "_law_text", "_law_change", "_law_one", "_law_found", "_law_bad", "_law_step", "_law_line", "_law_k"]) (sc := defScope s_law) (own := [("_law_line", 10)]) (by decide +kernel)) (fun _ _ _ _ _ => pg_name (i := 10) sc_law.nd rfl (Or.inl rfl)) (fun _ _ _ _ _ => pts_nil) (fun _ _ _ _ _ => by exact (pe_cx (c_lread T) hr (by decide) rfl pass0 (pa_cons (pv 10) pa_nil)))) (pe_lst pa_nil)))
        (pss_cons (ps_setLc (i := 8) (own := [("_law_k", 11)]) (g := gName 11) rfl sc_law.nd rfl rfl (sw_true rfl rfl rfl (by decide +kernel)) (pi_range1 rfl (n_range T) (pa_cons (pe_callB call_len_seq (by rfl) (n_len T) PySem.boot_len (pa_cons (pv 7) pa_nil)) pa_nil)) (blkOk_by (N := ["_law_script", "_law_row", "_law_some", "_law_turn", "_law_text", "_law_change", "_law_one", "_law_found", "_law_bad", "_law_step", "_law_line", "_law_k"]) (sc := defScope s_law) (own := [("_law_k", 11)]) (by decide +kernel)) (fun _ _ _ _ _ => pg_name (i := 11) sc_law.nd rfl (Or.inl rfl)) (fun _ _ _ _ _ => pts_one (by exact (PW.pt (pw_or (pt_cmpR op_isN (pe_ix (ix_seqK (K := K) rfl) (pv 7) (pv 11) (fun _ _ => rfl)) pe_non (nomark _)) (pw_or1 (pt_cmpR op_gt (pv 11) pe_int (nomark _))))))) (fun _ _ _ _ _ => by exact (pv 11)))
        (pss_one (ps_if (pt_cmpR (op_neD hr.units) (pv 8) (pe_lst pa_nil) (nomark _))
          (pss_one (ps_if (pt_cmpR (op_neD hr.units) (pe_word0 (k := 5) T rfl rfl (fun _ _ _ _ _ _ => rfl) (T.tb pd_law (by decide +kernel)) rfl (hr.mono (by decide)) (lamP_by (N := ["_law_script", "_law_row", "_law_some", "_law_turn", "_law_text", "_law_change", "_law_one", "_law_found", "_law_bad", "_law_step", "_law_line", "_law_k"]) (sc := defScope s_law) (by decide +kernel)) (fun _ _ _ _ _ _ _ hr => (pe_cx (c_read T) hr (by decide) rfl (passes_call (takes_of rfl rfl rfl rfl) (fun _ _ _ _ h => h)) (pa_cons (pv 6) pa_nil))) rfl) (pe_tup (pa_cons pe_str (pa_cons (pe_ix ix_list (pv 8) pe_int (fun _ _ => rfl)) pa_nil))) (nomark _))
            (pss_one (ps_ret pe_bl))
            pss_nil))
          (pss_one (ps_if (pt_not (pt_val (pe_cx (c_lalike T) hr (by decide) rfl pass0 (pa_cons (pe_cx (c_read T) hr (by decide) rfl (passes_call (E := fun _ _ _ => False) L2.takes0 (fun _ _ _ _ h => h)) (pa_cons (pv 6) pa_nil)) (pa_cons (pv 7) pa_nil)))))
            (pss_one (ps_ret pe_bl))
            pss_nil)))))))))))
    (pss_one (ps_ret pe_bl))))))), ?_⟩
    refine ⟨_, rfl, by show 4 ≤ sizeLine; decide, fun r hr0 => ?_⟩
    have hR0 : RowAt r a (upd H r (.lst [.ref a, .int 0, .int 0, .int 0])) := ⟨0, 0, 0, upd_same, by decide⟩
    have f0 : Frm [] H (upd H r (.lst [.ref a, .int 0, .int 0, .int 0])) := Frm.of (same_upd hr0)
    revert hR0 f0
    generalize (upd H r (.lst [.ref a, .int 0, .int 0, .int 0])) = H0
    intro hR0 f0
    -- the odd texts
    refine ⟨by show 12 ≤ sizeLine; decide, fun s1 h1 => ?_⟩
    refine ⟨_, rfl, "0", 12, rfl, rfl, rep12, "calm ", _, rfl, rfl, by decide +kernel, "0", 13, rfl, rfl, rep0, "calm ", _, rfl, rfl, by decide +kernel, by show 7 ≤ sizeLine; decide, fun s2 h2 => ?_⟩
    refine ⟨s1, s2, _, _, rfl, rfl, same_upd h2 _ _ upd_same, upd_same, by show 19 ≤ sizeLine; decide, fun s3 h3 => ?_⟩
    have m3 : Frm [] H0 _ := ((Frm.of (same_upd h1)).trans (Frm.of (same_upd h2))).trans (Frm.of (same_upd (o := .lst (some1.map V.str ++ some2.map V.str)) h3))
    have e3 := frm_last m3
    refine ⟨_, rfl, ⟨_, rfl⟩, by show 1 ≤ sizeLine; decide, fun q1 k1 => ?_⟩
    refine ⟨q1, 200, _, rfl, rfl, upd_same, by decide, by decide, by show 1 * 200 ≤ sizeLine; decide, fun q2 k2 => ?_⟩
    refine ⟨"\n", q2, List.replicate 200 ("turn" : Str), rfl, rfl, .inl (SqL.of (by rw [upd_same, show (200 : Int).toNat = 200 from rfl, rep_flat])), by decide +kernel, ?_⟩
    refine ⟨⟨_, rfl⟩, by show 1 ≤ sizeLine; decide, fun q3 k3 => ?_⟩
    refine ⟨q3, 201, _, rfl, rfl, upd_same, by decide, by decide, by show 1 * 201 ≤ sizeLine; decide, fun q4 k4 => ?_⟩
    refine ⟨"\n", q4, List.replicate 201 ("turn" : Str), rfl, rfl, .inl (SqL.of (by rw [upd_same, show (201 : Int).toNat = 201 from rfl, rep_flat])), by decide +kernel, ?_⟩
    refine ⟨⟨_, rfl⟩, by show 1 ≤ sizeLine; decide, fun q5 k5 => ?_⟩
    refine ⟨q5, 200, _, rfl, rfl, upd_same, by decide, by decide, by show 1 * 200 ≤ sizeLine; decide, fun q6 k6 => ?_⟩
    refine ⟨by show 1 ≤ sizeLine; decide, fun q7 k7 => ?_⟩
    refine ⟨q6, q7, (List.replicate 200 ("round" : Str)).map V.str, _, rfl, rfl, same_upd k7 _ _ (by rw [upd_same, show (200 : Int).toNat = 200 from rfl, rep_flat]), upd_same, by rw [List.length_map, List.length_replicate]; show 201 ≤ sizeLine; decide, fun q8 k8 => ?_⟩
    refine ⟨"\n", q8, List.replicate 200 ("round" : Str) ++ [("x" : Str)], rfl, rfl, .inl (SqL.of (by rw [upd_same, List.map_append]; rfl)), by decide +kernel, ?_⟩
    refine ⟨by show 3 ≤ sizeLine; decide, fun q9 k9 => ?_⟩
    have m9 : Frm [] H0 _ := ((((((((m3.trans (Frm.of (same_upd k1))).trans (Frm.of (same_upd k2))).trans (Frm.of (same_upd k3))).trans (Frm.of (same_upd k4))).trans (Frm.of (same_upd k5))).trans (Frm.of (same_upd k6))).trans (Frm.of (same_upd k7))).trans (Frm.of (same_upd k8))).trans (Frm.of (same_upd (o := .lst (some3.map V.str)) k9))
    have e9 := frm_last m9
    have e39 := (((((((((Frm.of (same_upd k1)).trans (Frm.of (same_upd k2))).trans (Frm.of (same_upd k3))).trans (Frm.of (same_upd k4))).trans (Frm.of (same_upd k5))).trans (Frm.of (same_upd k6))).trans (Frm.of (same_upd k7))).trans (Frm.of (same_upd k8))).trans (Frm.of (S := []) (same_upd (o := .lst (some3.map V.str)) k9))).k _ _ e3 rfl (by simp)
    refine ⟨s3, q9, some1.map V.str ++ some2.map V.str, some3.map V.str, rfl, rfl, e39, e9, by show 22 ≤ sizeLine; decide, fun s6 k10 => ?_⟩
    have mS : Frm [] H0 _ := m9.trans (Frm.of (same_upd (o := .lst (some1.map V.str ++ some2.map V.str ++ some3.map V.str)) k10))
    show (fun x H1 => gName 2 x _ H1 _) _ (upd _ s6 (.lst (some1.map V.str ++ some2.map V.str ++ some3.map V.str)))
    refine gen_top mS ?_
    clear mS e39 e9 m9 k10 k9 k8 k7 k6 k5 k4 k3 k2 k1 e3 m3 h3 h2 h1
    intro HS gS eS
    have eS : HS s6 = some (.lst (someA.map V.str)) := by
      rw [eS]
      unfold someA
      rw [List.map_append, List.map_append]
    have hRS : RowAt r a HS := (gS.toT .nil (K := K)).row (by simp) hR0
    have fbS : FrT K [] H HS := (f0.trans gS).toT .nil
    have nsr : s6 ≠ r := fun e => by
      obtain ⟨ii, mm, bb, er, _⟩ := hRS
      rw [e, er] at eS
      cases eS
    refine ⟨6, rfl, by decide, by decide, ?_⟩
    refine for_range (lo := 0) (n := (6 : Int).toNat) (fun i σ H' => ∃ (v3 v4 v5 v6 v7 v8 v9 v10 v11 : Option V), σ = [some (.ref a), some (.ref r), some (.ref s6), v3, v4, v5, v6, v7, v8, v9, v10, v11] ∧ RowAt r a H' ∧ H' s6 = some (.lst (someA.map V.str)) ∧ FrT K [] H H')
      ⟨none, none, none, none, none, none, none, none, none, rfl, hRS, eS, fbS⟩ ?_ ?_
    · rintro i σ H1 hi ⟨v3, v4, v5, v6, v7, v8, v9, v10, v11, rfl, hR1, eS1, fb1⟩
      refine ⟨⟨_, rfl⟩, _, rfl, r, a, 14, rfl, hR1, fb1.scr .nil hS, by decide, by decide, fun q zs H2 rz2 good zl hq hzn hR2 f2 => ?_⟩
      have fb2 := fb1.fresh (f2.toT hR1.nl) (by simpa using hr0)
      have eS2 := f2.k _ _ eS1 rfl (by simpa using nsr)
      have zl14 : zs.length ≤ 14 := by omega
      refine ⟨q, rfl, ⟨_, SqL.of rz2.1⟩, fun D hD => ?_⟩
      refine lc_list (K := K) (a := q) (xs := zs.map fun z => V.ref z.1) (fun j H' => H' D = some (.lst (((zs.take j).map fun z => rowS z.2).map V.str)) ∧ FrT K [] H2 H') ⟨upd_same, (Frm.of (same_upd hD)).toT .nil⟩ (fun j H' _ ⟨_, f⟩ => SqL.of (rz2.keep0 f).1) ?_ ?_
      · rintro j x H' hj ⟨hD', f⟩
        obtain ⟨z, hz, rfl⟩ := atZ hj
        have hm := List.mem_of_getElem? hz
        have wz := step_words (good z hm)
        refine ⟨rfl, ⟨_, rfl⟩, _, rfl, z.1, _, rfl, .inr (SqT.of ((rz2.keep0 f).2 z hm)), fun l hl => ?_⟩
        have nDl : D ≠ l := ne_of_none hD' hl
        refine ⟨" ", l, z.2, rfl, rfl, .inl (SqL.of upd_same), ?_, ?_⟩
        · have := sum_le (f := fun x : Str => x.length) fun x hx => (wz.2.2 x hx).1
          have e1 : (" " : Str).length = 1 := by decide +kernel
          rw [e1]
          have := wz.2.1
          omega
        · refine ⟨_, by rw [upd_ne nDl]; exact hD', by rw [List.length_map, List.length_map, List.length_take]; exact szLt (by omega), ?_, (f.trans ((Frm.of (same_upd hl)).toT .nil)).putN hD (by rw [upd_ne nDl]; exact hD')⟩
          rw [upd_same, List.take_add_one, hz, List.map_append, List.map_append]
          rfl
      rintro H3 ⟨hD3, f3⟩
      rw [List.length_map, List.take_length] at hD3
      have e0 : (zs.map fun z => rowS z.2) = (zs.map (·.2)).map rowS := by
        rw [List.map_map]
        rfl
      rw [e0] at hD3
      have hall : ∀ r ∈ zs.map (·.2), stepB r = true := fun r hr => by
        obtain ⟨z, hz, rfl⟩ := List.mem_map.mp hr
        exact good z hz
      refine ⟨"\n", D, (zs.map fun z : Addr × List Str => z.2).map rowS, rfl, rfl, .inl (SqL.of hD3), ?_, ?_⟩
      · have := rows_sum hall
        have e1 : ("\n" : Str).length = 1 := by decide +kernel
        rw [List.length_map] at this
        rw [e1, List.length_map, List.length_map]
        omega
      have hR3 := f3.row (by simp) hR2
      have fb3 := fb2.trans f3
      have eS3 := f3.k _ _ eS2 rfl (by simp)
      have tl0 : (textR (zs.map (·.2))).length ≤ 434 := by
        have := text_len hall
        rw [List.length_map] at this
        omega
      refine ⟨_, rfl, r, a, 4, rfl, hR3, fb3.scr .nil hS, by decide, by decide, fun m H4 m0 m1 hR4 f4 => ?_⟩
      have fb4 := fb3.fresh (f4.toT hR3.nl) (by simpa using hr0)
      have eS4 := f4.k _ _ eS3 rfl (by simpa using nsr)
      refine ⟨m, rfl, by omega, by omega, ?_⟩
      refine for_range (lo := 0) (n := m.toNat) (fun j σ H' => ∃ (v5 : Option V) (t : Str), σ = [some (.ref a), some (.ref r), some (.ref s6), some (.int (0 + (i : Int))), some (.str t), v5, v6, v7, v8, v9, v10, v11] ∧ t.length + 40 ≤ 600 * 4 ^ j ∧ RowAt r a H' ∧ H' s6 = some (.lst (someA.map V.str)) ∧ FrT K [] H H')
        ⟨_, textR (zs.map (·.2)), rfl, by omega, hR4, eS4, fb4⟩ ?_ ?_
      · rintro j σ H5 hj ⟨v5', t, rfl, tl, hR5, eS5, fb5⟩
        have j3 : j < 3 := by omega
        have p4 : 4 ^ j ≤ 16 := by
          have : j = 0 ∨ j = 1 ∨ j = 2 := by omega
          rcases this with rfl | rfl | rfl <;> decide
        refine ⟨_, rfl, _, rfl, r, a, t, rfl, hR5, fb5.scr .nil hS, by omega, fun t' H6 tl' hR6 f6 => ?_⟩
        exact ⟨_, t', rfl, by rw [Nat.pow_succ]; omega, hR6, f6.k _ _ eS5 rfl (by simpa using nsr), fb5.fresh (f6.toT hR5.nl) (by simpa using hr0)⟩
      rintro σ H5 ⟨v5', t, rfl, tl, hR5, eS5, fb5⟩
      have p4 : 4 ^ m.toNat ≤ 64 := by
        have : m.toNat = 0 ∨ m.toNat = 1 ∨ m.toNat = 2 ∨ m.toNat = 3 := by omega
        rcases this with e | e | e | e <;> (rw [e]; decide)
      have tl5 : t.length ≤ 100000 := by omega
      -- the two texts
      refine ⟨_, rfl, _, rfl, _, rfl, r, a, 22, rfl, hR5, fb5.scr .nil hS, by decide, by decide, fun v H6 w0 w1 hR6 f6 => ?_⟩
      have fb6 := fb5.fresh (f6.toT hR5.nl) (by simpa using hr0)
      have eS6 := f6.k _ _ eS5 rfl (by simpa using nsr)
      obtain ⟨o, ho, hat⟩ := at_strs (xs := someA) w0 (by show v < ((someA.length : Nat) : Int); rw [show someA.length = 22 by decide +kernel]; exact w1)
      refine ⟨s6, _, v, .str o, rfl, rfl, SqL.of eS6, hat, by show 2 ≤ sizeLine; decide, fun L hL => ?_⟩
      have gL : Frm [] H6 (upd H6 L (.lst [.str t, .str o])) := Frm.of (same_upd hL)
      have eL : (upd H6 L (.lst [.str t, .str o])) L = some (.lst ([t, o].map V.str)) := upd_same
      revert gL eL
      generalize (upd H6 L (.lst [.str t, .str o])) = H7
      intro gL eL
      have fb7 := fb6.trans (gL.toT .nil)
      have hR7 := (gL.toT .nil (K := K)).row (by simp) hR6
      have eS7 := gL.k _ _ eS6 rfl (by simp)
      refine ⟨L, rfl, ⟨_, SqL.of eL⟩, ?_⟩
      refine for_list (K := K) (a := L) (xs := [t, o].map V.str) (fun j σ H' => ∃ (v6 v7 v8 : Option V), σ = [some (.ref a), some (.ref r), some (.ref s6), some (.int (0 + (i : Int))), some (.str t), v5', v6, v7, v8, v9, v10, v11] ∧ FrT K [] H7 H')
        ⟨_, _, _, rfl, FrT.refl _ _ _⟩ (fun j σ H' _ ⟨_, _, _, _, f⟩ => SqL.of (f.k _ _ eL rfl (by simp))) ?_ ?_
      · rintro j y σ H8 hj ⟨v6', v7', v8', rfl, f8⟩
        obtain ⟨x, hx, rfl⟩ := at_map hj
        have xl : x.length ≤ 100000 := by
          have := List.mem_of_getElem? hx
          simp only [List.mem_cons, List.not_mem_nil, or_false] at this
          rcases this with rfl | rfl
          · exact tl5
          · exact Nat.le_trans (someA_len _ ho) (by decide)
        refine ⟨_, rfl, rfl, _, rfl, ?_⟩
        rw [str_dec]
        have e1 : ("\n" : Str).length = 1 := by decide +kernel
        refine @ite4 _ _ _ (fun p H' => ∃ fs, H8 p = none ∧ H' p = some (.lst fs) ∧ FoundR H' (rowsT x) fs ∧ Frm [] H8 H') ?R ?go ?h1 ?h2
        case h1 =>
          intro go c
          have xne : ¬ x.length = 0 := fun z => by
            have : x = "" := TL.ext_tl (by rw [(TL.len0_tl x).mp z]; decide +kernel)
            rw [this] at c
            simp at c
          have lt : Txt.split x "\n" = linesT x := by
            unfold linesT
            rw [if_neg xne]
          refine ⟨_, rfl, ⟨_, rfl⟩, x, "\n", rfl, rfl, by rw [e1]; rfl, Nat.le_trans (show x.length + 2 ≤ 100002 by omega) (by decide), fun p hp => ?_⟩
          rw [lt]
          have gp : Frm [] H8 (upd H8 p (.lst ((linesT x).map V.str))) := Frm.of (same_upd hp)
          have ep : (upd H8 p (.lst ((linesT x).map V.str))) p = some (.lst ((linesT x).map V.str)) := upd_same
          revert gp ep
          generalize (upd H8 p (.lst ((linesT x).map V.str))) = H9
          intro gp ep
          have ll : ∀ l ∈ linesT x, l.length ≤ 100000 := fun l hl2 => by
            rw [← lt] at hl2
            exact Nat.le_trans (split_le tl_nl (by decide +kernel) l hl2) xl
          have lcn : (linesT x).length ≤ 100001 := by
            rw [← lt]
            exact Nat.le_trans (split_cnt tl_nl (by decide +kernel)) (by omega)
          refine ⟨p, rfl, ⟨_, SqL.of ep⟩, fun D hD => ?_⟩
          refine lc_list (K := K) (a := p) (xs := (linesT x).map V.str) (fun j H' => ∃ fs, H' D = some (.lst fs) ∧ FoundR H' ((rowsT x).take j) fs ∧ Frm [] H9 H') ⟨[], upd_same, by rw [List.take_zero]; exact FoundR.nil _, Frm.of (same_upd hD)⟩ (fun j H' _ ⟨_, _, _, f⟩ => SqL.of (f.k _ _ ep rfl (by simp))) ?_ ?_
          · rintro j y H' hj2 ⟨fs, hD', fr, f⟩
            obtain ⟨l, hl2, rfl⟩ := at_map hj2
            have hm := List.mem_of_getElem? hl2
            have jl := (List.getElem?_eq_some_iff.mp hl2).1
            have hrow : (rowsT x)[j]? = some (Txt.split l " ") := by
              unfold rowsT
              rw [List.getElem?_map, hl2]
              rfl
            have fl : fs.length ≤ 100001 := by
              rw [fr.1, List.length_take]
              omega
            have fin : ∀ (v : V) (H'' : Hp), ((stepB (Txt.split l " ") = true ∧ ∃ t, v = V.ref t ∧ H'' t = some (.tup ((Txt.split l " ").map V.str))) ∨ (stepB (Txt.split l " ") = false ∧ v = V.non)) → Frm [] H' H'' → ∃ acc, H'' D = some (.lst acc) ∧ acc.length < sizeLine ∧ ∃ fs, (upd H'' D (.lst (acc ++ [v]))) D = some (.lst fs) ∧ FoundR (upd H'' D (.lst (acc ++ [v]))) ((rowsT x).take (j + 1)) fs ∧ Frm [] H9 (upd H'' D (.lst (acc ++ [v]))) := fun v H'' hv g => by
              have hD2 := g.k _ _ hD' rfl (by simp)
              refine ⟨fs, hD2, szLt (by omega), fs ++ [v], upd_same, ?_, (f.trans g).new hD⟩
              rw [List.take_add_one, hrow]
              exact ((fr.keep fun b xs e => g.k _ _ e rfl (by simp)).snoc hv).keep fun b xs e => by
                rw [upd_ne (ne_of e hD2 (by intro z; cases z))]
                exact e
            exact ⟨rfl, _, rfl, l, rfl, ll l hm, fun st t H'' _ e g => fin _ H'' (.inl ⟨st, t, rfl, e⟩) g, fun st H'' g => fin _ H'' (.inr ⟨st, rfl⟩) g⟩
          · rintro H' ⟨fs, hD', fr, f⟩
            have e4 : (rowsT x).take ((linesT x).map V.str).length = rowsT x := List.take_of_length_le (by unfold rowsT; rw [List.length_map, List.length_map]; exact Nat.le_refl _)
            rw [e4] at fr
            exact go D H' ⟨fs, gp.b _ hD, hD', fr, gp.trans f⟩
        case h2 =>
          intro go c
          have xe : x = "" := by simpa using c
          refine ⟨Nat.zero_le _, fun p hp => ?_⟩
          refine go p _ ⟨[], hp, upd_same, ?_, Frm.of (same_upd hp)⟩
          have : rowsT x = [] := by
            rw [xe]
            decide +kernel
          rw [this]
          exact FoundR.nil _
        case go =>
          rintro p H9 ⟨fs, hp0, hp9, fr9, g9⟩
          have rl : (rowsT x).length ≤ 100001 := by
            have : (rowsT x).length = (linesT x).length := by unfold rowsT; rw [List.length_map]
            rw [this]
            unfold linesT
            split
            · exact Nat.zero_le _
            · exact Nat.le_trans (split_cnt tl_nl (by decide +kernel)) (by omega)
          have fl : fs.length = (rowsT x).length := fr9.1
          refine ⟨_, rfl, p, fs, rfl, .inl (SqL.of hp9), (fs.length : Int), rfl, by omega, by omega, fun D hD => ?_⟩
          have npD : p ≠ D := ne_of_none hp9 hD
          refine lc_range (lo := 0) (n := ((fs.length : Nat) : Int).toNat) (fun j H' => ∃ bs : List Nat, H' D = some (.lst (bs.map fun n : Nat => V.int n)) ∧ bs.length ≤ j ∧ BadsR (rowsT x) j bs ∧ Frm [] H9 H')
            ⟨[], upd_same, Nat.zero_le _, .inl ⟨rfl, fun j y z => absurd z (Nat.not_lt_zero _)⟩, Frm.of (same_upd hD)⟩ ?_ ?_
          · rintro j H' hj2 ⟨bs, hD', bl, hb, f⟩
            have jf : j < fs.length := by omega
            have jr : j < (rowsT x).length := by omega
            have hr : (rowsT x)[j]? = some (rowsT x)[j] := List.getElem?_eq_getElem jr
            have hp' := f.k _ _ hp9 rfl (by simp)
            have go : (bs = [] → badB j (rowsT x)[j] = true) → ∃ acc, H' D = some (.lst acc) ∧ acc.length < sizeLine ∧ ∃ bs' : List Nat, (upd H' D (.lst (acc ++ [V.int (0 + (j : Int))]))) D = some (.lst (bs'.map fun n : Nat => V.int n)) ∧ bs'.length ≤ j + 1 ∧ BadsR (rowsT x) (j + 1) bs' ∧ Frm [] H9 (upd H' D (.lst (acc ++ [V.int (0 + (j : Int))]))) := fun c => by
              refine ⟨_, hD', by rw [List.length_map]; exact szLt (by omega), bs ++ [j], ?_, by rw [List.length_append, List.length_singleton]; omega, ?_, f.new hD⟩
              · rw [upd_same, List.map_append]
                show some (HO.lst (_ ++ [V.int (0 + (j : Int))])) = some (HO.lst (_ ++ [V.int (j : Int)]))
                rw [Int.zero_add]
              · rcases hb with ⟨rfl, hb⟩ | ⟨j0, tl0, rfl, hb⟩
                · refine .inr ⟨j, [], rfl, ⟨_, hr, ?_⟩, hb⟩
                  exact c rfl
                · exact .inr ⟨j0, tl0 ++ [j], rfl, hb⟩
            have no : badB j (rowsT x)[j] = false → ∃ bs : List Nat, H' D = some (.lst (bs.map fun n : Nat => V.int n)) ∧ bs.length ≤ j + 1 ∧ BadsR (rowsT x) (j + 1) bs ∧ Frm [] H9 H' := fun c => by
              refine ⟨bs, hD', by omega, ?_, f⟩
              rcases hb with ⟨rfl, hb⟩ | hb
              · refine .inl ⟨rfl, fun k y hk hy => ?_⟩
                rcases Nat.lt_or_eq_of_le (Nat.le_of_lt_succ hk) with z | z
                · exact hb k y z hy
                · subst z
                  rw [hr] at hy
                  cases hy
                  exact c
              · exact .inr hb
            rcases fr9.2 j _ hr with ⟨sb, t0, hv, _⟩ | ⟨sb, hv⟩
            · refine ⟨rfl, _, rfl, _, rfl, .inl ⟨p, fs, 0 + (j : Int), .ref t0, rfl, rfl, SqL.of hp', atI_nat' hv, rfl, _, rfl, ?_⟩⟩
              rw [decide_eq_false (show ¬ V.ref t0 = V.non from fun z => by cases z)]
              refine ⟨_, rfl, 0 + (j : Int), 199, rfl, rfl, _, rfl, ?_⟩
              refine iteB (fun c => ?_) (fun c => ?_)
              · have j199 : 199 < j := by have := of_decide_eq_true c; omega
                refine ⟨_, rfl, go fun e => ?_⟩
                rcases hb with ⟨_, hb⟩ | ⟨_, _, z, _⟩
                · rcases Nat.lt_or_ge 200 j with z | z
                  · have q := hb 200 (rowsT x)[200] z (List.getElem?_eq_getElem (by omega))
                    unfold badB at q
                    rw [decide_eq_true rfl] at q
                    cases q
                  · unfold badB
                    rw [decide_eq_true (show j = 200 by omega)]
                    rfl
                · rw [e] at z
                  cases z
              · have j199 : ¬ 199 < j := fun z => of_decide_eq_false c (by omega)
                refine no ?_
                unfold badB
                rw [decide_eq_false (by omega), sb]
                rfl
            · refine ⟨rfl, _, rfl, _, rfl, .inl ⟨p, fs, 0 + (j : Int), .non, rfl, rfl, SqL.of hp', atI_nat' hv, rfl, _, rfl, ?_⟩⟩
              rw [decide_eq_true (show V.non = V.non from rfl)]
              refine ⟨_, rfl, go fun _ => ?_⟩
              unfold badB
              rw [sb, Bool.not_false, Bool.or_true]
          · rintro H10 ⟨bs, hD', bl, hb, f⟩
            have ej : ((fs.length : Nat) : Int).toNat = (rowsT x).length := by omega
            rw [ej] at hb bl
            have hp10 := f.k _ _ hp9 rfl (by simp)
            have fb10 : FrT K [] H H10 := (fb7.trans f8).trans ((g9.trans f).toT .nil)
            have f710 : FrT K [] H7 H10 := f8.trans ((g9.trans f).toT .nil)
            have fr10 := fr9.keep fun b xs e => f.k _ _ e rfl (by simp)
            refine ⟨_, rfl, Nat.zero_le _, fun p2 hp2 => ?_⟩
            have g11 : Frm [] H10 (upd H10 p2 (.lst [])) := Frm.of (same_upd hp2)
            have d11 := g11.k _ _ hD' rfl (by simp)
            refine ⟨_, _, .lst (SqL.of d11) (dp_nats bs), .lst (SqL.of upd_same) .nil, shaped_nats bs, by decide +kernel, _, rfl, ?_⟩
            rw [eqv_nats]
            have f711 := f710.trans (g11.toT .nil (K := K))
            have fb11 := fb10.trans (g11.toT .nil)
            have fr11 := fr10.keep fun b xs e => g11.k _ _ e rfl (by simp)
            have hp11 := g11.k _ _ hp10 rfl (by simp)
            revert d11 f711 fb11 fr11 hp11
            generalize (upd H10 p2 (.lst [])) = H11
            intro d11 f711 fb11 fr11 hp11
            cases bs with
            | cons j0 tl0 =>
              have fbad : FstBad (rowsT x) j0 := by
                rcases hb with ⟨z, _⟩ | ⟨j1, t1, z, hb⟩
                · cases z
                · cases z
                  exact hb
              have ht11 := fb11.t ht
              have eq : ((cxOf CX0 P w K mg base ["_law_script", "_law_row", "_law_some", "_law_turn", "_law_text", "_law_change", "_law_one", "_law_found", "_law_bad", "_law_step", "_law_line", "_law_k"] d_law.qual d_law.scope (He.fAd K pd_law) (Value.ref (He.codeOf K pd_law)) A outer s H E).env.qual ++ ("<lambda>" : Str) : Str) = "law.<locals>.<lambda>" := by kernel_rfl
              refine ⟨by rw [eq]; exact ht11.2 _ (tl_mem lam_law), fun H12 g1 g2 g3 => ?_⟩
              rw [eq] at g3
              obtain ⟨f12, ht12⟩ := tb_grow T lam_law ht11 g1 g2 g3
              refine ⟨_, rfl, x, rfl, xl, ht12, fun nb => (nobad_fst nb fbad).elim, fun j1 fj d H13 f13 e13 => ?_⟩
              obtain rfl := fst_one fj fbad
              refine refd_BadText T e13 fun p6 H14 f14 e14 => ?_
              have f1114 := (f12.trans f13).trans (f14.toT .nil (K := K))
              have d14 := f1114.k _ _ d11 rfl (by simp)
              refine ⟨_, rfl, D, _, 0, .int (j1 : Int), rfl, rfl, SqL.of d14, atI_nat (j := 0) rfl, by show 2 ≤ sizeLine; decide, fun p7 hp7 => ?_⟩
              have g15 : Frm [] H14 (upd H14 p7 (.tup [.str "text", .int (j1 : Int)])) := Frm.of (same_upd hp7)
              refine ⟨.tuple [.str "text", .int (j1 : Int)], .tuple [.str "text", .int (j1 : Int)], .tup (SqT.of (g15.k _ _ e14 rfl (by simp))) (.cons (.str _) (.cons (.int _) .nil)), .tup (SqT.of upd_same) (.cons (.str _) (.cons (.int _) .nil)), shaped_si "text" j1 (by decide +kernel), shaped_si "text" j1 (by decide +kernel), _, rfl, ?_⟩
              rw [eqv_si "text" j1 (by decide +kernel)]
              exact ⟨_, _, _, rfl, f711.trans (f1114.trans (g15.toT .nil))⟩
            | nil =>
              have nb := hb.none
              obtain ⟨zs0, z1, z2, z3⟩ := fr11.rows nb.all
              have rzf : RZ H11 p zs0 := ⟨by rw [hp11, z2], z3⟩
              refine ⟨_, rfl, x, rfl, xl, fb11.t ht, fun _ q2 zs2 H12 e2 hq2 hz2 rz2 f12 => ?_, fun i fb => (nobad_fst nb fb).elim⟩
              have l2 := nb.le
              have ls : zs0.length ≤ 200 := by
                have := congrArg List.length z1
                rw [List.length_map] at this
                omega
              refine ⟨_, rfl, _, _, rfl, al_rows rz2 (rzf.keep0 f12) (by rw [e2, z1]) (by omega) (fun y hy => ?_), fun H13 f13 => ⟨true, rfl, ?_⟩⟩
              · have : y.2 ∈ rowsT x := by
                  rw [← z1]
                  exact List.mem_map.mpr ⟨y, hy, rfl⟩
                have := (step_words (nb.all _ this)).2.1
                omega
              exact ⟨_, _, _, rfl, (f711.trans f12).trans (f13.toT .nil)⟩
      · rintro σ H8 ⟨v6', v7', v8', rfl, f8⟩
        exact ⟨_, _, _, _, _, _, _, _, _, rfl, f8.row (by simp) hR7, f8.k _ _ eS7 rfl (by simp), fb7.trans f8⟩
    · rintro σ H1 ⟨v3, v4, v5, v6, v7, v8, v9, v10, v11, rfl, hR1, _, fb⟩
      exact k _
end
end B

set_option Elab.async false
set_option linter.all false
set_option maxRecDepth 100000
set_option maxHeartbeats 4000000
namespace B
open PySem PySem.Spec PyProof.Rows L2
abbrev cs (K : PySem.W.Frag) : List (Addr × Addr) := tf.map (He.cT K)
theorem law_at {w : World} {mg : Str → Option Value} {fa0 : Addr} {h : Heap} {K : PySem.W.Frag} (KX : K.In h) (G : h.Ns mainGlobals mg) (hmg : mg ("law" : Str) = some (.ref fa0)) (c : He.SaysX fa fn [] tf ex w h K) (hcs : ∀ d ∈ fs, fnS K d.at_ = sVal d) :
    LamX.LawAtS PySem.Challenge.rw_busfind_k20_texts_refused w K CX0 9 63 "_law_script" mg fa0 h := by
  obtain ⟨fd, F⟩ := c.t.d.def_ 11 (d := d_law)
  have e := hmg.symm.trans (He.glo_ok KX G (c.t.d.fact 11))
  cases e
  have b := FunD.bindsA (ps := ["_law_script"]) F fun _ _ _ _ _ _ us hl => match us, hl with | [_], _ => rfl
  have cm : ∀ {p : Addr × Addr}, p ∈ cs K → ∃ q ∈ tf, p = He.cT K q := fun hp => by
    obtain ⟨q, hq, e⟩ := List.mem_map.mp hp
    exact ⟨q, hq, e.symm⟩
  refine ⟨fd, cs K, spLaw K, fun p hp => ?_, fun p hp => ?_, fun p hp => ?_, fun s u => b s [u] rfl, fun H a ns hl _ hT hS => ?_, fun base X2 G2 tb => ?_⟩
  · obtain ⟨q, hq, rfl⟩ := cm hp
    exact c.empty q hq
  · obtain ⟨q, hq, rfl⟩ := cm hp
    exact c.out q hq
  · obtain ⟨q, hq, rfl⟩ := cm hp
    exact PySem.W.codeHd_of_K KX (c.hd q hq)
  · exact ⟨a, rfl, ⟨ns, hS⟩, tb_empty hT, fun _ => rfl⟩
  · have T : Txt (PySem.Challenge.rw_busfind_k20_texts_refused).prog w K mg base := ⟨X2, G2, c.t.d, c.more, fun p hp => tb (He.cT K p) (List.mem_map.mpr ⟨p, hp, rfl⟩), hcs, rfl⟩
    exact law_ok T F
end B

set_option Elab.async false
set_option linter.all false
set_option maxRecDepth 100000
open PySem PySem.W PySem.Calls PyProof.Rows
set_option maxHeartbeats 0 in
theorem PySem.Challenge.cw_busfind_k20_texts_refused_holds : PySem.Challenge.rw_busfind_k20_texts_refused.Holds := by
  w_on; o_law
  refine HandSHeadRun.head_any (r := B.R) (q := view B.R.prog [38]) (H := B.hk) (ob := B.ob) (M := 6000) (loose := B.names) (d := HandSHeadRun.topDef B.R.prog 38) (kwd := []) B.ob_eq (by kernel_rfl) (fun s => by kernel_rfl) B.run (by kernel_rfl) (by kernel_rfl) (by kernel_rfl) (by rfl) (by first | assumption | decide +kernel) (by decide +kernel) ⟨rfl, rfl, rfl, rfl, rfl, by decide +kernel⟩ ?hw ?hc
  case hw => w_witness2
  case hc =>
    refine LamX.walk_ofTsE (l := PySem.Challenge.rw_busfind_k20_texts_refused) (n := 63) (k := 9) (x := "_law_script") (CX := fun _ => L2.CX0) rfl (by decide) (by kernel_rfl) ⟨rfl, by decide, by decide⟩ ?F (fun _ _ _ _ _ z => z)
    intro w mg fa h Y G hmg0
    obtain ⟨K, KX, c, cs⟩ := Y
    have hmg : mg ("law" : PySem.Str) = some (.ref fa) := by
      have e : (HandSHeadRun.topDef B.R.prog 38).name = ("law" : PySem.Str) := by kernel_rfl
      rw [← e]
      exact hmg0
    exact ⟨K, KX, B.law_at KX G hmg c cs⟩
